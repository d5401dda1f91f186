import PyProof.Rows.All
import Wide.All
import OpenK.AllK
import Wide.FinOn
import Lean
import PyProof.EqAt
import PyProof.EqKinds
import PyProof.NeKinds
import PyProof.TupleCall
import KE.KIntText
import PySem.Challenge.RW_roofridges_k49_texts_shown_and_read
set_option Elab.async false
set_option linter.all false
set_option maxRecDepth 100000
set_option maxHeartbeats 4000000
namespace L2
open PySem PySem.Spec PyProof.Rows
abbrev Key:=Sum Int Str
def aC7:Key→Value→Bool
 | .inl k,v=>Value.isInt k v
 | .inr x,v=>Value.isStrOf x v
def keyH (w:World):Key→Int
 | .inl k=>hashInt k
 | .inr x=>hashStr w x
theorem cU:∀ {k:Key}{v:Value},aC7 k v=true→(∃ i t,k=Sum.inl i∧v=Value.int i t)∨(∃ x t,k=Sum.inr x∧v=Value.str x t)
 | .inl i,v,h=>by
  obtain ⟨t,e⟩:=Value.isInt_shape (k:=i) (v:=v) h
  exact .inl ⟨i,t,rfl,e⟩
 | .inr x,v,h=>by
  obtain ⟨t,e⟩:=Value.isStrOf_shape (x:=x) (v:=v) h
  exact .inr ⟨x,t,rfl,e⟩
theorem aGF (a b:Int):decide ((Sum.inl a:Key)=Sum.inl b)=(a == b):=by
 by_cases e:a=b
 ·subst e; simp
 ·have h:¬ (Sum.inl a:Key)=Sum.inl b:=fun q=>e (Sum.inl.inj q)
  rw [decide_eq_false h]
  exact (beq_eq_false_iff_ne.mpr e).symm
theorem aFV (a b:Str):decide ((Sum.inr a:Key)=Sum.inr b)=decide (a=b):=by
 by_cases e:a=b
 ·subst e; simp
 ·have h:¬ (Sum.inr a:Key)=Sum.inr b:=fun q=>e (Sum.inr.inj q)
  rw [decide_eq_false h,decide_eq_false e]
theorem aGG (a:Int) (b:Str):decide ((Sum.inl a:Key)=Sum.inr b)=false:=decide_eq_false (fun q=>nomatch q)
theorem aGS (a:Str) (b:Int):decide ((Sum.inr a:Key)=Sum.inl b)=false:=decide_eq_false (fun q=>nomatch q)
def pV (prog:Program) (w:World):PySem.KeyKind prog w Key where
 is:=aC7
 hash:=keyH w
 inj:=fun v a b ha hb=>by
  rcases cU ha with ⟨i,t,rfl,rfl⟩ | ⟨x,t,rfl,rfl⟩
  ·rcases cU hb with ⟨j,u,rfl,e⟩ | ⟨y,u,rfl,e⟩
   ·injection e with e1 _; rw [e1]
   ·exact nomatch e
  ·rcases cU hb with ⟨j,u,rfl,e⟩ | ⟨y,u,rfl,e⟩
   ·exact nomatch e
   ·injection e with e1 _; rw [e1]
 byValue:=fun k v h=>by
  rcases cU h with ⟨i,t,rfl,rfl⟩ | ⟨x,t,rfl,rfl⟩ <;> rfl
 pyHash:=fun hv h=>by
  rcases cU hv with ⟨i,t,rfl,rfl⟩ | ⟨x,t,rfl,rfl⟩
  ·exact wpAny_pyHash_int h
  ·exact wpAny_pyHash_str h
 eqBool:=fun hu hv h=>by
  rcases cU hu with ⟨i,t,rfl,rfl⟩ | ⟨x,t,rfl,rfl⟩
  ·rcases cU hv with ⟨j,u,rfl,rfl⟩ | ⟨y,u,rfl,rfl⟩
   ·rw [aGF] at h; exact wpAny_eqBool_int h
   ·rw [aGG] at h; exact SeqAt.EqAt.int_str i t y u _ _ _ _ h
  ·rcases cU hv with ⟨j,u,rfl,rfl⟩ | ⟨y,u,rfl,rfl⟩
   ·rw [aGS] at h; exact SeqAt.EqAt.str_int x t j u _ _ _ _ h
   ·rw [aFV] at h; exact wpAny_eqBool_str h
 «strs» := fun k x t v h=>by
  rcases cU h with ⟨i,u,rfl,e⟩ | ⟨y,u,rfl,e⟩
  ·exact nomatch e
  ·injection e with e1 _
   subst e1
   cases v <;> rfl
inductive V where
 | non | bl (b:Bool) | int (i:Int) | str (x:Str) | byt (b:Array UInt8) | flt (b:UInt64) | ref (a:Addr) | ty (n:String)
 deriving DecidableEq
def RelV:V→Value→Prop
 | .non,u=>u=Value.none
 | .bl b,u=>u=Value.bool b
 | .int i,u=>∃ t,u=Value.int i t
 | .str x,u=>∃ t,u=Value.str x t
 | .byt b,u=>∃ t,u=Value.bytes b t
 | .flt b,u=>∃ t,u=Value.float b t
 | .ref a,u=>u=Value.ref a
 | .ty n,u=>u=Value.type n
abbrev Vals:List V→List Value→Prop:=Paired RelV
theorem Vals.length {xs:List V}{us:List Value} (r:Vals xs us):xs.length=us.length:=Paired.length r
theorem Vals.get:∀ {xs:List V}{us:List Value}{i:Nat}{x:V},Vals xs us→xs[i]?=some x→∃ u,us[i]?=some u∧RelV x u
 | _,_,_,_, .nil,e=>by simp at e
 | _,_,0,_, .cons r _,e=>by simp at e; subst e; exact ⟨_,rfl,r⟩
 | _,_,i+1,x, .cons _ t,e=>by
  obtain ⟨u,h1,h2⟩:=Vals.get (i:=i) (x:=x) t (by simpa using e)
  exact ⟨u,by simpa using h1,h2⟩
theorem Vals.set {x:V}{u:Value} (r:RelV x u):∀ {xs:List V}{us:List Value} (i:Nat),Vals xs us→Vals (xs.set i x) (us.set i u)
 | _,_,_, .nil => .nil
 | _,_,0, .cons _ t => .cons r t
 | _,_,i+1, .cons q t => .cons q (Vals.set r i t)
theorem Vals.append:∀ {xs ys:List V}{us ws:List Value},Vals xs us→Vals ys ws→Vals (xs++ys) (us++ws)
 | _,_,_,_, .nil,s=>s
 | _,_,_,_, .cons r t,s => .cons r (Vals.append t s)
theorem Vals.take:∀ {xs:List V}{us:List Value} (n:Nat),Vals xs us→Vals (xs.take n) (us.take n)
 | _,_,0,_ => .nil
 | _,_,_+1, .nil => .nil
 | _,_,n+1, .cons r t => .cons r (Vals.take n t)
theorem Vals.drop:∀ {xs:List V}{us:List Value} (n:Nat),Vals xs us→Vals (xs.drop n) (us.drop n)
 | _,_,0,r=>r
 | _,_,_+1, .nil => .nil
 | _,_,n+1, .cons _ t=>Vals.drop n t
def RelO:Option V→Option Value→Prop
 | some v,some u=>RelV v u
 | none,none=>True
 | _,_=>False
def KV {κ:Type}:List (κ × V)→List (κ × Value)→Prop:=Paired fun (p:κ × V) (q:κ × Value)=>p.1=q.1∧RelV p.2 q.2
def kV:Key→V
 | .inl i => .int i
 | .inr x => .str x
inductive HO where
 /-- a list -/
 | lst (xs:List V)
 /-- a tuple (never changes) -/
 | tup (xs:List V)
 /-- a dict whose keys are ints and texts; one whose keys are tuples of ints and texts (the empty one is both) -/
 | dK (kvs:List (Key × V)) | dT (kvs:List (List Key × V))
 /-- a set of ints: its members,its size -/
 | set (S:Int→Bool) (n:Nat)
 /-- an instance of the class at C,its dict at dx,its attributes -/
 | ins (C dx:Addr) (fs:List (Str × V))
 /-- the dict of the instance at x -/
 | own (x:Addr)
 /-- the dict of an exception -/
 | xd (fs:List (Str × V))
 /-- a bound method,f of x -/
 | met (f x:Addr)
 /-- a range object lo,lo+1, .. below hi -/
 | rng (lo hi:Int)
 /-- a thing that is known to the object (the script; a dict while a loop walks it): read,never written while it is so -/
 | frz (o:Obj) (u:HO)
 /-- a code object's table -/
 | tbl (ps:Array Value)
 /-- any other thing,by what is true of its one object (a def of one's own: SetO a S n:=HO.ext fun h => ..) -/
 | ext (φ:Heap→Prop)
abbrev Hp:=Addr→Option HO
def upd (H:Hp) (a:Addr) (o:HO):Hp:=fun b=>if b=a then some o else H b
theorem bP {H:Hp}{a:Addr}{o:HO}:upd H a o a=some o:=by unfold upd; rw [if_pos rfl]
theorem bB {H:Hp}{a b:Addr}{o:HO} (h:b≠a):upd H a o b=H b:=by unfold upd; rw [if_neg h]
theorem bX {H:Hp}{a b:Addr}{o:HO} (h:H a=some o) (h':H b=none):a≠b:=by
 intro e; subst e; rw [h] at h'; cases h'
section
variable (P:Program) (w:World)
def fA (H:Hp) (h:Heap) (a:Addr):HO→Prop
 | .lst xs=>xs.length≤sizeLine∧∃ (its:List Value) (n:Nat),Vals xs its∧h.get? a=some { cls := .type "list", data := .seq its.toArray n }
 | .tup xs=>xs.length≤sizeLine∧∃ its:List Value,Vals xs its∧IsTup h a its.toArray
 | .dK kvs=>kvs.length≤sizeLine∧(a == sysModules)=false∧∃ vs,KV kvs vs∧h.DictOf (pV P w) a vs
 | .dT kvs=>kvs.length≤sizeLine∧(a == sysModules)=false∧∃ xs:List (List Key × Addr × Value),
   Paired (fun (p:List Key × V) (q:List Key × Addr × Value)=>p.1=q.1∧H q.2.1=some (.tup (p.1.map kV))∧RelV p.2 q.2.2) kvs xs ∧
   ∃ o es ep,h.get? a=some o∧o.ExactDict∧o.data = .dict es ep∧es.toList=xs.map (entryOfKey (tupleKind (pV P w)))∧(xs.map (·.1)).Nodup
 | .set S n=>h.SetOf (intKind P w) a S n
 | .ins C dx fs=>H dx=some (.own a)∧fs.length≤1000∧dx≠a∧h.get? a=some (PySem.W.instObj C dx) ∧
   ∃ mA,h.Ns1 dx mA∧(∀ f,RelO (fs.lookup f) (mA f))∧PySem.Within mA (fs.map (·.1))
 | .own _=>∃ o,h.get? a=some o
 | .xd fs=>∃ mA,h.Ns1 a mA∧∀ f,RelO (fs.lookup f) (mA f)
 | .rng lo hi=>∃ t u v,h.get? a=some { cls := .type "range", data := .fields #[.int lo t, .int hi u, .int 1 v] }
 | .frz o u=>h.get? a=some o∧fA H h a u
 | .tbl ps=>h.get? a=some { cls := .none,data := .fields ps }
 | .met f x=>h.get? a=some (PySem.W.methodObj (.ref f) (.ref x))
 | .ext φ=>φ h∧(∃ o,h.get? a=some o)∧∀ h1 h2:Heap,φ h1→(∀ o,h1.get? a=some o→h2.get? a=some o)→φ h2
def HOk (H:Hp) (h:Heap):Prop:=∀ a o,H a=some o→fA P w H h a o
end
section
variable {P:Program}{w:World}{H H':Hp}{h h':Heap}{a:Addr}{o:HO}
theorem fA.lt (x:fA P w H h a o):a < h.objs.size:=by
 cases o with
 | lst xs=>obtain ⟨_,_,_,_,e⟩:=x; exact Heap.lt_size e
 | tup xs=>obtain ⟨_,_,_,p⟩:=x; exact p.lt
 | dK kvs=>obtain ⟨_,_,_,_,o,_,_,e,_⟩:=x; exact Heap.lt_size e
 | dT kvs=>obtain ⟨_,_,_,_,o,_,_,e,_⟩:=x; exact Heap.lt_size e
 | set S n=>obtain ⟨o,_,_,_,e,_⟩:=x; exact Heap.lt_size e
 | ins C dx fs=>obtain ⟨_,_,_,e,_⟩:=x; exact Heap.lt_size e
 | own y=>obtain ⟨_,e⟩:=x; exact Heap.lt_size e
 | xd fs=>obtain ⟨_,⟨_,_,_,e,_⟩,_⟩:=x; exact Heap.lt_size e
 | rng lo hi=>obtain ⟨_,_,_,e⟩:=x; exact Heap.lt_size e
 | frz ob u=>obtain ⟨e,_⟩:=x; exact Heap.lt_size e
 | tbl ps=>exact Heap.lt_size (show h.get? a=some _ from x)
 | met f y=>exact Heap.lt_size (show h.get? a=some _ from x)
 | ext φ=>obtain ⟨_,⟨_,e⟩,_⟩:=x; exact Heap.lt_size e
theorem Paired.mapP {α β:Type}{F G:α→β→Prop}:∀ {l₁:List α}{l₂:List β},Paired F l₁ l₂→(∀ a b,F a b→G a b)→Paired G l₁ l₂
 | _,_, .nil,_ => .nil
 | _,_, .cons r t,f => .cons (f _ _ r) (Paired.mapP t f)
theorem fA.stay (x:fA P w H h a o) (k:∀ b u,(b=a∨H b=some (.own a))→h.get? b=some u→h'.get? b=some u)
  (ho:∀ b,H b=some (.own a)→H' b=some (.own a)) (ht:∀ b xs,H b=some (.tup xs)→H' b=some (.tup xs)):fA P w H' h' a o:=by
 induction o with
 | lst xs=>obtain ⟨z,its,n,r,e⟩:=x; exact ⟨z,its,n,r,k _ _ (.inl rfl) e⟩
 | tup xs=>obtain ⟨z,its,r,ob,e,c⟩:=x; exact ⟨z,its,r,ob,k _ _ (.inl rfl) e,c⟩
 | dK kvs=>obtain ⟨z,y,vs,r,ob,es,ep,e,c⟩:=x; exact ⟨z,y,vs,r,ob,es,ep,k _ _ (.inl rfl) e,c⟩
 | dT kvs =>
  obtain ⟨z,y,xs,r,ob,es,ep,e,c⟩:=x
  exact ⟨z,y,xs,Paired.mapP r fun p q z=>⟨z.1,ht _ _ z.2.1,z.2.2⟩,ob,es,ep,k _ _ (.inl rfl) e,c⟩
 | set S n=>obtain ⟨ob,es,ep,t,e,c⟩:=x; exact ⟨ob,es,ep,t,k _ _ (.inl rfl) e,c⟩
 | ins C dx fs =>
  obtain ⟨d,z,ne,e,mA,⟨od,es,ep,e2,c⟩,r⟩:=x
  exact ⟨ho _ d,z,ne,k _ _ (.inl rfl) e,mA,⟨od,es,ep,k _ _ (.inr d) e2,c⟩,r⟩
 | own y=>obtain ⟨ob,e⟩:=x; exact ⟨ob,k _ _ (.inl rfl) e⟩
 | xd fs=>obtain ⟨mA,⟨od,es,ep,e,c⟩,r⟩:=x; exact ⟨mA,⟨od,es,ep,k _ _ (.inl rfl) e,c⟩,r⟩
 | rng lo hi=>obtain ⟨t,u,v,e⟩:=x; exact ⟨t,u,v,k _ _ (.inl rfl) e⟩
 | frz ob u ih=>obtain ⟨e,q⟩:=x; exact ⟨k _ _ (.inl rfl) e,ih q⟩
 | tbl ps =>
  have e:h.get? a=some { cls := .none,data := .fields ps }:=x
  show h'.get? a=some { cls := .none,data := .fields ps }
  exact k a _ (.inl rfl) e
 | met f y =>
  have e:h.get? a=some (PySem.W.methodObj (.ref f) (.ref y)):=x
  show h'.get? a=some (PySem.W.methodObj (.ref f) (.ref y))
  exact k a _ (.inl rfl) e
 | ext φ=>obtain ⟨p,⟨o,e⟩,st⟩:=x; exact ⟨st _ _ p fun o q=>k _ _ (.inl rfl) q,⟨o,k _ _ (.inl rfl) e⟩,st⟩
theorem HOk.lt (x:HOk P w H h) (e:H a=some o):a < h.objs.size:=(x a o e).lt
theorem HOk.fresh (x:HOk P w H h) (e:h.objs.size≤a):H a=none:=by
 cases q:H a with
 | none=>rfl
 | some u=>exact absurd (Nat.lt_of_lt_of_le (x.lt q) e) (Nat.lt_irrefl _)
theorem HOk.kept (x:HOk P w H h) (k:∀ b u,h.get? b=some u→h'.get? b=some u):HOk P w H h':=fun a o e =>
 (x a o e).stay (fun b u _ q=>k b u q) (fun _ q=>q) fun _ _ q=>q
theorem HOk.laid (x:HOk P w H h) (k:∀ b u,h.get? b=some u→h'.get? b=some u) (hp:h.objs.size≤a) (new:fA P w (upd H a o) h' a o):HOk P w (upd H a o) h':=fun b u e=>by
 have hn:=x.fresh hp
 by_cases hb:b=a
 ·subst hb; rw [bP] at e; cases e; exact new
 ·rw [bB hb] at e
  exact (x b u e).stay (fun c v _ q=>k c v q) (fun c q=>by rw [bB (bX q hn)]; exact q) fun c xs q=>by rw [bB (bX q hn)]; exact q
end
def Rd (H:Hp) (a:Addr) (u:HO):Prop:=H a=some u∨∃ o,H a=some (.frz o u)
theorem Rd.ok {P:Program}{w:World}{H:Hp}{h:Heap}{a:Addr}{u:HO} (r:Rd H a u) (x:HOk P w H h):fA P w H h a u:=by
 rcases r with r | ⟨o,r⟩
 ·exact x a u r
 ·obtain ⟨_,q⟩:=x a _ r
  exact q
def Mut:Option HO→Prop
 | some (.lst _)=>True
 | some (.dK _)=>True
 | some (.dT _)=>True
 | some (.set _ _)=>True
 | some (.ins _ _ _)=>True
 | some (.ext _)=>True
 | _=>False
section
variable {P:Program}{w:World}{H:Hp}{h h':Heap}{x e:Addr}{o':HO}
theorem HOk.write (ok:HOk P w H h) (mu:Mut (H x)) (he:e=x∨H e=some (.own x)) (k:∀ b u,b≠e→h.get? b=some u→h'.get? b=some u) (heo:∃ u,h'.get? e=some u)
  (new:fA P w (upd H x o') h' x o'):HOk P w (upd H x o') h':=fun b u q=>by
 have nown:∀ c y,H c=some (.own y)→c≠x:=fun c y r z=>by subst z; rw [r] at mu; exact mu
 have ntup:∀ c xs,H c=some (.tup xs)→c≠x:=fun c xs r z=>by subst z; rw [r] at mu; exact mu
 by_cases hb:b=x
 ·subst hb; rw [bP] at q; cases q; exact new
 ·rw [bB hb] at q
  by_cases hbe:b=e
  ·have q':H b=some (.own x):=by
    rcases he with z | z
    ·exact absurd (hbe.trans z) hb
    ·rw [hbe]; exact z
   rw [q] at q'; cases q'
   obtain ⟨v,hv⟩:=heo
   exact ⟨v,by rw [hbe]; exact hv⟩
  ·refine (ok b u q).stay (fun c v hc r=>k c v ?_ r) (fun c r=>by rw [bB (nown c b r)]; exact r) fun c xs r=>by rw [bB (ntup c xs r)]; exact r
   rcases hc with rfl | hc
   ·exact hbe
   ·rintro rfl
    rcases he with z | z
    ·exact nown c b hc z
    ·rw [hc] at z; cases z; exact hb rfl
end
structure Un (fs ex:List Addr) (H H':Hp) (h h':Heap):Prop where
 keep:∀ b o,h.get? b=some o→H b=none→b ∉ fs→b ∉ ex→h'.get? b=some o
 slot:∀ b o,h.get? b=some o→H b=none→b∈fs→b ∉ ex→∃ sl,h'.get? b=some { o with slots:=sl }
 free:∀ b o,h.get? b=some o→H b=none→b ∉ ex→H' b=none
 there:∀ b o,h.get? b=some o→b ∉ ex→∃ o',h'.get? b=some o'
 tups:∀ b xs,H b=some (.tup xs)→H' b=some (.tup xs)
 frzs:∀ b o u,H b=some (.frz o u)→H' b=some (.frz o u)
 tbls:∀ b ps,H b=some (.tbl ps)→∃ more,H' b=some (.tbl (ps++more))
section
variable {fs fs' ex ex':List Addr}{H H1 H2:Hp}{h h1 h2 h':Heap}{a x e:Addr}{o:HO}
theorem Un.any (u:Un fs ex H H1 h h1) {b:Addr}{ob:Obj} (q:h.get? b=some ob) (n:H b=none) (hx:b ∉ ex):∃ sl,h1.get? b=some { ob with slots:=sl }:=by
 by_cases hb:b∈fs
 ·exact u.slot b ob q n hb hx
 ·exact ⟨ob.slots,u.keep b ob q n hb hx⟩
theorem Un.kept (k:∀ b u,h.get? b=some u→h'.get? b=some u):Un fs ex H H h h' :=
 ⟨fun b ob q _ _ _=>k b ob q,fun b ob q _ _ _=>⟨ob.slots,k b ob q⟩,fun _ _ _ n _=>n,fun b ob q _=>⟨ob,k b ob q⟩,fun _ _ q=>q,fun _ _ _ q=>q,fun _ ps q=>⟨#[],by rw [q]; simp⟩⟩
theorem Un.refl:Un fs ex H H h h:=Un.kept fun _ _ q=>q
theorem Un.laid (k:∀ b u,h.get? b=some u→h'.get? b=some u) (hp:h.objs.size≤a) (hn:H a=none):Un fs ex H (upd H a o) h h' where
 keep:=fun b u q _ _ _=>k b u q
 slot:=fun b u q _ _ _=>⟨u.slots,k b u q⟩
 free:=fun b u q n _=>by rw [bB (Nat.ne_of_lt (Nat.lt_of_lt_of_le (Heap.lt_size q) hp))]; exact n
 there:=fun b u q _=>⟨u,k b u q⟩
 tups:=fun b xs q=>by rw [bB (bX q hn)]; exact q
 frzs:=fun b u xs q=>by rw [bB (bX q hn)]; exact q
 tbls:=fun b ps q=>⟨#[],by rw [bB (bX q hn),q]; simp⟩
theorem Un.write (mu:Mut (H x)) (he:e=x∨H e=some (.own x)) (k:∀ b u,b≠e→h.get? b=some u→h'.get? b=some u) (heo:∃ u,h'.get? e=some u):Un fs ex H (upd H x o) h h':=by
 have hx:∀ b,H b=none→b≠x:=fun b n z=>by subst z; rw [n] at mu; exact mu
 have hb:∀ b,H b=none→b≠e:=fun b n z=>by
  subst z
  rcases he with r | r
  ·exact hx b n r
  ·rw [n] at r; cases r
 have hm:∀ b u,H b=some u→¬ Mut (some u)→b≠x:=fun b u q nm z=>by subst z; rw [q] at mu; exact nm mu
 refine ⟨fun b u q n _ _=>k b u (hb b n) q,fun b u q n _ _=>⟨u.slots,k b u (hb b n) q⟩,fun b u q n _=>by rw [bB (hx b n)]; exact n,fun b u q _ => ?_,
  fun b xs q=>by rw [bB (hm b _ q fun z=>z)]; exact q,fun b u xs q=>by rw [bB (hm b _ q fun z=>z)]; exact q,fun b ps q=>⟨#[],by rw [bB (hm b _ q fun z=>z),q]; simp⟩⟩
 by_cases hbe:b=e
 ·subst hbe; exact heo
 ·exact ⟨u,k b u hbe q⟩
end
def trk (h:Heap) (H:Hp):List Addr:=(List.range h.objs.size).filter fun a=>(H a).isSome
def lC (h:Heap) (H:Hp):Heap:=PySem.W.hideAll h (trk h H)
theorem zU (h:Heap) (H:Hp):(lC h H).objs.size=h.objs.size:=PySem.W.hideAll_size _ _
theorem aA6 {h:Heap}{H:Hp}{b:Addr}{o:Obj} (e:h.get? b=some o) (n:H b=none):(lC h H).get? b=some o :=
 PySem.W.hideAll_get _ e fun hm=>by
  have q:(H b).isSome=true:=(List.mem_filter.mp hm).2
  rw [n] at q; simp at q
theorem aFE {h:Heap}{H:Hp}{b:Addr}{o:Obj} (e:(lC h H).get? b=some o):h.get? b=some o∧H b=none:=by
 have e':h.get? b=some o:=PySem.W.of_hideAll (trk h H) e
 refine ⟨e',?_⟩
 cases q:H b with
 | none=>rfl
 | some x =>
  have hm:b∈trk h H:=List.mem_filter.mpr ⟨List.mem_range.mpr (Heap.lt_size e'),by simp [q]⟩
  have z:(lC h H).get? b=none:=PySem.W.hideAll_none (trk h H) hm
  rw [z] at e; cases e
def aDK (g h:Heap) (L:Addr):List (Addr × Obj):=(List.range h.objs.size).filterMap fun a=>if a=L∨(g.get? a).isSome=true then none else (h.get? a).map fun o=>(a,o)
def rest (g h:Heap) (L d:Addr):List (Addr × Obj):=(aDK g h L).filter fun p=>decide (p.1≠d)
end L2
namespace L2
open PySem PySem.Spec PyProof.Rows
structure Mod (K:PySem.W.Frag) (mg:Str→Option Value) (base:Heap):Prop where
 kin:K.In base
 glob:base.Ns mainGlobals mg
 blt:∃ mb,base.Ns builtinsNs mb∧∀ x:Str,x ≠ "__name__" → mb x=bootBuiltins x
 nolimit:base.NoLimit
/-- the context: a def's body (or a comprehension's block) running. base: fixed through the whole law; s₀,H₀: the entry; outer: the frames whose slots others may change (a def's callers); stack: all frames that run;
   ex: iterators that were made ahead of the entry and are walked here (a comprehension's); fn: the names whose cells were made at the entry (a def: all; a comprehension's block: its own); calm: not within an except suite; pn: pins that every state bears; xe: what is wanted of an exception that leaves the code -/
structure Cx where
 prog:Program
 w:World
 K:PySem.W.Frag
 mg:Str→Option Value
 base:Heap
 A:Around
 N:List Str
 s₀:Shared
 H₀:Hp
 env:Env
 outer:List Env
 stack:List Env
 ex:List Addr
 fn:Str→Bool
 calm:Bool
 pn:List (Addr × Obj)
 xe:Value→Shared→Prop
def frs (l:List Env):List Addr:=l.filterMap (·.frame)
abbrev Cx.fs (X:Cx):List Addr:=frs X.outer
def Vis (sc:Scope) (x:Str):Prop:=sc.names.lookup x=some .local∨sc.names.lookup x=some .cell∨sc.names.lookup x=some .free
def Loc (sc:Scope) (x:Str):Prop:=sc.names.lookup x=some .local∨sc.names.lookup x=some .cell
def Look (env:Env) (h:Heap) (m:Str→Option Value) (x:Str) (u:Value):Prop :=
 (env.kindOf x=some .local∧m x=some u)∨((env.kindOf x=some .cell∨env.kindOf x=some .free)∧∃ c,env.cells.lookup x=some c∧h.IsCell c (some u))
structure Cx.Ok (X:Cx):Prop where
 mod:Mod X.K X.mg X.base
 kind:X.env.scope.kind = .function
 glob:X.env.globals=mainGlobals
 blt:X.env.builtins=builtinsNs
 above:X.s₀.heap.objs.size≤X.env.locals
 inj:∀ x y c,X.env.cells.lookup x=some c→X.env.cells.lookup y=some c→x=y
 has:∀ x,(X.env.kindOf x=some .cell∨X.env.kindOf x=some .free)→∃ c,X.env.cells.lookup x=some c
 cab:∀ x c,X.fn x=true→X.env.cells.lookup x=some c→X.s₀.heap.objs.size≤c
 hd:X.calm=true→X.A.handled=none
 frames:X.A.frames=some X.stack
 stk:X.stack=X.outer∨(X.stack=X.env::X.outer∧X.env.frame=some X.env.locals)
 exf:∀ b∈X.ex,b≠X.env.locals∧∀ x c,X.env.cells.lookup x=some c→c≠b
 bs:∀ b o,X.base.get? b=some o→X.s₀.heap.get? b=some o∧X.H₀ b=none
 bsz:X.base.objs.size≤X.s₀.heap.objs.size
 noex:∀ b o,X.base.get? b=some o→b ∉ X.ex
 exfs:∀ b∈X.ex,b ∉ X.fs
 funs:X.s₀.heap.FunFrames X.base X.outer
 frf:∀ b∈X.fs,X.H₀ b=none
structure Inv (X:Cx) (pins:List (Addr × Obj)) (σ:List (Option V)) (H:Hp) (s:Shared):Prop where
 ok:X.Ok
 os:s.os=X.s₀.os
 bare:AllBare s.gens
 base:Un X.fs X.ex X.H₀ H X.s₀.heap s.heap
 loc:∃ m,s.heap.Ns X.env.locals m∧∀ (i:Nat) (x:Str) (v:V),X.N[i]?=some x→σ[i]?=some (some v)→Vis X.env.scope x→∃ u,RelV v u∧Look X.env s.heap m x u
 cell:∀ x c,X.env.cells.lookup x=some c→∃ v,s.heap.IsCell c v
 free:H X.env.locals=none
 freeC:∀ x c,X.env.cells.lookup x=some c→H c=none
 pin:∀ p∈X.pn++pins,s.heap.get? p.1=some p.2∧H p.1=none∧p.1≠X.env.locals∧p.1 ∉ X.fs∧∀ v,p.2.data ≠ .cell v
 hok:HOk X.prog X.w H s.heap
 len:σ.length=X.N.length
section
variable {X:Cx}{pins:List (Addr × Obj)}{σ:List (Option V)}{H H':Hp}{s:Shared}{h':Heap}
theorem Cx.Ok.nofr (ok:X.Ok) {b:Addr}{o:Obj} (e:X.base.get? b=some o):b ∉ X.fs:=fun hb=>by
 have:=(ok.funs.mem hb).1
 rw [e] at this; cases this
theorem Inv.bs (I:Inv X pins σ H s):∀ b o,X.base.get? b=some o→s.heap.get? b=some o∧H b=none:=fun b o e =>
 ⟨I.base.keep b o (I.ok.bs b o e).1 (I.ok.bs b o e).2 (I.ok.nofr e) (I.ok.noex b o e),I.base.free b o (I.ok.bs b o e).1 (I.ok.bs b o e).2 (I.ok.noex b o e)⟩
theorem Inv.bk (I:Inv X pins σ H s):∀ b o,X.base.get? b=some o→s.heap.get? b=some o:=fun b o e=>(I.bs b o e).1
theorem Inv.mod (I:Inv X pins σ H s):Mod X.K X.mg X.base:=I.ok.mod
theorem Inv.kIn (I:Inv X pins σ H s):X.K.In s.heap:=I.ok.mod.kin.keeps I.bk
theorem Inv.lt (I:Inv X pins σ H s):X.env.locals < s.heap.objs.size:=let ⟨_,hn,_⟩:=I.loc; hn.lt
theorem Inv.sz (I:Inv X pins σ H s):X.s₀.heap.objs.size≤s.heap.objs.size:=Nat.le_trans I.ok.above (Nat.le_of_lt I.lt)
theorem Inv.nofs (I:Inv X pins σ H s) {a:Addr} (h:s.heap.objs.size≤a):a ∉ X.fs:=fun hb=>by
 obtain ⟨_,o,ho,_⟩:=I.ok.funs.mem hb
 exact absurd (Nat.lt_of_lt_of_le (Heap.lt_size ho) (Nat.le_trans I.sz h)) (Nat.lt_irrefl _)
theorem Inv.cne (I:Inv X pins σ H s):∀ x c,X.env.cells.lookup x=some c→c≠X.env.locals:=fun x c e z=>by
 obtain ⟨v,o,ho,hd⟩:=I.cell x c e
 obtain ⟨m,⟨o',es,ep,ho',hd',_⟩,_⟩:=I.loc
 rw [z,ho'] at ho; cases ho; rw [hd'] at hd; cases hd
theorem Inv.funs (I:Inv X pins σ H s):s.heap.FunFrames X.base X.outer:=by
 have all:∀ (l:List Env),(∀ b∈frs l,b∈X.fs)→X.s₀.heap.FunFrames X.base l→s.heap.FunFrames X.base l:=by
  intro l
  induction l with
  | nil=>intro _ _; trivial
  | cons env r ih =>
   intro hs hl
   obtain ⟨hk,⟨L,o,hf,hn,ho,hd⟩,hr⟩:=hl
   have hL:L∈X.fs:=hs L (by unfold frs; rw [List.filterMap_cons,hf]; exact List.mem_cons_self)
   obtain ⟨sl,e⟩:=I.base.slot L o ho (I.ok.frf L hL) hL fun z=>I.ok.exfs L z hL
   exact ⟨hk,⟨L,_,hf,hn,e,hd⟩,ih (fun b hb=>hs b (by unfold frs; rw [List.filterMap_cons,hf]; exact List.mem_cons_of_mem _ hb)) hr⟩
 exact all X.outer (fun _ hb=>hb) I.ok.funs
theorem Inv.stack (I:Inv X pins σ H s):s.heap.FunFrames X.base X.stack:=by
 rcases I.ok.stk with e | ⟨e,hf⟩
 ·rw [e]; exact I.funs
 ·rw [e]
  obtain ⟨m,hn,_⟩:=I.loc
  refine .cons (by rw [I.ok.kind]; decide) hf hn ?_ I.funs
  exact Heap.get?_none_of_le (Nat.le_trans I.ok.bsz I.ok.above)
theorem Inv.stkSub (I:Inv X pins σ H s):∀ b∈frs X.stack,b∈X.env.locals::X.fs:=fun b hb=>by
 rcases I.ok.stk with e | ⟨e,hf⟩
 ·rw [e] at hb; exact List.mem_cons_of_mem _ hb
 ·rw [e] at hb
  unfold frs at hb
  rw [List.filterMap_cons,hf] at hb
  exact hb
theorem Inv.stkFree (I:Inv X pins σ H s):∀ b∈frs X.stack,H b=none:=fun b hb=>by
 rcases List.mem_cons.mp (I.stkSub b hb) with e | hb
 ·rw [e]; exact I.free
 ·obtain ⟨_,o,ho,_⟩:=I.ok.funs.mem hb
  exact I.base.free b o ho (I.ok.frf b hb) fun z=>I.ok.exfs b z hb
theorem Inv.step {g':Array GenState}{t':Nat}{d':Drawn}{ch:List Addr} (I:Inv X pins σ H s)
  (hch:∀ b∈ch,(b∈X.ex∨X.s₀.heap.objs.size≤b)∧b≠X.env.locals∧(∀ x c,X.env.cells.lookup x=some c→c≠b)∧∀ p∈X.pn++pins,p.1≠b)
  (keep:∀ b o,b≠X.env.locals→b ∉ X.fs→b ∉ ch→s.heap.get? b=some o→H b=none→h'.get? b=some o)
  (slot:∀ b o,b≠X.env.locals→b∈X.fs→b ∉ ch→s.heap.get? b=some o→H b=none→∃ sl,h'.get? b=some { o with slots:=sl }) (free:∀ b o,b ∉ ch→s.heap.get? b=some o→H b=none→H' b=none)
  (there:∀ b o,b ∉ ch→s.heap.get? b=some o→∃ o',h'.get? b=some o')
  (tups:∀ b xs,H b=some (.tup xs)→H' b=some (.tup xs)) (frzs:∀ b o u,H b=some (.frz o u)→H' b=some (.frz o u)) (tbls:∀ b ps,H b=some (.tbl ps)→∃ more,H' b=some (.tbl (ps++more)))
  (ns:∀ m,s.heap.Ns X.env.locals m→h'.Ns X.env.locals m) (hok:HOk X.prog X.w H' h') (hg:AllBare g') :
  Inv X pins σ H' { s with heap:=h',gens:=g',drawn:=d',toks:=t' }:=by
 have neL:∀ b o,X.s₀.heap.get? b=some o→b≠X.env.locals:=fun b o e=>Nat.ne_of_lt (Nat.lt_of_lt_of_le (Heap.lt_size e) I.ok.above)
 have neC:∀ b o,X.s₀.heap.get? b=some o→b ∉ X.ex→b ∉ ch:=fun b o e hx hb=>by
  rcases (hch b hb).1 with z | z
  ·exact hx z
  ·exact absurd (Nat.lt_of_lt_of_le (Heap.lt_size e) z) (Nat.lt_irrefl _)
 have cellK:∀ x c,X.env.cells.lookup x=some c→∀ v,s.heap.IsCell c v→h'.IsCell c v:=fun x c e v ⟨o,ho,hd⟩=>by
  have nch:c ∉ ch:=fun z=>(hch c z).2.2.1 x c e rfl
  by_cases hc:c∈X.fs
  ·obtain ⟨sl,q⟩:=slot c o (I.cne x c e) hc nch ho (I.freeC x c e)
   exact ⟨_,q,hd⟩
  ·exact ⟨o,keep c o (I.cne x c e) hc nch ho (I.freeC x c e),hd⟩
 refine ⟨I.ok,I.os,hg,⟨fun b o e n hb hx => ?_,fun b o e n hb hx => ?_,fun b o e n hx => ?_,fun b o e hx => ?_,fun b xs e=>tups b xs (I.base.tups b xs e),fun b o xs e=>frzs b o xs (I.base.frzs b o xs e),fun b ps e => ?_⟩,?_,fun x c e => ?_,?_,fun x c e => ?_,fun p hp => ?_,hok,I.len⟩
 ·exact keep b o (neL b o e) hb (neC b o e hx) (I.base.keep b o e n hb hx) (I.base.free b o e n hx)
 ·obtain ⟨sl,e1⟩:=I.base.slot b o e n hb hx
  obtain ⟨sl',e2⟩:=slot b _ (neL b o e) hb (neC b o e hx) e1 (I.base.free b o e n hx)
  exact ⟨sl',e2⟩
 ·obtain ⟨o',e1⟩:=I.base.there b o e hx
  exact free b o' (neC b o e hx) e1 (I.base.free b o e n hx)
 ·obtain ⟨o',e1⟩:=I.base.there b o e hx
  exact there b o' (neC b o e hx) e1
 ·obtain ⟨m1,e1⟩:=I.base.tbls b ps e
  obtain ⟨m2,e2⟩:=tbls b _ e1
  exact ⟨m1++m2,by rw [e2,Array.append_assoc]⟩
 ·obtain ⟨m,hn,hl⟩:=I.loc
  refine ⟨m,ns m hn,fun i x v e1 e2 e3 => ?_⟩
  obtain ⟨u,r,l⟩:=hl i x v e1 e2 e3
  refine ⟨u,r,?_⟩
  rcases l with l | ⟨k,c,e,z⟩
  ·exact .inl l
  ·exact .inr ⟨k,c,e,cellK x c e _ z⟩
 ·obtain ⟨v,z⟩:=I.cell x c e
  exact ⟨v,cellK x c e v z⟩
 ·obtain ⟨m,⟨o,_,_,ho,_⟩,_⟩:=I.loc
  exact free _ o (fun z=>(hch _ z).2.1 rfl) ho I.free
 ·obtain ⟨v,o,ho,hd⟩:=I.cell x c e
  exact free c o (fun z=>(hch c z).2.2.1 x c e rfl) ho (I.freeC x c e)
 ·obtain ⟨e,n,ne,nf,d⟩:=I.pin p hp
  have nch:p.1 ∉ ch:=fun z=>(hch p.1 z).2.2.2 p hp rfl
  exact ⟨keep p.1 p.2 ne nf nch e n,free p.1 p.2 nch e n,ne,nf,d⟩
theorem Inv.un {t':Nat} (I:Inv X pins σ H s) (u:Un X.fs [] H H' s.heap h') (hok:HOk X.prog X.w H' h'):Inv X pins σ H' { s with heap:=h',toks:=t' }:=by
 obtain ⟨m,⟨o,es,ep,ho,r⟩,_⟩:=id I.loc
 obtain ⟨sl,hL⟩:=u.any ho I.free (by simp)
 exact I.step (g':=s.gens) (d':=s.drawn) (ch:=[]) (fun _ z=>nomatch z) (fun b o _ hb _ e n=>u.keep b o e n hb (by simp)) (fun b o _ hb _ e n=>u.slot b o e n hb (by simp)) (fun b o _ e n=>u.free b o e n (by simp)) (fun b o _ e=>u.there b o e (by simp)) u.tups u.frzs u.tbls (fun m' hm=>by
  obtain ⟨o',es',ep',ho',r'⟩:=hm
  rw [ho] at ho'; cases ho'
  exact ⟨_,es',ep',hL,r'⟩) hok I.bare
theorem Inv.call {g':Array GenState}{t':Nat}{d':Drawn}{ch:List Addr} (I:Inv X pins σ H s) (u:Un (frs X.stack) ch H H' s.heap h') (hok:HOk X.prog X.w H' h') (hg:AllBare g')
  (hch:∀ b∈ch,(b∈X.ex∨X.s₀.heap.objs.size≤b)∧b≠X.env.locals∧(∀ x c,X.env.cells.lookup x=some c→c≠b)∧∀ p∈X.pn++pins,p.1≠b) :
  Inv X pins σ H' { s with heap:=h',gens:=g',drawn:=d',toks:=t' }:=by
 obtain ⟨m,⟨o,es,ep,ho,r⟩,_⟩:=id I.loc
 obtain ⟨sl,hL⟩:=u.any ho I.free fun z=>(hch _ z).2.1 rfl
 exact I.step (ch:=ch) hch (fun b o hL hb hc e n=>u.keep b o e n (fun z=>(List.mem_cons.mp (I.stkSub b z)).elim hL hb) hc) (fun b o _ _ hc e n=>u.any e n hc) (fun b o hc e n=>u.free b o e n hc) (fun b o hc e=>u.there b o e hc) u.tups u.frzs u.tbls (fun m' hm=>by
  obtain ⟨o',es',ep',ho',r'⟩:=hm
  rw [ho] at ho'; cases ho'
  exact ⟨_,es',ep',hL,r'⟩) hok hg
theorem Inv.turned {t':Nat}{it:Addr} (I:Inv X pins σ H s) (k:∀ b o,b≠it→s.heap.get? b=some o→h'.get? b=some o) (hn:H it=none) (hL:it≠X.env.locals)
  (h1:it∈X.ex∨X.s₀.heap.objs.size≤it) (h2:∀ x c,X.env.cells.lookup x=some c→c≠it) (h3:∀ p∈X.pn++pins,p.1≠it):Inv X pins σ H { s with heap:=h',toks:=t' }:=by
 have nit:∀ b u,H b=some u→b≠it:=fun b u e z=>by rw [z,hn] at e; cases e
 refine I.step (g':=s.gens) (d':=s.drawn) (ch:=[it]) (fun b hb => ?_) (fun b o _ _ hc e _=>k b o (fun z=>hc (by simp [z])) e) (fun b o _ _ hc e _=>⟨o.slots,k b o (fun z=>hc (by simp [z])) e⟩) (fun _ _ _ _ n=>n)
  (fun b o hc e=>⟨o,k b o (fun z=>hc (by simp [z])) e⟩) (fun _ _ e=>e) (fun _ _ _ e=>e) (fun b ps e=>⟨#[],by rw [e]; simp⟩) (fun m hm => ?_) (fun b u e => ?_) I.bare
 ·have e:b=it:=by simpa using hb
  subst e
  exact ⟨h1,hL,h2,h3⟩
 ·obtain ⟨o,es,ep,ho,r⟩:=hm
  exact ⟨o,es,ep,k _ o (Ne.symm hL) ho,r⟩
 ·refine (I.hok b u e).stay (fun c v hc q=>k c v ?_ q) (fun _ q=>q) fun _ _ q=>q
  rcases hc with z | z
  ·rw [z]; exact nit b u e
  ·exact nit c _ z
theorem Inv.tok (I:Inv X pins σ H s) (t:Nat):Inv X pins σ H { s with toks:=t }:=I.un (h':=s.heap) (t':=t) Un.refl I.hok
theorem Inv.kept {t':Nat} (I:Inv X pins σ H s) (k:∀ b u,s.heap.get? b=some u→h'.get? b=some u):Inv X pins σ H { s with heap:=h',toks:=t' }:=I.un (Un.kept k) (I.hok.kept k)
theorem Inv.laid {a:Addr}{o:HO}{t':Nat} (I:Inv X pins σ H s) (k:∀ b u,s.heap.get? b=some u→h'.get? b=some u) (hp:s.heap.objs.size≤a) (new:fA X.prog X.w (upd H a o) h' a o) :
  Inv X pins σ (upd H a o) { s with heap:=h',toks:=t' }:=I.un (Un.laid k hp (I.hok.fresh hp)) (I.hok.laid k hp new)
theorem Inv.write {x e:Addr}{o:HO}{t':Nat} (I:Inv X pins σ H s) (mu:Mut (H x)) (he:e=x∨H e=some (.own x)) (k:∀ b u,b≠e→s.heap.get? b=some u→h'.get? b=some u) (heo:∃ u,h'.get? e=some u)
  (new:fA X.prog X.w (upd H x o) h' x o):Inv X pins σ (upd H x o) { s with heap:=h',toks:=t' }:=I.un (Un.write mu he k heo) (I.hok.write mu he k heo new)
theorem Inv.pins_of {pins':List (Addr × Obj)} (I:Inv X pins σ H s) (h:∀ p∈pins',s.heap.get? p.1=some p.2∧H p.1=none∧p.1≠X.env.locals∧p.1 ∉ X.fs∧∀ v,p.2.data ≠ .cell v):Inv X pins' σ H s :=
 ⟨I.ok,I.os,I.bare,I.base,I.loc,I.cell,I.free,I.freeC,fun p hp=>(List.mem_append.mp hp).elim (fun z=>I.pin p (List.mem_append_left _ z)) (h p),I.hok,I.len⟩
theorem rZ {N:List Str} (hN:N.Nodup) {i j:Nat}{x:Str} (a:N[i]?=some x) (b:N[j]?=some x):i=j:=by
 obtain ⟨h1,e1⟩:=List.getElem?_eq_some_iff.mp a
 obtain ⟨h2,e2⟩:=List.getElem?_eq_some_iff.mp b
 exact (List.getElem_inj hN).mp (e1.trans e2.symm)
theorem qL {M:Model}{A:Around}{E:Value→Shared→Prop}{i:Nat}{x:Str}{v:V}{u:Value}{Q:Unit→Shared→Prop} (I:Inv X pins σ H s) (hN:X.N.Nodup) (hi:X.N[i]?=some x) (hx:Loc X.env.scope x) (r:RelV v u)
  (h:∀ s',Inv X pins (σ.set i (some v)) H s'→(∃ a,Heap.SameBut a s.heap s'.heap∧(a=X.env.locals∨X.env.cells.lookup x=some a))→Q () s') (hf:X.fn x=true∨X.env.scope.names.lookup x=some .local:=by first | exact .inl rfl | exact .inr rfl | assumption):wpAny M A (storeName X.env x u) Q E s:=by
 obtain ⟨m,hn,hl⟩:=id I.loc
 have hcls:(X.env.scope.kind == .class || (X.env.scope.kind == .module && X.env.locals != X.env.globals))=false:=by rw [I.ok.kind]; rfl
 have hiσ:i < σ.length:=by rw [I.len]; exact (List.getElem?_eq_some_iff.mp hi).1
 have cne:=I.cne
 have tracked:∀ {a:Addr}{h':Heap},(∃ o,s.heap.get? a=some o∧H a=none)→Heap.SameBut a s.heap h'→HOk X.prog X.w H h':=fun {a h'} ha hs b ob e=>by
  obtain ⟨_,_,hfree⟩:=ha
  refine (I.hok b ob e).stay (fun c w' hc q=>(hs.2 c ?_).trans q) (fun _ q=>q) fun _ _ q=>q
  rintro rfl
  rcases hc with rfl | hc
  ·rw [hfree] at e; cases e
  ·rw [hfree] at hc; cases hc
 rcases hx with hk | hk
 ·refine wpAny_storeName_local hk hn (fun h' hn' hs => ?_) hcls
  obtain ⟨oL,_,_,hoL,_⟩:=id hn
  refine h _ ⟨I.ok,I.os,I.bare,⟨fun b o e n hb hx => ?_,fun b o e n hb hx => ?_,I.base.free,fun b o e hx => ?_,I.base.tups,I.base.frzs,I.base.tbls⟩,⟨_,hn',fun j y v' e1 e2 e3 => ?_⟩,fun y c e => ?_,I.free,I.freeC,fun p hp => ?_,tracked ⟨oL,hoL,I.free⟩ hs,by simpa using I.len⟩ ⟨_,hs, .inl rfl⟩
  ·exact (hs.2 b (Nat.ne_of_lt (Nat.lt_of_lt_of_le (Heap.lt_size e) I.ok.above))).trans (I.base.keep b o e n hb hx)
  ·obtain ⟨sl,e1⟩:=I.base.slot b o e n hb hx
   exact ⟨sl,(hs.2 b (Nat.ne_of_lt (Nat.lt_of_lt_of_le (Heap.lt_size e) I.ok.above))).trans e1⟩
  ·obtain ⟨o',e1⟩:=I.base.there b o e hx
   exact ⟨o',(hs.2 b (Nat.ne_of_lt (Nat.lt_of_lt_of_le (Heap.lt_size e) I.ok.above))).trans e1⟩
  ·by_cases hj:j=i
   ·subst hj
    rw [hi] at e1; cases e1
    rw [List.getElem?_set_self hiσ] at e2
    cases e2
    exact ⟨u,r, .inl ⟨hk,by simp⟩⟩
   ·rw [List.getElem?_set_ne (Ne.symm hj)] at e2
    obtain ⟨u',r',q⟩:=hl j y v' e1 e2 e3
    refine ⟨u',r',?_⟩
    rcases q with ⟨k,e⟩ | ⟨k,c,e,z⟩
    ·refine .inl ⟨k,?_⟩
     have:y≠x:=fun e=>hj (rZ hN e1 (e ▸ hi))
     simp [this,e]
    ·exact .inr ⟨k,c,e,z.sameBut hs (cne y c e)⟩
  ·obtain ⟨w',z⟩:=I.cell y c e
   exact ⟨w',z.sameBut hs (cne y c e)⟩
  ·obtain ⟨e,n,ne,nf,d⟩:=I.pin p hp
   exact ⟨(hs.2 p.1 ne).trans e,n,ne,nf,d⟩
 ·have hfn:X.fn x=true:=by
   rcases hf with z | z
   ·exact z
   ·rw [z] at hk; cases hk
  obtain ⟨c,hc⟩:=I.ok.has x (.inl hk)
  obtain ⟨w',z⟩:=I.cell x c hc
  refine wpAny_storeName_cell I.ok.kind hk hc z (fun h' hc' hs => ?_)
  obtain ⟨oc,hoc,hocd⟩:=id z
  refine h { s with heap:=h' } ⟨I.ok,I.os,I.bare,⟨fun b o e n hb hx => ?_,fun b o e n hb hx => ?_,I.base.free,fun b o e hx => ?_,I.base.tups,I.base.frzs,I.base.tbls⟩,⟨m,hn.sameBut hs (Ne.symm (cne x c hc)),fun j y v' e1 e2 e3 => ?_⟩,fun y c' e => ?_,I.free,I.freeC,fun p hp => ?_,tracked ⟨oc,hoc,I.freeC x c hc⟩ hs,by simpa using I.len⟩ ⟨c,hs, .inr hc⟩
  ·exact (hs.2 b (Nat.ne_of_lt (Nat.lt_of_lt_of_le (Heap.lt_size e) (I.ok.cab x c hfn hc)))).trans (I.base.keep b o e n hb hx)
  ·obtain ⟨sl,e1⟩:=I.base.slot b o e n hb hx
   exact ⟨sl,(hs.2 b (Nat.ne_of_lt (Nat.lt_of_lt_of_le (Heap.lt_size e) (I.ok.cab x c hfn hc)))).trans e1⟩
  ·obtain ⟨o',e1⟩:=I.base.there b o e hx
   exact ⟨o',(hs.2 b (Nat.ne_of_lt (Nat.lt_of_lt_of_le (Heap.lt_size e) (I.ok.cab x c hfn hc)))).trans e1⟩
  ·by_cases hj:j=i
   ·subst hj
    rw [hi] at e1; cases e1
    rw [List.getElem?_set_self hiσ] at e2
    cases e2
    exact ⟨u,r, .inr ⟨.inl hk,c,hc,hc'⟩⟩
   ·rw [List.getElem?_set_ne (Ne.symm hj)] at e2
    obtain ⟨u',r',q⟩:=hl j y v' e1 e2 e3
    refine ⟨u',r',?_⟩
    rcases q with q | ⟨k,c',e,z'⟩
    ·exact .inl q
    ·refine .inr ⟨k,c',e,z'.sameBut hs ?_⟩
     rintro rfl
     exact hj (rZ hN e1 (I.ok.inj _ _ _ e hc ▸ hi))
  ·by_cases hcc:c'=c
   ·subst hcc; exact ⟨_,hc'⟩
   ·obtain ⟨w2,z2⟩:=I.cell y c' e
    exact ⟨w2,z2.sameBut hs hcc⟩
  ·obtain ⟨e,n,ne,nf,d⟩:=I.pin p hp
   refine ⟨(hs.2 p.1 ?_).trans e,n,ne,nf,d⟩
   intro q
   rw [q,hoc] at e
   have q':oc=p.2:=Option.some.inj e
   exact d w' (by rw [← q']; exact hocd)
theorem lO {M:Model}{A:Around}{E:Value→Shared→Prop}{i:Nat}{x:Str}{v:V}{u:Value}{Q:Unit→Shared→Prop} (I:Inv X pins σ H s) (hN:X.N.Nodup) (hi:X.N[i]?=some x) (hx:Loc X.env.scope x) (r:RelV v u)
  (h:∀ s',Inv X pins (σ.set i (some v)) H s'→Q () s') (hf:X.fn x=true∨X.env.scope.names.lookup x=some .local:=by first | exact .inl rfl | exact .inr rfl | assumption):wpAny M A (storeName X.env x u) Q E s :=
 qL I hN hi hx r (fun s' I' _=>h s' I') hf
theorem Inv.call' {s':Shared}{ch:List Addr} (I:Inv X pins σ H s) (ho:s'.os=s.os) (u:Un (frs X.stack) ch H H' s.heap s'.heap) (hok:HOk X.prog X.w H' s'.heap) (hg:AllBare s'.gens)
  (hch:∀ b∈ch,(b∈X.ex∨X.s₀.heap.objs.size≤b)∧b≠X.env.locals∧(∀ x c,X.env.cells.lookup x=some c→c≠b)∧∀ p∈X.pn++pins,p.1≠b):Inv X pins σ H' s':=by
 obtain ⟨h',g',d',t',o'⟩:=s'
 have e:o'=s.os:=ho
 subst e
 exact I.call (g':=g') (t':=t') (d':=d') u hok hg hch
end
abbrev XK:=Value→Option Addr→Hp→Prop
abbrev St:=List (Option V)
abbrev VK:=V→Hp→Prop
abbrev TE:=St→Hp→VK→Prop
abbrev TT:=St→Hp→(Bool→Hp→Prop)→Prop
abbrev TA:=St→Hp→(List V→Hp→Prop)→Prop
structure Ends where
 nx:St→Hp→Prop
 rt:VK
 bk:St→Hp→Prop:=fun _ _=>False
 ct:St→Hp→Prop:=fun _ _=>False
abbrev TS:=Ends→St→Hp→Prop
def EP (X:Cx) (pins:List (Addr × Obj)) (σ:St) (Q:VK) (u:Value) (s':Shared):Prop:=∃ v H',Inv X pins σ H' s'∧RelV v u∧Q v H'
def TP (X:Cx) (pins:List (Addr × Obj)) (σ:St) (Q:Bool→Hp→Prop) (b:Bool) (s':Shared):Prop:=∃ H',Inv X pins σ H' s'∧Q b H'
def AP (X:Cx) (pins:List (Addr × Obj)) (σ:St) (Q:List V→Hp→Prop) (us:List Value) (s':Shared):Prop:=∃ vs H',Inv X pins σ H' s'∧Vals vs us∧Q vs H'
def SP (X:Cx) (pins:List (Addr × Obj)) (D:Ends) (f:Flow) (s':Shared):Prop :=
 match f with
 | .next=>∃ σ' H',Inv X pins σ' H' s'∧D.nx σ' H'
 | .brk=>∃ σ' H',Inv X pins σ' H' s'∧D.bk σ' H'
 | .cont=>∃ σ' H',Inv X pins σ' H' s'∧D.ct σ' H'
 | .ret u=>∃ v σ' H',Inv X pins σ' H' s'∧RelV v u∧D.rt v H'
def PE (X:Cx) (e:Expr) (t:TE):Prop :=
 ∀ (pins:List (Addr × Obj)) (s:Shared) (σ:St) (H:Hp) (Q:VK),Inv X pins σ H s→t σ H Q→wpAny (model X.prog X.w) X.A (eval e X.env) (EP X pins σ Q) X.xe s
def PT (X:Cx) (e:Expr) (t:TT):Prop :=
 ∀ (pins:List (Addr × Obj)) (s:Shared) (σ:St) (H:Hp) (Q:Bool→Hp→Prop),Inv X pins σ H s→t σ H Q→wpAny (model X.prog X.w) X.A (isTrue e X.env (eval e X.env)) (TP X pins σ Q) X.xe s
def PW (X:Cx) (e:Expr) (t:TT):Prop :=
 ∀ (whole:Sem Value) (pins:List (Addr × Obj)) (s:Shared) (σ:St) (H:Hp) (Q:Bool→Hp→Prop),Inv X pins σ H s→t σ H Q→wpAny (model X.prog X.w) X.A (isTrue e X.env whole) (TP X pins σ Q) X.xe s
def PA (X:Cx) (es:List Expr) (t:TA):Prop :=
 ∀ (pos:Pos) (pins:List (Addr × Obj)) (s:Shared) (σ:St) (H:Hp) (Q:List V→Hp→Prop),Inv X pins σ H s→t σ H Q→wpAny (model X.prog X.w) X.A (spliced (backTo pos (starEach es X.env))) (AP X pins σ Q) X.xe s
def PS (X:Cx) (st:Stmt) (t:TS):Prop :=
 ∀ (pins:List (Addr × Obj)) (s:Shared) (σ:St) (H:Hp) (D:Ends),Inv X pins σ H s→t D σ H→wpAny (model X.prog X.w) X.A (exec st X.env) (SP X pins D) X.xe s
def PSs (X:Cx) (st:List Stmt) (t:TS):Prop :=
 ∀ (pins:List (Addr × Obj)) (s:Shared) (σ:St) (H:Hp) (D:Ends),Inv X pins σ H s→t D σ H→wpAny (model X.prog X.w) X.A (execs st X.env) (SP X pins D) X.xe s
theorem thn {α:Type}{t:Sem α}{Q Q':α→Shared→Prop}{M:Model}{A:Around}{E:Value→Shared→Prop}{s:Shared} (h:wpAny M A t Q E s) (hQ:∀ a s,Q a s→Q' a s):wpAny M A t Q' E s:=wpAny_mono h hQ fun _ _ x=>x
end L2
namespace L2
open PySem PySem.Spec PyProof.Rows
section
variable {X:Cx}
def tVar (i:Nat):TE:=fun σ H Q=>∃ v,σ[i]?=some (some v)∧Q v H
def tC (v:V):TE:=fun _ H Q=>Q v H
theorem aGE {i:Nat}{x:Str}{pos:Pos} (hN:X.N[i]?=some x) (hv:Vis X.env.scope x) (hd:(x == ("__debug__" : Str))=false:=by decide) (hcd:(x == ("__classdict__" : Str))=false:=by decide):PE X (.Name x pos) (tVar i):=by
 intro pins s σ H Q I h
 obtain ⟨v,e,h⟩:=h
 obtain ⟨m,hn,hl⟩:=I.loc
 obtain ⟨u,r,l⟩:=hl i x v hN e hv
 have fin:EP X pins σ Q u s:=⟨v,H,I,r,h⟩
 rcases l with ⟨hk,hm⟩ | ⟨hk,c,hc,hcell⟩
 ·exact wpAny_Name (wpAny_loadName_local I.ok.kind hk hn hm fin) hd
 ·rcases hk with hk | hk
  ·exact wpAny_Name (wpAny_loadName_cell I.ok.kind hk hc hcell fin) hd
  ·exact wpAny_Name (wpAny_loadName_free I.ok.kind hk hc hcell fin hcd) hd
theorem aG8 {i j pos}:PE X (.Constant (.int i) j pos) (tC (.int i)):=fun _ _ _ H _ I h=>wpAny_Constant_int ⟨.int i,H,I.tok _,⟨_,rfl⟩,h⟩
theorem aIA {b j pos}:PE X (.Constant (.bool b) j pos) (tC (.bl b)):=fun _ _ _ H _ I h=>Constant_bool ⟨.bl b,H,I,rfl,h⟩
theorem aFP {x j pos}:PE X (.Constant (.str x) j pos) (tC (.str x)):=fun _ _ _ H _ I h=>Calls.Constant_str ⟨.str x,H,I.tok _,⟨_,rfl⟩,h⟩
def Gl (X:Cx) (x:Str):Prop:=X.env.kindOf x=some .globalImplicit
theorem vM {E:Value→Shared→Prop}{pins:List (Addr × Obj)}{s:Shared}{σ:St}{H:Hp}{x:Str}{u:Value}{pos:Pos}{Q:Value→Shared→Prop} (I:Inv X pins σ H s) (hg:Gl X x) (hm:X.mg x=some u) (h:Q u s)
  (hd:(x == ("__debug__" : Str))=false:=by decide):wpAny (model X.prog X.w) X.A (eval (.Name x pos) X.env) Q E s :=
 Calls.Name_function_global I.ok.kind hg (Calls.loadGlobal_global (by rw [I.ok.glob]; exact I.mod.glob.keeps I.bk) hm h) hd
theorem mE {E:Value→Shared→Prop}{pins:List (Addr × Obj)}{s:Shared}{σ:St}{H:Hp}{x:Str}{u:Value}{pos:Pos}{Q:Value→Shared→Prop} (I:Inv X pins σ H s) (hg:Gl X x) (hm:X.mg x=none) (hv:bootBuiltins x=some u) (h:Q u s)
  (hn:x ≠ "__name__" := by decide) (hd:(x == ("__debug__" : Str))=false:=by decide):wpAny (model X.prog X.w) X.A (eval (.Name x pos) X.env) Q E s:=by
 obtain ⟨mb,h1,h2⟩:=I.mod.blt
 exact Calls.Name_function_global I.ok.kind hg (Calls.loadGlobal_builtin (by rw [I.ok.glob]; exact I.mod.glob.keeps I.bk) hm (by rw [I.ok.blt]; exact h1.keeps I.bk) ((h2 x hn).trans hv) h) hd
theorem pW {x:Str}{v:V}{u:Value}{pos:Pos} (hg:Gl X x) (hm:X.mg x=some u) (r:RelV v u) (hd:(x == ("__debug__" : Str))=false:=by decide):PE X (.Name x pos) (tC v) :=
 fun _ _ _ H _ I h=>vM I hg hm ⟨v,H,I,r,h⟩ hd
theorem aEH {x:Str}{v:V}{u:Value}{pos:Pos} (hg:Gl X x) (hm:X.mg x=none) (hv:bootBuiltins x=some u) (r:RelV v u) (hn:x ≠ "__name__" := by decide) (hd:(x == ("__debug__" : Str))=false:=by decide):PE X (.Name x pos) (tC v) :=
 fun _ _ _ H _ I h=>mE I hg hm hv ⟨v,H,I,r,h⟩ hn hd
variable {a b:Expr}{ta tb:TE}{pos:Pos}
def tB (t:TE):TT:=fun σ H Q=>t σ H fun x H1=>∃ c,x = .bl c∧Q c H1
theorem aFU {e:Expr}{t:TE} (h:PE X e t) (he:∀ whole,isTrue e X.env whole=(do let v ← whole; standAt e.pos; holding [v] (truthy v)):=by intro _; rfl):PT X e (tB t):=by
 intro pins s σ H Q I hw
 refine isTrue_plain (thn (h pins s σ H _ I hw) fun v s1 ⟨x,H1,I1,r1,q1⟩ => ?_) (he _)
 obtain ⟨d,rfl,q⟩:=q1
 cases r1
 exact wpAny_truthy_bool ⟨H1,I1,q⟩
variable {tA tB':TT}{rest:List Expr}
def tOr (t u:TT):TT:=fun σ H Q=>t σ H fun c H1=>if c=true then Q true H1 else u σ H1 Q
def tNot (t:TT):TT:=fun σ H Q=>t σ H fun c H1=>Q (!c) H1
theorem aFN (ha:PT X a tA):PW X (.BoolOp .Or [a] pos) tA:=by
 intro wh pins s σ H Q I h
 refine isTrue_or (thn (ha pins s σ H Q I h) fun c s1 e => ?_)
 cases c with
 | false=>exact isTrue_or_nil e
 | true=>exact e
theorem aH8 (ha:PT X a tA) (hb:PW X (.BoolOp .Or (b::rest) pos) tB'):PW X (.BoolOp .Or (a::b::rest) pos) (tOr tA tB'):=by
 intro wh pins s σ H Q I h
 refine isTrue_or (thn (ha pins s σ H _ I h) fun c s1 ⟨H1,I1,q1⟩ => ?_)
 cases c with
 | true=>exact ⟨H1,I1,q1⟩
 | false=>exact hb wh pins s1 σ H1 Q I1 q1
theorem aF2 (ha:PT X a tA):PT X (.UnaryOp .Not a pos) (tNot tA):=by
 intro pins s σ H Q I h
 exact isTrue_not (ha pins s σ H (fun c H1=>Q (!c) H1) I h)
def aH4 (ta tb:TE):TE:=fun σ H Q=>ta σ H fun x H1=>∃ c,x = .bl c∧if c=true then tb σ H1 Q else Q (.bl false) H1
def aHN (ta:TE):TE:=fun σ H Q=>ta σ H fun x H1=>∃ c,x = .bl c∧Q (.bl (!c)) H1
theorem aFL {op}{t:TE} (h:PE X a t):PE X (.BoolOp op [a] pos) t:=fun pins s σ H Q I hw=>BoolOp_one (h pins s σ H Q I hw)
theorem aGO (ha:PE X a ta) (hb:PE X (.BoolOp .And (b::rest) pos) tb):PE X (.BoolOp .And (a::b::rest) pos) (aH4 ta tb):=by
 intro pins s σ H Q I h
 refine BoolOp_and (thn (ha pins s σ H _ I h) fun v s1 ⟨x,H1,I1,r1,q1⟩ => ?_)
 obtain ⟨c,rfl,q1⟩:=q1
 cases r1
 refine wpAny_truthy_bool ?_
 cases c with
 | true=>exact hb pins s1 σ H1 Q I1 q1
 | false=>exact ⟨.bl false,H1,I1,rfl,q1⟩
theorem aGY (ha:PE X a ta):PE X (.UnaryOp .Not a pos) (aHN ta):=by
 intro pins s σ H Q I h
 refine UnaryOp_ (thn (ha pins s σ H _ I h) fun v s1 ⟨x,H1,I1,r1,q1⟩ => ?_)
 obtain ⟨c,rfl,q1⟩:=q1
 cases r1
 exact not_of (wpAny_truthy_bool ⟨.bl (!c),H1,I1,rfl,q1⟩)
def tIf (t:TT) (ta tb:TE):TE:=fun σ H Q=>t σ H fun c H1=>if c=true then ta σ H1 Q else tb σ H1 Q
theorem aA9 {c:Expr} (hc:PT X c tA) (ha:PE X a ta) (hb:PE X b tb):PE X (.IfExp c a b pos) (tIf tA ta tb):=by
 intro pins s σ H Q I h
 refine wpAny_IfExp (thn (hc pins s σ H _ I h) fun d s1 ⟨H1,I1,q1⟩ => ?_)
 cases d with
 | true=>exact ha pins s1 σ H1 Q I1 q1
 | false=>exact hb pins s1 σ H1 Q I1 q1
end
end L2
namespace L2
open PySem PySem.Spec PyProof.Rows
def SqL (K:PySem.W.Frag) (H:Hp) (a:Addr) (xs:List V):Prop :=
 Rd H a (.lst xs) ∨
  ∃ (o:Obj) (its:Array Value) (n:Nat),K.lookup a=some o∧o.cls = .type "list" ∧ o.dict=none∧o.data = .seq its n∧its.size≤sizeLine∧Vals xs its.toList
def SqT (K:PySem.W.Frag) (H:Hp) (a:Addr) (xs:List V):Prop :=
 Rd H a (.tup xs) ∨
  ∃ (o:Obj) (its:Array Value) (n:Nat),K.lookup a=some o∧o.cls = .type "tuple" ∧ o.data = .seq its n∧its.size≤sizeLine∧Vals xs its.toList
def absV:Value→Option V
 | .none=>some .non
 | .bool b=>some (.bl b)
 | .int i _=>some (.int i)
 | .str x _=>some (.str x)
 | .bytes b _=>some (.byt b)
 | .float b _=>some (.flt b)
 | .ref a=>some (.ref a)
 | .type n=>some (.ty n)
 | _=>none
theorem RelV.abs {x:V}{u:Value} (r:RelV x u):absV u=some x:=by
 cases x with
 | non=>cases r; rfl
 | bl _=>cases r; rfl
 | int _=>obtain ⟨t,rfl⟩:=r; rfl
 | str _=>obtain ⟨t,rfl⟩:=r; rfl
 | byt _=>obtain ⟨t,rfl⟩:=r; rfl
 | flt _=>obtain ⟨t,rfl⟩:=r; rfl
 | ref _=>cases r; rfl
 | ty _=>cases r; rfl
theorem RelV.inj {x y:V}{u:Value} (r:RelV x u) (q:RelV y u):x=y:=Option.some.inj (r.abs.symm.trans q.abs)
theorem Vals.inj:∀ {xs ys:List V}{us:List Value},Vals xs us→Vals ys us→xs=ys
 | _,_,_, .nil, .nil=>rfl
 | _,_,_, .cons r t, .cons r' t'=>by rw [r.inj r',Vals.inj t t']
section
variable {X:Cx}{pins:List (Addr × Obj)}{σ:St}{H:Hp}{s:Shared}{a:Addr}{xs ys:List V}
theorem SqL.of {K:PySem.W.Frag} (h:H a=some (.lst xs)):SqL K H a xs := .inl (.inl h)
theorem SqT.of {K:PySem.W.Frag} (h:H a=some (.tup xs)):SqT K H a xs := .inl (.inl h)
theorem Inv.list (I:Inv X pins σ H s) (h:SqL X.K H a xs):∃ its:List Value,Vals xs its∧PlainL s.heap a its.toArray∧xs.length≤sizeLine:=by
 rcases h with h | ⟨o,its,n,hk,hc,hd,hs,hz,r⟩
 ·obtain ⟨z,its,n,r,e⟩:=h.ok I.hok
  exact ⟨its,r,⟨_,n,e,rfl,rfl,rfl⟩,z⟩
 ·refine ⟨its.toList,r,⟨o,n,I.kIn a o hk,hc,hd,by simpa using hs⟩,?_⟩
  have e:=r.length
  simp only [Array.length_toList] at e
  omega
theorem Inv.tuple (I:Inv X pins σ H s) (h:SqT X.K H a xs):∃ its:List Value,Vals xs its∧IsTup s.heap a its.toArray∧xs.length≤sizeLine:=by
 rcases h with h | ⟨o,its,n,hk,hc,hs,hz,r⟩
 ·obtain ⟨z,its,r,p⟩:=h.ok I.hok
  exact ⟨its,r,p,z⟩
 ·refine ⟨its.toList,r,⟨o,I.kIn a o hk,hc,n,by simpa using hs⟩,?_⟩
  have e:=r.length
  simp only [Array.length_toList] at e
  omega
theorem Inv.list_inj (I:Inv X pins σ H s) (h:SqL X.K H a xs) (h':SqL X.K H a ys):xs=ys:=by
 obtain ⟨its,r,⟨o,n,e,_,_,d⟩,_⟩:=I.list h
 obtain ⟨its',r',⟨o',n',e',_,_,d'⟩,_⟩:=I.list h'
 rw [e] at e'; cases e'
 rw [d] at d'
 injection d' with d1 _
 have:its=its':=by simpa using congrArg Array.toList d1
 subst this
 exact r.inj r'
theorem Inv.tuple_inj (I:Inv X pins σ H s) (h:SqT X.K H a xs) (h':SqT X.K H a ys):xs=ys:=by
 obtain ⟨its,r,⟨o,e,_,n,d⟩,_⟩:=I.tuple h
 obtain ⟨its',r',⟨o',e',_,n',d'⟩,_⟩:=I.tuple h'
 rw [e] at e'; cases e'
 rw [d] at d'
 injection d' with d1 _
 have:its=its':=by simpa using congrArg Array.toList d1
 subst this
 exact r.inj r'
end
abbrev Cx.wish (X:Cx) (E:Value→Shared→Prop):Cx:={ X with xe:=E }
abbrev Cx.nox (X:Cx):Cx:=X.wish fun _ _=>False
theorem Cx.Ok.wish {X:Cx} (ok:X.Ok) (E:Value→Shared→Prop):(X.wish E).Ok :=
 ⟨ok.mod,ok.kind,ok.glob,ok.blt,ok.above,ok.inj,ok.has,ok.cab,ok.hd,ok.frames,ok.stk,ok.exf,ok.bs,ok.bsz,ok.noex,ok.exfs,ok.funs,ok.frf⟩
theorem Cx.Ok.unwish {X:Cx}{E:Value→Shared→Prop} (ok:(X.wish E).Ok):X.Ok :=
 ⟨ok.mod,ok.kind,ok.glob,ok.blt,ok.above,ok.inj,ok.has,ok.cab,ok.hd,ok.frames,ok.stk,ok.exf,ok.bs,ok.bsz,ok.noex,ok.exfs,ok.funs,ok.frf⟩
section
variable {X:Cx}{pins:List (Addr × Obj)}{σ:St}{H:Hp}{s:Shared}{E:Value→Shared→Prop}
theorem Inv.wish (I:Inv X pins σ H s) (E:Value→Shared→Prop):Inv (X.wish E) pins σ H s:=⟨I.ok.wish E,I.os,I.bare,I.base,I.loc,I.cell,I.free,I.freeC,I.pin,I.hok,I.len⟩
theorem Inv.unwish (I:Inv (X.wish E) pins σ H s):Inv X pins σ H s:=⟨I.ok.unwish,I.os,I.bare,I.base,I.loc,I.cell,I.free,I.freeC,I.pin,I.hok,I.len⟩
theorem SP.unwish {D:Ends}{f:Flow}{s':Shared} (h:SP (X.wish E) pins D f s'):SP X pins D f s':=by
 cases f with
 | next=>obtain ⟨σ',H',I,q⟩:=h; exact ⟨σ',H',I.unwish,q⟩
 | brk=>obtain ⟨σ',H',I,q⟩:=h; exact ⟨σ',H',I.unwish,q⟩
 | cont=>obtain ⟨σ',H',I,q⟩:=h; exact ⟨σ',H',I.unwish,q⟩
 | ret u=>obtain ⟨v,σ',H',I,r,q⟩:=h; exact ⟨v,σ',H',I.unwish,r,q⟩
theorem PSs.nox {st:List Stmt}{t:TS} (h:PSs X.nox st t):PSs X st t:=fun pins s σ H D I hw =>
 wpAny_mono (h pins s σ H D (I.wish _) hw) (fun _ _ q=>q.unwish) fun _ _ z=>False.elim z
end
section
variable {X:Cx}{st:Stmt}{rest:List Stmt}{t u:TS}{e:Expr}{te:TE}{pos:Pos}
def aHW:TS:=fun D σ H=>D.nx σ H
def tSeq (t u:TS):TS:=fun D σ H=>t { D with nx:=u D } σ H
theorem aEK:PSs X [] aHW:=fun _ _ σ H _ I h=>wpAny_execs_nil ⟨σ,H,I,h⟩
theorem aCF (h1:PS X st t) (h2:PSs X rest u):PSs X (st::rest) (tSeq t u):=by
 intro pins s σ H D I h
 refine wpAny_execs_cons (thn (h1 pins s σ H { D with nx:=u D } I h) fun f s1 q => ?_)
 cases f with
 | next =>
  obtain ⟨σ',H',I',q⟩:=q
  exact h2 pins s1 σ' H' D I' q
 | ret v=>exact q
 | brk=>exact q
 | cont=>exact q
theorem aE1 (h1:PS X st t):PSs X [st] t:=by
 intro pins s σ H D I h
 refine wpAny_execs_cons (thn (h1 pins s σ H D I h) fun f s1 q => ?_)
 cases f with
 | next=>exact wpAny_execs_nil q
 | ret v=>exact q
 | brk=>exact q
 | cont=>exact q
theorem Inv.quiet {pins:List (Addr × Obj)}{σ:St}{H:Hp}{s:Shared} (I:Inv X pins σ H s):interactive X.env=false:=by simp [interactive,I.ok.kind]
def aHJ (te:TE):TS:=fun D σ H=>te σ H fun _ H1=>D.nx σ H1
theorem aES (he:PE X e te) (hs:swapsWith e none pos.line X.env=pure false:=by rfl):PS X (.Expr e pos) (aHJ te):=by
 intro pins s σ H D I h
 exact wpAny_Expr_any (thn (he pins s σ H _ I h) fun v s1 ⟨x,H1,I1,r1,q1⟩=>⟨σ,H1,I1,q1⟩) I.quiet hs
def tRet (te:TE):TS:=fun D σ H=>te σ H D.rt
theorem aGK (he:PE X e te):PS X (.Return (some e) pos) (tRet te):=by
 intro pins s σ H D I h
 exact wpAny_Return_some (thn (he pins s σ H _ I h) fun v s1 ⟨x,H1,I1,r1,q1⟩=>⟨x,σ,H1,I1,r1,q1⟩)
def tIfS (c:TT) (t u:TS):TS:=fun D σ H=>c σ H fun b H1=>if b=true then t D σ H1 else u D σ H1
theorem aHD {c:Expr}{a b:List Stmt}{tc:TT} (hc:PT X c tc) (ha:PSs X a t) (hb:PSs X b u):PS X (.If c a b pos) (tIfS tc t u):=by
 intro pins s σ H D I h
 refine wpAny_If (thn (hc pins s σ H _ I h) fun d s1 ⟨H1,I1,q1⟩ => ?_)
 cases d with
 | true=>exact ha pins s1 σ H1 D I1 q1
 | false=>exact hb pins s1 σ H1 D I1 q1
end
abbrev TG:=V→St→Hp→(St→Hp→Prop)→Prop
abbrev TGs:=List V→St→Hp→(St→Hp→Prop)→Prop
def PG (X:Cx) (target:Expr) (t:TG):Prop :=
 ∀ (pins:List (Addr × Obj)) (s:Shared) (σ:St) (H:Hp) (v:V) (u:Value) (Q:St→Hp→Prop),Inv X pins σ H s→RelV v u→t v σ H Q →
  wpAny (model X.prog X.w) X.A (assign target X.env u) (fun _ s'=>∃ σ' H',Inv X pins σ' H' s'∧Q σ' H') X.xe s
def PGs (X:Cx) (ts:List Expr) (t:TGs):Prop :=
 ∀ (pins:List (Addr × Obj)) (s:Shared) (σ:St) (H:Hp) (vs:List V) (us:List Value) (Q:St→Hp→Prop),Inv X pins σ H s→Vals vs us→t vs σ H Q →
  wpAny (model X.prog X.w) X.A (assignInOrder ((assignEach ts X.env).map (·.2)) us) (fun _ s'=>∃ σ' H',Inv X pins σ' H' s'∧Q σ' H') X.xe s
abbrev TSet:=V→V→V→Hp→(Hp→Prop)→Prop
def PSet (X:Cx) (t:TSet):Prop :=
 ∀ (pins:List (Addr × Obj)) (s:Shared) (σ:St) (H:Hp) (o i v:V) (ov iv u:Value) (Q:Hp→Prop),Inv X pins σ H s→RelV o ov→RelV i iv→RelV v u→t o i v H Q →
  wpAny (model X.prog X.w) X.A (setItem ov iv u) (fun _ s'=>∃ H',Inv X pins σ H' s'∧Q H') X.xe s
section
variable {X:Cx}{pos:Pos}
def pG (i:Nat):TG:=fun v σ H Q=>Q (σ.set i (some v)) H
theorem vH {i:Nat}{x:Str} (hN:X.N.Nodup) (hi:X.N[i]?=some x) (hx:Loc X.env.scope x) (hf:X.fn x=true∨X.env.scope.names.lookup x=some .local:=by first | exact .inl rfl | exact .inr rfl | assumption):PG X (.Name x pos) (pG i):=by
 intro pins s σ H v u Q I r h
 exact wpAny_assign_Name (lO I hN hi hx r (fun s' I'=>⟨_,H,I',h⟩) hf)
def gNil:TGs:=fun vs σ H Q=>vs=[]∧Q σ H
def aH5 (t:TG) (u:TGs):TGs:=fun vs σ H Q=>∃ v r,vs=v::r∧t v σ H fun σ' H'=>u r σ' H' Q
theorem aDZ:PGs X [] gNil:=by
 intro pins s σ H vs us Q I r h
 obtain ⟨e,h⟩:=h
 subst e
 cases r
 exact assignInOrder_nil ⟨σ,H,I,h⟩
theorem aBT {e:Expr}{es:List Expr}{t:TG}{u:TGs} (h1:PG X e t) (h2:PGs X es u)
  (hs:(assignEach (e::es) X.env).map (·.2)=assign e X.env::(assignEach es X.env).map (·.2):=by rfl):PGs X (e::es) (aH5 t u):=by
 intro pins s σ H vs us Q I r h
 obtain ⟨v,vr,e1,h⟩:=h
 subst e1
 cases r with
 | cons r rr =>
  rw [hs]
  refine assignInOrder_cons (thn (h1 pins s σ H _ _ _ I r h) fun _ s1 ⟨σ1,H1,I1,q1⟩ => ?_)
  exact h2 pins s1 σ1 H1 _ _ Q I1 rr q1
def gTup (K:PySem.W.Frag) (n:Nat) (t:TGs):TG:=fun v σ H Q=>∃ a xs,v = .ref a∧SqT K H a xs∧xs.length=n∧t xs σ H Q
theorem aGH {es:List Expr}{k:Nat}{t:TGs}{n:Nat} (hc:X.calm=true) (h:PGs X es t)
  (hn:(assignEach es X.env).length=n:=by rfl) (hst:(assignEach es X.env).findIdx? (·.1)=none:=by rfl):PG X (.Tuple es k pos) (gTup X.K n t):=by
 intro pins s σ H v u Q I r hw
 obtain ⟨a,xs,e1,hq,hl,hw⟩:=hw
 subst e1
 cases r
 obtain ⟨its,rv,ht,hz⟩:=I.tuple hq
 refine assign_Tuple_tuple (I.ok.hd hc) ht (by simp [hn,← hl,rv.length]) hst fun h' hx => ?_
 have I1:Inv X pins σ H { s with heap:=h' }:=I.kept (t':=s.toks) fun b o e=>hx b o (Nat.ne_of_lt (Heap.lt_size e)) e
 exact h pins _ σ H xs _ Q I1 (by simpa using rv) hw
def gSub (to ti:TE) (t:TSet):TG:=fun v σ H Q=>to σ H fun o H1=>ti σ H1 fun i H2=>t o i v H2 fun H3=>Q σ H3
theorem aF4 {o i:Expr}{to ti:TE}{t:TSet} (ho:PE X o to) (hi:PE X i ti) (hs:PSet X t)
  (ha:∀ v,assign (.Subscript o i pos) X.env v=(do
   let ov ← holding [v] (eval o X.env)
   let iv ← holding [v,ov] (eval i X.env)
   standAt pos
   holding [v,ov,iv] (setItem ov iv v)
   release [v,ov,iv] []):=by intro _; rfl):PG X (.Subscript o i pos) (gSub to ti t):=by
 intro pins s σ H v u Q I r h
 rw [ha]
 refine wpAny_bind (wpAny_holding (thn (ho pins s σ H _ I h) fun ov s1 ⟨x,H1,I1,r1,q1⟩ => ?_))
 refine wpAny_bind (wpAny_holding (thn (hi pins s1 σ H1 _ I1 q1) fun iv s2 ⟨y,H2,I2,r2,q2⟩ => ?_))
 refine wpAny_bind (wpAny_standAt (wpAny_bind (wpAny_holding (thn (hs pins s2 σ H2 x y v ov iv u _ I2 r1 r2 r q2) fun _ s3 ⟨H3,I3,q3⟩ => ?_))))
 exact wpAny_release ⟨σ,H3,I3,q3⟩
def xC (te:TE) (g:TG):TS:=fun D σ H=>te σ H fun x H1=>g x σ H1 D.nx
theorem aGD {tg e:Expr}{te:TE}{g:TG} (he:PE X e te) (hg:PG X tg g) (hs:swapsWithSole [tg] e pos.line X.env=pure false:=by rfl) (hw:swappedStores [tg] e X.env=pure none:=by rfl)
  (h1:(assignEach [tg] X.env).map (·.2)=[assign tg X.env]:=by rfl):PS X (.Assign [tg] e pos) (xC te g):=by
 intro pins s σ H D I h
 refine wpAny_Assign_stores (thn (he pins s σ H _ I h) fun v s1 ⟨x,H1,I1,r1,q1⟩ => ?_) hs hw
 rw [h1]
 exact thn (hg pins s1 σ H1 x v _ I1 r1 q1) fun _ s2 q=>q
theorem aF5 {i:Nat}{x:Str}{e:Expr}{te:TE}{pos':Pos} (hN:X.N.Nodup) (hi:X.N[i]?=some x) (hx:Loc X.env.scope x) (he:PE X e te) (hs:swapsWith e (some (.Name x pos')) pos.line X.env=pure false:=by rfl) (hf:X.fn x=true∨X.env.scope.names.lookup x=some .local:=by first | exact .inl rfl | exact .inr rfl | assumption) :
  PS X (.Assign [.Name x pos'] e pos) (xC te (pG i)):=by
 intro pins s σ H D I h
 refine wpAny_Assign_Name (thn (he pins s σ H _ I h) fun v s1 ⟨y,H1,I1,r1,q1⟩ => ?_) hs
 exact lO I1 hN hi hx r1 (fun s2 I2=>⟨_,H1,I2,q1⟩) hf
def tPar (i j:Nat) (ta:TA):TS:=fun D σ H=>ta σ H fun vs H1=>∃ v w,vs=[v,w]∧D.nx ((σ.set i (some v)).set j (some w)) H1
theorem aGI {i j:Nat}{x y:Str}{a b:Expr}{ta:TA}{px py pt:Pos}{kt k2 pt2} (hc:X.calm=true) (hN:X.N.Nodup) (hi:X.N[i]?=some x) (hj:X.N[j]?=some y) (hij:i≠j)
  (hx:X.env.scope.names.lookup x=some .local) (hy:X.env.scope.names.lookup y=some .local) (ha:PA X [a,b] ta)
  (hw:swappedStores [.Tuple [.Name x px, .Name y py] kt pt] (.Tuple [a,b] k2 pt2) X.env=pure (some [x,y]))
  (hs:swapsWithSole [.Tuple [.Name x px, .Name y py] kt pt] (.Tuple [a,b] k2 pt2) pos.line X.env=pure false:=by rfl) :
  PS X (.Assign [.Tuple [.Name x px, .Name y py] kt pt] (.Tuple [a,b] k2 pt2) pos) (tPar i j ta):=by
 intro pins s σ H D I h
 rw [exec_Assign_arm]
 refine wpAny_bind (wpAny_standAt ?_)
 rw [hs]
 refine wpAny_bind (wpAny_pure ?_)
 rw [if_neg (by decide)]
 refine wpAny_bind (Tuple_ (thn (ha _ pins s σ H _ I h) fun us s1 ⟨vs,H1,I1,r1,q1⟩ => ?_))
 obtain ⟨v,w,e1,q1⟩:=q1
 subst e1
 obtain ⟨u1,u2,rfl,rv,rw'⟩:∃ u1 u2,us=[u1,u2]∧RelV v u1∧RelV w u2:=by
  cases r1 with
  | cons p q =>
   cases q with
   | cons p' q' =>
    cases q'
    exact ⟨_,_,rfl,p,p'⟩
 refine wpAny_newObj_type ?_ (by show 2≤sizeLine; decide)
 have I2:Inv X pins σ H1 { s1 with heap:=s1.heap.push { cls := .type "tuple", data := .seq [u1,u2].toArray } }:=I1.kept (t':=s1.toks) fun b o e=>Heap.get?_push_of_some _ e
 rw [hw]
 refine wpAny_bind (wpAny_pure ?_)
 show wpAny (model X.prog X.w) X.A (do rule "assign.swapped-stores"; let items ← unpackItems (.ref s1.heap.objs.size) 2 none; assignInOrder [fun v=>bindName X.env y v,fun v=>bindName X.env x v] items.reverse; pure Flow.next) _ _ _
 refine wpAny_bind (wpAny_rule (wpAny_bind (unpackItems_tuple (items := #[u1,u2]) (I.ok.hd hc) (IsTup.new s1.heap _) fun h' hx' => ?_)))
 have I3:=I2.kept (h':=h') (t':=s1.toks) fun b o e=>hx' b o (Nat.ne_of_lt (Heap.lt_size e)) e
 show wpAny _ _ (assignInOrder [fun v=>bindName X.env y v,fun v=>bindName X.env x v] [u2,u1] >>= fun _=>pure Flow.next) _ _ _
 refine wpAny_bind (assignInOrder_cons (wpAny_bindName (lO I3 hN hj (.inl hy) rw' (fun s2 I4 => ?_) (.inr hy))))
 refine assignInOrder_cons (wpAny_bindName (lO I4 hN hi (.inl hx) rv (fun s3 I5=>assignInOrder_nil (wpAny_pure ?_)) (.inr hx)))
 rw [List.set_comm _ _ (Ne.symm hij)] at I5
 exact ⟨_,H1,I5,q1⟩
end
section
variable {X:Cx}{pos:Pos}
def aF7 (c:TT) (tb:TS):TS:=fun D σ H=>∃ W:Nat→St→Hp→Prop,(∃ m,W m σ H)∧∀ m σ H,W m σ H →
 c σ H fun b H1=>if b=true then ∃ N:St→Hp→Prop,(∀ σ' H',N σ' H'→∃ m',m' < m∧W m' σ' H')∧tb { D with nx:=N,ct:=N,bk:=D.nx } σ H1 else D.nx σ H1
theorem aBB {c:Expr}{body:List Stmt}{tc:TT}{tb:TS} (hp:PassesOwn (model X.prog X.w) X.A X.env X.xe) (hc:PT X c tc) (hb:PSs X body tb):PS X (.While c body [] pos) (aF7 tc tb):=by
 intro pins s σ H D I h
 obtain ⟨W,⟨m0,w0⟩,turn⟩:=h
 refine wpAny_While (codeAny_whileLoop (fun n s'=>∃ σ' H',Inv X pins σ' H' s'∧W n σ' H') ?_ m0 ⟨σ,H,I,w0⟩)
 rintro n s1 ⟨σ1,H1,I1,w1⟩
 refine wpAny_passesOwn hp (thn (hc pins s1 σ1 H1 _ I1 (turn n σ1 H1 w1)) fun b s2 ⟨H2,I2,q2⟩ => ?_)
 cases b with
 | true =>
  obtain ⟨N,hN,q2⟩:=q2
  rw [if_pos rfl]
  refine wpAny_passesOwn hp (thn (hb pins s2 σ1 H2 _ I2 q2) fun f s3 q3 => ?_)
  cases f with
  | next =>
   obtain ⟨σ3,H3,I3,n3⟩:=q3
   obtain ⟨m',hm,w3⟩:=hN σ3 H3 n3
   exact ⟨m',hm,σ3,H3,I3,w3⟩
  | cont =>
   obtain ⟨σ3,H3,I3,n3⟩:=q3
   obtain ⟨m',hm,w3⟩:=hN σ3 H3 n3
   exact ⟨m',hm,σ3,H3,I3,w3⟩
  | brk=>exact q3
  | ret v=>exact q3
 | false =>
  rw [if_neg Bool.false_ne_true]
  exact wpAny_execs_nil ⟨σ1,H2,I2,q2⟩
end
structure It where
 go:Nat→Hp→Prop
 yld:Nat→Hp→V→Hp→Prop
 stop:Nat→Hp→Prop
def kZ (X:Cx) (pins:List (Addr × Obj)) (H:Hp) (b:Addr):Prop :=
 H b=none∧b≠X.env.locals∧b ∉ X.fs∧(b∈X.ex∨X.s₀.heap.objs.size≤b)∧(∀ x c,X.env.cells.lookup x=some c→c≠b)∧∀ p∈X.pn++pins,p.1≠b
theorem Inv.fpOk {X:Cx}{pins:List (Addr × Obj)}{σ:St}{H H':Hp}{s:Shared}{b:Addr} (I:Inv X pins σ H s) (hb:s.heap.objs.size≤b) (hn:H' b=none):kZ X pins H' b:=by
 refine ⟨hn,Nat.ne_of_gt (Nat.lt_of_lt_of_le I.lt hb),I.nofs hb, .inr (Nat.le_trans I.sz hb),fun x c e z => ?_,fun p hp z => ?_⟩
 ·obtain ⟨v,q⟩:=I.cell x c e
  exact absurd (Nat.lt_of_lt_of_le q.lt (by rw [z]; exact hb)) (Nat.lt_irrefl _)
 ·exact absurd (Nat.lt_of_lt_of_le (Heap.lt_size (I.pin p hp).1) (by rw [z]; exact hb)) (Nat.lt_irrefl _)
structure Turn (P:Program) (w:World) (K:PySem.W.Frag) (tg:Expr) (J:It) (fp:List Addr) (it:Addr) (tn:Nat→Heap→Prop):Prop where
 mem:it∈fp
 obj:∀ i h,tn i h→∀ b∈fp,∃ o,h.get? b=some o∧∀ v,o.data ≠ .cell v
 keep:∀ i h h',tn i h→(∀ b∈fp,∀ o,h.get? b=some o→h'.get? b=some o)→tn i h'
 item:∀ (X:Cx),X.prog=P→X.w=w→X.K=K→X.calm=true→∀ (i:Nat) (pins:List (Addr × Obj)) (s:Shared) (σ:St) (H:Hp) (E:Value→Shared→Prop),Inv X pins σ H s→(∀ b∈fp,kZ X pins H b)→tn i s.heap→J.go i H →
  wpAny (model P w) X.A (pyNext (.ref it)) (fun r s1=>∃ u,r=some u ∧
   wpAny (model P w) X.A (letOwnedTupleGo tg (.ref it) u) (fun _ s2=>∃ x H',Inv X pins σ H' s2∧RelV x u∧J.yld i H x H'∧tn (i+1) s2.heap∧∀ b∈fp,H' b=none) E s1) E s
 done:∀ (X:Cx),X.prog=P→X.w=w→X.K=K→X.calm=true→∀ (i:Nat) (pins:List (Addr × Obj)) (s:Shared) (σ:St) (H:Hp) (E:Value→Shared→Prop),Inv X pins σ H s→(∀ b∈fp,kZ X pins H b)→tn i s.heap→J.stop i H →
  wpAny (model P w) X.A (pyNext (.ref it)) (fun r s1=>r=none∧Inv X pins σ H s1) E s
 self:∀ (A:Around) (i:Nat) (s:Shared) (Q:Value→Shared→Prop) (E:Value→Shared→Prop),tn i s.heap→Q (.ref it) s→wpAny (model P w) A (pyIter (.ref it)) Q E s
abbrev TI:=St→Hp→(It→Hp→Prop)→Prop
def PIE (X:Cx) (pins:List (Addr × Obj)) (σ:St) (tg:Expr) (R:It→Hp→Prop) (itv:Value) (s2:Shared):Prop :=
 ∃ (it:Addr) (fp:List Addr) (tn:Nat→Heap→Prop) (J:It) (H':Hp),itv = .ref it∧Inv X pins σ H' s2∧Turn X.prog X.w X.K tg J fp it tn∧tn 0 s2.heap∧(∀ b∈fp,kZ X pins H' b)∧R J H'
def PI (X:Cx) (tg iter:Expr) (wi:TI):Prop :=
 ∀ (pins:List (Addr × Obj)) (s:Shared) (σ:St) (H:Hp) (R:It→Hp→Prop),Inv X pins σ H s→wi σ H R →
  wpAny (model X.prog X.w) X.A (eval iter X.env) (fun v s1=>wpAny (model X.prog X.w) X.A (pyIter v) (PIE X pins σ tg R) X.xe s1) X.xe s
theorem oY {M:Model}{A:Around}{E:Value→Shared→Prop}{s:Shared}{tg:Expr}{it:Addr}{u:Value}{o:Obj}{n:String}{vs:Array Value}{Q:Unit→Shared→Prop} (ho:s.heap.get? it=some o) (hc:o.cls = .type n) (hd:o.data = .fields vs)
    (hn:["enumerate", "zip", "dict_itemiterator", "dict_reverseitemiterator", "odict_iterator", "itertools.zip_longest", "itertools.pairwise"].contains n=false) (hQ:Q () s):wpAny M A (letOwnedTupleGo tg (.ref it) u) Q E s:=by
  unfold letOwnedTupleGo
  cases tg <;> first
    | exact wpAny_pure hQ
    | (cases u <;> first
        | exact wpAny_pure hQ
        | (refine wpAny_bind (wpAny_load ho ?_)
           rw [hc,hd]
           show wpAny M A (if (["enumerate", "zip", "dict_itemiterator", "dict_reverseitemiterator", "odict_iterator", "itertools.zip_longest", "itertools.pairwise"].contains n && vs[0]? == some (rawInt _))=true then _ else _) Q E s
           rw [if_neg (by intro h; rw [hn,Bool.false_and] at h; cases h)]
           exact wpAny_pure hQ))
def Itl (K:PySem.W.Frag) (a:Addr):It :=
 ⟨fun i H=>∃ xs x,SqL K H a xs∧xs[i]?=some x,fun i H x H'=>H'=H∧∀ xs,SqL K H a xs→xs[i]?=some x,fun i H=>∃ xs,SqL K H a xs∧xs.length≤i⟩
def Itt (K:PySem.W.Frag) (a:Addr):It :=
 ⟨fun i H=>∃ xs x,SqT K H a xs∧xs[i]?=some x,fun i H x H'=>H'=H∧∀ xs,SqT K H a xs→xs[i]?=some x,fun i H=>∃ xs,SqT K H a xs∧xs.length≤i⟩
def Itr (lo:Int) (n:Nat):It:=⟨fun i _=>i < n,fun i H x H'=>H'=H∧x = .int (lo+i),fun i _=>n≤i⟩
theorem aAV {P:Program}{w:World}{K:PySem.W.Frag}{tg:Expr} (a it:Addr):Turn P w K tg (Itl K a) [it] it (fun i h=>h.IsListIter it a i) where
 mem:=by simp
 obj:=fun i h st b hb=>by
  have e:b=it:=by simpa using hb
  subst e
  obtain ⟨o,e,c,d⟩:=st
  exact ⟨o,e,fun v z=>by rw [d] at z; cases z⟩
 keep:=fun i h h' st k=>st.at fun o e=>k it (by simp) o e
 item:=by
  intro X hP hw hK hc i pins s σ H E I hf st hg
  subst hP hw hK
  obtain ⟨xs,x,hq,hx⟩:=hg
  obtain ⟨its,rv,p,hz⟩:=I.list hq
  obtain ⟨u,hu,ru⟩:=rv.get hx
  obtain ⟨f0,f1,f2,f3,f4,f5⟩:=hf it (by simp)
  refine wpAny_pyNext_list_item st p.isList (x:=u) (by simpa using hu) fun h' st' sb => ?_
  have I1:Inv X pins σ H { s with heap:=h' }:=I.turned (t':=s.toks) (fun b o hb e=>(sb.2 b hb).trans e) f0 f1 f3 f4 f5
  obtain ⟨o,e,c,d⟩:=id st'
  exact ⟨u,rfl,oY (s:={ s with heap:=h' }) e c d (by decide) ⟨x,H,I1,ru,⟨rfl,fun ys hy=>by rw [I.list_inj hy hq]; exact hx⟩,st',fun b hb=>(hf b hb).1⟩⟩
 done:=by
  intro X hP hw hK hc i pins s σ H E I hf st hg
  subst hP hw hK
  obtain ⟨xs,hq,hx⟩:=hg
  obtain ⟨its,rv,p,hz⟩:=I.list hq
  obtain ⟨f0,f1,f2,f3,f4,f5⟩:=hf it (by simp)
  have hl:=rv.length
  exact wpAny_pyNext_list_end (I.ok.hd hc) st p.isList (by simp; omega) fun h' eb=>⟨rfl,I.turned (t':=s.toks) (fun b o hb e=>eb b o hb e) f0 f1 f3 f4 f5⟩
 self:=fun _ _ _ _ _ st h=>wpAny_pyIter_listiter st h
theorem xK {P:Program}{w:World}{K:PySem.W.Frag}{tg:Expr} (a it:Addr):Turn P w K tg (Itt K a) [it] it (fun i h=>h.IsTupleIter it a i) where
 mem:=by simp
 obj:=fun i h st b hb=>by
  have e:b=it:=by simpa using hb
  subst e
  obtain ⟨o,e,c,d⟩:=st
  exact ⟨o,e,fun v z=>by rw [d] at z; cases z⟩
 keep:=fun i h h' st k=>st.at fun o e=>k it (by simp) o e
 item:=by
  intro X hP hw hK hc i pins s σ H E I hf st hg
  subst hP hw hK
  obtain ⟨xs,x,hq,hx⟩:=hg
  obtain ⟨its,rv,p,hz⟩:=I.tuple hq
  obtain ⟨u,hu,ru⟩:=rv.get hx
  obtain ⟨f0,f1,f2,f3,f4,f5⟩:=hf it (by simp)
  refine wpAny_pyNext_tuple_item st (show s.heap.IsTuple a its.toArray from p) (x:=u) (by simpa using hu) fun h' st' sb => ?_
  have I1:Inv X pins σ H { s with heap:=h' }:=I.turned (t':=s.toks) (fun b o hb e=>(sb.2 b hb).trans e) f0 f1 f3 f4 f5
  obtain ⟨o,e,c,d⟩:=id st'
  exact ⟨u,rfl,oY (s:={ s with heap:=h' }) e c d (by decide) ⟨x,H,I1,ru,⟨rfl,fun ys hy=>by rw [I.tuple_inj hy hq]; exact hx⟩,st',fun b hb=>(hf b hb).1⟩⟩
 done:=by
  intro X hP hw hK hc i pins s σ H E I hf st hg
  subst hP hw hK
  obtain ⟨xs,hq,hx⟩:=hg
  obtain ⟨its,rv,p,hz⟩:=I.tuple hq
  obtain ⟨f0,f1,f2,f3,f4,f5⟩:=hf it (by simp)
  have hl:=rv.length
  exact wpAny_pyNext_tuple_end (I.ok.hd hc) st (show s.heap.IsTuple a its.toArray from p) (by simp; omega) fun h' eb=>⟨rfl,I.turned (t':=s.toks) (fun b o hb e=>eb b o hb e) f0 f1 f3 f4 f5⟩
 self:=fun _ _ _ _ _ st h=>wpAny_pyIter_tupleiter st h
theorem xF {P:Program}{w:World}{K:PySem.W.Frag}{tg:Expr} (it:Addr) (lo:Int) (n:Nat):Turn P w K tg (Itr lo n) [it] it (fun i h=>IsRangeIter h it (lo+(i:Nat) * 1) ((n:Int) - (i:Nat)) 1) where
 mem:=by simp
 obj:=fun i h st b hb=>by
  have e:b=it:=by simpa using hb
  subst e
  exact ⟨_,st,fun v z=>by
   have z':Data.fields _=Data.cell v:=z
   cases z'⟩
 keep:=fun i h h' st k=>k it (by simp) _ st
 item:=by
  intro X hP hw hK hc i pins s σ H E I hf st hg
  subst hP hw hK
  obtain ⟨f0,f1,f2,f3,f4,f5⟩:=hf it (by simp)
  have W:=Walks.range (prog:=X.prog) (w:=X.w) (I.ok.hd hc) it lo 1 n
  refine W.item i s _ _ hg st fun v h' tk hv st' kk => ?_
  obtain ⟨t,rfl⟩:=hv
  have I1:Inv X pins σ H { s with heap:=h',toks:=tk }:=I.turned (fun b o hb e=>kk b o (by simpa using hb) e) f0 f1 f3 f4 f5
  refine ⟨_,rfl,oY (s:={ s with heap:=h',toks:=tk }) (n := "range_iterator") st' rfl rfl (by decide) ⟨.int (lo+i),H,I1,⟨t,?_⟩,⟨rfl,rfl⟩,st',fun b hb=>(hf b hb).1⟩⟩
  rw [Int.mul_one]
 done:=by
  intro X hP hw hK hc i pins s σ H E I hf st hg
  subst hP hw hK
  obtain ⟨f0,f1,f2,f3,f4,f5⟩:=hf it (by simp)
  exact wpAny_pyNext_range_end (I.ok.hd hc) st (by have:n≤i:=hg; omega) fun h' eb=>⟨rfl,I.turned (t':=s.toks) (fun b o hb e=>eb b o hb e) f0 f1 f3 f4 f5⟩
 self:=fun _ _ _ _ _ st h=>wpAny_pyIter_rangeiter st h
end L2
namespace L2
open PySem PySem.Spec PyProof.Rows
section
variable {X:Cx}{tg:Expr}
theorem rX {pins:List (Addr × Obj)}{σ:St}{H:Hp}{s:Shared}{R:It→Hp→Prop}{E:Value→Shared→Prop}{lo hi:Int}{t u v:Tok}{tk:Nat} (I:Inv X pins σ H s) (h1 : -(2 ^ 62)≤lo) (h2:lo < 2 ^ 62) (h3 : -(2 ^ 62)≤hi) (h4:hi < 2 ^ 62)
  (q:R (Itr lo (hi - lo).toNat) H):wpAny (model X.prog X.w) X.A (pyIter (.ref s.heap.objs.size)) (PIE X pins σ tg R) E { s with heap:=s.heap.push { cls := .type "range", data := .fields #[.int lo t, .int hi u, .int 1 v] },toks:=tk }:=by
 refine wpAny_pyIter_range (IsRange.new ..) (small_one h1 h2 h3 h4) ?_
 have I1:Inv X pins σ H { s with heap:=s.heap.push { cls := .type "range", data := .fields #[.int lo t, .int hi u, .int 1 v] },toks:=tk }:=I.kept fun b o e=>Heap.get?_push_of_some _ e
 refine ⟨(s.heap.push { cls := .type "range", data := .fields #[.int lo t, .int hi u, .int 1 v] }).objs.size,[(s.heap.push { cls := .type "range", data := .fields #[.int lo t, .int hi u, .int 1 v] }).objs.size],_,_,H,rfl,
  I1.kept (t':=tk) fun b o e=>Heap.get?_push_of_some _ e,xF _ lo (hi - lo).toNat,?_,fun b hb => ?_,q⟩
 ·have e1:lo+((0:Nat):Int) * 1=lo:=by simp
  have e2:(((hi - lo).toNat:Nat):Int) - ((0:Nat):Int)=Builtin.Range.rangeSize lo hi 1:=by rw [rangeSize_one]; split <;> omega
  show IsRangeIter _ _ (lo+((0:Nat):Int) * 1) ((((hi - lo).toNat:Nat):Int) - ((0:Nat):Int)) 1
  rw [e1,e2]
  exact Heap.get?_push_size _ rfl
 ·have e:b=(s.heap.push { cls := .type "range", data := .fields #[.int lo t, .int hi u, .int 1 v] }).objs.size:=by simpa using hb
  subst e
  exact I1.fpOk (Nat.le_refl _) (I1.hok.fresh (Nat.le_refl _))
def aHU (ta:TA):TI:=fun σ H R=>ta σ H fun vs H1=>∃ j:Int,vs=[.int j] ∧ -(2 ^ 62)≤j∧j < 2 ^ 62∧R (Itr 0 j.toNat) H1
def aH6 (ta:TA):TI:=fun σ H R=>ta σ H fun vs H1=>∃ i j:Int,vs=[.int i, .int j]∧(-(2 ^ 62)≤i∧i < 2 ^ 62 ∧ -(2 ^ 62)≤j∧j < 2 ^ 62)∧R (Itr i (j - i).toNat) H1
theorem zA {a:Expr}{ta:TA}{p pos:Pos} (hg:Gl X "range") (hm:X.mg "range" = none) (ha:PA X [a] ta) (hs:starEach [a] X.env=[(false,eval a X.env)]:=by rfl):PI X tg (.Call (.Name "range" p) [a] [] pos) (aHU ta):=by
 intro pins s σ H R I h
 refine Call_ (mE I hg hm boot_range (PyProof.Rows.callWith_type1 (thn (ha pos pins s σ H _ I h) fun us s1 ⟨vs,H1,I1,r1,q1⟩ => ?_) hs rfl))
 obtain ⟨j,e,q1,q2,q⟩:=q1
 subst e
 cases r1 with
 | cons r rr =>
  cases rr
  obtain ⟨t,rfl⟩:=r
  exact call_range_1 (rX I1 (by omega) (by omega) q1 q2 (by simpa using q))
theorem yQ {a b:Expr}{ta:TA}{p pos:Pos} (hg:Gl X "range") (hm:X.mg "range" = none) (ha:PA X [a,b] ta) (hs:starEach [a,b] X.env=[(false,eval a X.env),(false,eval b X.env)]:=by rfl) (hs2:starEach [b] X.env=[(false,eval b X.env)]:=by rfl) :
  PI X tg (.Call (.Name "range" p) [a,b] [] pos) (aH6 ta):=by
 intro pins s σ H R I h
 refine Call_ (mE I hg hm boot_range (PyProof.Rows.callWith_type1 (thn (ha pos pins s σ H _ I h) fun us s1 ⟨vs,H1,I1,r1,q1⟩ => ?_) (by rw [hs,hs2]) (by rw [hs2]; rfl)))
 obtain ⟨i,j,e,⟨q1,q2,q3,q4⟩,q⟩:=q1
 subst e
 cases r1 with
 | cons r rr =>
  cases rr with
  | cons r' rr =>
   cases rr
   obtain ⟨t,rfl⟩:=r
   obtain ⟨t',rfl⟩:=r'
   exact call_range_2 (rX I1 q1 q2 q3 q4 q)
def tFor (wi:TI) (g:TG) (tb:TS):TS:=fun D σ H=>wi σ H fun J H1=>∃ W:Nat→Nat→St→Hp→Prop,(∃ m,W 0 m σ H1)∧∀ i m σ H,W i m σ H →
 (J.stop i H∧D.nx σ H)∨(J.go i H∧∃ N:St→Hp→Prop,(∀ σ' H',N σ' H'→∃ m',m' < m∧W (i+1) m' σ' H')∧∀ x H',J.yld i H x H'→g x σ H' fun σ2 H2=>tb { D with nx:=N,ct:=N,bk:=D.nx } σ2 H2)
def mL (fp:List Addr) (h:Heap):List (Addr × Obj):=fp.filterMap fun b=>(h.get? b).map fun o=>(b,o)
theorem i6 {fp:List Addr}{h:Heap}{b:Addr}{o:Obj} (hb:b∈fp) (e:h.get? b=some o):(b,o)∈mL fp h:=List.mem_filterMap.mpr ⟨b,hb,by rw [e]; rfl⟩
theorem yD {fp:List Addr}{h:Heap}{p:Addr × Obj} (hp:p∈mL fp h):p.1∈fp∧h.get? p.1=some p.2:=by
 obtain ⟨b,hb,e⟩:=List.mem_filterMap.mp hp
 cases q:h.get? b with
 | none=>rw [q] at e; cases e
 | some o =>
  rw [q] at e
  have e':(b,o)=p:=Option.some.inj e
  subst e'
  exact ⟨hb,q⟩
theorem Inv.pinned {pins:List (Addr × Obj)}{σ:St}{H:Hp}{s:Shared}{fp:List Addr} (I:Inv X pins σ H s) (hf:∀ b∈fp,kZ X pins H b) (ho:∀ b∈fp,∃ o,s.heap.get? b=some o∧∀ v,o.data ≠ .cell v):Inv X (pins++mL fp s.heap) σ H s :=
 I.pins_of fun p hp=>(List.mem_append.mp hp).elim (fun z=>I.pin p (List.mem_append_right _ z)) fun z=>by
  obtain ⟨hb,e⟩:=yD z
  obtain ⟨f0,f1,f2,_⟩:=hf p.1 hb
  obtain ⟨o,e',d⟩:=ho p.1 hb
  rw [e] at e'; cases e'
  exact ⟨e,f0,f1,f2,d⟩
theorem Inv.unpinned {pins pl:List (Addr × Obj)}{σ:St}{H:Hp}{s:Shared} (I:Inv X (pins++pl) σ H s):Inv X pins σ H s:=I.pins_of fun p hp=>I.pin p (List.mem_append_right _ (List.mem_append_left _ hp))
theorem aG6 {iter:Expr}{body:List Stmt}{wi:TI}{g:TG}{tb:TS}{pos:Pos} (hp:PassesOwn (model X.prog X.w) X.A X.env X.xe) (hc:X.calm=true) (hi:PI X tg iter wi) (hg:PG X tg g) (hb:PSs X body tb)
  (hs:∀ x,foldedSetIterable iter X.env x=pure x:=by intro _; rfl):PS X (.For tg iter body [] pos) (tFor wi g tb):=by
 intro pins s σ H D I h
 refine wpAny_For (thn (hi pins s σ H _ I h) fun v s1 h1=>thn h1 fun itv s2 h2 => ?_) hs
 obtain ⟨it,fp,tn,J,H2,e,I2,T,st2,f2,W,⟨m0,w0⟩,turn⟩:=h2
 subst e
 -- what stays true of the iterator's objects through the loop
 have stat:∀ {H':Hp},(∀ b∈fp,H' b=none)→∀ b∈fp,kZ X pins H' b:=fun hn b hb=>⟨hn b hb,(f2 b hb).2⟩
 refine codeAny_forLoop_any (fun n s'=>∃ i σ' H',Inv X pins σ' H' s'∧tn i s'.heap∧(∀ b∈fp,H' b=none)∧W i n σ' H') ?_ m0 ⟨0,σ,H2,I2,st2,fun b hb=>(f2 b hb).1,w0⟩
 rintro n s3 ⟨i,σ3,H3,I3,st3,fr3,w3⟩
 rcases turn i n σ3 H3 w3 with ⟨stop,qn⟩ | ⟨go,N,hN,step⟩
 ·refine wpAny_passesOwn hp (thn (T.done X rfl rfl rfl hc i pins s3 σ3 H3 X.xe I3 (stat fr3) st3 stop) fun r s4 ⟨hr,I4⟩ => ?_)
  subst hr
  exact wpAny_execs_nil ⟨σ3,H3,I4,qn⟩
 ·refine wpAny_passesOwn hp (thn (T.item X rfl rfl rfl hc i pins s3 σ3 H3 X.xe I3 (stat fr3) st3 go) fun r s4 ⟨u,hr,h4⟩ => ?_)
  subst hr
  refine wpAny_passesOwn hp (thn h4 fun _ s5 ⟨x,H5,I5,r5,y5,st5,fr5⟩ => ?_)
  have I5':=I5.pinned (stat fr5) (T.obj _ _ st5)
  refine wpAny_passesOwn hp (thn (hg _ s5 σ3 H5 x u _ I5' r5 (step x H5 y5)) fun _ s6 ⟨σ6,H6,I6,q6⟩ => ?_)
  refine wpAny_passesOwn hp (thn (hb _ s6 σ6 H6 _ I6 q6) fun f s7 q7 => ?_)
  have again:∀ {σ7:St}{H7:Hp},Inv X (pins++mL fp s5.heap) σ7 H7 s7→N σ7 H7→∃ m,m < n∧∃ i σ' H',Inv X pins σ' H' s7∧tn i s7.heap∧(∀ b∈fp,H' b=none)∧W i m σ' H':=fun {σ7 H7} I7 n7=>by
   obtain ⟨m',hm,w7⟩:=hN σ7 H7 n7
   refine ⟨m',hm,i+1,σ7,H7,I7.unpinned,T.keep _ _ _ st5 fun b hb o e=>(I7.pin (b,o) (List.mem_append_right _ (List.mem_append_right _ (i6 hb e)))).1,fun b hb => ?_,w7⟩
   obtain ⟨o,e,d⟩:=T.obj _ _ st5 b hb
   exact (I7.pin (b,o) (List.mem_append_right _ (List.mem_append_right _ (i6 hb e)))).2.1
  cases f with
  | next=>obtain ⟨σ7,H7,I7,n7⟩:=q7; exact again I7 n7
  | cont=>obtain ⟨σ7,H7,I7,n7⟩:=q7; exact again I7 n7
  | brk=>obtain ⟨σ7,H7,I7,q7⟩:=q7; exact ⟨σ7,H7,I7.unpinned,q7⟩
  | ret v=>obtain ⟨x7,σ7,H7,I7,r7,q7⟩:=q7; exact ⟨x7,σ7,H7,I7.unpinned,r7,q7⟩
end
end L2
namespace L2
open PySem PySem.Spec PyProof.Rows
abbrev R2:=V→V→Hp→VK→Prop
def OpR (X:Cx) (f:Value→Value→Sem Value) (r:R2):Prop :=
 ∀ (pins:List (Addr × Obj)) (s:Shared) (σ:St) (H:Hp) (x y:V) (v u:Value) (Q:VK),Inv X pins σ H s→RelV x v→RelV y u→r x y H Q →
  wpAny (model X.prog X.w) X.A (f v u) (EP X pins σ Q) X.xe s
def UnR (X:Cx) (f:Value→Sem Value) (r:V→Hp→VK→Prop):Prop :=
 ∀ (pins:List (Addr × Obj)) (s:Shared) (σ:St) (H:Hp) (x:V) (v:Value) (Q:VK),Inv X pins σ H s→RelV x v→r x H Q →
  wpAny (model X.prog X.w) X.A (f v) (EP X pins σ Q) X.xe s
def eO (X:Cx) (f:Value) (r:List V→Hp→VK→Prop):Prop :=
 ∀ (pins:List (Addr × Obj)) (s:Shared) (σ:St) (H:Hp) (xs:List V) (us:List Value) (Q:VK),Inv X pins σ H s→Vals xs us→r xs H Q →
  wpAny (model X.prog X.w) X.A (call f us) (EP X pins σ Q) X.xe s
def TruR (X:Cx) (r:V→Hp→(Bool→Hp→Prop)→Prop):Prop :=
 ∀ (pins:List (Addr × Obj)) (s:Shared) (σ:St) (H:Hp) (x:V) (v:Value) (Q:Bool→Hp→Prop),Inv X pins σ H s→RelV x v→r x H Q →
  wpAny (model X.prog X.w) X.A (truthy v) (TP X pins σ Q) X.xe s
def tOp (r:R2) (ta tb:TE):TE:=fun σ H Q=>ta σ H fun x H1=>tb σ H1 fun y H2=>r x y H2 Q
def tUn (r:V→Hp→VK→Prop) (ta:TE):TE:=fun σ H Q=>ta σ H fun x H1=>r x H1 Q
def rI (C:Int→Int→Prop) (g:Int→Int→V):R2:=fun x y H Q=>∃ i j,x = .int i∧y = .int j∧C i j∧Q (g i j) H
def rI0 (g:Int→Int→V):R2:=fun x y H Q=>∃ i j,x = .int i∧y = .int j∧Q (g i j) H
def rU (g:Int→V):V→Hp→VK→Prop:=fun x H Q=>∃ i,x = .int i∧Q (g i) H
section
variable {X:Cx}{a b c:Expr}{ta tb tc:TE}{pos:Pos}
theorem aBN (ha:PE X a ta) (hb:PE X b tb) {pins:List (Addr × Obj)}{s:Shared}{σ:St}{H:Hp}{R:V→V→Hp→Prop} (I:Inv X pins σ H s)
  (h:ta σ H fun x H1=>tb σ H1 fun y H2=>R x y H2) {Q:Value→Shared→Prop}{f:Value→Value→Sem Value}
  (hf:∀ v u s2 x y H2,Inv X pins σ H2 s2→RelV x v→RelV y u→R x y H2→wpAny (model X.prog X.w) X.A (f v u) Q X.xe s2) :
  wpAny (model X.prog X.w) X.A (eval a X.env) (fun v s₁=>wpAny (model X.prog X.w) X.A (eval b X.env) (fun u s₂=>wpAny (model X.prog X.w) X.A (f v u) Q X.xe s₂) X.xe s₁) X.xe s:=by
 refine thn (ha pins s σ H _ I h) fun v s1 ⟨x,H1,I1,r1,q1⟩ => ?_
 refine thn (hb pins s1 σ H1 _ I1 q1) fun u s2 ⟨y,H2,I2,r2,q2⟩ => ?_
 exact hf v u s2 x y H2 I2 r1 r2 q2
theorem aHM {op:Operator}{r:R2} (ho:OpR X (binaryOp op) r) (ha:PE X a ta) (hb:PE X b tb):PE X (.BinOp a op b pos) (tOp r ta tb):=by
 intro pins s σ H Q I h
 exact wpAny_BinOp (aBN ha hb I h fun v u s2 x y H2 I2 rx ry q=>ho pins s2 σ H2 x y v u Q I2 rx ry q)
theorem aHB {op:UnaryOp}{r:V→Hp→VK→Prop} (ho:UnR X (unaryOp op) r) (ha:PE X a ta):PE X (.UnaryOp op a pos) (tUn r ta):=by
 intro pins s σ H Q I h
 exact UnaryOp_ (thn (ha pins s σ H _ I h) fun v s1 ⟨x,H1,I1,r1,q1⟩=>ho pins s1 σ H1 x v Q I1 r1 q1)
theorem opI {f:Value→Value→Sem Value}{C:Int→Int→Prop}{g:Int→Int→Int}
  (rule:∀ (i j:Int) (t u:Tok) (s:Shared) (Q:Value→Shared→Prop) (E:Value→Shared→Prop),C i j→Q (.int (g i j) s.toks) { s with toks:=s.toks+1 }→wpAny (model X.prog X.w) X.A (f (.int i t) (.int j u)) Q E s) :
  OpR X f (rI C fun i j => .int (g i j)):=by
 intro pins s σ H x y v u Q I rx ry h
 obtain ⟨i,j,rfl,rfl,hc,q⟩:=h
 obtain ⟨t,rfl⟩:=rx
 obtain ⟨t',rfl⟩:=ry
 exact rule i j t t' s _ _ hc ⟨.int (g i j),H,I.tok _,⟨_,rfl⟩,q⟩
theorem opI0 {f:Value→Value→Sem Value}{g:Int→Int→Int}
  (rule:∀ (i j:Int) (t u:Tok) (s:Shared) (Q:Value→Shared→Prop) (E:Value→Shared→Prop),Q (.int (g i j) s.toks) { s with toks:=s.toks+1 }→wpAny (model X.prog X.w) X.A (f (.int i t) (.int j u)) Q E s) :
  OpR X f (rI0 fun i j => .int (g i j)):=by
 intro pins s σ H x y v u Q I rx ry h
 obtain ⟨i,j,rfl,rfl,q⟩:=h
 obtain ⟨t,rfl⟩:=rx
 obtain ⟨t',rfl⟩:=ry
 exact rule i j t t' s _ _ ⟨.int (g i j),H,I.tok _,⟨_,rfl⟩,q⟩
theorem xR {f:Value→Value→Sem Value}{g:Int→Int→Bool}
  (rule:∀ (i j:Int) (t u:Tok) (s:Shared) (Q:Value→Shared→Prop) (E:Value→Shared→Prop),Q (.bool (g i j)) s→wpAny (model X.prog X.w) X.A (f (.int i t) (.int j u)) Q E s) :
  OpR X f (rI0 fun i j => .bl (g i j)):=by
 intro pins s σ H x y v u Q I rx ry h
 obtain ⟨i,j,rfl,rfl,q⟩:=h
 obtain ⟨t,rfl⟩:=rx
 obtain ⟨t',rfl⟩:=ry
 exact rule i j t t' s _ _ ⟨.bl (g i j),H,I,rfl,q⟩
def CDiv (i j:Int):Prop:=0 < j∧j < 1073741824
def CPow (i j:Int):Prop:=0≤j∧j≤1000000∧i.natAbs < 2 ^ 64
def CMul (i j:Int):Prop:=(-(2 ^ 64) < i∧i < 2 ^ 64)∨(-(2 ^ 64) < j∧j < 2 ^ 64)
theorem CMul.ok {i j:Int} (h:CMul i j):IntMulOk i j:=by
 rcases h with ⟨h1,h2⟩ | ⟨h1,h2⟩
 ·exact .of_left (intBits_le_64 h1 h2)
 ·exact .of_right (intBits_le_64 h1 h2)
theorem b6:OpR X (binaryOp .Add) (rI0 fun i j => .int (i+j)):=opI0 fun _ _ _ _ _ _ _ q=>add_int q
theorem dR:OpR X (binaryOp .Sub) (rI0 fun i j => .int (i - j)):=opI0 fun _ _ _ _ _ _ _ q=>sub_int q
theorem fZ:OpR X (binaryOp .Mult) (rI CMul fun i j => .int (i * j)):=opI fun _ _ _ _ _ _ _ hc q=>mul_int q hc.ok
theorem vX:OpR X (binaryOp .FloorDiv) (rI CDiv fun i j => .int (i / j)):=opI fun i j _ _ _ _ _ hc q=>by
 have h1:(0:Int) < j:=hc.1
 have h2:j < 1073741824:=hc.2
 exact floordiv_int (by omega) (by rw [Int.fdiv_eq_ediv_of_nonneg i (by omega)]; exact q) (.inl (PyProof.noPylong_small (by omega)))
theorem jL:OpR X (binaryOp .Mod) (rI (fun _ j=>0 < j) fun i j => .int (i % j)):=opI fun i j _ _ _ _ _ hc q=>by
 have h1:(0:Int) < j:=hc
 exact mod_int' (by omega) (by rw [Int.fmod_eq_emod_of_nonneg i (by omega)]; exact q)
theorem vI:OpR X (binaryOp .Mod) (rI (fun _ j=>j≠0) fun i j => .int (i.fmod j)):=opI fun _ _ _ _ _ _ _ hc q=>mod_int' hc q
theorem kR:OpR X (binaryOp .Pow) (rI CPow fun i j => .int (i ^ j.toNat)):=opI fun _ _ _ _ _ _ _ hc q=>pow_int_small hc.1 hc.2.1 hc.2.2 q
theorem unI {f:Value→Sem Value}{g:Int→Int}
  (rule:∀ (i:Int) (t:Tok) (s:Shared) (Q:Value→Shared→Prop) (E:Value→Shared→Prop),Q (.int (g i) s.toks) { s with toks:=s.toks+1 }→wpAny (model X.prog X.w) X.A (f (.int i t)) Q E s) :
  UnR X f (rU fun i => .int (g i)):=by
 intro pins s σ H x v Q I rx h
 obtain ⟨i,rfl,q⟩:=h
 obtain ⟨t,rfl⟩:=rx
 exact rule i t s _ _ ⟨.int (g i),H,I.tok _,⟨_,rfl⟩,q⟩
theorem jJ:UnR X (unaryOp .USub) (rU fun i => .int (-i)):=unI fun _ _ _ _ _ q=>neg_int q
end
def scal:V→V→Bool
 | .non, .non=>true | .non, .int _=>true | .int _, .non=>true | .non, .bl _=>true | .bl _, .non=>true | .non, .str _=>true | .str _, .non=>true
 | .int _, .int _=>true | .bl _, .bl _=>true | .str _, .str _=>true | .byt _, .byt _=>true
 | .int _, .str _=>true | .str _, .int _=>true | .bl _, .str _=>true | .str _, .bl _=>true
 | _,_=>false
def rEq:R2:=fun x y H Q=>scal x y=true∧Q (.bl (decide (x=y))) H
def rNe:R2:=fun x y H Q=>scal x y=true∧Q (.bl (!decide (x=y))) H
theorem vD {i j:Int}:decide (V.int i=V.int j)=(i == j):=by
 rw [Bool.eq_iff_iff]
 simp
theorem aAA {i j:Bool}:decide (V.bl i=V.bl j)=(i == j):=by
 rw [Bool.eq_iff_iff]
 simp
theorem vJ {i j:Str}:decide (V.str i=V.str j)=(i == j):=by
 rw [Bool.eq_iff_iff]
 simp
theorem vP {i j:Array UInt8}:decide (V.byt i=V.byt j)=(i.toList == j.toList):=by
 rw [Bool.eq_iff_iff]
 cases i
 cases j
 simp
section
variable {X:Cx}{a b c:Expr}{ta tb tc:TE}{pos:Pos}
theorem bH {pins:List (Addr × Obj)}{σ:St}{H:Hp}{s:Shared}{Q:VK}{k k':Bool} (I:Inv X pins σ H s) (q:Q (.bl k) H) (e:k=k'):EP X pins σ Q (.bool k') s:=by
 subst e
 exact ⟨.bl k,H,I,rfl,q⟩
theorem gW:OpR X (compareOp .Eq) rEq:=by
 intro pins s σ H x y v u Q I rx ry h
 obtain ⟨hs,q⟩:=h
 cases x with
 | non =>
  cases rx
  cases y with
  | non=>cases ry; exact PySem.EqNone.eq_none_none (bH I q (by simp))
  | bl j=>cases ry; exact PySem.EqNone.eq_none_bool (bH I q (by simp))
  | int j=>obtain ⟨t',rfl⟩:=ry; exact PySem.EqNone.eq_none_int (bH I q (by simp))
  | str j=>obtain ⟨t',rfl⟩:=ry; exact PySem.EqNone.eq_none_str (bH I q (by simp))
  | _=>exact absurd (show false=true from hs) Bool.false_ne_true
 | bl i =>
  cases rx
  cases y with
  | non=>cases ry; exact PySem.EqNone.eq_bool_none (bH I q (by simp))
  | bl j=>cases ry; exact eq_bool (bH I q aAA)
  | str j=>obtain ⟨t',rfl⟩:=ry; exact PySem.EqMixed.eq_bool_str (bH I q (by simp))
  | _=>exact absurd (show false=true from hs) Bool.false_ne_true
 | int i =>
  obtain ⟨t,rfl⟩:=rx
  cases y with
  | non=>cases ry; exact PySem.EqNone.eq_int_none (bH I q (by simp))
  | int j=>obtain ⟨t',rfl⟩:=ry; exact eq_int (bH I q vD)
  | str j=>obtain ⟨t',rfl⟩:=ry; exact PySem.EqMixed.eq_int_str (bH I q (by simp))
  | _=>exact absurd (show false=true from hs) Bool.false_ne_true
 | str i =>
  obtain ⟨t,rfl⟩:=rx
  cases y with
  | non=>cases ry; exact PySem.EqNone.eq_str_none (bH I q (by simp))
  | bl j=>cases ry; exact PySem.EqMixed.eq_str_bool (bH I q (by simp))
  | int j=>obtain ⟨t',rfl⟩:=ry; exact PySem.EqMixed.eq_str_int (bH I q (by simp))
  | str j=>obtain ⟨t',rfl⟩:=ry; exact eq_str (bH I q vJ)
  | _=>exact absurd (show false=true from hs) Bool.false_ne_true
 | byt i =>
  obtain ⟨t,rfl⟩:=rx
  cases y with
  | byt j=>obtain ⟨t',rfl⟩:=ry; exact PySem.W.eq_bytes (bH I q vP)
  | _=>exact absurd (show false=true from hs) Bool.false_ne_true
 | _=>cases y <;> exact absurd (show false=true from hs) Bool.false_ne_true
theorem iC:OpR X (compareOp .NotEq) rNe:=by
 intro pins s σ H x y v u Q I rx ry h
 obtain ⟨hs,q⟩:=h
 cases x with
 | non =>
  cases rx
  cases y with
  | non=>cases ry; exact PySem.EqNone.ne_none_none (bH I q (by simp))
  | bl j=>cases ry; exact PySem.EqNone.ne_none_bool (bH I q (by simp))
  | int j=>obtain ⟨t',rfl⟩:=ry; exact PySem.EqNone.ne_none_int (bH I q (by simp))
  | str j=>obtain ⟨t',rfl⟩:=ry; exact PySem.EqNone.ne_none_str (bH I q (by simp))
  | _=>exact absurd (show false=true from hs) Bool.false_ne_true
 | bl i =>
  cases rx
  cases y with
  | non=>cases ry; exact PySem.EqNone.ne_bool_none (bH I q (by simp))
  | bl j=>cases ry; exact ne_bool (bH I q (congrArg not aAA))
  | str j=>obtain ⟨t',rfl⟩:=ry; exact PySem.EqMixed.ne_bool_str (bH I q (by simp))
  | _=>exact absurd (show false=true from hs) Bool.false_ne_true
 | int i =>
  obtain ⟨t,rfl⟩:=rx
  cases y with
  | non=>cases ry; exact PySem.EqNone.ne_int_none (bH I q (by simp))
  | int j=>obtain ⟨t',rfl⟩:=ry; exact ne_int (bH I q (congrArg not vD))
  | str j=>obtain ⟨t',rfl⟩:=ry; exact PySem.EqMixed.ne_int_str (bH I q (by simp))
  | _=>exact absurd (show false=true from hs) Bool.false_ne_true
 | str i =>
  obtain ⟨t,rfl⟩:=rx
  cases y with
  | non=>cases ry; exact PySem.EqNone.ne_str_none (bH I q (by simp))
  | bl j=>cases ry; exact PySem.EqMixed.ne_str_bool (bH I q (by simp))
  | int j=>obtain ⟨t',rfl⟩:=ry; exact PySem.EqMixed.ne_str_int (bH I q (by simp))
  | str j=>obtain ⟨t',rfl⟩:=ry; exact ne_str (bH I q (congrArg not vJ))
  | _=>exact absurd (show false=true from hs) Bool.false_ne_true
 | byt i =>
  obtain ⟨t,rfl⟩:=rx
  cases y with
  | byt j=>obtain ⟨t',rfl⟩:=ry; exact PySem.W.ne_bytes (bH I q (congrArg not vP))
  | _=>exact absurd (show false=true from hs) Bool.false_ne_true
 | _=>cases y <;> exact absurd (show false=true from hs) Bool.false_ne_true
theorem pE:OpR X (compareOp .Lt) (rI0 fun i j => .bl (decide (i < j))):=xR fun _ _ _ _ _ _ _ q=>lt_int q
theorem rO:OpR X (compareOp .LtE) (rI0 fun i j => .bl (decide (i≤j))):=xR fun _ _ _ _ _ _ _ q=>le_int q
theorem rQ:OpR X (compareOp .Gt) (rI0 fun i j => .bl (decide (j < i))):=xR fun _ _ _ _ _ _ _ q=>gt_int q
theorem aC0:OpR X (compareOp .GtE) (rI0 fun i j => .bl (decide (j≤i))):=xR fun _ _ _ _ _ _ _ q=>ge_int q
theorem rC:OpR X (compareOp .In) (fun x y H Q=>∃ i j,x = .str i∧y = .str j∧Q (.bl (!(Builtin.Str.occurrences j i 0 j.length 1).isEmpty)) H):=by
 intro pins s σ H x y v u Q I rx ry h
 obtain ⟨i,j,rfl,rfl,q⟩:=h
 obtain ⟨t,rfl⟩:=rx
 obtain ⟨t',rfl⟩:=ry
 exact in_str (bH I q rfl)
theorem nomark (b:Expr) {op:CmpOp} (h:op ≠ .In:=by decide) (h2:op ≠ .NotIn:=by decide):behindInMarks op b=false:=by
 have e1:(op == CmpOp.In)=false:=by cases op <;> first | rfl | exact absurd rfl h
 have e2:(op == CmpOp.NotIn)=false:=by cases op <;> first | rfl | exact absurd rfl h2
 cases b <;> simp [behindInMarks,e1,e2]
theorem aER {op:CmpOp}{r:R2} (ho:OpR X (compareOp op) r) (ha:PE X a ta) (hb:PE X b tb) (hm:behindInMarks op b=false):PE X (.Compare a [op] [b] pos) (tOp r ta tb):=by
 intro pins s σ H Q I h
 exact wpAny_Compare1 (aBN ha hb I h fun v u s2 x y H2 I2 rx ry q=>ho pins s2 σ H2 x y v u Q I2 rx ry q) hm
def aHC (t:TE):TT:=fun σ H Q=>t σ H fun x H'=>∃ k,x = .bl k∧Q k H'
theorem aDS {op:CmpOp}{r:R2} (ho:OpR X (compareOp op) r) (ha:PE X a ta) (hb:PE X b tb) (hm:behindInMarks op b=false):PT X (.Compare a [op] [b] pos) (aHC (tOp r ta tb)):=by
 intro pins s σ H Q I h
 refine wpAny_isTrue_Compare1 (thn (ha pins s σ H _ I h) fun v s1 ⟨x,H1,I1,r1,q1⟩=>thn (hb pins s1 σ H1 _ I1 q1) fun u s2 ⟨y,H2,I2,r2,q2⟩ =>
  thn (ho pins s2 σ H2 x y v u _ I2 r1 r2 q2) fun c s3 ⟨z,H3,I3,r3,k,e,q3⟩ => ?_) hm
 subst e
 cases r3
 exact wpAny_truthy_bool ⟨H3,I3,q3⟩
def aGP (r r':R2) (ta tb tc:TE):TE:=fun σ H Q=>ta σ H fun x H1=>tb σ H1 fun y H2=>r x y H2 fun z H3=>∃ k,z = .bl k ∧
 (if k=true then tc σ H3 fun w' H4=>r' y w' H4 Q else Q (.bl false) H3)
theorem aCD {op op':CmpOp}{r r':R2} (ho:OpR X (compareOp op) r) (ho':OpR X (compareOp op') r') (ha:PE X a ta) (hb:PE X b tb) (hc:PE X c tc)
  (hm:lastMarks [op,op'] [b,c]=false:=by with_unfolding_all rfl):PE X (.Compare a [op,op'] [b,c] pos) (aGP r r' ta tb tc):=by
 intro pins s σ H Q I h
 refine Compare_chain (thn (ha pins s σ H _ I h) fun v s1 ⟨x,H1,I1,r1,q1⟩=>chain_link (thn (hb pins s1 σ H1 _ I1 q1) fun u s2 ⟨y,H2,I2,r2,q2⟩ =>
  thn (ho pins s2 σ H2 x y v u _ I2 r1 r2 q2) fun d s3 ⟨z,H3,I3,r3,k,e,q3⟩ => ?_)) hm
 subst e
 cases r3
 refine wpAny_truthy_bool ?_
 cases k with
 | false=>exact ite_ff ⟨.bl false,H3,I3,rfl,q3⟩
 | true=>exact ite_tt (chain_last (thn (hc pins s3 σ H3 _ I3 q3) fun w' s4 ⟨z',H4,I4,r4,q4⟩=>ho' pins s4 σ H4 y z' u w' Q I4 r2 r4 q4))
def TruV (K:PySem.W.Frag) (x:V) (H:Hp) (k:Bool):Prop :=
 match x with
 | .non=>k=false
 | .bl b=>k=b
 | .int i=>k=(i != 0)
 | .str y=>y.length≤sizeLine∧k=((y.length:Int) != 0)
 | .byt y=>y.size≤sizeLine∧k=((y.size:Int) != 0)
 | .ref p=>(∃ xs,SqL K H p xs∧k = !xs.isEmpty)∨(∃ xs,SqT K H p xs∧k = !xs.isEmpty)∨∃ kvs,H p=some (.dK kvs)∧k = !kvs.isEmpty
 | _=>False
theorem xW {κ:Type}{kvs:List (κ × V)}{vs:List (κ × Value)} (r:KV kvs vs):(!vs.isEmpty) = !kvs.isEmpty:=by
 cases r <;> rfl
theorem oW {xs:List V}{its:List Value} (r:Vals xs its):(!its.toArray.isEmpty) = !xs.isEmpty:=by
 cases r <;> simp
theorem line63:(sizeLine:Nat) < 2 ^ 63:=by rw [sizeLine_eq]; decide
theorem aGX:TruR X (fun x H Q=>∃ k,TruV X.K x H k∧Q k H):=by
 intro pins s σ H x v Q I rx h
 obtain ⟨k,e,q⟩:=h
 have hl:=line63
 have hs:sizeLine=16777216:=sizeLine_eq
 cases x with
 | non =>
  cases rx
  have e':k=false:=e
  subst e'
  exact truthy_none ⟨H,I,q⟩
 | bl b =>
  cases rx
  have e':k=b:=e
  subst e'
  exact wpAny_truthy_bool ⟨H,I,q⟩
 | int i =>
  obtain ⟨t,rfl⟩:=rx
  have e':k=(i != 0):=e
  subst e'
  exact PySem.P.truthy_int ⟨H,I,q⟩
 | str y =>
  obtain ⟨t,rfl⟩:=rx
  obtain ⟨hy,e'⟩:y.length≤sizeLine∧k=((y.length:Int) != 0):=e
  subst e'
  exact PySem.P.truthy_str (by omega) ⟨H,I.tok _,q⟩
 | byt y =>
  obtain ⟨t,rfl⟩:=rx
  obtain ⟨hy,e'⟩:y.size≤sizeLine∧k=((y.size:Int) != 0):=e
  subst e'
  exact PySem.W.truthy_bytes (by omega) ⟨H,I.tok _,q⟩
 | ref p =>
  cases rx
  have e':(∃ xs,SqL X.K H p xs∧k = !xs.isEmpty)∨(∃ xs,SqT X.K H p xs∧k = !xs.isEmpty)∨∃ kvs,H p=some (.dK kvs)∧k = !kvs.isEmpty:=e
  rcases e' with ⟨xs,hx,e'⟩ | ⟨xs,hx,e'⟩ | ⟨kvs,hx,e'⟩
  ·subst e'
   obtain ⟨its,r,pl,hz⟩:=I.list hx
   have hlen:=r.length
   exact wpAny_truthy_list pl.isList (by simp only [List.size_toArray]; omega) ⟨H,I.tok _,by rw [oW r]; exact q⟩
  ·subst e'
   obtain ⟨its,r,pl,hz⟩:=I.tuple hx
   have hlen:=r.length
   exact truthy_tuple pl (by simp only [List.size_toArray]; omega) ⟨H,I.tok _,by rw [oW r]; exact q⟩
  ·subst e'
   obtain ⟨hz,hS,vs,r,m⟩:kvs.length≤sizeLine∧(p == sysModules)=false∧∃ vs,KV kvs vs∧s.heap.DictOf (pV X.prog X.w) p vs:=I.hok p _ hx
   have hlen:kvs.length=vs.length:=Paired.length r
   exact wpAny_truthy_dict hS m (by omega) ⟨H,I.tok _,by rw [xW r]; exact q⟩
 | _=>exact (show False from e).elim
theorem aCL (ha:PE X a ta) (he:∀ whole,isTrue a X.env whole=(do let v ← whole; standAt a.pos; holding [v] (truthy v))) :
  PT X a (fun σ H Q=>ta σ H fun x H'=>∃ k,TruV X.K x H' k∧Q k H'):=by
 intro pins s σ H Q I h
 exact isTrue_plain (thn (ha pins s σ H _ I h) fun v s1 ⟨x,H1,I1,r1,q1⟩=>aGX pins s1 σ H1 x v Q I1 r1 q1) (he _)
theorem cG:OpR X (binaryOp .Add) (fun x y H Q=>∃ i j,x = .str i∧y = .str j∧i.length+j.length≤sizeLine∧Q (.str (i++j)) H):=by
 intro pins s σ H x y v u Q I rx ry h
 obtain ⟨i,j,rfl,rfl,hz,q⟩:=h
 obtain ⟨t,rfl⟩:=rx
 obtain ⟨t',rfl⟩:=ry
 exact add_str (fun t' tk=>⟨.str (i++j),H,I.tok _,⟨_,rfl⟩,q⟩) hz
theorem vals1 {x:V}{us:List Value} (r:Vals [x] us):∃ u,us=[u]∧RelV x u:=by
 cases r with
 | cons r1 r2=>cases r2; exact ⟨_,rfl,r1⟩
theorem vals2 {x y:V}{us:List Value} (r:Vals [x,y] us):∃ u w',us=[u,w']∧RelV x u∧RelV y w':=by
 cases r with
 | cons r1 r2 =>
  cases r2 with
  | cons r3 r4=>cases r4; exact ⟨_,_,rfl,r1,r3⟩
theorem oP:eO X (.builtin "abs") (fun xs H Q=>∃ i,xs=[.int i]∧Q (.int (if i < 0 then -i else i)) H):=by
 intro pins s σ H xs us Q I r h
 obtain ⟨i,rfl,q⟩:=h
 obtain ⟨u,rfl,t,rfl⟩:=vals1 r
 exact call_abs_int fun u tk=>⟨.int (if i < 0 then -i else i),H,I.tok _,⟨_,rfl⟩,q⟩
theorem iP (hc:X.calm=true):eO X (.builtin "max") (fun xs H Q=>∃ i j,xs=[.int i, .int j]∧Q (.int (if j > i then j else i)) H):=by
 intro pins s σ H xs us Q I r h
 obtain ⟨i,j,rfl,q⟩:=h
 obtain ⟨u,w',rfl,⟨t,rfl⟩,⟨t',rfl⟩⟩:=vals2 r
 refine max_two_ints (I.ok.hd hc) fun h' tk k=>⟨_,H,I.kept k,?_,q⟩
 by_cases hj:j > i
 ·rw [if_pos hj,if_pos hj]; exact ⟨_,rfl⟩
 ·rw [if_neg hj,if_neg hj]; exact ⟨_,rfl⟩
theorem aAI (hc:X.calm=true):eO X (.builtin "min") (fun xs H Q=>∃ i j,xs=[.int i, .int j]∧Q (.int (if j < i then j else i)) H):=by
 intro pins s σ H xs us Q I r h
 obtain ⟨i,j,rfl,q⟩:=h
 obtain ⟨u,w',rfl,⟨t,rfl⟩,⟨t',rfl⟩⟩:=vals2 r
 refine min_two_ints (I.ok.hd hc) fun h' tk k=>⟨_,H,I.kept k,?_,q⟩
 by_cases hj:j < i
 ·rw [if_pos hj,if_pos hj]; exact ⟨_,rfl⟩
 ·rw [if_neg hj,if_neg hj]; exact ⟨_,rfl⟩
theorem aAW:eO X (.type "int") (fun xs H Q=>(∃ i,xs=[.int i]∧Q (.int i) H)∨∃ k,xs=[.bl k]∧Q (.int (if k then 1 else 0)) H):=by
 intro pins s σ H xs us Q I r h
 rcases h with ⟨i,rfl,q⟩ | ⟨k,rfl,q⟩
 ·obtain ⟨u,rfl,t,rfl⟩:=vals1 r
  exact call_int_int ⟨.int i,H,I,⟨_,rfl⟩,q⟩
 ·obtain ⟨u,rfl,r1⟩:=vals1 r
  cases r1
  exact call_int_bool ⟨.int (if k then 1 else 0),H,I.tok _,⟨_,rfl⟩,q⟩
def aB0 (K:PySem.W.Frag) (x:V) (H:Hp) (n:Nat):Prop :=
 match x with
 | .str y=>y.length≤sizeLine∧n=y.length
 | .byt y=>y.size≤sizeLine∧n=y.size
 | .ref p=>(∃ xs,SqL K H p xs∧n=xs.length)∨∃ xs,SqT K H p xs∧n=xs.length
 | _=>False
theorem bK:eO X (.builtin "len") (fun xs H Q=>∃ x n,xs=[x]∧aB0 X.K x H n∧Q (.int n) H):=by
 intro pins s σ H xs us Q I r h
 obtain ⟨x,n,rfl,e,q⟩:=h
 obtain ⟨u,rfl,rx⟩:=vals1 r
 have hl:=line63
 have hs:sizeLine=16777216:=sizeLine_eq
 cases x with
 | str y =>
  obtain ⟨t,rfl⟩:=rx
  obtain ⟨hy,e'⟩:y.length≤sizeLine∧n=y.length:=e
  subst e'
  exact len_str (by omega) ⟨.int _,H,I.tok _,⟨_,rfl⟩,q⟩
 | byt y =>
  obtain ⟨t,rfl⟩:=rx
  obtain ⟨hy,e'⟩:y.size≤sizeLine∧n=y.size:=e
  subst e'
  exact PySem.W.len_bytes (by omega) ⟨.int _,H,I.tok _,⟨_,rfl⟩,q⟩
 | ref p =>
  cases rx
  have e':(∃ xs,SqL X.K H p xs∧n=xs.length)∨∃ xs,SqT X.K H p xs∧n=xs.length:=e
  rcases e' with ⟨xs,hx,e'⟩ | ⟨xs,hx,e'⟩
  ·subst e'
   obtain ⟨its,r',pl,hz⟩:=I.list hx
   have hlen:=r'.length
   exact Calls.call_len_list pl.isList (by simp only [List.size_toArray]; omega) ⟨.int xs.length,H,I.tok _,⟨_,by simp only [List.size_toArray]; rw [hlen]⟩,q⟩
  ·subst e'
   obtain ⟨its,r',pl,hz⟩:=I.tuple hx
   have hlen:=r'.length
   exact len_tuple pl (by simp only [List.size_toArray]; omega) ⟨.int xs.length,H,I.tok _,⟨_,by simp only [List.size_toArray]; rw [hlen]⟩,q⟩
 | _=>exact (show False from e).elim
end
end L2
namespace L2
open PySem PySem.Spec PyProof.Rows
structure ObjM (h:Heap) (x dx C:Addr) (mA:Str→Option Value):Prop where
 obj:h.get? x=some (PySem.W.instObj C dx)
 ns:h.Ns1 dx mA
 ne:dx≠x
section
variable {prog:Program}{w:World}{A:Around}{E:Value→Shared→Prop}{s:Shared}{K:PySem.W.Frag}{x dx C f:Addr}{mA:Str→Option Value}{name:Str}{v:Value}
end
section
variable {P:Program}{w:World}{H H':Hp}{h h':Heap}{a C dx:Addr}{fs fs':List (Str × V)}
end
structure Cls (K:PySem.W.Frag) (C:Addr):Prop where
 pg:PySem.W.plainGet K C Str.empty=true
 hd:PySem.W.hasDictIn K C=true
 po:PySem.W.plainOver K C=true
 sa:PySem.W.findIn K (.ref C) "__setattr__" = some (some (.builtin "object.__setattr__"))
structure Con (K:PySem.W.Frag) (C:Addr) (f:Str) (v:V) (u:Value):Prop where
 at_:PySem.W.findIn K (.ref C) f=some (some u)
 rel:RelV v u
 get:PySem.W.specialIn K u "__get__" = some none
 cp:PySem.W.copiedNames.contains f=false
structure Meth (K:PySem.W.Frag) (C:Addr) (m:Str) (f:Addr):Prop where
 at_:PySem.W.findIn K (.ref C) m=some (some (.ref f))
 fn:PySem.W.isFn K (.ref f)=true
 kp:PySem.W.keepIn K (.ref f)=true
section
variable {X:Cx}{pins:List (Addr × Obj)}{σ:St}{H:Hp}{s:Shared}{a C dx:Addr}{fs:List (Str × V)}{f:Str}{v:V}{A:Around}{E:Value→Shared→Prop}
end
section
variable {X:Cx}{o e value:Expr}{f:Str}{pos pos' tpos:Pos}{ta tv:TE}
end
section
variable {X:Cx}{pins:List (Addr × Obj)}{σ:St}{H:Hp}{s:Shared}{A:Around}{E:Value→Shared→Prop}{Q:Value→Shared→Prop}{c:Value}{b:Bool}
inductive TyOf (K:PySem.W.Frag) (H:Hp):V→Value→Prop where
 | non:TyOf K H .non (.type "NoneType")
 | bl (x:Bool):TyOf K H (.bl x) (.type "bool")
 | int (i:Int):TyOf K H (.int i) (.type "int")
 | str (x:Str):TyOf K H (.str x) (.type "str")
 | flt (x:UInt64):TyOf K H (.flt x) (.type "float")
 | lst {a:Addr}{xs:List V} (e:H a=some (.lst xs)):TyOf K H (.ref a) (.type "list")
 | frz {a:Addr}{o:Obj}{xs:List V} (e:H a=some (.frz o (.lst xs))):TyOf K H (.ref a) (.type "list")
 | tup {a:Addr}{xs:List V} (e:H a=some (.tup xs)):TyOf K H (.ref a) (.type "tuple")
 | dK {a:Addr}{kvs:List (Key × V)} (e:H a=some (.dK kvs)):TyOf K H (.ref a) (.type "dict")
 | dT {a:Addr}{kvs:List (List Key × V)} (e:H a=some (.dT kvs)):TyOf K H (.ref a) (.type "dict")
 | ins {a C dx:Addr}{fs:List (Str × V)} (e:H a=some (.ins C dx fs)) (cl:Cls K C) (ha:PySem.W.findIn K (.ref C) "__class__" = some (some (.builtin "object.__class__")))
   (hn:PySem.W.specialIn K (.builtin "object.__class__") "__get__" = some (some (.builtin "getset_descriptor.__get__"))) (htk:PySem.W.takesIn K (.builtin "object.__class__")=some true)
   (hm:PySem.W.mroIn K C (.type "object")=some true):TyOf K H (.ref a) (.ref C)
end
end L2
namespace L2
open PySem PySem.Spec PyProof.Rows
structure Room (k:Nat) (A:Around):Prop where
 hd:A.handled=none
 dp:A.depth+3 * k+5 < recursionLimit
 un:A.units+16 * k+200 < cLine
 gd:A.guards=some []
theorem Room.mono {j k:Nat}{A:Around} (r:Room k A) (h:j≤k):Room j A:=⟨r.hd,by have:=r.dp; omega,by have:=r.un; omega,r.gd⟩
theorem Room.deeper {k:Nat}{A:Around} (r:Room (k+1) A) (env:Env):Room k (A.deeper env) :=
 ⟨r.hd,by have:=r.dp; show A.depth+1+3 * k+5 < _; omega,by have:=r.un; show A.units+3+16 * k+200 < _; omega,r.gd⟩
theorem Room.depth {k:Nat}{A:Around} (r:Room k A):A.depth < recursionLimit:=by have:=r.dp; omega
theorem Room.units {k:Nat}{A:Around} (r:Room k A):A.units+64 < cLine:=by have:=r.un; omega
def tNil:TA:=fun _ H Q=>Q [] H
def aHA (ta:TE) (tr:TA):TA:=fun σ H Q=>ta σ H fun x H1=>tr σ H1 fun xs H2=>Q (x::xs) H2
section
variable {X:Cx}{e:Expr}{es:List Expr}{te:TE}{t:TA}{pos:Pos}
theorem aA0:PA X [] tNil:=fun _ _ _ _ H Q I h=>Calls.spliced_nil ⟨[],H,I, .nil,h⟩
theorem pR (ha:PE X e te) (hr:PA X es t) (hs:starEach (e::es) X.env=(false,eval e X.env)::starEach es X.env:=by rfl):PA X (e::es) (aHA te t):=by
 intro pos pins s σ H Q I h
 rw [hs]
 show wpAny _ _ (spliced ((false,eval e X.env)::backTo pos (starEach es X.env))) _ _ s
 refine Calls.spliced_cons (thn (ha pins s σ H _ I h) fun u s1 ⟨x,H1,I1,r1,q1⟩ => ?_)
 exact thn (hr pos pins s1 σ H1 _ I1 q1) fun us s2 ⟨xs,H2,I2,r2,q2⟩=>⟨x::xs,H2,I2, .cons r1 r2,q2⟩
def tTup (t:TA):TE:=fun σ H Q=>t σ H fun xs H1=>xs.length≤sizeLine∧∀ p,H1 p=none→Q (.ref p) (upd H1 p (.tup xs))
def tLst (t:TA):TE:=fun σ H Q=>t σ H fun xs H1=>xs.length≤sizeLine∧∀ p,H1 p=none→Q (.ref p) (upd H1 p (.lst xs))
theorem aGJ {x1} (h:PA X es t):PE X (.Tuple es x1 pos) (tTup t):=by
 intro pins s σ H Q I hq
 refine wpAny_Tuple_spliced (thn (h pos pins s σ H _ I hq) fun us s1 ⟨xs,H1,I1,r,z,q⟩=>⟨by rw [← r.length]; exact z,?_⟩)
 have hf:H1 s1.heap.objs.size=none:=I1.hok.fresh (Nat.le_refl _)
 refine ⟨.ref s1.heap.objs.size,upd H1 s1.heap.objs.size (.tup xs),I1.laid (t':=s1.toks) (fun b u e=>Heap.get?_push_of_some _ e) (Nat.le_refl _) ?_,rfl,q _ hf⟩
 exact ⟨z,us,r,⟨_,Heap.get?_push_size _ rfl,rfl,_,rfl⟩⟩
theorem aAF (h:PA X es t):PE X (.List es pos) (tLst t):=by
 intro pins s σ H Q I hq
 refine wpAny_List_spliced (thn (h pos pins s σ H _ I hq) fun us s1 ⟨xs,H1,I1,r,z,q⟩=>⟨by rw [← r.length]; exact z,?_⟩)
 have hf:H1 s1.heap.objs.size=none:=I1.hok.fresh (Nat.le_refl _)
 refine ⟨.ref s1.heap.objs.size,upd H1 s1.heap.objs.size (.lst xs),I1.laid (t':=s1.toks) (fun b u e=>Heap.get?_push_of_some _ e) (Nat.le_refl _) ?_,rfl,q _ hf⟩
 exact ⟨z,us,0,r,Heap.get?_push_size _ rfl⟩
end
abbrev Sp:=List V→Hp→VK→XK→Prop
abbrev CXT:=List Env→Hp→Shared→XK→Value→Shared→Prop
structure Env0 (P:Program) (w:World) (K:PySem.W.Frag) (mg:Str→Option Value) (base:Heap) (A:Around) (outer:List Env) (s:Shared) (H:Hp):Prop where
 frames:A.frames=some outer
 mod:Mod K mg base
 bs:∀ b o,base.get? b=some o→s.heap.get? b=some o∧H b=none
 bsz:base.objs.size≤s.heap.objs.size
 funs:s.heap.FunFrames base outer
 frf:∀ b∈frs outer,H b=none
 hok:HOk P w H s.heap
 bare:AllBare s.gens
def CE (outer:List Env) (P:Program) (w:World) (H:Hp) (s:Shared) (Q:VK) (u:Value) (s':Shared):Prop :=
 ∃ v H',s'.os=s.os∧AllBare s'.gens∧Un (frs outer) [] H H' s.heap s'.heap∧HOk P w H' s'.heap∧RelV v u∧Q v H'
def CR (CX:CXT) (outer:List Env) (P:Program) (w:World) (H:Hp) (s:Shared) (Q:VK) (E:XK) (r:Result) (s':Shared):Prop :=
 match r with
 | .ok (.ret u)=>CE outer P w H s Q u s'
 | .ok _=>False
 | .error e=>CX outer H s E e s'
structure FnOk (P:Program) (w:World) (K:PySem.W.Frag) (mg:Str→Option Value) (base:Heap) (CX:CXT) (k:Nat) (f:Addr) (fd:FuncData) (ps:List Str) (sp:Sp):Prop where
 len:∀ vs H Q E,sp vs H Q E→vs.length=ps.length
 run:∀ (A:Around) (outer:List Env) (s:Shared) (H:Hp) (args:Args) (us:List Value) (vs:List V) (Q:VK) (E:XK),Room k A→Env0 P w K mg base A outer s H→BindsTo s fd args (ps.zip us)→Vals vs us→sp vs H Q E →
  codeAny (model P w) A (.call (.ref f) args) (CR CX outer P w H s Q E) s
section
variable {X:Cx}{pins:List (Addr × Obj)}{σ:St}{H:Hp}{s s':Shared}
theorem Inv.env0 (I:Inv X pins σ H s):Env0 X.prog X.w X.K X.mg X.base X.A X.stack s H :=
 ⟨I.ok.frames,I.ok.mod,I.bs,Nat.le_trans I.ok.bsz I.sz,I.stack,I.stkFree,I.hok,I.bare⟩
theorem Inv.after {Q:VK}{u:Value} (I:Inv X pins σ H s) (h:CE X.stack X.prog X.w H s Q u s'):EP X pins σ Q u s':=by
 obtain ⟨v,H',os,bare,un,hok,r,q⟩:=h
 obtain ⟨hh,g,d,t,os'⟩:=s'
 obtain rfl:os'=s.os:=os
 exact ⟨v,H',I.call (h':=hh) (g':=g) (d':=d) (t':=t) (ch:=[]) un hok bare (fun b z=>absurd z (by simp)),r,q⟩
end
def aH0 (sp:Sp) (dvs:List V) (E:XK) (t:TA):TE:=fun σ H Q=>t σ H fun vs H1=>sp (vs++dvs) H1 Q E
def Binds (K:PySem.W.Frag) (fd:FuncData) (ps:List Str) (ds:List Value):Prop :=
 ∀ (s:Shared) (us:List Value),K.In s.heap→(us++ds).length=ps.length→BindsTo s fd ⟨us,[]⟩ (ps.zip (us++ds))
theorem Binds.all {K:PySem.W.Frag}{fd:FuncData}{ps:List Str} (h:∀ us:List Value,us.length=ps.length→bindArgs fd ⟨us,[]⟩=pure (ps.zip us)):Binds K fd ps []:=fun s us _ hl=>by
 rw [List.append_nil] at hl ⊢
 exact .of_eq (h us hl)
def Passes (CX:CXT) (X:Cx) (E:XK):Prop:=∀ (pins:List (Addr × Obj)) (σ:St) (H:Hp) (s:Shared) (e:Value) (s':Shared),Inv X pins σ H s→CX X.stack H s E e s'→X.xe e s'
section
variable {X:Cx}{CX:CXT}{k:Nat}{f C:Addr}{fd:FuncData}{ps:List Str}{sp:Sp}{dvs:List V}{ds:List Value}{E:XK}{x m:Str}{p pos apos:Pos}{e o:Expr}{es:List Expr}{ta:TE}{t:TA}
theorem aG7 {pins:List (Addr × Obj)}{σ:St}{H:Hp}{s:Shared}{Q:VK}{us:List Value}{vs:List V} (F:FnOk X.prog X.w X.K X.mg X.base CX k f fd ps sp) (hr:Room k X.A) (hb:Binds X.K fd ps ds) (hd:Vals dvs ds) (hx:Passes CX X E)
  (I:Inv X pins σ H s) (r:Vals vs us) (h:sp (vs++dvs) H Q E):wpAny (model X.prog X.w) X.A (call (.ref f) us) (EP X pins σ Q) X.xe s:=by
 have r2:Vals (vs++dvs) (us++ds):=r.append hd
 have hl:(us++ds).length=ps.length:=by rw [← r2.length]; exact F.len _ _ _ _ h
 refine wpAny_call (codeAny_mono (F.run X.A X.stack s H ⟨us,[]⟩ (us++ds) (vs++dvs) Q E hr I.env0 (hb s us I.kIn hl) r2 h) fun r s' hq => ?_)
 cases r with
 | error e=>exact hx pins σ H s e s' I hq
 | ok fl =>
  cases fl with
  | ret u=>exact I.after hq
  | next=>exact False.elim hq
  | brk=>exact False.elim hq
  | cont=>exact False.elim hq
theorem aFA (F:FnOk X.prog X.w X.K X.mg X.base CX k f fd ps sp) (hr:Room k X.A) (hg:Gl X x) (hm:X.mg x=some (.ref f)) (hk:PySem.W.keepIn X.K (.ref f)=true) (hb:Binds X.K fd ps ds) (hd:Vals dvs ds) (hx:Passes CX X E)
  (ha:PA X (e::es) t) (hdb:(x == ("__debug__" : Str))=false:=by decide) (he:starEach (e::es) X.env=(false,eval e X.env)::starEach es X.env:=by rfl) (hpl:(backTo pos (starEach es X.env)).any (·.1)=false:=by rfl) :
  PE X (.Call (.Name x p) (e::es) [] pos) (aH0 sp dvs E t):=by
 intro pins s σ H Q I h
 refine wpAny_Call_Name_kw (vM I hg hm ?_ hdb)
 refine PySem.W.callWith_K (h₀:=X.base) I.ok.mod.kin hk (thn (ha pos pins s σ H _ I h) fun us s1 ⟨vs,H1,I1,r,q⟩=>⟨I1.kIn,?_⟩) he hpl
 exact aG7 F hr hb hd hx I1 r q
structure Mk (K:PySem.W.Frag) (C f:Addr):Prop where
 makes:PySem.W.makesIn K C=true
 init:PySem.W.findIn K (.ref C) "__init__" = some (some (.ref f))
 fn:PySem.W.isFn K (.ref f)=true
 kp:PySem.W.keepIn K (.ref C)=true
end
section
variable {X:Cx}{CX:CXT}{k:Nat}{f C:Addr}{fd:FuncData}{ps ks:List Str}{sp:Sp}{E:XK}{x m:Str}{p pos apos kpos:Pos}{e o:Expr}{es:List Expr}{kws:List Keyword}{te ta:TE}{t tk:TA}{nm:Option Str}
structure KBinds (K:PySem.W.Frag) (fd:FuncData) (ps ks:List Str) (g:List Value→List Value→List Value) (gV:List V→List V→List V):Prop where
 to:∀ (s:Shared) (us ws:List Value),K.In s.heap→(g us ws).length=ps.length→BindsTo s fd ⟨us,ks.zip ws⟩ (ps.zip (g us ws))
 rel:∀ {vs:List V}{us:List Value}{zs:List V}{ws:List Value},Vals vs us→Vals zs ws→Vals (gV vs zs) (g us ws)
variable {g:List Value→List Value→List Value}{gV:List V→List V→List V}
end
structure FnScope (N P:List Str) (sc:Scope):Prop where
 kind:sc.kind = .function
 co:sc.isCoroutine=false
 gen:sc.isGenerator=false
 nd:N.Nodup
 pre:N.take P.length=P
 par:∀ x∈P,sc.names.lookup x=some .local∨sc.names.lookup x=some .cell
 nofree:∀ y∈sc.names,y.2 ≠ .free
theorem qV {kindOf:Str→Option NameKind}{x:Str}:∀ {binds:List (Str × Value)}{m:Str→Option Value},(∀ v,(x,v) ∉ binds)→bindL kindOf binds m x=m x
 | [],_,_=>rfl
 | (n,v)::r,m,h=>by
  unfold bindL
  rw [qV fun w hw=>h w (List.mem_cons_of_mem _ hw)]
  split
  ·have:x≠n:=by rintro rfl; exact h v List.mem_cons_self
   simp [this]
  ·rfl
theorem qR {kindOf:Str→Option NameKind}{x:Str}:∀ {binds:List (Str × Value)}{m:Str→Option Value},(∀ v,(x,v) ∉ binds)→bindC kindOf binds m x=m x
 | [],_,_=>rfl
 | (n,v)::r,m,h=>by
  unfold bindC
  rw [qR fun w hw=>h w (List.mem_cons_of_mem _ hw)]
  split
  ·rfl
  ·have:x≠n:=by rintro rfl; exact h v List.mem_cons_self
   simp [this]
theorem qN {kindOf:Str→Option NameKind}{x:Str}{v:Value}:∀ {P:List Str}{vs:List Value}{i:Nat}{m:Str→Option Value},P.Nodup→P[i]?=some x→vs[i]?=some v→kindOf x=some .local →
  bindL kindOf (P.zip vs) m x=some v
 | [],_,_,_,_,h,_,_=>by simp at h
 | _::_,[],_,_,_,_,h,_=>by simp at h
 | p::P,w::vs,0,m,nd,h1,h2,hk=>by
  simp at h1 h2; subst h1; subst h2
  show bindL kindOf ((p,w)::P.zip vs) m p=_
  unfold bindL
  rw [qV fun v hv=>(List.nodup_cons.mp nd).1 (List.of_mem_zip hv).1,if_pos hk]
  simp
 | p::P,w::vs,i+1,m,nd,h1,h2,hk=>by
  show bindL kindOf ((p,w)::P.zip vs) m x=_
  unfold bindL
  exact qN (i:=i) (List.nodup_cons.mp nd).2 (by simpa using h1) (by simpa using h2) hk
theorem qX {kindOf:Str→Option NameKind}{x:Str}{v:Value}:∀ {P:List Str}{vs:List Value}{i:Nat}{m:Str→Option Value},P.Nodup→P[i]?=some x→vs[i]?=some v→kindOf x≠some .local →
  bindC kindOf (P.zip vs) m x=some v
 | [],_,_,_,_,h,_,_=>by simp at h
 | _::_,[],_,_,_,_,h,_=>by simp at h
 | p::P,w::vs,0,m,nd,h1,h2,hk=>by
  simp at h1 h2; subst h1; subst h2
  show bindC kindOf ((p,w)::P.zip vs) m p=_
  unfold bindC
  rw [qR fun v hv=>(List.nodup_cons.mp nd).1 (List.of_mem_zip hv).1,if_neg hk]
  simp
 | p::P,w::vs,i+1,m,nd,h1,h2,hk=>by
  show bindC kindOf ((p,w)::P.zip vs) m x=_
  unfold bindC
  exact qX (i:=i) (List.nodup_cons.mp nd).2 (by simpa using h1) (by simpa using h2) hk
def start (N:List Str) (vs:List V):St:=vs.map some++List.replicate (N.length - vs.length) none
def oI (CX:CXT) (P:Program) (w:World) (K:PySem.W.Frag) (mg:Str→Option Value) (base:Heap) (N:List Str) (qual:Str) (scope:Scope) (f:Addr) (cd:Value) (A:Around) (outer:List Env) (s:Shared) (H:Hp) (E:XK):Cx where
 prog:=P
 w:=w
 K:=K
 mg:=mg
 base:=base
 A:=A.deeper (envOfC qual scope s.heap.objs.size f cd)
 N:=N
 s₀:=s
 H₀:=H
 env:=envOfC qual scope s.heap.objs.size f cd
 outer:=outer
 stack:=envOfC qual scope s.heap.objs.size f cd::outer
 ex:=[]
 calm:=true
 fn:=fun _=>true
 pn:=[]
 xe:=fun e s'=>wpAny (model P w) (A.deeper (envOfC qual scope s.heap.objs.size f cd)) (leaving (envOfC qual scope s.heap.objs.size f cd) e) (fun _ s''=>CX outer H s E e s'') (fun e' s''=>CX outer H s E e' s'') s'
theorem uG {sc:Scope}{n:Nat}{x:Str} (h:sc.names.lookup x=some .cell):∃ c,(cellsFrom n sc.names []).lookup x=some c:=by
 have q:=PySem.W.cellsFrom_some sc.names n [] (.inl h)
 exact Option.isSome_iff_exists.mp q
theorem aAB {CX:CXT}{P:Program}{w:World}{K:PySem.W.Frag}{mg:Str→Option Value}{base:Heap}{N ps:List Str}{qual:Str}{scope:Scope}{f:Addr}{cd:Value}{A:Around}{outer:List Env}{s s1:Shared}{H:Hp}{E:XK}{us:List Value}{vs:List V}
  (S:FnScope N ps scope) (hd:A.handled=none) (e0:Env0 P w K mg base A outer s H) (hl:vs.length=ps.length) (r:Vals vs us)
  (x:InCallC s s.heap.objs.size (bindL (envOfC qual scope s.heap.objs.size f cd).kindOf (ps.zip us) fun _=>none) (cellsFrom (s.heap.objs.size+1) scope.names []) (bindC (envOfC qual scope s.heap.objs.size f cd).kindOf (ps.zip us) fun _=>none) s1) :
  Inv (oI CX P w K mg base N qual scope f cd A outer s H E) [] (start N vs) H s1:=by
 have hpl:ps.length≤N.length:=by have:=congrArg List.length S.pre; rw [List.length_take] at this; omega
 obtain ⟨h1,tk,rfl,hk⟩:=x.done
 have noA:∀ b:Addr,b ∉ (oI CX P w K mg base N qual scope f cd A outer s H E).ex:=fun b z=>absurd (show b∈([]:List Addr) from z) (by simp)
 refine ⟨⟨e0.mod,S.kind,rfl,rfl,Nat.le_refl _,fun y z c h1 h2 => ?_,fun y hy => ?_,fun y c _ h => ?_,fun _=>hd,Around.frames_deeper e0.frames, .inr ⟨rfl,rfl⟩,fun b z=>absurd z (noA b),e0.bs,e0.bsz,fun b _ _=>noA b,fun b z=>absurd z (noA b),e0.funs,e0.frf⟩,
  rfl,e0.bare,Un.kept hk,⟨_,x.toInCall.ns,fun i y v h1 h2 h3 => ?_⟩,fun y c h=>⟨_,x.cell y c h⟩,e0.hok.fresh (Nat.le_refl _),fun y c h => ?_,fun p hp=>absurd (show p∈([]:List (Addr × Obj)) from hp) (by simp),e0.hok.kept hk,?_⟩
 ·exact name_of_addr x.apart (PySem.mem_of_lookup h1) (PySem.mem_of_lookup h2)
 ·have hy:scope.names.lookup y=some .cell∨scope.names.lookup y=some .free:=hy
  rcases hy with hy | hy
  ·exact uG hy
  ·exact absurd rfl (S.nofree _ (PySem.mem_of_lookup hy))
 ·exact Nat.le_of_lt (x.above y c (PySem.mem_of_lookup h))
 ·have hi:i < vs.length:=by
   unfold start at h2
   by_cases hi:i < vs.length
   ·exact hi
   ·rw [List.getElem?_append_right (by simpa using hi)] at h2
    rw [List.getElem?_replicate] at h2
    split at h2 <;> cases h2
  have ha:vs[i]?=some v:=by
   unfold start at h2
   rw [List.getElem?_append_left (by simpa using hi),List.getElem?_map] at h2
   cases e:vs[i]? with
   | none=>rw [e] at h2; cases h2
   | some a=>rw [e] at h2; cases h2; rfl
  obtain ⟨u,hu,rv⟩:=r.get ha
  have hp:ps[i]?=some y:=by
   rw [← S.pre,List.getElem?_take_of_lt (by omega)]; exact h1
  have ndP:ps.Nodup:=by rw [← S.pre]; exact S.nd.sublist (List.take_sublist _ _)
  refine ⟨u,rv,?_⟩
  rcases S.par y (List.mem_of_getElem? hp) with k | k
  ·exact .inl ⟨k,qN ndP hp hu k⟩
  ·obtain ⟨c,e⟩:=uG (n:=s.heap.objs.size+1) k
   refine .inr ⟨.inl k,c,e,?_⟩
   have q:=x.cell y c e
   rw [qX ndP hp hu (by show scope.names.lookup y≠_; rw [k]; decide)] at q
   exact q
 ·exact e0.hok.fresh (Nat.le_of_lt (x.above y c (PySem.mem_of_lookup h)))
 ·unfold start
  show _=N.length
  rw [List.length_append,List.length_map,List.length_replicate]
  omega
theorem aHR {CX:CXT}{P:Program}{w:World}{K:PySem.W.Frag}{mg:Str→Option Value}{base:Heap}{k:Nat}{f:Addr}{name qual:Str}{params:Arguments}{body:List Stmt}{scope:Scope}{dV kV doc pm cdv ct oc:Value}{an od:Option Addr}
  {osl:Array (Option Value)}{N ps:List Str}{sp:Sp} (lk:K.lookup f=some ⟨oc,od, .func (PySem.W.fnOf name qual params body scope dV kV doc pm an cdv ct),osl⟩) (hcd:PySem.W.codeIn K cdv qual=true) (S:FnScope N ps scope)
  (len:∀ vs H Q E,sp vs H Q E→vs.length=ps.length)
  (hbody:∀ (A:Around) (outer:List Env) (s:Shared) (H:Hp) (vs:List V) (Q:VK) (E:XK),Room k (A.deeper (envOfC qual scope s.heap.objs.size f cdv))→sp vs H Q E →
   ∃ t,PSs (oI CX P w K mg base N qual scope f cdv A outer s H E) body t∧t { nx:=fun _ H'=>Q .non H',rt:=Q } (start N vs) H) :
  FnOk P w K mg base CX (k+1) f (PySem.W.fnOf name qual params body scope dV kV doc pm an cdv ct) ps sp:=by
 refine ⟨len,fun A outer s H args us vs Q E hr e0 hb r hsp => ?_⟩
 have hl:=len _ _ _ _ hsp
 have KX:K.In s.heap:=e0.mod.kin.keeps fun b o e=>(e0.bs b o e).1
 have lim:s.heap.NoLimit:=e0.mod.nolimit.keeps fun b o e=>(e0.bs b o e).1
 have hkind:∀ y∈ps.zip us,scope.names.lookup y.1=some .local∨(scope.names.lookup y.1=some .cell∧((cellsFrom (s.heap.objs.size+1) scope.names []).lookup y.1).isSome=true):=fun ⟨n,v⟩ hy=>by
  rcases S.par n (List.of_mem_zip hy).1 with q | q
  ·exact .inl q
  ·exact .inr ⟨q,PySem.W.cellsFrom_some _ _ _ (.inl q)⟩
 refine codeAny_call_function hr.depth (KX _ _ lk) rfl S.co S.gen rfl (PySem.W.codeRec_of KX hcd) (hb _ _ _ _ ?_)
 refine wpAny_newFunctionEnv_cells S.kind hkind fun env he s1 x => ?_
 subst he
 refine ⟨lim.keeps x.toInCall.keep,codeAny_func ?_⟩
 obtain ⟨t,ht,hq⟩:=hbody A outer s H vs Q E (hr.deeper _) hsp
 have I:Inv (oI CX P w K mg base N qual scope f cdv A outer s H E) [] (start N vs) H s1:=aAB S hr.hd e0 hl r x
 refine wpAny_mono (ht [] s1 (start N vs) H _ I hq) (fun fl s' hs => ?_) fun e s' hs=>hs
 have fin:∀ {σ':St}{H':Hp}{v:V}{u:Value},Inv (oI CX P w K mg base N qual scope f cdv A outer s H E) [] σ' H' s'→RelV v u→Q v H'→CE outer P w H s Q u s' :=
  fun {σ' H' v u} J rv q=>⟨v,H',J.os,J.bare,J.base,J.hok,rv,q⟩
 cases fl with
 | ret u =>
  obtain ⟨v,σ',H',J,rv,q⟩:=hs
  exact fin J rv q
 | next =>
  obtain ⟨σ',H',J,q⟩:=hs
  exact fin (v:=V.non) (u:=Value.none) J rfl q
 | brk =>
  obtain ⟨_,_,_,q⟩:=hs
  exact False.elim q
 | cont =>
  obtain ⟨_,_,_,q⟩:=hs
  exact False.elim q
end L2
namespace L2
open PySem PySem.Spec PyProof.Rows
section
variable {X:Cx}{x:Str}{p pos:Pos}{e:Expr}{es:List Expr}{t:TA}{id T:String}{r:List V→Hp→VK→Prop}
def tCB (r:List V→Hp→VK→Prop) (t:TA):TE:=fun σ H Q=>t σ H fun vs H1=>r vs H1 Q
theorem r9 (hc:eO X (.builtin id) r) (hg:Gl X x) (hm:X.mg x=none) (hv:bootBuiltins x=some (.builtin id)) (ha:PA X (e::es) t) (hn:x ≠ "__name__" := by decide) (hdb:(x == ("__debug__" : Str))=false:=by decide)
  (he:starEach (e::es) X.env=(false,eval e X.env)::starEach es X.env:=by rfl) (hpl:(backTo pos (starEach es X.env)).any (·.1)=false:=by rfl):PE X (.Call (.Name x p) (e::es) [] pos) (tCB r t):=by
 intro pins s σ H Q I h
 refine wpAny_Call_Name_kw (mE I hg hm hv ?_ hn hdb)
 exact PyProof.Rows.callWith_builtin1 (thn (ha pos pins s σ H _ I h) fun us s1 ⟨vs,H1,I1,r1,q1⟩=>hc pins s1 σ H1 vs us Q I1 r1 q1) he hpl
theorem yY (hc:eO X (.type T) r) (hg:Gl X x) (hm:X.mg x=none) (hv:bootBuiltins x=some (.type T)) (ha:PA X (e::es) t) (hn:x ≠ "__name__" := by decide) (hdb:(x == ("__debug__" : Str))=false:=by decide)
  (he:starEach (e::es) X.env=(false,eval e X.env)::starEach es X.env:=by rfl) (hpl:(backTo pos (starEach es X.env)).any (·.1)=false:=by rfl):PE X (.Call (.Name x p) (e::es) [] pos) (tCB r t):=by
 intro pins s σ H Q I h
 refine wpAny_Call_Name_kw (mE I hg hm hv ?_ hn hdb)
 exact PyProof.Rows.callWith_type1 (thn (ha pos pins s σ H _ I h) fun us s1 ⟨vs,H1,I1,r1,q1⟩=>hc pins s1 σ H1 vs us Q I1 r1 q1) he hpl
end
end L2
namespace HT
open PySem PyProof.Rows
section
open PySem.SeqAt
open PySem.AutoSeq1 (wpAny_loadPart')
open PySem.MeetsSeq PySem.MeetsSeq2 PySem.MeetsSeq3
end
section
variable {prog:Program}{w:World}{A:Around}{E:Value→Shared→Prop}{s:Shared}
def sIx (n d:Nat):Option Int→Nat
 | none=>d
 | some v=>if v < 0 then (v+(n:Int)).toNat else min v.toNat n
theorem aCB (n d:Nat):sIx n d none=d:=rfl
theorem jC (n d k:Nat):sIx n d (some (k:Int))=min k n:=by
 show (if (k:Int) < 0 then ((k:Int)+(n:Int)).toNat else min (k:Int).toNat n)=min k n
 rw [if_neg (by omega),Int.toNat_natCast]
theorem aFO (n d:Nat) (hd:d≤n) (o:Option Int):sIx n d o≤n:=by
 cases o with
 | none=>exact hd
 | some v =>
  show (if v < 0 then (v+(n:Int)).toNat else min v.toNat n)≤n
  by_cases hv:v < 0
  ·rw [if_pos hv]; omega
  ·rw [if_neg hv]; exact Nat.min_le_right _ _
end
end HT
namespace L2
open PySem PySem.Spec PyProof.Rows
abbrev TO:=St→Hp→(Option Int→Hp→Prop)→Prop
def PO (X:Cx) (e:Option Expr) (t:TO):Prop :=
 ∀ (pins:List (Addr × Obj)) (s:Shared) (σ:St) (H:Hp) (Q:Option Int→Hp→Prop),Inv X pins σ H s→t σ H Q →
  wpAny (model X.prog X.w) X.A (evalPart e X.env) (fun u s'=>∃ o H',Inv X pins σ H' s'∧IsPart u o∧Q o H') X.xe s
def aDU:TO:=fun _ H Q=>Q none H
def aHL (t:TE):TO:=fun σ H Q=>t σ H fun x H1=>∃ i,x = .int i∧Q (some i) H1
section
variable {X:Cx}{e:Expr}{te:TE}{lo hi:Option Expr}{tl th:TO}{pos p2:Pos}
theorem aDJ:PO X none aDU:=by
 intro pins s σ H Q I h
 rw [evalPart_none]
 exact wpAny_pure ⟨none,H,I, .none,h⟩
theorem aFB (h:PE X e te):PO X (some e) (aHL te):=by
 intro pins s σ H Q I hw
 rw [evalPart_some]
 refine thn (h pins s σ H _ I hw) fun u s1 ⟨x,H1,I1,r1,q1⟩ => ?_
 obtain ⟨i,rfl,q⟩:=q1
 obtain ⟨t,rfl⟩:=r1
 exact ⟨some i,H1,I1, .int i t,q⟩
def SlR (X:Cx) (r:V→Option Int→Option Int→Hp→VK→Prop):Prop :=
 ∀ (pins:List (Addr × Obj)) (s:Shared) (σ:St) (H:Hp) (x:V) (v vl vu:Value) (lo hi:Option Int) (sl:Addr) (Q:VK),Inv X pins σ H s→RelV x v→s.heap.IsSliceOf sl vl vu .none→IsPart vl lo→IsPart vu hi→r x lo hi H Q →
  ∃ T id,typeLookup (.type T) "__getitem__" = pure (some (.builtin id))∧s.TypeIs v T∧wpAny (model X.prog X.w) X.A (getItem v (.ref sl)) (EP X pins σ Q) X.xe s
def tSl (r:V→Option Int→Option Int→Hp→VK→Prop) (te:TE) (tl th:TO):TE:=fun σ H Q=>te σ H fun x H1=>tl σ H1 fun l H2=>th σ H2 fun u H3=>r x l u H3 Q
theorem aCO {r:V→Option Int→Option Int→Hp→VK→Prop} (hr:SlR X r) (he:PE X e te) (hl:PO X lo tl) (hu:PO X hi th):PE X (.Subscript e (.Slice lo hi none p2) pos) (tSl r te tl th):=by
 intro pins s σ H Q I h
 refine Subscript_ (thn (he pins s σ H _ I h) fun v s1 ⟨x,H1,I1,r1,q1⟩ => ?_)
 refine wpAny_Slice (thn (hl pins s1 σ H1 _ I1 q1) fun vl s2 ⟨l,H2,I2,pl,q2⟩=>thn (hu pins s2 σ H2 _ I2 q2) fun vu s3 ⟨u,H3,I3,pu,q3⟩ => ?_)
 rw [evalPart_none]
 refine wpAny_pure ?_
 have I4:Inv X pins σ H3 { s3 with heap:=s3.heap.push { cls := .type "slice", data := .fields #[vl,vu, .none] } }:=I3.kept (t':=s3.toks) fun b ob q=>Heap.get?_push_of_some _ q
 obtain ⟨T,id,hT,ht,hg⟩:=hr pins { s3 with heap:=s3.heap.push { cls := .type "slice", data := .fields #[vl,vu, .none] } } σ H3 x v vl vu l u s3.heap.objs.size Q I4 r1 (Heap.IsSliceOf.new ..) pl pu q3
 show wpAny (model X.prog X.w) X.A (subscriptTail e (.Slice lo hi none p2) v (.ref s3.heap.objs.size)) (EP X pins σ Q) X.xe { s3 with heap:=s3.heap.push { cls := .type "slice", data := .fields #[vl,vu, .none] } }
 exact tail_any (ops:=[.ref s3.heap.objs.size,v]) ht hT hg (by with_unfolding_all rfl)
def oO (xs:List V) (lo hi:Option Int):List V:=(xs.drop (HT.sIx xs.length 0 lo)).take (HT.sIx xs.length xs.length hi - HT.sIx xs.length 0 lo)
theorem uY (xs:List V) (lo hi:Option Int):(oO xs lo hi).length≤xs.length:=by
 unfold oO
 rw [List.length_take,List.length_drop]
 omega
end
end L2
namespace L2
open PySem PySem.Spec PyProof.Rows
def ixN (n:Nat) (i:Int):Option Nat:=if 0≤i then (if i < n then some i.toNat else none) else if -(n:Int)≤i then some (i+n).toNat else none
def atI {α:Type} (xs:List α) (i:Int):Option α:=(ixN xs.length i).bind fun j=>xs[j]?
theorem wX {n:Nat}{i:Int}{j:Nat} (h:ixN n i=some j):seqIndex? i n=some j∧j < n ∧ -(n:Int)≤i∧i < n:=by
 unfold ixN at h
 by_cases h0:0≤i
 ·rw [if_pos h0] at h
  by_cases h1:i < n
  ·rw [if_pos h1] at h
   have e:i.toNat=j:=Option.some.inj h
   exact ⟨by rw [seqIndex_of h0 h1,e],by omega,by omega,h1⟩
  ·rw [if_neg h1] at h; cases h
 ·rw [if_neg h0] at h
  by_cases h1 : -(n:Int)≤i
  ·rw [if_pos h1] at h
   have e:(i+n).toNat=j:=Option.some.inj h
   exact ⟨by rw [seqIndex_neg (by omega) h1,e],by omega,h1,by omega⟩
  ·rw [if_neg h1] at h; cases h
theorem pP {α:Type}{xs:List α}{i:Int}{v:α} (h:atI xs i=some v):∃ j,seqIndex? i xs.length=some j∧xs[j]?=some v∧j < xs.length ∧ -(xs.length:Int)≤i∧i < xs.length:=by
 unfold atI at h
 cases e:ixN xs.length i with
 | none=>rw [e] at h; cases h
 | some j =>
  rw [e] at h
  obtain ⟨h1,h2,h3,h4⟩:=wX e
  exact ⟨j,h1,h,h2,h3,h4⟩
theorem gN {α:Type}{xs:List α}{j:Nat}{v:α} (h:xs[j]?=some v):atI xs (j:Int)=some v:=by
 have hj:j < xs.length:=(List.getElem?_eq_some_iff.mp h).1
 have e:ixN xs.length (j:Int)=some j:=by
  unfold ixN
  rw [if_pos (by omega),if_pos (by omega)]; simp
 unfold atI; rw [e]; exact h
theorem aCP {α:Type} (xs:List α) (v:α):atI (xs++[v]) (-1)=some v:=by
 have hl:(xs++[v]).length=xs.length+1:=by simp
 have e:ixN (xs++[v]).length (-1)=some xs.length:=by
  unfold ixN
  rw [hl,if_neg (by decide),if_pos (by omega)]
  congr 1
  omega
 unfold atI
 rw [e]
 show (xs++[v])[xs.length]?=some v
 simp
def vF (b:Expr):Prop:=∀ o i,subscripted b false o i=operate [o,i] (getItem o i)
def IxR (X:Cx) (r:R2):Prop :=
 ∀ (value slice:Expr) (pins:List (Addr × Obj)) (s:Shared) (σ:St) (H:Hp) (x y:V) (v u:Value) (Q:VK),Inv X pins σ H s→RelV x v→RelV y u→r x y H Q →
  subscripted slice false v u=operate [v,u] (getItem v u)→wpAny (model X.prog X.w) X.A (subscriptTail value slice v u) (EP X pins σ Q) X.xe s
def MtR (X:Cx) (id:String) (r:V→List V→Hp→VK→Prop):Prop :=
 ∀ (pins:List (Addr × Obj)) (s:Shared) (σ:St) (H:Hp) (x:V) (xs:List V) (v:Value) (us:List Value) (Q:VK),Inv X pins σ H s→RelV x v→Vals xs us→r x xs H Q →
  wpAny (model X.prog X.w) X.A (call (.builtin id) (v::us)) (EP X pins σ Q) X.xe s
section
variable {X:Cx}{a b:Expr}{ta tb:TE}{pos:Pos}
theorem IxR.or {r r':R2} (h:IxR X r) (h':IxR X r'):IxR X (fun x y H Q=>r x y H Q∨r' x y H Q):=by
 intro value slice pins s σ H x y v u Q I rx ry q hs
 rcases q with q | q
 ·exact h value slice pins s σ H x y v u Q I rx ry q hs
 ·exact h' value slice pins s σ H x y v u Q I rx ry q hs
theorem aHT {r:R2} (hr:IxR X r) (ha:PE X a ta) (hb:PE X b tb) (hs:vF b):PE X (.Subscript a b pos) (tOp r ta tb):=by
 intro pins s σ H Q I h
 exact Subscript_ (aBN ha hb I h fun v u s2 x y H2 I2 rx ry q=>hr a b pins s2 σ H2 x y v u Q I2 rx ry q (hs _ _))
def rIxL (K:PySem.W.Frag):R2:=fun x y H Q=>∃ p xs i v,x = .ref p∧y = .int i∧SqL K H p xs∧atI xs i=some v∧Q v H
def rIxT (K:PySem.W.Frag):R2:=fun x y H Q=>∃ p xs i v,x = .ref p∧y = .int i∧SqT K H p xs∧atI xs i=some v∧Q v H
def rIxS:R2:=fun x y H Q=>∃ z i c,x = .str z∧y = .int i∧z.length≤sizeLine∧atI z.cps.toList i=some c∧Q (.str ⟨#[c]⟩) H
theorem aEA:IxR X (rIxL X.K):=by
 intro value slice pins s σ H x y v u Q I rx ry h hs
 obtain ⟨p,xs,i,z,rfl,rfl,hq,he,q⟩:=h
 cases rx
 obtain ⟨t,rfl⟩:=ry
 obtain ⟨its,r,pl,hz⟩:=I.list hq
 obtain ⟨j,h1,h2,h3,h4,h5⟩:=pP he
 obtain ⟨w,ew,rw'⟩:=r.get h2
 have hl:=r.length
 have hn:=line63
 have fin:EP X pins σ Q w s:=⟨z,H,I,rw',q⟩
 by_cases h0:0≤i
 ·have hj:i.toNat=j:=by
   rw [seqIndex_of h0 h5] at h1
   exact Option.some.inj h1
  exact item_listR pl.isList h0 (by omega) (by rw [hj]; simpa using ew) fin hs
 ·have hj:(i+(its.toArray.size:Int)).toNat=j:=by
   rw [seqIndex_neg (by omega) h4] at h1
   rw [List.size_toArray,← hl]
   exact Option.some.inj h1
  exact subscriptTail_builtinR (x:=w) pl.isList.typeIs slot_list_getitem.lookup
   (wpAny_getItem_list_neg (Q:=fun r s'=>r=w∧EP X pins σ Q r s') pl.isList (by omega) (by rw [List.size_toArray] <;> omega) (by omega) (by rw [hj]; simpa using ew) ⟨rfl,fin⟩) hs
theorem aGU:IxR X (rIxT X.K):=by
 intro value slice pins s σ H x y v u Q I rx ry h hs
 obtain ⟨p,xs,i,z,rfl,rfl,hq,he,q⟩:=h
 cases rx
 obtain ⟨t,rfl⟩:=ry
 obtain ⟨its,r,pl,hz⟩:=I.tuple hq
 obtain ⟨j,h1,h2,h3,h4,h5⟩:=pP he
 obtain ⟨w,ew,rw'⟩:=r.get h2
 have hl:=r.length
 have hn:=line63
 have fin:EP X pins σ Q w s:=⟨z,H,I,rw',q⟩
 exact subscriptTail_builtinR (x:=w) pl.typeIs slot_tuple_getitem.lookup
  (getItem_tuple (j:=j) (Q:=fun r s'=>r=w∧EP X pins σ Q r s') pl (by omega) (by omega) (by rw [List.size_toArray,← hl]; exact h1) (by simpa using ew) ⟨rfl,fin⟩) hs
theorem aG4:IxR X rIxS:=by
 intro value slice pins s σ H x y v u Q I rx ry h hs
 obtain ⟨z,i,c,rfl,rfl,hz,he,q⟩:=h
 obtain ⟨t,rfl⟩:=rx
 obtain ⟨t',rfl⟩:=ry
 obtain ⟨j,h1,h2,h3,h4,h5⟩:=pP he
 have hl:z.cps.toList.length=z.length:=by simp [Str.length]
 rw [hl] at h1 h4 h5
 have hn:=line63
 exact tail_any (typeIs_str s z t) slot_str_getitem.lookup (getItem_str (c:=c) (by
  have e1:decide (i < -(2 ^ 63:Int))=false:=decide_eq_false (by omega)
  have e2:decide (i≥2 ^ 63)=false:=decide_eq_false (by omega)
  rw [e1,e2,Bool.or_false]) (by rw [h1]; simpa using h2) ⟨.str ⟨#[c]⟩,H,I.tok _,⟨_,rfl⟩,q⟩) hs
def rIx (K:PySem.W.Frag):R2:=fun x y H Q=>rIxL K x y H Q∨rIxT K x y H Q∨rIxS x y H Q
theorem aF:IxR X (rIx X.K):=aEA.or (aGU.or aG4)
theorem xH (its:List Value) (n j:Nat) (u:Value):Obj.mapSeq (·.setIfInBounds j u) { cls := .type "list", data := .seq its.toArray n }={ cls := .type "list", data := .seq (its.set j u).toArray n }:=by
 simp [Obj.mapSeq]
theorem Inv.lst {pins:List (Addr × Obj)}{σ:St}{H:Hp}{s:Shared}{p:Addr}{xs:List V} (I:Inv X pins σ H s) (h:H p=some (.lst xs)) :
  ∃ (its:List Value) (n:Nat),Vals xs its∧s.heap.get? p=some { cls := .type "list", data := .seq its.toArray n }∧xs.length≤sizeLine:=by
 obtain ⟨z,its,n,r,e⟩:=I.hok p _ h
 exact ⟨its,n,r,e,z⟩
theorem Inv.lstUpd {pins:List (Addr × Obj)}{σ:St}{H:Hp}{s:Shared}{p:Addr}{xs ys:List V}{its its':List Value}{n n':Nat}{f:Obj→Obj} (I:Inv X pins σ H s) (h:H p=some (.lst xs))
  (ho:s.heap.get? p=some { cls := .type "list", data := .seq its.toArray n }) (hf:f { cls := .type "list", data := .seq its.toArray n }={ cls := .type "list", data := .seq its'.toArray n' }) (r:Vals ys its') (hz:ys.length≤sizeLine) (t:Nat) :
  Inv X pins σ (upd H p (.lst ys)) { s with heap:=s.heap.update p f,toks:=t }:=by
 have e:(s.heap.update p f).get? p=some { cls := .type "list", data := .seq its'.toArray n' }:=by
  rw [Heap.get?_update_self f ho (by rw [hf] <;> rfl),hf]
 refine I.write (x:=p) (e:=p) (by rw [h]; trivial) (.inl rfl) (fun b u hb q=>(Heap.get?_update_other _ _ (Ne.symm hb)).trans q) ⟨_,e⟩ ?_
 exact ⟨hz,its',n',r,e⟩
def aHV:V→V→V→Hp→(Hp→Prop)→Prop:=fun o i v H Q=>∃ p xs k j,o = .ref p∧i = .int k∧H p=some (.lst xs)∧ixN xs.length k=some j∧Q (upd H p (.lst (xs.set j v)))
theorem set_list:PSet X aHV:=by
 intro pins s σ H o i v ov iv u Q I ro ri rv h
 obtain ⟨p,xs,k,j,rfl,rfl,hp,hj,q⟩:=h
 cases ro
 obtain ⟨t,rfl⟩:=ri
 obtain ⟨its,n,r,ho,hz⟩:=I.lst hp
 obtain ⟨h1,h2,h3,h4⟩:=wX hj
 have hl:=r.length
 have hn:=line63
 have I':Inv X pins σ (upd H p (.lst (xs.set j v))) { s with heap:=s.heap.update p (Obj.mapSeq (·.setIfInBounds j u)) } :=
  I.lstUpd hp ho (xH its n j u) (r.set rv j) (by rw [List.length_set]; exact hz) s.toks
 by_cases h0:0≤k
 ·have hk:k.toNat=j:=by
   rw [seqIndex_of h0 h4] at h1
   exact Option.some.inj h1
  exact PySem.W.ki_setAt ho h0 (by omega) (by rw [List.size_toArray,← hl]; exact h4) (by rw [hk]; exact ⟨_,I',q⟩)
 ·have hk:(k+(its.toArray.size:Int)).toNat=j:=by
   rw [seqIndex_neg (by omega) h3] at h1
   rw [List.size_toArray,← hl]
   exact Option.some.inj h1
  exact PySem.W.ki_setBack ho (by omega) (by rw [List.size_toArray,← hl]; exact h3) (by omega) (by rw [hk]; exact ⟨_,I',q⟩)
theorem mO (lo hi:Option Int) (n:Nat):(sliceBounds lo hi none n).1=((HT.sIx n 0 lo:Nat):Int)∧(sliceBounds lo hi none n).2.1=((HT.sIx n n hi:Nat):Int)∧(sliceBounds lo hi none n).2.2=1:=by
 refine ⟨?_,?_,rfl⟩
 ·cases lo with
  | none=>simp [sliceBounds,HT.sIx]
  | some i =>
   simp only [sliceBounds,HT.sIx,Option.getD_none,show (1:Int) > 0 by decide,if_true]
   by_cases h:i < 0
   ·simp only [h,if_true] <;> omega
   ·simp only [h,if_false] <;> omega
 ·cases hi with
  | none=>simp [sliceBounds,HT.sIx]
  | some i =>
   simp only [sliceBounds,HT.sIx,Option.getD_none,show (1:Int) > 0 by decide,if_true]
   by_cases h:i < 0
   ·simp only [h,if_true] <;> omega
   ·simp only [h,if_false] <;> omega
theorem rJ (its:List Value) (lo hi:Option Int):slicePick its.toArray lo hi none=((its.drop (HT.sIx its.length 0 lo)).take (HT.sIx its.length its.length hi - HT.sIx its.length 0 lo)).toArray:=by
 obtain ⟨h1,h2,h3⟩:=mO lo hi its.toArray.size
 unfold slicePick
 rw [h1,h2,h3]
 simp only [sliceRange_one,pick_run,List.size_toArray] <;> rfl
def rSlL (K:PySem.W.Frag):V→Option Int→Option Int→Hp→VK→Prop:=fun x lo hi H Q=>∃ a xs,x = .ref a∧SqL K H a xs∧∀ p,H p=none→Q (.ref p) (upd H p (.lst (oO xs lo hi)))
theorem fU:SlR X (rSlL X.K):=by
 intro pins s σ H x v vl vu lo hi sl Q I rx hs pl pu h
 obtain ⟨a,xs,rfl,hx,q⟩:=h
 cases rx
 obtain ⟨its,r,ht,hz⟩:=I.list hx
 have hlen:=r.length
 refine ⟨"list", _,slot_list_getitem.lookup,ht.isList.typeIs,?_⟩
 refine wpAny_getItem_list_slice ht.isList hs pl pu .none (by simp) ?_ (by rw [List.size_toArray] <;> omega)
 rw [rJ,← hlen]
 refine ⟨.ref s.heap.objs.size,_,I.laid (t':=s.toks) (o := .lst (oO xs lo hi)) (fun b ob q=>Heap.get?_push_of_some _ q) (Nat.le_refl _) ?_,rfl,q _ (I.hok.fresh (Nat.le_refl _))⟩
 exact ⟨Nat.le_trans (uY xs lo hi) hz,_,0,(r.drop (HT.sIx xs.length 0 lo)).take (HT.sIx xs.length xs.length hi - HT.sIx xs.length 0 lo),Heap.get?_push_size _ rfl⟩
theorem eF:eO X (.type "list") (fun xs H Q=>∃ p ys,xs=[.ref p]∧(SqL X.K H p ys∨SqT X.K H p ys)∧∀ l,H l=none→Q (.ref l) (upd H l (.lst ys))):=by
 intro pins s σ H xs us Q I r h
 obtain ⟨p,ys,rfl,hq,q⟩:=h
 obtain ⟨u,rfl,rx⟩:=vals1 r
 cases rx
 have fin:∀ (its:List Value),Vals ys its→ys.length≤sizeLine→∀ (h':Heap) (c':Nat),(∀ b o',s.heap.get? b=some o'→h'.get? b=some o') →
   h'.get? s.heap.objs.size=some { cls := .type "list", dict:=none,data := .seq its.toArray c',slots := #[] }→EP X pins σ Q (.ref s.heap.objs.size) { s with heap:=h' }:=fun its r' hz h' c' kp e =>
  ⟨.ref s.heap.objs.size,_,I.laid (t':=s.toks) kp (Nat.le_refl _) (show fA X.prog X.w _ h' _ (.lst ys) from ⟨hz,its,c',r',e⟩),rfl,q _ (I.hok.fresh (Nat.le_refl _))⟩
 rcases hq with hq | hq
 ·obtain ⟨its,r',pl,hz⟩:=I.list hq
  have hlen:=r'.length
  obtain ⟨o,ho,hc,n,hd⟩:=pl.isList
  exact call_list_seq p (.inl rfl) ho hc hd (fun h' c' kp e=>fin its r' hz h' c' kp e) (by simp only [List.size_toArray] <;> omega)
 ·obtain ⟨its,r',pl,hz⟩:=I.tuple hq
  have hlen:=r'.length
  obtain ⟨o,ho,hc,n,hd⟩:=pl
  exact call_list_seq p (.inr rfl) ho hc hd (fun h' c' kp e=>fin its r' hz h' c' kp e) (by simp only [List.size_toArray] <;> omega)
theorem bG:eO X (.type "tuple") (fun xs H Q=>∃ p ys,xs=[.ref p]∧((SqL X.K H p ys∧∀ l,H l=none→Q (.ref l) (upd H l (.tup ys)))∨(SqT X.K H p ys∧Q (.ref p) H))):=by
 intro pins s σ H xs us Q I r h
 obtain ⟨p,ys,rfl,h⟩:=h
 obtain ⟨u,rfl,rx⟩:=vals1 r
 cases rx
 rcases h with ⟨hq,q⟩ | ⟨hq,q⟩
 ·obtain ⟨its,r',pl,hz⟩:=I.list hq
  have hlen:=r'.length
  refine call_tuple_list pl.isList (fun h' kp => ?_) (by simp only [List.size_toArray] <;> omega)
  have I1:Inv X pins σ H { s with heap:=h' }:=I.kept (t':=s.toks) kp
  have I2:Inv X pins σ (upd H h'.objs.size (.tup ys)) { s with heap:=h'.push { cls := .type "tuple", data := .seq its.toArray } } :=
   I1.laid (t':=s.toks) (fun b o e=>Heap.get?_push_of_some _ e) (Nat.le_refl _) (show fA X.prog X.w _ _ _ (.tup ys) from ⟨hz,its,r',IsTup.new _ _⟩)
  exact ⟨.ref h'.objs.size,_,I2,rfl,q _ (I1.hok.fresh (Nat.le_refl _))⟩
 ·obtain ⟨its,r',pl,hz⟩:=I.tuple hq
  exact call_tuple_same pl ⟨.ref p,H,I,rfl,q⟩
def tyV (K:PySem.W.Frag) (T:String) (x:V) (H:Hp):Prop:=match x with
 | .str _=>T = "str"
 | .int _=>T = "int"
 | .ref p=>(T = "list" ∧ ∃ xs,SqL K H p xs)∨(T = "tuple" ∧ ∃ o,K.lookup p=some o∧o.cls = .type "tuple" ∧ o.dict=none) ∨
   (T = "dict" ∧ ((∃ kvs,H p=some (.dK kvs))∨∃ kvs,H p=some (.dT kvs)))∨(T = "set" ∧ ∃ S n,H p=some (.set S n))
 | _=>False
theorem aFW {pins:List (Addr × Obj)}{σ:St}{H:Hp}{s:Shared}{T:String}{x:V}{v:Value} (I:Inv X pins σ H s) (r:RelV x v) (ty:tyV X.K T x H) :
  s.TypeIs v T∧∀ a,v = .ref a→∃ ob,s.heap.get? a=some ob∧ob.dict=none:=by
 cases x with
 | str z =>
  obtain ⟨t,rfl⟩:=r
  cases (show T = "str" from ty)
  exact ⟨typeIs_str s z t,fun _ e=>nomatch e⟩
 | int i =>
  obtain ⟨t,rfl⟩:=r
  cases (show T = "int" from ty)
  exact ⟨typeIs_int s i t,fun _ e=>nomatch e⟩
 | ref p =>
  cases r
  rcases ty with ⟨rfl,xs,hq⟩ | ⟨rfl,o,hk,hc,hd⟩ | ⟨rfl,hk⟩ | ⟨rfl,S,n,hk⟩
  ·obtain ⟨its,_,pl,_⟩:=I.list hq
   refine ⟨pl.isList.typeIs,fun a e => ?_⟩
   cases e
   obtain ⟨o,n,e,c,hd,_⟩:=pl
   exact ⟨o,e,hd⟩
  ·refine ⟨⟨o,I.kIn p o hk,hc⟩,fun a e => ?_⟩
   cases e
   exact ⟨o,I.kIn _ o hk,hd⟩
  ·have z:∃ o,s.heap.get? p=some o∧o.ExactDict:=by
    rcases hk with ⟨kvs,hk⟩ | ⟨kvs,hk⟩
    ·obtain ⟨_,_,_,_,o,_,_,e,ex,_⟩:=I.hok p _ hk
     exact ⟨o,e,ex⟩
    ·obtain ⟨_,_,_,_,o,_,_,e,ex,_⟩:=I.hok p _ hk
     exact ⟨o,e,ex⟩
   obtain ⟨o,e,ex⟩:=z
   refine ⟨⟨o,e,ex.1⟩,fun a e2 => ?_⟩
   cases e2
   exact ⟨o,e,ex.2.1⟩
  ·obtain ⟨o,_,_,_,e,ex,_⟩:=I.hok p _ hk
   refine ⟨⟨o,e,ex.1⟩,fun a e2 => ?_⟩
   cases e2
   exact ⟨o,e,ex.2.1⟩
 | _=>exact False.elim ty
def tBM (K:PySem.W.Frag) (T:String) (r:V→List V→Hp→VK→Prop) (to:TE) (t:TA):TE:=fun σ H Q=>to σ H fun x H1=>tyV K T x H1∧t σ H1 fun xs H2=>r x xs H2 Q
variable {o e:Expr}{es:List Expr}{to:TE}{t:TA}{name:Str}{apos cpos:Pos}{T id:String}{r:V→List V→Hp→VK→Prop}
theorem aH2 (pa:PlainAttrs T) (slot:Slot T name id) (hty:typeOf (.builtin id)=pure (.type "method_descriptor")) (hm:MtR X id r) (ho:PE X o to) (ha:PA X (e::es) t)
  (hbase:attributeBase o name X.env (eval o X.env)=eval o X.env:=by rfl)
  (hfew:((backTo cpos (starEach (e::es) X.env)).all (fun x => !x.1) && (backToKw cpos (keywordEach [] X.env)).all (fun x=>x.1.isSome)
   && decide ((e::es).length+([]:List Keyword).length+(if ([]:List Keyword).isEmpty then 0 else 1) < 30))=true:=by rfl)
  (hline:(apos.endLine == cpos.line)=true:=by rfl) (hs:starEach (e::es) X.env=(false,eval e X.env)::starEach es X.env:=by rfl) (hplain:(backTo cpos (starEach es X.env)).any (·.1)=false:=by rfl) :
  PE X (.Call (.Attribute o name apos) (e::es) [] cpos) (tBM X.K T r to t):=by
 intro pins s σ H Q I h
 refine wpAny_Call_method_late hbase hfew hline rfl (thn (ho pins s σ H _ I h) fun v s1 ⟨x,H1,I1,r1,ty,q1⟩ => ?_)
 obtain ⟨h1,h2⟩:=aFW I1 r1 ty
 refine ⟨T,id,pa,slot,hty,h1,h2,?_⟩
 have hA:=ha cpos pins s1 σ H1 _ I1 q1
 rw [hs] at hA ⊢
 refine Calls.callWith_builtin (by show (false || (backTo cpos (starEach es X.env)).any (·.1))=false; rw [hplain] <;> rfl) (Calls.evalArgs_plain ?_)
 exact thn hA fun us s2 ⟨vs,H2,I2,r2,q2⟩=>hm pins s2 σ H2 x vs v us Q I2 r1 r2 q2
/- xs.append(e),list.index on a module's tuple .. are MtR facts of 06m -/
end
end L2
namespace L2
open PySem PySem.Spec PyProof.Rows
def MtM (X:Cx) (id:String) (r:V→List V→Hp→VK→Prop):Prop :=
 ∀ (pins:List (Addr × Obj)) (s:Shared) (σ:St) (H:Hp) (x:V) (xs:List V) (v:Value) (us:List Value) (Q:VK),Inv X pins σ H s→RelV x v→Vals xs us→r x xs H Q →
  wpAny (model X.prog X.w) X.A (call (.builtin id) (v::us)) (EP X pins σ Q) X.xe s
theorem Vals.one:∀ {x:V}{us:List Value},Vals [x] us→∃ u,us=[u]∧RelV x u
 | _,_, .cons r .nil=>⟨_,rfl,r⟩
section
variable {X:Cx}{pins:List (Addr × Obj)}{σ:St}{H:Hp}{s:Shared}{l b:Addr}{xs ys zs:List V}
theorem Inv.lset {its its':List Value}{n:Nat}{f:Array Value→Array Value}{t':Nat} (I:Inv X pins σ H s) (hH:H l=some (.lst xs))
  (e:s.heap.get? l=some { cls := .type "list", data := .seq its.toArray n }) (hf:f its.toArray=its'.toArray) (hv:Vals ys its') (hz:ys.length≤sizeLine) :
  Inv X pins σ (upd H l (.lst ys)) { s with heap:=s.heap.update l (Obj.mapSeq f),toks:=t' }:=by
 have q:=PySem.IsL.update e f
 rw [hf] at q
 refine I.write (x:=l) (e:=l) (by rw [hH]; exact trivial) (.inl rfl) (fun b' u hb hu=>(Heap.get?_update_other s.heap (Obj.mapSeq f) (Ne.symm hb)).trans hu) ⟨_,q⟩ ?_
 exact ⟨hz,its',_,hv,q⟩
theorem Inv.lnew {its:List Value}{t':Nat} (I:Inv X pins σ H s) (hv:Vals ys its) (hz:ys.length≤sizeLine) :
  Inv X pins σ (upd H s.heap.objs.size (.lst ys)) { s with heap:=s.heap.push { cls := .type "list", data := .seq its.toArray },toks:=t' } :=
 I.laid (fun _ _ q=>Heap.get?_push_of_some _ q) (Nat.le_refl _) ⟨hz,its,0,hv,Heap.get?_push_size _ rfl⟩
theorem Inv.fresh (I:Inv X pins σ H s):H s.heap.objs.size=none:=I.hok.fresh (Nat.le_refl _)
theorem Inv.lstM (I:Inv X pins σ H s) (hH:H l=some (.lst xs)):xs.length≤sizeLine∧∃ (its:List Value) (n:Nat),Vals xs its∧xs.length=its.length∧s.heap.get? l=some { cls := .type "list", data := .seq its.toArray n }:=by
 obtain ⟨z,its,n,r,e⟩:=I.hok l _ hH
 exact ⟨z,its,n,r,r.length,e⟩
theorem aBX {n:Nat} (h:n≤sizeLine):Builtin.List.listTooLong n=false:=by
 unfold Builtin.List.listTooLong
 exact decide_eq_false (by omega)
end
section
variable {X:Cx}
def wC:V→List V→Hp→VK→Prop:=fun x vs H Q=>∃ l xs y,x = .ref l∧vs=[y]∧H l=some (.lst xs)∧xs.length < sizeLine∧Q .non (upd H l (.lst (xs++[y])))
theorem m9:MtM X "list.append" wC:=by
 intro pins s σ H x vs v us Q I rx rv h
 obtain ⟨l,xs,y,rfl,rfl,hH,hz,q⟩:=h
 cases rx
 obtain ⟨u,rfl,ru⟩:=rv.one
 obtain ⟨z,its,n,r,hl,e⟩:=I.lstM hH
 refine call_meets F.slot_list_append ⟨_,e,rfl⟩ F.entry_list_append (F.args_list_append_2 _ _) (PySem.list_append l its.toArray n u (by rw [List.size_toArray]; omega)) ⟨e,?_⟩
 refine ⟨.non,_,I.lset (its':=its++[u]) hH e (by simp) (r.append (.cons ru .nil)) ?_,rfl,q⟩
 rw [List.length_append,List.length_singleton]
 omega
def rCat:R2:=fun x y H Q=>∃ l b xs zs,x = .ref l∧y = .ref b∧H l=some (.lst xs)∧H b=some (.lst zs)∧xs.length+zs.length≤sizeLine∧∀ p,H p=none→Q (.ref p) (upd H p (.lst (xs++zs)))
theorem iH:OpR X (binaryOp .Add) rCat:=by
 intro pins s σ H x y v u Q I rx ry h
 obtain ⟨l,b,xs,zs,rfl,rfl,hH,hB,hz,q⟩:=h
 cases rx
 cases ry
 obtain ⟨z,its,n,r,hl,e⟩:=I.lstM hH
 obtain ⟨z2,its2,n2,r2,hl2,e2⟩:=I.lstM hB
 refine PySem.P.add_list e e2 ?_ (by rw [List.size_toArray,List.size_toArray]; omega)
 have ea:its.toArray++its2.toArray=(its++its2).toArray:=by simp
 rw [ea]
 exact ⟨.ref _,_,I.lnew (t':=s.toks) (r.append r2) (by rw [List.length_append]; omega),rfl,q _ I.fresh⟩
end
section
variable {prog:Program}{w:World}{A:Around}{E:Value→Shared→Prop}{s:Shared}
set_option maxRecDepth 100000 in
end
section
variable {X:Cx}
end
end L2
namespace Att
open PySem PySem.W PySem.Calls PyProof.Rows
theorem pF {P:Params}{h:Heap}:∀ (ns:List Int) (vs:List Value),WellAll P h vs (ns.map WData.int)→IntsAre vs ns:=by
 intro ns
 induction ns with
 | nil =>
  intro vs w
  rw [List.map_nil] at w
  cases w
  exact .nil
 | cons n ns ih =>
  intro vs w
  rw [List.map_cons] at w
  cases w with
  | cons a b =>
   cases a
   exact .cons _ _ (ih _ b)
theorem zD {l:OpenLaw}{n:Nat} (hn:l.most=some n) {P:Params}{h:Heap}{args:List WData}{vals:List Value}
  (hpre:l.row.toRowW.claim.pre args=true) (hwl:WellAll P h vals args) :
  ∃ a vs ns,vals=[Value.ref a]∧args=[WData.list (ns.map WData.int)]∧h.get? a=some { cls := .type "list", data := .seq vs.toArray }∧IntsAre vs ns∧ns.length≤n:=by
 have hsh:WShape.hasAll [] args [.list .int]=true:=(pre_splitW hpre).1
 have hc:l.pre.holds [] { args:=args }=true:=(pre_splitW hpre).2
 obtain ⟨d,r,rfl,h1,h2⟩:=hasAllW_cons hsh
 obtain rfl:=hasAllW_nil h2
 obtain ⟨xs,rfl,h3⟩:=hasW_list h1
 obtain ⟨ns,rfl⟩:=items_int h3
 have hlen:ns.length≤n:=by
  unfold OpenLaw.pre at hc
  have h4:(WTm.not (.lt (.lit (.int (n:Int))) (.len (.arg 0)))).holds [] { args:=[.list (ns.map .int)] }=true:=by
   have h4:=(holds_andW hc).1
   rw [hn] at h4
   exact h4
  have h5:=condW_of h4 (w_not (w_lt w_lit (w_len_list (w_arg rfl))))
  rw [List.length_map] at h5
  refine Nat.le_of_not_lt fun q => ?_
  have q':(n:Int) < ((ns.length:Nat):Int):=by omega
  first
   | (rw [decide_eq_true q'] at h5; exact absurd h5 (by decide))
   | (simp at h5; omega)
 cases hwl with
 | cons w1 w2 =>
  cases w2
  cases w1 with
  | list ho hall=>exact ⟨_,_,ns,rfl,rfl,ho,pF ns _ hall,hlen⟩
theorem zW (l:OpenLaw) (args:List WData):l.row.toRowW.claim.post args (.bool true) args=true :=
 postW_of (r:=l.row.toRowW) (X:=(true == true))
  (show WShape.has [] (.bool true) .bool=true by first | rfl | decide | simp [WShape.has,WShape.arms,WShape.armsAll])
  (show (WTm.eq .res (.lit (.bool true))).value [] { args:=args,res:=some (.bool true),after:=args }=some (.bool (true == true)) from w_eq_bool (w_res rfl) w_lit) rfl
theorem u8 {l:OpenLaw}{n:Nat}{q:Program}{loose:List Str}{XP:(Str→Option Value)→Heap→Prop}{YP:World→Heap→Prop}{d:DefRec}
  (hn:l.most=some n) (hdf:d.params.defaults=[])
  (call:∀ (w:World) (s₀ s₁:Shared) (mg mb:Str→Option Value) (fa:Addr) (o:Obj) (pm cd doc:Value) (a:Addr) (vs:List Value) (ns:List Int),
   Ground q loose [] XP w s₀ mg mb s₁.heap→YP w s₁.heap →
   s₁.heap.get? fa=some o→o.data = .func (docDef d.name d.params d.body d.scope pm cd doc)→s₁.heap.CodeRec cd d.name→mg d.name=some (.ref fa) →
   s₁.heap.get? a=some { cls := .type "list", data := .seq vs.toArray }→IntsAre vs ns→ns.length≤n→s₁.gens = #[] →
   codeAny (model l.prog w) callerA (.call (.ref fa) ⟨[.ref a],[]⟩) (fun r s'=>r = .ok (.ret (.bool true))∧OldK s₁.heap s'.heap∧s'.os=s₁.os∧AllBare s'.gens) s₁) :
  WalkO q loose XP YP l.row.toRowW d [] (fun f vs=>PySem.call f vs):=by
 intro w s₀ s₁ mg mb G Y fa o pm cd doc dV kV ho hd hcd hD hmg hg args vals as hpre hlay hrd hwl hlo
 obtain rfl:dV = .none:=Dflts.none hD hdf
 obtain rfl:kV = .none:=Dflts.noKw hD
 obtain ⟨a,vs,ns,rfl,rfl,hobj,hints,hlen⟩:=zD hn hpre hwl
 refine enter_call (codeAny_mono (call w s₀ s₁ mg mb fa o pm cd doc a vs ns G Y ho (fd_plain hd) hcd hmg hobj hints hlen hg) fun r s' hq => ?_)
 obtain ⟨rfl,h2,h3,h4⟩:=hq
 exact ⟨.inl ⟨.bool true, .bool true,[],rfl,fun _=>rfl, .bool true,zW l _,fun _=>⟨List.Pairwise.nil,fun _ hm=>(nomatch hm)⟩⟩,h2,h3,h4⟩
section
variable {prog:Program}{w:World}{A:Around}{E:Value→Shared→Prop}{s:Shared}{K:Frag}
end
end Att
namespace L2
open PySem PySem.Spec PyProof.Rows
theorem rE:∀ {vs:List Value}{ns:List Int},IntsAre vs ns→Vals (ns.map V.int) vs
 | _,_, .nil => .nil
 | _,_, .cons n t h => .cons ⟨t,rfl⟩ (rE h)
def Only (H:Hp):Prop:=∀ b,H b=none∨∃ o xs,H b=some (.frz o (.lst xs))
theorem aBI {P:Program}{w:World}{K:PySem.W.Frag}{mg mb:Str→Option Value}{CX:CXT}{k:Nat}{fa a:Addr}{fd:FuncData}{x:Str}{sp:Sp}{s₁:Shared}{vs:List Value}{ns:List Int}
  (KX:K.In s₁.heap) (hns:s₁.heap.Ns mainGlobals mg) (hb:s₁.heap.Ns builtinsNs mb) (hbb:∀ x:Str,x ≠ "__name__" → mb x=bootBuiltins x) (hlim:s₁.heap.NoLimit) (hg:s₁.gens = #[])
  (ha:s₁.heap.get? a=some { cls := .type "list", data := .seq vs.toArray }) (hi:IntsAre vs ns) (hl:ns.length≤sizeLine) (hr:Room k callerA)
  (F:∀ base:Heap,K.In base→base.Ns mainGlobals mg→FnOk P w K mg base CX k fa fd [x] sp) (hbind:∀ (s:Shared) (u:Value),BindsTo s fd ⟨[u],[]⟩ [(x,u)])
  (hsp:∀ H:Hp,Only H→SqL K H a (ns.map V.int)→sp [.ref a] H (fun v _=>v = .bl true) fun _ _ _=>False)
  (hCX:∀ H e s',CX [] H s₁ (fun _ _ _=>False) e s'→False) :
  codeAny (model P w) callerA (.call (.ref fa) ⟨[.ref a],[]⟩) (fun r s'=>r = .ok (.ret (.bool true))∧OldK s₁.heap s'.heap∧s'.os=s₁.os∧AllBare s'.gens) s₁:=by
 have rv:=rE hi
 have lenV:=hi.length
 -- from an abstract heap in which nothing but the script may be tracked
 have core:∀ H:Hp,Only H→SqL K H a (ns.map V.int)→HOk P w H s₁.heap→(∀ b,H b≠none→b=a)→(H a≠none→K.lookup a=none) →
   codeAny (model P w) callerA (.call (.ref fa) ⟨[.ref a],[]⟩) (fun r s'=>r = .ok (.ret (.bool true))∧OldK s₁.heap s'.heap∧s'.os=s₁.os∧AllBare s'.gens) s₁:=by
  intro H hO hS hok hA hK
  have base_of:∀ {b:Addr}{o:Obj},s₁.heap.get? b=some o→H b=none→(lC s₁.heap H).get? b=some o:=fun e n=>aA6 e n
  have noA:∀ {b:Addr}{o:Obj}{es:Array DictEntry}{ep:Nat},s₁.heap.get? b=some o→o.data = .dict es ep→H b=none:=fun {b o es ep} e d=>by
   cases q:H b with
   | none=>rfl
   | some u =>
    have e':b=a:=hA b (by rw [q]; simp)
    subst e'
    rw [ha] at e; cases e
    have d':Data.seq vs.toArray _=Data.dict es ep:=d
    cases d'
  have nsK:∀ {b:Addr}{m:Str→Option Value},s₁.heap.Ns b m→(lC s₁.heap H).Ns b m:=fun {b m} ⟨o,es,ep,e,d,r⟩=>⟨o,es,ep,base_of e (noA e d),d,r⟩
  have hKb:K.In (lC s₁.heap H):=fun b o e=>base_of (KX b o e) (by
   cases q:H b with
   | none=>rfl
   | some u =>
    have e':b=a:=hA b (by rw [q]; simp)
    subst e'
    rw [hK (by rw [q]; simp)] at e; cases e)
  have hM:Mod K mg (lC s₁.heap H):=⟨hKb,nsK hns,⟨mb,nsK hb,hbb⟩,let ⟨mc,h1,h2⟩:=hlim; ⟨mc,nsK h1,h2⟩⟩
  have e0:Env0 P w K mg (lC s₁.heap H) callerA [] s₁ H:=⟨rfl,hM,fun b o e=>aFE e,Nat.le_of_eq (zU _ _),trivial,fun b hb=>absurd (show b∈([]:List Addr) from hb) (by simp),hok, .of_eq hg⟩
  refine codeAny_mono ((F _ hKb (nsK hns)).run callerA [] s₁ H ⟨[.ref a],[]⟩ [.ref a] [.ref a] _ _ hr e0 (hbind s₁ (.ref a)) (.cons rfl .nil) (hsp H hO hS)) fun r s' h => ?_
  cases r with
  | error e=>exact (hCX H e s' h).elim
  | ok fl =>
   cases fl with
   | next=>exact False.elim h
   | brk=>exact False.elim h
   | cont=>exact False.elim h
   | ret u =>
    obtain ⟨v,H',os,bare,un,hok',r',q⟩:=h
    have q':v = .bl true:=q
    subst q'
    obtain rfl:u=Value.bool true:=r'
    refine ⟨rfl,OldK.of_keep fun b o e => ?_,os,bare⟩
    cases q:H b with
    | none=>exact un.keep b o e q (by intro z; exact absurd (show b∈([]:List Addr) from z) (by simp)) (by simp)
    | some u =>
     rcases hO b with z | ⟨ob,xs,z⟩
     ·rw [q] at z; cases z
     ·have z2:=un.frzs b ob _ z
      obtain ⟨e1,_⟩:=hok b _ z
      obtain ⟨e2,_⟩:=hok' b _ z2
      rw [e] at e1; cases e1
      exact e2
 cases hk:K.lookup a with
 | some o =>
  -- the script is one of the module's own objects
  have e:=KX a o hk
  rw [ha] at e
  cases e
  refine core (fun _=>none) (fun _ => .inl rfl) (.inr ⟨_,vs.toArray,_,hk,rfl,rfl,rfl,by rw [List.size_toArray,lenV]; exact hl,by simpa using rv⟩) (fun b u z=>by have z':(none:Option HO)=some u:=z; cases z') (fun b z=>absurd rfl z) fun z=>absurd rfl z
 | none =>
  refine core (fun b=>if b=a then some (.frz { cls := .type "list", data := .seq vs.toArray } (.lst (ns.map V.int))) else none) (fun b => ?_) (.inl (.inr ⟨{ cls := .type "list", data := .seq vs.toArray },if_pos rfl⟩)) (fun b u z => ?_) (fun b z => ?_) fun _=>hk
  ·by_cases hb:b=a
   ·exact .inr ⟨_,_,if_pos hb⟩
   ·exact .inl (if_neg hb)
  ·by_cases hb:b=a
   ·have z':=(if_pos hb).symm.trans z
    cases z'
    subst hb
    exact ⟨ha,by rw [List.length_map]; exact hl,vs,_,rv,ha⟩
   ·have z':=(if_neg hb).symm.trans z
    cases z'
  ·by_cases hb:b=a
   ·exact hb
   ·exact absurd (if_neg hb) z
theorem aD9 {l:PySem.W.OpenLaw}{n k:Nat}{q:Program}{loose:List Str}{XP:(Str→Option Value)→Heap→Prop}{YP:World→Heap→Prop}{d:DefRec}{K:Params→PySem.W.Frag}{CX:World→CXT}{sp:World→Sp}{x:Str}
  (hn:l.most=some n) (hn2:n≤sizeLine) (hdf:d.params.defaults=[]) (hr:Room k callerA)
  (hY:∀ (w:World) (h:Heap),YP w h→(K w.params).In h)
  (F:∀ (w:World) (mg:Str→Option Value) (fa:Addr) (h:Heap),(K w.params).In h→h.Ns mainGlobals mg→mg d.name=some (.ref fa) →
   ∃ fd:FuncData,(∀ (s:Shared) (u:Value),BindsTo s fd ⟨[u],[]⟩ [(x,u)]) ∧
    ∀ base:Heap,(K w.params).In base→base.Ns mainGlobals mg→FnOk l.prog w (K w.params) mg base (CX w) k fa fd [x] (sp w))
  (hsp:∀ (w:World) (H:Hp) (a:Addr) (ns:List Int),ns.length≤n→Only H→SqL (K w.params) H a (ns.map V.int)→sp w [.ref a] H (fun v _=>v = .bl true) fun _ _ _=>False)
  (hCX:∀ (w:World) (H:Hp) (s:Shared) (e:Value) (s':Shared),CX w [] H s (fun _ _ _=>False) e s'→False) :
  PySem.W.WalkO q loose XP YP l.row.toRowW d [] (fun f vs=>PySem.call f vs):=by
 refine Att.u8 hn hdf fun w s₀ s₁ mg mb fa o pm cd doc a vs ns G Y ho hd hcd hmg hobj hints hlen hg => ?_
 have KX:=hY w _ Y
 obtain ⟨fd,hb,hF⟩:=F w mg fa _ KX G.T.g hmg
 exact aBI KX G.T.g G.T.b G.T.builtins G.T.nolimit hg hobj hints (Nat.le_trans hlen hn2) hr hF hb (fun H hO hS=>hsp w H a ns hlen hO hS) fun H e s'=>hCX w H s₁ e s'
def eG (s:Stmt):Arguments:=match s with
 | .FunctionDef _ a _ _ _ _ _ _ _ _=>a
 | _=>{ posonlyargs:=[],args:=[],vararg:=none,kwonlyargs:=[],kw_defaults:=[],kwarg:=none,defaults:=[] }
def c9 (s:Stmt):List Stmt:=match s with
 | .FunctionDef _ _ b _ _ _ _ _ _ _=>b
 | _=>[]
def aK (s:Stmt):Scope:=match s with
 | .FunctionDef _ _ _ _ _ _ sc _ _ _=>sc
 | _=>{ kind := .function,names:=[],isGenerator:=false,isCoroutine:=false }
abbrev CX0:CXT:=fun _ _ _ _ _ _=>False
abbrev E0:XK:=fun _ _ _=>False
theorem pass0 {X:Cx}:Passes CX0 X E0:=fun _ _ _ _ _ _ _ h=>h.elim
structure Fun (K:PySem.W.Frag) (x qual:Str) (st:Stmt) (f:Addr) (fd:FuncData):Prop where
 ex:∃ (oc:Value) (od:Option Addr) (kV doc pm:Value) (an:Option Addr) (cdv ct:Value) (osl:Array (Option Value)),
  fd=PySem.W.fnOf x qual (eG st) (c9 st) (aK st) .none kV doc pm an cdv ct∧K.lookup f=some ⟨oc,od, .func fd,osl⟩∧PySem.W.codeIn K cdv qual=true
 kp:PySem.W.keepIn K (.ref f)=true
section
variable {P:Program}{w:World}{K:PySem.W.Frag}{mg:Str→Option Value}{base:Heap}
theorem Fun.ok {x qual:Str}{st:Stmt}{f:Addr}{fd:FuncData}{N ps:List Str}{k:Nat}{sp:Sp} (F:Fun K x qual st f fd) (S:FnScope N ps (aK st)) (len:∀ vs H Q E,sp vs H Q E→vs.length=ps.length)
  (hbody:∀ (cdv:Value) (A:Around) (outer:List Env) (s:Shared) (H:Hp) (vs:List V) (Q:VK) (E:XK),Room k (A.deeper (envOfC qual (aK st) s.heap.objs.size f cdv))→sp vs H Q E →
   ∃ t,PSs (oI CX0 P w K mg base N qual (aK st) f cdv A outer s H E).nox (c9 st) t∧t { nx:=fun _ H'=>Q .non H',rt:=Q } (start N vs) H):FnOk P w K mg base CX0 (k+1) f fd ps sp:=by
 obtain ⟨oc,od,kV,doc,pm,an,cdv,ct,osl,rfl,lk,hcd⟩:=F.ex
 refine aHR lk hcd S len fun A outer s H vs Q E hr hsp => ?_
 obtain ⟨t,h,q⟩:=hbody cdv A outer s H vs Q E hr hsp
 exact ⟨t,h.nox,q⟩
theorem Fun.binds {x qual:Str}{st:Stmt}{f:Addr}{fd:FuncData}{ps:List Str} (F:Fun K x qual st f fd)
  (h:∀ (kV doc pm:Value) (an:Option Addr) (cdv ct:Value) (us:List Value),us.length=ps.length→bindArgs (PySem.W.fnOf x qual (eG st) (c9 st) (aK st) .none kV doc pm an cdv ct) ⟨us,[]⟩=pure (ps.zip us)):Binds K fd ps []:=by
 obtain ⟨oc,od,kV,doc,pm,an,cdv,ct,osl,rfl,lk,hcd⟩:=F.ex
 exact .all (h kV doc pm an cdv ct)
theorem aFT {x qual:Str}{st:Stmt}{f:Addr}{oc:Value}{od an:Option Addr}{osl:Array (Option Value)}{kV doc pm cdv ct:Value} (l:K.lookup f=some ⟨oc,od, .func (PySem.W.fnOf x qual (eG st) (c9 st) (aK st) .none kV doc pm an cdv ct),osl⟩)
  (c:PySem.W.codeIn K cdv qual=true) (k:PySem.W.keepIn K (.ref f)=true):Fun K x qual st f (PySem.W.fnOf x qual (eG st) (c9 st) (aK st) .none kV doc pm an cdv ct):=⟨⟨oc,od,kV,doc,pm,an,cdv,ct,osl,rfl,l,c⟩,k⟩
end
section
variable {X:Cx}
end
theorem bM {A B:Prop} (h:B):if false=true then A else B:=by
 rw [if_neg Bool.false_ne_true]
 exact h
theorem aU {A B:Prop} (h:A):if true=true then A else B:=by
 rw [if_pos rfl]
 exact h
theorem ite2 {c A B:Prop} [Decidable c] (h1:c→A) (h2:¬ c→B):if c then A else B:=by
 by_cases h:c
 ·rw [if_pos h]
  exact h1 h
 ·rw [if_neg h]
  exact h2 h
def Same (H H':Hp):Prop:=∀ b o,H b=some o→H' b=some o
theorem Same.refl (H:Hp):Same H H:=fun _ _ h=>h
theorem Same.trans {H H1 H2:Hp} (a:Same H H1) (b:Same H1 H2):Same H H2:=fun c o h=>b c o (a c o h)
theorem Same.free {H H':Hp} (e:Same H H') {l:Addr} (h:H' l=Option.none):H l=Option.none:=by
 cases q:H l with
 | none=>rfl
 | some o =>
  rw [e l o q] at h
  cases h
theorem Same.seq {K:PySem.W.Frag}{H H':Hp}{a:Addr}{xs:List V} (e:Same H H') (h:SqL K H a xs):SqL K H' a xs:=by
 rcases h with (h | ⟨o,h⟩) | h
 ·exact .inl (.inl (e _ _ h))
 ·exact .inl (.inr ⟨o,e _ _ h⟩)
 ·exact .inr h
end L2
namespace L2
open PySem PySem.Spec PyProof.Rows
def big:Nat:=2 ^ 8000
def aH3 (_ j:Int):Prop:=j≠0∧j.natAbs < big
def aHF (i j:Int):Prop:=i.natAbs < big∧j.natAbs < big
theorem aB3 {n:Nat} (h:n < big):n.log2 < 9000:=by
 by_cases h0:n=0
 ·subst h0; decide
 ·exact Nat.lt_of_lt_of_le ((Nat.log2_lt h0).mpr h) (by decide)
section
variable {X:Cx}
theorem k8:OpR X (binaryOp .FloorDiv) (rI aH3 fun i j => .int (i.fdiv j)) :=
 opI fun _ _ _ _ _ _ _ hc q=>floordiv_int hc.1 q (.inl (PyProof.noPylong_of_log2 (aB3 hc.2)))
theorem eS:OpR X (binaryOp .Mult) (rI aHF fun i j => .int (i * j)) :=
 opI fun _ _ _ _ _ _ _ hc q=>mul_int q (IntMulOk.of_le (m:=8000) (n:=8000) (intBits_le_iff.mpr hc.1) (intBits_le_iff.mpr hc.2) (by decide))
end
theorem aG2 {K:PySem.W.Frag}{S T:String}{b:Bool} (h1:(Value.type S == Value.type T)=false) (h2:PySem.W.kitMeta T=true) (h3:(fastBuiltinMro S).map (·.contains (.type T))=some b) :
  PySem.W.kitOne K (.type S) (.type T)=some b:=by
 unfold PySem.W.kitOne PySem.W.kitCls
 rw [if_neg (by rw [h1]; exact Bool.false_ne_true)]
 show (if PySem.W.kitMeta T=true then _ else _)=_
 rw [if_pos h2]
 exact h3
theorem aBG {K:PySem.W.Frag}{t:Value} (h:(t == t)=true:=by first | rfl | simp):PySem.W.kitOne K t t=some true:=by
 unfold PySem.W.kitOne; rw [if_pos h]
section
variable {X:Cx}
end
end L2
namespace L2
open PySem PySem.Spec PyProof.Rows
structure ExcK (K:PySem.W.Frag) (C:Addr):Prop where
 cd:(PySem.W.clsIn K C).isSome=true
 ga:PySem.W.findIn K (.ref C) "__getattribute__" = some (some (.builtin "BaseException.__getattribute__"))
 gt:PySem.W.findIn K (.ref C) "__getattr__" = some none
 cl:PySem.W.findIn K (.ref C) "__class__" = some (some (.builtin "object.__class__"))
 be:PySem.W.mroIn K C (.type "BaseException")=some true
 ob:PySem.W.mroIn K C (.type "object")=some true
section
variable {prog:Program}{w:World}{A:Around}{E:Value→Shared→Prop}{h:Heap}{g:Array GenState}{d:Drawn}{t:Nat}{os:OsState}{a C:Addr}{K:PySem.W.Frag}
end
section
variable {X:Cx}
end
end L2
namespace L2
open PySem PySem.Spec PyProof.Rows
structure Thrown (h₀:Heap) (H':Hp) (e T:Addr) (cls:Value) (h:Heap):Prop where
 ne:h₀.get? e=none
 nT:h₀.get? T=none
 He:H' e=none
 HT:H' T=none
 ob:∃ oe vs oT ts a0,h.get? e=some oe∧(oe.cls=cls∧vs[0]?=some a0)∧oe.data = .fields vs∧vs[1]?=some (.ref T)∧T≠e∧h.get? T=some oT∧oT.data = .fields ts∧ts[3]?=some .none
section
variable {X:Cx}{pins:List (Addr × Obj)}{σ:St}{H:Hp}{s:Shared}
end
end L2
namespace L2
open PySem PySem.Spec PyProof.Rows
def bmV:List Value:=[.type "ValueError", .type "Exception", .type "BaseException", .type "object"]
section
variable {X:Cx}{E:XK}{C:Addr}{x:Str}{np cpos pos:Pos}{e₀:Expr}{rest:List Expr}{ta:TA}
end
structure ThrownX (X:Cx) (pins:List (Addr × Obj)) (H':Hp) (e T:Addr) (cls:Value) (h:Heap):Prop where
 e0:X.s₀.heap.get? e=none
 T0:X.s₀.heap.get? T=none
 He:H' e=none
 HT:H' T=none
 eL:e≠X.env.locals
 TL:T≠X.env.locals
 ce:∀ x c,X.env.cells.lookup x=some c→c≠e∧c≠T
 pe:∀ p∈X.pn++pins,p.1≠e∧p.1≠T
 ob:∃ oe vs oT ts a0,h.get? e=some oe∧(oe.cls=cls∧vs[0]?=some a0)∧oe.data = .fields vs∧vs[1]?=some (.ref T)∧T≠e∧h.get? T=some oT∧oT.data = .fields ts∧ts[3]?=some .none
def XP (X:Cx) (pins:List (Addr × Obj)) (σ:St) (E:XK) (v:Value) (s':Shared):Prop:=∃ e T cls H',v = .ref e∧Inv X pins σ H' s'∧ThrownX X pins H' e T cls s'.heap∧E cls none H'
section
variable {X:Cx}{pins:List (Addr × Obj)}{σ:St}{H:Hp}{s s':Shared}
end
end L2
namespace L2
open PySem PySem.Spec PyProof.Rows
section
variable {X:Cx}{pins:List (Addr × Obj)}{σ:St}{H:Hp}{s:Shared}
end
end L2
namespace Num
theorem uQ (a b:Int):Int.gcd b (a.fmod b)=Int.gcd a b:=by
 rw [Int.fmod_def,Int.gcd_comm a b]
 exact Int.gcd_sub_mul_left_right _ _ _
theorem wQ (a b:Int) (hb:b≠0):(a.fmod b).natAbs < b.natAbs:=by
 rcases Int.lt_or_gt_of_ne hb with h | h
 ·have h0:0 < -b:=by omega
  have e:a.fmod b = -((-a).fmod (-b)):=by rw [Int.neg_fmod_neg]; omega
  have h1:=Int.fmod_nonneg_of_pos (-a) h0
  have h2:=Int.fmod_lt_of_pos (-a) h0
  omega
 ·have h1:=Int.fmod_nonneg_of_pos a h
  have h2:=Int.fmod_lt_of_pos a h
  omega
def div (t b:Int):Int:=if b < 0 then -((Int.gcd t b:Nat):Int) else ((Int.gcd t b:Nat):Int)
def top (t b:Int):Int:=t.fdiv (div t b)
def bot (t b:Int):Int:=b.fdiv (div t b)
theorem p8 {t b:Int} (h:b≠0):0 < Int.gcd t b:=Int.gcd_pos_of_ne_zero_right t h
theorem aF9 {t b:Int} (h:b≠0):div t b≠0:=by
 have:=p8 (t:=t) h
 unfold div; split <;> omega
theorem aD7 (t b:Int):(div t b).natAbs=Int.gcd t b:=by
 unfold div; split <;> omega
theorem aEM (t b:Int):div t b ∣ t:=by
 unfold div; split
 ·exact Int.neg_dvd.mpr (Int.gcd_dvd_left ..)
 ·exact Int.gcd_dvd_left ..
theorem aDA (t b:Int):div t b ∣ b:=by
 unfold div; split
 ·exact Int.neg_dvd.mpr (Int.gcd_dvd_right ..)
 ·exact Int.gcd_dvd_right ..
theorem wB (t b:Int):top t b * div t b=t:=Int.fdiv_mul_cancel (aEM t b)
theorem pZ (t b:Int):bot t b * div t b=b:=Int.fdiv_mul_cancel (aDA t b)
theorem aDL {t b:Int} (h:b≠0):0 < bot t b:=by
 have e:=pZ t b
 have g:=p8 (t:=t) h
 by_cases hb:b < 0
 ·have hd:div t b < 0:=by unfold div; rw [if_pos hb]; omega
  rcases Int.lt_trichotomy (bot t b) 0 with c | c | c
  ·have:=Int.mul_pos_of_neg_of_neg c hd; omega
  ·rw [c,Int.zero_mul] at e; omega
  ·exact c
 ·have hd:0 < div t b:=by unfold div; rw [if_neg hb]; omega
  rcases Int.lt_trichotomy (bot t b) 0 with c | c | c
  ·have:=Int.mul_neg_of_neg_of_pos c hd; omega
  ·rw [c,Int.zero_mul] at e; omega
  ·exact c
theorem low (t b:Int) (h:b≠0):Int.gcd (top t b) (bot t b)=1:=by
 have g:=p8 (t:=t) h
 have e:Int.gcd (top t b * div t b) (bot t b * div t b)=Int.gcd (top t b) (bot t b) * (div t b).natAbs:=Int.gcd_mul_right ..
 rw [wB,pZ,aD7] at e
 have e':1 * Int.gcd t b=Int.gcd (top t b) (bot t b) * Int.gcd t b:=by rw [Nat.one_mul]; exact e
 exact (Nat.eq_of_mul_eq_mul_right g e').symm
theorem cross (t b:Int) (h:b≠0):top t b * b=t * bot t b:=by
 have e1:=wB t b
 have e2:=pZ t b
 have d:=aF9 (t:=t) h
 have:top t b * (bot t b * div t b)=top t b * div t b * bot t b:=by
  rw [Int.mul_assoc,Int.mul_comm (bot t b)]
 rw [e1,e2] at this
 exact this
theorem pB {k n m:Int} (h:k ∣ n * m) (g:Int.gcd k n=1):k ∣ m:=by
 have:=Int.dvd_gcd_mul_iff_dvd_mul.mpr h
 rw [g] at this
 simpa using this
theorem uniq {p q r s:Int} (hq:0 < q) (hs:0 < s) (g:Int.gcd p q=1) (g':Int.gcd r s=1) (e:p * s=r * q):p=r∧q=s:=by
 have d1:q ∣ s:=by
  have:q ∣ p * s:=⟨r,by rw [e,Int.mul_comm]⟩
  have h:=pB this (by rw [Int.gcd_comm]; exact g)
  exact h
 have d2:s ∣ q:=by
  have:s ∣ r * q:=⟨p,by rw [← e,Int.mul_comm]⟩
  exact pB this (by rw [Int.gcd_comm]; exact g')
 have h1:=Int.le_of_dvd hs d1
 have h2:=Int.le_of_dvd hq d2
 have hqs:q=s:=by omega
 subst hqs
 exact ⟨Int.eq_of_mul_eq_mul_right (by omega) e,rfl⟩
end Num
namespace R
open PySem L2
theorem BI:bootBuiltins "int" = some (.type "int"):=by decide +kernel
theorem BB:bootBuiltins "bool" = some (.type "bool"):=by decide +kernel
theorem BT:bootBuiltins "tuple" = some (.type "tuple"):=by decide +kernel
structure Df (K:PySem.W.Frag) (mg:Str→Option Value) (x:Str) (st:Stmt) (ps:List Str) (f:Addr) (fd:FuncData):Prop where
 F:Fun K x x st f fd
 b:Binds K fd ps []
 m:mg x=some (.ref f)
structure Bn (mg:Str→Option Value):Prop where
 isi:mg "isinstance" = none
 int:mg "int" = none
 bool:mg "bool" = none
 tuple:mg "tuple" = none
 len:mg "len" = none
 abs:mg "abs" = none
 range:mg "range" = none
 min:mg "min" = none
inductive Kn (K:PySem.W.Frag) (H:Hp):V→Prop
 | non:Kn K H .non
 | bl (b:Bool):Kn K H (.bl b)
 | int (i:Int):Kn K H (.int i)
 | str (x:Str):Kn K H (.str x)
 | lst {a:Addr}{xs:List V} (e:H a=some (.lst xs)):Kn K H (.ref a)
 | tup {a:Addr}{xs:List V} (e:H a=some (.tup xs)):Kn K H (.ref a)
section
variable {P:Program}{w:World}{K:PySem.W.Frag}{mg:Str→Option Value}{base:Heap}
theorem aDB (a:Int):(if a < 0 then -a else a)=((Int.gcd a 0:Nat):Int):=by
 rw [Int.gcd_zero_right]; split <;> omega
def second:St→Nat
 | [_,some (.int b)]=>b.natAbs
 | [_,some (.int b),_]=>b.natAbs
 | _=>0
def num (t b:Int):HO := .tup [.int (Num.top t b), .int (Num.bot t b)]
end
end R
namespace R
open PySem L2
section
variable {P:Program}{w:World}{K:PySem.W.Frag}{mg:Str→Option Value}{base:Heap}
structure Kn2 (K:PySem.W.Frag) (H:Hp) (v:V):Prop where
 kn:Kn K H v
 two:∀ a x y,v = .ref a→H a=some (.tup [x,y])→Kn K H x∧Kn K H y
def gY (H:Hp):V→Bool
 | .ref a=>(match H a with
  | some (.tup [.int x, .int y])=>decide (1≤y) && decide (Int.gcd x y=1)
  | _=>false)
 | _=>false
end
end R
namespace L2
open PySem PySem.Spec PyProof.Rows
end L2
namespace R
open PySem L2
structure Fd (H:Hp) (p:Addr) (b:Int):Prop where
 ex:∃ g m st:Int,H p=some (.lst [.int g, .int m, .int st])∧0≤g∧0≤m∧m < 2147483399∧0≤st∧st≤b
section
variable {P:Program}{w:World}{K:PySem.W.Frag}{mg:Str→Option Value}{base:Heap}
theorem qY (x:Int) {m:Int} (h0:0 < m) (h1:m < 2 ^ 64) : -(2 ^ 64) < x % m∧x % m < 2 ^ 64:=by
 have:=Int.emod_nonneg x (show m≠0 by omega)
 have:=Int.emod_lt_of_pos x h0
 omega
end
end R
namespace R
open PySem L2
section
variable {P:Program}{w:World}{K:PySem.W.Frag}{mg:Str→Option Value}{base:Heap}
end
end R
namespace R
open PySem L2
structure Ex (K:PySem.W.Frag) (mg:Str→Option Value) (CR CN CY CP CT CW CM:Addr):Prop where
 mR:mg "RoofError" = some (.ref CR)
 mN:mg "NoNumber" = some (.ref CN)
 mY:mg "NoYard" = some (.ref CY)
 mP:mg "NoPoint" = some (.ref CP)
 mT:mg "NoText" = some (.ref CT)
 mW:mg "NoRow" = some (.ref CW)
 mM:mg "NoName" = some (.ref CM)
 vE:mg "ValueError" = none
 xN:PySem.W.excIn K CN bmV "ValueError.__new__" = true
 kN:ExcK K CN
 cN:PySem.W.exmOne K (.ref CN) (.ref CR)=some true
 iV:PySem.W.kitOne K (.ref CN) (.type "ValueError")=some true
 iO:PySem.W.kitAny K (.ref CN) [.ref CM, .ref CP, .ref CW, .ref CT, .ref CY]=some false
section
variable {P:Program}{w:World}{K:PySem.W.Frag}{mg:Str→Option Value}{base:Heap}{CR CN CY CP CT CW CM:Addr}
end
end R
namespace R
open PySem L2
section
variable {P:Program}{w:World}{K:PySem.W.Frag}{mg:Str→Option Value}{base:Heap}
end
end R
namespace R
open PySem L2
end R
namespace L2
open PySem PySem.Spec PyProof.Rows
section
variable {prog:Program}{w:World}{A:Around}{E:Value→Shared→Prop}{s:Shared}
end
section
variable {X:Cx}{pos:Pos}
end
end L2
namespace Num
theorem yR (t b:Int) (hb:b≠0):top t b=(Rat.divInt t b).num∧bot t b=((Rat.divInt t b).den:Int):=by
 have hd:((Rat.divInt t b).den:Int)≠0:=by have:=(Rat.divInt t b).den_nz; omega
 have e:(Rat.divInt t b).num * b=t * ((Rat.divInt t b).den:Int):=by
  have:=Rat.num_divInt_den (Rat.divInt t b)
  exact (Rat.divInt_eq_divInt_iff hd hb).mp this
 have g:Int.gcd (Rat.divInt t b).num ((Rat.divInt t b).den:Int)=1:=by
  have:=(Rat.divInt t b).reduced
  rw [Int.gcd_eq_natAbs_gcd_natAbs]
  exact this
 refine uniq (aDL hb) (by have:=(Rat.divInt t b).den_pos; omega) (low t b hb) g ?_
 have c:=cross t b hb
 have h1:top t b * ((Rat.divInt t b).den:Int) * b=(Rat.divInt t b).num * bot t b * b:=by
  rw [Int.mul_right_comm,c,Int.mul_right_comm,← e,Int.mul_right_comm]
 exact Int.eq_of_mul_eq_mul_right hb h1
theorem aDO (x y:Rat):Rat.divInt (x.num * (y.den:Int)+y.num * (x.den:Int)) ((x.den:Int) * (y.den:Int))=x+y:=by
 have h1:(x.den:Int)≠0:=by have:=x.den_nz; omega
 have h2:(y.den:Int)≠0:=by have:=y.den_nz; omega
 rw [← Rat.divInt_add_divInt _ _ h1 h2,Rat.num_divInt_den,Rat.num_divInt_den]
theorem aET (x y:Rat):Rat.divInt (x.num * y.num) ((x.den:Int) * (y.den:Int))=x * y:=by
 rw [← Rat.divInt_mul_divInt,Rat.num_divInt_den,Rat.num_divInt_den]
end Num
namespace R
open PySem L2
structure Sz (k:Nat) (x:Rat):Prop where
 n:x.num.natAbs < 2 ^ k
 d:x.den < 2 ^ k
theorem mC (x:Rat):((x.den:Nat):Int)≠0:=by have:=x.den_nz; omega
end R
namespace L2
open PySem PySem.Spec PyProof.Rows
theorem gL:∀ (names:List (Str × NameKind)) (n:Nat) (acc:List (Str × Addr)),cellsFrom n names acc=cellsFrom n names []++acc
 | [],_,_=>rfl
 | (name,kind)::r,n,acc=>by
  unfold cellsFrom
  split
  ·rw [gL r (n+1) ((name,n)::acc),gL r (n+1) [(name,n)],List.append_assoc]; rfl
  ·exact gL r n acc
theorem o7:∀ (names:List (Str × NameKind)) (n:Nat) (acc:List (Str × Addr)) {y:Str}{c:Addr},(y,c)∈cellsFrom n names acc→(y,NameKind.cell)∈names∨(y,c)∈acc
 | [],_,_,_,_,h => .inr h
 | (name,kind)::r,n,acc,y,c,h=>by
  unfold cellsFrom at h
  split at h
  ·rename_i hk
   rcases o7 r (n+1) _ h with q | q
   ·exact .inl (List.mem_cons_of_mem _ q)
   ·rcases List.mem_cons.mp q with q | q
    ·cases q
     have:kind = .cell:=by simpa using hk
     exact .inl (by rw [this]; exact List.mem_cons_self)
    ·exact .inr q
  ·rcases o7 r n _ h with q | q
   ·exact .inl (List.mem_cons_of_mem _ q)
   ·exact .inr q
theorem iZ {y:Str}:∀ {l m:List (Str × Addr)},(l++m).lookup y=match l.lookup y with | some c=>some c | none=>m.lookup y
 | [],_=>rfl
 | (n,c)::l,m=>by
  rw [List.cons_append,List.lookup_cons,List.lookup_cons]
  cases y == n with
  | true=>rfl
  | false=>exact iZ (l:=l) (m:=m)
theorem lR {scope:Scope}{env:Env}:∀ (names:List (Str × NameKind)) (acc:List (Str × Addr)),
  (∀ n,(n,NameKind.free)∈names→∃ c,env.cells.lookup n=some c)→(∀ n c,acc.lookup n=some c→env.cells.lookup n=some c) →
  ∃ cl,(forIn names acc fun x cs=>(if x.2 == NameKind.free then (do let c ← cellOf env x.1; pure (ForInStep.yield ((x.1,c)::cs))) else pure (ForInStep.yield cs)):Sem (List (Str × Addr)))=pure cl ∧
   (∀ n c,cl.lookup n=some c→env.cells.lookup n=some c)∧(∀ n,(n,NameKind.free)∈names→∃ c,cl.lookup n=some c)∧∀ n c,acc.lookup n=some c→∃ c',cl.lookup n=some c'
 | [],acc,_,h2=>⟨acc,rfl,h2,(fun _ h=>nomatch h),fun n c e=>⟨c,e⟩⟩
 | (name,kind)::r,acc,h1,h2=>by
  have h1':∀ n,(n,NameKind.free)∈r→∃ c,env.cells.lookup n=some c:=fun n hn=>h1 n (List.mem_cons_of_mem _ hn)
  by_cases hk:kind = .free
  ·subst hk
   obtain ⟨c,hc⟩:=h1 name List.mem_cons_self
   obtain ⟨cl,e,q1,q2,q3⟩:=lR (scope:=scope) (env:=env) r ((name,c)::acc) h1' (fun n c' hn=>by
    rw [List.lookup_cons] at hn
    cases hb:n == name with
    | true =>
     rw [hb] at hn
     have:n=name:=by simpa using hb
     subst this
     cases hn; exact hc
    | false=>rw [hb] at hn; exact h2 n c' hn)
   refine ⟨cl,?_,q1,fun n hn => ?_,fun n c' hn => ?_⟩
   ·rw [List.forIn_cons]
    simp only [beq_self_eq_true,if_true]
    have e0:cellOf env name=pure c:=by unfold cellOf; rw [hc]
    rw [e0]
    exact e
   ·rcases List.mem_cons.mp hn with z | z
    ·cases z
     exact q3 _ c (by rw [List.lookup_cons,beq_self_eq_true])
    ·exact q2 n z
   ·cases hb:n == name with
    | true=>exact q3 n c (by rw [List.lookup_cons,hb])
    | false=>exact q3 n c' (by rw [List.lookup_cons,hb]; exact hn)
  ·obtain ⟨cl,e,q1,q2,q3⟩:=lR (scope:=scope) (env:=env) r acc h1' h2
   refine ⟨cl,?_,q1,fun n hn => ?_,q3⟩
   ·rw [List.forIn_cons]
    have hb:(kind == NameKind.free)=false:=by simpa using hk
    simp only [hb,Bool.false_eq_true,if_false]
    exact e
   ·rcases List.mem_cons.mp hn with z | z
    ·cases z; exact absurd rfl hk
    ·exact q2 n z
theorem rF {scope:Scope}{env:Env} (h:∀ n,(n,NameKind.free)∈scope.names→∃ c,env.cells.lookup n=some c) :
  ∃ cl,closureFor scope env=pure cl∧(∀ n c,cl.lookup n=some c→env.cells.lookup n=some c)∧(∀ n,(n,NameKind.free)∈scope.names→∃ c,cl.lookup n=some c):=by
 obtain ⟨cl,e,q1,q2,_⟩:=lR (scope:=scope) (env:=env) scope.names [] h (fun n c e=>by cases e)
 refine ⟨cl,?_,q1,q2⟩
 show ((forIn scope.names [] fun x cs=>(if x.2 == NameKind.free then (do let c ← cellOf env x.1; pure (ForInStep.yield ((x.1,c)::cs))) else pure (ForInStep.yield cs)):Sem (List (Str × Addr))) >>= fun cs=>pure cs)=pure cl
 rw [e]
 rfl
theorem uS {M:Model}{A:Around}{E:Value→Shared→Prop}{s:Shared}{scope:Scope}{globals:Addr}{cl:List (Str × Addr)}{qual:Str}{code:Value}{env:Env}{Q:Env→Shared→Prop}
  (h:Q (newEnv scope s.heap.objs.size globals (cellsFrom (s.heap.objs.size+1) scope.names cl) qual none code (some env) builtinsNs) { s with heap:=pushCells (s.heap.push { cls := .type "dict", data := .dict #[] }) scope.names }) :
  wpAny M A (newFunctionEnv scope globals cl [] qual none code (some env)) Q E s:=by
 simp only [newFunctionEnv,Option.isSome_some,if_true]
 refine wpAny_bind (wpAny_alloc ?_)
 refine wpAny_bind (wpAny_layCells _ (fun name kind cells=>by cases hkc:kind == NameKind.cell <;> simp [hkc]) _ _ _ _ ?_)
 rw [show ({ s with heap:=s.heap.push { cls := .type "dict", data := .dict #[] } }:Shared).heap.objs.size=s.heap.objs.size+1 from Heap.size_push ..]
 exact wpAny_bind (wpAny_pure (wpAny_pure h))
def aY (X:Cx) (scope:Scope) (cs:List (Str × Addr)) (C:Addr) (Nc:List Str) (s₀:Shared) (H₀:Hp) (fp:List Addr):Cx :=
 { X with N:=Nc,s₀:=s₀,H₀:=H₀,env:=compEnvC scope cs C X.env,outer:=X.stack,ex:=fp,fn:=fun y=>scope.names.lookup y == some .cell,pn:=[],xe:=fun _ _=>False }
theorem fR {env:Env}{y:Str}{k:NameKind}:∀ {names:List (Str × NameKind)},
  (names.map fun (n,k)=>if (k == NameKind.free && env.scope.kind == .function && env.kindOf n == some .cell) then (n,NameKind.cell) else (n,k)).lookup y=some k →
  names.lookup y=some k∨(names.lookup y=some .free∧k = .cell)
 | [],h=>by cases h
 | (n,k')::r,h=>by
  have ih:=fR (env:=env) (y:=y) (k:=k) (names:=r)
  rw [List.map_cons] at h
  cases hy:y == n with
  | true =>
   rw [List.lookup_cons,hy]
   by_cases hc:(k' == NameKind.free && env.scope.kind == .function && env.kindOf n == some .cell)=true
   ·dsimp only at h
    rw [if_pos hc,List.lookup_cons,hy] at h
    cases h
    have:k' = .free:=by
     rw [Bool.and_eq_true,Bool.and_eq_true] at hc
     simpa using hc.1.1
    exact .inr ⟨by rw [this],rfl⟩
   ·dsimp only at h
    rw [if_neg hc,List.lookup_cons,hy] at h
    exact .inl h
  | false =>
   rw [List.lookup_cons,hy]
   by_cases hc:(k' == NameKind.free && env.scope.kind == .function && env.kindOf n == some .cell)=true
   ·dsimp only at h
    rw [if_pos hc,List.lookup_cons,hy] at h
    exact ih h
   ·dsimp only at h
    rw [if_neg hc,List.lookup_cons,hy] at h
    exact ih h
def PIf (Y:Cx) (ifs:List Expr) (tt:TT):Prop :=
 ∀ (pins:List (Addr × Obj)) (s:Shared) (σ:St) (H:Hp) (Q:Bool→Hp→Prop),Inv Y pins σ H s→tt σ H Q →
  wpAny (model Y.prog Y.w) Y.A (forIn ifs true fun c r=>if r=true then do let ok ← isTrue c Y.env (eval c Y.env); pure (ForInStep.yield ok) else pure (ForInStep.yield r)) (TP Y pins σ Q) Y.xe s
def aIC:TT:=fun _ H Q=>Q true H
theorem aDX {Y:Cx}:PIf Y [] aIC:=fun pins s σ H Q I h=>by
 rw [List.forIn_nil]
 exact wpAny_pure ⟨H,I,h⟩
theorem aFI {Y:Cx}{c:Expr}{tt:TT} (h:PT Y c tt):PIf Y [c] tt:=fun pins s σ H Q I q=>wpAny_tests_one (h pins s σ H Q I q)
theorem t8 {prog:Program}{w:World}{A:Around}{R:Result→Shared→Prop}{s:Shared}{elt target iter:Expr}{ifs:List Expr}{scope:Scope}{pos:Pos}{it acc:Value}{env:Env} (I:Nat→Shared→Prop)
  (turn:∀ n s,I n s→wpAny (model prog w) A (pyNext it) (fun r s₁=>match r with
   | none=>R (.ok .next) s₁
   | some v=>wpAny (model prog w) A (letOwnedTupleGo target it v) (fun _ s₁'=>wpAny (model prog w) A (assign target env v) (fun _ s₂ =>
     wpAny (model prog w) A (forIn ifs true fun c r=>if r=true then do let ok ← isTrue c env (eval c env); pure (ForInStep.yield ok) else pure (ForInStep.yield r)) (fun ok s₃ =>
      if ok=true then wpAny (model prog w) A (eval elt env) (fun x s₄ =>
       wpAny (model prog w) A (call (.builtin "list.append") [acc,x]) (fun _ s₅=>∃ m,m < n∧I m s₅) (fun _ _=>False) s₄) (fun _ _=>False) s₃
      else ∃ m,m < n∧I m s₃) (fun _ _=>False) s₂) (fun _ _=>False) s₁') (fun _ _=>False) s₁) (fun _ _=>False) s)
  (n:Nat) (h:I n s) :
  codeAny (model prog w) A (.compLoop (.ListComp elt [⟨target,iter,ifs,0⟩] scope pos) 0 it acc env) R s:=by
 refine codeAny_loop rfl I (fun n s hI => ?_) n h
 show wpAny _ A ((compTurn (.ListComp elt [⟨target,iter,ifs,0⟩] scope pos) 0 it acc env).onRaise (fun x=>do noteFrame x env; theTreesLotGoes x)) _ _ s
 refine wpAny_noted ?_
 rw [compTurn_list]
 refine wpAny_bind (wpAny_standAt (wpAny_bind (wpAny_mono (turn n s hI) (fun r s₁ h₁ => ?_) fun _ _ h'=>h'.elim)))
 cases r with
 | none=>exact wpAny_pure h₁
 | some v =>
  refine wpAny_bind (wpAny_mono h₁ (fun _ s₁' h₁' => ?_) fun _ _ h'=>h'.elim)
  refine wpAny_bind (wpAny_mono h₁' (fun _ s₂ h₂=>wpAny_bind (wpAny_mono h₂ (fun ok s₃ h₃ => ?_) fun _ _ h'=>h'.elim)) fun _ _ h'=>h'.elim)
  cases ok with
  | false=>exact wpAny_pure ⟨rfl,h₃⟩
  | true =>
   exact wpAny_bind (wpAny_bind (wpAny_mono h₃ (fun x s₄ h₄=>wpAny_bind (wpAny_mono h₄ (fun _ s₅ h₅=>wpAny_pure (wpAny_pure ⟨rfl,h₅⟩)) fun _ _ h'=>h'.elim)) fun _ _ h'=>h'.elim))
def aHS (J:It) (cap:List Nat) (tt:TT) (te:TE) (σ:St) (H1:Hp) (Q:VK) (D:Addr):Prop:=∃ W:Nat→Nat→List V→Hp→Prop,(∃ m,W 0 m [] (upd H1 D (.lst [])))∧∀ i m ys H2,W i m ys H2 →
 H2 D=some (.lst ys)∧((J.stop i H2∧Q (.ref D) H2)∨(J.go i H2∧ys.length < sizeLine∧∀ x H3,J.yld i H2 x H3 →
  tt (some x::cap.map fun k=>(σ[k]?).join) H3 fun b H4=>if b=true then te (some x::cap.map fun k=>(σ[k]?).join) H4 fun y H5=>H5 D=some (.lst ys)∧∃ m',m' < m∧W (i+1) m' (ys++[y]) (upd H5 D (.lst (ys++[y])))
   else ∃ m',m' < m∧W (i+1) m' ys H4))
def nI (wi:TI) (cap:List Nat) (tt:TT) (te:TE):TE:=fun σ H Q=>wi σ H fun J H1=>∀ D,H1 D=none→aHS J cap tt te σ H1 Q D
structure CFree (X:Cx) (pins:List (Addr × Obj)) (H':Hp) (C:Addr):Prop where
 hn:H' C=none
 hL:C≠X.env.locals
 h1:X.s₀.heap.objs.size≤C
 h2:∀ x c,X.env.cells.lookup x=some c→c≠C
 h3:∀ p∈X.pn++pins,p.1≠C
theorem rA {X:Cx}{x:Str}{px pos:Pos}{iter elt:Expr}{ifs:List Expr}{scope:Scope}{ns:List Str}{cap:List Nat}{wi:TI}{tt:TT}{te:TE} (hc:X.calm=true) (hkind:scope.kind = .function)
  (hnames:∀ y∈scope.names,y.2 = .local→scope.names.lookup y.1=some .local) (hx:Loc (relabel scope X.env) x) (hxf:scope.names.lookup x=some .cell∨(relabel scope X.env).names.lookup x=some .local)
  (hNc:(x::ns).Nodup) (hlen:cap.length=ns.length) (hcap:∀ (j k:Nat) (nm:Str),cap[j]?=some k→ns[j]?=some nm→X.N[k]?=some nm∧(X.env.scope.names.lookup nm=some .cell∨X.env.scope.names.lookup nm=some .free))
  (hns:∀ nm∈ns,(nm,NameKind.free)∈scope.names∧(nm,NameKind.cell) ∉ scope.names) (hnsk:∀ nm∈ns,scope.names.lookup nm=some .free) (hfree:∀ y∈scope.names,y.2 = .free→X.env.scope.names.lookup y.1=some .cell∨X.env.scope.names.lookup y.1=some .free)
  (hi:PI X (.Name x px) iter wi)
  (ht:∀ cs C s₀ H₀ fp,PIf (aY X scope cs C (x::ns) s₀ H₀ fp) ifs tt) (he:∀ cs C s₀ H₀ fp,PE (aY X scope cs C (x::ns) s₀ H₀ fp) elt te)
  (hs:∀ v,foldedSetIterable iter X.env v=pure v:=by intro _; rfl)
  {use:Option (Value→Sem Unit)}{Q':Value→Shared→Prop}{pins:List (Addr × Obj)}{s:Shared}{σ:St}{H:Hp}{Q:VK}{ip:Pos} (I:Inv X pins σ H s) (h:nI wi cap tt te σ H Q)
  (hfin:∀ (D C:Addr) (H':Hp) (s':Shared),Inv X pins σ H' s'→Q (.ref D) H'→(∃ m,s'.heap.Ns C m)→CFree X pins H' C→compPost (model X.prog X.w) X.A X.xe use Q' (.ref D) C (.ok .next) s') :
  wpAny (model X.prog X.w) X.A (comprehension (.ListComp elt [⟨.Name x px,iter,ifs,0⟩] scope pos) scope X.env ip (newList []) false (eval iter X.env) use) Q' X.xe s:=by
 obtain ⟨cl,ecl,cl1,cl2⟩:=rF (scope:=scope) (env:=X.env) fun n hn=>I.ok.has n (hfree (n, .free) hn rfl)
 refine wpAny_comprehension_free (use:=use) rfl hs ecl hkind hnames (thn (hi pins s σ H _ I h) fun xv s1 h1=>thn h1 fun itv s2 h2 => ?_)
 obtain ⟨it,fp,tn,J,H2,rfl,I2,T,st2,f2,q⟩:=h2
 have hD:H2 s2.heap.objs.size=none:=I2.fresh
 obtain ⟨W,⟨m0,w0⟩,step⟩:=q s2.heap.objs.size hD
 refine wpAny_newObj_type ?_ (by show 0≤sizeLine; exact Nat.zero_le _)
 have I3:Inv X pins σ (upd H2 s2.heap.objs.size (.lst [])) { s2 with heap:=s2.heap.push { cls := .type "list", data := .seq ([]:List Value).toArray } } :=
  I2.laid (t':=s2.toks) (fun b u e=>Heap.get?_push_of_some _ e) (Nat.le_refl _) ⟨Nat.zero_le _,[],0, .nil,Heap.get?_push_size _ rfl⟩
 have sz3:(s2.heap.push { cls := .type "list", data := .seq ([]:List Value).toArray }).objs.size=s2.heap.objs.size+1:=Heap.size_push ..
 have hfp3:∀ b∈fp,∀ o,(upd H2 s2.heap.objs.size (.lst [])) b≠some o:=fun b hb o z=>by
  obtain ⟨ob,e,_⟩:=T.obj 0 _ st2 b hb
  rw [bB (Nat.ne_of_lt (Heap.lt_size e)),(f2 b hb).1] at z
  cases z
 revert I3 sz3 w0 step hfp3
 generalize upd H2 s2.heap.objs.size (.lst [])=H3
 generalize hs3:({ s2 with heap:=s2.heap.push { cls := .type "list", data := .seq ([]:List Value).toArray } }:Shared)=s3
 intro step w0 I3 sz3 hfp3
 have st3:tn 0 s3.heap:=T.keep 0 _ _ st2 fun b _ o e=>by rw [← hs3]; exact Heap.get?_push_of_some _ e
 have fpLt:∀ b∈fp,b < s3.heap.objs.size:=fun b hb=>by
  obtain ⟨o,e,_⟩:=T.obj 0 _ st3 b hb
  exact Heap.lt_size e
 refine uS ?_
 have new:CellsOk (pushCells (s3.heap.push { cls := .type "dict", data := .dict #[] }) scope.names) (s3.heap.objs.size+1) (cellsFrom (s3.heap.objs.size+1) scope.names []):=by
  have ok:=cellsFrom_ok scope.names (s3.heap.push { cls := .type "dict", data := .dict #[] }) (s3.heap.objs.size+1) [] ⟨fun _ _ hm=>(nomatch hm),List.Pairwise.nil⟩ (by rw [Heap.size_push]; exact Nat.le_refl _)
  rw [Heap.size_push] at ok
  exact ok
 have keep4:∀ b o,s3.heap.get? b=some o→(pushCells (s3.heap.push { cls := .type "dict", data := .dict #[] }) scope.names).get? b=some o:=fun b o e=>pushCells_keeps _ _ b o (Heap.get?_push_of_some _ e)
 have nsC:(pushCells (s3.heap.push { cls := .type "dict", data := .dict #[] }) scope.names).Ns s3.heap.objs.size (fun _=>none):=(Heap.Ns.new s3.heap (.type "dict")).keeps (pushCells_keeps _ _)
 have lk:∀ y c,(cellsFrom (s3.heap.objs.size+1) scope.names cl).lookup y=some c→((y,c)∈cellsFrom (s3.heap.objs.size+1) scope.names []∧(y,NameKind.cell)∈scope.names)∨(cl.lookup y=some c∧X.env.cells.lookup y=some c):=fun y c e=>by
  rw [gL,iZ] at e
  cases z:(cellsFrom (s3.heap.objs.size+1) scope.names []).lookup y with
  | some c' =>
   rw [z] at e
   have e':c'=c:=Option.some.inj e
   subst e'
   have hm:=PySem.mem_of_lookup z
   rcases o7 _ _ _ hm with q | q
   ·exact .inl ⟨hm,q⟩
   ·cases q
  | none=>rw [z] at e; exact .inr ⟨e,cl1 y c e⟩
 have oldLt:∀ y c,X.env.cells.lookup y=some c→c < s3.heap.objs.size:=fun y c e=>by
  obtain ⟨v,z⟩:=I3.cell y c e
  exact z.lt
 have hlk2:∀ nm∈ns,∃ c,(cellsFrom (s3.heap.objs.size+1) scope.names cl).lookup nm=some c∧X.env.cells.lookup nm=some c:=fun nm hnm=>by
  obtain ⟨h1,h2⟩:=hns nm hnm
  obtain ⟨c,e⟩:=cl2 nm h1
  refine ⟨c,?_,cl1 nm c e⟩
  rw [gL,iZ]
  cases z:(cellsFrom (s3.heap.objs.size+1) scope.names []).lookup nm with
  | some c' =>
   rcases o7 _ _ _ (PySem.mem_of_lookup z) with q | q
   ·exact absurd q h2
   ·cases q
  | none=>exact e
 show codeAny (model X.prog X.w) X.A (.compStart (.ListComp elt [⟨.Name x px,iter,ifs,0⟩] scope pos) 0 (.ref it) (.ref s2.heap.objs.size) (aY X scope (cellsFrom (s3.heap.objs.size+1) scope.names cl) s3.heap.objs.size (x::ns) s3 H3 fp).env) (compPost (model X.prog X.w) X.A X.xe use Q' (.ref s2.heap.objs.size) s3.heap.objs.size) { s3 with heap:=pushCells (s3.heap.push { cls := .type "dict", data := .dict #[] }) scope.names }
 have ht':=ht (cellsFrom (s3.heap.objs.size+1) scope.names cl) s3.heap.objs.size s3 H3 fp
 have he':=he (cellsFrom (s3.heap.objs.size+1) scope.names cl) s3.heap.objs.size s3 H3 fp
 have OK:(aY X scope (cellsFrom (s3.heap.objs.size+1) scope.names cl) s3.heap.objs.size (x::ns) s3 H3 fp).Ok:=by
  refine ⟨I3.ok.mod,hkind,I3.ok.glob,I3.ok.blt,Nat.le_refl _,fun y z c e1 e2 => ?_,fun y hy => ?_,fun y c hf e => ?_,fun _=>I3.ok.hd hc,I3.ok.frames, .inl rfl,fun b hb=>⟨Nat.ne_of_lt (fpLt b hb),fun y c e => ?_⟩,I3.bs,Nat.le_trans I3.ok.bsz I3.sz,fun b o e hb => ?_,fun b hb hm => ?_,I3.stack,I3.stkFree⟩
  ·rcases lk y c e1 with ⟨a1,_⟩ | ⟨a1,a2⟩ <;> rcases lk z c e2 with ⟨b1,_⟩ | ⟨b1,b2⟩
   ·exact name_of_addr new.apart a1 b1
   ·exact absurd (Nat.lt_of_lt_of_le (oldLt z c b2) (Nat.le_of_succ_le (new.empty y c a1).2)) (Nat.lt_irrefl _)
   ·exact absurd (Nat.lt_of_lt_of_le (oldLt y c a2) (Nat.le_of_succ_le (new.empty z c b1).2)) (Nat.lt_irrefl _)
   ·exact I3.ok.inj y z c a2 b2
  ·have key:scope.names.lookup y=some .cell∨scope.names.lookup y=some .free:=by
    rcases hy with hy | hy
    ·rcases fR (env:=X.env) (names:=scope.names) hy with q | ⟨q,_⟩
     ·exact .inl q
     ·exact .inr q
    ·rcases fR (env:=X.env) (names:=scope.names) hy with q | ⟨q,_⟩
     ·exact .inr q
     ·exact .inr q
   rcases key with q | q
   ·exact Option.isSome_iff_exists.mp (PySem.W.cellsFrom_some scope.names (s3.heap.objs.size+1) cl (.inl q))
   ·obtain ⟨c,e⟩:=cl2 y (PySem.mem_of_lookup q)
    exact Option.isSome_iff_exists.mp (PySem.W.cellsFrom_some scope.names (s3.heap.objs.size+1) cl (.inr (by rw [e]; rfl)))
  ·have hf':scope.names.lookup y=some .cell:=by
    have hf0:(scope.names.lookup y == some .cell)=true:=hf
    simpa using hf0
   have e':(cellsFrom (s3.heap.objs.size+1) scope.names cl).lookup y=some c:=e
   have e0:=Option.isSome_iff_exists.mp (PySem.W.cellsFrom_some scope.names (s3.heap.objs.size+1) [] (.inl hf'))
   obtain ⟨c',z⟩:=e0
   rw [gL,iZ,z] at e'
   cases e'
   exact Nat.le_of_succ_le (new.empty y c (PySem.mem_of_lookup z)).2
  ·rcases lk y c e with ⟨a1,_⟩ | ⟨a1,a2⟩
   ·exact fun z=>absurd (Nat.lt_of_lt_of_le (fpLt b hb) (z ▸ Nat.le_of_succ_le (new.empty y c a1).2)) (Nat.lt_irrefl _)
   ·exact (f2 b hb).2.2.2.2.1 y c a2
  ·rcases (f2 b hb).2.2.2.1 with z | z
   ·exact I3.ok.noex b o e z
   ·exact absurd (Nat.lt_of_lt_of_le (Heap.lt_size (I3.ok.bs b o e).1) z) (Nat.lt_irrefl _)
  ·rcases List.mem_cons.mp (I3.stkSub b hm) with z | z
   ·exact (f2 b hb).2.1 z
   ·exact (f2 b hb).2.2.1 z
 have IY:Inv (aY X scope (cellsFrom (s3.heap.objs.size+1) scope.names cl) s3.heap.objs.size (x::ns) s3 H3 fp) [] (none::cap.map fun k=>(σ[k]?).join) H3 { s3 with heap:=pushCells (s3.heap.push { cls := .type "dict", data := .dict #[] }) scope.names }:=by
  refine ⟨OK,rfl,I3.bare,Un.kept keep4,⟨_,nsC,fun i nm v e1 e2 e3 => ?_⟩,fun y c e => ?_,I3.fresh,fun y c e => ?_,fun p hp=>absurd (show p∈([]:List (Addr × Obj)) from hp) (by simp),I3.hok.kept keep4,by simp [aY,hlen]⟩
  ·cases i with
   | zero=>cases e2
   | succ j =>
    have e1':ns[j]?=some nm:=e1
    have e2':(cap.map fun k=>(σ[k]?).join)[j]?=some (some v):=e2
    rw [List.getElem?_map] at e2'
    cases hk:cap[j]? with
    | none=>rw [hk] at e2'; cases e2'
    | some k =>
     rw [hk] at e2'
     have e2'':(σ[k]?).join=some v:=Option.some.inj e2'
     have e4:σ[k]?=some (some v):=by
      cases z:σ[k]? with
      | none=>rw [z] at e2''; cases e2''
      | some o=>rw [z] at e2''; exact congrArg some e2''
     obtain ⟨hN,hcell⟩:=hcap j k nm hk e1'
     obtain ⟨m,_,hl⟩:=I3.loc
     obtain ⟨u,r,l⟩:=hl k nm v hN e4 (.inr hcell)
     refine ⟨u,r,?_⟩
     rcases l with ⟨l1,_⟩ | ⟨_,c,ec,z⟩
     ·have l1':X.env.scope.names.lookup nm=some .local:=l1
      rcases hcell with q | q <;> rw [q] at l1' <;> cases l1'
     ·obtain ⟨c',g1,g2⟩:=hlk2 nm (List.mem_of_getElem? e1')
      rw [ec] at g2
      cases g2
      refine .inr ⟨?_,c,g1,?_⟩
      ·rcases e3 with q | q
       ·rcases fR (env:=X.env) (names:=scope.names) q with w1 | ⟨_,w1⟩
        ·exfalso
         have hmem:=(hns nm (List.mem_of_getElem? e1')).1
         have:=hnames (nm, .local) (PySem.mem_of_lookup w1) rfl
         -- a name has one kind in a scope: its cell is known,so it is not local here
         exact absurd (I3.ok.has nm (hfree (nm, .free) hmem rfl)) (fun _=>by
          have hk2:=(hnsk nm (List.mem_of_getElem? e1'))
          rw [w1] at hk2; cases hk2)
        ·cases w1
       ·exact q
      ·obtain ⟨o,ho,hd⟩:=z
       exact ⟨o,keep4 c o ho,hd⟩
  ·rcases lk y c e with ⟨a1,_⟩ | ⟨a1,a2⟩
   ·exact ⟨none,(new.empty y c a1).1⟩
   ·obtain ⟨v,o,ho,hd⟩:=I3.cell y c a2
    exact ⟨v,o,keep4 c o ho,hd⟩
  ·rcases lk y c e with ⟨a1,_⟩ | ⟨a1,a2⟩
   ·exact I3.hok.fresh (Nat.le_of_succ_le (new.empty y c a1).2)
   ·exact I3.freeC y c a2
 -- what is reached at the end
 have fin:∀ {σ':St}{H':Hp}{s':Shared},Inv (aY X scope (cellsFrom (s3.heap.objs.size+1) scope.names cl) s3.heap.objs.size (x::ns) s3 H3 fp) [] σ' H' s'→Q (.ref s2.heap.objs.size) H' →
   compPost (model X.prog X.w) X.A X.xe use Q' (.ref s2.heap.objs.size) s3.heap.objs.size (.ok .next) s':=fun {σ' H' s'} J qd=>by
  obtain ⟨m',hn',_⟩:=J.loc
  have hCn:H' s3.heap.objs.size=none:=J.free
  refine hfin _ _ H' s' (I3.call' (ch:=fp) J.os J.base J.hok J.bare fun b hb=>⟨(f2 b hb).2.2.2.1,(f2 b hb).2.1,(f2 b hb).2.2.2.2.1,(f2 b hb).2.2.2.2.2⟩) qd ⟨m',hn'⟩ ⟨hCn,Nat.ne_of_gt I3.lt,I3.sz,fun y c e=>Nat.ne_of_lt (oldLt y c e),fun p hp=>Nat.ne_of_lt (Heap.lt_size (I3.pin p hp).1)⟩
 have fpY:∀ {H':Hp},(∀ b∈fp,H' b=none)→∀ b∈fp,kZ (aY X scope (cellsFrom (s3.heap.objs.size+1) scope.names cl) s3.heap.objs.size (x::ns) s3 H3 fp) [] H' b:=fun {H'} hn b hb =>
  ⟨hn b hb,(OK.exf b hb).1,OK.exfs b hb, .inl hb,(OK.exf b hb).2,fun p hp=>absurd (show p∈([]:List (Addr × Obj)) from hp) (by simp)⟩
 have st4:tn 0 (pushCells (s3.heap.push { cls := .type "dict", data := .dict #[] }) scope.names):=T.keep 0 _ _ st3 fun b _ o e=>keep4 b o e
 have fr3:∀ b∈fp,H3 b=none:=fun b hb=>by
  cases z:H3 b with
  | none=>rfl
  | some o=>exact absurd rfl (fun _:(1:Nat)=1=>hfp3 b hb o z)
 have loop:codeAny (model X.prog X.w) X.A (.compLoop (.ListComp elt [⟨.Name x px,iter,ifs,0⟩] scope pos) 0 (.ref it) (.ref s2.heap.objs.size) (aY X scope (cellsFrom (s3.heap.objs.size+1) scope.names cl) s3.heap.objs.size (x::ns) s3 H3 fp).env) (compPost (model X.prog X.w) X.A X.xe use Q' (.ref s2.heap.objs.size) s3.heap.objs.size) { s3 with heap:=pushCells (s3.heap.push { cls := .type "dict", data := .dict #[] }) scope.names }:=by
  refine t8 (fun n s'=>∃ i ys o H',Inv (aY X scope (cellsFrom (s3.heap.objs.size+1) scope.names cl) s3.heap.objs.size (x::ns) s3 H3 fp) [] (o::cap.map fun k=>(σ[k]?).join) H' s'∧tn i s'.heap∧(∀ b∈fp,H' b=none)∧W i n ys H') ?_ m0 ⟨0,[],none,H3,IY,st4,fr3,w0⟩
  rintro n s5 ⟨i,ys,o,H5,I5,st5,fr5,w5⟩
  obtain ⟨eD,alt⟩:=step i n ys H5 w5
  rcases alt with ⟨stop,qd⟩ | ⟨go,hz,turn⟩
  ·refine thn (T.done (aY X scope (cellsFrom (s3.heap.objs.size+1) scope.names cl) s3.heap.objs.size (x::ns) s3 H3 fp) rfl rfl rfl hc i [] s5 _ H5 (fun _ _=>False) I5 (fpY fr5) st5 stop) fun r s6 ⟨hr,I6⟩ => ?_
   subst hr
   exact fin I6 qd
  ·refine thn (T.item (aY X scope (cellsFrom (s3.heap.objs.size+1) scope.names cl) s3.heap.objs.size (x::ns) s3 H3 fp) rfl rfl rfl hc i [] s5 _ H5 (fun _ _=>False) I5 (fpY fr5) st5 go) fun r s6 ⟨u,hr,h6⟩ => ?_
   subst hr
   refine thn h6 fun _ s7 ⟨xv',H7,I7,r7,y7,st7,fr7⟩ => ?_
   have I7':=I7.pinned (fpY fr7) (T.obj _ _ st7)
   have hst:PG (aY X scope (cellsFrom (s3.heap.objs.size+1) scope.names cl) s3.heap.objs.size (x::ns) s3 H3 fp) (.Name x px) (pG 0):=vH hNc rfl hx (hxf.elim (fun z => .inl (by show (scope.names.lookup x == some .cell)=true; rw [z]; rfl)) .inr)
   refine thn (hst _ s7 _ H7 xv' u (fun σ8 H8=>σ8=(some xv'::cap.map fun k=>(σ[k]?).join)∧H8=H7) I7' r7 ⟨rfl,rfl⟩) fun _ s8 ⟨σ8,H8,I8,e8,e8'⟩ => ?_
   subst e8 e8'
   have back:∀ {σ9:St}{H9:Hp}{s9:Shared},Inv (aY X scope (cellsFrom (s3.heap.objs.size+1) scope.names cl) s3.heap.objs.size (x::ns) s3 H3 fp) ([]++mL fp s7.heap) σ9 H9 s9→tn (i+1) s9.heap∧∀ b∈fp,H9 b=none:=fun {σ9 H9 s9} I9=>by
    refine ⟨T.keep _ _ _ st7 fun b hb o e=>(I9.pin (b,o) (List.mem_append_right _ (List.mem_append_right _ (i6 hb e)))).1,fun b hb => ?_⟩
    obtain ⟨o,e,d⟩:=T.obj _ _ st7 b hb
    exact (I9.pin (b,o) (List.mem_append_right _ (List.mem_append_right _ (i6 hb e)))).2.1
   refine thn (ht' _ s8 _ _ _ I8 (turn xv' _ y7)) fun b s9 ⟨H9,I9,q9⟩ => ?_
   cases b with
   | false =>
    rw [if_neg Bool.false_ne_true] at q9 ⊢
    obtain ⟨m',hm,w9⟩:=q9
    obtain ⟨st9,fr9⟩:=back I9
    exact ⟨m',hm,i+1,ys,_,H9,I9.unpinned,st9,fr9,w9⟩
   | true =>
    rw [if_pos rfl] at q9 ⊢
    refine thn (he' _ s9 _ _ _ I9 q9) fun yv s10 ⟨y,H10,I10,r10,eD10,m',hm,w10⟩ => ?_
    refine thn (m9 (X:=aY X scope (cellsFrom (s3.heap.objs.size+1) scope.names cl) s3.heap.objs.size (x::ns) s3 H3 fp) _ s10 _ H10 (.ref s2.heap.objs.size) [y] (.ref s2.heap.objs.size) [yv] (fun _ H11=>H11=upd H10 s2.heap.objs.size (.lst (ys++[y]))) I10 rfl (.cons r10 .nil) ⟨_,ys,y,rfl,rfl,eD10,hz,rfl⟩) fun _ s11 ⟨_,H11,I11,_,e11⟩ => ?_
    subst e11
    obtain ⟨st11,fr11⟩:=back I11
    exact ⟨m',hm,i+1,_,_,_,I11.unpinned,st11,fr11,w10⟩
 exact codeAny_compStart_list loop (T.self X.A 0 _ _ _ st4 loop)
theorem aE2 {X:Cx}{x:Str}{px pos:Pos}{iter elt:Expr}{ifs:List Expr}{scope:Scope}{ns:List Str}{cap:List Nat}{wi:TI}{tt:TT}{te:TE} (hc:X.calm=true) (hkind:scope.kind = .function)
  (hnames:∀ y∈scope.names,y.2 = .local→scope.names.lookup y.1=some .local) (hx:Loc (relabel scope X.env) x) (hxf:scope.names.lookup x=some .cell∨(relabel scope X.env).names.lookup x=some .local)
  (hNc:(x::ns).Nodup) (hlen:cap.length=ns.length) (hcap:∀ (j k:Nat) (nm:Str),cap[j]?=some k→ns[j]?=some nm→X.N[k]?=some nm∧(X.env.scope.names.lookup nm=some .cell∨X.env.scope.names.lookup nm=some .free))
  (hns:∀ nm∈ns,(nm,NameKind.free)∈scope.names∧(nm,NameKind.cell) ∉ scope.names) (hnsk:∀ nm∈ns,scope.names.lookup nm=some .free) (hfree:∀ y∈scope.names,y.2 = .free→X.env.scope.names.lookup y.1=some .cell∨X.env.scope.names.lookup y.1=some .free)
  (hi:PI X (.Name x px) iter wi)
  (ht:∀ cs C s₀ H₀ fp,PIf (aY X scope cs C (x::ns) s₀ H₀ fp) ifs tt) (he:∀ cs C s₀ H₀ fp,PE (aY X scope cs C (x::ns) s₀ H₀ fp) elt te)
  (hs:∀ v,foldedSetIterable iter X.env v=pure v:=by intro _; rfl) :
  PE X (.ListComp elt [⟨.Name x px,iter,ifs,0⟩] scope pos) (nI wi cap tt te):=by
 intro pins s σ H Q I h
 rw [eval_ListComp]
 refine rA hc hkind hnames hx hxf hNc hlen hcap hns hnsk hfree hi ht he hs (use:=none) I h fun D C H' s' J q ⟨m,hn⟩ cf=>⟨m,hn,fun h' hs' => ?_⟩
 exact ⟨.ref D,H',J.turned (t':=s'.toks) (it:=C) (fun b o hb e=>(hs'.2 b hb).trans e) cf.hn cf.hL (.inr cf.h1) cf.h2 cf.h3,rfl,q⟩
theorem xL {y:Str}{py spos:Pos}{iy:Nat}{X:Cx}{x:Str}{px pos:Pos}{iter elt:Expr}{ifs:List Expr}{scope:Scope}{ns:List Str}{cap:List Nat}{wi:TI}{tt:TT}{te:TE} (hN:X.N.Nodup) (hiy:X.N[iy]?=some y) (hyl:X.env.scope.names.lookup y=some .local) (hc:X.calm=true) (hkind:scope.kind = .function)
  (hnames:∀ y∈scope.names,y.2 = .local→scope.names.lookup y.1=some .local) (hx:Loc (relabel scope X.env) x) (hxf:scope.names.lookup x=some .cell∨(relabel scope X.env).names.lookup x=some .local)
  (hNc:(x::ns).Nodup) (hlen:cap.length=ns.length) (hcap:∀ (j k:Nat) (nm:Str),cap[j]?=some k→ns[j]?=some nm→X.N[k]?=some nm∧(X.env.scope.names.lookup nm=some .cell∨X.env.scope.names.lookup nm=some .free))
  (hns:∀ nm∈ns,(nm,NameKind.free)∈scope.names∧(nm,NameKind.cell) ∉ scope.names) (hnsk:∀ nm∈ns,scope.names.lookup nm=some .free) (hfree:∀ y∈scope.names,y.2 = .free→X.env.scope.names.lookup y.1=some .cell∨X.env.scope.names.lookup y.1=some .free)
  (hi:PI X (.Name x px) iter wi)
  (ht:∀ cs C s₀ H₀ fp,PIf (aY X scope cs C (x::ns) s₀ H₀ fp) ifs tt) (he:∀ cs C s₀ H₀ fp,PE (aY X scope cs C (x::ns) s₀ H₀ fp) elt te)
  (hs:∀ v,foldedSetIterable iter X.env v=pure v:=by intro _; rfl)
  (hsw:swapsWith (.ListComp elt [⟨.Name x px,iter,ifs,0⟩] scope pos) (some (.Name y py)) spos.line X.env=pure true:=by rfl) :
  PS X (.Assign [.Name y py] (.ListComp elt [⟨.Name x px,iter,ifs,0⟩] scope pos) spos) (xC (nI wi cap tt te) (pG iy)):=by
 intro pins s σ H D I h
 rw [exec_Assign_Name_used _ _ _ _ hsw]
 refine wpAny_bind (wpAny_standAt (wpAny_bind ?_))
 show wpAny _ X.A (do let _ ← comprehension (.ListComp elt [⟨.Name x px,iter,ifs,0⟩] scope pos) scope X.env _ (newList []) false (eval iter X.env) (some (assign (.Name y py) X.env))) _ _ s
 refine wpAny_bind (wpAny_mono (rA hc hkind hnames hx hxf hNc hlen hcap hns hnsk hfree hi ht he hs (use:=some (assign (.Name y py) X.env)) (Q':=fun _ s'=>SP X pins D .next s') I h fun L C H' s' J q ⟨m,hn⟩ cf => ?_) (fun _ s' hq=>wpAny_pure (wpAny_pure hq)) fun _ _ e=>e)
 refine wpAny_assign_Name (qL J hN hiy (.inl hyl) (v := .ref L) rfl (fun s2 J2 ⟨a,sb,ha⟩ => ?_) (.inr hyl))
 have hCa:C≠a:=by
  rcases ha with rfl | ha
  ·exact cf.hL
  ·exact Ne.symm (cf.h2 y a ha)
 refine ⟨m,hn.sameBut sb hCa,fun h' hs' => ?_⟩
 exact ⟨_,H',J2.turned (t':=s2.toks) (it:=C) (fun b o hb e=>(hs'.2 b hb).trans e) cf.hn cf.hL (.inr cf.h1) cf.h2 cf.h3,q⟩
def Its (x:Str):It:=⟨fun i _=>i < x.cps.size,fun i H v H'=>H'=H∧∃ c,x.cps[i]?=some c∧v = .str ⟨#[c]⟩,fun i _=>x.cps.size≤i⟩
theorem uM {P:Program}{w:World}{K:PySem.W.Frag}{tg:Expr} (x:Str) (t:Tok) (it:Addr) (b:Bool):Turn P w K tg (Its x) [it] it (fun i h=>h.IsStrIter it (if b then "str_ascii_iterator" else "str_iterator") x t i) where
 mem:=by simp
 obj:=fun i h st b hb=>by
  have e:b=it:=by simpa using hb
  subst e
  obtain ⟨o,e,c,d⟩:=st
  exact ⟨o,e,fun v z=>by rw [d] at z; cases z⟩
 keep:=fun i h h' st k=>by
  obtain ⟨o,e,r⟩:=st
  exact ⟨o,k it (by simp) o e,r⟩
 item:=by
  intro X hP hw hK hc i pins s σ H E I hf st hg
  subst hP hw hK
  obtain ⟨f0,f1,f2,f3,f4,f5⟩:=hf it (by simp)
  have hg':i < x.cps.size:=hg
  cases b with
  | true =>
   refine wpAny_pyNext_ascii_item st (c:=x.cps[i]) (by simp [hg']) fun h' st' sb => ?_
   have I1:Inv X pins σ H { s with heap:=h',toks:=s.toks+1 }:=I.turned (t':=s.toks+1) (fun b o hb e=>(sb.2 b hb).trans e) f0 f1 f3 f4 f5
   obtain ⟨o,e,c,d⟩:=id st'
   exact ⟨_,rfl,oY (s:={ s with heap:=h',toks:=s.toks+1 }) e c d (by decide) ⟨.str ⟨#[x.cps[i]]⟩,H,I1,⟨s.toks,rfl⟩,⟨rfl,_,by simp [hg'],rfl⟩,st',fun b hb=>(hf b hb).1⟩⟩
  | false =>
   refine wpAny_pyNext_wide_item st (c:=x.cps[i]) (by simp [hg']) fun h' st' sb => ?_
   have I1:Inv X pins σ H { s with heap:=h',toks:=s.toks+1 }:=I.turned (t':=s.toks+1) (fun b o hb e=>(sb.2 b hb).trans e) f0 f1 f3 f4 f5
   obtain ⟨o,e,c,d⟩:=id st'
   exact ⟨_,rfl,oY (s:={ s with heap:=h',toks:=s.toks+1 }) e c d (by decide) ⟨.str ⟨#[x.cps[i]]⟩,H,I1,⟨s.toks,rfl⟩,⟨rfl,_,by simp [hg'],rfl⟩,st',fun b hb=>(hf b hb).1⟩⟩
 done:=by
  intro X hP hw hK hc i pins s σ H E I hf st hg
  subst hP hw hK
  obtain ⟨f0,f1,f2,f3,f4,f5⟩:=hf it (by simp)
  have hg':x.cps.size≤i:=hg
  cases b with
  | true=>exact wpAny_pyNext_ascii_end (I.ok.hd hc) st (by simp [hg']) fun h' eb=>⟨rfl,I.turned (t':=s.toks) (fun b o hb e=>eb b o hb e) f0 f1 f3 f4 f5⟩
  | false=>exact wpAny_pyNext_wide_end (I.ok.hd hc) st (by simp [hg']) fun h' eb=>⟨rfl,I.turned (t':=s.toks) (fun b o hb e=>eb b o hb e) f0 f1 f3 f4 f5⟩
 self:=fun _ _ _ _ _ st h=>by
  cases b with
  | true=>exact wpAny_pyIter_striter_ascii st h
  | false=>exact wpAny_pyIter_striter_wide st h
def iStr (tl:TE):TI:=fun σ H R=>tl σ H fun x H1=>∃ z,x = .str z∧R (Its z) H1
theorem aF1 {X:Cx}{tg l:Expr}{tl:TE} (hl:PE X l tl):PI X tg l (iStr tl):=by
 intro pins s σ H R I h
 refine thn (hl pins s σ H _ I h) fun v s1 ⟨x,H1,I1,r1,q1⟩ => ?_
 obtain ⟨z,e,q⟩:=q1
 subst e
 obtain ⟨t,rfl⟩:=r1
 have fp:∀ b∈[s1.heap.objs.size],kZ X pins H1 b:=fun b hb=>by
  have e:b=s1.heap.objs.size:=by simpa using hb
  subst e
  exact I1.fpOk (Nat.le_refl _) (I1.hok.fresh (Nat.le_refl _))
 cases ha:z.cps.all (· < 128)
 ·exact wpAny_pyIter_wide ha ⟨s1.heap.objs.size,[s1.heap.objs.size],_,_,H1,rfl,I1.kept (t':=s1.toks) fun b o e=>Heap.get?_push_of_some _ e,uM z t _ false,⟨_,Heap.get?_push_size _ rfl,rfl,rfl⟩,fp,q⟩
 ·exact wpAny_pyIter_ascii ha ⟨s1.heap.objs.size,[s1.heap.objs.size],_,_,H1,rfl,I1.kept (t':=s1.toks) fun b o e=>Heap.get?_push_of_some _ e,uM z t _ true,⟨_,Heap.get?_push_size _ rfl,rfl,rfl⟩,fp,q⟩
structure Yields (J:It) (xs:List V) (Kp:Hp→Prop):Prop where
 go:∀ i H,Kp H→i < xs.length→J.go i H
 yld:∀ i H x H',Kp H→J.yld i H x H'→i < xs.length→H'=H∧xs[i]?=some x
 stop:∀ i H,Kp H→xs.length≤i→J.stop i H
theorem p6 {K:PySem.W.Frag}{a:Addr}{xs:List V}:Yields (Itl K a) xs (fun H=>SqL K H a xs) where
 go:=fun i H k h=>⟨xs,xs[i],k,by simp [h]⟩
 yld:=fun i H x H' k y _=>⟨y.1,y.2 xs k⟩
 stop:=fun i H k h=>⟨xs,k,h⟩
theorem sC {K:PySem.W.Frag}{a:Addr}{xs:List V}:Yields (Itt K a) xs (fun H=>SqT K H a xs) where
 go:=fun i H k h=>⟨xs,xs[i],k,by simp [h]⟩
 yld:=fun i H x H' k y _=>⟨y.1,y.2 xs k⟩
 stop:=fun i H k h=>⟨xs,k,h⟩
def Butd (D:Addr) (H H':Hp):Prop:=∀ b o,b≠D→H b=some o→H' b=some o
theorem Butd.upd {D:Addr}{H:Hp}{o:HO}:Butd D H (upd H D o):=fun b u n e=>by rw [bB n]; exact e
theorem Same.but {D:Addr}{H1 H H':Hp} (s:Same H1 H) (n:H1 D=none) (b:Butd D H H'):Same H1 H':=fun c o e=>b c o (bX e n) (s c o e)
theorem qF {D:Addr}{H:Hp}{o:HO} (n:H D=none):Same H (upd H D o):=(Same.refl H).but n Butd.upd
theorem take_snoc {α:Type}{xs:List α}{i:Nat}{x:α} (h:xs[i]?=some x):xs.take (i+1)=xs.take i++[x]:=by
 rw [List.take_succ,h]; rfl
end L2
namespace L2
open PySem PySem.Spec PyProof.Rows
section
variable {X:Cx}
theorem q8 {bs:List Bool}{its:List Value} (r:Vals (bs.map V.bl) its) {i:Nat}{v:Value} (e:its.toArray[i]?=some v):v = .bool (bs.getD i false):=by
 have e':its[i]?=some v:=by simpa using e
 have hl:=r.length
 rw [List.length_map] at hl
 have hi:i < bs.length:=by
  have:=(List.getElem?_eq_some_iff.mp e').1
  omega
 have hx:(bs.map V.bl)[i]?=some (.bl bs[i]):=by simp [hi]
 obtain ⟨u,hu,ru⟩:=r.get hx
 rw [e'] at hu
 cases hu
 have:v = .bool bs[i]:=ru
 rw [this]
 simp [List.getD,hi]
theorem all_range (bs:List Bool):((List.range bs.length).all fun i=>bs.getD i false)=bs.all id:=by
 induction bs with
 | nil=>rfl
 | cons b r ih =>
  rw [List.length_cons,List.range_succ_eq_map,List.all_cons,List.all_map,List.all_cons]
  rw [← ih]
  rfl
def rAll (K:PySem.W.Frag) (g:List Bool→Bool):List V→Hp→VK→Prop:=fun xs H Q=>∃ p bs,xs=[.ref p]∧(SqL K H p (bs.map V.bl)∨SqT K H p (bs.map V.bl))∧Q (.bl (g bs)) H
theorem fD (hc:X.calm=true):eO X (.builtin "all") (rAll X.K fun bs=>bs.all id):=by
 intro pins s σ H xs us Q I r h
 obtain ⟨p,bs,rfl,hq,q⟩:=h
 obtain ⟨u,rfl,rx⟩:=vals1 r
 cases rx
 refine call_all_walk ?_
 rcases hq with hq | hq
 ·obtain ⟨its,r',pl,hz⟩:=I.list hq
  have hlen:=r'.length
  rw [List.length_map] at hlen
  refine wpAny_pyIter_list pl.isList ?_
  have hne:p≠s.heap.objs.size:=Nat.ne_of_lt (Heap.lt_size pl.isList.choose_spec.1)
  refine ⟨_,_,_,_,_,_,fun i=>bs.getD i false,rfl,Walks.list (show X.A.in1.handled=none from I.ok.hd hc) s.heap.objs.size p hne its.toArray,⟨⟨_,Heap.get?_push_size _ rfl,rfl,rfl⟩,?_⟩,?_,?_⟩
  ·obtain ⟨o,e,z⟩:=pl.isList
   exact ⟨o,Heap.get?_push_of_some _ e,z⟩
  ·intro i v s' Q' E' hv hQ'
   rw [q8 r' hv]
   exact wpAny_truthy_bool hQ'
  ·intro h' tk k
   refine ⟨.bl (bs.all id),H,?_,?_,q⟩
   ·exact I.kept (t':=tk) fun b o e=>k b o (by simp; exact Nat.ne_of_lt (Heap.lt_size e)) (Heap.get?_push_of_some _ e)
   ·show Value.bool _=Value.bool _
    rw [← all_range bs,List.size_toArray,← hlen]
 ·obtain ⟨its,r',pl,hz⟩:=I.tuple hq
  have hlen:=r'.length
  rw [List.length_map] at hlen
  have pl':s.heap.IsTuple p its.toArray:=pl
  refine wpAny_pyIter_tuple pl' ?_
  have hne:p≠s.heap.objs.size:=Nat.ne_of_lt (Heap.lt_size pl'.choose_spec.1)
  refine ⟨_,_,_,_,_,_,fun i=>bs.getD i false,rfl,Walks.tuple (show X.A.in1.handled=none from I.ok.hd hc) s.heap.objs.size p hne its.toArray,⟨⟨_,Heap.get?_push_size _ rfl,rfl,rfl⟩,?_⟩,?_,?_⟩
  ·obtain ⟨o,e,z⟩:=pl'
   exact ⟨o,Heap.get?_push_of_some _ e,z⟩
  ·intro i v s' Q' E' hv hQ'
   rw [q8 r' hv]
   exact wpAny_truthy_bool hQ'
  ·intro h' tk k
   refine ⟨.bl (bs.all id),H,?_,?_,q⟩
   ·exact I.kept (t':=tk) fun b o e=>k b o (by simp; exact Nat.ne_of_lt (Heap.lt_size e)) (Heap.get?_push_of_some _ e)
   ·show Value.bool _=Value.bool _
    rw [← all_range bs,List.size_toArray,← hlen]
theorem p3:∀ {ys:List Str}{its:List Value},Vals (ys.map V.str) its→StrsAre its ys
 | [],_,r=>by cases r; exact .nil
 | y::ys,_,r=>by
  cases r with
  | cons a b =>
   obtain ⟨t,rfl⟩:=a
   exact .cons y t (p3 b)
def rJoin (K:PySem.W.Frag):V→List V→Hp→VK→Prop:=fun x vs H Q=>∃ sep p ys,x = .str sep∧vs=[.ref p]∧(SqL K H p (ys.map V.str)∨SqT K H p (ys.map V.str))∧sep.length≤16∧(ys.map (·.length)).sum+ys.length≤1048576∧Q (.str (Txt.join sep ys)) H
theorem kL:MtR X "str.join" (rJoin X.K):=by
 intro pins s σ H x vs u us Q I rx rv h
 obtain ⟨sep,p,ys,rfl,rfl,hq,h1,h2,q⟩:=h
 obtain ⟨v,rfl,ry⟩:=vals1 rv
 cases ry
 obtain ⟨t,rfl⟩:=rx
 rcases hq with hq | hq
 ·obtain ⟨its,r',pl,hz⟩:=I.list hq
  exact join_listW pl.isList (p3 r') h1 h2 fun t' k=>⟨.str _,H,I.tok k,⟨t',rfl⟩,q⟩
 ·obtain ⟨its,r',pl,hz⟩:=I.tuple hq
  exact join_tupleW pl (p3 r') h1 h2 fun t' k=>⟨.str _,H,I.tok k,⟨t',rfl⟩,q⟩
def jU (x:Str) (n:Nat):Str:=⟨(List.replicate n x.cps).foldl (· ++ ·) #[]⟩
theorem sL (a:Array Nat):∀ (n:Nat) (acc:Array Nat),((List.replicate n a).foldl (· ++ ·) acc).toList=acc.toList++(List.replicate n a.toList).flatten
 | 0,acc=>by simp
 | n+1,acc=>by
  rw [List.replicate_succ,List.foldl_cons,sL a n,List.replicate_succ,List.flatten_cons]
  simp
theorem j7 (x:Str) (n:Nat):(jU x n).cps.toList=(List.replicate n x.cps.toList).flatten:=by
 unfold jU
 rw [sL]; rfl
theorem aB4 (x:Str) (n:Nat):(jU x n).length=x.length * n:=by
 show (jU x n).cps.size=x.cps.size * n
 rw [← Array.length_toList,j7,← Array.length_toList]
 generalize x.cps.toList=l
 induction n with
 | zero=>simp
 | succ n ih=>rw [List.replicate_succ,List.flatten_cons,List.length_append,ih,Nat.mul_succ,Nat.add_comm]
theorem eU {x y:Str} (h:x.cps.toList=y.cps.toList):x=y:=by
 cases x; cases y
 simp only [Str.mk.injEq]
 exact Array.toList_inj.mp h
theorem aBE (x:Str):jU x 1=x:=eU (by rw [j7]; simp)
theorem aBR (x:Str) (n:Nat) (h:x.length=0):jU x n=x:=by
 have hx:x.cps.toList=[]:=List.eq_nil_of_length_eq_zero (by rw [Array.length_toList]; exact h)
 apply eU
 rw [j7,hx]
 induction n with
 | zero=>rfl
 | succ n ih=>rw [List.replicate_succ,List.flatten_cons,ih]; rfl
def aCY:R2:=fun x y H Q=>∃ z n,x = .str z∧y = .int n ∧ -(2 ^ 40)≤n∧n < 2 ^ 40∧z.length * n.toNat≤sizeLine∧Q (.str (jU z n.toNat)) H
theorem vZ:OpR X (binaryOp .Mult) aCY:=by
 intro pins s σ H x y u v Q I rx ry h
 obtain ⟨z,n,rfl,rfl,h1,h2,h3,q⟩:=h
 obtain ⟨t,rfl⟩:=rx
 obtain ⟨t',rfl⟩:=ry
 refine P.mul_str (by rw [decide_eq_false (by omega),decide_eq_false (by omega)]; rfl) (fun a b => ?_) (fun a b => ?_) ?_
 ·have:(n.toNat:Int)=n:=by omega
  have h4:((z.length:Int)) * n≤(sizeLine:Nat):=by rw [← this]; exact_mod_cast h3
  intro c
  have hn:0 < n:=by omega
  have:=(Int.ediv_lt_iff_lt_mul hn).mp c
  have h5:((sizeLine:Nat):Int) < 2 ^ 62:=by decide
  omega
 ·exact aBX h3
 ·by_cases c1:n < 1
  ·rw [if_pos c1]
   rw [show n.toNat=0 by omega] at q
   exact ⟨by decide, .str _,H,I.tok _,⟨_,rfl⟩,q⟩
  ·rw [if_neg c1]
   by_cases c2:(n == 1 || z.length == 0)=true
   ·rw [if_pos c2]
    refine ⟨.str z,H,I,⟨_,rfl⟩,?_⟩
    have e:jU z n.toNat=z:=by
     rw [Bool.or_eq_true,beq_iff_eq,beq_iff_eq] at c2
     rcases c2 with c | c
     ·rw [c]; exact aBE z
     ·exact aBR z _ c
    rw [e] at q; exact q
   ·rw [if_neg c2]
    refine ⟨?_, .str _,H,I.tok _,⟨_,rfl⟩,q⟩
    show (jU z n.toNat).length≤sizeLine
    rw [aB4]; exact h3
end
end L2
namespace L2
open PySem PySem.Spec PyProof.Rows
def jP (sc scope:Scope) (x:Str) (ns:List Str) (cap:List Nat) (N:List Str):Bool :=
 decide (scope.kind = .function) && scope.names.all (fun y=>decide (y.2 ≠ .local) || decide (scope.names.lookup y.1=some .local)) && (decide (scope.names.lookup x=some .local) || decide (scope.names.lookup x=some .cell)) &&
 decide ((x::ns).Nodup) && decide (cap.length=ns.length) &&
 (List.range cap.length).all (fun j=>match cap[j]?,ns[j]? with
  | some k,some nm=>decide (N[k]?=some nm) && (decide (sc.names.lookup nm=some .cell) || decide (sc.names.lookup nm=some .free))
  | _,_=>true) &&
 ns.all (fun nm=>decide ((nm,NameKind.free)∈scope.names) && decide ((nm,NameKind.cell) ∉ scope.names) && decide (scope.names.lookup nm=some .free)) &&
 scope.names.all (fun y=>decide (y.2 ≠ .free) || (decide (sc.names.lookup y.1=some .cell) || decide (sc.names.lookup y.1=some .free)))
theorem eZ {env:Env}:∀ {names:List (Str × NameKind)}{x:Str},names.lookup x=some .cell →
  (names.map fun (n,k)=>if (k == NameKind.free && env.scope.kind == .function && env.kindOf n == some .cell) then (n,NameKind.cell) else (n,k)).lookup x=some .cell
 | [],_,h=>by simp at h
 | (n,k)::r,x,h=>by
  have ih:=eZ (env:=env) (names:=r) (x:=x)
  show List.lookup x ((if (k == NameKind.free && env.scope.kind == .function && env.kindOf n == some .cell)=true then (n,NameKind.cell) else (n,k))::_)=_
  rw [List.lookup_cons] at h
  split
  ·rw [List.lookup_cons]
   cases hx:x == n with
   | true=>rfl
   | false=>rw [hx] at h; exact ih h
  ·rw [List.lookup_cons]
   cases hx:x == n with
   | true=>rw [hx] at h; exact h
   | false=>rw [hx] at h; exact ih h
structure CompOk (sc scope:Scope) (x:Str) (ns:List Str) (cap:List Nat) (N:List Str):Prop where
 hkind:scope.kind = .function
 hnames:∀ y∈scope.names,y.2 = .local→scope.names.lookup y.1=some .local
 hx:scope.names.lookup x=some .local∨scope.names.lookup x=some .cell
 hNc:(x::ns).Nodup
 hlen:cap.length=ns.length
 hcap:∀ (j k:Nat) (nm:Str),cap[j]?=some k→ns[j]?=some nm→N[k]?=some nm∧(sc.names.lookup nm=some .cell∨sc.names.lookup nm=some .free)
 hns:∀ nm∈ns,(nm,NameKind.free)∈scope.names∧(nm,NameKind.cell) ∉ scope.names
 hnsk:∀ nm∈ns,scope.names.lookup nm=some .free
 hfree:∀ y∈scope.names,y.2 = .free→sc.names.lookup y.1=some .cell∨sc.names.lookup y.1=some .free
theorem rB {sc scope:Scope}{x:Str}{ns:List Str}{cap:List Nat}{N:List Str} (h:jP sc scope x ns cap N=true):CompOk sc scope x ns cap N:=by
 unfold jP at h
 simp only [Bool.and_eq_true,Bool.or_eq_true,decide_eq_true_eq,List.all_eq_true] at h
 obtain ⟨⟨⟨⟨⟨⟨⟨h1,h2⟩,h3⟩,h4⟩,h5⟩,h6⟩,h7⟩,h8⟩:=h
 refine ⟨h1,fun y hy e=>(h2 y hy).resolve_left (fun z=>z e),h3,h4,h5,fun j k nm e1 e2 => ?_,fun nm hm=>(h7 nm hm).1,fun nm hm=>(h7 nm hm).2,fun y hy e=>(h8 y hy).resolve_left (fun z=>z e)⟩
 have hj:j < cap.length:=(List.getElem?_eq_some_iff.mp e1).1
 have:=h6 j (List.mem_range.mpr hj)
 rw [e1,e2] at this
 simpa using this
theorem aBS {X:Cx}{x:Str}{px pos:Pos}{iter elt:Expr}{ifs:List Expr}{scope sc:Scope}{N:List Str} (ns:List Str) (cap:List Nat) {wi:TI}{tt:TT}{te:TE} (hc:X.calm=true) (hsc:X.env.scope=sc) (hN:X.N=N) (ok:jP sc scope x ns cap N=true)
  (hi:PI X (.Name x px) iter wi)
  (ht:∀ cs C s₀ H₀ fp,PIf (aY X scope cs C (x::ns) s₀ H₀ fp) ifs tt) (he:∀ cs C s₀ H₀ fp,PE (aY X scope cs C (x::ns) s₀ H₀ fp) elt te)
  (hs:∀ v,foldedSetIterable iter X.env v=pure v:=by intro _; rfl) :
  PE X (.ListComp elt [⟨.Name x px,iter,ifs,0⟩] scope pos) (nI wi cap tt te):=by
 subst hsc hN
 have k:=rB ok
 refine aE2 hc k.hkind k.hnames ?_ ?_ k.hNc k.hlen k.hcap k.hns k.hnsk k.hfree hi ht he hs
 ·rcases k.hx with z | z
  ·exact .inl (lookup_relabel_local z)
  ·exact .inr (eZ z)
 ·rcases k.hx with z | z
  ·exact .inr (lookup_relabel_local z)
  ·exact .inl z
theorem u6 {y:Str}{py spos:Pos} (iy:Nat) {X:Cx}{x:Str}{px pos:Pos}{iter elt:Expr}{ifs:List Expr}{scope sc:Scope}{N:List Str} (ns:List Str) (cap:List Nat) {wi:TI}{tt:TT}{te:TE} (hNd:N.Nodup) (hiy:N[iy]?=some y) (hyl:sc.names.lookup y=some .local) (hc:X.calm=true) (hsc:X.env.scope=sc) (hN:X.N=N) (ok:jP sc scope x ns cap N=true)
  (hi:PI X (.Name x px) iter wi)
  (ht:∀ cs C s₀ H₀ fp,PIf (aY X scope cs C (x::ns) s₀ H₀ fp) ifs tt) (he:∀ cs C s₀ H₀ fp,PE (aY X scope cs C (x::ns) s₀ H₀ fp) elt te)
  (hs:∀ v,foldedSetIterable iter X.env v=pure v:=by intro _; rfl)
  (hsw:swapsWith (.ListComp elt [⟨.Name x px,iter,ifs,0⟩] scope pos) (some (.Name y py)) spos.line X.env=pure true:=by rfl) :
  PS X (.Assign [.Name y py] (.ListComp elt [⟨.Name x px,iter,ifs,0⟩] scope pos) spos) (xC (nI wi cap tt te) (pG iy)):=by
 subst hsc hN
 have k:=rB ok
 refine xL hNd hiy hyl hc k.hkind k.hnames ?_ ?_ k.hNc k.hlen k.hcap k.hns k.hnsk k.hfree hi ht he hs hsw
 ·rcases k.hx with z | z
  ·exact .inl (lookup_relabel_local z)
  ·exact .inr (eZ z)
 ·rcases k.hx with z | z
  ·exact .inr (lookup_relabel_local z)
  ·exact .inl z
end L2
namespace R
open PySem L2
theorem BS:bootBuiltins "str" = some (.type "str"):=by decide +kernel
theorem BL:bootBuiltins "list" = some (.type "list"):=by decide +kernel
theorem BAll:bootBuiltins "all" = some (.builtin "all"):=by decide +kernel
theorem BMax:bootBuiltins "max" = some (.builtin "max"):=by decide +kernel
structure Bn2 (mg:Str→Option Value):Prop where
 str:mg "str" = none
 list:mg "list" = none
 all:mg "all" = none
 any:mg "any" = none
 max:mg "max" = none
 enum:mg "enumerate" = none
theorem aA8 (c:Nat):(!(Builtin.Str.occurrences ("#." : Str) ⟨#[c]⟩ 0 ("#." : Str).length 1).isEmpty)=(c == 35 || c == 46):=by
 by_cases h1:c=35
 ·subst h1; decide +kernel
 by_cases h2:c=46
 ·subst h2; decide +kernel
 have e:("#." : Str)=⟨#[35,46]⟩:=by decide +kernel
 rw [e]
 have a0:Builtin.Str.subAt (⟨#[35,46]⟩:Str) ⟨#[c]⟩ 0=false:=by
  simp [Builtin.Str.subAt,Str.length]
  omega
 have a1:Builtin.Str.subAt (⟨#[35,46]⟩:Str) ⟨#[c]⟩ 1=false:=by
  simp [Builtin.Str.subAt,Str.length]
  omega
 simp [Builtin.Str.occurrences,Str.length,Std.Legacy.Range.forIn_eq_forIn_range',Std.Legacy.Range.size,List.range',a0,a1,h1,h2]
def sgn (c:Nat):Bool:=c == 35 || c == 46
def d6 (wide:Int):V→Bool
 | .str z=>decide ((z.length:Int)=wide) && z.cps.toList.all sgn
 | _=>false
theorem aQ {n:Nat} (h:n≤1000000):n≤sizeLine:=Nat.le_trans h (by decide)
abbrev Sq (K:PySem.W.Frag) (H:Hp) (a:Addr) (xs:List V):Prop:=SqL K H a xs∨SqT K H a xs
theorem aDI {H H':Hp}{a:Addr}{u:HO} (s:Same H H') (h:Rd H a u):Rd H' a u:=by
 rcases h with h | ⟨o,h⟩
 ·exact .inl (s _ _ h)
 ·exact .inr ⟨o,s _ _ h⟩
theorem iW {K:PySem.W.Frag}{H H':Hp}{a:Addr}{xs:List V} (s:Same H H') (h:SqT K H a xs):SqT K H' a xs:=h.imp (aDI s) id
def fF (us:List V) (na nb:Nat):Bool:=decide (us.length=nb - 1) && us.all (d6 ((na - 1:Nat):Int))
def ofL (l:List Nat):Str:=⟨l.toArray⟩
def atS (z:Str) (j:Nat):Nat:=z.cps.getD j 0
theorem qU:∀ (ps:List Str) (acc:Array Nat),(ps.foldl (fun acc p=>acc++(Str.empty).cps++p.cps) acc).toList=acc.toList++(ps.map (·.cps.toList)).flatten
 | [],acc=>by simp
 | p::ps,acc=>by
  rw [List.foldl_cons,qU ps]
  simp [Str.empty]
theorem join_list (ps:List Str):(Txt.join Str.empty ps).cps.toList=(ps.map (·.cps.toList)).flatten:=by
 cases ps with
 | nil=>rfl
 | cons p ps =>
  show (((p::ps).drop 1).foldl (fun acc p=>acc++(Str.empty).cps++p.cps) ((p::ps).headD Str.empty).cps).toList=_
  rw [qU]
  simp
theorem pL (l:List Nat):Txt.join Str.empty (l.map fun c=>(⟨#[c]⟩:Str))=ofL l:=by
 apply eU
 rw [join_list]
 simp only [ofL,List.map_map]
 induction l with
 | nil=>rfl
 | cons a l ih=>rw [List.map_cons,List.flatten_cons,ih]; rfl
theorem kQ (l:List Nat):(ofL l).length=l.length:=by simp [ofL,Str.length]
theorem tP {z:Str}{j:Nat} (h:j < z.length):atI z.cps.toList (j:Int)=some (atS z j):=by
 have h':j < z.cps.size:=h
 refine gN ?_
 simp [atS,h',Array.getD]
def aE (zs:List Str):List Str:=(List.range ((zs.head?.map (·.length)).getD 0)).map fun j=>ofL (zs.map (atS · j))
theorem aHZ {K:PySem.W.Frag}{H:Hp}{p:Addr}{xs:List V}{i:Int}{v:V}{Q:VK} (h:Sq K H p xs) (e:atI xs i=some v) (q:Q v H):rIx K (.ref p) (.int i) H Q:=by
 rcases h with h | h
 ·exact .inl ⟨p,xs,i,v,rfl,rfl,h,e,q⟩
 ·exact .inr (.inl ⟨p,xs,i,v,rfl,rfl,h,e,q⟩)
theorem j5:("" : Str)=Str.empty:=by decide +kernel
def dots (n:Nat):Str:=ofL (List.replicate n 46)
theorem qT (n:Nat):jU "." n=dots n:=by
 apply eU
 rw [j7]
 have e:("." : Str).cps.toList=[46]:=by decide +kernel
 rw [e]
 show _=(List.replicate n 46)
 induction n with
 | zero=>rfl
 | succ n ih=>rw [List.replicate_succ,List.flatten_cons,ih,List.replicate_succ]; rfl
def framed (zs:List Str):List Str:=[dots ((zs.head?.map (·.length)).getD 0)]++zs++[dots ((zs.head?.map (·.length)).getD 0)]
def chg (zs:List Str):List Nat:=if zs.isEmpty then [] else (List.range (zs.length+1)).filter fun i => !decide ((framed zs)[i]?=(framed zs)[i+1]?)
theorem fQ (zs:List Str):(framed zs).length=zs.length+2:=by simp [framed]
theorem dS (zs:List Str):∀ i∈chg zs,i≤zs.length:=fun i hi=>by
 unfold chg at hi
 split at hi
 ·cases hi
 ·have:=List.mem_range.mp (List.mem_filter.mp hi).1
  omega
theorem bY (zs:List Str):(chg zs).Pairwise (· < ·):=by
 unfold chg
 split
 ·exact List.Pairwise.nil
 ·exact List.Pairwise.filter _ List.pairwise_lt_range
theorem wA (zs:List Str):(chg zs).length≤zs.length+1:=by
 unfold chg
 split
 ·simp
 ·exact Nat.le_trans (List.length_filter_le _ _) (by simp)
theorem hU {l:List Nat}{n:Nat} (h:l.Pairwise (· < ·)) (b:∀ i∈l,i≤n):∀ i∈l.dropLast,i < n:=fun i hi=>by
 have hne:l≠[]:=fun e=>by rw [e] at hi; cases hi
 have e:=List.dropLast_concat_getLast hne
 rw [← e] at h
 have h1:=(List.pairwise_append.mp h).2.2 i hi (l.getLast hne) (by simp)
 have h2:=b _ (List.getLast_mem hne)
 omega
theorem nW (zs:List Str) (h:chg zs≠[]):zs≠[]:=fun e=>h (by rw [e]; rfl)
def bU (zs:List Str):List Str:=(chg zs).dropLast.map fun i=>ofL ((chg (aE zs)).dropLast.map (atS (zs.getD i Str.empty)))
theorem oC {zs:List Str}{n:Nat} (h:∀ z∈zs,z.length=n):(aE zs).length≤n∧(zs≠[]→(aE zs).length=n):=by
 unfold aE
 rw [List.length_map,List.length_range]
 cases zs with
 | nil=>exact ⟨Nat.zero_le _,fun e=>absurd rfl e⟩
 | cons z zr =>
  have:=h z (by simp)
  exact ⟨by show z.length≤n; omega,fun _=>this⟩
theorem dW {zs:List Str}:∀ z∈aE zs,z.length=zs.length:=fun z hz=>by
 obtain ⟨j,_,rfl⟩:=List.mem_map.mp hz
 rw [kQ,List.length_map]
def aHI:V→Bool
 | .int i=>decide (-1000000000≤i) && decide (i≤1000000000)
 | _=>false
def ltV:V→V→Bool
 | .int a, .int b=>decide (a < b)
 | _,_=>false
def aEY (xs:List V):Bool:=(List.range (xs.length - 1)).all fun i=>ltV (xs.getD i .non) (xs.getD (i+1) .non)
def aGR (xs:List V):Bool:=decide (xs.length≤7) && (xs.all aHI && aEY xs)
def dC (H:Hp):V→Bool
 | .ref a=>(match H a with
  | some (.lst xs)=>aGR xs
  | _=>false)
 | _=>false
structure KnL (K:PySem.W.Frag) (H:Hp) (v:V):Prop where
 kn:Kn K H v
 each:∀ a xs,v = .ref a→H a=some (.lst xs)→∀ x∈xs,Kn K H x
theorem aE7 {n:Int}{v:V} (h:d6 n v=true):∃ z:Str,v = .str z∧(z.length:Int)=n∧z.cps.toList.all sgn=true:=by
 cases v with
 | str z =>
  simp only [d6,Bool.and_eq_true,decide_eq_true_eq] at h
  exact ⟨z,rfl,h.1,h.2⟩
 | _=>cases h
theorem all_rows {n:Nat}:∀ {us:List V},us.all (d6 (n:Int))=true→∃ zs:List Str,us=zs.map V.str∧(∀ z∈zs,z.length=n∧z.cps.toList.all sgn=true)
 | [],_=>⟨[],rfl,fun _ h=>(nomatch h)⟩
 | x::xs,h=>by
  rw [List.all_cons,Bool.and_eq_true] at h
  obtain ⟨z,rfl,hz,hs⟩:=aE7 h.1
  obtain ⟨zs,rfl,hzs⟩:=all_rows h.2
  exact ⟨z::zs,rfl,fun y hy=>by
   rcases List.mem_cons.mp hy with e | e
   ·subst e; exact ⟨by omega,hs⟩
   ·exact hzs y e⟩
end R
namespace L2
open PySem PySem.Spec PyProof.Rows
section
variable {X:Cx}
end
end L2
namespace L2
open PySem PySem.Spec PyProof.Rows
def lB (l:List Nat) (lo hi:Option Int):List Nat:=(l.drop (HT.sIx l.length 0 lo)).take (HT.sIx l.length l.length hi - HT.sIx l.length 0 lo)
def oK (z:Str) (lo hi:Option Int):Str:=⟨(lB z.cps.toList lo hi).toArray⟩
def rSlS:V→Option Int→Option Int→Hp→VK→Prop:=fun x lo hi H Q=>∃ z,x = .str z∧z.length≤sizeLine∧Q (.str (oK z lo hi)) H
theorem idx_eq (lo hi:Option Int) (n:Nat):Builtin.Str.strSliceIndices lo hi 1 n=sliceRange ((HT.sIx n 0 lo:Nat):Int) ((HT.sIx n n hi:Nat):Int) 1:=by
 obtain ⟨h1,h2,h3⟩:=mO lo hi n
 rw [← h1,← h2]
 cases lo <;> cases hi <;> rfl
theorem xV (z:Str) (lo hi:Option Int):(Builtin.Str.strSliceIndices lo hi 1 z.length).filterMap (z.cps[·]?)=lB z.cps.toList lo hi:=by
 rw [idx_eq,sliceRange_one,pick_run]
 unfold lB
 rw [Array.length_toList]
 rfl
theorem aCC (l:List Nat) (lo hi:Option Int):(lB l lo hi).length≤l.length:=by
 unfold lB
 rw [List.length_take,List.length_drop]; omega
theorem yH (z:Str) (lo hi:Option Int) (h:(Builtin.Str.strSliceIndices lo hi 1 z.length).length=z.length):oK z lo hi=z:=by
 rw [idx_eq,sliceRange_one,List.length_map,List.length_range] at h
 apply eU
 show lB z.cps.toList lo hi=z.cps.toList
 unfold lB
 have hn:z.cps.toList.length=z.length:=Array.length_toList
 rw [hn]
 have h1:=HT.aFO z.length z.length (Nat.le_refl _) hi
 by_cases h0:HT.sIx z.length 0 lo=0
 ·rw [h0,List.drop_zero]
  rw [h0] at h
  exact List.take_of_length_le (by rw [hn]; omega)
 ·have:z.length=0:=by omega
  rw [List.eq_nil_of_length_eq_zero (hn.trans this)]
  simp
section
variable {X:Cx}
theorem aFR:SlR X rSlS:=by
 intro pins s σ H x v vl vu lo hi sl Q I rx hs pl pu h
 obtain ⟨z,rfl,hz,q⟩:=h
 obtain ⟨t,rfl⟩:=rx
 refine ⟨"str", _,slot_str_getitem.lookup,typeIs_str s z t,?_⟩
 have key:∀ (l u:Option (Int × Tok)),l.map (·.1)=lo→u.map (·.1)=hi→s.heap.IsSlice sl l u none→wpAny (model X.prog X.w) X.A (getItem (.str z t) (.ref sl)) (EP X pins σ Q) X.xe s:=fun l u e1 e2 hsl=>by
  refine wpAny_getItem_str_slice hsl rfl ?_
  unfold sliceMade slicePicked
  rw [e1,e2]
  show (if ((1:Int) == 1 && (Builtin.Str.strSliceIndices lo hi 1 z.length).length == z.length)=true then Made.val (.str z t) else Made.str ⟨((Builtin.Str.strSliceIndices lo hi 1 z.length).filterMap (z.cps[·]?)).toArray⟩).post _ s
  by_cases c:((1:Int) == 1 && (Builtin.Str.strSliceIndices lo hi 1 z.length).length == z.length)=true
  ·rw [if_pos c]
   have c':(Builtin.Str.strSliceIndices lo hi 1 z.length).length=z.length:=by simpa using c
   rw [yH z lo hi c'] at q
   exact ⟨.str z,H,I,⟨t,rfl⟩,q⟩
  ·rw [if_neg c,xV]
   refine ⟨?_, .str (oK z lo hi),H,I.tok _,⟨_,rfl⟩,q⟩
   show (lB z.cps.toList lo hi).toArray.size≤sizeLine
   rw [List.size_toArray]
   exact Nat.le_trans (aCC _ _ _) (by rw [Array.length_toList]; exact hz)
 cases pl with
 | none =>
  cases pu with
  | none=>exact key none none rfl rfl hs
  | int j u=>exact key none (some (j,u)) rfl rfl hs
 | int i u' =>
  cases pu with
  | none=>exact key (some (i,u')) none rfl rfl hs
  | int j u=>exact key (some (i,u')) (some (j,u)) rfl rfl hs
end
end L2
namespace L2
open PySem PySem.Spec PyProof.Rows
def aC6:V→Bool
 | .ref _=>true
 | .non=>true
 | .bl _=>true
 | .int _=>true
 | .str _=>true
 | _=>false
theorem aD6 {xs:List V}{us:List Value} (r:Vals xs us) {j:Nat} (h:j < us.toArray.size):∃ x,xs[j]?=some x∧RelV x us.toArray[j]:=by
 have l:=r.length
 rw [List.size_toArray] at h
 have g:xs[j]?=some (xs[j]'(by omega)):=by simp
 obtain ⟨u,eu,ru⟩:=r.get g
 refine ⟨_,g,?_⟩
 have:us.toArray[j]=u:=by
  rw [List.getElem?_eq_getElem h] at eu
  simpa using eu
 rw [this]
 exact ru
theorem all_true (n:Nat):((List.range n).all fun _=>true)=true:=List.all_eq_true.mpr fun _ _=>rfl
inductive Alike (K:PySem.W.Frag) (H:Hp):V→V→Prop
 | one {v:V} (h:aC6 v=true):Alike K H v v
 | lists {a b:Addr}{xs:List V} (ha:SqL K H a xs) (hb:SqL K H b xs) (h:xs.all aC6=true):Alike K H (.ref a) (.ref b)
section
variable {X:Cx}
end
end L2
namespace L2
open PySem PySem.Spec PyProof.Rows
section
variable {X:Cx}{o e:Expr}{es:List Expr}{to:TE}{t:TA}{name:Str}{apos cpos:Pos}{T id:String}{r:V→List V→Hp→VK→Prop}
end
end L2
namespace Z
open PySem L2
inductive D where
 | non | bl (b:Bool) | int (i:Int) | str (x:Str) | mt (a:Addr) | tup (ds:List D) | lst (ds:List D) | fl (ds:List D) | st (ks:List (List Int))
abbrev Fg:=PySem.W.Frag
def aH7 (k:List Int):Int:=reduceHash (Builtin.Tuple.tupleHashOf (k.map hashInt))
def entS (p:List Int × Addr):DictEntry:={ hash:=aH7 p.1,key := .ref p.2,val := .bool true }
def DSt (a:Addr) (xs:List (List Int × Addr)) (ep:Nat) (h:Heap):Prop:=(a == sysModules)=false∧∃ o,h.get? a=some o∧o.ExactDict∧o.data = .dict (xs.map entS).toArray ep
structure StO (K:Fg) (G:Hp) (o:Option HO) (a:Addr) (ks:List (List Int)) (xs:List (List Int × Addr)) (ep:Nat):Prop where
 nd:ks.Nodup
 len:ks.length≤sizeLine
 keys:xs.map (·.1)=ks
 at_:∀ p∈xs,SqT K G p.2 (p.1.map V.int)
 ob:o=some (.ext (DSt a xs ep))
theorem StO.mv {K:Fg}{G G':Hp}{o o':Option HO}{a:Addr}{ks:List (List Int)}{xs:List (List Int × Addr)}{ep:Nat} (h:StO K G o a ks xs ep) (s:Same G G') (e:o'=o):StO K G' o' a ks xs ep :=
 ⟨h.nd,h.len,h.keys,fun p hp=>R.iW s (h.at_ p hp),e.trans h.ob⟩
mutual
def Den (K:Fg) (G:Hp):D→V→Prop
 | .non,v=>v = .non
 | .bl b,v=>v = .bl b
 | .int i,v=>v = .int i
 | .str x,v=>v = .str x
 | .mt a,v=>v = .ref a
 | .tup ds,v=>∃ a vs,v = .ref a∧SqT K G a vs∧Dens K G ds vs
 | .lst ds,v=>∃ a vs,v = .ref a∧G a=some (.lst vs)∧Dens K G ds vs
 | .fl ds,v=>∃ a vs,v = .ref a∧SqL K G a vs∧Dens K G ds vs
 | .st ks,v=>∃ a xs ep,v = .ref a∧StO K G (G a) a ks xs ep
def Dens (K:Fg) (G:Hp):List D→List V→Prop
 | [],vs=>vs=[]
 | d::ds,vs=>∃ v r,vs=v::r∧Den K G d v∧Dens K G ds r
end
mutual
theorem Den.mono {K:Fg}{G G':Hp} (s:Same G G'):∀ (d:D) {v:V},Den K G d v→Den K G' d v
 | .non,_,h=>by simp only [Den] at h ⊢; exact h
 | .bl _,_,h=>by simp only [Den] at h ⊢; exact h
 | .int _,_,h=>by simp only [Den] at h ⊢; exact h
 | .str _,_,h=>by simp only [Den] at h ⊢; exact h
 | .mt _,_,h=>by simp only [Den] at h ⊢; exact h
 | .tup ds,_,h=>by
  simp only [Den] at h ⊢
  obtain ⟨a,vs,e,q,r⟩:=h
  exact ⟨a,vs,e,R.iW s q,Dens.mono s ds r⟩
 | .lst ds,_,h=>by
  simp only [Den] at h ⊢
  obtain ⟨a,vs,e,q,r⟩:=h
  exact ⟨a,vs,e,s _ _ q,Dens.mono s ds r⟩
 | .fl ds,_,h=>by
  simp only [Den] at h ⊢
  obtain ⟨a,vs,e,q,r⟩:=h
  exact ⟨a,vs,e,s.seq q,Dens.mono s ds r⟩
 | .st ks,_,h=>by
  simp only [Den] at h ⊢
  obtain ⟨a,xs,ep,e,q⟩:=h
  exact ⟨a,xs,ep,e,q.mv s ((s _ _ q.ob).trans q.ob.symm)⟩
theorem Dens.mono {K:Fg}{G G':Hp} (s:Same G G'):∀ (ds:List D) {vs:List V},Dens K G ds vs→Dens K G' ds vs
 | [],_,h=>by simp only [Dens] at h ⊢; exact h
 | d::ds,_,h=>by
  simp only [Dens] at h ⊢
  obtain ⟨v,r,e,h1,h2⟩:=h
  exact ⟨v,r,e,Den.mono s d h1,Dens.mono s ds h2⟩
end
theorem Den.up {K:Fg}{G G':Hp}{d:D}{v:V} (h:Den K G d v) (s:Same G G'):Den K G' d v:=Den.mono s d h
theorem Dens.up {K:Fg}{G G':Hp}{ds:List D}{vs:List V} (h:Dens K G ds vs) (s:Same G G'):Dens K G' ds vs:=Dens.mono s ds h
theorem cP {K:Fg}{G:Hp}:Dens K G [] []:=by simp only [Dens]
theorem cF {K:Fg}{G:Hp}{d:D}{v:V}{ds:List D}{vs:List V} (h:Den K G d v) (r:Dens K G ds vs):Dens K G (d::ds) (v::vs):=by
 simp only [Dens]; exact ⟨v,vs,rfl,h,r⟩
theorem bV {K:Fg}{G:Hp}{d:D}{ds:List D}{vs:List V} (h:Dens K G (d::ds) vs):∃ v r,vs=v::r∧Den K G d v∧Dens K G ds r:=by simp only [Dens] at h; exact h
theorem cJ {K:Fg}{G:Hp}{vs:List V} (h:Dens K G [] vs):vs=[]:=by simp only [Dens] at h; exact h
theorem Dens.len {K:Fg}{G:Hp}:∀ {ds:List D}{vs:List V},Dens K G ds vs→ds.length=vs.length
 | [],_,h=>by rw [cJ h]; rfl
 | d::ds,_,h=>by
  obtain ⟨v,r,rfl,_,h2⟩:=bV h
  rw [List.length_cons,List.length_cons,Dens.len h2]
theorem Dens.get {K:Fg}{G:Hp}:∀ {ds:List D}{vs:List V}{i:Nat}{d:D},Dens K G ds vs→ds[i]?=some d→∃ v,vs[i]?=some v∧Den K G d v
 | [],_,_,_,_,e=>by simp at e
 | d0::ds,_,0,d,h,e=>by
  obtain ⟨v,r,rfl,h1,_⟩:=bV h
  simp at e; subst e
  exact ⟨v,rfl,h1⟩
 | d0::ds,_,i+1,d,h,e=>by
  obtain ⟨v,r,rfl,_,h2⟩:=bV h
  obtain ⟨u,a,b⟩:=Dens.get (i:=i) h2 (by simpa using e)
  exact ⟨u,by simpa using a,b⟩
theorem Dens.get' {K:Fg}{G:Hp}:∀ {ds:List D}{vs:List V}{i:Nat}{v:V},Dens K G ds vs→vs[i]?=some v→∃ d,ds[i]?=some d∧Den K G d v:=fun {ds vs i v} h e=>by
 have hi:i < vs.length:=(List.getElem?_eq_some_iff.mp e).1
 rw [← h.len] at hi
 have e2:ds[i]?=some ds[i]:=by simp [hi]
 obtain ⟨u,a,b⟩:=h.get e2
 rw [e] at a; cases a
 exact ⟨_,e2,b⟩
theorem Dens.append {K:Fg}{G:Hp}:∀ {ds es:List D}{vs ws:List V},Dens K G ds vs→Dens K G es ws→Dens K G (ds++es) (vs++ws)
 | [],_,_,_,h,r=>by rw [cJ h]; exact r
 | d::ds,_,_,_,h,r=>by
  obtain ⟨v,t,rfl,h1,h2⟩:=bV h
  exact cF h1 (Dens.append h2 r)
theorem Dens.take {K:Fg}{G:Hp}:∀ {ds:List D}{vs:List V} (n:Nat),Dens K G ds vs→Dens K G (ds.take n) (vs.take n)
 | _,_,0,_=>by simp only [List.take_zero]; exact cP
 | [],_,n+1,h=>by rw [cJ h]; exact cP
 | d::ds,_,n+1,h=>by
  obtain ⟨v,t,rfl,h1,h2⟩:=bV h
  exact cF h1 (Dens.take n h2)
theorem Dens.drop {K:Fg}{G:Hp}:∀ {ds:List D}{vs:List V} (n:Nat),Dens K G ds vs→Dens K G (ds.drop n) (vs.drop n)
 | _,_,0,h=>h
 | [],_,n+1,h=>by rw [cJ h]; exact cP
 | d::ds,_,n+1,h=>by
  obtain ⟨v,t,rfl,h1,h2⟩:=bV h
  exact Dens.drop n h2
theorem Dens.set {K:Fg}{G:Hp}{d:D}{v:V} (e:Den K G d v):∀ {ds:List D}{vs:List V} (i:Nat),Dens K G ds vs→Dens K G (ds.set i d) (vs.set i v)
 | [],_,_,h=>by rw [cJ h]; exact cP
 | d0::ds,_,0,h=>by
  obtain ⟨u,t,rfl,h1,h2⟩:=bV h
  exact cF e h2
 | d0::ds,_,i+1,h=>by
  obtain ⟨u,t,rfl,h1,h2⟩:=bV h
  exact cF h1 (Dens.set e i h2)
theorem Dens.atI {K:Fg}{G:Hp}{ds:List D}{vs:List V}{i:Int}{d:D} (h:Dens K G ds vs) (e:atI ds i=some d):∃ v,L2.atI vs i=some v∧Den K G d v:=by
 unfold L2.atI at e ⊢
 rw [← h.len]
 cases hj:ixN ds.length i with
 | none=>rw [hj] at e; cases e
 | some j =>
  rw [hj] at e
  exact h.get e
theorem Dens.of_map {K:Fg}{G:Hp}{α:Type}{f:α→D}{g:α→V} (h:∀ x,Den K G (f x) (g x)):∀ xs:List α,Dens K G (xs.map f) (xs.map g)
 | []=>cP
 | x::xs=>cF (h x) (Dens.of_map h xs)
inductive MO where
 | lst (ds:List D)
 | st (ks:List (List Int))
 | ob (o:HO)
abbrev Mem:=Addr→Option MO
def eY (M:Mem) (a:Addr) (o:MO):Mem:=fun b=>if b=a then some o else M b
def jV (M:Mem) (a:Addr):Mem:=fun b=>if b=a then none else M b
theorem bN {M:Mem}{a:Addr}{o:MO}:eY M a o a=some o:=by unfold eY; rw [if_pos rfl]
theorem dN {M:Mem}{a b:Addr}{o:MO} (h:b≠a):eY M a o b=M b:=by unfold eY; rw [if_neg h]
theorem zQ {M:Mem}{a:Addr}:jV M a a=none:=by unfold jV; rw [if_pos rfl]
theorem kM {M:Mem}{a b:Addr} (h:b≠a):jV M a b=M b:=by unfold jV; rw [if_neg h]
def Le (M M':Mem):Prop:=∀ a o,M a=some o→M' a=some o
theorem Le.refl (M:Mem):Le M M:=fun _ _ h=>h
theorem Le.upd {M M':Mem}{a:Addr}{o:MO} (h:Le M M') (n:M a=none):Le M (eY M' a o):=fun b u e=>by
 rw [dN (fun z=>by rw [z,n] at e; cases e)]; exact h b u e
def MOk (K:Fg) (G H:Hp) (a:Addr):MO→Prop
 | .lst ds=>∃ vs,H a=some (.lst vs)∧Dens K G ds vs
 | .st ks=>∃ xs ep,StO K G (H a) a ks xs ep
 | .ob o=>H a=some o
theorem MOk.mv {K:Fg}{G G' H H':Hp}{a:Addr}{m:MO} (h:MOk K G H a m) (s:Same G G') (e:H' a=H a):MOk K G' H' a m:=by
 cases m with
 | lst ds=>obtain ⟨vs,e1,e2⟩:=h; exact ⟨vs,e.trans e1,e2.up s⟩
 | st ks=>obtain ⟨xs,ep,q⟩:=h; exact ⟨xs,ep,q.mv s e⟩
 | ob o=>exact e.trans h
structure Rel (K:Fg) (G H:Hp) (M:Mem):Prop where
 same:Same G H
 mem:∀ a o,M a=some o→G a=none∧MOk K G H a o
structure Stp (K:Fg) (G H:Hp) (M:Mem) (G' H':Hp) (M':Mem):Prop where
 gg:Same G G'
 rel:Rel K G' H' M'
 fr:∀ a o,H a=some o→G a=none→M a=none→H' a=some o∧G' a=none∧M' a=none
theorem Stp.refl {K:Fg}{G H:Hp}{M:Mem} (r:Rel K G H M):Stp K G H M G H M:=⟨Same.refl G,r,fun _ _ h h1 h2=>⟨h,h1,h2⟩⟩
theorem Stp.trans {K:Fg}{G H G1 H1 G2 H2:Hp}{M M1 M2:Mem} (a:Stp K G H M G1 H1 M1) (b:Stp K G1 H1 M1 G2 H2 M2):Stp K G H M G2 H2 M2 :=
 ⟨a.gg.trans b.gg,b.rel,fun c o h h1 h2=>let ⟨x,y,z⟩:=a.fr c o h h1 h2; b.fr c o x y z⟩
theorem Rel.le {K:Fg}{G H:Hp}{M M':Mem} (r:Rel K G H M) (l:Le M' M):Rel K G H M':=⟨r.same,fun a o h=>r.mem a o (l a o h)⟩
theorem Rel.got {K:Fg}{G H:Hp}{M:Mem}{a:Addr}{o:MO} (r:Rel K G H M) (h:M a=some o):∃ u,H a=some u:=by
 cases o with
 | lst ds=>obtain ⟨_,vs,e,_⟩:=r.mem a _ h; exact ⟨_,e⟩
 | st ks=>obtain ⟨_,xs,ep,q⟩:=r.mem a _ h; exact ⟨_,q.ob⟩
 | ob o=>exact ⟨o,(r.mem a _ h).2⟩
theorem Rel.free {K:Fg}{G H:Hp}{M:Mem}{p:Addr} (r:Rel K G H M) (h:H p=none):G p=none∧M p=none:=by
 refine ⟨r.same.free h,?_⟩
 cases e:M p with
 | none=>rfl
 | some o=>obtain ⟨u,q⟩:=r.got e; rw [h] at q; cases q
theorem Rel.new {K:Fg}{G H:Hp}{M:Mem}{p:Addr}{o:HO} (r:Rel K G H M) (h:H p=none):Stp K G H M (upd G p o) (upd H p o) M:=by
 have hG:=(r.free h).1
 have s1:Same G (upd G p o):=qF hG
 refine ⟨s1,⟨fun b u e => ?_,fun a m e => ?_⟩,fun a u e1 e2 e3 => ?_⟩
 ·by_cases z:b=p
  ·subst z; rw [bP] at e ⊢; exact e
  ·rw [bB z] at e ⊢; exact r.same b u e
 ·obtain ⟨u,q⟩:=r.got e
  have z:a≠p:=bX q h
  refine ⟨by rw [bB z]; exact (r.mem a m e).1,?_⟩
  exact (r.mem a m e).2.mv s1 (bB z)
 ·have z:a≠p:=bX e1 h
  exact ⟨by rw [bB z]; exact e1,by rw [bB z]; exact e2,e3⟩
theorem Rel.newM {K:Fg}{G H:Hp}{M:Mem}{p:Addr}{vs:List V}{ds:List D} (r:Rel K G H M) (h:H p=none) (e:Dens K G ds vs):Stp K G H M G (upd H p (.lst vs)) (eY M p (.lst ds)):=by
 have hG:=(r.free h).1
 refine ⟨Same.refl G,⟨fun b u q => ?_,fun a m q => ?_⟩,fun a u e1 e2 e3 => ?_⟩
 ·rw [bB (bX q hG)]; exact r.same b u q
 ·by_cases z:a=p
  ·subst z
   rw [bN] at q; cases q
   exact ⟨hG,vs,bP,e⟩
  ·rw [dN z] at q
   refine ⟨(r.mem a m q).1,?_⟩
   exact (r.mem a m q).2.mv (Same.refl G) (bB z)
 ·have z:a≠p:=bX e1 h
  exact ⟨by rw [bB z]; exact e1,e2,by rw [dN z]; exact e3⟩
theorem Rel.wr {K:Fg}{G H:Hp}{M:Mem}{p:Addr}{vs:List V}{ds:List D}{o:MO} (r:Rel K G H M) (h:M p=some o) (e:Dens K G ds vs):Stp K G H M G (upd H p (.lst vs)) (eY M p (.lst ds)):=by
 have hG:=(r.mem p _ h).1
 refine ⟨Same.refl G,⟨fun b u q => ?_,fun a m q => ?_⟩,fun a u e1 e2 e3 => ?_⟩
 ·rw [bB (bX q hG)]; exact r.same b u q
 ·by_cases z:a=p
  ·subst z
   rw [bN] at q; cases q
   exact ⟨hG,vs,bP,e⟩
  ·rw [dN z] at q
   refine ⟨(r.mem a m q).1,?_⟩
   exact (r.mem a m q).2.mv (Same.refl G) (bB z)
 ·have z:a≠p:=fun z=>by rw [z,h] at e3; cases e3
  exact ⟨by rw [bB z]; exact e1,e2,by rw [dN z]; exact e3⟩
theorem Rel.frz {K:Fg}{G H:Hp}{M:Mem}{a:Addr}{ds:List D} (r:Rel K G H M) (h:M a=some (.lst ds)):∃ vs,H a=some (.lst vs)∧Dens K G ds vs∧Stp K G H M (upd G a (.lst vs)) H (jV M a):=by
 obtain ⟨hG,vs,e,q⟩:=r.mem a _ h
 have s1:Same G (upd G a (.lst vs)):=qF hG
 refine ⟨vs,e,q,s1,⟨fun b u z => ?_,fun b m z => ?_⟩,fun b u e1 e2 e3 => ?_⟩
 ·by_cases y:b=a
  ·subst y; rw [bP] at z; cases z; exact e
  ·rw [bB y] at z; exact r.same b u z
 ·by_cases y:b=a
  ·subst y; rw [zQ] at z; cases z
  ·rw [kM y] at z
   refine ⟨by rw [bB y]; exact (r.mem b m z).1,?_⟩
   exact (r.mem b m z).2.mv s1 rfl
 ·have y:b≠a:=fun y=>by rw [y,h] at e3; cases e3
  exact ⟨e1,by rw [bB y]; exact e2,by rw [kM y]; exact e3⟩
theorem Rel.drop {K:Fg}{G H:Hp}{M M':Mem} (r:Rel K G H M) (l:Le M' M):Stp K G H M G H M' :=
 ⟨Same.refl G,r.le l,fun a o h1 h2 h3=>⟨h1,h2,by
  cases e:M' a with
  | none=>rfl
  | some u=>rw [l a u e] at h3; cases h3⟩⟩
abbrev Gm:=List (Option D)
structure EnvR (K:Fg) (G:Hp) (Γ:Gm) (σ:St):Prop where
 len:Γ.length=σ.length
 get:∀ (i:Nat) (d:D),Γ[i]?=some (some d)→∃ v,σ[i]?=some (some v)∧Den K G d v
theorem EnvR.up {K:Fg}{G G':Hp}{Γ:Gm}{σ:St} (h:EnvR K G Γ σ) (s:Same G G'):EnvR K G' Γ σ :=
 ⟨h.len,fun i d e=>let ⟨v,a,b⟩:=h.get i d e; ⟨v,a,b.up s⟩⟩
theorem EnvR.set {K:Fg}{G:Hp}{Γ:Gm}{σ:St} (h:EnvR K G Γ σ) {d:D}{v:V} (e:Den K G d v) (i:Nat):EnvR K G (Γ.set i (some d)) (σ.set i (some v)):=by
 refine ⟨by rw [List.length_set,List.length_set,h.len],fun j c q => ?_⟩
 rw [List.getElem?_set] at q ⊢
 by_cases z:i=j
 ·rw [if_pos z] at q ⊢
  split at q
  ·rename_i hl
   rw [if_pos (by rw [← h.len]; exact hl)]
   cases q
   exact ⟨v,rfl,e⟩
  ·cases q
 ·rw [if_neg z] at q ⊢
  exact h.get j c q
theorem EnvR.start {K:Fg}{G:Hp}{ds:List D}{vs:List V} (h:Dens K G ds vs) (n:Nat):EnvR K G (ds.map some++List.replicate (n - ds.length) none) (vs.map some++List.replicate (n - vs.length) none):=by
 have hl:=h.len
 refine ⟨by simp [hl],fun i d e => ?_⟩
 by_cases hi:i < ds.length
 ·rw [List.getElem?_append_left (by simpa using hi),List.getElem?_map] at e
  rw [List.getElem?_append_left (by simp; omega),List.getElem?_map]
  cases q:ds[i]? with
  | none=>rw [q] at e; cases e
  | some c =>
   rw [q] at e; cases e
   obtain ⟨v,a,b⟩:=h.get q
   exact ⟨v,by rw [a]; rfl,b⟩
 ·rw [List.getElem?_append_right (by simpa using hi),List.getElem?_replicate] at e
  split at e <;> cases e
def tU (X:Cx) (e:Expr):TE:=fun σ H Q=>∀ pins s,Inv X pins σ H s→wpAny (model X.prog X.w) X.A (eval e X.env) (EP X pins σ Q) X.xe s
theorem pU {X:Cx}{e:Expr}:PE X e (tU X e):=fun pins s σ H Q I h=>h pins s I
theorem cC {X:Cx}{e:Expr}{t:TE} (p:PE X e t) {σ:St}{H:Hp}{Q:VK} (h:t σ H Q):tU X e σ H Q:=fun pins s I=>p pins s σ H Q I h
def tUT (X:Cx) (e:Expr):TT:=fun σ H Q=>∀ pins s,Inv X pins σ H s→wpAny (model X.prog X.w) X.A (isTrue e X.env (eval e X.env)) (TP X pins σ Q) X.xe s
theorem pUT {X:Cx}{e:Expr}:PT X e (tUT X e):=fun pins s σ H Q I h=>h pins s I
theorem oU {X:Cx}{e:Expr}{t:TT} (p:PT X e t) {σ:St}{H:Hp}{Q:Bool→Hp→Prop} (h:t σ H Q):tUT X e σ H Q:=fun pins s I=>p pins s σ H Q I h
def tUW (X:Cx) (e:Expr):TT:=fun σ H Q=>∀ whole pins s,Inv X pins σ H s→wpAny (model X.prog X.w) X.A (isTrue e X.env whole) (TP X pins σ Q) X.xe s
theorem pUW {X:Cx}{e:Expr}:PW X e (tUW X e):=fun whole pins s σ H Q I h=>h whole pins s I
theorem yM {X:Cx}{e:Expr}{t:TT} (p:PW X e t) {σ:St}{H:Hp}{Q:Bool→Hp→Prop} (h:t σ H Q):tUW X e σ H Q:=fun whole pins s I=>p whole pins s σ H Q I h
def tUA (X:Cx) (es:List Expr):TA:=fun σ H Q=>∀ pos pins s,Inv X pins σ H s→wpAny (model X.prog X.w) X.A (spliced (backTo pos (starEach es X.env))) (AP X pins σ Q) X.xe s
theorem pUA {X:Cx}{es:List Expr}:PA X es (tUA X es):=fun pos pins s σ H Q I h=>h pos pins s I
theorem yE {X:Cx}{es:List Expr}{t:TA} (p:PA X es t) {σ:St}{H:Hp}{Q:List V→Hp→Prop} (h:t σ H Q):tUA X es σ H Q:=fun pos pins s I=>p pos pins s σ H Q I h
def tUS (X:Cx) (st:Stmt):TS:=fun E σ H=>∀ pins s,Inv X pins σ H s→wpAny (model X.prog X.w) X.A (exec st X.env) (SP X pins E) X.xe s
theorem pUS {X:Cx}{st:Stmt}:PS X st (tUS X st):=fun pins s σ H E I h=>h pins s I
theorem gU {X:Cx}{st:Stmt}{t:TS} (p:PS X st t) {σ:St}{H:Hp}{E:Ends} (h:t E σ H):tUS X st E σ H:=fun pins s I=>p pins s σ H E I h
def aB1 (X:Cx) (st:List Stmt):TS:=fun E σ H=>∀ pins s,Inv X pins σ H s→wpAny (model X.prog X.w) X.A (execs st X.env) (SP X pins E) X.xe s
theorem p4 {X:Cx}{st:List Stmt}:PSs X st (aB1 X st):=fun pins s σ H E I h=>h pins s I
theorem pQ {X:Cx}{st:List Stmt}{t:TS} (p:PSs X st t) {σ:St}{H:Hp}{E:Ends} (h:t E σ H):aB1 X st E σ H:=fun pins s I=>p pins s σ H E I h
def tUG (X:Cx) (tg:Expr):TG:=fun v σ H Q=>∀ pins s u,Inv X pins σ H s→RelV v u→wpAny (model X.prog X.w) X.A (assign tg X.env u) (fun _ s'=>∃ σ' H',Inv X pins σ' H' s'∧Q σ' H') X.xe s
theorem pUG {X:Cx}{tg:Expr}:PG X tg (tUG X tg):=fun pins s σ H v u Q I r h=>h pins s u I r
theorem uJ {X:Cx}{tg:Expr}{t:TG} (p:PG X tg t) {v:V}{σ:St}{H:Hp}{Q:St→Hp→Prop} (h:t v σ H Q):tUG X tg v σ H Q:=fun pins s u I r=>p pins s σ H v u Q I r h
def aBY (X:Cx) (tg:List Expr):TGs:=fun vs σ H Q=>∀ pins s us,Inv X pins σ H s→Vals vs us→wpAny (model X.prog X.w) X.A (assignInOrder ((assignEach tg X.env).map (·.2)) us) (fun _ s'=>∃ σ' H',Inv X pins σ' H' s'∧Q σ' H') X.xe s
theorem pUGs {X:Cx}{tg:List Expr}:PGs X tg (aBY X tg):=fun pins s σ H vs us Q I r h=>h pins s us I r
theorem wL {X:Cx}{tg:List Expr}{t:TGs} (p:PGs X tg t) {vs:List V}{σ:St}{H:Hp}{Q:St→Hp→Prop} (h:t vs σ H Q):aBY X tg vs σ H Q:=fun pins s us I r=>p pins s σ H vs us Q I r h
def tUI (X:Cx) (tg iter:Expr):TI:=fun σ H R=>∀ pins s,Inv X pins σ H s→wpAny (model X.prog X.w) X.A (eval iter X.env) (fun v s1=>wpAny (model X.prog X.w) X.A (pyIter v) (PIE X pins σ tg R) X.xe s1) X.xe s
theorem pUI {X:Cx}{tg iter:Expr}:PI X tg iter (tUI X tg iter):=fun pins s σ H R I h=>h pins s I
theorem oS {X:Cx}{tg iter:Expr}{t:TI} (p:PI X tg iter t) {σ:St}{H:Hp}{R:It→Hp→Prop} (h:t σ H R):tUI X tg iter σ H R:=fun pins s I=>p pins s σ H R I h
def Cont (K:Fg) (M:Mem) (k:D→Mem→Prop) (G H:Hp) (Q:VK):Prop:=∀ v G' H' d M',Stp K G H M G' H' M'→Den K G' d v→k d M'→Q v H'
def GE (X:Cx) (e:Expr) (Γ:Gm) (M:Mem) (k:D→Mem→Prop):Prop :=
 ∀ σ G H Q,EnvR X.K G Γ σ→Rel X.K G H M→Cont X.K M k G H Q→tU X e σ H Q
def nQ (K:Fg) (M:Mem) (k:Bool→Mem→Prop) (G H:Hp) (Q:Bool→Hp→Prop):Prop:=∀ b G' H' M',Stp K G H M G' H' M'→k b M'→Q b H'
def GT (X:Cx) (e:Expr) (Γ:Gm) (M:Mem) (k:Bool→Mem→Prop):Prop :=
 ∀ σ G H Q,EnvR X.K G Γ σ→Rel X.K G H M→nQ X.K M k G H Q→tUT X e σ H Q
def GW (X:Cx) (e:Expr) (Γ:Gm) (M:Mem) (k:Bool→Mem→Prop):Prop :=
 ∀ σ G H Q,EnvR X.K G Γ σ→Rel X.K G H M→nQ X.K M k G H Q→tUW X e σ H Q
def GA (X:Cx) (es:List Expr) (Γ:Gm) (M:Mem) (k:List D→Mem→Prop):Prop :=
 ∀ σ G H Q,EnvR X.K G Γ σ→Rel X.K G H M→(∀ vs G' H' ds M',Stp X.K G H M G' H' M'→Dens X.K G' ds vs→k ds M'→Q vs H')→tUA X es σ H Q
def j9 (K:Fg) (M:Mem) (k:Gm→Mem→Prop) (G H:Hp) (Q:St→Hp→Prop):Prop:=∀ σ' G' H' Γ' M',Stp K G H M G' H' M'→EnvR K G' Γ' σ'→k Γ' M'→Q σ' H'
def GG (X:Cx) (tg:Expr) (d:D) (Γ:Gm) (M:Mem) (k:Gm→Mem→Prop):Prop :=
 ∀ σ G H v Q,EnvR X.K G Γ σ→Rel X.K G H M→Den X.K G d v→j9 X.K M k G H Q→tUG X tg v σ H Q
def GGs (X:Cx) (tgs:List Expr) (ds:List D) (Γ:Gm) (M:Mem) (k:Gm→Mem→Prop):Prop :=
 ∀ σ G H vs Q,EnvR X.K G Γ σ→Rel X.K G H M→Dens X.K G ds vs→j9 X.K M k G H Q→aBY X tgs vs σ H Q
structure Fin where
 nx:Gm→Mem→Prop
 rt:D→Mem→Prop
 bk:Gm→Mem→Prop:=fun _ _=>False
 ct:Gm→Mem→Prop:=fun _ _=>False
structure EndsOk (K:Fg) (G H:Hp) (M:Mem) (F:Fin) (E:Ends):Prop where
 nx:j9 K M F.nx G H E.nx
 rt:Cont K M F.rt G H E.rt
 bk:j9 K M F.bk G H E.bk
 ct:j9 K M F.ct G H E.ct
theorem Cont.up {K:Fg}{M M1:Mem}{k:D→Mem→Prop}{G H G1 H1:Hp}{Q:VK} (c:Cont K M k G H Q) (s:Stp K G H M G1 H1 M1):Cont K M1 k G1 H1 Q:=fun v G' H' d M' s'=>c v G' H' d M' (s.trans s')
theorem j9.up {K:Fg}{M M1:Mem}{k:Gm→Mem→Prop}{G H G1 H1:Hp}{Q:St→Hp→Prop} (c:j9 K M k G H Q) (s:Stp K G H M G1 H1 M1):j9 K M1 k G1 H1 Q:=fun v G' H' d M' s'=>c v G' H' d M' (s.trans s')
theorem nQ.up {K:Fg}{M M1:Mem}{k:Bool→Mem→Prop}{G H G1 H1:Hp}{Q:Bool→Hp→Prop} (c:nQ K M k G H Q) (s:Stp K G H M G1 H1 M1):nQ K M1 k G1 H1 Q:=fun v G' H' M' s'=>c v G' H' M' (s.trans s')
theorem EndsOk.up {K:Fg}{M M1:Mem}{F:Fin}{E:Ends}{G H G1 H1:Hp} (c:EndsOk K G H M F E) (s:Stp K G H M G1 H1 M1):EndsOk K G1 H1 M1 F E:=⟨c.nx.up s,c.rt.up s,c.bk.up s,c.ct.up s⟩
def GS (X:Cx) (ss:List Stmt) (Γ:Gm) (M:Mem) (F:Fin):Prop :=
 ∀ σ G H E,EnvR X.K G Γ σ→Rel X.K G H M→EndsOk X.K G H M F E→aB1 X ss E σ H
def G1 (X:Cx) (st:Stmt) (Γ:Gm) (M:Mem) (F:Fin):Prop :=
 ∀ σ G H E,EnvR X.K G Γ σ→Rel X.K G H M→EndsOk X.K G H M F E→tUS X st E σ H
end Z
namespace Z
open PySem L2
section
variable {K:Fg}{G H:Hp}{M:Mem}
theorem cS {i:Int}:Den K G (.int i) (.int i):=by simp only [Den]
theorem dG {i:Bool}:Den K G (.bl i) (.bl i):=by simp only [Den]
theorem dA {i:Str}:Den K G (.str i) (.str i):=by simp only [Den]
theorem wU:Den K G .non .non:=by simp only [Den]
theorem yX {a:Addr}:Den K G (.mt a) (.ref a):=by simp only [Den]
theorem jH {a:Addr}{vs:List V}{ds:List D} (h:SqT K G a vs) (r:Dens K G ds vs):Den K G (.tup ds) (.ref a):=by simp only [Den]; exact ⟨a,vs,rfl,h,r⟩
theorem fS {a:Addr}{vs:List V}{ds:List D} (h:G a=some (.lst vs)) (r:Dens K G ds vs):Den K G (.lst ds) (.ref a):=by simp only [Den]; exact ⟨a,vs,rfl,h,r⟩
theorem aGB {a:Addr}{vs:List V}{ds:List D} (h:SqL K G a vs) (r:Dens K G ds vs):Den K G (.fl ds) (.ref a):=by simp only [Den]; exact ⟨a,vs,rfl,h,r⟩
theorem Den.int_ {i:Int}{v:V} (h:Den K G (.int i) v):v = .int i:=by simp only [Den] at h; exact h
theorem Den.bl_ {i:Bool}{v:V} (h:Den K G (.bl i) v):v = .bl i:=by simp only [Den] at h; exact h
theorem Den.str_ {i:Str}{v:V} (h:Den K G (.str i) v):v = .str i:=by simp only [Den] at h; exact h
theorem Den.non_ {v:V} (h:Den K G .non v):v = .non:=by simp only [Den] at h; exact h
theorem Den.mt_ {a:Addr}{v:V} (h:Den K G (.mt a) v):v = .ref a:=by simp only [Den] at h; exact h
theorem Den.tup_ {ds:List D}{v:V} (h:Den K G (.tup ds) v):∃ a vs,v = .ref a∧SqT K G a vs∧Dens K G ds vs:=by simp only [Den] at h; exact h
theorem Den.lst_ {ds:List D}{v:V} (h:Den K G (.lst ds) v):∃ a vs,v = .ref a∧G a=some (.lst vs)∧Dens K G ds vs:=by simp only [Den] at h; exact h
theorem Den.fl_ {ds:List D}{v:V} (h:Den K G (.fl ds) v):∃ a vs,v = .ref a∧SqL K G a vs∧Dens K G ds vs:=by simp only [Den] at h; exact h
theorem Den.st_ {ks:List (List Int)}{v:V} (h:Den K G (.st ks) v):∃ a xs ep,v = .ref a∧StO K G (G a) a ks xs ep:=by simp only [Den] at h; exact h
inductive Seq (M:Mem):D→Bool→List D→Prop
 | tup (ds:List D):Seq M (.tup ds) false ds
 | lst (ds:List D):Seq M (.lst ds) true ds
 | fl (ds:List D):Seq M (.fl ds) true ds
 | mt {a:Addr}{ds:List D} (h:M a=some (.lst ds)):Seq M (.mt a) true ds
theorem Seq.sq {d:D}{t:Bool}{ds:List D}{v:V} (q:Seq M d t ds) (r:Rel K G H M) (h:Den K G d v):∃ a vs,v = .ref a∧(if t=true then SqL K H a vs else SqT K H a vs)∧Dens K G ds vs:=by
 cases q with
 | tup ds=>obtain ⟨a,vs,e,s,d⟩:=h.tup_; exact ⟨a,vs,e,R.iW r.same s,d⟩
 | lst ds=>obtain ⟨a,vs,e,s,d⟩:=h.lst_; exact ⟨a,vs,e,SqL.of (r.same _ _ s),d⟩
 | fl ds=>obtain ⟨a,vs,e,s,d⟩:=h.fl_; exact ⟨a,vs,e,r.same.seq s,d⟩
 | mt hm=>obtain ⟨_,vs,e,d⟩:=r.mem _ _ hm; exact ⟨_,vs,h.mt_,SqL.of e,d⟩
theorem Seq.sq2 {d:D}{t:Bool}{ds:List D}{v:V} (q:Seq M d t ds) (r:Rel K G H M) (h:Den K G d v):∃ a vs,v = .ref a∧(SqL K H a vs∨SqT K H a vs)∧Dens K G ds vs:=by
 obtain ⟨a,vs,e,s,d⟩:=q.sq r h
 refine ⟨a,vs,e,?_,d⟩
 cases t with
 | true=>exact .inl s
 | false=>exact .inr s
inductive Lst (M:Mem):D→List D→Prop
 | lst (ds:List D):Lst M (.lst ds) ds
 | mt {a:Addr}{ds:List D} (h:M a=some (.lst ds)):Lst M (.mt a) ds
theorem Lst.sq {d:D}{ds:List D}{v:V} (q:Lst M d ds) (r:Rel K G H M) (h:Den K G d v):∃ a vs,v = .ref a∧H a=some (.lst vs)∧Dens K G ds vs:=by
 cases q with
 | lst ds=>obtain ⟨a,vs,e,s,d⟩:=h.lst_; exact ⟨a,vs,e,r.same _ _ s,d⟩
 | mt hm=>obtain ⟨_,vs,e,d⟩:=r.mem _ _ hm; exact ⟨_,vs,h.mt_,e,d⟩
end
section
variable {X:Cx}{Γ:Gm}{M:Mem}{k:D→Mem→Prop}{kb:Bool→Mem→Prop}{pos:Pos}{a b c e:Expr}{es rest:List Expr}
theorem aB (i:Nat) {x:Str}{d:D} (hΓ:Γ[i]?=some (some d)) (h:k d M) (hN:X.N[i]?=some x:=by rfl) (hv:Vis X.env.scope x:=by first | exact Or.inl rfl | exact Or.inr (Or.inl rfl) | exact Or.inr (Or.inr rfl))
  (hd:(x == ("__debug__" : Str))=false:=by decide) (hcd:(x == ("__classdict__" : Str))=false:=by decide):GE X (.Name x pos) Γ M k :=
 fun σ G H Q en rl q=>cC (aGE hN hv hd hcd) (let ⟨v,e,dv⟩:=en.get i d hΓ; ⟨v,e,q v G H d M (Stp.refl rl) dv h⟩)
theorem ge_int {i:Int}{j:Nat} (h:k (.int i) M):GE X (.Constant (.int i) j pos) Γ M k:=fun σ G H Q en rl q=>cC aG8 (q _ G H _ M (Stp.refl rl) cS h)
theorem fC {i:Bool}{j:Nat} (h:k (.bl i) M):GE X (.Constant (.bool i) j pos) Γ M k:=fun σ G H Q en rl q=>cC aIA (q _ G H _ M (Stp.refl rl) dG h)
theorem ge_str {x:Str}{j:Nat} (h:k (.str x) M):GE X (.Constant (.str x) j pos) Γ M k:=fun σ G H Q en rl q=>cC aFP (q _ G H _ M (Stp.refl rl) dA h)
theorem aGV (h:GE X e Γ M fun d M1=>∃ a ds M2,d = .mt a∧M1 a=some (.lst ds)∧M2 a=none∧Le M2 M1∧k (.lst ds) M2):GE X e Γ M k:=fun σ G H Q en rl q =>
 h σ G H Q en rl fun v G1 H1 d M1 s1 e1 ⟨a,ds,M2,ed,h1,h2,h3,h4⟩=>by
  subst ed
  obtain ⟨vs,x1,x2,st⟩:=s1.rel.frz h1
  have l:Le M2 (jV M1 a):=fun b o z=>by rw [kM (fun y=>by rw [y,h2] at z; cases z)]; exact h3 b o z
  have st2:=st.trans (st.rel.drop l)
  exact q v _ _ (.lst ds) M2 (s1.trans st2) (by rw [e1.mt_]; exact fS bP (x2.up st.gg)) h4
def Op2 (K:Fg) (r:R2) (d1 d2:D) (M:Mem) (k:D→Mem→Prop):Prop:=∀ G H v1 v2 Q,Rel K G H M→Den K G d1 v1→Den K G d2 v2→Cont K M k G H Q→r v1 v2 H Q
theorem two {r:R2} (h:GE X a Γ M fun d1 M1=>GE X b Γ M1 fun d2 M2=>Op2 X.K r d1 d2 M2 k) {σ:St}{G H:Hp}{Q:VK} (en:EnvR X.K G Γ σ) (rl:Rel X.K G H M) (q:Cont X.K M k G H Q):tOp r (tU X a) (tU X b) σ H Q:=by
 refine h σ G H _ en rl fun v1 G1 H1 d1 M1 s1 e1 h1 => ?_
 refine h1 σ G1 H1 _ (en.up s1.gg) s1.rel fun v2 G2 H2 d2 M2 s2 e2 h2 => ?_
 exact h2 G2 H2 v1 v2 Q s2.rel (e1.up s2.gg) e2 (q.up (s1.trans s2))
theorem aG {op:Operator}{r:R2} (ho:OpR X (binaryOp op) r) (h:GE X a Γ M fun d1 M1=>GE X b Γ M1 fun d2 M2=>Op2 X.K r d1 d2 M2 k):GE X (.BinOp a op b pos) Γ M k :=
 fun σ G H Q en rl q=>cC (aHM ho pU pU) (two h en rl q)
theorem eP {op:CmpOp}{r:R2} (ho:OpR X (compareOp op) r) (h:GE X a Γ M fun d1 M1=>GE X b Γ M1 fun d2 M2=>Op2 X.K r d1 d2 M2 k) (hm:behindInMarks op b=false:=by first | exact nomark _ | rfl):GE X (.Compare a [op] [b] pos) Γ M k :=
 fun σ G H Q en rl q=>cC (aER ho pU pU hm) (two h en rl q)
theorem bJ {op:CmpOp}{r:R2} (ho:OpR X (compareOp op) r) (h:GE X a Γ M fun d1 M1=>GE X b Γ M1 fun d2 M2=>Op2 X.K r d1 d2 M2 fun d M3=>∃ c,d = .bl c∧kb c M3) (hm:behindInMarks op b=false:=by first | exact nomark _ | rfl):GT X (.Compare a [op] [b] pos) Γ M kb :=
 fun σ G H Q en rl q=>oU (aDS ho pU pU hm) (two (k:=fun d M3=>∃ c,d = .bl c∧kb c M3) h en rl fun v G' H' d M' s e ⟨c,ed,hk⟩=>by subst ed; exact ⟨c,e.bl_,q c G' H' M' s hk⟩)
theorem aJ {r:R2} (hr:IxR X r) (h:GE X a Γ M fun d1 M1=>GE X b Γ M1 fun d2 M2=>Op2 X.K r d1 d2 M2 k) (hs:vF b:=by intro _ _; rfl):GE X (.Subscript a b pos) Γ M k :=
 fun σ G H Q en rl q=>cC (aHT hr pU pU hs) (two h en rl q)
theorem lE {op:UnaryOp}{g:Int→Int} (ho:UnR X (unaryOp op) (rU fun i => .int (g i))) (h:GE X a Γ M fun d M1=>∃ i,d = .int i∧k (.int (g i)) M1):GE X (.UnaryOp op a pos) Γ M k:=fun σ G H Q en rl q=>by
 refine cC (aHB ho pU) ?_
 refine h σ G H _ en rl fun v G1 H1 d M1 s1 e1 ⟨i,ed,h1⟩ => ?_
 subst ed
 exact ⟨i,e1.int_,q _ _ _ _ _ s1 cS h1⟩
end
section
variable {K:Fg}{M:Mem}{k:D→Mem→Prop}{i j:Int}{x y:Str}
theorem bW {g:Int→Int→Int} (h:k (.int (g i j)) M):Op2 K (rI0 fun i j => .int (g i j)) (.int i) (.int j) M k:=fun G H v1 v2 Q rl e1 e2 q=>⟨i,j,e1.int_,e2.int_,q _ G H _ M (Stp.refl rl) cS h⟩
theorem bQ {C:Int→Int→Prop}{g:Int→Int→Int} (hc:C i j) (h:k (.int (g i j)) M):Op2 K (rI C fun i j => .int (g i j)) (.int i) (.int j) M k:=fun G H v1 v2 Q rl e1 e2 q=>⟨i,j,e1.int_,e2.int_,hc,q _ G H _ M (Stp.refl rl) cS h⟩
theorem gH {g:Int→Int→Bool} (h:k (.bl (g i j)) M):Op2 K (rI0 fun i j => .bl (g i j)) (.int i) (.int j) M k:=fun G H v1 v2 Q rl e1 e2 q=>⟨i,j,e1.int_,e2.int_,q _ G H _ M (Stp.refl rl) dG h⟩
theorem iF (h:k (.bl (decide (i=j))) M):Op2 K rEq (.int i) (.int j) M k:=fun G H v1 v2 Q rl e1 e2 q=>by
 rw [e1.int_,e2.int_]
 exact ⟨rfl,by rw [show decide (V.int i=V.int j)=decide (i=j) from by simp]; exact q _ G H _ M (Stp.refl rl) dG h⟩
theorem l8 (h:k (.bl (!decide (i=j))) M):Op2 K rNe (.int i) (.int j) M k:=fun G H v1 v2 Q rl e1 e2 q=>by
 rw [e1.int_,e2.int_]
 exact ⟨rfl,by rw [show decide (V.int i=V.int j)=decide (i=j) from by simp]; exact q _ G H _ M (Stp.refl rl) dG h⟩
theorem tJ (h:k (.bl (decide (x=y))) M):Op2 K rEq (.str x) (.str y) M k:=fun G H v1 v2 Q rl e1 e2 q=>by
 rw [e1.str_,e2.str_]
 exact ⟨rfl,by rw [show decide (V.str x=V.str y)=decide (x=y) from by simp]; exact q _ G H _ M (Stp.refl rl) dG h⟩
theorem mS (h:k (.bl (!decide (x=y))) M):Op2 K rNe (.str x) (.str y) M k:=fun G H v1 v2 Q rl e1 e2 q=>by
 rw [e1.str_,e2.str_]
 exact ⟨rfl,by rw [show decide (V.str x=V.str y)=decide (x=y) from by simp]; exact q _ G H _ M (Stp.refl rl) dG h⟩
theorem aM {d1 d:D}{t:Bool}{ds:List D} (q1:Seq M d1 t ds) (e:atI ds i=some d) (h:k d M):Op2 K (rIx K) d1 (.int i) M k:=fun G H v1 v2 Q rl e1 e2 q=>by
 obtain ⟨a,vs,ev,s,dn⟩:=q1.sq2 rl e1
 obtain ⟨v,ei,dv⟩:=dn.atI e
 rw [ev,e2.int_]
 exact R.aHZ s ei (q v G H d M (Stp.refl rl) dv h)
theorem pA {z:Str}{c:Nat} (hz:z.length≤sizeLine) (e:atI z.cps.toList i=some c) (h:k (.str ⟨#[c]⟩) M):Op2 K (rIx K) (.str z) (.int i) M k:=fun G H v1 v2 Q rl e1 e2 q =>
 .inr (.inr ⟨z,i,c,e1.str_,e2.int_,hz,e,q _ G H _ M (Stp.refl rl) dA h⟩)
theorem dL (hz:x.length+y.length≤sizeLine) (h:k (.str (x++y)) M):Op2 K (fun x y H Q=>∃ i j,x = .str i∧y = .str j∧i.length+j.length≤sizeLine∧Q (.str (i++j)) H) (.str x) (.str y) M k :=
 fun G H v1 v2 Q rl e1 e2 q=>⟨x,y,e1.str_,e2.str_,hz,q _ G H _ M (Stp.refl rl) dA h⟩
theorem wE (h1 : -(2 ^ 40)≤i) (h2:i < 2 ^ 40) (h3:x.length * i.toNat≤sizeLine) (h:k (.str (jU x i.toNat)) M):Op2 K aCY (.str x) (.int i) M k :=
 fun G H v1 v2 Q rl e1 e2 q=>⟨x,i,e1.str_,e2.int_,h1,h2,h3,q _ G H _ M (Stp.refl rl) dA h⟩
theorem iJ {d1 d2:D}{xs ys:List D} (q1:Lst M d1 xs) (q2:Lst M d2 ys) (hl:xs.length+ys.length≤sizeLine) (h:k (.lst (xs++ys)) M):Op2 K rCat d1 d2 M k:=fun G H v1 v2 Q rl e1 e2 q=>by
 obtain ⟨a,vs,ev,s,dn⟩:=q1.sq rl e1
 obtain ⟨b,ws,ew,s2,dn2⟩:=q2.sq rl e2
 refine ⟨a,b,vs,ws,ev,ew,s,s2,by rw [← dn.len,← dn2.len]; exact hl,fun p hp => ?_⟩
 have st:=rl.new (o := .lst (vs++ws)) hp
 exact q _ _ _ _ _ st (fS bP ((dn.append dn2).up st.gg)) h
end
end Z
namespace Z
open PySem L2
section
variable {X:Cx}{Γ:Gm}{M:Mem}{k:D→Mem→Prop}{kb:Bool→Mem→Prop}{pos:Pos}{a b c e o:Expr}{es rest:List Expr}
theorem bA (h:GE X e Γ M fun d M1=>∃ c,d = .bl c∧kb c M1) (he:∀ whole,isTrue e X.env whole=(do let v ← whole; standAt e.pos; holding [v] (truthy v)):=by intro _; rfl):GT X e Γ M kb:=fun σ G H Q en rl q=>by
 refine oU (aFU pU he) ?_
 exact h σ G H _ en rl fun v G1 H1 d M1 s1 e1 ⟨c,ed,h1⟩=>by subst ed; exact ⟨c,e1.bl_,q _ _ _ _ s1 h1⟩
inductive Tru (M:Mem):D→Bool→Prop
 | seq {d:D}{t:Bool}{ds:List D} (q:Seq M d t ds):Tru M d (!ds.isEmpty)
 | str (x:Str) (h:x.length≤sizeLine):Tru M (.str x) ((x.length:Int) != 0)
 | bl (b:Bool):Tru M (.bl b) b
 | int (i:Int):Tru M (.int i) (i != 0)
 | non:Tru M .non false
theorem uL {K:Fg}{G:Hp}{ds:List D}{vs:List V} (h:Dens K G ds vs):ds.isEmpty=vs.isEmpty:=by
 cases ds with
 | nil=>rw [cJ h]; rfl
 | cons d ds=>obtain ⟨v,r,rfl,_⟩:=bV h; rfl
theorem lP (h:GE X e Γ M fun d M1=>∃ c,Tru M1 d c∧kb c M1) (he:∀ whole,isTrue e X.env whole=(do let v ← whole; standAt e.pos; holding [v] (truthy v)):=by intro _; rfl):GT X e Γ M kb:=fun σ G H Q en rl q=>by
 refine oU (aCL pU he) ?_
 refine h σ G H _ en rl fun v G1 H1 d M1 s1 e1 ⟨c,tr,h1⟩=>⟨c,?_,q _ _ _ _ s1 h1⟩
 cases tr with
 | seq sq =>
  obtain ⟨a,vs,ev,s,dn⟩:=sq.sq2 s1.rel e1
  subst ev
  rw [uL dn]
  rcases s with s | s
  ·exact .inl ⟨vs,s,rfl⟩
  ·exact .inr (.inl ⟨vs,s,rfl⟩)
 | str x hx=>rw [e1.str_]; exact ⟨hx,rfl⟩
 | bl b=>rw [e1.bl_]; rfl
 | int i=>rw [e1.int_]; rfl
 | non=>rw [e1.non_]; rfl
theorem aZ (h:GT X a Γ M fun c M1=>kb (!c) M1):GT X (.UnaryOp .Not a pos) Γ M kb:=fun σ G H Q en rl q=>by
 refine oU (aF2 pUT) ?_
 exact h σ G H _ en rl fun c G1 H1 M1 s1 h1=>q _ _ _ _ s1 h1
theorem dI (h:GW X e Γ M kb):GT X e Γ M kb:=fun σ G H Q en rl q pins s I=>h σ G H Q en rl q (eval e X.env) pins s I
theorem cT (h:GT X a Γ M kb):GW X (.BoolOp .Or [a] pos) Γ M kb:=fun σ G H Q en rl q=>yM (aFN pUT) (h σ G H _ en rl q)
theorem cH (h:GT X a Γ M fun c M1=>if c=true then kb true M1 else GW X (.BoolOp .Or (b::rest) pos) Γ M1 kb):GW X (.BoolOp .Or (a::b::rest) pos) Γ M kb:=fun σ G H Q en rl q=>by
 refine yM (aH8 pUT pUW) ?_
 refine h σ G H _ en rl fun c G1 H1 M1 s1 h1 => ?_
 cases c with
 | true=>rw [if_pos rfl] at h1 ⊢; exact q _ _ _ _ s1 h1
 | false=>rw [if_neg Bool.false_ne_true] at h1 ⊢; exact h1 σ G1 H1 _ (en.up s1.gg) s1.rel (q.up s1)
theorem iR {op:BoolOp} (h:GE X a Γ M k):GE X (.BoolOp op [a] pos) Γ M k:=fun σ G H Q en rl q=>cC (aFL pU) (h σ G H _ en rl q)
theorem jO (h:GE X a Γ M fun d M1=>∃ c,d = .bl c∧if c=true then GE X (.BoolOp .And (b::rest) pos) Γ M1 k else k (.bl false) M1):GE X (.BoolOp .And (a::b::rest) pos) Γ M k:=fun σ G H Q en rl q=>by
 refine cC (aGO pU pU) ?_
 refine h σ G H _ en rl fun v G1 H1 d M1 s1 e1 ⟨c,ed,h1⟩ => ?_
 subst ed
 refine ⟨c,e1.bl_,?_⟩
 cases c with
 | true=>rw [if_pos rfl] at h1 ⊢; exact h1 σ G1 H1 _ (en.up s1.gg) s1.rel (q.up s1)
 | false=>rw [if_neg Bool.false_ne_true] at h1 ⊢; exact q _ _ _ _ _ s1 dG h1
theorem zP (h:GE X a Γ M fun d M1=>∃ c,d = .bl c∧k (.bl (!c)) M1):GE X (.UnaryOp .Not a pos) Γ M k:=fun σ G H Q en rl q=>by
 refine cC (aGY pU) ?_
 exact h σ G H _ en rl fun v G1 H1 d M1 s1 e1 ⟨c,ed,h1⟩=>by subst ed; exact ⟨c,e1.bl_,q _ _ _ _ _ s1 dG h1⟩
theorem mH (h:GT X c Γ M fun t M1=>if t=true then GE X a Γ M1 k else GE X b Γ M1 k):GE X (.IfExp c a b pos) Γ M k:=fun σ G H Q en rl q=>by
 refine cC (aA9 pUT pU pU) ?_
 refine h σ G H _ en rl fun t G1 H1 M1 s1 h1 => ?_
 cases t with
 | true=>rw [if_pos rfl] at h1 ⊢; exact h1 σ G1 H1 _ (en.up s1.gg) s1.rel (q.up s1)
 | false=>rw [if_neg Bool.false_ne_true] at h1 ⊢; exact h1 σ G1 H1 _ (en.up s1.gg) s1.rel (q.up s1)
variable {ka:List D→Mem→Prop}
theorem aC (h:ka [] M):GA X [] Γ M ka:=fun σ G H Q en rl q=>yE aA0 (q _ _ _ _ _ (Stp.refl rl) cP h)
theorem aA (h:GE X e Γ M fun d M1=>GA X es Γ M1 fun ds M2=>ka (d::ds) M2) (hs:starEach (e::es) X.env=(false,eval e X.env)::starEach es X.env:=by rfl):GA X (e::es) Γ M ka:=fun σ G H Q en rl q=>by
 refine yE (pR pU pUA hs) ?_
 refine h σ G H _ en rl fun v G1 H1 d M1 s1 e1 h1 => ?_
 exact h1 σ G1 H1 _ (en.up s1.gg) s1.rel fun vs G2 H2 ds M2 s2 e2 h2=>q _ _ _ _ _ (s1.trans s2) (cF (e1.up s2.gg) e2) h2
theorem bT {x1} (h:GA X es Γ M fun ds M1=>ds.length≤sizeLine∧k (.tup ds) M1):GE X (.Tuple es x1 pos) Γ M k:=fun σ G H Q en rl q=>by
 refine cC (aGJ pUA) ?_
 refine h σ G H _ en rl fun vs G1 H1 ds M1 s1 e1 ⟨hl,h1⟩=>⟨by rw [← e1.len]; exact hl,fun p hp => ?_⟩
 have st:=s1.rel.new (o := .tup vs) hp
 exact q _ _ _ _ _ (s1.trans st) (jH (SqT.of bP) (e1.up st.gg)) h1
theorem fI (h:GA X es Γ M fun ds M1=>ds.length≤sizeLine∧k (.lst ds) M1):GE X (.List es pos) Γ M k:=fun σ G H Q en rl q=>by
 refine cC (aAF pUA) ?_
 refine h σ G H _ en rl fun vs G1 H1 ds M1 s1 e1 ⟨hl,h1⟩=>⟨by rw [← e1.len]; exact hl,fun p hp => ?_⟩
 have st:=s1.rel.new (o := .lst vs) hp
 exact q _ _ _ _ _ (s1.trans st) (fS bP (e1.up st.gg)) h1
theorem p0 (h:GA X es Γ M fun ds M1=>ds.length≤sizeLine∧∀ a,M1 a=none→k (.mt a) (eY M1 a (.lst ds))):GE X (.List es pos) Γ M k:=fun σ G H Q en rl q=>by
 refine cC (aAF pUA) ?_
 refine h σ G H _ en rl fun vs G1 H1 ds M1 s1 e1 ⟨hl,h1⟩=>⟨by rw [← e1.len]; exact hl,fun p hp => ?_⟩
 exact q _ _ _ _ _ (s1.trans (s1.rel.newM hp e1)) yX (h1 p (s1.rel.free hp).2)
abbrev Ct:=List D→Mem→(D→Mem→Prop)→Prop
def spZ (K:Fg) (F:Ct):Sp:=fun vs H Q _=>∃ G M ds k,Rel K G H M∧Dens K G ds vs∧F ds M k∧Cont K M k G H Q
theorem aE3 {n:Nat}{f:Addr}{fd:FuncData}{ps:List Str}{x:Str}{p:Pos}{F:Ct} (Fk:FnOk X.prog X.w X.K X.mg X.base CX0 n f fd ps (spZ X.K F)) (hr:Room n X.A) (hm:X.mg x=some (.ref f)) (hk:PySem.W.keepIn X.K (.ref f)=true) (hb:Binds X.K fd ps [])
  (h:GA X (e::es) Γ M fun ds M1=>F ds M1 k) (hg:Gl X x:=by rfl) (hdb:(x == ("__debug__" : Str))=false:=by decide) (he:starEach (e::es) X.env=(false,eval e X.env)::starEach es X.env:=by rfl) (hpl:(backTo pos (starEach es X.env)).any (·.1)=false:=by rfl) :
  GE X (.Call (.Name x p) (e::es) [] pos) Γ M k:=fun σ G H Q en rl q=>by
 refine cC (aFA Fk hr hg hm hk hb .nil pass0 pUA hdb he hpl) ?_
 refine h σ G H _ en rl fun vs G1 H1 ds M1 s1 e1 h1 => ?_
 show spZ X.K F (vs++[]) H1 Q E0
 rw [List.append_nil]
 exact ⟨G1,M1,ds,k,s1.rel,e1,h1,q.up s1⟩
def OpN (K:Fg) (r:List V→Hp→VK→Prop) (ds:List D) (M:Mem) (k:D→Mem→Prop):Prop:=∀ G H vs Q,Rel K G H M→Dens K G ds vs→Cont K M k G H Q→r vs H Q
theorem aR {x:Str}{p:Pos}{id:String}{r:List V→Hp→VK→Prop} (hc:eO X (.builtin id) r) (hm:X.mg x=none) (hv:bootBuiltins x=some (.builtin id))
  (h:GA X (e::es) Γ M fun ds M1=>OpN X.K r ds M1 k) (hg:Gl X x:=by rfl) (hn:x ≠ "__name__" := by decide) (hdb:(x == ("__debug__" : Str))=false:=by decide)
  (he:starEach (e::es) X.env=(false,eval e X.env)::starEach es X.env:=by rfl) (hpl:(backTo pos (starEach es X.env)).any (·.1)=false:=by rfl):GE X (.Call (.Name x p) (e::es) [] pos) Γ M k:=fun σ G H Q en rl q=>by
 refine cC (r9 hc hg hm hv pUA hn hdb he hpl) ?_
 exact h σ G H _ en rl fun vs G1 H1 ds M1 s1 e1 h1=>h1 G1 H1 vs Q s1.rel e1 (q.up s1)
theorem aT {x:Str}{p:Pos}{T:String}{r:List V→Hp→VK→Prop} (hc:eO X (.type T) r) (hm:X.mg x=none) (hv:bootBuiltins x=some (.type T))
  (h:GA X (e::es) Γ M fun ds M1=>OpN X.K r ds M1 k) (hg:Gl X x:=by rfl) (hn:x ≠ "__name__" := by decide) (hdb:(x == ("__debug__" : Str))=false:=by decide)
  (he:starEach (e::es) X.env=(false,eval e X.env)::starEach es X.env:=by rfl) (hpl:(backTo pos (starEach es X.env)).any (·.1)=false:=by rfl):GE X (.Call (.Name x p) (e::es) [] pos) Γ M k:=fun σ G H Q en rl q=>by
 refine cC (yY hc hg hm hv pUA hn hdb he hpl) ?_
 exact h σ G H _ en rl fun vs G1 H1 ds M1 s1 e1 h1=>h1 G1 H1 vs Q s1.rel e1 (q.up s1)
theorem dens1 {K:Fg}{G:Hp}{d:D}{vs:List V} (h:Dens K G [d] vs):∃ v,vs=[v]∧Den K G d v:=by
 obtain ⟨v,r,rfl,h1,h2⟩:=bV h
 rw [cJ h2]; exact ⟨v,rfl,h1⟩
theorem dens2 {K:Fg}{G:Hp}{d c:D}{vs:List V} (h:Dens K G [d,c] vs):∃ v u,vs=[v,u]∧Den K G d v∧Den K G c u:=by
 obtain ⟨v,r,rfl,h1,h2⟩:=bV h
 obtain ⟨u,rfl,h3⟩:=dens1 h2
 exact ⟨v,u,rfl,h1,h3⟩
theorem cX {K:Fg}{d:D}{t:Bool}{ds:List D} (q1:Seq M d t ds) (h:k (.int (ds.length:Int)) M):OpN K (fun xs H Q=>∃ x n,xs=[x]∧aB0 K x H n∧Q (.int n) H) [d] M k:=fun G H vs Q rl e q=>by
 obtain ⟨v,rfl,dv⟩:=dens1 e
 obtain ⟨a,ws,ev,s,dn⟩:=q1.sq2 rl dv
 subst ev
 refine ⟨_,ds.length,rfl,?_,q _ _ _ _ _ (Stp.refl rl) cS h⟩
 rcases s with s | s
 ·exact .inl ⟨ws,s,dn.len⟩
 ·exact .inr ⟨ws,s,dn.len⟩
theorem jB {K:Fg}{x:Str} (hz:x.length≤sizeLine) (h:k (.int (x.length:Int)) M):OpN K (fun xs H Q=>∃ x n,xs=[x]∧aB0 K x H n∧Q (.int n) H) [.str x] M k:=fun G H vs Q rl e q=>by
 obtain ⟨v,rfl,dv⟩:=dens1 e
 rw [dv.str_]
 exact ⟨_,x.length,rfl,⟨hz,rfl⟩,q _ _ _ _ _ (Stp.refl rl) cS h⟩
theorem sG {K:Fg}{i:Int} (h:k (.int (if i < 0 then -i else i)) M):OpN K (fun xs H Q=>∃ i,xs=[.int i]∧Q (.int (if i < 0 then -i else i)) H) [.int i] M k:=fun G H vs Q rl e q=>by
 obtain ⟨v,rfl,dv⟩:=dens1 e
 rw [dv.int_]
 exact ⟨i,rfl,q _ _ _ _ _ (Stp.refl rl) cS h⟩
theorem aDD {K:Fg}{c:Bool} (h:k (.int (if c then 1 else 0)) M):OpN K (fun xs H Q=>(∃ i,xs=[.int i]∧Q (.int i) H)∨∃ k,xs=[.bl k]∧Q (.int (if k then 1 else 0)) H) [.bl c] M k:=fun G H vs Q rl e q=>by
 obtain ⟨v,rfl,dv⟩:=dens1 e
 rw [dv.bl_]
 exact .inr ⟨c,rfl,q _ _ _ _ _ (Stp.refl rl) cS h⟩
theorem mK {K:Fg}{i j:Int} (h:k (.int (if j > i then j else i)) M):OpN K (fun xs H Q=>∃ i j,xs=[.int i, .int j]∧Q (.int (if j > i then j else i)) H) [.int i, .int j] M k:=fun G H vs Q rl e q=>by
 obtain ⟨v,u,rfl,dv,du⟩:=dens2 e
 rw [dv.int_,du.int_]
 exact ⟨i,j,rfl,q _ _ _ _ _ (Stp.refl rl) cS h⟩
theorem aFK {K:Fg}{i j:Int} (h:k (.int (if j < i then j else i)) M):OpN K (fun xs H Q=>∃ i j,xs=[.int i, .int j]∧Q (.int (if j < i then j else i)) H) [.int i, .int j] M k:=fun G H vs Q rl e q=>by
 obtain ⟨v,u,rfl,dv,du⟩:=dens2 e
 rw [dv.int_,du.int_]
 exact ⟨i,j,rfl,q _ _ _ _ _ (Stp.refl rl) cS h⟩
theorem jD {K:Fg}{d:D}{t:Bool}{ds:List D} (q1:Seq M d t ds) (h:k (.lst ds) M):OpN K (fun xs H Q=>∃ p ys,xs=[.ref p]∧(SqL K H p ys∨SqT K H p ys)∧∀ l,H l=none→Q (.ref l) (upd H l (.lst ys))) [d] M k:=fun G H vs Q rl e q=>by
 obtain ⟨v,rfl,dv⟩:=dens1 e
 obtain ⟨a,ws,ev,s,dn⟩:=q1.sq2 rl dv
 subst ev
 refine ⟨a,ws,rfl,s,fun l hl => ?_⟩
 have st:=rl.new (o := .lst ws) hl
 exact q _ _ _ _ _ st (fS bP (dn.up st.gg)) h
theorem cL {K:Fg}{d:D}{t:Bool}{ds:List D} (q1:Seq M d t ds) (h:k (.tup ds) M):OpN K (fun xs H Q=>∃ p ys,xs=[.ref p]∧((SqL K H p ys∧∀ l,H l=none→Q (.ref l) (upd H l (.tup ys)))∨(SqT K H p ys∧Q (.ref p) H))) [d] M k:=fun G H vs Q rl e q=>by
 obtain ⟨v,rfl,dv⟩:=dens1 e
 cases q1 with
 | tup ds =>
  obtain ⟨a,ws,ev,s,dn⟩:=dv.tup_
  subst ev
  exact ⟨a,ws,rfl, .inr ⟨R.iW rl.same s,q _ _ _ _ _ (Stp.refl rl) dv h⟩⟩
 | lst ds =>
  obtain ⟨a,ws,ev,s,dn⟩:=(Seq.lst ds).sq rl dv
  subst ev
  refine ⟨a,ws,rfl, .inl ⟨s,fun l hl => ?_⟩⟩
  have st:=rl.new (o := .tup ws) hl
  exact q _ _ _ _ _ st (jH (SqT.of bP) (dn.up st.gg)) h
 | fl ds =>
  obtain ⟨a,ws,ev,s,dn⟩:=(Seq.fl ds).sq rl dv
  subst ev
  refine ⟨a,ws,rfl, .inl ⟨s,fun l hl => ?_⟩⟩
  have st:=rl.new (o := .tup ws) hl
  exact q _ _ _ _ _ st (jH (SqT.of bP) (dn.up st.gg)) h
 | mt hm =>
  obtain ⟨a,ws,ev,s,dn⟩:=(Seq.mt hm).sq rl dv
  subst ev
  refine ⟨a,ws,rfl, .inl ⟨s,fun l hl => ?_⟩⟩
  have st:=rl.new (o := .tup ws) hl
  exact q _ _ _ _ _ st (jH (SqT.of bP) (dn.up st.gg)) h
theorem vG {K:Fg}{G:Hp}:∀ {bs:List Bool}{vs:List V},Dens K G (bs.map D.bl) vs→vs=bs.map V.bl
 | [],_,h=>cJ h
 | b::bs,_,h=>by
  obtain ⟨v,r,rfl,h1,h2⟩:=bV h
  rw [h1.bl_,vG h2]; rfl
theorem k7 {K:Fg}{G:Hp}:∀ {bs:List Str}{vs:List V},Dens K G (bs.map D.str) vs→vs=bs.map V.str
 | [],_,h=>cJ h
 | b::bs,_,h=>by
  obtain ⟨v,r,rfl,h1,h2⟩:=bV h
  rw [h1.str_,k7 h2]; rfl
theorem iN {K:Fg}{d:D}{t:Bool}{bs:List Bool}{g:List Bool→Bool} (q1:Seq M d t (bs.map D.bl)) (h:k (.bl (g bs)) M):OpN K (rAll K g) [d] M k:=fun G H vs Q rl e q=>by
 obtain ⟨v,rfl,dv⟩:=dens1 e
 obtain ⟨a,ws,ev,s,dn⟩:=q1.sq2 rl dv
 subst ev
 rw [vG dn] at s
 exact ⟨a,bs,rfl,s,q _ _ _ _ _ (Stp.refl rl) dG h⟩
def TyD (T:String) (d:D) (M:Mem):Prop:=match d with
 | .str _=>T = "str"
 | .lst _=>T = "list"
 | .mt a=>T = "list" ∧ ∃ ds,M a=some (.lst ds)
 | _=>False
theorem TyD.ok {K:Fg}{G H:Hp}{T:String}{d:D}{v:V} (h:TyD T d M) (rl:Rel K G H M) (e:Den K G d v):tyV K T v H:=by
 cases d with
 | str x=>rw [e.str_]; exact h
 | lst ds=>obtain ⟨a,vs,ev,s,_⟩:=e.lst_; rw [ev]; exact .inl ⟨h,vs,SqL.of (rl.same _ _ s)⟩
 | mt a =>
  obtain ⟨h1,ds,h2⟩:=h
  obtain ⟨_,vs,s,_⟩:=rl.mem _ _ h2
  rw [e.mt_]; exact .inl ⟨h1,vs,SqL.of s⟩
 | _=>exact False.elim h
def OpM (K:Fg) (r:V→List V→Hp→VK→Prop) (d:D) (ds:List D) (M:Mem) (k:D→Mem→Prop):Prop:=∀ G H v vs Q,Rel K G H M→Den K G d v→Dens K G ds vs→Cont K M k G H Q→r v vs H Q
theorem fJ {T id:String}{name:Str}{apos cpos:Pos}{r:V→List V→Hp→VK→Prop} (pa:PlainAttrs T) (slot:Slot T name id) (hty:typeOf (.builtin id)=pure (.type "method_descriptor")) (hm:MtR X id r)
  (h:GE X o Γ M fun d M1=>TyD T d M1∧GA X (e::es) Γ M1 fun ds M2=>OpM X.K r d ds M2 k)
  (hbase:attributeBase o name X.env (eval o X.env)=eval o X.env:=by rfl)
  (hfew:((backTo cpos (starEach (e::es) X.env)).all (fun x => !x.1) && (backToKw cpos (keywordEach [] X.env)).all (fun x=>x.1.isSome)
   && decide ((e::es).length+([]:List Keyword).length+(if ([]:List Keyword).isEmpty then 0 else 1) < 30))=true:=by rfl)
  (hline:(apos.endLine == cpos.line)=true:=by rfl) (hs:starEach (e::es) X.env=(false,eval e X.env)::starEach es X.env:=by rfl) (hplain:(backTo cpos (starEach es X.env)).any (·.1)=false:=by rfl) :
  GE X (.Call (.Attribute o name apos) (e::es) [] cpos) Γ M k:=fun σ G H Q en rl q=>by
 refine cC (aH2 pa slot hty hm pU pUA hbase hfew hline hs hplain) ?_
 refine h σ G H _ en rl fun v G1 H1 d M1 s1 e1 ⟨ty,h1⟩=>⟨ty.ok s1.rel e1,?_⟩
 exact h1 σ G1 H1 _ (en.up s1.gg) s1.rel fun vs G2 H2 ds M2 s2 e2 h2=>h2 G2 H2 v vs Q s2.rel (e1.up s2.gg) e2 (q.up (s1.trans s2))
theorem qO {K:Fg}{a:Addr}{ds:List D}{d:D} (hm:M a=some (.lst ds)) (hl:ds.length < sizeLine) (h:k .non (eY M a (.lst (ds++[d])))):OpM K wC (.mt a) [d] M k:=fun G H v vs Q rl e e2 q=>by
 obtain ⟨u,rfl,du⟩:=dens1 e2
 obtain ⟨_,ws,s,dn⟩:=rl.mem _ _ hm
 exact ⟨a,ws,u,e.mt_,rfl,s,by rw [← dn.len]; exact hl,q _ _ _ _ _ (rl.wr hm (dn.append (cF du cP))) wU h⟩
theorem kP {K:Fg}{sep:Str}{d:D}{t:Bool}{ys:List Str} (q1:Seq M d t (ys.map D.str)) (h1:sep.length≤16) (h2:(ys.map (·.length)).sum+ys.length≤1048576) (h:k (.str (PySem.Txt.join sep ys)) M):OpM K (rJoin K) (.str sep) [d] M k:=fun G H v vs Q rl e e2 q=>by
 obtain ⟨u,rfl,du⟩:=dens1 e2
 obtain ⟨a,ws,ev,s,dn⟩:=q1.sq2 rl du
 subst ev
 rw [k7 dn] at s
 exact ⟨sep,a,ys,e.str_,rfl,s,h1,h2,q _ _ _ _ _ (Stp.refl rl) dA h⟩
end
end Z
namespace Z
open PySem L2
section
variable {X:Cx}{Γ:Gm}{M:Mem}{k:D→Mem→Prop}{kb:Bool→Mem→Prop}{pos:Pos}{a b c e o:Expr}{es rest:List Expr}{lo hi:Option Expr}{ko:Option Int→Mem→Prop}
def tUO (X:Cx) (e:Option Expr):TO:=fun σ H Q=>∀ pins s,Inv X pins σ H s→wpAny (model X.prog X.w) X.A (evalPart e X.env) (fun u s'=>∃ o H',Inv X pins σ H' s'∧IsPart u o∧Q o H') X.xe s
theorem pUO {e:Option Expr}:PO X e (tUO X e):=fun pins s σ H Q I h=>h pins s I
theorem aAT {e:Option Expr}{t:TO} (p:PO X e t) {σ:St}{H:Hp}{Q:Option Int→Hp→Prop} (h:t σ H Q):tUO X e σ H Q:=fun pins s I=>p pins s σ H Q I h
def GO (X:Cx) (e:Option Expr) (Γ:Gm) (M:Mem) (ko:Option Int→Mem→Prop):Prop :=
 ∀ σ G H Q,EnvR X.K G Γ σ→Rel X.K G H M→(∀ o G' H' M',Stp X.K G H M G' H' M'→ko o M'→Q o H')→tUO X e σ H Q
theorem fM (h:ko none M):GO X none Γ M ko:=fun σ G H Q en rl q=>aAT aDJ (q _ _ _ _ (Stp.refl rl) h)
theorem eB (h:GE X e Γ M fun d M1=>∃ i,d = .int i∧ko (some i) M1):GO X (some e) Γ M ko:=fun σ G H Q en rl q=>aAT (aFB pU) (h σ G H _ en rl fun v G1 H1 d M1 s1 e1 ⟨i,ed,h1⟩=>by subst ed; exact ⟨i,e1.int_,q _ _ _ _ s1 h1⟩)
abbrev R3:=V→Option Int→Option Int→Hp→VK→Prop
def Op3 (K:Fg) (r:R3) (d:D) (l u:Option Int) (M:Mem) (k:D→Mem→Prop):Prop:=∀ G H v Q,Rel K G H M→Den K G d v→Cont K M k G H Q→r v l u H Q
theorem d8 {r:R3}{p2:Pos} (hr:SlR X r) (h:GE X e Γ M fun d M1=>GO X lo Γ M1 fun l M2=>GO X hi Γ M2 fun u M3=>Op3 X.K r d l u M3 k):GE X (.Subscript e (.Slice lo hi none p2) pos) Γ M k:=fun σ G H Q en rl q=>by
 refine cC (aCO hr pU pUO pUO) ?_
 refine h σ G H _ en rl fun v G1 H1 d M1 s1 e1 h1 => ?_
 refine h1 σ G1 H1 _ (en.up s1.gg) s1.rel fun l G2 H2 M2 s2 h2 => ?_
 refine h2 σ G2 H2 _ (en.up (s1.trans s2).gg) s2.rel fun u G3 H3 M3 s3 h3 => ?_
 exact h3 G3 H3 v Q s3.rel (e1.up (s2.trans s3).gg) (q.up ((s1.trans s2).trans s3))
def cutD {α:Type} (xs:List α) (lo hi:Option Int):List α:=(xs.drop (HT.sIx xs.length 0 lo)).take (HT.sIx xs.length xs.length hi - HT.sIx xs.length 0 lo)
theorem Dens.cut {K:Fg}{G:Hp}{ds:List D}{vs:List V} (h:Dens K G ds vs) (l u:Option Int):Dens K G (cutD ds l u) (oO vs l u):=by
 unfold cutD oO
 rw [← h.len]
 exact (h.drop _).take _
theorem aF6 {K:Fg}{z:Str}{l u:Option Int} (hz:z.length≤sizeLine) (h:k (.str (oK z l u)) M):Op3 K rSlS (.str z) l u M k:=fun G H v Q rl e q=>⟨z,e.str_,hz,q _ _ _ _ _ (Stp.refl rl) dA h⟩
theorem gX {K:Fg}{d:D}{ds:List D}{l u:Option Int} (q1:Seq M d true ds) (h:k (.lst (cutD ds l u)) M):Op3 K (rSlL K) d l u M k:=fun G H v Q rl e q=>by
 obtain ⟨a,vs,ev,s,dn⟩:=q1.sq rl e
 refine ⟨a,vs,ev,s,fun p hp => ?_⟩
 have st:=rl.new (o := .lst (oO vs l u)) hp
 exact q _ _ _ _ _ st (fS bP ((dn.cut l u).up st.gg)) h
structure YD (K:Fg) (J:It) (ds:List D) (G0:Hp):Prop where
 go:∀ i G H M,Same G0 G→Rel K G H M→i < ds.length→J.go i H
 yld:∀ i G H M x H',Same G0 G→Rel K G H M→i < ds.length→J.yld i H x H'→∃ G' d,Stp K G H M G' H' M∧ds[i]?=some d∧Den K G' d x
 stop:∀ i G H M,Same G0 G→Rel K G H M→i=ds.length→J.stop i H
theorem vN {K:Fg}{a:Addr}{vs:List V}{ds:List D}{G0:Hp} (s:SqL K G0 a vs) (dn:Dens K G0 ds vs):YD K (Itl K a) ds G0 where
 go:=fun i G H M sg rl h=>p6.go i H (rl.same.seq (sg.seq s)) (by rw [← dn.len]; exact h)
 yld:=fun i G H M x H' sg rl h y=>by
  obtain ⟨e,hx⟩:=p6.yld i H x H' (rl.same.seq (sg.seq s)) y (by rw [← dn.len]; exact h)
  subst e
  obtain ⟨d,hd,e⟩:=dn.get' hx
  exact ⟨G,d,Stp.refl rl,hd,e.up sg⟩
 stop:=fun i G H M sg rl h=>p6.stop i H (rl.same.seq (sg.seq s)) (by rw [← dn.len]; exact Nat.le_of_eq h.symm)
theorem aG1 {K:Fg}{a:Addr}{vs:List V}{ds:List D}{G0:Hp} (s:SqT K G0 a vs) (dn:Dens K G0 ds vs):YD K (Itt K a) ds G0 where
 go:=fun i G H M sg rl h=>sC.go i H (R.iW rl.same (R.iW sg s)) (by rw [← dn.len]; exact h)
 yld:=fun i G H M x H' sg rl h y=>by
  obtain ⟨e,hx⟩:=sC.yld i H x H' (R.iW rl.same (R.iW sg s)) y (by rw [← dn.len]; exact h)
  subst e
  obtain ⟨d,hd,e⟩:=dn.get' hx
  exact ⟨G,d,Stp.refl rl,hd,e.up sg⟩
 stop:=fun i G H M sg rl h=>sC.stop i H (R.iW rl.same (R.iW sg s)) (by rw [← dn.len]; exact Nat.le_of_eq h.symm)
def kF (lo:Int) (n:Nat):List D:=(List.range n).map fun i=>D.int (lo+(i:Nat))
theorem bS (lo:Int) (n:Nat):(kF lo n).length=n:=by simp [kF]
theorem dB {lo:Int}{n i:Nat}{d:D} (h:(kF lo n)[i]?=some d):i < n∧d = .int (lo+(i:Nat)):=by
 have hi:i < n:=by rw [← bS lo n]; exact (List.getElem?_eq_some_iff.mp h).1
 simp [kF,hi] at h
 exact ⟨hi,h.symm⟩
theorem aAY {K:Fg}{lo:Int}{n:Nat}{G0:Hp}:YD K (Itr lo n) (kF lo n) G0 where
 go:=fun i G H M sg rl h=>by rw [bS] at h; exact h
 yld:=fun i G H M x H' sg rl h y=>by
  obtain ⟨e,hx⟩:=y
  subst e hx
  rw [bS] at h
  exact ⟨G,_,Stp.refl rl,by simp [kF,h],cS⟩
 stop:=fun i G H M sg rl h=>by rw [bS] at h; exact Nat.le_of_eq h.symm
def p7 (x:Str):List D:=x.cps.toList.map fun c=>D.str ⟨#[c]⟩
theorem jQ (x:Str):(p7 x).length=x.length:=by simp [p7,Str.length]
theorem aFQ {K:Fg}{x:Str}{G0:Hp}:YD K (Its x) (p7 x) G0 where
 go:=fun i G H M sg rl h=>by rw [jQ] at h; exact h
 yld:=fun i G H M v H' sg rl h y=>by
  obtain ⟨e,c,hc,ev⟩:=y
  subst e ev
  exact ⟨G, .str ⟨#[c]⟩,Stp.refl rl,by simp only [p7,List.getElem?_map,Array.getElem?_toList,hc,Option.map_some],dA⟩
 stop:=fun i G H M sg rl h=>by rw [jQ] at h; exact Nat.le_of_eq h.symm
variable {tg iter:Expr}{ki:List D→Mem→Prop}
def GI (X:Cx) (tg iter:Expr) (Γ:Gm) (M:Mem) (ki:List D→Mem→Prop):Prop :=
 ∀ σ G H R,EnvR X.K G Γ σ→Rel X.K G H M→(∀ J G' H' ds M',Stp X.K G H M G' H' M'→YD X.K J ds G'→ki ds M'→R J H')→tUI X tg iter σ H R
def iAny (K:Fg) (tl:TE):TI:=fun σ H R=>tl σ H fun x H1=>∃ a,x = .ref a∧(((∃ xs,SqL K H1 a xs)∧R (Itl K a) H1)∨((∃ xs,SqT K H1 a xs)∧R (Itt K a) H1))
theorem aF3 {l:Expr}{tl:TE} (hl:PE X l tl):PI X tg l (iAny X.K tl):=by
 intro pins s σ H R I h
 refine thn (hl pins s σ H _ I h) fun v s1 ⟨x,H1,I1,r1,q1⟩ => ?_
 obtain ⟨a,e,q⟩:=q1
 subst e
 cases r1
 have fp:∀ b∈[s1.heap.objs.size],kZ X pins H1 b:=fun b hb=>by
  have e:b=s1.heap.objs.size:=by simpa using hb
  subst e
  exact I1.fpOk (Nat.le_refl _) (I1.hok.fresh (Nat.le_refl _))
 rcases q with ⟨⟨xs,hq⟩,q⟩ | ⟨⟨xs,hq⟩,q⟩
 ·obtain ⟨its,r',pl,hz⟩:=I1.list hq
  refine wpAny_pyIter_list pl.isList ?_
  exact ⟨s1.heap.objs.size,[s1.heap.objs.size],_,Itl X.K a,H1,rfl,I1.kept (t':=s1.toks) fun b o e=>Heap.get?_push_of_some _ e,aAV a _,⟨_,Heap.get?_push_size _ rfl,rfl,rfl⟩,fp,q⟩
 ·obtain ⟨its,r',pl,hz⟩:=I1.tuple hq
  refine wpAny_pyIter_tuple pl ?_
  exact ⟨s1.heap.objs.size,[s1.heap.objs.size],_,Itt X.K a,H1,rfl,I1.kept (t':=s1.toks) fun b o e=>Heap.get?_push_of_some _ e,xK a _,⟨_,Heap.get?_push_size _ rfl,rfl,rfl⟩,fp,q⟩
theorem bL (h:GE X iter Γ M fun d M1=>∃ ds,(d = .tup ds∨d = .lst ds∨d = .fl ds)∧ki ds M1):GI X tg iter Γ M ki:=fun σ G H Rr en rl q=>by
 refine oS (aF3 pU) ?_
 refine h σ G H _ en rl fun v G1 H1 d M1 s1 e1 ⟨ds,ed,h1⟩ => ?_
 rcases ed with rfl | rfl | rfl
 ·obtain ⟨a,vs,ev,s,dn⟩:=e1.tup_
  exact ⟨a,ev, .inr ⟨⟨vs,R.iW s1.rel.same s⟩,q _ _ _ _ _ s1 (aG1 s dn) h1⟩⟩
 ·obtain ⟨a,vs,ev,s,dn⟩:=e1.lst_
  exact ⟨a,ev, .inl ⟨⟨vs,SqL.of (s1.rel.same _ _ s)⟩,q _ _ _ _ _ s1 (vN (SqL.of s) dn) h1⟩⟩
 ·obtain ⟨a,vs,ev,s,dn⟩:=e1.fl_
  exact ⟨a,ev, .inl ⟨⟨vs,s1.rel.same.seq s⟩,q _ _ _ _ _ s1 (vN s dn) h1⟩⟩
theorem gP {p:Pos} (hm:X.mg "range" = none) (h:GA X [a] Γ M fun ds M1=>∃ j:Int,ds=[.int j] ∧ -(2 ^ 62)≤j∧j < 2 ^ 62∧ki (kF 0 j.toNat) M1) (hg:Gl X "range" := by rfl) (hs:starEach [a] X.env=[(false,eval a X.env)]:=by rfl):GI X tg (.Call (.Name "range" p) [a] [] pos) Γ M ki:=fun σ G H R en rl q=>by
 refine oS (zA hg hm pUA hs) ?_
 refine h σ G H _ en rl fun vs G1 H1 ds M1 s1 e1 ⟨j,ed,h1,h2,h3⟩ => ?_
 subst ed
 obtain ⟨v,rfl,dv⟩:=dens1 e1
 rw [dv.int_]
 exact ⟨j,rfl,h1,h2,q _ _ _ _ _ s1 aAY h3⟩
theorem wP {p:Pos} (hm:X.mg "range" = none) (h:GA X [a,b] Γ M fun ds M1=>∃ i j:Int,ds=[.int i, .int j]∧(-(2 ^ 62)≤i∧i < 2 ^ 62 ∧ -(2 ^ 62)≤j∧j < 2 ^ 62)∧ki (kF i (j - i).toNat) M1) (hg:Gl X "range" := by rfl)
  (hs:starEach [a,b] X.env=[(false,eval a X.env),(false,eval b X.env)]:=by rfl) (hs2:starEach [b] X.env=[(false,eval b X.env)]:=by rfl):GI X tg (.Call (.Name "range" p) [a,b] [] pos) Γ M ki:=fun σ G H R en rl q=>by
 refine oS (yQ hg hm pUA hs hs2) ?_
 refine h σ G H _ en rl fun vs G1 H1 ds M1 s1 e1 ⟨i,j,ed,h1,h3⟩ => ?_
 subst ed
 obtain ⟨v,u,rfl,dv,du⟩:=dens2 e1
 rw [dv.int_,du.int_]
 exact ⟨i,j,rfl,h1,q _ _ _ _ _ s1 aAY h3⟩
theorem aA1 (h:GE X iter Γ M fun d M1=>∃ x,d = .str x∧ki (p7 x) M1):GI X tg iter Γ M ki:=fun σ G H R en rl q=>by
 refine oS (aF1 pU) ?_
 exact h σ G H _ en rl fun v G1 H1 d M1 s1 e1 ⟨x,ed,h1⟩=>by subst ed; exact ⟨x,e1.str_,q _ _ _ _ _ s1 aFQ h1⟩
end
section
variable {K:Fg}{G H:Hp}{M:Mem}{Γ:Gm}{σ:St}
theorem join_some {α:Type}{o:Option (Option α)}{x:α} (h:o.join=some x):o=some (some x):=by
 cases o with
 | none=>cases h
 | some y=>cases y with
  | none=>cases h
  | some z=>cases h; rfl
theorem EnvR.cap (h:EnvR K G Γ σ) {d:D}{v:V} (e:Den K G d v) (cap:List Nat):EnvR K G (some d::cap.map fun k=>(Γ[k]?).join) (some v::cap.map fun k=>(σ[k]?).join):=by
 refine ⟨by simp,fun i c q => ?_⟩
 cases i with
 | zero=>simp at q; subst q; exact ⟨v,rfl,e⟩
 | succ i =>
  rw [List.getElem?_cons_succ,List.getElem?_map] at q ⊢
  cases hc:cap[i]? with
  | none=>rw [hc] at q; cases q
  | some j =>
   rw [hc,Option.map_some] at q
   have q':(Γ[j]?).join=some c:=by injection q
   obtain ⟨u,a,b⟩:=h.get j c (join_some q')
   exact ⟨u,by rw [Option.map_some,a]; rfl,b⟩
theorem Stp.aside {G0 H0:Hp}{M0:Mem}{p:Addr}{o:HO} (s:Stp K G0 H0 M0 G H M) (h0:H0 p=none) (hg:G p=none) (hm:M p=none):Stp K G0 H0 M0 G (upd H p o) M:=by
 refine ⟨s.gg,⟨fun b u e => ?_,fun a m e => ?_⟩,fun a u e1 e2 e3 => ?_⟩
 ·rw [bB (bX e hg)]; exact s.rel.same b u e
 ·have z:a≠p:=fun z=>by rw [z,hm] at e; cases e
  exact ⟨(s.rel.mem a m e).1,(s.rel.mem a m e).2.mv (Same.refl G) (bB z)⟩
 ·obtain ⟨x,y,z⟩:=s.fr a u e1 e2 e3
  exact ⟨by rw [bB (bX e1 h0)]; exact x,y,z⟩
theorem Stp.track {G0 H0:Hp}{M0:Mem}{p:Addr}{vs:List V}{ds:List D} (s:Stp K G0 H0 M0 G H M) (h0:H0 p=none) (hg:G p=none) (hp:H p=some (.lst vs)) (dn:Dens K G ds vs):Stp K G0 H0 M0 G H (eY M p (.lst ds)):=by
 refine ⟨s.gg,⟨s.rel.same,fun a m e => ?_⟩,fun a u e1 e2 e3 => ?_⟩
 ·by_cases z:a=p
  ·subst z
   rw [bN] at e; cases e
   exact ⟨hg,vs,hp,dn⟩
  ·rw [dN z] at e; exact s.rel.mem a m e
 ·obtain ⟨x,y,z⟩:=s.fr a u e1 e2 e3
  exact ⟨x,y,by rw [dN (bX e1 h0)]; exact z⟩
end
def aCA (Y:Cx) (ifs:List Expr):TT:=fun σ H Q=>∀ pins s,Inv Y pins σ H s →
  wpAny (model Y.prog Y.w) Y.A (forIn ifs true fun c r=>if r=true then do let ok ← isTrue c Y.env (eval c Y.env); pure (ForInStep.yield ok) else pure (ForInStep.yield r)) (TP Y pins σ Q) Y.xe s
def GIf (Y:Cx) (ifs:List Expr) (Γ:Gm) (M:Mem) (kb:Bool→Mem→Prop):Prop :=
 ∀ σ G H Q,EnvR Y.K G Γ σ→Rel Y.K G H M→nQ Y.K M kb G H Q→aCA Y ifs σ H Q
theorem aX {Y:Cx}{Γ:Gm}{M:Mem}{kb:Bool→Mem→Prop} (h:kb true M):GIf Y [] Γ M kb:=fun σ G H Q en rl q pins s I=>aDX pins s σ H Q I (q _ _ _ _ (Stp.refl rl) h)
theorem vU {Y:Cx}{c:Expr}{Γ:Gm}{M:Mem}{kb:Bool→Mem→Prop} (h:GT Y c Γ M kb):GIf Y [c] Γ M kb:=fun σ G H Q en rl q pins s I=>aFI pUT pins s σ H Q I (h σ G H Q en rl q)
def Comp (X:Cx) (x:Str) (ns:List Str) (cap:List Nat) (elt:Expr) (ifs:List Expr) (scope:Scope) (Γ:Gm) (k:D→Mem→Prop) (ds:List D) (M1:Mem):Prop :=
 ds.length≤sizeLine∧∃ I:Nat→List D→Mem→Prop,I 0 [] M1 ∧
  (∀ i d acc M2,ds[i]?=some d→I i acc M2→∀ cs C s₀ H₀ fp,GIf (aY X scope cs C (x::ns) s₀ H₀ fp) ifs (some d::cap.map fun k=>(Γ[k]?).join) M2 fun c M3 =>
   if c=true then (∀ cs C s₀ H₀ fp,GE (aY X scope cs C (x::ns) s₀ H₀ fp) elt (some d::cap.map fun k=>(Γ[k]?).join) M3 (fun y M4=>I (i+1) (acc++[y]) M4)) else I (i+1) acc M3) ∧
  (∀ acc M2,I ds.length acc M2→∀ a,M2 a=none→k (.mt a) (eY M2 a (.lst acc)))
theorem yB {X:Cx}{x:Str}{px:Pos}{iter elt:Expr}{ifs:List Expr}{scope:Scope}{ns:List Str}{cap:List Nat}{Γ:Gm}{M:Mem}{k:D→Mem→Prop}
  (h:GI X (.Name x px) iter Γ M (Comp X x ns cap elt ifs scope Γ k)) {σ:St}{G H:Hp}{Q:VK} (en:EnvR X.K G Γ σ) (rl:Rel X.K G H M) (q:Cont X.K M k G H Q) :
  nI (tUI X (.Name x px) iter) cap (fun σ H Q=>∀ cs C s₀ H₀ fp,aCA (aY X scope cs C (x::ns) s₀ H₀ fp) ifs σ H Q) (fun σ H Q=>∀ cs C s₀ H₀ fp,tU (aY X scope cs C (x::ns) s₀ H₀ fp) elt σ H Q) σ H Q:=by
 refine h σ G H _ en rl fun J G1 H1 ds M1 s1 yd ⟨hlen,I,h0,hstep,hend⟩ A hA => ?_
 have hA':=s1.rel.free hA
 refine ⟨fun i m ys H2=>m=ds.length - i∧i≤ds.length∧∃ G2 M2 acc,Stp X.K G1 H1 M1 G2 H2 M2∧H2 A=some (.lst ys)∧G2 A=none∧M2 A=none∧Dens X.K G2 acc ys∧I i acc M2∧acc.length≤i,
  ⟨ds.length,by simp,Nat.zero_le _,G1,M1,[],(Stp.refl s1.rel).aside hA hA'.1 hA'.2,bP,hA'.1,hA'.2,cP,h0,Nat.le_refl _⟩,?_⟩
 rintro i m ys H2 ⟨rfl,hi,G2,M2,acc,s2,hl,hg,hm,dn,hI,hacc⟩
 refine ⟨hl,?_⟩
 by_cases hlt:i < ds.length
 ·refine .inr ⟨yd.go i G2 H2 M2 s2.gg s2.rel hlt,by rw [← dn.len]; omega,fun x H3 y => ?_⟩
  obtain ⟨G3,d,s3,hd,ex⟩:=yd.yld i G2 H2 M2 x H3 s2.gg s2.rel hlt y
  obtain ⟨l3,g3,m3⟩:=s3.fr A _ hl hg hm
  intro cs C s₀ H₀ fp
  have en3:=((en.up s1.gg).up (s2.trans s3).gg).cap ex cap
  refine hstep i d acc M2 hd hI cs C s₀ H₀ fp _ G3 H3 _ en3 s3.rel fun c G4 H4 M4 s4 h4 => ?_
  obtain ⟨l4,g4,m4⟩:=s4.fr A _ l3 g3 m3
  cases c with
  | true =>
   rw [if_pos rfl] at h4 ⊢
   intro cs C s₀ H₀ fp
   refine h4 cs C s₀ H₀ fp _ G4 H4 _ (en3.up s4.gg) s4.rel fun y G5 H5 d5 M5 s5 e5 h5 => ?_
   obtain ⟨l5,g5,m5⟩:=s5.fr A _ l4 g4 m4
   have s25:=((s2.trans s3).trans s4).trans s5
   exact ⟨l5,ds.length - (i+1),by omega,rfl,hlt,G5,M5,acc++[d5],s25.aside hA g5 m5,bP,g5,m5,(dn.up ((s3.trans s4).trans s5).gg).append (cF e5 cP),h5,by rw [List.length_append,List.length_singleton]; omega⟩
  | false =>
   rw [if_neg Bool.false_ne_true] at h4 ⊢
   exact ⟨ds.length - (i+1),by omega,rfl,hlt,G4,M4,acc,(s2.trans s3).trans s4,l4,g4,m4,dn.up (s3.trans s4).gg,h4,by omega⟩
 ·have e:i=ds.length:=by omega
  subst e
  exact .inl ⟨yd.stop _ G2 H2 M2 s2.gg s2.rel rfl,q _ _ _ _ _ (s1.trans (s2.track hA hg hl dn)) yX (hend acc M2 hI A hm)⟩
end Z
namespace Z
open PySem L2
section
variable {X:Cx}{Γ:Gm}{M:Mem}{k:D→Mem→Prop}{F:Fin}{pos:Pos}{a b c e o tg iter:Expr}{st:Stmt}{ss body:List Stmt}
theorem aDN {x:Str}{px:Pos}{elt:Expr}{ifs:List Expr}{scope sc:Scope}{N:List Str} (ns:List Str) (cap:List Nat) (h:GI X (.Name x px) iter Γ M (Comp X x ns cap elt ifs scope Γ k))
  (hsc:X.env.scope=sc:=by rfl) (hN:X.N=N:=by rfl) (ok:jP sc scope x ns cap N=true:=by first | decide +kernel | kernel_rfl!) (hc:X.calm=true:=by rfl) (hs:∀ v,foldedSetIterable iter X.env v=pure v:=by intro _; rfl) :
  GE X (.ListComp elt [⟨.Name x px,iter,ifs,0⟩] scope pos) Γ M k:=fun σ G H Q en rl q =>
 cC (aBS ns cap hc hsc hN ok pUI (fun cs C s₀ H₀ fp pins s σ H Q I h=>h cs C s₀ H₀ fp pins s I) (fun cs C s₀ H₀ fp pins s σ H Q I h=>h cs C s₀ H₀ fp pins s I) hs) (yB h en rl q)
def aCZ (X:Cx) (x:Str) (ns:List Str) (cap:List Nat) (elt:Expr) (ifs:List Expr) (scope:Scope) (Γ:Gm) (k:D→Mem→Prop) (ds:List D) (M1:Mem):Prop :=
 ds.length≤sizeLine∧∃ I:Nat→List D→Mem→Prop,I 0 [] M1 ∧
  (∀ i d acc M2,ds[i]?=some d→I i acc M2→∀ cs C s₀ H₀ fp,GIf (aY X scope cs C (x::ns) s₀ H₀ fp) ifs (some d::cap.map fun k=>(Γ[k]?).join) M2 fun c M3 =>
   if c=true then (∀ cs C s₀ H₀ fp,GE (aY X scope cs C (x::ns) s₀ H₀ fp) elt (some d::cap.map fun k=>(Γ[k]?).join) M3 (fun y M4=>I (i+1) (acc++[y]) M4)) else I (i+1) acc M3) ∧
  (∀ acc M2,I ds.length acc M2→k (.lst acc) M2)
theorem aW {x:Str}{px:Pos}{elt:Expr}{ifs:List Expr}{scope sc:Scope}{N:List Str} (ns:List Str) (cap:List Nat) (h:GI X (.Name x px) iter Γ M (aCZ X x ns cap elt ifs scope Γ k))
  (hsc:X.env.scope=sc:=by rfl) (hN:X.N=N:=by rfl) (ok:jP sc scope x ns cap N=true:=by first | decide +kernel | kernel_rfl!) (hc:X.calm=true:=by rfl) (hs:∀ v,foldedSetIterable iter X.env v=pure v:=by intro _; rfl) :
  GE X (.ListComp elt [⟨.Name x px,iter,ifs,0⟩] scope pos) Γ M k:=by
 refine aGV (aDN ns cap ?_ hsc hN ok hc hs)
 intro σ G H Rr en rl q
 refine h σ G H Rr en rl fun J G1 H1 ds M1 s1 yd ⟨hl,I,h0,hstep,hend⟩ => ?_
 exact q J G1 H1 ds M1 s1 yd ⟨hl,I,h0,hstep,fun acc M2 hI a ha=>⟨a,acc,M2,rfl,bN,ha,(Le.refl M2).upd ha,hend acc M2 hI⟩⟩
theorem b4 {x:Str}{ns:List Str}{cap:List Nat}{elt:Expr}{ifs:List Expr}{scope:Scope}{ds:List D}{M1:Mem} (hl:ds.length≤sizeLine) (I:Nat→List D→Mem→Prop) (h0:I 0 [] M1)
  (hs:∀ i d acc M2,ds[i]?=some d→I i acc M2→∀ cs C s₀ H₀ fp,GIf (aY X scope cs C (x::ns) s₀ H₀ fp) ifs (some d::cap.map fun k=>(Γ[k]?).join) M2 fun c M3 =>
   if c=true then (∀ cs C s₀ H₀ fp,GE (aY X scope cs C (x::ns) s₀ H₀ fp) elt (some d::cap.map fun k=>(Γ[k]?).join) M3 (fun y M4=>I (i+1) (acc++[y]) M4)) else I (i+1) acc M3)
  (hd:∀ acc M2,I ds.length acc M2→k (.lst acc) M2):aCZ X x ns cap elt ifs scope Γ k ds M1:=⟨hl,I,h0,hs,hd⟩
theorem a9 (h:F.nx Γ M):GS X [] Γ M F:=fun σ G H E en rl q=>pQ aEK (q.nx σ G H Γ M (Stp.refl rl) en h)
theorem aD (h:G1 X st Γ M { F with nx:=fun Γ' M'=>GS X ss Γ' M' F }):GS X (st::ss) Γ M F:=fun σ G H E en rl q=>by
 refine pQ (aCF pUS p4) ?_
 refine h σ G H _ en rl ⟨fun σ' G' H' Γ' M' s' en' h' => ?_,q.rt,q.bk,q.ct⟩
 exact h' σ' G' H' E en' s'.rel (q.up s')
theorem aH (h:G1 X st Γ M F):GS X [st] Γ M F:=fun σ G H E en rl q=>pQ (aE1 pUS) (h σ G H E en rl q)
theorem iE (i:Nat) {a:Addr}{ds:List D} (hΓ:Γ[i]?=some (some (.mt a))) (hM:M a=some (.lst ds)) (h:GS X ss (Γ.set i (some (.lst ds))) (jV M a) F):GS X ss Γ M F:=fun σ G H E en rl q=>by
 obtain ⟨vs,x1,x2,s1⟩:=rl.frz hM
 obtain ⟨v,ev,dv⟩:=en.get i _ hΓ
 have dl:Den X.K (upd G a (.lst vs)) (.lst ds) v:=by rw [dv.mt_]; exact fS bP (x2.up s1.gg)
 have en':=(en.up s1.gg).set dl i
 have es:σ.set i (some v)=σ:=by
  apply List.ext_getElem?
  intro j
  rw [List.getElem?_set]
  by_cases z:i=j
  ·subst z
   rw [if_pos rfl,if_pos (List.getElem?_eq_some_iff.mp ev).1,ev]
  ·rw [if_neg z]
 rw [es] at en'
 exact h σ _ H E en' s1.rel (q.up s1)
theorem aO (i:Nat) {x:Str}{pos':Pos} (hN:X.N.Nodup) (h:GE X e Γ M fun d M1=>F.nx (Γ.set i (some d)) M1) (hi:X.N[i]?=some x:=by rfl) (hx:Loc X.env.scope x:=by first | exact Or.inl rfl | exact Or.inr rfl)
  (hs:swapsWith e (some (.Name x pos')) pos.line X.env=pure false:=by rfl) (hf:X.fn x=true∨X.env.scope.names.lookup x=some .local:=by first | exact .inl rfl | exact .inr rfl):G1 X (.Assign [.Name x pos'] e pos) Γ M F:=fun σ G H E en rl q=>by
 refine gU (aF5 hN hi hx pU hs hf) ?_
 exact h σ G H _ en rl fun v G1 H1 d M1 s1 e1 h1=>q.nx _ _ _ _ _ s1 ((en.up s1.gg).set e1 i) h1
theorem fK (iy:Nat) {x y:Str}{px py spos:Pos}{elt:Expr}{ifs:List Expr}{scope sc:Scope}{N:List Str} (ns:List Str) (cap:List Nat) (hNd:N.Nodup) (h:GI X (.Name x px) iter Γ M (Comp X x ns cap elt ifs scope Γ fun d M1=>F.nx (Γ.set iy (some d)) M1))
  (hsc:X.env.scope=sc:=by rfl) (hN:X.N=N:=by rfl) (ok:jP sc scope x ns cap N=true:=by first | decide +kernel | kernel_rfl!) (hiy:N[iy]?=some y:=by rfl) (hyl:sc.names.lookup y=some .local:=by rfl) (hc:X.calm=true:=by rfl) (hs:∀ v,foldedSetIterable iter X.env v=pure v:=by intro _; rfl)
  (hsw:swapsWith (.ListComp elt [⟨.Name x px,iter,ifs,0⟩] scope pos) (some (.Name y py)) spos.line X.env=pure true:=by rfl) :
  G1 X (.Assign [.Name y py] (.ListComp elt [⟨.Name x px,iter,ifs,0⟩] scope pos) spos) Γ M F:=fun σ G H E en rl q=>by
 refine gU (u6 (tt:=fun σ H Q=>∀ cs C s₀ H₀ fp,aCA (aY X scope cs C (x::ns) s₀ H₀ fp) ifs σ H Q) (te:=fun σ H Q=>∀ cs C s₀ H₀ fp,tU (aY X scope cs C (x::ns) s₀ H₀ fp) elt σ H Q) iy ns cap hNd hiy hyl hc hsc hN ok pUI (fun cs C s₀ H₀ fp pins s σ H Q I h=>h cs C s₀ H₀ fp pins s I) (fun cs C s₀ H₀ fp pins s σ H Q I h=>h cs C s₀ H₀ fp pins s I) hs hsw) ?_
 exact yB h en rl fun v G1 H1 d M1 s1 e1 h1=>q.nx _ _ _ _ _ s1 ((en.up s1.gg).set e1 iy) h1
theorem nL {x:Str}{ns:List Str}{cap:List Nat}{elt:Expr}{ifs:List Expr}{scope:Scope}{ds:List D}{M1:Mem} (hl:ds.length≤sizeLine) (I:Nat→List D→Mem→Prop) (h0:I 0 [] M1)
  (hs:∀ i d acc M2,ds[i]?=some d→I i acc M2→∀ cs C s₀ H₀ fp,GIf (aY X scope cs C (x::ns) s₀ H₀ fp) ifs (some d::cap.map fun k=>(Γ[k]?).join) M2 fun c M3 =>
   if c=true then (∀ cs C s₀ H₀ fp,GE (aY X scope cs C (x::ns) s₀ H₀ fp) elt (some d::cap.map fun k=>(Γ[k]?).join) M3 (fun y M4=>I (i+1) (acc++[y]) M4)) else I (i+1) acc M3)
  (hd:∀ acc M2,I ds.length acc M2→∀ a,M2 a=none→k (.mt a) (eY M2 a (.lst acc))):Comp X x ns cap elt ifs scope Γ k ds M1 :=
 ⟨hl,I,h0,hs,hd⟩
theorem sU (h:GE X e Γ M fun d M1=>GG X tg d Γ M1 F.nx) (hs:swapsWithSole [tg] e pos.line X.env=pure false:=by rfl) (hw:swappedStores [tg] e X.env=pure none:=by rfl)
  (h1:(assignEach [tg] X.env).map (·.2)=[assign tg X.env]:=by rfl):G1 X (.Assign [tg] e pos) Γ M F:=fun σ G H E en rl q=>by
 refine gU (aGD pU pUG hs hw h1) ?_
 exact h σ G H _ en rl fun v G1 H1 d M1 s1 e1 h1=>h1 σ G1 H1 v _ (en.up s1.gg) s1.rel e1 (q.nx.up s1)
theorem aGZ (i j:Nat) {x y:Str}{px py pt:Pos}{kt k2 pt2} (hN:X.N.Nodup) (hij:i≠j) (h:GA X [a,b] Γ M fun ds M1=>∃ d1 d2,ds=[d1,d2]∧F.nx ((Γ.set i (some d1)).set j (some d2)) M1) (hi:X.N[i]?=some x:=by rfl) (hj:X.N[j]?=some y:=by rfl)
  (hx:X.env.scope.names.lookup x=some .local:=by rfl) (hy:X.env.scope.names.lookup y=some .local:=by rfl) (hc:X.calm=true:=by rfl)
  (hw:swappedStores [.Tuple [.Name x px, .Name y py] kt pt] (.Tuple [a,b] k2 pt2) X.env=pure (some [x,y]):=by rfl)
  (hs:swapsWithSole [.Tuple [.Name x px, .Name y py] kt pt] (.Tuple [a,b] k2 pt2) pos.line X.env=pure false:=by rfl) :
  G1 X (.Assign [.Tuple [.Name x px, .Name y py] kt pt] (.Tuple [a,b] k2 pt2) pos) Γ M F:=fun σ G H E en rl q=>by
 refine gU (aGI hc hN hi hj hij hx hy pUA hw hs) ?_
 refine h σ G H _ en rl fun vs G1 H1 ds M1 s1 e1 ⟨d1,d2,ed,h1⟩ => ?_
 subst ed
 obtain ⟨v,u,rfl,dv,du⟩:=dens2 e1
 exact ⟨v,u,rfl,q.nx _ _ _ _ _ s1 (((en.up s1.gg).set dv i).set du j) h1⟩
variable {kg:Gm→Mem→Prop}{d:D}
theorem eQ (i:Nat) {x:Str} (hN:X.N.Nodup) (h:kg (Γ.set i (some d)) M) (hi:X.N[i]?=some x:=by rfl) (hx:Loc X.env.scope x:=by first | exact Or.inl rfl | exact Or.inr rfl)
  (hf:X.fn x=true∨X.env.scope.names.lookup x=some .local:=by first | exact .inl rfl | exact .inr rfl):GG X (.Name x pos) d Γ M kg:=fun σ G H v Q en rl e q =>
 uJ (vH hN hi hx hf) (q _ _ _ _ _ (Stp.refl rl) (en.set e i) h)
theorem aDF (h:kg Γ M):GGs X [] [] Γ M kg:=fun σ G H vs Q en rl e q=>wL aDZ ⟨cJ e,q _ _ _ _ _ (Stp.refl rl) en h⟩
theorem oM {tgs:List Expr}{ds:List D} (h:GG X tg d Γ M fun Γ1 M1=>GGs X tgs ds Γ1 M1 kg) (hs:(assignEach (tg::tgs) X.env).map (·.2)=assign tg X.env::(assignEach tgs X.env).map (·.2):=by rfl):GGs X (tg::tgs) (d::ds) Γ M kg:=fun σ G H vs Q en rl e q=>by
 refine wL (aBT pUG pUGs hs) ?_
 obtain ⟨v,r,ev,e1,e2⟩:=bV e
 refine ⟨v,r,ev,h σ G H v _ en rl e1 fun σ1 G1 H1 Γ1 M1 s1 en1 h1 => ?_⟩
 exact h1 σ1 G1 H1 r Q en1 s1.rel (e2.up s1.gg) (q.up s1)
theorem aGL {tgs:List Expr}{kk:Nat}{n:Nat}{ds:List D} (hl:ds.length=n) (h:GGs X tgs ds Γ M kg) (hc:X.calm=true:=by rfl) (hn:(assignEach tgs X.env).length=n:=by rfl) (hst:(assignEach tgs X.env).findIdx? (·.1)=none:=by rfl) :
  GG X (.Tuple tgs kk pos) (.tup ds) Γ M kg:=fun σ G H v Q en rl e q=>by
 refine uJ (aGH hc pUGs hn hst) ?_
 obtain ⟨a,vs,ev,s,dn⟩:=e.tup_
 exact ⟨a,vs,ev,R.iW rl.same s,by rw [← dn.len]; exact hl,h σ G H vs Q en rl dn q⟩
theorem aAM {i:Expr} (h:GE X o Γ M fun d1 M1=>GE X i Γ M1 fun d2 M2=>∃ a n j ds,d1 = .mt a∧d2 = .int n∧M2 a=some (.lst ds)∧ixN ds.length n=some j∧kg Γ (eY M2 a (.lst (ds.set j d))))
  (ha:∀ v,assign (.Subscript o i pos) X.env v=(do
   let ov ← holding [v] (eval o X.env)
   let iv ← holding [v,ov] (eval i X.env)
   standAt pos
   holding [v,ov,iv] (setItem ov iv v)
   release [v,ov,iv] []):=by intro _; rfl):GG X (.Subscript o i pos) d Γ M kg:=fun σ G H v Q en rl e q=>by
 refine uJ (aF4 pU pU set_list ha) ?_
 refine h σ G H _ en rl fun v1 G1 H1 d1 M1 s1 e1 h1 => ?_
 refine h1 σ G1 H1 _ (en.up s1.gg) s1.rel fun v2 G2 H2 d2 M2 s2 e2 ⟨a,n,j,ds,x1,x2,hm,hj,h2⟩ => ?_
 subst x1 x2
 obtain ⟨_,vs,es,dn⟩:=s2.rel.mem _ _ hm
 have s12:=s1.trans s2
 exact ⟨a,vs,n,j,(e1.up s2.gg).mt_,e2.int_,es,by rw [← dn.len]; exact hj,q _ _ _ _ _ (s12.trans (s2.rel.wr hm (dn.set (e.up s12.gg) j))) (en.up s12.gg) h2⟩
theorem wV (h:GE X e Γ M fun _ M1=>F.nx Γ M1) (hs:swapsWith e none pos.line X.env=pure false:=by rfl):G1 X (.Expr e pos) Γ M F:=fun σ G H E en rl q =>
 gU (aES pU hs) (h σ G H _ en rl fun v G1 H1 d M1 s1 e1 h1=>q.nx _ _ _ _ _ s1 (en.up s1.gg) h1)
theorem aN (h:GE X e Γ M F.rt):G1 X (.Return (some e) pos) Γ M F:=fun σ G H E en rl q=>gU (aGK pU) (h σ G H _ en rl q.rt)
theorem bD {ss1 ss2:List Stmt} (h:GT X c Γ M fun t M1=>if t=true then GS X ss1 Γ M1 F else GS X ss2 Γ M1 F):G1 X (.If c ss1 ss2 pos) Γ M F:=fun σ G H E en rl q=>by
 refine gU (aHD pUT p4 p4) ?_
 refine h σ G H _ en rl fun t G1 H1 M1 s1 h1 => ?_
 cases t with
 | true=>rw [if_pos rfl] at h1 ⊢; exact h1 σ G1 H1 E (en.up s1.gg) s1.rel (q.up s1)
 | false=>rw [if_neg Bool.false_ne_true] at h1 ⊢; exact h1 σ G1 H1 E (en.up s1.gg) s1.rel (q.up s1)
theorem jT (P:Gm→Mem→Prop) (h:G1 X st Γ M { F with nx:=P }) (h2:∀ Γ' M',P Γ' M'→F.nx Γ' M'):G1 X st Γ M F:=fun σ G H E en rl q=>h σ G H E en rl ⟨fun σ' G' H' Γ' M' s' en' h'=>q.nx σ' G' H' Γ' M' s' en' (h2 _ _ h'),q.rt,q.bk,q.ct⟩
def Loop (X:Cx) (tg:Expr) (body:List Stmt) (Γ:Gm) (F:Fin) (ds:List D) (M:Mem):Prop:=∃ I:Nat→Gm→Mem→Prop,I 0 Γ M ∧
 (∀ i d Γ' M',ds[i]?=some d→I i Γ' M'→GG X tg d Γ' M' fun Γ2 M2=>GS X body Γ2 M2 { F with nx:=I (i+1),ct:=I (i+1),bk:=F.nx })∧∀ Γ' M',I ds.length Γ' M'→F.nx Γ' M'
theorem jM (h:GI X tg iter Γ M (Loop X tg body Γ F)) (hp:PassesOwn (model X.prog X.w) X.A X.env X.xe:=by exact PassesOwn.never) (hc:X.calm=true:=by rfl) (hs:∀ x,foldedSetIterable iter X.env x=pure x:=by intro _; rfl):G1 X (.For tg iter body [] pos) Γ M F:=fun σ G H E en rl q=>by
 refine gU (aG6 hp hc pUI pUG p4 hs) ?_
 refine h σ G H _ en rl fun J G1 H1 ds M1 s1 yd ⟨I,h0,hstep,hend⟩ => ?_
 refine ⟨fun i m σ' H'=>m=ds.length - i∧i≤ds.length∧∃ G' Γ' M',Stp X.K G1 H1 M1 G' H' M'∧EnvR X.K G' Γ' σ'∧I i Γ' M',⟨ds.length,by simp,Nat.zero_le _,G1,Γ,M1,Stp.refl s1.rel,en.up s1.gg,h0⟩,?_⟩
 rintro i m σ2 H2 ⟨rfl,hi,G2,Γ2,M2,s2,en2,hI⟩
 by_cases hlt:i < ds.length
 ·refine .inr ⟨yd.go i G2 H2 M2 s2.gg s2.rel hlt,fun σ' H'=>∃ G' Γ' M',Stp X.K G1 H1 M1 G' H' M'∧EnvR X.K G' Γ' σ'∧I (i+1) Γ' M',fun σ' H' z=>⟨ds.length - (i+1),by omega,rfl,hlt,z⟩,fun x H3 y => ?_⟩
  obtain ⟨G3,d,s3,hd,ex⟩:=yd.yld i G2 H2 M2 x H3 s2.gg s2.rel hlt y
  have s13:=s2.trans s3
  refine hstep i d Γ2 M2 hd hI σ2 G3 H3 x _ (en2.up s3.gg) s3.rel ex fun σ4 G4 H4 Γ4 M4 s4 en4 h4 => ?_
  have s14:=s13.trans s4
  refine h4 σ4 G4 H4 _ en4 s4.rel ⟨fun σ5 G5 H5 Γ5 M5 s5 en5 h5=>⟨G5,Γ5,M5,s14.trans s5,en5,h5⟩,q.rt.up (s1.trans s14),q.nx.up (s1.trans s14),fun σ5 G5 H5 Γ5 M5 s5 en5 h5=>⟨G5,Γ5,M5,s14.trans s5,en5,h5⟩⟩
 ·have e:i=ds.length:=by omega
  subst e
  exact .inl ⟨yd.stop _ G2 H2 M2 s2.gg s2.rel rfl,q.nx _ _ _ _ _ (s1.trans s2) en2 (hend _ _ hI)⟩
theorem t9 (I:Nat→Gm→Mem→Prop) {n:Nat} (h0:I n Γ M)
  (hs:∀ m Γ' M',I m Γ' M'→GT X c Γ' M' fun t M1=>if t=true then GS X body Γ' M1 { F with nx:=fun Γ2 M2=>∃ m',m' < m∧I m' Γ2 M2,ct:=fun Γ2 M2=>∃ m',m' < m∧I m' Γ2 M2,bk:=F.nx } else F.nx Γ' M1)
  (hp:PassesOwn (model X.prog X.w) X.A X.env X.xe:=by exact PassesOwn.never):G1 X (.While c body [] pos) Γ M F:=fun σ G H E en rl q=>by
 refine gU (aBB hp pUT p4) ?_
 refine ⟨fun m σ' H'=>∃ G' Γ' M',Stp X.K G H M G' H' M'∧EnvR X.K G' Γ' σ'∧I m Γ' M',⟨n,G,Γ,M,Stp.refl rl,en,h0⟩,?_⟩
 rintro m σ2 H2 ⟨G2,Γ2,M2,s2,en2,hI⟩
 refine hs m Γ2 M2 hI σ2 G2 H2 _ en2 s2.rel fun t G3 H3 M3 s3 h3 => ?_
 have s13:=s2.trans s3
 cases t with
 | true =>
  rw [if_pos rfl] at h3 ⊢
  refine ⟨fun σ' H'=>∃ m',m' < m∧∃ G' Γ' M',Stp X.K G H M G' H' M'∧EnvR X.K G' Γ' σ'∧I m' Γ' M',fun σ' H' z=>z,?_⟩
  refine h3 σ2 G3 H3 _ (en2.up s3.gg) s3.rel ⟨fun σ5 G5 H5 Γ5 M5 s5 en5 ⟨m',hm,h5⟩=>⟨m',hm,G5,Γ5,M5,s13.trans s5,en5,h5⟩,q.rt.up s13,q.nx.up s13,fun σ5 G5 H5 Γ5 M5 s5 en5 ⟨m',hm,h5⟩=>⟨m',hm,G5,Γ5,M5,s13.trans s5,en5,h5⟩⟩
 | false =>
  rw [if_neg Bool.false_ne_true] at h3 ⊢
  exact q.nx _ _ _ _ _ s13 (en2.up s3.gg) h3
end
section
variable {P:Program}{w:World}{K:Fg}{mg:Str→Option Value}{base:Heap}
abbrev cxF (P:Program) (w:World) (K:Fg) (mg:Str→Option Value) (base:Heap) (N:List Str) (x:Str) (st:Stmt) (f:Addr) (cdv:Value) (A:Around) (outer:List Env) (s:Shared) (H:Hp) (E:XK):Cx :=
 (oI CX0 P w K mg base N x (aK st) f cdv A outer s H E).nox
theorem bF {x:Str}{st:Stmt}{ps N:List Str}{f:Addr}{fd:FuncData}{n:Nat}{F:Ct} (Df:R.Df K mg x st ps f fd) (S:FnScope N ps (aK st)) (len:∀ ds M k,F ds M k→ds.length=ps.length)
  (h:∀ cdv A outer s H E,Room n (cxF P w K mg base N x st f cdv A outer s H E).A→∀ ds M k,F ds M k →
   GS (cxF P w K mg base N x st f cdv A outer s H E) (c9 st) (ds.map some++List.replicate (N.length - ds.length) none) M { nx:=fun _ M'=>k .non M',rt:=k }):FnOk P w K mg base CX0 (n+1) f fd ps (spZ K F):=by
 refine Df.F.ok S (fun vs H Q E h => ?_) (fun cdv A outer s H vs Q E hr hsp => ?_)
 ·obtain ⟨G,M,ds,k,rl,dn,hF,_⟩:=h
  rw [← dn.len]; exact len _ _ _ hF
 ·obtain ⟨G,M,ds,k,rl,dn,hF,q⟩:=hsp
  refine ⟨_,p4,?_⟩
  refine h cdv A outer s H E hr ds M k hF (start N vs) G H _ (EnvR.start dn N.length) rl ⟨fun σ' G' H' Γ' M' s' en' h'=>q _ _ _ _ _ s' wU h',q,fun _ _ _ _ _ _ _ h'=>h'.elim,fun _ _ _ _ _ _ _ h'=>h'.elim⟩
end
end Z
namespace Z
open PySem L2
mutual
def eqD:D→D→Bool
 | .non, .non=>true
 | .bl a, .bl b=>a == b
 | .int a, .int b=>a == b
 | .bl a, .int b=>(if a then 1 else 0) == b
 | .int a, .bl b=>a == (if b then 1 else 0)
 | .str a, .str b=>a == b
 | .tup xs, .tup ys=>eqDs xs ys
 | .lst xs, .lst ys=>eqDs xs ys
 | _,_=>false
def eqDs:List D→List D→Bool
 | [],[]=>true
 | x::xs,y::ys=>eqD x y && eqDs xs ys
 | _,_=>false
end
mutual
def okD:Nat→D→Bool
 | _, .non | _, .bl _ | _, .int _ | _, .str _=>true
 | n+1, .tup ds=>okDs n ds
 | n+1, .lst ds=>okDs n ds
 | _,_=>false
def okDs:Nat→List D→Bool
 | _,[]=>true
 | n,d::ds=>okD n d && okDs n ds
end
mutual
theorem eqD_refl:∀ (n:Nat) (d:D),okD n d=true→eqD d d=true
 | _, .non,_=>by simp only [eqD]
 | _, .bl _,_=>by simp only [eqD,beq_self_eq_true]
 | _, .int _,_=>by simp only [eqD,beq_self_eq_true]
 | _, .str _,_=>by simp only [eqD,beq_self_eq_true]
 | n+1, .tup ds,h=>by simp only [okD] at h; simp only [eqD]; exact eqDs_refl n ds h
 | n+1, .lst ds,h=>by simp only [okD] at h; simp only [eqD]; exact eqDs_refl n ds h
 | 0, .tup _,h=>by simp [okD] at h
 | 0, .lst _,h=>by simp [okD] at h
 | _, .mt _,h=>by simp [okD] at h
 | _, .fl _,h=>by simp [okD] at h
theorem eqDs_refl:∀ (n:Nat) (ds:List D),okDs n ds=true→eqDs ds ds=true
 | _,[],_=>by simp only [eqDs]
 | n,d::ds,h=>by
  simp only [okDs,Bool.and_eq_true] at h
  simp only [eqDs,eqD_refl n d h.1,eqDs_refl n ds h.2,Bool.and_true]
end
def eqJ (xs ys:List D) (j:Nat):Bool:=match xs[j]?,ys[j]? with
 | some x,some y=>eqD x y
 | _,_=>true
theorem eV:∀ (xs ys:List D),((List.range (min xs.length ys.length)).all (eqJ xs ys) && xs.length == ys.length)=eqDs xs ys
 | [],[]=>by simp [eqDs]
 | [],_::_=>by simp [eqDs]
 | _::_,[]=>by simp [eqDs]
 | x::xs,y::ys=>by
  have ih:=eV xs ys
  simp only [eqDs,← ih,List.length_cons]
  rw [show min (xs.length+1) (ys.length+1)=min xs.length ys.length+1 by omega,List.range_succ_eq_map,List.all_cons,List.all_map]
  have e1:eqJ (x::xs) (y::ys) 0=eqD x y:=rfl
  have e2:(eqJ (x::xs) (y::ys)) ∘ Nat.succ=eqJ xs ys:=by funext j; rfl
  rw [e1,e2,Bool.and_assoc]
  congr 2
  by_cases h:xs.length=ys.length
  ·rw [h]; simp
  ·rw [beq_eq_false_iff_ne.mpr h,beq_eq_false_iff_ne.mpr (by omega)]
section
variable {X:Cx}{pins:List (Addr × Obj)}{σ:St}{H:Hp}{s:Shared}
mutual
theorem den_inj (I:Inv X pins σ H s):∀ (n:Nat) (d e:D) (v:V),okD n d=true→okD n e=true→Den X.K H d v→Den X.K H e v→d=e
 | n, .non,e,v,h1,h2,x,y=>by
  rw [x.non_] at y
  cases e with
  | non=>rfl
  | bl b=>have:=y.bl_; cases this
  | int b=>have:=y.int_; cases this
  | str b=>have:=y.str_; cases this
  | mt b=>have:=y.mt_; cases this
  | tup b=>obtain ⟨_,_,q,_⟩:=y.tup_; cases q
  | lst b=>obtain ⟨_,_,q,_⟩:=y.lst_; cases q
  | fl b=>obtain ⟨_,_,q,_⟩:=y.fl_; cases q
  | st b=>obtain ⟨_,_,_,q,_⟩:=y.st_; cases q
 | n, .bl b,e,v,h1,h2,x,y=>by
  rw [x.bl_] at y
  cases e with
  | non=>have:=y.non_; cases this
  | bl b=>have:=y.bl_; cases this; rfl
  | int b=>have:=y.int_; cases this
  | str b=>have:=y.str_; cases this
  | mt b=>have:=y.mt_; cases this
  | tup b=>obtain ⟨_,_,q,_⟩:=y.tup_; cases q
  | lst b=>obtain ⟨_,_,q,_⟩:=y.lst_; cases q
  | fl b=>obtain ⟨_,_,q,_⟩:=y.fl_; cases q
  | st b=>obtain ⟨_,_,_,q,_⟩:=y.st_; cases q
 | n, .int b,e,v,h1,h2,x,y=>by
  rw [x.int_] at y
  cases e with
  | non=>have:=y.non_; cases this
  | bl b=>have:=y.bl_; cases this
  | int b=>have:=y.int_; cases this; rfl
  | str b=>have:=y.str_; cases this
  | mt b=>have:=y.mt_; cases this
  | tup b=>obtain ⟨_,_,q,_⟩:=y.tup_; cases q
  | lst b=>obtain ⟨_,_,q,_⟩:=y.lst_; cases q
  | fl b=>obtain ⟨_,_,q,_⟩:=y.fl_; cases q
  | st b=>obtain ⟨_,_,_,q,_⟩:=y.st_; cases q
 | n, .str b,e,v,h1,h2,x,y=>by
  rw [x.str_] at y
  cases e with
  | non=>have:=y.non_; cases this
  | bl b=>have:=y.bl_; cases this
  | int b=>have:=y.int_; cases this
  | str b=>have:=y.str_; cases this; rfl
  | mt b=>have:=y.mt_; cases this
  | tup b=>obtain ⟨_,_,q,_⟩:=y.tup_; cases q
  | lst b=>obtain ⟨_,_,q,_⟩:=y.lst_; cases q
  | fl b=>obtain ⟨_,_,q,_⟩:=y.fl_; cases q
  | st b=>obtain ⟨_,_,_,q,_⟩:=y.st_; cases q
 | n, .mt _,_,_,h1,_,_,_=>by simp [okD] at h1
 | n, .fl _,_,_,h1,_,_,_=>by simp [okD] at h1
 | 0, .tup _,_,_,h1,_,_,_=>by simp [okD] at h1
 | 0, .lst _,_,_,h1,_,_,_=>by simp [okD] at h1
 | n+1, .tup ds,e,v,h1,h2,x,y=>by
  obtain ⟨a,vs,rfl,sq,dn⟩:=x.tup_
  cases e with
  | non=>have:=y.non_; cases this
  | bl b=>have:=y.bl_; cases this
  | int b=>have:=y.int_; cases this
  | str b=>have:=y.str_; cases this
  | mt b=>simp [okD] at h2
  | fl b=>simp [okD] at h2
  | st b=>simp [okD] at h2
  | tup es =>
   obtain ⟨b,ws,q,sq2,dn2⟩:=y.tup_
   cases q
   rw [← I.tuple_inj sq sq2] at dn2
   simp only [okD] at h1 h2
   rw [dens_inj I n ds es vs h1 h2 dn dn2]
  | lst es =>
   obtain ⟨b,ws,q,sq2,dn2⟩:=y.lst_
   cases q
   exfalso
   obtain ⟨its,_,pt,_⟩:=I.tuple sq
   obtain ⟨jts,_,pl,_⟩:=I.list (SqL.of sq2)
   obtain ⟨o,e1,c1,_⟩:=pt
   obtain ⟨o2,n2,e2,c2,_⟩:=pl
   rw [e1] at e2; cases e2
   rw [c1] at c2; exact absurd c2 (by simp)
 | n+1, .lst ds,e,v,h1,h2,x,y=>by
  obtain ⟨a,vs,rfl,sq,dn⟩:=x.lst_
  cases e with
  | non=>have:=y.non_; cases this
  | bl b=>have:=y.bl_; cases this
  | int b=>have:=y.int_; cases this
  | str b=>have:=y.str_; cases this
  | mt b=>simp [okD] at h2
  | fl b=>simp [okD] at h2
  | st b=>simp [okD] at h2
  | lst es =>
   obtain ⟨b,ws,q,sq2,dn2⟩:=y.lst_
   cases q
   rw [sq] at sq2; cases sq2
   simp only [okD] at h1 h2
   rw [dens_inj I n ds es vs h1 h2 dn dn2]
  | tup es =>
   obtain ⟨b,ws,q,sq2,dn2⟩:=y.tup_
   cases q
   exfalso
   obtain ⟨its,_,pt,_⟩:=I.tuple sq2
   obtain ⟨jts,_,pl,_⟩:=I.list (SqL.of sq)
   obtain ⟨o,e1,c1,_⟩:=pt
   obtain ⟨o2,n2,e2,c2,_⟩:=pl
   rw [e1] at e2; cases e2
   rw [c1] at c2; exact absurd c2 (by simp)
theorem dens_inj (I:Inv X pins σ H s):∀ (n:Nat) (ds es:List D) (vs:List V),okDs n ds=true→okDs n es=true→Dens X.K H ds vs→Dens X.K H es vs→ds=es
 | _,[],es,vs,_,_,x,y=>by
  rw [cJ x] at y
  cases es with
  | nil=>rfl
  | cons e es=>obtain ⟨_,_,q,_⟩:=bV y; cases q
 | n,d::ds,es,vs,h1,h2,x,y=>by
  obtain ⟨v,r,rfl,a,b⟩:=bV x
  cases es with
  | nil=>have:=cJ y; cases this
  | cons e es =>
   obtain ⟨_,_,q,a2,b2⟩:=bV y
   cases q
   simp only [okDs,Bool.and_eq_true] at h1 h2
   rw [den_inj I n d e v h1.1 h2.1 a a2,dens_inj I n ds es r h1.2 h2.2 b b2]
end
end
end Z
namespace Z
open PySem L2
section
variable {X:Cx}{pins:List (Addr × Obj)}{σ:St}{H:Hp}{s:Shared}
theorem dD (I:Inv X pins σ H s) {ds:List D}{v:V}{u:Value} (h:Den X.K H (.tup ds) v) (r:RelV v u):∃ a its vs,u = .ref a∧s.heap.IsTuple a (List.toArray its)∧Vals vs its∧Dens X.K H ds vs:=by
 obtain ⟨a,vs,rfl,sq,dn⟩:=h.tup_
 obtain ⟨its,rv,pt,_⟩:=I.tuple sq
 exact ⟨a,its,vs,r,pt,rv,dn⟩
theorem cY (I:Inv X pins σ H s) {ds:List D}{v:V}{u:Value} (h:Den X.K H (.lst ds) v) (r:RelV v u):∃ a its vs,u = .ref a∧s.heap.IsList a (List.toArray its)∧Vals vs its∧Dens X.K H ds vs:=by
 obtain ⟨a,vs,rfl,sq,dn⟩:=h.lst_
 obtain ⟨its,rv,pt,_⟩:=I.list (SqL.of sq)
 exact ⟨a,its,vs,r,pt.isList,rv,dn⟩
theorem cA:∀ {n:Nat}{ds:List D}{j:Nat}{d:D},okDs n ds=true→ds[j]?=some d→okD n d=true
 | _,[],_,_,_,e=>by simp at e
 | n,d0::ds,0,d,h,e=>by simp at e; subst e; simp only [okDs,Bool.and_eq_true] at h; exact h.1
 | n,d0::ds,j+1,d,h,e=>by simp only [okDs,Bool.and_eq_true] at h; exact cA (j:=j) h.2 (by simpa using e)
theorem dJ {ds:List D}{vs:List V}{its:List Value} (dn:Dens X.K H ds vs) (rv:Vals vs its) {j:Nat} (h:j < its.toArray.size):∃ d v,ds[j]?=some d∧Den X.K H d v∧RelV v its.toArray[j]:=by
 obtain ⟨v,e1,r1⟩:=aD6 rv h
 obtain ⟨d,e2,q⟩:=dn.get' e1
 exact ⟨d,v,e2,q,r1⟩
mutual
theorem eqAt_D (I:Inv X pins σ H s):∀ (d:D) (n:Nat) (e:D) (v u:V) (v' u':Value) (A:Around),okD n d=true→okD n e=true→Den X.K H d v→Den X.K H e u→RelV v v'→RelV u u'→A.units+n < cLine→SeqAt.EqAt A s v' u' (eqD d e)
 | .non,n,e,v,u,v',u',A,h1,h2,x,y,rx,ry,hu=>by
  rw [x.non_] at rx; cases (show v'=Value.none from rx)
  cases e with
  | non=>rw [y.non_] at ry; cases (show u'=Value.none from ry); simp only [eqD]; exact SeqAt.EqAt.same _
  | bl b=>rw [y.bl_] at ry; cases (show u'=Value.bool b from ry); simp only [eqD]; exact SeqAt.EqAt.none_bool b
  | int b=>rw [y.int_] at ry; obtain ⟨t,rfl⟩:=ry; simp only [eqD]; exact SeqAt.EqAt.none_int b t
  | str b=>rw [y.str_] at ry; obtain ⟨t,rfl⟩:=ry; simp only [eqD]; exact SeqAt.EqAt.none_str b t
  | mt b=>simp [okD] at h2
  | fl b=>simp [okD] at h2
  | st b=>simp [okD] at h2
  | tup es=>obtain ⟨a,its,vs,rfl,it,_⟩:=dD I y ry; simp only [eqD]; exact SeqAt.EqAt.none_tuple it (by omega)
  | lst es=>obtain ⟨a,its,vs,rfl,it,_⟩:=cY I y ry; simp only [eqD]; exact SeqAt.EqAt.none_list it (by omega)
 | .bl c,n,e,v,u,v',u',A,h1,h2,x,y,rx,ry,hu=>by
  rw [x.bl_] at rx; cases (show v'=Value.bool c from rx)
  cases e with
  | non=>rw [y.non_] at ry; cases (show u'=Value.none from ry); simp only [eqD]; exact SeqAt.EqAt.bool_none c
  | bl b=>rw [y.bl_] at ry; cases (show u'=Value.bool b from ry); simp only [eqD]; exact SeqAt.EqAt.bool_bool c b
  | int b=>rw [y.int_] at ry; obtain ⟨t,rfl⟩:=ry; simp only [eqD]; exact SeqAt.EqAt.bool_int c b t
  | str b=>rw [y.str_] at ry; obtain ⟨t,rfl⟩:=ry; simp only [eqD]; exact SeqAt.EqAt.bool_str c b t
  | mt b=>simp [okD] at h2
  | fl b=>simp [okD] at h2
  | st b=>simp [okD] at h2
  | tup es=>obtain ⟨a,its,vs,rfl,it,_⟩:=dD I y ry; simp only [eqD]; exact SeqAt.EqAt.bool_tuple c it (by omega)
  | lst es=>obtain ⟨a,its,vs,rfl,it,_⟩:=cY I y ry; simp only [eqD]; exact SeqAt.EqAt.bool_list c it (by omega)
 | .int c,n,e,v,u,v',u',A,h1,h2,x,y,rx,ry,hu=>by
  rw [x.int_] at rx; obtain ⟨t0,rfl⟩:=rx
  cases e with
  | non=>rw [y.non_] at ry; cases (show u'=Value.none from ry); simp only [eqD]; exact SeqAt.EqAt.int_none c t0
  | bl b=>rw [y.bl_] at ry; cases (show u'=Value.bool b from ry); simp only [eqD]; exact SeqAt.EqAt.int_bool c t0 b
  | int b=>rw [y.int_] at ry; obtain ⟨t,rfl⟩:=ry; simp only [eqD]; exact SeqAt.EqAt.int_int c t0 b t
  | str b=>rw [y.str_] at ry; obtain ⟨t,rfl⟩:=ry; simp only [eqD]; exact SeqAt.EqAt.int_str c t0 b t
  | mt b=>simp [okD] at h2
  | fl b=>simp [okD] at h2
  | st b=>simp [okD] at h2
  | tup es=>obtain ⟨a,its,vs,rfl,it,_⟩:=dD I y ry; simp only [eqD]; exact SeqAt.EqAt.int_tuple c t0 it (by omega)
  | lst es=>obtain ⟨a,its,vs,rfl,it,_⟩:=cY I y ry; simp only [eqD]; exact SeqAt.EqAt.int_list c t0 it (by omega)
 | .str c,n,e,v,u,v',u',A,h1,h2,x,y,rx,ry,hu=>by
  rw [x.str_] at rx; obtain ⟨t0,rfl⟩:=rx
  cases e with
  | non=>rw [y.non_] at ry; cases (show u'=Value.none from ry); simp only [eqD]; exact SeqAt.EqAt.str_none c t0
  | bl b=>rw [y.bl_] at ry; cases (show u'=Value.bool b from ry); simp only [eqD]; exact SeqAt.EqAt.str_bool c t0 b
  | int b=>rw [y.int_] at ry; obtain ⟨t,rfl⟩:=ry; simp only [eqD]; exact SeqAt.EqAt.str_int c t0 b t
  | str b=>rw [y.str_] at ry; obtain ⟨t,rfl⟩:=ry; simp only [eqD]; exact SeqAt.EqAt.str_str c t0 b t
  | mt b=>simp [okD] at h2
  | fl b=>simp [okD] at h2
  | st b=>simp [okD] at h2
  | tup es=>obtain ⟨a,its,vs,rfl,it,_⟩:=dD I y ry; simp only [eqD]; exact SeqAt.EqAt.str_tuple c t0 it (by omega)
  | lst es=>obtain ⟨a,its,vs,rfl,it,_⟩:=cY I y ry; simp only [eqD]; exact SeqAt.EqAt.str_list c t0 it (by omega)
 | .mt _,n,_,_,_,_,_,_,h1,_,_,_,_,_,_=>by simp [okD] at h1
 | .fl _,n,_,_,_,_,_,_,h1,_,_,_,_,_,_=>by simp [okD] at h1
 | .st _,n,_,_,_,_,_,_,h1,_,_,_,_,_,_=>by simp [okD] at h1
 | .tup ds,0,_,_,_,_,_,_,h1,_,_,_,_,_,_=>by simp [okD] at h1
 | .lst ds,0,_,_,_,_,_,_,h1,_,_,_,_,_,_=>by simp [okD] at h1
 | .tup ds,n+1,e,v,u,v',u',A,h1,h2,x,y,rx,ry,hu=>by
  obtain ⟨a,its,vs,rfl,it,rv,dn⟩:=dD I x rx
  cases e with
  | non=>rw [y.non_] at ry; cases (show u'=Value.none from ry); simp only [eqD]; exact SeqAt.EqAt.tuple_none it (by omega)
  | bl b=>rw [y.bl_] at ry; cases (show u'=Value.bool b from ry); simp only [eqD]; exact SeqAt.EqAt.tuple_bool b it (by omega)
  | int b=>rw [y.int_] at ry; obtain ⟨t,rfl⟩:=ry; simp only [eqD]; exact SeqAt.EqAt.tuple_int b t it (by omega)
  | str b=>rw [y.str_] at ry; obtain ⟨t,rfl⟩:=ry; simp only [eqD]; exact SeqAt.EqAt.tuple_str b t it (by omega)
  | mt b=>simp [okD] at h2
  | fl b=>simp [okD] at h2
  | st b=>simp [okD] at h2
  | lst es=>obtain ⟨b,its2,vs2,rfl,it2,_⟩:=cY I y ry; simp only [eqD]; exact SeqAt.EqAt.tuple_list it it2 (by omega)
  | tup es =>
   obtain ⟨b,its2,vs2,rfl,it2,rv2,dn2⟩:=dD I y ry
   have k1:okDs n ds=true:=by simpa only [okD] using h1
   have k2:okDs n es=true:=by simpa only [okD] using h2
   by_cases hab:a=b
   ·subst hab
    have e0:D.tup ds=D.tup es:=den_inj I (n+1) _ _ v h1 h2 x (by
     have:v=u:=by
      obtain ⟨_,_,e3,_⟩:=x.tup_
      obtain ⟨_,_,e4,_⟩:=y.tup_
      rw [e3] at rx; rw [e4] at ry
      cases rx; cases ry; rw [e3,e4]
     rw [this]; exact y)
    rw [← e0,eqD_refl (n+1) _ h1]
    exact SeqAt.EqAt.same _
   ·have:=SeqAt.RcAt.tuples (A:=A) (s:=s) (e:=eqJ ds es) it it2 (by omega) (fun j g1 g2=>by
     obtain ⟨c,v1,e1,q1,r1⟩:=dJ dn rv g1
     obtain ⟨c2,v2,e2,q2,r2⟩:=dJ dn2 rv2 g2
     have:=eqAts_D I ds n j c e1 c2 v1 v2 _ _ A.in1 (cA k1 e1) (cA k2 e2) q1 q2 r1 r2 (by show A.units+1+n < cLine; omega)
     unfold eqJ; rw [e1,e2]; exact this)
    rw [List.size_toArray,List.size_toArray,← rv.length,← rv2.length,← dn.len,← dn2.len,eV] at this
    simp only [eqD]
    exact SeqAt.EqAt.of_refs hab this
 | .lst ds,n+1,e,v,u,v',u',A,h1,h2,x,y,rx,ry,hu=>by
  obtain ⟨a,its,vs,rfl,it,rv,dn⟩:=cY I x rx
  cases e with
  | non=>rw [y.non_] at ry; cases (show u'=Value.none from ry); simp only [eqD]; exact SeqAt.EqAt.list_none it (by omega)
  | bl b=>rw [y.bl_] at ry; cases (show u'=Value.bool b from ry); simp only [eqD]; exact SeqAt.EqAt.list_bool b it (by omega)
  | int b=>rw [y.int_] at ry; obtain ⟨t,rfl⟩:=ry; simp only [eqD]; exact SeqAt.EqAt.list_int b t it (by omega)
  | str b=>rw [y.str_] at ry; obtain ⟨t,rfl⟩:=ry; simp only [eqD]; exact SeqAt.EqAt.list_str b t it (by omega)
  | mt b=>simp [okD] at h2
  | fl b=>simp [okD] at h2
  | st b=>simp [okD] at h2
  | tup es=>obtain ⟨b,its2,vs2,rfl,it2,_⟩:=dD I y ry; simp only [eqD]; exact SeqAt.EqAt.list_tuple it it2 (by omega)
  | lst es =>
   obtain ⟨b,its2,vs2,rfl,it2,rv2,dn2⟩:=cY I y ry
   have k1:okDs n ds=true:=by simpa only [okD] using h1
   have k2:okDs n es=true:=by simpa only [okD] using h2
   by_cases hab:a=b
   ·subst hab
    have e0:D.lst ds=D.lst es:=den_inj I (n+1) _ _ v h1 h2 x (by
     have:v=u:=by
      obtain ⟨_,_,e3,_⟩:=x.lst_
      obtain ⟨_,_,e4,_⟩:=y.lst_
      rw [e3] at rx; rw [e4] at ry
      cases rx; cases ry; rw [e3,e4]
     rw [this]; exact y)
    rw [← e0,eqD_refl (n+1) _ h1]
    exact SeqAt.EqAt.same _
   ·simp only [eqD]
    refine SeqAt.EqAt.of_refs hab ?_
    by_cases hl:ds.length=es.length
    ·have hsz:its.toArray.size=its2.toArray.size:=by rw [List.size_toArray,List.size_toArray,← rv.length,← rv2.length,← dn.len,← dn2.len,hl]
     have:=SeqAt.RcAt.lists (A:=A) (s:=s) (e:=eqJ ds es) it it2 hsz (by omega) (fun j g1 g2=>by
      obtain ⟨c,v1,e1,q1,r1⟩:=dJ dn rv g1
      obtain ⟨c2,v2,e2,q2,r2⟩:=dJ dn2 rv2 g2
      have:=eqAts_D I ds n j c e1 c2 v1 v2 _ _ A.in1 (cA k1 e1) (cA k2 e2) q1 q2 r1 r2 (by show A.units+1+n < cLine; omega)
      unfold eqJ; rw [e1,e2]; exact this)
     have e3:=eV ds es
     rw [← hl,Nat.min_self,beq_self_eq_true,Bool.and_true] at e3
     rw [List.size_toArray,← rv.length,← dn.len,e3] at this
     exact this
    ·have hsz:(its.toArray.size != its2.toArray.size)=true:=by rw [bne_iff_ne,List.size_toArray,List.size_toArray,← rv.length,← rv2.length,← dn.len,← dn2.len]; exact hl
     have e3:=eV ds es
     rw [beq_eq_false_iff_ne.mpr hl,Bool.and_false] at e3
     rw [← e3]
     exact SeqAt.RcAt.lists_lengths it it2 hsz (by omega)
theorem eqAts_D (I:Inv X pins σ H s):∀ (ds:List D) (n j:Nat) (d:D),ds[j]?=some d→∀ (e:D) (v u:V) (v' u':Value) (A:Around),okD n d=true→okD n e=true→Den X.K H d v→Den X.K H e u→RelV v v'→RelV u u'→A.units+n < cLine→SeqAt.EqAt A s v' u' (eqD d e)
 | [],_,_,_,q=>by simp at q
 | d0::ds,n,0,d,q=>by
  simp at q; subst q
  exact fun e v u v' u' A=>eqAt_D I d0 n e v u v' u' A
 | d0::ds,n,j+1,d,q=>eqAts_D I ds n j d (by simpa using q)
end
inductive Disp:D→Prop
 | tup (ds:List D):Disp (.tup ds)
 | lst (ds:List D):Disp (.lst ds)
inductive Rs (M:Mem):D→D→Prop
 | tup (ds:List D):Rs M (.tup ds) (.tup ds)
 | lst (ds:List D):Rs M (.lst ds) (.lst ds)
 | mt {a:Addr}{ds:List D} (h:M a=some (.lst ds)):Rs M (.mt a) (.lst ds)
theorem Rs.disp {M:Mem}{d e:D} (h:Rs M d e):Disp e:=by cases h <;> constructor
theorem Rs.den {K:Fg}{G H:Hp}{M:Mem}{d e:D}{v:V} (h:Rs M d e) (rl:Rel K G H M) (q:Den K G d v):Den K H e v:=by
 cases h with
 | tup ds=>exact q.up rl.same
 | lst ds=>exact q.up rl.same
 | mt hm =>
  obtain ⟨_,vs,e1,dn⟩:=rl.mem _ _ hm
  rw [q.mt_]; exact fS e1 (dn.up rl.same)
def xS (K:Fg) (n:Nat) (neg:Bool):R2:=fun x y H Q=>∃ d e,Disp d∧Disp e∧okD n d=true∧okD n e=true∧Den K H d x∧Den K H e y∧Q (.bl (if neg then !eqD d e else eqD d e)) H
theorem rc_D (I:Inv X pins σ H s) {n:Nat}{d e:D}{v u:V}{v' u':Value} (A:Around) (g1:Disp d) (g2:Disp e) (h1:okD n d=true) (h2:okD n e=true) (x:Den X.K H d v) (y:Den X.K H e u) (rx:RelV v v') (ry:RelV u u') (hu:A.units+n < cLine):SeqAt.RcAt A s v' u' (eqD d e):=by
 cases g1 with
 | tup ds =>
  obtain ⟨a,its,vs,rfl,it,rv,dn⟩:=dD I x rx
  cases g2 with
  | lst es=>obtain ⟨b,its2,vs2,rfl,it2,_⟩:=cY I y ry; simp only [eqD]; exact SeqAt.RcAt.tuple_list it it2 (by omega)
  | tup es =>
   obtain ⟨b,its2,vs2,rfl,it2,rv2,dn2⟩:=dD I y ry
   cases n with
   | zero=>simp [okD] at h1
   | succ n =>
    have k1:okDs n ds=true:=by simpa only [okD] using h1
    have k2:okDs n es=true:=by simpa only [okD] using h2
    have:=SeqAt.RcAt.tuples (A:=A) (s:=s) (e:=eqJ ds es) it it2 (by omega) (fun j g1 g2=>by
     obtain ⟨c,v1,e1,q1,r1⟩:=dJ dn rv g1
     obtain ⟨c2,v2,e2,q2,r2⟩:=dJ dn2 rv2 g2
     have:=eqAt_D I c n c2 v1 v2 _ _ A.in1 (cA k1 e1) (cA k2 e2) q1 q2 r1 r2 (by show A.units+1+n < cLine; omega)
     unfold eqJ; rw [e1,e2]; exact this)
    rw [List.size_toArray,List.size_toArray,← rv.length,← rv2.length,← dn.len,← dn2.len,eV] at this
    simp only [eqD]; exact this
 | lst ds =>
  obtain ⟨a,its,vs,rfl,it,rv,dn⟩:=cY I x rx
  cases g2 with
  | tup es=>obtain ⟨b,its2,vs2,rfl,it2,_⟩:=dD I y ry; simp only [eqD]; exact SeqAt.RcAt.list_tuple it it2 (by omega)
  | lst es =>
   obtain ⟨b,its2,vs2,rfl,it2,rv2,dn2⟩:=cY I y ry
   cases n with
   | zero=>simp [okD] at h1
   | succ n =>
    have k1:okDs n ds=true:=by simpa only [okD] using h1
    have k2:okDs n es=true:=by simpa only [okD] using h2
    simp only [eqD]
    by_cases hl:ds.length=es.length
    ·have hsz:its.toArray.size=its2.toArray.size:=by rw [List.size_toArray,List.size_toArray,← rv.length,← rv2.length,← dn.len,← dn2.len,hl]
     have:=SeqAt.RcAt.lists (A:=A) (s:=s) (e:=eqJ ds es) it it2 hsz (by omega) (fun j g1 g2=>by
      obtain ⟨c,v1,e1,q1,r1⟩:=dJ dn rv g1
      obtain ⟨c2,v2,e2,q2,r2⟩:=dJ dn2 rv2 g2
      have:=eqAt_D I c n c2 v1 v2 _ _ A.in1 (cA k1 e1) (cA k2 e2) q1 q2 r1 r2 (by show A.units+1+n < cLine; omega)
      unfold eqJ; rw [e1,e2]; exact this)
     have e3:=eV ds es
     rw [← hl,Nat.min_self,beq_self_eq_true,Bool.and_true] at e3
     rw [List.size_toArray,← rv.length,← dn.len,e3] at this
     exact this
    ·have hsz:(its.toArray.size != its2.toArray.size)=true:=by rw [bne_iff_ne,List.size_toArray,List.size_toArray,← rv.length,← rv2.length,← dn.len,← dn2.len]; exact hl
     have e3:=eV ds es
     rw [beq_eq_false_iff_ne.mpr hl,Bool.and_false] at e3
     rw [← e3]
     exact SeqAt.RcAt.lists_lengths it it2 hsz (by omega)
end
section
variable {X:Cx}
theorem m8 {n:Nat} (hu:X.A.units+n < cLine):OpR X (compareOp .Eq) (xS X.K n false):=by
 intro pins s σ H x y v u Q I rx ry h
 obtain ⟨d,e,g1,g2,h1,h2,dx,dy,q⟩:=h
 exact rc_D I X.A g1 g2 h1 h2 dx dy rx ry hu X.prog X.w X.xe _ ⟨.bl (eqD d e),H,I,rfl,q⟩
theorem mQ {K:Fg}{n:Nat}{M:Mem}{k:D→Mem→Prop}{d1 d2 e1 e2:D} (r1:Rs M d1 e1) (r2:Rs M d2 e2) (h1:okD n e1=true) (h2:okD n e2=true) (h:k (.bl (eqD e1 e2)) M):Op2 K (xS K n false) d1 d2 M k:=fun G H v1 v2 Q rl x y q =>
 ⟨e1,e2,r1.disp,r2.disp,h1,h2,r1.den rl x,r2.den rl y,q _ _ _ _ _ (Stp.refl rl) dG h⟩
end
end Z
namespace Z
open PySem L2
mutual
def toPy:D→PyData
 | .non => .none
 | .bl b => .bool b
 | .int i => .int i
 | .str x => .str x
 | .tup ds => .tuple (toPys ds)
 | .lst ds => .list (toPys ds)
 | .mt _ => .none
 | .fl _ => .none
 | .st _ => .none
def toPys:List D→List PyData
 | []=>[]
 | d::ds=>toPy d::toPys ds
end
mutual
theorem depth_le:∀ (d:D) (n:Nat),okD n d=true→(toPy d).depth≤n
 | .non,_,_=>by simp [toPy,PyData.depth]
 | .bl _,_,_=>by simp [toPy,PyData.depth]
 | .int _,_,_=>by simp [toPy,PyData.depth]
 | .str _,_,_=>by simp [toPy,PyData.depth]
 | .mt _,n,h=>by simp [okD] at h
 | .fl _,n,h=>by simp [okD] at h
 | .st _,n,h=>by simp [okD] at h
 | .tup ds,0,h=>by simp [okD] at h
 | .lst ds,0,h=>by simp [okD] at h
 | .tup ds,n+1,h=>by
  simp only [toPy,PyData.depth]
  have:=depths_le ds n (by simpa only [okD] using h)
  omega
 | .lst ds,n+1,h=>by
  simp only [toPy,PyData.depth]
  have:=depths_le ds n (by simpa only [okD] using h)
  omega
theorem depths_le:∀ (ds:List D) (n:Nat),okDs n ds=true→PyData.depthAll (toPys ds)≤n
 | [],_,_=>by simp [toPys,PyData.depthAll]
 | d::ds,n,h=>by
  simp only [okDs,Bool.and_eq_true] at h
  simp only [toPys,PyData.depthAll]
  have h1:=depth_le d n h.1
  have h2:=depths_le ds n h.2
  omega
end
mutual
theorem noDict:∀ (d:D),(toPy d).hasDict=false
 | .non=>by simp only [toPy,PyData.hasDict]
 | .bl _=>by simp only [toPy,PyData.hasDict]
 | .int _=>by simp only [toPy,PyData.hasDict]
 | .str _=>by simp only [toPy,PyData.hasDict]
 | .mt _=>by simp only [toPy,PyData.hasDict]
 | .fl _=>by simp only [toPy,PyData.hasDict]
 | .st _=>by simp only [toPy,PyData.hasDict]
 | .tup ds=>by simp only [toPy,PyData.hasDict]; exact noDicts ds
 | .lst ds=>by simp only [toPy,PyData.hasDict]; exact noDicts ds
theorem noDicts:∀ (ds:List D),PyData.hasDictAll (toPys ds)=false
 | []=>by simp only [toPys,PyData.hasDictAll]
 | d::ds=>by simp only [toPys,PyData.hasDictAll,noDict d,noDicts ds,Bool.or_false]
end
section
variable {X:Cx}{pins:List (Addr × Obj)}{σ:St}{H:Hp}{s:Shared}
mutual
theorem reads_D (I:Inv X pins σ H s):∀ (d:D) (n:Nat) (v:V) (u:Value),okD n d=true→Den X.K H d v→RelV v u→∃ as,Reads s.heap u (toPy d) as
 | .non,_,v,u,_,x,r=>by rw [x.non_] at r; cases (show u=Value.none from r); exact ⟨_,by simp only [toPy]; exact .none⟩
 | .bl b,_,v,u,_,x,r=>by rw [x.bl_] at r; cases (show u=Value.bool b from r); exact ⟨_,by simp only [toPy]; exact .bool b⟩
 | .int b,_,v,u,_,x,r=>by rw [x.int_] at r; obtain ⟨t,rfl⟩:=r; exact ⟨_,by simp only [toPy]; exact .int b t⟩
 | .str b,_,v,u,_,x,r=>by rw [x.str_] at r; obtain ⟨t,rfl⟩:=r; exact ⟨_,by simp only [toPy]; exact .str b t⟩
 | .mt _,n,_,_,h,_,_=>by simp [okD] at h
 | .fl _,n,_,_,h,_,_=>by simp [okD] at h
 | .st _,n,_,_,h,_,_=>by simp [okD] at h
 | .tup ds,0,_,_,h,_,_=>by simp [okD] at h
 | .lst ds,0,_,_,h,_,_=>by simp [okD] at h
 | .tup ds,n+1,v,u,h,x,r=>by
  obtain ⟨a,its,vs,rfl,⟨o,e1,e2,m,e3⟩,rv,dn⟩:=dD I x r
  obtain ⟨as,q⟩:=readss_D I ds n vs its (by simpa only [okD] using h) dn rv
  exact ⟨as,by simp only [toPy]; exact .tuple e1 e2 e3 (by simpa using q)⟩
 | .lst ds,n+1,v,u,h,x,r=>by
  obtain ⟨a,its,vs,rfl,⟨o,e1,e2,m,e3⟩,rv,dn⟩:=cY I x r
  obtain ⟨as,q⟩:=readss_D I ds n vs its (by simpa only [okD] using h) dn rv
  exact ⟨a::as,by simp only [toPy]; exact .list e1 e2 e3 (by simpa using q)⟩
theorem readss_D (I:Inv X pins σ H s):∀ (ds:List D) (n:Nat) (vs:List V) (us:List Value),okDs n ds=true→Dens X.K H ds vs→Vals vs us→∃ as,ReadsAll s.heap us (toPys ds) as
 | [],_,vs,us,_,x,r=>by
  rw [cJ x] at r
  cases r
  exact ⟨[],by simp only [toPys]; exact .nil⟩
 | d::ds,n,vs,us,h,x,r=>by
  obtain ⟨v,t,rfl,a,b⟩:=bV x
  cases r with
  | cons r1 r2 =>
   simp only [okDs,Bool.and_eq_true] at h
   obtain ⟨as,q⟩:=reads_D I d n v _ h.1 a r1
   obtain ⟨bs,q2⟩:=readss_D I ds n t _ h.2 b r2
   exact ⟨as++bs,by simp only [toPys]; exact .cons q q2⟩
end
end
section
variable {X:Cx}
theorem aE0 {x y:Value} (h:(x == y)=true):x=y:=eq_of_beq h
def eOf (ds:List D) (its:List Value) (c:D) (y:Value):Bool:=match (its.zip ds).find? (fun p=>p.1 == y) with
 | some p=>eqD p.2 c
 | none=>false
theorem uP {pins:List (Addr × Obj)}{σ:St}{H:Hp}{s:Shared} (I:Inv X pins σ H s) {n:Nat}{ds:List D}{vs:List V}{its:List Value} (ok:okDs n ds=true) (dn:Dens X.K H ds vs) (rv:Vals vs its) {c:D}{j:Nat}{y:Value}{d:D}
  (hy:its[j]?=some y) (hd:ds[j]?=some d):eOf ds its c y=eqD d c:=by
 unfold eOf
 have hl:its.length=ds.length:=by rw [dn.len,rv.length]
 have hz:(its.zip ds)[j]?=some (y,d):=by rw [List.getElem?_zip_eq_some]; exact ⟨hy,hd⟩
 cases hf:(its.zip ds).find? (fun p=>p.1 == y) with
 | none =>
  have:=List.find?_eq_none.mp hf (y,d) (List.mem_of_getElem? hz)
  exact absurd (by simp) this
 | some p =>
  have h1:=List.find?_some hf
  have h2:=List.mem_of_find?_eq_some hf
  obtain ⟨i,hi⟩:=List.getElem?_of_mem h2
  obtain ⟨a1,a2⟩:=List.getElem?_zip_eq_some.mp (show (its.zip ds)[i]?=some (p.1,p.2) from hi)
  have ey:p.1=y:=aE0 h1
  rw [ey] at a1
  obtain ⟨v1,w1,q1⟩:=dn.get a2
  obtain ⟨v2,w2,q2⟩:=dn.get hd
  obtain ⟨u1,x1,r1⟩:=rv.get w1
  obtain ⟨u2,x2,r2⟩:=rv.get w2
  rw [a1] at x1; cases x1
  rw [hy] at x2; cases x2
  have:v1=v2:=r1.inj r2
  subst this
  show eqD p.2 c=eqD d c
  rw [den_inj I n p.2 d v1 (cA ok a2) (cA ok hd) q1 q2]
end
end Z
namespace R
open PySem L2
theorem c6 {z:Str}{j:Nat} (h:j < z.length):z.cps.toList[j]?=some (atS z j):=by
 have h':j < z.cps.size:=h
 simp [atS,Array.getD,h']
theorem jE {l:List Nat}{j:Nat}:atS (ofL l) j=l.getD j 0:=by
 unfold atS ofL
 rw [Array.getD_eq_getD_getElem?,List.getElem?_toArray,List.getD_eq_getElem?_getD]
def Good (n:Nat) (zs:List Str):Prop:=∀ z∈zs,z.length=n∧z.cps.toList.all sgn=true
theorem nD {n:Nat}{zs:List Str} (h:Good n zs) {z:Str} (hz:z∈zs) {j:Nat} (hj:j < n):atS z j=35∨atS z j=46:=by
 obtain ⟨h1,h2⟩:=h z hz
 have e:=c6 (z:=z) (j:=j) (by omega)
 have:=List.all_eq_true.mp h2 _ (List.mem_of_getElem? e)
 unfold sgn at this
 rw [Bool.or_eq_true,beq_iff_eq,beq_iff_eq] at this
 exact this
theorem oD (n:Nat):(dots n).length=n:=by unfold dots; rw [kQ,List.length_replicate]
theorem aEO {n:Nat}{z:Str} (hl:z.length=n) (h:∀ j,j < n→atS z j=46):z=dots n:=by
 apply eU
 show z.cps.toList=List.replicate n 46
 apply List.ext_getElem?
 intro j
 by_cases hj:j < n
 ·rw [c6 (by omega),h j hj,List.getElem?_replicate,if_pos hj]
 ·rw [List.getElem?_eq_none (by rw [Array.length_toList]; have:z.cps.size=n:=hl; omega),List.getElem?_eq_none (by simp; omega)]
theorem jI {n j:Nat}:atS (dots n) j=if j < n then 46 else 0:=by
 unfold dots
 rw [jE,List.getD_eq_getElem?_getD,List.getElem?_replicate]
 split <;> rfl
theorem iS {α:Type} (f:Nat→α):∀ p,f p≠f 0→∃ k,k < p∧f k≠f (k+1)
 | 0,h=>absurd rfl h
 | p+1,h=>by
  by_cases e:f p=f 0
  ·exact ⟨p,by omega,by rw [e]; exact Ne.symm h⟩
  ·obtain ⟨k,h1,h2⟩:=iS f p e
   exact ⟨k,by omega,h2⟩
theorem gT {α:Type} (f:Nat→α):∀ m p,f p≠f (p+m)→∃ k,p≤k∧k < p+m∧f k≠f (k+1)
 | 0,p,h=>absurd rfl h
 | m+1,p,h=>by
  by_cases e:f p=f (p+m)
  ·exact ⟨p+m,by omega,by omega,by rw [← e]; exact h⟩
  ·obtain ⟨k,h1,h2,h3⟩:=gT f m p e
   exact ⟨k,h1,by omega,h3⟩
theorem cD {zs:List Str}{i:Nat} (h:i < zs.length):(framed zs)[i+1]?=zs[i]?:=by
 unfold framed
 rw [List.append_assoc,List.singleton_append,List.getElem?_cons_succ,List.getElem?_append_left h]
theorem eM (zs:List Str):(framed zs)[0]?=some (dots ((zs.head?.map (·.length)).getD 0)):=by simp [framed]
theorem c5 (zs:List Str):(framed zs)[zs.length+1]?=some (dots ((zs.head?.map (·.length)).getD 0)):=by
 unfold framed
 rw [List.append_assoc,List.singleton_append,List.getElem?_cons_succ,List.getElem?_append_right (Nat.le_refl _)]
 simp
theorem dM {zs:List Str}{i:Nat} (hz:zs≠[]):i∈chg zs↔i≤zs.length∧(framed zs)[i]?≠(framed zs)[i+1]?:=by
 unfold chg
 have:zs.isEmpty=false:=by cases zs with
  | nil=>exact absurd rfl hz
  | cons _ _=>rfl
 rw [this]
 simp only [Bool.false_eq_true,if_false,List.mem_filter,List.mem_range,Bool.not_eq_true',decide_eq_false_iff_not]
 exact ⟨fun ⟨a,b⟩=>⟨by omega,b⟩,fun ⟨a,b⟩=>⟨by omega,b⟩⟩
theorem b5 {n:Nat}{zs:List Str} (h:∀ z∈zs,z.length=n) (hz:zs≠[]):(zs.head?.map (·.length)).getD 0=n:=by
 cases zs with
 | nil=>exact absurd rfl hz
 | cons z zr=>exact h z (by simp)
theorem aEJ {n:Nat}{zs:List Str} (h:∀ z∈zs,z.length=n) {i:Nat}{z:Str} (hi:zs[i]?=some z) (hz:z≠dots n):2≤(chg zs).length:=by
 have hlt:i < zs.length:=(List.getElem?_eq_some_iff.mp hi).1
 have hne:zs≠[]:=fun e=>by rw [e] at hlt; simp at hlt
 have hw:=b5 h hne
 have f0:(framed zs)[0]?=some (dots n):=by rw [eM,hw]
 have fl:(framed zs)[zs.length+1]?=some (dots n):=by rw [c5,hw]
 have fp:(framed zs)[i+1]?=some z:=by rw [cD hlt,hi]
 obtain ⟨k1,a1,b1⟩:=iS (fun k=>(framed zs)[k]?) (i+1) (by show (framed zs)[i+1]?≠(framed zs)[0]?; rw [fp,f0]; exact fun e=>hz (Option.some.inj e))
 obtain ⟨k2,a2,a3,b2⟩:=gT (fun k=>(framed zs)[k]?) (zs.length - i) (i+1) (by
  show (framed zs)[i+1]?≠(framed zs)[i+1+(zs.length - i)]?
  rw [show i+1+(zs.length - i)=zs.length+1 by omega,fp,fl]; exact fun e=>hz (Option.some.inj e))
 have m1:k1∈chg zs:=(dM hne).mpr ⟨by omega,b1⟩
 have m2:k2∈chg zs:=(dM hne).mpr ⟨by omega,b2⟩
 match hc:chg zs,m1,m2 with
 | [],m1,_=>cases m1
 | [x],m1,m2 =>
  simp at m1 m2
  omega
 | _::_::_,_,_=>simp
def aL (zs:List Str):List Str:=(chg zs).dropLast.map fun i=>zs.getD i Str.empty
theorem iK {zs:List Str}:∀ z∈aL zs,z∈zs:=fun z hz=>by
 obtain ⟨i,hi,rfl⟩:=List.mem_map.mp hz
 have:=hU (bY zs) (dS zs) i hi
 rw [List.getD_eq_getElem?_getD,List.getElem?_eq_getElem this]
 exact List.getElem_mem _
theorem gO {n:Nat}{zs:List Str} (h:Good n zs):Good n (aL zs):=fun z hz=>h z (iK z hz)
theorem dZ (zs:List Str):(aL zs).length=(chg zs).length - 1:=by unfold aL; rw [List.length_map,List.length_dropLast]
theorem n8 {n:Nat}{zs:List Str} (h:∀ z∈zs,z.length=n) (hr:aL zs≠[]):∃ z∈aL zs,z≠dots n:=by
 have h2:2≤(chg zs).length:=by
  have:=List.length_pos_iff.mpr hr
  rw [dZ] at this
  omega
 have hne:zs≠[]:=fun e=>by rw [e] at h2; simp [chg] at h2
 match hc:chg zs,h2 with
 | k0::k1::r,_ =>
  have m0:k0∈chg zs:=by rw [hc]; simp
  have s:=bY zs
  rw [hc] at s
  have hk1:k1≤zs.length:=dS zs k1 (by rw [hc]; simp)
  have hk:k0 < k1:=(List.pairwise_cons.mp s).1 k1 (by simp)
  have hk0:k0 < zs.length:=by omega
  obtain ⟨_,b0⟩:=(dM hne).mp m0
  have same:∀ j,j≤k0→(framed zs)[j]?=(framed zs)[0]?:=fun j hj=>Classical.byContradiction fun q=>by
   obtain ⟨k,a1,b1⟩:=iS (fun k=>(framed zs)[k]?) j q
   have:k∈chg zs:=(dM hne).mpr ⟨by omega,b1⟩
   rw [hc] at this
   rcases List.mem_cons.mp this with rfl | this
   ·omega
   ·have:=(List.pairwise_cons.mp s).1 k this
    omega
  refine ⟨zs.getD k0 Str.empty,?_,fun q=>b0 ?_⟩
  ·unfold aL
   rw [hc]
   simp
  ·rw [same k0 (Nat.le_refl _),eM,b5 h hne,cD hk0,← q,List.getD_eq_getElem?_getD,List.getElem?_eq_getElem hk0]
   rfl
theorem eX {zs:List Str}{n j:Nat} (h:∀ z∈zs,z.length=n) (hz:zs≠[]) (hj:j < n):(aE zs)[j]?=some (ofL (zs.map (atS · j))):=by
 unfold aE
 rw [b5 h hz,List.getElem?_map,List.getElem?_range hj]
 rfl
theorem iG {n:Nat}{zs:List Str} (h:Good n zs):Good zs.length (aE zs):=fun z hz=>by
 refine ⟨dW z hz,?_⟩
 obtain ⟨j,hj,rfl⟩:=List.mem_map.mp hz
 rw [List.mem_range] at hj
 show (zs.map (atS · j)).all sgn=true
 rw [List.all_eq_true]
 intro c hc
 obtain ⟨z,hz,rfl⟩:=List.mem_map.mp hc
 have hne:zs≠[]:=fun e=>by rw [e] at hz; cases hz
 rw [b5 (fun z hz=>(h z hz).1) hne] at hj
 rcases nD h hz hj with e | e <;> rw [e] <;> rfl
structure Wf (nx ny:Nat) (zs:List Str):Prop where
 rows:zs.length+1=ny∨(nx=0∧ny=0∧zs=[])
 good:Good (nx - 1) zs
 wide:0 < nx∨(nx=0∧ny=0∧zs=[])
theorem sQ {n:Nat}{zs:List Str} (h:Good n zs) {z:Str} (hz:z∈zs) (hd:z≠dots n):∃ j,j < n∧atS z j=35:=by
 refine Classical.byContradiction fun q=>hd (aEO (h z hz).1 fun j hj => ?_)
 rcases nD h hz hj with e | e
 ·exact absurd ⟨j,hj,e⟩ q
 ·exact e
theorem aD0 {n:Nat}{zs:List Str} (h:Good n zs) (hr:aL zs≠[]) :
  2≤(chg (aE (aL zs))).length∧Wf (chg (aE (aL zs))).length (chg zs).length (aE (aL (aE (aL zs))))∧(aE (aL (aE (aL zs)))).length=(aL zs).length:=by
 have g1:=gO h
 obtain ⟨z,hz,hd⟩:=n8 (fun z hz=>(h z hz).1) hr
 obtain ⟨j,hj,e35⟩:=sQ g1 hz hd
 have gc:=iG g1
 have hc:=eX (fun z hz=>(g1 z hz).1) hr hj
 have hnd:ofL ((aL zs).map (atS · j))≠dots (aL zs).length:=fun q=>by
  obtain ⟨i,hi,ez⟩:=List.getElem_of_mem hz
  have e1:atS (ofL ((aL zs).map (atS · j))) i=35:=by
   rw [jE,List.getD_eq_getElem?_getD,List.getElem?_map,List.getElem?_eq_getElem hi,ez]
   exact e35
  rw [q,jI,if_pos hi] at e1
  cases e1
 have c2:=aEJ (fun z hz=>(gc z hz).1) hc hnd
 have hk:aL (aE (aL zs))≠[]:=fun q=>by
  have:=dZ (aE (aL zs))
  rw [q] at this
  simp at this
  omega
 have g2:=gO gc
 have l2:=(oC (fun z hz=>(g2 z hz).1)).2 hk
 have zl:=dZ zs
 have pos:=List.length_pos_iff.mpr hr
 refine ⟨c2,⟨.inl (by rw [l2]; omega),?_, .inl (by omega)⟩,l2⟩
 have g3:=iG g2
 rw [dZ] at g3
 exact g3
def bC (zs:List Str) (a u:Int):Bool:=decide (0≤u) && decide (0≤a) && ((zs[u.toNat]?).bind fun z=>z.cps.toList[a.toNat]?) == some 35
theorem fP {zs:List Str}{a u:Int} (h:u < 0):bC zs a u=false:=by
 unfold bC; rw [decide_eq_false (by omega)]; rfl
theorem dX {zs:List Str}{a u:Int} (h:a < 0):bC zs a u=false:=by
 unfold bC; rw [decide_eq_false (show ¬ (0:Int)≤a by omega),Bool.and_false]; rfl
theorem fV {zs:List Str}{a u:Int} (h:(zs.length:Int)≤u):bC zs a u=false:=by
 unfold bC
 rw [List.getElem?_eq_none (by omega)]
 simp
theorem kE {zs:List Str}{a u:Int}{z:Str} (e:zs[u.toNat]?=some z) (h:(z.length:Int)≤a):bC zs a u=false:=by
 unfold bC
 rw [e]
 have:z.cps.toList[a.toNat]?=none:=List.getElem?_eq_none (by rw [Array.length_toList]; have:z.cps.size=z.length:=rfl; omega)
 rw [Option.bind_some,this]
 cases decide (0≤u) <;> cases decide (0≤a) <;> rfl
theorem gD {zs:List Str}{a u:Int}{z:Str}{c:Nat} (hu:0≤u) (ha:0≤a) (e:zs[u.toNat]?=some z) (ec:z.cps.toList[a.toNat]?=some c):bC zs a u=decide (c=35):=by
 unfold bC
 rw [decide_eq_true hu,decide_eq_true ha,e]
 simp only [Option.bind_some,ec,Bool.and_true,Bool.true_and]
 by_cases h:c=35
 ·subst h; rfl
 ·rw [decide_eq_false h]; simp [h]
def sg (b:Bool):Nat:=if b then 35 else 46
end R
namespace Q
open PySem L2 Z
theorem BMin:bootBuiltins "min" = some (.builtin "min"):=by decide +kernel
structure Bt (mg:Str→Option Value):Prop where
 len:mg "len" = none
 abs:mg "abs" = none
 int:mg "int" = none
 min:mg "min" = none
 max:mg "max" = none
 range:mg "range" = none
 list:mg "list" = none
 tuple:mg "tuple" = none
 repr:mg "repr" = none
 all:mg "all" = none
 any:mg "any" = none
 enumerate:mg "enumerate" = none
 isi:mg "isinstance" = none
 bool:mg "bool" = none
 str:mg "str" = none
 zip:mg "zip" = none
 reversed:mg "reversed" = none
 sorted:mg "sorted" = none
 dict:mg "dict" = none
def FdM (M:Mem) (p:Addr) (b:Int):Prop:=∃ g m st:Int,M p=some (.lst [.int g, .int m, .int st])∧0≤g∧0≤m∧m < 2147483399∧0≤st∧st≤b
def cK (p:Addr) (M M':Mem):Prop:=∀ a o,a≠p→M a=some o→M' a=some o
theorem cK.refl (p:Addr) (M:Mem):cK p M M:=fun _ _ _ h=>h
theorem cK.trans {p:Addr}{M M1 M2:Mem} (a:cK p M M1) (b:cK p M1 M2):cK p M M2:=fun c o n h=>b c o n (a c o n h)
theorem cK.upd {p:Addr}{M M':Mem}{o:MO} (h:cK p M M'):cK p M (eY M' p o):=fun a u n e=>by rw [dN n]; exact h a u n e
theorem cK.new {p a:Addr}{M M':Mem}{o:MO} (h:cK p M M') (n:M a=none):cK p M (eY M' a o):=fun b u nb e=>by
 rw [dN (fun z=>by rw [z,n] at e; cases e)]; exact h b u nb e
theorem FdM.mono {M:Mem}{p:Addr}{b c:Int} (h:FdM M p b) (l:b≤c):FdM M p c:=by
 obtain ⟨g,m,st,e,h1,h2,h3,h4,h5⟩:=h
 exact ⟨g,m,st,e,h1,h2,h3,h4,by omega⟩
theorem FdM.ne {M:Mem}{p a:Addr}{b:Int} (h:FdM M p b) (n:M a=none):a≠p:=fun z=>by
 obtain ⟨g,m,st,e,_⟩:=h
 rw [← z,n] at e; cases e
theorem FdM.new {M:Mem}{p a:Addr}{b:Int}{o:MO} (h:FdM M p b) (n:a≠p):FdM (eY M a o) p b:=by
 obtain ⟨g,m,st,e,r⟩:=h
 exact ⟨g,m,st,by rw [dN (Ne.symm n)]; exact e,r⟩
def aHO:Ct:=fun ds M k=>∃ (ns:List Int) (i:Int),ds=[.fl (ns.map .int), .int i]∧0≤i∧i < 2 ^ 40∧∀ p M',M p=none→Le M M'→FdM M' p 0→k (.mt p) M'
def aHX:Ct:=fun ds M k=>∃ (p:Addr) (n b:Int),ds=[.mt p, .int n]∧0 < n∧n < 1073741824∧FdM M p b∧b≤1000000∧∀ z M',0≤z→z < n→FdM M' p (b+1)→cK p M M'→(∀ a,a≠p→M' a=M a)→k (.int z) M'
def aE9:Ct:=fun ds M k=>∃ a b:Int,ds=[.int a, .int b]∧k (.int ((Int.gcd a b:Nat):Int)) M
theorem aBA {ns:List Int}{k:Int} (h0:0≤k) (h:k < ns.length):∃ z:Int,atI (ns.map D.int) k=some (.int z):=by
 obtain ⟨j,rfl⟩:∃ j:Nat,k=(j:Int):=⟨k.toNat,by omega⟩
 have hj:j < ns.length:=by omega
 exact ⟨ns[j],gN (by simp [hj])⟩
theorem hV {M:Mem}{a:Addr}{o:MO} (h:M a=none):jV (eY M a o) a=M:=by
 funext b
 unfold jV eY
 by_cases e:b=a
 ·rw [if_pos e,e,h]
 ·rw [if_neg e,if_neg e]
def aC5 (bt at_:Int):D := .tup [.int (at_ / ((Int.gcd at_ bt:Nat):Int)), .int (bt / ((Int.gcd at_ bt:Nat):Int))]
structure Ats (bt:Int) (ats:List Int):Prop where
 bt:bt=1∨bt=2∨bt=9
 up:ats.Pairwise (· < ·)
 bd:∀ a∈ats, -20≤a∧a≤10 ^ 10
def lJ (xs:List D) (js:List Nat):List D:=js.map fun j=>xs.getD j .non
def nK (xs ys:List D) (zs:List Str):D := .tup [.tup xs, .tup ys, .tup (zs.map .str)]
structure YardOk (xs ys:List D) (zs:List Str):Prop where
 lx:∃ bt ats,xs=ats.map (aC5 bt)∧Ats bt ats
 ly:∃ bt ats,ys=ats.map (aC5 bt)∧Ats bt ats
 wf:R.Wf xs.length ys.length zs
 few:xs.length≤21∧ys.length≤21
 full:zs=[]→xs=[]∧ys=[]
theorem bZ {α β:Type}{f:α→β}{l:List α}{i:Nat}{y:β} (h:(l.map f)[i]?=some y):∃ x,l[i]?=some x∧y=f x:=by
 rw [List.getElem?_map] at h
 cases e:l[i]? with
 | none=>rw [e] at h; cases h
 | some x=>rw [e] at h; exact ⟨x,rfl,(Option.some.inj h).symm⟩
end Q
namespace PySem
open Sem (wp)
open AutoSeq1 (wpAny_loadPart')
section
variable {prog:Program}{w:World}{A:Around}{E:Value→Shared→Prop}{s:Shared}
end
section
variable {prog:Program}{w:World}{A:Around}{E:Value→Shared→Prop}{s:Shared}
end
end PySem
namespace L2
open PySem PySem.Spec PyProof.Rows
section
variable {X:Cx}{pins:List (Addr × Obj)}{σ:St}{H:Hp}{s:Shared}{h':Heap}
end
end L2
namespace Z
open PySem L2
section
variable {X:Cx}{Γ:Gm}{M:Mem}{k:D→Mem→Prop}{pos:Pos}{a b:Expr}{rest:List Expr}
end
end Z
namespace Z
open PySem L2
end Z
namespace Q
open PySem L2 Z
theorem uA {n:Nat} (h:n≤1000):("." : Str).length * ((n:Int)).toNat≤sizeLine:=by
 have e:("." : Str).length=1:=by decide +kernel
 rw [e,Int.toNat_natCast,Nat.one_mul]
 exact R.aQ (by omega)
theorem i9 {zs:List Str}{i:Nat} (h:i < zs.length+2):∃ u,(R.framed zs)[i]?=some u:=⟨(R.framed zs)[i]'(by rw [R.fQ]; exact h),by simp [R.fQ,h]⟩
theorem nR {zs:List Str}{i:Nat}{z:Str} (h:zs[i]?=some z):atI (zs.map D.str) (0+(i:Int))=some (.str z):=by
 rw [Int.zero_add]; exact gN (by rw [List.getElem?_map,h]; rfl)
theorem rS {zs:List Str}{i:Nat}{z:Str} (h:zs[i+1]?=some z):atI (zs.map D.str) (0+(i:Int)+1)=some (.str z):=by
 rw [Int.zero_add]; exact gN (j:=i+1) (by rw [List.getElem?_map,h]; rfl)
def dF (l:List Nat):List D:=l.map fun (i:Nat)=>D.int (i:Int)
theorem gJ {l:List Nat}{i:Nat}{d:D} (h:(dF l)[i]?=some d):∃ j,l[i]?=some j∧d = .int (j:Int):=bZ h
theorem cR (l:List Nat):(dF l).length=l.length:=by simp [dF]
theorem yF {zs:List Str}:(List.range (zs.length+1)).filter (fun i => !decide ((R.framed zs)[i]?=(R.framed zs)[i+1]?))=R.chg zs:=by
 unfold R.chg
 cases zs with
 | nil=>rfl
 | cons z zr=>rfl
theorem iA {p:Nat→Bool}{n:Nat}:(List.range (n+1)).filter p=if p n=true then (List.range n).filter p++[n] else (List.range n).filter p:=by
 rw [List.range_succ,List.filter_append]
 by_cases h:p n=true
 ·rw [if_pos h,List.filter_cons_of_pos h]; rfl
 ·rw [if_neg h,List.filter_cons_of_neg h,List.filter_nil,List.append_nil]
theorem kA {α:Type} (l:List α):cutD l none (some (-1))=l.dropLast:=by
 unfold cutD
 have e1:HT.sIx l.length 0 none=0:=rfl
 have e2:HT.sIx l.length l.length (some (-1))=l.length - 1:=by
  show (if (-1:Int) < 0 then ((-1:Int)+(l.length:Int)).toNat else min (-1:Int).toNat l.length)=l.length - 1
  rw [if_pos (by decide)]; omega
 rw [e1,e2,List.drop_zero,Nat.sub_zero,List.dropLast_eq_take]
theorem gB (l:List Nat):(dF l).dropLast=dF l.dropLast:=by simp [dF,List.map_dropLast]
theorem cB {α β:Type}{f:α→β}{l:List α}{i:Nat}{x:α} (h:l[i]?=some x):(l.take (i+1)).map f=(l.take i).map f++[f x]:=by
 rw [take_snoc h,List.map_append]; rfl
theorem xX {xs:List D}{j:Nat} (h:j < xs.length):atI xs (j:Int)=some (xs.getD j .non):=gN (by simp [h])
theorem nX (l:List Str) (h:∀ z∈l,z.length=1):(l.map (·.length)).sum=l.length:=by
 induction l with
 | nil=>rfl
 | cons a l ih =>
  rw [List.map_cons,List.sum_cons,ih fun z hz=>h z (by simp [hz]),h a (by simp),List.length_cons,Nat.add_comm]
theorem sV (zs:List Str) (j:Nat):PySem.Txt.join Str.empty (zs.map fun z=>(⟨#[R.atS z j]⟩:Str))=R.ofL (zs.map (R.atS · j)):=by
 have:=R.pL (zs.map (R.atS · j))
 rw [List.map_map] at this
 exact this
theorem map_nil {α β:Type}{f:α→β}{l:List α} (h:decide (l.map f=[])=true):l=[]:=by
 have:=of_decide_eq_true h
 cases l with
 | nil=>rfl
 | cons a l=>cases this
end Q
namespace R
open PySem L2
theorem units_le {A:Around}{k n:Nat} (hr:Room k A) (h:n≤64:=by decide):A.units+n < cLine:=by have:=hr.units; omega
end R
namespace Q
open PySem L2 Z
theorem FdM.del {M:Mem}{p a:Addr}{b:Int} (h:FdM M p b) (n:a≠p):FdM (jV M a) p b:=by
 obtain ⟨g,m,st,e,r⟩:=h
 exact ⟨g,m,st,by rw [kM (Ne.symm n)]; exact e,r⟩
theorem cK.del {p a:Addr}{M M':Mem} (h:cK p M M') (n:M a=none):cK p M (jV M' a):=fun b u nb e=>by
 rw [kM (fun z=>by rw [z,n] at e; cases e)]; exact h b u nb e
theorem cK.none_of {p a:Addr}{M M':Mem} (h:cK p M M') (n:M' a=none) (np:a≠p):M a=none:=by
 cases e:M a with
 | none=>rfl
 | some o=>rw [h a o np e] at n; cases n
theorem yG {n:Nat}{zs:List Str} (h:R.Good n zs) {cs:List Nat} (hl:cs.length=n) (hs:∀ c∈cs,c=35∨c=46):R.Good n (zs++[R.ofL cs]):=fun z hz=>by
 rcases List.mem_append.mp hz with hz | hz
 ·exact h z hz
 ·rw [List.mem_singleton] at hz
  subst hz
  refine ⟨by rw [R.kQ]; exact hl,?_⟩
  show cs.all R.sgn=true
  rw [List.all_eq_true]
  intro c hc
  rcases hs c hc with rfl | rfl <;> rfl
theorem aDP (l:List Nat):((l.map fun c=>(⟨#[c]⟩:Str)).map (·.length)).sum=l.length:=by
 rw [nX _ fun z hz=>by obtain ⟨c,_,rfl⟩:=List.mem_map.mp hz; rfl,List.length_map]
end Q
namespace Z
open PySem L2
section
variable {K:Fg}{M:Mem}{k:D→Mem→Prop}
end
end Z
namespace L2
open PySem PySem.Spec PyProof.Rows
section
variable {X:Cx}
end
end L2
namespace Z
open PySem L2
section
variable {K:Fg}{M:Mem}{k:D→Mem→Prop}
end
end Z
namespace Q
open PySem L2 Z
end Q
namespace HT
open PySem PySem.Spec PyProof.Rows
section
variable {prog:Program}{w:World}{A:Around}{E:Value→Shared→Prop}{s:Shared}
end
end HT
namespace L2
open PySem PySem.Spec PyProof.Rows
section
variable {X:Cx}
end
end L2
namespace Z
open PySem L2
section
variable {X:Cx}{Γ:Gm}{M:Mem}{k:D→Mem→Prop}{e:Expr}
end
end Z
namespace Z
open PySem L2
section
variable {X:Cx}{Γ:Gm}{M:Mem}{k:D→Mem→Prop}
def vC (K:Fg) (n:Nat):V→List V→Hp→VK→Prop:=fun x vs H Q=>∃ (c d:D) (ds:List D) (v:V) (j:Nat),vs=[v]∧okD n c=true∧okDs n ds=true∧Den K H c v∧Den K H (.lst ds) x∧ds[j]?=some d∧eqD d c=true∧(∀ m e,m < j→ds[m]?=some e→eqD e c=false)∧ds.length≤100000∧Q (.int (j:Int)) H
theorem yU {n:Nat} (hu:X.A.units+(n+1) < cLine):MtR X "list.index" (vC X.K n):=by
 intro pins s σ H x vs v us Q I rx rv h
 obtain ⟨c,d,ds,u,j,rfl,okc,okd,dc,dx,hj,he,hno,hl,q⟩:=h
 obtain ⟨w,rfl,rw'⟩:=vals1 rv
 obtain ⟨a,its,ws,rfl,it,rs,dn⟩:=cY I dx rx
 obtain ⟨⟨cls,dd,data,sl⟩,ho,hc,nn,hd⟩:=id it
 have hc':cls = .type "list" := hc
 have hd':data = .seq its.toArray nn:=hd
 subst hc' hd'
 have le:ds.length=its.length:=by rw [dn.len,rs.length]
 have hjl:j < ds.length:=(List.getElem?_eq_some_iff.mp hj).1
 refine PySem.call_meets PySem.F.slot_list_index ⟨_,ho,rfl⟩ PySem.F.entry_list_index (PySem.F.args_list_index_2 _ _) (SeqAt.list_indexAt a its.toArray nn dd sl w (eOf ds its c) j (by simp; omega) (by omega) ?_ ?_) ⟨ho,fun y hy => ?_,?_⟩
 ·have e1:its[j]?=some (its[j]'(by omega)):=List.getElem?_eq_getElem (by omega)
  exact (uP I okd dn rs e1 hj).trans he
 ·intro m hm hlt
  have e1:its[m]?=some (its[m]'(by omega)):=List.getElem?_eq_getElem (by omega)
  have e2:ds[m]?=some (ds[m]'(by omega)):=List.getElem?_eq_getElem (by omega)
  exact (uP I okd dn rs e1 e2).trans (hno m _ hlt e2)
 ·obtain ⟨j,hj⟩:=List.getElem?_of_mem (show y∈its by simpa using hy)
  have hlt:j < ws.length:=by rw [rs.length]; exact (List.getElem?_eq_some_iff.mp hj).1
  obtain ⟨u2,e2,r1⟩:=rs.get (List.getElem?_eq_getElem hlt)
  rw [hj] at e2; cases e2
  obtain ⟨e,e2,q2⟩:=dn.get' (List.getElem?_eq_getElem hlt)
  rw [uP I okd dn rs hj e2]
  exact eqAt_D I e n c _ u y w X.A.in1 (cA okd e2) okc q2 dc r1 rw' (by show X.A.units+1+n < cLine; omega)
 ·exact ⟨.int _,H,I.tok _,⟨_,rfl⟩,q⟩
theorem zO {K:Fg}{n:Nat}{c d:D}{ds:List D}{j:Nat} (okc:okD n c=true) (okd:okDs n ds=true) (hj:ds[j]?=some d) (he:eqD d c=true) (hno:∀ m e,m < j→ds[m]?=some e→eqD e c=false) (hl:ds.length≤100000) (h:k (.int (j:Int)) M):OpM K (vC K n) (.lst ds) [c] M k:=fun G H v vs Q rl e e2 q=>by
 obtain ⟨u,rfl,du⟩:=dens1 e2
 exact ⟨c,d,ds,u,j,rfl,okc,okd,du.up rl.same,e.up rl.same,hj,he,hno,hl,q _ _ _ _ _ (Stp.refl rl) cS h⟩
end
end Z
namespace Q
open PySem L2 Z
end Q
namespace Z
open PySem L2
theorem slen (a b:Str):(a++b).length=a.length+b.length:=by
 show (a.cps++b.cps).size=_
 rw [Array.size_append]; rfl
theorem n9:∀ (ts:List Str) (k:Nat) (acc:Str),(textFrom k acc ts).length≤acc.length+(ts.map (·.length)).sum+2 * ts.length
 | [],k,acc=>by simp [textFrom]
 | t::ts,k,acc=>by
  have ih:=n9 ts (k+1) (acc++(if k > 0 then ", " else "" : String)++t)
  have e:(acc++((if k > 0 then ", " else "" : String):Str)++t).length≤acc.length+2+t.length:=by
   rw [slen,slen]
   split
   ·have:((", " : String):Str).length=2:=by decide +kernel
    omega
   ·have:(("" : String):Str).length=0:=by decide +kernel
    omega
  show (textFrom (k+1) (acc++(if k > 0 then ", " else "" : String)++t) ts).length≤_
  rw [List.map_cons,List.sum_cons,List.length_cons]
  omega
theorem uX (ts:List Str):(listText ts).length≤(ts.map (·.length)).sum+2 * ts.length+2:=by
 unfold listText
 rw [slen]
 have h:=n9 ts 0 "["
 have e1:("[" : Str).length=1:=by decide +kernel
 have e2:("]" : Str).length=1:=by decide +kernel
 omega
theorem join_le:∀ ts:List Str,(Str.join ", " ts).length≤(ts.map (·.length)).sum+2 * ts.length
 | []=>by show (Str.empty).length≤_; exact Nat.zero_le _
 | [x]=>by show x.length≤_; simp
 | x::y::r=>by
  have ih:=join_le (y::r)
  show (x ++ ", " ++ Str.join ", " (y::r)).length≤_
  rw [slen,slen]
  have e2:((", " : String):Str).length=2:=by decide +kernel
  rw [List.map_cons,List.sum_cons,List.length_cons]
  omega
theorem sM (ts:List Str):(tupleText ts).length≤(ts.map (·.length)).sum+2 * ts.length+3:=by
 unfold tupleText
 rw [slen,slen]
 have h:=join_le ts
 have e1:("(" : Str).length=1:=by decide +kernel
 have e2:(((if ts.length == 1 then ",)" else ")" : String)):Str).length≤2:=by split <;> decide +kernel
 omega
mutual
def smD:D→Bool
 | .non | .bl _ | .str _=>true
 | .int i=>decide (i.natAbs < 10 ^ 65)
 | .tup ds=>smDs ds
 | .lst ds=>smDs ds
 | .mt _ | .fl _ | .st _=>false
def smDs:List D→Bool
 | []=>true
 | d::ds=>smD d && smDs ds
end
mutual
def wt:D→Nat
 | .non=>4
 | .bl _=>5
 | .int _=>66
 | .str x=>(reprText x).length
 | .tup ds=>wts ds+3
 | .lst ds=>wts ds+2
 | .mt _ | .fl _ | .st _=>0
def wts:List D→Nat
 | []=>0
 | d::ds=>wt d+2+wts ds
end
mutual
theorem shown_le:∀ d:D,smD d=true→(toPy d).showable=true∧(toPy d).shown.length≤wt d
 | .non,_=>by simp only [toPy,PyData.showable,PyData.shown,wt]; exact ⟨trivial,by decide +kernel⟩
 | .bl b,_=>by simp only [toPy,PyData.showable,PyData.shown,wt]; exact ⟨trivial,by cases b <;> decide +kernel⟩
 | .str x,_=>by simp only [toPy,PyData.showable,PyData.shown,wt]; exact ⟨trivial,Nat.le_refl _⟩
 | .int i,h=>by
  simp only [smD,decide_eq_true_eq] at h
  simp only [toPy,PyData.showable,PyData.shown,wt,decide_eq_true_eq]
  refine ⟨?_,?_⟩
  ·have h2:i.natAbs < 2 ^ 1920:=Nat.lt_of_lt_of_le h (by decide)
   by_cases h0:i.natAbs=0
   ·rw [h0]; decide
   ·exact (Nat.log2_lt h0).mpr h2
  ·have:=int_text_length_le10 (a:=i) (k:=65) (by decide) h
   show (Str.ofString (toString i)).length≤66
   rw [ofString_length]; exact this
 | .mt _,h=>by simp [smD] at h
 | .fl _,h=>by simp [smD] at h
 | .st _,h=>by simp [smD] at h
 | .tup ds,h=>by
  simp only [smD] at h
  obtain ⟨h1,h2⟩:=showns_le ds h
  simp only [toPy,PyData.showable,PyData.shown,wt]
  exact ⟨h1,Nat.le_trans (sM _) (by omega)⟩
 | .lst ds,h=>by
  simp only [smD] at h
  obtain ⟨h1,h2⟩:=showns_le ds h
  simp only [toPy,PyData.showable,PyData.shown,wt]
  exact ⟨h1,Nat.le_trans (uX _) (by omega)⟩
theorem showns_le:∀ ds:List D,smDs ds=true→PyData.showableAll (toPys ds)=true∧((PyData.shownAll (toPys ds)).map (·.length)).sum+2 * (PyData.shownAll (toPys ds)).length≤wts ds
 | [],_=>by simp [toPys,PyData.showableAll,PyData.shownAll,wts]
 | d::ds,h=>by
  simp only [smDs,Bool.and_eq_true] at h
  obtain ⟨a1,a2⟩:=shown_le d h.1
  obtain ⟨b1,b2⟩:=showns_le ds h.2
  simp only [toPys,PyData.showableAll,PyData.shownAll,wts,List.map_cons,List.sum_cons,List.length_cons]
  exact ⟨by rw [a1,b1]; rfl,by omega⟩
end
theorem kI {n:Nat}:∀ {ds:List D},(∀ d∈ds,okD n d=true)→okDs n ds=true
 | [],_=>by simp only [okDs]
 | d::ds,h=>by
  have ih:=kI (ds:=ds) fun e he=>h e (List.mem_cons_of_mem _ he)
  simp only [okDs,h d (by simp),ih,Bool.and_true]
end Z
namespace Q
open PySem L2 Z
def pairD (p:Int × Int):D := .tup [.int p.1, .int p.2]
def xG:Ct:=fun ds M k=>∃ ns:List Int,ds=[.fl (ns.map .int)]∧ns.length≤63∧∀ M',k (.bl true) M'
end Q
namespace L2
open PySem PySem.Spec PyProof.Rows
section
variable {X:Cx}
end
end L2
namespace Z
open PySem L2
section
variable {X:Cx}{Γ:Gm}{M:Mem}{k:D→Mem→Prop}{pos:Pos}{a b:Expr}{rest:List Expr}
end
section
variable {X:Cx}{pins:List (Addr × Obj)}{σ:St}{H:Hp}{s:Shared}
theorem aF0 (I:Inv X pins σ H s) {n:Nat}{d e:D}{v u:V}{v' u':Value} (A:Around) (g1:Disp d) (g2:Disp e) (h1:okD n d=true) (h2:okD n e=true) (x:Den X.K H d v) (y:Den X.K H e u) (rx:RelV v v') (ry:RelV u u') (hu:A.units+n < cLine):SeqAt.RcNeAt A s v' u' (!eqD d e):=by
 cases g1 with
 | tup ds =>
  obtain ⟨a,its,vs,rfl,it,rv,dn⟩:=dD I x rx
  cases g2 with
  | lst es=>obtain ⟨b,its2,vs2,rfl,it2,_⟩:=cY I y ry; simp only [eqD]; exact SeqAt.RcNeAt.tuple_list it it2 (by omega)
  | tup es =>
   obtain ⟨b,its2,vs2,rfl,it2,rv2,dn2⟩:=dD I y ry
   cases n with
   | zero=>simp [okD] at h1
   | succ n =>
    have k1:okDs n ds=true:=by simpa only [okD] using h1
    have k2:okDs n es=true:=by simpa only [okD] using h2
    have:=SeqAt.RcNeAt.tuples (A:=A) (s:=s) (e:=eqJ ds es) it it2 (by omega) (fun j g1 g2=>by
     obtain ⟨c,v1,e1,q1,r1⟩:=dJ dn rv g1
     obtain ⟨c2,v2,e2,q2,r2⟩:=dJ dn2 rv2 g2
     have:=eqAt_D I c n c2 v1 v2 _ _ A.in1 (cA k1 e1) (cA k2 e2) q1 q2 r1 r2 (by show A.units+1+n < cLine; omega)
     unfold eqJ; rw [e1,e2]; exact this)
    rw [List.size_toArray,List.size_toArray,← rv.length,← rv2.length,← dn.len,← dn2.len,eV] at this
    simp only [eqD]; exact this
 | lst ds =>
  obtain ⟨a,its,vs,rfl,it,rv,dn⟩:=cY I x rx
  cases g2 with
  | tup es=>obtain ⟨b,its2,vs2,rfl,it2,_⟩:=dD I y ry; simp only [eqD]; exact SeqAt.RcNeAt.list_tuple it it2 (by omega)
  | lst es =>
   obtain ⟨b,its2,vs2,rfl,it2,rv2,dn2⟩:=cY I y ry
   cases n with
   | zero=>simp [okD] at h1
   | succ n =>
    have k1:okDs n ds=true:=by simpa only [okD] using h1
    have k2:okDs n es=true:=by simpa only [okD] using h2
    simp only [eqD]
    by_cases hl:ds.length=es.length
    ·have hsz:its.toArray.size=its2.toArray.size:=by rw [List.size_toArray,List.size_toArray,← rv.length,← rv2.length,← dn.len,← dn2.len,hl]
     have:=SeqAt.RcNeAt.lists (A:=A) (s:=s) (e:=eqJ ds es) it it2 hsz (by omega) (fun j g1 g2=>by
      obtain ⟨c,v1,e1,q1,r1⟩:=dJ dn rv g1
      obtain ⟨c2,v2,e2,q2,r2⟩:=dJ dn2 rv2 g2
      have:=eqAt_D I c n c2 v1 v2 _ _ A.in1 (cA k1 e1) (cA k2 e2) q1 q2 r1 r2 (by show A.units+1+n < cLine; omega)
      unfold eqJ; rw [e1,e2]; exact this)
     have e3:=eV ds es
     rw [← hl,Nat.min_self,beq_self_eq_true,Bool.and_true] at e3
     rw [List.size_toArray,← rv.length,← dn.len,e3] at this
     exact this
    ·have hsz:(its.toArray.size != its2.toArray.size)=true:=by rw [bne_iff_ne,List.size_toArray,List.size_toArray,← rv.length,← rv2.length,← dn.len,← dn2.len]; exact hl
     have e3:=eV ds es
     rw [beq_eq_false_iff_ne.mpr hl,Bool.and_false] at e3
     rw [← e3]
     exact SeqAt.RcNeAt.lists_lengths it it2 hsz (by omega)
end
section
variable {X:Cx}
theorem tD {n:Nat} (hu:X.A.units+n < cLine):OpR X (compareOp .NotEq) (xS X.K n true):=by
 intro pins s σ H x y v u Q I rx ry h
 obtain ⟨d,e,g1,g2,h1,h2,dx,dy,q⟩:=h
 exact aF0 I X.A g1 g2 h1 h2 dx dy rx ry hu X.prog X.w X.xe _ ⟨.bl (!eqD d e),H,I,rfl,q⟩
theorem tN {K:Fg}{n:Nat}{M:Mem}{k:D→Mem→Prop}{d1 d2 e1 e2:D} (r1:Rs M d1 e1) (r2:Rs M d2 e2) (h1:okD n e1=true) (h2:okD n e2=true) (h:k (.bl (!eqD e1 e2)) M):Op2 K (xS K n true) d1 d2 M k:=fun G H v1 v2 Q rl x y q =>
 ⟨e1,e2,r1.disp,r2.disp,h1,h2,r1.den rl x,r2.den rl y,q _ _ _ _ _ (Stp.refl rl) dG h⟩
end
section
variable {X:Cx}{M:Mem}{k:D→Mem→Prop}{K:Fg}
end
end Z
namespace Z
open PySem L2 PySem.Spec PyProof.Rows
def tyN:D→String
 | .non => "NoneType"
 | .bl _ => "bool"
 | .int _ => "int"
 | .str _ => "str"
 | .tup _ => "tuple"
 | .lst _ | .fl _ | .mt _ | .st _ => "list"
def isN (T S:String):Bool:=S == T || (S == "bool" && T == "int")
def isD (T:String) (d:D):Bool:=isN T (tyN d)
def Plain5 (T:String):Prop:=T = "int" ∨ T = "bool" ∨ T = "str" ∨ T = "tuple" ∨ T = "list"
theorem aH1 {K:Fg}{T S:String} (h:Plain5 T) (h2:S = "NoneType" ∨ Plain5 S):PySem.W.kitOne K (.type S) (.type T)=some (isN T S):=by
 rcases h with rfl | rfl | rfl | rfl | rfl <;> rcases h2 with rfl | rfl | rfl | rfl | rfl | rfl <;> first
  | exact aG2 (by decide +kernel) (by decide +kernel) (by decide +kernel)
  | (rw [aBG (by decide +kernel)]; decide +kernel)
theorem aFZ (d:D):tyN d = "NoneType" ∨ Plain5 (tyN d):=by
 cases d with
 | non=>exact .inl rfl
 | bl b=>exact .inr (.inr (.inl rfl))
 | int b=>exact .inr (.inl rfl)
 | str b=>exact .inr (.inr (.inr (.inl rfl)))
 | tup b=>exact .inr (.inr (.inr (.inr (.inl rfl))))
 | lst b=>exact .inr (.inr (.inr (.inr (.inr rfl))))
 | fl b=>exact .inr (.inr (.inr (.inr (.inr rfl))))
 | mt b=>exact .inr (.inr (.inr (.inr (.inr rfl))))
 | st b=>exact .inr (.inr (.inr (.inr (.inr rfl))))
theorem aHH {K:Fg}{T:String} (h:Plain5 T) (d:D):PySem.W.kitOne K (.type (tyN d)) (.type T)=some (isD T d):=aH1 h (aFZ d)
def Slv:D→Prop
 | .mt _ | .st _=>False
 | _=>True
theorem aAX {X:Cx}{T:String} (hT:Plain5 T):eO X (.builtin "isinstance") (fun xs H Q=>∃ x d,xs=[x, .ty T]∧Slv d∧Den X.K H d x∧Q (.bl (isD T d)) H):=by
 intro pins s σ H xs us Q I r h
 obtain ⟨x,d,rfl,nm,dx,q⟩:=h
 obtain ⟨u,w',rfl,rx,r2⟩:=vals2 r
 cases (show w'=Value.type T from r2)
 have e:=aHH (K:=X.K) hT d
 have fin:∀ tk,∃ v H',Inv X pins σ H' { s with toks:=tk }∧RelV v (Value.bool (isD T d))∧Q v H':=fun tk=>⟨.bl (isD T d),H,I.tok tk,rfl,q⟩
 cases d with
 | non=>rw [dx.non_] at rx; cases (show u=Value.none from rx); exact PySem.W.kia_one PySem.W.kitx_none I.kIn True.intro e (fun z=>nomatch z) fin
 | bl y=>rw [dx.bl_] at rx; cases (show u=Value.bool y from rx); exact PySem.W.kia_one PySem.W.kitx_bool I.kIn True.intro e (fun z=>nomatch z) fin
 | int i=>rw [dx.int_] at rx; obtain ⟨t,q2⟩:=(show ∃ t,u=Value.int i t from rx); cases q2; exact PySem.W.kia_one PySem.W.kitx_int I.kIn True.intro e (fun z=>nomatch z) fin
 | str y=>rw [dx.str_] at rx; obtain ⟨t,q2⟩:=(show ∃ t,u=Value.str y t from rx); cases q2; exact PySem.W.kia_one PySem.W.kitx_str I.kIn True.intro e (fun z=>nomatch z) fin
 | mt a=>exact nm.elim
 | st a=>exact nm.elim
 | tup ds =>
  obtain ⟨a,its,vs,rfl,⟨o,h1,h2,_⟩,_⟩:=dD I dx rx
  exact PySem.W.kia_one PySem.W.kitx_tuple I.kIn ⟨o,h1,h2⟩ e (fun z=>nomatch z) fin
 | lst ds =>
  obtain ⟨a,its,vs,rfl,⟨o,h1,h2,_⟩,_⟩:=cY I dx rx
  exact PySem.W.kia_one PySem.W.kitx_list I.kIn ⟨o,h1,h2⟩ e (fun z=>nomatch z) fin
 | fl ds =>
  obtain ⟨a,vs,rfl,sq,dn⟩:=dx.fl_
  cases (show u=Value.ref a from rx)
  obtain ⟨its,rv,pt,_⟩:=I.list sq
  obtain ⟨o,h1,h2,_⟩:=pt.isList
  exact PySem.W.kia_one PySem.W.kitx_list I.kIn ⟨o,h1,h2⟩ e (fun z=>nomatch z) fin
inductive Rz (M:Mem):D→D→Prop
 | self {d:D} (h:Slv d):Rz M d d
 | mt {a:Addr}{ds:List D} (h:M a=some (.lst ds)):Rz M (.mt a) (.lst ds)
section
variable {X:Cx}{Γ:Gm}{M:Mem}{k:D→Mem→Prop}{pos p1 p2:Pos}{e:Expr}
theorem cI {C:Str}{T:String} (hT:Plain5 T) (hm:X.mg "isinstance" = none) (hmT:X.mg C=none) (hvT:bootBuiltins C=some (.type T)) (h:GE X e Γ M fun d M1=>∃ d',Rz M1 d d'∧k (.bl (isD T d')) M1) (hg:Gl X "isinstance" := by rfl) (hgT:Gl X C:=by rfl)
  (hn:C ≠ "__name__" := by decide) (hdb:(C == ("__debug__" : Str))=false:=by decide)
  (he:starEach [e, .Name C p2] X.env=(false,eval e X.env)::starEach [.Name C p2] X.env:=by rfl) (hpl:(backTo pos (starEach [.Name C p2] X.env)).any (·.1)=false:=by rfl):GE X (.Call (.Name "isinstance" p1) [e, .Name C p2] [] pos) Γ M k:=fun σ G H Q en rl q=>by
 refine cC (r9 (aAX hT) hg hm PyProof.Rows.boot_isinstance (pR (hs:=he) pU (pR (aEH (v := .ty T) hgT hmT hvT rfl hn hdb) aA0)) (by decide) (by decide) he hpl) ?_
 refine h σ G H _ en rl fun v G1 H1 d M1 s1 e1 ⟨d',rz,h1⟩ => ?_
 refine ⟨v,d',rfl,?_,?_,q _ _ _ _ _ s1 dG h1⟩
 ·cases rz with
  | self h=>exact h
  | mt h=>exact True.intro
 ·cases rz with
  | self h=>exact e1.up s1.rel.same
  | mt hm =>
   obtain ⟨_,vs,e2,dn⟩:=s1.rel.mem _ _ hm
   rw [e1.mt_]; exact fS e2 (dn.up s1.rel.same)
end
end Z
namespace HD
open PySem PySem.Spec PyProof.Rows
section
variable {prog:Program}{w:World}{A:Around}{E:Value→Shared→Prop}{s:Shared}{d it:Addr}{o:Obj}{es:Array DictEntry}{ep:Nat}
end
end HD
namespace HD
open PySem PySem.Spec PyProof.Rows
section
variable {prog:Program}{w:World}{K:Type} [DecidableEq K] {knd:HeapKind prog w K}{A:Around}{E:Value→Shared→Prop}{s:Shared}{d a:Addr}{xs:List (K × Addr × Value)}{k:K}{v:Value}
end
end HD
namespace HD
open PySem PySem.Spec PyProof.Rows
section
variable {prog:Program}{w:World}{K:Type} [DecidableEq K] {knd:HeapKind prog w K}{A:Around}{E:Value→Shared→Prop}{s:Shared}{d o:Addr}{xs ys:List (K × Addr × Value)}
end
end HD
namespace Z
open PySem PySem.Spec PyProof.Rows L2
end Z
namespace Z
open PySem PySem.Spec PyProof.Rows L2
section
variable {X:Cx}{pins:List (Addr × Obj)}{σ:L2.St}{H:Hp}{s:Shared}{a b:Addr}{k:List Int}{ks:List (List Int)}{xs:List (List Int × Addr)}{ep:Nat}
theorem items_int {P:Program}{w:World}:∀ {ks:List Int}{us:List Value},Vals (ks.map V.int) us→ItemsAre (intKind P w) ks us
 | [],_,r=>by rw [List.map_nil] at r; cases r; exact .nil
 | k::ks,_,r=>by
  rw [List.map_cons] at r
  cases r with
  | @cons x y l m h t =>
   obtain ⟨tk,rfl⟩:=(show ∃ t,y=Value.int k t from h)
   exact .cons (by show Value.isInt k (Value.int k tk)=true; simp [Value.isInt]) (items_int t)
end
end Z
namespace Z
open PySem L2
inductive Stt (M:Mem):D→List (List Int)→Prop
 | st (ks:List (List Int)):Stt M (.st ks) ks
 | mt {a:Addr}{ks:List (List Int)} (h:M a=some (.st ks)):Stt M (.mt a) ks
section
variable {K:Fg}{G H:Hp}{M:Mem}{k:D→Mem→Prop}
end
section
variable {X:Cx}{Γ:Gm}{M:Mem}{k:D→Mem→Prop}{kg:Gm→Mem→Prop}{F:Fin}{pos:Pos}{a b c e o tg iter:Expr}{ss:List Stmt}
end
end Z
namespace Z
open PySem L2
section
variable {X:Cx}{Γ:Gm}{M:Mem}{tg iter:Expr}{ki:List D→Mem→Prop}
end
end Z
namespace R
open PySem L2
theorem n4 {α:Type} (f:Nat→α):∀ p,f p≠f 0→∃ k,k < p∧f k≠f (k+1)∧f (k+1)=f p
 | 0,h=>absurd rfl h
 | p+1,h=>by
  by_cases e:f p=f (p+1)
  ·obtain ⟨k,h1,h2,h3⟩:=n4 f p (by rw [e]; exact h)
   exact ⟨k,by omega,h2,h3.trans e⟩
  ·exact ⟨p,by omega,e,rfl⟩
theorem uD {l:List Nat} (s:l.Pairwise (· < ·)) {a b:Nat} (ha:a∈l) (hb:b∈l) (h:a < b):a∈l.dropLast:=by
 have hne:l≠[]:=fun e=>by rw [e] at ha; cases ha
 have e:=List.dropLast_concat_getLast hne
 rw [← e] at ha hb s
 rw [List.pairwise_append] at s
 rcases List.mem_append.mp ha with ha | ha
 ·exact ha
 ·rw [List.mem_singleton] at ha
  rcases List.mem_append.mp hb with hb | hb
  ·have:=s.2.2 b hb _ (List.mem_singleton_self _)
   omega
  ·rw [List.mem_singleton] at hb
   omega
theorem row_kept {n:Nat}{zs:List Str} (h:∀ z∈zs,z.length=n) {z:Str} (hz:z∈zs):z=dots n∨z∈aL zs:=by
 by_cases hd:z=dots n
 ·exact .inl hd
 refine .inr ?_
 obtain ⟨p,hp,ez⟩:=List.getElem_of_mem hz
 have hne:zs≠[]:=fun e=>by rw [e] at hz; cases hz
 have hw:=b5 h hne
 have f0:(framed zs)[0]?=some (dots n):=by rw [eM,hw]
 have fl:(framed zs)[zs.length+1]?=some (dots n):=by rw [c5,hw]
 have fp:(framed zs)[p+1]?=some z:=by rw [cD hp,List.getElem?_eq_getElem hp,ez]
 have ne:∀ {o:Option Str},o=some (dots n)→(framed zs)[p+1]?≠o:=fun e q=>hd (by rw [fp,e] at q; injection q)
 obtain ⟨k,k1,k2,k3⟩:=n4 (fun i=>(framed zs)[i]?) (p+1) (ne f0)
 obtain ⟨j,j1,j2,j3⟩:=gT (fun i=>(framed zs)[i]?) (zs.length - p) (p+1) (by
  show (framed zs)[p+1]?≠(framed zs)[p+1+(zs.length - p)]?
  rw [show p+1+(zs.length - p)=zs.length+1 by omega]; exact ne fl)
 have mk:k∈chg zs:=(dM hne).mpr ⟨by omega,k2⟩
 have mj:j∈chg zs:=(dM hne).mpr ⟨by omega,j3⟩
 have:=uD (bY zs) mk mj (by omega)
 refine List.mem_map.mpr ⟨k,this,?_⟩
 have e:(framed zs)[k+1]?=some z:=k3.trans fp
 rw [cD (by omega)] at e
 rw [List.getD_eq_getElem?_getD,e]; rfl
theorem tX {n:Nat}{zs:List Str} (h:∀ z∈zs,z=dots n):chg zs=[]:=by
 by_cases hne:zs=[]
 ·rw [hne]; simp [chg]
 have hl:∀ z∈zs,z.length=n:=fun z hz=>by rw [h z hz,oD]
 have hw:=b5 hl hne
 have all:∀ i,i≤zs.length+1→(framed zs)[i]?=some (dots n):=fun i hi=>by
  rcases Nat.eq_zero_or_pos i with rfl | hp
  ·rw [eM,hw]
  ·obtain ⟨j,rfl⟩:∃ j,i=j+1:=⟨i - 1,by omega⟩
   by_cases hj:j < zs.length
   ·rw [cD hj,List.getElem?_eq_getElem hj,h _ (List.getElem_mem hj)]
   ·rw [show j=zs.length by omega,c5,hw]
 refine List.eq_nil_iff_forall_not_mem.mpr fun i hi => ?_
 obtain ⟨a,b⟩:=(dM hne).mp hi
 exact b (by rw [all i (by omega),all (i+1) (by omega)])
theorem q5 {n:Nat}{zs:List Str} (h:∀ z∈zs,z.length=n) (hr:aL zs=[]):chg zs=[]∧chg (aE zs)=[]:=by
 have hd:∀ z∈zs,z=dots n:=fun z hz=>(row_kept h hz).elim id fun q=>by rw [hr] at q; cases q
 refine ⟨tX hd,tX (n:=zs.length) fun c hc => ?_⟩
 obtain ⟨j,hj,rfl⟩:=List.mem_map.mp hc
 rw [List.mem_range] at hj
 by_cases hne:zs=[]
 ·rw [hne] at hj; simp at hj
 rw [b5 h hne] at hj
 unfold dots ofL
 congr 2
 refine List.eq_replicate_iff.mpr ⟨by simp,fun b hb => ?_⟩
 obtain ⟨z,hz,rfl⟩:=List.mem_map.mp hb
 rw [hd z hz,jI,if_pos hj]
def pH (n i:Nat) (z:Str):Nat:=if i=0∨i=n+1 then 46 else atS z (i - 1)
theorem bR {n:Nat}{zs:List Str} (h:∀ z∈zs,z.length=n) (hz:zs≠[]):(aE zs).length=n:=by
 unfold aE; rw [b5 h hz]; simp
theorem f7 {n i:Nat}{zs:List Str} (h:∀ z∈zs,z.length=n) (hz:zs≠[]) (hn:0 < n) (hi:i≤n+1):(framed (aE zs))[i]?=some (ofL (zs.map (pH n i))):=by
 have hc:=bR h hz
 have hne:aE zs≠[]:=fun e=>by rw [e] at hc; simp at hc; omega
 have hw:((aE zs).head?.map (·.length)).getD 0=zs.length:=b5 (fun c hc=>dW c hc) hne
 have hd:dots zs.length=ofL (zs.map fun _=>46):=by
  unfold dots; rw [List.map_const']
 rcases Nat.eq_zero_or_pos i with rfl | hp
 ·rw [eM,hw,hd]; rfl
 ·obtain ⟨j,rfl⟩:∃ j,i=j+1:=⟨i - 1,by omega⟩
  by_cases hj:j < n
  ·rw [cD (by omega),eX h hz hj]
   congr 2
   apply List.map_congr_left
   intro z _
   unfold pH
   rw [if_neg (by omega)]; rfl
  ·have e:j=(aE zs).length:=by omega
   rw [e,c5,hw,hd]
   congr 2
   apply List.map_congr_left
   intro z _
   unfold pH
   rw [if_pos (by omega)]
theorem pY {zs:List Str}{f g:Str→Nat}:(some (ofL (zs.map f))=some (ofL (zs.map g)))↔∀ z∈zs,f z=g z:=by
 constructor
 ·intro e
  injection e with e
  unfold ofL at e
  injection e with e
  have e:zs.map f=zs.map g:=by injection e
  exact fun z hz=>(List.map_inj_left.mp e) z hz
 ·intro e
  rw [List.map_congr_left e]
theorem nA {n:Nat}{zs:List Str} (h:∀ z∈zs,z.length=n) (hr:aL zs≠[]):chg (aE (aL zs))=chg (aE zs):=by
 have hz:zs≠[]:=fun e=>by subst e; exact hr (by simp [aL,chg])
 have hk:∀ z∈aL zs,z.length=n:=fun z q=>h z (iK z q)
 rcases Nat.eq_zero_or_pos n with rfl | hn
 ·have e1:aE zs=[]:=List.length_eq_zero_iff.mp (bR h hz)
  have e2:aE (aL zs)=[]:=List.length_eq_zero_iff.mp (bR hk hr)
  rw [e1,e2]
 ·have l1:=bR h hz
  have l2:=bR hk hr
  have n1:(aE zs).isEmpty=false:=by cases hc:aE zs with
   | nil=>rw [hc] at l1; simp at l1; omega
   | cons _ _=>rfl
  have n2:(aE (aL zs)).isEmpty=false:=by cases hc:aE (aL zs) with
   | nil=>rw [hc] at l2; simp at l2; omega
   | cons _ _=>rfl
  unfold chg
  rw [n1,n2,l1,l2,if_neg Bool.false_ne_true,if_neg Bool.false_ne_true]
  apply List.filter_congr
  intro i hi
  rw [List.mem_range] at hi
  rw [f7 h hz hn (by omega),f7 h hz hn (by omega),f7 hk hr hn (by omega),f7 hk hr hn (by omega)]
  congr 1
  apply decide_eq_decide.mpr
  rw [pY,pY]
  constructor
  ·intro q z hz
   rcases row_kept h hz with rfl | hz
   ·unfold pH
    rw [jI,jI]
    split <;> split <;> (try split) <;> (try split) <;> first | rfl | omega
   ·exact q z hz
  ·exact fun q z hz=>q z (iK z hz)
theorem mV {n:Nat}{zs:List Str} (h:Good n zs) (hr:aL zs≠[]):aE (aL (aE (aL zs)))=bU zs:=by
 have g1:=gO h
 have hl:∀ z∈aL zs,z.length=n:=fun z hz=>(g1 z hz).1
 obtain ⟨c2,wf,le⟩:=aD0 h hr
 have hJ:=nA (fun z hz=>(h z hz).1) hr
 have lt:∀ j∈(chg (aE (aL zs))).dropLast,j < n:=fun j hj=>by
  have:=hU (bY _) (dS _) j hj
  rw [bR hl hr] at this
  exact this
 have e1:aL (aE (aL zs))=(chg (aE (aL zs))).dropLast.map fun j=>ofL ((aL zs).map (atS · j)):=by
  show List.map _ _=_
  apply List.map_congr_left
  intro j hj
  rw [List.getD_eq_getElem?_getD,eX hl hr (lt j hj)]; rfl
 have hk:aL (aE (aL zs))≠[]:=fun q=>by
  have:=dZ (aE (aL zs))
  rw [q] at this
  simp at this
  omega
 have hw:((aL (aE (aL zs))).head?.map (·.length)).getD 0=(aL zs).length:=b5 (fun z hz=>dW z (iK z hz)) hk
 have ek:bU zs=(aL zs).map fun z=>ofL ((chg (aE (aL zs))).dropLast.map (atS z)):=by
  rw [hJ]; unfold aL bU; rw [List.map_map]; rfl
 rw [ek]
 show (List.range (((aL (aE (aL zs))).head?.map (·.length)).getD 0)).map (fun j=>ofL ((aL (aE (aL zs))).map (atS · j)))=_
 rw [hw,e1]
 apply List.ext_getElem
 ·simp
 ·intro r hr1 hr2
  rw [List.length_map,List.length_range] at hr1
  rw [List.getElem_map,List.getElem_map,List.getElem_range,List.map_map]
  congr 1
  apply List.map_congr_left
  intro j _
  show atS (ofL ((aL zs).map (atS · j))) r=_
  rw [jE,List.getD_eq_getElem?_getD,List.getElem?_map,List.getElem?_eq_getElem hr1]; rfl
abbrev Cell:=List Int
def kS (zs:List Str) (inside:Bool) (nx ny:Nat):List Cell:=(List.range (ny+1)).flatMap fun (u:Nat)=>(List.range (nx+1)).filterMap fun (a:Nat)=>if bC zs ((a:Int) - 1) ((u:Int) - 1)=inside then some [(a:Int) - 1,(u:Int) - 1] else none
inductive Rch (cells:List Cell) (st:List (Int × Int)) (s:Cell):Cell→Prop
 | refl:Rch cells st s s
 | step {x y:Int}{d:Int × Int}:Rch cells st s [x,y]→d∈st→[x+d.1,y+d.2]∈cells→Rch cells st s [x+d.1,y+d.2]
open Classical in
noncomputable def starts (cells:List Cell) (st:List (Int × Int)):Nat→List Cell
 | 0=>[]
 | i+1=>match cells[i]? with
  | some c=>if ∃ s∈starts cells st i,Rch cells st s c then starts cells st i else starts cells st i++[c]
  | none=>starts cells st i
def rowsOf (f:Int→Int→Bool) (w h:Nat):List Str:=(List.range h).map fun (u:Nat)=>ofL ((List.range w).map fun (a:Nat)=>sg (f (a:Int) (u:Int)))
end R
namespace R
structure Gth (cells:List Cell) (st:List (Int × Int)) (s:Cell) (ks ws:List Cell) (busy:Option (Int × Int × List (Int × Int))):Prop where
 s0:s∈ks
 all:∀ c∈ks,Rch cells st s c
 sub:∀ c∈ks,c∈cells
 nd:ks.Nodup
 ww:∀ c∈ws,c∈ks
 cl:∀ x y,[x,y]∈ks→[x,y]∈ws∨(∃ dn,busy=some (x,y,dn))∨∀ d∈st,[x+d.1,y+d.2]∈cells→[x+d.1,y+d.2]∈ks
 bz:∀ x y dn,busy=some (x,y,dn)→[x,y]∈ks∧∀ d∈dn,[x+d.1,y+d.2]∈cells→[x+d.1,y+d.2]∈ks
section
variable {cells:List Cell}{st:List (Int × Int)}{s:Cell}{ks ws:List Cell}{x y:Int}{dn:List (Int × Int)}{d:Int × Int}
end
end R
namespace Q
open PySem L2 Z
end Q
namespace R
open PySem L2
abbrev RS:=List (Nat × Nat) × Option Nat
structure RInv (bs:List Bool) (n:Nat) (q:RS):Prop where
 bd:∀ p∈q.1,p.1 < p.2∧p.2 < n
 bg:∀ b,q.2=some b→b < n
 len:q.1.length≤n
 any:(q.1≠[]∨q.2≠none)↔∃ i,i < n∧bs.getD i false=true
end R
namespace Q
open PySem L2 Z
end Q
namespace R
open PySem L2
end R
namespace Q
open PySem L2 Z
theorem nE (z:Str) (zr:List Str):atI ((z::zr).map D.str) 0=some (.str z):=gN (j:=0) rfl
theorem xA (z:Str) (js:List Nat):PySem.Txt.join Str.empty (js.map fun j=>(⟨#[R.atS z j]⟩:Str))=R.ofL (js.map (R.atS z)):=by
 have:=R.pL (js.map (R.atS z))
 rw [List.map_map] at this
 exact this
def aD8:Ct:=fun ds M k=>∃ (z:Str) (js:List Nat),ds=[.str z, .lst (dF js)]∧z.length≤1000∧js.length≤1000∧(∀ j∈js,j < z.length)∧k (.str (R.ofL (js.map (R.atS z)))) M
def gS (xs ys:List D) (zs:List Str):D:=nK (lJ xs (R.chg (R.aE zs))) (lJ ys (R.chg zs)) (R.bU zs)
structure Grp (cells:List R.Cell) (st:List (Int × Int)) (n:Nat) (gs:List (List R.Cell)):Prop where
 len:gs.length=(R.starts cells st n).length
 at_:∀ (j:Nat) s,(R.starts cells st n)[j]?=some s→∃ ks,gs[j]?=some ks∧∀ c,c∈ks↔R.Rch cells st s c
noncomputable def aHP (cells:List R.Cell) (st:List (Int × Int)) (s:R.Cell) (w h:Nat):List Str:=R.rowsOf (fun a u => @decide (R.Rch cells st s [a,u]) (Classical.propDecidable _)) w h
noncomputable def wM (xs ys:List D) (cells:List R.Cell) (st:List (Int × Int)) (ss:List R.Cell):List D:=ss.map fun s=>gS xs ys (aHP cells st s (xs.length - 1) (ys.length - 1))
def straight:List (Int × Int):=[(1,0),(0,1),(-1,0),(0, -1)]
def tZ:List (Int × Int):=[(1,0),(1,1),(0,1),(-1,1),(-1,0),(-1, -1),(0, -1),(1, -1)]
noncomputable def pcs (xs ys:List D) (zs:List Str):List D:=wM xs ys (R.kS zs true xs.length ys.length) straight (R.starts (R.kS zs true xs.length ys.length) straight (R.kS zs true xs.length ys.length).length)
theorem pM {X:Cx}{Γ:Gm}{M:Mem}{k:D→Mem→Prop}{pos:Pos}{x:Str}{a:Addr}{d:D} (hm:X.mg x=some (.ref a)) (hd:∀ G,Den X.K G d (.ref a)) (h:k d M) (hg:Gl X x:=by rfl) (hb:(x == ("__debug__" : Str))=false:=by decide):GE X (.Name x pos) Γ M k :=
 fun σ G H Q en rl q=>cC (pW (v := .ref a) hg hm rfl hb) (q _ G H d M (Stp.refl rl) (hd G) h)
def al9 (all:Bool) (r u:Int):Bool:=all || r * u == 0
def st9 (all:Bool):List (Int × Int):=[(-1, -1),(-1,0),(-1,1),(0, -1),(0,0),(0,1),(1, -1),(1,0),(1,1)].filter fun d=>al9 all d.1 d.2
def l3:List Int:=[-1,0,1]
theorem jW {X:Cx}{e:Expr}{Γ:Gm}{M:Mem}{kb:Bool→Mem→Prop}{B:Bool} (h:GT X e Γ M fun c M1=>c=B∧M1=M) (hk:kb B M):GT X e Γ M kb:=fun σ G H Q en rl q=>h σ G H Q en rl fun b G' H' M' s ⟨e1,e2⟩=>q b G' H' M' s (by rw [e1,e2]; exact hk)
theorem rD:∀ as:List Addr,Vals (as.map V.ref) (as.map Value.ref)
 | [] => .nil
 | a::as => .cons rfl (rD as)
theorem nP {K:Fg}{G:Hp}{a:Addr}{as:List Addr}{ds:List D}{n:Nat}{od:Option Addr}{sl:Array (Option Value)} (h:K.lookup a=some ⟨.type "tuple", od, .seq (as.map Value.ref).toArray n,sl⟩) (hl:as.length≤100) (hd:Dens K G ds (as.map V.ref)):Den K G (.tup ds) (.ref a) :=
 jH (vs:=as.map V.ref) (.inr ⟨_,_,_,h,rfl,rfl,(by rw [List.size_toArray,List.length_map]; exact R.aQ (by omega)),rD as⟩) hd
noncomputable def hls (xs ys:List D) (zs:List Str):List D:=wM xs ys (R.kS zs false xs.length ys.length) tZ ((R.starts (R.kS zs false xs.length ys.length) tZ (R.kS zs false xs.length ys.length).length).drop 1)
end Q
namespace HT
open PySem PySem.Spec PyProof.Rows
section
variable {prog:Program}{w:World}{A:Around}{E:Value→Shared→Prop}{s:Shared}
end
end HT
namespace L2
open PySem PySem.Spec PyProof.Rows
section
variable {X:Cx}
end
end L2
namespace Z
open PySem L2
theorem o8 {α:Type} (l:List α):cutD l (some 1) none=l.drop 1:=by
 unfold cutD
 have e1:HT.sIx l.length 0 (some 1)=min 1 l.length:=HT.jC l.length 0 1
 have e2:HT.sIx l.length l.length none=l.length:=rfl
 rw [e1,e2]
 by_cases h:1≤l.length
 ·rw [Nat.min_eq_left h,List.take_of_length_le (by rw [List.length_drop]; exact Nat.le_refl _)]
 ·have:l=[]:=List.length_eq_zero_iff.mp (by omega)
  subst this; rfl
theorem aDW {α:Type} (l:List α) (n:Nat):cutD l none (some (n:Int))=l.take n:=by
 unfold cutD
 have e1:HT.sIx l.length 0 none=0:=rfl
 have e2:HT.sIx l.length l.length (some (n:Int))=min n l.length:=HT.jC l.length l.length n
 rw [e1,e2,List.drop_zero,Nat.sub_zero,List.take_eq_take_iff]
 omega
end Z
namespace Q
open PySem L2 Z
mutual
def tameB:Nat→D→Bool
 | _, .non | _, .bl _=>true
 | _, .int i=>decide (i.natAbs < 10 ^ 65)
 | _, .str z=>decide (z.length≤1000)
 | n+1, .tup ds=>decide (ds.length≤100) && tamesB n ds
 | n+1, .lst ds=>decide (ds.length≤100) && tamesB n ds
 | _,_=>false
def tamesB:Nat→List D→Bool
 | _,[]=>true
 | n,d::ds=>tameB n d && tamesB n ds
end
theorem qW {n:Nat}:∀ {ds:List D},tamesB n ds=true→∀ x∈ds,tameB n x=true
 | [],_,_,h=>nomatch h
 | d::ds,h,x,hx=>by
  simp only [tamesB,Bool.and_eq_true] at h
  rcases List.mem_cons.mp hx with rfl | hx
  ·exact h.1
  ·exact qW h.2 x hx
theorem tS {n:Nat}:∀ {ds:List D},(∀ x∈ds,tameB n x=true)→tamesB n ds=true
 | [],_=>by simp only [tamesB]
 | d::ds,h=>by
  simp only [tamesB,Bool.and_eq_true]
  exact ⟨h d List.mem_cons_self,tS fun x hx=>h x (List.mem_cons_of_mem _ hx)⟩
theorem gE {n:Nat}{ds:List D} (h:tameB n (.tup ds)=true):ds.length≤100∧∃ m,n=m+1∧∀ x∈ds,tameB m x=true:=by
 cases n with
 | zero=>simp [tameB] at h
 | succ m =>
  simp only [tameB,Bool.and_eq_true,decide_eq_true_eq] at h
  exact ⟨h.1,m,rfl,qW h.2⟩
theorem kK {n:Nat}{ds:List D} (h1:ds.length≤100) (h2:∀ x∈ds,tameB n x=true):tameB (n+1) (.tup ds)=true:=by
 simp only [tameB,Bool.and_eq_true,decide_eq_true_eq]
 exact ⟨h1,tS h2⟩
mutual
theorem tame_ok:∀ (n:Nat) (d:D),tameB n d=true→okD n d=true
 | _, .non,_=>by simp only [okD]
 | _, .bl _,_=>by simp only [okD]
 | _, .int _,_=>by simp only [okD]
 | _, .str _,_=>by simp only [okD]
 | n+1, .tup ds,h=>by
  simp only [tameB,Bool.and_eq_true] at h
  simp only [okD]; exact tames_ok n ds h.2
 | n+1, .lst ds,h=>by
  simp only [tameB,Bool.and_eq_true] at h
  simp only [okD]; exact tames_ok n ds h.2
 | 0, .tup _,h=>by simp [tameB] at h
 | 0, .lst _,h=>by simp [tameB] at h
 | _, .mt _,h=>by simp [tameB] at h
 | _, .fl _,h=>by simp [tameB] at h
 | _, .st _,h=>by simp [tameB] at h
theorem tames_ok:∀ (n:Nat) (ds:List D),tamesB n ds=true→okDs n ds=true
 | _,[],_=>by simp only [okDs]
 | n,d::ds,h=>by
  simp only [tamesB,Bool.and_eq_true] at h
  simp only [okDs,tame_ok n d h.1,tames_ok n ds h.2,Bool.and_true]
end
theorem gG {n:Nat}{d:D} (h:tameB n d=true):Slv d:=by
 cases d <;> first | exact trivial | (exfalso; simp [tameB] at h)
theorem sO {n:Nat}{i:Int} (h:tameB n (.int i)=true):i.natAbs < 10 ^ 65:=by simpa [tameB] using h
theorem tG {n:Nat}{z:Str} (h:tameB n (.str z)=true):z.length≤1000:=by simpa [tameB] using h
mutual
theorem tame_up:∀ (n:Nat) (d:D),tameB n d=true→tameB (n+1) d=true
 | _, .non,_=>by simp only [tameB]
 | _, .bl _,_=>by simp only [tameB]
 | _, .int _,h=>by simpa only [tameB] using h
 | _, .str _,h=>by simpa only [tameB] using h
 | n+1, .tup ds,h=>by
  simp only [tameB,Bool.and_eq_true] at h ⊢
  exact ⟨h.1,tames_up n ds h.2⟩
 | n+1, .lst ds,h=>by
  simp only [tameB,Bool.and_eq_true] at h ⊢
  exact ⟨h.1,tames_up n ds h.2⟩
 | 0, .tup _,h=>by simp [tameB] at h
 | 0, .lst _,h=>by simp [tameB] at h
 | _, .mt _,h=>by simp [tameB] at h
 | _, .fl _,h=>by simp [tameB] at h
 | _, .st _,h=>by simp [tameB] at h
theorem tames_up:∀ (n:Nat) (ds:List D),tamesB n ds=true→tamesB (n+1) ds=true
 | _,[],_=>by simp only [tamesB]
 | n,d::ds,h=>by
  simp only [tamesB,Bool.and_eq_true] at h ⊢
  exact ⟨tame_up n d h.1,tames_up n ds h.2⟩
end
theorem tT (ds:List D):isD "tuple" (.tup ds)=true:=rfl
theorem tL (ds:List D):isD "tuple" (.lst ds)=false:=rfl
theorem sS (z:Str):isD "str" (.str z)=true:=rfl
theorem iI (i:Int):isD "int" (.int i)=true:=rfl
theorem bI (i:Int):isD "bool" (.int i)=false:=rfl
theorem o0 (d:D):(∃ ls,d = .tup ls)∨(isD "tuple" d=false∧∀ ls,d ≠ .tup ls):=by
 cases d with
 | tup ls=>exact .inl ⟨ls,rfl⟩
 | _=>exact .inr ⟨rfl,fun _ h=>nomatch h⟩
theorem aFM (d:D):(∃ z,d = .str z)∨(isD "str" d=false∧∀ z,d ≠ .str z):=by
 cases d with
 | str ls=>exact .inl ⟨ls,rfl⟩
 | _=>exact .inr ⟨rfl,fun _ h=>nomatch h⟩
def isW:D→Bool
 | .int _=>true
 | _=>false
theorem sP (d:D):(∃ i,d = .int i)∨(isW d=false∧(isD "int" d=false∨isD "int" d=true∧isD "bool" d=true)):=by
 cases d with
 | int i=>exact .inl ⟨i,rfl⟩
 | bl b=>exact .inr ⟨rfl, .inr ⟨rfl,rfl⟩⟩
 | _=>exact .inr ⟨rfl, .inl rfl⟩
def gY:D→Bool
 | .tup [.int a, .int b]=>decide (1≤b) && decide (Int.gcd a b=1)
 | _=>false
theorem k9 {d:D}:gY d=true↔∃ p:Int × Int,d=pairD p∧1≤p.2∧Int.gcd p.1 p.2=1:=by
 constructor
 ·intro h
  unfold gY at h
  split at h
  ·rw [Bool.and_eq_true,decide_eq_true_eq,decide_eq_true_eq] at h
   exact ⟨(_,_),rfl,h⟩
  ·cases h
 ·rintro ⟨p,rfl,h1,h2⟩
  show (decide (1≤p.2) && decide (Int.gcd p.1 p.2=1))=true
  rw [decide_eq_true h1,decide_eq_true h2]; rfl
theorem nU {d:D} (h:∀ a b,d ≠ .tup [.int a, .int b]):gY d=false:=by
 cases e:gY d with
 | false=>rfl
 | true=>obtain ⟨p,rfl,_⟩:=k9.mp e; exact absurd rfl (h p.1 p.2)
def ltP (p q:Int × Int):Bool:=decide (p.1 * q.2 < q.1 * p.2)
def upP (ps:List (Int × Int)):Bool:=(List.range (ps.length - 1)).all fun i=>ltP (ps.getD i (0,1)) (ps.getD (i+1) (0,1))
def toP:D→Int × Int
 | .tup [.int a, .int b]=>(a,b)
 | _=>(0,1)
theorem qJ (ps:List (Int × Int)):(ps.map pairD).map toP=ps:=by
 rw [List.map_map]
 exact (List.map_congr_left fun p _=>rfl).trans (List.map_id ps)
theorem mX:∀ {ls:List D},ls.all gY=true→∃ ps:List (Int × Int),ls=ps.map pairD∧∀ p∈ps,1≤p.2∧Int.gcd p.1 p.2=1
 | [],_=>⟨[],rfl,fun p h=>(nomatch h)⟩
 | d::ls,h=>by
  rw [List.all_cons,Bool.and_eq_true] at h
  obtain ⟨p,rfl,hp⟩:=k9.mp h.1
  obtain ⟨ps,rfl,hps⟩:=mX h.2
  exact ⟨p::ps,rfl,fun q hq=>by
   rcases List.mem_cons.mp hq with rfl | hq
   ·exact hp
   ·exact hps q hq⟩
def dC:D→Bool
 | .tup ls=>ls.all gY && upP (ls.map toP)
 | _=>false
theorem aB5 {d:D} (h:∀ ls,d ≠ .tup ls):dC d=false:=by
 cases d with
 | tup ls=>exact absurd rfl (h ls)
 | _=>rfl
def d6 (w:Nat):D→Bool
 | .str z=>decide (z.length=w) && z.cps.toList.all fun c=>c == 35 || c == 46
 | _=>false
theorem aGA {w:Nat}{d:D} (h:∀ z,d ≠ .str z):d6 w d=false:=by
 cases d with
 | str z=>exact absurd rfl (h z)
 | _=>rfl
theorem aCQ {w:Nat}{d:D}:d6 w d=true↔∃ z,d = .str z∧z.length=w∧∀ c∈z.cps.toList,c=35∨c=46:=by
 constructor
 ·intro h
  cases d with
  | str z =>
   simp only [d6,Bool.and_eq_true,decide_eq_true_eq,List.all_eq_true,Bool.or_eq_true,beq_iff_eq] at h
   exact ⟨z,rfl,h⟩
  | _=>cases h
 ·rintro ⟨z,rfl,h1,h2⟩
  simp only [d6,Bool.and_eq_true,decide_eq_true_eq,List.all_eq_true,Bool.or_eq_true,beq_iff_eq]
  exact ⟨h1,h2⟩
def fF (rs:List D) (nx ny:Nat):Bool:=decide (rs.length=ny - 1) && rs.all (d6 (nx - 1))
def toS:D→Str
 | .str z=>z
 | _=>Str.empty
theorem all_rows {w:Nat}:∀ {rs:List D},rs.all (d6 w)=true→∃ zs:List Str,rs=zs.map .str∧∀ z∈zs,z.length=w∧∀ c∈z.cps.toList,c=35∨c=46
 | [],_=>⟨[],rfl,fun p h=>(nomatch h)⟩
 | d::ls,h=>by
  rw [List.all_cons,Bool.and_eq_true] at h
  obtain ⟨z,rfl,hp⟩:=aCQ.mp h.1
  obtain ⟨ps,rfl,hps⟩:=all_rows h.2
  exact ⟨z::ps,rfl,fun q hq=>by
   rcases List.mem_cons.mp hq with rfl | hq
   ·exact hp
   ·exact hps q hq⟩
theorem uN (zs:List Str):(zs.map D.str).map toS=zs:=by
 rw [List.map_map]
 exact (List.map_congr_left fun p _=>rfl).trans (List.map_id zs)
def yard3 (x y r:D):Bool:=match x,y,r with
 | .tup xs, .tup ys, .tup rs=>dC (.tup xs) && dC (.tup ys) && fF rs xs.length ys.length && eqD (gS xs ys (rs.map toS)) (.tup [.tup xs, .tup ys, .tup rs])
 | _,_,_=>false
def nN:D→Bool
 | .tup [x,y,r]=>yard3 x y r
 | _=>false
theorem wK {d:D} (h:∀ x y r,d ≠ .tup [x,y,r]):nN d=false:=by
 unfold nN
 split
 ·exact absurd rfl (h _ _ _)
 ·rfl
theorem aDR {x y r:D} (h:∀ ls,r ≠ .tup ls):yard3 x y r=false:=by
 unfold yard3
 split
 ·exact absurd rfl (h _)
 ·rfl
def Sq2 (t:Bool) (d:D) (ds:List D):Prop:=d=if t=true then .lst ds else .tup ds
def aBJ:Ct:=fun ds M k=>∃ d,ds=[d]∧Slv d∧k (.bl (isW d)) M
def aAC:Ct:=fun ds M k=>∃ d n,ds=[d]∧tameB n d=true∧k (.bl (gY d)) M
def aEU:Ct:=fun ds M k=>∃ d n,ds=[d]∧tameB n d=true∧k (.bl (dC d)) M
def aFY:Ct:=fun ds M k=>∃ d n w,ds=[d, .int ((w:Nat):Int)]∧tameB n d=true∧k (.bl (d6 w d)) M
def aHG:Ct:=fun ds M k=>∃ t dr dx dy rs xs ys n,ds=[dr,dx,dy]∧Sq2 t dr rs∧Sq2 t dx xs∧Sq2 t dy ys∧(∀ r∈rs,tameB n r=true)∧rs.length≤100∧xs.length≤100∧ys.length≤100∧k (.bl (fF rs xs.length ys.length)) M
def aBD:Ct:=fun ds M k=>∃ (t:Bool) (r:D) (zs:List Str) (n j:Nat),ds=[r, .int (j:Int)]∧Sq2 t r (zs.map .str)∧zs.length≤1000∧n≤1000∧(∀ z∈zs,z.length=n)∧j < n∧k (.str (R.ofL (zs.map (R.atS · j)))) M
def yK:Ct:=fun ds M k=>∃ (t:Bool) (r:D) (zs:List Str) (n:Nat),ds=[r]∧Sq2 t r (zs.map .str)∧zs.length≤1000∧n≤1000∧(∀ z∈zs,z.length=n)∧k (.lst ((R.aE zs).map .str)) M
def zI:Ct:=fun ds M k=>∃ (t:Bool) (r:D) (zs:List Str) (n:Nat),ds=[r]∧Sq2 t r (zs.map .str)∧zs.length≤1000∧n≤1000∧(∀ z∈zs,z.length=n)∧k (.lst (dF (R.chg zs))) M
def aCJ:Ct:=fun ds M k=>∃ (t:Bool) (dx dy dr:D) (xs ys:List D) (zs:List Str) (n:Nat),ds=[dx,dy,dr]∧Sq2 t dx xs∧Sq2 t dy ys∧Sq2 t dr (zs.map .str)∧zs.length≤900∧n≤900∧(∀ z∈zs,z.length=n)∧(∀ j∈R.chg (R.aE zs),j < xs.length)∧(∀ j∈R.chg zs,j < ys.length)∧k (gS xs ys zs) M
def aE5:Ct:=fun ds M k=>∃ d n,ds=[d]∧tameB n d=true∧n≤10∧k (.bl (nN d)) M
theorem maxz0 (n:Nat):(if 0 > (n:Int) - 1 then 0 else (n:Int) - 1)=((n - 1:Nat):Int):=by split <;> omega
theorem l9 {α:Type} (f:α→Bool) (l:List α):(l.map f).all id=l.all f:=by rw [List.all_map]; rfl
theorem rR {K:Fg}{M:Mem}{k:D→Mem→Prop}{x y:Str} (h:k (.bl (!(Builtin.Str.occurrences y x 0 y.length 1).isEmpty)) M):Op2 K (fun x y H Q=>∃ i j,x = .str i∧y = .str j∧Q (.bl (!(Builtin.Str.occurrences j i 0 j.length 1).isEmpty)) H) (.str x) (.str y) M k:=fun G H v1 v2 Q rl e1 e2 q =>
 ⟨x,y,e1.str_,e2.str_,q _ _ _ _ _ (Stp.refl rl) dG h⟩
theorem qM {d:D} (h:dC d=true):∃ ps:List (Int × Int),d = .tup (ps.map pairD)∧upP ps=true∧∀ p∈ps,1≤p.2∧Int.gcd p.1 p.2=1:=by
 cases d with
 | tup ls =>
  have h':(ls.all gY && upP (ls.map toP))=true:=h
  rw [Bool.and_eq_true] at h'
  obtain ⟨ps,rfl,hp⟩:=mX h'.1
  rw [qJ] at h'
  exact ⟨ps,rfl,h'.2,hp⟩
 | _=>cases h
theorem tQ {xs ys rs:List D}:yard3 (.tup xs) (.tup ys) (.tup rs)=(dC (.tup xs) && dC (.tup ys) && fF rs xs.length ys.length && eqD (gS xs ys (rs.map toS)) (.tup [.tup xs, .tup ys, .tup rs])):=rfl
theorem aB6 {x y r:D} (h:dC x=false):yard3 x y r=false:=by
 unfold yard3
 split
 ·rw [h]; rfl
 ·rfl
theorem aB7 {x y r:D} (h:dC y=false):yard3 x y r=false:=by
 unfold yard3
 split
 ·rw [h,Bool.and_false]; rfl
 ·rfl
theorem tf (b:Bool):b=false∨b=true:=by cases b <;> simp
theorem aEG {rs:List D}{nx ny:Nat} (h:fF rs nx ny=true):rs.length=ny - 1∧rs.all (d6 (nx - 1))=true:=by
 unfold fF at h
 rw [Bool.and_eq_true,decide_eq_true_eq] at h
 exact h
theorem vY {ps:List (Int × Int)}{i:Nat} (h:i < ps.length):atI (ps.map pairD) (i:Int)=some (pairD (ps.getD i (0,1)))∧ps.getD i (0,1)∈ps:=by
 rw [List.getD_eq_getElem?_getD,List.getElem?_eq_getElem h]
 exact ⟨gN (by rw [List.getElem?_map,List.getElem?_eq_getElem h]; rfl),List.getElem_mem h⟩
theorem lV {b:Bool}{P Q:Prop} (h:b=true) (p:P):if b=true then P else Q:=by rw [if_pos h]; exact p
theorem nM {b:Bool}{P Q:Prop} (h:b=false) (p:Q):if b=true then P else Q:=by rw [if_neg (by rw [h]; exact Bool.false_ne_true)]; exact p
theorem nW:R.chg []=[]:=by decide +kernel
theorem eW {zs:List Str}{ny:Nat} (h:zs.length=ny - 1):∀ j∈R.chg zs,j < ny:=fun j hj=>by
 have:=R.dS zs j hj
 cases zs with
 | nil=>rw [nW] at hj; cases hj
 | cons z zr=>rw [List.length_cons] at h this; omega
theorem eT {zs:List Str}{nx:Nat} (h:∀ z∈zs,z.length=nx - 1):∀ j∈R.chg (R.aE zs),j < nx:=fun j hj=>by
 have h1:=(R.oC h).1
 have:=R.dS _ j hj
 cases hc:R.aE zs with
 | nil=>rw [hc,nW] at hj; cases hj
 | cons z zr=>rw [hc] at h1 this; rw [List.length_cons] at h1 this; omega
theorem oG {xs ys:List D} (zs:List Str) (hx:∀ x∈xs,okD 1 x=true) (hy:∀ y∈ys,okD 1 y=true):okD 3 (nK xs ys zs)=true:=by
 have o1:=kI hx
 have o2:=kI hy
 have o3:okDs 1 (zs.map D.str)=true:=kI fun d hd=>by obtain ⟨z,_,rfl⟩:=List.mem_map.mp hd; rfl
 simp only [nK,okD,okDs,o1,o2,o3,Bool.and_true]
theorem uB (ps:List (Int × Int)):∀ x∈ps.map pairD,okD 1 x=true:=fun x hx=>by
 obtain ⟨p,_,rfl⟩:=List.mem_map.mp hx; rfl
theorem aDV (ps qs:List (Int × Int)) (zs:List Str):okD 3 (nK (ps.map pairD) (qs.map pairD) zs)=true:=oG zs (uB ps) (uB qs)
theorem vW (ps:List (Int × Int)) (js:List Nat):∀ x∈lJ (ps.map pairD) js,okD 1 x=true:=fun x hx=>by
 obtain ⟨j,_,rfl⟩:=List.mem_map.mp hx
 rw [List.getD_eq_getElem?_getD,List.getElem?_map]
 cases ps[j]? <;> rfl
theorem aB9 (ps qs:List (Int × Int)) (zs:List Str):okD 3 (gS (ps.map pairD) (qs.map pairD) zs)=true:=oG _ (vW ps _) (vW qs _)
end Q
namespace Z
open PySem L2 PySem.Spec PyProof.Rows
section
variable {K:Fg}{M:Mem}{k:D→Mem→Prop}{ds es:List D}
end
end Z
namespace Q
open PySem L2 Z
theorem aA4 (c:Bool):atI ("#." : Str).cps.toList (if c=true then 1 else 0)=some (if c=true then 46 else 35):=by cases c <;> decide +kernel
theorem aEI {α:Type}{l:List α} (h:l≠[]):∃ r x,l=r++[x]:=by
 rcases List.eq_nil_or_concat l with e | ⟨r,x,e⟩
 ·exact absurd e h
 ·exact ⟨r,x,by simpa using e⟩
theorem aCE {α:Type} (l:List α) (n:Nat):cutD l (some ((n:Int)+1)) none=l.drop (n+1):=by
 unfold cutD
 have e1:HT.sIx l.length 0 (some ((n:Int)+1))=min (n+1) l.length:=HT.jC l.length 0 (n+1)
 have e2:HT.sIx l.length l.length none=l.length:=rfl
 rw [e1,e2]
 by_cases h:n+1≤l.length
 ·rw [Nat.min_eq_left h,List.take_of_length_le (by rw [List.length_drop]; exact Nat.le_refl _)]
 ·rw [Nat.min_eq_right (by omega),Nat.sub_self,List.take_zero,List.drop_eq_nil_of_le (by omega)]
structure TT (n:Nat) (xs:List D):Prop where
 len:xs.length≤n
 each:∀ x∈xs,tameB 2 x=true
theorem aEP {n:Nat}{zs:List Str} (hz:∀ z∈zs,z.length≤1000) (hl:zs.length≤n):TT n (zs.map .str):=⟨by rw [List.length_map]; exact hl,fun x hx=>by
 obtain ⟨z,hz',rfl⟩:=List.mem_map.mp hx
 simp only [tameB,decide_eq_true_eq]
 exact hz z hz'⟩
theorem qB {n:Nat}{z:Str} (h:z.length≤1000):tameB n (.str z)=true:=by cases n <;> simpa only [tameB,decide_eq_true_eq] using h
theorem two {n:Nat}{x y:D} (hx:tameB n x=true) (hy:tameB n y=true):∀ d∈[x,y],tameB n d=true:=fun d hd=>by
 simp only [List.mem_cons,List.not_mem_nil,or_false] at hd
 rcases hd with rfl | rfl <;> assumption
end Q
namespace Z
open PySem L2
end Z
namespace Q
open PySem L2 Z
theorem yZ {zs:List Str}{nx ny:Nat} (h:zs.length=ny - 1) (hz:∀ z∈zs,z.length=nx - 1):fF (zs.map .str) nx ny=zs.all fun z=>z.cps.toList.all R.sgn:=by
 unfold fF
 rw [List.length_map,decide_eq_true h,Bool.true_and,List.all_map]
 rw [Bool.eq_iff_iff,List.all_eq_true,List.all_eq_true]
 constructor
 ·intro a z hz'
  have:=a z hz'
  simp only [Function.comp,d6,Bool.and_eq_true] at this
  exact this.2
 ·intro a z hz'
  simp only [Function.comp,d6,Bool.and_eq_true]
  exact ⟨decide_eq_true (hz z hz'),a z hz'⟩
def sc (c:Nat) (l:List Nat):Int:=(l.map fun n=>if decide (n=c)=true then (1:Int) else 0).sum
theorem xM:nN (.tup [.tup [], .tup [], .tup []])=true:=by decide +kernel
end Q
namespace HD
open PySem PySem.Spec PyProof.Rows
section
variable {prog:Program}{w:World}{K:Type} [DecidableEq K] {knd:HeapKind prog w K}{A:Around}{E:Value→Shared→Prop}{s:Shared}{d a:Addr}{xs:List (K × Addr × Value)}{k:K}
end
end HD
namespace HD
open PySem PySem.Spec PyProof.Rows
section
variable {prog:Program}{w:World}{K:Type} [DecidableEq K] {knd:HeapKind prog w K}{A:Around}{E:Value→Shared→Prop}{s:Shared}{o:Addr}{ys:List (K × Addr × Value)}
end
end HD
namespace HD
open PySem PySem.Spec PyProof.Rows
section
variable {prog:Program}{w:World}{A:Around}{E:Value→Shared→Prop}{s:Shared}{d o:Addr}{od oo:Obj}{es eo:Array DictEntry}{ep e2:Nat}
end
end HD
namespace Z
open PySem L2
section
variable {X:Cx}{Γ:Gm}{M:Mem}{k:D→Mem→Prop}{e o:Expr}
end
end Z
namespace Z
open PySem L2
end Z
namespace HD
open PySem PySem.Spec PyProof.Rows
end HD
namespace Z
open PySem L2
end Z
namespace HT
open PySem PyProof.Rows
section
open PySem.SeqAt
open PySem.AutoSeq1 (wpAny_loadPart')
open PySem.MeetsSeq PySem.MeetsSeq2 PySem.MeetsSeq3
end
end HT
namespace Z
open PySem L2
section
variable {X:Cx}{Γ:Gm}{M:Mem}{F:Fin}{tg iter:Expr}{body:List Stmt}{pos:Pos}
end
end Z
namespace Z
open PySem L2
def tk (M:Mem) (b:Addr):Bool:=match M b with
 | some (.lst _)=>true
 | _=>false
def aIB (G H:Hp) (M:Mem):Hp:=fun b=>if tk M b=true then H b else G b
def mB (G1:Hp) (M:Mem):Hp:=fun b=>if tk M b=true then none else G1 b
mutual
def noL:D→Bool
 | .non | .bl _ | .int _ | .str _=>true
 | .tup ds=>noLs ds
 | _=>false
def noLs:List D→Bool
 | []=>true
 | d::ds=>noL d && noLs ds
end
section
variable {K:Fg}{G H G1 H1:Hp}{M M1:Mem}
theorem xI {a:Addr}{vs:List V} (hl:∀ b,tk M b=true→∃ ws,G1 b=some (.lst ws)) (h:SqT K G1 a vs):SqT K (mB G1 M) a vs:=by
 rcases h with h | h
 ·refine .inl ?_
  have ne:¬ tk M a=true:=fun t=>by
   obtain ⟨ws,e⟩:=hl a t
   rcases h with h | ⟨o,h⟩ <;> rw [e] at h <;> cases h
  have e:mB G1 M a=G1 a:=by unfold mB; rw [if_neg ne]
  rcases h with h | ⟨o,h⟩
  ·exact .inl (e.trans h)
  ·exact .inr ⟨o,e.trans h⟩
 ·exact .inr h
mutual
theorem den_strip (hl:∀ b,tk M b=true→∃ ws,G1 b=some (.lst ws)):∀ (d:D) {v:V},noL d=true→Den K G1 d v→Den K (mB G1 M) d v
 | .non,_,_,h=>by simp only [Den] at h ⊢; exact h
 | .bl _,_,_,h=>by simp only [Den] at h ⊢; exact h
 | .int _,_,_,h=>by simp only [Den] at h ⊢; exact h
 | .str _,_,_,h=>by simp only [Den] at h ⊢; exact h
 | .tup ds,_,n,h=>by
  simp only [noL] at n
  simp only [Den] at h ⊢
  obtain ⟨a,vs,e,q,r⟩:=h
  exact ⟨a,vs,e,xI hl q,dens_strip hl ds n r⟩
 | .mt _,_,n,_=>by simp [noL] at n
 | .lst _,_,n,_=>by simp [noL] at n
 | .fl _,_,n,_=>by simp [noL] at n
 | .st _,_,n,_=>by simp [noL] at n
theorem dens_strip (hl:∀ b,tk M b=true→∃ ws,G1 b=some (.lst ws)):∀ (ds:List D) {vs:List V},noLs ds=true→Dens K G1 ds vs→Dens K (mB G1 M) ds vs
 | [],_,_,h=>by simp only [Dens] at h ⊢; exact h
 | d::ds,_,n,h=>by
  simp only [noLs,Bool.and_eq_true] at n
  simp only [Dens] at h ⊢
  obtain ⟨v,r,e,h1,h2⟩:=h
  exact ⟨v,r,e,den_strip hl d n.1 h1,dens_strip hl ds n.2 h2⟩
end
end
def Ln (M:Mem) (d d':D):Prop:=∀ K G H v,Rel K G H M→Den K G d v→Den K (aIB G H M) d' v
inductive LnE (M:Mem):Gm→Gm→Prop
 | n:LnE M [] []
 | s {o:Option D}{Γ Γ':Gm} (r:LnE M Γ Γ'):LnE M (o::Γ) (none::Γ')
 | c {d d':D}{Γ Γ':Gm} (h:Ln M d d') (r:LnE M Γ Γ'):LnE M (some d::Γ) (some d'::Γ')
section
variable {X:Cx}{Γ Γ':Gm}{M:Mem}{k:D→Mem→Prop}{kb:Bool→Mem→Prop}{e:Expr}{d0:D}{b0:Bool}
end
end Z
namespace R
open PySem L2
theorem still {zs:List Str} (hz:zs≠[]) {a b:Nat} (hab:a≤b) (hb:b≤zs.length+1) (hn:∀ c∈chg zs,¬ (a≤c∧c < b)):(framed zs)[a]?=(framed zs)[b]?:=by
 refine Classical.byContradiction fun q => ?_
 obtain ⟨k,h1,h2,h3⟩:=gT (fun i=>(framed zs)[i]?) (b - a) a (by rw [show a+(b - a)=b by omega]; exact q)
 exact hn k ((dM hz).mpr ⟨by omega,h3⟩) ⟨h1,by omega⟩
theorem mG {zs:List Str}{i j:Nat}{c d:Nat} (hi:(chg zs)[i]?=some c) (hj:(chg zs)[j]?=some d) (h:i < j):c < d:=by
 obtain ⟨h1,e1⟩:=List.getElem?_eq_some_iff.mp hi
 obtain ⟨h2,e2⟩:=List.getElem?_eq_some_iff.mp hj
 have:=List.pairwise_iff_getElem.mp (bY zs) i j h1 h2 h
 rw [e1,e2] at this; exact this
theorem sN {zs:List Str}{i:Nat}{c d e:Nat} (hi:(chg zs)[i]?=some c) (hj:(chg zs)[i+1]?=some d) (he:e∈chg zs) (h:c < e):d≤e:=by
 obtain ⟨k,hk,ek⟩:=List.getElem_of_mem he
 have ek':(chg zs)[k]?=some e:=by rw [List.getElem?_eq_getElem hk,ek]
 by_cases h1:k≤i
 ·by_cases h2:k=i
  ·subst h2; rw [hi] at ek'; cases ek'; omega
  ·have:=mG ek' hi (by omega); omega
 ·by_cases h2:k=i+1
  ·subst h2; rw [hj] at ek'; cases ek'; omega
  ·have:=mG hj ek' (by omega); omega
theorem qK {zs:List Str}{c e:Nat} (hi:(chg zs)[0]?=some c) (he:e∈chg zs):c≤e:=by
 obtain ⟨k,hk,ek⟩:=List.getElem_of_mem he
 have ek':(chg zs)[k]?=some e:=by rw [List.getElem?_eq_getElem hk,ek]
 by_cases h:k=0
 ·subst h; rw [hi] at ek'; cases ek'; omega
 ·have:=mG hi ek' (by omega); omega
theorem zX {zs:List Str}{c e:Nat} (hi:(chg zs)[(chg zs).length - 1]?=some c) (he:e∈chg zs):e≤c:=by
 obtain ⟨k,hk,ek⟩:=List.getElem_of_mem he
 have ek':(chg zs)[k]?=some e:=by rw [List.getElem?_eq_getElem hk,ek]
 by_cases h:k=(chg zs).length - 1
 ·subst h; rw [hi] at ek'; cases ek'; omega
 ·have:=mG ek' hi (by omega); omega
theorem sD {zs:List Str}{i c:Nat} (hi:(chg zs)[i]?=some c) (h:i+1 < (chg zs).length):(aL zs)[i]?=zs[c]?∧c < zs.length:=by
 have hd:(chg zs).dropLast[i]?=some c:=by rw [List.getElem?_dropLast,if_pos (by omega)]; exact hi
 have hl:=hU (bY zs) (dS zs) c (List.mem_of_getElem? hd)
 unfold aL
 rw [List.getElem?_map,hd,Option.map_some,List.getD_eq_getElem?_getD,List.getElem?_eq_getElem hl]
 exact ⟨rfl,hl⟩
theorem uK {n:Nat}{zs:List Str} (h:∀ z∈zs,z.length=n) (hr:aL zs≠[]):chg (aL zs)=List.range (chg zs).length:=by
 have hc:chg zs≠[]:=fun e=>hr (by unfold aL; rw [e]; rfl)
 have hz:zs≠[]:=nW zs hc
 have hkl:=dZ zs
 have hk1:1≤(aL zs).length:=List.length_pos_iff.mpr hr
 have hK:∀ z∈aL zs,z.length=n:=fun z hz=>h z (iK z hz)
 have w1:=b5 h hz
 have w2:=b5 hK hr
 have f0:=eM zs
 have fl:=c5 zs
 have g0:=eM (aL zs)
 have gl:=c5 (aL zs)
 rw [w1] at f0 fl
 rw [w2] at g0 gl
 have A:∀ i c,(chg zs)[i]?=some c→(framed (aL zs))[i]?=(framed zs)[c]?:=fun i c hi=>by
  have hil:=(List.getElem?_eq_some_iff.mp hi).1
  have hcl:=dS zs c (List.mem_of_getElem? hi)
  cases i with
  | zero =>
   rw [g0,← f0]
   exact still hz (Nat.zero_le _) (by omega) fun e he z=>by have:=qK hi he; omega
  | succ i =>
   obtain ⟨b,hb⟩:∃ b,(chg zs)[i]?=some b:=⟨(chg zs)[i],List.getElem?_eq_getElem (by omega)⟩
   obtain ⟨k1,k2⟩:=sD hb (by omega)
   have lt:=mG hb hi (Nat.lt_succ_self i)
   rw [cD (by omega),k1,← cD k2]
   exact still hz (by omega) (by omega) fun e he z=>by have:=sN hb hi he (by omega); omega
 have B:∀ i c,(chg zs)[i]?=some c→(framed (aL zs))[i+1]?=(framed zs)[c+1]?:=fun i c hi=>by
  have hil:=(List.getElem?_eq_some_iff.mp hi).1
  have hcl:=dS zs c (List.mem_of_getElem? hi)
  by_cases hlast:i+1 < (chg zs).length
  ·obtain ⟨k1,k2⟩:=sD hi hlast
   rw [cD (by omega),k1,← cD k2]
  ·have ei:i=(chg zs).length - 1:=by omega
   rw [show i+1=(aL zs).length+1 by omega,gl,← fl]
   exact (still hz (by omega) (Nat.le_refl _) fun e he z=>by have:=zX (ei ▸ hi) he; omega).symm
 have:chg (aL zs)=(List.range ((aL zs).length+1)).filter fun i => !decide ((framed (aL zs))[i]?=(framed (aL zs))[i+1]?):=by
  unfold chg
  rw [if_neg (by rw [List.isEmpty_iff]; exact hr)]
 rw [this,show (aL zs).length+1=(chg zs).length by omega]
 refine List.filter_eq_self.mpr fun i hi => ?_
 have hil:=List.mem_range.mp hi
 have hi':(chg zs)[i]?=some (chg zs)[i]:=List.getElem?_eq_getElem hil
 have hne:=((dM hz).mp (List.mem_of_getElem? hi')).2
 rw [← A i _ hi',← B i _ hi'] at hne
 rw [decide_eq_false hne]; rfl
theorem j8 {n:Nat}{zs:List Str} (h:∀ z∈zs,z.length=n) (hz:zs≠[]) (hn:0 < n):aE (aE zs)=zs:=by
 have hc:(aE zs).length=n:=bR h hz
 have hcn:aE zs≠[]:=fun e=>by rw [e] at hc; simp at hc; omega
 have hce:∀ z∈aE zs,z.length=zs.length:=fun z hz=>dW z hz
 have hzl:0 < zs.length:=List.length_pos_iff.mpr hz
 have hcc:=bR hce hcn
 apply List.ext_getElem?
 intro i
 by_cases hi:i < zs.length
 ·rw [eX hce hcn hi,List.getElem?_eq_getElem hi]
  congr 1
  apply eU
  show (aE zs).map (atS · i)=zs[i].cps.toList
  apply List.ext_getElem?
  intro j
  have hl:=h zs[i] (List.getElem_mem hi)
  by_cases hj:j < n
  ·rw [List.getElem?_map,eX h hz hj,Option.map_some,c6 (by omega),jE,List.getD_eq_getElem?_getD,List.getElem?_map,List.getElem?_eq_getElem hi]
   rfl
  ·rw [List.getElem?_eq_none (by rw [List.length_map]; omega),List.getElem?_eq_none (by rw [Array.length_toList]; have:zs[i].cps.size=zs[i].length:=rfl; omega)]
 ·rw [List.getElem?_eq_none (by omega),List.getElem?_eq_none (by omega)]
theorem xO {n:Nat}{zs:List Str} (h:Good n zs) (hr:aL zs≠[]) :
  chg (bU zs)=List.range (chg zs).length∧chg (aE (bU zs))=List.range (chg (aE zs)).length∧bU zs≠[]∧Good ((chg (aE zs)).length - 1) (bU zs)∧2≤(chg (aE zs)).length∧2≤(chg zs).length:=by
 have hl:∀ z∈zs,z.length=n:=fun z hz=>(h z hz).1
 have gR:=gO h
 have hR:∀ z∈aL zs,z.length=n:=fun z hz=>(gR z hz).1
 obtain ⟨z0,hz0,hd0⟩:=n8 hl hr
 obtain ⟨j0,hj0,_⟩:=sQ gR hz0 hd0
 have hn:0 < n:=by omega
 have eR:=uK hl hr
 have eC:=nA hl hr
 have gC:=iG gR
 have hC:∀ z∈aE (aL zs),z.length=(aL zs).length:=fun z hz=>(gC z hz).1
 have cne:aE (aL zs)≠[]:=fun e=>by have:=bR hR hr; rw [e] at this; simp at this; omega
 have kne:aL (aE (aL zs))≠[]:=fun e=>by
  have h1:=(q5 hC e).2
  rw [j8 hR hr hn,eR] at h1
  have h2:(chg zs).length=0:=by simpa using congrArg List.length h1
  have:=dZ zs
  exact hr (List.length_eq_zero_iff.mp (by omega))
 have eK:=uK hC kne
 have gK:=gO gC
 have hK:∀ z∈aL (aE (aL zs)),z.length=(aL zs).length:=fun z hz=>(gK z hz).1
 have rl:0 < (aL zs).length:=List.length_pos_iff.mpr hr
 have e1:=nA hC kne
 rw [j8 hR hr hn,eR,mV h hr] at e1
 have e2:aE (bU zs)=aL (aE (aL zs)):=by rw [← mV h hr]; exact j8 hK kne rl
 have kl:=dZ (aE (aL zs))
 have kp:0 < (aL (aE (aL zs))).length:=List.length_pos_iff.mpr kne
 have kz:=dZ zs
 rw [eC] at kl
 refine ⟨e1,by rw [e2,eK,eC],fun e => ?_,?_,by omega,by omega⟩
 ·rw [e] at e1
  have h2:=congrArg List.length e1
  rw [List.length_range,show (chg ([]:List Str)).length=0 from rfl] at h2
  omega
 ·rw [← mV h hr]
  have:=iG gK
  rw [kl] at this
  exact this
theorem wS {zs:List Str}{r j c d:Nat} (hj:j < zs.length) (h1:(chg zs)[r]?=some c) (h2:(chg zs)[r+1]?=some d) (hc:c≤j) (hd:j < d):zs[j]?=zs[c]?:=by
 have hz:zs≠[]:=fun e=>by rw [e] at hj; simp at hj
 rw [← cD hj,← cD (show c < zs.length by omega)]
 exact (still hz (by omega) (by omega) fun e he z=>by have:=sN h1 h2 he (by omega); omega).symm
theorem uH {n:Nat}{zs:List Str} (h:∀ z∈zs,z.length=n) {j:Nat} (hj:j < zs.length) (hn:∀ r c d,(chg zs)[r]?=some c→(chg zs)[r+1]?=some d→¬ (c≤j∧j < d)):zs[j]?=some (dots n):=by
 have hz:zs≠[]:=fun e=>by rw [e] at hj; simp at hj
 have w:=b5 h hz
 have f0:=eM zs
 have fl:=c5 zs
 rw [w] at f0 fl
 rw [← cD hj]
 by_cases hall:∀ e∈chg zs,j < e
 ·rw [← f0]
  exact (still hz (Nat.zero_le _) (by omega) fun e he z=>by have:=hall e he; omega).symm
 ·have h0:∀ (r c:Nat),(chg zs)[r]?=some c→c≤j:=fun r=>by
   induction r with
   | zero =>
    intro c hc
    refine Classical.byContradiction fun q=>hall fun e he => ?_
    have:=qK hc he; omega
   | succ r ih =>
    intro d hd
    have hr:=(List.getElem?_eq_some_iff.mp hd).1
    have hc:(chg zs)[r]?=some (chg zs)[r]:=List.getElem?_eq_getElem (by omega)
    have:=hn r _ d hc hd
    have:=ih _ hc
    omega
  rw [← fl]
  refine still hz (by omega) (Nat.le_refl _) fun e he z => ?_
  obtain ⟨k,hk,ek⟩:=List.getElem_of_mem he
  have:=h0 k e (by rw [List.getElem?_eq_getElem hk,ek])
  omega
theorem aEC {zs:List Str}{r c i j:Nat} (hr:(chg zs)[r]?=some i) (hr1:r+1 < (chg zs).length) (hc:(chg (aE zs))[c]?=some j) (hc1:c+1 < (chg (aE zs)).length) {z:Str} (hz:zs[i]?=some z):∃ y,(bU zs)[r]?=some y∧atS y c=atS z j:=by
 have d1:(chg zs).dropLast[r]?=some i:=by rw [List.getElem?_dropLast,if_pos (by omega)]; exact hr
 have d2:(chg (aE zs)).dropLast[c]?=some j:=by rw [List.getElem?_dropLast,if_pos (by omega)]; exact hc
 unfold bU
 rw [List.getElem?_map,d1]
 refine ⟨_,rfl,?_⟩
 rw [jE,List.getD_eq_getElem?_getD,List.getElem?_map,d2,List.getD_eq_getElem?_getD,hz]
 rfl
theorem aG9 {n:Nat}{zs:List Str} (h:∀ z∈zs,z.length=n) {c k i d:Nat} (hk:k < n) (h1:(chg (aE zs))[c]?=some i) (h2:(chg (aE zs))[c+1]?=some d) (hc:i≤k) (hd:k < d):∀ z∈zs,atS z k=atS z i:=fun z hz=>by
 have hne:zs≠[]:=fun e=>by rw [e] at hz; cases hz
 have hl:=bR h hne
 have:=wS (zs:=aE zs) (by omega) h1 h2 hc hd
 rw [eX h hne hk,eX h hne (by omega)] at this
 exact pY.mp this z hz
theorem aDY {n:Nat}{zs:List Str} (h:∀ z∈zs,z.length=n) {k:Nat} (hk:k < n) (hn:∀ r c d,(chg (aE zs))[r]?=some c→(chg (aE zs))[r+1]?=some d→¬ (c≤k∧k < d)):∀ z∈zs,atS z k=46:=fun z hz=>by
 have hne:zs≠[]:=fun e=>by rw [e] at hz; cases hz
 have hl:=bR h hne
 have:=uH (zs:=aE zs) (fun z hz=>dW z hz) (j:=k) (by omega) hn
 rw [eX h hne hk] at this
 have e:ofL (zs.map (atS · k))=dots zs.length:=by injection this
 obtain ⟨i,hi,rfl⟩:=List.getElem_of_mem hz
 have e2:=congrArg (fun s=>atS s i) e
 simp only [jE,jI,if_pos hi] at e2
 rw [List.getD_eq_getElem?_getD,List.getElem?_map,List.getElem?_eq_getElem hi] at e2
 exact e2
end R
namespace Z
open PySem L2
section
variable {X:Cx}{Γ:Gm}{M:Mem}{k:D→Mem→Prop}{kb:Bool→Mem→Prop}{pos:Pos}{a b c:Expr}
theorem jR {x:Str}{n:Int}{t:Tok} (hm:X.mg x=some (.int n t)) (h:k (.int n) M) (hg:Gl X x:=by rfl) (hb:(x == ("__debug__" : Str))=false:=by decide):GE X (.Name x pos) Γ M k :=
 fun σ G H Q en rl q=>cC (pW (v := .int n) hg hm ⟨t,rfl⟩ hb) (q _ G H _ M (Stp.refl rl) cS h)
theorem r0 {op op':CmpOp}{r r':R2} (ho:OpR X (compareOp op) r) (ho':OpR X (compareOp op') r')
  (h:GE X a Γ M fun d1 M1=>GE X b Γ M1 fun d2 M2=>Op2 X.K r d1 d2 M2 fun e M3=>∃ t,e = .bl t∧if t=true then GE X c Γ M3 fun d3 M4=>Op2 X.K r' d2 d3 M4 k else k (.bl false) M3)
  (hm:lastMarks [op,op'] [b,c]=false:=by with_unfolding_all rfl):GE X (.Compare a [op,op'] [b,c] pos) Γ M k:=fun σ G H Q en rl q=>by
 refine cC (aCD ho ho' pU pU pU hm) ?_
 refine h σ G H _ en rl fun v1 G1 H1 d1 M1 s1 e1 h1 => ?_
 refine h1 σ G1 H1 _ (en.up s1.gg) s1.rel fun v2 G2 H2 d2 M2 s2 e2 h2 => ?_
 refine h2 G2 H2 v1 v2 _ s2.rel (e1.up s2.gg) e2 fun z G3 H3 d3 M3 s3 e3 ⟨t,ed,h3⟩ => ?_
 subst ed
 have s13:=(s1.trans s2).trans s3
 refine ⟨t,e3.bl_,?_⟩
 cases t with
 | true =>
  rw [if_pos rfl] at h3 ⊢
  refine h3 σ G3 H3 _ (en.up s13.gg) s3.rel fun w G4 H4 d4 M4 s4 e4 h4 => ?_
  exact h4 G4 H4 v2 w Q s4.rel (e2.up (s3.trans s4).gg) e4 (q.up (s13.trans s4))
 | false =>
  rw [if_neg Bool.false_ne_true] at h3 ⊢
  exact q _ _ _ _ _ s13 dG h3
end
end Z
namespace Q
open PySem L2 Z
def p1 (x:Int):Int × Int:=(x,1)
def fY (xs:List Int):List D:=(xs.map p1).map pairD
structure Up7 (xs:List Int):Prop where
 up:xs.Pairwise (· < ·)
 few:xs.length≤7
 bd:∀ x∈xs, -1000000000≤x∧x≤1000000000
def dv (a b:Int):Int:=if b < 0 then -((Int.gcd a b:Nat):Int) else ((Int.gcd a b:Nat):Int)
def lowP (a b:Int):Int × Int:=(a.fdiv (dv a b),b.fdiv (dv a b))
def aEB:Ct:=fun ds M k=>∃ a b:Int,ds=[.int a, .int b]∧b≠0∧b.natAbs < 10 ^ 1000∧k (pairD (lowP a b)) M
def yL:Ct:=fun ds M k=>∃ a b:Int,ds=[.int a, .int b]∧b≠0∧b.natAbs < 10 ^ 1000∧k (pairD (lowP a b)) M
def xU:Ct:=fun ds M k=>∃ x:Int,ds=[.int x] ∧ -1000000000≤x∧x≤1000000000∧k (.bl true) M
def uV:Ct:=fun ds M k=>∃ xs:List Int,ds=[.lst (xs.map .int)]∧Up7 xs∧k (.bl true) M
def aHE:Ct:=fun ds M k=>∃ (xs ys:List Int) (zs:List Str),ds=[.lst (xs.map .int), .lst (ys.map .int), .lst (zs.map .str)]∧Up7 xs∧Up7 ys∧R.Good (xs.length - 1) zs∧zs.length=ys.length - 1∧k (gS (fY xs) (fY ys) zs) M
theorem low1 (x:Int):lowP x 1=p1 x:=by
 have e:dv x 1=1:=by unfold dv; rw [if_neg (by decide),Int.gcd_one]; rfl
 unfold lowP p1
 rw [e,Int.fdiv_one]
 rfl
theorem aDM {z:Int} (h0:0≤z) (h1:z < 3):∃ m:Int,atI [D.int 1, .int 5, .int (10 ^ (8:Int).toNat)] z=some (.int m)∧1≤m∧m≤100000000:=by
 have:z=0∨z=1∨z=2:=by omega
 rcases this with rfl | rfl | rfl
 ·exact ⟨1,rfl,by decide,by decide⟩
 ·exact ⟨5,rfl,by decide,by decide⟩
 ·exact ⟨_,rfl,by decide,by decide⟩
theorem lL (ds:List D):isD "list" (.lst ds)=true:=rfl
theorem all_true (n:Nat):(List.replicate n true).all id=true:=by
 rw [List.all_eq_true]; intro b hb; rw [(List.mem_replicate.mp hb).2]; rfl
theorem int_at {xs:List Int}{i:Nat} (h:i < xs.length):atI (xs.map D.int) (i:Int)=some (.int xs[i]):=gN (by rw [List.getElem?_map,List.getElem?_eq_getElem h]; rfl)
theorem pJ (xs:List Int):(fY xs).length=xs.length:=by unfold fY; rw [List.length_map,List.length_map]
theorem sJ {n:Nat}{zs:List Str} (h:R.Good n zs):(zs.all fun z=>z.cps.toList.all R.sgn)=true:=List.all_eq_true.mpr fun z hz=>(h z hz).2
theorem TT.tame1 {n:Nat}{zs:List Str} (h:TT n (zs.map .str)):∀ r∈zs.map D.str,tameB 1 r=true:=fun r hr=>by
 obtain ⟨z,hz,rfl⟩:=List.mem_map.mp hr
 exact qB (tG (h.each _ hr))
theorem oR {α:Type} (l:List α) (d:α):(List.range l.length).map (fun j=>l.getD j d)=l:=by
 apply List.ext_getElem?
 intro i
 by_cases h:i < l.length
 ·rw [List.getElem?_map,List.getElem?_range h,Option.map_some,List.getD_eq_getElem?_getD,List.getElem?_eq_getElem h]; rfl
 ·rw [List.getElem?_eq_none (by simp; omega),List.getElem?_eq_none (by omega)]
theorem kH (n:Nat):(List.range n).dropLast=List.range (n - 1):=by
 cases n with
 | zero=>rfl
 | succ n=>rw [List.range_succ,List.dropLast_concat]; rfl
theorem zL {K:List Str}{a b:Nat} (t1:R.chg K=List.range a) (t2:R.chg (R.aE K)=List.range b) (t4:R.Good (b - 1) K) (hkl:K.length=a - 1):R.bU K=K:=by
 unfold R.bU
 rw [t1,t2,kH,kH,← hkl]
 apply List.ext_getElem?
 intro i
 by_cases h:i < K.length
 ·rw [List.getElem?_map,List.getElem?_range h,Option.map_some,List.getD_eq_getElem?_getD,List.getElem?_eq_getElem h]
  have hl:=(t4 K[i] (List.getElem_mem h)).1
  congr 1
  apply eU
  show (List.range _).map (R.atS K[i])=K[i].cps.toList
  apply List.ext_getElem?
  intro j
  by_cases hj:j < b - 1
  ·rw [List.getElem?_map,List.getElem?_range hj,R.c6 (by omega)]; rfl
  ·rw [List.getElem?_eq_none (by simp; omega),List.getElem?_eq_none (by rw [Array.length_toList]; have:K[i].cps.size=K[i].length:=rfl; omega)]
 ·rw [List.getElem?_eq_none (by simp; omega),List.getElem?_eq_none (by omega)]
theorem pI {xs:List Int} (h:xs.Pairwise (· < ·)) {i j:Nat} (hij:i≤j) (hj:j < xs.length):xs.getD i 0≤xs.getD j 0:=by
 rw [List.getD_eq_getElem?_getD,List.getD_eq_getElem?_getD,List.getElem?_eq_getElem (show i < xs.length by omega),List.getElem?_eq_getElem hj]
 by_cases e:i=j
 ·subst e; exact Int.le_refl _
 ·exact Int.le_of_lt (List.pairwise_iff_getElem.mp h i j (by omega) hj (by omega))
theorem nY {xs:List Int} (h:xs.Pairwise (· < ·)) {i j:Nat} (hij:i < j) (hj:j < xs.length):xs.getD i 0 < xs.getD j 0:=by
 rw [List.getD_eq_getElem?_getD,List.getD_eq_getElem?_getD,List.getElem?_eq_getElem (show i < xs.length by omega),List.getElem?_eq_getElem hj]
 exact List.pairwise_iff_getElem.mp h i j (by omega) hj (by omega)
end Q
namespace L2
open PySem PySem.Spec PyProof.Rows Builtin Builtin.Str
section
variable {X:Cx}
def aCX:List V→Hp→VK→Prop:=fun xs H Q=>∃ i,xs=[.int i]∧i.natAbs.log2 < 1920∧Q (.str (PySem.Str.ofString (toString i))) H
theorem iM:eO X (.type "str") aCX:=by
 intro pins s σ H xs us Q I r h
 obtain ⟨i,rfl,hi,q⟩:=h
 obtain ⟨u,rfl,t,rfl⟩:=vals1 r
 exact PySem.P.str_of_int hi ⟨.str _,H,I.tok _,⟨_,rfl⟩,q⟩
def aC2:List V→Hp→VK→Prop:=fun xs H Q=>∃ x n,xs=[.str x]∧PySem.intText? x=some n∧x.length≤640∧Q (.int n) H
theorem qZ:eO X (.type "int") aC2:=by
 intro pins s σ H xs us Q I r h
 obtain ⟨x,n,rfl,hn,hl,q⟩:=h
 obtain ⟨u,rfl,t,rfl⟩:=vals1 r
 exact PySem.W.KIN.call_text hn hl ⟨.int n,H,I.tok _,⟨_,rfl⟩,q⟩
def vB:V→List V→Hp→VK→Prop:=fun x vs H Q=>∃ z y,x = .str z∧vs=[.str y]∧Q (.bl (Txt.startswith z y)) H
theorem zF:MtR X "str.startswith" vB:=by
 intro pins s σ H x vs v us Q I rx rv h
 obtain ⟨z,y,rfl,rfl,q⟩:=h
 obtain ⟨t,rfl⟩:=rx
 obtain ⟨u,rfl,t2,rfl⟩:=vals1 rv
 exact SC.startswith ⟨.bl _,H,I,rfl,q⟩
def dH (z y:PySem.Str):PySem.Str × PySem.Str × PySem.Str:=match occurrences z y 0 z.length 1 with
 | i::_=>(strSub z 0 i,y,strSub z (i+y.length) z.length)
 | []=>(z,PySem.Str.empty,PySem.Str.empty)
def aC1:V→List V→Hp→VK→Prop:=fun x vs H Q=>∃ z y,x = .str z∧vs=[.str y]∧(y.length == 0)=false∧z.length≤sizeLine∧∀ p,H p=none→Q (.ref p) (upd H p (.tup [.str (dH z y).1, .str (dH z y).2.1, .str (dH z y).2.2]))
theorem aDC:MtR X "str.partition" aC1:=by
 intro pins s σ H x vs v us Q I rx rv h
 obtain ⟨z,y,rfl,rfl,hy,hz,q⟩:=h
 obtain ⟨t,rfl⟩:=rx
 obtain ⟨u,rfl,t2,rfl⟩:=vals1 rv
 refine call_meets PySem.F.slot_str_partition (typeIs_str _ _ _) PySem.F.entry_str_partition (PySem.F.args_str_partition_2 _ _) (meets_str_partition z y t t2 hy hz) ?_
 unfold dH at q
 cases ho:occurrences z y 0 z.length 1 with
 | nil =>
  rw [ho] at q
  refine ⟨.ref s.heap.objs.size,_,I.laid (t':=s.toks+1) (fun b ob e=>Heap.get?_push_of_some _ e) (Nat.le_refl _) ?_,rfl,q _ (I.hok.fresh (Nat.le_refl _))⟩
  exact ⟨(show 3≤sizeLine by decide),_, .cons ⟨_,rfl⟩ (.cons ⟨_,rfl⟩ (.cons ⟨_,rfl⟩ .nil)),_,Heap.get?_push_size _ rfl,rfl,_,rfl⟩
 | cons i r =>
  rw [ho] at q
  refine ⟨.ref s.heap.objs.size,_,I.laid (t':=s.toks+1+1) (fun b ob e=>Heap.get?_push_of_some _ e) (Nat.le_refl _) ?_,rfl,q _ (I.hok.fresh (Nat.le_refl _))⟩
  exact ⟨(show 3≤sizeLine by decide),_, .cons ⟨_,rfl⟩ (.cons ⟨_,rfl⟩ (.cons ⟨_,rfl⟩ .nil)),_,Heap.get?_push_size _ rfl,rfl,_,rfl⟩
theorem lW:∀ (ps:List PySem.Str) (tk:Nat),Vals (ps.map V.str) (strsFrom tk ps)
 | [],_ => .nil
 | p::ps,tk => .cons ⟨_,rfl⟩ (lW ps (tk+1))
def zY:V→List V→Hp→VK→Prop:=fun x vs H Q=>∃ (z:PySem.Str) (c:Nat),x = .str z∧vs=[.str ⟨#[c]⟩]∧c < 256∧c∈z.cps.toList∧z.length≤100000∧∀ p,H p=none→Q (.ref p) (upd H p (.lst ((Txt.split z ⟨#[c]⟩).map V.str)))
theorem aBL:MtR X "str.split" zY:=by
 intro pins s σ H x vs v us Q I rx rv h
 obtain ⟨z,c,rfl,rfl,hc,hm,hz,q⟩:=h
 obtain ⟨t,rfl⟩:=rx
 obtain ⟨u,rfl,t2,rfl⟩:=vals1 rv
 obtain ⟨j,hj⟩:=List.getElem?_of_mem hm
 have hA:=(StrLaws.subAt_one z c j).mpr hj
 have h1:(decide (z.length < (⟨#[c]⟩:PySem.Str).length) || decide (Builtin.Str.strKind z < Builtin.Str.strKind ⟨#[c]⟩))=false:=by
  have k1:Builtin.Str.strKind ⟨#[c]⟩=1:=by
   unfold Builtin.Str.strKind
   rw [if_pos (by simp [hc])]
  have k2:1≤Builtin.Str.strKind z:=by unfold Builtin.Str.strKind; split; omega; split <;> omega
  have k3:(⟨#[c]⟩:PySem.Str).length=1:=rfl
  have:=hA.1
  rw [k1,k3,Bool.or_eq_false_iff,decide_eq_false_iff_not,decide_eq_false_iff_not]
  omega
 have hf:(occurrences z ⟨#[c]⟩ 0 z.length (z.length+1)).isEmpty=false:=by
  rw [Bool.eq_false_iff]
  intro he
  obtain ⟨f,hG,hn⟩:=StrLaws.occ_tight z ⟨#[c]⟩ (Nat.le_refl 1)
  rw [List.isEmpty_iff.mp he] at hG
  have ef:f=0:=hG
  subst ef
  exact hn j (Nat.zero_le _) hA
 have e:Txt.split z ⟨#[c]⟩=partsBetween z (occurrences z ⟨#[c]⟩ 0 z.length (z.length+1)) 1:=by
  unfold Txt.split
  rw [if_neg (by rw [h1]; exact Bool.false_ne_true),if_neg (by rw [hf]; exact Bool.false_ne_true)]
  rfl
 have hl:(partsBetween z (occurrences z ⟨#[c]⟩ 0 z.length (z.length+1)) 1).length≤sizeLine:=by
  have:=StrLaws.occ_length_le z ⟨#[c]⟩ 0 z.length (z.length+1)
  unfold partsBetween
  rw [List.length_map,List.length_zip,List.length_cons,List.length_map,List.length_append]
  refine Nat.le_trans (show _≤200000 from ?_) (by decide)
  simp only [List.length_cons,List.length_nil]
  omega
 refine call_meets PySem.F.slot_str_split (typeIs_str _ _ _) PySem.F.entry_str_split (PySem.F.args_str_split_2 _ _) (meets_str_split_sep z ⟨#[c]⟩ t t2 h1 rfl hf (Nat.le_trans hz (by decide)) hl) ?_
 rw [e] at q
 refine ⟨.ref s.heap.objs.size,_,I.laid (t':=s.toks+_) (fun b ob e=>Heap.get?_push_of_some _ e) (Nat.le_refl _) ?_,rfl,q _ (I.hok.fresh (Nat.le_refl _))⟩
 exact ⟨by rw [List.length_map]; exact hl,_,0,lW _ _,Heap.get?_push_size _ rfl⟩
def vT (K:PySem.W.Frag):V→List V→Hp→VK→Prop:=fun x vs H Q=>∃ (a:Addr) (ys:List PySem.Str) (y:PySem.Str),x = .ref a∧vs=[.str y]∧SqL K H a (ys.map V.str)∧Q (.int ((ys.count y:Nat):Int)) H
def lF (y:PySem.Str):Value→Bool
 | .str z _=>z == y
 | _=>false
theorem yA {ys:List PySem.Str} (y:PySem.Str):∀ {its:List Value},Vals (ys.map V.str) its→its.countP (lF y)=ys.count y:=by
 induction ys with
 | nil=>intro its r; cases r; rfl
 | cons b bs ih =>
  intro its r
  cases r with
  | cons r1 r2 =>
   obtain ⟨t,rfl⟩:=r1
   rw [List.countP_cons,ih r2,List.count_cons]
   rfl
theorem yV:MtR X "list.count" (vT X.K):=by
 intro pins s σ H x vs v us Q I rx rv h
 obtain ⟨a,ys,y,rfl,rfl,hq,q⟩:=h
 cases rx
 obtain ⟨u,rfl,t2,rfl⟩:=vals1 rv
 obtain ⟨its,r,pl,hz⟩:=I.list hq
 obtain ⟨⟨cls,dd,data,sl⟩,ho,hc,n,hd⟩:=id pl.isList
 have hc':cls = .type "list" := hc
 have hd':data = .seq its.toArray n:=hd
 subst hc' hd'
 refine call_meets PySem.F.slot_list_count ⟨_,ho,rfl⟩ PySem.F.entry_list_count (PySem.F.args_list_count_2 _ _) (SeqAt.list_countAt a its.toArray n dd sl (.str y t2) (lF y)) ⟨ho,fun v hv => ?_,?_⟩
 ·have hm:v∈its:=by simpa using hv
  obtain ⟨j,hj⟩:=List.getElem?_of_mem hm
  have hlt:j < (ys.map V.str).length:=by rw [r.length]; exact (List.getElem?_eq_some_iff.mp hj).1
  obtain ⟨u2,e2,r2⟩:=r.get (List.getElem?_eq_getElem hlt)
  rw [hj] at e2; cases e2
  rw [List.getElem_map] at r2
  obtain ⟨t3,rfl⟩:=r2
  exact SeqAt.EqAt.str_str _ _ _ _
 ·rw [show its.toArray.toList=its from rfl,yA y r]
  exact ⟨.int _,H,I.tok _,⟨_,rfl⟩,q⟩
end
end L2
namespace L2
open PySem PySem.Spec PyProof.Rows F
theorem rK (l:Addr) (items:Array Value) (n:Nat) (dd:Option Addr) (sl:Array (Option Value)) (x:Value) (e:Value→Bool) (st j:Nat) (t:Tok) (hst:st≤j) (hj:j < items.size) (hsmall:(j:Int) < 2 ^ 63 - 1)
  (hit:e items[j]=true) (hno:∀ m (hm:m < items.size),st≤m→m < j→e items[m]=false) :
  Meets (Builtin.«list.index» ⟨[.ref l,x, .int (st:Int) t],[]⟩)
   (fun A R s=>s.heap.get? l=some { cls := .type "list", dict:=dd,data := .seq items n,slots:=sl }∧(∀ y,y∈items→SeqAt.EqAt A.in1 s y x (e y))∧R (.ok (.ret (.int j s.toks))) { s with toks:=s.toks+1 }):=by
 intro prog w A R s h
 obtain ⟨hp,g,d,tk,os⟩:=s; obtain ⟨hl,he,h⟩:=h
 have f1:=int_index
 wp_walk using wpAny_loadPart' hl
 have a1:((fun i:Int=>if i < 0 then max 0 (i+(items.size:Int)) else i) ((some (st:Int)).getD 0))=((st:Nat):Int):=by
  show (if (st:Int) < 0 then _ else _)=_
  rw [if_neg (by omega)]
  rfl
 have a2:((fun i:Int=>if i < 0 then max 0 (i+(items.size:Int)) else i) ((none:Option Int).getD (2 ^ 63 - 1)))=2 ^ 63 - 1:=by simp
 rw [a1,a2]
 exact ⟨plainId_quiet MeetsSeq.plain_index_loop _,codeAny_builtin MeetsSeq.entry_index_loop (by
  rw [Around.under_plainId MeetsSeq.plain_index_loop _]
  exact SeqAt.index_loopAt l items n dd sl x e (2 ^ 63 - 1) j hj hsmall hit _ st rfl hst hno prog w A R _ ⟨hl,he,h⟩)⟩
section
variable {X:Cx}
def wD (K:PySem.W.Frag):V→List V→Hp→VK→Prop:=fun x vs H Q=>∃ (a:Addr) (ys:List PySem.Str) (y:PySem.Str) (st j:Nat),x = .ref a∧vs=[.str y, .int (st:Int)]∧SqL K H a (ys.map V.str)∧st≤j∧ys[j]?=some y∧(∀ m,st≤m→m < j→ys[m]?≠some y)∧ys.length≤100000∧Q (.int (j:Int)) H
theorem aAH:MtR X "list.index" (wD X.K):=by
 intro pins s σ H x vs v us Q I rx rv h
 obtain ⟨a,ys,y,st,j,rfl,rfl,hq,hst,hj,hno,hl,q⟩:=h
 cases rx
 obtain ⟨u1,u2,rfl,⟨t2,rfl⟩,t3,rfl⟩:=vals2 rv
 obtain ⟨its,r,pl,hz⟩:=I.list hq
 obtain ⟨⟨cls,dd,data,sl⟩,ho,hc,n,hd⟩:=id pl.isList
 have hc':cls = .type "list" := hc
 have hd':data = .seq its.toArray n:=hd
 subst hc' hd'
 have at_:∀ {m:Nat}{z:PySem.Str},ys[m]?=some z→∃ t,its[m]?=some (.str z t):=fun {m z} e=>by
  obtain ⟨v,e1,t,e2⟩:=r.get (i:=m) (x := .str z) (by rw [List.getElem?_map,e]; rfl)
  exact ⟨t,by rw [e1,e2]⟩
 have len:its.length=ys.length:=by rw [← r.length,List.length_map]
 have hjl:j < ys.length:=(List.getElem?_eq_some_iff.mp hj).1
 have key:∀ {m:Nat} (hm:m < its.toArray.size),lF y its.toArray[m]=decide (ys[m]?=some y):=fun {m} hm=>by
  have hm2:m < ys.length:=by rw [← len]; simpa using hm
  obtain ⟨t,e⟩:=at_ (List.getElem?_eq_getElem hm2)
  have:its.toArray[m] = .str ys[m] t:=by
   have e2:its[m]?=some its.toArray[m]:=by rw [List.getElem?_eq_getElem (by simpa using hm)]; rfl
   rw [e] at e2
   exact (Option.some.inj e2).symm
  rw [this,List.getElem?_eq_getElem hm2]
  show (ys[m] == y)=decide (some ys[m]=some y)
  by_cases q:ys[m]=y
  ·rw [decide_eq_true (by rw [q]),q]; simp
  ·rw [decide_eq_false (fun z=>q (Option.some.inj z))]; simp [q]
 refine call_meets PySem.F.slot_list_index ⟨_,ho,rfl⟩ PySem.F.entry_list_index (PySem.F.args_list_index_3 _ _ _) (rK a its.toArray n dd sl (.str y t2) (lF y) st j t3 hst (by simp; omega) (by omega) ?_ ?_) ⟨ho,fun v hv => ?_,?_⟩
 ·rw [key,decide_eq_true hj]
 ·intro m hm h1 h2
  rw [key,decide_eq_false (hno m h1 h2)]
 ·have hm:v∈its:=by simpa using hv
  obtain ⟨j,hj⟩:=List.getElem?_of_mem hm
  have hlt:j < (ys.map V.str).length:=by rw [r.length]; exact (List.getElem?_eq_some_iff.mp hj).1
  obtain ⟨u2,e2,r2⟩:=r.get (List.getElem?_eq_getElem hlt)
  rw [hj] at e2; cases e2
  rw [List.getElem_map] at r2
  obtain ⟨t3,rfl⟩:=r2
  exact SeqAt.EqAt.str_str _ _ _ _
 ·exact ⟨.int _,H,I.tok _,⟨_,rfl⟩,q⟩
end
end L2
namespace Z
open PySem L2
section
variable {K:Fg}{M:Mem}{k:D→Mem→Prop}{x y z:Str}
theorem kJ {i:Int} (hi:i.natAbs.log2 < 1920) (h:k (.str (Str.ofString (toString i))) M):OpN K aCX [.int i] M k:=fun G H vs Q rl e q=>by
 obtain ⟨v,rfl,dv⟩:=dens1 e
 rw [dv.int_]
 exact ⟨i,rfl,hi,q _ _ _ _ _ (Stp.refl rl) dA h⟩
theorem vL {n:Int} (hn:PySem.intText? x=some n) (hl:x.length≤640) (h:k (.int n) M):OpN K aC2 [.str x] M k:=fun G H vs Q rl e q=>by
 obtain ⟨v,rfl,dv⟩:=dens1 e
 rw [dv.str_]
 exact ⟨x,n,rfl,hn,hl,q _ _ _ _ _ (Stp.refl rl) cS h⟩
theorem zZ (h:k (.bl (Txt.startswith z y)) M):OpM K vB (.str z) [.str y] M k:=fun G H v vs Q rl e e2 q=>by
 obtain ⟨u,rfl,du⟩:=dens1 e2
 rw [du.str_]
 exact ⟨z,y,e.str_,rfl,q _ _ _ _ _ (Stp.refl rl) dG h⟩
theorem aD1 (hy:(y.length == 0)=false) (hz:z.length≤sizeLine) (h:k (.tup [.str (dH z y).1, .str (dH z y).2.1, .str (dH z y).2.2]) M):OpM K aC1 (.str z) [.str y] M k:=fun G H v vs Q rl e e2 q=>by
 obtain ⟨u,rfl,du⟩:=dens1 e2
 rw [du.str_]
 refine ⟨z,y,e.str_,rfl,hy,hz,fun p hp => ?_⟩
 have st:=rl.new (o := .tup [.str (dH z y).1, .str (dH z y).2.1, .str (dH z y).2.2]) hp
 exact q _ _ _ _ _ st (jH (SqT.of bP) (cF dA (cF dA (cF dA cP)))) h
theorem aCI {c:Nat} (hc:c < 256) (hm:c∈z.cps.toList) (hz:z.length≤100000) (h:k (.lst ((Txt.split z ⟨#[c]⟩).map .str)) M):OpM K zY (.str z) [.str ⟨#[c]⟩] M k:=fun G H v vs Q rl e e2 q=>by
 obtain ⟨u,rfl,du⟩:=dens1 e2
 rw [du.str_]
 refine ⟨z,c,e.str_,rfl,hc,hm,hz,fun p hp => ?_⟩
 have st:=rl.new (o := .lst ((Txt.split z ⟨#[c]⟩).map V.str)) hp
 exact q _ _ _ _ _ st (fS bP (Dens.of_map (fun x=>dA) _)) h
theorem aAZ {ys:List Str} (h:k (.int ((ys.count y:Nat):Int)) M):OpM K (vT K) (.lst (ys.map .str)) [.str y] M k:=fun G H v vs Q rl e e2 q=>by
 obtain ⟨u,rfl,du⟩:=dens1 e2
 obtain ⟨a,ws,ev,s,dn⟩:=e.lst_
 rw [k7 dn] at s
 rw [du.str_,ev]
 exact ⟨a,ys,y,rfl,rfl,SqL.of (rl.same _ _ s),q _ _ _ _ _ (Stp.refl rl) cS h⟩
theorem zG {ys:List Str}{st j:Nat} (hst:st≤j) (hj:ys[j]?=some y) (hno:∀ m,st≤m→m < j→ys[m]?≠some y) (hl:ys.length≤100000) (h:k (.int (j:Int)) M):OpM K (wD K) (.lst (ys.map .str)) [.str y, .int (st:Int)] M k:=fun G H v vs Q rl e e2 q=>by
 obtain ⟨u1,u2,rfl,d1,d2⟩:=dens2 e2
 obtain ⟨a,ws,ev,s,dn⟩:=e.lst_
 rw [k7 dn] at s
 rw [d1.str_,d2.int_,ev]
 exact ⟨a,ys,y,st,j,rfl,rfl,SqL.of (rl.same _ _ s),hst,hj,hno,hl,q _ _ _ _ _ (Stp.refl rl) cS h⟩
theorem gI {X:Cx}{Γ:Gm}{pos:Pos}{x n:Str}{t:Tok} (hm:X.mg x=some (.str n t)) (h:k (.str n) M) (hg:Gl X x:=by rfl) (hb:(x == ("__debug__" : Str))=false:=by decide):GE X (.Name x pos) Γ M k :=
 fun σ G H Q en rl q=>cC (pW (v := .str n) hg hm ⟨t,rfl⟩ hb) (q _ G H _ M (Stp.refl rl) dA h)
end
end Z
namespace R
open PySem L2
def cV (C:List Nat) (k:Int):Nat:=(C.filter fun (i:Nat)=>decide ((i:Int)≤k)).length
def bd (C:List Nat) (k:Int):Int:=(cV C k:Int) - 1
theorem pS {k:Int}:∀ {C:List Nat},C.Pairwise (· < ·)→∀ {i c:Nat},C[i]?=some c→((c:Int)≤k↔i < cV C k)
 | [],_,i,c,h=>by simp at h
 | a::l,hs,i,c,h=>by
  obtain ⟨h1,h2⟩:=List.pairwise_cons.mp hs
  unfold cV
  by_cases ha:(a:Int)≤k
  ·rw [List.filter_cons_of_pos (by simpa using ha),List.length_cons]
   cases i with
   | zero=>simp at h; subst h; exact ⟨fun _=>by omega,fun _=>ha⟩
   | succ i =>
    have:=pS (k:=k) h2 (i:=i) (c:=c) (by simpa using h)
    unfold cV at this
    rw [this]; omega
  ·rw [List.filter_cons_of_neg (by simpa using ha)]
   have e:l.filter (fun (i:Nat)=>decide ((i:Int)≤k))=[]:=List.filter_eq_nil_iff.mpr fun x hx=>by have:=h1 x hx; simp; omega
   rw [e]
   cases i with
   | zero=>simp at h; subst h; exact ⟨fun z=>absurd z ha,fun z=>by simp at z⟩
   | succ i =>
    have:=h1 c (List.mem_of_getElem? (i:=i) (by simpa using h))
    exact ⟨fun z=>by omega,fun z=>by simp at z⟩
theorem yC (C:List Nat) (k:Int):cV C k≤C.length:=List.length_filter_le _ _
theorem aFH {n:Nat}{zs:List Str} (g:Good n zs) (k j:Int):bC (bU zs) (bd (chg (aE zs)) k) (bd (chg zs) j)=bC zs k j:=by
 have h:∀ z∈zs,z.length=n:=fun z hz=>(g z hz).1
 have kl:(bU zs).length=(chg zs).length - 1:=by unfold bU; rw [List.length_map,List.length_dropLast]
 have kw:∀ z∈bU zs,z.length=(chg (aE zs)).length - 1:=fun z hz=>by
  unfold bU at hz
  obtain ⟨i,_,rfl⟩:=List.mem_map.mp hz
  rw [kQ,List.length_map,List.length_dropLast]
 have c1:=yC (chg zs) j
 have c2:=yC (chg (aE zs)) k
 have key1:=fun {i c}=>pS (k:=j) (bY zs) (i:=i) (c:=c)
 have key2:=fun {i c}=>pS (k:=k) (bY (aE zs)) (i:=i) (c:=c)
 unfold bd
 -- the row is none: both are out
 by_cases hr:0 < cV (chg zs) j∧cV (chg zs) j < (chg zs).length
 rotate_left
 ·have lhs:bC (bU zs) ((cV (chg (aE zs)) k:Int) - 1) ((cV (chg zs) j:Int) - 1)=false:=by
   by_cases h0:cV (chg zs) j=0
   ·exact fP (by omega)
   ·exact fV (by omega)
  rw [lhs]
  symm
  by_cases hj0:j < 0
  ·exact fP hj0
  by_cases hj1:(zs.length:Int)≤j
  ·exact fV hj1
  obtain ⟨m,rfl⟩:∃ m:Nat,j=(m:Int):=⟨j.toNat,by omega⟩
  have hd:=uH h (j:=m) (by omega) fun r c d h1 h2 h3=>by
   have a1:=key1 h1
   have a2:=key1 h2
   have hl2:=(List.getElem?_eq_some_iff.mp h2).1
   omega
  by_cases hk0:k < 0
  ·exact dX hk0
  obtain ⟨q,rfl⟩:∃ q:Nat,k=(q:Int):=⟨k.toNat,by omega⟩
  by_cases hk1:n≤q
  ·exact kE (z:=dots n) (by rw [Int.toNat_natCast]; exact hd) (by rw [oD]; omega)
  ·rw [gD (z:=dots n) (c:=46) (by omega) (by omega) (by rw [Int.toNat_natCast]; exact hd) (by rw [Int.toNat_natCast,c6 (by rw [oD]; omega),jI,if_pos (by omega)])]
   rfl
 obtain ⟨r,hr0⟩:∃ r,cV (chg zs) j=r+1:=⟨cV (chg zs) j - 1,by omega⟩
 have er:(((cV (chg zs) j:Nat):Int) - 1)=(r:Int):=by omega
 have g1:(chg zs)[r]?=some (chg zs)[r]:=List.getElem?_eq_getElem (by omega)
 have g2:(chg zs)[r+1]?=some (chg zs)[r+1]:=List.getElem?_eq_getElem (by omega)
 have b1:=(key1 g1).mpr (by omega)
 have b2:=key1 g2
 have hd2:=dS _ _ (List.mem_of_getElem? g2)
 obtain ⟨m,rfl⟩:∃ m:Nat,j=(m:Int):=⟨j.toNat,by omega⟩
 have hm:m < zs.length:=by omega
 have eb:=wS hm g1 g2 (by omega) (by omega)
 obtain ⟨z,hz⟩:∃ z,zs[m]?=some z:=⟨zs[m],List.getElem?_eq_getElem hm⟩
 rw [hz] at eb
 have hzm:=List.mem_of_getElem? hz
 have hkr:r < (bU zs).length:=by omega
 have hky:(bU zs)[r]?=some (bU zs)[r]:=List.getElem?_eq_getElem hkr
 have hyl:=kw _ (List.getElem_mem hkr)
 rw [er]
 by_cases hc:0 < cV (chg (aE zs)) k∧cV (chg (aE zs)) k < (chg (aE zs)).length
 rotate_left
 ·have lhs:bC (bU zs) ((cV (chg (aE zs)) k:Int) - 1) (r:Int)=false:=by
   by_cases h0:cV (chg (aE zs)) k=0
   ·exact dX (by omega)
   ·exact kE (z:=(bU zs)[r]) (by rw [Int.toNat_natCast]; exact hky) (by omega)
  rw [lhs]
  symm
  by_cases hk0:k < 0
  ·exact dX hk0
  obtain ⟨q,rfl⟩:∃ q:Nat,k=(q:Int):=⟨k.toNat,by omega⟩
  by_cases hk1:n≤q
  ·exact kE (z:=z) (by rw [Int.toNat_natCast]; exact hz) (by rw [h z hzm]; omega)
  ·have:=aDY h (k:=q) (by omega) (fun r c d h1 h2 h3=>by
    have a1:=key2 h1
    have a2:=key2 h2
    have hl2:=(List.getElem?_eq_some_iff.mp h2).1
    omega) z hzm
   rw [gD (z:=z) (c:=46) (by omega) (by omega) (by rw [Int.toNat_natCast]; exact hz) (by rw [Int.toNat_natCast,c6 (by rw [h z hzm]; omega),this])]
   rfl
 obtain ⟨c,hc0⟩:∃ c,cV (chg (aE zs)) k=c+1:=⟨cV (chg (aE zs)) k - 1,by omega⟩
 have ec:(((cV (chg (aE zs)) k:Nat):Int) - 1)=(c:Int):=by omega
 have f1:(chg (aE zs))[c]?=some (chg (aE zs))[c]:=List.getElem?_eq_getElem (by omega)
 have f2:(chg (aE zs))[c+1]?=some (chg (aE zs))[c+1]:=List.getElem?_eq_getElem (by omega)
 have d1:=(key2 f1).mpr (by omega)
 have d2:=key2 f2
 have hne:zs≠[]:=fun e=>by rw [e] at hm; simp at hm
 have hcl:=bR h hne
 have hd3:=dS _ _ (List.mem_of_getElem? f2)
 obtain ⟨q,rfl⟩:∃ q:Nat,k=(q:Int):=⟨k.toNat,by omega⟩
 have hq:q < n:=by omega
 obtain ⟨y,hy,ey⟩:=aEC g1 (by omega) f1 (by omega) eb.symm
 have ecol:=aG9 h (k:=q) hq f1 f2 (by omega) (by omega) z hzm
 have hyl2:=kw y (List.mem_of_getElem? hy)
 rw [ec,gD (z:=y) (c:=atS y c) (by omega) (by omega) (by rw [Int.toNat_natCast]; exact hy) (by rw [Int.toNat_natCast]; exact c6 (by omega)),
  gD (z:=z) (c:=atS z q) (by omega) (by omega) (by rw [Int.toNat_natCast]; exact hz) (by rw [Int.toNat_natCast]; exact c6 (by rw [h z hzm]; exact hq)),ey,ecol]
def dE (z:Str):Str:=ofL z.cps.toList.reverse
theorem iQ (z:Str):(dE z).cps.toList=z.cps.toList.reverse:=rfl
theorem lD (z:Str):(dE z).length=z.length:=by
 show (z.cps.toList.reverse.toArray).size=z.cps.size
 simp
theorem aA3 {a b:Str} (h:dE a=dE b):a=b:=by
 apply eU
 have:(dE a).cps.toList=(dE b).cps.toList:=by rw [h]
 rw [iQ,iQ] at this
 exact List.reverse_inj.mp this
theorem aFF {z:Str}{j:Nat} (h:j < z.length):atS (dE z) j=atS z (z.length - 1 - j):=by
 have h':j < z.cps.toList.length:=by rw [Array.length_toList]; exact h
 have e:=c6 (z:=dE z) (j:=j) (by rw [lD]; exact h)
 have e2:=c6 (z:=z) (j:=z.length - 1 - j) (by omega)
 rw [iQ,List.getElem?_reverse h',Array.length_toList] at e
 have:z.cps.size=z.length:=rfl
 rw [this,e2] at e
 exact (Option.some.inj e).symm
theorem aCS (n:Nat):dE (dots n)=dots n:=by
 apply eU
 rw [iQ]
 show (List.replicate n 46).reverse=List.replicate n 46
 exact List.reverse_replicate
theorem aCH {n:Nat}{K:List Str} (g:Good n K):Good n (K.map dE):=fun z hz=>by
 obtain ⟨y,hy,rfl⟩:=List.mem_map.mp hz
 obtain ⟨h1,h2⟩:=g y hy
 refine ⟨(lD y).trans h1,?_⟩
 rw [iQ,List.all_reverse]; exact h2
theorem j4 {n:Nat}{K:List Str} (h:∀ z∈K,z.length=n) (hK:K≠[]):framed K=[dots n]++K++[dots n]:=by unfold framed; rw [b5 h hK]
theorem lQ {K:List Str} (hK:K≠[]):chg K=List.range (K.length+1)↔∀ i,i≤K.length→(framed K)[i]?≠(framed K)[i+1]?:=by
 constructor
 ·intro e i hi
  exact ((dM hK).mp (by rw [e]; exact List.mem_range.mpr (by omega))).2
 ·intro h
  unfold chg
  rw [if_neg (by rw [List.isEmpty_iff]; exact hK)]
  refine List.filter_eq_self.mpr fun i hi => ?_
  rw [decide_eq_false (h i (by have:=List.mem_range.mp hi; omega))]; rfl
theorem xP {n:Nat}{K:List Str} (h:∀ z∈K,z.length=n) (hK:K≠[]) (e:chg K=List.range (K.length+1)):chg (K.map dE)=List.range ((K.map dE).length+1):=by
 have hK':K.map dE≠[]:=by simpa using hK
 have h':∀ z∈K.map dE,z.length=n:=fun z hz=>by obtain ⟨y,hy,rfl⟩:=List.mem_map.mp hz; rw [lD]; exact h y hy
 rw [lQ hK']
 rw [lQ hK] at e
 have ef:framed (K.map dE)=(framed K).map dE:=by
  rw [j4 h' hK',j4 h hK,List.map_append,List.map_append,List.map_singleton,aCS]
 intro i hi
 rw [List.length_map] at hi
 rw [ef,List.getElem?_map,List.getElem?_map]
 intro q
 have hl:=fQ K
 have a1:(framed K)[i]?=some (framed K)[i]:=List.getElem?_eq_getElem (by omega)
 have a2:(framed K)[i+1]?=some (framed K)[i+1]:=List.getElem?_eq_getElem (by omega)
 refine e i hi ?_
 rw [a1,a2] at q ⊢
 rw [Option.map_some,Option.map_some] at q
 exact congrArg some (aA3 (Option.some.inj q))
theorem u5 {n:Nat}{K:List Str} (h:∀ z∈K,z.length=n) (hK:K≠[]) (e:chg K=List.range (K.length+1)):chg K.reverse=List.range (K.reverse.length+1):=by
 have hK':K.reverse≠[]:=by simpa using hK
 have h':∀ z∈K.reverse,z.length=n:=fun z hz=>h z (List.mem_reverse.mp hz)
 rw [lQ hK']
 rw [lQ hK] at e
 have ef:framed K.reverse=(framed K).reverse:=by
  rw [j4 h' hK',j4 h hK,List.reverse_append,List.reverse_append]; simp
 intro i hi
 rw [List.length_reverse] at hi
 have hl:=fQ K
 rw [ef,List.getElem?_reverse (by omega),List.getElem?_reverse (by omega),hl]
 intro q
 have:=e (K.length - i) (by omega)
 rw [show K.length+2 - 1 - i=K.length - i+1 by omega,show K.length+2 - 1 - (i+1)=K.length - i by omega] at q
 exact this q.symm
theorem u3 {n:Nat}{K:List Str} (h:∀ z∈K,z.length=n) (hK:K≠[]):aE (K.map dE)=(aE K).reverse:=by
 have hK':K.map dE≠[]:=by simpa using hK
 have h':∀ z∈K.map dE,z.length=n:=fun z hz=>by obtain ⟨y,hy,rfl⟩:=List.mem_map.mp hz; rw [lD]; exact h y hy
 have l1:=bR h hK
 have l2:=bR h' hK'
 apply List.ext_getElem?
 intro j
 by_cases hj:j < n
 ·rw [eX h' hK' hj,List.getElem?_reverse (by omega),l1,eX h hK (by omega),List.map_map]
  congr 2
  refine List.map_congr_left fun z hz => ?_
  show atS (dE z) j=_
  rw [aFF (by rw [h z hz]; exact hj),h z hz]
 ·rw [List.getElem?_eq_none (by omega),List.getElem?_eq_none (by rw [List.length_reverse]; omega)]
theorem yP {n:Nat}{K:List Str} (h:∀ z∈K,z.length=n) (hK:K≠[]) (hn:0 < n):aE ((aE K).map dE)=K.reverse:=by
 have hc:(aE K).length=n:=bR h hK
 have hcn:aE K≠[]:=fun e=>by rw [e] at hc; simp at hc; omega
 rw [u3 (n:=K.length) (fun z hz=>dW z hz) hcn,j8 h hK hn]
theorem sK {K:List Str}{a u:Int}:bC K a u=true↔0≤u∧0≤a∧∃ z,K[u.toNat]?=some z∧z.cps.toList[a.toNat]?=some 35:=by
 unfold bC
 rw [Bool.and_eq_true,Bool.and_eq_true,decide_eq_true_eq,decide_eq_true_eq,beq_iff_eq]
 constructor
 ·rintro ⟨⟨h1,h2⟩,h3⟩
  obtain ⟨z,hz,e⟩:=Option.bind_eq_some_iff.mp h3
  exact ⟨h1,h2,z,hz,e⟩
 ·rintro ⟨h1,h2,z,hz,e⟩
  exact ⟨⟨h1,h2⟩,Option.bind_eq_some_iff.mpr ⟨z,hz,e⟩⟩
end R
namespace U
open PySem
abbrev Up (ws:List Rat):Prop:=ws.Pairwise (· < ·)
def ix (ws:List Rat) (x:Rat):Int:=((ws.filter fun w=>decide (w≤x)).length:Int) - 1
theorem rM (ws:List Rat) (x:Rat) : -1≤ix ws x:=by unfold ix; omega
theorem rP (ws:List Rat) (x:Rat):ix ws x < ws.length:=by
 unfold ix
 have:=List.length_filter_le (fun w=>decide (w≤x)) ws
 omega
theorem fW {x:Rat}:∀ {ws:List Rat},Up ws→∀ {i:Nat} (h:i < ws.length),ws[i]≤x↔(i:Int)≤ix ws x
 | [],_,i,h=>absurd h (Nat.not_lt_zero _)
 | w::r,u,i,h=>by
  obtain ⟨u1,u2⟩:=List.pairwise_cons.mp u
  unfold ix
  by_cases hw:w≤x
  ·rw [List.filter_cons_of_pos (by simpa using hw),List.length_cons]
   cases i with
   | zero=>exact ⟨fun _=>by omega,fun _=>hw⟩
   | succ i =>
    have:=fW (x:=x) u2 (i:=i) (by simpa using h)
    unfold ix at this
    simp only [List.getElem_cons_succ]
    rw [this]
    omega
  ·rw [List.filter_cons_of_neg (by simpa using hw)]
   have e:r.filter (fun w=>decide (w≤x))=[]:=List.filter_eq_nil_iff.mpr fun a ha=>by
    have:=u1 a ha
    simp only [decide_eq_true_eq]
    grind
   rw [e]
   have h1:¬ (w::r)[i]≤x:=by
    cases i with
    | zero=>simpa using hw
    | succ i =>
     have:=u1 _ (List.getElem_mem (by simpa using h:i < r.length))
     simp only [List.getElem_cons_succ]
     grind
   exact ⟨fun z=>absurd z h1,fun z=>by simp at z; omega⟩
theorem rN {ws:List Rat}{x:Rat}{k:Int} (u:Up ws) (h0 : -1≤k) (h1:k < ws.length) (h:∀ (i:Nat) (hi:i < ws.length),ws[i]≤x↔(i:Int)≤k):ix ws x=k:=by
 have a:=rM ws x
 have b:=rP ws x
 apply Int.le_antisymm
 ·by_cases hk:0≤ix ws x
  ·have q:=(h (ix ws x).toNat (by omega)).mp ((fW u (by omega)).mpr (by omega))
   omega
  ·omega
 ·by_cases hk:0≤k
  ·have q:=(fW (x:=x) u (i:=k.toNat) (by omega)).mp ((h k.toNat (by omega)).mpr (by omega))
   omega
  ·omega
theorem nY {ws:List Rat} (u:Up ws) {i j:Nat} (hi:i < ws.length) (hj:j < ws.length):ws[i] < ws[j]↔i < j:=by
 have p:=List.pairwise_iff_getElem.mp u
 constructor
 ·intro h
  rcases Nat.lt_trichotomy i j with q | q | q
  ·exact q
  ·subst q; grind
  ·have:=p j i hj hi q; grind
 ·exact p i j hi hj
theorem pI {ws:List Rat} (u:Up ws) {i j:Nat} (hi:i < ws.length) (hj:j < ws.length):ws[i]≤ws[j]↔i≤j:=by
 have:=nY u hj hi
 constructor
 ·intro h; refine Nat.le_of_not_lt fun q => ?_
  have:=this.mpr q; grind
 ·intro h
  have:¬ ws[j] < ws[i]:=fun q=>by have:=this.mp q; omega
  grind
theorem gM {ws:List Rat} (u:Up ws) {i:Nat} (hi:i < ws.length):ix ws ws[i]=i :=
 rN u (by omega) (by omega) fun j hj=>by rw [pI u hj hi]; omega
theorem aAL {ws vs:List Rat} (u:Up ws) (v:Up vs) (h:∀ x,x∈ws↔x∈vs):ws=vs:=by
 induction ws generalizing vs with
 | nil =>
  cases vs with
  | nil=>rfl
  | cons a r=>exact absurd ((h a).mpr (.head _)) (by simp)
 | cons w ws ih =>
  cases vs with
  | nil=>exact absurd ((h w).mp (.head _)) (by simp)
  | cons a r =>
   obtain ⟨u1,u2⟩:=List.pairwise_cons.mp u
   obtain ⟨v1,v2⟩:=List.pairwise_cons.mp v
   have e:w=a:=by
    rcases List.mem_cons.mp ((h w).mp (.head _)) with q | q
    ·exact q
    ·rcases List.mem_cons.mp ((h a).mpr (.head _)) with z | z
     ·exact z.symm
     ·have:=v1 w q; have:=u1 a z; grind
   subst e
   rw [ih u2 v2 fun x => ?_]
   constructor
   ·intro hx
    rcases List.mem_cons.mp ((h x).mp (.tail _ hx)) with q | q
    ·subst q; have:=u1 x hx; grind
    ·exact q
   ·intro hx
    rcases List.mem_cons.mp ((h x).mpr (.tail _ hx)) with q | q
    ·subst q; have:=v1 x hx; grind
    ·exact q
theorem wN {ws xs:List Rat} (u:Up ws) (v:Up xs) (hs:∀ w∈ws,w∈xs) {x:Rat}{i:Nat} (hi:i < xs.length) (e:ix xs x=i):ix ws x=ix ws xs[i]:=by
 unfold ix
 refine congrArg (fun l:List Rat=>(l.length:Int) - 1) (List.filter_congr fun w hw => ?_)
 obtain ⟨j,hj,rfl⟩:=List.getElem_of_mem (hs w hw)
 have h1:=fW (x:=x) v hj
 have h2:=pI v hj hi
 rw [decide_eq_decide,h1,h2,e]
 omega
theorem aAG {ws xs:List Rat} (v:Up xs) (hs:∀ w∈ws,w∈xs) {x:Rat} (e:ix xs x = -1):ix ws x = -1:=by
 unfold ix
 rw [List.filter_eq_nil_iff.mpr fun w hw => ?_]
 ·rfl
 ·obtain ⟨j,hj,rfl⟩:=List.getElem_of_mem (hs w hw)
  have h1:=fW (x:=x) v hj
  rw [decide_eq_true_eq,h1,e]
  omega
theorem wF {ws xs:List Rat} (v:Up xs) (hs:∀ w∈ws,w∈xs) {x:Rat} (e:ix xs x=(xs.length:Int) - 1):ix ws x=(ws.length:Int) - 1:=by
 unfold ix
 rw [List.filter_eq_self.mpr fun w hw => ?_]
 obtain ⟨j,hj,rfl⟩:=List.getElem_of_mem (hs w hw)
 have h1:=fW (x:=x) v hj
 rw [decide_eq_true_eq,h1,e]
 omega
def gA (xs:List Rat) (js:List Nat):List Rat:=js.map fun j=>xs.getD j 0
theorem tE {xs:List Rat} (u:Up xs) {js:List Nat} (hs:js.Pairwise (· < ·)) (h:∀ j∈js,j < xs.length):Up (gA xs js):=by
 unfold gA Up
 rw [List.pairwise_map]
 refine List.Pairwise.imp_of_mem ?_ hs
 intro a b ha hb hab
 have h1:=h a ha
 have h2:=h b hb
 rw [List.getD_eq_getElem?_getD,List.getD_eq_getElem?_getD,List.getElem?_eq_getElem h1,List.getElem?_eq_getElem h2]
 exact (nY u h1 h2).mpr hab
theorem qE {xs:List Rat}{js:List Nat} (h:∀ j∈js,j < xs.length):∀ x∈gA xs js,x∈xs:=fun x hx=>by
 obtain ⟨j,hj,rfl⟩:=List.mem_map.mp hx
 rw [List.getD_eq_getElem?_getD,List.getElem?_eq_getElem (h j hj)]
 exact List.getElem_mem _
theorem vK {xs:List Rat} (u:Up xs) {js:List Nat} (h:∀ j∈js,j < xs.length) (x:Rat):ix (gA xs js) x=R.bd js (ix xs x):=by
 unfold ix gA R.bd R.cV
 rw [List.filter_map,List.length_map]
 congr 2
 congr 1
 refine List.filter_congr fun j hj => ?_
 have h1:=h j hj
 have:=fW (x:=x) u h1
 show decide (xs.getD j 0≤x)=_
 rw [List.getD_eq_getElem?_getD,List.getElem?_eq_getElem h1,decide_eq_decide]
 exact this
end U
namespace Q
open PySem L2 Z
end Q
namespace L2
open PySem PySem.Spec PyProof.Rows
section
variable {X:Cx}
end
end L2
namespace Z
open PySem L2
section
variable {X:Cx}{Γ:Gm}{M:Mem}{k:D→Mem→Prop}{pos:Pos}{a b:Expr}{rest:List Expr}
end
end Z
namespace Q
open PySem L2 Z
structure Bg (p:Int × Int):Prop where
 a:p.1.natAbs < 10 ^ 400
 b:p.2.natAbs < 10 ^ 400
 c:p.2≠0
theorem big400 {i:Int} (h:i.natAbs < 10 ^ 400):i.natAbs < big:=Nat.lt_of_lt_of_le h (by unfold big; decide)
theorem zC {p q:Int × Int} (hp:Bg p) (hq:Bg q):p.2 * q.2≠0∧(p.2 * q.2).natAbs < 10 ^ 1000:=by
 refine ⟨Int.mul_ne_zero hp.c hq.c,?_⟩
 rw [Int.natAbs_mul]
 refine Nat.lt_of_lt_of_le (Nat.mul_lt_mul'' hp.b hq.b) ?_
 rw [← Nat.pow_add]
 exact Nat.pow_le_pow_right (by decide) (by decide)
def aB8:Ct:=fun ds M k=>∃ (p:Addr) (b:Int),ds=[.mt p]∧FdM M p b∧b≤900000∧∀ xs M',Up7 xs→2≤xs.length→FdM M' p (b+20)→cK p M M'→k (.lst (xs.map .int)) M'
def lowG (t b:Int):Int × Int:=(t.fdiv ((Int.gcd t b:Nat):Int),b.fdiv ((Int.gcd t b:Nat):Int))
def aH9:Ct:=fun ds M k=>∃ t b:Int,ds=[.int t, .int b]∧0 < b∧b < 10 ^ 60∧k (pairD (lowG t b)) M
structure Spot (xs:List Int) (v:Int × Int) (cols:List Int):Prop where
 pos:0 < v.2
 sm:v.1.natAbs < 10 ^ 65∧v.2.natAbs < 10 ^ 65
 at_:(∃ k:Nat,k < xs.length∧v=p1 (xs.getD k 0)∧cols=[(k:Int) - 1,(k:Int)])∨(∃ k:Int,cols=[k]∧∀ i,i < xs.length→(xs.getD i 0 * v.2 < v.1↔(i:Int)≤k)∧xs.getD i 0 * v.2≠v.1)
end Q
namespace PySem
namespace F
end F
section
variable {prog:Program}{w:World}{A:Around}{E:Value→Shared→Prop}{s:Shared}
end
end PySem
namespace PySem
open PyProof.Rows
section
variable {prog:Program}{w:World}{A:Around}{E:Value→Shared→Prop}{s:Shared}{I:Addr}
end
end PySem
namespace PySem
open PyProof.Rows
open Builtin Builtin.Str Builtin.Int
section
variable {prog:Program}{w:World}{A:Around}{E:Value→Shared→Prop}{s:Shared}{I:Addr}
end
end PySem
namespace L2
open PySem PySem.Spec PyProof.Rows
section
variable {X:Cx}
end
end L2
namespace Z
open PySem L2
section
variable {X:Cx}{Γ:Gm}{M:Mem}{k:D→Mem→Prop}{pos:Pos}{a b o tg:Expr}{rest:List Expr}{ki:List D→Mem→Prop}
end
end Z
namespace Q
open PySem L2 Z
theorem aE4 {t b:Int} (hb:0 < b):lowP t b=lowG t b:=by
 unfold lowP lowG dv
 rw [if_neg (by omega)]
structure Tidy2 (K:List Str) (a b:Nat):Prop where
 v:(K=[]∧a=0∧b=0)∨(K≠[]∧R.chg K=List.range b∧R.chg (R.aE K)=List.range a∧R.Good (a - 1) K∧K.length+1=b∧2≤a∧2≤b)
theorem Tidy2.good {K:List Str}{a b:Nat} (h:Tidy2 K a b):R.Good (a - 1) K∧K.length=b - 1:=by
 rcases h.v with ⟨rfl,rfl,rfl⟩ | ⟨_,_,_,g,l,_,_⟩
 ·exact ⟨fun z hz=>(nomatch hz),rfl⟩
 ·exact ⟨g,by omega⟩
theorem xQ {n:Nat}{zs:List Str} (g:R.Good n zs):Tidy2 (R.bU zs) (R.chg (R.aE zs)).length (R.chg zs).length:=by
 by_cases hr:R.aL zs=[]
 ·obtain ⟨e1,e2⟩:=R.q5 (fun z hz=>(g z hz).1) hr
  refine ⟨.inl ⟨?_,?_,?_⟩⟩
  ·unfold R.bU; rw [e1] <;> first | rfl | (rw [e2]; rfl)
  ·first | (rw [e2]; rfl) | (rw [e1]; rfl)
  ·first | (rw [e1]; rfl) | (rw [e2]; rfl)
 ·obtain ⟨t1,t2,t3,t4,t5,t6⟩:=R.xO g hr
  have hkl:(R.bU zs).length=(R.chg zs).length - 1:=by unfold R.bU; rw [List.length_map,List.length_dropLast]
  exact ⟨.inr ⟨t3,t1,t2,t4,by omega,t5,t6⟩⟩
theorem xY {K:List Str}{a b:Nat} (h:Tidy2 K a b):Tidy2 ((R.aE K).map R.dE) b a:=by
 rcases h.v with ⟨rfl,rfl,rfl⟩ | ⟨hK,t1,t2,g,l,ha,hb⟩
 ·exact ⟨.inl ⟨rfl,rfl,rfl⟩⟩
 ·have hl:∀ z∈K,z.length=a - 1:=fun z hz=>(g z hz).1
  have lc:=R.bR hl hK
  have hcn:R.aE K≠[]:=fun e=>by rw [e] at lc; simp at lc; omega
  have gc:=R.iG g
  refine ⟨.inr ⟨by simpa using hcn,?_,?_,?_,by rw [List.length_map,lc]; omega,hb,ha⟩⟩
  ·have:=R.xP (n:=K.length) (fun z hz=>R.dW z hz) hcn (by rw [t2,lc,show a - 1+1=a by omega])
   rw [this,List.length_map,lc,show a - 1+1=a by omega]
  ·rw [R.yP hl hK (by omega)]
   have:=R.u5 hl hK (by rw [t1,l])
   rw [this,List.length_reverse,l]
  ·rw [show b - 1=K.length by omega]; exact R.aCH gc
structure By (w:Nat) (p:Int × Int):Prop where
 b0:0 < p.2
 b9:p.2≤9
 a20:p.1.natAbs≤20
 a0:w=3→0 < p.1
end Q
namespace U
open PySem
def inY (ws us:List Rat) (K:List Str) (x y:Rat):Bool:=R.bC K (ix ws x) (ix us y)
theorem mF {n:Nat}{K:List Str} (h:∀ z∈K,z.length=n) {a u:Int} (ha:(n:Int)≤a):R.bC K a u=false:=by
 cases e:R.bC K a u with
 | false=>rfl
 | true =>
  obtain ⟨h1,h2,z,hz,hc⟩:=R.sK.mp e
  have:=h z (List.mem_of_getElem? hz)
  have h3:a.toNat < z.cps.toList.length:=(List.getElem?_eq_some_iff.mp hc).1
  rw [Array.length_toList] at h3
  have h4:z.cps.size=z.length:=rfl
  omega
structure Steps (f:Rat→Rat→Bool) (xs ys:List Rat):Prop where
 out:∀ x y,ix xs x = -1∨ix xs x=(xs.length:Int) - 1∨ix ys y = -1∨ix ys y=(ys.length:Int) - 1→f x y=false
 at_:∀ x y (i j:Nat) (hi:i < xs.length) (hj:j < ys.length),ix xs x=i→ix ys y=j→f x y=f xs[i] ys[j]
theorem aAS {ws us xs ys:List Rat}{K:List Str} (u:Up ws) (u':Up us) (hK:∀ z∈K,z.length=ws.length - 1) (lK:K.length=us.length - 1) (v:Up xs) (v':Up ys) (hs:∀ w∈ws,w∈xs) (hs':∀ w∈us,w∈ys):Steps (inY ws us K) xs ys where
 out x y h:=by
  unfold inY
  rcases h with h | h | h | h
  ·rw [aAG v hs h]; exact R.dX (by omega)
  ·rw [wF v hs h]
   cases ws with
   | nil=>exact R.dX (by simp)
   | cons w r=>exact mF hK (by simp)
  ·rw [aAG v' hs' h]; exact R.fP (by omega)
  ·rw [wF v' hs' h]
   cases us with
   | nil=>exact R.fP (by simp)
   | cons w r=>exact R.fV (by rw [lK]; simp)
 at_ x y i j hi hj e e':=by
  unfold inY
  rw [wN u v hs hi e,wN u' v' hs' hj e']
theorem Steps.pick {f g:Rat→Rat→Bool}{xs ys:List Rat} (hf:Steps f xs ys) (hg:Steps g xs ys) (p:Bool→Bool→Bool) (h0:p false false=false):Steps (fun x y=>p (f x y) (g x y)) xs ys :=
 ⟨fun x y h=>by rw [hf.out x y h,hg.out x y h]; exact h0,fun x y i j hi hj e e'=>by rw [hf.at_ x y i j hi hj e e',hg.at_ x y i j hi hj e e']⟩
def i8 (f:Rat→Rat→Bool) (xs ys:List Rat):List Str:=ys.dropLast.map fun y=>R.ofL (xs.dropLast.map fun x=>R.sg (f x y))
theorem qP (f:Rat→Rat→Bool) (xs ys:List Rat):(i8 f xs ys).length=ys.length - 1:=by unfold i8; rw [List.length_map,List.length_dropLast]
theorem o5 (f:Rat→Rat→Bool) (xs ys:List Rat):R.Good (xs.length - 1) (i8 f xs ys):=fun z hz=>by
 unfold i8 at hz
 obtain ⟨y,_,rfl⟩:=List.mem_map.mp hz
 refine ⟨by rw [R.kQ,List.length_map,List.length_dropLast],?_⟩
 rw [List.all_eq_true]
 intro c hc
 have hc':c∈xs.dropLast.map fun x=>R.sg (f x y):=hc
 obtain ⟨q,_,rfl⟩:=List.mem_map.mp hc'
 unfold R.sg; split <;> rfl
theorem aBP {f:Rat→Rat→Bool}{xs ys:List Rat}{i j:Nat} (hi:i+1 < xs.length) (hj:j+1 < ys.length):R.bC (i8 f xs ys) (i:Int) (j:Int)=f xs[i] ys[j]:=by
 have hj':j < ys.dropLast.length:=by rw [List.length_dropLast]; omega
 have hi':i < xs.dropLast.length:=by rw [List.length_dropLast]; omega
 have e1:(i8 f xs ys)[((j:Int)).toNat]?=some (R.ofL (xs.dropLast.map fun x=>R.sg (f x ys[j]))):=by
  rw [Int.toNat_natCast]; unfold i8
  rw [List.getElem?_map,List.getElem?_eq_getElem hj',List.getElem_dropLast]; rfl
 have e2:(R.ofL (xs.dropLast.map fun x=>R.sg (f x ys[j]))).cps.toList[((i:Int)).toNat]?=some (R.sg (f xs[i] ys[j])):=by
  rw [Int.toNat_natCast]
  show (xs.dropLast.map fun x=>R.sg (f x ys[j]))[i]?=_
  rw [List.getElem?_map,List.getElem?_eq_getElem hi',List.getElem_dropLast]; rfl
 rw [R.gD (by omega) (by omega) e1 e2]
 unfold R.sg
 cases f xs[i] ys[j] <;> rfl
theorem aEQ {f:Rat→Rat→Bool}{xs ys:List Rat} (h:Steps f xs ys) (x y:Rat):R.bC (i8 f xs ys) (ix xs x) (ix ys y)=f x y:=by
 have a1:=rM xs x
 have a2:=rP xs x
 have b1:=rM ys y
 have b2:=rP ys y
 by_cases ha:ix xs x = -1
 ·rw [h.out x y (.inl ha),ha]; exact R.dX (by omega)
 by_cases ha':ix xs x=(xs.length:Int) - 1
 ·rw [h.out x y (.inr (.inl ha')),ha']
  exact mF (fun z hz=>(o5 f xs ys z hz).1) (by omega)
 by_cases hb:ix ys y = -1
 ·rw [h.out x y (.inr (.inr (.inl hb))),hb]; exact R.fP (by omega)
 by_cases hb':ix ys y=(ys.length:Int) - 1
 ·rw [h.out x y (.inr (.inr (.inr hb'))),hb']
  exact R.fV (by rw [qP]; omega)
 obtain ⟨i,hi⟩:∃ i:Nat,ix xs x=i:=⟨(ix xs x).toNat,by omega⟩
 obtain ⟨j,hj⟩:∃ j:Nat,ix ys y=j:=⟨(ix ys y).toNat,by omega⟩
 rw [h.at_ x y i j (by omega) (by omega) hi hj,hi,hj]
 exact aBP (by omega) (by omega)
theorem aEF {xs ys:List Rat}{zs:List Str} (u:Up xs) (v:Up ys) (g:R.Good (xs.length - 1) zs) (hz:zs.length=ys.length - 1) (x y:Rat) :
  inY (gA xs (R.chg (R.aE zs))) (gA ys (R.chg zs)) (R.bU zs) x y=R.bC zs (ix xs x) (ix ys y):=by
 unfold inY
 rw [vK u (Q.eT fun z hz=>(g z hz).1),vK v (Q.eW hz),R.aFH g]
theorem sH {n:Nat}{K:List Str} (g:R.Good n K) {j:Nat}{z:Str} (hz:K[j]?=some z):z=R.ofL ((List.range n).map fun (c:Nat)=>R.sg (R.bC K (c:Int) (j:Int))):=by
 obtain ⟨hl,hs⟩:=g z (List.mem_of_getElem? hz)
 have e:z.cps.toList=(List.range n).map fun (c:Nat)=>R.sg (R.bC K (c:Int) (j:Int)):=by
  refine List.ext_getElem? fun c => ?_
  rw [List.getElem?_map]
  by_cases hc:c < n
  ·rw [List.getElem?_range hc,R.c6 (by omega)]
   have h2:=R.nD g (List.mem_of_getElem? hz) hc
   rw [Option.map_some,R.gD (z:=z) (c:=R.atS z c) (by omega) (by omega) (by rw [Int.toNat_natCast]; exact hz) (by rw [Int.toNat_natCast]; exact R.c6 (by omega))]
   unfold R.sg
   rcases h2 with h2 | h2 <;> rw [h2] <;> rfl
  ·rw [List.getElem?_eq_none (by rw [Array.length_toList]; have:z.cps.size=z.length:=rfl; omega),List.getElem?_eq_none (by simpa using hc)]; rfl
 unfold R.ofL
 rw [← e]
theorem aEN {n:Nat}{K K':List Str} (g:R.Good n K) (g':R.Good n K') (hl:K.length=K'.length) (h:∀ a u:Nat,a < n→u < K.length→R.bC K (a:Int) (u:Int)=R.bC K' (a:Int) (u:Int)):K=K':=by
 refine List.ext_getElem? fun j => ?_
 by_cases hj:j < K.length
 ·have e1:K[j]?=some K[j]:=List.getElem?_eq_getElem hj
  have e2:K'[j]?=some (K'[j]'(by omega)):=List.getElem?_eq_getElem (by omega)
  rw [e1,e2,sH g e1,sH g' e2]
  congr 2
  refine List.map_congr_left fun c hc => ?_
  rw [h c j (List.mem_range.mp hc) hj]
 ·rw [List.getElem?_eq_none (by omega),List.getElem?_eq_none (by omega)]
theorem frow {n:Nat}{K:List Str} (g:R.Good n K) (hK:K≠[]) {j:Nat} (hj:j≤K.length+1):(R.framed K)[j]?=some (R.ofL ((List.range n).map fun (c:Nat)=>R.sg (R.bC K (c:Int) ((j:Int) - 1)))):=by
 have hw:=R.b5 (fun z hz=>(g z hz).1) hK
 have hd:∀ u:Int,(∀ c:Nat,R.bC K (c:Int) u=false)→R.dots n=R.ofL ((List.range n).map fun (c:Nat)=>R.sg (R.bC K (c:Int) u)):=fun u hu=>by
  unfold R.dots
  congr 1
  refine (List.eq_replicate_iff.mpr ⟨by simp,fun b hb => ?_⟩).symm
  obtain ⟨c,_,rfl⟩:=List.mem_map.mp hb
  rw [hu c]; rfl
 rcases Nat.eq_zero_or_pos j with rfl | hp
 ·rw [R.eM,hw,← hd _ fun c=>R.fP (by omega)]
 ·obtain ⟨k,rfl⟩:∃ k,j=k+1:=⟨j - 1,by omega⟩
  rw [show (((k+1:Nat):Int) - 1)=(k:Int) by omega]
  by_cases hk:k < K.length
  ·rw [R.cD hk,List.getElem?_eq_getElem hk,← sH g (List.getElem?_eq_getElem hk)]
  ·have e:k=K.length:=by omega
   rw [e,R.c5,hw,← hd _ fun c=>R.fV (by omega)]
theorem fcol {n:Nat}{K:List Str} (g:R.Good n K) (hK:K≠[]) (hn:0 < n) {i:Nat} (hi:i≤n+1):(R.framed (R.aE K))[i]?=some (R.ofL ((List.range K.length).map fun (r:Nat)=>R.sg (R.bC K ((i:Int) - 1) (r:Int)))):=by
 rw [R.f7 (fun z hz=>(g z hz).1) hK hn hi]
 congr 2
 refine List.ext_getElem? fun r => ?_
 rw [List.getElem?_map,List.getElem?_map]
 by_cases hr:r < K.length
 ·rw [List.getElem?_eq_getElem hr,List.getElem?_range hr,Option.map_some,Option.map_some]
  congr 1
  have e1:K[r]?=some K[r]:=List.getElem?_eq_getElem hr
  have hl:=(g _ (List.getElem_mem hr)).1
  unfold R.pH
  split
  ·rename_i h
   rcases h with rfl | rfl
   ·rw [R.dX (by omega)]; rfl
   ·rw [mF (fun z hz=>(g z hz).1) (by omega)]; rfl
  ·rename_i h
   have hi':i - 1 < n:=by omega
   have h2:=R.nD g (List.getElem_mem hr) hi'
   rw [show ((i:Int) - 1)=((i - 1:Nat):Int) by omega,R.gD (z:=K[r]) (c:=R.atS K[r] (i - 1)) (by omega) (by omega) (by rw [Int.toNat_natCast]; exact e1) (by rw [Int.toNat_natCast]; exact R.c6 (by omega))]
   unfold R.sg
   rcases h2 with h2 | h2 <;> rw [h2] <;> rfl
 ·rw [List.getElem?_eq_none (by omega),List.getElem?_eq_none (by simpa using hr)]; rfl
theorem zS {n:Nat}{f g:Nat→Bool} (h:some (R.ofL ((List.range n).map fun c=>R.sg (f c)))≠some (R.ofL ((List.range n).map fun c=>R.sg (g c)))):∃ c,c < n∧f c≠g c:=by
 refine Classical.byContradiction fun q=>h ?_
 congr 2
 refine List.map_congr_left fun c hc => ?_
 have:=List.mem_range.mp hc
 have e:f c=g c:=Classical.byContradiction fun z=>q ⟨c,this,z⟩
 rw [e]
theorem tY {K:List Str}{a b:Nat} (T:Q.Tidy2 K a b) {i:Nat} (hi:i < a):∃ j:Nat,j+1 < b∧R.bC K ((i:Int) - 1) (j:Int)≠R.bC K (i:Int) (j:Int):=by
 rcases T.v with ⟨_,rfl,_⟩ | ⟨hK,t1,t2,g,l,ha,hb⟩
 ·omega
 ·have hm:i∈R.chg (R.aE K):=by rw [t2]; exact List.mem_range.mpr hi
  have lc:=R.bR (fun z hz=>(g z hz).1) hK
  have hcn:R.aE K≠[]:=fun e=>by rw [e] at lc; simp at lc; omega
  obtain ⟨h1,h2⟩:=(R.dM hcn).mp hm
  rw [fcol g hK (by omega) (by omega),fcol g hK (by omega) (by omega)] at h2
  obtain ⟨c,hc,hne⟩:=zS h2
  refine ⟨c,by omega,?_⟩
  rwa [show (((i+1:Nat):Int) - 1)=(i:Int) by omega] at hne
theorem aA5 {K:List Str}{a b:Nat} (T:Q.Tidy2 K a b) {j:Nat} (hj:j < b):∃ i:Nat,i+1 < a∧R.bC K (i:Int) ((j:Int) - 1)≠R.bC K (i:Int) (j:Int):=by
 rcases T.v with ⟨_,_,rfl⟩ | ⟨hK,t1,t2,g,l,ha,hb⟩
 ·omega
 ·have hm:j∈R.chg K:=by rw [t1]; exact List.mem_range.mpr hj
  obtain ⟨h1,h2⟩:=(R.dM hK).mp hm
  rw [frow g hK (by omega),frow g hK (by omega)] at h2
  obtain ⟨c,hc,hne⟩:=zS h2
  refine ⟨c,by omega,?_⟩
  rwa [show (((j+1:Nat):Int) - 1)=(j:Int) by omega] at hne
def JX (f:Rat→Rat→Bool) (w:Rat):Prop:=∃ y,∀ x,x < w→∃ x',x≤x'∧x' < w∧f x' y≠f w y
theorem mU {ws:List Rat} (u:Up ws) {i:Nat} (hi:i < ws.length) {x:Rat} (hx:x < ws[i]) (h:∀ k (hk:k < ws.length),k < i→ws[k]≤x):ix ws x=(i:Int) - 1 :=
 rN u (by omega) (by omega) fun k hk=>by
  constructor
  ·intro h1
   have:=(nY u hk hi).mp (by grind)
   omega
  ·intro h1
   exact h k hk (by omega)
theorem before {ws:List Rat} (u:Up ws) {i:Nat} (hi:i < ws.length) {x:Rat} (hx:x < ws[i]):∃ x',x≤x'∧x' < ws[i]∧ix ws x'=(i:Int) - 1:=by
 by_cases h0:i=0
 ·subst h0
  exact ⟨x,by grind,hx,mU u hi hx fun k _ q=>absurd q (Nat.not_lt_zero _)⟩
 ·have hp:i - 1 < ws.length:=by omega
  have hl:=(nY u hp hi).mpr (by omega)
  have le:∀ k (hk:k < ws.length),k < i→ws[k]≤ws[i - 1]:=fun k hk q=>(pI u hk hp).mpr (by omega)
  by_cases hm:x≤ws[i - 1]
  ·exact ⟨ws[i - 1],hm,hl,mU u hi hl le⟩
  ·exact ⟨x,by grind,hx,mU u hi hx fun k hk q=>by have:=le k hk q; grind⟩
theorem still {ws:List Rat} (u:Up ws) {w:Rat} (hw:w ∉ ws):∃ x,x < w∧∀ x',x≤x'→x' < w→ix ws x'=ix ws w:=by
 have a:=rM ws w
 have b:=rP ws w
 by_cases hk:ix ws w = -1
 ·refine ⟨w - 1,by grind,fun x' h1 h2 => ?_⟩
  rw [hk]
  refine rN u (by omega) (by omega) fun i hi => ?_
  constructor
  ·intro h; have:=(fW (x:=w) u hi).mp (by grind); omega
  ·intro h; omega
 ·have hi:(ix ws w).toNat < ws.length:=by omega
  have hle:=(fW (x:=w) u hi).mpr (by omega)
  have hne:ws[(ix ws w).toNat]≠w:=fun e=>hw (e ▸ List.getElem_mem hi)
  refine ⟨ws[(ix ws w).toNat],by grind,fun x' h1 h2 => ?_⟩
  refine rN u a b fun i hi' => ?_
  constructor
  ·intro h; exact (fW (x:=w) u hi').mp (by grind)
  ·intro h
   have:=(pI u hi' hi).mpr (by omega)
   grind
theorem aAR {ws us:List Rat}{K:List Str} (u:Up ws) (u':Up us) (T:Q.Tidy2 K ws.length us.length) (w:Rat):w∈ws↔JX (inY ws us K) w:=by
 constructor
 ·intro hw
  obtain ⟨i,hi,rfl⟩:=List.getElem_of_mem hw
  obtain ⟨j,hj,hne⟩:=tY T hi
  refine ⟨us[j],fun x hx => ?_⟩
  obtain ⟨x',h1,h2,h3⟩:=before u hi hx
  refine ⟨x',h1,h2,?_⟩
  unfold inY
  rw [h3,gM u hi,gM u' (by omega)]
  exact hne
 ·rintro ⟨y,h⟩
  refine Classical.byContradiction fun hw => ?_
  obtain ⟨x,hx,hs⟩:=still u hw
  obtain ⟨x',h1,h2,h3⟩:=h x hx
  unfold inY at h3
  rw [hs x' h1 h2] at h3
  exact h3 rfl
theorem yJ {ws us:List Rat}{K:List Str} (u:Up ws) (u':Up us) (T:Q.Tidy2 K ws.length us.length) (w:Rat):w∈us↔JX (fun y x=>inY ws us K x y) w:=by
 constructor
 ·intro hw
  obtain ⟨j,hj,rfl⟩:=List.getElem_of_mem hw
  obtain ⟨i,hi,hne⟩:=aA5 T hj
  refine ⟨ws[i],fun x hx => ?_⟩
  obtain ⟨x',h1,h2,h3⟩:=before u' hj hx
  refine ⟨x',h1,h2,?_⟩
  unfold inY
  dsimp only
  rw [h3,gM u' hj,gM u (by omega)]
  exact hne
 ·rintro ⟨x,h⟩
  refine Classical.byContradiction fun hw => ?_
  obtain ⟨y,hy,hs⟩:=still u' hw
  obtain ⟨y',h1,h2,h3⟩:=h y hy
  unfold inY at h3
  dsimp only at h3
  rw [hs y' h1 h2] at h3
  exact h3 rfl
theorem aCR {ws us ws' us':List Rat}{K K':List Str} (u:Up ws) (v:Up us) (T:Q.Tidy2 K ws.length us.length) (u':Up ws') (v':Up us') (T':Q.Tidy2 K' ws'.length us'.length)
  (h:∀ x y,inY ws us K x y=inY ws' us' K' x y):ws=ws'∧us=us'∧K=K':=by
 have hf:inY ws us K=inY ws' us' K':=funext fun x=>funext fun y=>h x y
 have e1:ws=ws':=aAL u u' fun x=>by rw [aAR u v T,aAR u' v' T',hf]
 have e2:us=us':=aAL v v' fun x=>by rw [yJ u v T,yJ u' v' T',hf]
 subst e1 e2
 refine ⟨rfl,rfl,?_⟩
 obtain ⟨g,l⟩:=T.good
 obtain ⟨g',l'⟩:=T'.good
 refine aEN g g' (by omega) fun a b ha hb => ?_
 have:=h ws[a] us[b]
 unfold inY at this
 rwa [gM u (by omega),gM v (by omega)] at this
def cW:List Rat→List Rat→List Rat
 | [],ys=>ys
 | x::xs,[]=>x::xs
 | x::xs,y::ys=>if y < x then y::cW (x::xs) ys else if x=y then x::cW xs ys else x::cW xs (y::ys)
termination_by xs ys=>xs.length+ys.length
theorem dP:∀ (xs ys:List Rat) (a:Rat),a∈cW xs ys↔a∈xs∨a∈ys
 | [],ys,a=>by rw [cW]; simp
 | x::xs,[],a=>by rw [cW]; simp
 | x::xs,y::ys,a=>by
  rw [cW]
  split
  ·rw [List.mem_cons,dP (x::xs) ys a,List.mem_cons (a:=a) (b:=y)]
   constructor
   ·rintro (h | h | h)
    ·exact .inr (.inl h)
    ·exact .inl h
    ·exact .inr (.inr h)
   ·rintro (h | h | h)
    ·exact .inr (.inl h)
    ·exact .inl h
    ·exact .inr (.inr h)
  ·split
   ·rename_i h1 h2
    subst h2
    rw [List.mem_cons,dP xs ys a,List.mem_cons,List.mem_cons]
    constructor
    ·rintro (h | h | h)
     ·exact .inl (.inl h)
     ·exact .inl (.inr h)
     ·exact .inr (.inr h)
    ·rintro ((h | h) | h | h)
     ·exact .inl h
     ·exact .inr (.inl h)
     ·exact .inl h
     ·exact .inr (.inr h)
   ·rw [List.mem_cons,dP xs (y::ys) a,List.mem_cons (a:=a) (b:=x)]
    constructor
    ·rintro (h | h | h)
     ·exact .inl (.inl h)
     ·exact .inl (.inr h)
     ·exact .inr h
    ·rintro ((h | h) | h)
     ·exact .inl h
     ·exact .inr (.inl h)
     ·exact .inr (.inr h)
termination_by xs ys=>xs.length+ys.length
theorem cZ:∀ {xs ys:List Rat},xs.Pairwise (· < ·)→ys.Pairwise (· < ·)→(cW xs ys).Pairwise (· < ·)
 | [],ys,_,hy=>by rw [cW]; exact hy
 | x::xs,[],hx,_=>by rw [cW]; exact hx
 | x::xs,y::ys,hx,hy=>by
  obtain ⟨x1,x2⟩:=List.pairwise_cons.mp hx
  obtain ⟨y1,y2⟩:=List.pairwise_cons.mp hy
  rw [cW]
  split
  ·rename_i h
   refine List.pairwise_cons.mpr ⟨fun a ha => ?_,cZ hx y2⟩
   rcases (dP _ _ _).mp ha with h1 | h1
   ·rcases List.mem_cons.mp h1 with rfl | h1
    ·exact h
    ·have:=x1 a h1; grind
   ·exact y1 a h1
  ·split
   ·rename_i h1 h2
    subst h2
    refine List.pairwise_cons.mpr ⟨fun a ha => ?_,cZ x2 y2⟩
    rcases (dP _ _ _).mp ha with h1 | h1
    ·exact x1 a h1
    ·exact y1 a h1
   ·rename_i h1 h2
    refine List.pairwise_cons.mpr ⟨fun a ha => ?_,cZ x2 hy⟩
    rcases (dP _ _ _).mp ha with h3 | h3
    ·exact x1 a h3
    ·rcases List.mem_cons.mp h3 with rfl | h3
     ·grind
     ·have:=y1 a h3; grind
termination_by xs ys=>xs.length+ys.length
structure Yd where
 ws:List Rat
 us:List Rat
 K:List Str
 uw:Up ws
 uu:Up us
 T:Q.Tidy2 K ws.length us.length
def Yd.has (A:Yd) (x y:Rat):Bool:=inY A.ws A.us A.K x y
theorem Yd.ext' {A B:Yd} (h:∀ x y,A.has x y=B.has x y):A=B:=by
 obtain ⟨ws,us,K,uw,uu,T⟩:=A
 obtain ⟨ws',us',K',uw',uu',T'⟩:=B
 obtain ⟨rfl,rfl,rfl⟩:=aCR uw uu T uw' uu' T' h
 rfl
theorem Yd.wide (A:Yd):(∀ z∈A.K,z.length=A.ws.length - 1)∧A.K.length=A.us.length - 1:=⟨fun z hz=>(A.T.good.1 z hz).1,A.T.good.2⟩
theorem Yd.steps (A:Yd) {xs ys:List Rat} (v:Up xs) (v':Up ys) (hs:∀ w∈A.ws,w∈xs) (hs':∀ w∈A.us,w∈ys):Steps A.has xs ys:=aAS A.uw A.uu A.wide.1 A.wide.2 v v' hs hs'
def Yd.ofG (xs ys:List Rat) (zs:List Str) (u:Up xs) (v:Up ys) (g:R.Good (xs.length - 1) zs) (hz:zs.length=ys.length - 1):Yd where
 ws:=gA xs (R.chg (R.aE zs))
 us:=gA ys (R.chg zs)
 K:=R.bU zs
 uw:=tE u (R.bY _) (Q.eT fun z hz=>(g z hz).1)
 uu:=tE v (R.bY _) (Q.eW hz)
 T:=by
  have:=Q.xQ g
  unfold gA
  rw [List.length_map,List.length_map]
  exact this
theorem Yd.ofG_has {xs ys:List Rat}{zs:List Str} (u:Up xs) (v:Up ys) (g:R.Good (xs.length - 1) zs) (hz:zs.length=ys.length - 1) (x y:Rat):(Yd.ofG xs ys zs u v g hz).has x y=R.bC zs (ix xs x) (ix ys y):=aEF u v g hz x y
theorem Yd.ofG_ws {xs ys:List Rat}{zs:List Str} (u:Up xs) (v:Up ys) (g:R.Good (xs.length - 1) zs) (hz:zs.length=ys.length - 1):(∀ w∈(Yd.ofG xs ys zs u v g hz).ws,w∈xs)∧∀ w∈(Yd.ofG xs ys zs u v g hz).us,w∈ys :=
 ⟨qE (Q.eT fun z hz=>(g z hz).1),qE (Q.eW hz)⟩
def Yd.ofF (f:Rat→Rat→Bool) (xs ys:List Rat) (u:Up xs) (v:Up ys):Yd:=Yd.ofG xs ys (i8 f xs ys) u v (o5 f xs ys) (qP f xs ys)
theorem Yd.ofF_has {f:Rat→Rat→Bool}{xs ys:List Rat} (u:Up xs) (v:Up ys) (h:Steps f xs ys) (x y:Rat):(Yd.ofF f xs ys u v).has x y=f x y:=by
 unfold Yd.ofF
 rw [Yd.ofG_has,aEQ h]
theorem mgl {ws vs:List Rat}:∀ w∈ws,w∈cW ws vs:=fun w hw=>(dP _ _ _).mpr (.inl hw)
theorem mgr {ws vs:List Rat}:∀ w∈vs,w∈cW ws vs:=fun w hw=>(dP _ _ _).mpr (.inr hw)
def Yd.op (p:Bool→Bool→Bool) (A B:Yd):Yd:=Yd.ofF (fun x y=>p (A.has x y) (B.has x y)) (cW A.ws B.ws) (cW A.us B.us) (cZ A.uw B.uw) (cZ A.uu B.uu)
theorem Yd.op_has {p:Bool→Bool→Bool} (h0:p false false=false) (A B:Yd) (x y:Rat):(Yd.op p A B).has x y=p (A.has x y) (B.has x y) :=
 Yd.ofF_has _ _ ((A.steps (cZ A.uw B.uw) (cZ A.uu B.uu) mgl mgl).pick (B.steps (cZ A.uw B.uw) (cZ A.uu B.uu) mgr mgr) p h0) x y
structure On (Sx Sy:List Rat) (A:Yd):Prop where
 x:∀ w∈A.ws,w∈Sx
 y:∀ w∈A.us,w∈Sy
theorem aCM {ws:List Rat} (u:Up ws):ws.Nodup:=u.imp fun h=>by grind
theorem aAQ {ws S:List Rat} (u:Up ws) (h:∀ w∈ws,w∈S):ws.length≤S.length:=(aCM u).length_le_of_subset h
theorem Yd.void_iff (A:Yd):A.K=[]↔∀ x y,A.has x y=false:=by
 constructor
 ·intro h x y
  unfold Yd.has inY
  rw [h]
  cases e:R.bC [] (ix A.ws x) (ix A.us y) with
  | false=>rfl
  | true=>obtain ⟨_,_,z,hz,_⟩:=R.sK.mp e; cases hz
 ·intro h
  rcases A.T.v with ⟨e,_,_⟩ | ⟨hK,t1,t2,g,l,ha,hb⟩
  ·exact e
  ·exfalso
   obtain ⟨j,hj,hne⟩:=tY A.T (i:=0) (by omega)
   have:=h (A.ws[0]'(by omega)) (A.us[j]'(by omega))
   unfold Yd.has inY at this
   rw [gM A.uw,gM A.uu] at this
   rw [R.dX (by omega)] at hne
   exact hne this.symm
def Yd.void:Yd:=⟨[],[],[], .nil, .nil,⟨.inl ⟨rfl,rfl,rfl⟩⟩⟩
theorem Yd.void_has (x y:Rat):Yd.void.has x y=false:=(Yd.void_iff _).mp rfl x y
end U
namespace Q
open PySem L2 Z
theorem aBW (p v:Int × Int):eqD (pairD p) (pairD v)=decide (p=v):=by
 obtain ⟨a,b⟩:=v
 obtain ⟨x,y⟩:=p
 unfold pairD
 simp only [eqD,eqDs,Bool.and_true]
 by_cases h1:x=a
 ·by_cases h2:y=b
  ·rw [decide_eq_true (by rw [h1,h2])]; simp [h1,h2]
  ·rw [decide_eq_false (by intro e; injection e with e1 e2; exact h2 e2)]; simp [h2]
 ·rw [decide_eq_false (by intro e; injection e with e1 e2; exact h1 e1)]; simp [h1]
end Q
namespace PySem
open Builtin
structure ZAp (z TI TO i1 i2:Addr) (fp1 fp2:List Addr):Prop where
 TIz:TI≠z
 TOz:TO≠z
 i1z:i1≠z
 i2z:i2≠z
 TOi1:TO≠i1
 TOi2:TO≠i2
 i12:i1≠i2
 f1:∀ b∈fp1,b≠z∧b≠TO∧b≠i2
 f2:∀ b∈fp2,b≠z∧b≠TO∧b≠i1
section
variable {prog:Program}{w:World}{A:Around}{E:Value→Shared→Prop}{s:Shared}{z TI TO i1 i2:Addr}{fp1 fp2:List Addr}{n1 n2 k:Nat}{P1 P2:Nat→Value→Prop}{S1 S2:Nat→Heap→Prop}{a b:Value}
end
end PySem
namespace PySem
open PyProof.Rows
section
variable {prog:Program}{w:World}{A:Around}{E:Value→Shared→Prop}{s:Shared}
end
end PySem
namespace L2
open PySem PySem.Spec PyProof.Rows
section
variable {X:Cx}
end
end L2
namespace Z
open PySem L2
section
variable {X:Cx}{Γ:Gm}{M:Mem}{k:D→Mem→Prop}{pos:Pos}{a b:Expr}{rest:List Expr}
end
end Z
namespace L2
open PySem PySem.Spec PyProof.Rows
section
variable {X:Cx}
end
end L2
namespace Z
open PySem L2
section
variable {X:Cx}{Γ:Gm}{M:Mem}{k:D→Mem→Prop}{pos:Pos}{a b:Expr}{rest:List Expr}
end
end Z
namespace Q
open PySem L2 Z
theorem yS {α:Type} (l:List α) (n:Nat) (h:n≤l.length):cutD l (some (n:Int)) none=l.drop n:=by
 unfold cutD
 rw [HT.aCB,show HT.sIx l.length 0 (some (n:Int))=min n l.length from HT.jC _ _ n,Nat.min_eq_left h]
 exact List.take_of_length_le (by rw [List.length_drop]; exact Nat.le_refl _)
end Q
namespace Z
open PySem L2
end Z
namespace Q
open PySem L2 Z
end Q
namespace L2
open PySem PySem.Spec PyProof.Rows
end L2
namespace Z
open PySem L2
section
variable {X:Cx}{Γ:Gm}{M:Mem}{k:D→Mem→Prop}{pos:Pos}{iter:Expr}
end
end Z
namespace Q
open PySem L2 Z
theorem aCU (l:List Str):okDs 0 (l.map D.str)=true:=kI fun d hd=>by obtain ⟨z,_,rfl⟩:=List.mem_map.mp hd; rfl
end Q
namespace Q
open PySem L2 Z U
def pq (q:Rat):Int × Int:=(q.num,(q.den:Int))
def cQ (q:Rat):D:=pairD (pq q)
def aP (xs:List Rat):List D:=xs.map cQ
theorem a6 (xs:List Rat):(aP xs).length=xs.length:=List.length_map ..
structure Bq (q:Rat):Prop where
 a:q.num.natAbs < 10 ^ 400
 b:q.den < 10 ^ 400
theorem Bq.g {q:Rat} (h:Bq q):Bg (pq q):=⟨h.a,by show ((q.den:Int)).natAbs < _; rw [Int.natAbs_natCast]; exact h.b,by show (q.den:Int)≠0; have:=q.den_nz; omega⟩
def BqL (xs:List Rat):Prop:=∀ x∈xs,Bq x
theorem aHK (a b:Rat):ltP (pq a) (pq b)=decide (a < b):=by
 unfold ltP pq
 rw [decide_eq_decide]
 exact (Rat.lt_iff a b).symm
theorem aGM {a b:Rat}:pq a=pq b↔a=b:=by
 constructor
 ·intro e
  unfold pq at e
  injection e with e1 e2
  exact Rat.ext e1 (by omega)
 ·intro e; rw [e]
theorem yW (a b:Rat):eqD (cQ a) (cQ b)=decide (a=b):=by
 unfold cQ
 rw [aBW,decide_eq_decide,aGM]
theorem sZ (t b:Int) (hb:b≠0):lowP t b=pq (Rat.divInt t b):=by
 obtain ⟨h1,h2⟩:=Num.yR t b hb
 unfold pq
 rw [← h1,← h2]
 rfl
theorem mC (q:Rat):(q.den:Int)≠0:=by have:=q.den_nz; omega
theorem aEV (a b:Rat):lowP ((pq a).1 * (pq b).2+(pq b).1 * (pq a).2) ((pq a).2 * (pq b).2)=pq (a+b):=by
 exact (sZ _ _ (Int.mul_ne_zero (mC a) (mC b))).trans (congrArg pq (Num.aDO a b))
theorem aCG (a b:Rat):lowP ((pq a).1 * (pq b).1) ((pq a).2 * (pq b).2)=pq (a * b):=by
 exact (sZ _ _ (Int.mul_ne_zero (mC a) (mC b))).trans (congrArg pq (Num.aET a b))
theorem uO (xs:List Int):fY xs=aP (xs.map fun (x:Int)=>(x:Rat)):=by
 unfold fY aP
 rw [List.map_map,List.map_map]; rfl
def aFC:Ct:=fun ds M k=>∃ p q:Int × Int,ds=[pairD p,pairD q]∧(p.1.natAbs < 10 ^ 400∧p.2.natAbs < 10 ^ 400)∧(q.1.natAbs < 10 ^ 400∧q.2.natAbs < 10 ^ 400)∧k (.bl (ltP p q)) M
theorem w65 {p:Int × Int} (h:p.1.natAbs < 10 ^ 65∧p.2.natAbs < 10 ^ 65):p.1.natAbs < 10 ^ 400∧p.2.natAbs < 10 ^ 400:=⟨Nat.lt_of_lt_of_le h.1 (Nat.pow_le_pow_right (by decide) (by decide)),Nat.lt_of_lt_of_le h.2 (Nat.pow_le_pow_right (by decide) (by decide))⟩
def aF8:Ct:=fun ds M k=>∃ a b:Rat,ds=[cQ a,cQ b]∧Bq a∧Bq b∧k (cQ (a+b)) M
def aFJ:Ct:=fun ds M k=>∃ a b:Rat,ds=[cQ a,cQ b]∧Bq a∧Bq b∧k (cQ (a * b)) M
theorem eN (xs ys:List Rat):aP xs++aP ys=aP (xs++ys):=by unfold aP; rw [List.map_append]
theorem oA {xs:List Rat}{js:List Nat} (h:∀ j∈js,j < xs.length):lJ (aP xs) js=aP (gA xs js):=by
 unfold lJ aP gA
 rw [List.map_map]
 refine List.map_congr_left fun j hj => ?_
 have:=h j hj
 rw [List.getD_eq_getElem?_getD,List.getElem?_map,List.getElem?_eq_getElem this]
 show cQ xs[j]=cQ (xs.getD j 0)
 rw [List.getD_eq_getElem?_getD,List.getElem?_eq_getElem this]; rfl
def yd (A:Yd):D:=nK (aP A.ws) (aP A.us) A.K
theorem aDT {xs ys:List Rat}{zs:List Str} (u:Up xs) (v:Up ys) (g:R.Good (xs.length - 1) zs) (hz:zs.length=ys.length - 1):gS (aP xs) (aP ys) zs=yd (Yd.ofG xs ys zs u v g hz):=by
 unfold gS yd
 rw [oA (eT fun z hz=>(g z hz).1),oA (eW hz)]; rfl
theorem qH (xs:List Rat):∀ x∈aP xs,okD 1 x=true:=fun x hx=>by
 obtain ⟨q,_,rfl⟩:=List.mem_map.mp hx
 rfl
theorem fL (A:Yd):okD 3 (yd A)=true:=oG _ (qH _) (qH _)
theorem uI:∀ (a b:List Rat),eqDs (aP a) (aP b)=decide (a=b)
 | [],[]=>rfl
 | [],b::bs=>by unfold aP; simp [eqDs]
 | a::as,[]=>by unfold aP; simp [eqDs]
 | a::as,b::bs=>by
  have ih:=uI as bs
  unfold aP at ih ⊢
  simp only [List.map_cons,eqDs]
  rw [yW,ih]
  by_cases h1:a=b <;> by_cases h2:as=bs <;> simp [h1,h2]
theorem rT:∀ (a b:List Str),eqDs (a.map D.str) (b.map D.str)=decide (a=b)
 | [],[]=>rfl
 | [],b::bs=>by simp [eqDs]
 | a::as,[]=>by simp [eqDs]
 | a::as,b::bs=>by
  have ih:=rT as bs
  simp only [List.map_cons,eqDs]
  rw [ih]
  by_cases h1:a=b <;> by_cases h2:as=bs <;> simp [h1,h2,eqD]
theorem aG0 {A B:Yd}:A=B↔A.ws=B.ws∧A.us=B.us∧A.K=B.K:=by
 constructor
 ·intro e; subst e; exact ⟨rfl,rfl,rfl⟩
 ·obtain ⟨ws,us,K,_,_,_⟩:=A
  obtain ⟨ws',us',K',_,_,_⟩:=B
  rintro ⟨rfl,rfl,rfl⟩
  rfl
noncomputable instance:DecidableEq Yd:=fun _ _=>Classical.propDecidable _
theorem nH (A B:Yd):eqD (yd A) (yd B)=decide (A=B):=by
 unfold yd nK
 simp only [eqD,eqDs,uI,rT,Bool.and_true]
 by_cases h:A=B
 ·subst h; simp
 ·rw [decide_eq_false h]
  by_cases h1:A.ws=B.ws
  ·by_cases h2:A.us=B.us
   ·have h3:A.K≠B.K:=fun e=>h (aG0.mpr ⟨h1,h2,e⟩)
    simp [h3]
   ·simp [h2]
  ·simp [h1]
structure Bnd (S:List Rat):Prop where
 len:S.length≤90
 b:BqL S
def aC3 (a b:Bool):Bool:=a && b
def aC4 (a b:Bool):Bool:=a && !b
end Q
namespace U
open PySem
inductive Cmp (g:Rat→Rat):Rat→List Rat→List Rat→Prop
 | nil {v:Rat}{xs:List Rat} (hv:v=0) (h:∀ x∈xs,g x=0):Cmp g v xs []
 | skip {v a:Rat}{r ws:List Rat} (e:g a=v) (h:Cmp g v r ws):Cmp g v (a::r) ws
 | keep {v a:Rat}{r ws:List Rat} (h:Cmp g (g a) r ws):Cmp g v (a::r) (a::ws)
def Yd.shift (A:Yd) (a b:Rat):Yd where
 ws:=A.ws.map (· + a)
 us:=A.us.map (· + b)
 K:=A.K
 uw:=by unfold Up; rw [List.pairwise_map]; exact A.uw.imp fun h=>by grind
 uu:=by unfold Up; rw [List.pairwise_map]; exact A.uu.imp fun h=>by grind
 T:=by rw [List.length_map,List.length_map]; exact A.T
def Yd.scale (A:Yd) (a b:Rat) (ha:0 < a) (hb:0 < b):Yd where
 ws:=A.ws.map (· * a)
 us:=A.us.map (· * b)
 K:=A.K
 uw:=by unfold Up; rw [List.pairwise_map]; exact A.uw.imp fun h=>Rat.mul_lt_mul_of_pos_right h ha
 uu:=by unfold Up; rw [List.pairwise_map]; exact A.uu.imp fun h=>Rat.mul_lt_mul_of_pos_right h hb
 T:=by rw [List.length_map,List.length_map]; exact A.T
def oQ (ws:List Rat):List Rat:=ws.reverse.map fun x=>0 - x
theorem aA7 (ws:List Rat):(oQ ws).length=ws.length:=by unfold oQ; rw [List.length_map,List.length_reverse]
theorem aEZ {ws:List Rat} (u:Up ws):Up (oQ ws):=by
 unfold oQ Up
 rw [List.pairwise_map,List.pairwise_reverse]
 exact u.imp fun h=>by grind
def Yd.turn (A:Yd):Yd where
 ws:=oQ A.us
 us:=A.ws
 K:=(R.aE A.K).map R.dE
 uw:=aEZ A.uu
 uu:=A.uw
 T:=by rw [aA7]; exact Q.xY A.T
end U
set_option exponentiation.threshold 500
namespace Q
open PySem L2 Z U
theorem aE8 (q:Rat):q * (q.den:Rat)=(q.num:Rat):=by
 have h:=Rat.num_divInt_den q
 have hd:((q.den:Int):Rat)≠0:=by
  intro e
  have:=Rat.intCast_inj.mp (e.trans (Rat.intCast_zero).symm)
  have:=q.den_nz; omega
 conv=>lhs; lhs; rw [← h,Rat.divInt_eq_div]
 rw [← Rat.intCast_natCast,Rat.div_mul_cancel hd]
structure Fr (m B:Nat) (q:Rat):Prop where
 ex:∃ k:Int,q * (m:Rat)=(k:Rat)∧k.natAbs≤B
theorem Fr.cross {m B:Nat}{q:Rat} (h:Fr m B q):∃ k:Int,q.num * (m:Int)=k * (q.den:Int)∧k.natAbs≤B:=by
 obtain ⟨k,e,hk⟩:=h.ex
 refine ⟨k,?_,hk⟩
 have h1:q * (q.den:Rat)=(q.num:Rat):=aE8 q
 have h2:((q.num * (m:Int):Int):Rat)=((k * (q.den:Int):Int):Rat):=by
  rw [Rat.intCast_mul,Rat.intCast_mul,Rat.intCast_natCast,Rat.intCast_natCast,← h1,← e]
  grind
 exact Rat.intCast_inj.mp h2
theorem Fr.bd {m B:Nat}{q:Rat} (h:Fr m B q) (hm:0 < m):q.num.natAbs≤B∧q.den≤m:=by
 obtain ⟨k,e,hk⟩:=h.cross
 have e':q.num.natAbs * m=k.natAbs * q.den:=by
  have:=congrArg Int.natAbs e
  rwa [Int.natAbs_mul,Int.natAbs_mul,Int.natAbs_natCast,Int.natAbs_natCast] at this
 have hd:q.den ∣ m:=by
  refine Nat.Coprime.dvd_of_dvd_mul_left (k:=q.den) (m:=q.num.natAbs) (Nat.Coprime.symm q.reduced) ?_
  rw [e']; exact Nat.dvd_mul_left _ _
 have hl:=Nat.le_of_dvd hm hd
 refine ⟨?_,hl⟩
 have:q.num.natAbs * m≤B * m:=by
  rw [e']; exact Nat.mul_le_mul hk hl
 exact Nat.le_of_mul_le_mul_right this hm
theorem Fr.bq {m B:Nat}{q:Rat} (h:Fr m B q) (hm:0 < m) (h1:m < 10 ^ 400) (h2:B < 10 ^ 400):Bq q:=⟨Nat.lt_of_le_of_lt (h.bd hm).1 h2,Nat.lt_of_le_of_lt (h.bd hm).2 h1⟩
theorem Fr.add {m B C:Nat}{a b:Rat} (h:Fr m B a) (g:Fr m C b):Fr m (B+C) (a+b):=by
 obtain ⟨k,e,hk⟩:=h.ex
 obtain ⟨l,e',hl⟩:=g.ex
 exact ⟨k+l,by rw [Rat.intCast_add,← e,← e']; grind,by omega⟩
theorem Fr.mul {m n B C:Nat}{a b:Rat} (h:Fr m B a) (g:Fr n C b):Fr (m * n) (B * C) (a * b):=by
 obtain ⟨k,e,hk⟩:=h.ex
 obtain ⟨l,e',hl⟩:=g.ex
 exact ⟨k * l,by rw [Rat.intCast_mul,← e,← e',Rat.natCast_mul]; grind,by rw [Int.natAbs_mul]; exact Nat.mul_le_mul hk hl⟩
theorem Fr.int {m B:Nat}{x:Int} (h:x.natAbs * m≤B):Fr m B (x:Rat):=⟨x * m,by rw [Rat.intCast_mul,Rat.intCast_natCast],by rw [Int.natAbs_mul,Int.natAbs_natCast]; exact h⟩
def FrL (m B:Nat) (ws:List Rat):Prop:=∀ w∈ws,Fr m B w
def sm:Nat:=10 ^ 60
theorem p9 {ws:List Rat} (u:Up ws):dC (.tup (aP ws))=true:=by
 show ((aP ws).all gY && upP ((aP ws).map toP))=true
 rw [Bool.and_eq_true]
 constructor
 ·rw [List.all_eq_true]
  intro d hd
  obtain ⟨q,_,rfl⟩:=List.mem_map.mp hd
  refine k9.mpr ⟨_,rfl,by show (1:Int)≤(q.den:Int); have:=q.den_pos; omega,?_⟩
  have:=q.reduced
  rw [Int.gcd_eq_natAbs_gcd_natAbs]
  exact this
 ·have e:(aP ws).map toP=ws.map pq:=by
   unfold aP
   rw [List.map_map]; rfl
  rw [e]
  unfold upP
  rw [List.all_eq_true,List.length_map]
  intro i hi
  have hi':=List.mem_range.mp hi
  have a:∀ j (hj:j < ws.length),(ws.map pq).getD j (0,1)=pq ws[j]:=fun j hj=>by
   rw [List.getD_eq_getElem?_getD,List.getElem?_map,List.getElem?_eq_getElem hj]; rfl
  rw [a i (by omega),a (i+1) (by omega),aHK]
  exact decide_eq_true ((U.nY u (by omega) (by omega)).mpr (by omega))
theorem aEX (A:Yd):nN (yd A)=true:=by
 rcases A.T.v with ⟨e,e1,e2⟩ | ⟨hK,t1,t2,g,l,ha,hb⟩
 ·unfold yd
  rw [e,List.length_eq_zero_iff.mp e1,List.length_eq_zero_iff.mp e2]; exact xM
 ·have hkl:A.K.length=A.us.length - 1:=by omega
  show yard3 (.tup (aP A.ws)) (.tup (aP A.us)) (.tup (A.K.map .str))=true
  rw [tQ,p9 A.uw,p9 A.uu,uN,a6,a6,yZ hkl (fun z hz=>(g z hz).1),sJ g]
  have e:gS (aP A.ws) (aP A.us) A.K = .tup [.tup (aP A.ws), .tup (aP A.us), .tup (A.K.map .str)]:=by
   unfold gS
   have a1:lJ (aP A.ws) (R.chg (R.aE A.K))=aP A.ws:=by
    rw [t2,← a6]; exact oR _ _
   have a2:lJ (aP A.us) (R.chg A.K)=aP A.us:=by
    rw [t1,← a6]; exact oR _ _
   rw [a1,a2,zL t1 t2 g hkl]; rfl
  rw [e]
  exact eqD_refl 3 _ (fL A)
def Sml (q:Rat):Prop:=q.num.natAbs < 10 ^ 65∧q.den < 10 ^ 65
theorem aFG {A:Yd} (hx:∀ w∈A.ws,Sml w) (hy:∀ w∈A.us,Sml w) (lx:A.ws.length≤90) (ly:A.us.length≤90):tameB 3 (yd A)=true:=by
 have t1:∀ {ws:List Rat},(∀ w∈ws,Sml w)→∀ d∈aP ws,tameB 1 d=true:=fun h d hd=>by
  obtain ⟨q,hq,rfl⟩:=List.mem_map.mp hd
  obtain ⟨s1,s2⟩:=h q hq
  exact kK (show _≤100 by simp) (two (by unfold tameB; exact decide_eq_true s1) (by unfold tameB; exact decide_eq_true (by show ((q.den:Int)).natAbs < _; rw [Int.natAbs_natCast]; exact s2)))
 refine kK (show _≤100 by simp) fun d hd => ?_
 simp only [List.mem_cons,List.not_mem_nil,or_false] at hd
 rcases hd with rfl | rfl | rfl
 ·exact kK (by rw [a6]; omega) (t1 hx)
 ·exact kK (by rw [a6]; omega) (t1 hy)
 ·exact kK (by rw [List.length_map,A.wide.2]; omega) fun x hx=>by
   obtain ⟨z,hz,rfl⟩:=List.mem_map.mp hx
   exact qB (by have:=A.wide.1 z hz; omega)
def toQ (xs:List Int):List Rat:=xs.map fun (x:Int)=>(x:Rat)
theorem jF (xs:List Int):(toQ xs).length=xs.length:=List.length_map ..
theorem pD {xs:List Int} (h:xs.Pairwise (· < ·)):Up (toQ xs):=by
 unfold toQ Up
 rw [List.pairwise_map]
 exact h.imp fun hxy=>Rat.intCast_lt_intCast.mpr hxy
def eE (xs ys:List Int) (zs:List Str) (hx:xs.Pairwise (· < ·)) (hy:ys.Pairwise (· < ·)) (g:R.Good (xs.length - 1) zs) (hz:zs.length=ys.length - 1):Yd:=Yd.ofG (toQ xs) (toQ ys) zs (pD hx) (pD hy) (by rw [jF]; exact g) (by rw [jF]; exact hz)
theorem aBK {xs ys:List Int}{zs:List Str} (hx:xs.Pairwise (· < ·)) (hy:ys.Pairwise (· < ·)) (g:R.Good (xs.length - 1) zs) (hz:zs.length=ys.length - 1):gS (fY xs) (fY ys) zs=yd (eE xs ys zs hx hy g hz):=by
 rw [uO,uO]
 exact aDT _ _ _ _
def u4:Ct:=fun ds M k=>∃ (A:Yd) (a b:Rat) (ha:0 < a) (hb:0 < b),ds=[yd A,cQ a,cQ b]∧BqL A.ws∧BqL A.us∧Bq a∧Bq b∧A.ws.length≤90∧A.us.length≤90∧k (yd (Yd.scale A a b ha hb)) M
end Q
set_option exponentiation.threshold 500
namespace Q
open PySem L2 Z U
theorem hB (A B:Yd) (x y:Rat):(Yd.op aC3 A B).has x y=(A.has x y && B.has x y):=Yd.op_has rfl A B x y
theorem hL (A B:Yd) (x y:Rat):(Yd.op aC4 A B).has x y=(A.has x y && !B.has x y):=Yd.op_has rfl A B x y
theorem in1 (A B:Yd):Yd.op aC4 (Yd.op aC3 A B) A=Yd.void:=Yd.ext' fun x y=>by rw [hL,hB,Yd.void_has]; cases A.has x y <;> cases B.has x y <;> rfl
structure Y8 (A:Yd):Prop where
 x:FrL 6 100000000000 A.ws
 y:FrL 6 100000000000 A.us
 lx:A.ws.length≤7
 ly:A.us.length≤7
structure S8 (S:List Rat):Prop where
 len:S.length≤30
 fr:FrL 6 100000000000 S
structure O8 (Sx Sy:List Rat) (A:Yd):Prop where
 on:On Sx Sy A
 sx:S8 Sx
 sy:S8 Sy
theorem sR {xs ys:List Int}{zs:List Str} (ux:Up7 xs) (uy:Up7 ys) (g:R.Good (xs.length - 1) zs) (hz:zs.length=ys.length - 1):(∀ w∈(eE xs ys zs ux.up uy.up g hz).ws,∃ x∈xs,w=(x:Rat))∧(∀ w∈(eE xs ys zs ux.up uy.up g hz).us,∃ x∈ys,w=(x:Rat))∧(eE xs ys zs ux.up uy.up g hz).ws.length≤7∧(eE xs ys zs ux.up uy.up g hz).us.length≤7:=by
 obtain ⟨h1,h2⟩:=Yd.ofG_ws (pD ux.up) (pD uy.up) (by rw [jF]; exact g:R.Good ((toQ xs).length - 1) zs) (by rw [jF]; exact hz)
 have fx:=ux.few
 have fy:=uy.few
 refine ⟨fun w hw => ?_,fun w hw => ?_,?_,?_⟩
 ·obtain ⟨x,hx,rfl⟩:=List.mem_map.mp (h1 w hw); exact ⟨x,hx,rfl⟩
 ·obtain ⟨x,hx,rfl⟩:=List.mem_map.mp (h2 w hw); exact ⟨x,hx,rfl⟩
 ·exact Nat.le_trans (aAQ (eE xs ys zs ux.up uy.up g hz).uw h1) (by rw [jF]; exact fx)
 ·exact Nat.le_trans (aAQ (eE xs ys zs ux.up uy.up g hz).uu h2) (by rw [jF]; exact fy)
end Q
set_option exponentiation.threshold 500
namespace Q
open PySem L2 Z U
theorem lH {t b:Int} (hb:0 < b):pairD (lowG t b)=cQ (Rat.divInt t b):=by
 rw [← aE4 hb,sZ _ _ (by omega)]; rfl
end Q
set_option exponentiation.threshold 500
namespace Q
open PySem L2 Z U
def aC8:Ct:=fun ds M k=>∃ (A:U.Yd) (a b:Rat),ds=[yd A,cQ a,cQ b]∧BqL A.ws∧BqL A.us∧Bq a∧Bq b∧A.ws.length≤90∧A.us.length≤90∧k (yd (A.shift a b)) M
def pm (A:U.Yd):List Rat:=A.ws++A.us++oQ A.ws++oQ A.us
theorem nn (x:Rat):(0:Rat) - (0 - x)=x:=by grind
structure P4 (a b c d:Rat):Prop where
 fa:Fr 2520 1000000 a
 fb:Fr 2520 1000000 b
 fc:Fr 2520 1000000 c
 fd:Fr 2520 1000000 d
 c0:0 < c
 d0:0 < d
def mm:Nat:=2520 * 2520 * 2520
structure Sk (q:Rat):Prop where
 fr:Fr mm (10 ^ 40) q
structure Y10 (A:U.Yd):Prop where
 x:FrL 2520 10000000000000 A.ws
 y:FrL 2520 10000000000000 A.us
 lx:A.ws.length≤14
 ly:A.us.length≤14
structure Y11 (A:U.Yd):Prop where
 x:FrL (2520 * 2520) 100000000000000000000 A.ws
 y:FrL (2520 * 2520) 100000000000000000000 A.us
 lx:A.ws.length≤14
 ly:A.us.length≤14
def tn:Nat→U.Yd→U.Yd
 | 0,A=>A
 | n+1,A=>(tn n A).turn
structure Ps (a:Rat):Prop where
 fr:Fr 2520 1000000 a
 p:0 < a
 inv:Fr 2520 1000000 (1 / a)
theorem zJ {t b:Int} (hb:0 < b) (hb9:b≤9) (ht:t.natAbs≤20):Fr 2520 1000000 (Rat.divInt t b):=by
 obtain ⟨c,hc⟩:b ∣ 2520:=by
  have:b=1∨b=2∨b=3∨b=4∨b=5∨b=6∨b=7∨b=8∨b=9:=by omega
  rcases this with rfl | rfl | rfl | rfl | rfl | rfl | rfl | rfl | rfl <;> decide
 have hc0:0 < c:=by
  rcases Int.lt_trichotomy c 0 with q | q | q
  ·have:=Int.mul_neg_of_pos_of_neg hb q; omega
  ·subst q; omega
  ·exact q
 refine ⟨t * c,?_,?_⟩
 ·have nb:((b:Int):Rat)≠0:=fun e=>by have:=Rat.intCast_inj.mp (e.trans Rat.intCast_zero.symm); omega
  rw [Rat.divInt_eq_div,show ((2520:Nat):Rat)=((2520:Int):Rat) from rfl,hc,Rat.intCast_mul,Rat.intCast_mul]
  grind
 ·rw [Int.natAbs_mul]
  have:c.natAbs≤2520:=by
   have h1:c * 1≤c * b:=Int.mul_le_mul_of_nonneg_left (by omega) (by omega)
   rw [Int.mul_comm c b,← hc] at h1
   omega
  exact Nat.le_trans (Nat.mul_le_mul ht this) (by decide)
end Q
namespace Z
open PySem L2
def Fo (P:Program) (w:World) (K:PySem.W.Frag) (mg:Str→Option Value) (base:Heap) (x:Str) (st:Stmt) (ps:List Str) (n:Nat) (c:Ct):Prop:=∃ f fd,R.Df K mg x st ps f fd∧FnOk P w K mg base CX0 n f fd ps (spZ K c)
theorem aI {X:Cx}{Γ:Gm}{M:Mem}{k:D→Mem→Prop}{pos p:Pos}{e:Expr}{es:List Expr}{x:Str}{st:Stmt}{ps:List Str}{n j:Nat}{c:Ct} (g:Fo X.prog X.w X.K X.mg X.base x st ps n c) (hr:Room j X.A)
  (h:GA X (e::es) Γ M fun ds M1=>c ds M1 k) (hn:n≤j:=by decide) (hg:Gl X x:=by rfl) (hdb:(x == ("__debug__" : Str))=false:=by decide) (he:starEach (e::es) X.env=(false,eval e X.env)::starEach es X.env:=by rfl) (hpl:(backTo pos (starEach es X.env)).any (·.1)=false:=by rfl) :
  GE X (.Call (.Name x p) (e::es) [] pos) Γ M k:=by
 obtain ⟨f,fd,D,G⟩:=g
 exact aE3 G (hr.mono hn) D.m D.F.kp D.b h hg hdb he hpl
end Z
namespace U
open PySem
def hit (s:Bool) (ws:List Rat) (dn up:Rat) (h:Int→Bool) (x:Rat):Prop:=∃ u,x - up≤u∧u≤x+dn∧h (ix ws u)=s
open Classical in
noncomputable def gro (s:Bool) (ws:List Rat) (dn up:Rat) (h:Int→Bool) (x:Rat):Bool:=if hit s ws dn up h x then s else !s
def wZ (ws:List Rat) (dn:Rat):List Rat:=ws.map (· - dn)
def wY (ws:List Rat) (up:Rat):List Rat:=ws.map (· + up)
def xZ (ws:List Rat) (dn up:Rat):List Rat:=cW (wZ ws dn) (wY ws up)
theorem aEW {ws:List Rat} (u:Up ws) (dn:Rat):Up (wZ ws dn):=by unfold wZ Up; rw [List.pairwise_map]; exact u.imp fun h=>by grind
theorem aD4 {ws:List Rat} (u:Up ws) (up:Rat):Up (wY ws up):=by unfold wY Up; rw [List.pairwise_map]; exact u.imp fun h=>by grind
theorem wR {ws:List Rat} (u:Up ws) (dn up:Rat):Up (xZ ws dn up):=cZ (aEW u dn) (aD4 u up)
noncomputable def growS (s:Bool) (ws:List Rat) (dn up:Rat) (z:Str):Str:=R.ofL ((xZ ws dn up).dropLast.map fun x=>R.sg (gro s ws dn up (fun i=>R.bC [z] i 0) x))
noncomputable def groF (s:Bool) (A:Yd) (a b c d:Rat) (x y:Rat):Bool:=gro s A.us b d (fun r=>gro s A.ws a c (fun i=>R.bC A.K i r) x) y
structure Nn (a b c d:Rat):Prop where
 a:0≤a
 b:0≤b
 c:0≤c
 d:0≤d
noncomputable def Yd.grow (A:Yd) (s:Bool) (a b c d:Rat):Yd:=Yd.ofF (groF s A a b c d) (xZ A.ws a c) (xZ A.us b d) (wR A.uw a c) (wR A.uu b d)
structure Bx where
 w:Rat
 s:Rat
 e:Rat
 n:Rat
structure Bx.Ok (b:Bx):Prop where
 w:0≤b.w
 s:0≤b.s
 e:0≤b.e
 n:0≤b.n
noncomputable def Yd.cut (A:Yd) (b:Bx):Yd:=A.grow false b.e b.n b.w b.s
noncomputable def Yd.back (A:Yd) (b:Bx):Yd:=A.grow true b.w b.s b.e b.n
end U
set_option exponentiation.threshold 500
namespace Q
open PySem L2 Z U
theorem aAU (l:List Nat) (e:Nat) (h:e≤l.length):oK (R.ofL l) (some (e:Int)) none=R.ofL (l.drop e):=by
 have:=yS l e h
 unfold cutD at this
 unfold oK lB R.ofL
 rw [← this]
structure Gr (ws:List Rat) (dn up:Rat):Prop where
 u:Up ws
 d0:0≤dn
 u0:0≤up
 b:BqL ws
 bd:Bq dn
 bu:Bq up
 lo:BqL (wZ ws dn)
 hi:BqL (wY ws up)
 len:ws.length≤90
def bxP (p q r s:Int) (t:Rat):Bx:=⟨(p:Rat) * t,(q:Rat) * t,(r:Rat) * t,(s:Rat) * t⟩
structure CutOk (A:Yd) (p q r s:Int) (t:Rat):Prop where
 hp:p.natAbs < 1000
 hq:q.natAbs < 1000
 hr:r.natAbs < 1000
 hs:s.natAbs < 1000
 ht:Bq t
 xc:Gr A.ws (bxP p q r s t).e (bxP p q r s t).w
 yc:Gr A.us (bxP p q r s t).n (bxP p q r s t).s
 xb:Gr A.ws (bxP p q r s t).w (bxP p q r s t).e
 yb:Gr A.us (bxP p q r s t).s (bxP p q r s t).n
end Q
set_option exponentiation.threshold 500
namespace Q
open PySem L2 Z U PySem.NumText
def iT (n:Int):Str:=Str.ofString (toString n)
theorem rV:∀ (k m:Nat),m < 10 ^ (k+1)→(Nat.toDigits 10 m).length≤k+1
 | 0,m,h=>by
  rw [Nat.toDigits_of_lt_base (by omega)]
  exact Nat.le_refl 1
 | k+1,m,h=>by
  by_cases h1:m < 10
  ·rw [Nat.toDigits_of_lt_base h1]
   show 1≤k+1+1
   omega
  ·have hm:m % 10 < 10:=Nat.mod_lt m (by decide)
   have t:Nat.toDigits 10 (m / 10)++Nat.toDigits 10 (m % 10)=Nat.toDigits 10 (10 * (m / 10)+m % 10):=Nat.toDigits_append_toDigits (by decide) (by omega) hm
   rw [Nat.div_add_mod] at t
   rw [← t,List.length_append,Nat.toDigits_of_lt_base hm]
   have:=rV k (m / 10) (by rw [Nat.div_lt_iff_lt_mul (by decide),← Nat.pow_succ]; exact h)
   show _+1≤_
   omega
structure Dg (z:Str):Prop where
 ne:z.cps.toList≠[]
 all:AllDigits z.cps.toList
 le:z.length≤60
theorem nB {m:Nat} (h:m < 10 ^ 60):Dg (iT (m:Int)):=by
 have e:=PySem.W.KIN.signs_num m
 refine ⟨?_,?_,?_⟩
 ·show (Str.ofString (toString ((m:Nat):Int))).cps.toList≠[]
  rw [e]
  intro z
  have h:=PySem.toDigits_len_ge 10 m
  rw [List.map_eq_nil_iff.mp z] at h
  exact absurd h (by decide)
 ·show AllDigits (Str.ofString (toString ((m:Nat):Int))).cps.toList
  rw [e]
  intro c hc
  obtain ⟨ch,hch,ec⟩:=List.mem_map.mp hc
  rw [← ec]
  exact PyProof.Rows.digit_range (Nat.isDigit_of_mem_toDigits (by decide) (by decide) hch)
 ·show (Str.ofString (toString ((m:Nat):Int))).cps.size≤60
  rw [← Array.length_toList,e,List.length_map]
  exact rV 59 m h
theorem aBH {m:Nat} (h:m < 10 ^ 60):PySem.intText? (iT (m:Int))=some (m:Int):=by
 have d:=nB h
 have e:=intText_digits d.all d.ne (Nat.le_trans d.le (by decide))
 rw [e]
 have e2:(iT (m:Int)).cps.toList=_:=PySem.W.KIN.signs_num m
 rw [e2,PySem.W.KIN.val_back]
theorem jN (m:Nat):(iT (-((m+1:Nat):Int))).cps.toList=45::(iT ((m+1:Nat):Int)).cps.toList:=by
 have e2:(iT ((m+1:Nat):Int)).cps.toList=_:=PySem.W.KIN.signs_num (m+1)
 rw [e2]
 show (Str.ofString (toString (Int.negSucc m))).cps.toList=_
 rw [PyProof.Rows.signs_ofString]
 show ("-" ++ Nat.repr (m+1)).toList.map Char.toNat=_
 rw [String.toList_append,List.map_append,Nat.toList_repr]
 rfl
theorem zR {m:Nat} (h:m+1 < 10 ^ 60):PySem.intText? (iT (-((m+1:Nat):Int)))=some (-((m+1:Nat):Int)):=by
 have d:=nB h
 have l:(iT (-((m+1:Nat):Int))).length≤61:=by
  show (iT (-((m+1:Nat):Int))).cps.size≤61
  rw [← Array.length_toList,jN]
  have:=d.le
  have e:(iT ((m+1:Nat):Int)).length=(iT ((m+1:Nat):Int)).cps.toList.length:=by rw [Array.length_toList]; rfl
  rw [List.length_cons]
  omega
 have e:=intText_neg (jN m) d.all d.ne (Nat.le_trans l (by decide))
 rw [e]
 have e2:(iT ((m+1:Nat):Int)).cps.toList=_:=PySem.W.KIN.signs_num (m+1)
 rw [e2,PySem.W.KIN.val_back]
theorem fG {n:Int} (h:n.natAbs < 10 ^ 60):PySem.intText? (iT n)=some n∧(iT n).length≤61∧(∀ c∈(iT n).cps.toList,c=45∨48≤c∧c≤57)∧Txt.startswith (iT n) ⟨#[45]⟩=decide (n < 0)∧(n < 0→oK (iT n) (some 1) none=iT (n.natAbs:Int)):=by
 have sw:∀ z:Str,Txt.startswith z ⟨#[45]⟩=decide (z.cps.toList[0]?=some 45):=fun z=>by
  unfold Txt.startswith
  rw [Bool.eq_iff_iff,Bool.and_eq_true,decide_eq_true_eq,decide_eq_true_eq]
  exact PySem.StrLaws.subAt_one z 45 0
 by_cases h0:n < 0
 ·obtain ⟨m,rfl⟩:∃ m:Nat,n = -((m+1:Nat):Int):=⟨n.natAbs - 1,by omega⟩
  have hm:m+1 < 10 ^ 60:=by omega
  have d:=nB hm
  have lz:(iT (-((m+1:Nat):Int))).length=(iT ((m+1:Nat):Int)).length+1:=by
   show (iT (-((m+1:Nat):Int))).cps.size=(iT ((m+1:Nat):Int)).cps.size+1
   rw [← Array.length_toList,jN,List.length_cons,Array.length_toList]
  refine ⟨zR hm,by have:=d.le; omega,fun c hc => ?_,?_,fun _ => ?_⟩
  ·rw [jN] at hc
   rcases List.mem_cons.mp hc with e | e
   ·exact .inl e
   ·exact .inr (d.all c e)
  ·rw [sw,jN]
   simp [h0]
  ·have e:=aAU (iT (-((m+1:Nat):Int))).cps.toList 1 (by rw [jN,List.length_cons]; omega)
   rw [show (-((m+1:Nat):Int)).natAbs=m+1 by omega]
   refine e.trans ?_
   rw [jN]
   rfl
 ·obtain ⟨m,rfl⟩:∃ m:Nat,n=(m:Int):=⟨n.toNat,by omega⟩
  have hm:m < 10 ^ 60:=by omega
  have d:=nB hm
  refine ⟨aBH hm,by have:=d.le; omega,fun c hc => .inr (d.all c hc),?_,fun z=>absurd z h0⟩
  rw [sw,decide_eq_false h0,decide_eq_false]
  intro e
  have:=d.all 45 (List.mem_of_getElem? e)
  omega
theorem kT {n:Int} (h:n.natAbs < 10 ^ 60):n.natAbs.log2 < 1920:=by
 by_cases z:n.natAbs=0
 ·rw [z]; decide
 ·exact (Nat.log2_lt z).mpr (Nat.lt_trans h (by decide +kernel))
structure Sm (q:Rat):Prop where
 a:q.num.natAbs < 10 ^ 60
 b:q.den < 10 ^ 60
def nT (q:Rat):Str:=if q.den=1 then iT q.num else iT q.num++("/" : Str)++iT (q.den:Int)
theorem lG:("/" : Str)=⟨#[47]⟩:=by decide +kernel
theorem aCV {T B:Str} (h:47 ∉ T.cps.toList):dH (T++("/" : Str)++B) ("/" : Str)=(T,("/" : Str),B):=by
 have hl:(T++("/" : Str)++B).cps.toList=T.cps.toList++47::B.cps.toList:=by
  rw [lG]
  show (T.cps ++ #[47]++B.cps).toList=_
  rw [Array.toList_append,Array.toList_append,List.append_assoc]
  rfl
 generalize T++("/" : Str)++B=x at hl
 rw [lG]
 have at_:∀ i,StrLaws.At x ⟨#[47]⟩ x.length i↔x.cps.toList[i]?=some 47:=fun i=>PySem.StrLaws.subAt_one x 47 i
 have lT:T.cps.toList.length=T.length:=by rw [Array.length_toList]; rfl
 have lx:x.length=x.cps.toList.length:=by rw [Array.length_toList]; rfl
 have hit:x.cps.toList[T.length]?=some 47:=by rw [hl,← lT]; simp
 rcases PySem.StrLaws.occ_head x ⟨#[47]⟩ 1 (Nat.le_refl 1) with ⟨_,hn⟩ | ⟨i,r,ho,hA,hn⟩
 ·exact absurd ((at_ _).mpr hit) (hn _)
 have ei:i=T.length:=by
  rcases Nat.lt_trichotomy i T.length with z | z | z
  ·have:=(at_ i).mp hA
   rw [hl,List.getElem?_append_left (by omega)] at this
   exact absurd (List.mem_of_getElem? this) h
  ·exact z
  ·exact absurd ((at_ _).mpr hit) (hn _ z)
 subst ei
 unfold dH
 rw [ho]
 have e1:Builtin.Str.strSub x 0 T.length=T:=by
  apply Str.ext'
  apply Array.toList_inj.mp
  rw [PySem.StrLaws.strSub_toList,hl,List.drop_zero,Nat.sub_zero,← lT]
  simp
 have e2:Builtin.Str.strSub x (T.length+1) x.length=B:=by
  apply Str.ext'
  apply Array.toList_inj.mp
  rw [PySem.StrLaws.strSub_toList,lx,hl,← lT,show T.cps.toList++47::B.cps.toList=(T.cps.toList++[47])++B.cps.toList by simp,List.drop_left' (by simp)]
  exact List.take_of_length_le (by simp; omega)
 show (Builtin.Str.strSub x 0 T.length,_,Builtin.Str.strSub x (T.length+1) x.length)=_
 rw [e1,e2]
theorem aC9 {T:Str} (h:47 ∉ T.cps.toList):dH T ("/" : Str)=(T,Str.empty,Str.empty):=by
 rw [lG]
 rcases PySem.StrLaws.occ_head T ⟨#[47]⟩ 1 (Nat.le_refl 1) with ⟨ho,_⟩ | ⟨i,r,ho,hA,hn⟩
 ·unfold dH
  rw [ho]
 ·exact absurd (List.mem_of_getElem? ((PySem.StrLaws.subAt_one T 47 i).mp hA)) h
theorem aDH {q:Rat} (h:Sm q):dH (nT q) ("/" : Str)=if q.den=1 then (iT q.num,Str.empty,Str.empty) else (iT q.num,("/" : Str),iT (q.den:Int)):=by
 have n47:47 ∉ (iT q.num).cps.toList:=fun z=>by have:=(fG h.a).2.2.1 47 z; omega
 unfold nT
 split
 ·exact aC9 n47
 ·exact aCV n47
theorem uE {q:Rat} (h:Sm q):∀ c∈(nT q).cps.toList,45≤c∧c≤57:=by
 have a1:=(fG h.a).2.2.1
 have a2:=(fG (n:=(q.den:Int)) (by rw [Int.natAbs_natCast]; exact h.b)).2.2.1
 intro c hc
 unfold nT at hc
 split at hc
 ·have:=a1 c hc; omega
 ·rw [lG] at hc
  have e:(iT q.num++(⟨#[47]⟩:Str)++iT (q.den:Int)).cps.toList=(iT q.num).cps.toList++[47]++(iT (q.den:Int)).cps.toList:=by
   show ((iT q.num).cps ++ #[47]++(iT (q.den:Int)).cps).toList=_
   rw [Array.toList_append,Array.toList_append]
  rw [e,List.mem_append,List.mem_append,List.mem_singleton] at hc
  rcases hc with (hc | hc) | hc
  ·have:=a1 c hc; omega
  ·omega
  ·have:=a2 c hc; omega
theorem jS {q:Rat} (h:Sm q):(nT q).length≤130:=by
 have a1:=(fG h.a).2.1
 have a2:=(fG (n:=(q.den:Int)) (by rw [Int.natAbs_natCast]; exact h.b)).2.1
 unfold nT
 split
 ·omega
 ·rw [show ∀ x y:Str,(x++y).length=x.length+y.length from fun x y=>Array.size_append ..,show ∀ x y:Str,(x++y).length=x.length+y.length from fun x y=>Array.size_append ..]
  have:("/" : Str).length=1:=by decide +kernel
  omega
end Q
set_option exponentiation.threshold 500
namespace Q
open PySem L2 Z U
theorem kO {x y:Str} (h:x.cps.toList=y.cps.toList):x=y:=Str.ext' (Array.toList_inj.mp h)
theorem dU (x y:Str):(x++y).cps.toList=x.cps.toList++y.cps.toList:=by
 show (x.cps++y.cps).toList=_
 rw [Array.toList_append]
theorem cM (x y:Str):(x++y).length=x.length+y.length:=Array.size_append ..
theorem dY (x y z:Str):x++y++z=x++(y++z):=kO (by rw [dU,dU,dU,dU,List.append_assoc])
theorem hE (x:Str):x++Str.empty=x:=kO (by rw [dU]; exact List.append_nil _)
theorem lM (x:Str):Str.empty++x=x:=kO (by rw [dU]; rfl)
theorem q0 {c:Nat}:∀ {p w a b:List Nat},c ∉ p→c ∉ w→p++c::a=w++c::b→p=w∧a=b
 | [],[],a,b,_,_,h=>⟨rfl,(List.cons.inj h).2⟩
 | [],y::w,a,b,_,hw,h=>absurd ((List.cons.inj h).1 ▸ List.mem_cons_self ..) hw
 | x::p,[],a,b,hp,_,h=>absurd ((List.cons.inj h).1 ▸ List.mem_cons_self ..) hp
 | x::p,y::w,a,b,hp,hw,h=>by
  obtain ⟨e1,e2⟩:=List.cons.inj (show x::(p++c::a)=y::(w++c::b) from h)
  obtain ⟨e3,e4⟩:=q0 (fun z=>hp (List.mem_cons_of_mem _ z)) (fun z=>hw (List.mem_cons_of_mem _ z)) e2
  exact ⟨by rw [e1,e3],e4⟩
theorem lA (c:Nat) (x y:Str) (r:List Str):(Str.join ⟨#[c]⟩ (x::y::r)).cps.toList=x.cps.toList++c::(Str.join ⟨#[c]⟩ (y::r)).cps.toList:=by
 show (x++(⟨#[c]⟩:Str)++Str.join ⟨#[c]⟩ (y::r)).cps.toList=_
 rw [dU,dU,List.append_assoc]
 rfl
theorem rW {c:Nat}:∀ {ps ws:List Str},ps≠[]→ws≠[]→(∀ p∈ps,c ∉ p.cps.toList)→(∀ w∈ws,c ∉ w.cps.toList)→Str.join ⟨#[c]⟩ ps=Str.join ⟨#[c]⟩ ws→ps=ws
 | [],_,h,_,_,_,_=>absurd rfl h
 | _,[],_,h,_,_,_=>absurd rfl h
 | [p],[w],_,_,_,_,h=>by rw [show p=w from h]
 | [p],w::w2::r,_,_,hp,hw,h=>by
  have:=congrArg (fun z:Str=>z.cps.toList) h
  rw [lA] at this
  exact absurd (show c∈p.cps.toList by rw [show p.cps.toList=_ from this]; simp) (hp p (List.mem_cons_self ..))
 | p::p2::r,[w],_,_,hp,hw,h=>by
  have:=congrArg (fun z:Str=>z.cps.toList) h
  rw [lA] at this
  exact absurd (show c∈w.cps.toList by rw [show w.cps.toList=_ from this.symm]; simp) (hw w (List.mem_cons_self ..))
 | p::p2::r,w::w2::r2,_,_,hp,hw,h=>by
  have:=congrArg (fun z:Str=>z.cps.toList) h
  rw [lA,lA] at this
  obtain ⟨e1,e2⟩:=q0 (hp p (List.mem_cons_self ..)) (hw w (List.mem_cons_self ..)) this
  have ih:=rW (ps:=p2::r) (ws:=w2::r2) (by simp) (by simp) (fun z hz=>hp z (List.mem_cons_of_mem _ hz)) (fun z hz=>hw z (List.mem_cons_of_mem _ hz)) (kO e2)
  rw [kO e1,ih]
theorem aCW (x:Str) (c:Nat):Txt.split x ⟨#[c]⟩≠[]:=by
 unfold Txt.split
 split
 ·simp
 ·split
  ·simp
  ·rw [StrLaws.partsBetween_eq]
   obtain ⟨p,r,e⟩:=StrLaws.partsFrom_ne x (⟨#[c]⟩:Str).length 0 (Builtin.Str.occurrences x ⟨#[c]⟩ 0 x.length (x.length+1))
   rw [e]
   simp
theorem u9 {ws:List Str} (hne:ws≠[]) (h:∀ w∈ws,32 ∉ w.cps.toList):Txt.split (Txt.join ⟨#[32]⟩ ws) ⟨#[32]⟩=ws:=by
 refine rW (c:=32) (aCW _ _) hne (StrLaws.split_free _ 32) h ?_
 rw [StrLaws.join_split]
 exact StrLaws.glued_eq_join _ _
theorem oH:(" " : Str)=⟨#[32]⟩:=by decide +kernel
theorem p5:(";" : Str)=⟨#[59]⟩:=by decide +kernel
def cat1:List Str→Str
 | []=>Str.empty
 | x::r=>x++(" " : Str)++cat1 r
def cat2:List Str→Str
 | []=>Str.empty
 | x::r=>(" " : Str)++x++cat2 r
theorem aAE (l:List Str) (x:Str):cat1 (l++[x])=cat1 l++x++(" " : Str):=by
 induction l with
 | nil=>show x++_++Str.empty=Str.empty++x++_; rw [hE,lM]
 | cons y l ih=>show y++_++cat1 (l++[x])=y++_++cat1 l++x++_; rw [ih]; simp only [dY]
theorem qD (l:List Str) (x:Str):cat2 (l++[x])=cat2 l++(" " : Str)++x:=by
 induction l with
 | nil=>show _++x++Str.empty=Str.empty++_++x; rw [hE,lM]
 | cons y l ih=>show _++y++cat2 (l++[x])=_++y++cat2 l++_++x; rw [ih]; simp only [dY]
theorem aBZ (l r:List Str):cat2 (l++r)=cat2 l++cat2 r:=by
 induction l with
 | nil=>rw [List.nil_append]; exact (lM _).symm
 | cons y l ih=>show _++y++cat2 (l++r)=_++y++cat2 l++cat2 r; rw [ih]; simp only [dY]
theorem qQ:∀ (x:Str) (l:List Str),Str.join (" " : Str) (x::l)=x++cat2 l
 | x,[]=>(hE x).symm
 | x,y::l=>by
  show x++_++Str.join (" " : Str) (y::l)=x++(_++y++cat2 l)
  rw [qQ y l]
  simp only [dY]
theorem qG:∀ (l:List Str) (x:Str) (r:List Str),Str.join (" " : Str) (l++x::r)=cat1 l++Str.join (" " : Str) (x::r)
 | [],x,r=>(lM _).symm
 | [y],x,r=>by
  show y++_++Str.join (" " : Str) (x::r)=y++_++Str.empty++_
  rw [hE]
 | y::z::l,x,r=>by
  show y++_++Str.join (" " : Str) ((z::l)++x::r)=y++_++cat1 (z::l)++_
  rw [qG (z::l) x r]
  simp only [dY]
def aS (A:Yd):List Str:=A.ws.map nT++[(";" : Str)]++A.us.map nT++[(";" : Str)]++A.K
noncomputable def yT (A:Yd):Str:=if A=Yd.void then ("void" : Str) else Txt.join (" " : Str) (aS A)
theorem zB (A:Yd):Txt.join (" " : Str) (aS A)=cat1 (A.ws.map nT)++(";" : Str)++cat2 (A.us.map nT)++(" ;" : Str)++cat2 A.K:=by
 show Builtin.Str.glued _ _=_
 rw [StrLaws.glued_eq_join]
 have e:aS A=A.ws.map nT++(";" : Str)::(A.us.map nT++(";" : Str)::A.K):=by unfold aS; simp
 have bs:(" ;" : Str)=(" " : Str)++(";" : Str):=by decide +kernel
 rw [e,qG,qQ,aBZ,bs]
 show _=_
 rw [show cat2 ((";" : Str)::A.K)=(" " : Str)++(";" : Str)++cat2 A.K from rfl]
 simp only [dY]
structure SmY (A:Yd):Prop where
 x:∀ w∈A.ws,Sm w
 y:∀ w∈A.us,Sm w
 lx:A.ws.length≤12
 ly:A.us.length≤12
theorem nO {q:Rat} (h:Sm q):nT q≠(";" : Str):=fun e=>by
 have:=uE h 59 (by rw [e,p5]; simp)
 omega
theorem sX {A:Yd}{z:Str} (hz:z∈A.K):z≠(";" : Str)∧32 ∉ z.cps.toList:=by
 have g:=(A.T.good.1 z hz).2
 rw [List.all_eq_true] at g
 refine ⟨fun e => ?_,fun m => ?_⟩
 ·have:=g 59 (by rw [e,p5]; simp)
  revert this; decide
 ·have:=g 32 m
  revert this; decide
theorem SmY.free {A:Yd} (h:SmY A):∀ w∈aS A,32 ∉ w.cps.toList:=by
 intro w hw
 unfold aS at hw
 simp only [List.mem_append,List.mem_map,List.mem_singleton] at hw
 have n1:∀ {q},Sm q→32 ∉ (nT q).cps.toList:=fun hq z=>by have:=uE hq 32 z; omega
 have s1:32 ∉ (";" : Str).cps.toList:=by rw [p5]; decide
 rcases hw with (((⟨q,hq,rfl⟩ | rfl) | ⟨q,hq,rfl⟩) | rfl) | hw
 ·exact n1 (h.x q hq)
 ·exact s1
 ·exact n1 (h.y q hq)
 ·exact s1
 ·exact (sX hw).2
theorem cnt0 {l:List Str} (h:∀ w∈l,w≠(";" : Str)):l.count (";" : Str)=0:=List.count_eq_zero.mpr fun z=>h _ z rfl
theorem SmY.cnt {A:Yd} (h:SmY A):(aS A).count (";" : Str)=2:=by
 unfold aS
 rw [List.count_append,List.count_append,List.count_append,List.count_append,cnt0 (l:=A.ws.map nT),cnt0 (l:=A.us.map nT),cnt0 (l:=A.K),List.count_singleton_self]
 ·exact fun w hw=>(sX hw).1
 ·exact fun w hw=>by obtain ⟨q,hq,rfl⟩:=List.mem_map.mp hw; exact nO (h.y q hq)
 ·exact fun w hw=>by obtain ⟨q,hq,rfl⟩:=List.mem_map.mp hw; exact nO (h.x q hq)
theorem jA (A:Yd):aS A=A.ws.map nT++(";" : Str)::(A.us.map nT++(";" : Str)::A.K):=by unfold aS; simp
theorem wG (A:Yd):aS A=(A.ws.map nT++(";" : Str)::A.us.map nT)++(";" : Str)::A.K:=by unfold aS; simp
theorem SmY.ix1 {A:Yd} (h:SmY A):(aS A)[A.ws.length]?=some (";" : Str)∧∀ m,m < A.ws.length→∀ w,(aS A)[m]?=some w→w≠(";" : Str):=by
 have l:(A.ws.map nT).length=A.ws.length:=List.length_map ..
 constructor
 ·rw [jA,List.getElem?_append_right (by omega),l,Nat.sub_self]
  rfl
 ·intro m hm w hw
  rw [jA,List.getElem?_append_left (by omega)] at hw
  obtain ⟨q,hq,rfl⟩:=List.mem_map.mp (List.mem_of_getElem? hw)
  exact nO (h.x q hq)
theorem SmY.ix2 {A:Yd} (h:SmY A):(aS A)[A.ws.length+1+A.us.length]?=some (";" : Str)∧∀ m,A.ws.length+1≤m→m < A.ws.length+1+A.us.length→(aS A)[m]?≠some (";" : Str):=by
 have l:(A.ws.map nT).length=A.ws.length:=List.length_map ..
 have l2:(A.us.map nT).length=A.us.length:=List.length_map ..
 constructor
 ·rw [wG,List.getElem?_append_right (by simp; omega)]
  simp only [List.length_append,List.length_cons,l,l2]
  rw [show A.ws.length+1+A.us.length - (A.ws.length+(A.us.length+1))=0 by omega]
  rfl
 ·intro m h1 h2 e
  rw [jA,List.getElem?_append_right (by omega),l,show m - A.ws.length=(m - A.ws.length - 1)+1 by omega,List.getElem?_cons_succ,List.getElem?_append_left (by omega)] at e
  obtain ⟨q,hq,e2⟩:=List.mem_map.mp (List.mem_of_getElem? e)
  exact nO (h.y q hq) e2
theorem yO (A:Yd):cutD ((aS A).map D.str) none (some (A.ws.length:Int))=(A.ws.map nT).map .str∧cutD ((aS A).map D.str) (some ((A.ws.length:Int)+1)) (some ((A.ws.length+1+A.us.length:Nat):Int))=(A.us.map nT).map .str∧cutD ((aS A).map D.str) (some (((A.ws.length+1+A.us.length:Nat):Int)+1)) none=A.K.map .str:=by
 have l:(A.ws.map nT).length=A.ws.length:=List.length_map ..
 have l2:(A.us.map nT).length=A.us.length:=List.length_map ..
 refine ⟨?_,?_,?_⟩
 ·rw [aDW,← List.map_take,jA,List.take_left' l]
 ·have lw:A.ws.length+1+A.us.length≤(aS A).length:=by rw [jA]; simp; omega
  unfold cutD
  have s1:HT.sIx ((aS A).map D.str).length 0 (some ((A.ws.length:Int)+1))=A.ws.length+1:=by
   have:=HT.jC ((aS A).map D.str).length 0 (A.ws.length+1)
   rw [show ((A.ws.length+1:Nat):Int)=(A.ws.length:Int)+1 by omega] at this
   rw [this,List.length_map]; omega
  have s2:HT.sIx ((aS A).map D.str).length ((aS A).map D.str).length (some ((A.ws.length+1+A.us.length:Nat):Int))=A.ws.length+1+A.us.length:=by
   rw [HT.jC,List.length_map]; omega
  rw [s1,s2,← List.map_drop,← List.map_take,jA,show A.ws.length+1+A.us.length - (A.ws.length+1)=A.us.length by omega]
  congr 1
  rw [show A.ws.map nT++(";" : Str)::(A.us.map nT++(";" : Str)::A.K)=(A.ws.map nT++[(";" : Str)])++(A.us.map nT++(";" : Str)::A.K) by simp,List.drop_left' (by simp),List.take_left' l2]
 ·rw [aCE,← List.map_drop,wG]
  congr 1
  rw [show (A.ws.map nT++(";" : Str)::A.us.map nT)++(";" : Str)::A.K=((A.ws.map nT++(";" : Str)::A.us.map nT)++[(";" : Str)])++A.K by simp,List.drop_left' (by simp; omega)]
def wJ:Ct:=fun ds M k=>∃ q:Rat,ds=[cQ q]∧Sm q∧k (.str (nT q)) M
def aHQ:Ct:=fun ds M k=>∃ z:Str,ds=[.str z]∧Dg z∧k (.bl true) M
def aGT:Ct:=fun ds M k=>∃ q:Rat,ds=[.str (nT q)]∧Sm q∧k (cQ q) M
def aGC:Ct:=fun ds M k=>∃ ws:List Rat,ds=[.lst ((ws.map nT).map .str)]∧(∀ w∈ws,Sm w)∧ws.length≤12∧k (.tup (aP ws)) M
def vA:Ct:=fun ds M k=>∃ A:Yd,ds=[yd A]∧SmY A∧k (.str (yT A)) M
def aG5:Ct:=fun ds M k=>∃ A:Yd,ds=[.str (yT A)]∧SmY A∧k (yd A) M
end Q
set_option exponentiation.threshold 500
namespace Q
open PySem L2 Z U
theorem aG3 {c:Nat} (h:48≤c∧c≤57):c∈("0123456789" : Str).cps.toList:=by
 have e:("0123456789" : Str).cps.toList=[48,49,50,51,52,53,54,55,56,57]:=by decide +kernel
 rw [e]
 have:c=48∨c=49∨c=50∨c=51∨c=52∨c=53∨c=54∨c=55∨c=56∨c=57:=by omega
 simpa using this
theorem aFS (q:Rat):gY (cQ q)=true:=k9.mpr ⟨pq q,rfl,by show (1:Int)≤(q.den:Int); have:=q.den_pos; omega,q.reduced⟩
theorem aCT {q:Rat} (h:Sm q):tameB 1 (cQ q)=true:=by
 have k:(10:Nat) ^ 60 < 10 ^ 65:=by decide +kernel
 have a:=h.a
 have b:=h.b
 show (decide (2≤100) && (decide (q.num.natAbs < 10 ^ 65) && (decide ((q.den:Int).natAbs < 10 ^ 65) && true)))=true
 rw [decide_eq_true (show q.num.natAbs < 10 ^ 65 by omega),decide_eq_true (show (q.den:Int).natAbs < 10 ^ 65 by omega)]
 rfl
theorem aBQ {A:Yd} (h:SmY A):tameB 3 (yd A)=true:=by
 have k:(10:Nat) ^ 60 < 10 ^ 65:=by decide +kernel
 have lx:=h.lx
 have ly:=h.ly
 exact aFG (fun w hw=>⟨Nat.lt_trans (h.x w hw).a k,Nat.lt_trans (h.x w hw).b k⟩) (fun w hw=>⟨Nat.lt_trans (h.y w hw).a k,Nat.lt_trans (h.y w hw).b k⟩) (by omega) (by omega)
theorem qA {A:Yd} (h:SmY A):(aS A).length≤100000:=by
 have lx:=h.lx
 have ly:=h.ly
 have lK:=A.wide.2
 unfold aS
 simp only [List.length_append,List.length_map,List.length_cons,List.length_nil]
 omega
theorem sE {A:Yd} (h:SmY A) {w:Str} (hw:w∈aS A):w.length≤130:=by
 unfold aS at hw
 simp only [List.mem_append,List.mem_map,List.mem_singleton] at hw
 have s1:(";" : Str).length≤130:=by decide +kernel
 rcases hw with (((⟨q,hq,rfl⟩ | rfl) | ⟨q,hq,rfl⟩) | rfl) | hw
 ·exact jS (h.x q hq)
 ·exact s1
 ·exact jS (h.y q hq)
 ·exact s1
 ·have:=A.wide.1 w hw
  have:=h.lx
  omega
theorem uC {B:Nat}:∀ {l:List Str},(∀ w∈l,w.length≤B)→(l.map (·.length)).sum≤l.length * B
 | [],_=>by simp
 | x::l,h=>by
  have:=uC (l:=l) fun w hw=>h w (List.mem_cons_of_mem _ hw)
  have:=h x (List.mem_cons_self ..)
  rw [List.map_cons,List.sum_cons,List.length_cons,Nat.succ_mul]
  omega
theorem wI {A:Yd} (h:SmY A):(aS A).length≤40:=by
 have lx:=h.lx
 have ly:=h.ly
 have lK:=A.wide.2
 unfold aS
 simp only [List.length_append,List.length_map,List.length_cons,List.length_nil]
 omega
theorem yN {A:Yd} (h:SmY A):((aS A).map (·.length)).sum+(aS A).length≤1048576:=by
 have a:=uC (B:=130) fun w hw=>sE h hw
 have b:=wI h
 have:(aS A).length * 130≤40 * 130:=Nat.mul_le_mul b (Nat.le_refl _)
 omega
theorem join_le (sep:Str):∀ l:List Str,(Str.join sep l).length≤(l.map (·.length)).sum+l.length * sep.length
 | []=>Nat.zero_le _
 | [x]=>by show x.length≤_; simp
 | x::y::l=>by
  have:=join_le sep (y::l)
  show (x++sep++Str.join sep (y::l)).length≤_
  rw [cM,cM,List.map_cons,List.sum_cons,List.length_cons,Nat.succ_mul]
  omega
theorem aFX {A:Yd} (h:SmY A):(Txt.join ⟨#[32]⟩ (aS A)).length≤100000:=by
 have e:Txt.join ⟨#[32]⟩ (aS A)=Str.join ⟨#[32]⟩ (aS A):=StrLaws.glued_eq_join _ _
 rw [e]
 have a:=join_le ⟨#[32]⟩ (aS A)
 have b:=uC (B:=130) fun w hw=>sE h hw
 have c:=wI h
 have:(aS A).length * 130≤40 * 130:=Nat.mul_le_mul c (Nat.le_refl _)
 have k:(⟨#[32]⟩:Str).length=1:=rfl
 rw [k] at a
 omega
theorem rY (A:Yd):32∈(Txt.join ⟨#[32]⟩ (aS A)).cps.toList:=by
 rw [← oH,zB]
 simp only [dU]
 have:32∈(" ;" : Str).cps.toList:=by decide +kernel
 simp [this]
theorem aE6 {A:Yd} (h:SmY A):¬ Txt.join (" " : Str) (aS A)=("void" : Str):=fun e=>by
 have b:=rY A
 rw [← oH,e] at b
 revert b
 decide +kernel
def top (i:Nat):Stmt:=PySem.Challenge.pw_roofridges_k49_texts_shown_and_read.main.body.getD i (.Pass ⟨0,0,0,0⟩)
abbrev i5:Stmt:=top 6
abbrev eJ:Stmt:=top 7
abbrev k4:Stmt:=top 8
abbrev iB:Stmt:=top 9
abbrev i4:Stmt:=top 10
abbrev pK:Stmt:=top 11
abbrev nJ:Stmt:=top 12
abbrev nC:Stmt:=top 13
abbrev kU:Stmt:=top 18
abbrev i7:Stmt:=top 19
abbrev k6:Stmt:=top 20
abbrev jX:Stmt:=top 21
abbrev jZ:Stmt:=top 22
abbrev lS:Stmt:=top 23
abbrev lU:Stmt:=top 24
abbrev dQ:Stmt:=top 25
abbrev j6:Stmt:=top 26
abbrev fB:Stmt:=top 27
abbrev eA:Stmt:=top 28
abbrev o4:Stmt:=top 29
abbrev fT:Stmt:=top 35
abbrev g8:Stmt:=top 36
abbrev f9:Stmt:=top 37
abbrev f8:Stmt:=top 38
abbrev gQ:Stmt:=top 39
abbrev hW:Stmt:=top 40
abbrev nG:Stmt:=top 42
abbrev hX:Stmt:=top 43
abbrev o6:Stmt:=top 45
abbrev oV:Stmt:=top 46
abbrev nZ:Stmt:=top 47
abbrev kB:Stmt:=top 48
abbrev nF:Stmt:=top 49
abbrev lN:Stmt:=top 50
abbrev nS:Stmt:=top 51
abbrev oX:Stmt:=top 52
abbrev iD:Stmt:=top 53
abbrev nV:Stmt:=top 54
section
variable {P:Program}{w:World}{K:PySem.W.Frag}{mg:Str→Option Value}{base:Heap}
theorem uR:FnScope ["thing"] ["thing"] (aK i5):=⟨rfl,rfl,rfl,by decide +kernel,rfl,by decide +kernel,by decide +kernel⟩
abbrev i0 (P w K mg base):=Fo P w K mg base "is_whole" i5 ["thing"] 1 aBJ
theorem uZ {f:Addr}{fd:FuncData} (Df:R.Df K mg "is_whole" i5 ["thing"] f fd) (T:Bt mg):i0 P w K mg base:=by
 refine ⟨f,fd,Df,bF Df uR (fun ds M k h => ?_) (fun cdv A outer s H E hr ds M k h => ?_)⟩
 ·obtain ⟨d,rfl,_⟩:=h; rfl
 obtain ⟨d,rfl,hs,hk⟩:=h
 refine aH (aN (jO (cI (.inl rfl) T.isi T.int R.BI (aB 0 rfl ⟨_, .self hs,⟨_,rfl,?_⟩⟩))))
 rcases sP d with ⟨i,rfl⟩ | ⟨e0,e1 | ⟨e1,e2⟩⟩
 ·rw [iI]
  refine aU (iR (zP (cI (.inr (.inl rfl)) T.isi T.bool R.BB (aB 0 rfl ⟨_, .self trivial,?_⟩))))
  rw [bI]
  exact ⟨_,rfl,hk⟩
 ·rw [e1]
  rw [e0] at hk
  exact bM hk
 ·rw [e1]
  refine aU (iR (zP (cI (.inr (.inl rfl)) T.isi T.bool R.BB (aB 0 rfl ⟨_, .self hs,?_⟩))))
  rw [e2]
  rw [e0] at hk
  exact ⟨_,rfl,hk⟩
theorem d9:FnScope ["one", "other", "rest"] ["one", "other"] (aK eJ):=⟨rfl,rfl,rfl,by decide +kernel,rfl,by decide +kernel,by decide +kernel⟩
abbrev gF (P w K mg base):=Fo P w K mg base "common_divisor" eJ ["one", "other"] 1 aE9
theorem n0 {f:Addr}{fd:FuncData} (Df:R.Df K mg "common_divisor" eJ ["one", "other"] f fd) (T:Bt mg):gF P w K mg base:=by
 refine ⟨f,fd,Df,bF Df d9 (fun ds M k h => ?_) (fun cdv A outer s H E hr ds M k h => ?_)⟩
 ·obtain ⟨a,b,rfl,_⟩:=h; rfl
 obtain ⟨a,b,rfl,hk⟩:=h
 refine aD (t9 (fun m Γ' M'=>M'=M∧∃ (x y:Int) (v:Option D),Γ'=[some (.int x),some (.int y),v]∧Int.gcd x y=Int.gcd a b∧m=y.natAbs) (n:=b.natAbs) ⟨rfl,a,b,_,rfl,rfl,rfl⟩ ?_)
 rintro m Γ' M' ⟨rfl,x,y,v,rfl,hg,rfl⟩
 refine bJ iC (aB 1 rfl (ge_int (l8 ⟨_,rfl,(ite2 (fun hb => ?_) (fun hb => ?_))⟩)))
 ·have hy:y≠0:=fun z=>by subst z; simp at hb
  refine aD (aO 2 d9.nd (aG vI (aB 0 rfl (aB 1 rfl (bQ hy (aD (aO 0 d9.nd (aB 1 rfl (aH (aO 1 d9.nd (aB 2 rfl ⟨_,Num.wQ x y hy,rfl,_,_,_,rfl,?_,rfl⟩)))))))))))
  rw [Num.uQ]; exact hg
 ·have hy:y=0:=by simpa using hb
  subst hy
  refine aH (aN (aR oP T.abs PyProof.Rows.boot_abs (aA (aB 0 rfl (aC (sG ?_))))))
  rw [R.aDB,hg]
  exact hk
theorem kG:FnScope ["_law_script", "_law_k", "_law_cell", "_law_great"] ["_law_script", "_law_k"] (aK o6):=⟨rfl,rfl,rfl,by decide +kernel,rfl,by decide +kernel,by decide +kernel⟩
abbrev zH (P w K mg base):=Fo P w K mg base "_law_feed" o6 ["_law_script", "_law_k"] 1 aHO
theorem aDQ {f:Addr}{fd:FuncData} (Df:R.Df K mg "_law_feed" o6 ["_law_script", "_law_k"] f fd) (T:Bt mg):zH P w K mg base:=by
 refine ⟨f,fd,Df,bF Df kG (fun ds M k h => ?_) (fun cdv A outer s H E hr ds M k h => ?_)⟩
 ·obtain ⟨ns,i,rfl,_⟩:=h; rfl
 obtain ⟨ns,i,rfl,hi,hi2,hk⟩:=h
 refine aD (aO 2 kG.nd (ge_int (aD (jT (fun Γ' M'=>M'=M∧∃ c:Int,Γ'=[some (.fl (ns.map .int)),some (.int i),some (.int c),none]) ?_ ?_))))
 ·refine bD (bJ pE (aB 1 rfl (aR bK T.len PySem.boot_len (aA (aB 0 rfl (aC (cX (.fl _) (gH ⟨_,rfl,(ite2 (fun hb => ?_) (fun hb => ?_))⟩))))))))
  ·have hb':=of_decide_eq_true hb
   rw [List.length_map] at hb'
   obtain ⟨z,hz⟩:=aBA (ns:=ns) hi hb'
   exact aH (aO 2 kG.nd (aJ aF (aB 0 rfl (aB 1 rfl (aM (.fl _) hz ⟨rfl,_,rfl⟩)))))
  ·exact a9 ⟨rfl,_,rfl⟩
 rintro Γ' M' ⟨rfl,c,rfl⟩
 refine aD (aO 3 kG.nd (aR oP T.abs PyProof.Rows.boot_abs (aA (aB 2 rfl (aC (sG (aD (jT (fun Γ' M1=>M1=M'∧∃ g:Int,0≤g∧Γ'=[some (.fl (ns.map .int)),some (.int i),some (.int c),some (.int g)]) ?_ ?_))))))))
 ·refine bD (bJ pE (aB 3 rfl (aG kR (ge_int (ge_int (bQ ⟨by decide,by decide,by decide⟩ (gH ⟨_,rfl,(ite2 (fun hb => ?_) (fun hb => ?_))⟩)))))))
  ·exact aH (aO 3 kG.nd (ge_int ⟨rfl,0,by omega,rfl⟩))
  ·exact a9 ⟨rfl,_,by split <;> omega,rfl⟩
 rintro Γ' M' ⟨rfl,g,hg,rfl⟩
 refine aH (aN (p0 ?_))
 have hm:=Int.emod_nonneg c (show (2147483399:Int)≠0 by decide)
 have hm2:=Int.emod_lt_of_pos c (show (0:Int) < 2147483399 by decide)
 refine aA (aB 3 rfl (aA (aG jL (aG b6 (aG b6 (aG fZ (aG jL (aB 2 rfl (ge_int (bQ (show (0:Int) < _ by first | decide | omega) (ge_int (bQ (by first | exact .inl ⟨by omega,by omega⟩ | exact .inr ⟨by omega,by omega⟩) (aG fZ (ge_int (aB 1 rfl (bQ (by first | exact .inl ⟨by omega,by omega⟩ | exact .inr ⟨by omega,by omega⟩) (bW (ge_int (bW (ge_int (bQ (show (0:Int) < _ by first | decide | omega) (aA (ge_int (aC ⟨(show 3≤sizeLine by decide),fun p hp=>(hk p _ hp ((Le.refl _).upd hp) ⟨g,_,0,bN,hg,?_,?_,by omega,by omega⟩)⟩))))))))))))))))))))))))
 ·exact Int.emod_nonneg _ (by decide)
 ·exact Int.emod_lt_of_pos _ (by decide)
end
end Q
namespace Q
open PySem L2 Z
open U
section
variable {P:Program}{w:World}{K:PySem.W.Frag}{mg:Str→Option Value}{base:Heap}
theorem jG:FnScope ["_law_feed_here", "_law_many", "_law_digit", "_law_step", "_law_mixed"] ["_law_feed_here", "_law_many"] (aK oV):=⟨rfl,rfl,rfl,by decide +kernel,rfl,by decide +kernel,by decide +kernel⟩
abbrev m6 (P w K mg base):=Fo P w K mg base "_law_next" oV ["_law_feed_here", "_law_many"] 1 aHX
theorem aED {f:Addr}{fd:FuncData} (Df:R.Df K mg "_law_next" oV ["_law_feed_here", "_law_many"] f fd):m6 P w K mg base:=by
 refine ⟨f,fd,Df,bF Df jG (fun ds M k h => ?_) (fun cdv A outer s H E hr ds M k h => ?_)⟩
 ·obtain ⟨p,n,b,rfl,_⟩:=h; rfl
 obtain ⟨p,n,b,rfl,hn,hn2,⟨g,m,st,hM,hg,hm,hm2,hs,hs2⟩,hb,hk⟩:=h
 refine aD (bD (bJ rQ (aJ aF (aB 0 rfl (ge_int (aM (.mt hM) rfl (ge_int (gH ⟨_,rfl,(ite2 (fun hgt => ?_) (fun hgt => ?_))⟩))))))))
 ·exact aD (aO 2 jG.nd (aG jL (aJ aF (aB 0 rfl (ge_int (aM (.mt hM) rfl (aB 1 rfl (bQ (show (0:Int) < _ by first | decide | omega) (aD (sU (aG vX (aJ aF (aB 0 rfl (ge_int (aM (.mt hM) rfl (aB 1 rfl (bQ ⟨hn,hn2⟩ (aAM (aB 0 rfl (ge_int ⟨p,0,0,_,rfl,rfl,hM,rfl,(aH (aN (aB 2 rfl (hk _ _ (Int.emod_nonneg _ (by omega)) (Int.emod_lt_of_pos _ hn) ⟨_,m,st,bN,Int.ediv_nonneg hg (by omega),hm,hm2,hs,by omega⟩ (cK.refl p M).upd (fun a ha=>dN ha)))))⟩))))))))))))))))))))
 ·refine a9 (aD (aO 3 jG.nd (aG b6 (aJ aF (aB 0 rfl (ge_int (aM (.mt hM) rfl (ge_int (bW (aD (sU (aB 3 rfl (aAM (aB 0 rfl (ge_int ⟨p,2,2,_,rfl,rfl,hM,rfl,(aD (aO 4 jG.nd ?_))⟩)))))))))))))))
  have b1 : -(2 ^ 64) < st+1∧st+1 < 2 ^ 64:=by omega
  refine aG jL (aG b6 (aG b6 (aJ aF (aB 0 rfl (ge_int (aM (.mt bN) rfl (aG fZ (aG fZ (ge_int (aB 3 rfl (bQ (.inl ⟨by decide,by decide⟩) (aB 3 rfl (bQ (.inr b1) (bW (aG fZ (ge_int (aB 3 rfl (bQ (.inl ⟨by decide,by decide⟩) (bW (ge_int (bQ (show (0:Int) < _ by first | decide | omega) (aD (aO 4 jG.nd (aG jL (aG b6 (aG b6 (aG fZ (aB 4 rfl (aB 4 rfl (bQ (.inl (R.qY _ (by decide) (by decide))) (aG fZ ?_)))))))))))))))))))))))))))))))
  exact ge_int (aB 4 rfl (bQ (.inl ⟨by decide,by decide⟩) (bW (aB 3 rfl (bW (ge_int (bQ (show (0:Int) < _ by first | decide | omega) (aD (aO 4 jG.nd (aG jL (aG b6 (aG fZ (aB 4 rfl (aB 4 rfl (bQ (.inl (R.qY _ (by decide) (by decide))) (aG fZ (ge_int (aB 4 rfl (bQ (.inl ⟨by decide,by decide⟩) (bW (ge_int (bQ (show (0:Int) < _ by first | decide | omega) (aH (aN (aG jL (aG vX (aB 4 rfl (ge_int (bQ ⟨by decide,by decide⟩ (aB 1 rfl (bQ hn (hk _ _ (Int.emod_nonneg _ (by omega)) (Int.emod_lt_of_pos _ hn) ⟨g,m,st+1,bN,hg,hm,hm2,by omega,by omega⟩ (cK.refl p M).upd (fun a ha=>dN ha)))))))))))))))))))))))))))))))))
end
end Q
set_option exponentiation.threshold 500
namespace Q
open PySem L2 Z U
theorem aHY {z:Int} (h0:0≤z) (h1:z < 4):∃ c:Int,atI [D.int 0, .int 1, .int 2, .int 10] z=some (.int c)∧0≤c∧c≤10:=by
 have:z=0∨z=1∨z=2∨z=3:=by omega
 rcases this with rfl | rfl | rfl | rfl
 ·exact ⟨0,rfl,by decide,by decide⟩
 ·exact ⟨1,rfl,by decide,by decide⟩
 ·exact ⟨2,rfl,by decide,by decide⟩
 ·exact ⟨10,rfl,by decide,by decide⟩
theorem sY {i:Nat} (h:i≤10):(1000000:Int) ^ i≤10 ^ 60:=by
 have this:((1000000 ^ i:Nat):Int)≤((1000000 ^ 10:Nat):Int):=Int.ofNat_le.mpr (Nat.pow_le_pow_right (by decide) h)
 rw [Int.natCast_pow] at this
 exact Int.le_trans this (by decide)
def aGN:Ct:=fun ds M k=>∃ (p:Addr) (b:Int),ds=[.mt p]∧FdM M p b∧b≤100000∧∀ z M',0≤z→z < 10 ^ 60→FdM M' p (b+11)→cK p M M'→k (.int z) M'
def aAN:Ct:=fun ds M k=>∃ (p:Addr) (b:Int),ds=[.mt p]∧FdM M p b∧b≤50000∧∀ (q:Rat) M',Sm q→FdM M' p (b+30)→cK p M M'→k (cQ q) M'
def aEL:Ct:=fun ds M k=>∃ (p:Addr) (b:Int),ds=[.mt p]∧FdM M p b∧b≤50000∧∀ (A:Yd) M',SmY A→FdM M' p (b+200)→cK p M M'→k (yd A) M'
theorem oZ {n:Int} (h:n.natAbs < 10 ^ 60):Sm (n:Rat):=⟨h,by show 1 < 10 ^ 60; decide⟩
theorem zT {t b:Int} (hb:0 < b) (ht:t.natAbs < 10 ^ 60) (hb2:b < 10 ^ 60):Sm (Rat.divInt t b):=by
 constructor
 ·rw [Rat.num_divInt,Int.sign_eq_one_of_pos hb,Int.one_mul]
  exact Nat.lt_of_le_of_lt (Int.natAbs_ediv_le_natAbs ..) ht
 ·rw [Rat.den_divInt,if_neg (by omega)]
  exact Nat.lt_of_le_of_lt (Nat.div_le_self ..) (by omega)
theorem one_num {n:Int} (hn:0 < n):D.tup [.int 1, .int n]=cQ (Rat.divInt 1 n):=by
 rw [← lH hn]
 have:Int.gcd 1 n=1:=Int.one_gcd ..
 unfold lowG
 rw [this]
 rw [show ((1:Nat):Int)=1 from rfl,Int.fdiv_one,Int.fdiv_one]
 rfl
theorem aA2 {z f:Int} (hf:f.natAbs < 10 ^ 60) (h0:0≤z) (h1:z < 4):∃ q:Rat,atI [D.tup [.int 0, .int 1], .tup [.int (1 - 10 ^ 60), .int 1], .tup [.int 1, .int (10 ^ 60 - 1)], .tup [.int f, .int 1]] z=some (cQ q)∧Sm q:=by
 have:z=0∨z=1∨z=2∨z=3:=by omega
 rcases this with rfl | rfl | rfl | rfl
 ·exact ⟨((0:Int):Rat),rfl,oZ (by decide)⟩
 ·exact ⟨((1 - 10 ^ 60:Int):Rat),rfl,oZ (by decide +kernel)⟩
 ·exact ⟨Rat.divInt 1 (10 ^ 60 - 1),by rw [← one_num (by decide)]; rfl,zT (by decide) (by decide) (by decide)⟩
 ·exact ⟨(f:Rat),rfl,oZ hf⟩
theorem aGW {xs ys:List Int}{zs:List Str} (ux:Up7 xs) (uy:Up7 ys) (g:R.Good (xs.length - 1) zs) (hz:zs.length=ys.length - 1) {a b c d:Rat} (ha:0 < a) (hb:0 < b) (fa:Fr 2520 1000000 a) (fb:Fr 2520 1000000 b) (fc:Fr 2520 1000000 c) (fd:Fr 2520 1000000 d) :
  SmY (((eE xs ys zs ux.up uy.up g hz).scale a b ha hb).shift c d)∧BqL (eE xs ys zs ux.up uy.up g hz).ws∧BqL (eE xs ys zs ux.up uy.up g hz).us∧BqL ((eE xs ys zs ux.up uy.up g hz).scale a b ha hb).ws∧BqL ((eE xs ys zs ux.up uy.up g hz).scale a b ha hb).us:=by
 obtain ⟨h1,h2,h3,h4⟩:=sR ux uy g hz
 generalize eE xs ys zs ux.up uy.up g hz=A at *
 have key:∀ {x:Int}{a c:Rat}, -1000000000≤x∧x≤1000000000→Fr 2520 1000000 a→Fr 2520 1000000 c→Fr 1 1000000000 (x:Rat)∧Fr (1 * 2520) (1000000000 * 1000000) ((x:Rat) * a)∧Fr 2520 (1000000000 * 1000000+1000000) ((x:Rat) * a+c):=fun {x a c} hx fa fc=>by
  have f1:Fr 1 1000000000 (x:Rat):=Fr.int (by omega)
  have f2:=f1.mul fa
  exact ⟨f1,f2,f2.add fc⟩
 have bq1:∀ {q:Rat}{m B:Nat},Fr m B q→0 < m→m≤2520→B≤10 ^ 20→Bq q:=fun f h h' h''=>f.bq h (Nat.lt_of_le_of_lt h' (by decide +kernel)) (Nat.lt_of_le_of_lt h'' (by decide +kernel))
 have sm1:∀ {q:Rat},Fr 2520 (1000000000 * 1000000+1000000) q→Sm q:=fun f=>by
  obtain ⟨q1,q2⟩:=f.bd (by decide)
  exact ⟨Nat.lt_of_le_of_lt q1 (by decide +kernel),Nat.lt_of_le_of_lt q2 (by decide +kernel)⟩
 refine ⟨⟨fun w hw => ?_,fun w hw => ?_,?_,?_⟩,fun w hw => ?_,fun w hw => ?_,fun w hw => ?_,fun w hw => ?_⟩
 ·obtain ⟨v,hv,rfl⟩:=List.mem_map.mp hw
  obtain ⟨u,hu,rfl⟩:=List.mem_map.mp hv
  obtain ⟨x,hx,rfl⟩:=h1 u hu
  exact sm1 (key (ux.bd x hx) fa fc).2.2
 ·obtain ⟨v,hv,rfl⟩:=List.mem_map.mp hw
  obtain ⟨u,hu,rfl⟩:=List.mem_map.mp hv
  obtain ⟨x,hx,rfl⟩:=h2 u hu
  exact sm1 (key (uy.bd x hx) fb fd).2.2
 ·show (List.map _ (List.map _ _)).length≤12
  rw [List.length_map,List.length_map]; omega
 ·show (List.map _ (List.map _ _)).length≤12
  rw [List.length_map,List.length_map]; omega
 ·obtain ⟨x,hx,rfl⟩:=h1 w hw
  exact bq1 (key (ux.bd x hx) fa fc).1 (by decide) (by decide) (by decide)
 ·obtain ⟨x,hx,rfl⟩:=h2 w hw
  exact bq1 (key (uy.bd x hx) fa fc).1 (by decide) (by decide) (by decide)
 ·obtain ⟨u,hu,rfl⟩:=List.mem_map.mp hw
  obtain ⟨x,hx,rfl⟩:=h1 u hu
  exact bq1 (key (ux.bd x hx) fa fc).2.1 (by decide) (by decide) (by decide)
 ·obtain ⟨u,hu,rfl⟩:=List.mem_map.mp hw
  obtain ⟨x,hx,rfl⟩:=h2 u hu
  exact bq1 (key (uy.bd x hx) fb fc).2.1 (by decide) (by decide) (by decide)
theorem tH {α:Type}{l:List α} (h:l.length=2):∃ a b,l=[a,b]:=by
 match l,h with
 | [a,b],_=>exact ⟨a,b,rfl⟩
theorem div_pos {t b:Int} (ht:0 < t) (hb:0 < b):0 < Rat.divInt t b:=by
 rw [Rat.divInt_eq_div,Rat.div_def]
 have p:(0:Rat) < (b:Rat):=by exact_mod_cast hb
 have q:(0:Rat) < (t:Rat):=by exact_mod_cast ht
 exact Rat.mul_pos q (Rat.inv_pos.mpr p)
theorem aFD {B n N:Nat} (hN:n * (B+1)≤N):∀ {l:List Str},(∀ w∈l,w.length≤B)→l.length≤n→(cat1 l).length≤N:=by
 have key:∀ {l:List Str},(∀ w∈l,w.length≤B)→(cat1 l).length≤l.length * (B+1):=fun {l}=>by
  induction l with
  | nil=>exact fun _=>Nat.zero_le _
  | cons x l ih =>
   intro h
   have b1:(" " : Str).length=1:=by decide +kernel
   have h1:=ih fun w hw=>h w (List.mem_cons_of_mem _ hw)
   have h2:=h x (List.mem_cons_self ..)
   show (x++(" " : Str)++cat1 l).length≤_
   rw [cM,cM,List.length_cons,Nat.succ_mul]
   omega
 intro l h hl
 exact Nat.le_trans (key h) (Nat.le_trans (Nat.mul_le_mul_right _ hl) hN)
theorem vR {B n N:Nat} (hN:n * (B+1)≤N):∀ {l:List Str},(∀ w∈l,w.length≤B)→l.length≤n→(cat2 l).length≤N:=by
 have key:∀ {l:List Str},(∀ w∈l,w.length≤B)→(cat2 l).length≤l.length * (B+1):=fun {l}=>by
  induction l with
  | nil=>exact fun _=>Nat.zero_le _
  | cons x l ih =>
   intro h
   have b1:(" " : Str).length=1:=by decide +kernel
   have h1:=ih fun w hw=>h w (List.mem_cons_of_mem _ hw)
   have h2:=h x (List.mem_cons_self ..)
   show ((" " : Str)++x++cat2 l).length≤_
   rw [cM,cM,List.length_cons,Nat.succ_mul]
   omega
 intro l h hl
 exact Nat.le_trans (key h) (Nat.le_trans (Nat.mul_le_mul_right _ hl) hN)
end Q
namespace Q
open PySem L2 Z
open U
section
variable {P:Program}{w:World}{K:PySem.W.Frag}{mg:Str→Option Value}{base:Heap}
theorem k5:FnScope ["_law_feed_here", "_law_found", "_law_k"] ["_law_feed_here"] (aK nF):=⟨rfl,rfl,rfl,by decide +kernel,rfl,by decide +kernel,by decide +kernel⟩
abbrev vQ (P w K mg base):=Fo P w K mg base "_law_whole" nF ["_law_feed_here"] 2 aGN
theorem aBV {f:Addr}{fd:FuncData} (Df:R.Df K mg "_law_whole" nF ["_law_feed_here"] f fd) (aID:m6 P w K mg base) (T:Bt mg):vQ P w K mg base:=by
 refine ⟨f,fd,Df,bF Df k5 (fun ds M k h => ?_) (fun cdv A outer s H E hr ds M k h => ?_)⟩
 ·obtain ⟨p,b,rfl,_⟩:=h; rfl
 obtain ⟨p,b,rfl,hF0,hb,hk⟩:=h
 refine aD (aO 1 k5.nd (ge_int (aD (jM (gP T.range (aA (aJ aF (fI (aA (ge_int (aA (ge_int (aA (ge_int (aA (ge_int (aC ⟨(show 4≤sizeLine by decide),(aI aID hr (aA (aB 0 rfl (aA (ge_int (aC ⟨p,_,_,rfl,by decide,by decide,hF0,by omega,fun z1 M1 z10 z11 hF1 hB1 hE1 => ?_⟩))))))⟩)))))))))))))))))
 obtain ⟨c,hc,c0,c1⟩:=aHY z10 z11
 refine aM (.lst _) hc (aC ⟨_,rfl,by omega,by omega,?_⟩)
 refine ⟨fun i Γ' M'=>∃ f v2,Γ'=[some (.mt p),some (.int f),v2]∧0≤f∧f < (1000000:Int) ^ i∧FdM M' p (b+1+i)∧cK p M M',⟨0,_,rfl,by decide,by decide,hF1.mono (by omega),hB1⟩,?_,?_⟩
 ·rintro i d Γ' M' hd ⟨f,v2,rfl,f0,f1,hF,hB⟩
  obtain ⟨hi,rfl⟩:=dB hd
  have fb:=sY (i:=i) (by omega)
  refine eQ 2 k5.nd (aH (aO 1 k5.nd (aG b6 (aG eS (aB 1 rfl (aG kR (ge_int (ge_int (bQ ⟨by decide,by decide,by decide⟩ (bQ ⟨big400 (Nat.lt_trans (show f.natAbs < 10 ^ 60 by omega) (by decide +kernel)),big400 (by decide +kernel)⟩ (aI aID hr (aA (aB 0 rfl (aA (aG kR (ge_int (ge_int (bQ ⟨by decide,by decide,by decide⟩ (aC ⟨p,1000000,_,rfl,by decide,by decide,hF,by omega,fun z2 M2 z20 z21 hF2 hB2 hE2 => ?_⟩)))))))))))))))))))
  refine bW ⟨f * 1000000+z2,_,rfl,by omega,?_,hF2.mono (by omega),hB.trans hB2⟩
  rw [Int.pow_succ]
  omega
 rintro Γ' M' ⟨f,v2,rfl,f0,f1,hF,hB⟩
 rw [bS] at f1 hF
 have fb:=sY (i:=c.toNat) (by omega)
 exact aH (aN (aB 1 rfl (hk f M' f0 (by omega) (hF.mono (by omega)) hB)))
theorem i3:FnScope ["_law_first", "_law_second", "_law_one", "_law_other"] ["_law_first", "_law_second"] (aK kB):=⟨rfl,rfl,rfl,by decide +kernel,rfl,by decide +kernel,by decide +kernel⟩
abbrev mD (P w K mg base):=Fo P w K mg base "_law_lowest" kB ["_law_first", "_law_second"] 1 aH9
theorem xD {f:Addr}{fd:FuncData} (Df:R.Df K mg "_law_lowest" kB ["_law_first", "_law_second"] f fd) (T:Bt mg):mD P w K mg base:=by
 refine ⟨f,fd,Df,bF Df i3 (fun ds M k h => ?_) (fun cdv A outer s H E hr ds M k h => ?_)⟩
 ·obtain ⟨t,b,rfl,_⟩:=h; rfl
 obtain ⟨t,b,rfl,hb,hb2,hk⟩:=h
 have hg:Int.gcd t b≠0:=fun e=>by have:=(Int.gcd_eq_zero_iff.mp e).2; omega
 have hgl:Int.gcd t b≤b.natAbs:=Nat.le_of_dvd (by omega) (Int.gcd_dvd_natAbs_right t b)
 have hd:((Int.gcd t b:Nat):Int)≠0∧((Int.gcd t b:Nat):Int).natAbs < big:=⟨by omega,Nat.lt_of_lt_of_le (show _ < 10 ^ 60 by omega) (by unfold big; decide)⟩
 refine aD (aO 2 i3.nd (aR oP T.abs PyProof.Rows.boot_abs (aA (aB 0 rfl (aC (sG (aD (aO 3 i3.nd (aB 1 rfl (aD (t9 (fun m Γ' M'=>M'=M∧∃ x y:Int,Γ'=[some (.int t),some (.int b),some (.int x),some (.int y)]∧0≤x∧0≤y∧Int.gcd x y=Int.gcd t b∧m=y.natAbs) (n:=b.natAbs) ⟨rfl,_,b,rfl,by split <;> omega,by omega,by split <;> simp [Int.gcd_neg,Int.neg_gcd],rfl⟩ ?_)))))))))))
 rintro m Γ' M' ⟨rfl,x,y,rfl,hx,hy,hgx,rfl⟩
 refine bJ rQ (aB 3 rfl (ge_int (gH ⟨_,rfl,(ite2 (fun hb1 => ?_) (fun hb1 => ?_))⟩)))
 ·have hy0:=of_decide_eq_true hb1
  refine aH (aGZ 2 3 i3.nd (by decide) (aA (aB 3 rfl (aA (aG vI (aB 2 rfl (aB 3 rfl (bQ (show y≠0 by omega) (aC ⟨_,_,rfl,_,Num.wQ x y (by omega),rfl,_,_,rfl,by omega,?_,?_,rfl⟩)))))))))
  ·rw [Int.fmod_eq_emod_of_nonneg _ (by omega)]; exact Int.emod_nonneg _ (by omega)
  ·rw [Num.uQ]; exact hgx
 ·have hy0:y=0:=by
   have:¬ 0 < y:=fun z=>hb1 (decide_eq_true z)
   omega
  subst hy0
  rw [Int.gcd_zero_right] at hgx
  have ex:x=((Int.gcd t b:Nat):Int):=by omega
  rw [ex]
  exact aH (aN (bT (aA (aG k8 (aB 0 rfl (aB 2 rfl (bQ hd (aA (aG k8 (aB 1 rfl (aB 2 rfl (bQ hd (aC ⟨(show 2≤sizeLine by decide),hk⟩)))))))))))))
theorem mZ:FnScope ["_law_feed_here", "_law_way", "_law_first"] ["_law_feed_here"] (aK lN):=⟨rfl,rfl,rfl,by decide +kernel,rfl,by decide +kernel,by decide +kernel⟩
abbrev tK (P w K mg base):=Fo P w K mg base "_law_number" lN ["_law_feed_here"] 3 aAN
theorem zM {f:Addr}{fd:FuncData} (Df:R.Df K mg "_law_number" lN ["_law_feed_here"] f fd) (aID:m6 P w K mg base) (aIE:vQ P w K mg base) (aIF:mD P w K mg base) (T:Bt mg):tK P w K mg base:=by
 refine ⟨f,fd,Df,bF Df mZ (fun ds M k h => ?_) (fun cdv A outer s H E hr ds M k h => ?_)⟩
 ·obtain ⟨p,b,rfl,_⟩:=h; rfl
 obtain ⟨p,b,rfl,hF0,hb,hk⟩:=h
 have k60:(10:Nat) ^ 60 < 10 ^ 400:=by decide +kernel
 refine aD (aO 1 mZ.nd (aI aID hr (aA (aB 0 rfl (aA (ge_int (aC ⟨p,_,_,rfl,by decide,by decide,hF0,by omega,fun z1 M1 z10 z11 hF1 hB1 hE1 => ?_⟩)))))))
 refine aD (bD (bJ gW (aB 1 rfl (ge_int (iF ⟨_,rfl,(ite2 (fun h1=>aH (aN ?_)) (fun h1=>a9 ?_))⟩)))))
 ·refine bT (aA (aG dR (aI aID hr (aA (aB 0 rfl (aA (ge_int (aC ⟨p,_,_,rfl,by decide,by decide,hF1,by omega,fun z2 M2 z20 z21 hF2 hB2 hE2 => ?_⟩))))))))
  exact ge_int (bW (aA (ge_int (aC ⟨(show 2≤sizeLine by decide),(hk ((z2 - 10:Int):Rat) _ (oZ (Nat.lt_of_le_of_lt (show _≤100 by omega) (by decide))) (hF2.mono (by omega)) (hB1.trans hB2))⟩))))
 refine aD (aO 2 mZ.nd (aG eS (aI aIE hr (aA (aB 0 rfl (aC ⟨p,_,rfl,hF1,by omega,fun w M2 w0 w1 hF2 hB2 => ?_⟩))))))
 refine aG dR (ge_int (aG eS (ge_int (aI aID hr (aA (aB 0 rfl (aA (ge_int (aC ⟨p,_,_,rfl,by decide,by decide,hF2,by omega,fun z3 M3 z30 z31 hF3 hB3 hE3 => ?_⟩)))))))))
 refine bQ ⟨big400 (by decide),big400 (Nat.lt_trans (show _ < 10 by omega) (by decide))⟩ (bW (bQ ⟨big400 (Nat.lt_trans (show w.natAbs < 10 ^ 60 by omega) k60),big400 (Nat.lt_trans (show _ < 10 by omega) (by decide))⟩ ?_))
 obtain ⟨f,ef,hf⟩:∃ f:Int,w * (1 - 2 * z3)=f∧f.natAbs < 10 ^ 60:=by
  have:z3=0∨z3=1:=by omega
  rcases this with rfl | rfl
  ·exact ⟨w,by omega,by omega⟩
  ·exact ⟨-w,by omega,by omega⟩
 rw [ef]
 refine aD (bD (bJ gW (aB 1 rfl (ge_int (iF ⟨_,rfl,(ite2 (fun h2=>aH (aN ?_)) (fun h2=>a9 ?_))⟩)))))
 ·refine aJ aF (fI (aA (bT (aA (ge_int (aA (ge_int (aC ⟨(show 2≤sizeLine by decide),(aA (bT (aA (aG dR (ge_int (aG kR (ge_int (ge_int (bQ ⟨by decide,by decide,by decide⟩ (bW (aA (ge_int (aC ⟨(show 2≤sizeLine by decide),(aA (bT (aA (ge_int (aA (aG dR (aG kR ?_)))))))⟩)))))))))))))⟩))))))))
  refine ge_int (ge_int (bQ ⟨by decide,by decide,by decide⟩ (ge_int (bW (aC ⟨(show 2≤sizeLine by decide),(aA (bT (aA (aB 2 rfl (aA (ge_int (aC ⟨(show 2≤sizeLine by decide),(aC ⟨(show 4≤sizeLine by decide),(aI aID hr (aA (aB 0 rfl (aA (ge_int (aC ⟨p,_,_,rfl,by decide,by decide,hF3,by omega,fun z4 M4 z40 z41 hF4 hB4 hE4 => ?_⟩))))))⟩)⟩)))))))⟩)))))
  obtain ⟨q,hq,sq⟩:=aA2 hf z40 z41
  exact aM (.lst _) hq (hk q _ sq (hF4.mono (by omega)) (((hB1.trans hB2).trans hB3).trans hB4))
 refine aH (aN (aI aIF hr (aA (aB 2 rfl (aA (aR (iP rfl) T.max R.BMax (aA (ge_int (aA (aI aIE hr (aA (aB 0 rfl (aC ⟨p,_,rfl,hF3,by omega,fun v M4 v0 v1 hF4 hB4 => ?_⟩)))))))))))))
 refine aC (mK (aC ⟨f,_,rfl,by split <;> omega,by split <;> omega,?_⟩))
 rw [lH (by split <;> omega)]
 exact hk _ _ (zT (by split <;> omega) hf (by split <;> omega)) (hF4.mono (by omega)) (((hB1.trans hB2).trans hB3).trans hB4)
theorem aDG:FnScope ["_law_number_here"] ["_law_number_here"] (aK oX):=⟨rfl,rfl,rfl,by decide +kernel,rfl,by decide +kernel,by decide +kernel⟩
abbrev sB (P w K mg base):=Fo P w K mg base "_law_text" oX ["_law_number_here"] 2 wJ
theorem aD2 {f:Addr}{fd:FuncData} (Df:R.Df K mg "_law_text" oX ["_law_number_here"] f fd) (T:Bt mg):sB P w K mg base:=by
 refine ⟨f,fd,Df,bF Df aDG (fun ds M k h => ?_) (fun cdv A outer s H E hr ds M k h => ?_)⟩
 ·obtain ⟨q,rfl,_⟩:=h; rfl
 obtain ⟨q,rfl,hq,hk⟩:=h
 have hd:((q.den:Int)).natAbs < 10 ^ 60:=by rw [Int.natAbs_natCast]; exact hq.b
 have l1:=(fG hq.a).2.1
 have l2:=(fG hd).2.1
 refine aD (bD (bJ gW (aJ aF (aB 0 rfl (ge_int (aM (.tup _) rfl (ge_int (iF ⟨_,rfl,?_⟩))))))))
 unfold nT at hk
 refine ite2 (fun h1=>aH (aN ?_)) (fun h1=>a9 (aH (aN ?_)))
 ·have e:(q.den:Int)=1:=of_decide_eq_true h1
  rw [if_pos (show q.den=1 by omega)] at hk
  exact aT iM T.str R.BS (aA (aJ aF (aB 0 rfl (ge_int (aM (.tup _) rfl (aC (kJ (kT hq.a) hk)))))))
 have e:¬ (q.den:Int)=1:=fun z=>h1 (decide_eq_true z)
 rw [if_neg (show ¬ q.den=1 by omega)] at hk
 have ls:("/" : Str).length=1:=by decide +kernel
 exact aG cG (aG cG (aT iM T.str R.BS (aA (aJ aF (aB 0 rfl (ge_int (aM (.tup _) rfl (aC (kJ (kT hq.a) (ge_str (dL (R.aQ (by show (iT q.num).length+_≤_; omega)) (aT iM T.str R.BS (aA (aJ aF (aB 0 rfl (ge_int (aM (.tup _) rfl (aC (kJ (kT hd) (dL (R.aQ (by rw [cM]; show (iT q.num).length+_+(iT (q.den:Int)).length≤_; omega)) hk))))))))))))))))))))
theorem bO:FnScope ["_law_yard_here", "_law_xs", "_law_ys", "_law_rows", "_law_text_here", "_law_x", "_law_y", "_law_row"] ["_law_yard_here"] (aK iD):=⟨rfl,rfl,rfl,by decide +kernel,rfl,by decide +kernel,by decide +kernel⟩
abbrev n6 (P w K mg base):=Fo P w K mg base "_law_yard_text" iD ["_law_yard_here"] 3 vA
theorem tR {f:Addr}{fd:FuncData} (Df:R.Df K mg "_law_yard_text" iD ["_law_yard_here"] f fd) (aIG:sB P w K mg base):n6 P w K mg base:=by
 refine ⟨f,fd,Df,bF Df bO (fun ds M k h => ?_) (fun cdv A outer s H E hr ds M k h => ?_)⟩
 ·obtain ⟨A,rfl,_⟩:=h; rfl
 obtain ⟨A,rfl,hA,hk⟩:=h
 have lx:=hA.lx
 have ly:=hA.ly
 obtain ⟨hw,lK⟩:=A.wide
 have b1:(" " : Str).length=1:=by decide +kernel
 have b2:(";" : Str).length=1:=by decide +kernel
 have b3:(" ;" : Str).length=2:=by decide +kernel
 have t1:∀ i,(cat1 ((A.ws.take i).map nT)).length≤2000:=fun i=>aFD (B:=130) (n:=12) (by decide) (fun w hw=>by obtain ⟨q,hq,rfl⟩:=List.mem_map.mp hw; exact jS (hA.x q (List.mem_of_mem_take hq))) (by rw [List.length_map,List.length_take]; omega)
 have t2:∀ i,(cat2 ((A.us.take i).map nT)).length≤2000:=fun i=>vR (B:=130) (n:=12) (by decide) (fun w hw=>by obtain ⟨q,hq,rfl⟩:=List.mem_map.mp hw; exact jS (hA.y q (List.mem_of_mem_take hq))) (by rw [List.length_map,List.length_take]; omega)
 have t3:∀ i,(cat2 (A.K.take i)).length≤2000:=fun i=>vR (B:=130) (n:=12) (by decide) (fun w hw2=>by have:=hw w (List.mem_of_mem_take hw2); omega) (by rw [List.length_take]; omega)
 refine aD (bD (bJ (m8 (n:=3) (R.units_le hr)) (aB 0 rfl (bT (aA (bT (aC ⟨(show 0≤sizeLine by decide),(aA (bT (aC ⟨(show 0≤sizeLine by decide),(aA (bT (aC ⟨(show 0≤sizeLine by decide),(aC ⟨(show 3≤sizeLine by decide),(mQ (e1:=yd A) (e2:=yd Yd.void) (.tup _) (.tup _) (fL _) (fL _) ⟨_,rfl,?_⟩)⟩)⟩)))⟩)))⟩)))))))
 rw [nH]
 unfold yT at hk
 refine ite2 (fun h1=>aH (aN ?_)) (fun h1=>a9 ?_)
 ·rw [if_pos (of_decide_eq_true h1)] at hk
  exact ge_str hk
 have h1:A≠Yd.void:=fun z=>h1 (decide_eq_true z)
 rw [if_neg h1,zB] at hk
 refine aD (sU (aB 0 rfl (aGL rfl (oM (eQ 1 bO.nd (oM (eQ 2 bO.nd (oM (eQ 3 bO.nd (aDF (aD (aO 4 bO.nd (ge_str (aD (jM (bL (aB 1 rfl ⟨_, .inl rfl,(⟨fun i Γ' M'=>M'=M∧∃ v5 v6 v7,Γ'=[some (yd A),some (.tup (aP A.ws)),some (.tup (aP A.us)),some (.tup (A.K.map .str)),some (.str (cat1 ((A.ws.take i).map nT))),v5,v6,v7],⟨rfl,_,_,_,rfl⟩,?_,?_⟩)⟩)))))))))))))))))
 ·rintro i d Γ' M' hd ⟨rfl,v5,v6,v7,rfl⟩
  obtain ⟨q,hq,rfl⟩:=bZ hd
  have a1:=t1 i
  have a2:=jS (hA.x q (List.mem_of_getElem? hq))
  refine eQ 5 bO.nd (aH (aO 4 bO.nd (aG cG (aG cG (aB 4 rfl (aI aIG hr (aA (aB 5 rfl (aC ⟨q,rfl,hA.x q (List.mem_of_getElem? hq),(dL (R.aQ (by omega)) (ge_str (dL (R.aQ (by rw [cM]; omega)) ?_)))⟩)))))))))
  dsimp only
  rw [take_snoc hq,List.map_append,show [q].map nT=[nT q] from rfl,aAE]
  exact ⟨rfl,_,_,_,rfl⟩
 rintro Γ' M' ⟨rfl,v5,v6,v7,rfl⟩
 have a1:=t1 A.ws.length
 rw [a6,List.take_length] at *
 refine aD (aO 4 bO.nd (aG cG (aB 4 rfl (ge_str (dL (R.aQ (by omega)) (aD (jM (bL (aB 2 rfl ⟨_, .inl rfl,(⟨fun i Γ' M1=>M1=M'∧∃ v5 v6 v7,Γ'=[some (yd A),some (.tup (aP A.ws)),some (.tup (aP A.us)),some (.tup (A.K.map .str)),some (.str (cat1 (A.ws.map nT)++(";" : Str)++cat2 ((A.us.take i).map nT))),v5,v6,v7],⟨rfl,_,_,_,by rw [show cat2 ((A.us.take 0).map nT)=Str.empty from rfl,hE]; rfl⟩,?_,?_⟩)⟩)))))))))
 ·rintro i d Γ' M1 hd ⟨rfl,v5,v6,v7,rfl⟩
  obtain ⟨q,hq,rfl⟩:=bZ hd
  have a3:=t2 i
  have a2:=jS (hA.y q (List.mem_of_getElem? hq))
  refine eQ 6 bO.nd (aH (aO 4 bO.nd (aG cG (aG cG (aB 4 rfl (ge_str (dL (R.aQ (by simp only [cM]; omega)) (aI aIG hr (aA (aB 6 rfl (aC ⟨q,rfl,hA.y q (List.mem_of_getElem? hq),(dL (R.aQ (by simp only [cM]; omega)) ?_)⟩)))))))))))
  dsimp only
  rw [take_snoc hq,List.map_append,show [q].map nT=[nT q] from rfl,qD]
  exact ⟨rfl,_,_,_,by simp only [dY]; rfl⟩
 rintro Γ' M1 ⟨rfl,v5,v6,v7,rfl⟩
 have a3:=t2 A.us.length
 rw [a6,List.take_length] at *
 refine aD (aO 4 bO.nd (aG cG (aB 4 rfl (ge_str (dL (R.aQ (by simp only [cM]; omega)) (aD (jM (bL (aB 3 rfl ⟨_, .inl rfl,(⟨fun i Γ' M2=>M2=M1∧∃ v5 v6 v7,Γ'=[some (yd A),some (.tup (aP A.ws)),some (.tup (aP A.us)),some (.tup (A.K.map .str)),some (.str (cat1 (A.ws.map nT)++(";" : Str)++cat2 (A.us.map nT)++(" ;" : Str)++cat2 (A.K.take i))),v5,v6,v7],⟨rfl,_,_,_,by rw [show cat2 (A.K.take 0)=Str.empty from rfl,hE]; rfl⟩,?_,?_⟩)⟩)))))))))
 ·rintro i d Γ' M2 hd ⟨rfl,v5,v6,v7,rfl⟩
  obtain ⟨z,hz,rfl⟩:=bZ hd
  have a4:=t3 i
  have a2:=hw z (List.mem_of_getElem? hz)
  refine eQ 7 bO.nd (aH (aO 4 bO.nd (aG cG (aG cG (aB 4 rfl (ge_str (dL (R.aQ (by simp only [cM]; omega)) (aB 7 rfl (dL (R.aQ (by simp only [cM]; omega)) ?_)))))))))
  dsimp only
  rw [take_snoc hz,qD]
  exact ⟨rfl,_,_,_,by simp only [dY]; rfl⟩
 rintro Γ' M2 ⟨rfl,v5,v6,v7,rfl⟩
 rw [List.length_map,List.take_length]
 exact aH (aN (aB 4 rfl hk))
theorem lI:FnScope ["_law_feed_here", "_law_most", "_law_found", "_law_k"] ["_law_feed_here"] (aK nZ):=⟨rfl,rfl,rfl,by decide +kernel,rfl,by decide +kernel,by decide +kernel⟩
abbrev vV (P w K mg base):=Fo P w K mg base "_law_lines" nZ ["_law_feed_here"] 2 aB8
theorem aCK {f:Addr}{fd:FuncData} (Df:R.Df K mg "_law_lines" nZ ["_law_feed_here"] f fd) (aID:m6 P w K mg base) (T:Bt mg):vV P w K mg base:=by
 refine ⟨f,fd,Df,bF Df lI (fun ds M k h => ?_) (fun cdv A outer s H E hr ds M k h => ?_)⟩
 ·obtain ⟨p,b,rfl,_⟩:=h; rfl
 obtain ⟨p,b,rfl,hF0,hb,hk⟩:=h
 refine aD (aO 1 lI.nd (aJ aF (fI (aA (ge_int (aA (ge_int (aA (aG kR (ge_int (ge_int (bQ ⟨by decide,by decide,by decide⟩ (aC ⟨(show 3≤sizeLine by decide),(aI aID hr (aA (aB 0 rfl (aA (ge_int (aC ⟨p,_,_,rfl,by decide,by decide,hF0,by omega,fun z1 M1 z10 z11 hF1 hB1 hE1 => ?_⟩))))))⟩)))))))))))))
 obtain ⟨most,hmo,hmo1,hmo2⟩:=aDM z10 z11
 refine aM (.lst _) hmo (aD (aO 2 lI.nd (p0 (aA (aG dR (aI aID hr (aA (aB 0 rfl (aA (aG b6 (aG fZ (ge_int (aB 1 rfl (bQ (by first | exact .inl ⟨by omega,by omega⟩ | exact .inr ⟨by omega,by omega⟩) (ge_int (bW (aC ⟨p,_,_,rfl,by omega,by omega,hF1,by omega,fun z2 M2 z20 z21 hF2 hB2 hE2 => ?_⟩)))))))))))))))))
 refine aB 1 rfl (bW (aC ⟨(show 1≤sizeLine by decide),fun a ha => ?_⟩))
 have hap:a≠p:=hF2.ne ha
 have hB12:=hB1.trans hB2
 have haM:M a=none:=hB12.none_of ha hap
 refine aD (jM (gP T.range (aA (aG b6 (ge_int (aI aID hr (aA (aB 0 rfl (aA (ge_int (aC ⟨p,_,_,rfl,by decide,by decide,hF2.new hap,by omega,fun z3 M3 z30 z31 hF3 hB3 hE3 => ?_⟩)))))))))))
 refine bW (aC ⟨_,rfl,by omega,by omega,?_⟩)
 obtain ⟨n3,hn3⟩:∃ n3:Nat,1+z3=(n3:Int):=⟨(1+z3).toNat,by omega⟩
 rw [hn3,Int.toNat_natCast]
 refine ⟨fun i Γ' M'=>∃ (xs:List Int) (v4:Option D),Γ'=[some (.mt p),some (.int most),some (.mt a),v4]∧M' a=some (.lst (xs.map .int))∧FdM M' p (b+3+i)∧cK p M M'∧xs.length=i+1∧xs.Pairwise (· < ·)∧∀ x∈xs, -100000000≤x∧x≤100000000+100000001 * i,
  ⟨[z2 - most],_,rfl,(hE3 a hap).trans bN,hF3.mono (by omega),(hB12.new haM).trans hB3,rfl,List.pairwise_singleton _ _,fun x hx=>by rw [List.mem_singleton] at hx; omega⟩,?_,?_⟩
 ·rintro i d Γ' M' hd ⟨xs,v4,rfl,hM,hF,hB,hl,hp,hbd⟩
  obtain ⟨hi,rfl⟩:=dB hd
  obtain ⟨xr,xl,rfl⟩:=aEI (l:=xs) (fun e=>by rw [e] at hl; simp at hl)
  have hxl:=hbd xl (by simp)
  refine eQ 3 lI.nd (aH (wV (fJ PySem.F.plainAttrs_list PySem.F.slot_list_append PySem.F.type_list_append m9 (aB 2 rfl (⟨⟨rfl,_,hM⟩,(aA (aG b6 (aG b6 (aJ aF (aB 2 rfl (lE jJ (ge_int ⟨_,rfl,(aM (.mt hM) (by rw [List.map_append]; exact aCP _ _) (ge_int (bW (aI aID hr (aA (aB 0 rfl (aA (aB 1 rfl (aC ⟨p,most,_,rfl,by omega,by omega,hF,by omega,fun z4 M4 z40 z41 hF4 hB4 hE4 => ?_⟩)))))))))⟩)))))))⟩)))))
  refine bW (aC (qO ((hE4 a hap).trans hM) (by rw [List.length_map,hl]; exact Nat.lt_of_le_of_lt (show i+1≤20 by omega) (by decide)) ⟨xr++[xl]++[xl+1+z4],_,rfl,by rw [bN]; simp,(hF4.new hap).mono (by omega),(hB.trans hB4).new haM,by rw [List.length_append,hl]; rfl,?_,fun x hx => ?_⟩))
  ·rw [List.pairwise_append]
   refine ⟨hp,List.pairwise_singleton _ _,fun x hx y hy => ?_⟩
   rw [List.mem_singleton] at hy
   have hx2:x≤xl:=by
    rcases List.mem_append.mp hx with hx | hx
    ·exact Int.le_of_lt ((List.pairwise_append.mp hp).2.2 x hx xl (by simp))
    ·rw [List.mem_singleton] at hx; omega
   omega
  ·rcases List.mem_append.mp hx with hx | hx
   ·have:=hbd x hx; omega
   ·rw [List.mem_singleton] at hx; omega
 ·rintro Γ' M' ⟨xs,v4,rfl,hM,hF,hB,hl,hp,hbd⟩
  rw [bS] at hl hF hbd
  exact iE 2 rfl hM (aH (aN (aB 2 rfl (hk xs _ ⟨hp,by omega,fun x hx=>by have:=hbd x hx; omega⟩ (by omega) ((hF.del hap).mono (by omega)) (hB.del haM)))))
theorem oN:FnScope ["thing"] ["thing"] (aK fB):=⟨rfl,rfl,rfl,by decide +kernel,rfl,by decide +kernel,by decide +kernel⟩
abbrev kC (P w K mg base):=Fo P w K mg base "is_whole_line" fB ["thing"] 2 xU
theorem oE {f:Addr}{fd:FuncData} (Df:R.Df K mg "is_whole_line" fB ["thing"] f fd) (aIH:i0 P w K mg base) {tF:Tok} (CF:mg "FARTHEST" = some (.int 1000000000 tF)):kC P w K mg base:=by
 refine ⟨f,fd,Df,bF Df oN (fun ds M k h => ?_) (fun cdv A outer s H E hr ds M k h => ?_)⟩
 ·obtain ⟨x,rfl,_⟩:=h; rfl
 obtain ⟨x,rfl,h1,h2,hk⟩:=h
 refine aH (aN (jO (aI aIH hr (aA (aB 0 rfl (aC ⟨_,rfl,trivial,(⟨_,rfl,aU (iR (r0 rO rO (lE jJ (jR CF ⟨_,rfl,(aB 0 rfl (gH ⟨_,rfl,lV (decide_eq_true (by omega)) (jR CF (gH ?_))⟩))⟩))))⟩)⟩))))))
 rw [decide_eq_true h2]
 exact hk
theorem m7:FnScope ["thing"] ["thing"] (aK eA):=⟨rfl,rfl,rfl,by decide +kernel,rfl,by decide +kernel,by decide +kernel⟩
abbrev iY (P w K mg base):=Fo P w K mg base "are_whole_lines" eA ["thing"] 3 uV
theorem mI {f:Addr}{fd:FuncData} (Df:R.Df K mg "are_whole_lines" eA ["thing"] f fd) (aII:kC P w K mg base) (T:Bt mg) {tM:Tok} (CM:mg "MOST_LINES_yards" = some (.int 7 tM)):iY P w K mg base:=by
 refine ⟨f,fd,Df,bF Df m7 (fun ds M k h => ?_) (fun cdv A outer s H E hr ds M k h => ?_)⟩
 ·obtain ⟨xs,rfl,_⟩:=h; rfl
 obtain ⟨xs,rfl,u7,hk⟩:=h
 have few:=u7.few
 have ml:(xs.map D.int).length=xs.length:=List.length_map ..
 refine aD (bD (dI (cH (aZ (bA (cI (.inr (.inr (.inr (.inr rfl)))) T.isi T.list R.BL (aB 0 rfl ⟨_, .self trivial,⟨_,rfl,?_⟩⟩)))))))
 rw [lL]
 refine bM (cT (bJ rQ (aR bK T.len PySem.boot_len (aA (aB 0 rfl (aC (cX (.lst _) (jR CM (gH ⟨_,rfl,(nM (decide_eq_false (by omega)) (a9 (aD (bD (aZ (bA (aR (fD rfl) T.all R.BAll (aA (aW [] [] (bL (aB 0 rfl ⟨_, .inr (.inl rfl),(b4 (ds:=xs.map D.int) (by rw [ml]; exact R.aQ (by omega)) (fun i acc M'=>M'=M∧acc=(List.replicate i true).map D.bl) ⟨rfl,rfl⟩ ?_ ?_)⟩)))))))))))⟩)))))))))
 ·rintro i d acc M' hd ⟨rfl,rfl⟩ cs C s₀ H₀ fp
  obtain ⟨x,hx,rfl⟩:=bZ hd
  have hb:=u7.bd x (List.mem_of_getElem? hx)
  refine aX (aU fun cs C s₀ H₀ fp=>(aI aII hr (aA (aB 0 rfl (aC ⟨x,rfl,hb.1,hb.2,⟨rfl,?_⟩⟩)))))
  rw [List.replicate_succ',List.map_append]
  rfl
 rintro acc M' ⟨rfl,rfl⟩
 refine aC (iN (.lst _) ⟨_,rfl,?_⟩)
 rw [all_true]
 refine bM (a9 (aH (aN (aR (fD rfl) T.all R.BAll (aA (aW ["thing"] [0] (wP T.range (aA (ge_int (aA (aR bK T.len PySem.boot_len (aA (aB 0 rfl (aC (cX (.lst _) (aC ?_))))))))))))))))
 rw [ml]
 refine ⟨_,_,rfl,⟨by omega,by omega,by omega,by omega⟩,?_⟩
 rw [show (((xs.length:Nat):Int) - 1).toNat=xs.length - 1 by omega]
 refine b4 (by rw [bS]; exact R.aQ (by omega)) (fun i acc M1=>M1=M'∧acc=(List.replicate i true).map D.bl) ⟨rfl,rfl⟩ ?_ ?_
 ·rintro i d acc M1 hd ⟨rfl,rfl⟩ cs C s₀ H₀ fp
  obtain ⟨hi,rfl⟩:=dB hd
  have lt:=List.pairwise_iff_getElem.mp u7.up i (i+1) (by omega) (by omega) (by omega)
  refine aX (aU fun cs C s₀ H₀ fp=>(eP pE (aJ aF (aB 1 rfl (aG dR (aB 0 rfl (ge_int (bW (aM (.lst _) (by rw [show (1:Int)+(i:Int) - 1=((i:Nat):Int) by omega]; exact int_at (by omega)) (aJ aF (aB 1 rfl (aB 0 rfl (aM (.lst _) (by rw [show (1:Int)+(i:Int)=((i+1:Nat):Int) by omega]; exact int_at (by omega)) (gH ?_))))))))))))))
  rw [decide_eq_true lt]
  refine ⟨rfl,?_⟩
  rw [List.replicate_succ',List.map_append]
  rfl
 rintro acc M1 ⟨rfl,rfl⟩
 refine aC (iN (.lst _) ?_)
 rw [all_true]
 exact hk
theorem aAJ:FnScope ["rows", "place"] ["rows", "place"] (aK k6):=⟨rfl,rfl,rfl,by decide +kernel,rfl,by decide +kernel,by decide +kernel⟩
abbrev uF (P w K mg base):=Fo P w K mg base "column" k6 ["rows", "place"] 1 aBD
theorem zN {f:Addr}{fd:FuncData} (Df:R.Df K mg "column" k6 ["rows", "place"] f fd):uF P w K mg base:=by
 refine ⟨f,fd,Df,bF Df aAJ (fun ds M k h => ?_) (fun cdv A outer s H E hr ds M k h => ?_)⟩
 ·obtain ⟨t,r,zs,n,j,rfl,_⟩:=h; rfl
 obtain ⟨t,r,zs,n,j,rfl,s1,hl,hn,hz,hj,hk⟩:=h
 cases t with
 | true =>
  cases s1
  refine aH (aN (fJ PySem.F.plainAttrs_str PySem.F.slot_str_join PySem.F.type_str_join kL (ge_str ⟨rfl,(aA ((aW ["place"] [1] (bL (aB 0 rfl ⟨_, .inr (.inl rfl),(b4 (ds:=zs.map D.str) (by rw [List.length_map]; exact R.aQ (by omega)) (fun i2 acc2 M2=>M2=M∧acc2=((zs.take i2).map fun z=>(⟨#[R.atS z j]⟩:Str)).map D.str) ⟨rfl,rfl⟩ ?_ ?_)⟩)))))⟩)))
  ·rintro i2 d2 acc2 M2 hd2 ⟨rfl,rfl⟩ cs C s₀ H₀ fp
   obtain ⟨z,hz2,rfl⟩:=bZ hd2
   have hzn:=hz z (List.mem_of_getElem? hz2)
   refine aX (aU fun cs C s₀ H₀ fp=>(aJ aF (aB 0 rfl (aB 1 rfl (pA (R.aQ (by omega)) (R.tP (by omega)) ⟨rfl,?_⟩)))))
   rw [take_snoc hz2,List.map_append,List.map_append]
   rfl
  ·rintro acc2 M2 ⟨rfl,rfl⟩
   rw [List.length_map,List.take_length]
   refine aC (kP (ys:=zs.map fun z=>(⟨#[R.atS z j]⟩:Str)) (.lst _) (by decide +kernel) ?_ ?_)
   ·rw [nX _ (fun z hz => ?_),List.length_map]
    ·omega
    ·obtain ⟨y,_,rfl⟩:=List.mem_map.mp hz
     rfl
   ·rw [R.j5,sV]
    exact hk
 | false =>
  cases s1
  refine aH (aN (fJ PySem.F.plainAttrs_str PySem.F.slot_str_join PySem.F.type_str_join kL (ge_str ⟨rfl,(aA ((aW ["place"] [1] (bL (aB 0 rfl ⟨_, .inl rfl,(b4 (ds:=zs.map D.str) (by rw [List.length_map]; exact R.aQ (by omega)) (fun i2 acc2 M2=>M2=M∧acc2=((zs.take i2).map fun z=>(⟨#[R.atS z j]⟩:Str)).map D.str) ⟨rfl,rfl⟩ ?_ ?_)⟩)))))⟩)))
  ·rintro i2 d2 acc2 M2 hd2 ⟨rfl,rfl⟩ cs C s₀ H₀ fp
   obtain ⟨z,hz2,rfl⟩:=bZ hd2
   have hzn:=hz z (List.mem_of_getElem? hz2)
   refine aX (aU fun cs C s₀ H₀ fp=>(aJ aF (aB 0 rfl (aB 1 rfl (pA (R.aQ (by omega)) (R.tP (by omega)) ⟨rfl,?_⟩)))))
   rw [take_snoc hz2,List.map_append,List.map_append]
   rfl
  ·rintro acc2 M2 ⟨rfl,rfl⟩
   rw [List.length_map,List.take_length]
   refine aC (kP (ys:=zs.map fun z=>(⟨#[R.atS z j]⟩:Str)) (.lst _) (by decide +kernel) ?_ ?_)
   ·rw [nX _ (fun z hz => ?_),List.length_map]
    ·omega
    ·obtain ⟨y,_,rfl⟩:=List.mem_map.mp hz
     rfl
   ·rw [R.j5,sV]
    exact hk
theorem kX:FnScope ["rows", "wide"] ["rows"] (aK jX):=⟨rfl,rfl,rfl,by decide +kernel,rfl,by decide +kernel,by decide +kernel⟩
abbrev qI (P w K mg base):=Fo P w K mg base "columns" jX ["rows"] 2 yK
theorem xE {f:Addr}{fd:FuncData} (Df:R.Df K mg "columns" jX ["rows"] f fd) (aIJ:uF P w K mg base) (T:Bt mg):qI P w K mg base:=by
 refine ⟨f,fd,Df,bF Df kX (fun ds M k h => ?_) (fun cdv A outer s H E hr ds M k h => ?_)⟩
 ·obtain ⟨t,r,zs,n,rfl,_⟩:=h; rfl
 obtain ⟨t,r,zs,n,rfl,s1,hl,hn,hz,hk⟩:=h
 cases t with
 | true =>
  cases s1
  refine aD (jT (fun Γ' M'=>M'=M∧Γ'=[some (.lst (zs.map D.str)),some (.int (((zs.head?.map (·.length)).getD 0:Nat):Int))]) (aO 1 kX.nd (mH ?_)) ?_)
  ·refine lP (aB 0 rfl ⟨_, .seq (.lst _),(ite2 (fun hb => ?_) (fun hb => ?_))⟩)
   ·cases zs with
    | nil=>cases hb
    | cons z zr =>
     have hzl:=hz z (by simp)
     exact aR bK T.len PySem.boot_len (aA (aJ aF (aB 0 rfl (ge_int (aM (.lst _) (nE z zr) (aC (jB (R.aQ (by omega)) ⟨rfl,rfl⟩)))))))
   ·cases zs with
    | nil =>
     exact ge_int ⟨rfl,rfl⟩
    | cons z zr=>exact absurd rfl hb
  rintro Γ' M' ⟨rfl,rfl⟩
  have hw:(zs.head?.map (·.length)).getD 0≤n:=by
   cases zs with
   | nil=>exact Nat.zero_le _
   | cons z zr=>exact Nat.le_of_eq (hz z (by simp))
  refine aH (aN ((aW ["rows"] [0] (gP T.range (aA (aB 1 rfl (aC ⟨_,rfl,by omega,by omega,?_⟩)))))))
  rw [Int.toNat_natCast]
  refine b4 (by rw [bS]; exact R.aQ (by omega)) (fun i acc M1=>M1=M'∧acc=((List.range i).map fun j=>R.ofL (zs.map (R.atS · j))).map D.str) ⟨rfl,rfl⟩ ?_ ?_
  ·rintro i d acc M1 hd ⟨rfl,rfl⟩ cs C s₀ H₀ fp
   obtain ⟨hi,rfl⟩:=dB hd
   rw [Int.zero_add]
   refine aX (aU fun cs C s₀ H₀ fp=>(aI aIJ hr (aA (aB 1 rfl (aA (aB 0 rfl (aC ⟨true,_,zs,n,i,rfl,rfl,hl,hn,hz,by omega,?_⟩)))))))
   refine ⟨rfl,?_⟩
   rw [List.range_succ,List.map_append,List.map_append]
   rfl
  ·rintro acc M1 ⟨rfl,rfl⟩
   rw [bS]
   exact hk
 | false =>
  cases s1
  refine aD (jT (fun Γ' M'=>M'=M∧Γ'=[some (.tup (zs.map D.str)),some (.int (((zs.head?.map (·.length)).getD 0:Nat):Int))]) (aO 1 kX.nd (mH ?_)) ?_)
  ·refine lP (aB 0 rfl ⟨_, .seq (.tup _),(ite2 (fun hb => ?_) (fun hb => ?_))⟩)
   ·cases zs with
    | nil=>cases hb
    | cons z zr =>
     have hzl:=hz z (by simp)
     exact aR bK T.len PySem.boot_len (aA (aJ aF (aB 0 rfl (ge_int (aM (.tup _) (nE z zr) (aC (jB (R.aQ (by omega)) ⟨rfl,rfl⟩)))))))
   ·cases zs with
    | nil =>
     exact ge_int ⟨rfl,rfl⟩
    | cons z zr=>exact absurd rfl hb
  rintro Γ' M' ⟨rfl,rfl⟩
  have hw:(zs.head?.map (·.length)).getD 0≤n:=by
   cases zs with
   | nil=>exact Nat.zero_le _
   | cons z zr=>exact Nat.le_of_eq (hz z (by simp))
  refine aH (aN ((aW ["rows"] [0] (gP T.range (aA (aB 1 rfl (aC ⟨_,rfl,by omega,by omega,?_⟩)))))))
  rw [Int.toNat_natCast]
  refine b4 (by rw [bS]; exact R.aQ (by omega)) (fun i acc M1=>M1=M'∧acc=((List.range i).map fun j=>R.ofL (zs.map (R.atS · j))).map D.str) ⟨rfl,rfl⟩ ?_ ?_
  ·rintro i d acc M1 hd ⟨rfl,rfl⟩ cs C s₀ H₀ fp
   obtain ⟨hi,rfl⟩:=dB hd
   rw [Int.zero_add]
   refine aX (aU fun cs C s₀ H₀ fp=>(aI aIJ hr (aA (aB 1 rfl (aA (aB 0 rfl (aC ⟨false,_,zs,n,i,rfl,rfl,hl,hn,hz,by omega,?_⟩)))))))
   refine ⟨rfl,?_⟩
   rw [List.range_succ,List.map_append,List.map_append]
   rfl
  ·rintro acc M1 ⟨rfl,rfl⟩
   rw [bS]
   exact hk
theorem gZ:FnScope ["bands", "outside", "framed"] ["bands"] (aK jZ):=⟨rfl,rfl,rfl,by decide +kernel,rfl,by decide +kernel,by decide +kernel⟩
abbrev qS (P w K mg base):=Fo P w K mg base "changes" jZ ["bands"] 1 zI
theorem xJ {f:Addr}{fd:FuncData} (Df:R.Df K mg "changes" jZ ["bands"] f fd) (T:Bt mg):qS P w K mg base:=by
 refine ⟨f,fd,Df,bF Df gZ (fun ds M k h => ?_) (fun cdv A outer s H E hr ds M k h => ?_)⟩
 ·obtain ⟨t,r,zs,n,rfl,_⟩:=h; rfl
 obtain ⟨t,r,zs,n,rfl,s1,hl,hn,hz,hk⟩:=h
 cases t with
 | true =>
  cases s1
  refine aD (bD (aZ (lP (aB 0 rfl ⟨_, .seq (.lst _),(ite2 (fun hb => ?_) (fun hb => ?_))⟩))))
  ·have e:zs=[]:=by
    cases zs with
    | nil=>rfl
    | cons z zr=>exact absurd hb (by simp)
   subst e
   exact aH (aN (fI (aC ⟨(show 0≤sizeLine by decide),hk⟩)))
  have hne:zs≠[]:=fun e=>by subst e; exact hb rfl
  obtain ⟨z0,zr,rfl⟩:∃ z0 zr,zs=z0::zr:=by
   cases zs with
   | nil=>exact absurd rfl hne
   | cons z zr=>exact ⟨z,zr,rfl⟩
  have l0:=hz z0 (by simp)
  refine a9 (aD (aO 1 gZ.nd (aG vZ (ge_str (aR bK T.len PySem.boot_len (aA (aJ aF (aB 0 rfl (ge_int (aM (.lst _) (nE z0 zr) (aC (jB (R.aQ (by omega)) (wE (by omega) (by omega) (uA (by omega)) ?_)))))))))))))
  rw [Int.toNat_natCast,R.qT]
  refine aD (aO 2 gZ.nd (aG iH (aG iH (fI (aA (aB 1 rfl (aC ⟨(show 1≤sizeLine by decide),(aT eF T.list R.BL (aA (aB 0 rfl (aC (jD (.lst _) (iJ (.lst _) (.lst _) (by rw [List.length_map]; exact R.aQ (by simp only [List.length_cons,List.length_nil] at hl ⊢; omega)) (fI (aA (aB 1 rfl (aC ⟨(show 1≤sizeLine by decide),(iJ (.lst _) (.lst _) (by simp only [List.length_append,List.length_map,List.length_cons,List.length_nil] at hl ⊢; exact R.aQ (by omega)) ?_)⟩))))))))))⟩)))))))
  rw [show [D.str (R.dots z0.length)]++(z0::zr).map D.str++[D.str (R.dots z0.length)]=(R.framed (z0::zr)).map D.str from by simp [R.framed]]
  generalize hzz:z0::zr=zs at *
  refine aH (aN ((aW ["framed"] [2] (gP T.range (aA (aG dR (aR bK T.len PySem.boot_len (aA (aB 2 rfl (aC (cX (.lst _) (ge_int (bW (aC ?_))))))))))))))
  rw [List.length_map,R.fQ]
  refine ⟨_,rfl,by omega,by omega,?_⟩
  rw [show (((zs.length+2:Nat):Int) - 1).toNat=zs.length+1 by omega]
  refine b4 (by rw [bS]; exact R.aQ (by omega)) (fun i acc M'=>M'=M∧acc=((List.range i).filter fun i => !decide ((R.framed zs)[i]?=(R.framed zs)[i+1]?)).map fun (j:Nat)=>D.int (j:Int)) ⟨rfl,rfl⟩ ?_ ?_
  ·rintro i d acc M' hd ⟨rfl,rfl⟩ cs C s₀ H₀ fp
   obtain ⟨hi,rfl⟩:=dB hd
   obtain ⟨u,hu⟩:=i9 (zs:=zs) (i:=i) (by omega)
   obtain ⟨v,hv⟩:=i9 (zs:=zs) (i:=i+1) (by omega)
   refine vU (bJ iC (aJ aF (aB 1 rfl (aB 0 rfl (aM (.lst _) (nR hu) (aJ aF (aB 1 rfl (aG b6 (aB 0 rfl (ge_int (bW (aM (.lst _) (rS hv) (mS ⟨_,rfl,?_⟩)))))))))))))
   have ed:(!decide ((R.framed zs)[i]?=(R.framed zs)[i+1]?))=(!decide (u=v)):=by rw [hu,hv]; congr 1; simp
   refine ite2 (fun hb=>fun cs C s₀ H₀ fp => ?_) (fun hb => ?_)
   ·refine aB 0 rfl ⟨rfl,?_⟩
    rw [iA,if_pos (by rw [ed]; exact hb),List.map_append,Int.zero_add]
    rfl
   ·refine ⟨rfl,?_⟩
    rw [iA,if_neg (by rw [ed]; exact hb)]
  rintro acc M' ⟨rfl,rfl⟩
  rw [bS,yF]
  exact hk
 | false =>
  cases s1
  refine aD (bD (aZ (lP (aB 0 rfl ⟨_, .seq (.tup _),(ite2 (fun hb => ?_) (fun hb => ?_))⟩))))
  ·have e:zs=[]:=by
    cases zs with
    | nil=>rfl
    | cons z zr=>exact absurd hb (by simp)
   subst e
   exact aH (aN (fI (aC ⟨(show 0≤sizeLine by decide),hk⟩)))
  have hne:zs≠[]:=fun e=>by subst e; exact hb rfl
  obtain ⟨z0,zr,rfl⟩:∃ z0 zr,zs=z0::zr:=by
   cases zs with
   | nil=>exact absurd rfl hne
   | cons z zr=>exact ⟨z,zr,rfl⟩
  have l0:=hz z0 (by simp)
  refine a9 (aD (aO 1 gZ.nd (aG vZ (ge_str (aR bK T.len PySem.boot_len (aA (aJ aF (aB 0 rfl (ge_int (aM (.tup _) (nE z0 zr) (aC (jB (R.aQ (by omega)) (wE (by omega) (by omega) (uA (by omega)) ?_)))))))))))))
  rw [Int.toNat_natCast,R.qT]
  refine aD (aO 2 gZ.nd (aG iH (aG iH (fI (aA (aB 1 rfl (aC ⟨(show 1≤sizeLine by decide),(aT eF T.list R.BL (aA (aB 0 rfl (aC (jD (.tup _) (iJ (.lst _) (.lst _) (by rw [List.length_map]; exact R.aQ (by simp only [List.length_cons,List.length_nil] at hl ⊢; omega)) (fI (aA (aB 1 rfl (aC ⟨(show 1≤sizeLine by decide),(iJ (.lst _) (.lst _) (by simp only [List.length_append,List.length_map,List.length_cons,List.length_nil] at hl ⊢; exact R.aQ (by omega)) ?_)⟩))))))))))⟩)))))))
  rw [show [D.str (R.dots z0.length)]++(z0::zr).map D.str++[D.str (R.dots z0.length)]=(R.framed (z0::zr)).map D.str from by simp [R.framed]]
  generalize hzz:z0::zr=zs at *
  refine aH (aN ((aW ["framed"] [2] (gP T.range (aA (aG dR (aR bK T.len PySem.boot_len (aA (aB 2 rfl (aC (cX (.lst _) (ge_int (bW (aC ?_))))))))))))))
  rw [List.length_map,R.fQ]
  refine ⟨_,rfl,by omega,by omega,?_⟩
  rw [show (((zs.length+2:Nat):Int) - 1).toNat=zs.length+1 by omega]
  refine b4 (by rw [bS]; exact R.aQ (by omega)) (fun i acc M'=>M'=M∧acc=((List.range i).filter fun i => !decide ((R.framed zs)[i]?=(R.framed zs)[i+1]?)).map fun (j:Nat)=>D.int (j:Int)) ⟨rfl,rfl⟩ ?_ ?_
  ·rintro i d acc M' hd ⟨rfl,rfl⟩ cs C s₀ H₀ fp
   obtain ⟨hi,rfl⟩:=dB hd
   obtain ⟨u,hu⟩:=i9 (zs:=zs) (i:=i) (by omega)
   obtain ⟨v,hv⟩:=i9 (zs:=zs) (i:=i+1) (by omega)
   refine vU (bJ iC (aJ aF (aB 1 rfl (aB 0 rfl (aM (.lst _) (nR hu) (aJ aF (aB 1 rfl (aG b6 (aB 0 rfl (ge_int (bW (aM (.lst _) (rS hv) (mS ⟨_,rfl,?_⟩)))))))))))))
   have ed:(!decide ((R.framed zs)[i]?=(R.framed zs)[i+1]?))=(!decide (u=v)):=by rw [hu,hv]; congr 1; simp
   refine ite2 (fun hb=>fun cs C s₀ H₀ fp => ?_) (fun hb => ?_)
   ·refine aB 0 rfl ⟨rfl,?_⟩
    rw [iA,if_pos (by rw [ed]; exact hb),List.map_append,Int.zero_add]
    rfl
   ·refine ⟨rfl,?_⟩
    rw [iA,if_neg (by rw [ed]; exact hb)]
  rintro acc M' ⟨rfl,rfl⟩
  rw [bS,yF]
  exact hk
theorem zE:FnScope ["row", "places"] ["row", "places"] (aK lS):=⟨rfl,rfl,rfl,by decide +kernel,rfl,by decide +kernel,by decide +kernel⟩
abbrev sW (P w K mg base):=Fo P w K mg base "picked" lS ["row", "places"] 1 aD8
theorem zK {f:Addr}{fd:FuncData} (Df:R.Df K mg "picked" lS ["row", "places"] f fd):sW P w K mg base:=by
 refine ⟨f,fd,Df,bF Df zE (fun ds M k h => ?_) (fun cdv A outer s H E hr ds M k h => ?_)⟩
 ·obtain ⟨z,js,rfl,_⟩:=h; rfl
 obtain ⟨z,js,rfl,hz,hl,hj,hk⟩:=h
 refine aH (aN (fJ PySem.F.plainAttrs_str PySem.F.slot_str_join PySem.F.type_str_join kL (ge_str ⟨rfl,(aA ((aW ["row"] [0] (bL (aB 1 rfl ⟨_, .inr (.inl rfl),(b4 (ds:=dF js) (by rw [cR]; exact R.aQ (by omega)) (fun i2 acc2 M2=>M2=M∧acc2=((js.take i2).map fun j=>(⟨#[R.atS z j]⟩:Str)).map D.str) ⟨rfl,rfl⟩ ?_ ?_)⟩)))))⟩)))
 ·rintro i2 d2 acc2 M2 hd2 ⟨rfl,rfl⟩ cs C s₀ H₀ fp
  obtain ⟨j,hj2,rfl⟩:=gJ hd2
  have hjl:=hj j (List.mem_of_getElem? hj2)
  refine aX (aU fun cs C s₀ H₀ fp=>(aJ aF (aB 1 rfl (aB 0 rfl (pA (R.aQ (by omega)) (R.tP hjl) ⟨rfl,?_⟩)))))
  rw [take_snoc hj2,List.map_append,List.map_append]
  rfl
 ·rintro acc2 M2 ⟨rfl,rfl⟩
  rw [cR,List.take_length]
  refine aC (kP (ys:=js.map fun j=>(⟨#[R.atS z j]⟩:Str)) (.lst _) (by decide +kernel) ?_ ?_)
  ·rw [nX _ (fun z hz => ?_),List.length_map]
   ·omega
   ·obtain ⟨y,_,rfl⟩:=List.mem_map.mp hz
    rfl
  ·rw [R.j5,xA]
   exact hk
theorem fH:FnScope ["xs", "ys", "rows", "at_xs", "at_ys", "kept"] ["xs", "ys", "rows"] (aK lU):=⟨rfl,rfl,rfl,by decide +kernel,rfl,by decide +kernel,by decide +kernel⟩
abbrev oF (P w K mg base):=Fo P w K mg base "tidied" lU ["xs", "ys", "rows"] 3 aCJ
theorem yI {f:Addr}{fd:FuncData} (Df:R.Df K mg "tidied" lU ["xs", "ys", "rows"] f fd) (aIK:qS P w K mg base) (aIL:qI P w K mg base) (aIM:sW P w K mg base) (T:Bt mg):oF P w K mg base:=by
 refine ⟨f,fd,Df,bF Df fH (fun ds M k h => ?_) (fun cdv A outer s H E hr ds M k h => ?_)⟩
 ·obtain ⟨t,dx,dy,dr,xs,ys,zs,n,rfl,_⟩:=h; rfl
 obtain ⟨t,dx,dy,dr,xs,ys,zs,n,rfl,s1,s2,s3,hl,hn,hz,hx,hy,hk⟩:=h
 have cl:=R.oC hz
 have kx:=R.wA (R.aE zs)
 have ky:=R.wA zs
 cases t with
 | true =>
  cases s1
  cases s2
  cases s3
  refine aD (aO 3 fH.nd (aI aIK hr (aA (aI aIL hr (aA (aB 2 rfl (aC ⟨true,_,zs,n,rfl,rfl,by omega,by omega,hz,?_⟩)))))))
  refine aC ⟨true,_,R.aE zs,zs.length,rfl,rfl,by omega,by omega,fun z hz=>R.dW z hz,?_⟩
  refine aD (aO 4 fH.nd (aI aIK hr (aA (aB 2 rfl (aC ⟨true,_,zs,n,rfl,rfl,by omega,by omega,hz,?_⟩)))))
  have hjx:∀ j∈(R.chg (R.aE zs)).dropLast,j < n:=fun j hj=>by
   have:=R.hU (R.bY _) (R.dS _) j hj
   omega
  refine aD (fK 5 ["rows", "at_xs"] [2,3] fH.nd (bL (d8 fU (aB 4 rfl (fM (eB (lE jJ (ge_int ⟨_,rfl,⟨_,rfl,(gX (.lst _) ?_)⟩⟩))))))))
  rw [show cutD (dF (R.chg zs)) none (some (-1))=dF (R.chg zs).dropLast from (kA _).trans (gB _)]
  refine ⟨_, .inr (.inl rfl),(nL (ds:=dF (R.chg zs).dropLast) (by rw [cR,List.length_dropLast]; exact R.aQ (by omega)) (fun i acc M2=>M2=M∧acc=(((R.chg zs).dropLast.take i).map fun i=>R.ofL ((R.chg (R.aE zs)).dropLast.map (R.atS (zs.getD i Str.empty)))).map D.str) ⟨rfl,rfl⟩ ?_ ?_)⟩
  ·rintro i d acc M2 hd ⟨rfl,rfl⟩ cs C s₀ H₀ fp
   obtain ⟨j,hj,rfl⟩:=gJ hd
   have hjl:=R.hU (R.bY zs) (R.dS zs) j (List.mem_of_getElem? hj)
   have hzj:zs[j]?=some (zs.getD j Str.empty):=by rw [List.getD_eq_getElem?_getD,List.getElem?_eq_getElem hjl]; rfl
   have hzm:=List.mem_of_getElem? hzj
   refine aX (aU fun cs C s₀ H₀ fp=>(aI aIM hr (aA (aJ aF (aB 1 rfl (aB 0 rfl (aM (.lst _) (by have:=nR hzj; rw [Int.zero_add] at this; exact this) (aA (d8 fU (aB 2 rfl (fM (eB (lE jJ (ge_int ⟨_,rfl,⟨_,rfl,(gX (.lst _) (aC ?_))⟩⟩))))))))))))))
   rw [show cutD (dF (R.chg (R.aE zs))) none (some (-1))=dF (R.chg (R.aE zs)).dropLast from (kA _).trans (gB _)]
   refine ⟨_,(R.chg (R.aE zs)).dropLast,rfl,by rw [hz _ hzm]; omega,by rw [List.length_dropLast]; omega,fun j hj=>by rw [hz _ hzm]; exact hjx j hj,?_⟩
   refine ⟨rfl,?_⟩
   rw [cB hj,List.map_append]
   rfl
  rintro acc M2 ⟨rfl,rfl⟩ a ha
  rw [cR,List.take_length]
  refine iE 5 rfl bN ?_
  rw [hV ha]
  refine aH (aN (bT (aA (aT bG T.tuple R.BT (aA (aW ["xs"] [0] (bL (aB 3 rfl ⟨_, .inr (.inl rfl),(b4 (ds:=dF (R.chg (R.aE zs))) (by rw [cR]; exact R.aQ (by omega)) (fun i acc M1=>M1=M2∧acc=((R.chg (R.aE zs)).take i).map fun j=>xs.getD j .non) ⟨rfl,rfl⟩ ?_ ?_)⟩))))))))
  ·rintro i d acc M1 hd ⟨rfl,rfl⟩ cs C s₀ H₀ fp
   obtain ⟨j,hj,rfl⟩:=gJ hd
   exact aX (aU fun cs C s₀ H₀ fp=>(aJ aF (aB 1 rfl (aB 0 rfl (aM (.lst _) (xX (hx j (List.mem_of_getElem? hj))) ⟨rfl,(cB hj).symm⟩)))))
  rintro acc M1 ⟨rfl,rfl⟩
  rw [cR,List.take_length]
  refine aC (cL (.lst _) (aA (aT bG T.tuple R.BT (aA (aW ["ys"] [1] (bL (aB 4 rfl ⟨_, .inr (.inl rfl),(b4 (ds:=dF (R.chg zs)) (by rw [cR]; exact R.aQ (by omega)) (fun i acc M2=>M2=M1∧acc=((R.chg zs).take i).map fun j=>ys.getD j .non) ⟨rfl,rfl⟩ ?_ ?_)⟩)))))))
  ·rintro i d acc M2 hd ⟨rfl,rfl⟩ cs C s₀ H₀ fp
   obtain ⟨j,hj,rfl⟩:=gJ hd
   exact aX (aU fun cs C s₀ H₀ fp=>(aJ aF (aB 1 rfl (aB 0 rfl (aM (.lst _) (xX (hy j (List.mem_of_getElem? hj))) ⟨rfl,(cB hj).symm⟩)))))
  rintro acc M2 ⟨rfl,rfl⟩
  rw [cR,List.take_length]
  exact aC (cL (.lst _) (aA (aT bG T.tuple R.BT (aA (aB 5 rfl (aC (cL (.lst _) (aC ⟨(show 3≤sizeLine by decide),hk⟩))))))))
 | false =>
  cases s1
  cases s2
  cases s3
  refine aD (aO 3 fH.nd (aI aIK hr (aA (aI aIL hr (aA (aB 2 rfl (aC ⟨false,_,zs,n,rfl,rfl,by omega,by omega,hz,?_⟩)))))))
  refine aC ⟨true,_,R.aE zs,zs.length,rfl,rfl,by omega,by omega,fun z hz=>R.dW z hz,?_⟩
  refine aD (aO 4 fH.nd (aI aIK hr (aA (aB 2 rfl (aC ⟨false,_,zs,n,rfl,rfl,by omega,by omega,hz,?_⟩)))))
  have hjx:∀ j∈(R.chg (R.aE zs)).dropLast,j < n:=fun j hj=>by
   have:=R.hU (R.bY _) (R.dS _) j hj
   omega
  refine aD (fK 5 ["rows", "at_xs"] [2,3] fH.nd (bL (d8 fU (aB 4 rfl (fM (eB (lE jJ (ge_int ⟨_,rfl,⟨_,rfl,(gX (.lst _) ?_)⟩⟩))))))))
  rw [show cutD (dF (R.chg zs)) none (some (-1))=dF (R.chg zs).dropLast from (kA _).trans (gB _)]
  refine ⟨_, .inr (.inl rfl),(nL (ds:=dF (R.chg zs).dropLast) (by rw [cR,List.length_dropLast]; exact R.aQ (by omega)) (fun i acc M2=>M2=M∧acc=(((R.chg zs).dropLast.take i).map fun i=>R.ofL ((R.chg (R.aE zs)).dropLast.map (R.atS (zs.getD i Str.empty)))).map D.str) ⟨rfl,rfl⟩ ?_ ?_)⟩
  ·rintro i d acc M2 hd ⟨rfl,rfl⟩ cs C s₀ H₀ fp
   obtain ⟨j,hj,rfl⟩:=gJ hd
   have hjl:=R.hU (R.bY zs) (R.dS zs) j (List.mem_of_getElem? hj)
   have hzj:zs[j]?=some (zs.getD j Str.empty):=by rw [List.getD_eq_getElem?_getD,List.getElem?_eq_getElem hjl]; rfl
   have hzm:=List.mem_of_getElem? hzj
   refine aX (aU fun cs C s₀ H₀ fp=>(aI aIM hr (aA (aJ aF (aB 1 rfl (aB 0 rfl (aM (.tup _) (by have:=nR hzj; rw [Int.zero_add] at this; exact this) (aA (d8 fU (aB 2 rfl (fM (eB (lE jJ (ge_int ⟨_,rfl,⟨_,rfl,(gX (.lst _) (aC ?_))⟩⟩))))))))))))))
   rw [show cutD (dF (R.chg (R.aE zs))) none (some (-1))=dF (R.chg (R.aE zs)).dropLast from (kA _).trans (gB _)]
   refine ⟨_,(R.chg (R.aE zs)).dropLast,rfl,by rw [hz _ hzm]; omega,by rw [List.length_dropLast]; omega,fun j hj=>by rw [hz _ hzm]; exact hjx j hj,?_⟩
   refine ⟨rfl,?_⟩
   rw [cB hj,List.map_append]
   rfl
  rintro acc M2 ⟨rfl,rfl⟩ a ha
  rw [cR,List.take_length]
  refine iE 5 rfl bN ?_
  rw [hV ha]
  refine aH (aN (bT (aA (aT bG T.tuple R.BT (aA (aW ["xs"] [0] (bL (aB 3 rfl ⟨_, .inr (.inl rfl),(b4 (ds:=dF (R.chg (R.aE zs))) (by rw [cR]; exact R.aQ (by omega)) (fun i acc M1=>M1=M2∧acc=((R.chg (R.aE zs)).take i).map fun j=>xs.getD j .non) ⟨rfl,rfl⟩ ?_ ?_)⟩))))))))
  ·rintro i d acc M1 hd ⟨rfl,rfl⟩ cs C s₀ H₀ fp
   obtain ⟨j,hj,rfl⟩:=gJ hd
   exact aX (aU fun cs C s₀ H₀ fp=>(aJ aF (aB 1 rfl (aB 0 rfl (aM (.tup _) (xX (hx j (List.mem_of_getElem? hj))) ⟨rfl,(cB hj).symm⟩)))))
  rintro acc M1 ⟨rfl,rfl⟩
  rw [cR,List.take_length]
  refine aC (cL (.lst _) (aA (aT bG T.tuple R.BT (aA (aW ["ys"] [1] (bL (aB 4 rfl ⟨_, .inr (.inl rfl),(b4 (ds:=dF (R.chg zs)) (by rw [cR]; exact R.aQ (by omega)) (fun i acc M2=>M2=M1∧acc=((R.chg zs).take i).map fun j=>ys.getD j .non) ⟨rfl,rfl⟩ ?_ ?_)⟩)))))))
  ·rintro i d acc M2 hd ⟨rfl,rfl⟩ cs C s₀ H₀ fp
   obtain ⟨j,hj,rfl⟩:=gJ hd
   exact aX (aU fun cs C s₀ H₀ fp=>(aJ aF (aB 1 rfl (aB 0 rfl (aM (.tup _) (xX (hy j (List.mem_of_getElem? hj))) ⟨rfl,(cB hj).symm⟩)))))
  rintro acc M2 ⟨rfl,rfl⟩
  rw [cR,List.take_length]
  exact aC (cL (.lst _) (aA (aT bG T.tuple R.BT (aA (aB 5 rfl (aC (cL (.lst _) (aC ⟨(show 3≤sizeLine by decide),hk⟩))))))))
theorem aAP:FnScope ["thing", "wide"] ["thing", "wide"] (aK kU):=⟨rfl,rfl,rfl,by decide +kernel,rfl,by decide +kernel,by decide +kernel⟩
abbrev sF (P w K mg base):=Fo P w K mg base "is_row" kU ["thing", "wide"] 1 aFY
theorem aAK {f:Addr}{fd:FuncData} (Df:R.Df K mg "is_row" kU ["thing", "wide"] f fd) (T:Bt mg):sF P w K mg base:=by
 refine ⟨f,fd,Df,bF Df aAP (fun ds M k h => ?_) (fun cdv A outer s H E hr ds M k h => ?_)⟩
 ·obtain ⟨d,n,w,rfl,_⟩:=h; rfl
 obtain ⟨d,n,w,rfl,ht,hk⟩:=h
 rcases aFM d with ⟨z,rfl⟩ | ⟨e0,e1⟩
 ·have hz:=tG ht
  refine aD (bD (dI (cH (aZ (bA (cI (.inr (.inr (.inl rfl))) T.isi T.str R.BS (aB 0 rfl ⟨_, .self trivial,⟨_,rfl,?_⟩⟩)))))))
  rw [sS]
  refine bM (cT (bJ iC (aR bK T.len PySem.boot_len (aA (aB 0 rfl (aC (jB (R.aQ (by omega)) (aB 1 rfl (l8 ⟨_,rfl,?_⟩)))))))))
  by_cases h2:z.length=w
  ·rw [decide_eq_true (by omega)]
   refine bM (a9 (aH (aN (aR (fD rfl) T.all R.BAll (aA (aW [] [] (aA1 (aB 0 rfl ⟨_,rfl,(b4 (ds:=p7 z) (by rw [jQ]; exact R.aQ (by omega)) (fun i acc M'=>M'=M∧acc=((z.cps.toList.take i).map fun c=>c == 35 || c == 46).map D.bl) ⟨rfl,rfl⟩ ?_ ?_)⟩))))))))
   ·rintro i d acc M' hd ⟨rfl,rfl⟩ cs C s₀ H₀ fp
    obtain ⟨c,hc,rfl⟩:=bZ hd
    refine aX (aU fun cs C s₀ H₀ fp=>(eP rC (aB 0 rfl (ge_str (rR ?_)))))
    rw [R.aA8]
    refine ⟨rfl,?_⟩
    rw [cB hc,List.map_append]
    rfl
   rintro acc M' ⟨rfl,rfl⟩
   rw [jQ,show z.length=z.cps.toList.length from (Array.length_toList ..).symm,List.take_length]
   refine aC (iN (.lst _) ?_)
   rw [l9]
   rw [show d6 w (.str z)=z.cps.toList.all (fun c=>c == 35 || c == 46) from by show (decide (z.length=w) && _)=_; rw [decide_eq_true h2]; rfl] at hk
   exact hk
  ·rw [decide_eq_false (by omega)]
   rw [show d6 w (.str z)=false from by show (decide (z.length=w) && _)=_; rw [decide_eq_false h2]; rfl] at hk
   exact aU (aH (aN (fC hk)))
 ·rw [aGA e1] at hk
  refine aD (bD (dI (cH (aZ (bA (cI (.inr (.inr (.inl rfl))) T.isi T.str R.BS (aB 0 rfl ⟨_, .self (gG ht),⟨_,rfl,?_⟩⟩)))))))
  rw [e0]
  exact aU (aU (aH (aN (fC hk))))
theorem fX:FnScope ["rows", "xs", "ys", "wide", "high"] ["rows", "xs", "ys"] (aK i7):=⟨rfl,rfl,rfl,by decide +kernel,rfl,by decide +kernel,by decide +kernel⟩
abbrev kW (P w K mg base):=Fo P w K mg base "rows_fit" i7 ["rows", "xs", "ys"] 2 aHG
theorem uU {f:Addr}{fd:FuncData} (Df:R.Df K mg "rows_fit" i7 ["rows", "xs", "ys"] f fd) (aIN:sF P w K mg base) (T:Bt mg):kW P w K mg base:=by
 refine ⟨f,fd,Df,bF Df fX (fun ds M k h => ?_) (fun cdv A outer s H E hr ds M k h => ?_)⟩
 ·obtain ⟨t,dr,dx,dy,rs,xs,ys,n,rfl,_⟩:=h; rfl
 obtain ⟨t,dr,dx,dy,rs,xs,ys,n,rfl,s1,s2,s3,ht,l1,l2,l3,hk⟩:=h
 cases t with
 | true =>
  cases s1
  cases s2
  cases s3
  refine aD (aO 3 fX.nd (aR (iP rfl) T.max R.BMax (aA (aG dR (aR bK T.len PySem.boot_len (aA (aB 1 rfl (aC (cX (.lst _) (ge_int (bW (aA (ge_int (aC (mK ?_)))))))))))))))
  rw [maxz0]
  refine aD (aO 4 fX.nd (aR (iP rfl) T.max R.BMax (aA (aG dR (aR bK T.len PySem.boot_len (aA (aB 2 rfl (aC (cX (.lst _) (ge_int (bW (aA (ge_int (aC (mK ?_)))))))))))))))
  rw [maxz0]
  refine aH (aN (jO (eP gW (aR bK T.len PySem.boot_len (aA (aB 0 rfl (aC (cX (.lst _) (aB 4 rfl (iF ⟨_,rfl,?_⟩))))))))))
  by_cases h1:rs.length=ys.length - 1
  ·refine lV (decide_eq_true (by omega)) (iR (aR (fD rfl) T.all R.BAll (aA (aW ["wide"] [3] (bL (aB 0 rfl ⟨_, .inr (.inl rfl),(b4 (ds:=rs) (R.aQ (by omega)) (fun i acc M'=>M'=M∧acc=((rs.take i).map (d6 (xs.length - 1))).map D.bl) ⟨rfl,rfl⟩ ?_ ?_)⟩))))))
   ·rintro i d acc M' hd ⟨rfl,rfl⟩ cs C s₀ H₀ fp
    refine aX (aU fun cs C s₀ H₀ fp=>(aI aIN hr (aA (aB 0 rfl (aA (aB 1 rfl (aC ⟨d,n,_,rfl,ht d (List.mem_of_getElem? hd),⟨rfl,?_⟩⟩)))))))
    rw [cB hd,List.map_append]
    rfl
   rintro acc M' ⟨rfl,rfl⟩
   rw [List.take_length]
   refine aC (iN (.lst _) ?_)
   rw [l9]
   rw [show fF rs xs.length ys.length=rs.all (d6 (xs.length - 1)) from by unfold fF; rw [decide_eq_true h1]; rfl] at hk
   exact hk
  ·rw [show fF rs xs.length ys.length=false from by unfold fF; rw [decide_eq_false h1]; rfl] at hk
   exact nM (decide_eq_false (by omega)) hk
 | false =>
  cases s1
  cases s2
  cases s3
  refine aD (aO 3 fX.nd (aR (iP rfl) T.max R.BMax (aA (aG dR (aR bK T.len PySem.boot_len (aA (aB 1 rfl (aC (cX (.tup _) (ge_int (bW (aA (ge_int (aC (mK ?_)))))))))))))))
  rw [maxz0]
  refine aD (aO 4 fX.nd (aR (iP rfl) T.max R.BMax (aA (aG dR (aR bK T.len PySem.boot_len (aA (aB 2 rfl (aC (cX (.tup _) (ge_int (bW (aA (ge_int (aC (mK ?_)))))))))))))))
  rw [maxz0]
  refine aH (aN (jO (eP gW (aR bK T.len PySem.boot_len (aA (aB 0 rfl (aC (cX (.tup _) (aB 4 rfl (iF ⟨_,rfl,?_⟩))))))))))
  by_cases h1:rs.length=ys.length - 1
  ·refine lV (decide_eq_true (by omega)) (iR (aR (fD rfl) T.all R.BAll (aA (aW ["wide"] [3] (bL (aB 0 rfl ⟨_, .inl rfl,(b4 (ds:=rs) (R.aQ (by omega)) (fun i acc M'=>M'=M∧acc=((rs.take i).map (d6 (xs.length - 1))).map D.bl) ⟨rfl,rfl⟩ ?_ ?_)⟩))))))
   ·rintro i d acc M' hd ⟨rfl,rfl⟩ cs C s₀ H₀ fp
    refine aX (aU fun cs C s₀ H₀ fp=>(aI aIN hr (aA (aB 0 rfl (aA (aB 1 rfl (aC ⟨d,n,_,rfl,ht d (List.mem_of_getElem? hd),⟨rfl,?_⟩⟩)))))))
    rw [cB hd,List.map_append]
    rfl
   rintro acc M' ⟨rfl,rfl⟩
   rw [List.take_length]
   refine aC (iN (.lst _) ?_)
   rw [l9]
   rw [show fF rs xs.length ys.length=rs.all (d6 (xs.length - 1)) from by unfold fF; rw [decide_eq_true h1]; rfl] at hk
   exact hk
  ·rw [show fF rs xs.length ys.length=false from by unfold fF; rw [decide_eq_false h1]; rfl] at hk
   exact nM (decide_eq_false (by omega)) hk
theorem l6:FnScope ["top", "bottom", "divisor"] ["top", "bottom"] (aK k4):=⟨rfl,rfl,rfl,by decide +kernel,rfl,by decide +kernel,by decide +kernel⟩
abbrev kY (P w K mg base):=Fo P w K mg base "lowest" k4 ["top", "bottom"] 2 aEB
theorem aAD {f:Addr}{fd:FuncData} (Df:R.Df K mg "lowest" k4 ["top", "bottom"] f fd) (aIO:gF P w K mg base):kY P w K mg base:=by
 refine ⟨f,fd,Df,bF Df l6 (fun ds M k h => ?_) (fun cdv A outer s H E hr ds M k h => ?_)⟩
 ·obtain ⟨a,b,rfl,_⟩:=h; rfl
 obtain ⟨a,b,rfl,hb0,hbb,hk⟩:=h
 have hg:Int.gcd a b≠0:=fun e=>hb0 (Int.gcd_eq_zero_iff.mp e).2
 have hgl:Int.gcd a b≤b.natAbs:=Nat.le_of_dvd (by omega) (Int.gcd_dvd_natAbs_right a b)
 have hd:dv a b≠0∧(dv a b).natAbs < big:=by
  refine ⟨by unfold dv; split <;> omega,Nat.lt_of_lt_of_le (show (dv a b).natAbs < 10 ^ 1000 from ?_) (by unfold big; decide)⟩
  have:(dv a b).natAbs=Int.gcd a b:=by unfold dv; split <;> omega
  omega
 refine aD (aO 2 l6.nd (aI aIO hr (aA (aB 0 rfl (aA (aB 1 rfl (aC ⟨a,b,rfl,(aD (jT (fun Γ' M'=>M'=M∧Γ'=[some (.int a),some (.int b),some (.int (dv a b))]) (bD ?_) ?_))⟩)))))))
 ·refine bJ pE (aB 1 rfl (ge_int (gH ⟨_,rfl,(ite2 (fun hb => ?_) (fun hb => ?_))⟩)))
  ·have:=of_decide_eq_true hb
   exact aH (aO 2 l6.nd (lE jJ (aB 2 rfl ⟨_,rfl,⟨rfl,by unfold dv; rw [if_pos this]; rfl⟩⟩)))
  ·have:¬ b < 0:=fun z=>hb (decide_eq_true z)
   exact a9 ⟨rfl,by unfold dv; rw [if_neg this]; rfl⟩
 rintro Γ' M' ⟨rfl,rfl⟩
 exact aH (aN (bT (aA (aG k8 (aB 0 rfl (aB 2 rfl (bQ hd (aA (aG k8 (aB 1 rfl (aB 2 rfl (bQ hd (aC ⟨(show 2≤sizeLine by decide),hk⟩)))))))))))))
theorem uW:FnScope ["top", "bottom"] ["top", "bottom"] (aK i4):=⟨rfl,rfl,rfl,by decide +kernel,rfl,by decide +kernel,by decide +kernel⟩
abbrev pC (P w K mg base):=Fo P w K mg base "fraction" i4 ["top", "bottom"] 3 yL
theorem uT {f:Addr}{fd:FuncData} (Df:R.Df K mg "fraction" i4 ["top", "bottom"] f fd) (aIH:i0 P w K mg base) (aIP:kY P w K mg base):pC P w K mg base:=by
 refine ⟨f,fd,Df,bF Df uW (fun ds M k h => ?_) (fun cdv A outer s H E hr ds M k h => ?_)⟩
 ·obtain ⟨a,b,rfl,_⟩:=h; rfl
 obtain ⟨a,b,rfl,hb0,hbb,hk⟩:=h
 refine aD (bD (dI (cH (aZ (bA (aI aIH hr (aA (aB 0 rfl (aC ⟨_,rfl,trivial,⟨_,rfl,(bM (cT (aZ (bA (aI aIH hr (aA (aB 1 rfl (aC ⟨_,rfl,trivial,⟨_,rfl,(bM (a9 (aD (bD (bJ gW (aB 1 rfl (ge_int (iF ⟨_,rfl,(ite2 (fun hb=>absurd (of_decide_eq_true hb) (by omega)) (fun _=>a9 (aH (aN (aI aIP hr (aA (aB 0 rfl (aA ?_))))))))⟩))))))))⟩⟩))))))))⟩⟩)))))))))
 exact aB 1 rfl (aC ⟨a,b,rfl,hb0,hbb,hk⟩)
theorem aD5:FnScope ["xs", "ys", "rows"] ["xs", "ys", "rows"] (aK o4):=⟨rfl,rfl,rfl,by decide +kernel,rfl,by decide +kernel,by decide +kernel⟩
abbrev zV (P w K mg base):=Fo P w K mg base "made" o4 ["xs", "ys", "rows"] 5 aHE
theorem aDE {f:Addr}{fd:FuncData} (Df:R.Df K mg "made" o4 ["xs", "ys", "rows"] f fd) (aIQ:iY P w K mg base) (aIR:kW P w K mg base) (aIS:oF P w K mg base) (aIT:pC P w K mg base) (T:Bt mg):zV P w K mg base:=by
 refine ⟨f,fd,Df,bF Df aD5 (fun ds M k h => ?_) (fun cdv A outer s H E hr ds M k h => ?_)⟩
 ·obtain ⟨xs,ys,zs,rfl,_⟩:=h; rfl
 obtain ⟨xs,ys,zs,rfl,ux,uy,gz,hz,hk⟩:=h
 have fx:=ux.few
 have fy:=uy.few
 have mx:(xs.map D.int).length=xs.length:=List.length_map ..
 have my:(ys.map D.int).length=ys.length:=List.length_map ..
 refine aD (bD (dI (cH (aZ (bA (aI aIQ hr (aA (aB 0 rfl (aC ⟨xs,rfl,ux,⟨_,rfl,(bM (cT (aZ (bA (aI aIQ hr (aA (aB 1 rfl (aC ⟨ys,rfl,uy,⟨_,rfl,(bM (a9 (aD (bD (dI (cH (aZ (bA (cI (.inr (.inr (.inr (.inr rfl)))) T.isi T.list R.BL (aB 2 rfl ⟨_, .self trivial,⟨_,rfl,?_⟩⟩))))))))))⟩⟩))))))))⟩⟩)))))))))
 rw [lL]
 refine bM (cT (aZ (bA (aI aIR hr (aA (aB 2 rfl (aA (aB 0 rfl (aA (aB 1 rfl (aC ⟨true,_,_,_,zs.map .str,xs.map .int,ys.map .int,1,rfl,rfl,rfl,rfl,fun r hr=>(aEP (n:=50) (fun z hz=>Nat.le_trans (Nat.le_of_eq (gz z hz).1) (show _≤1000 by omega)) (by omega)).tame1 r hr,by rw [List.length_map]; omega,by omega,by omega,?_⟩)))))))))))
 refine ⟨_,rfl,?_⟩
 rw [mx,my,yZ hz (fun z hz=>(gz z hz).1),sJ gz]
 refine bM (a9 (aH (aN (aI aIS hr (aA (aW [] [] (bL (aB 0 rfl ⟨_, .inr (.inl rfl),(b4 (ds:=xs.map D.int) (by rw [List.length_map]; exact R.aQ (by omega)) (fun i acc M1=>M1=M∧acc=((xs.take i).map p1).map pairD) ⟨rfl,rfl⟩ ?_ ?_)⟩))))))))
 ·rintro i d acc M1 hd ⟨rfl,rfl⟩ cs C s₀ H₀ fp
  obtain ⟨x,hx,rfl⟩:=bZ hd
  refine aX (aU fun cs C s₀ H₀ fp=>(aI aIT hr (aA (aB 0 rfl (aA (ge_int (aC ⟨x,1,rfl,by decide,Nat.one_lt_pow (by decide) (by decide),?_⟩)))))))
  rw [low1]
  refine ⟨rfl,?_⟩
  rw [cB hx,List.map_append]
  rfl
 rintro acc M ⟨rfl,rfl⟩
 rw [List.length_map,List.take_length]
 refine aA (aW [] [] (bL (aB 1 rfl ⟨_, .inr (.inl rfl),(b4 (ds:=ys.map D.int) (by rw [List.length_map]; exact R.aQ (by omega)) (fun i acc M1=>M1=M∧acc=((ys.take i).map p1).map pairD) ⟨rfl,rfl⟩ ?_ ?_)⟩)))
 ·rintro i d acc M1 hd ⟨rfl,rfl⟩ cs C s₀ H₀ fp
  obtain ⟨x,hx,rfl⟩:=bZ hd
  refine aX (aU fun cs C s₀ H₀ fp=>(aI aIT hr (aA (aB 0 rfl (aA (ge_int (aC ⟨x,1,rfl,by decide,Nat.one_lt_pow (by decide) (by decide),?_⟩)))))))
  rw [low1]
  refine ⟨rfl,?_⟩
  rw [cB hx,List.map_append]
  rfl
 rintro acc M ⟨rfl,rfl⟩
 rw [List.length_map,List.take_length]
 exact aA (aB 2 rfl (aC ⟨true,_,_,_,fY xs,fY ys,zs,xs.length - 1,rfl,rfl,rfl,rfl,by omega,by omega,fun z hz=>(gz z hz).1,by rw [pJ]; exact eT fun z hz=>(gz z hz).1,by rw [pJ]; exact eW hz,hk⟩))
theorem aEE:FnScope ["one", "other"] ["one", "other"] (aK pK):=⟨rfl,rfl,rfl,by decide +kernel,rfl,by decide +kernel,by decide +kernel⟩
abbrev aAO (P w K mg base):=Fo P w K mg base "plus" pK ["one", "other"] 3 aF8
theorem aD3 {f:Addr}{fd:FuncData} (Df:R.Df K mg "plus" pK ["one", "other"] f fd) (aIP:kY P w K mg base):aAO P w K mg base:=by
 refine ⟨f,fd,Df,bF Df aEE (fun ds M k h => ?_) (fun cdv A outer s H E hr ds M k h => ?_)⟩
 ·obtain ⟨p,q,rfl,_⟩:=h; rfl
 obtain ⟨p,q,rfl,hp,hq,hk⟩:=h
 obtain ⟨h1,h2⟩:=zC hp.g hq.g
 unfold cQ at hk
 rw [← aEV] at hk
 exact aH (aN (aI aIP hr (aA (aG b6 (aG eS (aJ aF (aB 0 rfl (ge_int (aM (.tup _) rfl (aJ aF (aB 1 rfl (ge_int (aM (.tup _) rfl (bQ ⟨big400 hp.g.a,big400 hq.g.b⟩ (aG eS (aJ aF (aB 1 rfl (ge_int (aM (.tup _) rfl (aJ aF (aB 0 rfl (ge_int (aM (.tup _) rfl (bQ ⟨big400 hq.g.a,big400 hp.g.b⟩ (bW (aA (aG eS (aJ aF (aB 0 rfl (ge_int (aM (.tup _) rfl (aJ aF (aB 1 rfl (ge_int (aM (.tup _) rfl (bQ ⟨big400 hp.g.b,big400 hq.g.b⟩ (aC ⟨_,_,rfl,h1,h2,hk⟩)))))))))))))))))))))))))))))))))))))
theorem aCN:FnScope ["one", "other"] ["one", "other"] (aK nJ):=⟨rfl,rfl,rfl,by decide +kernel,rfl,by decide +kernel,by decide +kernel⟩
abbrev wW (P w K mg base):=Fo P w K mg base "times" nJ ["one", "other"] 3 aFJ
theorem aBF {f:Addr}{fd:FuncData} (Df:R.Df K mg "times" nJ ["one", "other"] f fd) (aIP:kY P w K mg base):wW P w K mg base:=by
 refine ⟨f,fd,Df,bF Df aCN (fun ds M k h => ?_) (fun cdv A outer s H E hr ds M k h => ?_)⟩
 ·obtain ⟨p,q,rfl,_⟩:=h; rfl
 obtain ⟨p,q,rfl,hp,hq,hk⟩:=h
 obtain ⟨h1,h2⟩:=zC hp.g hq.g
 unfold cQ at hk
 rw [← aCG] at hk
 exact aH (aN (aI aIP hr (aA (aG eS (aJ aF (aB 0 rfl (ge_int (aM (.tup _) rfl (aJ aF (aB 1 rfl (ge_int (aM (.tup _) rfl (bQ ⟨big400 hp.g.a,big400 hq.g.a⟩ (aA (aG eS (aJ aF (aB 0 rfl (ge_int (aM (.tup _) rfl (aJ aF (aB 1 rfl (ge_int (aM (.tup _) rfl (bQ ⟨big400 hp.g.b,big400 hq.g.b⟩ (aC ⟨_,_,rfl,h1,h2,hk⟩)))))))))))))))))))))))))
theorem jK:FnScope ["yard", "by_x", "by_y", "xs", "ys"] ["yard", "by_x", "by_y"] (aK hX):=⟨rfl,rfl,rfl,by decide +kernel,rfl,by decide +kernel,by decide +kernel⟩
abbrev oB (P w K mg base):=Fo P w K mg base "stretched" hX ["yard", "by_x", "by_y"] 5 u4
theorem tI {f:Addr}{fd:FuncData} (Df:R.Df K mg "stretched" hX ["yard", "by_x", "by_y"] f fd) (aIU:wW P w K mg base) (T:Bt mg):oB P w K mg base:=by
 refine ⟨f,fd,Df,bF Df jK (fun ds M k h => ?_) (fun cdv A outer s H E hr ds M k h => ?_)⟩
 ·obtain ⟨A,a,b,ha,hb,rfl,_⟩:=h; rfl
 obtain ⟨A,a,b,ha,hb,rfl,h9,g9,ba,bb,hl,gl,hk⟩:=h
 refine aD (aO 3 jK.nd (aT bG T.tuple R.BT (aA (aW ["by_x"] [1] (bL (aJ aF (aB 0 rfl (ge_int (aM (.tup _) rfl ⟨_, .inl rfl,(b4 (ds:=aP A.ws) (by rw [a6]; exact R.aQ (by omega)) (fun i acc M'=>M'=M∧acc=aP ((A.ws.take i).map (· * a))) ⟨rfl,rfl⟩ ?_ ?_)⟩)))))))))
 ·rintro i d acc M' hd ⟨rfl,rfl⟩ cs C s₀ H₀ fp
  obtain ⟨x,hx,rfl⟩:=bZ hd
  refine aX (aU fun cs C s₀ H₀ fp=>(aI aIU hr (aA (aB 0 rfl (aA (aB 1 rfl (aC ⟨_,_,rfl,h9 x (List.mem_of_getElem? hx),ba,⟨rfl,?_⟩⟩)))))))
  rw [cB hx,← eN]
  rfl
 rintro acc M ⟨rfl,rfl⟩
 rw [a6,List.take_length]
 refine aC (cL (.lst _) (aD (aO 4 jK.nd (aT bG T.tuple R.BT (aA (aW ["by_y"] [2] (bL (aJ aF (aB 0 rfl (ge_int (aM (.tup _) rfl ⟨_, .inl rfl,(b4 (ds:=aP A.us) (by rw [a6]; exact R.aQ (by omega)) (fun i acc M'=>M'=M∧acc=aP ((A.us.take i).map (· * b))) ⟨rfl,rfl⟩ ?_ ?_)⟩)))))))))))
 ·rintro i d acc M' hd ⟨rfl,rfl⟩ cs C s₀ H₀ fp
  obtain ⟨x,hx,rfl⟩:=bZ hd
  refine aX (aU fun cs C s₀ H₀ fp=>(aI aIU hr (aA (aB 0 rfl (aA (aB 1 rfl (aC ⟨_,_,rfl,g9 x (List.mem_of_getElem? hx),bb,⟨rfl,?_⟩⟩)))))))
  rw [cB hx,← eN]
  rfl
 rintro acc M ⟨rfl,rfl⟩
 rw [a6,List.take_length]
 exact aC (cL (.lst _) (aH (aN (bT (aA (aB 3 rfl (aA (aB 4 rfl (aA (aJ aF (aB 0 rfl (ge_int (aM (.tup _) rfl (aC ⟨(show 3≤sizeLine by decide),hk⟩))))))))))))))
theorem aBC:FnScope ["yard", "x", "y"] ["yard", "x", "y"] (aK nG):=⟨rfl,rfl,rfl,by decide +kernel,rfl,by decide +kernel,by decide +kernel⟩
abbrev wT (P w K mg base):=Fo P w K mg base "moved" nG ["yard", "x", "y"] 5 aC8
theorem aBU {f:Addr}{fd:FuncData} (Df:R.Df K mg "moved" nG ["yard", "x", "y"] f fd) (aIV:aAO P w K mg base) (T:Bt mg):wT P w K mg base:=by
 refine ⟨f,fd,Df,bF Df aBC (fun ds M k h => ?_) (fun cdv A outer s H E hr ds M k h => ?_)⟩
 ·obtain ⟨A,a,b,rfl,_⟩:=h; rfl
 obtain ⟨A,a,b,rfl,h9,g9,ba,bb,hl,gl,hk⟩:=h
 refine aH (aN (bT (aA (aT bG T.tuple R.BT (aA (aW ["x"] [1] (bL (aJ aF (aB 0 rfl (ge_int (aM (.tup _) rfl ⟨_, .inl rfl,(b4 (ds:=aP A.ws) (by rw [a6]; exact R.aQ (by omega)) (fun i acc M'=>M'=M∧acc=aP ((A.ws.take i).map (· + a))) ⟨rfl,rfl⟩ ?_ ?_)⟩)))))))))))
 ·rintro i d acc M' hd ⟨rfl,rfl⟩ cs C s₀ H₀ fp
  obtain ⟨x,hx,rfl⟩:=bZ hd
  refine aX (aU fun cs C s₀ H₀ fp=>(aI aIV hr (aA (aB 0 rfl (aA (aB 1 rfl (aC ⟨_,_,rfl,h9 x (List.mem_of_getElem? hx),ba,⟨rfl,?_⟩⟩)))))))
  rw [cB hx,← eN]
  rfl
 rintro acc M ⟨rfl,rfl⟩
 rw [a6,List.take_length]
 refine aC (cL (.lst _) (aA (aT bG T.tuple R.BT (aA (aW ["y"] [2] (bL (aJ aF (aB 0 rfl (ge_int (aM (.tup _) rfl ⟨_, .inl rfl,(b4 (ds:=aP A.us) (by rw [a6]; exact R.aQ (by omega)) (fun i acc M'=>M'=M∧acc=aP ((A.us.take i).map (· + b))) ⟨rfl,rfl⟩ ?_ ?_)⟩))))))))))
 ·rintro i d acc M' hd ⟨rfl,rfl⟩ cs C s₀ H₀ fp
  obtain ⟨x,hx,rfl⟩:=bZ hd
  refine aX (aU fun cs C s₀ H₀ fp=>(aI aIV hr (aA (aB 0 rfl (aA (aB 1 rfl (aC ⟨_,_,rfl,g9 x (List.mem_of_getElem? hx),bb,⟨rfl,?_⟩⟩)))))))
  rw [cB hx,← eN]
  rfl
 rintro acc M ⟨rfl,rfl⟩
 rw [a6,List.take_length]
 exact aC (cL (.lst _) (aA (aJ aF (aB 0 rfl (ge_int (aM (.tup _) rfl (aC ⟨(show 3≤sizeLine by decide),hk⟩)))))))
theorem eI:FnScope ["_law_feed_here", "_law_xs", "_law_ys", "_law_share", "_law_rows", "_law_y", "_law_yard_here", "_law_some", "_law_by"] ["_law_feed_here"] (aK nS):=⟨rfl,rfl,rfl,by decide +kernel,rfl,by decide +kernel,by decide +kernel⟩
abbrev wO (P w K mg base):=Fo P w K mg base "_law_yard" nS ["_law_feed_here"] 7 aEL
theorem aBO {f:Addr}{fd:FuncData} (Df:R.Df K mg "_law_yard" nS ["_law_feed_here"] f fd) (aID:m6 P w K mg base) (aIW:vV P w K mg base) (aIF:mD P w K mg base) (aIX:zV P w K mg base) (aIY:oB P w K mg base) (aIZ:wT P w K mg base) (T:Bt mg):wO P w K mg base:=by
 refine ⟨f,fd,Df,bF Df eI (fun ds M k h => ?_) (fun cdv A outer s H E hr ds M k h => ?_)⟩
 ·obtain ⟨p,b,rfl,_⟩:=h; rfl
 obtain ⟨p,b,rfl,hF0,hb,hk⟩:=h
 refine aD (aO 1 eI.nd (aI aIW hr (aA (aB 0 rfl (aC ⟨p,_,rfl,hF0,by omega,fun xs M1 ux l2x hF1 hB1 => ?_⟩)))))
 refine aD (aO 2 eI.nd (aI aIW hr (aA (aB 0 rfl (aC ⟨p,_,rfl,hF1,by omega,fun ys M2 uy l2y hF2 hB2 => ?_⟩)))))
 refine aD (aO 3 eI.nd (aI aID hr (aA (aB 0 rfl (aA (ge_int (aC ⟨p,_,_,rfl,by decide,by decide,hF2,by omega,fun z3 M3 z30 z31 hF3 hB3 hE3 => ?_⟩)))))))
 have fx:=ux.few
 have fy:=uy.few
 have hB4:=(hB1.trans hB2).trans hB3
 refine aD (aO 4 eI.nd (p0 (aC ⟨(show 0≤sizeLine by decide),fun a ha => ?_⟩)))
 have hap:a≠p:=hF3.ne ha
 have haM:M a=none:=hB4.none_of ha hap
 have lys:(cutD (ys.map D.int) (some 1) none).length=ys.length - 1:=by rw [o8,List.length_drop,List.length_map]
 have lxs:(cutD (xs.map D.int) (some 1) none).length=xs.length - 1:=by rw [o8,List.length_drop,List.length_map]
 refine aD (jM (bL (d8 fU (aB 2 rfl (eB (ge_int ⟨_,rfl,(fM (gX (.lst _) ⟨_, .inr (.inl rfl),(⟨fun i Γ' M'=>∃ (zs:List Str) (v5:Option D),Γ'=[some (.mt p),some (.lst (xs.map .int)),some (.lst (ys.map .int)),some (.int z3),some (.mt a),v5,none,none,none]∧M' a=some (.lst (zs.map .str))∧FdM M' p (b+41+12 * i)∧cK p M M'∧zs.length=i∧R.Good (xs.length - 1) zs,⟨[],_,rfl,bN,(hF3.new hap).mono (by omega),hB4.new haM,rfl,fun z hz=>(nomatch hz)⟩,?_,?_⟩)⟩))⟩))))))
 ·rintro i d Γ' M' hd ⟨zs,v5,rfl,hM,hF,hB,hl,hg⟩
  have hi:i < ys.length - 1:=by rw [← lys]; exact (List.getElem?_eq_some_iff.mp hd).1
  refine eQ 5 eI.nd (aH (wV (fJ PySem.F.plainAttrs_list PySem.F.slot_list_append PySem.F.type_list_append m9 (aB 4 rfl (⟨⟨rfl,_,hM⟩,aA (fJ PySem.F.plainAttrs_str PySem.F.slot_str_join PySem.F.type_str_join kL (ge_str ⟨rfl,aA (aW ["_law_feed_here", "_law_share"] [0,3] (bL (d8 fU (aB 1 rfl (eB (ge_int ⟨_,rfl,(fM (gX (.lst _) ⟨_, .inr (.inl rfl),(b4 (by rw [lxs]; exact R.aQ (by omega)) (fun i2 acc M2=>∃ qs:List Nat,acc=(qs.map fun c=>(⟨#[c]⟩:Str)).map D.str∧(∀ c∈qs,c=35∨c=46)∧qs.length=i2∧FdM M2 p (b+41+12 * i+i2)∧cK p M M2∧M2 a=some (.lst (zs.map .str))) ⟨[],rfl,fun c hc=>(nomatch hc),rfl,hF.mono (by omega),hB,hM⟩ ?_ ?_)⟩))⟩))))))⟩))⟩)))))
  ·rintro i2 d2 acc M2 hd2 ⟨qs,rfl,hqs,hl2,hF2',hB2',hM2⟩ cs C s₀ H₀ fp
   have hi2:i2 < xs.length - 1:=by rw [← lxs]; exact (List.getElem?_eq_some_iff.mp hd2).1
   refine aX (aU fun cs C s₀ H₀ fp=>(aJ aF (ge_str (aT aAW T.int R.BI (aA (eP aC0 (aI aID hr (aA (aB 1 rfl (aA (ge_int (aC ⟨p,_,_,rfl,by decide,by decide,hF2',by omega,fun z4 M4 z40 z41 hF4 hB4' hE4 => ?_⟩))))))))))))
   refine aB 2 rfl (gH (aC (aDD (pA (by decide +kernel) (aA4 _) ⟨qs++[_],by rw [List.map_append,List.map_append]; rfl,fun q hq => ?_,by rw [List.length_append,hl2]; rfl,hF4.mono (by omega),hB2'.trans hB4',hB4' a _ hap hM2⟩))))
   rcases List.mem_append.mp hq with hq | hq
   ·exact hqs q hq
   ·rw [List.mem_singleton] at hq
    rw [hq]
    split
    ·exact .inr rfl
    ·exact .inl rfl
  rintro acc M2 ⟨qs,rfl,hqs,hl2,hF2',hB2',hM2⟩
  rw [lxs] at hl2 hF2'
  refine aC (kP (.lst _) (by decide +kernel) (by rw [aDP,List.length_map]; omega) (aC (qO hM2 (by rw [List.length_map,hl]; exact Nat.lt_of_le_of_lt (show i≤50 by omega) (by decide)) ?_)))
  rw [R.j5,R.pL]
  exact ⟨zs++[R.ofL qs],_,rfl,by rw [bN,List.map_append]; rfl,(hF2'.new hap).mono (by omega),hB2'.new haM,by rw [List.length_append,hl]; rfl,yG hg hl2 hqs⟩
 rintro Γ' M' ⟨zs,v5,rfl,hM,hF,hB,hl,hg⟩
 rw [lys] at hl hF
 refine iE 4 rfl hM ?_
 have hF5:=hF.del hap
 have hB5:=hB.del haM
 refine aD (aO 6 eI.nd (aI aIX hr (aA (aT eF T.list R.BL (aA (aB 1 rfl (aC (jD (.lst _) (aA (aT eF T.list R.BL (aA (aB 2 rfl (aC (jD (.lst _) (aA (aB 4 rfl (aC ⟨xs,ys,zs,rfl,ux,uy,hg,hl,?_⟩)))))))))))))))))
 rw [aBK ux.up uy.up hg hl]
 refine aD (fK 7 ["_law_feed_here"] [0] eI.nd (gP T.range (aA (ge_int (aC ⟨_,rfl,by decide,by decide,?_⟩)))))
 refine nL (ds:=kF 0 2) (by decide) (fun j acc N'=>∃ ps:List Rat,acc=aP ps∧ps.length=j∧(∀ r∈ps,Fr 2520 1000000 r)∧FdM N' p (b+130+2 * j)∧cK p M N') ⟨[],rfl,rfl,(fun r h=>nomatch h),hF5.mono (by omega),hB5⟩ ?_ ?_
 ·rintro j d acc N' hd ⟨ps,rfl,hpl,hps,hFj,hBj⟩ cs C s₀ H₀ fp
  obtain ⟨hj,rfl⟩:=dB hd
  refine aX (aU fun cs C s₀ H₀ fp=>(aI aIF hr (aA (aG dR (aI aID hr (aA (aB 1 rfl (aA (ge_int (aC ⟨p,_,_,rfl,by decide,by decide,hFj,by omega,fun z1 N1 z10 z11 hF1 hB1 hE1 => ?_⟩))))))))))
  refine ge_int (bW (aA (aG b6 (ge_int (aI aID hr (aA (aB 1 rfl (aA (ge_int (aC ⟨p,_,_,rfl,by decide,by decide,hF1,by omega,fun z2 N2 z20 z21 hF2 hB2 hE2 => ?_⟩))))))))))
  refine bW (aC ⟨_,_,rfl,by omega,Int.lt_of_lt_of_le (show _ < (20:Int) by omega) (by decide),?_⟩)
  rw [lH (by omega)]
  refine ⟨ps++[_],by rw [← eN]; rfl,by rw [List.length_append,hpl]; rfl,fun r hr => ?_,hF2.mono (by omega),(hBj.trans hB1).trans hB2⟩
  rcases List.mem_append.mp hr with hr | hr
  ·exact hps r hr
  ·rw [List.mem_singleton] at hr
   subst hr
   exact zJ (by omega) (by omega) (by omega)
 rintro acc N7 ⟨ps,rfl,hpl,hps7,hF7,hB7⟩ c7 hc7
 rw [bS] at hpl hF7
 obtain ⟨a7,b7,rfl⟩:=tH hpl
 refine iE 7 rfl bN ?_
 rw [hV hc7]
 refine aD (fK 8 ["_law_feed_here"] [0] eI.nd (gP T.range (aA (ge_int (aC ⟨_,rfl,by decide,by decide,?_⟩)))))
 refine nL (ds:=kF 0 2) (by decide) (fun j acc N'=>∃ ps:List Rat,acc=aP ps∧ps.length=j∧(∀ r∈ps,Fr 2520 1000000 r∧0 < r)∧FdM N' p (b+140+2 * j)∧cK p M N') ⟨[],rfl,rfl,(fun r h=>nomatch h),hF7.mono (by omega),hB7⟩ ?_ ?_
 ·rintro j d acc N' hd ⟨ps,rfl,hpl,hps,hFj,hBj⟩ cs C s₀ H₀ fp
  obtain ⟨hj,rfl⟩:=dB hd
  refine aX (aU fun cs C s₀ H₀ fp=>(aI aIF hr (aA (aG b6 (ge_int (aI aID hr (aA (aB 1 rfl (aA (ge_int (aC ⟨p,_,_,rfl,by decide,by decide,hFj,by omega,fun z1 N1 z10 z11 hF1 hB1 hE1 => ?_⟩)))))))))))
  refine bW (aA (aG b6 (ge_int (aI aID hr (aA (aB 1 rfl (aA (ge_int (aC ⟨p,_,_,rfl,by decide,by decide,hF1,by omega,fun z2 N2 z20 z21 hF2 hB2 hE2 => ?_⟩)))))))))
  refine bW (aC ⟨_,_,rfl,by omega,Int.lt_of_lt_of_le (show _ < (20:Int) by omega) (by decide),?_⟩)
  rw [lH (by omega)]
  refine ⟨ps++[_],by rw [← eN]; rfl,by rw [List.length_append,hpl]; rfl,fun r hr => ?_,hF2.mono (by omega),(hBj.trans hB1).trans hB2⟩
  rcases List.mem_append.mp hr with hr | hr
  ·exact hps r hr
  ·rw [List.mem_singleton] at hr
   subst hr
   exact ⟨zJ (by omega) (by omega) (by omega),div_pos (by omega) (by omega)⟩
 rintro acc N8 ⟨ps,rfl,hpl,hps8,hF8,hB8⟩ c8 hc8
 rw [bS] at hpl hF8
 obtain ⟨a8,b8,rfl⟩:=tH hpl
 refine iE 8 rfl bN ?_
 rw [hV hc8]
 have q1:=hps7 a7 (by simp)
 have q2:=hps7 b7 (by simp)
 have q3:=hps8 a8 (by simp)
 have q4:=hps8 b8 (by simp)
 obtain ⟨sm,s1,s2,s3,s4⟩:=aGW ux uy hg hl q3.2 q4.2 q3.1 q4.1 q1 q2
 obtain ⟨_,_,l3,l4⟩:=sR ux uy hg hl
 have bq:∀ {r:Rat},Fr 2520 1000000 r→Bq r:=fun f=>f.bq (by decide) (by decide +kernel) (by decide +kernel)
 refine aH (aN (aI aIZ hr (aA (aI aIY hr (aA (aB 6 rfl (aA (aJ aF (aB 8 rfl (ge_int (aM (.lst _) rfl (aA (aJ aF (aB 8 rfl (ge_int (aM (.lst _) rfl (aC ⟨_,a8,b8,q3.2,q4.2,rfl,s1,s2,bq q3.1,bq q4.1,by omega,by omega,?_⟩)))))))))))))))))
 exact aA (aJ aF (aB 7 rfl (ge_int (aM (.lst _) rfl (aA (aJ aF (aB 7 rfl (ge_int (aM (.lst _) rfl (aC ⟨_,a7,b7,rfl,s3,s4,bq q1,bq q2,(by show (List.map _ _).length≤_; rw [List.length_map]; omega),(by show (List.map _ _).length≤_; rw [List.length_map]; omega),(hk _ _ sm (hF8.mono (by omega)) hB8)⟩))))))))))
theorem jY:FnScope ["number", "top"] ["number"] (aK fT):=⟨rfl,rfl,rfl,by decide +kernel,rfl,by decide +kernel,by decide +kernel⟩
abbrev fN (P w K mg base):=Fo P w K mg base "shown_number" fT ["number"] 2 wJ
theorem o9 {f:Addr}{fd:FuncData} (Df:R.Df K mg "shown_number" fT ["number"] f fd) (T:Bt mg):fN P w K mg base:=by
 refine ⟨f,fd,Df,bF Df jY (fun ds M k h => ?_) (fun cdv A outer s H E hr ds M k h => ?_)⟩
 ·obtain ⟨q,rfl,_⟩:=h; rfl
 obtain ⟨q,rfl,hq,hk⟩:=h
 have hd:((q.den:Int)).natAbs < 10 ^ 60:=by rw [Int.natAbs_natCast]; exact hq.b
 have l1:=(fG hq.a).2.1
 have l2:=(fG hd).2.1
 refine aD (aO 1 jY.nd (aT iM T.str R.BS (aA (aJ aF (aB 0 rfl (ge_int (aM (.tup _) rfl (aC (kJ (kT hq.a) (aH (aN (mH (bJ gW (aJ aF (aB 0 rfl (ge_int (aM (.tup _) rfl (ge_int (iF ⟨_,rfl,?_⟩)))))))))))))))))))
 unfold nT at hk
 refine ite2 (fun h1 => ?_) (fun h1 => ?_)
 ·have e:(q.den:Int)=1:=of_decide_eq_true h1
  rw [if_pos (show q.den=1 by omega)] at hk
  exact aB 1 rfl hk
 have e:¬ (q.den:Int)=1:=fun z=>h1 (decide_eq_true z)
 rw [if_neg (show ¬ q.den=1 by omega)] at hk
 have ls:("/" : Str).length=1:=by decide +kernel
 exact aG cG (aG cG (aB 1 rfl (ge_str (dL (R.aQ (by show (iT q.num).length+_≤_; omega)) (aT iM T.str R.BS (aA (aJ aF (aB 0 rfl (ge_int (aM (.tup _) rfl (aC (kJ (kT hd) (dL (R.aQ (by rw [cM]; show (iT q.num).length+_+(iT (q.den:Int)).length≤_; omega)) hk)))))))))))))
theorem pN:FnScope ["text"] ["text"] (aK f9):=⟨rfl,rfl,rfl,by decide +kernel,rfl,by decide +kernel,by decide +kernel⟩
abbrev lX (P w K mg base):=Fo P w K mg base "are_figures" f9 ["text"] 1 aHQ
theorem pX {f:Addr}{fd:FuncData} (Df:R.Df K mg "are_figures" f9 ["text"] f fd) (T:Bt mg) {tF:Tok} (CF:mg "MOST_FIGURES" = some (.int 60 tF)):lX P w K mg base:=by
 refine ⟨f,fd,Df,bF Df pN (fun ds M k h => ?_) (fun cdv A outer s H E hr ds M k h => ?_)⟩
 ·obtain ⟨z,rfl,_⟩:=h; rfl
 obtain ⟨z,rfl,hd,hk⟩:=h
 have l0:1≤z.length:=by
  have:=List.length_pos_iff.mpr hd.ne
  rw [Array.length_toList] at this
  exact this
 have l1:=hd.le
 refine aH (aN (jO (r0 rO rO (ge_int (aR bK T.len PySem.boot_len (aA (aB 0 rfl (aC (jB (R.aQ (by omega)) (gH ⟨_,rfl,lV (decide_eq_true (by omega)) (jR CF (gH ⟨_,rfl,lV (decide_eq_true (by omega)) (iR (aR (fD rfl) T.all R.BAll (aA (aW [] [] (aA1 (aB 0 rfl ⟨_,rfl,(b4 (by rw [jQ]; exact R.aQ (by omega)) (fun i acc M'=>M'=M∧acc=(List.replicate i true).map D.bl) ⟨rfl,rfl⟩ ?_ ?_)⟩))))))⟩))⟩))))))))))
 ·rintro i d acc M' hd2 ⟨rfl,rfl⟩ cs C s₀ H₀ fp
  obtain ⟨c,hc,rfl⟩:=bZ hd2
  have hc2:=hd.all c (List.mem_of_getElem? hc)
  refine aX (aU fun cs C s₀ H₀ fp=>(eP rC (aB 0 rfl (ge_str (rR ⟨rfl,?_⟩)))))
  rw [PyProof.Rows.empty_one,decide_eq_true (aG3 hc2),List.replicate_succ',List.map_append]
  rfl
 rintro acc M' ⟨rfl,rfl⟩
 refine aC (iN (.lst _) ?_)
 rw [all_true]
 exact hk
theorem aB2:FnScope ["one", "other"] ["one", "other"] (aK nC):=⟨rfl,rfl,rfl,by decide +kernel,rfl,by decide +kernel,by decide +kernel⟩
abbrev vS (P w K mg base):=Fo P w K mg base "under" nC ["one", "other"] 1 aFC
theorem aBM {f:Addr}{fd:FuncData} (Df:R.Df K mg "under" nC ["one", "other"] f fd):vS P w K mg base:=by
 refine ⟨f,fd,Df,bF Df aB2 (fun ds M k h => ?_) (fun cdv A outer s H E hr ds M k h => ?_)⟩
 ·obtain ⟨p,q,rfl,_⟩:=h; rfl
 obtain ⟨p,q,rfl,⟨p1,p2⟩,⟨q1,q2⟩,hk⟩:=h
 exact aH (aN (eP pE (aG eS (aJ aF (aB 0 rfl (ge_int (aM (.tup _) rfl (aJ aF (aB 1 rfl (ge_int (aM (.tup _) rfl (bQ ⟨big400 p1,big400 q2⟩ (aG eS (aJ aF (aB 1 rfl (ge_int (aM (.tup _) rfl (aJ aF (aB 0 rfl (ge_int (aM (.tup _) rfl (bQ ⟨big400 q1,big400 p2⟩ (gH hk)))))))))))))))))))))))
theorem r8:FnScope ["thing"] ["thing"] (aK iB):=⟨rfl,rfl,rfl,by decide +kernel,rfl,by decide +kernel,by decide +kernel⟩
abbrev kD (P w K mg base):=Fo P w K mg base "is_number" iB ["thing"] 2 aAC
theorem tW {f:Addr}{fd:FuncData} (Df:R.Df K mg "is_number" iB ["thing"] f fd) (aIH:i0 P w K mg base) (aIO:gF P w K mg base) (T:Bt mg):kD P w K mg base:=by
 refine ⟨f,fd,Df,bF Df r8 (fun ds M k h => ?_) (fun cdv A outer s H E hr ds M k h => ?_)⟩
 ·obtain ⟨d,n,rfl,_⟩:=h; rfl
 obtain ⟨d,n,rfl,ht,hk⟩:=h
 rcases o0 d with ⟨ls,rfl⟩ | ⟨e0,e1⟩
 ·obtain ⟨hl,m,rfl,hm⟩:=gE ht
  refine aD (bD (dI (cH (aZ (bA (cI (.inr (.inr (.inr (.inl rfl)))) T.isi T.tuple R.BT (aB 0 rfl ⟨_, .self trivial,⟨_,rfl,?_⟩⟩)))))))
  rw [tT]
  refine bM (cT (bJ iC (aR bK T.len PySem.boot_len (aA (aB 0 rfl (aC (cX (.tup _) (ge_int (l8 ⟨_,rfl,?_⟩)))))))))
  by_cases h2:ls.length=2
  ·rw [decide_eq_true (by omega)]
   refine bM (a9 ?_)
   obtain ⟨a,b,rfl⟩:∃ a b,ls=[a,b]:=by
    match ls,h2 with
    | [a,b],_=>exact ⟨a,b,rfl⟩
   have sa:=gG (hm a (by simp))
   have sb:=gG (hm b (by simp))
   refine aD (bD (dI (cH (aZ (bA (aI aIH hr (aA (aJ aF (aB 0 rfl (ge_int (aM (.tup _) rfl (aC ⟨a,rfl,sa,⟨_,rfl,?_⟩⟩))))))))))))
   rcases sP a with ⟨i,rfl⟩ | ⟨e0,_⟩
   ·refine bM (cT (aZ (bA (aI aIH hr (aA (aJ aF (aB 0 rfl (ge_int (aM (.tup _) rfl (aC ⟨b,rfl,sb,⟨_,rfl,?_⟩⟩))))))))))
    rcases sP b with ⟨j,rfl⟩ | ⟨e0,_⟩
    ·refine bM (a9 (aH (aN (jO (eP aC0 (aJ aF (aB 0 rfl (ge_int (aM (.tup _) rfl (ge_int (gH ⟨_,rfl,?_⟩)))))))))))
     have hk':k (.bl (decide (1≤j) && decide (Int.gcd i j=1))) M:=hk
     by_cases h1:1≤j
     ·rw [decide_eq_true h1] at hk'
      refine lV (decide_eq_true h1) (iR (eP gW (aI aIO hr (aA (aJ aF (aB 0 rfl (ge_int (aM (.tup _) rfl (aA (aJ aF (aB 0 rfl (ge_int (aM (.tup _) rfl (aC ⟨i,j,rfl,(ge_int (iF ?_))⟩))))))))))))))
      rw [Bool.true_and] at hk'
      rw [show decide (((Int.gcd i j:Nat):Int)=1)=decide (Int.gcd i j=1) from by congr 1; exact propext (by omega)]
      exact hk'
     ·rw [decide_eq_false h1] at hk'
      exact nM (decide_eq_false h1) hk'
    ·rw [e0]
     rw [nU (fun _ _ z=>by injection z with z; injection z with _ z; injection z with z; rw [z] at e0; cases e0)] at hk
     exact aU (aH (aN (fC hk)))
   ·rw [e0]
    rw [nU (fun _ _ z=>by injection z with z; injection z with z; rw [z] at e0; cases e0)] at hk
    exact aU (aU (aH (aN (fC hk))))
  ·rw [decide_eq_false (by omega)]
   rw [nU (fun _ _ z=>by injection z with z; rw [z] at h2; exact h2 rfl)] at hk
   exact aU (aH (aN (fC hk)))
 ·rw [nU (fun _ _=>e1 _)] at hk
  refine aD (bD (dI (cH (aZ (bA (cI (.inr (.inr (.inr (.inl rfl)))) T.isi T.tuple R.BT (aB 0 rfl ⟨_, .self (gG ht),⟨_,rfl,?_⟩⟩)))))))
  rw [e0]
  exact aU (aU (aH (aN (fC hk))))
theorem lY:FnScope ["thing"] ["thing"] (aK dQ):=⟨rfl,rfl,rfl,by decide +kernel,rfl,by decide +kernel,by decide +kernel⟩
abbrev iL (P w K mg base):=Fo P w K mg base "are_number_lines" dQ ["thing"] 3 aEU
theorem lZ {f:Addr}{fd:FuncData} (Df:R.Df K mg "are_number_lines" dQ ["thing"] f fd) (aI0:kD P w K mg base) (aI1:vS P w K mg base) (T:Bt mg):iL P w K mg base:=by
 refine ⟨f,fd,Df,bF Df lY (fun ds M k h => ?_) (fun cdv A outer s H E hr ds M k h => ?_)⟩
 ·obtain ⟨d,n,rfl,_⟩:=h; rfl
 obtain ⟨d,n,rfl,ht,hk⟩:=h
 rcases o0 d with ⟨ls,rfl⟩ | ⟨e0,e1⟩
 ·obtain ⟨hl,m,rfl,hm⟩:=gE ht
  refine aD (bD (dI (cH (aZ (bA (cI (.inr (.inr (.inr (.inl rfl)))) T.isi T.tuple R.BT (aB 0 rfl ⟨_, .self trivial,⟨_,rfl,?_⟩⟩)))))))
  rw [tT]
  refine bM (cT (aZ (bA (aR (fD rfl) T.all R.BAll (aA (aW [] [] (bL (aB 0 rfl ⟨_, .inl rfl,(b4 (ds:=ls) (R.aQ (by omega)) (fun i acc M'=>M'=M∧acc=((ls.take i).map gY).map D.bl) ⟨rfl,rfl⟩ ?_ ?_)⟩))))))))
  ·rintro i d acc M' hd ⟨rfl,rfl⟩ cs C s₀ H₀ fp
   refine aX (aU fun cs C s₀ H₀ fp=>(aI aI0 hr (aA (aB 0 rfl (aC ⟨d,m,rfl,hm d (List.mem_of_getElem? hd),⟨rfl,?_⟩⟩)))))
   rw [cB hd,List.map_append]
   rfl
  rintro acc M' ⟨rfl,rfl⟩
  rw [List.take_length]
  refine aC (iN (.lst _) ⟨_,rfl,?_⟩)
  rw [l9]
  cases ha:ls.all gY with
  | false =>
   refine aU (aH (aN (fC ?_)))
   rw [show dC (.tup ls)=false from by show (ls.all gY && _)=false; rw [ha]; rfl] at hk
   exact hk
  | true =>
   obtain ⟨ps,rfl,hps⟩:=mX ha
   have hb:∀ p∈ps,p.1.natAbs < 10 ^ 65∧p.2.natAbs < 10 ^ 65:=fun p hp=>by
    obtain ⟨_,m',rfl,hm'⟩:=gE (hm _ (List.mem_map.mpr ⟨p,hp,rfl⟩))
    exact ⟨sO (hm' _ (by simp)),sO (hm' _ (by simp))⟩
   rw [show dC (.tup (ps.map pairD))=upP ps from by show (_ && upP _)=_; rw [ha,qJ]; rfl] at hk
   rw [List.length_map] at hl
   refine bM (a9 (aH (aN (aR (fD rfl) T.all R.BAll (aA (aW ["thing"] [0] (wP T.range (aA (ge_int (aA (aR bK T.len PySem.boot_len (aA (aB 0 rfl (aC (cX (.tup _) (aC ?_))))))))))))))))
   rw [List.length_map]
   refine ⟨_,_,rfl,⟨by omega,by omega,by omega,by omega⟩,?_⟩
   rw [show (((ps.length:Nat):Int) - 1).toNat=ps.length - 1 by omega]
   refine b4 (by rw [bS]; exact R.aQ (by omega)) (fun i acc M1=>M1=M'∧acc=((List.range i).map fun i=>ltP (ps.getD i (0,1)) (ps.getD (i+1) (0,1))).map D.bl) ⟨rfl,rfl⟩ ?_ ?_
   ·rintro i d acc M1 hd ⟨rfl,rfl⟩ cs C s₀ H₀ fp
    obtain ⟨hi,rfl⟩:=dB hd
    obtain ⟨a1,b1⟩:=vY (ps:=ps) (i:=i) (by omega)
    obtain ⟨a2,b2⟩:=vY (ps:=ps) (i:=i+1) (by omega)
    refine aX (aU fun cs C s₀ H₀ fp=>(aI aI1 hr (aA (aJ aF (aB 1 rfl (aG dR (aB 0 rfl (ge_int (bW (aM (.tup _) (by rw [show (1:Int)+(i:Int) - 1=((i:Nat):Int) by omega]; exact a1) (aA (aJ aF (aB 1 rfl (aB 0 rfl (aM (.tup _) (by rw [show (1:Int)+(i:Int)=((i+1:Nat):Int) by omega]; exact a2) (aC ⟨_,_,rfl,w65 (hb _ b1),w65 (hb _ b2),⟨rfl,?_⟩⟩))))))))))))))))
    rw [List.range_succ,List.map_append,List.map_append]
    rfl
   rintro acc M1 ⟨rfl,rfl⟩
   rw [bS]
   refine aC (iN (.lst _) ?_)
   rw [l9]
   exact hk
 ·rw [aB5 e1] at hk
  refine aD (bD (dI (cH (aZ (bA (cI (.inr (.inr (.inr (.inl rfl)))) T.isi T.tuple R.BT (aB 0 rfl ⟨_, .self (gG ht),⟨_,rfl,?_⟩⟩)))))))
  rw [e0]
  exact aU (aU (aH (aN (fC hk))))
theorem eH:FnScope ["text", "halves", "top", "bottom", "number"] ["text"] (aK f8):=⟨rfl,rfl,rfl,by decide +kernel,rfl,by decide +kernel,by decide +kernel⟩
abbrev iX (P w K mg base):=Fo P w K mg base "read_number" f8 ["text"] 4 aGT
theorem pT {f:Addr}{fd:FuncData} (Df:R.Df K mg "read_number" f8 ["text"] f fd) (aI2:lX P w K mg base) (aI0:kD P w K mg base) (aI3:fN P w K mg base) (T:Bt mg):iX P w K mg base:=by
 refine ⟨f,fd,Df,bF Df eH (fun ds M k h => ?_) (fun cdv A outer s H E hr ds M k h => ?_)⟩
 ·obtain ⟨q,rfl,_⟩:=h; rfl
 obtain ⟨q,rfl,hq,hk⟩:=h
 have hd:((q.den:Int)).natAbs < 10 ^ 60:=by rw [Int.natAbs_natCast]; exact hq.b
 obtain ⟨r1,l1,s1,w1,c1⟩:=fG hq.a
 obtain ⟨r2,l2,s2,w2,c2⟩:=fG hd
 have dt:Dg (iT (q.num.natAbs:Int)):=nB hq.a
 have db:Dg (iT (q.den:Int)):=nB hq.b
 have ln:=jS hq
 refine aD (aO 1 eH.nd (fJ PySem.F.plainAttrs_str PySem.F.slot_str_partition PySem.F.type_str_partition aDC (aB 0 rfl ⟨rfl,(aA (ge_str (aC (aD1 (by decide +kernel) (R.aQ (by omega)) ?_))))⟩)))
 obtain ⟨u,v,e1,e2,e3,huv⟩:∃ u v:Str,(dH (nT q) ("/" : Str)).1=iT q.num∧(dH (nT q) ("/" : Str)).2.1=u∧(dH (nT q) ("/" : Str)).2.2=v∧(u=("/" : Str)∧v=iT (q.den:Int)∨u≠("/" : Str)∧q.den=1):=by
  rw [aDH hq]
  by_cases z:q.den=1
  ·rw [if_pos z]
   exact ⟨Str.empty,Str.empty,rfl,rfl,rfl, .inr ⟨by decide +kernel,z⟩⟩
  ·rw [if_neg z]
   exact ⟨_,_,rfl,rfl,rfl, .inl ⟨rfl,rfl⟩⟩
 rw [e1,e2,e3]
 refine aD (jT (fun Γ' M'=>M'=M∧Γ'=[some (.str (nT q)),some (.tup [.str (iT q.num), .str u, .str v]),some (.str (iT (q.num.natAbs:Int))),none,none]) (aO 2 eH.nd (mH (bA (fJ PySem.F.plainAttrs_str PySem.F.slot_str_startswith PySem.F.type_str_startswith zF ?_)))) ?_)
 ·refine aJ aF (aB 1 rfl (ge_int (aM (.tup _) rfl ⟨rfl,(aA (ge_str (aC (zZ ⟨_,rfl,?_⟩))))⟩)))
  rw [show ("-" : Str)=⟨#[45]⟩ by decide +kernel,w1]
  refine ite2 (fun h1 => ?_) (fun h1 => ?_)
  ·refine d8 aFR (aJ aF (aB 1 rfl (ge_int (aM (.tup _) rfl (eB (ge_int ⟨_,rfl,(fM (aF6 (R.aQ (by omega)) ?_))⟩))))))
   rw [c1 (of_decide_eq_true h1)]
   exact ⟨rfl,rfl⟩
  ·refine aJ aF (aB 1 rfl (ge_int (aM (.tup _) rfl ?_)))
   have:¬ q.num < 0:=fun z=>h1 (decide_eq_true z)
   refine ⟨rfl,?_⟩
   rw [show ((q.num.natAbs:Nat):Int)=q.num by omega]
   rfl
 rintro Γ' M' ⟨rfl,rfl⟩
 refine aD (jT (fun Γ' M1=>M1=M'∧Γ'=[some (.str (nT q)),some (.tup [.str (iT q.num), .str u, .str v]),some (.str (iT (q.num.natAbs:Int))),some (.str (iT (q.den:Int))),none]) (aO 3 eH.nd (mH ?_)) ?_)
 ·refine bJ gW (aJ aF (aB 1 rfl (ge_int (aM (.tup _) rfl (ge_str (tJ ⟨_,rfl,?_⟩))))))
  rcases huv with ⟨rfl,rfl⟩ | ⟨h1,h2⟩
  ·exact lV (decide_eq_true rfl) (aJ aF (aB 1 rfl (ge_int (aM (.tup _) rfl ⟨rfl,rfl⟩))))
  ·refine nM (decide_eq_false h1) (ge_str ⟨rfl,?_⟩)
   rw [h2,show iT ((1:Nat):Int)=("1" : Str) by decide +kernel]
   rfl
 rintro Γ' M1 ⟨rfl,rfl⟩
 refine aD (bD (jW (B:=false) (dI (cH (aZ ?_))) (bM (a9 ?_))))
 ·exact bA (aI aI2 hr (aA (aB 2 rfl (aC ⟨_,rfl,dt,⟨_,rfl,(bM (cT (aZ (bA (aI aI2 hr (aA (aB 3 rfl (aC ⟨_,rfl,db,⟨_,rfl,⟨rfl,rfl⟩⟩⟩))))))))⟩⟩))))
 refine aD (aO 4 eH.nd (bT (aA (aT qZ T.int R.BI (aA (aJ aF (aB 1 rfl (ge_int (aM (.tup _) rfl (aC (vL r1 (by omega) (aA (aT qZ T.int R.BI (aA (aB 3 rfl (aC (vL r2 (by omega) (aC ⟨(show 2≤sizeLine by decide),(aD (bD (jW (B:=false) (dI (cH (aZ ?_))) (bM (a9 ?_)))))⟩))))))))))))))))))
 ·refine bA (aI aI0 hr (aA (aB 4 rfl (aC ⟨cQ q,1,rfl,aCT hq,⟨_,rfl,?_⟩⟩))))
  rw [aFS]
  refine bM (cT (bJ iC (aI aI3 hr (aA (aB 4 rfl (aC ⟨q,rfl,hq,(aB 0 rfl (mS ⟨_,rfl,?_⟩))⟩))))))
  rw [decide_eq_true rfl]
  exact ⟨rfl,rfl⟩
 exact aH (aN (aB 4 rfl hk))
theorem rH:FnScope ["words"] ["words"] (aK gQ):=⟨rfl,rfl,rfl,by decide +kernel,rfl,by decide +kernel,by decide +kernel⟩
abbrev l7 (P w K mg base):=Fo P w K mg base "read_lines" gQ ["words"] 5 aGC
theorem rL {f:Addr}{fd:FuncData} (Df:R.Df K mg "read_lines" gQ ["words"] f fd) (aI4:iX P w K mg base) (T:Bt mg) {tL:Tok} (CL:mg "MOST_LINES_texts" = some (.int 12 tL)):l7 P w K mg base:=by
 refine ⟨f,fd,Df,bF Df rH (fun ds M k h => ?_) (fun cdv A outer s H E hr ds M k h => ?_)⟩
 ·obtain ⟨ws,rfl,_⟩:=h; rfl
 obtain ⟨ws,rfl,hw,hl,hk⟩:=h
 have ml:((ws.map nT).map D.str).length=ws.length:=by rw [List.length_map,List.length_map]
 refine aD (bD (bJ rQ (aR bK T.len PySem.boot_len (aA (aB 0 rfl (aC (cX (.lst _) (jR CL (gH ⟨_,rfl,nM (decide_eq_false (by rw [ml]; omega)) (a9 (aH (aN (aT bG T.tuple R.BT (aA (aW [] [] (bL (aB 0 rfl ⟨_, .inr (.inl rfl),(b4 (by rw [ml]; exact R.aQ (by omega)) (fun i acc M'=>M'=M∧acc=aP (ws.take i)) ⟨rfl,rfl⟩ ?_ ?_)⟩))))))))⟩)))))))))
 ·rintro i d acc M' hd ⟨rfl,rfl⟩ cs C s₀ H₀ fp
  obtain ⟨x,hx,rfl⟩:=bZ hd
  obtain ⟨q,hq,rfl⟩:=bZ hx
  refine aX (aU fun cs C s₀ H₀ fp=>(aI aI4 hr (aA (aB 0 rfl (aC ⟨q,rfl,hw q (List.mem_of_getElem? hq),⟨rfl,?_⟩⟩)))))
  rw [take_snoc hq,← eN]
  rfl
 rintro acc M' ⟨rfl,rfl⟩
 rw [ml,List.take_length]
 exact aC (cL (.lst _) hk)
theorem xT:FnScope ["thing"] ["thing"] (aK j6):=⟨rfl,rfl,rfl,by decide +kernel,rfl,by decide +kernel,by decide +kernel⟩
abbrev qC (P w K mg base):=Fo P w K mg base "is_yard" j6 ["thing"] 4 aE5
theorem xB {f:Addr}{fd:FuncData} (Df:R.Df K mg "is_yard" j6 ["thing"] f fd) (aI5:iL P w K mg base) (aIR:kW P w K mg base) (aIS:oF P w K mg base) (T:Bt mg):qC P w K mg base:=by
 refine ⟨f,fd,Df,bF Df xT (fun ds M k h => ?_) (fun cdv A outer s H E hr ds M k h => ?_)⟩
 ·obtain ⟨d,n,rfl,_⟩:=h; rfl
 obtain ⟨d,n,rfl,ht,hn,hk⟩:=h
 rcases o0 d with ⟨ls,rfl⟩ | ⟨e0,e1⟩
 rotate_left
 ·rw [wK (fun _ _ _=>e1 _)] at hk
  refine aD (bD (dI (cH (aZ (bA (cI (.inr (.inr (.inr (.inl rfl)))) T.isi T.tuple R.BT (aB 0 rfl ⟨_, .self (gG ht),⟨_,rfl,?_⟩⟩)))))))
  rw [e0]
  exact aU (aU (aH (aN (fC hk))))
 obtain ⟨hl,m,rfl,hm⟩:=gE ht
 refine aD (bD (dI (cH (aZ (bA (cI (.inr (.inr (.inr (.inl rfl)))) T.isi T.tuple R.BT (aB 0 rfl ⟨_, .self trivial,⟨_,rfl,?_⟩⟩)))))))
 rw [tT]
 refine bM (cT (bJ iC (aR bK T.len PySem.boot_len (aA (aB 0 rfl (aC (cX (.tup _) (ge_int (l8 ⟨_,rfl,?_⟩)))))))))
 by_cases h2:ls.length=3
 rotate_left
 ·rw [decide_eq_false (by omega)]
  rw [wK (fun _ _ _ z=>by injection z with z; rw [z] at h2; exact h2 rfl)] at hk
  exact aU (aH (aN (fC hk)))
 rw [decide_eq_true (by omega)]
 refine bM (a9 ?_)
 obtain ⟨x,y,r,rfl⟩:∃ x y r,ls=[x,y,r]:=by
  match ls,h2 with
  | [a,b,c],_=>exact ⟨a,b,c,rfl⟩
 have tx:=hm x (by simp)
 have ty:=hm y (by simp)
 have tr:=hm r (by simp)
 rw [show nN (.tup [x,y,r])=yard3 x y r from rfl] at hk
 refine aD (bD (dI (cH (aZ (bA (aI aI5 hr (aA (aJ aF (aB 0 rfl (ge_int (aM (.tup _) rfl (aC ⟨x,m,rfl,tx,⟨_,rfl,?_⟩⟩))))))))))))
 rcases tf (dC x) with hx | hx
 ·rw [hx]
  rw [aB6 hx] at hk
  exact aU (aU (aH (aN (fC hk))))
 rw [hx]
 refine bM (cT (aZ (bA (aI aI5 hr (aA (aJ aF (aB 0 rfl (ge_int (aM (.tup _) rfl (aC ⟨y,m,rfl,ty,⟨_,rfl,?_⟩⟩))))))))))
 rcases tf (dC y) with hy | hy
 ·rw [hy]
  rw [aB7 hy] at hk
  exact aU (aH (aN (fC hk)))
 rw [hy]
 refine bM (a9 ?_)
 obtain ⟨ps,rfl,_⟩:=qM hx
 obtain ⟨qs,rfl,_⟩:=qM hy
 have lx:=(gE tx).1
 have ly:=(gE ty).1
 refine aD (bD (dI (cH (aZ (bA (cI (.inr (.inr (.inr (.inl rfl)))) T.isi T.tuple R.BT (aJ aF (aB 0 rfl (ge_int (aM (.tup _) rfl ⟨_, .self (gG tr),⟨_,rfl,?_⟩⟩))))))))))
 rcases o0 r with ⟨rs,rfl⟩ | ⟨e0,e1⟩
 rotate_left
 ·rw [e0]
  rw [aDR e1] at hk
  exact aU (aU (aH (aN (fC hk))))
 rw [tT]
 obtain ⟨lr,mr,emr,mmr⟩:=gE tr
 refine bM (cT (aZ (bA (aI aIR hr (aA (aJ aF (aB 0 rfl (ge_int (aM (.tup _) rfl (aA (aJ aF (aB 0 rfl (ge_int (aM (.tup _) rfl (aA (aJ aF (aB 0 rfl (ge_int (aM (.tup _) rfl (aC ⟨false,_,_,_,rs,ps.map pairD,qs.map pairD,mr,rfl,rfl,rfl,rfl,mmr,lr,lx,ly,⟨_,rfl,?_⟩⟩))))))))))))))))))))
 rw [tQ,hx,hy] at hk
 rcases tf (fF rs (ps.map pairD).length (qs.map pairD).length) with hf | hf
 ·rw [hf] at hk ⊢
  exact aU (aH (aN (fC hk)))
 rw [hf] at hk ⊢
 refine bM (a9 (aH (aN ?_)))
 obtain ⟨hf1,hf2⟩:=aEG hf
 obtain ⟨zs,rfl,hzs⟩:=all_rows hf2
 rw [uN] at hk
 have hf3:=hf1
 rw [List.length_map] at hf3 lr
 exact eP (m8 (n:=3) (R.units_le hr)) (aI aIS hr (aA (aJ aF (aB 0 rfl (ge_int (aM (.tup _) rfl (aA (aJ aF (aB 0 rfl (ge_int (aM (.tup _) rfl (aA (aJ aF (aB 0 rfl (ge_int (aM (.tup _) rfl (aC ⟨false,_,_,_,ps.map pairD,qs.map pairD,zs,(ps.map pairD).length - 1,rfl,rfl,rfl,rfl,by omega,by omega,fun z hz=>(hzs z hz).1,eT fun z hz=>(hzs z hz).1,eW hf3,(aB 0 rfl (mQ (.tup _) (.tup _) (aB9 ps qs zs) (aDV ps qs zs) hk))⟩)))))))))))))))))
theorem fE:FnScope ["text", "words", "first", "second", "yard"] ["text"] (aK hW):=⟨rfl,rfl,rfl,by decide +kernel,rfl,by decide +kernel,by decide +kernel⟩
abbrev n5 (P w K mg base):=Fo P w K mg base "read_yard" hW ["text"] 6 aG5
theorem sI {f:Addr}{fd:FuncData} (Df:R.Df K mg "read_yard" hW ["text"] f fd) (aI6:l7 P w K mg base) (aI7:qC P w K mg base) (T:Bt mg) {aV:Addr} (CV:mg "VOID" = some (.ref aV)) (EV:∀ G,Den K G (yd Yd.void) (.ref aV)) {tV:Tok} (CT:mg "VOID_TEXT" = some (.str "void" tV)) {tB:Tok} (CB:mg "BREAK" = some (.str ";" tB)):n5 P w K mg base:=by
 refine ⟨f,fd,Df,bF Df fE (fun ds M k h => ?_) (fun cdv A outer s H E hr ds M k h => ?_)⟩
 ·obtain ⟨A,rfl,_⟩:=h; rfl
 obtain ⟨A,rfl,hA,hk⟩:=h
 have lx:=hA.lx
 have ly:=hA.ly
 obtain ⟨hw,lK⟩:=A.wide
 unfold yT
 refine aD (bD (bJ gW (aB 0 rfl (gI CT (tJ ⟨_,rfl,?_⟩)))))
 by_cases hv:A=Yd.void
 ·rw [if_pos hv,decide_eq_true rfl]
  refine aU (aH (aN (pM CV EV ?_)))
  rw [← hv]
  exact hk
 rw [if_neg hv,decide_eq_false (aE6 hA)]
 refine bM (a9 (aD (aO 1 fE.nd (fJ PySem.F.plainAttrs_str PySem.F.slot_str_split PySem.F.type_str_split aBL (aB 0 rfl ⟨rfl,(aA (ge_str (aC ?_)))⟩)))))
 rw [oH]
 refine aCI (by decide) (rY A) (aFX hA) ?_
 rw [u9 (by unfold aS; simp) hA.free]
 refine aD (bD (bJ iC (fJ PySem.F.plainAttrs_list PySem.F.slot_list_count PySem.F.type_list_count yV (aB 1 rfl ⟨rfl,aA (gI CB (aC (aAZ (ge_int ?_))))⟩))))
 rw [hA.cnt]
 refine l8 ⟨_,rfl,bM (a9 (aD (aO 2 fE.nd (fJ PySem.F.plainAttrs_list PySem.F.slot_list_index PySem.F.type_list_index (yU (n:=0) (R.units_le hr)) (aB 1 rfl ⟨rfl,aA (gI CB (aC (zO (d := .str (";" : Str)) (j:=A.ws.length) rfl (aCU _) (by rw [List.getElem?_map,hA.ix1.1]; rfl) (show decide ((";" : Str)=(";" : Str))=true from decide_eq_true rfl) (fun m e hm he => ?_) (by rw [List.length_map]; exact qA hA) ?_)))⟩)))))⟩
 ·obtain ⟨w,hw2,rfl⟩:=bZ he
  exact (show decide (w=(";" : Str))=false from decide_eq_false (hA.ix1.2 m hm w hw2))
 refine aD (aO 3 fE.nd (fJ PySem.F.plainAttrs_list PySem.F.slot_list_index PySem.F.type_list_index aAH (aB 1 rfl ⟨rfl,aA (gI CB (aA (aG b6 (aB 2 rfl (ge_int (bW (aC ?_)))))))⟩)))
 rw [show (A.ws.length:Int)+1=((A.ws.length+1:Nat):Int) by omega]
 refine zG (j:=A.ws.length+1+A.us.length) (by omega) hA.ix2.1 hA.ix2.2 (qA hA) ?_
 obtain ⟨c1,c2,c3⟩:=yO A
 refine aD (aO 4 fE.nd (bT (aA (aI aI6 hr (aA (d8 fU (aB 1 rfl (fM (eB (aB 2 rfl ⟨_,rfl,(gX (.lst _) (aC ?_))⟩))))))))))
 rw [c1]
 refine ⟨A.ws,rfl,hA.x,lx,(aA (aI aI6 hr (aA (d8 fU (aB 1 rfl (eB (aG b6 (aB 2 rfl (ge_int (bW ⟨_,rfl,(eB (aB 3 rfl ⟨_,rfl,(gX (.lst _) (aC ?_))⟩))⟩))))))))))⟩
 rw [c2]
 refine ⟨A.us,rfl,hA.y,ly,(aA (aT bG T.tuple R.BT (aA (d8 fU (aB 1 rfl (eB (aG b6 (aB 3 rfl (ge_int (bW ⟨_,rfl,(fM (gX (.lst _) (aC ?_)))⟩))))))))))⟩
 rw [c3]
 refine cL (.lst _) (aC ⟨(show 3≤sizeLine by decide),(aD (bD (jW (B:=false) (dI (cH (bJ (m8 (n:=3) (R.units_le hr)) ?_))) (bM (a9 ?_)))))⟩)
 ·refine aB 4 rfl (pM CV EV (mQ (e1:=yd A) (e2:=yd Yd.void) (.tup _) (.tup _) (fL _) (fL _) ⟨_,rfl,?_⟩))
  rw [nH,decide_eq_false hv]
  refine bM (cT (aZ (bA (aI aI7 hr (aA (aB 4 rfl (aC ⟨yd A,3,rfl,aBQ hA,by decide,?_⟩)))))))
  refine ⟨_,rfl,?_⟩
  rw [aEX]
  exact ⟨rfl,rfl⟩
 exact aH (aN (aB 4 rfl hk))
theorem iU:FnScope ["yard", "xs", "ys"] ["yard"] (aK g8):=⟨rfl,rfl,rfl,by decide +kernel,rfl,by decide +kernel,by decide +kernel⟩
abbrev mJ (P w K mg base):=Fo P w K mg base "shown_yard" g8 ["yard"] 3 vA
theorem rG {f:Addr}{fd:FuncData} (Df:R.Df K mg "shown_yard" g8 ["yard"] f fd) (aI3:fN P w K mg base) (T:Bt mg) {aV:Addr} (CV:mg "VOID" = some (.ref aV)) (EV:∀ G,Den K G (yd Yd.void) (.ref aV)) {tV:Tok} (CT:mg "VOID_TEXT" = some (.str "void" tV)) {tB:Tok} (CB:mg "BREAK" = some (.str ";" tB)):mJ P w K mg base:=by
 refine ⟨f,fd,Df,bF Df iU (fun ds M k h => ?_) (fun cdv A outer s H E hr ds M k h => ?_)⟩
 ·obtain ⟨A,rfl,_⟩:=h; rfl
 obtain ⟨A,rfl,hA,hk⟩:=h
 have lx:=hA.lx
 have ly:=hA.ly
 obtain ⟨hw,lK⟩:=A.wide
 refine aD (bD (bJ (m8 (n:=3) (R.units_le hr)) (aB 0 rfl (pM CV EV (mQ (e1:=yd A) (e2:=yd Yd.void) (.tup _) (.tup _) (fL _) (fL _) ⟨_,rfl,?_⟩)))))
 rw [nH]
 unfold yT at hk
 refine ite2 (fun h1=>aH (aN (gI CT ?_))) (fun h1=>a9 ?_)
 ·rw [if_pos (of_decide_eq_true h1)] at hk
  exact hk
 have h1:A≠Yd.void:=fun z=>h1 (decide_eq_true z)
 rw [if_neg h1] at hk
 refine aD (fK 1 [] [] iU.nd (bL (aJ aF (aB 0 rfl (ge_int (aM (.tup _) rfl ⟨_, .inl rfl,(nL (by rw [a6]; exact R.aQ (by omega)) (fun i acc M'=>M'=M∧acc=((A.ws.take i).map nT).map D.str) ⟨rfl,rfl⟩ ?_ ?_)⟩))))))
 ·rintro i d acc M' hd ⟨rfl,rfl⟩ cs C s₀ H₀ fp
  obtain ⟨q,hq,rfl⟩:=bZ hd
  refine aX (aU fun cs C s₀ H₀ fp=>(aI aI3 hr (aA (aB 0 rfl (aC ⟨q,rfl,hA.x q (List.mem_of_getElem? hq),⟨rfl,?_⟩⟩)))))
  rw [take_snoc hq,List.map_append,List.map_append]
  rfl
 rintro acc M ⟨rfl,rfl⟩ a1 ha1
 rw [a6,List.take_length]
 refine iE 1 rfl bN ?_
 rw [hV ha1]
 refine aD (fK 2 [] [] iU.nd (bL (aJ aF (aB 0 rfl (ge_int (aM (.tup _) rfl ⟨_, .inl rfl,(nL (by rw [a6]; exact R.aQ (by omega)) (fun i acc M'=>M'=M∧acc=((A.us.take i).map nT).map D.str) ⟨rfl,rfl⟩ ?_ ?_)⟩))))))
 ·rintro i d acc M' hd ⟨rfl,rfl⟩ cs C s₀ H₀ fp
  obtain ⟨q,hq,rfl⟩:=bZ hd
  refine aX (aU fun cs C s₀ H₀ fp=>(aI aI3 hr (aA (aB 0 rfl (aC ⟨q,rfl,hA.y q (List.mem_of_getElem? hq),⟨rfl,?_⟩⟩)))))
  rw [take_snoc hq,List.map_append,List.map_append]
  rfl
 rintro acc M ⟨rfl,rfl⟩ a2 ha2
 rw [a6,List.take_length]
 refine iE 2 rfl bN ?_
 rw [hV ha2]
 have e1:((A.ws.map nT).map D.str).length=A.ws.length:=by rw [List.length_map,List.length_map]
 have e2:((A.us.map nT).map D.str).length=A.us.length:=by rw [List.length_map,List.length_map]
 have e3:(A.K.map D.str).length=A.K.length:=List.length_map ..
 refine aH (aN (fJ PySem.F.plainAttrs_str PySem.F.slot_str_join PySem.F.type_str_join kL (ge_str ⟨rfl,aA (aG iH (aG iH (aG iH (aG iH (aB 1 rfl (fI (aA (gI CB (aC ⟨(show 1≤sizeLine by decide),(iJ (.lst _) (.lst _) (by rw [e1]; exact R.aQ (by simp only [List.length_cons,List.length_nil]; omega)) (aB 2 rfl (iJ (.lst _) (.lst _) (by rw [e2,List.length_append,e1]; exact R.aQ (by simp only [List.length_cons,List.length_nil]; omega)) (fI (aA (gI CB (aC ⟨(show 1≤sizeLine by decide),(iJ (.lst _) (.lst _) (by simp only [List.length_append,e1,e2,List.length_cons,List.length_nil]; exact R.aQ (by omega)) (aT eF T.list R.BL (aA (aJ aF (aB 0 rfl (ge_int (aM (.tup _) rfl (aC (jD (.tup _) (iJ (.lst _) (.lst _) (by simp only [List.length_append,e1,e2,e3,List.length_cons,List.length_nil]; exact R.aQ (by omega)) ?_))))))))))⟩)))))))⟩)))))))))⟩)))
 rw [show ((A.ws.map nT).map D.str++[D.str (";" : Str)]++(A.us.map nT).map D.str++[D.str (";" : Str)]++A.K.map D.str)=(aS A).map D.str by unfold aS; simp only [List.map_append,List.map_cons,List.map_nil]]
 exact aC (kP (.lst _) (by decide +kernel) (yN hA) hk)
theorem f6:FnScope ["_law_script", "_law_turn", "_law_feed_here", "_law_number_here", "_law_text_here", "_law_found", "_law_yard_here", "_law_kept"] ["_law_script"] (aK nV):=⟨rfl,rfl,rfl,by decide +kernel,rfl,by decide +kernel,by decide +kernel⟩
theorem aGQ {f:Addr}{fd:FuncData} (Df:R.Df K mg "law" nV ["_law_script"] f fd) (aI8:zH P w K mg base) (aI9:tK P w K mg base) (aI3:fN P w K mg base) (aIG:sB P w K mg base) (aI4:iX P w K mg base) (aJA:wO P w K mg base) (aJB:mJ P w K mg base) (aJC:n6 P w K mg base) (aJD:n5 P w K mg base) (T:Bt mg):FnOk P w K mg base CX0 9 f fd ["_law_script"] (spZ K xG):=by
 refine bF Df f6 (fun ds M k h => ?_) (fun cdv A outer s H E hr ds M k h => ?_)
 ·obtain ⟨ns,rfl,_⟩:=h; rfl
 obtain ⟨ns,rfl,hns,hk⟩:=h
 have sv:SmY Yd.void:=⟨fun w hw=>(nomatch hw),fun w hw=>(nomatch hw),by decide,by decide⟩
 have yv:yT Yd.void=("void" : Str):=by unfold yT; rw [if_pos rfl]
 refine aD (jM (gP T.range (aA (aG b6 (ge_int (aR (aAI rfl) T.min BMin (aA (ge_int (aA (aR bK T.len PySem.boot_len (aA (aB 0 rfl (aC (cX (.fl _) (aC (aFK (bW (aC ⟨_,rfl,by split <;> omega,by split <;> omega,?_⟩))))))))))))))))))
 refine ⟨fun i Γ' M'=>∃ v1 v2 v3 v4 v5 v6 v7,Γ'=[some (.fl (ns.map .int)),v1,v2,v3,v4,v5,v6,v7],⟨_,_,_,_,_,_,_,rfl⟩,?_,?_⟩
 rotate_left
 ·rintro Γ' M1 ⟨v1,v2,v3,v4,v5,v6,v7,rfl⟩
  refine aH (aN (jO (eP (m8 (n:=3) (R.units_le hr)) (aI aJD hr (aA (ge_str (aC ⟨Yd.void,by rw [yv],sv,?_⟩)))))))
  refine bT (aA (bT (aC ⟨(show 0≤sizeLine by decide),(aA (bT (aC ⟨(show 0≤sizeLine by decide),(aA (bT (aC ⟨(show 0≤sizeLine by decide),(aC ⟨(show 3≤sizeLine by decide),(mQ (e1:=yd Yd.void) (e2:=yd Yd.void) (.tup _) (.tup _) (fL _) (fL _) ⟨_,rfl,?_⟩)⟩)⟩)))⟩)))⟩)))
  rw [nH,decide_eq_true rfl]
  refine aU (iR (eP gW (aI aJB hr (aA (bT (aA (bT (aC ⟨(show 0≤sizeLine by decide),(aA (bT (aC ⟨(show 0≤sizeLine by decide),(aA (bT (aC ⟨(show 0≤sizeLine by decide),(aC ⟨(show 3≤sizeLine by decide),(aC ⟨Yd.void,rfl,sv,(ge_str (tJ ?_))⟩)⟩)⟩)))⟩)))⟩))))))))
  rw [yv,decide_eq_true rfl]
  exact hk _
 rintro i d Γ' M0 hd ⟨v1,v2,v3,v4,v5,v6,v7,rfl⟩
 obtain ⟨hi,rfl⟩:=dB hd
 have hi9:i < 9:=by
  refine Nat.lt_of_lt_of_le hi ?_
  split <;> omega
 refine eQ 1 f6.nd (aD (aO 2 f6.nd (aI aI8 hr (aA (aB 0 rfl (aA (aB 1 rfl (aC ⟨ns,_,rfl,by omega,by omega,fun p M hp hL2 hF0 => ?_⟩))))))))
 refine aD (aO 3 f6.nd (aI aI9 hr (aA (aB 2 rfl (aC ⟨p,_,rfl,hF0,by omega,fun q M1 hq hF1 hB1 => ?_⟩)))))
 refine aD (aO 4 f6.nd (aI aI3 hr (aA (aB 3 rfl (aC ⟨q,rfl,hq,(aD (bD (jW (B:=false) (dI (cH (aZ ?_))) (bM (a9 ?_)))))⟩)))))
 ·refine bA (cI (.inr (.inr (.inl rfl))) T.isi T.str R.BS (aB 4 rfl ⟨_, .self trivial,⟨_,rfl,(bM (cT (bJ iC (aB 4 rfl (aI aIG hr (aA (aB 3 rfl (aC ⟨q,rfl,hq,(mS ⟨_,rfl,?_⟩)⟩))))))))⟩⟩))
  rw [decide_eq_true rfl]
  exact ⟨rfl,rfl⟩
 refine aD (aO 5 f6.nd (aI aI4 hr (aA (aB 4 rfl (aC ⟨q,rfl,hq,(aD (bD (jW (B:=false) (dI (cH (aZ ?_))) (bM (a9 ?_)))))⟩)))))
 ·refine bA (cI (.inr (.inr (.inr (.inl rfl)))) T.isi T.tuple R.BT (aB 5 rfl ⟨_, .self trivial,⟨_,rfl,(bM (cH (bJ (tD (n:=2) (R.units_le hr)) (aB 5 rfl (aB 3 rfl (tN (e1:=cQ q) (e2:=cQ q) (.tup _) (.tup _) rfl rfl ⟨_,rfl,?_⟩))))))⟩⟩))
  rw [yW,decide_eq_true rfl]
  exact bM (cT (aZ (bA (cI (.inl rfl) T.isi T.int R.BI (aJ aF (aB 5 rfl (ge_int (aM (.tup _) rfl ⟨_, .self trivial,⟨_,rfl,⟨rfl,rfl⟩⟩⟩))))))))
 refine aD (aO 6 f6.nd (aI aJA hr (aA (aB 2 rfl (aC ⟨p,_,rfl,hF1,by omega,fun A M2 sA hF2 hB2 => ?_⟩)))))
 have lx:=sA.lx
 have ly:=sA.ly
 obtain ⟨hw,lK⟩:=A.wide
 refine aD (aO 7 f6.nd (aT bG T.tuple R.BT (aA (aW [] [] (bL (aB 6 rfl ⟨_, .inl rfl,(b4 (ds:=[.tup (aP A.ws), .tup (aP A.us), .tup (A.K.map .str)]) (show (3:Nat)≤sizeLine by decide) (fun i acc M'=>M'=M2∧acc=[D.tup (aP A.ws), .tup (aP A.us), .tup (A.K.map .str)].take i) ⟨rfl,rfl⟩ ?_ ?_)⟩))))))
 ·rintro i d acc M' hd ⟨rfl,rfl⟩ cs C s₀ H₀ fp
  obtain ⟨es,rfl⟩:∃ es,d = .tup es:=by
   match i,hd with
   | 0,hd=>exact ⟨_,(Option.some.inj hd).symm⟩
   | 1,hd=>exact ⟨_,(Option.some.inj hd).symm⟩
   | 2,hd=>exact ⟨_,(Option.some.inj hd).symm⟩
   | i+3,hd=>exact nomatch hd
  exact aX (aU fun cs C s₀ H₀ fp=>(aT bG T.tuple R.BT (aA (aT eF T.list R.BL (aA (aB 0 rfl (aC (jD (.tup _) (aC (cL (.lst _) ⟨rfl,(take_snoc hd).symm⟩))))))))))
 rintro acc M2 ⟨rfl,rfl⟩
 refine aC (cL (.lst _) (aD (aO 4 f6.nd (aI aJB hr (aA (aB 6 rfl (aC ⟨A,rfl,sA,(aD (bD (jW (B:=false) (dI (cH (aZ ?_))) (bM (a9 ?_)))))⟩)))))))
 ·refine bA (cI (.inr (.inr (.inl rfl))) T.isi T.str R.BS (aB 4 rfl ⟨_, .self trivial,⟨_,rfl,(bM (cH (bJ iC (aB 4 rfl (aI aJC hr (aA (aB 6 rfl (aC ⟨A,rfl,sA,(mS ⟨_,rfl,?_⟩)⟩))))))))⟩⟩))
  rw [decide_eq_true rfl]
  refine bM (cT (bJ (tD (n:=3) (R.units_le hr)) (aB 6 rfl (aB 7 rfl (tN (e1:=yd A) (e2:=yd A) (.tup _) (.tup _) (fL _) (fL _) ⟨_,rfl,?_,rfl⟩)))))
  rw [nH,decide_eq_true rfl]
  rfl
 refine aD (aO 5 f6.nd (aI aJD hr (aA (aB 4 rfl (aC ⟨A,rfl,sA,(aH (bD (jW (B:=false) (dI (cH (aZ ?_))) (bM (a9 ?_)))))⟩)))))
 ·refine bA (cI (.inr (.inr (.inr (.inl rfl)))) T.isi T.tuple R.BT (aB 5 rfl ⟨_, .self trivial,⟨_,rfl,(bM (cH (bJ (tD (n:=3) (R.units_le hr)) (aB 5 rfl (aB 6 rfl (tN (e1:=yd A) (e2:=yd A) (.tup _) (.tup _) (fL _) (fL _) ⟨_,rfl,?_⟩))))))⟩⟩))
  rw [nH,decide_eq_true rfl]
  exact bM (cT (aZ (bA (cI (.inr (.inr (.inr (.inl rfl)))) T.isi T.tuple R.BT (aJ aF (aB 5 rfl (ge_int (aM (.tup _) rfl ⟨_, .self trivial,⟨_,rfl,⟨rfl,rfl⟩⟩⟩))))))))
 exact ⟨_,_,_,_,_,_,_,rfl⟩
end
end Q
namespace HB
open PySem PySem.W
abbrev S (x:String) (k:Nat):Value := .str (Str.ofString x) k
abbrev R (a:Nat):Value := .ref a
abbrev I (a:Int):Value := .int a 0
abbrev J (a:Int) (k:Nat):Value := .int a k
abbrev E (P:Params) (x:String) (k:Nat) (v:Value):DictEntry:=⟨PyData.keyHash P (Str.ofString x), .str (Str.ofString x) k,v⟩
abbrev tO (l:List Value):Obj:=⟨.type "tuple", none, .seq l.toArray 0,#[]⟩
abbrev vO (l:List Value):Obj:=⟨.none,none, .fields l.toArray,#[]⟩
abbrev dO (l:List DictEntry) (n:Nat):Obj:=⟨.type "dict", none, .dict l.toArray n,#[]⟩
abbrev fO (n:String) (s:Stmt) (pm:Value) (cd:Nat):Obj:=⟨.type "function", none, .func { name:=Str.ofString n,qualname:=Str.ofString n,params:=L2.eG s,body := .stmts (L2.c9 s),scope:=L2.aK s,globals:=3,closure:=[],defaults := .none,kwdefaults := .none,doc := .none,pyModule:=pm,annotations:=none,code := .ref cd,closureTuple := .none,builtins:=0 },#[]⟩
abbrev pO (n:String) (s:Stmt):Obj:=⟨.none,none, .func { name:=Str.ofString n,qualname:=Str.ofString n,params:=L2.eG s,body := .stmts (L2.c9 s),scope:=L2.aK s,globals:=0,closure:=[],defaults := .none,kwdefaults := .none,doc := .none,pyModule := .none,annotations:=none,code := .none,closureTuple := .none,builtins:=0 },#[]⟩
abbrev cO (n f:String) (t1 t2 t3 l1 c1 c2 c3 c4 a1 a2 a3 a4 a5 t4 l2 t5:Nat) (b:Bool) (k:Nat):Obj:=⟨.type "code", none, .fields #[S n t1,S n t2,S f t3,I l1,I c1,I c2,I c3,I c4,R a1, .bool b,I k,R a2, .none,R a3,R a4,R a5,I t4,I l2,S f t5],#[]⟩
def fl:String := "/claim/cut.py"
def vs:Nat→List String→List Value
 | _,[]=>[]
 | k,x::xs => .str (Str.ofString x) k::vs (k+1) xs
def D7 (s:Stmt) (n:String) (b t l c:Nat) (ns:List String) (pm:Value):List Obj :=
 [tO [],vO [],tO (vs (t+3) ns),tO [],pO n s,cO n "/claim/cut.py" t (t+1) (t+2) l c 0 0 3 b (b+1) (b+2) (b+3) (b+4) (t+3+ns.length) l (t+4+ns.length) true 181,fO n s pm (b+5)]
def ov {a:Type}:List (Nat × a)→List a→List a
 | [],l=>l
 | (i,x)::r,l=>ov r (l.set i x)
def ev {a:Type}:Nat→List a→List a
 | 0,_=>[]
 | _+1,[]=>[]
 | _+1,[x]=>[x]
 | n+1,x::_::r=>x::ev n r
def bt:Nat→List Obj→BT
 | 0,_ => .nil
 | _+1,[] => .nil
 | n+1,x::r => .node x (bt n (ev (2 ^ n) r)) (bt n (ev (2 ^ n) r.tail))
abbrev sh (h:Heap) (k:Nat) (os:OsState):Shared:=⟨h,Array.mk [],{},k,os⟩
abbrev sT (t:BT) (n k:Nat) (os:OsState):SharedT:=⟨t,n,{},Array.mk [],{},k,os⟩
abbrev ps (a b c d:Nat):Pos:=⟨a,b,c,d⟩
abbrev z:Pos:=⟨0,0,0,0⟩
abbrev B:List Frame:=[topFrame z]
theorem oJ:segRunT treeTable=PySem.W.Fast.tw10110043849684766642 PySem.W.Fast.tw14364793385576792824:=by rw [PySem.W.Fast.te10110043849684766642,PySem.W.Fast.te14364793385576792824]
theorem eGo:topGo treeTable=PySem.W.Fast.tw15667345088766844465 PySem.W.Fast.tw14364793385576792824:=by rw [PySem.W.Fast.te15667345088766844465,PySem.W.Fast.te14364793385576792824]
theorem eSeg:segRun treeTable=PySem.W.Fast.tw14374325043358763698 PySem.W.Fast.tw14364793385576792824:=by rw [PySem.W.Fast.te14374325043358763698,PySem.W.Fast.te14364793385576792824]
theorem eTop:topRun treeTable=PySem.W.Fast.tw14082659384304107361 PySem.W.Fast.tw14364793385576792824:=by rw [PySem.W.Fast.te14082659384304107361,PySem.W.Fast.te14364793385576792824]
end HB
namespace HB
open PySem PySem.W L2
theorem mkD {K:PySem.W.Frag}{mg:Str→Option Value}{h:Heap} (X:K.In h) (G:h.Ns mainGlobals mg) (n:String) (st:Stmt) (ps:List Str) (f cd:Addr) (pm:Value)
  (a:nsIn K mainGlobals (Str.ofString n)=some (some (.ref f))) (l:K.lookup f=some (fO n st pm cd)) (c:codeIn K (.ref cd) (Str.ofString n)=true) (k:keepIn K (.ref f)=true)
  (b:∀ (kV doc pm:Value) (an:Option Addr) (cdv ct:Value) (us:List Value),us.length=ps.length→bindArgs (PySem.W.fnOf (Str.ofString n) (Str.ofString n) (eG st) (c9 st) (aK st) .none kV doc pm an cdv ct) ⟨us,[]⟩=pure (ps.zip us)) :
  R.Df K mg (Str.ofString n) st ps f (PySem.W.fnOf (Str.ofString n) (Str.ofString n) (eG st) (c9 st) (aK st) .none .none .none pm none (.ref cd) .none) :=
 have F:Fun K (Str.ofString n) (Str.ofString n) st f _:=aFT l c k
 ⟨F,F.binds b,mg_of X G a⟩
theorem mkE {K:PySem.W.Frag}{mg:Str→Option Value}{h:Heap} (X:K.In h) (G:h.Ns mainGlobals mg) (n:String) (st:Stmt) (ps:List Str) (f cd:Addr) (pm:Value)
  (b:∀ (kV doc pm:Value) (an:Option Addr) (cdv ct:Value) (us:List Value),us.length=ps.length→bindArgs (PySem.W.fnOf (Str.ofString n) (Str.ofString n) (eG st) (c9 st) (aK st) .none kV doc pm an cdv ct) ⟨us,[]⟩=pure (ps.zip us))
  (a:nsIn K mainGlobals (Str.ofString n)=some (some (.ref f)):=by kernel_rfl!) (l:K.lookup f=some (fO n st pm cd):=by kernel_rfl!) (c:codeIn K (.ref cd) (Str.ofString n)=true:=by kernel_rfl!) (k:keepIn K (.ref f)=true:=by kernel_rfl!) :
  R.Df K mg (Str.ofString n) st ps f (PySem.W.fnOf (Str.ofString n) (Str.ofString n) (eG st) (c9 st) (aK st) .none .none .none pm none (.ref cd) .none):=mkD X G n st ps f cd pm a l c k b
def d7:List Str:=["len", "abs", "int", "min", "max", "range", "list", "tuple", "repr", "all", "any", "enumerate", "isinstance", "bool", "str", "zip", "reversed", "sorted", "dict"]
theorem mkB {K:PySem.W.Frag}{mg:Str→Option Value}{h:Heap} (X:K.In h) (G:h.Ns mainGlobals mg) (e:(d7.all fun n=>nsIn K mainGlobals n == some none)=true):Q.Bt mg :=
 have z:∀ n∈d7,mg n=none:=fun n hn=>mg_none_of X G (eq_of_beq (List.all_eq_true.mp e n hn))
 ⟨z _ (by simp [d7]),z _ (by simp [d7]),z _ (by simp [d7]),z _ (by simp [d7]),z _ (by simp [d7]),z _ (by simp [d7]),z _ (by simp [d7]),z _ (by simp [d7]),z _ (by simp [d7]),z _ (by simp [d7]),z _ (by simp [d7]),z _ (by simp [d7]),z _ (by simp [d7]),z _ (by simp [d7]),z _ (by simp [d7]),z _ (by simp [d7]),z _ (by simp [d7]),z _ (by simp [d7]),z _ (by simp [d7])⟩
end HB
namespace HD
open PySem PySem.W HB Q
noncomputable section
def es3 (P:Params):List DictEntry:=[E P "__name__" 165 (S "law_roofridges_k49_texts_shown_and_read" 474),E P "__doc__" 166 .none,E P "__package__" 167 .none,E P "__loader__" 168 (.builtin "__main__.__loader__#opaque"),E P "__spec__" 169 .none,E P "__annotations__" 170 (R 6),E P "__builtins__" 171 (R 4),E P "__file__" 173 (S "/claim/cut.py" 172),E P "__cached__" 174 .none,E P "RoofError" 206 (R 24),E P "NoNumber" 222 (R 37),E P "NoYard" 238 (R 49),E P "NoText" 254 (R 61),E P "is_whole" 263 (R 70),E P "common_divisor" 272 (R 77),E P "lowest" 281 (R 84),E P "is_number" 288 (R 91),E P "fraction" 296 (R 98),E P "plus" 304 (R 105),E P "times" 312 (R 112),E P "under" 320 (R 119),E P "VOID" 323 (R 123),E P "MOST_LINES_yards" 325 (J 7 324),E P "FARTHEST" 327 (J 1000000000 326),E P "is_row" 333 (R 128),E P "rows_fit" 339 (R 133),E P "column" 345 (R 138),E P "columns" 351 (R 143),E P "changes" 357 (R 148),E P "picked" 363 (R 153),E P "tidied" 369 (R 158),E P "are_number_lines" 375 (R 163),E P "is_yard" 382 (R 170),E P "is_whole_line" 389 (R 177),E P "are_whole_lines" 395 (R 182),E P "made" 401 (R 187),E P "MOST_FIGURES" 405 (J 60 404),E P "MOST_LINES_texts" 407 (J 12 406),E P "VOID_TEXT" 409 (S "void" 408),E P "BREAK" 411 (S ";" 410),E P "shown_number" 419 (R 194),E P "shown_yard" 425 (R 199),E P "are_figures" 431 (R 204),E P "read_number" 442 (R 211),E P "read_lines" 448 (R 216),E P "read_yard" 459 (R 223),E P "moved" 467 (R 228),E P "stretched" 473 (R 233),E P "_law_feed" 485 (R 240),E P "_law_next" 496 (R 247),E P "_law_lines" 506 (R 254),E P "_law_lowest" 516 (R 261),E P "_law_whole" 525 (R 268),E P "_law_number" 534 (R 275),E P "_law_yard" 540 (R 280),E P "_law_text" 547 (R 287),E P "_law_yard_text" 561 (R 294),E P "law" 567 (R 299)]
def es12:List Value:=[(I 2),(I 0),(R 20),(I 4),(I 0),(R 33),(I 6),(I 0),(R 45),(I 8),(I 0),(R 57),(I 11),(I 0),(R 69),(I 13),(I 0),(R 76),(I 19),(I 0),(R 83),(I 24),(I 0),(R 90),(I 30),(I 0),(R 97),(I 36),(I 0),(R 104),(I 38),(I 0),(R 111),(I 40),(I 0),(R 118),(I 46),(I 0),(R 127),(I 50),(I 0),(R 132),(I 54),(I 0),(R 137),(I 56),(I 0),(R 142),(I 59),(I 0),(R 147),(I 65),(I 0),(R 152),(I 67),(I 0),(R 157),(I 72),(I 0),(R 162),(I 76),(I 0),(R 169),(I 84),(I 0),(R 176),(I 86),(I 0),(R 181),(I 92),(I 0),(R 186),(I 103),(I 0),(R 193),(I 106),(I 0),(R 198),(I 112),(I 0),(R 203),(I 114),(I 0),(R 210),(I 124),(I 0),(R 215),(I 128),(I 0),(R 222),(I 141),(I 0),(R 227),(I 143),(I 0),(R 232),(I 148),(I 0),(R 239),(I 156),(I 0),(R 246),(I 167),(I 0),(R 253),(I 173),(I 0),(R 260),(I 179),(I 0),(R 267),(I 184),(I 0),(R 274),(I 192),(I 0),(R 279),(I 203),(I 0),(R 286),(I 207),(I 0),(R 293),(I 221),(I 0),(R 298)]
def hl0 (P:Params):List Obj:=[boot_o_0 P]++[boot_o_1 P]++[boot_o_2 P]++[dO (es3 P) 58]++[boot_o_4 P]++[boot_o_5 P]++[boot_o_6 P]++[boot_o_7 P]++[boot_o_8 P]++[boot_o_9 P]++[boot_o_10 P]++[tO []]
def hl1 (P:Params):List Obj:=[vO es12]++[⟨.type "code", none, .fields #[(S "<module>" 182),(S "<module>" 183),(S "/claim/cut.py" 184),(I 1),(I 0),(I 0),(I 0),(I 0),(R 11),(.bool false),(I 181),(R 12), .none, .none, .none, .none,(I 185),(I 1),(S "/claim/cut.py" 186)],#[]⟩]++[⟨(.type "frame"),none, .plain,#[some (R 13),some (R 3),some (R 3),none,some (S "__main__" 164),none,some (R 0)]⟩]++[tO [(.type "ValueError")]]++[⟨(.type "builtin_function_or_method"),none, .fields #[(.builtin "type.__prepare__"),(.type "type")],#[]⟩]++[dO [E P "__module__" 196 (S "roofridges.errors" 187),E P "__qualname__" 198 (S "RoofError" 197),E P "__firstlineno__" 200 (J 2 199),E P "__static_attributes__" 201 (R 22)] 4]++[tO []]++[vO []]++[⟨.type "code", none, .fields #[(S "RoofError" 191),(S "RoofError" 192),(S "/claim/cut.py" 193),(I 2),(I 0),(I 0),(I 0),(I 0),(R 18),(.bool false),(I 181),(R 19), .none, .none, .none, .none,(I 194),(I 2),(S "/claim/cut.py" 195)],#[]⟩]++[⟨(.type "frame"),none, .plain,#[some (R 20),some (R 3),some (R 17),none,some (S "roofridges.errors" 187),none,some (R 0)]⟩]++[tO []]++[dO [E P "__module__" 196 (S "roofridges.errors" 187),E P "__firstlineno__" 200 (J 2 199),E P "__static_attributes__" 201 (R 22),E P "__weakref__" 203 (R 25),E P "__doc__" 204 .none] 3]
def hl2 (P:Params):List Obj:=[⟨(.type "type"),none, .cls { name := "RoofError", bases:=[(.type "ValueError")],mro:=[(R 24),(.type "ValueError"),(.type "Exception"),(.type "BaseException"),(.type "object")],ns:=23,qualname := "RoofError", hasDict:=true,slotNames:=[],subclasses:=[(R 37),(R 49),(R 61)],abstract:=false,collection:=none,hasDel:=false },#[some (R 15),none,some (S "RoofError" 189),some (S "RoofError" 197),some (.builtin "ValueError.__new__"),some (.bool true)]⟩]++[⟨(.type "getset_descriptor"),none, .fields #[(S "__weakref__" 202),(R 24),(.builtin "ExceptionGroup.__weakref__"), .none],#[]⟩]++[⟨(.type "super"),none, .fields #[(R 24),(R 24),(R 24)],#[]⟩]++[⟨(.type "builtin_function_or_method"),none, .fields #[(.builtin "object.__init_subclass__"),(R 24)],#[]⟩]++[tO [(R 24)]]++[⟨(.type "builtin_function_or_method"),none, .fields #[(.builtin "type.__prepare__"),(.type "type")],#[]⟩]++[dO [E P "__module__" 214 (S "roofridges.errors" 187),E P "__qualname__" 216 (S "NoNumber" 215),E P "__firstlineno__" 218 (J 4 217),E P "__static_attributes__" 219 (R 35)] 4]++[tO []]++[vO []]++[⟨.type "code", none, .fields #[(S "NoNumber" 209),(S "NoNumber" 210),(S "/claim/cut.py" 211),(I 4),(I 0),(I 0),(I 0),(I 0),(R 31),(.bool false),(I 181),(R 32), .none, .none, .none, .none,(I 212),(I 4),(S "/claim/cut.py" 213)],#[]⟩]++[⟨(.type "frame"),none, .plain,#[some (R 33),some (R 3),some (R 30),none,some (S "roofridges.errors" 187),none,some (R 0)]⟩]++[tO []]
def hl3 (P:Params):List Obj:=[dO [E P "__module__" 214 (S "roofridges.errors" 187),E P "__firstlineno__" 218 (J 4 217),E P "__static_attributes__" 219 (R 35),E P "__doc__" 220 .none] 2]++[⟨(.type "type"),none, .cls { name := "NoNumber", bases:=[(R 24)],mro:=[(R 37),(R 24),(.type "ValueError"),(.type "Exception"),(.type "BaseException"),(.type "object")],ns:=36,qualname := "NoNumber", hasDict:=true,slotNames:=[],subclasses:=[],abstract:=false,collection:=none,hasDel:=false },#[some (R 28),none,some (S "NoNumber" 207),some (S "NoNumber" 215),some (.builtin "ValueError.__new__"),some (.bool true)]⟩]++[⟨(.type "super"),none, .fields #[(R 37),(R 37),(R 37)],#[]⟩]++[⟨(.type "builtin_function_or_method"),none, .fields #[(.builtin "object.__init_subclass__"),(R 37)],#[]⟩]++[tO [(R 24)]]++[⟨(.type "builtin_function_or_method"),none, .fields #[(.builtin "type.__prepare__"),(.type "type")],#[]⟩]++[dO [E P "__module__" 230 (S "roofridges.errors" 187),E P "__qualname__" 232 (S "NoYard" 231),E P "__firstlineno__" 234 (J 6 233),E P "__static_attributes__" 235 (R 47)] 4]++[tO []]++[vO []]++[⟨.type "code", none, .fields #[(S "NoYard" 225),(S "NoYard" 226),(S "/claim/cut.py" 227),(I 6),(I 0),(I 0),(I 0),(I 0),(R 43),(.bool false),(I 181),(R 44), .none, .none, .none, .none,(I 228),(I 6),(S "/claim/cut.py" 229)],#[]⟩]++[⟨(.type "frame"),none, .plain,#[some (R 45),some (R 3),some (R 42),none,some (S "roofridges.errors" 187),none,some (R 0)]⟩]++[tO []]
def hl4 (P:Params):List Obj:=[dO [E P "__module__" 230 (S "roofridges.errors" 187),E P "__firstlineno__" 234 (J 6 233),E P "__static_attributes__" 235 (R 47),E P "__doc__" 236 .none] 2]++[⟨(.type "type"),none, .cls { name := "NoYard", bases:=[(R 24)],mro:=[(R 49),(R 24),(.type "ValueError"),(.type "Exception"),(.type "BaseException"),(.type "object")],ns:=48,qualname := "NoYard", hasDict:=true,slotNames:=[],subclasses:=[],abstract:=false,collection:=none,hasDel:=false },#[some (R 40),none,some (S "NoYard" 223),some (S "NoYard" 231),some (.builtin "ValueError.__new__"),some (.bool true)]⟩]++[⟨(.type "super"),none, .fields #[(R 49),(R 49),(R 49)],#[]⟩]++[⟨(.type "builtin_function_or_method"),none, .fields #[(.builtin "object.__init_subclass__"),(R 49)],#[]⟩]++[tO [(R 24)]]++[⟨(.type "builtin_function_or_method"),none, .fields #[(.builtin "type.__prepare__"),(.type "type")],#[]⟩]++[dO [E P "__module__" 246 (S "roofridges.errors" 187),E P "__qualname__" 248 (S "NoText" 247),E P "__firstlineno__" 250 (J 8 249),E P "__static_attributes__" 251 (R 59)] 4]++[tO []]++[vO []]++[⟨.type "code", none, .fields #[(S "NoText" 241),(S "NoText" 242),(S "/claim/cut.py" 243),(I 8),(I 0),(I 0),(I 0),(I 0),(R 55),(.bool false),(I 181),(R 56), .none, .none, .none, .none,(I 244),(I 8),(S "/claim/cut.py" 245)],#[]⟩]++[⟨(.type "frame"),none, .plain,#[some (R 57),some (R 3),some (R 54),none,some (S "roofridges.errors" 187),none,some (R 0)]⟩]++[tO []]
def hl5 (P:Params):List Obj:=[dO [E P "__module__" 246 (S "roofridges.errors" 187),E P "__firstlineno__" 250 (J 8 249),E P "__static_attributes__" 251 (R 59),E P "__doc__" 252 .none] 2]++[⟨(.type "type"),none, .cls { name := "NoText", bases:=[(R 24)],mro:=[(R 61),(R 24),(.type "ValueError"),(.type "Exception"),(.type "BaseException"),(.type "object")],ns:=60,qualname := "NoText", hasDict:=true,slotNames:=[],subclasses:=[],abstract:=false,collection:=none,hasDel:=false },#[some (R 52),none,some (S "NoText" 239),some (S "NoText" 247),some (.builtin "ValueError.__new__"),some (.bool true)]⟩]++[⟨(.type "super"),none, .fields #[(R 61),(R 61),(R 61)],#[]⟩]++[⟨(.type "builtin_function_or_method"),none, .fields #[(.builtin "object.__init_subclass__"),(R 61)],#[]⟩]++D7 (Q.top 6) "is_whole" 64 257 11 1 ["thing"] (S "roofridges.fractions" 255)++D7 (Q.top 7) "common_divisor" 71 264 13 2 ["one", "other", "rest"] (S "roofridges.fractions" 255)++D7 (Q.top 8) "lowest" 78 273 19 2 ["top", "bottom", "divisor"] (S "roofridges.fractions" 255)++D7 (Q.top 9) "is_number" 85 282 24 1 ["thing"] (S "roofridges.fractions" 255)++D7 (Q.top 10) "fraction" 92 289 30 2 ["top", "bottom"] (S "roofridges.fractions" 255)++D7 (Q.top 11) "plus" 99 297 36 2 ["one", "other"] (S "roofridges.fractions" 255)++D7 (Q.top 12) "times" 106 305 38 2 ["one", "other"] (S "roofridges.fractions" 255)++D7 (Q.top 13) "under" 113 313 40 2 ["one", "other"] (S "roofridges.fractions" 255)
def hl6 (P:Params):List Obj:=[tO []]++[tO []]++[tO []]++[tO [(R 120),(R 121),(R 122)]]++[tO []]++[vO []]++[pO "is_row" (Q.top 18)]++[⟨.type "code", none, .fields #[(S "is_row" 328),(S "is_row" 329),(S "/claim/cut.py" 330),(I 46),(I 2),(I 0),(I 0),(I 3),(R 124),(.bool true),(I 181),(R 125), .none, .none, .none,(R 126),(I 331),(I 46),(S "/claim/cut.py" 332)],#[]⟩]++[fO "is_row" (Q.top 18) (S "roofridges.yards" 321) 127]++[tO []]++[vO []]++[pO "rows_fit" (Q.top 19)]
def hl7 (P:Params):List Obj:=[⟨.type "code", none, .fields #[(S "rows_fit" 334),(S "rows_fit" 335),(S "/claim/cut.py" 336),(I 50),(I 3),(I 0),(I 0),(I 3),(R 129),(.bool true),(I 181),(R 130), .none, .none, .none,(R 131),(I 337),(I 50),(S "/claim/cut.py" 338)],#[]⟩]++[fO "rows_fit" (Q.top 19) (S "roofridges.yards" 321) 132]++[tO []]++[vO []]++[pO "column" (Q.top 20)]++[⟨.type "code", none, .fields #[(S "column" 340),(S "column" 341),(S "/claim/cut.py" 342),(I 54),(I 2),(I 0),(I 0),(I 3),(R 134),(.bool true),(I 181),(R 135), .none, .none, .none,(R 136),(I 343),(I 54),(S "/claim/cut.py" 344)],#[]⟩]++[fO "column" (Q.top 20) (S "roofridges.yards" 321) 137]++[tO []]++[vO []]++[pO "columns" (Q.top 21)]++[⟨.type "code", none, .fields #[(S "columns" 346),(S "columns" 347),(S "/claim/cut.py" 348),(I 56),(I 1),(I 0),(I 0),(I 3),(R 139),(.bool true),(I 181),(R 140), .none, .none, .none,(R 141),(I 349),(I 56),(S "/claim/cut.py" 350)],#[]⟩]++[fO "columns" (Q.top 21) (S "roofridges.yards" 321) 142]
def hl8 (P:Params):List Obj:=[tO []]++[vO []]++[pO "changes" (Q.top 22)]++[⟨.type "code", none, .fields #[(S "changes" 352),(S "changes" 353),(S "/claim/cut.py" 354),(I 59),(I 1),(I 0),(I 0),(I 3),(R 144),(.bool true),(I 181),(R 145), .none, .none, .none,(R 146),(I 355),(I 59),(S "/claim/cut.py" 356)],#[]⟩]++[fO "changes" (Q.top 22) (S "roofridges.yards" 321) 147]++[tO []]++[vO []]++[pO "picked" (Q.top 23)]++[⟨.type "code", none, .fields #[(S "picked" 358),(S "picked" 359),(S "/claim/cut.py" 360),(I 65),(I 2),(I 0),(I 0),(I 3),(R 149),(.bool true),(I 181),(R 150), .none, .none, .none,(R 151),(I 361),(I 65),(S "/claim/cut.py" 362)],#[]⟩]++[fO "picked" (Q.top 23) (S "roofridges.yards" 321) 152]++[tO []]++[vO []]
def hl9 (P:Params):List Obj:=[pO "tidied" (Q.top 24)]++[⟨.type "code", none, .fields #[(S "tidied" 364),(S "tidied" 365),(S "/claim/cut.py" 366),(I 67),(I 3),(I 0),(I 0),(I 3),(R 154),(.bool true),(I 181),(R 155), .none, .none, .none,(R 156),(I 367),(I 67),(S "/claim/cut.py" 368)],#[]⟩]++[fO "tidied" (Q.top 24) (S "roofridges.yards" 321) 157]++[tO []]++[vO []]++[pO "are_number_lines" (Q.top 25)]++[⟨.type "code", none, .fields #[(S "are_number_lines" 370),(S "are_number_lines" 371),(S "/claim/cut.py" 372),(I 72),(I 1),(I 0),(I 0),(I 3),(R 159),(.bool true),(I 181),(R 160), .none, .none, .none,(R 161),(I 373),(I 72),(S "/claim/cut.py" 374)],#[]⟩]++[fO "are_number_lines" (Q.top 25) (S "roofridges.yards" 321) 162]++D7 (Q.top 26) "is_yard" 164 376 76 1 ["thing"] (S "roofridges.yards" 321)++D7 (Q.top 27) "is_whole_line" 171 383 84 1 ["thing"] (S "roofridges.yards" 321)++[tO []]++[vO []]
def hl10 (P:Params):List Obj:=[pO "are_whole_lines" (Q.top 28)]++[⟨.type "code", none, .fields #[(S "are_whole_lines" 390),(S "are_whole_lines" 391),(S "/claim/cut.py" 392),(I 86),(I 1),(I 0),(I 0),(I 3),(R 178),(.bool true),(I 181),(R 179), .none, .none, .none,(R 180),(I 393),(I 86),(S "/claim/cut.py" 394)],#[]⟩]++[fO "are_whole_lines" (Q.top 28) (S "roofridges.yards" 321) 181]++[tO []]++[vO []]++[pO "made" (Q.top 29)]++[⟨.type "code", none, .fields #[(S "made" 396),(S "made" 397),(S "/claim/cut.py" 398),(I 92),(I 3),(I 0),(I 0),(I 3),(R 183),(.bool true),(I 181),(R 184), .none, .none, .none,(R 185),(I 399),(I 92),(S "/claim/cut.py" 400)],#[]⟩]++[fO "made" (Q.top 29) (S "roofridges.yards" 321) 186]++D7 (Q.top 35) "shown_number" 188 412 103 1 ["number", "top"] (S "roofridges.texts" 402)++[tO []]++[vO []]++[pO "shown_yard" (Q.top 36)]
def hl11 (P:Params):List Obj:=[⟨.type "code", none, .fields #[(S "shown_yard" 420),(S "shown_yard" 421),(S "/claim/cut.py" 422),(I 106),(I 1),(I 0),(I 0),(I 3),(R 195),(.bool true),(I 181),(R 196), .none, .none, .none,(R 197),(I 423),(I 106),(S "/claim/cut.py" 424)],#[]⟩]++[fO "shown_yard" (Q.top 36) (S "roofridges.texts" 402) 198]++[tO []]++[vO []]++[pO "are_figures" (Q.top 37)]++[⟨.type "code", none, .fields #[(S "are_figures" 426),(S "are_figures" 427),(S "/claim/cut.py" 428),(I 112),(I 1),(I 0),(I 0),(I 3),(R 200),(.bool true),(I 181),(R 201), .none, .none, .none,(R 202),(I 429),(I 112),(S "/claim/cut.py" 430)],#[]⟩]++[fO "are_figures" (Q.top 37) (S "roofridges.texts" 402) 203]++D7 (Q.top 38) "read_number" 205 432 114 1 ["text", "halves", "top", "bottom", "number"] (S "roofridges.texts" 402)++[tO []]++[vO []]++[pO "read_lines" (Q.top 39)]++[⟨.type "code", none, .fields #[(S "read_lines" 443),(S "read_lines" 444),(S "/claim/cut.py" 445),(I 124),(I 1),(I 0),(I 0),(I 3),(R 212),(.bool true),(I 181),(R 213), .none, .none, .none,(R 214),(I 446),(I 124),(S "/claim/cut.py" 447)],#[]⟩]
def hl12 (P:Params):List Obj:=[fO "read_lines" (Q.top 39) (S "roofridges.texts" 402) 215]++D7 (Q.top 40) "read_yard" 217 449 128 1 ["text", "words", "first", "second", "yard"] (S "roofridges.texts" 402)++[tO []]++[vO []]++[pO "moved" (Q.top 42)]++[⟨.type "code", none, .fields #[(S "moved" 462),(S "moved" 463),(S "/claim/cut.py" 464),(I 141),(I 3),(I 0),(I 0),(I 3),(R 224),(.bool true),(I 181),(R 225), .none, .none, .none,(R 226),(I 465),(I 141),(S "/claim/cut.py" 466)],#[]⟩]++[fO "moved" (Q.top 42) (S "roofridges.moves" 460) 227]++[tO []]++[vO []]++[pO "stretched" (Q.top 43)]++[⟨.type "code", none, .fields #[(S "stretched" 468),(S "stretched" 469),(S "/claim/cut.py" 470),(I 143),(I 3),(I 0),(I 0),(I 3),(R 229),(.bool true),(I 181),(R 230), .none, .none, .none,(R 231),(I 471),(I 143),(S "/claim/cut.py" 472)],#[]⟩]++[fO "stretched" (Q.top 43) (S "roofridges.moves" 460) 232]
def hl13 (P:Params):List Obj:=D7 (Q.top 45) "_law_feed" 234 476 148 2 ["_law_script", "_law_k", "_law_cell", "_law_great"] (S "law_roofridges_k49_texts_shown_and_read" 474)++D7 (Q.top 46) "_law_next" 241 486 156 2 ["_law_feed_here", "_law_many", "_law_digit", "_law_step", "_law_mixed"] (S "law_roofridges_k49_texts_shown_and_read" 474)++D7 (Q.top 47) "_law_lines" 248 497 167 1 ["_law_feed_here", "_law_most", "_law_found", "_law_k"] (S "law_roofridges_k49_texts_shown_and_read" 474)++D7 (Q.top 48) "_law_lowest" 255 507 173 2 ["_law_first", "_law_second", "_law_one", "_law_other"] (S "law_roofridges_k49_texts_shown_and_read" 474)++D7 (Q.top 49) "_law_whole" 262 517 179 1 ["_law_feed_here", "_law_found", "_law_k"] (S "law_roofridges_k49_texts_shown_and_read" 474)++D7 (Q.top 50) "_law_number" 269 526 184 1 ["_law_feed_here", "_law_way", "_law_first"] (S "law_roofridges_k49_texts_shown_and_read" 474)++[tO []]++[vO []]++[pO "_law_yard" (Q.top 51)]++[⟨.type "code", none, .fields #[(S "_law_yard" 535),(S "_law_yard" 536),(S "/claim/cut.py" 537),(I 192),(I 1),(I 0),(I 0),(I 3),(R 276),(.bool true),(I 181),(R 277), .none, .none, .none,(R 278),(I 538),(I 192),(S "/claim/cut.py" 539)],#[]⟩]++[fO "_law_yard" (Q.top 51) (S "law_roofridges_k49_texts_shown_and_read" 474) 279]++D7 (Q.top 52) "_law_text" 281 541 203 1 ["_law_number_here"] (S "law_roofridges_k49_texts_shown_and_read" 474)
def hl14 (P:Params):List Obj:=D7 (Q.top 53) "_law_yard_text" 288 548 207 1 ["_law_yard_here", "_law_xs", "_law_ys", "_law_rows", "_law_text_here", "_law_x", "_law_y", "_law_row"] (S "law_roofridges_k49_texts_shown_and_read" 474)++[tO []]++[vO []]++[pO "law" (Q.top 54)]++[⟨.type "code", none, .fields #[(S "law" 562),(S "law" 563),(S "/claim/cut.py" 564),(I 221),(I 1),(I 0),(I 0),(I 3),(R 295),(.bool true),(I 181),(R 296), .none, .none, .none,(R 297),(I 565),(I 221),(S "/claim/cut.py" 566)],#[]⟩]++[fO "law" (Q.top 54) (S "law_roofridges_k49_texts_shown_and_read" 474) 298]
def hl (P:Params):List Obj:=hl0 P++hl1 P++hl2 P++hl3 P++hl4 P++hl5 P++hl6 P++hl7 P++hl8 P++hl9 P++hl10 P++hl11 P++hl12 P++hl13 P++hl14 P
def hA (P:Params):Heap:=⟨Array.mk (ov [(3,boot_o_3 P),(12,vO (es12.take 0))] ((hl P).take 15)),{}⟩
def env:Env:={ scope:=PySem.Challenge.pw_roofridges_k49_texts_shown_and_read.main.scope,locals:=mainNs,globals:=mainNs,cells:=[],code:=(R 13),frame:=some 14 }
abbrev p:Program:=PySem.Challenge.rw_roofridges_k49_texts_shown_and_read.row.toRowW.1
abbrev bE:List Stmt:=behindTheImports p
abbrev cE:Code := .body bE env
theorem pre (w:World) (os:OsState):topGo treeTable p w 11 (some (R 6)) 12 ⟨boot_heap w.params,Array.mk [],boot_drawn,boot_toks,os⟩ (topStub p)=some (sh (hA w.params) 187 os,⟨denote treeTable cE,cE,(ps 0 0 0 0),B⟩):=by rw [eGo,PySem.W.Fast.te11892475500146522536,PySem.W.Fast.te14364793385576792824]; kernel_rfl!
def t0 (P:Params):BT:=bt 14 (ov [(3,boot_o_3 P),(12,vO (es12.take 0))] ((hl P).take 15))
theorem block (w:World) (os:OsState):segRun treeTable p w 11 (some (R 6)) 1 1 (sh (hA w.params) 187 os) (blockOf bE env cE (ps 0 0 0 0) B)=some (.next,(sT (t0 w.params) 15 187 os).abs,cE,(ps 0 0 0 0)):=by rw [eSeg]; kernel_rfl!
def t1 (P:Params):BT:=bt 14 (ov [(3,dO (ov [(0,E P "__name__" 165 (S "roofridges.errors" 187))] ((es3 P).take 10)) 10),(12,vO (es12.take 3)),(24,⟨(.type "type"),none, .cls { name := "RoofError", bases:=[(.type "ValueError")],mro:=[(R 24),(.type "ValueError"),(.type "Exception"),(.type "BaseException"),(.type "object")],ns:=23,qualname := "RoofError", hasDict:=true,slotNames:=[],subclasses:=[],abstract:=false,collection:=none,hasDel:=false },#[some (R 15),none,some (S "RoofError" 189),some (S "RoofError" 197),some (.builtin "ValueError.__new__"),some (.bool true)]⟩)] ((hl P).take 28))
def g1:List Stmt:=[Q.top 0,Q.top 1]
theorem r1 (w:World) (os:OsState):segRunT treeTable p w 11 (some (R 6)) 1 196 (sT (t0 w.params) 15 187 os) (piecesOf g1 env cE (ps 0 0 0 0) B)=some (.next,sT (t1 w.params) 28 207 os,cE,(ps 2 0 3 8)):=by rw [oJ]; kernel_rfl!
def t2 (P:Params):BT:=bt 14 (ov [(3,dO (ov [(0,E P "__name__" 165 (S "roofridges.errors" 187))] ((es3 P).take 11)) 11),(12,vO (es12.take 6)),(24,⟨(.type "type"),none, .cls { name := "RoofError", bases:=[(.type "ValueError")],mro:=[(R 24),(.type "ValueError"),(.type "Exception"),(.type "BaseException"),(.type "object")],ns:=23,qualname := "RoofError", hasDict:=true,slotNames:=[],subclasses:=[(R 37)],abstract:=false,collection:=none,hasDel:=false },#[some (R 15),none,some (S "RoofError" 189),some (S "RoofError" 197),some (.builtin "ValueError.__new__"),some (.bool true)]⟩)] ((hl P).take 40))
def g2:List Stmt:=[Q.top 2]
theorem r2 (w:World) (os:OsState):segRunT treeTable p w 11 (some (R 6)) 1 214 (sT (t1 w.params) 28 207 os) (piecesOf g2 env cE (ps 2 0 3 8) B)=some (.next,sT (t2 w.params) 40 223 os,cE,(ps 4 0 5 8)):=by rw [oJ]; kernel_rfl!
def t3 (P:Params):BT:=bt 14 (ov [(3,dO (ov [(0,E P "__name__" 165 (S "roofridges.errors" 187))] ((es3 P).take 12)) 12),(12,vO (es12.take 9)),(24,⟨(.type "type"),none, .cls { name := "RoofError", bases:=[(.type "ValueError")],mro:=[(R 24),(.type "ValueError"),(.type "Exception"),(.type "BaseException"),(.type "object")],ns:=23,qualname := "RoofError", hasDict:=true,slotNames:=[],subclasses:=[(R 37),(R 49)],abstract:=false,collection:=none,hasDel:=false },#[some (R 15),none,some (S "RoofError" 189),some (S "RoofError" 197),some (.builtin "ValueError.__new__"),some (.bool true)]⟩)] ((hl P).take 52))
def g3:List Stmt:=[Q.top 3]
theorem r3 (w:World) (os:OsState):segRunT treeTable p w 11 (some (R 6)) 1 214 (sT (t2 w.params) 40 223 os) (piecesOf g3 env cE (ps 4 0 5 8) B)=some (.next,sT (t3 w.params) 52 239 os,cE,(ps 6 0 7 8)):=by rw [oJ]; kernel_rfl!
def t4 (P:Params):BT:=bt 14 (ov [(3,dO (ov [(0,E P "__name__" 165 (S "roofridges.fractions" 255))] ((es3 P).take 18)) 18),(12,vO (es12.take 27))] ((hl P).take 99))
def g4:List Stmt:=[Q.top 4,Q.top 5,Q.top 6,Q.top 7,Q.top 8,Q.top 9,Q.top 10]
theorem r4 (w:World) (os:OsState):segRunT treeTable p w 11 (some (R 6)) 1 373 (sT (t3 w.params) 52 239 os) (piecesOf g4 env cE (ps 6 0 7 8) B)=some (.next,sT (t4 w.params) 99 297 os,cE,(ps 30 0 35 30)):=by rw [oJ]; kernel_rfl!
def t5 (P:Params):BT:=bt 14 (ov [(3,dO (ov [(0,E P "__name__" 165 (S "roofridges.yards" 321))] ((es3 P).take 34)) 34),(12,vO (es12.take 66))] ((hl P).take 178))
def g5:List Stmt:=[Q.top 11,Q.top 12,Q.top 13,Q.top 14,Q.top 15,Q.top 16,Q.top 17,Q.top 18,Q.top 19,Q.top 20,Q.top 21,Q.top 22,Q.top 23,Q.top 24,Q.top 25,Q.top 26,Q.top 27]
theorem r5 (w:World) (os:OsState):segRunT treeTable p w 11 (some (R 6)) 1 400 (sT (t4 w.params) 99 297 os) (piecesOf g5 env cE (ps 30 0 35 30) B)=some (.next,sT (t5 w.params) 178 390 os,cE,(ps 84 0 85 61)):=by rw [oJ]; kernel_rfl!
def t6 (P:Params):BT:=bt 14 (ov [(3,dO (ov [] ((es3 P).take 49)) 49),(12,vO (es12.take 99))] ((hl P).take 241))
def g6:List Stmt:=[Q.top 28,Q.top 29,Q.top 30,Q.top 31,Q.top 32,Q.top 33,Q.top 34,Q.top 35,Q.top 36,Q.top 37,Q.top 38,Q.top 39,Q.top 40,Q.top 41,Q.top 42,Q.top 43,Q.top 44,Q.top 45]
theorem r6 (w:World) (os:OsState):segRunT treeTable p w 11 (some (R 6)) 1 374 (sT (t5 w.params) 178 390 os) (piecesOf g6 env cE (ps 84 0 85 61) B)=some (.next,sT (t6 w.params) 241 486 os,cE,(ps 148 0 155 94)):=by rw [oJ]; kernel_rfl!
def t7 (P:Params):BT:=bt 14 (ov [] ((hl P).take 300))
def g7:List Stmt:=[Q.top 46,Q.top 47,Q.top 48,Q.top 49,Q.top 50,Q.top 51,Q.top 52,Q.top 53,Q.top 54]
theorem r7 (w:World) (os:OsState):segRunT treeTable p w 11 (some (R 6)) 1 277 (sT (t6 w.params) 241 486 os) (piecesOf g7 env cE (ps 148 0 155 94) B)=some (.next,sT (t7 w.params) 300 568 os,cE,(ps 221 0 239 83)):=by rw [oJ]; kernel_rfl!
def hZ (P:Params):Heap:=⟨Array.mk (hl P),{}⟩
theorem fin (w:World) (os:OsState):topRun treeTable p w 11 (some (R 6)) 2 (sT (t7 w.params) 300 568 os).abs ⟨doneF .next,cE,(ps 221 0 239 83),B⟩=some (sh (hZ w.params) 568 os):=by rw [eTop]; kernel_rfl!
theorem body:bE=g1++(g2++(g3++(g4++(g5++(g6++(g7++([]))))))):=by kernel_rfl!
theorem chain (w:World) (os:OsState):topRun treeTable p w 11 (some (R 6)) (196+(214+(214+(373+(400+(374+(277+(2)))))))) (sT (t0 w.params) 15 187 os).abs (restOf (g1++(g2++(g3++(g4++(g5++(g6++(g7++([])))))))) env cE (ps 0 0 0 0) B)=some (sh (hZ w.params) 568 os):=piece_app (segRun_of (r1 w os)) (piece_app (segRun_of (r2 w os)) (piece_app (segRun_of (r3 w os)) (piece_app (segRun_of (r4 w os)) (piece_app (segRun_of (r5 w os)) (piece_app (segRun_of (r6 w os)) (piece_app (segRun_of (r7 w os)) (fin w os)))))))
theorem run (w:World) (os:OsState):topRun treeTable p w 11 (some (R 6)) (12+(1+(196+(214+(214+(373+(400+(374+(277+(2)))))))))) ⟨boot_heap w.params,Array.mk [],boot_drawn,boot_toks,os⟩ (topStub p)=some (sh (hZ w.params) 568 os):=go_top (pre w os) (piece_block (block w os) (by have h:=chain w os; rw [← body] at h; exact h))
def view:Program:={ p with main:={ p.main with body:=[Q.top 1,Q.top 2,Q.top 3,Q.top 4,Q.top 6,Q.top 7,Q.top 8,Q.top 9,Q.top 10,Q.top 11,Q.top 12,Q.top 13,Q.top 15,Q.top 16,Q.top 17,Q.top 18,Q.top 19,Q.top 20,Q.top 21,Q.top 22,Q.top 23,Q.top 24,Q.top 25,Q.top 26,Q.top 27,Q.top 28,Q.top 29,Q.top 31,Q.top 32,Q.top 33,Q.top 34,Q.top 35,Q.top 36,Q.top 37,Q.top 38,Q.top 39,Q.top 40,Q.top 42,Q.top 43,Q.top 45,Q.top 46,Q.top 47,Q.top 48,Q.top 49,Q.top 50,Q.top 51,Q.top 52,Q.top 53,Q.top 54] } }
def ob (P:Params) (i:Nat):Obj:=(hl P).getD i default
def K (P:Params):Frag:=[(nat_lit 2,ob P 2),(nat_lit 3,ob P 3),(nat_lit 15,ob P 15),(nat_lit 22,ob P 22),(nat_lit 23,ob P 23),(nat_lit 24,ob P 24),(nat_lit 25,ob P 25),(nat_lit 28,ob P 28),(nat_lit 35,ob P 35),(nat_lit 36,ob P 36),(nat_lit 37,ob P 37),(nat_lit 40,ob P 40),(nat_lit 47,ob P 47),(nat_lit 48,ob P 48),(nat_lit 49,ob P 49),(nat_lit 52,ob P 52),(nat_lit 59,ob P 59),(nat_lit 60,ob P 60),(nat_lit 61,ob P 61),(nat_lit 64,ob P 64),(nat_lit 66,ob P 66),(nat_lit 67,ob P 67),(nat_lit 69,ob P 69),(nat_lit 70,fO "is_whole" (Q.top 6) (S "roofridges.fractions" 255) 69),(nat_lit 71,ob P 71),(nat_lit 73,ob P 73),(nat_lit 74,ob P 74),(nat_lit 76,ob P 76),(nat_lit 77,fO "common_divisor" (Q.top 7) (S "roofridges.fractions" 255) 76),(nat_lit 78,ob P 78),(nat_lit 80,ob P 80),(nat_lit 81,ob P 81),(nat_lit 83,ob P 83),(nat_lit 84,fO "lowest" (Q.top 8) (S "roofridges.fractions" 255) 83),(nat_lit 85,ob P 85),(nat_lit 87,ob P 87),(nat_lit 88,ob P 88),(nat_lit 90,ob P 90),(nat_lit 91,fO "is_number" (Q.top 9) (S "roofridges.fractions" 255) 90),(nat_lit 92,ob P 92),(nat_lit 94,ob P 94),(nat_lit 95,ob P 95),(nat_lit 97,ob P 97),(nat_lit 98,fO "fraction" (Q.top 10) (S "roofridges.fractions" 255) 97),(nat_lit 99,ob P 99),(nat_lit 101,ob P 101),(nat_lit 102,ob P 102),(nat_lit 104,ob P 104),(nat_lit 105,fO "plus" (Q.top 11) (S "roofridges.fractions" 255) 104),(nat_lit 106,ob P 106),(nat_lit 108,ob P 108),(nat_lit 109,ob P 109),(nat_lit 111,ob P 111),(nat_lit 112,fO "times" (Q.top 12) (S "roofridges.fractions" 255) 111),(nat_lit 113,ob P 113),(nat_lit 115,ob P 115),(nat_lit 116,ob P 116),(nat_lit 118,ob P 118),(nat_lit 119,fO "under" (Q.top 13) (S "roofridges.fractions" 255) 118),(nat_lit 120,ob P 120),(nat_lit 121,ob P 121),(nat_lit 122,ob P 122),(nat_lit 123,ob P 123),(nat_lit 124,ob P 124),(nat_lit 127,ob P 127),(nat_lit 128,fO "is_row" (Q.top 18) (S "roofridges.yards" 321) 127),(nat_lit 129,ob P 129),(nat_lit 132,ob P 132),(nat_lit 133,fO "rows_fit" (Q.top 19) (S "roofridges.yards" 321) 132),(nat_lit 134,ob P 134),(nat_lit 137,ob P 137),(nat_lit 138,fO "column" (Q.top 20) (S "roofridges.yards" 321) 137),(nat_lit 139,ob P 139),(nat_lit 142,ob P 142),(nat_lit 143,fO "columns" (Q.top 21) (S "roofridges.yards" 321) 142),(nat_lit 144,ob P 144),(nat_lit 147,ob P 147),(nat_lit 148,fO "changes" (Q.top 22) (S "roofridges.yards" 321) 147),(nat_lit 149,ob P 149),(nat_lit 152,ob P 152),(nat_lit 153,fO "picked" (Q.top 23) (S "roofridges.yards" 321) 152),(nat_lit 154,ob P 154),(nat_lit 157,ob P 157),(nat_lit 158,fO "tidied" (Q.top 24) (S "roofridges.yards" 321) 157),(nat_lit 159,ob P 159),(nat_lit 162,ob P 162),(nat_lit 163,fO "are_number_lines" (Q.top 25) (S "roofridges.yards" 321) 162),(nat_lit 164,ob P 164),(nat_lit 166,ob P 166),(nat_lit 167,ob P 167),(nat_lit 169,ob P 169),(nat_lit 170,fO "is_yard" (Q.top 26) (S "roofridges.yards" 321) 169),(nat_lit 171,ob P 171),(nat_lit 173,ob P 173),(nat_lit 174,ob P 174),(nat_lit 176,ob P 176),(nat_lit 177,fO "is_whole_line" (Q.top 27) (S "roofridges.yards" 321) 176),(nat_lit 178,ob P 178),(nat_lit 181,ob P 181),(nat_lit 182,fO "are_whole_lines" (Q.top 28) (S "roofridges.yards" 321) 181),(nat_lit 183,ob P 183),(nat_lit 186,ob P 186),(nat_lit 187,fO "made" (Q.top 29) (S "roofridges.yards" 321) 186),(nat_lit 188,ob P 188),(nat_lit 190,ob P 190),(nat_lit 191,ob P 191),(nat_lit 193,ob P 193),(nat_lit 194,fO "shown_number" (Q.top 35) (S "roofridges.texts" 402) 193),(nat_lit 195,ob P 195),(nat_lit 198,ob P 198),(nat_lit 199,fO "shown_yard" (Q.top 36) (S "roofridges.texts" 402) 198),(nat_lit 200,ob P 200),(nat_lit 203,ob P 203),(nat_lit 204,fO "are_figures" (Q.top 37) (S "roofridges.texts" 402) 203),(nat_lit 205,ob P 205),(nat_lit 207,ob P 207),(nat_lit 208,ob P 208),(nat_lit 210,ob P 210),(nat_lit 211,fO "read_number" (Q.top 38) (S "roofridges.texts" 402) 210),(nat_lit 212,ob P 212),(nat_lit 215,ob P 215),(nat_lit 216,fO "read_lines" (Q.top 39) (S "roofridges.texts" 402) 215),(nat_lit 217,ob P 217),(nat_lit 219,ob P 219),(nat_lit 220,ob P 220),(nat_lit 222,ob P 222),(nat_lit 223,fO "read_yard" (Q.top 40) (S "roofridges.texts" 402) 222),(nat_lit 224,ob P 224),(nat_lit 227,ob P 227),(nat_lit 228,fO "moved" (Q.top 42) (S "roofridges.moves" 460) 227),(nat_lit 229,ob P 229),(nat_lit 232,ob P 232),(nat_lit 233,fO "stretched" (Q.top 43) (S "roofridges.moves" 460) 232),(nat_lit 234,ob P 234),(nat_lit 236,ob P 236),(nat_lit 237,ob P 237),(nat_lit 239,ob P 239),(nat_lit 240,fO "_law_feed" (Q.top 45) (S "law_roofridges_k49_texts_shown_and_read" 474) 239),(nat_lit 241,ob P 241),(nat_lit 243,ob P 243),(nat_lit 244,ob P 244),(nat_lit 246,ob P 246),(nat_lit 247,fO "_law_next" (Q.top 46) (S "law_roofridges_k49_texts_shown_and_read" 474) 246),(nat_lit 248,ob P 248),(nat_lit 250,ob P 250),(nat_lit 251,ob P 251),(nat_lit 253,ob P 253),(nat_lit 254,fO "_law_lines" (Q.top 47) (S "law_roofridges_k49_texts_shown_and_read" 474) 253),(nat_lit 255,ob P 255),(nat_lit 257,ob P 257),(nat_lit 258,ob P 258),(nat_lit 260,ob P 260),(nat_lit 261,fO "_law_lowest" (Q.top 48) (S "law_roofridges_k49_texts_shown_and_read" 474) 260),(nat_lit 262,ob P 262),(nat_lit 264,ob P 264),(nat_lit 265,ob P 265),(nat_lit 267,ob P 267),(nat_lit 268,fO "_law_whole" (Q.top 49) (S "law_roofridges_k49_texts_shown_and_read" 474) 267),(nat_lit 269,ob P 269),(nat_lit 271,ob P 271),(nat_lit 272,ob P 272),(nat_lit 274,ob P 274),(nat_lit 275,fO "_law_number" (Q.top 50) (S "law_roofridges_k49_texts_shown_and_read" 474) 274),(nat_lit 276,ob P 276),(nat_lit 279,ob P 279),(nat_lit 280,fO "_law_yard" (Q.top 51) (S "law_roofridges_k49_texts_shown_and_read" 474) 279),(nat_lit 281,ob P 281),(nat_lit 283,ob P 283),(nat_lit 284,ob P 284),(nat_lit 286,ob P 286),(nat_lit 287,fO "_law_text" (Q.top 52) (S "law_roofridges_k49_texts_shown_and_read" 474) 286),(nat_lit 288,ob P 288),(nat_lit 290,ob P 290),(nat_lit 291,ob P 291),(nat_lit 293,ob P 293),(nat_lit 294,fO "_law_yard_text" (Q.top 53) (S "law_roofridges_k49_texts_shown_and_read" 474) 293),(nat_lit 295,ob P 295),(nat_lit 298,ob P 298),(nat_lit 299,fO "law" (Q.top 54) (S "law_roofridges_k49_texts_shown_and_read" 474) 298)]
def as:List Addr:=[nat_lit 2,nat_lit 3,nat_lit 15,nat_lit 22,nat_lit 23,nat_lit 24,nat_lit 25,nat_lit 28,nat_lit 35,nat_lit 36,nat_lit 37,nat_lit 40,nat_lit 47,nat_lit 48,nat_lit 49,nat_lit 52,nat_lit 59,nat_lit 60,nat_lit 61,nat_lit 64,nat_lit 66,nat_lit 67,nat_lit 69,nat_lit 70,nat_lit 71,nat_lit 73,nat_lit 74,nat_lit 76,nat_lit 77,nat_lit 78,nat_lit 80,nat_lit 81,nat_lit 83,nat_lit 84,nat_lit 85,nat_lit 87,nat_lit 88,nat_lit 90,nat_lit 91,nat_lit 92,nat_lit 94,nat_lit 95,nat_lit 97,nat_lit 98,nat_lit 99,nat_lit 101,nat_lit 102,nat_lit 104,nat_lit 105,nat_lit 106,nat_lit 108,nat_lit 109,nat_lit 111,nat_lit 112,nat_lit 113,nat_lit 115,nat_lit 116,nat_lit 118,nat_lit 119,nat_lit 120,nat_lit 121,nat_lit 122,nat_lit 123,nat_lit 124,nat_lit 127,nat_lit 128,nat_lit 129,nat_lit 132,nat_lit 133,nat_lit 134,nat_lit 137,nat_lit 138,nat_lit 139,nat_lit 142,nat_lit 143,nat_lit 144,nat_lit 147,nat_lit 148,nat_lit 149,nat_lit 152,nat_lit 153,nat_lit 154,nat_lit 157,nat_lit 158,nat_lit 159,nat_lit 162,nat_lit 163,nat_lit 164,nat_lit 166,nat_lit 167,nat_lit 169,nat_lit 170,nat_lit 171,nat_lit 173,nat_lit 174,nat_lit 176,nat_lit 177,nat_lit 178,nat_lit 181,nat_lit 182,nat_lit 183,nat_lit 186,nat_lit 187,nat_lit 188,nat_lit 190,nat_lit 191,nat_lit 193,nat_lit 194,nat_lit 195,nat_lit 198,nat_lit 199,nat_lit 200,nat_lit 203,nat_lit 204,nat_lit 205,nat_lit 207,nat_lit 208,nat_lit 210,nat_lit 211,nat_lit 212,nat_lit 215,nat_lit 216,nat_lit 217,nat_lit 219,nat_lit 220,nat_lit 222,nat_lit 223,nat_lit 224,nat_lit 227,nat_lit 228,nat_lit 229,nat_lit 232,nat_lit 233,nat_lit 234,nat_lit 236,nat_lit 237,nat_lit 239,nat_lit 240,nat_lit 241,nat_lit 243,nat_lit 244,nat_lit 246,nat_lit 247,nat_lit 248,nat_lit 250,nat_lit 251,nat_lit 253,nat_lit 254,nat_lit 255,nat_lit 257,nat_lit 258,nat_lit 260,nat_lit 261,nat_lit 262,nat_lit 264,nat_lit 265,nat_lit 267,nat_lit 268,nat_lit 269,nat_lit 271,nat_lit 272,nat_lit 274,nat_lit 275,nat_lit 276,nat_lit 279,nat_lit 280,nat_lit 281,nat_lit 283,nat_lit 284,nat_lit 286,nat_lit 287,nat_lit 288,nat_lit 290,nat_lit 291,nat_lit 293,nat_lit 294,nat_lit 295,nat_lit 298,nat_lit 299]
abbrev Hk:Hook:=kHook K as (fun _=>by kernel_rfl!)
theorem opens:∀ w:World,(fencedOpening treeTable p w 4208).map (fun s=>(s.heap,s.gens,s.drawn,s.toks))=some (boot_heap w.params,Array.mk [],boot_drawn,boot_toks):=boot_open (by kernel_rfl!) (by kernel_rfl!) (fun _=>by kernel_rfl!)
abbrev Xt:Shared→Bool:=fun s=>xlAt view [] s && recOk (RowW.records PySem.Challenge.rw_roofridges_k49_texts_shown_and_read.row.toRowW) s
theorem size (w:World):((boot_heap w.params).isNs mainGlobals && (Array.mk ([]:List GenState)).size == 0,(boot_heap w.params).objs.size,(boot_heap w.params).nsMap mainGlobals "__annotations__")=(true,11,(some (R 6))):=by kernel_rfl!
theorem look1 (w:World) (os:OsState):(staticsOk (importedModules p.main.body) (boot_heap w.params) (hZ w.params) && namesBound p (hZ w.params) && gensDone (sh (hZ w.params) 568 os) && laidKept (boot_heap w.params) (hZ w.params))=true:=by kernel_rfl!
theorem look2 (w:World) (os:OsState):openSeen view [] (importedModules p.main.body) Xt true (sh (hZ w.params) 568 os)=openGood view []:=by rw [PySem.W.Fast.te4187177175401517315]; kernel_rfl!
theorem look3 (w:World) (os:OsState):Hk.obs (sh (hZ w.params) 568 os)=Hk.val w:=by kernel_rfl!
theorem left:LeftO p view [] Xt Hk.obs Hk.val 4208 true:=LeftO.of_pieces opens size run (by kernel_rfl!) (fun w=>funext fun os=>by rw [look1,look2,look3])
theorem said:PySem.Challenge.rw_roofridges_k49_texts_shown_and_read.wellSaid=true:=by rw [PySem.W.Fast.te9446332074065402090]; kernel_rfl!
end
end HD
namespace Q
open PySem L2 Z
theorem wH {K:Fg}{G:Hp}:∀ ns:List Int,Dens K G (ns.map D.int) (ns.map V.int)
 | []=>by simp only [List.map,Dens]
 | n::ns=>by simp only [List.map,Dens]; exact ⟨_,_,rfl,by simp only [Den],wH ns⟩
open HB in
theorem all_mk {l:PySem.W.OpenLaw}{w:World}{h:Heap}{mg:Str→Option Value}{fa:Addr} (X:(HD.K w.params).In h) (G:h.Ns mainGlobals mg) (hfa:mg "law" = some (.ref fa)) :
  ∃ fd:FuncData,(∀ (s:Shared) (v:Value),BindsTo s fd ⟨[v],[]⟩ [("_law_script", v)])∧∀ base:Heap,(HD.K w.params).In base→base.Ns mainGlobals mg→FnOk l.prog w (HD.K w.params) mg base CX0 9 fa fd ["_law_script"] (spZ (HD.K w.params) xG):=by
 have T:Bt mg:=mkB X G (by kernel_rfl!)
 have C_FARTHEST:=PySem.W.mg_of X G (by kernel_rfl!:PySem.W.nsIn (HD.K w.params) mainGlobals "FARTHEST" = some (some (J 1000000000 326)))
 have C_MOST_LINES_yards:=PySem.W.mg_of X G (by kernel_rfl!:PySem.W.nsIn (HD.K w.params) mainGlobals "MOST_LINES_yards" = some (some (J 7 324)))
 have C_MOST_LINES_texts:=PySem.W.mg_of X G (by kernel_rfl!:PySem.W.nsIn (HD.K w.params) mainGlobals "MOST_LINES_texts" = some (some (J 12 406)))
 have C_MOST_FIGURES:=PySem.W.mg_of X G (by kernel_rfl!:PySem.W.nsIn (HD.K w.params) mainGlobals "MOST_FIGURES" = some (some (J 60 404)))
 have C_VOID_TEXT:=PySem.W.mg_of X G (by kernel_rfl!:PySem.W.nsIn (HD.K w.params) mainGlobals "VOID_TEXT" = some (some (S "void" 408)))
 have C_BREAK:=PySem.W.mg_of X G (by kernel_rfl!:PySem.W.nsIn (HD.K w.params) mainGlobals "BREAK" = some (some (S ";" 410)))
 have C_VOID:=PySem.W.mg_of X G (by kernel_rfl!:PySem.W.nsIn (HD.K w.params) mainGlobals "VOID" = some (some (R 123)))
 have E_VOID:∀ G,Den (HD.K w.params) G (yd U.Yd.void) (.ref 123):=fun G=>nP (as:=[120,121,122]) (by kernel_rfl!:List.lookup 123 (HD.K w.params)=some (tO [(R 120),(R 121),(R 122)])) (show (3:Nat)≤100 by decide) (cF (nP (as:=[]) (by kernel_rfl!:List.lookup 120 (HD.K w.params)=some (tO [])) (by decide) cP) (cF (nP (as:=[]) (by kernel_rfl!:List.lookup 121 (HD.K w.params)=some (tO [])) (by decide) cP) (cF (nP (as:=[]) (by kernel_rfl!:List.lookup 122 (HD.K w.params)=some (tO [])) (by decide) cP) (cP))))
 have D1:=mkE X G "is_whole" i5 ["thing"] 70 69 (S "roofridges.fractions" 255) (fun _ _ _ _ _ _ us hl=>match us,hl with | [_],_=>rfl)
 have D2:=mkE X G "common_divisor" eJ ["one", "other"] 77 76 (S "roofridges.fractions" 255) (fun _ _ _ _ _ _ us hl=>match us,hl with | [_,_],_=>rfl)
 have D3:=mkE X G "_law_feed" o6 ["_law_script", "_law_k"] 240 239 (S "law_roofridges_k49_texts_shown_and_read" 474) (fun _ _ _ _ _ _ us hl=>match us,hl with | [_,_],_=>rfl)
 have D4:=mkE X G "under" nC ["one", "other"] 119 118 (S "roofridges.fractions" 255) (fun _ _ _ _ _ _ us hl=>match us,hl with | [_,_],_=>rfl)
 have D5:=mkE X G "column" k6 ["rows", "place"] 138 137 (S "roofridges.yards" 321) (fun _ _ _ _ _ _ us hl=>match us,hl with | [_,_],_=>rfl)
 have D6:=mkE X G "columns" jX ["rows"] 143 142 (S "roofridges.yards" 321) (fun _ _ _ _ _ _ us hl=>match us,hl with | [_],_=>rfl)
 have D7:=mkE X G "changes" jZ ["bands"] 148 147 (S "roofridges.yards" 321) (fun _ _ _ _ _ _ us hl=>match us,hl with | [_],_=>rfl)
 have D8:=mkE X G "picked" lS ["row", "places"] 153 152 (S "roofridges.yards" 321) (fun _ _ _ _ _ _ us hl=>match us,hl with | [_,_],_=>rfl)
 have D9:=mkE X G "tidied" lU ["xs", "ys", "rows"] 158 157 (S "roofridges.yards" 321) (fun _ _ _ _ _ _ us hl=>match us,hl with | [_,_,_],_=>rfl)
 have D10:=mkE X G "lowest" k4 ["top", "bottom"] 84 83 (S "roofridges.fractions" 255) (fun _ _ _ _ _ _ us hl=>match us,hl with | [_,_],_=>rfl)
 have D11:=mkE X G "fraction" i4 ["top", "bottom"] 98 97 (S "roofridges.fractions" 255) (fun _ _ _ _ _ _ us hl=>match us,hl with | [_,_],_=>rfl)
 have D12:=mkE X G "plus" pK ["one", "other"] 105 104 (S "roofridges.fractions" 255) (fun _ _ _ _ _ _ us hl=>match us,hl with | [_,_],_=>rfl)
 have D13:=mkE X G "times" nJ ["one", "other"] 112 111 (S "roofridges.fractions" 255) (fun _ _ _ _ _ _ us hl=>match us,hl with | [_,_],_=>rfl)
 have D14:=mkE X G "stretched" hX ["yard", "by_x", "by_y"] 233 232 (S "roofridges.moves" 460) (fun _ _ _ _ _ _ us hl=>match us,hl with | [_,_,_],_=>rfl)
 have D15:=mkE X G "moved" nG ["yard", "x", "y"] 228 227 (S "roofridges.moves" 460) (fun _ _ _ _ _ _ us hl=>match us,hl with | [_,_,_],_=>rfl)
 have D16:=mkE X G "is_row" kU ["thing", "wide"] 128 127 (S "roofridges.yards" 321) (fun _ _ _ _ _ _ us hl=>match us,hl with | [_,_],_=>rfl)
 have D17:=mkE X G "rows_fit" i7 ["rows", "xs", "ys"] 133 132 (S "roofridges.yards" 321) (fun _ _ _ _ _ _ us hl=>match us,hl with | [_,_,_],_=>rfl)
 have D18:=mkE X G "is_whole_line" fB ["thing"] 177 176 (S "roofridges.yards" 321) (fun _ _ _ _ _ _ us hl=>match us,hl with | [_],_=>rfl)
 have D19:=mkE X G "are_whole_lines" eA ["thing"] 182 181 (S "roofridges.yards" 321) (fun _ _ _ _ _ _ us hl=>match us,hl with | [_],_=>rfl)
 have D20:=mkE X G "made" o4 ["xs", "ys", "rows"] 187 186 (S "roofridges.yards" 321) (fun _ _ _ _ _ _ us hl=>match us,hl with | [_,_,_],_=>rfl)
 have D21:=mkE X G "is_number" iB ["thing"] 91 90 (S "roofridges.fractions" 255) (fun _ _ _ _ _ _ us hl=>match us,hl with | [_],_=>rfl)
 have D22:=mkE X G "are_number_lines" dQ ["thing"] 163 162 (S "roofridges.yards" 321) (fun _ _ _ _ _ _ us hl=>match us,hl with | [_],_=>rfl)
 have D23:=mkE X G "is_yard" j6 ["thing"] 170 169 (S "roofridges.yards" 321) (fun _ _ _ _ _ _ us hl=>match us,hl with | [_],_=>rfl)
 have D24:=mkE X G "_law_next" oV ["_law_feed_here", "_law_many"] 247 246 (S "law_roofridges_k49_texts_shown_and_read" 474) (fun _ _ _ _ _ _ us hl=>match us,hl with | [_,_],_=>rfl)
 have D25:=mkE X G "_law_lines" nZ ["_law_feed_here"] 254 253 (S "law_roofridges_k49_texts_shown_and_read" 474) (fun _ _ _ _ _ _ us hl=>match us,hl with | [_],_=>rfl)
 have D26:=mkE X G "_law_lowest" kB ["_law_first", "_law_second"] 261 260 (S "law_roofridges_k49_texts_shown_and_read" 474) (fun _ _ _ _ _ _ us hl=>match us,hl with | [_,_],_=>rfl)
 have D27:=mkE X G "shown_number" fT ["number"] 194 193 (S "roofridges.texts" 402) (fun _ _ _ _ _ _ us hl=>match us,hl with | [_],_=>rfl)
 have D28:=mkE X G "are_figures" f9 ["text"] 204 203 (S "roofridges.texts" 402) (fun _ _ _ _ _ _ us hl=>match us,hl with | [_],_=>rfl)
 have D29:=mkE X G "read_number" f8 ["text"] 211 210 (S "roofridges.texts" 402) (fun _ _ _ _ _ _ us hl=>match us,hl with | [_],_=>rfl)
 have D30:=mkE X G "read_lines" gQ ["words"] 216 215 (S "roofridges.texts" 402) (fun _ _ _ _ _ _ us hl=>match us,hl with | [_],_=>rfl)
 have D31:=mkE X G "shown_yard" g8 ["yard"] 199 198 (S "roofridges.texts" 402) (fun _ _ _ _ _ _ us hl=>match us,hl with | [_],_=>rfl)
 have D32:=mkE X G "read_yard" hW ["text"] 223 222 (S "roofridges.texts" 402) (fun _ _ _ _ _ _ us hl=>match us,hl with | [_],_=>rfl)
 have D33:=mkE X G "_law_whole" nF ["_law_feed_here"] 268 267 (S "law_roofridges_k49_texts_shown_and_read" 474) (fun _ _ _ _ _ _ us hl=>match us,hl with | [_],_=>rfl)
 have D34:=mkE X G "_law_number" lN ["_law_feed_here"] 275 274 (S "law_roofridges_k49_texts_shown_and_read" 474) (fun _ _ _ _ _ _ us hl=>match us,hl with | [_],_=>rfl)
 have D35:=mkE X G "_law_text" oX ["_law_number_here"] 287 286 (S "law_roofridges_k49_texts_shown_and_read" 474) (fun _ _ _ _ _ _ us hl=>match us,hl with | [_],_=>rfl)
 have D36:=mkE X G "_law_yard_text" iD ["_law_yard_here"] 294 293 (S "law_roofridges_k49_texts_shown_and_read" 474) (fun _ _ _ _ _ _ us hl=>match us,hl with | [_],_=>rfl)
 have D37:=mkE X G "_law_yard" nS ["_law_feed_here"] 280 279 (S "law_roofridges_k49_texts_shown_and_read" 474) (fun _ _ _ _ _ _ us hl=>match us,hl with | [_],_=>rfl)
 have D38:=mkE X G "law" nV ["_law_script"] 299 298 (S "law_roofridges_k49_texts_shown_and_read" 474) (fun _ _ _ _ _ _ us hl=>match us,hl with | [_],_=>rfl)
 cases hfa.symm.trans D38.m
 refine ⟨PySem.W.fnOf "law" "law" (eG nV) (c9 nV) (aK nV) .none .none .none (S "law_roofridges_k49_texts_shown_and_read" 474) none (.ref 298) .none,fun s v => .of_eq rfl,fun base _ _ => ?_⟩
 have G1:=uZ (P:=l.prog) (w:=w) (base:=base) D1 T
 have G2:=n0 (P:=l.prog) (w:=w) (base:=base) D2 T
 have G3:=aDQ (P:=l.prog) (w:=w) (base:=base) D3 T
 have G4:=aBM (P:=l.prog) (w:=w) (base:=base) D4
 have G5:=zN (P:=l.prog) (w:=w) (base:=base) D5
 have G6:=xE D6 G5 T
 have G7:=xJ (P:=l.prog) (w:=w) (base:=base) D7 T
 have G8:=zK (P:=l.prog) (w:=w) (base:=base) D8
 have G9:=yI D9 G7 G6 G8 T
 have G10:=aAD D10 G2
 have G11:=uT D11 G1 G10
 have G12:=aD3 D12 G10
 have G13:=aBF D13 G10
 have G14:=tI D14 G13 T
 have G15:=aBU D15 G12 T
 have G16:=aAK (P:=l.prog) (w:=w) (base:=base) D16 T
 have G17:=uU D17 G16 T
 have G18:=oE D18 G1 C_FARTHEST
 have G19:=mI D19 G18 T C_MOST_LINES_yards
 have G20:=aDE D20 G19 G17 G9 G11 T
 have G21:=tW D21 G1 G2 T
 have G22:=lZ D22 G21 G4 T
 have G23:=xB D23 G22 G17 G9 T
 have G24:=aED (P:=l.prog) (w:=w) (base:=base) D24
 have G25:=aCK D25 G24 T
 have G26:=xD (P:=l.prog) (w:=w) (base:=base) D26 T
 have G27:=o9 (P:=l.prog) (w:=w) (base:=base) D27 T
 have G28:=pX (P:=l.prog) (w:=w) (base:=base) D28 T C_MOST_FIGURES
 have G29:=pT D29 G28 G21 G27 T
 have G30:=rL D30 G29 T C_MOST_LINES_texts
 have G31:=rG D31 G27 T C_VOID E_VOID C_VOID_TEXT C_BREAK
 have G32:=sI D32 G30 G23 T C_VOID E_VOID C_VOID_TEXT C_BREAK
 have G33:=aBV D33 G24 T
 have G34:=zM D34 G24 G33 G26 T
 have G35:=aD2 (P:=l.prog) (w:=w) (base:=base) D35 T
 have G36:=tR D36 G35
 have G37:=aBO D37 G24 G25 G26 G20 G14 G15 T
 have G38:=aGQ D38 G3 G34 G27 G35 G29 G37 G31 G36 G32 T
 exact G38
theorem walk {l:PySem.W.OpenLaw}{q:Program}{loose:List Str}{XP:(Str→Option Value)→Heap→Prop}{YP:World→Heap→Prop}{d:DefRec}{K:Params→PySem.W.Frag} (hn:l.most=some 63) (hdf:d.params.defaults=[])
  (hY:∀ (w:World) (h:Heap),YP w h→(K w.params).In h)
  (F:∀ (w:World) (mg:Str→Option Value) (fa:Addr) (h:Heap),(K w.params).In h→h.Ns mainGlobals mg→mg d.name=some (.ref fa) →
   ∃ fd:FuncData,(∀ (s:Shared) (u:Value),BindsTo s fd ⟨[u],[]⟩ [("_law_script", u)])∧∀ base:Heap,(K w.params).In base→base.Ns mainGlobals mg→FnOk l.prog w (K w.params) mg base CX0 9 fa fd ["_law_script"] (spZ (K w.params) xG)) :
  PySem.W.WalkO q loose XP YP l.row.toRowW d [] (fun f vs=>PySem.call f vs) :=
 L2.aD9 (n:=63) (k:=9) (x := "_law_script") (CX:=fun _=>CX0) (sp:=fun w=>spZ (K w.params) xG) hn (by decide) hdf ⟨rfl,by decide,by decide,rfl⟩ hY F
  (fun w H a ns hl _ hS=>⟨H,fun _=>none,[.fl (ns.map .int)],fun d _=>d = .bl true,⟨Same.refl H,nofun⟩,⟨_,_,rfl,aGB hS (wH ns),by simp only [Dens]⟩,⟨ns,rfl,hl,fun _=>rfl⟩,fun v G' H' d M' _ hd e=>by subst e; simpa only [Den] using hd⟩) fun _ _ _ _ _ z=>z
end Q
open PySem PySem.W PyProof.Rows
set_option maxRecDepth 100000 in
set_option maxHeartbeats 0 in
theorem PySem.Challenge.cw_roofridges_k49_texts_shown_and_read_holds : PySem.Challenge.rw_roofridges_k49_texts_shown_and_read.Holds := by
 w_on
 refine holds_law HD.said fun said => ?_
 refine holds_open (q:=HD.view) (loose:=[]) (Xt:=HD.Xt) (XP:=XL HD.view []) (Yf:=HD.Hk.obs) (Ya:=HD.Hk.val) (YP:=HD.Hk.says) HD.left (Hook.of HD.Hk) (Hook.keeps HD.Hk) (fun s e=>xl_of s (Bool.and_eq_true_iff.mp e).1) XL.keeps (by rfl) (by rfl) (by rfl) (fun s e=>recFacts_of (Bool.and_eq_true_iff.mp e).2) (by rfl) (by first | assumption | decide +kernel) (by decide +kernel) ⟨rfl,rfl,rfl,rfl,rfl,by decide +kernel⟩ ?hw ?hc
 case hw=>w_witness2
 exact Q.walk (l:=PySem.Challenge.rw_roofridges_k49_texts_shown_and_read) (K:=HD.K) rfl rfl (fun w h Y=>PySem.W.kIn_of Y) fun w mg fa h KX G hmg=>Q.all_mk KX G hmg
