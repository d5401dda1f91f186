import PyProof.Rows.All
import Wide.All
import OpenK.AllK
import Wide.FinOn
import Lean
import PyProof.EqAt
import PyProof.EqKinds
import PyProof.NeKinds
import PyProof.TupleCall
import PySem.Challenge.RW_roofridges_k22_heights_by_cells
set_option Elab.async false
set_option linter.all false
set_option maxRecDepth 100000
set_option maxHeartbeats 4000000
namespace L2
open PySem PySem.Spec PyProof.Rows
abbrev Key:=Sum Int Str
def aBK:Key→Value→Bool
 | .inl k,v=>Value.isInt k v
 | .inr x,v=>Value.isStrOf x v
def keyH (w:World):Key→Int
 | .inl k=>hashInt k
 | .inr x=>hashStr w x
theorem cJ:∀ {k:Key}{v:Value},aBK k v=true→(∃ i t,k=Sum.inl i∧v=Value.int i t)∨(∃ x t,k=Sum.inr x∧v=Value.str x t)
 | .inl i,v,h=>by
  obtain ⟨t,e⟩:=Value.isInt_shape (k:=i) (v:=v) h
  exact .inl ⟨i,t,rfl,e⟩
 | .inr x,v,h=>by
  obtain ⟨t,e⟩:=Value.isStrOf_shape (x:=x) (v:=v) h
  exact .inr ⟨x,t,rfl,e⟩
theorem aEV (a b:Int):decide ((Sum.inl a:Key)=Sum.inl b)=(a == b):=by
 by_cases e:a=b
 ·subst e; simp
 ·have h:¬ (Sum.inl a:Key)=Sum.inl b:=fun q=>e (Sum.inl.inj q)
  rw [decide_eq_false h]
  exact (beq_eq_false_iff_ne.mpr e).symm
theorem aFD (a b:Str):decide ((Sum.inr a:Key)=Sum.inr b)=decide (a=b):=by
 by_cases e:a=b
 ·subst e; simp
 ·have h:¬ (Sum.inr a:Key)=Sum.inr b:=fun q=>e (Sum.inr.inj q)
  rw [decide_eq_false h,decide_eq_false e]
theorem aEM (a:Int) (b:Str):decide ((Sum.inl a:Key)=Sum.inr b)=false:=decide_eq_false (fun q=>nomatch q)
theorem aEP (a:Str) (b:Int):decide ((Sum.inr a:Key)=Sum.inl b)=false:=decide_eq_false (fun q=>nomatch q)
def o0 (prog:Program) (w:World):PySem.KeyKind prog w Key where
 is:=aBK
 hash:=keyH w
 inj:=fun v a b ha hb=>by
  rcases cJ ha with ⟨i,t,rfl,rfl⟩ | ⟨x,t,rfl,rfl⟩
  ·rcases cJ hb with ⟨j,u,rfl,e⟩ | ⟨y,u,rfl,e⟩
   ·injection e with e1 _; rw [e1]
   ·exact nomatch e
  ·rcases cJ hb with ⟨j,u,rfl,e⟩ | ⟨y,u,rfl,e⟩
   ·exact nomatch e
   ·injection e with e1 _; rw [e1]
 byValue:=fun k v h=>by
  rcases cJ h with ⟨i,t,rfl,rfl⟩ | ⟨x,t,rfl,rfl⟩ <;> rfl
 pyHash:=fun hv h=>by
  rcases cJ hv with ⟨i,t,rfl,rfl⟩ | ⟨x,t,rfl,rfl⟩
  ·exact wpAny_pyHash_int h
  ·exact wpAny_pyHash_str h
 eqBool:=fun hu hv h=>by
  rcases cJ hu with ⟨i,t,rfl,rfl⟩ | ⟨x,t,rfl,rfl⟩
  ·rcases cJ hv with ⟨j,u,rfl,rfl⟩ | ⟨y,u,rfl,rfl⟩
   ·rw [aEV] at h; exact wpAny_eqBool_int h
   ·rw [aEM] at h; exact SeqAt.EqAt.int_str i t y u _ _ _ _ h
  ·rcases cJ hv with ⟨j,u,rfl,rfl⟩ | ⟨y,u,rfl,rfl⟩
   ·rw [aEP] at h; exact SeqAt.EqAt.str_int x t j u _ _ _ _ h
   ·rw [aFD] at h; exact wpAny_eqBool_str h
 «strs» := fun k x t v h=>by
  rcases cJ h with ⟨i,u,rfl,e⟩ | ⟨y,u,rfl,e⟩
  ·exact nomatch e
  ·injection e with e1 _
   subst e1
   cases v <;> rfl
inductive V where
 | non | bl (b:Bool) | int (i:Int) | str (x:Str) | byt (b:Array UInt8) | flt (b:UInt64) | ref (a:Addr) | ty (n:String)
 deriving DecidableEq
def RelV:V→Value→Prop
 | .non,u=>u=Value.none
 | .bl b,u=>u=Value.bool b
 | .int i,u=>∃ t,u=Value.int i t
 | .str x,u=>∃ t,u=Value.str x t
 | .byt b,u=>∃ t,u=Value.bytes b t
 | .flt b,u=>∃ t,u=Value.float b t
 | .ref a,u=>u=Value.ref a
 | .ty n,u=>u=Value.type n
abbrev Vals:List V→List Value→Prop:=Paired RelV
theorem Vals.length {xs:List V}{us:List Value} (r:Vals xs us):xs.length=us.length:=Paired.length r
theorem Vals.get:∀ {xs:List V}{us:List Value}{i:Nat}{x:V},Vals xs us→xs[i]?=some x→∃ u,us[i]?=some u∧RelV x u
 | _,_,_,_, .nil,e=>by simp at e
 | _,_,0,_, .cons r _,e=>by simp at e; subst e; exact ⟨_,rfl,r⟩
 | _,_,i+1,x, .cons _ t,e=>by
  obtain ⟨u,h1,h2⟩:=Vals.get (i:=i) (x:=x) t (by simpa using e)
  exact ⟨u,by simpa using h1,h2⟩
theorem Vals.set {x:V}{u:Value} (r:RelV x u):∀ {xs:List V}{us:List Value} (i:Nat),Vals xs us→Vals (xs.set i x) (us.set i u)
 | _,_,_, .nil => .nil
 | _,_,0, .cons _ t => .cons r t
 | _,_,i+1, .cons q t => .cons q (Vals.set r i t)
theorem Vals.append:∀ {xs ys:List V}{us ws:List Value},Vals xs us→Vals ys ws→Vals (xs++ys) (us++ws)
 | _,_,_,_, .nil,s=>s
 | _,_,_,_, .cons r t,s => .cons r (Vals.append t s)
theorem Vals.take:∀ {xs:List V}{us:List Value} (n:Nat),Vals xs us→Vals (xs.take n) (us.take n)
 | _,_,0,_ => .nil
 | _,_,_+1, .nil => .nil
 | _,_,n+1, .cons r t => .cons r (Vals.take n t)
theorem Vals.drop:∀ {xs:List V}{us:List Value} (n:Nat),Vals xs us→Vals (xs.drop n) (us.drop n)
 | _,_,0,r=>r
 | _,_,_+1, .nil => .nil
 | _,_,n+1, .cons _ t=>Vals.drop n t
def RelO:Option V→Option Value→Prop
 | some v,some u=>RelV v u
 | none,none=>True
 | _,_=>False
def KV {κ:Type}:List (κ × V)→List (κ × Value)→Prop:=Paired fun (p:κ × V) (q:κ × Value)=>p.1=q.1∧RelV p.2 q.2
def kV:Key→V
 | .inl i => .int i
 | .inr x => .str x
inductive HO where
 /-- a list -/
 | lst (xs:List V)
 /-- a tuple (never changes) -/
 | tup (xs:List V)
 /-- a dict whose keys are ints and texts; one whose keys are tuples of ints and texts (the empty one is both) -/
 | dK (kvs:List (Key × V)) | dT (kvs:List (List Key × V))
 /-- a set of ints: its members,its size -/
 | set (S:Int→Bool) (n:Nat)
 /-- an instance of the class at C,its dict at dx,its attributes -/
 | ins (C dx:Addr) (fs:List (Str × V))
 /-- the dict of the instance at x -/
 | own (x:Addr)
 /-- the dict of an exception -/
 | xd (fs:List (Str × V))
 /-- a bound method,f of x -/
 | met (f x:Addr)
 /-- a range object lo,lo+1, .. below hi -/
 | rng (lo hi:Int)
 /-- a thing that is known to the object (the script; a dict while a loop walks it): read,never written while it is so -/
 | frz (o:Obj) (u:HO)
 /-- a code object's table -/
 | tbl (ps:Array Value)
 /-- any other thing,by what is true of its one object (a def of one's own: SetO a S n:=HO.ext fun h => ..) -/
 | ext (φ:Heap→Prop)
abbrev Hp:=Addr→Option HO
def upd (H:Hp) (a:Addr) (o:HO):Hp:=fun b=>if b=a then some o else H b
theorem bF {H:Hp}{a:Addr}{o:HO}:upd H a o a=some o:=by unfold upd; rw [if_pos rfl]
theorem aU {H:Hp}{a b:Addr}{o:HO} (h:b≠a):upd H a o b=H b:=by unfold upd; rw [if_neg h]
theorem a7 {H:Hp}{a b:Addr}{o:HO} (h:H a=some o) (h':H b=none):a≠b:=by
 intro e; subst e; rw [h] at h'; cases h'
section
variable (P:Program) (w:World)
def dP (H:Hp) (h:Heap) (a:Addr):HO→Prop
 | .lst xs=>xs.length≤sizeLine∧∃ (its:List Value) (n:Nat),Vals xs its∧h.get? a=some { cls := .type "list", data := .seq its.toArray n }
 | .tup xs=>xs.length≤sizeLine∧∃ its:List Value,Vals xs its∧IsTup h a its.toArray
 | .dK kvs=>kvs.length≤sizeLine∧(a == sysModules)=false∧∃ vs,KV kvs vs∧h.DictOf (o0 P w) a vs
 | .dT kvs=>kvs.length≤sizeLine∧(a == sysModules)=false∧∃ xs:List (List Key × Addr × Value),
   Paired (fun (p:List Key × V) (q:List Key × Addr × Value)=>p.1=q.1∧H q.2.1=some (.tup (p.1.map kV))∧RelV p.2 q.2.2) kvs xs ∧
   ∃ o es ep,h.get? a=some o∧o.ExactDict∧o.data = .dict es ep∧es.toList=xs.map (entryOfKey (tupleKind (o0 P w)))∧(xs.map (·.1)).Nodup
 | .set S n=>h.SetOf (intKind P w) a S n
 | .ins C dx fs=>H dx=some (.own a)∧fs.length≤1000∧dx≠a∧h.get? a=some (PySem.W.instObj C dx) ∧
   ∃ mA,h.Ns1 dx mA∧(∀ f,RelO (fs.lookup f) (mA f))∧PySem.Within mA (fs.map (·.1))
 | .own _=>∃ o,h.get? a=some o
 | .xd fs=>∃ mA,h.Ns1 a mA∧∀ f,RelO (fs.lookup f) (mA f)
 | .rng lo hi=>∃ t u v,h.get? a=some { cls := .type "range", data := .fields #[.int lo t, .int hi u, .int 1 v] }
 | .frz o u=>h.get? a=some o∧dP H h a u
 | .tbl ps=>h.get? a=some { cls := .none,data := .fields ps }
 | .met f x=>h.get? a=some (PySem.W.methodObj (.ref f) (.ref x))
 | .ext φ=>φ h∧(∃ o,h.get? a=some o)∧∀ h1 h2:Heap,φ h1→(∀ o,h1.get? a=some o→h2.get? a=some o)→φ h2
def HOk (H:Hp) (h:Heap):Prop:=∀ a o,H a=some o→dP P w H h a o
end
section
variable {P:Program}{w:World}{H H':Hp}{h h':Heap}{a:Addr}{o:HO}
theorem dP.lt (x:dP P w H h a o):a < h.objs.size:=by
 cases o with
 | lst xs=>obtain ⟨_,_,_,_,e⟩:=x; exact Heap.lt_size e
 | tup xs=>obtain ⟨_,_,_,p⟩:=x; exact p.lt
 | dK kvs=>obtain ⟨_,_,_,_,o,_,_,e,_⟩:=x; exact Heap.lt_size e
 | dT kvs=>obtain ⟨_,_,_,_,o,_,_,e,_⟩:=x; exact Heap.lt_size e
 | set S n=>obtain ⟨o,_,_,_,e,_⟩:=x; exact Heap.lt_size e
 | ins C dx fs=>obtain ⟨_,_,_,e,_⟩:=x; exact Heap.lt_size e
 | own y=>obtain ⟨_,e⟩:=x; exact Heap.lt_size e
 | xd fs=>obtain ⟨_,⟨_,_,_,e,_⟩,_⟩:=x; exact Heap.lt_size e
 | rng lo hi=>obtain ⟨_,_,_,e⟩:=x; exact Heap.lt_size e
 | frz ob u=>obtain ⟨e,_⟩:=x; exact Heap.lt_size e
 | tbl ps=>exact Heap.lt_size (show h.get? a=some _ from x)
 | met f y=>exact Heap.lt_size (show h.get? a=some _ from x)
 | ext φ=>obtain ⟨_,⟨_,e⟩,_⟩:=x; exact Heap.lt_size e
theorem Paired.mapP {α β:Type}{F G:α→β→Prop}:∀ {l₁:List α}{l₂:List β},Paired F l₁ l₂→(∀ a b,F a b→G a b)→Paired G l₁ l₂
 | _,_, .nil,_ => .nil
 | _,_, .cons r t,f => .cons (f _ _ r) (Paired.mapP t f)
theorem dP.stay (x:dP P w H h a o) (k:∀ b u,(b=a∨H b=some (.own a))→h.get? b=some u→h'.get? b=some u)
  (ho:∀ b,H b=some (.own a)→H' b=some (.own a)) (ht:∀ b xs,H b=some (.tup xs)→H' b=some (.tup xs)):dP P w H' h' a o:=by
 induction o with
 | lst xs=>obtain ⟨z,its,n,r,e⟩:=x; exact ⟨z,its,n,r,k _ _ (.inl rfl) e⟩
 | tup xs=>obtain ⟨z,its,r,ob,e,c⟩:=x; exact ⟨z,its,r,ob,k _ _ (.inl rfl) e,c⟩
 | dK kvs=>obtain ⟨z,y,vs,r,ob,es,ep,e,c⟩:=x; exact ⟨z,y,vs,r,ob,es,ep,k _ _ (.inl rfl) e,c⟩
 | dT kvs =>
  obtain ⟨z,y,xs,r,ob,es,ep,e,c⟩:=x
  exact ⟨z,y,xs,Paired.mapP r fun p q z=>⟨z.1,ht _ _ z.2.1,z.2.2⟩,ob,es,ep,k _ _ (.inl rfl) e,c⟩
 | set S n=>obtain ⟨ob,es,ep,t,e,c⟩:=x; exact ⟨ob,es,ep,t,k _ _ (.inl rfl) e,c⟩
 | ins C dx fs =>
  obtain ⟨d,z,ne,e,mA,⟨od,es,ep,e2,c⟩,r⟩:=x
  exact ⟨ho _ d,z,ne,k _ _ (.inl rfl) e,mA,⟨od,es,ep,k _ _ (.inr d) e2,c⟩,r⟩
 | own y=>obtain ⟨ob,e⟩:=x; exact ⟨ob,k _ _ (.inl rfl) e⟩
 | xd fs=>obtain ⟨mA,⟨od,es,ep,e,c⟩,r⟩:=x; exact ⟨mA,⟨od,es,ep,k _ _ (.inl rfl) e,c⟩,r⟩
 | rng lo hi=>obtain ⟨t,u,v,e⟩:=x; exact ⟨t,u,v,k _ _ (.inl rfl) e⟩
 | frz ob u ih=>obtain ⟨e,q⟩:=x; exact ⟨k _ _ (.inl rfl) e,ih q⟩
 | tbl ps =>
  have e:h.get? a=some { cls := .none,data := .fields ps }:=x
  show h'.get? a=some { cls := .none,data := .fields ps }
  exact k a _ (.inl rfl) e
 | met f y =>
  have e:h.get? a=some (PySem.W.methodObj (.ref f) (.ref y)):=x
  show h'.get? a=some (PySem.W.methodObj (.ref f) (.ref y))
  exact k a _ (.inl rfl) e
 | ext φ=>obtain ⟨p,⟨o,e⟩,st⟩:=x; exact ⟨st _ _ p fun o q=>k _ _ (.inl rfl) q,⟨o,k _ _ (.inl rfl) e⟩,st⟩
theorem HOk.lt (x:HOk P w H h) (e:H a=some o):a < h.objs.size:=(x a o e).lt
theorem HOk.fresh (x:HOk P w H h) (e:h.objs.size≤a):H a=none:=by
 cases q:H a with
 | none=>rfl
 | some u=>exact absurd (Nat.lt_of_lt_of_le (x.lt q) e) (Nat.lt_irrefl _)
theorem HOk.kept (x:HOk P w H h) (k:∀ b u,h.get? b=some u→h'.get? b=some u):HOk P w H h':=fun a o e =>
 (x a o e).stay (fun b u _ q=>k b u q) (fun _ q=>q) fun _ _ q=>q
theorem HOk.laid (x:HOk P w H h) (k:∀ b u,h.get? b=some u→h'.get? b=some u) (hp:h.objs.size≤a) (new:dP P w (upd H a o) h' a o):HOk P w (upd H a o) h':=fun b u e=>by
 have hn:=x.fresh hp
 by_cases hb:b=a
 ·subst hb; rw [bF] at e; cases e; exact new
 ·rw [aU hb] at e
  exact (x b u e).stay (fun c v _ q=>k c v q) (fun c q=>by rw [aU (a7 q hn)]; exact q) fun c xs q=>by rw [aU (a7 q hn)]; exact q
end
def Rd (H:Hp) (a:Addr) (u:HO):Prop:=H a=some u∨∃ o,H a=some (.frz o u)
theorem Rd.ok {P:Program}{w:World}{H:Hp}{h:Heap}{a:Addr}{u:HO} (r:Rd H a u) (x:HOk P w H h):dP P w H h a u:=by
 rcases r with r | ⟨o,r⟩
 ·exact x a u r
 ·obtain ⟨_,q⟩:=x a _ r
  exact q
def Mut:Option HO→Prop
 | some (.lst _)=>True
 | some (.dK _)=>True
 | some (.dT _)=>True
 | some (.set _ _)=>True
 | some (.ins _ _ _)=>True
 | some (.ext _)=>True
 | _=>False
section
variable {P:Program}{w:World}{H:Hp}{h h':Heap}{x e:Addr}{o':HO}
theorem HOk.write (ok:HOk P w H h) (mu:Mut (H x)) (he:e=x∨H e=some (.own x)) (k:∀ b u,b≠e→h.get? b=some u→h'.get? b=some u) (heo:∃ u,h'.get? e=some u)
  (new:dP P w (upd H x o') h' x o'):HOk P w (upd H x o') h':=fun b u q=>by
 have nown:∀ c y,H c=some (.own y)→c≠x:=fun c y r z=>by subst z; rw [r] at mu; exact mu
 have ntup:∀ c xs,H c=some (.tup xs)→c≠x:=fun c xs r z=>by subst z; rw [r] at mu; exact mu
 by_cases hb:b=x
 ·subst hb; rw [bF] at q; cases q; exact new
 ·rw [aU hb] at q
  by_cases hbe:b=e
  ·have q':H b=some (.own x):=by
    rcases he with z | z
    ·exact absurd (hbe.trans z) hb
    ·rw [hbe]; exact z
   rw [q] at q'; cases q'
   obtain ⟨v,hv⟩:=heo
   exact ⟨v,by rw [hbe]; exact hv⟩
  ·refine (ok b u q).stay (fun c v hc r=>k c v ?_ r) (fun c r=>by rw [aU (nown c b r)]; exact r) fun c xs r=>by rw [aU (ntup c xs r)]; exact r
   rcases hc with rfl | hc
   ·exact hbe
   ·rintro rfl
    rcases he with z | z
    ·exact nown c b hc z
    ·rw [hc] at z; cases z; exact hb rfl
end
structure Un (fs ex:List Addr) (H H':Hp) (h h':Heap):Prop where
 keep:∀ b o,h.get? b=some o→H b=none→b ∉ fs→b ∉ ex→h'.get? b=some o
 slot:∀ b o,h.get? b=some o→H b=none→b∈fs→b ∉ ex→∃ sl,h'.get? b=some { o with slots:=sl }
 free:∀ b o,h.get? b=some o→H b=none→b ∉ ex→H' b=none
 there:∀ b o,h.get? b=some o→b ∉ ex→∃ o',h'.get? b=some o'
 tups:∀ b xs,H b=some (.tup xs)→H' b=some (.tup xs)
 frzs:∀ b o u,H b=some (.frz o u)→H' b=some (.frz o u)
 tbls:∀ b ps,H b=some (.tbl ps)→∃ more,H' b=some (.tbl (ps++more))
section
variable {fs fs' ex ex':List Addr}{H H1 H2:Hp}{h h1 h2 h':Heap}{a x e:Addr}{o:HO}
theorem Un.any (u:Un fs ex H H1 h h1) {b:Addr}{ob:Obj} (q:h.get? b=some ob) (n:H b=none) (hx:b ∉ ex):∃ sl,h1.get? b=some { ob with slots:=sl }:=by
 by_cases hb:b∈fs
 ·exact u.slot b ob q n hb hx
 ·exact ⟨ob.slots,u.keep b ob q n hb hx⟩
theorem Un.trans (a:Un fs ex H H1 h h1) (b:Un fs ex H1 H2 h1 h2):Un fs ex H H2 h h2 where
 keep:=fun c ob q n hc hx=>b.keep c ob (a.keep c ob q n hc hx) (a.free c ob q n hx) hc hx
 slot:=fun c ob q n hc hx=>by
  obtain ⟨sl,e1⟩:=a.slot c ob q n hc hx
  obtain ⟨sl',e2⟩:=b.slot c _ e1 (a.free c ob q n hx) hc hx
  exact ⟨sl',e2⟩
 free:=fun c ob q n hx=>by
  obtain ⟨o',e1⟩:=a.there c ob q hx
  exact b.free c o' e1 (a.free c ob q n hx) hx
 there:=fun c ob q hx=>by
  obtain ⟨o',e1⟩:=a.there c ob q hx
  exact b.there c o' e1 hx
 tups:=fun c xs q=>b.tups c xs (a.tups c xs q)
 frzs:=fun c ob xs q=>b.frzs c ob xs (a.frzs c ob xs q)
 tbls:=fun c ps q=>by
  obtain ⟨m1,e1⟩:=a.tbls c ps q
  obtain ⟨m2,e2⟩:=b.tbls c _ e1
  exact ⟨m1++m2,by rw [e2,Array.append_assoc]⟩
theorem Un.kept (k:∀ b u,h.get? b=some u→h'.get? b=some u):Un fs ex H H h h' :=
 ⟨fun b ob q _ _ _=>k b ob q,fun b ob q _ _ _=>⟨ob.slots,k b ob q⟩,fun _ _ _ n _=>n,fun b ob q _=>⟨ob,k b ob q⟩,fun _ _ q=>q,fun _ _ _ q=>q,fun _ ps q=>⟨#[],by rw [q]; simp⟩⟩
theorem Un.refl:Un fs ex H H h h:=Un.kept fun _ _ q=>q
theorem Un.laid (k:∀ b u,h.get? b=some u→h'.get? b=some u) (hp:h.objs.size≤a) (hn:H a=none):Un fs ex H (upd H a o) h h' where
 keep:=fun b u q _ _ _=>k b u q
 slot:=fun b u q _ _ _=>⟨u.slots,k b u q⟩
 free:=fun b u q n _=>by rw [aU (Nat.ne_of_lt (Nat.lt_of_lt_of_le (Heap.lt_size q) hp))]; exact n
 there:=fun b u q _=>⟨u,k b u q⟩
 tups:=fun b xs q=>by rw [aU (a7 q hn)]; exact q
 frzs:=fun b u xs q=>by rw [aU (a7 q hn)]; exact q
 tbls:=fun b ps q=>⟨#[],by rw [aU (a7 q hn),q]; simp⟩
theorem Un.write (mu:Mut (H x)) (he:e=x∨H e=some (.own x)) (k:∀ b u,b≠e→h.get? b=some u→h'.get? b=some u) (heo:∃ u,h'.get? e=some u):Un fs ex H (upd H x o) h h':=by
 have hx:∀ b,H b=none→b≠x:=fun b n z=>by subst z; rw [n] at mu; exact mu
 have hb:∀ b,H b=none→b≠e:=fun b n z=>by
  subst z
  rcases he with r | r
  ·exact hx b n r
  ·rw [n] at r; cases r
 have hm:∀ b u,H b=some u→¬ Mut (some u)→b≠x:=fun b u q nm z=>by subst z; rw [q] at mu; exact nm mu
 refine ⟨fun b u q n _ _=>k b u (hb b n) q,fun b u q n _ _=>⟨u.slots,k b u (hb b n) q⟩,fun b u q n _=>by rw [aU (hx b n)]; exact n,fun b u q _ => ?_,
  fun b xs q=>by rw [aU (hm b _ q fun z=>z)]; exact q,fun b u xs q=>by rw [aU (hm b _ q fun z=>z)]; exact q,fun b ps q=>⟨#[],by rw [aU (hm b _ q fun z=>z),q]; simp⟩⟩
 by_cases hbe:b=e
 ·subst hbe; exact heo
 ·exact ⟨u,k b u hbe q⟩
end
def trk (h:Heap) (H:Hp):List Addr:=(List.range h.objs.size).filter fun a=>(H a).isSome
def hidT (h:Heap) (H:Hp):Heap:=PySem.W.hideAll h (trk h H)
theorem yF (h:Heap) (H:Hp):(hidT h H).objs.size=h.objs.size:=PySem.W.hideAll_size _ _
theorem aAI {h:Heap}{H:Hp}{b:Addr}{o:Obj} (e:h.get? b=some o) (n:H b=none):(hidT h H).get? b=some o :=
 PySem.W.hideAll_get _ e fun hm=>by
  have q:(H b).isSome=true:=(List.mem_filter.mp hm).2
  rw [n] at q; simp at q
theorem aC9 {h:Heap}{H:Hp}{b:Addr}{o:Obj} (e:(hidT h H).get? b=some o):h.get? b=some o∧H b=none:=by
 have e':h.get? b=some o:=PySem.W.of_hideAll (trk h H) e
 refine ⟨e',?_⟩
 cases q:H b with
 | none=>rfl
 | some x =>
  have hm:b∈trk h H:=List.mem_filter.mpr ⟨List.mem_range.mpr (Heap.lt_size e'),by simp [q]⟩
  have z:(hidT h H).get? b=none:=PySem.W.hideAll_none (trk h H) hm
  rw [z] at e; cases e
def aCO (g h:Heap) (L:Addr):List (Addr × Obj):=(List.range h.objs.size).filterMap fun a=>if a=L∨(g.get? a).isSome=true then none else (h.get? a).map fun o=>(a,o)
def rest (g h:Heap) (L d:Addr):List (Addr × Obj):=(aCO g h L).filter fun p=>decide (p.1≠d)
end L2
namespace L2
open PySem PySem.Spec PyProof.Rows
structure Mod (K:PySem.W.Frag) (mg:Str→Option Value) (base:Heap):Prop where
 kin:K.In base
 glob:base.Ns mainGlobals mg
 blt:∃ mb,base.Ns builtinsNs mb∧∀ x:Str,x ≠ "__name__" → mb x=bootBuiltins x
 nolimit:base.NoLimit
/-- the context: a def's body (or a comprehension's block) running. base: fixed through the whole law; s₀,H₀: the entry; outer: the frames whose slots others may change (a def's callers); stack: all frames that run;
   ex: iterators that were made ahead of the entry and are walked here (a comprehension's); fn: the names whose cells were made at the entry (a def: all; a comprehension's block: its own); calm: not within an except suite; pn: pins that every state bears; xe: what is wanted of an exception that leaves the code -/
structure Cx where
 prog:Program
 w:World
 K:PySem.W.Frag
 mg:Str→Option Value
 base:Heap
 A:Around
 N:List Str
 s₀:Shared
 H₀:Hp
 env:Env
 outer:List Env
 stack:List Env
 ex:List Addr
 fn:Str→Bool
 calm:Bool
 pn:List (Addr × Obj)
 xe:Value→Shared→Prop
def frs (l:List Env):List Addr:=l.filterMap (·.frame)
abbrev Cx.fs (X:Cx):List Addr:=frs X.outer
def Vis (sc:Scope) (x:Str):Prop:=sc.names.lookup x=some .local∨sc.names.lookup x=some .cell∨sc.names.lookup x=some .free
def Loc (sc:Scope) (x:Str):Prop:=sc.names.lookup x=some .local∨sc.names.lookup x=some .cell
def Look (env:Env) (h:Heap) (m:Str→Option Value) (x:Str) (u:Value):Prop :=
 (env.kindOf x=some .local∧m x=some u)∨((env.kindOf x=some .cell∨env.kindOf x=some .free)∧∃ c,env.cells.lookup x=some c∧h.IsCell c (some u))
structure Cx.Ok (X:Cx):Prop where
 mod:Mod X.K X.mg X.base
 kind:X.env.scope.kind = .function
 glob:X.env.globals=mainGlobals
 blt:X.env.builtins=builtinsNs
 above:X.s₀.heap.objs.size≤X.env.locals
 inj:∀ x y c,X.env.cells.lookup x=some c→X.env.cells.lookup y=some c→x=y
 has:∀ x,(X.env.kindOf x=some .cell∨X.env.kindOf x=some .free)→∃ c,X.env.cells.lookup x=some c
 cab:∀ x c,X.fn x=true→X.env.cells.lookup x=some c→X.s₀.heap.objs.size≤c
 hd:X.calm=true→X.A.handled=none
 frames:X.A.frames=some X.stack
 stk:X.stack=X.outer∨(X.stack=X.env::X.outer∧X.env.frame=some X.env.locals)
 exf:∀ b∈X.ex,b≠X.env.locals∧∀ x c,X.env.cells.lookup x=some c→c≠b
 bs:∀ b o,X.base.get? b=some o→X.s₀.heap.get? b=some o∧X.H₀ b=none
 bsz:X.base.objs.size≤X.s₀.heap.objs.size
 noex:∀ b o,X.base.get? b=some o→b ∉ X.ex
 exfs:∀ b∈X.ex,b ∉ X.fs
 funs:X.s₀.heap.FunFrames X.base X.outer
 frf:∀ b∈X.fs,X.H₀ b=none
structure Inv (X:Cx) (pins:List (Addr × Obj)) (σ:List (Option V)) (H:Hp) (s:Shared):Prop where
 ok:X.Ok
 os:s.os=X.s₀.os
 bare:AllBare s.gens
 base:Un X.fs X.ex X.H₀ H X.s₀.heap s.heap
 loc:∃ m,s.heap.Ns X.env.locals m∧∀ (i:Nat) (x:Str) (v:V),X.N[i]?=some x→σ[i]?=some (some v)→Vis X.env.scope x→∃ u,RelV v u∧Look X.env s.heap m x u
 cell:∀ x c,X.env.cells.lookup x=some c→∃ v,s.heap.IsCell c v
 free:H X.env.locals=none
 freeC:∀ x c,X.env.cells.lookup x=some c→H c=none
 pin:∀ p∈X.pn++pins,s.heap.get? p.1=some p.2∧H p.1=none∧p.1≠X.env.locals∧p.1 ∉ X.fs∧∀ v,p.2.data ≠ .cell v
 hok:HOk X.prog X.w H s.heap
 len:σ.length=X.N.length
section
variable {X:Cx}{pins:List (Addr × Obj)}{σ:List (Option V)}{H H':Hp}{s:Shared}{h':Heap}
theorem Cx.Ok.nofr (ok:X.Ok) {b:Addr}{o:Obj} (e:X.base.get? b=some o):b ∉ X.fs:=fun hb=>by
 have:=(ok.funs.mem hb).1
 rw [e] at this; cases this
theorem Inv.bs (I:Inv X pins σ H s):∀ b o,X.base.get? b=some o→s.heap.get? b=some o∧H b=none:=fun b o e =>
 ⟨I.base.keep b o (I.ok.bs b o e).1 (I.ok.bs b o e).2 (I.ok.nofr e) (I.ok.noex b o e),I.base.free b o (I.ok.bs b o e).1 (I.ok.bs b o e).2 (I.ok.noex b o e)⟩
theorem Inv.bk (I:Inv X pins σ H s):∀ b o,X.base.get? b=some o→s.heap.get? b=some o:=fun b o e=>(I.bs b o e).1
theorem Inv.mod (I:Inv X pins σ H s):Mod X.K X.mg X.base:=I.ok.mod
theorem Inv.kIn (I:Inv X pins σ H s):X.K.In s.heap:=I.ok.mod.kin.keeps I.bk
theorem Inv.fr (I:Inv X pins σ H s):∃ m,Fr X.base X.env.locals s.heap m :=
 let ⟨m,hn,_⟩:=I.loc
 ⟨m,hn,I.bk,Nat.le_trans I.ok.bsz I.ok.above⟩
theorem Inv.lt (I:Inv X pins σ H s):X.env.locals < s.heap.objs.size:=let ⟨_,hn,_⟩:=I.loc; hn.lt
theorem Inv.sz (I:Inv X pins σ H s):X.s₀.heap.objs.size≤s.heap.objs.size:=Nat.le_trans I.ok.above (Nat.le_of_lt I.lt)
theorem Inv.nofs (I:Inv X pins σ H s) {a:Addr} (h:s.heap.objs.size≤a):a ∉ X.fs:=fun hb=>by
 obtain ⟨_,o,ho,_⟩:=I.ok.funs.mem hb
 exact absurd (Nat.lt_of_lt_of_le (Heap.lt_size ho) (Nat.le_trans I.sz h)) (Nat.lt_irrefl _)
theorem Inv.cne (I:Inv X pins σ H s):∀ x c,X.env.cells.lookup x=some c→c≠X.env.locals:=fun x c e z=>by
 obtain ⟨v,o,ho,hd⟩:=I.cell x c e
 obtain ⟨m,⟨o',es,ep,ho',hd',_⟩,_⟩:=I.loc
 rw [z,ho'] at ho; cases ho; rw [hd'] at hd; cases hd
theorem Inv.funs (I:Inv X pins σ H s):s.heap.FunFrames X.base X.outer:=by
 have all:∀ (l:List Env),(∀ b∈frs l,b∈X.fs)→X.s₀.heap.FunFrames X.base l→s.heap.FunFrames X.base l:=by
  intro l
  induction l with
  | nil=>intro _ _; trivial
  | cons env r ih =>
   intro hs hl
   obtain ⟨hk,⟨L,o,hf,hn,ho,hd⟩,hr⟩:=hl
   have hL:L∈X.fs:=hs L (by unfold frs; rw [List.filterMap_cons,hf]; exact List.mem_cons_self)
   obtain ⟨sl,e⟩:=I.base.slot L o ho (I.ok.frf L hL) hL fun z=>I.ok.exfs L z hL
   exact ⟨hk,⟨L,_,hf,hn,e,hd⟩,ih (fun b hb=>hs b (by unfold frs; rw [List.filterMap_cons,hf]; exact List.mem_cons_of_mem _ hb)) hr⟩
 exact all X.outer (fun _ hb=>hb) I.ok.funs
theorem Inv.stack (I:Inv X pins σ H s):s.heap.FunFrames X.base X.stack:=by
 rcases I.ok.stk with e | ⟨e,hf⟩
 ·rw [e]; exact I.funs
 ·rw [e]
  obtain ⟨m,hn,_⟩:=I.loc
  refine .cons (by rw [I.ok.kind]; decide) hf hn ?_ I.funs
  exact Heap.get?_none_of_le (Nat.le_trans I.ok.bsz I.ok.above)
theorem Inv.stkSub (I:Inv X pins σ H s):∀ b∈frs X.stack,b∈X.env.locals::X.fs:=fun b hb=>by
 rcases I.ok.stk with e | ⟨e,hf⟩
 ·rw [e] at hb; exact List.mem_cons_of_mem _ hb
 ·rw [e] at hb
  unfold frs at hb
  rw [List.filterMap_cons,hf] at hb
  exact hb
theorem Inv.stkFree (I:Inv X pins σ H s):∀ b∈frs X.stack,H b=none:=fun b hb=>by
 rcases List.mem_cons.mp (I.stkSub b hb) with e | hb
 ·rw [e]; exact I.free
 ·obtain ⟨_,o,ho,_⟩:=I.ok.funs.mem hb
  exact I.base.free b o ho (I.ok.frf b hb) fun z=>I.ok.exfs b z hb
theorem Inv.step {g':Array GenState}{t':Nat}{d':Drawn}{ch:List Addr} (I:Inv X pins σ H s)
  (hch:∀ b∈ch,(b∈X.ex∨X.s₀.heap.objs.size≤b)∧b≠X.env.locals∧(∀ x c,X.env.cells.lookup x=some c→c≠b)∧∀ p∈X.pn++pins,p.1≠b)
  (keep:∀ b o,b≠X.env.locals→b ∉ X.fs→b ∉ ch→s.heap.get? b=some o→H b=none→h'.get? b=some o)
  (slot:∀ b o,b≠X.env.locals→b∈X.fs→b ∉ ch→s.heap.get? b=some o→H b=none→∃ sl,h'.get? b=some { o with slots:=sl }) (free:∀ b o,b ∉ ch→s.heap.get? b=some o→H b=none→H' b=none)
  (there:∀ b o,b ∉ ch→s.heap.get? b=some o→∃ o',h'.get? b=some o')
  (tups:∀ b xs,H b=some (.tup xs)→H' b=some (.tup xs)) (frzs:∀ b o u,H b=some (.frz o u)→H' b=some (.frz o u)) (tbls:∀ b ps,H b=some (.tbl ps)→∃ more,H' b=some (.tbl (ps++more)))
  (ns:∀ m,s.heap.Ns X.env.locals m→h'.Ns X.env.locals m) (hok:HOk X.prog X.w H' h') (hg:AllBare g') :
  Inv X pins σ H' { s with heap:=h',gens:=g',drawn:=d',toks:=t' }:=by
 have neL:∀ b o,X.s₀.heap.get? b=some o→b≠X.env.locals:=fun b o e=>Nat.ne_of_lt (Nat.lt_of_lt_of_le (Heap.lt_size e) I.ok.above)
 have neC:∀ b o,X.s₀.heap.get? b=some o→b ∉ X.ex→b ∉ ch:=fun b o e hx hb=>by
  rcases (hch b hb).1 with z | z
  ·exact hx z
  ·exact absurd (Nat.lt_of_lt_of_le (Heap.lt_size e) z) (Nat.lt_irrefl _)
 have cellK:∀ x c,X.env.cells.lookup x=some c→∀ v,s.heap.IsCell c v→h'.IsCell c v:=fun x c e v ⟨o,ho,hd⟩=>by
  have nch:c ∉ ch:=fun z=>(hch c z).2.2.1 x c e rfl
  by_cases hc:c∈X.fs
  ·obtain ⟨sl,q⟩:=slot c o (I.cne x c e) hc nch ho (I.freeC x c e)
   exact ⟨_,q,hd⟩
  ·exact ⟨o,keep c o (I.cne x c e) hc nch ho (I.freeC x c e),hd⟩
 refine ⟨I.ok,I.os,hg,⟨fun b o e n hb hx => ?_,fun b o e n hb hx => ?_,fun b o e n hx => ?_,fun b o e hx => ?_,fun b xs e=>tups b xs (I.base.tups b xs e),fun b o xs e=>frzs b o xs (I.base.frzs b o xs e),fun b ps e => ?_⟩,?_,fun x c e => ?_,?_,fun x c e => ?_,fun p hp => ?_,hok,I.len⟩
 ·exact keep b o (neL b o e) hb (neC b o e hx) (I.base.keep b o e n hb hx) (I.base.free b o e n hx)
 ·obtain ⟨sl,e1⟩:=I.base.slot b o e n hb hx
  obtain ⟨sl',e2⟩:=slot b _ (neL b o e) hb (neC b o e hx) e1 (I.base.free b o e n hx)
  exact ⟨sl',e2⟩
 ·obtain ⟨o',e1⟩:=I.base.there b o e hx
  exact free b o' (neC b o e hx) e1 (I.base.free b o e n hx)
 ·obtain ⟨o',e1⟩:=I.base.there b o e hx
  exact there b o' (neC b o e hx) e1
 ·obtain ⟨m1,e1⟩:=I.base.tbls b ps e
  obtain ⟨m2,e2⟩:=tbls b _ e1
  exact ⟨m1++m2,by rw [e2,Array.append_assoc]⟩
 ·obtain ⟨m,hn,hl⟩:=I.loc
  refine ⟨m,ns m hn,fun i x v e1 e2 e3 => ?_⟩
  obtain ⟨u,r,l⟩:=hl i x v e1 e2 e3
  refine ⟨u,r,?_⟩
  rcases l with l | ⟨k,c,e,z⟩
  ·exact .inl l
  ·exact .inr ⟨k,c,e,cellK x c e _ z⟩
 ·obtain ⟨v,z⟩:=I.cell x c e
  exact ⟨v,cellK x c e v z⟩
 ·obtain ⟨m,⟨o,_,_,ho,_⟩,_⟩:=I.loc
  exact free _ o (fun z=>(hch _ z).2.1 rfl) ho I.free
 ·obtain ⟨v,o,ho,hd⟩:=I.cell x c e
  exact free c o (fun z=>(hch c z).2.2.1 x c e rfl) ho (I.freeC x c e)
 ·obtain ⟨e,n,ne,nf,d⟩:=I.pin p hp
  have nch:p.1 ∉ ch:=fun z=>(hch p.1 z).2.2.2 p hp rfl
  exact ⟨keep p.1 p.2 ne nf nch e n,free p.1 p.2 nch e n,ne,nf,d⟩
theorem Inv.un {t':Nat} (I:Inv X pins σ H s) (u:Un X.fs [] H H' s.heap h') (hok:HOk X.prog X.w H' h'):Inv X pins σ H' { s with heap:=h',toks:=t' }:=by
 obtain ⟨m,⟨o,es,ep,ho,r⟩,_⟩:=id I.loc
 obtain ⟨sl,hL⟩:=u.any ho I.free (by simp)
 exact I.step (g':=s.gens) (d':=s.drawn) (ch:=[]) (fun _ z=>nomatch z) (fun b o _ hb _ e n=>u.keep b o e n hb (by simp)) (fun b o _ hb _ e n=>u.slot b o e n hb (by simp)) (fun b o _ e n=>u.free b o e n (by simp)) (fun b o _ e=>u.there b o e (by simp)) u.tups u.frzs u.tbls (fun m' hm=>by
  obtain ⟨o',es',ep',ho',r'⟩:=hm
  rw [ho] at ho'; cases ho'
  exact ⟨_,es',ep',hL,r'⟩) hok I.bare
theorem Inv.call {g':Array GenState}{t':Nat}{d':Drawn}{ch:List Addr} (I:Inv X pins σ H s) (u:Un (frs X.stack) ch H H' s.heap h') (hok:HOk X.prog X.w H' h') (hg:AllBare g')
  (hch:∀ b∈ch,(b∈X.ex∨X.s₀.heap.objs.size≤b)∧b≠X.env.locals∧(∀ x c,X.env.cells.lookup x=some c→c≠b)∧∀ p∈X.pn++pins,p.1≠b) :
  Inv X pins σ H' { s with heap:=h',gens:=g',drawn:=d',toks:=t' }:=by
 obtain ⟨m,⟨o,es,ep,ho,r⟩,_⟩:=id I.loc
 obtain ⟨sl,hL⟩:=u.any ho I.free fun z=>(hch _ z).2.1 rfl
 exact I.step (ch:=ch) hch (fun b o hL hb hc e n=>u.keep b o e n (fun z=>(List.mem_cons.mp (I.stkSub b z)).elim hL hb) hc) (fun b o _ _ hc e n=>u.any e n hc) (fun b o hc e n=>u.free b o e n hc) (fun b o hc e=>u.there b o e hc) u.tups u.frzs u.tbls (fun m' hm=>by
  obtain ⟨o',es',ep',ho',r'⟩:=hm
  rw [ho] at ho'; cases ho'
  exact ⟨_,es',ep',hL,r'⟩) hok hg
theorem Inv.turned {t':Nat}{it:Addr} (I:Inv X pins σ H s) (k:∀ b o,b≠it→s.heap.get? b=some o→h'.get? b=some o) (hn:H it=none) (hL:it≠X.env.locals)
  (h1:it∈X.ex∨X.s₀.heap.objs.size≤it) (h2:∀ x c,X.env.cells.lookup x=some c→c≠it) (h3:∀ p∈X.pn++pins,p.1≠it):Inv X pins σ H { s with heap:=h',toks:=t' }:=by
 have nit:∀ b u,H b=some u→b≠it:=fun b u e z=>by rw [z,hn] at e; cases e
 refine I.step (g':=s.gens) (d':=s.drawn) (ch:=[it]) (fun b hb => ?_) (fun b o _ _ hc e _=>k b o (fun z=>hc (by simp [z])) e) (fun b o _ _ hc e _=>⟨o.slots,k b o (fun z=>hc (by simp [z])) e⟩) (fun _ _ _ _ n=>n)
  (fun b o hc e=>⟨o,k b o (fun z=>hc (by simp [z])) e⟩) (fun _ _ e=>e) (fun _ _ _ e=>e) (fun b ps e=>⟨#[],by rw [e]; simp⟩) (fun m hm => ?_) (fun b u e => ?_) I.bare
 ·have e:b=it:=by simpa using hb
  subst e
  exact ⟨h1,hL,h2,h3⟩
 ·obtain ⟨o,es,ep,ho,r⟩:=hm
  exact ⟨o,es,ep,k _ o (Ne.symm hL) ho,r⟩
 ·refine (I.hok b u e).stay (fun c v hc q=>k c v ?_ q) (fun _ q=>q) fun _ _ q=>q
  rcases hc with z | z
  ·rw [z]; exact nit b u e
  ·exact nit c _ z
theorem Inv.tok (I:Inv X pins σ H s) (t:Nat):Inv X pins σ H { s with toks:=t }:=I.un (h':=s.heap) (t':=t) Un.refl I.hok
theorem Inv.kept {t':Nat} (I:Inv X pins σ H s) (k:∀ b u,s.heap.get? b=some u→h'.get? b=some u):Inv X pins σ H { s with heap:=h',toks:=t' }:=I.un (Un.kept k) (I.hok.kept k)
theorem Inv.laid {a:Addr}{o:HO}{t':Nat} (I:Inv X pins σ H s) (k:∀ b u,s.heap.get? b=some u→h'.get? b=some u) (hp:s.heap.objs.size≤a) (new:dP X.prog X.w (upd H a o) h' a o) :
  Inv X pins σ (upd H a o) { s with heap:=h',toks:=t' }:=I.un (Un.laid k hp (I.hok.fresh hp)) (I.hok.laid k hp new)
theorem Inv.write {x e:Addr}{o:HO}{t':Nat} (I:Inv X pins σ H s) (mu:Mut (H x)) (he:e=x∨H e=some (.own x)) (k:∀ b u,b≠e→s.heap.get? b=some u→h'.get? b=some u) (heo:∃ u,h'.get? e=some u)
  (new:dP X.prog X.w (upd H x o) h' x o):Inv X pins σ (upd H x o) { s with heap:=h',toks:=t' }:=I.un (Un.write mu he k heo) (I.hok.write mu he k heo new)
theorem Inv.pins_of {pins':List (Addr × Obj)} (I:Inv X pins σ H s) (h:∀ p∈pins',s.heap.get? p.1=some p.2∧H p.1=none∧p.1≠X.env.locals∧p.1 ∉ X.fs∧∀ v,p.2.data ≠ .cell v):Inv X pins' σ H s :=
 ⟨I.ok,I.os,I.bare,I.base,I.loc,I.cell,I.free,I.freeC,fun p hp=>(List.mem_append.mp hp).elim (fun z=>I.pin p (List.mem_append_left _ z)) (h p),I.hok,I.len⟩
theorem rO {N:List Str} (hN:N.Nodup) {i j:Nat}{x:Str} (a:N[i]?=some x) (b:N[j]?=some x):i=j:=by
 obtain ⟨h1,e1⟩:=List.getElem?_eq_some_iff.mp a
 obtain ⟨h2,e2⟩:=List.getElem?_eq_some_iff.mp b
 exact (List.getElem_inj hN).mp (e1.trans e2.symm)
theorem pQ {M:Model}{A:Around}{E:Value→Shared→Prop}{i:Nat}{x:Str}{v:V}{u:Value}{Q:Unit→Shared→Prop} (I:Inv X pins σ H s) (hN:X.N.Nodup) (hi:X.N[i]?=some x) (hx:Loc X.env.scope x) (r:RelV v u)
  (h:∀ s',Inv X pins (σ.set i (some v)) H s'→(∃ a,Heap.SameBut a s.heap s'.heap∧(a=X.env.locals∨X.env.cells.lookup x=some a))→Q () s') (hf:X.fn x=true∨X.env.scope.names.lookup x=some .local:=by first | exact .inl rfl | exact .inr rfl | assumption):wpAny M A (storeName X.env x u) Q E s:=by
 obtain ⟨m,hn,hl⟩:=id I.loc
 have hcls:(X.env.scope.kind == .class || (X.env.scope.kind == .module && X.env.locals != X.env.globals))=false:=by rw [I.ok.kind]; rfl
 have hiσ:i < σ.length:=by rw [I.len]; exact (List.getElem?_eq_some_iff.mp hi).1
 have cne:=I.cne
 have tracked:∀ {a:Addr}{h':Heap},(∃ o,s.heap.get? a=some o∧H a=none)→Heap.SameBut a s.heap h'→HOk X.prog X.w H h':=fun {a h'} ha hs b ob e=>by
  obtain ⟨_,_,hfree⟩:=ha
  refine (I.hok b ob e).stay (fun c w' hc q=>(hs.2 c ?_).trans q) (fun _ q=>q) fun _ _ q=>q
  rintro rfl
  rcases hc with rfl | hc
  ·rw [hfree] at e; cases e
  ·rw [hfree] at hc; cases hc
 rcases hx with hk | hk
 ·refine wpAny_storeName_local hk hn (fun h' hn' hs => ?_) hcls
  obtain ⟨oL,_,_,hoL,_⟩:=id hn
  refine h _ ⟨I.ok,I.os,I.bare,⟨fun b o e n hb hx => ?_,fun b o e n hb hx => ?_,I.base.free,fun b o e hx => ?_,I.base.tups,I.base.frzs,I.base.tbls⟩,⟨_,hn',fun j y v' e1 e2 e3 => ?_⟩,fun y c e => ?_,I.free,I.freeC,fun p hp => ?_,tracked ⟨oL,hoL,I.free⟩ hs,by simpa using I.len⟩ ⟨_,hs, .inl rfl⟩
  ·exact (hs.2 b (Nat.ne_of_lt (Nat.lt_of_lt_of_le (Heap.lt_size e) I.ok.above))).trans (I.base.keep b o e n hb hx)
  ·obtain ⟨sl,e1⟩:=I.base.slot b o e n hb hx
   exact ⟨sl,(hs.2 b (Nat.ne_of_lt (Nat.lt_of_lt_of_le (Heap.lt_size e) I.ok.above))).trans e1⟩
  ·obtain ⟨o',e1⟩:=I.base.there b o e hx
   exact ⟨o',(hs.2 b (Nat.ne_of_lt (Nat.lt_of_lt_of_le (Heap.lt_size e) I.ok.above))).trans e1⟩
  ·by_cases hj:j=i
   ·subst hj
    rw [hi] at e1; cases e1
    rw [List.getElem?_set_self hiσ] at e2
    cases e2
    exact ⟨u,r, .inl ⟨hk,by simp⟩⟩
   ·rw [List.getElem?_set_ne (Ne.symm hj)] at e2
    obtain ⟨u',r',q⟩:=hl j y v' e1 e2 e3
    refine ⟨u',r',?_⟩
    rcases q with ⟨k,e⟩ | ⟨k,c,e,z⟩
    ·refine .inl ⟨k,?_⟩
     have:y≠x:=fun e=>hj (rO hN e1 (e ▸ hi))
     simp [this,e]
    ·exact .inr ⟨k,c,e,z.sameBut hs (cne y c e)⟩
  ·obtain ⟨w',z⟩:=I.cell y c e
   exact ⟨w',z.sameBut hs (cne y c e)⟩
  ·obtain ⟨e,n,ne,nf,d⟩:=I.pin p hp
   exact ⟨(hs.2 p.1 ne).trans e,n,ne,nf,d⟩
 ·have hfn:X.fn x=true:=by
   rcases hf with z | z
   ·exact z
   ·rw [z] at hk; cases hk
  obtain ⟨c,hc⟩:=I.ok.has x (.inl hk)
  obtain ⟨w',z⟩:=I.cell x c hc
  refine wpAny_storeName_cell I.ok.kind hk hc z (fun h' hc' hs => ?_)
  obtain ⟨oc,hoc,hocd⟩:=id z
  refine h { s with heap:=h' } ⟨I.ok,I.os,I.bare,⟨fun b o e n hb hx => ?_,fun b o e n hb hx => ?_,I.base.free,fun b o e hx => ?_,I.base.tups,I.base.frzs,I.base.tbls⟩,⟨m,hn.sameBut hs (Ne.symm (cne x c hc)),fun j y v' e1 e2 e3 => ?_⟩,fun y c' e => ?_,I.free,I.freeC,fun p hp => ?_,tracked ⟨oc,hoc,I.freeC x c hc⟩ hs,by simpa using I.len⟩ ⟨c,hs, .inr hc⟩
  ·exact (hs.2 b (Nat.ne_of_lt (Nat.lt_of_lt_of_le (Heap.lt_size e) (I.ok.cab x c hfn hc)))).trans (I.base.keep b o e n hb hx)
  ·obtain ⟨sl,e1⟩:=I.base.slot b o e n hb hx
   exact ⟨sl,(hs.2 b (Nat.ne_of_lt (Nat.lt_of_lt_of_le (Heap.lt_size e) (I.ok.cab x c hfn hc)))).trans e1⟩
  ·obtain ⟨o',e1⟩:=I.base.there b o e hx
   exact ⟨o',(hs.2 b (Nat.ne_of_lt (Nat.lt_of_lt_of_le (Heap.lt_size e) (I.ok.cab x c hfn hc)))).trans e1⟩
  ·by_cases hj:j=i
   ·subst hj
    rw [hi] at e1; cases e1
    rw [List.getElem?_set_self hiσ] at e2
    cases e2
    exact ⟨u,r, .inr ⟨.inl hk,c,hc,hc'⟩⟩
   ·rw [List.getElem?_set_ne (Ne.symm hj)] at e2
    obtain ⟨u',r',q⟩:=hl j y v' e1 e2 e3
    refine ⟨u',r',?_⟩
    rcases q with q | ⟨k,c',e,z'⟩
    ·exact .inl q
    ·refine .inr ⟨k,c',e,z'.sameBut hs ?_⟩
     rintro rfl
     exact hj (rO hN e1 (I.ok.inj _ _ _ e hc ▸ hi))
  ·by_cases hcc:c'=c
   ·subst hcc; exact ⟨_,hc'⟩
   ·obtain ⟨w2,z2⟩:=I.cell y c' e
    exact ⟨w2,z2.sameBut hs hcc⟩
  ·obtain ⟨e,n,ne,nf,d⟩:=I.pin p hp
   refine ⟨(hs.2 p.1 ?_).trans e,n,ne,nf,d⟩
   intro q
   rw [q,hoc] at e
   have q':oc=p.2:=Option.some.inj e
   exact d w' (by rw [← q']; exact hocd)
theorem kS {M:Model}{A:Around}{E:Value→Shared→Prop}{i:Nat}{x:Str}{v:V}{u:Value}{Q:Unit→Shared→Prop} (I:Inv X pins σ H s) (hN:X.N.Nodup) (hi:X.N[i]?=some x) (hx:Loc X.env.scope x) (r:RelV v u)
  (h:∀ s',Inv X pins (σ.set i (some v)) H s'→Q () s') (hf:X.fn x=true∨X.env.scope.names.lookup x=some .local:=by first | exact .inl rfl | exact .inr rfl | assumption):wpAny M A (storeName X.env x u) Q E s :=
 pQ I hN hi hx r (fun s' I' _=>h s' I') hf
theorem Inv.call' {s':Shared}{ch:List Addr} (I:Inv X pins σ H s) (ho:s'.os=s.os) (u:Un (frs X.stack) ch H H' s.heap s'.heap) (hok:HOk X.prog X.w H' s'.heap) (hg:AllBare s'.gens)
  (hch:∀ b∈ch,(b∈X.ex∨X.s₀.heap.objs.size≤b)∧b≠X.env.locals∧(∀ x c,X.env.cells.lookup x=some c→c≠b)∧∀ p∈X.pn++pins,p.1≠b):Inv X pins σ H' s':=by
 obtain ⟨h',g',d',t',o'⟩:=s'
 have e:o'=s.os:=ho
 subst e
 exact I.call (g':=g') (t':=t') (d':=d') u hok hg hch
end
abbrev XK:=Value→Option Addr→Hp→Prop
abbrev St:=List (Option V)
abbrev VK:=V→Hp→Prop
abbrev TE:=St→Hp→VK→Prop
abbrev TT:=St→Hp→(Bool→Hp→Prop)→Prop
abbrev TA:=St→Hp→(List V→Hp→Prop)→Prop
structure Ends where
 nx:St→Hp→Prop
 rt:VK
 bk:St→Hp→Prop:=fun _ _=>False
 ct:St→Hp→Prop:=fun _ _=>False
abbrev TS:=Ends→St→Hp→Prop
def EP (X:Cx) (pins:List (Addr × Obj)) (σ:St) (Q:VK) (u:Value) (s':Shared):Prop:=∃ v H',Inv X pins σ H' s'∧RelV v u∧Q v H'
def TP (X:Cx) (pins:List (Addr × Obj)) (σ:St) (Q:Bool→Hp→Prop) (b:Bool) (s':Shared):Prop:=∃ H',Inv X pins σ H' s'∧Q b H'
def AP (X:Cx) (pins:List (Addr × Obj)) (σ:St) (Q:List V→Hp→Prop) (us:List Value) (s':Shared):Prop:=∃ vs H',Inv X pins σ H' s'∧Vals vs us∧Q vs H'
def SP (X:Cx) (pins:List (Addr × Obj)) (D:Ends) (f:Flow) (s':Shared):Prop :=
 match f with
 | .next=>∃ σ' H',Inv X pins σ' H' s'∧D.nx σ' H'
 | .brk=>∃ σ' H',Inv X pins σ' H' s'∧D.bk σ' H'
 | .cont=>∃ σ' H',Inv X pins σ' H' s'∧D.ct σ' H'
 | .ret u=>∃ v σ' H',Inv X pins σ' H' s'∧RelV v u∧D.rt v H'
def PE (X:Cx) (e:Expr) (t:TE):Prop :=
 ∀ (pins:List (Addr × Obj)) (s:Shared) (σ:St) (H:Hp) (Q:VK),Inv X pins σ H s→t σ H Q→wpAny (model X.prog X.w) X.A (eval e X.env) (EP X pins σ Q) X.xe s
def PT (X:Cx) (e:Expr) (t:TT):Prop :=
 ∀ (pins:List (Addr × Obj)) (s:Shared) (σ:St) (H:Hp) (Q:Bool→Hp→Prop),Inv X pins σ H s→t σ H Q→wpAny (model X.prog X.w) X.A (isTrue e X.env (eval e X.env)) (TP X pins σ Q) X.xe s
def PW (X:Cx) (e:Expr) (t:TT):Prop :=
 ∀ (whole:Sem Value) (pins:List (Addr × Obj)) (s:Shared) (σ:St) (H:Hp) (Q:Bool→Hp→Prop),Inv X pins σ H s→t σ H Q→wpAny (model X.prog X.w) X.A (isTrue e X.env whole) (TP X pins σ Q) X.xe s
def PA (X:Cx) (es:List Expr) (t:TA):Prop :=
 ∀ (pos:Pos) (pins:List (Addr × Obj)) (s:Shared) (σ:St) (H:Hp) (Q:List V→Hp→Prop),Inv X pins σ H s→t σ H Q→wpAny (model X.prog X.w) X.A (spliced (backTo pos (starEach es X.env))) (AP X pins σ Q) X.xe s
def PS (X:Cx) (st:Stmt) (t:TS):Prop :=
 ∀ (pins:List (Addr × Obj)) (s:Shared) (σ:St) (H:Hp) (D:Ends),Inv X pins σ H s→t D σ H→wpAny (model X.prog X.w) X.A (exec st X.env) (SP X pins D) X.xe s
def PSs (X:Cx) (st:List Stmt) (t:TS):Prop :=
 ∀ (pins:List (Addr × Obj)) (s:Shared) (σ:St) (H:Hp) (D:Ends),Inv X pins σ H s→t D σ H→wpAny (model X.prog X.w) X.A (execs st X.env) (SP X pins D) X.xe s
theorem thn {α:Type}{t:Sem α}{Q Q':α→Shared→Prop}{M:Model}{A:Around}{E:Value→Shared→Prop}{s:Shared} (h:wpAny M A t Q E s) (hQ:∀ a s,Q a s→Q' a s):wpAny M A t Q' E s:=wpAny_mono h hQ fun _ _ x=>x
end L2
namespace L2
open PySem PySem.Spec PyProof.Rows
section
variable {X:Cx}
def tVar (i:Nat):TE:=fun σ H Q=>∃ v,σ[i]?=some (some v)∧Q v H
def tC (v:V):TE:=fun _ H Q=>Q v H
theorem aEQ {i:Nat}{x:Str}{pos:Pos} (hN:X.N[i]?=some x) (hv:Vis X.env.scope x) (hd:(x == ("__debug__" : Str))=false:=by decide) (hcd:(x == ("__classdict__" : Str))=false:=by decide):PE X (.Name x pos) (tVar i):=by
 intro pins s σ H Q I h
 obtain ⟨v,e,h⟩:=h
 obtain ⟨m,hn,hl⟩:=I.loc
 obtain ⟨u,r,l⟩:=hl i x v hN e hv
 have fin:EP X pins σ Q u s:=⟨v,H,I,r,h⟩
 rcases l with ⟨hk,hm⟩ | ⟨hk,c,hc,hcell⟩
 ·exact wpAny_Name (wpAny_loadName_local I.ok.kind hk hn hm fin) hd
 ·rcases hk with hk | hk
  ·exact wpAny_Name (wpAny_loadName_cell I.ok.kind hk hc hcell fin) hd
  ·exact wpAny_Name (wpAny_loadName_free I.ok.kind hk hc hcell fin hcd) hd
theorem aDZ {i j pos}:PE X (.Constant (.int i) j pos) (tC (.int i)):=fun _ _ _ H _ I h=>wpAny_Constant_int ⟨.int i,H,I.tok _,⟨_,rfl⟩,h⟩
theorem aF0 {b j pos}:PE X (.Constant (.bool b) j pos) (tC (.bl b)):=fun _ _ _ H _ I h=>Constant_bool ⟨.bl b,H,I,rfl,h⟩
theorem aEO {x j pos}:PE X (.Constant (.str x) j pos) (tC (.str x)):=fun _ _ _ H _ I h=>Calls.Constant_str ⟨.str x,H,I.tok _,⟨_,rfl⟩,h⟩
def Gl (X:Cx) (x:Str):Prop:=X.env.kindOf x=some .globalImplicit
theorem tS {E:Value→Shared→Prop}{pins:List (Addr × Obj)}{s:Shared}{σ:St}{H:Hp}{x:Str}{u:Value}{pos:Pos}{Q:Value→Shared→Prop} (I:Inv X pins σ H s) (hg:Gl X x) (hm:X.mg x=some u) (h:Q u s)
  (hd:(x == ("__debug__" : Str))=false:=by decide):wpAny (model X.prog X.w) X.A (eval (.Name x pos) X.env) Q E s :=
 Calls.Name_function_global I.ok.kind hg (Calls.loadGlobal_global (by rw [I.ok.glob]; exact I.mod.glob.keeps I.bk) hm h) hd
theorem j6 {E:Value→Shared→Prop}{pins:List (Addr × Obj)}{s:Shared}{σ:St}{H:Hp}{x:Str}{u:Value}{pos:Pos}{Q:Value→Shared→Prop} (I:Inv X pins σ H s) (hg:Gl X x) (hm:X.mg x=none) (hv:bootBuiltins x=some u) (h:Q u s)
  (hn:x ≠ "__name__" := by decide) (hd:(x == ("__debug__" : Str))=false:=by decide):wpAny (model X.prog X.w) X.A (eval (.Name x pos) X.env) Q E s:=by
 obtain ⟨mb,h1,h2⟩:=I.mod.blt
 exact Calls.Name_function_global I.ok.kind hg (Calls.loadGlobal_builtin (by rw [I.ok.glob]; exact I.mod.glob.keeps I.bk) hm (by rw [I.ok.blt]; exact h1.keeps I.bk) ((h2 x hn).trans hv) h) hd
theorem uK {x:Str}{v:V}{u:Value}{pos:Pos} (hg:Gl X x) (hm:X.mg x=some u) (r:RelV v u) (hd:(x == ("__debug__" : Str))=false:=by decide):PE X (.Name x pos) (tC v) :=
 fun _ _ _ H _ I h=>tS I hg hm ⟨v,H,I,r,h⟩ hd
theorem aC6 {x:Str}{v:V}{u:Value}{pos:Pos} (hg:Gl X x) (hm:X.mg x=none) (hv:bootBuiltins x=some u) (r:RelV v u) (hn:x ≠ "__name__" := by decide) (hd:(x == ("__debug__" : Str))=false:=by decide):PE X (.Name x pos) (tC v) :=
 fun _ _ _ H _ I h=>j6 I hg hm hv ⟨v,H,I,r,h⟩ hn hd
variable {a b:Expr}{ta tb:TE}{pos:Pos}
def tB (t:TE):TT:=fun σ H Q=>t σ H fun x H1=>∃ c,x = .bl c∧Q c H1
theorem aFM {e:Expr}{t:TE} (h:PE X e t) (he:∀ whole,isTrue e X.env whole=(do let v ← whole; standAt e.pos; holding [v] (truthy v)):=by intro _; rfl):PT X e (tB t):=by
 intro pins s σ H Q I hw
 refine isTrue_plain (thn (h pins s σ H _ I hw) fun v s1 ⟨x,H1,I1,r1,q1⟩ => ?_) (he _)
 obtain ⟨d,rfl,q⟩:=q1
 cases r1
 exact wpAny_truthy_bool ⟨H1,I1,q⟩
variable {tA tB':TT}{rest:List Expr}
def tAnd (t u:TT):TT:=fun σ H Q=>t σ H fun c H1=>if c=true then u σ H1 Q else Q false H1
def tOr (t u:TT):TT:=fun σ H Q=>t σ H fun c H1=>if c=true then Q true H1 else u σ H1 Q
def tNot (t:TT):TT:=fun σ H Q=>t σ H fun c H1=>Q (!c) H1
theorem aCC (ha:PT X a tA):PW X (.BoolOp .And [a] pos) tA:=by
 intro wh pins s σ H Q I h
 refine isTrue_and (thn (ha pins s σ H Q I h) fun c s1 e => ?_)
 cases c with
 | true=>exact isTrue_and_nil e
 | false=>exact e
theorem aDW (ha:PT X a tA):PW X (.BoolOp .Or [a] pos) tA:=by
 intro wh pins s σ H Q I h
 refine isTrue_or (thn (ha pins s σ H Q I h) fun c s1 e => ?_)
 cases c with
 | false=>exact isTrue_or_nil e
 | true=>exact e
theorem aER (ha:PT X a tA) (hb:PW X (.BoolOp .And (b::rest) pos) tB'):PW X (.BoolOp .And (a::b::rest) pos) (tAnd tA tB'):=by
 intro wh pins s σ H Q I h
 refine isTrue_and (thn (ha pins s σ H _ I h) fun c s1 ⟨H1,I1,q1⟩ => ?_)
 cases c with
 | true=>exact hb wh pins s1 σ H1 Q I1 q1
 | false=>exact ⟨H1,I1,q1⟩
theorem aGE (ha:PT X a tA) (hb:PW X (.BoolOp .Or (b::rest) pos) tB'):PW X (.BoolOp .Or (a::b::rest) pos) (tOr tA tB'):=by
 intro wh pins s σ H Q I h
 refine isTrue_or (thn (ha pins s σ H _ I h) fun c s1 ⟨H1,I1,q1⟩ => ?_)
 cases c with
 | true=>exact ⟨H1,I1,q1⟩
 | false=>exact hb wh pins s1 σ H1 Q I1 q1
theorem aEJ (ha:PT X a tA):PT X (.UnaryOp .Not a pos) (tNot tA):=by
 intro pins s σ H Q I h
 exact isTrue_not (ha pins s σ H (fun c H1=>Q (!c) H1) I h)
def aF7 (ta tb:TE):TE:=fun σ H Q=>ta σ H fun x H1=>∃ c,x = .bl c∧if c=true then tb σ H1 Q else Q (.bl false) H1
def aGO (ta:TE):TE:=fun σ H Q=>ta σ H fun x H1=>∃ c,x = .bl c∧Q (.bl (!c)) H1
theorem aEK {op}{t:TE} (h:PE X a t):PE X (.BoolOp op [a] pos) t:=fun pins s σ H Q I hw=>BoolOp_one (h pins s σ H Q I hw)
theorem aD8 (ha:PE X a ta) (hb:PE X (.BoolOp .And (b::rest) pos) tb):PE X (.BoolOp .And (a::b::rest) pos) (aF7 ta tb):=by
 intro pins s σ H Q I h
 refine BoolOp_and (thn (ha pins s σ H _ I h) fun v s1 ⟨x,H1,I1,r1,q1⟩ => ?_)
 obtain ⟨c,rfl,q1⟩:=q1
 cases r1
 refine wpAny_truthy_bool ?_
 cases c with
 | true=>exact hb pins s1 σ H1 Q I1 q1
 | false=>exact ⟨.bl false,H1,I1,rfl,q1⟩
theorem aES (ha:PE X a ta):PE X (.UnaryOp .Not a pos) (aGO ta):=by
 intro pins s σ H Q I h
 refine UnaryOp_ (thn (ha pins s σ H _ I h) fun v s1 ⟨x,H1,I1,r1,q1⟩ => ?_)
 obtain ⟨c,rfl,q1⟩:=q1
 cases r1
 exact not_of (wpAny_truthy_bool ⟨.bl (!c),H1,I1,rfl,q1⟩)
def tIf (t:TT) (ta tb:TE):TE:=fun σ H Q=>t σ H fun c H1=>if c=true then ta σ H1 Q else tb σ H1 Q
theorem zN {c:Expr} (hc:PT X c tA) (ha:PE X a ta) (hb:PE X b tb):PE X (.IfExp c a b pos) (tIf tA ta tb):=by
 intro pins s σ H Q I h
 refine wpAny_IfExp (thn (hc pins s σ H _ I h) fun d s1 ⟨H1,I1,q1⟩ => ?_)
 cases d with
 | true=>exact ha pins s1 σ H1 Q I1 q1
 | false=>exact hb pins s1 σ H1 Q I1 q1
end
end L2
namespace L2
open PySem PySem.Spec PyProof.Rows
def SqL (K:PySem.W.Frag) (H:Hp) (a:Addr) (xs:List V):Prop :=
 Rd H a (.lst xs) ∨
  ∃ (o:Obj) (its:Array Value) (n:Nat),K.lookup a=some o∧o.cls = .type "list" ∧ o.dict=none∧o.data = .seq its n∧its.size≤sizeLine∧Vals xs its.toList
def SqT (K:PySem.W.Frag) (H:Hp) (a:Addr) (xs:List V):Prop :=
 Rd H a (.tup xs) ∨
  ∃ (o:Obj) (its:Array Value) (n:Nat),K.lookup a=some o∧o.cls = .type "tuple" ∧ o.data = .seq its n∧its.size≤sizeLine∧Vals xs its.toList
def absV:Value→Option V
 | .none=>some .non
 | .bool b=>some (.bl b)
 | .int i _=>some (.int i)
 | .str x _=>some (.str x)
 | .bytes b _=>some (.byt b)
 | .float b _=>some (.flt b)
 | .ref a=>some (.ref a)
 | .type n=>some (.ty n)
 | _=>none
theorem RelV.abs {x:V}{u:Value} (r:RelV x u):absV u=some x:=by
 cases x with
 | non=>cases r; rfl
 | bl _=>cases r; rfl
 | int _=>obtain ⟨t,rfl⟩:=r; rfl
 | str _=>obtain ⟨t,rfl⟩:=r; rfl
 | byt _=>obtain ⟨t,rfl⟩:=r; rfl
 | flt _=>obtain ⟨t,rfl⟩:=r; rfl
 | ref _=>cases r; rfl
 | ty _=>cases r; rfl
theorem RelV.inj {x y:V}{u:Value} (r:RelV x u) (q:RelV y u):x=y:=Option.some.inj (r.abs.symm.trans q.abs)
theorem Vals.inj:∀ {xs ys:List V}{us:List Value},Vals xs us→Vals ys us→xs=ys
 | _,_,_, .nil, .nil=>rfl
 | _,_,_, .cons r t, .cons r' t'=>by rw [r.inj r',Vals.inj t t']
section
variable {X:Cx}{pins:List (Addr × Obj)}{σ:St}{H:Hp}{s:Shared}{a:Addr}{xs ys:List V}
theorem SqL.of {K:PySem.W.Frag} (h:H a=some (.lst xs)):SqL K H a xs := .inl (.inl h)
theorem SqT.of {K:PySem.W.Frag} (h:H a=some (.tup xs)):SqT K H a xs := .inl (.inl h)
theorem Inv.list (I:Inv X pins σ H s) (h:SqL X.K H a xs):∃ its:List Value,Vals xs its∧PlainL s.heap a its.toArray∧xs.length≤sizeLine:=by
 rcases h with h | ⟨o,its,n,hk,hc,hd,hs,hz,r⟩
 ·obtain ⟨z,its,n,r,e⟩:=h.ok I.hok
  exact ⟨its,r,⟨_,n,e,rfl,rfl,rfl⟩,z⟩
 ·refine ⟨its.toList,r,⟨o,n,I.kIn a o hk,hc,hd,by simpa using hs⟩,?_⟩
  have e:=r.length
  simp only [Array.length_toList] at e
  omega
theorem Inv.tuple (I:Inv X pins σ H s) (h:SqT X.K H a xs):∃ its:List Value,Vals xs its∧IsTup s.heap a its.toArray∧xs.length≤sizeLine:=by
 rcases h with h | ⟨o,its,n,hk,hc,hs,hz,r⟩
 ·obtain ⟨z,its,r,p⟩:=h.ok I.hok
  exact ⟨its,r,p,z⟩
 ·refine ⟨its.toList,r,⟨o,I.kIn a o hk,hc,n,by simpa using hs⟩,?_⟩
  have e:=r.length
  simp only [Array.length_toList] at e
  omega
theorem Inv.list_inj (I:Inv X pins σ H s) (h:SqL X.K H a xs) (h':SqL X.K H a ys):xs=ys:=by
 obtain ⟨its,r,⟨o,n,e,_,_,d⟩,_⟩:=I.list h
 obtain ⟨its',r',⟨o',n',e',_,_,d'⟩,_⟩:=I.list h'
 rw [e] at e'; cases e'
 rw [d] at d'
 injection d' with d1 _
 have:its=its':=by simpa using congrArg Array.toList d1
 subst this
 exact r.inj r'
theorem Inv.tuple_inj (I:Inv X pins σ H s) (h:SqT X.K H a xs) (h':SqT X.K H a ys):xs=ys:=by
 obtain ⟨its,r,⟨o,e,_,n,d⟩,_⟩:=I.tuple h
 obtain ⟨its',r',⟨o',e',_,n',d'⟩,_⟩:=I.tuple h'
 rw [e] at e'; cases e'
 rw [d] at d'
 injection d' with d1 _
 have:its=its':=by simpa using congrArg Array.toList d1
 subst this
 exact r.inj r'
end
abbrev Cx.wish (X:Cx) (E:Value→Shared→Prop):Cx:={ X with xe:=E }
abbrev Cx.nox (X:Cx):Cx:=X.wish fun _ _=>False
theorem Cx.Ok.wish {X:Cx} (ok:X.Ok) (E:Value→Shared→Prop):(X.wish E).Ok :=
 ⟨ok.mod,ok.kind,ok.glob,ok.blt,ok.above,ok.inj,ok.has,ok.cab,ok.hd,ok.frames,ok.stk,ok.exf,ok.bs,ok.bsz,ok.noex,ok.exfs,ok.funs,ok.frf⟩
theorem Cx.Ok.unwish {X:Cx}{E:Value→Shared→Prop} (ok:(X.wish E).Ok):X.Ok :=
 ⟨ok.mod,ok.kind,ok.glob,ok.blt,ok.above,ok.inj,ok.has,ok.cab,ok.hd,ok.frames,ok.stk,ok.exf,ok.bs,ok.bsz,ok.noex,ok.exfs,ok.funs,ok.frf⟩
section
variable {X:Cx}{pins:List (Addr × Obj)}{σ:St}{H:Hp}{s:Shared}{E:Value→Shared→Prop}
theorem Inv.wish (I:Inv X pins σ H s) (E:Value→Shared→Prop):Inv (X.wish E) pins σ H s:=⟨I.ok.wish E,I.os,I.bare,I.base,I.loc,I.cell,I.free,I.freeC,I.pin,I.hok,I.len⟩
theorem Inv.unwish (I:Inv (X.wish E) pins σ H s):Inv X pins σ H s:=⟨I.ok.unwish,I.os,I.bare,I.base,I.loc,I.cell,I.free,I.freeC,I.pin,I.hok,I.len⟩
theorem SP.unwish {D:Ends}{f:Flow}{s':Shared} (h:SP (X.wish E) pins D f s'):SP X pins D f s':=by
 cases f with
 | next=>obtain ⟨σ',H',I,q⟩:=h; exact ⟨σ',H',I.unwish,q⟩
 | brk=>obtain ⟨σ',H',I,q⟩:=h; exact ⟨σ',H',I.unwish,q⟩
 | cont=>obtain ⟨σ',H',I,q⟩:=h; exact ⟨σ',H',I.unwish,q⟩
 | ret u=>obtain ⟨v,σ',H',I,r,q⟩:=h; exact ⟨v,σ',H',I.unwish,r,q⟩
theorem PSs.nox {st:List Stmt}{t:TS} (h:PSs X.nox st t):PSs X st t:=fun pins s σ H D I hw =>
 wpAny_mono (h pins s σ H D (I.wish _) hw) (fun _ _ q=>q.unwish) fun _ _ z=>False.elim z
end
section
variable {X:Cx}{st:Stmt}{rest:List Stmt}{t u:TS}{e:Expr}{te:TE}{pos:Pos}
def aGS:TS:=fun D σ H=>D.nx σ H
def tSeq (t u:TS):TS:=fun D σ H=>t { D with nx:=u D } σ H
theorem aDK:PSs X [] aGS:=fun _ _ σ H _ I h=>wpAny_execs_nil ⟨σ,H,I,h⟩
theorem aAA (h1:PS X st t) (h2:PSs X rest u):PSs X (st::rest) (tSeq t u):=by
 intro pins s σ H D I h
 refine wpAny_execs_cons (thn (h1 pins s σ H { D with nx:=u D } I h) fun f s1 q => ?_)
 cases f with
 | next =>
  obtain ⟨σ',H',I',q⟩:=q
  exact h2 pins s1 σ' H' D I' q
 | ret v=>exact q
 | brk=>exact q
 | cont=>exact q
theorem aCE (h1:PS X st t):PSs X [st] t:=by
 intro pins s σ H D I h
 refine wpAny_execs_cons (thn (h1 pins s σ H D I h) fun f s1 q => ?_)
 cases f with
 | next=>exact wpAny_execs_nil q
 | ret v=>exact q
 | brk=>exact q
 | cont=>exact q
theorem Inv.quiet {pins:List (Addr × Obj)}{σ:St}{H:Hp}{s:Shared} (I:Inv X pins σ H s):interactive X.env=false:=by simp [interactive,I.ok.kind]
def aGN (te:TE):TS:=fun D σ H=>te σ H fun _ H1=>D.nx σ H1
theorem aCA (he:PE X e te) (hs:swapsWith e none pos.line X.env=pure false:=by rfl):PS X (.Expr e pos) (aGN te):=by
 intro pins s σ H D I h
 exact wpAny_Expr_any (thn (he pins s σ H _ I h) fun v s1 ⟨x,H1,I1,r1,q1⟩=>⟨σ,H1,I1,q1⟩) I.quiet hs
def tRet (te:TE):TS:=fun D σ H=>te σ H D.rt
theorem aEG (he:PE X e te):PS X (.Return (some e) pos) (tRet te):=by
 intro pins s σ H D I h
 exact wpAny_Return_some (thn (he pins s σ H _ I h) fun v s1 ⟨x,H1,I1,r1,q1⟩=>⟨x,σ,H1,I1,r1,q1⟩)
def tIfS (c:TT) (t u:TS):TS:=fun D σ H=>c σ H fun b H1=>if b=true then t D σ H1 else u D σ H1
theorem aGP {c:Expr}{a b:List Stmt}{tc:TT} (hc:PT X c tc) (ha:PSs X a t) (hb:PSs X b u):PS X (.If c a b pos) (tIfS tc t u):=by
 intro pins s σ H D I h
 refine wpAny_If (thn (hc pins s σ H _ I h) fun d s1 ⟨H1,I1,q1⟩ => ?_)
 cases d with
 | true=>exact ha pins s1 σ H1 D I1 q1
 | false=>exact hb pins s1 σ H1 D I1 q1
end
abbrev TG:=V→St→Hp→(St→Hp→Prop)→Prop
abbrev TGs:=List V→St→Hp→(St→Hp→Prop)→Prop
def PG (X:Cx) (target:Expr) (t:TG):Prop :=
 ∀ (pins:List (Addr × Obj)) (s:Shared) (σ:St) (H:Hp) (v:V) (u:Value) (Q:St→Hp→Prop),Inv X pins σ H s→RelV v u→t v σ H Q →
  wpAny (model X.prog X.w) X.A (assign target X.env u) (fun _ s'=>∃ σ' H',Inv X pins σ' H' s'∧Q σ' H') X.xe s
def PGs (X:Cx) (ts:List Expr) (t:TGs):Prop :=
 ∀ (pins:List (Addr × Obj)) (s:Shared) (σ:St) (H:Hp) (vs:List V) (us:List Value) (Q:St→Hp→Prop),Inv X pins σ H s→Vals vs us→t vs σ H Q →
  wpAny (model X.prog X.w) X.A (assignInOrder ((assignEach ts X.env).map (·.2)) us) (fun _ s'=>∃ σ' H',Inv X pins σ' H' s'∧Q σ' H') X.xe s
abbrev TSet:=V→V→V→Hp→(Hp→Prop)→Prop
def PSet (X:Cx) (t:TSet):Prop :=
 ∀ (pins:List (Addr × Obj)) (s:Shared) (σ:St) (H:Hp) (o i v:V) (ov iv u:Value) (Q:Hp→Prop),Inv X pins σ H s→RelV o ov→RelV i iv→RelV v u→t o i v H Q →
  wpAny (model X.prog X.w) X.A (setItem ov iv u) (fun _ s'=>∃ H',Inv X pins σ H' s'∧Q H') X.xe s
section
variable {X:Cx}{pos:Pos}
def oD (i:Nat):TG:=fun v σ H Q=>Q (σ.set i (some v)) H
theorem t9 {i:Nat}{x:Str} (hN:X.N.Nodup) (hi:X.N[i]?=some x) (hx:Loc X.env.scope x) (hf:X.fn x=true∨X.env.scope.names.lookup x=some .local:=by first | exact .inl rfl | exact .inr rfl | assumption):PG X (.Name x pos) (oD i):=by
 intro pins s σ H v u Q I r h
 exact wpAny_assign_Name (kS I hN hi hx r (fun s' I'=>⟨_,H,I',h⟩) hf)
def gNil:TGs:=fun vs σ H Q=>vs=[]∧Q σ H
def aF3 (t:TG) (u:TGs):TGs:=fun vs σ H Q=>∃ v r,vs=v::r∧t v σ H fun σ' H'=>u r σ' H' Q
theorem aBR:PGs X [] gNil:=by
 intro pins s σ H vs us Q I r h
 obtain ⟨e,h⟩:=h
 subst e
 cases r
 exact assignInOrder_nil ⟨σ,H,I,h⟩
theorem aA3 {e:Expr}{es:List Expr}{t:TG}{u:TGs} (h1:PG X e t) (h2:PGs X es u)
  (hs:(assignEach (e::es) X.env).map (·.2)=assign e X.env::(assignEach es X.env).map (·.2):=by rfl):PGs X (e::es) (aF3 t u):=by
 intro pins s σ H vs us Q I r h
 obtain ⟨v,vr,e1,h⟩:=h
 subst e1
 cases r with
 | cons r rr =>
  rw [hs]
  refine assignInOrder_cons (thn (h1 pins s σ H _ _ _ I r h) fun _ s1 ⟨σ1,H1,I1,q1⟩ => ?_)
  exact h2 pins s1 σ1 H1 _ _ Q I1 rr q1
def gTup (K:PySem.W.Frag) (n:Nat) (t:TGs):TG:=fun v σ H Q=>∃ a xs,v = .ref a∧SqT K H a xs∧xs.length=n∧t xs σ H Q
theorem aEZ {es:List Expr}{k:Nat}{t:TGs}{n:Nat} (hc:X.calm=true) (h:PGs X es t)
  (hn:(assignEach es X.env).length=n:=by rfl) (hst:(assignEach es X.env).findIdx? (·.1)=none:=by rfl):PG X (.Tuple es k pos) (gTup X.K n t):=by
 intro pins s σ H v u Q I r hw
 obtain ⟨a,xs,e1,hq,hl,hw⟩:=hw
 subst e1
 cases r
 obtain ⟨its,rv,ht,hz⟩:=I.tuple hq
 refine assign_Tuple_tuple (I.ok.hd hc) ht (by simp [hn,← hl,rv.length]) hst fun h' hx => ?_
 have I1:Inv X pins σ H { s with heap:=h' }:=I.kept (t':=s.toks) fun b o e=>hx b o (Nat.ne_of_lt (Heap.lt_size e)) e
 exact h pins _ σ H xs _ Q I1 (by simpa using rv) hw
def gSub (to ti:TE) (t:TSet):TG:=fun v σ H Q=>to σ H fun o H1=>ti σ H1 fun i H2=>t o i v H2 fun H3=>Q σ H3
theorem aEU {o i:Expr}{to ti:TE}{t:TSet} (ho:PE X o to) (hi:PE X i ti) (hs:PSet X t)
  (ha:∀ v,assign (.Subscript o i pos) X.env v=(do
   let ov ← holding [v] (eval o X.env)
   let iv ← holding [v,ov] (eval i X.env)
   standAt pos
   holding [v,ov,iv] (setItem ov iv v)
   release [v,ov,iv] []):=by intro _; rfl):PG X (.Subscript o i pos) (gSub to ti t):=by
 intro pins s σ H v u Q I r h
 rw [ha]
 refine wpAny_bind (wpAny_holding (thn (ho pins s σ H _ I h) fun ov s1 ⟨x,H1,I1,r1,q1⟩ => ?_))
 refine wpAny_bind (wpAny_holding (thn (hi pins s1 σ H1 _ I1 q1) fun iv s2 ⟨y,H2,I2,r2,q2⟩ => ?_))
 refine wpAny_bind (wpAny_standAt (wpAny_bind (wpAny_holding (thn (hs pins s2 σ H2 x y v ov iv u _ I2 r1 r2 r q2) fun _ s3 ⟨H3,I3,q3⟩ => ?_))))
 exact wpAny_release ⟨σ,H3,I3,q3⟩
def tAsg (te:TE) (g:TG):TS:=fun D σ H=>te σ H fun x H1=>g x σ H1 D.nx
theorem aD0 {tg e:Expr}{te:TE}{g:TG} (he:PE X e te) (hg:PG X tg g) (hs:swapsWithSole [tg] e pos.line X.env=pure false:=by rfl) (hw:swappedStores [tg] e X.env=pure none:=by rfl)
  (h1:(assignEach [tg] X.env).map (·.2)=[assign tg X.env]:=by rfl):PS X (.Assign [tg] e pos) (tAsg te g):=by
 intro pins s σ H D I h
 refine wpAny_Assign_stores (thn (he pins s σ H _ I h) fun v s1 ⟨x,H1,I1,r1,q1⟩ => ?_) hs hw
 rw [h1]
 exact thn (hg pins s1 σ H1 x v _ I1 r1 q1) fun _ s2 q=>q
theorem aFU {i:Nat}{x:Str}{e:Expr}{te:TE}{pos':Pos} (hN:X.N.Nodup) (hi:X.N[i]?=some x) (hx:Loc X.env.scope x) (he:PE X e te) (hs:swapsWith e (some (.Name x pos')) pos.line X.env=pure false:=by rfl) (hf:X.fn x=true∨X.env.scope.names.lookup x=some .local:=by first | exact .inl rfl | exact .inr rfl | assumption) :
  PS X (.Assign [.Name x pos'] e pos) (tAsg te (oD i)):=by
 intro pins s σ H D I h
 refine wpAny_Assign_Name (thn (he pins s σ H _ I h) fun v s1 ⟨y,H1,I1,r1,q1⟩ => ?_) hs
 exact kS I1 hN hi hx r1 (fun s2 I2=>⟨_,H1,I2,q1⟩) hf
def tPar (i j:Nat) (ta:TA):TS:=fun D σ H=>ta σ H fun vs H1=>∃ v w,vs=[v,w]∧D.nx ((σ.set i (some v)).set j (some w)) H1
theorem aD4 {i j:Nat}{x y:Str}{a b:Expr}{ta:TA}{px py pt:Pos}{kt k2 pt2} (hc:X.calm=true) (hN:X.N.Nodup) (hi:X.N[i]?=some x) (hj:X.N[j]?=some y) (hij:i≠j)
  (hx:X.env.scope.names.lookup x=some .local) (hy:X.env.scope.names.lookup y=some .local) (ha:PA X [a,b] ta)
  (hw:swappedStores [.Tuple [.Name x px, .Name y py] kt pt] (.Tuple [a,b] k2 pt2) X.env=pure (some [x,y]))
  (hs:swapsWithSole [.Tuple [.Name x px, .Name y py] kt pt] (.Tuple [a,b] k2 pt2) pos.line X.env=pure false:=by rfl) :
  PS X (.Assign [.Tuple [.Name x px, .Name y py] kt pt] (.Tuple [a,b] k2 pt2) pos) (tPar i j ta):=by
 intro pins s σ H D I h
 rw [exec_Assign_arm]
 refine wpAny_bind (wpAny_standAt ?_)
 rw [hs]
 refine wpAny_bind (wpAny_pure ?_)
 rw [if_neg (by decide)]
 refine wpAny_bind (Tuple_ (thn (ha _ pins s σ H _ I h) fun us s1 ⟨vs,H1,I1,r1,q1⟩ => ?_))
 obtain ⟨v,w,e1,q1⟩:=q1
 subst e1
 obtain ⟨u1,u2,rfl,rv,rw'⟩:∃ u1 u2,us=[u1,u2]∧RelV v u1∧RelV w u2:=by
  cases r1 with
  | cons p q =>
   cases q with
   | cons p' q' =>
    cases q'
    exact ⟨_,_,rfl,p,p'⟩
 refine wpAny_newObj_type ?_ (by show 2≤sizeLine; decide)
 have I2:Inv X pins σ H1 { s1 with heap:=s1.heap.push { cls := .type "tuple", data := .seq [u1,u2].toArray } }:=I1.kept (t':=s1.toks) fun b o e=>Heap.get?_push_of_some _ e
 rw [hw]
 refine wpAny_bind (wpAny_pure ?_)
 show wpAny (model X.prog X.w) X.A (do rule "assign.swapped-stores"; let items ← unpackItems (.ref s1.heap.objs.size) 2 none; assignInOrder [fun v=>bindName X.env y v,fun v=>bindName X.env x v] items.reverse; pure Flow.next) _ _ _
 refine wpAny_bind (wpAny_rule (wpAny_bind (unpackItems_tuple (items := #[u1,u2]) (I.ok.hd hc) (IsTup.new s1.heap _) fun h' hx' => ?_)))
 have I3:=I2.kept (h':=h') (t':=s1.toks) fun b o e=>hx' b o (Nat.ne_of_lt (Heap.lt_size e)) e
 show wpAny _ _ (assignInOrder [fun v=>bindName X.env y v,fun v=>bindName X.env x v] [u2,u1] >>= fun _=>pure Flow.next) _ _ _
 refine wpAny_bind (assignInOrder_cons (wpAny_bindName (kS I3 hN hj (.inl hy) rw' (fun s2 I4 => ?_) (.inr hy))))
 refine assignInOrder_cons (wpAny_bindName (kS I4 hN hi (.inl hx) rv (fun s3 I5=>assignInOrder_nil (wpAny_pure ?_)) (.inr hx)))
 rw [List.set_comm _ _ (Ne.symm hij)] at I5
 exact ⟨_,H1,I5,q1⟩
end
section
variable {X:Cx}{pos:Pos}
def aFL (c:TT) (tb:TS):TS:=fun D σ H=>∃ W:Nat→St→Hp→Prop,(∃ m,W m σ H)∧∀ m σ H,W m σ H →
 c σ H fun b H1=>if b=true then ∃ N:St→Hp→Prop,(∀ σ' H',N σ' H'→∃ m',m' < m∧W m' σ' H')∧tb { D with nx:=N,ct:=N,bk:=D.nx } σ H1 else D.nx σ H1
theorem zW {c:Expr}{body:List Stmt}{tc:TT}{tb:TS} (hp:PassesOwn (model X.prog X.w) X.A X.env X.xe) (hc:PT X c tc) (hb:PSs X body tb):PS X (.While c body [] pos) (aFL tc tb):=by
 intro pins s σ H D I h
 obtain ⟨W,⟨m0,w0⟩,turn⟩:=h
 refine wpAny_While (codeAny_whileLoop (fun n s'=>∃ σ' H',Inv X pins σ' H' s'∧W n σ' H') ?_ m0 ⟨σ,H,I,w0⟩)
 rintro n s1 ⟨σ1,H1,I1,w1⟩
 refine wpAny_passesOwn hp (thn (hc pins s1 σ1 H1 _ I1 (turn n σ1 H1 w1)) fun b s2 ⟨H2,I2,q2⟩ => ?_)
 cases b with
 | true =>
  obtain ⟨N,hN,q2⟩:=q2
  rw [if_pos rfl]
  refine wpAny_passesOwn hp (thn (hb pins s2 σ1 H2 _ I2 q2) fun f s3 q3 => ?_)
  cases f with
  | next =>
   obtain ⟨σ3,H3,I3,n3⟩:=q3
   obtain ⟨m',hm,w3⟩:=hN σ3 H3 n3
   exact ⟨m',hm,σ3,H3,I3,w3⟩
  | cont =>
   obtain ⟨σ3,H3,I3,n3⟩:=q3
   obtain ⟨m',hm,w3⟩:=hN σ3 H3 n3
   exact ⟨m',hm,σ3,H3,I3,w3⟩
  | brk=>exact q3
  | ret v=>exact q3
 | false =>
  rw [if_neg Bool.false_ne_true]
  exact wpAny_execs_nil ⟨σ1,H2,I2,q2⟩
end
structure It where
 go:Nat→Hp→Prop
 yld:Nat→Hp→V→Hp→Prop
 stop:Nat→Hp→Prop
def FpOk (X:Cx) (pins:List (Addr × Obj)) (H:Hp) (b:Addr):Prop :=
 H b=none∧b≠X.env.locals∧b ∉ X.fs∧(b∈X.ex∨X.s₀.heap.objs.size≤b)∧(∀ x c,X.env.cells.lookup x=some c→c≠b)∧∀ p∈X.pn++pins,p.1≠b
theorem Inv.fpOk {X:Cx}{pins:List (Addr × Obj)}{σ:St}{H H':Hp}{s:Shared}{b:Addr} (I:Inv X pins σ H s) (hb:s.heap.objs.size≤b) (hn:H' b=none):FpOk X pins H' b:=by
 refine ⟨hn,Nat.ne_of_gt (Nat.lt_of_lt_of_le I.lt hb),I.nofs hb, .inr (Nat.le_trans I.sz hb),fun x c e z => ?_,fun p hp z => ?_⟩
 ·obtain ⟨v,q⟩:=I.cell x c e
  exact absurd (Nat.lt_of_lt_of_le q.lt (by rw [z]; exact hb)) (Nat.lt_irrefl _)
 ·exact absurd (Nat.lt_of_lt_of_le (Heap.lt_size (I.pin p hp).1) (by rw [z]; exact hb)) (Nat.lt_irrefl _)
structure Turn (P:Program) (w:World) (K:PySem.W.Frag) (tg:Expr) (J:It) (fp:List Addr) (it:Addr) (tn:Nat→Heap→Prop):Prop where
 mem:it∈fp
 obj:∀ i h,tn i h→∀ b∈fp,∃ o,h.get? b=some o∧∀ v,o.data ≠ .cell v
 keep:∀ i h h',tn i h→(∀ b∈fp,∀ o,h.get? b=some o→h'.get? b=some o)→tn i h'
 item:∀ (X:Cx),X.prog=P→X.w=w→X.K=K→X.calm=true→∀ (i:Nat) (pins:List (Addr × Obj)) (s:Shared) (σ:St) (H:Hp) (E:Value→Shared→Prop),Inv X pins σ H s→(∀ b∈fp,FpOk X pins H b)→tn i s.heap→J.go i H →
  wpAny (model P w) X.A (pyNext (.ref it)) (fun r s1=>∃ u,r=some u ∧
   wpAny (model P w) X.A (letOwnedTupleGo tg (.ref it) u) (fun _ s2=>∃ x H',Inv X pins σ H' s2∧RelV x u∧J.yld i H x H'∧tn (i+1) s2.heap∧∀ b∈fp,H' b=none) E s1) E s
 done:∀ (X:Cx),X.prog=P→X.w=w→X.K=K→X.calm=true→∀ (i:Nat) (pins:List (Addr × Obj)) (s:Shared) (σ:St) (H:Hp) (E:Value→Shared→Prop),Inv X pins σ H s→(∀ b∈fp,FpOk X pins H b)→tn i s.heap→J.stop i H →
  wpAny (model P w) X.A (pyNext (.ref it)) (fun r s1=>r=none∧Inv X pins σ H s1) E s
 self:∀ (A:Around) (i:Nat) (s:Shared) (Q:Value→Shared→Prop) (E:Value→Shared→Prop),tn i s.heap→Q (.ref it) s→wpAny (model P w) A (pyIter (.ref it)) Q E s
abbrev TI:=St→Hp→(It→Hp→Prop)→Prop
def PIE (X:Cx) (pins:List (Addr × Obj)) (σ:St) (tg:Expr) (R:It→Hp→Prop) (itv:Value) (s2:Shared):Prop :=
 ∃ (it:Addr) (fp:List Addr) (tn:Nat→Heap→Prop) (J:It) (H':Hp),itv = .ref it∧Inv X pins σ H' s2∧Turn X.prog X.w X.K tg J fp it tn∧tn 0 s2.heap∧(∀ b∈fp,FpOk X pins H' b)∧R J H'
def PI (X:Cx) (tg iter:Expr) (wi:TI):Prop :=
 ∀ (pins:List (Addr × Obj)) (s:Shared) (σ:St) (H:Hp) (R:It→Hp→Prop),Inv X pins σ H s→wi σ H R →
  wpAny (model X.prog X.w) X.A (eval iter X.env) (fun v s1=>wpAny (model X.prog X.w) X.A (pyIter v) (PIE X pins σ tg R) X.xe s1) X.xe s
theorem oB {M:Model}{A:Around}{E:Value→Shared→Prop}{s:Shared}{tg:Expr}{it:Addr}{u:Value}{o:Obj}{n:String}{vs:Array Value}{Q:Unit→Shared→Prop} (ho:s.heap.get? it=some o) (hc:o.cls = .type n) (hd:o.data = .fields vs)
    (hn:["enumerate", "zip", "dict_itemiterator", "dict_reverseitemiterator", "odict_iterator", "itertools.zip_longest", "itertools.pairwise"].contains n=false) (hQ:Q () s):wpAny M A (letOwnedTupleGo tg (.ref it) u) Q E s:=by
  unfold letOwnedTupleGo
  cases tg <;> first
    | exact wpAny_pure hQ
    | (cases u <;> first
        | exact wpAny_pure hQ
        | (refine wpAny_bind (wpAny_load ho ?_)
           rw [hc,hd]
           show wpAny M A (if (["enumerate", "zip", "dict_itemiterator", "dict_reverseitemiterator", "odict_iterator", "itertools.zip_longest", "itertools.pairwise"].contains n && vs[0]? == some (rawInt _))=true then _ else _) Q E s
           rw [if_neg (by intro h; rw [hn,Bool.false_and] at h; cases h)]
           exact wpAny_pure hQ))
def Itl (K:PySem.W.Frag) (a:Addr):It :=
 ⟨fun i H=>∃ xs x,SqL K H a xs∧xs[i]?=some x,fun i H x H'=>H'=H∧∀ xs,SqL K H a xs→xs[i]?=some x,fun i H=>∃ xs,SqL K H a xs∧xs.length≤i⟩
def Itt (K:PySem.W.Frag) (a:Addr):It :=
 ⟨fun i H=>∃ xs x,SqT K H a xs∧xs[i]?=some x,fun i H x H'=>H'=H∧∀ xs,SqT K H a xs→xs[i]?=some x,fun i H=>∃ xs,SqT K H a xs∧xs.length≤i⟩
def Itr (lo:Int) (n:Nat):It:=⟨fun i _=>i < n,fun i H x H'=>H'=H∧x = .int (lo+i),fun i _=>n≤i⟩
theorem wO {P:Program}{w:World}{K:PySem.W.Frag}{tg:Expr} (a it:Addr):Turn P w K tg (Itl K a) [it] it (fun i h=>h.IsListIter it a i) where
 mem:=by simp
 obj:=fun i h st b hb=>by
  have e:b=it:=by simpa using hb
  subst e
  obtain ⟨o,e,c,d⟩:=st
  exact ⟨o,e,fun v z=>by rw [d] at z; cases z⟩
 keep:=fun i h h' st k=>st.at fun o e=>k it (by simp) o e
 item:=by
  intro X hP hw hK hc i pins s σ H E I hf st hg
  subst hP hw hK
  obtain ⟨xs,x,hq,hx⟩:=hg
  obtain ⟨its,rv,p,hz⟩:=I.list hq
  obtain ⟨u,hu,ru⟩:=rv.get hx
  obtain ⟨f0,f1,f2,f3,f4,f5⟩:=hf it (by simp)
  refine wpAny_pyNext_list_item st p.isList (x:=u) (by simpa using hu) fun h' st' sb => ?_
  have I1:Inv X pins σ H { s with heap:=h' }:=I.turned (t':=s.toks) (fun b o hb e=>(sb.2 b hb).trans e) f0 f1 f3 f4 f5
  obtain ⟨o,e,c,d⟩:=id st'
  exact ⟨u,rfl,oB (s:={ s with heap:=h' }) e c d (by decide) ⟨x,H,I1,ru,⟨rfl,fun ys hy=>by rw [I.list_inj hy hq]; exact hx⟩,st',fun b hb=>(hf b hb).1⟩⟩
 done:=by
  intro X hP hw hK hc i pins s σ H E I hf st hg
  subst hP hw hK
  obtain ⟨xs,hq,hx⟩:=hg
  obtain ⟨its,rv,p,hz⟩:=I.list hq
  obtain ⟨f0,f1,f2,f3,f4,f5⟩:=hf it (by simp)
  have hl:=rv.length
  exact wpAny_pyNext_list_end (I.ok.hd hc) st p.isList (by simp; omega) fun h' eb=>⟨rfl,I.turned (t':=s.toks) (fun b o hb e=>eb b o hb e) f0 f1 f3 f4 f5⟩
 self:=fun _ _ _ _ _ st h=>wpAny_pyIter_listiter st h
theorem u3 {P:Program}{w:World}{K:PySem.W.Frag}{tg:Expr} (a it:Addr):Turn P w K tg (Itt K a) [it] it (fun i h=>h.IsTupleIter it a i) where
 mem:=by simp
 obj:=fun i h st b hb=>by
  have e:b=it:=by simpa using hb
  subst e
  obtain ⟨o,e,c,d⟩:=st
  exact ⟨o,e,fun v z=>by rw [d] at z; cases z⟩
 keep:=fun i h h' st k=>st.at fun o e=>k it (by simp) o e
 item:=by
  intro X hP hw hK hc i pins s σ H E I hf st hg
  subst hP hw hK
  obtain ⟨xs,x,hq,hx⟩:=hg
  obtain ⟨its,rv,p,hz⟩:=I.tuple hq
  obtain ⟨u,hu,ru⟩:=rv.get hx
  obtain ⟨f0,f1,f2,f3,f4,f5⟩:=hf it (by simp)
  refine wpAny_pyNext_tuple_item st (show s.heap.IsTuple a its.toArray from p) (x:=u) (by simpa using hu) fun h' st' sb => ?_
  have I1:Inv X pins σ H { s with heap:=h' }:=I.turned (t':=s.toks) (fun b o hb e=>(sb.2 b hb).trans e) f0 f1 f3 f4 f5
  obtain ⟨o,e,c,d⟩:=id st'
  exact ⟨u,rfl,oB (s:={ s with heap:=h' }) e c d (by decide) ⟨x,H,I1,ru,⟨rfl,fun ys hy=>by rw [I.tuple_inj hy hq]; exact hx⟩,st',fun b hb=>(hf b hb).1⟩⟩
 done:=by
  intro X hP hw hK hc i pins s σ H E I hf st hg
  subst hP hw hK
  obtain ⟨xs,hq,hx⟩:=hg
  obtain ⟨its,rv,p,hz⟩:=I.tuple hq
  obtain ⟨f0,f1,f2,f3,f4,f5⟩:=hf it (by simp)
  have hl:=rv.length
  exact wpAny_pyNext_tuple_end (I.ok.hd hc) st (show s.heap.IsTuple a its.toArray from p) (by simp; omega) fun h' eb=>⟨rfl,I.turned (t':=s.toks) (fun b o hb e=>eb b o hb e) f0 f1 f3 f4 f5⟩
 self:=fun _ _ _ _ _ st h=>wpAny_pyIter_tupleiter st h
theorem uT {P:Program}{w:World}{K:PySem.W.Frag}{tg:Expr} (it:Addr) (lo:Int) (n:Nat):Turn P w K tg (Itr lo n) [it] it (fun i h=>IsRangeIter h it (lo+(i:Nat) * 1) ((n:Int) - (i:Nat)) 1) where
 mem:=by simp
 obj:=fun i h st b hb=>by
  have e:b=it:=by simpa using hb
  subst e
  exact ⟨_,st,fun v z=>by
   have z':Data.fields _=Data.cell v:=z
   cases z'⟩
 keep:=fun i h h' st k=>k it (by simp) _ st
 item:=by
  intro X hP hw hK hc i pins s σ H E I hf st hg
  subst hP hw hK
  obtain ⟨f0,f1,f2,f3,f4,f5⟩:=hf it (by simp)
  have W:=Walks.range (prog:=X.prog) (w:=X.w) (I.ok.hd hc) it lo 1 n
  refine W.item i s _ _ hg st fun v h' tk hv st' kk => ?_
  obtain ⟨t,rfl⟩:=hv
  have I1:Inv X pins σ H { s with heap:=h',toks:=tk }:=I.turned (fun b o hb e=>kk b o (by simpa using hb) e) f0 f1 f3 f4 f5
  refine ⟨_,rfl,oB (s:={ s with heap:=h',toks:=tk }) (n := "range_iterator") st' rfl rfl (by decide) ⟨.int (lo+i),H,I1,⟨t,?_⟩,⟨rfl,rfl⟩,st',fun b hb=>(hf b hb).1⟩⟩
  rw [Int.mul_one]
 done:=by
  intro X hP hw hK hc i pins s σ H E I hf st hg
  subst hP hw hK
  obtain ⟨f0,f1,f2,f3,f4,f5⟩:=hf it (by simp)
  exact wpAny_pyNext_range_end (I.ok.hd hc) st (by have:n≤i:=hg; omega) fun h' eb=>⟨rfl,I.turned (t':=s.toks) (fun b o hb e=>eb b o hb e) f0 f1 f3 f4 f5⟩
 self:=fun _ _ _ _ _ st h=>wpAny_pyIter_rangeiter st h
end L2
namespace L2
open PySem PySem.Spec PyProof.Rows
section
variable {X:Cx}{tg:Expr}
theorem qU {pins:List (Addr × Obj)}{σ:St}{H:Hp}{s:Shared}{R:It→Hp→Prop}{E:Value→Shared→Prop}{lo hi:Int}{t u v:Tok}{tk:Nat} (I:Inv X pins σ H s) (h1 : -(2 ^ 62)≤lo) (h2:lo < 2 ^ 62) (h3 : -(2 ^ 62)≤hi) (h4:hi < 2 ^ 62)
  (q:R (Itr lo (hi - lo).toNat) H):wpAny (model X.prog X.w) X.A (pyIter (.ref s.heap.objs.size)) (PIE X pins σ tg R) E { s with heap:=s.heap.push { cls := .type "range", data := .fields #[.int lo t, .int hi u, .int 1 v] },toks:=tk }:=by
 refine wpAny_pyIter_range (IsRange.new ..) (small_one h1 h2 h3 h4) ?_
 have I1:Inv X pins σ H { s with heap:=s.heap.push { cls := .type "range", data := .fields #[.int lo t, .int hi u, .int 1 v] },toks:=tk }:=I.kept fun b o e=>Heap.get?_push_of_some _ e
 refine ⟨(s.heap.push { cls := .type "range", data := .fields #[.int lo t, .int hi u, .int 1 v] }).objs.size,[(s.heap.push { cls := .type "range", data := .fields #[.int lo t, .int hi u, .int 1 v] }).objs.size],_,_,H,rfl,
  I1.kept (t':=tk) fun b o e=>Heap.get?_push_of_some _ e,uT _ lo (hi - lo).toNat,?_,fun b hb => ?_,q⟩
 ·have e1:lo+((0:Nat):Int) * 1=lo:=by simp
  have e2:(((hi - lo).toNat:Nat):Int) - ((0:Nat):Int)=Builtin.Range.rangeSize lo hi 1:=by rw [rangeSize_one]; split <;> omega
  show IsRangeIter _ _ (lo+((0:Nat):Int) * 1) ((((hi - lo).toNat:Nat):Int) - ((0:Nat):Int)) 1
  rw [e1,e2]
  exact Heap.get?_push_size _ rfl
 ·have e:b=(s.heap.push { cls := .type "range", data := .fields #[.int lo t, .int hi u, .int 1 v] }).objs.size:=by simpa using hb
  subst e
  exact I1.fpOk (Nat.le_refl _) (I1.hok.fresh (Nat.le_refl _))
def aGT (ta:TA):TI:=fun σ H R=>ta σ H fun vs H1=>∃ j:Int,vs=[.int j] ∧ -(2 ^ 62)≤j∧j < 2 ^ 62∧R (Itr 0 j.toNat) H1
def aF4 (ta:TA):TI:=fun σ H R=>ta σ H fun vs H1=>∃ i j:Int,vs=[.int i, .int j]∧(-(2 ^ 62)≤i∧i < 2 ^ 62 ∧ -(2 ^ 62)≤j∧j < 2 ^ 62)∧R (Itr i (j - i).toNat) H1
theorem wE {a:Expr}{ta:TA}{p pos:Pos} (hg:Gl X "range") (hm:X.mg "range" = none) (ha:PA X [a] ta) (hs:starEach [a] X.env=[(false,eval a X.env)]:=by rfl):PI X tg (.Call (.Name "range" p) [a] [] pos) (aGT ta):=by
 intro pins s σ H R I h
 refine Call_ (j6 I hg hm boot_range (PyProof.Rows.callWith_type1 (thn (ha pos pins s σ H _ I h) fun us s1 ⟨vs,H1,I1,r1,q1⟩ => ?_) hs rfl))
 obtain ⟨j,e,q1,q2,q⟩:=q1
 subst e
 cases r1 with
 | cons r rr =>
  cases rr
  obtain ⟨t,rfl⟩:=r
  exact call_range_1 (qU I1 (by omega) (by omega) q1 q2 (by simpa using q))
theorem wI {a b:Expr}{ta:TA}{p pos:Pos} (hg:Gl X "range") (hm:X.mg "range" = none) (ha:PA X [a,b] ta) (hs:starEach [a,b] X.env=[(false,eval a X.env),(false,eval b X.env)]:=by rfl) (hs2:starEach [b] X.env=[(false,eval b X.env)]:=by rfl) :
  PI X tg (.Call (.Name "range" p) [a,b] [] pos) (aF4 ta):=by
 intro pins s σ H R I h
 refine Call_ (j6 I hg hm boot_range (PyProof.Rows.callWith_type1 (thn (ha pos pins s σ H _ I h) fun us s1 ⟨vs,H1,I1,r1,q1⟩ => ?_) (by rw [hs,hs2]) (by rw [hs2]; rfl)))
 obtain ⟨i,j,e,⟨q1,q2,q3,q4⟩,q⟩:=q1
 subst e
 cases r1 with
 | cons r rr =>
  cases rr with
  | cons r' rr =>
   cases rr
   obtain ⟨t,rfl⟩:=r
   obtain ⟨t',rfl⟩:=r'
   exact call_range_2 (qU I1 q1 q2 q3 q4 q)
def tFor (wi:TI) (g:TG) (tb:TS):TS:=fun D σ H=>wi σ H fun J H1=>∃ W:Nat→Nat→St→Hp→Prop,(∃ m,W 0 m σ H1)∧∀ i m σ H,W i m σ H →
 (J.stop i H∧D.nx σ H)∨(J.go i H∧∃ N:St→Hp→Prop,(∀ σ' H',N σ' H'→∃ m',m' < m∧W (i+1) m' σ' H')∧∀ x H',J.yld i H x H'→g x σ H' fun σ2 H2=>tb { D with nx:=N,ct:=N,bk:=D.nx } σ2 H2)
def lJ (fp:List Addr) (h:Heap):List (Addr × Obj):=fp.filterMap fun b=>(h.get? b).map fun o=>(b,o)
theorem gW {fp:List Addr}{h:Heap}{b:Addr}{o:Obj} (hb:b∈fp) (e:h.get? b=some o):(b,o)∈lJ fp h:=List.mem_filterMap.mpr ⟨b,hb,by rw [e]; rfl⟩
theorem vX {fp:List Addr}{h:Heap}{p:Addr × Obj} (hp:p∈lJ fp h):p.1∈fp∧h.get? p.1=some p.2:=by
 obtain ⟨b,hb,e⟩:=List.mem_filterMap.mp hp
 cases q:h.get? b with
 | none=>rw [q] at e; cases e
 | some o =>
  rw [q] at e
  have e':(b,o)=p:=Option.some.inj e
  subst e'
  exact ⟨hb,q⟩
theorem Inv.pinned {pins:List (Addr × Obj)}{σ:St}{H:Hp}{s:Shared}{fp:List Addr} (I:Inv X pins σ H s) (hf:∀ b∈fp,FpOk X pins H b) (ho:∀ b∈fp,∃ o,s.heap.get? b=some o∧∀ v,o.data ≠ .cell v):Inv X (pins++lJ fp s.heap) σ H s :=
 I.pins_of fun p hp=>(List.mem_append.mp hp).elim (fun z=>I.pin p (List.mem_append_right _ z)) fun z=>by
  obtain ⟨hb,e⟩:=vX z
  obtain ⟨f0,f1,f2,_⟩:=hf p.1 hb
  obtain ⟨o,e',d⟩:=ho p.1 hb
  rw [e] at e'; cases e'
  exact ⟨e,f0,f1,f2,d⟩
theorem Inv.unpinned {pins pl:List (Addr × Obj)}{σ:St}{H:Hp}{s:Shared} (I:Inv X (pins++pl) σ H s):Inv X pins σ H s:=I.pins_of fun p hp=>I.pin p (List.mem_append_right _ (List.mem_append_left _ hp))
theorem aFH {iter:Expr}{body:List Stmt}{wi:TI}{g:TG}{tb:TS}{pos:Pos} (hp:PassesOwn (model X.prog X.w) X.A X.env X.xe) (hc:X.calm=true) (hi:PI X tg iter wi) (hg:PG X tg g) (hb:PSs X body tb)
  (hs:∀ x,foldedSetIterable iter X.env x=pure x:=by intro _; rfl):PS X (.For tg iter body [] pos) (tFor wi g tb):=by
 intro pins s σ H D I h
 refine wpAny_For (thn (hi pins s σ H _ I h) fun v s1 h1=>thn h1 fun itv s2 h2 => ?_) hs
 obtain ⟨it,fp,tn,J,H2,e,I2,T,st2,f2,W,⟨m0,w0⟩,turn⟩:=h2
 subst e
 -- what stays true of the iterator's objects through the loop
 have stat:∀ {H':Hp},(∀ b∈fp,H' b=none)→∀ b∈fp,FpOk X pins H' b:=fun hn b hb=>⟨hn b hb,(f2 b hb).2⟩
 refine codeAny_forLoop_any (fun n s'=>∃ i σ' H',Inv X pins σ' H' s'∧tn i s'.heap∧(∀ b∈fp,H' b=none)∧W i n σ' H') ?_ m0 ⟨0,σ,H2,I2,st2,fun b hb=>(f2 b hb).1,w0⟩
 rintro n s3 ⟨i,σ3,H3,I3,st3,fr3,w3⟩
 rcases turn i n σ3 H3 w3 with ⟨stop,qn⟩ | ⟨go,N,hN,step⟩
 ·refine wpAny_passesOwn hp (thn (T.done X rfl rfl rfl hc i pins s3 σ3 H3 X.xe I3 (stat fr3) st3 stop) fun r s4 ⟨hr,I4⟩ => ?_)
  subst hr
  exact wpAny_execs_nil ⟨σ3,H3,I4,qn⟩
 ·refine wpAny_passesOwn hp (thn (T.item X rfl rfl rfl hc i pins s3 σ3 H3 X.xe I3 (stat fr3) st3 go) fun r s4 ⟨u,hr,h4⟩ => ?_)
  subst hr
  refine wpAny_passesOwn hp (thn h4 fun _ s5 ⟨x,H5,I5,r5,y5,st5,fr5⟩ => ?_)
  have I5':=I5.pinned (stat fr5) (T.obj _ _ st5)
  refine wpAny_passesOwn hp (thn (hg _ s5 σ3 H5 x u _ I5' r5 (step x H5 y5)) fun _ s6 ⟨σ6,H6,I6,q6⟩ => ?_)
  refine wpAny_passesOwn hp (thn (hb _ s6 σ6 H6 _ I6 q6) fun f s7 q7 => ?_)
  have again:∀ {σ7:St}{H7:Hp},Inv X (pins++lJ fp s5.heap) σ7 H7 s7→N σ7 H7→∃ m,m < n∧∃ i σ' H',Inv X pins σ' H' s7∧tn i s7.heap∧(∀ b∈fp,H' b=none)∧W i m σ' H':=fun {σ7 H7} I7 n7=>by
   obtain ⟨m',hm,w7⟩:=hN σ7 H7 n7
   refine ⟨m',hm,i+1,σ7,H7,I7.unpinned,T.keep _ _ _ st5 fun b hb o e=>(I7.pin (b,o) (List.mem_append_right _ (List.mem_append_right _ (gW hb e)))).1,fun b hb => ?_,w7⟩
   obtain ⟨o,e,d⟩:=T.obj _ _ st5 b hb
   exact (I7.pin (b,o) (List.mem_append_right _ (List.mem_append_right _ (gW hb e)))).2.1
  cases f with
  | next=>obtain ⟨σ7,H7,I7,n7⟩:=q7; exact again I7 n7
  | cont=>obtain ⟨σ7,H7,I7,n7⟩:=q7; exact again I7 n7
  | brk=>obtain ⟨σ7,H7,I7,q7⟩:=q7; exact ⟨σ7,H7,I7.unpinned,q7⟩
  | ret v=>obtain ⟨x7,σ7,H7,I7,r7,q7⟩:=q7; exact ⟨x7,σ7,H7,I7.unpinned,r7,q7⟩
end
end L2
namespace L2
open PySem PySem.Spec PyProof.Rows
abbrev R2:=V→V→Hp→VK→Prop
def OpR (X:Cx) (f:Value→Value→Sem Value) (r:R2):Prop :=
 ∀ (pins:List (Addr × Obj)) (s:Shared) (σ:St) (H:Hp) (x y:V) (v u:Value) (Q:VK),Inv X pins σ H s→RelV x v→RelV y u→r x y H Q →
  wpAny (model X.prog X.w) X.A (f v u) (EP X pins σ Q) X.xe s
def UnR (X:Cx) (f:Value→Sem Value) (r:V→Hp→VK→Prop):Prop :=
 ∀ (pins:List (Addr × Obj)) (s:Shared) (σ:St) (H:Hp) (x:V) (v:Value) (Q:VK),Inv X pins σ H s→RelV x v→r x H Q →
  wpAny (model X.prog X.w) X.A (f v) (EP X pins σ Q) X.xe s
def dH (X:Cx) (f:Value) (r:List V→Hp→VK→Prop):Prop :=
 ∀ (pins:List (Addr × Obj)) (s:Shared) (σ:St) (H:Hp) (xs:List V) (us:List Value) (Q:VK),Inv X pins σ H s→Vals xs us→r xs H Q →
  wpAny (model X.prog X.w) X.A (call f us) (EP X pins σ Q) X.xe s
def TruR (X:Cx) (r:V→Hp→(Bool→Hp→Prop)→Prop):Prop :=
 ∀ (pins:List (Addr × Obj)) (s:Shared) (σ:St) (H:Hp) (x:V) (v:Value) (Q:Bool→Hp→Prop),Inv X pins σ H s→RelV x v→r x H Q →
  wpAny (model X.prog X.w) X.A (truthy v) (TP X pins σ Q) X.xe s
def tOp (r:R2) (ta tb:TE):TE:=fun σ H Q=>ta σ H fun x H1=>tb σ H1 fun y H2=>r x y H2 Q
def tUn (r:V→Hp→VK→Prop) (ta:TE):TE:=fun σ H Q=>ta σ H fun x H1=>r x H1 Q
def rI (C:Int→Int→Prop) (g:Int→Int→V):R2:=fun x y H Q=>∃ i j,x = .int i∧y = .int j∧C i j∧Q (g i j) H
def rI0 (g:Int→Int→V):R2:=fun x y H Q=>∃ i j,x = .int i∧y = .int j∧Q (g i j) H
def rU (g:Int→V):V→Hp→VK→Prop:=fun x H Q=>∃ i,x = .int i∧Q (g i) H
section
variable {X:Cx}{a b c:Expr}{ta tb tc:TE}{pos:Pos}
theorem binT (ha:PE X a ta) (hb:PE X b tb) {pins:List (Addr × Obj)}{s:Shared}{σ:St}{H:Hp}{R:V→V→Hp→Prop} (I:Inv X pins σ H s)
  (h:ta σ H fun x H1=>tb σ H1 fun y H2=>R x y H2) {Q:Value→Shared→Prop}{f:Value→Value→Sem Value}
  (hf:∀ v u s2 x y H2,Inv X pins σ H2 s2→RelV x v→RelV y u→R x y H2→wpAny (model X.prog X.w) X.A (f v u) Q X.xe s2) :
  wpAny (model X.prog X.w) X.A (eval a X.env) (fun v s₁=>wpAny (model X.prog X.w) X.A (eval b X.env) (fun u s₂=>wpAny (model X.prog X.w) X.A (f v u) Q X.xe s₂) X.xe s₁) X.xe s:=by
 refine thn (ha pins s σ H _ I h) fun v s1 ⟨x,H1,I1,r1,q1⟩ => ?_
 refine thn (hb pins s1 σ H1 _ I1 q1) fun u s2 ⟨y,H2,I2,r2,q2⟩ => ?_
 exact hf v u s2 x y H2 I2 r1 r2 q2
theorem aGJ {op:Operator}{r:R2} (ho:OpR X (binaryOp op) r) (ha:PE X a ta) (hb:PE X b tb):PE X (.BinOp a op b pos) (tOp r ta tb):=by
 intro pins s σ H Q I h
 exact wpAny_BinOp (binT ha hb I h fun v u s2 x y H2 I2 rx ry q=>ho pins s2 σ H2 x y v u Q I2 rx ry q)
theorem aF1 {op:UnaryOp}{r:V→Hp→VK→Prop} (ho:UnR X (unaryOp op) r) (ha:PE X a ta):PE X (.UnaryOp op a pos) (tUn r ta):=by
 intro pins s σ H Q I h
 exact UnaryOp_ (thn (ha pins s σ H _ I h) fun v s1 ⟨x,H1,I1,r1,q1⟩=>ho pins s1 σ H1 x v Q I1 r1 q1)
theorem opI {f:Value→Value→Sem Value}{C:Int→Int→Prop}{g:Int→Int→Int}
  (rule:∀ (i j:Int) (t u:Tok) (s:Shared) (Q:Value→Shared→Prop) (E:Value→Shared→Prop),C i j→Q (.int (g i j) s.toks) { s with toks:=s.toks+1 }→wpAny (model X.prog X.w) X.A (f (.int i t) (.int j u)) Q E s) :
  OpR X f (rI C fun i j => .int (g i j)):=by
 intro pins s σ H x y v u Q I rx ry h
 obtain ⟨i,j,rfl,rfl,hc,q⟩:=h
 obtain ⟨t,rfl⟩:=rx
 obtain ⟨t',rfl⟩:=ry
 exact rule i j t t' s _ _ hc ⟨.int (g i j),H,I.tok _,⟨_,rfl⟩,q⟩
theorem opI0 {f:Value→Value→Sem Value}{g:Int→Int→Int}
  (rule:∀ (i j:Int) (t u:Tok) (s:Shared) (Q:Value→Shared→Prop) (E:Value→Shared→Prop),Q (.int (g i j) s.toks) { s with toks:=s.toks+1 }→wpAny (model X.prog X.w) X.A (f (.int i t) (.int j u)) Q E s) :
  OpR X f (rI0 fun i j => .int (g i j)):=by
 intro pins s σ H x y v u Q I rx ry h
 obtain ⟨i,j,rfl,rfl,q⟩:=h
 obtain ⟨t,rfl⟩:=rx
 obtain ⟨t',rfl⟩:=ry
 exact rule i j t t' s _ _ ⟨.int (g i j),H,I.tok _,⟨_,rfl⟩,q⟩
theorem opB0 {f:Value→Value→Sem Value}{g:Int→Int→Bool}
  (rule:∀ (i j:Int) (t u:Tok) (s:Shared) (Q:Value→Shared→Prop) (E:Value→Shared→Prop),Q (.bool (g i j)) s→wpAny (model X.prog X.w) X.A (f (.int i t) (.int j u)) Q E s) :
  OpR X f (rI0 fun i j => .bl (g i j)):=by
 intro pins s σ H x y v u Q I rx ry h
 obtain ⟨i,j,rfl,rfl,q⟩:=h
 obtain ⟨t,rfl⟩:=rx
 obtain ⟨t',rfl⟩:=ry
 exact rule i j t t' s _ _ ⟨.bl (g i j),H,I,rfl,q⟩
def CDiv (i j:Int):Prop:=0 < j∧j < 1073741824
def CPow (i j:Int):Prop:=0≤j∧j≤1000000∧i.natAbs < 2 ^ 64
def CMul (i j:Int):Prop:=(-(2 ^ 64) < i∧i < 2 ^ 64)∨(-(2 ^ 64) < j∧j < 2 ^ 64)
theorem CMul.ok {i j:Int} (h:CMul i j):IntMulOk i j:=by
 rcases h with ⟨h1,h2⟩ | ⟨h1,h2⟩
 ·exact .of_left (intBits_le_64 h1 h2)
 ·exact .of_right (intBits_le_64 h1 h2)
theorem bQ:OpR X (binaryOp .Add) (rI0 fun i j => .int (i+j)):=opI0 fun _ _ _ _ _ _ _ q=>add_int q
theorem bK:OpR X (binaryOp .Sub) (rI0 fun i j => .int (i - j)):=opI0 fun _ _ _ _ _ _ _ q=>sub_int q
theorem bM:OpR X (binaryOp .Mult) (rI CMul fun i j => .int (i * j)):=opI fun _ _ _ _ _ _ _ hc q=>mul_int q hc.ok
theorem jT:OpR X (binaryOp .FloorDiv) (rI CDiv fun i j => .int (i / j)):=opI fun i j _ _ _ _ _ hc q=>by
 have h1:(0:Int) < j:=hc.1
 have h2:j < 1073741824:=hc.2
 exact floordiv_int (by omega) (by rw [Int.fdiv_eq_ediv_of_nonneg i (by omega)]; exact q) (.inl (PyProof.noPylong_small (by omega)))
theorem gN:OpR X (binaryOp .Mod) (rI (fun _ j=>0 < j) fun i j => .int (i % j)):=opI fun i j _ _ _ _ _ hc q=>by
 have h1:(0:Int) < j:=hc
 exact mod_int' (by omega) (by rw [Int.fmod_eq_emod_of_nonneg i (by omega)]; exact q)
theorem tK:OpR X (binaryOp .Mod) (rI (fun _ j=>j≠0) fun i j => .int (i.fmod j)):=opI fun _ _ _ _ _ _ _ hc q=>mod_int' hc q
theorem gI:OpR X (binaryOp .Pow) (rI CPow fun i j => .int (i ^ j.toNat)):=opI fun _ _ _ _ _ _ _ hc q=>pow_int_small hc.1 hc.2.1 hc.2.2 q
theorem unI {f:Value→Sem Value}{g:Int→Int}
  (rule:∀ (i:Int) (t:Tok) (s:Shared) (Q:Value→Shared→Prop) (E:Value→Shared→Prop),Q (.int (g i) s.toks) { s with toks:=s.toks+1 }→wpAny (model X.prog X.w) X.A (f (.int i t)) Q E s) :
  UnR X f (rU fun i => .int (g i)):=by
 intro pins s σ H x v Q I rx h
 obtain ⟨i,rfl,q⟩:=h
 obtain ⟨t,rfl⟩:=rx
 exact rule i t s _ _ ⟨.int (g i),H,I.tok _,⟨_,rfl⟩,q⟩
theorem fT:UnR X (unaryOp .USub) (rU fun i => .int (-i)):=unI fun _ _ _ _ _ q=>neg_int q
end
def scal:V→V→Bool
 | .non, .non=>true | .non, .int _=>true | .int _, .non=>true | .non, .bl _=>true | .bl _, .non=>true | .non, .str _=>true | .str _, .non=>true
 | .int _, .int _=>true | .bl _, .bl _=>true | .str _, .str _=>true | .byt _, .byt _=>true
 | .int _, .str _=>true | .str _, .int _=>true | .bl _, .str _=>true | .str _, .bl _=>true
 | _,_=>false
def rEq:R2:=fun x y H Q=>scal x y=true∧Q (.bl (decide (x=y))) H
def rNe:R2:=fun x y H Q=>scal x y=true∧Q (.bl (!decide (x=y))) H
theorem uD {i j:Int}:decide (V.int i=V.int j)=(i == j):=by
 rw [Bool.eq_iff_iff]
 simp
theorem yX {i j:Bool}:decide (V.bl i=V.bl j)=(i == j):=by
 rw [Bool.eq_iff_iff]
 simp
theorem uB {i j:Str}:decide (V.str i=V.str j)=(i == j):=by
 rw [Bool.eq_iff_iff]
 simp
theorem uJ {i j:Array UInt8}:decide (V.byt i=V.byt j)=(i.toList == j.toList):=by
 rw [Bool.eq_iff_iff]
 cases i
 cases j
 simp
section
variable {X:Cx}{a b c:Expr}{ta tb tc:TE}{pos:Pos}
theorem a9 {pins:List (Addr × Obj)}{σ:St}{H:Hp}{s:Shared}{Q:VK}{k k':Bool} (I:Inv X pins σ H s) (q:Q (.bl k) H) (e:k=k'):EP X pins σ Q (.bool k') s:=by
 subst e
 exact ⟨.bl k,H,I,rfl,q⟩
theorem f9:OpR X (compareOp .Eq) rEq:=by
 intro pins s σ H x y v u Q I rx ry h
 obtain ⟨hs,q⟩:=h
 cases x with
 | non =>
  cases rx
  cases y with
  | non=>cases ry; exact PySem.EqNone.eq_none_none (a9 I q (by simp))
  | bl j=>cases ry; exact PySem.EqNone.eq_none_bool (a9 I q (by simp))
  | int j=>obtain ⟨t',rfl⟩:=ry; exact PySem.EqNone.eq_none_int (a9 I q (by simp))
  | str j=>obtain ⟨t',rfl⟩:=ry; exact PySem.EqNone.eq_none_str (a9 I q (by simp))
  | _=>exact absurd (show false=true from hs) Bool.false_ne_true
 | bl i =>
  cases rx
  cases y with
  | non=>cases ry; exact PySem.EqNone.eq_bool_none (a9 I q (by simp))
  | bl j=>cases ry; exact eq_bool (a9 I q yX)
  | str j=>obtain ⟨t',rfl⟩:=ry; exact PySem.EqMixed.eq_bool_str (a9 I q (by simp))
  | _=>exact absurd (show false=true from hs) Bool.false_ne_true
 | int i =>
  obtain ⟨t,rfl⟩:=rx
  cases y with
  | non=>cases ry; exact PySem.EqNone.eq_int_none (a9 I q (by simp))
  | int j=>obtain ⟨t',rfl⟩:=ry; exact eq_int (a9 I q uD)
  | str j=>obtain ⟨t',rfl⟩:=ry; exact PySem.EqMixed.eq_int_str (a9 I q (by simp))
  | _=>exact absurd (show false=true from hs) Bool.false_ne_true
 | str i =>
  obtain ⟨t,rfl⟩:=rx
  cases y with
  | non=>cases ry; exact PySem.EqNone.eq_str_none (a9 I q (by simp))
  | bl j=>cases ry; exact PySem.EqMixed.eq_str_bool (a9 I q (by simp))
  | int j=>obtain ⟨t',rfl⟩:=ry; exact PySem.EqMixed.eq_str_int (a9 I q (by simp))
  | str j=>obtain ⟨t',rfl⟩:=ry; exact eq_str (a9 I q uB)
  | _=>exact absurd (show false=true from hs) Bool.false_ne_true
 | byt i =>
  obtain ⟨t,rfl⟩:=rx
  cases y with
  | byt j=>obtain ⟨t',rfl⟩:=ry; exact PySem.W.eq_bytes (a9 I q uJ)
  | _=>exact absurd (show false=true from hs) Bool.false_ne_true
 | _=>cases y <;> exact absurd (show false=true from hs) Bool.false_ne_true
theorem mX:OpR X (compareOp .NotEq) rNe:=by
 intro pins s σ H x y v u Q I rx ry h
 obtain ⟨hs,q⟩:=h
 cases x with
 | non =>
  cases rx
  cases y with
  | non=>cases ry; exact PySem.EqNone.ne_none_none (a9 I q (by simp))
  | bl j=>cases ry; exact PySem.EqNone.ne_none_bool (a9 I q (by simp))
  | int j=>obtain ⟨t',rfl⟩:=ry; exact PySem.EqNone.ne_none_int (a9 I q (by simp))
  | str j=>obtain ⟨t',rfl⟩:=ry; exact PySem.EqNone.ne_none_str (a9 I q (by simp))
  | _=>exact absurd (show false=true from hs) Bool.false_ne_true
 | bl i =>
  cases rx
  cases y with
  | non=>cases ry; exact PySem.EqNone.ne_bool_none (a9 I q (by simp))
  | bl j=>cases ry; exact ne_bool (a9 I q (congrArg not yX))
  | str j=>obtain ⟨t',rfl⟩:=ry; exact PySem.EqMixed.ne_bool_str (a9 I q (by simp))
  | _=>exact absurd (show false=true from hs) Bool.false_ne_true
 | int i =>
  obtain ⟨t,rfl⟩:=rx
  cases y with
  | non=>cases ry; exact PySem.EqNone.ne_int_none (a9 I q (by simp))
  | int j=>obtain ⟨t',rfl⟩:=ry; exact ne_int (a9 I q (congrArg not uD))
  | str j=>obtain ⟨t',rfl⟩:=ry; exact PySem.EqMixed.ne_int_str (a9 I q (by simp))
  | _=>exact absurd (show false=true from hs) Bool.false_ne_true
 | str i =>
  obtain ⟨t,rfl⟩:=rx
  cases y with
  | non=>cases ry; exact PySem.EqNone.ne_str_none (a9 I q (by simp))
  | bl j=>cases ry; exact PySem.EqMixed.ne_str_bool (a9 I q (by simp))
  | int j=>obtain ⟨t',rfl⟩:=ry; exact PySem.EqMixed.ne_str_int (a9 I q (by simp))
  | str j=>obtain ⟨t',rfl⟩:=ry; exact ne_str (a9 I q (congrArg not uB))
  | _=>exact absurd (show false=true from hs) Bool.false_ne_true
 | byt i =>
  obtain ⟨t,rfl⟩:=rx
  cases y with
  | byt j=>obtain ⟨t',rfl⟩:=ry; exact PySem.W.ne_bytes (a9 I q (congrArg not uJ))
  | _=>exact absurd (show false=true from hs) Bool.false_ne_true
 | _=>cases y <;> exact absurd (show false=true from hs) Bool.false_ne_true
theorem kF:OpR X (compareOp .Lt) (rI0 fun i j => .bl (decide (i < j))):=opB0 fun _ _ _ _ _ _ _ q=>lt_int q
theorem aA9:OpR X (compareOp .LtE) (rI0 fun i j => .bl (decide (i≤j))):=opB0 fun _ _ _ _ _ _ _ q=>le_int q
theorem oP:OpR X (compareOp .Gt) (rI0 fun i j => .bl (decide (j < i))):=opB0 fun _ _ _ _ _ _ _ q=>gt_int q
theorem vM:OpR X (compareOp .GtE) (rI0 fun i j => .bl (decide (j≤i))):=opB0 fun _ _ _ _ _ _ _ q=>ge_int q
theorem wX:OpR X (compareOp .In) (fun x y H Q=>∃ i j,x = .str i∧y = .str j∧Q (.bl (!(Builtin.Str.occurrences j i 0 j.length 1).isEmpty)) H):=by
 intro pins s σ H x y v u Q I rx ry h
 obtain ⟨i,j,rfl,rfl,q⟩:=h
 obtain ⟨t,rfl⟩:=rx
 obtain ⟨t',rfl⟩:=ry
 exact in_str (a9 I q rfl)
theorem nomark (b:Expr) {op:CmpOp} (h:op ≠ .In:=by decide) (h2:op ≠ .NotIn:=by decide):behindInMarks op b=false:=by
 have e1:(op == CmpOp.In)=false:=by cases op <;> first | rfl | exact absurd rfl h
 have e2:(op == CmpOp.NotIn)=false:=by cases op <;> first | rfl | exact absurd rfl h2
 cases b <;> simp [behindInMarks,e1,e2]
theorem aCQ {op:CmpOp}{r:R2} (ho:OpR X (compareOp op) r) (ha:PE X a ta) (hb:PE X b tb) (hm:behindInMarks op b=false):PE X (.Compare a [op] [b] pos) (tOp r ta tb):=by
 intro pins s σ H Q I h
 exact wpAny_Compare1 (binT ha hb I h fun v u s2 x y H2 I2 rx ry q=>ho pins s2 σ H2 x y v u Q I2 rx ry q) hm
def aF6 (t:TE):TT:=fun σ H Q=>t σ H fun x H'=>∃ k,x = .bl k∧Q k H'
theorem aDB {op:CmpOp}{r:R2} (ho:OpR X (compareOp op) r) (ha:PE X a ta) (hb:PE X b tb) (hm:behindInMarks op b=false):PT X (.Compare a [op] [b] pos) (aF6 (tOp r ta tb)):=by
 intro pins s σ H Q I h
 refine wpAny_isTrue_Compare1 (thn (ha pins s σ H _ I h) fun v s1 ⟨x,H1,I1,r1,q1⟩=>thn (hb pins s1 σ H1 _ I1 q1) fun u s2 ⟨y,H2,I2,r2,q2⟩ =>
  thn (ho pins s2 σ H2 x y v u _ I2 r1 r2 q2) fun c s3 ⟨z,H3,I3,r3,k,e,q3⟩ => ?_) hm
 subst e
 cases r3
 exact wpAny_truthy_bool ⟨H3,I3,q3⟩
def aEI (r r':R2) (ta tb tc:TE):TE:=fun σ H Q=>ta σ H fun x H1=>tb σ H1 fun y H2=>r x y H2 fun z H3=>∃ k,z = .bl k ∧
 (if k=true then tc σ H3 fun w' H4=>r' y w' H4 Q else Q (.bl false) H3)
theorem zG {op op':CmpOp}{r r':R2} (ho:OpR X (compareOp op) r) (ho':OpR X (compareOp op') r') (ha:PE X a ta) (hb:PE X b tb) (hc:PE X c tc)
  (hm:lastMarks [op,op'] [b,c]=false:=by with_unfolding_all rfl):PE X (.Compare a [op,op'] [b,c] pos) (aEI r r' ta tb tc):=by
 intro pins s σ H Q I h
 refine Compare_chain (thn (ha pins s σ H _ I h) fun v s1 ⟨x,H1,I1,r1,q1⟩=>chain_link (thn (hb pins s1 σ H1 _ I1 q1) fun u s2 ⟨y,H2,I2,r2,q2⟩ =>
  thn (ho pins s2 σ H2 x y v u _ I2 r1 r2 q2) fun d s3 ⟨z,H3,I3,r3,k,e,q3⟩ => ?_)) hm
 subst e
 cases r3
 refine wpAny_truthy_bool ?_
 cases k with
 | false=>exact ite_ff ⟨.bl false,H3,I3,rfl,q3⟩
 | true=>exact ite_tt (chain_last (thn (hc pins s3 σ H3 _ I3 q3) fun w' s4 ⟨z',H4,I4,r4,q4⟩=>ho' pins s4 σ H4 y z' u w' Q I4 r2 r4 q4))
def TruV (K:PySem.W.Frag) (x:V) (H:Hp) (k:Bool):Prop :=
 match x with
 | .non=>k=false
 | .bl b=>k=b
 | .int i=>k=(i != 0)
 | .str y=>y.length≤sizeLine∧k=((y.length:Int) != 0)
 | .byt y=>y.size≤sizeLine∧k=((y.size:Int) != 0)
 | .ref p=>(∃ xs,SqL K H p xs∧k = !xs.isEmpty)∨(∃ xs,SqT K H p xs∧k = !xs.isEmpty)∨∃ kvs,H p=some (.dK kvs)∧k = !kvs.isEmpty
 | _=>False
theorem vP {κ:Type}{kvs:List (κ × V)}{vs:List (κ × Value)} (r:KV kvs vs):(!vs.isEmpty) = !kvs.isEmpty:=by
 cases r <;> rfl
theorem n4 {xs:List V}{its:List Value} (r:Vals xs its):(!its.toArray.isEmpty) = !xs.isEmpty:=by
 cases r <;> simp
theorem line63:(sizeLine:Nat) < 2 ^ 63:=by rw [sizeLine_eq]; decide
theorem aD1:TruR X (fun x H Q=>∃ k,TruV X.K x H k∧Q k H):=by
 intro pins s σ H x v Q I rx h
 obtain ⟨k,e,q⟩:=h
 have hl:=line63
 have hs:sizeLine=16777216:=sizeLine_eq
 cases x with
 | non =>
  cases rx
  have e':k=false:=e
  subst e'
  exact truthy_none ⟨H,I,q⟩
 | bl b =>
  cases rx
  have e':k=b:=e
  subst e'
  exact wpAny_truthy_bool ⟨H,I,q⟩
 | int i =>
  obtain ⟨t,rfl⟩:=rx
  have e':k=(i != 0):=e
  subst e'
  exact PySem.P.truthy_int ⟨H,I,q⟩
 | str y =>
  obtain ⟨t,rfl⟩:=rx
  obtain ⟨hy,e'⟩:y.length≤sizeLine∧k=((y.length:Int) != 0):=e
  subst e'
  exact PySem.P.truthy_str (by omega) ⟨H,I.tok _,q⟩
 | byt y =>
  obtain ⟨t,rfl⟩:=rx
  obtain ⟨hy,e'⟩:y.size≤sizeLine∧k=((y.size:Int) != 0):=e
  subst e'
  exact PySem.W.truthy_bytes (by omega) ⟨H,I.tok _,q⟩
 | ref p =>
  cases rx
  have e':(∃ xs,SqL X.K H p xs∧k = !xs.isEmpty)∨(∃ xs,SqT X.K H p xs∧k = !xs.isEmpty)∨∃ kvs,H p=some (.dK kvs)∧k = !kvs.isEmpty:=e
  rcases e' with ⟨xs,hx,e'⟩ | ⟨xs,hx,e'⟩ | ⟨kvs,hx,e'⟩
  ·subst e'
   obtain ⟨its,r,pl,hz⟩:=I.list hx
   have hlen:=r.length
   exact wpAny_truthy_list pl.isList (by simp only [List.size_toArray]; omega) ⟨H,I.tok _,by rw [n4 r]; exact q⟩
  ·subst e'
   obtain ⟨its,r,pl,hz⟩:=I.tuple hx
   have hlen:=r.length
   exact truthy_tuple pl (by simp only [List.size_toArray]; omega) ⟨H,I.tok _,by rw [n4 r]; exact q⟩
  ·subst e'
   obtain ⟨hz,hS,vs,r,m⟩:kvs.length≤sizeLine∧(p == sysModules)=false∧∃ vs,KV kvs vs∧s.heap.DictOf (o0 X.prog X.w) p vs:=I.hok p _ hx
   have hlen:kvs.length=vs.length:=Paired.length r
   exact wpAny_truthy_dict hS m (by omega) ⟨H,I.tok _,by rw [vP r]; exact q⟩
 | _=>exact (show False from e).elim
theorem aAT (ha:PE X a ta) (he:∀ whole,isTrue a X.env whole=(do let v ← whole; standAt a.pos; holding [v] (truthy v))) :
  PT X a (fun σ H Q=>ta σ H fun x H'=>∃ k,TruV X.K x H' k∧Q k H'):=by
 intro pins s σ H Q I h
 exact isTrue_plain (thn (ha pins s σ H _ I h) fun v s1 ⟨x,H1,I1,r1,q1⟩=>aD1 pins s1 σ H1 x v Q I1 r1 q1) (he _)
theorem oK:OpR X (binaryOp .Add) (fun x y H Q=>∃ i j,x = .str i∧y = .str j∧i.length+j.length≤sizeLine∧Q (.str (i++j)) H):=by
 intro pins s σ H x y v u Q I rx ry h
 obtain ⟨i,j,rfl,rfl,hz,q⟩:=h
 obtain ⟨t,rfl⟩:=rx
 obtain ⟨t',rfl⟩:=ry
 exact add_str (fun t' tk=>⟨.str (i++j),H,I.tok _,⟨_,rfl⟩,q⟩) hz
theorem vals1 {x:V}{us:List Value} (r:Vals [x] us):∃ u,us=[u]∧RelV x u:=by
 cases r with
 | cons r1 r2=>cases r2; exact ⟨_,rfl,r1⟩
theorem vals2 {x y:V}{us:List Value} (r:Vals [x,y] us):∃ u w',us=[u,w']∧RelV x u∧RelV y w':=by
 cases r with
 | cons r1 r2 =>
  cases r2 with
  | cons r3 r4=>cases r4; exact ⟨_,_,rfl,r1,r3⟩
theorem iZ:dH X (.builtin "abs") (fun xs H Q=>∃ i,xs=[.int i]∧Q (.int (if i < 0 then -i else i)) H):=by
 intro pins s σ H xs us Q I r h
 obtain ⟨i,rfl,q⟩:=h
 obtain ⟨u,rfl,t,rfl⟩:=vals1 r
 exact call_abs_int fun u tk=>⟨.int (if i < 0 then -i else i),H,I.tok _,⟨_,rfl⟩,q⟩
theorem gJ (hc:X.calm=true):dH X (.builtin "max") (fun xs H Q=>∃ i j,xs=[.int i, .int j]∧Q (.int (if j > i then j else i)) H):=by
 intro pins s σ H xs us Q I r h
 obtain ⟨i,j,rfl,q⟩:=h
 obtain ⟨u,w',rfl,⟨t,rfl⟩,⟨t',rfl⟩⟩:=vals2 r
 refine max_two_ints (I.ok.hd hc) fun h' tk k=>⟨_,H,I.kept k,?_,q⟩
 by_cases hj:j > i
 ·rw [if_pos hj,if_pos hj]; exact ⟨_,rfl⟩
 ·rw [if_neg hj,if_neg hj]; exact ⟨_,rfl⟩
theorem yK (hc:X.calm=true):dH X (.builtin "min") (fun xs H Q=>∃ i j,xs=[.int i, .int j]∧Q (.int (if j < i then j else i)) H):=by
 intro pins s σ H xs us Q I r h
 obtain ⟨i,j,rfl,q⟩:=h
 obtain ⟨u,w',rfl,⟨t,rfl⟩,⟨t',rfl⟩⟩:=vals2 r
 refine min_two_ints (I.ok.hd hc) fun h' tk k=>⟨_,H,I.kept k,?_,q⟩
 by_cases hj:j < i
 ·rw [if_pos hj,if_pos hj]; exact ⟨_,rfl⟩
 ·rw [if_neg hj,if_neg hj]; exact ⟨_,rfl⟩
def LenV (K:PySem.W.Frag) (x:V) (H:Hp) (n:Nat):Prop :=
 match x with
 | .str y=>y.length≤sizeLine∧n=y.length
 | .byt y=>y.size≤sizeLine∧n=y.size
 | .ref p=>(∃ xs,SqL K H p xs∧n=xs.length)∨∃ xs,SqT K H p xs∧n=xs.length
 | _=>False
theorem aV:dH X (.builtin "len") (fun xs H Q=>∃ x n,xs=[x]∧LenV X.K x H n∧Q (.int n) H):=by
 intro pins s σ H xs us Q I r h
 obtain ⟨x,n,rfl,e,q⟩:=h
 obtain ⟨u,rfl,rx⟩:=vals1 r
 have hl:=line63
 have hs:sizeLine=16777216:=sizeLine_eq
 cases x with
 | str y =>
  obtain ⟨t,rfl⟩:=rx
  obtain ⟨hy,e'⟩:y.length≤sizeLine∧n=y.length:=e
  subst e'
  exact len_str (by omega) ⟨.int _,H,I.tok _,⟨_,rfl⟩,q⟩
 | byt y =>
  obtain ⟨t,rfl⟩:=rx
  obtain ⟨hy,e'⟩:y.size≤sizeLine∧n=y.size:=e
  subst e'
  exact PySem.W.len_bytes (by omega) ⟨.int _,H,I.tok _,⟨_,rfl⟩,q⟩
 | ref p =>
  cases rx
  have e':(∃ xs,SqL X.K H p xs∧n=xs.length)∨∃ xs,SqT X.K H p xs∧n=xs.length:=e
  rcases e' with ⟨xs,hx,e'⟩ | ⟨xs,hx,e'⟩
  ·subst e'
   obtain ⟨its,r',pl,hz⟩:=I.list hx
   have hlen:=r'.length
   exact Calls.call_len_list pl.isList (by simp only [List.size_toArray]; omega) ⟨.int xs.length,H,I.tok _,⟨_,by simp only [List.size_toArray]; rw [hlen]⟩,q⟩
  ·subst e'
   obtain ⟨its,r',pl,hz⟩:=I.tuple hx
   have hlen:=r'.length
   exact len_tuple pl (by simp only [List.size_toArray]; omega) ⟨.int xs.length,H,I.tok _,⟨_,by simp only [List.size_toArray]; rw [hlen]⟩,q⟩
 | _=>exact (show False from e).elim
end
end L2
namespace L2
open PySem PySem.Spec PyProof.Rows
structure ObjM (h:Heap) (x dx C:Addr) (mA:Str→Option Value):Prop where
 obj:h.get? x=some (PySem.W.instObj C dx)
 ns:h.Ns1 dx mA
 ne:dx≠x
section
variable {prog:Program}{w:World}{A:Around}{E:Value→Shared→Prop}{s:Shared}{K:PySem.W.Frag}{x dx C f:Addr}{mA:Str→Option Value}{name:Str}{v:Value}
end
section
variable {P:Program}{w:World}{H H':Hp}{h h':Heap}{a C dx:Addr}{fs fs':List (Str × V)}
end
structure Cls (K:PySem.W.Frag) (C:Addr):Prop where
 pg:PySem.W.plainGet K C Str.empty=true
 hd:PySem.W.hasDictIn K C=true
 po:PySem.W.plainOver K C=true
 sa:PySem.W.findIn K (.ref C) "__setattr__" = some (some (.builtin "object.__setattr__"))
structure Con (K:PySem.W.Frag) (C:Addr) (f:Str) (v:V) (u:Value):Prop where
 at_:PySem.W.findIn K (.ref C) f=some (some u)
 rel:RelV v u
 get:PySem.W.specialIn K u "__get__" = some none
 cp:PySem.W.copiedNames.contains f=false
structure Meth (K:PySem.W.Frag) (C:Addr) (m:Str) (f:Addr):Prop where
 at_:PySem.W.findIn K (.ref C) m=some (some (.ref f))
 fn:PySem.W.isFn K (.ref f)=true
 kp:PySem.W.keepIn K (.ref f)=true
section
variable {X:Cx}{pins:List (Addr × Obj)}{σ:St}{H:Hp}{s:Shared}{a C dx:Addr}{fs:List (Str × V)}{f:Str}{v:V}{A:Around}{E:Value→Shared→Prop}
end
section
variable {X:Cx}{o e value:Expr}{f:Str}{pos pos' tpos:Pos}{ta tv:TE}
end
section
variable {X:Cx}{pins:List (Addr × Obj)}{σ:St}{H:Hp}{s:Shared}{A:Around}{E:Value→Shared→Prop}{Q:Value→Shared→Prop}{c:Value}{b:Bool}
inductive TyOf (K:PySem.W.Frag) (H:Hp):V→Value→Prop where
 | non:TyOf K H .non (.type "NoneType")
 | bl (x:Bool):TyOf K H (.bl x) (.type "bool")
 | int (i:Int):TyOf K H (.int i) (.type "int")
 | str (x:Str):TyOf K H (.str x) (.type "str")
 | flt (x:UInt64):TyOf K H (.flt x) (.type "float")
 | lst {a:Addr}{xs:List V} (e:H a=some (.lst xs)):TyOf K H (.ref a) (.type "list")
 | frz {a:Addr}{o:Obj}{xs:List V} (e:H a=some (.frz o (.lst xs))):TyOf K H (.ref a) (.type "list")
 | tup {a:Addr}{xs:List V} (e:H a=some (.tup xs)):TyOf K H (.ref a) (.type "tuple")
 | dK {a:Addr}{kvs:List (Key × V)} (e:H a=some (.dK kvs)):TyOf K H (.ref a) (.type "dict")
 | dT {a:Addr}{kvs:List (List Key × V)} (e:H a=some (.dT kvs)):TyOf K H (.ref a) (.type "dict")
 | ins {a C dx:Addr}{fs:List (Str × V)} (e:H a=some (.ins C dx fs)) (cl:Cls K C) (ha:PySem.W.findIn K (.ref C) "__class__" = some (some (.builtin "object.__class__")))
   (hn:PySem.W.specialIn K (.builtin "object.__class__") "__get__" = some (some (.builtin "getset_descriptor.__get__"))) (htk:PySem.W.takesIn K (.builtin "object.__class__")=some true)
   (hm:PySem.W.mroIn K C (.type "object")=some true):TyOf K H (.ref a) (.ref C)
end
end L2
namespace L2
open PySem PySem.Spec PyProof.Rows
structure Room (k:Nat) (A:Around):Prop where
 hd:A.handled=none
 dp:A.depth+3 * k+5 < recursionLimit
 un:A.units+16 * k+200 < cLine
 gd:A.guards=some []
theorem Room.mono {j k:Nat}{A:Around} (r:Room k A) (h:j≤k):Room j A:=⟨r.hd,by have:=r.dp; omega,by have:=r.un; omega,r.gd⟩
theorem Room.deeper {k:Nat}{A:Around} (r:Room (k+1) A) (env:Env):Room k (A.deeper env) :=
 ⟨r.hd,by have:=r.dp; show A.depth+1+3 * k+5 < _; omega,by have:=r.un; show A.units+3+16 * k+200 < _; omega,r.gd⟩
theorem Room.in1 {k:Nat}{A:Around} (r:Room (k+1) A):Room k A.in1 :=
 ⟨r.hd,by have:=r.dp; show A.depth+3 * k+5 < _; omega,by have:=r.un; show A.units+1+16 * k+200 < _; omega,r.gd⟩
theorem Room.depth {k:Nat}{A:Around} (r:Room k A):A.depth < recursionLimit:=by have:=r.dp; omega
theorem Room.units {k:Nat}{A:Around} (r:Room k A):A.units+64 < cLine:=by have:=r.un; omega
def tNil:TA:=fun _ H Q=>Q [] H
def aGM (ta:TE) (tr:TA):TA:=fun σ H Q=>ta σ H fun x H1=>tr σ H1 fun xs H2=>Q (x::xs) H2
section
variable {X:Cx}{e:Expr}{es:List Expr}{te:TE}{t:TA}{pos:Pos}
theorem wF:PA X [] tNil:=fun _ _ _ _ H Q I h=>Calls.spliced_nil ⟨[],H,I, .nil,h⟩
theorem oY (ha:PE X e te) (hr:PA X es t) (hs:starEach (e::es) X.env=(false,eval e X.env)::starEach es X.env:=by rfl):PA X (e::es) (aGM te t):=by
 intro pos pins s σ H Q I h
 rw [hs]
 show wpAny _ _ (spliced ((false,eval e X.env)::backTo pos (starEach es X.env))) _ _ s
 refine Calls.spliced_cons (thn (ha pins s σ H _ I h) fun u s1 ⟨x,H1,I1,r1,q1⟩ => ?_)
 exact thn (hr pos pins s1 σ H1 _ I1 q1) fun us s2 ⟨xs,H2,I2,r2,q2⟩=>⟨x::xs,H2,I2, .cons r1 r2,q2⟩
def tTup (t:TA):TE:=fun σ H Q=>t σ H fun xs H1=>xs.length≤sizeLine∧∀ p,H1 p=none→Q (.ref p) (upd H1 p (.tup xs))
def tLst (t:TA):TE:=fun σ H Q=>t σ H fun xs H1=>xs.length≤sizeLine∧∀ p,H1 p=none→Q (.ref p) (upd H1 p (.lst xs))
theorem aEY {x1} (h:PA X es t):PE X (.Tuple es x1 pos) (tTup t):=by
 intro pins s σ H Q I hq
 refine wpAny_Tuple_spliced (thn (h pos pins s σ H _ I hq) fun us s1 ⟨xs,H1,I1,r,z,q⟩=>⟨by rw [← r.length]; exact z,?_⟩)
 have hf:H1 s1.heap.objs.size=none:=I1.hok.fresh (Nat.le_refl _)
 refine ⟨.ref s1.heap.objs.size,upd H1 s1.heap.objs.size (.tup xs),I1.laid (t':=s1.toks) (fun b u e=>Heap.get?_push_of_some _ e) (Nat.le_refl _) ?_,rfl,q _ hf⟩
 exact ⟨z,us,r,⟨_,Heap.get?_push_size _ rfl,rfl,_,rfl⟩⟩
theorem xC (h:PA X es t):PE X (.List es pos) (tLst t):=by
 intro pins s σ H Q I hq
 refine wpAny_List_spliced (thn (h pos pins s σ H _ I hq) fun us s1 ⟨xs,H1,I1,r,z,q⟩=>⟨by rw [← r.length]; exact z,?_⟩)
 have hf:H1 s1.heap.objs.size=none:=I1.hok.fresh (Nat.le_refl _)
 refine ⟨.ref s1.heap.objs.size,upd H1 s1.heap.objs.size (.lst xs),I1.laid (t':=s1.toks) (fun b u e=>Heap.get?_push_of_some _ e) (Nat.le_refl _) ?_,rfl,q _ hf⟩
 exact ⟨z,us,0,r,Heap.get?_push_size _ rfl⟩
end
abbrev Sp:=List V→Hp→VK→XK→Prop
abbrev CXT:=List Env→Hp→Shared→XK→Value→Shared→Prop
structure Env0 (P:Program) (w:World) (K:PySem.W.Frag) (mg:Str→Option Value) (base:Heap) (A:Around) (outer:List Env) (s:Shared) (H:Hp):Prop where
 frames:A.frames=some outer
 mod:Mod K mg base
 bs:∀ b o,base.get? b=some o→s.heap.get? b=some o∧H b=none
 bsz:base.objs.size≤s.heap.objs.size
 funs:s.heap.FunFrames base outer
 frf:∀ b∈frs outer,H b=none
 hok:HOk P w H s.heap
 bare:AllBare s.gens
def CE (outer:List Env) (P:Program) (w:World) (H:Hp) (s:Shared) (Q:VK) (u:Value) (s':Shared):Prop :=
 ∃ v H',s'.os=s.os∧AllBare s'.gens∧Un (frs outer) [] H H' s.heap s'.heap∧HOk P w H' s'.heap∧RelV v u∧Q v H'
def CR (CX:CXT) (outer:List Env) (P:Program) (w:World) (H:Hp) (s:Shared) (Q:VK) (E:XK) (r:Result) (s':Shared):Prop :=
 match r with
 | .ok (.ret u)=>CE outer P w H s Q u s'
 | .ok _=>False
 | .error e=>CX outer H s E e s'
structure FnOk (P:Program) (w:World) (K:PySem.W.Frag) (mg:Str→Option Value) (base:Heap) (CX:CXT) (k:Nat) (f:Addr) (fd:FuncData) (ps:List Str) (sp:Sp):Prop where
 len:∀ vs H Q E,sp vs H Q E→vs.length=ps.length
 run:∀ (A:Around) (outer:List Env) (s:Shared) (H:Hp) (args:Args) (us:List Value) (vs:List V) (Q:VK) (E:XK),Room k A→Env0 P w K mg base A outer s H→BindsTo s fd args (ps.zip us)→Vals vs us→sp vs H Q E →
  codeAny (model P w) A (.call (.ref f) args) (CR CX outer P w H s Q E) s
theorem FnOk.imp {P:Program}{w:World}{K:PySem.W.Frag}{mg:Str→Option Value}{base:Heap}{CX:CXT}{k:Nat}{f:Addr}{fd:FuncData}{ps:List Str}{sp sp':Sp} (F:FnOk P w K mg base CX k f fd ps sp)
  (h:∀ vs H Q E,sp' vs H Q E→sp vs H Q E):FnOk P w K mg base CX k f fd ps sp' :=
 ⟨fun vs H Q E q=>F.len vs H Q E (h _ _ _ _ q),fun A outer s H args us vs Q E hr he hb hv hs=>F.run A outer s H args us vs Q E hr he hb hv (h _ _ _ _ hs)⟩
theorem Env0.in1 {P:Program}{w:World}{K:PySem.W.Frag}{mg:Str→Option Value}{base:Heap}{A:Around}{outer:List Env}{s:Shared}{H:Hp} (e:Env0 P w K mg base A outer s H) :
  Env0 P w K mg base A.in1 outer s H:=⟨e.frames,e.mod,e.bs,e.bsz,e.funs,e.frf,e.hok,e.bare⟩
section
variable {X:Cx}{pins:List (Addr × Obj)}{σ:St}{H:Hp}{s s':Shared}
theorem Inv.env0 (I:Inv X pins σ H s):Env0 X.prog X.w X.K X.mg X.base X.A X.stack s H :=
 ⟨I.ok.frames,I.ok.mod,I.bs,Nat.le_trans I.ok.bsz I.sz,I.stack,I.stkFree,I.hok,I.bare⟩
theorem Inv.after {Q:VK}{u:Value} (I:Inv X pins σ H s) (h:CE X.stack X.prog X.w H s Q u s'):EP X pins σ Q u s':=by
 obtain ⟨v,H',os,bare,un,hok,r,q⟩:=h
 obtain ⟨hh,g,d,t,os'⟩:=s'
 obtain rfl:os'=s.os:=os
 exact ⟨v,H',I.call (h':=hh) (g':=g) (d':=d) (t':=t) (ch:=[]) un hok bare (fun b z=>absurd z (by simp)),r,q⟩
end
def aGI (sp:Sp) (dvs:List V) (E:XK) (t:TA):TE:=fun σ H Q=>t σ H fun vs H1=>sp (vs++dvs) H1 Q E
def Binds (K:PySem.W.Frag) (fd:FuncData) (ps:List Str) (ds:List Value):Prop :=
 ∀ (s:Shared) (us:List Value),K.In s.heap→(us++ds).length=ps.length→BindsTo s fd ⟨us,[]⟩ (ps.zip (us++ds))
theorem Binds.all {K:PySem.W.Frag}{fd:FuncData}{ps:List Str} (h:∀ us:List Value,us.length=ps.length→bindArgs fd ⟨us,[]⟩=pure (ps.zip us)):Binds K fd ps []:=fun s us _ hl=>by
 rw [List.append_nil] at hl ⊢
 exact .of_eq (h us hl)
def Passes (CX:CXT) (X:Cx) (E:XK):Prop:=∀ (pins:List (Addr × Obj)) (σ:St) (H:Hp) (s:Shared) (e:Value) (s':Shared),Inv X pins σ H s→CX X.stack H s E e s'→X.xe e s'
section
variable {X:Cx}{CX:CXT}{k:Nat}{f C:Addr}{fd:FuncData}{ps:List Str}{sp:Sp}{dvs:List V}{ds:List Value}{E:XK}{x m:Str}{p pos apos:Pos}{e o:Expr}{es:List Expr}{ta:TE}{t:TA}
theorem aDR {pins:List (Addr × Obj)}{σ:St}{H:Hp}{s:Shared}{Q:VK}{us:List Value}{vs:List V} (F:FnOk X.prog X.w X.K X.mg X.base CX k f fd ps sp) (hr:Room k X.A) (hb:Binds X.K fd ps ds) (hd:Vals dvs ds) (hx:Passes CX X E)
  (I:Inv X pins σ H s) (r:Vals vs us) (h:sp (vs++dvs) H Q E):wpAny (model X.prog X.w) X.A (call (.ref f) us) (EP X pins σ Q) X.xe s:=by
 have r2:Vals (vs++dvs) (us++ds):=r.append hd
 have hl:(us++ds).length=ps.length:=by rw [← r2.length]; exact F.len _ _ _ _ h
 refine wpAny_call (codeAny_mono (F.run X.A X.stack s H ⟨us,[]⟩ (us++ds) (vs++dvs) Q E hr I.env0 (hb s us I.kIn hl) r2 h) fun r s' hq => ?_)
 cases r with
 | error e=>exact hx pins σ H s e s' I hq
 | ok fl =>
  cases fl with
  | ret u=>exact I.after hq
  | next=>exact False.elim hq
  | brk=>exact False.elim hq
  | cont=>exact False.elim hq
theorem aCV (F:FnOk X.prog X.w X.K X.mg X.base CX k f fd ps sp) (hr:Room k X.A) (hg:Gl X x) (hm:X.mg x=some (.ref f)) (hk:PySem.W.keepIn X.K (.ref f)=true) (hb:Binds X.K fd ps ds) (hd:Vals dvs ds) (hx:Passes CX X E)
  (ha:PA X (e::es) t) (hdb:(x == ("__debug__" : Str))=false:=by decide) (he:starEach (e::es) X.env=(false,eval e X.env)::starEach es X.env:=by rfl) (hpl:(backTo pos (starEach es X.env)).any (·.1)=false:=by rfl) :
  PE X (.Call (.Name x p) (e::es) [] pos) (aGI sp dvs E t):=by
 intro pins s σ H Q I h
 refine wpAny_Call_Name_kw (tS I hg hm ?_ hdb)
 refine PySem.W.callWith_K (h₀:=X.base) I.ok.mod.kin hk (thn (ha pos pins s σ H _ I h) fun us s1 ⟨vs,H1,I1,r,q⟩=>⟨I1.kIn,?_⟩) he hpl
 exact aDR F hr hb hd hx I1 r q
structure Mk (K:PySem.W.Frag) (C f:Addr):Prop where
 makes:PySem.W.makesIn K C=true
 init:PySem.W.findIn K (.ref C) "__init__" = some (some (.ref f))
 fn:PySem.W.isFn K (.ref f)=true
 kp:PySem.W.keepIn K (.ref C)=true
end
section
variable {X:Cx}{CX:CXT}{k:Nat}{f C:Addr}{fd:FuncData}{ps ks:List Str}{sp:Sp}{E:XK}{x m:Str}{p pos apos kpos:Pos}{e o:Expr}{es:List Expr}{kws:List Keyword}{te ta:TE}{t tk:TA}{nm:Option Str}
structure KBinds (K:PySem.W.Frag) (fd:FuncData) (ps ks:List Str) (g:List Value→List Value→List Value) (gV:List V→List V→List V):Prop where
 to:∀ (s:Shared) (us ws:List Value),K.In s.heap→(g us ws).length=ps.length→BindsTo s fd ⟨us,ks.zip ws⟩ (ps.zip (g us ws))
 rel:∀ {vs:List V}{us:List Value}{zs:List V}{ws:List Value},Vals vs us→Vals zs ws→Vals (gV vs zs) (g us ws)
variable {g:List Value→List Value→List Value}{gV:List V→List V→List V}
end
structure FnScope (N P:List Str) (sc:Scope):Prop where
 kind:sc.kind = .function
 co:sc.isCoroutine=false
 gen:sc.isGenerator=false
 nd:N.Nodup
 pre:N.take P.length=P
 par:∀ x∈P,sc.names.lookup x=some .local∨sc.names.lookup x=some .cell
 nofree:∀ y∈sc.names,y.2 ≠ .free
theorem p9 {kindOf:Str→Option NameKind}{x:Str}:∀ {binds:List (Str × Value)}{m:Str→Option Value},(∀ v,(x,v) ∉ binds)→bindL kindOf binds m x=m x
 | [],_,_=>rfl
 | (n,v)::r,m,h=>by
  unfold bindL
  rw [p9 fun w hw=>h w (List.mem_cons_of_mem _ hw)]
  split
  ·have:x≠n:=by rintro rfl; exact h v List.mem_cons_self
   simp [this]
  ·rfl
theorem pJ {kindOf:Str→Option NameKind}{x:Str}:∀ {binds:List (Str × Value)}{m:Str→Option Value},(∀ v,(x,v) ∉ binds)→bindC kindOf binds m x=m x
 | [],_,_=>rfl
 | (n,v)::r,m,h=>by
  unfold bindC
  rw [pJ fun w hw=>h w (List.mem_cons_of_mem _ hw)]
  split
  ·rfl
  ·have:x≠n:=by rintro rfl; exact h v List.mem_cons_self
   simp [this]
theorem pW {kindOf:Str→Option NameKind}{x:Str}{v:Value}:∀ {P:List Str}{vs:List Value}{i:Nat}{m:Str→Option Value},P.Nodup→P[i]?=some x→vs[i]?=some v→kindOf x=some .local →
  bindL kindOf (P.zip vs) m x=some v
 | [],_,_,_,_,h,_,_=>by simp at h
 | _::_,[],_,_,_,_,h,_=>by simp at h
 | p::P,w::vs,0,m,nd,h1,h2,hk=>by
  simp at h1 h2; subst h1; subst h2
  show bindL kindOf ((p,w)::P.zip vs) m p=_
  unfold bindL
  rw [p9 fun v hv=>(List.nodup_cons.mp nd).1 (List.of_mem_zip hv).1,if_pos hk]
  simp
 | p::P,w::vs,i+1,m,nd,h1,h2,hk=>by
  show bindL kindOf ((p,w)::P.zip vs) m x=_
  unfold bindL
  exact pW (i:=i) (List.nodup_cons.mp nd).2 (by simpa using h1) (by simpa using h2) hk
theorem pG {kindOf:Str→Option NameKind}{x:Str}{v:Value}:∀ {P:List Str}{vs:List Value}{i:Nat}{m:Str→Option Value},P.Nodup→P[i]?=some x→vs[i]?=some v→kindOf x≠some .local →
  bindC kindOf (P.zip vs) m x=some v
 | [],_,_,_,_,h,_,_=>by simp at h
 | _::_,[],_,_,_,_,h,_=>by simp at h
 | p::P,w::vs,0,m,nd,h1,h2,hk=>by
  simp at h1 h2; subst h1; subst h2
  show bindC kindOf ((p,w)::P.zip vs) m p=_
  unfold bindC
  rw [pJ fun v hv=>(List.nodup_cons.mp nd).1 (List.of_mem_zip hv).1,if_neg hk]
  simp
 | p::P,w::vs,i+1,m,nd,h1,h2,hk=>by
  show bindC kindOf ((p,w)::P.zip vs) m x=_
  unfold bindC
  exact pG (i:=i) (List.nodup_cons.mp nd).2 (by simpa using h1) (by simpa using h2) hk
def start (N:List Str) (vs:List V):St:=vs.map some++List.replicate (N.length - vs.length) none
def cxOf (CX:CXT) (P:Program) (w:World) (K:PySem.W.Frag) (mg:Str→Option Value) (base:Heap) (N:List Str) (qual:Str) (scope:Scope) (f:Addr) (cd:Value) (A:Around) (outer:List Env) (s:Shared) (H:Hp) (E:XK):Cx where
 prog:=P
 w:=w
 K:=K
 mg:=mg
 base:=base
 A:=A.deeper (envOfC qual scope s.heap.objs.size f cd)
 N:=N
 s₀:=s
 H₀:=H
 env:=envOfC qual scope s.heap.objs.size f cd
 outer:=outer
 stack:=envOfC qual scope s.heap.objs.size f cd::outer
 ex:=[]
 calm:=true
 fn:=fun _=>true
 pn:=[]
 xe:=fun e s'=>wpAny (model P w) (A.deeper (envOfC qual scope s.heap.objs.size f cd)) (leaving (envOfC qual scope s.heap.objs.size f cd) e) (fun _ s''=>CX outer H s E e s'') (fun e' s''=>CX outer H s E e' s'') s'
theorem sA {sc:Scope}{n:Nat}{x:Str} (h:sc.names.lookup x=some .cell):∃ c,(cellsFrom n sc.names []).lookup x=some c:=by
 have q:=PySem.W.cellsFrom_some sc.names n [] (.inl h)
 exact Option.isSome_iff_exists.mp q
theorem wG {CX:CXT}{P:Program}{w:World}{K:PySem.W.Frag}{mg:Str→Option Value}{base:Heap}{N ps:List Str}{qual:Str}{scope:Scope}{f:Addr}{cd:Value}{A:Around}{outer:List Env}{s s1:Shared}{H:Hp}{E:XK}{us:List Value}{vs:List V}
  (S:FnScope N ps scope) (hd:A.handled=none) (e0:Env0 P w K mg base A outer s H) (hl:vs.length=ps.length) (r:Vals vs us)
  (x:InCallC s s.heap.objs.size (bindL (envOfC qual scope s.heap.objs.size f cd).kindOf (ps.zip us) fun _=>none) (cellsFrom (s.heap.objs.size+1) scope.names []) (bindC (envOfC qual scope s.heap.objs.size f cd).kindOf (ps.zip us) fun _=>none) s1) :
  Inv (cxOf CX P w K mg base N qual scope f cd A outer s H E) [] (start N vs) H s1:=by
 have hpl:ps.length≤N.length:=by have:=congrArg List.length S.pre; rw [List.length_take] at this; omega
 obtain ⟨h1,tk,rfl,hk⟩:=x.done
 have noA:∀ b:Addr,b ∉ (cxOf CX P w K mg base N qual scope f cd A outer s H E).ex:=fun b z=>absurd (show b∈([]:List Addr) from z) (by simp)
 refine ⟨⟨e0.mod,S.kind,rfl,rfl,Nat.le_refl _,fun y z c h1 h2 => ?_,fun y hy => ?_,fun y c _ h => ?_,fun _=>hd,Around.frames_deeper e0.frames, .inr ⟨rfl,rfl⟩,fun b z=>absurd z (noA b),e0.bs,e0.bsz,fun b _ _=>noA b,fun b z=>absurd z (noA b),e0.funs,e0.frf⟩,
  rfl,e0.bare,Un.kept hk,⟨_,x.toInCall.ns,fun i y v h1 h2 h3 => ?_⟩,fun y c h=>⟨_,x.cell y c h⟩,e0.hok.fresh (Nat.le_refl _),fun y c h => ?_,fun p hp=>absurd (show p∈([]:List (Addr × Obj)) from hp) (by simp),e0.hok.kept hk,?_⟩
 ·exact name_of_addr x.apart (PySem.mem_of_lookup h1) (PySem.mem_of_lookup h2)
 ·have hy:scope.names.lookup y=some .cell∨scope.names.lookup y=some .free:=hy
  rcases hy with hy | hy
  ·exact sA hy
  ·exact absurd rfl (S.nofree _ (PySem.mem_of_lookup hy))
 ·exact Nat.le_of_lt (x.above y c (PySem.mem_of_lookup h))
 ·have hi:i < vs.length:=by
   unfold start at h2
   by_cases hi:i < vs.length
   ·exact hi
   ·rw [List.getElem?_append_right (by simpa using hi)] at h2
    rw [List.getElem?_replicate] at h2
    split at h2 <;> cases h2
  have ha:vs[i]?=some v:=by
   unfold start at h2
   rw [List.getElem?_append_left (by simpa using hi),List.getElem?_map] at h2
   cases e:vs[i]? with
   | none=>rw [e] at h2; cases h2
   | some a=>rw [e] at h2; cases h2; rfl
  obtain ⟨u,hu,rv⟩:=r.get ha
  have hp:ps[i]?=some y:=by
   rw [← S.pre,List.getElem?_take_of_lt (by omega)]; exact h1
  have ndP:ps.Nodup:=by rw [← S.pre]; exact S.nd.sublist (List.take_sublist _ _)
  refine ⟨u,rv,?_⟩
  rcases S.par y (List.mem_of_getElem? hp) with k | k
  ·exact .inl ⟨k,pW ndP hp hu k⟩
  ·obtain ⟨c,e⟩:=sA (n:=s.heap.objs.size+1) k
   refine .inr ⟨.inl k,c,e,?_⟩
   have q:=x.cell y c e
   rw [pG ndP hp hu (by show scope.names.lookup y≠_; rw [k]; decide)] at q
   exact q
 ·exact e0.hok.fresh (Nat.le_of_lt (x.above y c (PySem.mem_of_lookup h)))
 ·unfold start
  show _=N.length
  rw [List.length_append,List.length_map,List.length_replicate]
  omega
theorem aF8 {CX:CXT}{P:Program}{w:World}{K:PySem.W.Frag}{mg:Str→Option Value}{base:Heap}{k:Nat}{f:Addr}{name qual:Str}{params:Arguments}{body:List Stmt}{scope:Scope}{dV kV doc pm cdv ct oc:Value}{an od:Option Addr}
  {osl:Array (Option Value)}{N ps:List Str}{sp:Sp} (lk:K.lookup f=some ⟨oc,od, .func (PySem.W.fnOf name qual params body scope dV kV doc pm an cdv ct),osl⟩) (hcd:PySem.W.codeIn K cdv qual=true) (S:FnScope N ps scope)
  (len:∀ vs H Q E,sp vs H Q E→vs.length=ps.length)
  (hbody:∀ (A:Around) (outer:List Env) (s:Shared) (H:Hp) (vs:List V) (Q:VK) (E:XK),Room k (A.deeper (envOfC qual scope s.heap.objs.size f cdv))→sp vs H Q E →
   ∃ t,PSs (cxOf CX P w K mg base N qual scope f cdv A outer s H E) body t∧t { nx:=fun _ H'=>Q .non H',rt:=Q } (start N vs) H) :
  FnOk P w K mg base CX (k+1) f (PySem.W.fnOf name qual params body scope dV kV doc pm an cdv ct) ps sp:=by
 refine ⟨len,fun A outer s H args us vs Q E hr e0 hb r hsp => ?_⟩
 have hl:=len _ _ _ _ hsp
 have KX:K.In s.heap:=e0.mod.kin.keeps fun b o e=>(e0.bs b o e).1
 have lim:s.heap.NoLimit:=e0.mod.nolimit.keeps fun b o e=>(e0.bs b o e).1
 have hkind:∀ y∈ps.zip us,scope.names.lookup y.1=some .local∨(scope.names.lookup y.1=some .cell∧((cellsFrom (s.heap.objs.size+1) scope.names []).lookup y.1).isSome=true):=fun ⟨n,v⟩ hy=>by
  rcases S.par n (List.of_mem_zip hy).1 with q | q
  ·exact .inl q
  ·exact .inr ⟨q,PySem.W.cellsFrom_some _ _ _ (.inl q)⟩
 refine codeAny_call_function hr.depth (KX _ _ lk) rfl S.co S.gen rfl (PySem.W.codeRec_of KX hcd) (hb _ _ _ _ ?_)
 refine wpAny_newFunctionEnv_cells S.kind hkind fun env he s1 x => ?_
 subst he
 refine ⟨lim.keeps x.toInCall.keep,codeAny_func ?_⟩
 obtain ⟨t,ht,hq⟩:=hbody A outer s H vs Q E (hr.deeper _) hsp
 have I:Inv (cxOf CX P w K mg base N qual scope f cdv A outer s H E) [] (start N vs) H s1:=wG S hr.hd e0 hl r x
 refine wpAny_mono (ht [] s1 (start N vs) H _ I hq) (fun fl s' hs => ?_) fun e s' hs=>hs
 have fin:∀ {σ':St}{H':Hp}{v:V}{u:Value},Inv (cxOf CX P w K mg base N qual scope f cdv A outer s H E) [] σ' H' s'→RelV v u→Q v H'→CE outer P w H s Q u s' :=
  fun {σ' H' v u} J rv q=>⟨v,H',J.os,J.bare,J.base,J.hok,rv,q⟩
 cases fl with
 | ret u =>
  obtain ⟨v,σ',H',J,rv,q⟩:=hs
  exact fin J rv q
 | next =>
  obtain ⟨σ',H',J,q⟩:=hs
  exact fin (v:=V.non) (u:=Value.none) J rfl q
 | brk =>
  obtain ⟨_,_,_,q⟩:=hs
  exact False.elim q
 | cont =>
  obtain ⟨_,_,_,q⟩:=hs
  exact False.elim q
end L2
namespace L2
open PySem PySem.Spec PyProof.Rows
section
variable {X:Cx}{x:Str}{p pos:Pos}{e:Expr}{es:List Expr}{t:TA}{id T:String}{r:List V→Hp→VK→Prop}
def tCB (r:List V→Hp→VK→Prop) (t:TA):TE:=fun σ H Q=>t σ H fun vs H1=>r vs H1 Q
theorem rW (hc:dH X (.builtin id) r) (hg:Gl X x) (hm:X.mg x=none) (hv:bootBuiltins x=some (.builtin id)) (ha:PA X (e::es) t) (hn:x ≠ "__name__" := by decide) (hdb:(x == ("__debug__" : Str))=false:=by decide)
  (he:starEach (e::es) X.env=(false,eval e X.env)::starEach es X.env:=by rfl) (hpl:(backTo pos (starEach es X.env)).any (·.1)=false:=by rfl):PE X (.Call (.Name x p) (e::es) [] pos) (tCB r t):=by
 intro pins s σ H Q I h
 refine wpAny_Call_Name_kw (j6 I hg hm hv ?_ hn hdb)
 exact PyProof.Rows.callWith_builtin1 (thn (ha pos pins s σ H _ I h) fun us s1 ⟨vs,H1,I1,r1,q1⟩=>hc pins s1 σ H1 vs us Q I1 r1 q1) he hpl
theorem vW (hc:dH X (.type T) r) (hg:Gl X x) (hm:X.mg x=none) (hv:bootBuiltins x=some (.type T)) (ha:PA X (e::es) t) (hn:x ≠ "__name__" := by decide) (hdb:(x == ("__debug__" : Str))=false:=by decide)
  (he:starEach (e::es) X.env=(false,eval e X.env)::starEach es X.env:=by rfl) (hpl:(backTo pos (starEach es X.env)).any (·.1)=false:=by rfl):PE X (.Call (.Name x p) (e::es) [] pos) (tCB r t):=by
 intro pins s σ H Q I h
 refine wpAny_Call_Name_kw (j6 I hg hm hv ?_ hn hdb)
 exact PyProof.Rows.callWith_type1 (thn (ha pos pins s σ H _ I h) fun us s1 ⟨vs,H1,I1,r1,q1⟩=>hc pins s1 σ H1 vs us Q I1 r1 q1) he hpl
end
end L2
namespace HT
open PySem PyProof.Rows
section
open PySem.SeqAt
open PySem.AutoSeq1 (wpAny_loadPart')
open PySem.MeetsSeq PySem.MeetsSeq2 PySem.MeetsSeq3
end
section
variable {prog:Program}{w:World}{A:Around}{E:Value→Shared→Prop}{s:Shared}
def sIx (n d:Nat):Option Int→Nat
 | none=>d
 | some v=>if v < 0 then (v+(n:Int)).toNat else min v.toNat n
theorem aDI (n d k:Nat):sIx n d (some (k:Int))=min k n:=by
 show (if (k:Int) < 0 then ((k:Int)+(n:Int)).toNat else min (k:Int).toNat n)=min k n
 rw [if_neg (by omega),Int.toNat_natCast]
end
end HT
namespace L2
open PySem PySem.Spec PyProof.Rows
abbrev TO:=St→Hp→(Option Int→Hp→Prop)→Prop
def PO (X:Cx) (e:Option Expr) (t:TO):Prop :=
 ∀ (pins:List (Addr × Obj)) (s:Shared) (σ:St) (H:Hp) (Q:Option Int→Hp→Prop),Inv X pins σ H s→t σ H Q →
  wpAny (model X.prog X.w) X.A (evalPart e X.env) (fun u s'=>∃ o H',Inv X pins σ H' s'∧IsPart u o∧Q o H') X.xe s
def aDJ:TO:=fun _ H Q=>Q none H
def aF9 (t:TE):TO:=fun σ H Q=>t σ H fun x H1=>∃ i,x = .int i∧Q (some i) H1
theorem uX {ns:List Int}:∀ {us:List Value},Vals (ns.map V.int) us→IntsAre us ns:=by
 induction ns with
 | nil=>intro us r; rw [List.map_nil] at r; cases r; exact .nil
 | cons n ns ih =>
  intro us r
  rw [List.map_cons] at r
  cases r with
  | cons r1 r2 =>
   obtain ⟨t,e⟩:=r1
   subst e
   exact .cons n t (ih r2)
section
variable {X:Cx}{e:Expr}{te:TE}{lo hi:Option Expr}{tl th:TO}{pos p2:Pos}
theorem aDM:PO X none aDJ:=by
 intro pins s σ H Q I h
 rw [evalPart_none]
 exact wpAny_pure ⟨none,H,I, .none,h⟩
theorem aDF (h:PE X e te):PO X (some e) (aF9 te):=by
 intro pins s σ H Q I hw
 rw [evalPart_some]
 refine thn (h pins s σ H _ I hw) fun u s1 ⟨x,H1,I1,r1,q1⟩ => ?_
 obtain ⟨i,rfl,q⟩:=q1
 obtain ⟨t,rfl⟩:=r1
 exact ⟨some i,H1,I1, .int i t,q⟩
def SlR (X:Cx) (r:V→Option Int→Option Int→Hp→VK→Prop):Prop :=
 ∀ (pins:List (Addr × Obj)) (s:Shared) (σ:St) (H:Hp) (x:V) (v vl vu:Value) (lo hi:Option Int) (sl:Addr) (Q:VK),Inv X pins σ H s→RelV x v→s.heap.IsSliceOf sl vl vu .none→IsPart vl lo→IsPart vu hi→r x lo hi H Q →
  ∃ T id,typeLookup (.type T) "__getitem__" = pure (some (.builtin id))∧s.TypeIs v T∧wpAny (model X.prog X.w) X.A (getItem v (.ref sl)) (EP X pins σ Q) X.xe s
def tSl (r:V→Option Int→Option Int→Hp→VK→Prop) (te:TE) (tl th:TO):TE:=fun σ H Q=>te σ H fun x H1=>tl σ H1 fun l H2=>th σ H2 fun u H3=>r x l u H3 Q
theorem aA2 {r:V→Option Int→Option Int→Hp→VK→Prop} (hr:SlR X r) (he:PE X e te) (hl:PO X lo tl) (hu:PO X hi th):PE X (.Subscript e (.Slice lo hi none p2) pos) (tSl r te tl th):=by
 intro pins s σ H Q I h
 refine Subscript_ (thn (he pins s σ H _ I h) fun v s1 ⟨x,H1,I1,r1,q1⟩ => ?_)
 refine wpAny_Slice (thn (hl pins s1 σ H1 _ I1 q1) fun vl s2 ⟨l,H2,I2,pl,q2⟩=>thn (hu pins s2 σ H2 _ I2 q2) fun vu s3 ⟨u,H3,I3,pu,q3⟩ => ?_)
 rw [evalPart_none]
 refine wpAny_pure ?_
 have I4:Inv X pins σ H3 { s3 with heap:=s3.heap.push { cls := .type "slice", data := .fields #[vl,vu, .none] } }:=I3.kept (t':=s3.toks) fun b ob q=>Heap.get?_push_of_some _ q
 obtain ⟨T,id,hT,ht,hg⟩:=hr pins { s3 with heap:=s3.heap.push { cls := .type "slice", data := .fields #[vl,vu, .none] } } σ H3 x v vl vu l u s3.heap.objs.size Q I4 r1 (Heap.IsSliceOf.new ..) pl pu q3
 show wpAny (model X.prog X.w) X.A (subscriptTail e (.Slice lo hi none p2) v (.ref s3.heap.objs.size)) (EP X pins σ Q) X.xe { s3 with heap:=s3.heap.push { cls := .type "slice", data := .fields #[vl,vu, .none] } }
 exact tail_any (ops:=[.ref s3.heap.objs.size,v]) ht hT hg (by with_unfolding_all rfl)
def cutV (xs:List V) (lo hi:Option Int):List V:=(xs.drop (HT.sIx xs.length 0 lo)).take (HT.sIx xs.length xs.length hi - HT.sIx xs.length 0 lo)
theorem sI (xs:List V) (lo hi:Option Int):(cutV xs lo hi).length≤xs.length:=by
 unfold cutV
 rw [List.length_take,List.length_drop]
 omega
end
end L2
namespace L2
open PySem PySem.Spec PyProof.Rows
def ixN (n:Nat) (i:Int):Option Nat:=if 0≤i then (if i < n then some i.toNat else none) else if -(n:Int)≤i then some (i+n).toNat else none
def atI {α:Type} (xs:List α) (i:Int):Option α:=(ixN xs.length i).bind fun j=>xs[j]?
theorem tG {n:Nat}{i:Int}{j:Nat} (h:ixN n i=some j):seqIndex? i n=some j∧j < n ∧ -(n:Int)≤i∧i < n:=by
 unfold ixN at h
 by_cases h0:0≤i
 ·rw [if_pos h0] at h
  by_cases h1:i < n
  ·rw [if_pos h1] at h
   have e:i.toNat=j:=Option.some.inj h
   exact ⟨by rw [seqIndex_of h0 h1,e],by omega,by omega,h1⟩
  ·rw [if_neg h1] at h; cases h
 ·rw [if_neg h0] at h
  by_cases h1 : -(n:Int)≤i
  ·rw [if_pos h1] at h
   have e:(i+n).toNat=j:=Option.some.inj h
   exact ⟨by rw [seqIndex_neg (by omega) h1,e],by omega,h1,by omega⟩
  ·rw [if_neg h1] at h; cases h
theorem pD {α:Type}{xs:List α}{i:Int}{v:α} (h:atI xs i=some v):∃ j,seqIndex? i xs.length=some j∧xs[j]?=some v∧j < xs.length ∧ -(xs.length:Int)≤i∧i < xs.length:=by
 unfold atI at h
 cases e:ixN xs.length i with
 | none=>rw [e] at h; cases h
 | some j =>
  rw [e] at h
  obtain ⟨h1,h2,h3,h4⟩:=tG e
  exact ⟨j,h1,h,h2,h3,h4⟩
theorem cD {α:Type}{xs:List α}{j:Nat}{v:α} (h:xs[j]?=some v):atI xs (j:Int)=some v:=by
 have hj:j < xs.length:=(List.getElem?_eq_some_iff.mp h).1
 have e:ixN xs.length (j:Int)=some j:=by
  unfold ixN
  rw [if_pos (by omega),if_pos (by omega)]; simp
 unfold atI; rw [e]; exact h
theorem nP {α:Type} (xs:List α) (v:α):atI (xs++[v]) (-1)=some v:=by
 have hl:(xs++[v]).length=xs.length+1:=by simp
 have e:ixN (xs++[v]).length (-1)=some xs.length:=by
  unfold ixN
  rw [hl,if_neg (by decide),if_pos (by omega)]
  congr 1
  omega
 unfold atI
 rw [e]
 show (xs++[v])[xs.length]?=some v
 simp
def tL (b:Expr):Prop:=∀ o i,subscripted b false o i=operate [o,i] (getItem o i)
def IxR (X:Cx) (r:R2):Prop :=
 ∀ (value slice:Expr) (pins:List (Addr × Obj)) (s:Shared) (σ:St) (H:Hp) (x y:V) (v u:Value) (Q:VK),Inv X pins σ H s→RelV x v→RelV y u→r x y H Q →
  subscripted slice false v u=operate [v,u] (getItem v u)→wpAny (model X.prog X.w) X.A (subscriptTail value slice v u) (EP X pins σ Q) X.xe s
def MtR (X:Cx) (id:String) (r:V→List V→Hp→VK→Prop):Prop :=
 ∀ (pins:List (Addr × Obj)) (s:Shared) (σ:St) (H:Hp) (x:V) (xs:List V) (v:Value) (us:List Value) (Q:VK),Inv X pins σ H s→RelV x v→Vals xs us→r x xs H Q →
  wpAny (model X.prog X.w) X.A (call (.builtin id) (v::us)) (EP X pins σ Q) X.xe s
section
variable {X:Cx}{a b:Expr}{ta tb:TE}{pos:Pos}
theorem IxR.or {r r':R2} (h:IxR X r) (h':IxR X r'):IxR X (fun x y H Q=>r x y H Q∨r' x y H Q):=by
 intro value slice pins s σ H x y v u Q I rx ry q hs
 rcases q with q | q
 ·exact h value slice pins s σ H x y v u Q I rx ry q hs
 ·exact h' value slice pins s σ H x y v u Q I rx ry q hs
theorem aGA {r:R2} (hr:IxR X r) (ha:PE X a ta) (hb:PE X b tb) (hs:tL b):PE X (.Subscript a b pos) (tOp r ta tb):=by
 intro pins s σ H Q I h
 exact Subscript_ (binT ha hb I h fun v u s2 x y H2 I2 rx ry q=>hr a b pins s2 σ H2 x y v u Q I2 rx ry q (hs _ _))
def rIxL (K:PySem.W.Frag):R2:=fun x y H Q=>∃ p xs i v,x = .ref p∧y = .int i∧SqL K H p xs∧atI xs i=some v∧Q v H
def rIxT (K:PySem.W.Frag):R2:=fun x y H Q=>∃ p xs i v,x = .ref p∧y = .int i∧SqT K H p xs∧atI xs i=some v∧Q v H
def rIxS:R2:=fun x y H Q=>∃ z i c,x = .str z∧y = .int i∧z.length≤sizeLine∧atI z.cps.toList i=some c∧Q (.str ⟨#[c]⟩) H
theorem aC2:IxR X (rIxL X.K):=by
 intro value slice pins s σ H x y v u Q I rx ry h hs
 obtain ⟨p,xs,i,z,rfl,rfl,hq,he,q⟩:=h
 cases rx
 obtain ⟨t,rfl⟩:=ry
 obtain ⟨its,r,pl,hz⟩:=I.list hq
 obtain ⟨j,h1,h2,h3,h4,h5⟩:=pD he
 obtain ⟨w,ew,rw'⟩:=r.get h2
 have hl:=r.length
 have hn:=line63
 have fin:EP X pins σ Q w s:=⟨z,H,I,rw',q⟩
 by_cases h0:0≤i
 ·have hj:i.toNat=j:=by
   rw [seqIndex_of h0 h5] at h1
   exact Option.some.inj h1
  exact item_listR pl.isList h0 (by omega) (by rw [hj]; simpa using ew) fin hs
 ·have hj:(i+(its.toArray.size:Int)).toNat=j:=by
   rw [seqIndex_neg (by omega) h4] at h1
   rw [List.size_toArray,← hl]
   exact Option.some.inj h1
  exact subscriptTail_builtinR (x:=w) pl.isList.typeIs slot_list_getitem.lookup
   (wpAny_getItem_list_neg (Q:=fun r s'=>r=w∧EP X pins σ Q r s') pl.isList (by omega) (by rw [List.size_toArray] <;> omega) (by omega) (by rw [hj]; simpa using ew) ⟨rfl,fin⟩) hs
theorem aE6:IxR X (rIxT X.K):=by
 intro value slice pins s σ H x y v u Q I rx ry h hs
 obtain ⟨p,xs,i,z,rfl,rfl,hq,he,q⟩:=h
 cases rx
 obtain ⟨t,rfl⟩:=ry
 obtain ⟨its,r,pl,hz⟩:=I.tuple hq
 obtain ⟨j,h1,h2,h3,h4,h5⟩:=pD he
 obtain ⟨w,ew,rw'⟩:=r.get h2
 have hl:=r.length
 have hn:=line63
 have fin:EP X pins σ Q w s:=⟨z,H,I,rw',q⟩
 exact subscriptTail_builtinR (x:=w) pl.typeIs slot_tuple_getitem.lookup
  (getItem_tuple (j:=j) (Q:=fun r s'=>r=w∧EP X pins σ Q r s') pl (by omega) (by omega) (by rw [List.size_toArray,← hl]; exact h1) (by simpa using ew) ⟨rfl,fin⟩) hs
theorem aFS:IxR X rIxS:=by
 intro value slice pins s σ H x y v u Q I rx ry h hs
 obtain ⟨z,i,c,rfl,rfl,hz,he,q⟩:=h
 obtain ⟨t,rfl⟩:=rx
 obtain ⟨t',rfl⟩:=ry
 obtain ⟨j,h1,h2,h3,h4,h5⟩:=pD he
 have hl:z.cps.toList.length=z.length:=by simp [Str.length]
 rw [hl] at h1 h4 h5
 have hn:=line63
 exact tail_any (typeIs_str s z t) slot_str_getitem.lookup (getItem_str (c:=c) (by
  have e1:decide (i < -(2 ^ 63:Int))=false:=decide_eq_false (by omega)
  have e2:decide (i≥2 ^ 63)=false:=decide_eq_false (by omega)
  rw [e1,e2,Bool.or_false]) (by rw [h1]; simpa using h2) ⟨.str ⟨#[c]⟩,H,I.tok _,⟨_,rfl⟩,q⟩) hs
def rIx (K:PySem.W.Frag):R2:=fun x y H Q=>rIxL K x y H Q∨rIxT K x y H Q∨rIxS x y H Q
theorem aG:IxR X (rIx X.K):=aC2.or (aE6.or aFS)
theorem vT (its:List Value) (n j:Nat) (u:Value):Obj.mapSeq (·.setIfInBounds j u) { cls := .type "list", data := .seq its.toArray n }={ cls := .type "list", data := .seq (its.set j u).toArray n }:=by
 simp [Obj.mapSeq]
theorem Inv.lst {pins:List (Addr × Obj)}{σ:St}{H:Hp}{s:Shared}{p:Addr}{xs:List V} (I:Inv X pins σ H s) (h:H p=some (.lst xs)) :
  ∃ (its:List Value) (n:Nat),Vals xs its∧s.heap.get? p=some { cls := .type "list", data := .seq its.toArray n }∧xs.length≤sizeLine:=by
 obtain ⟨z,its,n,r,e⟩:=I.hok p _ h
 exact ⟨its,n,r,e,z⟩
theorem Inv.lstUpd {pins:List (Addr × Obj)}{σ:St}{H:Hp}{s:Shared}{p:Addr}{xs ys:List V}{its its':List Value}{n n':Nat}{f:Obj→Obj} (I:Inv X pins σ H s) (h:H p=some (.lst xs))
  (ho:s.heap.get? p=some { cls := .type "list", data := .seq its.toArray n }) (hf:f { cls := .type "list", data := .seq its.toArray n }={ cls := .type "list", data := .seq its'.toArray n' }) (r:Vals ys its') (hz:ys.length≤sizeLine) (t:Nat) :
  Inv X pins σ (upd H p (.lst ys)) { s with heap:=s.heap.update p f,toks:=t }:=by
 have e:(s.heap.update p f).get? p=some { cls := .type "list", data := .seq its'.toArray n' }:=by
  rw [Heap.get?_update_self f ho (by rw [hf] <;> rfl),hf]
 refine I.write (x:=p) (e:=p) (by rw [h]; trivial) (.inl rfl) (fun b u hb q=>(Heap.get?_update_other _ _ (Ne.symm hb)).trans q) ⟨_,e⟩ ?_
 exact ⟨hz,its',n',r,e⟩
def aGD:V→V→V→Hp→(Hp→Prop)→Prop:=fun o i v H Q=>∃ p xs k j,o = .ref p∧i = .int k∧H p=some (.lst xs)∧ixN xs.length k=some j∧Q (upd H p (.lst (xs.set j v)))
theorem zU:PSet X aGD:=by
 intro pins s σ H o i v ov iv u Q I ro ri rv h
 obtain ⟨p,xs,k,j,rfl,rfl,hp,hj,q⟩:=h
 cases ro
 obtain ⟨t,rfl⟩:=ri
 obtain ⟨its,n,r,ho,hz⟩:=I.lst hp
 obtain ⟨h1,h2,h3,h4⟩:=tG hj
 have hl:=r.length
 have hn:=line63
 have I':Inv X pins σ (upd H p (.lst (xs.set j v))) { s with heap:=s.heap.update p (Obj.mapSeq (·.setIfInBounds j u)) } :=
  I.lstUpd hp ho (vT its n j u) (r.set rv j) (by rw [List.length_set]; exact hz) s.toks
 by_cases h0:0≤k
 ·have hk:k.toNat=j:=by
   rw [seqIndex_of h0 h4] at h1
   exact Option.some.inj h1
  exact PySem.W.ki_setAt ho h0 (by omega) (by rw [List.size_toArray,← hl]; exact h4) (by rw [hk]; exact ⟨_,I',q⟩)
 ·have hk:(k+(its.toArray.size:Int)).toNat=j:=by
   rw [seqIndex_neg (by omega) h3] at h1
   rw [List.size_toArray,← hl]
   exact Option.some.inj h1
  exact PySem.W.ki_setBack ho (by omega) (by rw [List.size_toArray,← hl]; exact h3) (by omega) (by rw [hk]; exact ⟨_,I',q⟩)
theorem rV (lo hi:Option Int) (n:Nat):(sliceBounds lo hi none n).1=((HT.sIx n 0 lo:Nat):Int)∧(sliceBounds lo hi none n).2.1=((HT.sIx n n hi:Nat):Int)∧(sliceBounds lo hi none n).2.2=1:=by
 refine ⟨?_,?_,rfl⟩
 ·cases lo with
  | none=>simp [sliceBounds,HT.sIx]
  | some i =>
   simp only [sliceBounds,HT.sIx,Option.getD_none,show (1:Int) > 0 by decide,if_true]
   by_cases h:i < 0
   ·simp only [h,if_true] <;> omega
   ·simp only [h,if_false] <;> omega
 ·cases hi with
  | none=>simp [sliceBounds,HT.sIx]
  | some i =>
   simp only [sliceBounds,HT.sIx,Option.getD_none,show (1:Int) > 0 by decide,if_true]
   by_cases h:i < 0
   ·simp only [h,if_true] <;> omega
   ·simp only [h,if_false] <;> omega
theorem qB (its:List Value) (lo hi:Option Int):slicePick its.toArray lo hi none=((its.drop (HT.sIx its.length 0 lo)).take (HT.sIx its.length its.length hi - HT.sIx its.length 0 lo)).toArray:=by
 obtain ⟨h1,h2,h3⟩:=rV lo hi its.toArray.size
 unfold slicePick
 rw [h1,h2,h3]
 simp only [sliceRange_one,pick_run,List.size_toArray] <;> rfl
def rSlL (K:PySem.W.Frag):V→Option Int→Option Int→Hp→VK→Prop:=fun x lo hi H Q=>∃ a xs,x = .ref a∧SqL K H a xs∧∀ p,H p=none→Q (.ref p) (upd H p (.lst (cutV xs lo hi)))
theorem iL:SlR X (rSlL X.K):=by
 intro pins s σ H x v vl vu lo hi sl Q I rx hs pl pu h
 obtain ⟨a,xs,rfl,hx,q⟩:=h
 cases rx
 obtain ⟨its,r,ht,hz⟩:=I.list hx
 have hlen:=r.length
 refine ⟨"list", _,slot_list_getitem.lookup,ht.isList.typeIs,?_⟩
 refine wpAny_getItem_list_slice ht.isList hs pl pu .none (by simp) ?_ (by rw [List.size_toArray] <;> omega)
 rw [qB,← hlen]
 refine ⟨.ref s.heap.objs.size,_,I.laid (t':=s.toks) (o := .lst (cutV xs lo hi)) (fun b ob q=>Heap.get?_push_of_some _ q) (Nat.le_refl _) ?_,rfl,q _ (I.hok.fresh (Nat.le_refl _))⟩
 exact ⟨Nat.le_trans (sI xs lo hi) hz,_,0,(r.drop (HT.sIx xs.length 0 lo)).take (HT.sIx xs.length xs.length hi - HT.sIx xs.length 0 lo),Heap.get?_push_size _ rfl⟩
theorem eA:dH X (.type "list") (fun xs H Q=>∃ p ys,xs=[.ref p]∧(SqL X.K H p ys∨SqT X.K H p ys)∧∀ l,H l=none→Q (.ref l) (upd H l (.lst ys))):=by
 intro pins s σ H xs us Q I r h
 obtain ⟨p,ys,rfl,hq,q⟩:=h
 obtain ⟨u,rfl,rx⟩:=vals1 r
 cases rx
 have fin:∀ (its:List Value),Vals ys its→ys.length≤sizeLine→∀ (h':Heap) (c':Nat),(∀ b o',s.heap.get? b=some o'→h'.get? b=some o') →
   h'.get? s.heap.objs.size=some { cls := .type "list", dict:=none,data := .seq its.toArray c',slots := #[] }→EP X pins σ Q (.ref s.heap.objs.size) { s with heap:=h' }:=fun its r' hz h' c' kp e =>
  ⟨.ref s.heap.objs.size,_,I.laid (t':=s.toks) kp (Nat.le_refl _) (show dP X.prog X.w _ h' _ (.lst ys) from ⟨hz,its,c',r',e⟩),rfl,q _ (I.hok.fresh (Nat.le_refl _))⟩
 rcases hq with hq | hq
 ·obtain ⟨its,r',pl,hz⟩:=I.list hq
  have hlen:=r'.length
  obtain ⟨o,ho,hc,n,hd⟩:=pl.isList
  exact call_list_seq p (.inl rfl) ho hc hd (fun h' c' kp e=>fin its r' hz h' c' kp e) (by simp only [List.size_toArray] <;> omega)
 ·obtain ⟨its,r',pl,hz⟩:=I.tuple hq
  have hlen:=r'.length
  obtain ⟨o,ho,hc,n,hd⟩:=pl
  exact call_list_seq p (.inr rfl) ho hc hd (fun h' c' kp e=>fin its r' hz h' c' kp e) (by simp only [List.size_toArray] <;> omega)
theorem cB:dH X (.type "tuple") (fun xs H Q=>∃ p ys,xs=[.ref p]∧((SqL X.K H p ys∧∀ l,H l=none→Q (.ref l) (upd H l (.tup ys)))∨(SqT X.K H p ys∧Q (.ref p) H))):=by
 intro pins s σ H xs us Q I r h
 obtain ⟨p,ys,rfl,h⟩:=h
 obtain ⟨u,rfl,rx⟩:=vals1 r
 cases rx
 rcases h with ⟨hq,q⟩ | ⟨hq,q⟩
 ·obtain ⟨its,r',pl,hz⟩:=I.list hq
  have hlen:=r'.length
  refine call_tuple_list pl.isList (fun h' kp => ?_) (by simp only [List.size_toArray] <;> omega)
  have I1:Inv X pins σ H { s with heap:=h' }:=I.kept (t':=s.toks) kp
  have I2:Inv X pins σ (upd H h'.objs.size (.tup ys)) { s with heap:=h'.push { cls := .type "tuple", data := .seq its.toArray } } :=
   I1.laid (t':=s.toks) (fun b o e=>Heap.get?_push_of_some _ e) (Nat.le_refl _) (show dP X.prog X.w _ _ _ (.tup ys) from ⟨hz,its,r',IsTup.new _ _⟩)
  exact ⟨.ref h'.objs.size,_,I2,rfl,q _ (I1.hok.fresh (Nat.le_refl _))⟩
 ·obtain ⟨its,r',pl,hz⟩:=I.tuple hq
  exact call_tuple_same pl ⟨.ref p,H,I,rfl,q⟩
def tyV (K:PySem.W.Frag) (T:String) (x:V) (H:Hp):Prop:=match x with
 | .str _=>T = "str"
 | .int _=>T = "int"
 | .ref p=>(T = "list" ∧ ∃ xs,SqL K H p xs)∨(T = "tuple" ∧ ∃ o,K.lookup p=some o∧o.cls = .type "tuple" ∧ o.dict=none) ∨
   (T = "dict" ∧ ((∃ kvs,H p=some (.dK kvs))∨∃ kvs,H p=some (.dT kvs)))∨(T = "set" ∧ ∃ S n,H p=some (.set S n))
 | _=>False
theorem aEX {pins:List (Addr × Obj)}{σ:St}{H:Hp}{s:Shared}{T:String}{x:V}{v:Value} (I:Inv X pins σ H s) (r:RelV x v) (ty:tyV X.K T x H) :
  s.TypeIs v T∧∀ a,v = .ref a→∃ ob,s.heap.get? a=some ob∧ob.dict=none:=by
 cases x with
 | str z =>
  obtain ⟨t,rfl⟩:=r
  cases (show T = "str" from ty)
  exact ⟨typeIs_str s z t,fun _ e=>nomatch e⟩
 | int i =>
  obtain ⟨t,rfl⟩:=r
  cases (show T = "int" from ty)
  exact ⟨typeIs_int s i t,fun _ e=>nomatch e⟩
 | ref p =>
  cases r
  rcases ty with ⟨rfl,xs,hq⟩ | ⟨rfl,o,hk,hc,hd⟩ | ⟨rfl,hk⟩ | ⟨rfl,S,n,hk⟩
  ·obtain ⟨its,_,pl,_⟩:=I.list hq
   refine ⟨pl.isList.typeIs,fun a e => ?_⟩
   cases e
   obtain ⟨o,n,e,c,hd,_⟩:=pl
   exact ⟨o,e,hd⟩
  ·refine ⟨⟨o,I.kIn p o hk,hc⟩,fun a e => ?_⟩
   cases e
   exact ⟨o,I.kIn _ o hk,hd⟩
  ·have z:∃ o,s.heap.get? p=some o∧o.ExactDict:=by
    rcases hk with ⟨kvs,hk⟩ | ⟨kvs,hk⟩
    ·obtain ⟨_,_,_,_,o,_,_,e,ex,_⟩:=I.hok p _ hk
     exact ⟨o,e,ex⟩
    ·obtain ⟨_,_,_,_,o,_,_,e,ex,_⟩:=I.hok p _ hk
     exact ⟨o,e,ex⟩
   obtain ⟨o,e,ex⟩:=z
   refine ⟨⟨o,e,ex.1⟩,fun a e2 => ?_⟩
   cases e2
   exact ⟨o,e,ex.2.1⟩
  ·obtain ⟨o,_,_,_,e,ex,_⟩:=I.hok p _ hk
   refine ⟨⟨o,e,ex.1⟩,fun a e2 => ?_⟩
   cases e2
   exact ⟨o,e,ex.2.1⟩
 | _=>exact False.elim ty
def tBM (K:PySem.W.Frag) (T:String) (r:V→List V→Hp→VK→Prop) (to:TE) (t:TA):TE:=fun σ H Q=>to σ H fun x H1=>tyV K T x H1∧t σ H1 fun xs H2=>r x xs H2 Q
variable {o e:Expr}{es:List Expr}{to:TE}{t:TA}{name:Str}{apos cpos:Pos}{T id:String}{r:V→List V→Hp→VK→Prop}
theorem aGL (pa:PlainAttrs T) (slot:Slot T name id) (hty:typeOf (.builtin id)=pure (.type "method_descriptor")) (hm:MtR X id r) (ho:PE X o to) (ha:PA X (e::es) t)
  (hbase:attributeBase o name X.env (eval o X.env)=eval o X.env:=by rfl)
  (hfew:((backTo cpos (starEach (e::es) X.env)).all (fun x => !x.1) && (backToKw cpos (keywordEach [] X.env)).all (fun x=>x.1.isSome)
   && decide ((e::es).length+([]:List Keyword).length+(if ([]:List Keyword).isEmpty then 0 else 1) < 30))=true:=by rfl)
  (hline:(apos.endLine == cpos.line)=true:=by rfl) (hs:starEach (e::es) X.env=(false,eval e X.env)::starEach es X.env:=by rfl) (hplain:(backTo cpos (starEach es X.env)).any (·.1)=false:=by rfl) :
  PE X (.Call (.Attribute o name apos) (e::es) [] cpos) (tBM X.K T r to t):=by
 intro pins s σ H Q I h
 refine wpAny_Call_method_late hbase hfew hline rfl (thn (ho pins s σ H _ I h) fun v s1 ⟨x,H1,I1,r1,ty,q1⟩ => ?_)
 obtain ⟨h1,h2⟩:=aEX I1 r1 ty
 refine ⟨T,id,pa,slot,hty,h1,h2,?_⟩
 have hA:=ha cpos pins s1 σ H1 _ I1 q1
 rw [hs] at hA ⊢
 refine Calls.callWith_builtin (by show (false || (backTo cpos (starEach es X.env)).any (·.1))=false; rw [hplain] <;> rfl) (Calls.evalArgs_plain ?_)
 exact thn hA fun us s2 ⟨vs,H2,I2,r2,q2⟩=>hm pins s2 σ H2 x vs v us Q I2 r1 r2 q2
/- xs.append(e),list.index on a module's tuple .. are MtR facts of 06m -/
end
end L2
namespace L2
open PySem PySem.Spec PyProof.Rows
def MtM (X:Cx) (id:String) (r:V→List V→Hp→VK→Prop):Prop :=
 ∀ (pins:List (Addr × Obj)) (s:Shared) (σ:St) (H:Hp) (x:V) (xs:List V) (v:Value) (us:List Value) (Q:VK),Inv X pins σ H s→RelV x v→Vals xs us→r x xs H Q →
  wpAny (model X.prog X.w) X.A (call (.builtin id) (v::us)) (EP X pins σ Q) X.xe s
theorem Vals.one:∀ {x:V}{us:List Value},Vals [x] us→∃ u,us=[u]∧RelV x u
 | _,_, .cons r .nil=>⟨_,rfl,r⟩
theorem Vals.eraseIdx:∀ {xs:List V}{us:List Value} (i:Nat),Vals xs us→Vals (xs.eraseIdx i) (us.eraseIdx i)
 | _,_,_, .nil => .nil
 | _,_,0, .cons _ t=>t
 | _,_,i+1, .cons r t => .cons r (Vals.eraseIdx i t)
section
variable {X:Cx}{pins:List (Addr × Obj)}{σ:St}{H:Hp}{s:Shared}{l b:Addr}{xs ys zs:List V}
theorem Inv.lset {its its':List Value}{n:Nat}{f:Array Value→Array Value}{t':Nat} (I:Inv X pins σ H s) (hH:H l=some (.lst xs))
  (e:s.heap.get? l=some { cls := .type "list", data := .seq its.toArray n }) (hf:f its.toArray=its'.toArray) (hv:Vals ys its') (hz:ys.length≤sizeLine) :
  Inv X pins σ (upd H l (.lst ys)) { s with heap:=s.heap.update l (Obj.mapSeq f),toks:=t' }:=by
 have q:=PySem.IsL.update e f
 rw [hf] at q
 refine I.write (x:=l) (e:=l) (by rw [hH]; exact trivial) (.inl rfl) (fun b' u hb hu=>(Heap.get?_update_other s.heap (Obj.mapSeq f) (Ne.symm hb)).trans hu) ⟨_,q⟩ ?_
 exact ⟨hz,its',_,hv,q⟩
theorem Inv.lnew {its:List Value}{t':Nat} (I:Inv X pins σ H s) (hv:Vals ys its) (hz:ys.length≤sizeLine) :
  Inv X pins σ (upd H s.heap.objs.size (.lst ys)) { s with heap:=s.heap.push { cls := .type "list", data := .seq its.toArray },toks:=t' } :=
 I.laid (fun _ _ q=>Heap.get?_push_of_some _ q) (Nat.le_refl _) ⟨hz,its,0,hv,Heap.get?_push_size _ rfl⟩
theorem Inv.fresh (I:Inv X pins σ H s):H s.heap.objs.size=none:=I.hok.fresh (Nat.le_refl _)
theorem Inv.lstM (I:Inv X pins σ H s) (hH:H l=some (.lst xs)):xs.length≤sizeLine∧∃ (its:List Value) (n:Nat),Vals xs its∧xs.length=its.length∧s.heap.get? l=some { cls := .type "list", data := .seq its.toArray n }:=by
 obtain ⟨z,its,n,r,e⟩:=I.hok l _ hH
 exact ⟨z,its,n,r,r.length,e⟩
theorem zJ {n:Nat} (h:n≤sizeLine):Builtin.List.listTooLong n=false:=by
 unfold Builtin.List.listTooLong
 exact decide_eq_false (by omega)
end
section
variable {X:Cx}
def tD:V→List V→Hp→VK→Prop:=fun x vs H Q=>∃ l xs y,x = .ref l∧vs=[y]∧H l=some (.lst xs)∧xs.length < sizeLine∧Q .non (upd H l (.lst (xs++[y])))
theorem fH:MtM X "list.append" tD:=by
 intro pins s σ H x vs v us Q I rx rv h
 obtain ⟨l,xs,y,rfl,rfl,hH,hz,q⟩:=h
 cases rx
 obtain ⟨u,rfl,ru⟩:=rv.one
 obtain ⟨z,its,n,r,hl,e⟩:=I.lstM hH
 refine call_meets F.slot_list_append ⟨_,e,rfl⟩ F.entry_list_append (F.args_list_append_2 _ _) (PySem.list_append l its.toArray n u (by rw [List.size_toArray]; omega)) ⟨e,?_⟩
 refine ⟨.non,_,I.lset (its':=its++[u]) hH e (by simp) (r.append (.cons ru .nil)) ?_,rfl,q⟩
 rw [List.length_append,List.length_singleton]
 omega
def rCat:R2:=fun x y H Q=>∃ l b xs zs,x = .ref l∧y = .ref b∧H l=some (.lst xs)∧H b=some (.lst zs)∧xs.length+zs.length≤sizeLine∧∀ p,H p=none→Q (.ref p) (upd H p (.lst (xs++zs)))
theorem d6:OpR X (binaryOp .Add) rCat:=by
 intro pins s σ H x y v u Q I rx ry h
 obtain ⟨l,b,xs,zs,rfl,rfl,hH,hB,hz,q⟩:=h
 cases rx
 cases ry
 obtain ⟨z,its,n,r,hl,e⟩:=I.lstM hH
 obtain ⟨z2,its2,n2,r2,hl2,e2⟩:=I.lstM hB
 refine PySem.P.add_list e e2 ?_ (by rw [List.size_toArray,List.size_toArray]; omega)
 have ea:its.toArray++its2.toArray=(its++its2).toArray:=by simp
 rw [ea]
 exact ⟨.ref _,_,I.lnew (t':=s.toks) (r.append r2) (by rw [List.length_append]; omega),rfl,q _ I.fresh⟩
end
section
variable {prog:Program}{w:World}{A:Around}{E:Value→Shared→Prop}{s:Shared}
set_option maxRecDepth 100000 in
end
section
variable {X:Cx}
end
end L2
namespace Att
open PySem PySem.W PySem.Calls PyProof.Rows
theorem oE {P:Params}{h:Heap}:∀ (ns:List Int) (vs:List Value),WellAll P h vs (ns.map WData.int)→IntsAre vs ns:=by
 intro ns
 induction ns with
 | nil =>
  intro vs w
  rw [List.map_nil] at w
  cases w
  exact .nil
 | cons n ns ih =>
  intro vs w
  rw [List.map_cons] at w
  cases w with
  | cons a b =>
   cases a
   exact .cons _ _ (ih _ b)
theorem wN {l:OpenLaw}{n:Nat} (hn:l.most=some n) {P:Params}{h:Heap}{args:List WData}{vals:List Value}
  (hpre:l.row.toRowW.claim.pre args=true) (hwl:WellAll P h vals args) :
  ∃ a vs ns,vals=[Value.ref a]∧args=[WData.list (ns.map WData.int)]∧h.get? a=some { cls := .type "list", data := .seq vs.toArray }∧IntsAre vs ns∧ns.length≤n:=by
 have hsh:WShape.hasAll [] args [.list .int]=true:=(pre_splitW hpre).1
 have hc:l.pre.holds [] { args:=args }=true:=(pre_splitW hpre).2
 obtain ⟨d,r,rfl,h1,h2⟩:=hasAllW_cons hsh
 obtain rfl:=hasAllW_nil h2
 obtain ⟨xs,rfl,h3⟩:=hasW_list h1
 obtain ⟨ns,rfl⟩:=items_int h3
 have hlen:ns.length≤n:=by
  unfold OpenLaw.pre at hc
  have h4:(WTm.not (.lt (.lit (.int (n:Int))) (.len (.arg 0)))).holds [] { args:=[.list (ns.map .int)] }=true:=by
   have h4:=(holds_andW hc).1
   rw [hn] at h4
   exact h4
  have h5:=condW_of h4 (w_not (w_lt w_lit (w_len_list (w_arg rfl))))
  rw [List.length_map] at h5
  refine Nat.le_of_not_lt fun q => ?_
  have q':(n:Int) < ((ns.length:Nat):Int):=by omega
  first
   | (rw [decide_eq_true q'] at h5; exact absurd h5 (by decide))
   | (simp at h5; omega)
 cases hwl with
 | cons w1 w2 =>
  cases w2
  cases w1 with
  | list ho hall=>exact ⟨_,_,ns,rfl,rfl,ho,oE ns _ hall,hlen⟩
theorem vV (l:OpenLaw) (args:List WData):l.row.toRowW.claim.post args (.bool true) args=true :=
 postW_of (r:=l.row.toRowW) (X:=(true == true))
  (show WShape.has [] (.bool true) .bool=true by first | rfl | decide | simp [WShape.has,WShape.arms,WShape.armsAll])
  (show (WTm.eq .res (.lit (.bool true))).value [] { args:=args,res:=some (.bool true),after:=args }=some (.bool (true == true)) from w_eq_bool (w_res rfl) w_lit) rfl
theorem sQ {l:OpenLaw}{n:Nat}{q:Program}{loose:List Str}{XP:(Str→Option Value)→Heap→Prop}{YP:World→Heap→Prop}{d:DefRec}
  (hn:l.most=some n) (hdf:d.params.defaults=[])
  (call:∀ (w:World) (s₀ s₁:Shared) (mg mb:Str→Option Value) (fa:Addr) (o:Obj) (pm cd doc:Value) (a:Addr) (vs:List Value) (ns:List Int),
   Ground q loose [] XP w s₀ mg mb s₁.heap→YP w s₁.heap →
   s₁.heap.get? fa=some o→o.data = .func (docDef d.name d.params d.body d.scope pm cd doc)→s₁.heap.CodeRec cd d.name→mg d.name=some (.ref fa) →
   s₁.heap.get? a=some { cls := .type "list", data := .seq vs.toArray }→IntsAre vs ns→ns.length≤n→s₁.gens = #[] →
   codeAny (model l.prog w) callerA (.call (.ref fa) ⟨[.ref a],[]⟩) (fun r s'=>r = .ok (.ret (.bool true))∧OldK s₁.heap s'.heap∧s'.os=s₁.os∧AllBare s'.gens) s₁) :
  WalkO q loose XP YP l.row.toRowW d [] (fun f vs=>PySem.call f vs):=by
 intro w s₀ s₁ mg mb G Y fa o pm cd doc dV kV ho hd hcd hD hmg hg args vals as hpre hlay hrd hwl hlo
 obtain rfl:dV = .none:=Dflts.none hD hdf
 obtain rfl:kV = .none:=Dflts.noKw hD
 obtain ⟨a,vs,ns,rfl,rfl,hobj,hints,hlen⟩:=wN hn hpre hwl
 refine enter_call (codeAny_mono (call w s₀ s₁ mg mb fa o pm cd doc a vs ns G Y ho (fd_plain hd) hcd hmg hobj hints hlen hg) fun r s' hq => ?_)
 obtain ⟨rfl,h2,h3,h4⟩:=hq
 exact ⟨.inl ⟨.bool true, .bool true,[],rfl,fun _=>rfl, .bool true,vV l _,fun _=>⟨List.Pairwise.nil,fun _ hm=>(nomatch hm)⟩⟩,h2,h3,h4⟩
section
variable {prog:Program}{w:World}{A:Around}{E:Value→Shared→Prop}{s:Shared}{K:Frag}
end
end Att
namespace L2
open PySem PySem.Spec PyProof.Rows
theorem jE:∀ {vs:List Value}{ns:List Int},IntsAre vs ns→Vals (ns.map V.int) vs
 | _,_, .nil => .nil
 | _,_, .cons n t h => .cons ⟨t,rfl⟩ (jE h)
def Only (H:Hp):Prop:=∀ b,H b=none∨∃ o xs,H b=some (.frz o (.lst xs))
theorem aAB {P:Program}{w:World}{K:PySem.W.Frag}{mg mb:Str→Option Value}{CX:CXT}{k:Nat}{fa a:Addr}{fd:FuncData}{x:Str}{sp:Sp}{s₁:Shared}{vs:List Value}{ns:List Int}
  (KX:K.In s₁.heap) (hns:s₁.heap.Ns mainGlobals mg) (hb:s₁.heap.Ns builtinsNs mb) (hbb:∀ x:Str,x ≠ "__name__" → mb x=bootBuiltins x) (hlim:s₁.heap.NoLimit) (hg:s₁.gens = #[])
  (ha:s₁.heap.get? a=some { cls := .type "list", data := .seq vs.toArray }) (hi:IntsAre vs ns) (hl:ns.length≤sizeLine) (hr:Room k callerA)
  (F:∀ base:Heap,K.In base→base.Ns mainGlobals mg→FnOk P w K mg base CX k fa fd [x] sp) (hbind:∀ (s:Shared) (u:Value),BindsTo s fd ⟨[u],[]⟩ [(x,u)])
  (hsp:∀ H:Hp,Only H→SqL K H a (ns.map V.int)→sp [.ref a] H (fun v _=>v = .bl true) fun _ _ _=>False)
  (hCX:∀ H e s',CX [] H s₁ (fun _ _ _=>False) e s'→False) :
  codeAny (model P w) callerA (.call (.ref fa) ⟨[.ref a],[]⟩) (fun r s'=>r = .ok (.ret (.bool true))∧OldK s₁.heap s'.heap∧s'.os=s₁.os∧AllBare s'.gens) s₁:=by
 have rv:=jE hi
 have lenV:=hi.length
 -- from an abstract heap in which nothing but the script may be tracked
 have core:∀ H:Hp,Only H→SqL K H a (ns.map V.int)→HOk P w H s₁.heap→(∀ b,H b≠none→b=a)→(H a≠none→K.lookup a=none) →
   codeAny (model P w) callerA (.call (.ref fa) ⟨[.ref a],[]⟩) (fun r s'=>r = .ok (.ret (.bool true))∧OldK s₁.heap s'.heap∧s'.os=s₁.os∧AllBare s'.gens) s₁:=by
  intro H hO hS hok hA hK
  have base_of:∀ {b:Addr}{o:Obj},s₁.heap.get? b=some o→H b=none→(hidT s₁.heap H).get? b=some o:=fun e n=>aAI e n
  have noA:∀ {b:Addr}{o:Obj}{es:Array DictEntry}{ep:Nat},s₁.heap.get? b=some o→o.data = .dict es ep→H b=none:=fun {b o es ep} e d=>by
   cases q:H b with
   | none=>rfl
   | some u =>
    have e':b=a:=hA b (by rw [q]; simp)
    subst e'
    rw [ha] at e; cases e
    have d':Data.seq vs.toArray _=Data.dict es ep:=d
    cases d'
  have nsK:∀ {b:Addr}{m:Str→Option Value},s₁.heap.Ns b m→(hidT s₁.heap H).Ns b m:=fun {b m} ⟨o,es,ep,e,d,r⟩=>⟨o,es,ep,base_of e (noA e d),d,r⟩
  have hKb:K.In (hidT s₁.heap H):=fun b o e=>base_of (KX b o e) (by
   cases q:H b with
   | none=>rfl
   | some u =>
    have e':b=a:=hA b (by rw [q]; simp)
    subst e'
    rw [hK (by rw [q]; simp)] at e; cases e)
  have hM:Mod K mg (hidT s₁.heap H):=⟨hKb,nsK hns,⟨mb,nsK hb,hbb⟩,let ⟨mc,h1,h2⟩:=hlim; ⟨mc,nsK h1,h2⟩⟩
  have e0:Env0 P w K mg (hidT s₁.heap H) callerA [] s₁ H:=⟨rfl,hM,fun b o e=>aC9 e,Nat.le_of_eq (yF _ _),trivial,fun b hb=>absurd (show b∈([]:List Addr) from hb) (by simp),hok, .of_eq hg⟩
  refine codeAny_mono ((F _ hKb (nsK hns)).run callerA [] s₁ H ⟨[.ref a],[]⟩ [.ref a] [.ref a] _ _ hr e0 (hbind s₁ (.ref a)) (.cons rfl .nil) (hsp H hO hS)) fun r s' h => ?_
  cases r with
  | error e=>exact (hCX H e s' h).elim
  | ok fl =>
   cases fl with
   | next=>exact False.elim h
   | brk=>exact False.elim h
   | cont=>exact False.elim h
   | ret u =>
    obtain ⟨v,H',os,bare,un,hok',r',q⟩:=h
    have q':v = .bl true:=q
    subst q'
    obtain rfl:u=Value.bool true:=r'
    refine ⟨rfl,OldK.of_keep fun b o e => ?_,os,bare⟩
    cases q:H b with
    | none=>exact un.keep b o e q (by intro z; exact absurd (show b∈([]:List Addr) from z) (by simp)) (by simp)
    | some u =>
     rcases hO b with z | ⟨ob,xs,z⟩
     ·rw [q] at z; cases z
     ·have z2:=un.frzs b ob _ z
      obtain ⟨e1,_⟩:=hok b _ z
      obtain ⟨e2,_⟩:=hok' b _ z2
      rw [e] at e1; cases e1
      exact e2
 cases hk:K.lookup a with
 | some o =>
  -- the script is one of the module's own objects
  have e:=KX a o hk
  rw [ha] at e
  cases e
  refine core (fun _=>none) (fun _ => .inl rfl) (.inr ⟨_,vs.toArray,_,hk,rfl,rfl,rfl,by rw [List.size_toArray,lenV]; exact hl,by simpa using rv⟩) (fun b u z=>by have z':(none:Option HO)=some u:=z; cases z') (fun b z=>absurd rfl z) fun z=>absurd rfl z
 | none =>
  refine core (fun b=>if b=a then some (.frz { cls := .type "list", data := .seq vs.toArray } (.lst (ns.map V.int))) else none) (fun b => ?_) (.inl (.inr ⟨{ cls := .type "list", data := .seq vs.toArray },if_pos rfl⟩)) (fun b u z => ?_) (fun b z => ?_) fun _=>hk
  ·by_cases hb:b=a
   ·exact .inr ⟨_,_,if_pos hb⟩
   ·exact .inl (if_neg hb)
  ·by_cases hb:b=a
   ·have z':=(if_pos hb).symm.trans z
    cases z'
    subst hb
    exact ⟨ha,by rw [List.length_map]; exact hl,vs,_,rv,ha⟩
   ·have z':=(if_neg hb).symm.trans z
    cases z'
  ·by_cases hb:b=a
   ·exact hb
   ·exact absurd (if_neg hb) z
theorem aBZ {l:PySem.W.OpenLaw}{n k:Nat}{q:Program}{loose:List Str}{XP:(Str→Option Value)→Heap→Prop}{YP:World→Heap→Prop}{d:DefRec}{K:Params→PySem.W.Frag}{CX:World→CXT}{sp:World→Sp}{x:Str}
  (hn:l.most=some n) (hn2:n≤sizeLine) (hdf:d.params.defaults=[]) (hr:Room k callerA)
  (hY:∀ (w:World) (h:Heap),YP w h→(K w.params).In h)
  (F:∀ (w:World) (mg:Str→Option Value) (fa:Addr) (h:Heap),(K w.params).In h→h.Ns mainGlobals mg→mg d.name=some (.ref fa) →
   ∃ fd:FuncData,(∀ (s:Shared) (u:Value),BindsTo s fd ⟨[u],[]⟩ [(x,u)]) ∧
    ∀ base:Heap,(K w.params).In base→base.Ns mainGlobals mg→FnOk l.prog w (K w.params) mg base (CX w) k fa fd [x] (sp w))
  (hsp:∀ (w:World) (H:Hp) (a:Addr) (ns:List Int),ns.length≤n→Only H→SqL (K w.params) H a (ns.map V.int)→sp w [.ref a] H (fun v _=>v = .bl true) fun _ _ _=>False)
  (hCX:∀ (w:World) (H:Hp) (s:Shared) (e:Value) (s':Shared),CX w [] H s (fun _ _ _=>False) e s'→False) :
  PySem.W.WalkO q loose XP YP l.row.toRowW d [] (fun f vs=>PySem.call f vs):=by
 refine Att.sQ hn hdf fun w s₀ s₁ mg mb fa o pm cd doc a vs ns G Y ho hd hcd hmg hobj hints hlen hg => ?_
 have KX:=hY w _ Y
 obtain ⟨fd,hb,hF⟩:=F w mg fa _ KX G.T.g hmg
 exact aAB KX G.T.g G.T.b G.T.builtins G.T.nolimit hg hobj hints (Nat.le_trans hlen hn2) hr hF hb (fun H hO hS=>hsp w H a ns hlen hO hS) fun H e s'=>hCX w H s₁ e s'
def eJ (s:Stmt):Arguments:=match s with
 | .FunctionDef _ a _ _ _ _ _ _ _ _=>a
 | _=>{ posonlyargs:=[],args:=[],vararg:=none,kwonlyargs:=[],kw_defaults:=[],kwarg:=none,defaults:=[] }
def dL (s:Stmt):List Stmt:=match s with
 | .FunctionDef _ _ b _ _ _ _ _ _ _=>b
 | _=>[]
def aO (s:Stmt):Scope:=match s with
 | .FunctionDef _ _ _ _ _ _ sc _ _ _=>sc
 | _=>{ kind := .function,names:=[],isGenerator:=false,isCoroutine:=false }
abbrev CX0:CXT:=fun _ _ _ _ _ _=>False
abbrev E0:XK:=fun _ _ _=>False
theorem pass0 {X:Cx}:Passes CX0 X E0:=fun _ _ _ _ _ _ _ h=>h.elim
structure Fun (K:PySem.W.Frag) (x qual:Str) (st:Stmt) (f:Addr) (fd:FuncData):Prop where
 ex:∃ (oc:Value) (od:Option Addr) (kV doc pm:Value) (an:Option Addr) (cdv ct:Value) (osl:Array (Option Value)),
  fd=PySem.W.fnOf x qual (eJ st) (dL st) (aO st) .none kV doc pm an cdv ct∧K.lookup f=some ⟨oc,od, .func fd,osl⟩∧PySem.W.codeIn K cdv qual=true
 kp:PySem.W.keepIn K (.ref f)=true
section
variable {P:Program}{w:World}{K:PySem.W.Frag}{mg:Str→Option Value}{base:Heap}
theorem Fun.ok {x qual:Str}{st:Stmt}{f:Addr}{fd:FuncData}{N ps:List Str}{k:Nat}{sp:Sp} (F:Fun K x qual st f fd) (S:FnScope N ps (aO st)) (len:∀ vs H Q E,sp vs H Q E→vs.length=ps.length)
  (hbody:∀ (cdv:Value) (A:Around) (outer:List Env) (s:Shared) (H:Hp) (vs:List V) (Q:VK) (E:XK),Room k (A.deeper (envOfC qual (aO st) s.heap.objs.size f cdv))→sp vs H Q E →
   ∃ t,PSs (cxOf CX0 P w K mg base N qual (aO st) f cdv A outer s H E).nox (dL st) t∧t { nx:=fun _ H'=>Q .non H',rt:=Q } (start N vs) H):FnOk P w K mg base CX0 (k+1) f fd ps sp:=by
 obtain ⟨oc,od,kV,doc,pm,an,cdv,ct,osl,rfl,lk,hcd⟩:=F.ex
 refine aF8 lk hcd S len fun A outer s H vs Q E hr hsp => ?_
 obtain ⟨t,h,q⟩:=hbody cdv A outer s H vs Q E hr hsp
 exact ⟨t,h.nox,q⟩
theorem Fun.binds {x qual:Str}{st:Stmt}{f:Addr}{fd:FuncData}{ps:List Str} (F:Fun K x qual st f fd)
  (h:∀ (kV doc pm:Value) (an:Option Addr) (cdv ct:Value) (us:List Value),us.length=ps.length→bindArgs (PySem.W.fnOf x qual (eJ st) (dL st) (aO st) .none kV doc pm an cdv ct) ⟨us,[]⟩=pure (ps.zip us)):Binds K fd ps []:=by
 obtain ⟨oc,od,kV,doc,pm,an,cdv,ct,osl,rfl,lk,hcd⟩:=F.ex
 exact .all (h kV doc pm an cdv ct)
theorem aFI {x qual:Str}{st:Stmt}{f:Addr}{oc:Value}{od an:Option Addr}{osl:Array (Option Value)}{kV doc pm cdv ct:Value} (l:K.lookup f=some ⟨oc,od, .func (PySem.W.fnOf x qual (eJ st) (dL st) (aO st) .none kV doc pm an cdv ct),osl⟩)
  (c:PySem.W.codeIn K cdv qual=true) (k:PySem.W.keepIn K (.ref f)=true):Fun K x qual st f (PySem.W.fnOf x qual (eJ st) (dL st) (aO st) .none kV doc pm an cdv ct):=⟨⟨oc,od,kV,doc,pm,an,cdv,ct,osl,rfl,l,c⟩,k⟩
end
section
variable {X:Cx}
end
theorem iteF {A B:Prop} (h:B):if false=true then A else B:=by
 rw [if_neg Bool.false_ne_true]
 exact h
theorem iteT {A B:Prop} (h:A):if true=true then A else B:=by
 rw [if_pos rfl]
 exact h
theorem ite2 {c A B:Prop} [Decidable c] (h1:c→A) (h2:¬ c→B):if c then A else B:=by
 by_cases h:c
 ·rw [if_pos h]
  exact h1 h
 ·rw [if_neg h]
  exact h2 h
def Same (H H':Hp):Prop:=∀ b o,H b=some o→H' b=some o
theorem Same.refl (H:Hp):Same H H:=fun _ _ h=>h
theorem Same.trans {H H1 H2:Hp} (a:Same H H1) (b:Same H1 H2):Same H H2:=fun c o h=>b c o (a c o h)
theorem Same.free {H H':Hp} (e:Same H H') {l:Addr} (h:H' l=Option.none):H l=Option.none:=by
 cases q:H l with
 | none=>rfl
 | some o =>
  rw [e l o q] at h
  cases h
theorem Same.seq {K:PySem.W.Frag}{H H':Hp}{a:Addr}{xs:List V} (e:Same H H') (h:SqL K H a xs):SqL K H' a xs:=by
 rcases h with (h | ⟨o,h⟩) | h
 ·exact .inl (.inl (e _ _ h))
 ·exact .inl (.inr ⟨o,e _ _ h⟩)
 ·exact .inr h
end L2
namespace L2
open PySem PySem.Spec PyProof.Rows
def big:Nat:=2 ^ 8000
def aFY (_ j:Int):Prop:=j≠0∧j.natAbs < big
def aF5 (i j:Int):Prop:=i.natAbs < big∧j.natAbs < big
theorem aAP {n:Nat} (h:n < big):n.log2 < 9000:=by
 by_cases h0:n=0
 ·subst h0; decide
 ·exact Nat.lt_of_lt_of_le ((Nat.log2_lt h0).mpr h) (by decide)
section
variable {X:Cx}
theorem j9:OpR X (binaryOp .FloorDiv) (rI aFY fun i j => .int (i.fdiv j)) :=
 opI fun _ _ _ _ _ _ _ hc q=>floordiv_int hc.1 q (.inl (PyProof.noPylong_of_log2 (aAP hc.2)))
theorem eN:OpR X (binaryOp .Mult) (rI aF5 fun i j => .int (i * j)) :=
 opI fun _ _ _ _ _ _ _ hc q=>mul_int q (IntMulOk.of_le (m:=8000) (n:=8000) (intBits_le_iff.mpr hc.1) (intBits_le_iff.mpr hc.2) (by decide))
end
theorem aDY {K:PySem.W.Frag}{S T:String}{b:Bool} (h1:(Value.type S == Value.type T)=false) (h2:PySem.W.kitMeta T=true) (h3:(fastBuiltinMro S).map (·.contains (.type T))=some b) :
  PySem.W.kitOne K (.type S) (.type T)=some b:=by
 unfold PySem.W.kitOne PySem.W.kitCls
 rw [if_neg (by rw [h1]; exact Bool.false_ne_true)]
 show (if PySem.W.kitMeta T=true then _ else _)=_
 rw [if_pos h2]
 exact h3
theorem zP {K:PySem.W.Frag}{t:Value} (h:(t == t)=true:=by first | rfl | simp):PySem.W.kitOne K t t=some true:=by
 unfold PySem.W.kitOne; rw [if_pos h]
section
variable {X:Cx}
end
end L2
namespace L2
open PySem PySem.Spec PyProof.Rows
structure ExcK (K:PySem.W.Frag) (C:Addr):Prop where
 cd:(PySem.W.clsIn K C).isSome=true
 ga:PySem.W.findIn K (.ref C) "__getattribute__" = some (some (.builtin "BaseException.__getattribute__"))
 gt:PySem.W.findIn K (.ref C) "__getattr__" = some none
 cl:PySem.W.findIn K (.ref C) "__class__" = some (some (.builtin "object.__class__"))
 be:PySem.W.mroIn K C (.type "BaseException")=some true
 ob:PySem.W.mroIn K C (.type "object")=some true
section
variable {prog:Program}{w:World}{A:Around}{E:Value→Shared→Prop}{h:Heap}{g:Array GenState}{d:Drawn}{t:Nat}{os:OsState}{a C:Addr}{K:PySem.W.Frag}
end
section
variable {X:Cx}
end
end L2
namespace L2
open PySem PySem.Spec PyProof.Rows
structure Thrown (h₀:Heap) (H':Hp) (e T:Addr) (cls:Value) (h:Heap):Prop where
 ne:h₀.get? e=none
 nT:h₀.get? T=none
 He:H' e=none
 HT:H' T=none
 ob:∃ oe vs oT ts a0,h.get? e=some oe∧(oe.cls=cls∧vs[0]?=some a0)∧oe.data = .fields vs∧vs[1]?=some (.ref T)∧T≠e∧h.get? T=some oT∧oT.data = .fields ts∧ts[3]?=some .none
section
variable {X:Cx}{pins:List (Addr × Obj)}{σ:St}{H:Hp}{s:Shared}
end
end L2
namespace L2
open PySem PySem.Spec PyProof.Rows
def bmV:List Value:=[.type "ValueError", .type "Exception", .type "BaseException", .type "object"]
section
variable {X:Cx}{E:XK}{C:Addr}{x:Str}{np cpos pos:Pos}{e₀:Expr}{rest:List Expr}{ta:TA}
end
structure ThrownX (X:Cx) (pins:List (Addr × Obj)) (H':Hp) (e T:Addr) (cls:Value) (h:Heap):Prop where
 e0:X.s₀.heap.get? e=none
 T0:X.s₀.heap.get? T=none
 He:H' e=none
 HT:H' T=none
 eL:e≠X.env.locals
 TL:T≠X.env.locals
 ce:∀ x c,X.env.cells.lookup x=some c→c≠e∧c≠T
 pe:∀ p∈X.pn++pins,p.1≠e∧p.1≠T
 ob:∃ oe vs oT ts a0,h.get? e=some oe∧(oe.cls=cls∧vs[0]?=some a0)∧oe.data = .fields vs∧vs[1]?=some (.ref T)∧T≠e∧h.get? T=some oT∧oT.data = .fields ts∧ts[3]?=some .none
def XP (X:Cx) (pins:List (Addr × Obj)) (σ:St) (E:XK) (v:Value) (s':Shared):Prop:=∃ e T cls H',v = .ref e∧Inv X pins σ H' s'∧ThrownX X pins H' e T cls s'.heap∧E cls none H'
section
variable {X:Cx}{pins:List (Addr × Obj)}{σ:St}{H:Hp}{s s':Shared}
end
end L2
namespace L2
open PySem PySem.Spec PyProof.Rows
section
variable {X:Cx}{pins:List (Addr × Obj)}{σ:St}{H:Hp}{s:Shared}
end
end L2
namespace Num
theorem rC (a b:Int):Int.gcd b (a.fmod b)=Int.gcd a b:=by
 rw [Int.fmod_def,Int.gcd_comm a b]
 exact Int.gcd_sub_mul_left_right _ _ _
theorem t8 (a b:Int) (hb:b≠0):(a.fmod b).natAbs < b.natAbs:=by
 rcases Int.lt_or_gt_of_ne hb with h | h
 ·have h0:0 < -b:=by omega
  have e:a.fmod b = -((-a).fmod (-b)):=by rw [Int.neg_fmod_neg]; omega
  have h1:=Int.fmod_nonneg_of_pos (-a) h0
  have h2:=Int.fmod_lt_of_pos (-a) h0
  omega
 ·have h1:=Int.fmod_nonneg_of_pos a h
  have h2:=Int.fmod_lt_of_pos a h
  omega
def div (t b:Int):Int:=if b < 0 then -((Int.gcd t b:Nat):Int) else ((Int.gcd t b:Nat):Int)
def top (t b:Int):Int:=t.fdiv (div t b)
def bot (t b:Int):Int:=b.fdiv (div t b)
theorem pC {t b:Int} (h:b≠0):0 < Int.gcd t b:=Int.gcd_pos_of_ne_zero_right t h
theorem aDX {t b:Int} (h:b≠0):div t b≠0:=by
 have:=pC (t:=t) h
 unfold div; split <;> omega
theorem aCL (t b:Int):(div t b).natAbs=Int.gcd t b:=by
 unfold div; split <;> omega
theorem aB4 (t b:Int):div t b ∣ t:=by
 unfold div; split
 ·exact Int.neg_dvd.mpr (Int.gcd_dvd_left ..)
 ·exact Int.gcd_dvd_left ..
theorem aCN (t b:Int):div t b ∣ b:=by
 unfold div; split
 ·exact Int.neg_dvd.mpr (Int.gcd_dvd_right ..)
 ·exact Int.gcd_dvd_right ..
theorem uE (t b:Int):top t b * div t b=t:=Int.fdiv_mul_cancel (aB4 t b)
theorem o7 (t b:Int):bot t b * div t b=b:=Int.fdiv_mul_cancel (aCN t b)
theorem aDA {t b:Int} (h:b≠0):0 < bot t b:=by
 have e:=o7 t b
 have g:=pC (t:=t) h
 by_cases hb:b < 0
 ·have hd:div t b < 0:=by unfold div; rw [if_pos hb]; omega
  rcases Int.lt_trichotomy (bot t b) 0 with c | c | c
  ·have:=Int.mul_pos_of_neg_of_neg c hd; omega
  ·rw [c,Int.zero_mul] at e; omega
  ·exact c
 ·have hd:0 < div t b:=by unfold div; rw [if_neg hb]; omega
  rcases Int.lt_trichotomy (bot t b) 0 with c | c | c
  ·have:=Int.mul_neg_of_neg_of_pos c hd; omega
  ·rw [c,Int.zero_mul] at e; omega
  ·exact c
theorem low (t b:Int) (h:b≠0):Int.gcd (top t b) (bot t b)=1:=by
 have g:=pC (t:=t) h
 have e:Int.gcd (top t b * div t b) (bot t b * div t b)=Int.gcd (top t b) (bot t b) * (div t b).natAbs:=Int.gcd_mul_right ..
 rw [uE,o7,aCL] at e
 have e':1 * Int.gcd t b=Int.gcd (top t b) (bot t b) * Int.gcd t b:=by rw [Nat.one_mul]; exact e
 exact (Nat.eq_of_mul_eq_mul_right g e').symm
theorem cross (t b:Int) (h:b≠0):top t b * b=t * bot t b:=by
 have e1:=uE t b
 have e2:=o7 t b
 have d:=aDX (t:=t) h
 have:top t b * (bot t b * div t b)=top t b * div t b * bot t b:=by
  rw [Int.mul_assoc,Int.mul_comm (bot t b)]
 rw [e1,e2] at this
 exact this
theorem aEN (t b:Int):(top t b).natAbs≤t.natAbs:=Int.natAbs_fdiv_le_natAbs ..
theorem aD3 (t b:Int):(bot t b).natAbs≤b.natAbs:=Int.natAbs_fdiv_le_natAbs ..
theorem oS {k n m:Int} (h:k ∣ n * m) (g:Int.gcd k n=1):k ∣ m:=by
 have:=Int.dvd_gcd_mul_iff_dvd_mul.mpr h
 rw [g] at this
 simpa using this
theorem uniq {p q r s:Int} (hq:0 < q) (hs:0 < s) (g:Int.gcd p q=1) (g':Int.gcd r s=1) (e:p * s=r * q):p=r∧q=s:=by
 have d1:q ∣ s:=by
  have:q ∣ p * s:=⟨r,by rw [e,Int.mul_comm]⟩
  have h:=oS this (by rw [Int.gcd_comm]; exact g)
  exact h
 have d2:s ∣ q:=by
  have:s ∣ r * q:=⟨p,by rw [← e,Int.mul_comm]⟩
  exact oS this (by rw [Int.gcd_comm]; exact g')
 have h1:=Int.le_of_dvd hs d1
 have h2:=Int.le_of_dvd hq d2
 have hqs:q=s:=by omega
 subst hqs
 exact ⟨Int.eq_of_mul_eq_mul_right (by omega) e,rfl⟩
end Num
namespace R
open PySem L2
theorem BI:bootBuiltins "int" = some (.type "int"):=by decide +kernel
theorem BB:bootBuiltins "bool" = some (.type "bool"):=by decide +kernel
theorem BT:bootBuiltins "tuple" = some (.type "tuple"):=by decide +kernel
structure Df (K:PySem.W.Frag) (mg:Str→Option Value) (x:Str) (st:Stmt) (ps:List Str) (f:Addr) (fd:FuncData):Prop where
 F:Fun K x x st f fd
 b:Binds K fd ps []
 m:mg x=some (.ref f)
structure Bn (mg:Str→Option Value):Prop where
 isi:mg "isinstance" = none
 int:mg "int" = none
 bool:mg "bool" = none
 tuple:mg "tuple" = none
 len:mg "len" = none
 abs:mg "abs" = none
 range:mg "range" = none
 min:mg "min" = none
inductive Kn (K:PySem.W.Frag) (H:Hp):V→Prop
 | non:Kn K H .non
 | bl (b:Bool):Kn K H (.bl b)
 | int (i:Int):Kn K H (.int i)
 | str (x:Str):Kn K H (.str x)
 | lst {a:Addr}{xs:List V} (e:H a=some (.lst xs)):Kn K H (.ref a)
 | tup {a:Addr}{xs:List V} (e:H a=some (.tup xs)):Kn K H (.ref a)
section
variable {P:Program}{w:World}{K:PySem.W.Frag}{mg:Str→Option Value}{base:Heap}
theorem aCB (a:Int):(if a < 0 then -a else a)=((Int.gcd a 0:Nat):Int):=by
 rw [Int.gcd_zero_right]; split <;> omega
def num (t b:Int):HO := .tup [.int (Num.top t b), .int (Num.bot t b)]
end
end R
namespace R
open PySem L2
section
variable {P:Program}{w:World}{K:PySem.W.Frag}{mg:Str→Option Value}{base:Heap}
structure Kn2 (K:PySem.W.Frag) (H:Hp) (v:V):Prop where
 kn:Kn K H v
 two:∀ a x y,v = .ref a→H a=some (.tup [x,y])→Kn K H x∧Kn K H y
end
end R
namespace L2
open PySem PySem.Spec PyProof.Rows
end L2
namespace R
open PySem L2
structure Fd (H:Hp) (p:Addr) (b:Int):Prop where
 ex:∃ g m st:Int,H p=some (.lst [.int g, .int m, .int st])∧0≤g∧0≤m∧m < 2147483399∧0≤st∧st≤b
def But (p:Addr) (H H':Hp):Prop:=∀ c o,H c=some o→c≠p→H' c=some o
theorem But.trans {p:Addr}{H H1 H2:Hp} (a:But p H H1) (b:But p H1 H2):But p H H2:=fun c o e n=>b c o (a c o e n) n
section
variable {P:Program}{w:World}{K:PySem.W.Frag}{mg:Str→Option Value}{base:Heap}
theorem xF (x:Int) {m:Int} (h0:0 < m) (h1:m < 2 ^ 64) : -(2 ^ 64) < x % m∧x % m < 2 ^ 64:=by
 have:=Int.emod_nonneg x (show m≠0 by omega)
 have:=Int.emod_lt_of_pos x h0
 omega
end
end R
namespace R
open PySem L2
section
variable {P:Program}{w:World}{K:PySem.W.Frag}{mg:Str→Option Value}{base:Heap}
def ten60:Nat:=10 ^ 60
end
end R
namespace R
open PySem L2
structure Ex (K:PySem.W.Frag) (mg:Str→Option Value) (CR CN CY CP CT CW CM:Addr):Prop where
 mR:mg "RoofError" = some (.ref CR)
 mN:mg "NoNumber" = some (.ref CN)
 mY:mg "NoYard" = some (.ref CY)
 mP:mg "NoPoint" = some (.ref CP)
 mT:mg "NoText" = some (.ref CT)
 mW:mg "NoRow" = some (.ref CW)
 mM:mg "NoName" = some (.ref CM)
 vE:mg "ValueError" = none
 xN:PySem.W.excIn K CN bmV "ValueError.__new__" = true
 kN:ExcK K CN
 cN:PySem.W.exmOne K (.ref CN) (.ref CR)=some true
 iV:PySem.W.kitOne K (.ref CN) (.type "ValueError")=some true
 iO:PySem.W.kitAny K (.ref CN) [.ref CM, .ref CP, .ref CW, .ref CT, .ref CY]=some false
section
variable {P:Program}{w:World}{K:PySem.W.Frag}{mg:Str→Option Value}{base:Heap}{CR CN CY CP CT CW CM:Addr}
end
end R
namespace R
open PySem L2
theorem Kn2.tup {K:PySem.W.Frag}{H:Hp}{a:Addr}{xs:List V} (e:H a=some (.tup xs)) (h:∀ x∈xs,Kn K H x):Kn2 K H (.ref a):=by
 refine ⟨.tup e,fun b x y eb q => ?_⟩
 cases eb
 rw [e] at q; cases q
 exact ⟨h x (by simp),h y (by simp)⟩
theorem Kn2.lst {K:PySem.W.Frag}{H:Hp}{a:Addr}{xs:List V} (e:H a=some (.lst xs)):Kn2 K H (.ref a):=by
 refine ⟨.lst e,fun b x y eb q => ?_⟩
 cases eb
 rw [e] at q; cases q
section
variable {P:Program}{w:World}{K:PySem.W.Frag}{mg:Str→Option Value}{base:Heap}
end
end R
namespace R
open PySem L2
theorem j8 {b z:Int} (hb:b.natAbs≤ten60) (z0:0≤z) (z1:z < 7):(b * (z - 3) / 1000).natAbs≤4 * ten60:=by
 have h1:(b * (z - 3)).natAbs≤ten60 * 3:=by
  rw [Int.natAbs_mul]
  exact Nat.mul_le_mul hb (by omega)
 have:1≤ten60:=by decide
 omega
section
variable {P:Program}{w:World}{K:PySem.W.Frag}{mg:Str→Option Value}{base:Heap}
end
end R
namespace R
open PySem L2
end R
namespace L2
open PySem PySem.Spec PyProof.Rows
section
variable {prog:Program}{w:World}{A:Around}{E:Value→Shared→Prop}{s:Shared}
theorem kY {h:Heap}{a:Addr}{its:Array Value} (x:PlainL h a its):h.IsList a its:=let ⟨o,n,e,c,_,d⟩:=x; ⟨o,e,c,n,d⟩
theorem qZ {it l:Addr}{items:Array Value} (hne:l≠it):∀ (n i:Nat) (s:Shared) (Q:List Value→Shared→Prop),s.heap.IsListIter it l i→PlainL s.heap l items→i+n≤items.size →
  (∀ h',h'.IsListIter it l (i+n)→Heap.ExtBut it s.heap h'→Q ((items.toList.drop i).take n) { s with heap:=h' })→wpAny (model prog w) A (draw (.ref it) n) Q E s
 | 0,i,s,Q,hit,_,_,hQ=>by
  show wpAny _ _ (pure []) Q E s
  exact wpAny_pure (by simpa using hQ s.heap hit (fun _ _ _ e=>e))
 | n+1,i,s,Q,hit,ht,hle,hQ=>by
  have hlt:i < items.size:=by omega
  show wpAny _ _ (pyNext (.ref it) >>= _) Q E s
  refine wpAny_bind (wpAny_pyNext_list_item hit (kY ht) (x:=items[i]) (by simp [hlt]) fun h1 hit1 hs1 => ?_)
  refine wpAny_bind (wpAny_holding (qZ hne n (i+1) _ _ hit1 (ht.extBut hs1.extBut hne) (by omega) fun h2 hit2 hs2=>wpAny_pure ?_))
  have hd:items.toList.drop i=items[i]::items.toList.drop (i+1):=by simp [List.drop_eq_getElem_cons,hlt]
  have z:=hQ h2 (by rw [show i+(n+1)=i+1+n by omega]; exact hit2) (fun b o hb e=>hs2 b o hb (hs1.extBut b o hb e))
  rw [hd,List.take_succ_cons] at z
  exact z
theorem uW {t:Addr}{items:Array Value}{targets:List (Bool × (Value→Sem Unit))}{Q:Unit→Shared→Prop} (hh:A.handled=none) (ht:PlainL s.heap t items)
  (hn:targets.length=items.size) (hstar:targets.findIdx? (·.1)=none)
  (h:∀ h',Heap.ExtBut s.heap.objs.size s.heap h'→wpAny (model prog w) A (assignInOrder (targets.map (·.2)) items.toList) Q E { s with heap:=h' }) :
  wpAny (model prog w) A (unpack (.ref t) targets) Q E s:=by
 have hlt:t≠s.heap.objs.size:=by obtain ⟨o,_,ho,_⟩:=ht; exact Nat.ne_of_lt (Heap.lt_size ho)
 unfold unpack
 rw [hn,hstar]
 refine wpAny_bind (wpAny_holding ?_)
 unfold unpackItems
 refine wpAny_bind ?_
 unfold notIterableAtAll
 refine wpAny_bind (wpAny_specialOf (kY ht).typeIs slot_list_iter.lookup ?_)
 refine wpAny_pure ?_
 simp only [Bool.false_eq_true,if_false]
 refine wpAny_bind (wpAny_holding (wpAny_pyIter_list (kY ht) ?_))
 refine wpAny_bind (wpAny_holding (qZ hlt items.size 0 _ _ ⟨_,Heap.get?_push_size _ rfl,rfl,rfl⟩ (ht.keeps fun b o e=>Heap.get?_push_of_some _ e) (by omega) fun h1 hit1 hs1 => ?_))
 have hall:List.take items.size (List.drop 0 items.toList)=items.toList:=by
  rw [List.drop_zero]; exact List.take_of_length_le (by simp)
 rw [hall]
 rw [if_neg (by simp)]
 have ht1:PlainL h1 t items:=PlainL.extBut (ht.keeps fun b o e=>Heap.get?_push_of_some _ e) hs1 hlt
 refine wpAny_bind (wpAny_holding (wpAny_pyNext_list_end hh hit1 (kY ht1) (by simp) fun h2 he2 => ?_))
 simp only [Option.isSome_none,Bool.false_eq_true,if_false]
 exact wpAny_pure (h h2 fun b o hb e=>he2 b o hb (hs1 b o hb (Heap.get?_push_of_some _ e)))
end
section
variable {X:Cx}{pos:Pos}
def gLst (K:PySem.W.Frag) (n:Nat) (t:TGs):TG:=fun v σ H Q=>∃ a xs,v = .ref a∧SqL K H a xs∧xs.length=n∧t xs σ H Q
theorem aDS {es:List Expr}{k:Nat}{t:TGs}{n:Nat} (hc:X.calm=true) (h:PGs X es t)
  (hn:(assignEach es X.env).length=n:=by rfl) (hst:(assignEach es X.env).findIdx? (·.1)=none:=by rfl):PG X (.Tuple es k pos) (gLst X.K n t):=by
 intro pins s σ H v u Q I r hw
 obtain ⟨a,xs,e1,hq,hl,hw⟩:=hw
 subst e1
 cases r
 obtain ⟨its,rv,ht,hz⟩:=I.list hq
 rw [assign_Tuple]
 refine wpAny_bind (wpAny_standAt (uW (I.ok.hd hc) ht (by simp [hn,← hl,rv.length]) hst fun h' hx => ?_))
 have I1:Inv X pins σ H { s with heap:=h' }:=I.kept (t':=s.toks) fun b o e=>hx b o (Nat.ne_of_lt (Heap.lt_size e)) e
 exact h pins _ σ H xs _ Q I1 (by simpa using rv) hw
end
end L2
namespace Num
theorem pV (t b:Int) (hb:b≠0):top t b=(Rat.divInt t b).num∧bot t b=((Rat.divInt t b).den:Int):=by
 have hd:((Rat.divInt t b).den:Int)≠0:=by have:=(Rat.divInt t b).den_nz; omega
 have e:(Rat.divInt t b).num * b=t * ((Rat.divInt t b).den:Int):=by
  have:=Rat.num_divInt_den (Rat.divInt t b)
  exact (Rat.divInt_eq_divInt_iff hd hb).mp this
 have g:Int.gcd (Rat.divInt t b).num ((Rat.divInt t b).den:Int)=1:=by
  have:=(Rat.divInt t b).reduced
  rw [Int.gcd_eq_natAbs_gcd_natAbs]
  exact this
 refine uniq (aDA hb) (by have:=(Rat.divInt t b).den_pos; omega) (low t b hb) g ?_
 have c:=cross t b hb
 have h1:top t b * ((Rat.divInt t b).den:Int) * b=(Rat.divInt t b).num * bot t b * b:=by
  rw [Int.mul_right_comm,c,Int.mul_right_comm,← e,Int.mul_right_comm]
 exact Int.eq_of_mul_eq_mul_right hb h1
theorem tJ (x y:Rat):Rat.divInt (x.num * (y.den:Int) - y.num * (x.den:Int)) ((x.den:Int) * (y.den:Int))=x - y:=by
 have h1:(x.den:Int)≠0:=by have:=x.den_nz; omega
 have h2:(y.den:Int)≠0:=by have:=y.den_nz; omega
 rw [← Rat.divInt_sub_divInt _ _ h1 h2,Rat.num_divInt_den,Rat.num_divInt_den]
theorem aB3 (x y:Rat):Rat.divInt (x.num * y.num) ((x.den:Int) * (y.den:Int))=x * y:=by
 rw [← Rat.divInt_mul_divInt,Rat.num_divInt_den,Rat.num_divInt_den]
theorem aB6 (x y:Rat):Rat.divInt (x.num * (y.den:Int)) ((x.den:Int) * y.num)=x / y:=by
 rw [← Rat.divInt_mul_divInt,Rat.num_divInt_den,Rat.div_def,Rat.inv_def]
end Num
namespace R
open PySem L2
structure Sz (k:Nat) (x:Rat):Prop where
 n:x.num.natAbs < 2 ^ k
 d:x.den < 2 ^ k
theorem fQ (x:Rat):((x.den:Nat):Int)≠0:=by have:=x.den_nz; omega
theorem aFJ {a b j k:Nat} (h1:a < 2 ^ j) (h2:b < 2 ^ k):a * b < 2 ^ (j+k):=by
 rw [Nat.pow_add]
 exact Nat.mul_lt_mul'' h1 h2
theorem kJ {a b:Int}{j k:Nat} (h1:a.natAbs < 2 ^ j) (h2:b.natAbs < 2 ^ k):(a * b).natAbs < 2 ^ (j+k):=by
 rw [Int.natAbs_mul]; exact aFJ h1 h2
theorem sM (k:Nat):2 ^ (k+1)=2 ^ k+2 ^ k:=by rw [Nat.pow_succ]; omega
theorem u9 {a b:Int}{k:Nat} (h1:a.natAbs < 2 ^ k) (h2:b.natAbs < 2 ^ k):(a - b).natAbs < 2 ^ (k+1):=by
 rw [sM]; generalize 2 ^ k=m at *; omega
theorem Sz.dn {k:Nat}{x:Rat} (h:Sz k x):((x.den:Nat):Int).natAbs < 2 ^ k:=by have:=h.d; omega
theorem vY {t b:Int}{k:Nat} (hb:b≠0) (h1:t.natAbs < 2 ^ k) (h2:b.natAbs < 2 ^ k):Sz k (Rat.divInt t b):=by
 obtain ⟨e1,e2⟩:=Num.pV t b hb
 refine ⟨?_,?_⟩
 ·rw [← e1]; exact Nat.lt_of_le_of_lt (Num.aEN t b) h1
 ·have:=Num.aD3 t b
  rw [e2] at this
  have e:(((Rat.divInt t b).den:Nat):Int).natAbs=(Rat.divInt t b).den:=by omega
  rw [e] at this
  exact Nat.lt_of_le_of_lt this h2
theorem aFQ {a b:Int} (h1:a≠0) (h2:b≠0):a * b≠0:=Int.mul_ne_zero h1 h2
theorem Sz.sub {j k:Nat}{x y:Rat} (h1:Sz j x) (h2:Sz k y):Sz (j+k+1) (x - y):=by
 rw [← Num.tJ]
 refine vY (aFQ (fQ x) (fQ y)) (u9 (kJ h1.n h2.dn) ?_) ?_
 ·rw [Nat.add_comm]; exact kJ h2.n h1.dn
 ·exact Nat.lt_of_lt_of_le (kJ h1.dn h2.dn) (Nat.pow_le_pow_right (by decide) (by omega))
end R
namespace L2
open PySem PySem.Spec PyProof.Rows
theorem fF:∀ (names:List (Str × NameKind)) (n:Nat) (acc:List (Str × Addr)),cellsFrom n names acc=cellsFrom n names []++acc
 | [],_,_=>rfl
 | (name,kind)::r,n,acc=>by
  unfold cellsFrom
  split
  ·rw [fF r (n+1) ((name,n)::acc),fF r (n+1) [(name,n)],List.append_assoc]; rfl
  ·exact fF r n acc
theorem oA:∀ (names:List (Str × NameKind)) (n:Nat) (acc:List (Str × Addr)) {y:Str}{c:Addr},(y,c)∈cellsFrom n names acc→(y,NameKind.cell)∈names∨(y,c)∈acc
 | [],_,_,_,_,h => .inr h
 | (name,kind)::r,n,acc,y,c,h=>by
  unfold cellsFrom at h
  split at h
  ·rename_i hk
   rcases oA r (n+1) _ h with q | q
   ·exact .inl (List.mem_cons_of_mem _ q)
   ·rcases List.mem_cons.mp q with q | q
    ·cases q
     have:kind = .cell:=by simpa using hk
     exact .inl (by rw [this]; exact List.mem_cons_self)
    ·exact .inr q
  ·rcases oA r n _ h with q | q
   ·exact .inl (List.mem_cons_of_mem _ q)
   ·exact .inr q
theorem iG {y:Str}:∀ {l m:List (Str × Addr)},(l++m).lookup y=match l.lookup y with | some c=>some c | none=>m.lookup y
 | [],_=>rfl
 | (n,c)::l,m=>by
  rw [List.cons_append,List.lookup_cons,List.lookup_cons]
  cases y == n with
  | true=>rfl
  | false=>exact iG (l:=l) (m:=m)
theorem kW {scope:Scope}{env:Env}:∀ (names:List (Str × NameKind)) (acc:List (Str × Addr)),
  (∀ n,(n,NameKind.free)∈names→∃ c,env.cells.lookup n=some c)→(∀ n c,acc.lookup n=some c→env.cells.lookup n=some c) →
  ∃ cl,(forIn names acc fun x cs=>(if x.2 == NameKind.free then (do let c ← cellOf env x.1; pure (ForInStep.yield ((x.1,c)::cs))) else pure (ForInStep.yield cs)):Sem (List (Str × Addr)))=pure cl ∧
   (∀ n c,cl.lookup n=some c→env.cells.lookup n=some c)∧(∀ n,(n,NameKind.free)∈names→∃ c,cl.lookup n=some c)∧∀ n c,acc.lookup n=some c→∃ c',cl.lookup n=some c'
 | [],acc,_,h2=>⟨acc,rfl,h2,(fun _ h=>nomatch h),fun n c e=>⟨c,e⟩⟩
 | (name,kind)::r,acc,h1,h2=>by
  have h1':∀ n,(n,NameKind.free)∈r→∃ c,env.cells.lookup n=some c:=fun n hn=>h1 n (List.mem_cons_of_mem _ hn)
  by_cases hk:kind = .free
  ·subst hk
   obtain ⟨c,hc⟩:=h1 name List.mem_cons_self
   obtain ⟨cl,e,q1,q2,q3⟩:=kW (scope:=scope) (env:=env) r ((name,c)::acc) h1' (fun n c' hn=>by
    rw [List.lookup_cons] at hn
    cases hb:n == name with
    | true =>
     rw [hb] at hn
     have:n=name:=by simpa using hb
     subst this
     cases hn; exact hc
    | false=>rw [hb] at hn; exact h2 n c' hn)
   refine ⟨cl,?_,q1,fun n hn => ?_,fun n c' hn => ?_⟩
   ·rw [List.forIn_cons]
    simp only [beq_self_eq_true,if_true]
    have e0:cellOf env name=pure c:=by unfold cellOf; rw [hc]
    rw [e0]
    exact e
   ·rcases List.mem_cons.mp hn with z | z
    ·cases z
     exact q3 _ c (by rw [List.lookup_cons,beq_self_eq_true])
    ·exact q2 n z
   ·cases hb:n == name with
    | true=>exact q3 n c (by rw [List.lookup_cons,hb])
    | false=>exact q3 n c' (by rw [List.lookup_cons,hb]; exact hn)
  ·obtain ⟨cl,e,q1,q2,q3⟩:=kW (scope:=scope) (env:=env) r acc h1' h2
   refine ⟨cl,?_,q1,fun n hn => ?_,q3⟩
   ·rw [List.forIn_cons]
    have hb:(kind == NameKind.free)=false:=by simpa using hk
    simp only [hb,Bool.false_eq_true,if_false]
    exact e
   ·rcases List.mem_cons.mp hn with z | z
    ·cases z; exact absurd rfl hk
    ·exact q2 n z
theorem qC {scope:Scope}{env:Env} (h:∀ n,(n,NameKind.free)∈scope.names→∃ c,env.cells.lookup n=some c) :
  ∃ cl,closureFor scope env=pure cl∧(∀ n c,cl.lookup n=some c→env.cells.lookup n=some c)∧(∀ n,(n,NameKind.free)∈scope.names→∃ c,cl.lookup n=some c):=by
 obtain ⟨cl,e,q1,q2,_⟩:=kW (scope:=scope) (env:=env) scope.names [] h (fun n c e=>by cases e)
 refine ⟨cl,?_,q1,q2⟩
 show ((forIn scope.names [] fun x cs=>(if x.2 == NameKind.free then (do let c ← cellOf env x.1; pure (ForInStep.yield ((x.1,c)::cs))) else pure (ForInStep.yield cs)):Sem (List (Str × Addr))) >>= fun cs=>pure cs)=pure cl
 rw [e]
 rfl
theorem sV {M:Model}{A:Around}{E:Value→Shared→Prop}{s:Shared}{scope:Scope}{globals:Addr}{cl:List (Str × Addr)}{qual:Str}{code:Value}{env:Env}{Q:Env→Shared→Prop}
  (h:Q (newEnv scope s.heap.objs.size globals (cellsFrom (s.heap.objs.size+1) scope.names cl) qual none code (some env) builtinsNs) { s with heap:=pushCells (s.heap.push { cls := .type "dict", data := .dict #[] }) scope.names }) :
  wpAny M A (newFunctionEnv scope globals cl [] qual none code (some env)) Q E s:=by
 simp only [newFunctionEnv,Option.isSome_some,if_true]
 refine wpAny_bind (wpAny_alloc ?_)
 refine wpAny_bind (wpAny_layCells _ (fun name kind cells=>by cases hkc:kind == NameKind.cell <;> simp [hkc]) _ _ _ _ ?_)
 rw [show ({ s with heap:=s.heap.push { cls := .type "dict", data := .dict #[] } }:Shared).heap.objs.size=s.heap.objs.size+1 from Heap.size_push ..]
 exact wpAny_bind (wpAny_pure (wpAny_pure h))
def aY (X:Cx) (scope:Scope) (cs:List (Str × Addr)) (C:Addr) (Nc:List Str) (s₀:Shared) (H₀:Hp) (fp:List Addr):Cx :=
 { X with N:=Nc,s₀:=s₀,H₀:=H₀,env:=compEnvC scope cs C X.env,outer:=X.stack,ex:=fp,fn:=fun y=>scope.names.lookup y == some .cell,pn:=[],xe:=fun _ _=>False }
theorem eH {env:Env}{y:Str}{k:NameKind}:∀ {names:List (Str × NameKind)},
  (names.map fun (n,k)=>if (k == NameKind.free && env.scope.kind == .function && env.kindOf n == some .cell) then (n,NameKind.cell) else (n,k)).lookup y=some k →
  names.lookup y=some k∨(names.lookup y=some .free∧k = .cell)
 | [],h=>by cases h
 | (n,k')::r,h=>by
  have ih := @eH env y k r
  rw [List.map_cons] at h
  cases hy:y == n with
  | true =>
   rw [List.lookup_cons,hy]
   by_cases hc:(k' == NameKind.free && env.scope.kind == .function && env.kindOf n == some .cell)=true
   ·dsimp only at h
    rw [if_pos hc,List.lookup_cons,hy] at h
    cases h
    have:k' = .free:=by
     rw [Bool.and_eq_true,Bool.and_eq_true] at hc
     simpa using hc.1.1
    exact .inr ⟨by rw [this],rfl⟩
   ·dsimp only at h
    rw [if_neg hc,List.lookup_cons,hy] at h
    exact .inl h
  | false =>
   rw [List.lookup_cons,hy]
   by_cases hc:(k' == NameKind.free && env.scope.kind == .function && env.kindOf n == some .cell)=true
   ·dsimp only at h
    rw [if_pos hc,List.lookup_cons,hy] at h
    exact ih h
   ·dsimp only at h
    rw [if_neg hc,List.lookup_cons,hy] at h
    exact ih h
def PIf (Y:Cx) (ifs:List Expr) (tt:TT):Prop :=
 ∀ (pins:List (Addr × Obj)) (s:Shared) (σ:St) (H:Hp) (Q:Bool→Hp→Prop),Inv Y pins σ H s→tt σ H Q →
  wpAny (model Y.prog Y.w) Y.A (forIn ifs true fun c r=>if r=true then do let ok ← isTrue c Y.env (eval c Y.env); pure (ForInStep.yield ok) else pure (ForInStep.yield r)) (TP Y pins σ Q) Y.xe s
def aGR:TT:=fun _ H Q=>Q true H
theorem aCD {Y:Cx}:PIf Y [] aGR:=fun pins s σ H Q I h=>by
 rw [List.forIn_nil]
 exact wpAny_pure ⟨H,I,h⟩
theorem aCM {Y:Cx}{c:Expr}{tt:TT} (h:PT Y c tt):PIf Y [c] tt:=fun pins s σ H Q I q=>wpAny_tests_one (h pins s σ H Q I q)
theorem qH {prog:Program}{w:World}{A:Around}{R:Result→Shared→Prop}{s:Shared}{elt target iter:Expr}{ifs:List Expr}{scope:Scope}{pos:Pos}{it acc:Value}{env:Env} (I:Nat→Shared→Prop)
  (turn:∀ n s,I n s→wpAny (model prog w) A (pyNext it) (fun r s₁=>match r with
   | none=>R (.ok .next) s₁
   | some v=>wpAny (model prog w) A (letOwnedTupleGo target it v) (fun _ s₁'=>wpAny (model prog w) A (assign target env v) (fun _ s₂ =>
     wpAny (model prog w) A (forIn ifs true fun c r=>if r=true then do let ok ← isTrue c env (eval c env); pure (ForInStep.yield ok) else pure (ForInStep.yield r)) (fun ok s₃ =>
      if ok=true then wpAny (model prog w) A (eval elt env) (fun x s₄ =>
       wpAny (model prog w) A (call (.builtin "list.append") [acc,x]) (fun _ s₅=>∃ m,m < n∧I m s₅) (fun _ _=>False) s₄) (fun _ _=>False) s₃
      else ∃ m,m < n∧I m s₃) (fun _ _=>False) s₂) (fun _ _=>False) s₁') (fun _ _=>False) s₁) (fun _ _=>False) s)
  (n:Nat) (h:I n s) :
  codeAny (model prog w) A (.compLoop (.ListComp elt [⟨target,iter,ifs,0⟩] scope pos) 0 it acc env) R s:=by
 refine codeAny_loop rfl I (fun n s hI => ?_) n h
 show wpAny _ A ((compTurn (.ListComp elt [⟨target,iter,ifs,0⟩] scope pos) 0 it acc env).onRaise (fun x=>do noteFrame x env; theTreesLotGoes x)) _ _ s
 refine wpAny_noted ?_
 rw [compTurn_list]
 refine wpAny_bind (wpAny_standAt (wpAny_bind (wpAny_mono (turn n s hI) (fun r s₁ h₁ => ?_) fun _ _ h'=>h'.elim)))
 cases r with
 | none=>exact wpAny_pure h₁
 | some v =>
  refine wpAny_bind (wpAny_mono h₁ (fun _ s₁' h₁' => ?_) fun _ _ h'=>h'.elim)
  refine wpAny_bind (wpAny_mono h₁' (fun _ s₂ h₂=>wpAny_bind (wpAny_mono h₂ (fun ok s₃ h₃ => ?_) fun _ _ h'=>h'.elim)) fun _ _ h'=>h'.elim)
  cases ok with
  | false=>exact wpAny_pure ⟨rfl,h₃⟩
  | true =>
   exact wpAny_bind (wpAny_bind (wpAny_mono h₃ (fun x s₄ h₄=>wpAny_bind (wpAny_mono h₄ (fun _ s₅ h₅=>wpAny_pure (wpAny_pure ⟨rfl,h₅⟩)) fun _ _ h'=>h'.elim)) fun _ _ h'=>h'.elim))
def aGH (J:It) (cap:List Nat) (tt:TT) (te:TE) (σ:St) (H1:Hp) (Q:VK) (D:Addr):Prop:=∃ W:Nat→Nat→List V→Hp→Prop,(∃ m,W 0 m [] (upd H1 D (.lst [])))∧∀ i m ys H2,W i m ys H2 →
 H2 D=some (.lst ys)∧((J.stop i H2∧Q (.ref D) H2)∨(J.go i H2∧ys.length < sizeLine∧∀ x H3,J.yld i H2 x H3 →
  tt (some x::cap.map fun k=>(σ[k]?).join) H3 fun b H4=>if b=true then te (some x::cap.map fun k=>(σ[k]?).join) H4 fun y H5=>H5 D=some (.lst ys)∧∃ m',m' < m∧W (i+1) m' (ys++[y]) (upd H5 D (.lst (ys++[y])))
   else ∃ m',m' < m∧W (i+1) m' ys H4))
def mL (wi:TI) (cap:List Nat) (tt:TT) (te:TE):TE:=fun σ H Q=>wi σ H fun J H1=>∀ D,H1 D=none→aGH J cap tt te σ H1 Q D
structure CFree (X:Cx) (pins:List (Addr × Obj)) (H':Hp) (C:Addr):Prop where
 hn:H' C=none
 hL:C≠X.env.locals
 h1:X.s₀.heap.objs.size≤C
 h2:∀ x c,X.env.cells.lookup x=some c→c≠C
 h3:∀ p∈X.pn++pins,p.1≠C
theorem pT {X:Cx}{x:Str}{px pos:Pos}{iter elt:Expr}{ifs:List Expr}{scope:Scope}{ns:List Str}{cap:List Nat}{wi:TI}{tt:TT}{te:TE} (hc:X.calm=true) (hkind:scope.kind = .function)
  (hnames:∀ y∈scope.names,y.2 = .local→scope.names.lookup y.1=some .local) (hx:Loc (relabel scope X.env) x) (hxf:scope.names.lookup x=some .cell∨(relabel scope X.env).names.lookup x=some .local)
  (hNc:(x::ns).Nodup) (hlen:cap.length=ns.length) (hcap:∀ (j k:Nat) (nm:Str),cap[j]?=some k→ns[j]?=some nm→X.N[k]?=some nm∧(X.env.scope.names.lookup nm=some .cell∨X.env.scope.names.lookup nm=some .free))
  (hns:∀ nm∈ns,(nm,NameKind.free)∈scope.names∧(nm,NameKind.cell) ∉ scope.names) (hnsk:∀ nm∈ns,scope.names.lookup nm=some .free) (hfree:∀ y∈scope.names,y.2 = .free→X.env.scope.names.lookup y.1=some .cell∨X.env.scope.names.lookup y.1=some .free)
  (hi:PI X (.Name x px) iter wi)
  (ht:∀ cs C s₀ H₀ fp,PIf (aY X scope cs C (x::ns) s₀ H₀ fp) ifs tt) (he:∀ cs C s₀ H₀ fp,PE (aY X scope cs C (x::ns) s₀ H₀ fp) elt te)
  (hs:∀ v,foldedSetIterable iter X.env v=pure v:=by intro _; rfl)
  {use:Option (Value→Sem Unit)}{Q':Value→Shared→Prop}{pins:List (Addr × Obj)}{s:Shared}{σ:St}{H:Hp}{Q:VK}{ip:Pos} (I:Inv X pins σ H s) (h:mL wi cap tt te σ H Q)
  (hfin:∀ (D C:Addr) (H':Hp) (s':Shared),Inv X pins σ H' s'→Q (.ref D) H'→(∃ m,s'.heap.Ns C m)→CFree X pins H' C→compPost (model X.prog X.w) X.A X.xe use Q' (.ref D) C (.ok .next) s') :
  wpAny (model X.prog X.w) X.A (comprehension (.ListComp elt [⟨.Name x px,iter,ifs,0⟩] scope pos) scope X.env ip (newList []) false (eval iter X.env) use) Q' X.xe s:=by
 obtain ⟨cl,ecl,cl1,cl2⟩:=qC (scope:=scope) (env:=X.env) fun n hn=>I.ok.has n (hfree (n, .free) hn rfl)
 refine wpAny_comprehension_free (use:=use) rfl hs ecl hkind hnames (thn (hi pins s σ H _ I h) fun xv s1 h1=>thn h1 fun itv s2 h2 => ?_)
 obtain ⟨it,fp,tn,J,H2,rfl,I2,T,st2,f2,q⟩:=h2
 have hD:H2 s2.heap.objs.size=none:=I2.fresh
 obtain ⟨W,⟨m0,w0⟩,step⟩:=q s2.heap.objs.size hD
 refine wpAny_newObj_type ?_ (by show 0≤sizeLine; exact Nat.zero_le _)
 have I3:Inv X pins σ (upd H2 s2.heap.objs.size (.lst [])) { s2 with heap:=s2.heap.push { cls := .type "list", data := .seq ([]:List Value).toArray } } :=
  I2.laid (t':=s2.toks) (fun b u e=>Heap.get?_push_of_some _ e) (Nat.le_refl _) ⟨Nat.zero_le _,[],0, .nil,Heap.get?_push_size _ rfl⟩
 have sz3:(s2.heap.push { cls := .type "list", data := .seq ([]:List Value).toArray }).objs.size=s2.heap.objs.size+1:=Heap.size_push ..
 have hfp3:∀ b∈fp,∀ o,(upd H2 s2.heap.objs.size (.lst [])) b≠some o:=fun b hb o z=>by
  obtain ⟨ob,e,_⟩:=T.obj 0 _ st2 b hb
  rw [aU (Nat.ne_of_lt (Heap.lt_size e)),(f2 b hb).1] at z
  cases z
 revert I3 sz3 w0 step hfp3
 generalize upd H2 s2.heap.objs.size (.lst [])=H3
 generalize hs3:({ s2 with heap:=s2.heap.push { cls := .type "list", data := .seq ([]:List Value).toArray } }:Shared)=s3
 intro step w0 I3 sz3 hfp3
 have st3:tn 0 s3.heap:=T.keep 0 _ _ st2 fun b _ o e=>by rw [← hs3]; exact Heap.get?_push_of_some _ e
 have fpLt:∀ b∈fp,b < s3.heap.objs.size:=fun b hb=>by
  obtain ⟨o,e,_⟩:=T.obj 0 _ st3 b hb
  exact Heap.lt_size e
 refine sV ?_
 have new:CellsOk (pushCells (s3.heap.push { cls := .type "dict", data := .dict #[] }) scope.names) (s3.heap.objs.size+1) (cellsFrom (s3.heap.objs.size+1) scope.names []):=by
  have ok:=cellsFrom_ok scope.names (s3.heap.push { cls := .type "dict", data := .dict #[] }) (s3.heap.objs.size+1) [] ⟨fun _ _ hm=>(nomatch hm),List.Pairwise.nil⟩ (by rw [Heap.size_push]; exact Nat.le_refl _)
  rw [Heap.size_push] at ok
  exact ok
 have keep4:∀ b o,s3.heap.get? b=some o→(pushCells (s3.heap.push { cls := .type "dict", data := .dict #[] }) scope.names).get? b=some o:=fun b o e=>pushCells_keeps _ _ b o (Heap.get?_push_of_some _ e)
 have nsC:(pushCells (s3.heap.push { cls := .type "dict", data := .dict #[] }) scope.names).Ns s3.heap.objs.size (fun _=>none):=(Heap.Ns.new s3.heap (.type "dict")).keeps (pushCells_keeps _ _)
 have lk:∀ y c,(cellsFrom (s3.heap.objs.size+1) scope.names cl).lookup y=some c→((y,c)∈cellsFrom (s3.heap.objs.size+1) scope.names []∧(y,NameKind.cell)∈scope.names)∨(cl.lookup y=some c∧X.env.cells.lookup y=some c):=fun y c e=>by
  rw [fF,iG] at e
  cases z:(cellsFrom (s3.heap.objs.size+1) scope.names []).lookup y with
  | some c' =>
   rw [z] at e
   have e':c'=c:=Option.some.inj e
   subst e'
   have hm:=PySem.mem_of_lookup z
   rcases oA _ _ _ hm with q | q
   ·exact .inl ⟨hm,q⟩
   ·cases q
  | none=>rw [z] at e; exact .inr ⟨e,cl1 y c e⟩
 have oldLt:∀ y c,X.env.cells.lookup y=some c→c < s3.heap.objs.size:=fun y c e=>by
  obtain ⟨v,z⟩:=I3.cell y c e
  exact z.lt
 have hlk2:∀ nm∈ns,∃ c,(cellsFrom (s3.heap.objs.size+1) scope.names cl).lookup nm=some c∧X.env.cells.lookup nm=some c:=fun nm hnm=>by
  obtain ⟨h1,h2⟩:=hns nm hnm
  obtain ⟨c,e⟩:=cl2 nm h1
  refine ⟨c,?_,cl1 nm c e⟩
  rw [fF,iG]
  cases z:(cellsFrom (s3.heap.objs.size+1) scope.names []).lookup nm with
  | some c' =>
   rcases oA _ _ _ (PySem.mem_of_lookup z) with q | q
   ·exact absurd q h2
   ·cases q
  | none=>exact e
 show codeAny (model X.prog X.w) X.A (.compStart (.ListComp elt [⟨.Name x px,iter,ifs,0⟩] scope pos) 0 (.ref it) (.ref s2.heap.objs.size) (aY X scope (cellsFrom (s3.heap.objs.size+1) scope.names cl) s3.heap.objs.size (x::ns) s3 H3 fp).env) (compPost (model X.prog X.w) X.A X.xe use Q' (.ref s2.heap.objs.size) s3.heap.objs.size) { s3 with heap:=pushCells (s3.heap.push { cls := .type "dict", data := .dict #[] }) scope.names }
 have ht':=ht (cellsFrom (s3.heap.objs.size+1) scope.names cl) s3.heap.objs.size s3 H3 fp
 have he':=he (cellsFrom (s3.heap.objs.size+1) scope.names cl) s3.heap.objs.size s3 H3 fp
 have OK:(aY X scope (cellsFrom (s3.heap.objs.size+1) scope.names cl) s3.heap.objs.size (x::ns) s3 H3 fp).Ok:=by
  refine ⟨I3.ok.mod,hkind,I3.ok.glob,I3.ok.blt,Nat.le_refl _,fun y z c e1 e2 => ?_,fun y hy => ?_,fun y c hf e => ?_,fun _=>I3.ok.hd hc,I3.ok.frames, .inl rfl,fun b hb=>⟨Nat.ne_of_lt (fpLt b hb),fun y c e => ?_⟩,I3.bs,Nat.le_trans I3.ok.bsz I3.sz,fun b o e hb => ?_,fun b hb hm => ?_,I3.stack,I3.stkFree⟩
  ·rcases lk y c e1 with ⟨a1,_⟩ | ⟨a1,a2⟩ <;> rcases lk z c e2 with ⟨b1,_⟩ | ⟨b1,b2⟩
   ·exact name_of_addr new.apart a1 b1
   ·exact absurd (Nat.lt_of_lt_of_le (oldLt z c b2) (Nat.le_of_succ_le (new.empty y c a1).2)) (Nat.lt_irrefl _)
   ·exact absurd (Nat.lt_of_lt_of_le (oldLt y c a2) (Nat.le_of_succ_le (new.empty z c b1).2)) (Nat.lt_irrefl _)
   ·exact I3.ok.inj y z c a2 b2
  ·have key:scope.names.lookup y=some .cell∨scope.names.lookup y=some .free:=by
    rcases hy with hy | hy
    ·rcases eH (env:=X.env) (names:=scope.names) hy with q | ⟨q,_⟩
     ·exact .inl q
     ·exact .inr q
    ·rcases eH (env:=X.env) (names:=scope.names) hy with q | ⟨q,_⟩
     ·exact .inr q
     ·exact .inr q
   rcases key with q | q
   ·exact Option.isSome_iff_exists.mp (PySem.W.cellsFrom_some scope.names (s3.heap.objs.size+1) cl (.inl q))
   ·obtain ⟨c,e⟩:=cl2 y (PySem.mem_of_lookup q)
    exact Option.isSome_iff_exists.mp (PySem.W.cellsFrom_some scope.names (s3.heap.objs.size+1) cl (.inr (by rw [e]; rfl)))
  ·have hf':scope.names.lookup y=some .cell:=by
    have hf0:(scope.names.lookup y == some .cell)=true:=hf
    simpa using hf0
   have e':(cellsFrom (s3.heap.objs.size+1) scope.names cl).lookup y=some c:=e
   have e0:=Option.isSome_iff_exists.mp (PySem.W.cellsFrom_some scope.names (s3.heap.objs.size+1) [] (.inl hf'))
   obtain ⟨c',z⟩:=e0
   rw [fF,iG,z] at e'
   cases e'
   exact Nat.le_of_succ_le (new.empty y c (PySem.mem_of_lookup z)).2
  ·rcases lk y c e with ⟨a1,_⟩ | ⟨a1,a2⟩
   ·exact fun z=>absurd (Nat.lt_of_lt_of_le (fpLt b hb) (z ▸ Nat.le_of_succ_le (new.empty y c a1).2)) (Nat.lt_irrefl _)
   ·exact (f2 b hb).2.2.2.2.1 y c a2
  ·rcases (f2 b hb).2.2.2.1 with z | z
   ·exact I3.ok.noex b o e z
   ·exact absurd (Nat.lt_of_lt_of_le (Heap.lt_size (I3.ok.bs b o e).1) z) (Nat.lt_irrefl _)
  ·rcases List.mem_cons.mp (I3.stkSub b hm) with z | z
   ·exact (f2 b hb).2.1 z
   ·exact (f2 b hb).2.2.1 z
 have IY:Inv (aY X scope (cellsFrom (s3.heap.objs.size+1) scope.names cl) s3.heap.objs.size (x::ns) s3 H3 fp) [] (none::cap.map fun k=>(σ[k]?).join) H3 { s3 with heap:=pushCells (s3.heap.push { cls := .type "dict", data := .dict #[] }) scope.names }:=by
  refine ⟨OK,rfl,I3.bare,Un.kept keep4,⟨_,nsC,fun i nm v e1 e2 e3 => ?_⟩,fun y c e => ?_,I3.fresh,fun y c e => ?_,fun p hp=>absurd (show p∈([]:List (Addr × Obj)) from hp) (by simp),I3.hok.kept keep4,by simp [aY,hlen]⟩
  ·cases i with
   | zero=>cases e2
   | succ j =>
    have e1':ns[j]?=some nm:=e1
    have e2':(cap.map fun k=>(σ[k]?).join)[j]?=some (some v):=e2
    rw [List.getElem?_map] at e2'
    cases hk:cap[j]? with
    | none=>rw [hk] at e2'; cases e2'
    | some k =>
     rw [hk] at e2'
     have e2'':(σ[k]?).join=some v:=Option.some.inj e2'
     have e4:σ[k]?=some (some v):=by
      cases z:σ[k]? with
      | none=>rw [z] at e2''; cases e2''
      | some o=>rw [z] at e2''; exact congrArg some e2''
     obtain ⟨hN,hcell⟩:=hcap j k nm hk e1'
     obtain ⟨m,_,hl⟩:=I3.loc
     obtain ⟨u,r,l⟩:=hl k nm v hN e4 (.inr hcell)
     refine ⟨u,r,?_⟩
     rcases l with ⟨l1,_⟩ | ⟨_,c,ec,z⟩
     ·have l1':X.env.scope.names.lookup nm=some .local:=l1
      rcases hcell with q | q <;> rw [q] at l1' <;> cases l1'
     ·obtain ⟨c',g1,g2⟩:=hlk2 nm (List.mem_of_getElem? e1')
      rw [ec] at g2
      cases g2
      refine .inr ⟨?_,c,g1,?_⟩
      ·rcases e3 with q | q
       ·rcases eH (env:=X.env) (names:=scope.names) q with w1 | ⟨_,w1⟩
        ·exfalso
         have hmem:=(hns nm (List.mem_of_getElem? e1')).1
         have:=hnames (nm, .local) (PySem.mem_of_lookup w1) rfl
         -- a name has one kind in a scope: its cell is known,so it is not local here
         exact absurd (I3.ok.has nm (hfree (nm, .free) hmem rfl)) (fun _=>by
          have hk2:=(hnsk nm (List.mem_of_getElem? e1'))
          rw [w1] at hk2; cases hk2)
        ·cases w1
       ·exact q
      ·obtain ⟨o,ho,hd⟩:=z
       exact ⟨o,keep4 c o ho,hd⟩
  ·rcases lk y c e with ⟨a1,_⟩ | ⟨a1,a2⟩
   ·exact ⟨none,(new.empty y c a1).1⟩
   ·obtain ⟨v,o,ho,hd⟩:=I3.cell y c a2
    exact ⟨v,o,keep4 c o ho,hd⟩
  ·rcases lk y c e with ⟨a1,_⟩ | ⟨a1,a2⟩
   ·exact I3.hok.fresh (Nat.le_of_succ_le (new.empty y c a1).2)
   ·exact I3.freeC y c a2
 -- what is reached at the end
 have fin:∀ {σ':St}{H':Hp}{s':Shared},Inv (aY X scope (cellsFrom (s3.heap.objs.size+1) scope.names cl) s3.heap.objs.size (x::ns) s3 H3 fp) [] σ' H' s'→Q (.ref s2.heap.objs.size) H' →
   compPost (model X.prog X.w) X.A X.xe use Q' (.ref s2.heap.objs.size) s3.heap.objs.size (.ok .next) s':=fun {σ' H' s'} J qd=>by
  obtain ⟨m',hn',_⟩:=J.loc
  have hCn:H' s3.heap.objs.size=none:=J.free
  refine hfin _ _ H' s' (I3.call' (ch:=fp) J.os J.base J.hok J.bare fun b hb=>⟨(f2 b hb).2.2.2.1,(f2 b hb).2.1,(f2 b hb).2.2.2.2.1,(f2 b hb).2.2.2.2.2⟩) qd ⟨m',hn'⟩ ⟨hCn,Nat.ne_of_gt I3.lt,I3.sz,fun y c e=>Nat.ne_of_lt (oldLt y c e),fun p hp=>Nat.ne_of_lt (Heap.lt_size (I3.pin p hp).1)⟩
 have fpY:∀ {H':Hp},(∀ b∈fp,H' b=none)→∀ b∈fp,FpOk (aY X scope (cellsFrom (s3.heap.objs.size+1) scope.names cl) s3.heap.objs.size (x::ns) s3 H3 fp) [] H' b:=fun {H'} hn b hb =>
  ⟨hn b hb,(OK.exf b hb).1,OK.exfs b hb, .inl hb,(OK.exf b hb).2,fun p hp=>absurd (show p∈([]:List (Addr × Obj)) from hp) (by simp)⟩
 have st4:tn 0 (pushCells (s3.heap.push { cls := .type "dict", data := .dict #[] }) scope.names):=T.keep 0 _ _ st3 fun b _ o e=>keep4 b o e
 have fr3:∀ b∈fp,H3 b=none:=fun b hb=>by
  cases z:H3 b with
  | none=>rfl
  | some o=>exact absurd rfl (fun _:(1:Nat)=1=>hfp3 b hb o z)
 have loop:codeAny (model X.prog X.w) X.A (.compLoop (.ListComp elt [⟨.Name x px,iter,ifs,0⟩] scope pos) 0 (.ref it) (.ref s2.heap.objs.size) (aY X scope (cellsFrom (s3.heap.objs.size+1) scope.names cl) s3.heap.objs.size (x::ns) s3 H3 fp).env) (compPost (model X.prog X.w) X.A X.xe use Q' (.ref s2.heap.objs.size) s3.heap.objs.size) { s3 with heap:=pushCells (s3.heap.push { cls := .type "dict", data := .dict #[] }) scope.names }:=by
  refine qH (fun n s'=>∃ i ys o H',Inv (aY X scope (cellsFrom (s3.heap.objs.size+1) scope.names cl) s3.heap.objs.size (x::ns) s3 H3 fp) [] (o::cap.map fun k=>(σ[k]?).join) H' s'∧tn i s'.heap∧(∀ b∈fp,H' b=none)∧W i n ys H') ?_ m0 ⟨0,[],none,H3,IY,st4,fr3,w0⟩
  rintro n s5 ⟨i,ys,o,H5,I5,st5,fr5,w5⟩
  obtain ⟨eD,alt⟩:=step i n ys H5 w5
  rcases alt with ⟨stop,qd⟩ | ⟨go,hz,turn⟩
  ·refine thn (T.done (aY X scope (cellsFrom (s3.heap.objs.size+1) scope.names cl) s3.heap.objs.size (x::ns) s3 H3 fp) rfl rfl rfl hc i [] s5 _ H5 (fun _ _=>False) I5 (fpY fr5) st5 stop) fun r s6 ⟨hr,I6⟩ => ?_
   subst hr
   exact fin I6 qd
  ·refine thn (T.item (aY X scope (cellsFrom (s3.heap.objs.size+1) scope.names cl) s3.heap.objs.size (x::ns) s3 H3 fp) rfl rfl rfl hc i [] s5 _ H5 (fun _ _=>False) I5 (fpY fr5) st5 go) fun r s6 ⟨u,hr,h6⟩ => ?_
   subst hr
   refine thn h6 fun _ s7 ⟨xv',H7,I7,r7,y7,st7,fr7⟩ => ?_
   have I7':=I7.pinned (fpY fr7) (T.obj _ _ st7)
   have hst:PG (aY X scope (cellsFrom (s3.heap.objs.size+1) scope.names cl) s3.heap.objs.size (x::ns) s3 H3 fp) (.Name x px) (oD 0):=t9 hNc rfl hx (hxf.elim (fun z => .inl (by show (scope.names.lookup x == some .cell)=true; rw [z]; rfl)) .inr)
   refine thn (hst _ s7 _ H7 xv' u (fun σ8 H8=>σ8=(some xv'::cap.map fun k=>(σ[k]?).join)∧H8=H7) I7' r7 ⟨rfl,rfl⟩) fun _ s8 ⟨σ8,H8,I8,e8,e8'⟩ => ?_
   subst e8 e8'
   have back:∀ {σ9:St}{H9:Hp}{s9:Shared},Inv (aY X scope (cellsFrom (s3.heap.objs.size+1) scope.names cl) s3.heap.objs.size (x::ns) s3 H3 fp) ([]++lJ fp s7.heap) σ9 H9 s9→tn (i+1) s9.heap∧∀ b∈fp,H9 b=none:=fun {σ9 H9 s9} I9=>by
    refine ⟨T.keep _ _ _ st7 fun b hb o e=>(I9.pin (b,o) (List.mem_append_right _ (List.mem_append_right _ (gW hb e)))).1,fun b hb => ?_⟩
    obtain ⟨o,e,d⟩:=T.obj _ _ st7 b hb
    exact (I9.pin (b,o) (List.mem_append_right _ (List.mem_append_right _ (gW hb e)))).2.1
   refine thn (ht' _ s8 _ _ _ I8 (turn xv' _ y7)) fun b s9 ⟨H9,I9,q9⟩ => ?_
   cases b with
   | false =>
    rw [if_neg Bool.false_ne_true] at q9 ⊢
    obtain ⟨m',hm,w9⟩:=q9
    obtain ⟨st9,fr9⟩:=back I9
    exact ⟨m',hm,i+1,ys,_,H9,I9.unpinned,st9,fr9,w9⟩
   | true =>
    rw [if_pos rfl] at q9 ⊢
    refine thn (he' _ s9 _ _ _ I9 q9) fun yv s10 ⟨y,H10,I10,r10,eD10,m',hm,w10⟩ => ?_
    refine thn (fH (X:=aY X scope (cellsFrom (s3.heap.objs.size+1) scope.names cl) s3.heap.objs.size (x::ns) s3 H3 fp) _ s10 _ H10 (.ref s2.heap.objs.size) [y] (.ref s2.heap.objs.size) [yv] (fun _ H11=>H11=upd H10 s2.heap.objs.size (.lst (ys++[y]))) I10 rfl (.cons r10 .nil) ⟨_,ys,y,rfl,rfl,eD10,hz,rfl⟩) fun _ s11 ⟨_,H11,I11,_,e11⟩ => ?_
    subst e11
    obtain ⟨st11,fr11⟩:=back I11
    exact ⟨m',hm,i+1,_,_,_,I11.unpinned,st11,fr11,w10⟩
 exact codeAny_compStart_list loop (T.self X.A 0 _ _ _ st4 loop)
theorem aCI {X:Cx}{x:Str}{px pos:Pos}{iter elt:Expr}{ifs:List Expr}{scope:Scope}{ns:List Str}{cap:List Nat}{wi:TI}{tt:TT}{te:TE} (hc:X.calm=true) (hkind:scope.kind = .function)
  (hnames:∀ y∈scope.names,y.2 = .local→scope.names.lookup y.1=some .local) (hx:Loc (relabel scope X.env) x) (hxf:scope.names.lookup x=some .cell∨(relabel scope X.env).names.lookup x=some .local)
  (hNc:(x::ns).Nodup) (hlen:cap.length=ns.length) (hcap:∀ (j k:Nat) (nm:Str),cap[j]?=some k→ns[j]?=some nm→X.N[k]?=some nm∧(X.env.scope.names.lookup nm=some .cell∨X.env.scope.names.lookup nm=some .free))
  (hns:∀ nm∈ns,(nm,NameKind.free)∈scope.names∧(nm,NameKind.cell) ∉ scope.names) (hnsk:∀ nm∈ns,scope.names.lookup nm=some .free) (hfree:∀ y∈scope.names,y.2 = .free→X.env.scope.names.lookup y.1=some .cell∨X.env.scope.names.lookup y.1=some .free)
  (hi:PI X (.Name x px) iter wi)
  (ht:∀ cs C s₀ H₀ fp,PIf (aY X scope cs C (x::ns) s₀ H₀ fp) ifs tt) (he:∀ cs C s₀ H₀ fp,PE (aY X scope cs C (x::ns) s₀ H₀ fp) elt te)
  (hs:∀ v,foldedSetIterable iter X.env v=pure v:=by intro _; rfl) :
  PE X (.ListComp elt [⟨.Name x px,iter,ifs,0⟩] scope pos) (mL wi cap tt te):=by
 intro pins s σ H Q I h
 rw [eval_ListComp]
 refine pT hc hkind hnames hx hxf hNc hlen hcap hns hnsk hfree hi ht he hs (use:=none) I h fun D C H' s' J q ⟨m,hn⟩ cf=>⟨m,hn,fun h' hs' => ?_⟩
 exact ⟨.ref D,H',J.turned (t':=s'.toks) (it:=C) (fun b o hb e=>(hs'.2 b hb).trans e) cf.hn cf.hL (.inr cf.h1) cf.h2 cf.h3,rfl,q⟩
theorem vD {y:Str}{py spos:Pos}{iy:Nat}{X:Cx}{x:Str}{px pos:Pos}{iter elt:Expr}{ifs:List Expr}{scope:Scope}{ns:List Str}{cap:List Nat}{wi:TI}{tt:TT}{te:TE} (hN:X.N.Nodup) (hiy:X.N[iy]?=some y) (hyl:X.env.scope.names.lookup y=some .local) (hc:X.calm=true) (hkind:scope.kind = .function)
  (hnames:∀ y∈scope.names,y.2 = .local→scope.names.lookup y.1=some .local) (hx:Loc (relabel scope X.env) x) (hxf:scope.names.lookup x=some .cell∨(relabel scope X.env).names.lookup x=some .local)
  (hNc:(x::ns).Nodup) (hlen:cap.length=ns.length) (hcap:∀ (j k:Nat) (nm:Str),cap[j]?=some k→ns[j]?=some nm→X.N[k]?=some nm∧(X.env.scope.names.lookup nm=some .cell∨X.env.scope.names.lookup nm=some .free))
  (hns:∀ nm∈ns,(nm,NameKind.free)∈scope.names∧(nm,NameKind.cell) ∉ scope.names) (hnsk:∀ nm∈ns,scope.names.lookup nm=some .free) (hfree:∀ y∈scope.names,y.2 = .free→X.env.scope.names.lookup y.1=some .cell∨X.env.scope.names.lookup y.1=some .free)
  (hi:PI X (.Name x px) iter wi)
  (ht:∀ cs C s₀ H₀ fp,PIf (aY X scope cs C (x::ns) s₀ H₀ fp) ifs tt) (he:∀ cs C s₀ H₀ fp,PE (aY X scope cs C (x::ns) s₀ H₀ fp) elt te)
  (hs:∀ v,foldedSetIterable iter X.env v=pure v:=by intro _; rfl)
  (hsw:swapsWith (.ListComp elt [⟨.Name x px,iter,ifs,0⟩] scope pos) (some (.Name y py)) spos.line X.env=pure true:=by rfl) :
  PS X (.Assign [.Name y py] (.ListComp elt [⟨.Name x px,iter,ifs,0⟩] scope pos) spos) (tAsg (mL wi cap tt te) (oD iy)):=by
 intro pins s σ H D I h
 rw [exec_Assign_Name_used _ _ _ _ hsw]
 refine wpAny_bind (wpAny_standAt (wpAny_bind ?_))
 show wpAny _ X.A (do let _ ← comprehension (.ListComp elt [⟨.Name x px,iter,ifs,0⟩] scope pos) scope X.env _ (newList []) false (eval iter X.env) (some (assign (.Name y py) X.env))) _ _ s
 refine wpAny_bind (wpAny_mono (pT hc hkind hnames hx hxf hNc hlen hcap hns hnsk hfree hi ht he hs (use:=some (assign (.Name y py) X.env)) (Q':=fun _ s'=>SP X pins D .next s') I h fun L C H' s' J q ⟨m,hn⟩ cf => ?_) (fun _ s' hq=>wpAny_pure (wpAny_pure hq)) fun _ _ e=>e)
 refine wpAny_assign_Name (pQ J hN hiy (.inl hyl) (v := .ref L) rfl (fun s2 J2 ⟨a,sb,ha⟩ => ?_) (.inr hyl))
 have hCa:C≠a:=by
  rcases ha with rfl | ha
  ·exact cf.hL
  ·exact Ne.symm (cf.h2 y a ha)
 refine ⟨m,hn.sameBut sb hCa,fun h' hs' => ?_⟩
 exact ⟨_,H',J2.turned (t':=s2.toks) (it:=C) (fun b o hb e=>(hs'.2 b hb).trans e) cf.hn cf.hL (.inr cf.h1) cf.h2 cf.h3,q⟩
def Its (x:Str):It:=⟨fun i _=>i < x.cps.size,fun i H v H'=>H'=H∧∃ c,x.cps[i]?=some c∧v = .str ⟨#[c]⟩,fun i _=>x.cps.size≤i⟩
theorem rY {P:Program}{w:World}{K:PySem.W.Frag}{tg:Expr} (x:Str) (t:Tok) (it:Addr) (b:Bool):Turn P w K tg (Its x) [it] it (fun i h=>h.IsStrIter it (if b then "str_ascii_iterator" else "str_iterator") x t i) where
 mem:=by simp
 obj:=fun i h st b hb=>by
  have e:b=it:=by simpa using hb
  subst e
  obtain ⟨o,e,c,d⟩:=st
  exact ⟨o,e,fun v z=>by rw [d] at z; cases z⟩
 keep:=fun i h h' st k=>by
  obtain ⟨o,e,r⟩:=st
  exact ⟨o,k it (by simp) o e,r⟩
 item:=by
  intro X hP hw hK hc i pins s σ H E I hf st hg
  subst hP hw hK
  obtain ⟨f0,f1,f2,f3,f4,f5⟩:=hf it (by simp)
  have hg':i < x.cps.size:=hg
  cases b with
  | true =>
   refine wpAny_pyNext_ascii_item st (c:=x.cps[i]) (by simp [hg']) fun h' st' sb => ?_
   have I1:Inv X pins σ H { s with heap:=h',toks:=s.toks+1 }:=I.turned (t':=s.toks+1) (fun b o hb e=>(sb.2 b hb).trans e) f0 f1 f3 f4 f5
   obtain ⟨o,e,c,d⟩:=id st'
   exact ⟨_,rfl,oB (s:={ s with heap:=h',toks:=s.toks+1 }) e c d (by decide) ⟨.str ⟨#[x.cps[i]]⟩,H,I1,⟨s.toks,rfl⟩,⟨rfl,_,by simp [hg'],rfl⟩,st',fun b hb=>(hf b hb).1⟩⟩
  | false =>
   refine wpAny_pyNext_wide_item st (c:=x.cps[i]) (by simp [hg']) fun h' st' sb => ?_
   have I1:Inv X pins σ H { s with heap:=h',toks:=s.toks+1 }:=I.turned (t':=s.toks+1) (fun b o hb e=>(sb.2 b hb).trans e) f0 f1 f3 f4 f5
   obtain ⟨o,e,c,d⟩:=id st'
   exact ⟨_,rfl,oB (s:={ s with heap:=h',toks:=s.toks+1 }) e c d (by decide) ⟨.str ⟨#[x.cps[i]]⟩,H,I1,⟨s.toks,rfl⟩,⟨rfl,_,by simp [hg'],rfl⟩,st',fun b hb=>(hf b hb).1⟩⟩
 done:=by
  intro X hP hw hK hc i pins s σ H E I hf st hg
  subst hP hw hK
  obtain ⟨f0,f1,f2,f3,f4,f5⟩:=hf it (by simp)
  have hg':x.cps.size≤i:=hg
  cases b with
  | true=>exact wpAny_pyNext_ascii_end (I.ok.hd hc) st (by simp [hg']) fun h' eb=>⟨rfl,I.turned (t':=s.toks) (fun b o hb e=>eb b o hb e) f0 f1 f3 f4 f5⟩
  | false=>exact wpAny_pyNext_wide_end (I.ok.hd hc) st (by simp [hg']) fun h' eb=>⟨rfl,I.turned (t':=s.toks) (fun b o hb e=>eb b o hb e) f0 f1 f3 f4 f5⟩
 self:=fun _ _ _ _ _ st h=>by
  cases b with
  | true=>exact wpAny_pyIter_striter_ascii st h
  | false=>exact wpAny_pyIter_striter_wide st h
def iStr (tl:TE):TI:=fun σ H R=>tl σ H fun x H1=>∃ z,x = .str z∧R (Its z) H1
theorem aFR {X:Cx}{tg l:Expr}{tl:TE} (hl:PE X l tl):PI X tg l (iStr tl):=by
 intro pins s σ H R I h
 refine thn (hl pins s σ H _ I h) fun v s1 ⟨x,H1,I1,r1,q1⟩ => ?_
 obtain ⟨z,e,q⟩:=q1
 subst e
 obtain ⟨t,rfl⟩:=r1
 have fp:∀ b∈[s1.heap.objs.size],FpOk X pins H1 b:=fun b hb=>by
  have e:b=s1.heap.objs.size:=by simpa using hb
  subst e
  exact I1.fpOk (Nat.le_refl _) (I1.hok.fresh (Nat.le_refl _))
 cases ha:z.cps.all (· < 128)
 ·exact wpAny_pyIter_wide ha ⟨s1.heap.objs.size,[s1.heap.objs.size],_,_,H1,rfl,I1.kept (t':=s1.toks) fun b o e=>Heap.get?_push_of_some _ e,rY z t _ false,⟨_,Heap.get?_push_size _ rfl,rfl,rfl⟩,fp,q⟩
 ·exact wpAny_pyIter_ascii ha ⟨s1.heap.objs.size,[s1.heap.objs.size],_,_,H1,rfl,I1.kept (t':=s1.toks) fun b o e=>Heap.get?_push_of_some _ e,rY z t _ true,⟨_,Heap.get?_push_size _ rfl,rfl,rfl⟩,fp,q⟩
structure Yields (J:It) (xs:List V) (Kp:Hp→Prop):Prop where
 go:∀ i H,Kp H→i < xs.length→J.go i H
 yld:∀ i H x H',Kp H→J.yld i H x H'→i < xs.length→H'=H∧xs[i]?=some x
 stop:∀ i H,Kp H→xs.length≤i→J.stop i H
theorem oZ {K:PySem.W.Frag}{a:Addr}{xs:List V}:Yields (Itl K a) xs (fun H=>SqL K H a xs) where
 go:=fun i H k h=>⟨xs,xs[i],k,by simp [h]⟩
 yld:=fun i H x H' k y _=>⟨y.1,y.2 xs k⟩
 stop:=fun i H k h=>⟨xs,k,h⟩
theorem qQ {K:PySem.W.Frag}{a:Addr}{xs:List V}:Yields (Itt K a) xs (fun H=>SqT K H a xs) where
 go:=fun i H k h=>⟨xs,xs[i],k,by simp [h]⟩
 yld:=fun i H x H' k y _=>⟨y.1,y.2 xs k⟩
 stop:=fun i H k h=>⟨xs,k,h⟩
def Butd (D:Addr) (H H':Hp):Prop:=∀ b o,b≠D→H b=some o→H' b=some o
theorem Butd.upd {D:Addr}{H:Hp}{o:HO}:Butd D H (upd H D o):=fun b u n e=>by rw [aU n]; exact e
theorem Same.but {D:Addr}{H1 H H':Hp} (s:Same H1 H) (n:H1 D=none) (b:Butd D H H'):Same H1 H':=fun c o e=>b c o (a7 e n) (s c o e)
theorem pP {D:Addr}{H:Hp}{o:HO} (n:H D=none):Same H (upd H D o):=(Same.refl H).but n Butd.upd
theorem d9 {α:Type}{xs:List α}{i:Nat}{x:α} (h:xs[i]?=some x):xs.take (i+1)=xs.take i++[x]:=by
 rw [List.take_succ,h]; rfl
end L2
namespace L2
open PySem PySem.Spec PyProof.Rows
section
variable {X:Cx}
theorem jJ {bs:List Bool}{its:List Value} (r:Vals (bs.map V.bl) its) {i:Nat}{v:Value} (e:its.toArray[i]?=some v):v = .bool (bs.getD i false):=by
 have e':its[i]?=some v:=by simpa using e
 have hl:=r.length
 rw [List.length_map] at hl
 have hi:i < bs.length:=by
  have:=(List.getElem?_eq_some_iff.mp e').1
  omega
 have hx:(bs.map V.bl)[i]?=some (.bl bs[i]):=by simp [hi]
 obtain ⟨u,hu,ru⟩:=r.get hx
 rw [e'] at hu
 cases hu
 have:v = .bool bs[i]:=ru
 rw [this]
 simp [List.getD,hi]
theorem pX (bs:List Bool):((List.range bs.length).all fun i=>bs.getD i false)=bs.all id:=by
 induction bs with
 | nil=>rfl
 | cons b r ih =>
  rw [List.length_cons,List.range_succ_eq_map,List.all_cons,List.all_map,List.all_cons]
  rw [← ih]
  rfl
theorem pL (bs:List Bool):((List.range bs.length).any fun i=>bs.getD i false)=bs.any id:=by
 induction bs with
 | nil=>rfl
 | cons b r ih =>
  rw [List.length_cons,List.range_succ_eq_map,List.any_cons,List.any_map,List.any_cons]
  rw [← ih]
  rfl
def rAll (K:PySem.W.Frag) (g:List Bool→Bool):List V→Hp→VK→Prop:=fun xs H Q=>∃ p bs,xs=[.ref p]∧(SqL K H p (bs.map V.bl)∨SqT K H p (bs.map V.bl))∧Q (.bl (g bs)) H
theorem f8 (hc:X.calm=true):dH X (.builtin "all") (rAll X.K fun bs=>bs.all id):=by
 intro pins s σ H xs us Q I r h
 obtain ⟨p,bs,rfl,hq,q⟩:=h
 obtain ⟨u,rfl,rx⟩:=vals1 r
 cases rx
 refine call_all_walk ?_
 rcases hq with hq | hq
 ·obtain ⟨its,r',pl,hz⟩:=I.list hq
  have hlen:=r'.length
  rw [List.length_map] at hlen
  refine wpAny_pyIter_list pl.isList ?_
  have hne:p≠s.heap.objs.size:=Nat.ne_of_lt (Heap.lt_size pl.isList.choose_spec.1)
  refine ⟨_,_,_,_,_,_,fun i=>bs.getD i false,rfl,Walks.list (show X.A.in1.handled=none from I.ok.hd hc) s.heap.objs.size p hne its.toArray,⟨⟨_,Heap.get?_push_size _ rfl,rfl,rfl⟩,?_⟩,?_,?_⟩
  ·obtain ⟨o,e,z⟩:=pl.isList
   exact ⟨o,Heap.get?_push_of_some _ e,z⟩
  ·intro i v s' Q' E' hv hQ'
   rw [jJ r' hv]
   exact wpAny_truthy_bool hQ'
  ·intro h' tk k
   refine ⟨.bl (bs.all id),H,?_,?_,q⟩
   ·exact I.kept (t':=tk) fun b o e=>k b o (by simp; exact Nat.ne_of_lt (Heap.lt_size e)) (Heap.get?_push_of_some _ e)
   ·show Value.bool _=Value.bool _
    rw [← pX bs,List.size_toArray,← hlen]
 ·obtain ⟨its,r',pl,hz⟩:=I.tuple hq
  have hlen:=r'.length
  rw [List.length_map] at hlen
  have pl':s.heap.IsTuple p its.toArray:=pl
  refine wpAny_pyIter_tuple pl' ?_
  have hne:p≠s.heap.objs.size:=Nat.ne_of_lt (Heap.lt_size pl'.choose_spec.1)
  refine ⟨_,_,_,_,_,_,fun i=>bs.getD i false,rfl,Walks.tuple (show X.A.in1.handled=none from I.ok.hd hc) s.heap.objs.size p hne its.toArray,⟨⟨_,Heap.get?_push_size _ rfl,rfl,rfl⟩,?_⟩,?_,?_⟩
  ·obtain ⟨o,e,z⟩:=pl'
   exact ⟨o,Heap.get?_push_of_some _ e,z⟩
  ·intro i v s' Q' E' hv hQ'
   rw [jJ r' hv]
   exact wpAny_truthy_bool hQ'
  ·intro h' tk k
   refine ⟨.bl (bs.all id),H,?_,?_,q⟩
   ·exact I.kept (t':=tk) fun b o e=>k b o (by simp; exact Nat.ne_of_lt (Heap.lt_size e)) (Heap.get?_push_of_some _ e)
   ·show Value.bool _=Value.bool _
    rw [← pX bs,List.size_toArray,← hlen]
theorem aAF (hc:X.calm=true):dH X (.builtin "any") (rAll X.K fun bs=>bs.any id):=by
 intro pins s σ H xs us Q I r h
 obtain ⟨p,bs,rfl,hq,q⟩:=h
 obtain ⟨u,rfl,rx⟩:=vals1 r
 cases rx
 refine call_any_walk ?_
 rcases hq with hq | hq
 ·obtain ⟨its,r',pl,hz⟩:=I.list hq
  have hlen:=r'.length
  rw [List.length_map] at hlen
  refine wpAny_pyIter_list pl.isList ?_
  have hne:p≠s.heap.objs.size:=Nat.ne_of_lt (Heap.lt_size pl.isList.choose_spec.1)
  refine ⟨_,_,_,_,_,_,fun i=>bs.getD i false,rfl,Walks.list (show X.A.in1.handled=none from I.ok.hd hc) s.heap.objs.size p hne its.toArray,⟨⟨_,Heap.get?_push_size _ rfl,rfl,rfl⟩,?_⟩,?_,?_⟩
  ·obtain ⟨o,e,z⟩:=pl.isList
   exact ⟨o,Heap.get?_push_of_some _ e,z⟩
  ·intro i v s' Q' E' hv hQ'
   rw [jJ r' hv]
   exact wpAny_truthy_bool hQ'
  ·intro h' tk k
   refine ⟨.bl (bs.any id),H,?_,?_,q⟩
   ·exact I.kept (t':=tk) fun b o e=>k b o (by simp; exact Nat.ne_of_lt (Heap.lt_size e)) (Heap.get?_push_of_some _ e)
   ·show Value.bool _=Value.bool _
    rw [← pL bs,List.size_toArray,← hlen]
 ·obtain ⟨its,r',pl,hz⟩:=I.tuple hq
  have hlen:=r'.length
  rw [List.length_map] at hlen
  have pl':s.heap.IsTuple p its.toArray:=pl
  refine wpAny_pyIter_tuple pl' ?_
  have hne:p≠s.heap.objs.size:=Nat.ne_of_lt (Heap.lt_size pl'.choose_spec.1)
  refine ⟨_,_,_,_,_,_,fun i=>bs.getD i false,rfl,Walks.tuple (show X.A.in1.handled=none from I.ok.hd hc) s.heap.objs.size p hne its.toArray,⟨⟨_,Heap.get?_push_size _ rfl,rfl,rfl⟩,?_⟩,?_,?_⟩
  ·obtain ⟨o,e,z⟩:=pl'
   exact ⟨o,Heap.get?_push_of_some _ e,z⟩
  ·intro i v s' Q' E' hv hQ'
   rw [jJ r' hv]
   exact wpAny_truthy_bool hQ'
  ·intro h' tk k
   refine ⟨.bl (bs.any id),H,?_,?_,q⟩
   ·exact I.kept (t':=tk) fun b o e=>k b o (by simp; exact Nat.ne_of_lt (Heap.lt_size e)) (Heap.get?_push_of_some _ e)
   ·show Value.bool _=Value.bool _
    rw [← pL bs,List.size_toArray,← hlen]
theorem o9:∀ {ys:List Str}{its:List Value},Vals (ys.map V.str) its→StrsAre its ys
 | [],_,r=>by cases r; exact .nil
 | y::ys,_,r=>by
  cases r with
  | cons a b =>
   obtain ⟨t,rfl⟩:=a
   exact .cons y t (o9 b)
def aBD (K:PySem.W.Frag):V→List V→Hp→VK→Prop:=fun x vs H Q=>∃ sep p ys,x = .str sep∧vs=[.ref p]∧(SqL K H p (ys.map V.str)∨SqT K H p (ys.map V.str))∧sep.length≤16∧(ys.map (·.length)).sum+ys.length≤1048576∧Q (.str (Txt.join sep ys)) H
theorem l6:MtR X "str.join" (aBD X.K):=by
 intro pins s σ H x vs u us Q I rx rv h
 obtain ⟨sep,p,ys,rfl,rfl,hq,h1,h2,q⟩:=h
 obtain ⟨v,rfl,ry⟩:=vals1 rv
 cases ry
 obtain ⟨t,rfl⟩:=rx
 rcases hq with hq | hq
 ·obtain ⟨its,r',pl,hz⟩:=I.list hq
  exact join_listW pl.isList (o9 r') h1 h2 fun t' k=>⟨.str _,H,I.tok k,⟨t',rfl⟩,q⟩
 ·obtain ⟨its,r',pl,hz⟩:=I.tuple hq
  exact join_tupleW pl (o9 r') h1 h2 fun t' k=>⟨.str _,H,I.tok k,⟨t',rfl⟩,q⟩
def repS (x:Str) (n:Nat):Str:=⟨(List.replicate n x.cps).foldl (· ++ ·) #[]⟩
theorem sF (a:Array Nat):∀ (n:Nat) (acc:Array Nat),((List.replicate n a).foldl (· ++ ·) acc).toList=acc.toList++(List.replicate n a.toList).flatten
 | 0,acc=>by simp
 | n+1,acc=>by
  rw [List.replicate_succ,List.foldl_cons,sF a n,List.replicate_succ,List.flatten_cons]
  simp
theorem gQ (x:Str) (n:Nat):(repS x n).cps.toList=(List.replicate n x.cps.toList).flatten:=by
 unfold repS
 rw [sF]; rfl
theorem aAJ (x:Str) (n:Nat):(repS x n).length=x.length * n:=by
 show (repS x n).cps.size=x.cps.size * n
 rw [← Array.length_toList,gQ,← Array.length_toList]
 generalize x.cps.toList=l
 induction n with
 | zero=>simp
 | succ n ih=>rw [List.replicate_succ,List.flatten_cons,List.length_append,ih,Nat.mul_succ,Nat.add_comm]
theorem fG {x y:Str} (h:x.cps.toList=y.cps.toList):x=y:=by
 cases x; cases y
 simp only [Str.mk.injEq]
 exact Array.toList_inj.mp h
theorem zQ (x:Str):repS x 1=x:=fG (by rw [gQ]; simp)
theorem zR (x:Str) (n:Nat) (h:x.length=0):repS x n=x:=by
 have hx:x.cps.toList=[]:=List.eq_nil_of_length_eq_zero (by rw [Array.length_toList]; exact h)
 apply fG
 rw [gQ,hx]
 induction n with
 | zero=>rfl
 | succ n ih=>rw [List.replicate_succ,List.flatten_cons,ih]; rfl
def aBL:R2:=fun x y H Q=>∃ z n,x = .str z∧y = .int n ∧ -(2 ^ 40)≤n∧n < 2 ^ 40∧z.length * n.toNat≤sizeLine∧Q (.str (repS z n.toNat)) H
theorem o4:OpR X (binaryOp .Mult) aBL:=by
 intro pins s σ H x y u v Q I rx ry h
 obtain ⟨z,n,rfl,rfl,h1,h2,h3,q⟩:=h
 obtain ⟨t,rfl⟩:=rx
 obtain ⟨t',rfl⟩:=ry
 refine P.mul_str (by rw [decide_eq_false (by omega),decide_eq_false (by omega)]; rfl) (fun a b => ?_) (fun a b => ?_) ?_
 ·have:(n.toNat:Int)=n:=by omega
  have h4:((z.length:Int)) * n≤(sizeLine:Nat):=by rw [← this]; exact_mod_cast h3
  intro c
  have hn:0 < n:=by omega
  have:=(Int.ediv_lt_iff_lt_mul hn).mp c
  have h5:((sizeLine:Nat):Int) < 2 ^ 62:=by decide
  omega
 ·exact zJ h3
 ·by_cases c1:n < 1
  ·rw [if_pos c1]
   rw [show n.toNat=0 by omega] at q
   exact ⟨by decide, .str _,H,I.tok _,⟨_,rfl⟩,q⟩
  ·rw [if_neg c1]
   by_cases c2:(n == 1 || z.length == 0)=true
   ·rw [if_pos c2]
    refine ⟨.str z,H,I,⟨_,rfl⟩,?_⟩
    have e:repS z n.toNat=z:=by
     rw [Bool.or_eq_true,beq_iff_eq,beq_iff_eq] at c2
     rcases c2 with c | c
     ·rw [c]; exact zQ z
     ·exact zR z _ c
    rw [e] at q; exact q
   ·rw [if_neg c2]
    refine ⟨?_, .str _,H,I.tok _,⟨_,rfl⟩,q⟩
    show (repS z n.toNat).length≤sizeLine
    rw [aAJ]; exact h3
end
end L2
namespace L2
open PySem PySem.Spec PyProof.Rows
def iW (sc scope:Scope) (x:Str) (ns:List Str) (cap:List Nat) (N:List Str):Bool :=
 decide (scope.kind = .function) && scope.names.all (fun y=>decide (y.2 ≠ .local) || decide (scope.names.lookup y.1=some .local)) && (decide (scope.names.lookup x=some .local) || decide (scope.names.lookup x=some .cell)) &&
 decide ((x::ns).Nodup) && decide (cap.length=ns.length) &&
 (List.range cap.length).all (fun j=>match cap[j]?,ns[j]? with
  | some k,some nm=>decide (N[k]?=some nm) && (decide (sc.names.lookup nm=some .cell) || decide (sc.names.lookup nm=some .free))
  | _,_=>true) &&
 ns.all (fun nm=>decide ((nm,NameKind.free)∈scope.names) && decide ((nm,NameKind.cell) ∉ scope.names) && decide (scope.names.lookup nm=some .free)) &&
 scope.names.all (fun y=>decide (y.2 ≠ .free) || (decide (sc.names.lookup y.1=some .cell) || decide (sc.names.lookup y.1=some .free)))
theorem dX {env:Env}:∀ {names:List (Str × NameKind)}{x:Str},names.lookup x=some .cell →
  (names.map fun (n,k)=>if (k == NameKind.free && env.scope.kind == .function && env.kindOf n == some .cell) then (n,NameKind.cell) else (n,k)).lookup x=some .cell
 | [],_,h=>by simp at h
 | (n,k)::r,x,h=>by
  have ih := @dX env r x
  show List.lookup x ((if (k == NameKind.free && env.scope.kind == .function && env.kindOf n == some .cell)=true then (n,NameKind.cell) else (n,k))::_)=_
  rw [List.lookup_cons] at h
  split
  ·rw [List.lookup_cons]
   cases hx:x == n with
   | true=>rfl
   | false=>rw [hx] at h; exact ih h
  ·rw [List.lookup_cons]
   cases hx:x == n with
   | true=>rw [hx] at h; exact h
   | false=>rw [hx] at h; exact ih h
structure CompOk (sc scope:Scope) (x:Str) (ns:List Str) (cap:List Nat) (N:List Str):Prop where
 hkind:scope.kind = .function
 hnames:∀ y∈scope.names,y.2 = .local→scope.names.lookup y.1=some .local
 hx:scope.names.lookup x=some .local∨scope.names.lookup x=some .cell
 hNc:(x::ns).Nodup
 hlen:cap.length=ns.length
 hcap:∀ (j k:Nat) (nm:Str),cap[j]?=some k→ns[j]?=some nm→N[k]?=some nm∧(sc.names.lookup nm=some .cell∨sc.names.lookup nm=some .free)
 hns:∀ nm∈ns,(nm,NameKind.free)∈scope.names∧(nm,NameKind.cell) ∉ scope.names
 hnsk:∀ nm∈ns,scope.names.lookup nm=some .free
 hfree:∀ y∈scope.names,y.2 = .free→sc.names.lookup y.1=some .cell∨sc.names.lookup y.1=some .free
theorem p5 {sc scope:Scope}{x:Str}{ns:List Str}{cap:List Nat}{N:List Str} (h:iW sc scope x ns cap N=true):CompOk sc scope x ns cap N:=by
 unfold iW at h
 simp only [Bool.and_eq_true,Bool.or_eq_true,decide_eq_true_eq,List.all_eq_true] at h
 obtain ⟨⟨⟨⟨⟨⟨⟨h1,h2⟩,h3⟩,h4⟩,h5⟩,h6⟩,h7⟩,h8⟩:=h
 refine ⟨h1,fun y hy e=>(h2 y hy).resolve_left (fun z=>z e),h3,h4,h5,fun j k nm e1 e2 => ?_,fun nm hm=>(h7 nm hm).1,fun nm hm=>(h7 nm hm).2,fun y hy e=>(h8 y hy).resolve_left (fun z=>z e)⟩
 have hj:j < cap.length:=(List.getElem?_eq_some_iff.mp e1).1
 have:=h6 j (List.mem_range.mpr hj)
 rw [e1,e2] at this
 simpa using this
theorem zX {X:Cx}{x:Str}{px pos:Pos}{iter elt:Expr}{ifs:List Expr}{scope sc:Scope}{N:List Str} (ns:List Str) (cap:List Nat) {wi:TI}{tt:TT}{te:TE} (hc:X.calm=true) (hsc:X.env.scope=sc) (hN:X.N=N) (ok:iW sc scope x ns cap N=true)
  (hi:PI X (.Name x px) iter wi)
  (ht:∀ cs C s₀ H₀ fp,PIf (aY X scope cs C (x::ns) s₀ H₀ fp) ifs tt) (he:∀ cs C s₀ H₀ fp,PE (aY X scope cs C (x::ns) s₀ H₀ fp) elt te)
  (hs:∀ v,foldedSetIterable iter X.env v=pure v:=by intro _; rfl) :
  PE X (.ListComp elt [⟨.Name x px,iter,ifs,0⟩] scope pos) (mL wi cap tt te):=by
 subst hsc hN
 have k:=p5 ok
 refine aCI hc k.hkind k.hnames ?_ ?_ k.hNc k.hlen k.hcap k.hns k.hnsk k.hfree hi ht he hs
 ·rcases k.hx with z | z
  ·exact .inl (lookup_relabel_local z)
  ·exact .inr (dX z)
 ·rcases k.hx with z | z
  ·exact .inr (lookup_relabel_local z)
  ·exact .inl z
theorem sK {y:Str}{py spos:Pos} (iy:Nat) {X:Cx}{x:Str}{px pos:Pos}{iter elt:Expr}{ifs:List Expr}{scope sc:Scope}{N:List Str} (ns:List Str) (cap:List Nat) {wi:TI}{tt:TT}{te:TE} (hNd:N.Nodup) (hiy:N[iy]?=some y) (hyl:sc.names.lookup y=some .local) (hc:X.calm=true) (hsc:X.env.scope=sc) (hN:X.N=N) (ok:iW sc scope x ns cap N=true)
  (hi:PI X (.Name x px) iter wi)
  (ht:∀ cs C s₀ H₀ fp,PIf (aY X scope cs C (x::ns) s₀ H₀ fp) ifs tt) (he:∀ cs C s₀ H₀ fp,PE (aY X scope cs C (x::ns) s₀ H₀ fp) elt te)
  (hs:∀ v,foldedSetIterable iter X.env v=pure v:=by intro _; rfl)
  (hsw:swapsWith (.ListComp elt [⟨.Name x px,iter,ifs,0⟩] scope pos) (some (.Name y py)) spos.line X.env=pure true:=by rfl) :
  PS X (.Assign [.Name y py] (.ListComp elt [⟨.Name x px,iter,ifs,0⟩] scope pos) spos) (tAsg (mL wi cap tt te) (oD iy)):=by
 subst hsc hN
 have k:=p5 ok
 refine vD hNd hiy hyl hc k.hkind k.hnames ?_ ?_ k.hNc k.hlen k.hcap k.hns k.hnsk k.hfree hi ht he hs hsw
 ·rcases k.hx with z | z
  ·exact .inl (lookup_relabel_local z)
  ·exact .inr (dX z)
 ·rcases k.hx with z | z
  ·exact .inr (lookup_relabel_local z)
  ·exact .inl z
end L2
namespace R
open PySem L2
theorem BS:bootBuiltins "str" = some (.type "str"):=by decide +kernel
theorem BL:bootBuiltins "list" = some (.type "list"):=by decide +kernel
theorem BAll:bootBuiltins "all" = some (.builtin "all"):=by decide +kernel
theorem BMax:bootBuiltins "max" = some (.builtin "max"):=by decide +kernel
theorem BAny:bootBuiltins "any" = some (.builtin "any"):=by decide +kernel
structure Bn2 (mg:Str→Option Value):Prop where
 str:mg "str" = none
 list:mg "list" = none
 all:mg "all" = none
 any:mg "any" = none
 max:mg "max" = none
 enum:mg "enumerate" = none
theorem zI (c:Nat):(!(Builtin.Str.occurrences ("#." : Str) ⟨#[c]⟩ 0 ("#." : Str).length 1).isEmpty)=(c == 35 || c == 46):=by
 by_cases h1:c=35
 ·subst h1; decide +kernel
 by_cases h2:c=46
 ·subst h2; decide +kernel
 have e:("#." : Str)=⟨#[35,46]⟩:=by decide +kernel
 rw [e]
 have a0:Builtin.Str.subAt (⟨#[35,46]⟩:Str) ⟨#[c]⟩ 0=false:=by
  simp [Builtin.Str.subAt,Str.length]
  omega
 have a1:Builtin.Str.subAt (⟨#[35,46]⟩:Str) ⟨#[c]⟩ 1=false:=by
  simp [Builtin.Str.subAt,Str.length]
  omega
 simp [Builtin.Str.occurrences,Str.length,Std.Legacy.Range.forIn_eq_forIn_range',Std.Legacy.Range.size,List.range',a0,a1,h1,h2]
def sgn (c:Nat):Bool:=c == 35 || c == 46
def rowB (wide:Int):V→Bool
 | .str z=>decide ((z.length:Int)=wide) && z.cps.toList.all sgn
 | _=>false
theorem aS {n:Nat} (h:n≤1000000):n≤sizeLine:=Nat.le_trans h (by decide)
abbrev Sq (K:PySem.W.Frag) (H:Hp) (a:Addr) (xs:List V):Prop:=SqL K H a xs∨SqT K H a xs
theorem aB7 {H H':Hp}{a:Addr}{u:HO} (s:Same H H') (h:Rd H a u):Rd H' a u:=by
 rcases h with h | ⟨o,h⟩
 ·exact .inl (s _ _ h)
 ·exact .inr ⟨o,s _ _ h⟩
theorem seqT {K:PySem.W.Frag}{H H':Hp}{a:Addr}{xs:List V} (s:Same H H') (h:SqT K H a xs):SqT K H' a xs:=h.imp (aB7 s) id
def fitB (us:List V) (na nb:Nat):Bool:=decide (us.length=nb - 1) && us.all (rowB ((na - 1:Nat):Int))
def ofL (l:List Nat):Str:=⟨l.toArray⟩
def atS (z:Str) (j:Nat):Nat:=z.cps.getD j 0
theorem pK:∀ (ps:List Str) (acc:Array Nat),(ps.foldl (fun acc p=>acc++(Str.empty).cps++p.cps) acc).toList=acc.toList++(ps.map (·.cps.toList)).flatten
 | [],acc=>by simp
 | p::ps,acc=>by
  rw [List.foldl_cons,pK ps]
  simp [Str.empty]
theorem yG (ps:List Str):(Txt.join Str.empty ps).cps.toList=(ps.map (·.cps.toList)).flatten:=by
 cases ps with
 | nil=>rfl
 | cons p ps =>
  show (((p::ps).drop 1).foldl (fun acc p=>acc++(Str.empty).cps++p.cps) ((p::ps).headD Str.empty).cps).toList=_
  rw [pK]
  simp
theorem o6 (l:List Nat):Txt.join Str.empty (l.map fun c=>(⟨#[c]⟩:Str))=ofL l:=by
 apply fG
 rw [yG]
 simp only [ofL,List.map_map]
 induction l with
 | nil=>rfl
 | cons a l ih=>rw [List.map_cons,List.flatten_cons,ih]; rfl
theorem f7 (l:List Nat):(ofL l).length=l.length:=by simp [ofL,Str.length]
theorem k4 {z:Str}{j:Nat} (h:j < z.length):atI z.cps.toList (j:Int)=some (atS z j):=by
 have h':j < z.cps.size:=h
 refine cD ?_
 simp [atS,h',Array.getD]
def aE (zs:List Str):List Str:=(List.range ((zs.head?.map (·.length)).getD 0)).map fun j=>ofL (zs.map (atS · j))
theorem aF2 {K:PySem.W.Frag}{H:Hp}{p:Addr}{xs:List V}{i:Int}{v:V}{Q:VK} (h:Sq K H p xs) (e:atI xs i=some v) (q:Q v H):rIx K (.ref p) (.int i) H Q:=by
 rcases h with h | h
 ·exact .inl ⟨p,xs,i,v,rfl,rfl,h,e,q⟩
 ·exact .inr (.inl ⟨p,xs,i,v,rfl,rfl,h,e,q⟩)
theorem jH:("" : Str)=Str.empty:=by decide +kernel
def dots (n:Nat):Str:=ofL (List.replicate n 46)
theorem qA (n:Nat):repS "." n=dots n:=by
 apply fG
 rw [gQ]
 have e:("." : Str).cps.toList=[46]:=by decide +kernel
 rw [e]
 show _=(List.replicate n 46)
 induction n with
 | zero=>rfl
 | succ n ih=>rw [List.replicate_succ,List.flatten_cons,ih,List.replicate_succ]; rfl
def framed (zs:List Str):List Str:=[dots ((zs.head?.map (·.length)).getD 0)]++zs++[dots ((zs.head?.map (·.length)).getD 0)]
def chg (zs:List Str):List Nat:=if zs.isEmpty then [] else (List.range (zs.length+1)).filter fun i => !decide ((framed zs)[i]?=(framed zs)[i+1]?)
theorem hX (zs:List Str):(framed zs).length=zs.length+2:=by simp [framed]
theorem c7 (zs:List Str):∀ i∈chg zs,i≤zs.length:=fun i hi=>by
 unfold chg at hi
 split at hi
 ·cases hi
 ·have:=List.mem_range.mp (List.mem_filter.mp hi).1
  omega
theorem bL (zs:List Str):(chg zs).Pairwise (· < ·):=by
 unfold chg
 split
 ·exact List.Pairwise.nil
 ·exact List.Pairwise.filter _ List.pairwise_lt_range
theorem uI (zs:List Str):(chg zs).length≤zs.length+1:=by
 unfold chg
 split
 ·simp
 ·exact Nat.le_trans (List.length_filter_le _ _) (by simp)
theorem fZ {l:List Nat}{n:Nat} (h:l.Pairwise (· < ·)) (b:∀ i∈l,i≤n):∀ i∈l.dropLast,i < n:=fun i hi=>by
 have hne:l≠[]:=fun e=>by rw [e] at hi; cases hi
 have e:=List.dropLast_concat_getLast hne
 rw [← e] at h
 have h1:=(List.pairwise_append.mp h).2.2 i hi (l.getLast hne) (by simp)
 have h2:=b _ (List.getLast_mem hne)
 omega
theorem lT (zs:List Str) (h:chg zs≠[]):zs≠[]:=fun e=>h (by rw [e]; rfl)
def bN (zs:List Str):List Str:=(chg zs).dropLast.map fun i=>ofL ((chg (aE zs)).dropLast.map (atS (zs.getD i Str.empty)))
theorem nM {zs:List Str}{n:Nat} (h:∀ z∈zs,z.length=n):(aE zs).length≤n∧(zs≠[]→(aE zs).length=n):=by
 unfold aE
 rw [List.length_map,List.length_range]
 cases zs with
 | nil=>exact ⟨Nat.zero_le _,fun e=>absurd rfl e⟩
 | cons z zr =>
  have:=h z (by simp)
  exact ⟨by show z.length≤n; omega,fun _=>this⟩
theorem eB {zs:List Str}:∀ z∈aE zs,z.length=zs.length:=fun z hz=>by
 obtain ⟨j,_,rfl⟩:=List.mem_map.mp hz
 rw [f7,List.length_map]
structure KnL (K:PySem.W.Frag) (H:Hp) (v:V):Prop where
 kn:Kn K H v
 each:∀ a xs,v = .ref a→H a=some (.lst xs)→∀ x∈xs,Kn K H x
end R
namespace L2
open PySem PySem.Spec PyProof.Rows
section
variable {X:Cx}
end
end L2
namespace L2
open PySem PySem.Spec PyProof.Rows
def aBC:V→Bool
 | .ref _=>true
 | .non=>true
 | .bl _=>true
 | .int _=>true
 | .str _=>true
 | _=>false
theorem aC3 {xs:List V}{us:List Value} (r:Vals xs us) {j:Nat} (h:j < us.toArray.size):∃ x,xs[j]?=some x∧RelV x us.toArray[j]:=by
 have l:=r.length
 rw [List.size_toArray] at h
 have g:xs[j]?=some (xs[j]'(by omega)):=by simp
 obtain ⟨u,eu,ru⟩:=r.get g
 refine ⟨_,g,?_⟩
 have:us.toArray[j]=u:=by
  rw [List.getElem?_eq_getElem h] at eu
  simpa using eu
 rw [this]
 exact ru
theorem nJ (n:Nat):((List.range n).all fun _=>true)=true:=List.all_eq_true.mpr fun _ _=>rfl
inductive Alike (K:PySem.W.Frag) (H:Hp):V→V→Prop
 | one {v:V} (h:aBC v=true):Alike K H v v
 | lists {a b:Addr}{xs:List V} (ha:SqL K H a xs) (hb:SqL K H b xs) (h:xs.all aBC=true):Alike K H (.ref a) (.ref b)
section
variable {X:Cx}
end
end L2
namespace L2
open PySem PySem.Spec PyProof.Rows
section
variable {X:Cx}{o e:Expr}{es:List Expr}{to:TE}{t:TA}{name:Str}{apos cpos:Pos}{T id:String}{r:V→List V→Hp→VK→Prop}
end
end L2
namespace Z
open PySem L2
inductive D where
 | non | bl (b:Bool) | int (i:Int) | str (x:Str) | mt (a:Addr) | tup (ds:List D) | lst (ds:List D) | fl (ds:List D) | st (ks:List (List Int))
abbrev Fg:=PySem.W.Frag
def aGF (k:List Int):Int:=reduceHash (Builtin.Tuple.tupleHashOf (k.map hashInt))
def entS (p:List Int × Addr):DictEntry:={ hash:=aGF p.1,key := .ref p.2,val := .bool true }
def DSt (a:Addr) (xs:List (List Int × Addr)) (ep:Nat) (h:Heap):Prop:=(a == sysModules)=false∧∃ o,h.get? a=some o∧o.ExactDict∧o.data = .dict (xs.map entS).toArray ep
structure StO (K:Fg) (G:Hp) (o:Option HO) (a:Addr) (ks:List (List Int)) (xs:List (List Int × Addr)) (ep:Nat):Prop where
 nd:ks.Nodup
 len:ks.length≤sizeLine
 keys:xs.map (·.1)=ks
 at_:∀ p∈xs,SqT K G p.2 (p.1.map V.int)
 ob:o=some (.ext (DSt a xs ep))
theorem StO.mv {K:Fg}{G G':Hp}{o o':Option HO}{a:Addr}{ks:List (List Int)}{xs:List (List Int × Addr)}{ep:Nat} (h:StO K G o a ks xs ep) (s:Same G G') (e:o'=o):StO K G' o' a ks xs ep :=
 ⟨h.nd,h.len,h.keys,fun p hp=>R.seqT s (h.at_ p hp),e.trans h.ob⟩
mutual
def Den (K:Fg) (G:Hp):D→V→Prop
 | .non,v=>v = .non
 | .bl b,v=>v = .bl b
 | .int i,v=>v = .int i
 | .str x,v=>v = .str x
 | .mt a,v=>v = .ref a
 | .tup ds,v=>∃ a vs,v = .ref a∧SqT K G a vs∧Dens K G ds vs
 | .lst ds,v=>∃ a vs,v = .ref a∧G a=some (.lst vs)∧Dens K G ds vs
 | .fl ds,v=>∃ a vs,v = .ref a∧SqL K G a vs∧Dens K G ds vs
 | .st ks,v=>∃ a xs ep,v = .ref a∧StO K G (G a) a ks xs ep
def Dens (K:Fg) (G:Hp):List D→List V→Prop
 | [],vs=>vs=[]
 | d::ds,vs=>∃ v r,vs=v::r∧Den K G d v∧Dens K G ds r
end
mutual
theorem Den.mono {K:Fg}{G G':Hp} (s:Same G G'):∀ (d:D) {v:V},Den K G d v→Den K G' d v
 | .non,_,h=>by simp only [Den] at h ⊢; exact h
 | .bl _,_,h=>by simp only [Den] at h ⊢; exact h
 | .int _,_,h=>by simp only [Den] at h ⊢; exact h
 | .str _,_,h=>by simp only [Den] at h ⊢; exact h
 | .mt _,_,h=>by simp only [Den] at h ⊢; exact h
 | .tup ds,_,h=>by
  simp only [Den] at h ⊢
  obtain ⟨a,vs,e,q,r⟩:=h
  exact ⟨a,vs,e,R.seqT s q,Dens.mono s ds r⟩
 | .lst ds,_,h=>by
  simp only [Den] at h ⊢
  obtain ⟨a,vs,e,q,r⟩:=h
  exact ⟨a,vs,e,s _ _ q,Dens.mono s ds r⟩
 | .fl ds,_,h=>by
  simp only [Den] at h ⊢
  obtain ⟨a,vs,e,q,r⟩:=h
  exact ⟨a,vs,e,s.seq q,Dens.mono s ds r⟩
 | .st ks,_,h=>by
  simp only [Den] at h ⊢
  obtain ⟨a,xs,ep,e,q⟩:=h
  exact ⟨a,xs,ep,e,q.mv s ((s _ _ q.ob).trans q.ob.symm)⟩
theorem Dens.mono {K:Fg}{G G':Hp} (s:Same G G'):∀ (ds:List D) {vs:List V},Dens K G ds vs→Dens K G' ds vs
 | [],_,h=>by simp only [Dens] at h ⊢; exact h
 | d::ds,_,h=>by
  simp only [Dens] at h ⊢
  obtain ⟨v,r,e,h1,h2⟩:=h
  exact ⟨v,r,e,Den.mono s d h1,Dens.mono s ds h2⟩
end
theorem Den.up {K:Fg}{G G':Hp}{d:D}{v:V} (h:Den K G d v) (s:Same G G'):Den K G' d v:=Den.mono s d h
theorem Dens.up {K:Fg}{G G':Hp}{ds:List D}{vs:List V} (h:Dens K G ds vs) (s:Same G G'):Dens K G' ds vs:=Dens.mono s ds h
theorem cW {K:Fg}{G:Hp}:Dens K G [] []:=by simp only [Dens]
theorem cC {K:Fg}{G:Hp}{d:D}{v:V}{ds:List D}{vs:List V} (h:Den K G d v) (r:Dens K G ds vs):Dens K G (d::ds) (v::vs):=by
 simp only [Dens]; exact ⟨v,vs,rfl,h,r⟩
theorem bA {K:Fg}{G:Hp}{d:D}{ds:List D}{vs:List V} (h:Dens K G (d::ds) vs):∃ v r,vs=v::r∧Den K G d v∧Dens K G ds r:=by simp only [Dens] at h; exact h
theorem bR {K:Fg}{G:Hp}{vs:List V} (h:Dens K G [] vs):vs=[]:=by simp only [Dens] at h; exact h
theorem Dens.len {K:Fg}{G:Hp}:∀ {ds:List D}{vs:List V},Dens K G ds vs→ds.length=vs.length
 | [],_,h=>by rw [bR h]; rfl
 | d::ds,_,h=>by
  obtain ⟨v,r,rfl,_,h2⟩:=bA h
  rw [List.length_cons,List.length_cons,Dens.len h2]
theorem Dens.get {K:Fg}{G:Hp}:∀ {ds:List D}{vs:List V}{i:Nat}{d:D},Dens K G ds vs→ds[i]?=some d→∃ v,vs[i]?=some v∧Den K G d v
 | [],_,_,_,_,e=>by simp at e
 | d0::ds,_,0,d,h,e=>by
  obtain ⟨v,r,rfl,h1,_⟩:=bA h
  simp at e; subst e
  exact ⟨v,rfl,h1⟩
 | d0::ds,_,i+1,d,h,e=>by
  obtain ⟨v,r,rfl,_,h2⟩:=bA h
  obtain ⟨u,a,b⟩:=Dens.get (i:=i) h2 (by simpa using e)
  exact ⟨u,by simpa using a,b⟩
theorem Dens.get' {K:Fg}{G:Hp}:∀ {ds:List D}{vs:List V}{i:Nat}{v:V},Dens K G ds vs→vs[i]?=some v→∃ d,ds[i]?=some d∧Den K G d v:=fun {ds vs i v} h e=>by
 have hi:i < vs.length:=(List.getElem?_eq_some_iff.mp e).1
 rw [← h.len] at hi
 have e2:ds[i]?=some ds[i]:=by simp [hi]
 obtain ⟨u,a,b⟩:=h.get e2
 rw [e] at a; cases a
 exact ⟨_,e2,b⟩
theorem Dens.append {K:Fg}{G:Hp}:∀ {ds es:List D}{vs ws:List V},Dens K G ds vs→Dens K G es ws→Dens K G (ds++es) (vs++ws)
 | [],_,_,_,h,r=>by rw [bR h]; exact r
 | d::ds,_,_,_,h,r=>by
  obtain ⟨v,t,rfl,h1,h2⟩:=bA h
  exact cC h1 (Dens.append h2 r)
theorem Dens.take {K:Fg}{G:Hp}:∀ {ds:List D}{vs:List V} (n:Nat),Dens K G ds vs→Dens K G (ds.take n) (vs.take n)
 | _,_,0,_=>by simp only [List.take_zero]; exact cW
 | [],_,n+1,h=>by rw [bR h]; exact cW
 | d::ds,_,n+1,h=>by
  obtain ⟨v,t,rfl,h1,h2⟩:=bA h
  exact cC h1 (Dens.take n h2)
theorem Dens.drop {K:Fg}{G:Hp}:∀ {ds:List D}{vs:List V} (n:Nat),Dens K G ds vs→Dens K G (ds.drop n) (vs.drop n)
 | _,_,0,h=>h
 | [],_,n+1,h=>by rw [bR h]; exact cW
 | d::ds,_,n+1,h=>by
  obtain ⟨v,t,rfl,h1,h2⟩:=bA h
  exact Dens.drop n h2
theorem Dens.set {K:Fg}{G:Hp}{d:D}{v:V} (e:Den K G d v):∀ {ds:List D}{vs:List V} (i:Nat),Dens K G ds vs→Dens K G (ds.set i d) (vs.set i v)
 | [],_,_,h=>by rw [bR h]; exact cW
 | d0::ds,_,0,h=>by
  obtain ⟨u,t,rfl,h1,h2⟩:=bA h
  exact cC e h2
 | d0::ds,_,i+1,h=>by
  obtain ⟨u,t,rfl,h1,h2⟩:=bA h
  exact cC h1 (Dens.set e i h2)
theorem Dens.atI {K:Fg}{G:Hp}{ds:List D}{vs:List V}{i:Int}{d:D} (h:Dens K G ds vs) (e:atI ds i=some d):∃ v,L2.atI vs i=some v∧Den K G d v:=by
 unfold L2.atI at e ⊢
 rw [← h.len]
 cases hj:ixN ds.length i with
 | none=>rw [hj] at e; cases e
 | some j =>
  rw [hj] at e
  exact h.get e
inductive MO where
 | lst (ds:List D)
 | st (ks:List (List Int))
 | ob (o:HO)
abbrev Mem:=Addr→Option MO
def updM (M:Mem) (a:Addr) (o:MO):Mem:=fun b=>if b=a then some o else M b
def delM (M:Mem) (a:Addr):Mem:=fun b=>if b=a then none else M b
theorem aT {M:Mem}{a:Addr}{o:MO}:updM M a o a=some o:=by unfold updM; rw [if_pos rfl]
theorem cM {M:Mem}{a b:Addr}{o:MO} (h:b≠a):updM M a o b=M b:=by unfold updM; rw [if_neg h]
theorem jB {M:Mem}{a:Addr}{o u:MO}:updM (updM M a o) a u=updM M a u:=by
 funext b; unfold updM; split <;> rfl
theorem yB {M:Mem}{a:Addr}:delM M a a=none:=by unfold delM; rw [if_pos rfl]
theorem mK {M:Mem}{a b:Addr} (h:b≠a):delM M a b=M b:=by unfold delM; rw [if_neg h]
def Le (M M':Mem):Prop:=∀ a o,M a=some o→M' a=some o
theorem Le.refl (M:Mem):Le M M:=fun _ _ h=>h
theorem Le.trans {M M1 M2:Mem} (a:Le M M1) (b:Le M1 M2):Le M M2:=fun c o h=>b c o (a c o h)
theorem Le.upd {M M':Mem}{a:Addr}{o:MO} (h:Le M M') (n:M a=none):Le M (updM M' a o):=fun b u e=>by
 rw [cM (fun z=>by rw [z,n] at e; cases e)]; exact h b u e
def MOk (K:Fg) (G H:Hp) (a:Addr):MO→Prop
 | .lst ds=>∃ vs,H a=some (.lst vs)∧Dens K G ds vs
 | .st ks=>∃ xs ep,StO K G (H a) a ks xs ep
 | .ob o=>H a=some o
theorem MOk.mv {K:Fg}{G G' H H':Hp}{a:Addr}{m:MO} (h:MOk K G H a m) (s:Same G G') (e:H' a=H a):MOk K G' H' a m:=by
 cases m with
 | lst ds=>obtain ⟨vs,e1,e2⟩:=h; exact ⟨vs,e.trans e1,e2.up s⟩
 | st ks=>obtain ⟨xs,ep,q⟩:=h; exact ⟨xs,ep,q.mv s e⟩
 | ob o=>exact e.trans h
structure Rel (K:Fg) (G H:Hp) (M:Mem):Prop where
 same:Same G H
 mem:∀ a o,M a=some o→G a=none∧MOk K G H a o
structure Stp (K:Fg) (G H:Hp) (M:Mem) (G' H':Hp) (M':Mem):Prop where
 gg:Same G G'
 rel:Rel K G' H' M'
 fr:∀ a o,H a=some o→G a=none→M a=none→H' a=some o∧G' a=none∧M' a=none
theorem Stp.refl {K:Fg}{G H:Hp}{M:Mem} (r:Rel K G H M):Stp K G H M G H M:=⟨Same.refl G,r,fun _ _ h h1 h2=>⟨h,h1,h2⟩⟩
theorem Stp.trans {K:Fg}{G H G1 H1 G2 H2:Hp}{M M1 M2:Mem} (a:Stp K G H M G1 H1 M1) (b:Stp K G1 H1 M1 G2 H2 M2):Stp K G H M G2 H2 M2 :=
 ⟨a.gg.trans b.gg,b.rel,fun c o h h1 h2=>let ⟨x,y,z⟩:=a.fr c o h h1 h2; b.fr c o x y z⟩
theorem Rel.le {K:Fg}{G H:Hp}{M M':Mem} (r:Rel K G H M) (l:Le M' M):Rel K G H M':=⟨r.same,fun a o h=>r.mem a o (l a o h)⟩
theorem Rel.got {K:Fg}{G H:Hp}{M:Mem}{a:Addr}{o:MO} (r:Rel K G H M) (h:M a=some o):∃ u,H a=some u:=by
 cases o with
 | lst ds=>obtain ⟨_,vs,e,_⟩:=r.mem a _ h; exact ⟨_,e⟩
 | st ks=>obtain ⟨_,xs,ep,q⟩:=r.mem a _ h; exact ⟨_,q.ob⟩
 | ob o=>exact ⟨o,(r.mem a _ h).2⟩
theorem Rel.free {K:Fg}{G H:Hp}{M:Mem}{p:Addr} (r:Rel K G H M) (h:H p=none):G p=none∧M p=none:=by
 refine ⟨r.same.free h,?_⟩
 cases e:M p with
 | none=>rfl
 | some o=>obtain ⟨u,q⟩:=r.got e; rw [h] at q; cases q
theorem Rel.new {K:Fg}{G H:Hp}{M:Mem}{p:Addr}{o:HO} (r:Rel K G H M) (h:H p=none):Stp K G H M (upd G p o) (upd H p o) M:=by
 have hG:=(r.free h).1
 have s1:Same G (upd G p o):=pP hG
 refine ⟨s1,⟨fun b u e => ?_,fun a m e => ?_⟩,fun a u e1 e2 e3 => ?_⟩
 ·by_cases z:b=p
  ·subst z; rw [bF] at e ⊢; exact e
  ·rw [aU z] at e ⊢; exact r.same b u e
 ·obtain ⟨u,q⟩:=r.got e
  have z:a≠p:=a7 q h
  refine ⟨by rw [aU z]; exact (r.mem a m e).1,?_⟩
  exact (r.mem a m e).2.mv s1 (aU z)
 ·have z:a≠p:=a7 e1 h
  exact ⟨by rw [aU z]; exact e1,by rw [aU z]; exact e2,e3⟩
theorem Rel.newM {K:Fg}{G H:Hp}{M:Mem}{p:Addr}{vs:List V}{ds:List D} (r:Rel K G H M) (h:H p=none) (e:Dens K G ds vs):Stp K G H M G (upd H p (.lst vs)) (updM M p (.lst ds)):=by
 have hG:=(r.free h).1
 refine ⟨Same.refl G,⟨fun b u q => ?_,fun a m q => ?_⟩,fun a u e1 e2 e3 => ?_⟩
 ·rw [aU (a7 q hG)]; exact r.same b u q
 ·by_cases z:a=p
  ·subst z
   rw [aT] at q; cases q
   exact ⟨hG,vs,bF,e⟩
  ·rw [cM z] at q
   refine ⟨(r.mem a m q).1,?_⟩
   exact (r.mem a m q).2.mv (Same.refl G) (aU z)
 ·have z:a≠p:=a7 e1 h
  exact ⟨by rw [aU z]; exact e1,e2,by rw [cM z]; exact e3⟩
theorem Rel.wr {K:Fg}{G H:Hp}{M:Mem}{p:Addr}{vs:List V}{ds:List D}{o:MO} (r:Rel K G H M) (h:M p=some o) (e:Dens K G ds vs):Stp K G H M G (upd H p (.lst vs)) (updM M p (.lst ds)):=by
 have hG:=(r.mem p _ h).1
 refine ⟨Same.refl G,⟨fun b u q => ?_,fun a m q => ?_⟩,fun a u e1 e2 e3 => ?_⟩
 ·rw [aU (a7 q hG)]; exact r.same b u q
 ·by_cases z:a=p
  ·subst z
   rw [aT] at q; cases q
   exact ⟨hG,vs,bF,e⟩
  ·rw [cM z] at q
   refine ⟨(r.mem a m q).1,?_⟩
   exact (r.mem a m q).2.mv (Same.refl G) (aU z)
 ·have z:a≠p:=fun z=>by rw [z,h] at e3; cases e3
  exact ⟨by rw [aU z]; exact e1,e2,by rw [cM z]; exact e3⟩
theorem Rel.frz {K:Fg}{G H:Hp}{M:Mem}{a:Addr}{ds:List D} (r:Rel K G H M) (h:M a=some (.lst ds)):∃ vs,H a=some (.lst vs)∧Dens K G ds vs∧Stp K G H M (upd G a (.lst vs)) H (delM M a):=by
 obtain ⟨hG,vs,e,q⟩:=r.mem a _ h
 have s1:Same G (upd G a (.lst vs)):=pP hG
 refine ⟨vs,e,q,s1,⟨fun b u z => ?_,fun b m z => ?_⟩,fun b u e1 e2 e3 => ?_⟩
 ·by_cases y:b=a
  ·subst y; rw [bF] at z; cases z; exact e
  ·rw [aU y] at z; exact r.same b u z
 ·by_cases y:b=a
  ·subst y; rw [yB] at z; cases z
  ·rw [mK y] at z
   refine ⟨by rw [aU y]; exact (r.mem b m z).1,?_⟩
   exact (r.mem b m z).2.mv s1 rfl
 ·have y:b≠a:=fun y=>by rw [y,h] at e3; cases e3
  exact ⟨e1,by rw [aU y]; exact e2,by rw [mK y]; exact e3⟩
theorem Rel.drop {K:Fg}{G H:Hp}{M M':Mem} (r:Rel K G H M) (l:Le M' M):Stp K G H M G H M' :=
 ⟨Same.refl G,r.le l,fun a o h1 h2 h3=>⟨h1,h2,by
  cases e:M' a with
  | none=>rfl
  | some u=>rw [l a u e] at h3; cases h3⟩⟩
abbrev Gm:=List (Option D)
structure EnvR (K:Fg) (G:Hp) (Γ:Gm) (σ:St):Prop where
 len:Γ.length=σ.length
 get:∀ (i:Nat) (d:D),Γ[i]?=some (some d)→∃ v,σ[i]?=some (some v)∧Den K G d v
theorem EnvR.up {K:Fg}{G G':Hp}{Γ:Gm}{σ:St} (h:EnvR K G Γ σ) (s:Same G G'):EnvR K G' Γ σ :=
 ⟨h.len,fun i d e=>let ⟨v,a,b⟩:=h.get i d e; ⟨v,a,b.up s⟩⟩
theorem EnvR.set {K:Fg}{G:Hp}{Γ:Gm}{σ:St} (h:EnvR K G Γ σ) {d:D}{v:V} (e:Den K G d v) (i:Nat):EnvR K G (Γ.set i (some d)) (σ.set i (some v)):=by
 refine ⟨by rw [List.length_set,List.length_set,h.len],fun j c q => ?_⟩
 rw [List.getElem?_set] at q ⊢
 by_cases z:i=j
 ·rw [if_pos z] at q ⊢
  split at q
  ·rename_i hl
   rw [if_pos (by rw [← h.len]; exact hl)]
   cases q
   exact ⟨v,rfl,e⟩
  ·cases q
 ·rw [if_neg z] at q ⊢
  exact h.get j c q
theorem EnvR.start {K:Fg}{G:Hp}{ds:List D}{vs:List V} (h:Dens K G ds vs) (n:Nat):EnvR K G (ds.map some++List.replicate (n - ds.length) none) (vs.map some++List.replicate (n - vs.length) none):=by
 have hl:=h.len
 refine ⟨by simp [hl],fun i d e => ?_⟩
 by_cases hi:i < ds.length
 ·rw [List.getElem?_append_left (by simpa using hi),List.getElem?_map] at e
  rw [List.getElem?_append_left (by simp; omega),List.getElem?_map]
  cases q:ds[i]? with
  | none=>rw [q] at e; cases e
  | some c =>
   rw [q] at e; cases e
   obtain ⟨v,a,b⟩:=h.get q
   exact ⟨v,by rw [a]; rfl,b⟩
 ·rw [List.getElem?_append_right (by simpa using hi),List.getElem?_replicate] at e
  split at e <;> cases e
def tU (X:Cx) (e:Expr):TE:=fun σ H Q=>∀ pins s,Inv X pins σ H s→wpAny (model X.prog X.w) X.A (eval e X.env) (EP X pins σ Q) X.xe s
theorem pU {X:Cx}{e:Expr}:PE X e (tU X e):=fun pins s σ H Q I h=>h pins s I
theorem b3 {X:Cx}{e:Expr}{t:TE} (p:PE X e t) {σ:St}{H:Hp}{Q:VK} (h:t σ H Q):tU X e σ H Q:=fun pins s I=>p pins s σ H Q I h
def tUT (X:Cx) (e:Expr):TT:=fun σ H Q=>∀ pins s,Inv X pins σ H s→wpAny (model X.prog X.w) X.A (isTrue e X.env (eval e X.env)) (TP X pins σ Q) X.xe s
theorem pUT {X:Cx}{e:Expr}:PT X e (tUT X e):=fun pins s σ H Q I h=>h pins s I
theorem oH {X:Cx}{e:Expr}{t:TT} (p:PT X e t) {σ:St}{H:Hp}{Q:Bool→Hp→Prop} (h:t σ H Q):tUT X e σ H Q:=fun pins s I=>p pins s σ H Q I h
def tUW (X:Cx) (e:Expr):TT:=fun σ H Q=>∀ whole pins s,Inv X pins σ H s→wpAny (model X.prog X.w) X.A (isTrue e X.env whole) (TP X pins σ Q) X.xe s
theorem pUW {X:Cx}{e:Expr}:PW X e (tUW X e):=fun whole pins s σ H Q I h=>h whole pins s I
theorem oC {X:Cx}{e:Expr}{t:TT} (p:PW X e t) {σ:St}{H:Hp}{Q:Bool→Hp→Prop} (h:t σ H Q):tUW X e σ H Q:=fun whole pins s I=>p whole pins s σ H Q I h
def tUA (X:Cx) (es:List Expr):TA:=fun σ H Q=>∀ pos pins s,Inv X pins σ H s→wpAny (model X.prog X.w) X.A (spliced (backTo pos (starEach es X.env))) (AP X pins σ Q) X.xe s
theorem pUA {X:Cx}{es:List Expr}:PA X es (tUA X es):=fun pos pins s σ H Q I h=>h pos pins s I
theorem yI {X:Cx}{es:List Expr}{t:TA} (p:PA X es t) {σ:St}{H:Hp}{Q:List V→Hp→Prop} (h:t σ H Q):tUA X es σ H Q:=fun pos pins s I=>p pos pins s σ H Q I h
def tUS (X:Cx) (st:Stmt):TS:=fun E σ H=>∀ pins s,Inv X pins σ H s→wpAny (model X.prog X.w) X.A (exec st X.env) (SP X pins E) X.xe s
theorem pUS {X:Cx}{st:Stmt}:PS X st (tUS X st):=fun pins s σ H E I h=>h pins s I
theorem fV {X:Cx}{st:Stmt}{t:TS} (p:PS X st t) {σ:St}{H:Hp}{E:Ends} (h:t E σ H):tUS X st E σ H:=fun pins s I=>p pins s σ H E I h
def tUSs (X:Cx) (st:List Stmt):TS:=fun E σ H=>∀ pins s,Inv X pins σ H s→wpAny (model X.prog X.w) X.A (execs st X.env) (SP X pins E) X.xe s
theorem pUSs {X:Cx}{st:List Stmt}:PSs X st (tUSs X st):=fun pins s σ H E I h=>h pins s I
theorem pF {X:Cx}{st:List Stmt}{t:TS} (p:PSs X st t) {σ:St}{H:Hp}{E:Ends} (h:t E σ H):tUSs X st E σ H:=fun pins s I=>p pins s σ H E I h
def tUG (X:Cx) (tg:Expr):TG:=fun v σ H Q=>∀ pins s u,Inv X pins σ H s→RelV v u→wpAny (model X.prog X.w) X.A (assign tg X.env u) (fun _ s'=>∃ σ' H',Inv X pins σ' H' s'∧Q σ' H') X.xe s
theorem pUG {X:Cx}{tg:Expr}:PG X tg (tUG X tg):=fun pins s σ H v u Q I r h=>h pins s u I r
theorem oR {X:Cx}{tg:Expr}{t:TG} (p:PG X tg t) {v:V}{σ:St}{H:Hp}{Q:St→Hp→Prop} (h:t v σ H Q):tUG X tg v σ H Q:=fun pins s u I r=>p pins s σ H v u Q I r h
def tUGs (X:Cx) (tg:List Expr):TGs:=fun vs σ H Q=>∀ pins s us,Inv X pins σ H s→Vals vs us→wpAny (model X.prog X.w) X.A (assignInOrder ((assignEach tg X.env).map (·.2)) us) (fun _ s'=>∃ σ' H',Inv X pins σ' H' s'∧Q σ' H') X.xe s
theorem pUGs {X:Cx}{tg:List Expr}:PGs X tg (tUGs X tg):=fun pins s σ H vs us Q I r h=>h pins s us I r
theorem tW {X:Cx}{tg:List Expr}{t:TGs} (p:PGs X tg t) {vs:List V}{σ:St}{H:Hp}{Q:St→Hp→Prop} (h:t vs σ H Q):tUGs X tg vs σ H Q:=fun pins s us I r=>p pins s σ H vs us Q I r h
def tUI (X:Cx) (tg iter:Expr):TI:=fun σ H R=>∀ pins s,Inv X pins σ H s→wpAny (model X.prog X.w) X.A (eval iter X.env) (fun v s1=>wpAny (model X.prog X.w) X.A (pyIter v) (PIE X pins σ tg R) X.xe s1) X.xe s
theorem pUI {X:Cx}{tg iter:Expr}:PI X tg iter (tUI X tg iter):=fun pins s σ H R I h=>h pins s I
theorem k8 {X:Cx}{tg iter:Expr}{t:TI} (p:PI X tg iter t) {σ:St}{H:Hp}{R:It→Hp→Prop} (h:t σ H R):tUI X tg iter σ H R:=fun pins s I=>p pins s σ H R I h
def Cont (K:Fg) (M:Mem) (k:D→Mem→Prop) (G H:Hp) (Q:VK):Prop:=∀ v G' H' d M',Stp K G H M G' H' M'→Den K G' d v→k d M'→Q v H'
def GE (X:Cx) (e:Expr) (Γ:Gm) (M:Mem) (k:D→Mem→Prop):Prop :=
 ∀ σ G H Q,EnvR X.K G Γ σ→Rel X.K G H M→Cont X.K M k G H Q→tU X e σ H Q
def lU (K:Fg) (M:Mem) (k:Bool→Mem→Prop) (G H:Hp) (Q:Bool→Hp→Prop):Prop:=∀ b G' H' M',Stp K G H M G' H' M'→k b M'→Q b H'
def GT (X:Cx) (e:Expr) (Γ:Gm) (M:Mem) (k:Bool→Mem→Prop):Prop :=
 ∀ σ G H Q,EnvR X.K G Γ σ→Rel X.K G H M→lU X.K M k G H Q→tUT X e σ H Q
def GW (X:Cx) (e:Expr) (Γ:Gm) (M:Mem) (k:Bool→Mem→Prop):Prop :=
 ∀ σ G H Q,EnvR X.K G Γ σ→Rel X.K G H M→lU X.K M k G H Q→tUW X e σ H Q
def GA (X:Cx) (es:List Expr) (Γ:Gm) (M:Mem) (k:List D→Mem→Prop):Prop :=
 ∀ σ G H Q,EnvR X.K G Γ σ→Rel X.K G H M→(∀ vs G' H' ds M',Stp X.K G H M G' H' M'→Dens X.K G' ds vs→k ds M'→Q vs H')→tUA X es σ H Q
def i9 (K:Fg) (M:Mem) (k:Gm→Mem→Prop) (G H:Hp) (Q:St→Hp→Prop):Prop:=∀ σ' G' H' Γ' M',Stp K G H M G' H' M'→EnvR K G' Γ' σ'→k Γ' M'→Q σ' H'
def GG (X:Cx) (tg:Expr) (d:D) (Γ:Gm) (M:Mem) (k:Gm→Mem→Prop):Prop :=
 ∀ σ G H v Q,EnvR X.K G Γ σ→Rel X.K G H M→Den X.K G d v→i9 X.K M k G H Q→tUG X tg v σ H Q
def GGs (X:Cx) (tgs:List Expr) (ds:List D) (Γ:Gm) (M:Mem) (k:Gm→Mem→Prop):Prop :=
 ∀ σ G H vs Q,EnvR X.K G Γ σ→Rel X.K G H M→Dens X.K G ds vs→i9 X.K M k G H Q→tUGs X tgs vs σ H Q
structure Fin where
 nx:Gm→Mem→Prop
 rt:D→Mem→Prop
 bk:Gm→Mem→Prop:=fun _ _=>False
 ct:Gm→Mem→Prop:=fun _ _=>False
structure EndsOk (K:Fg) (G H:Hp) (M:Mem) (F:Fin) (E:Ends):Prop where
 nx:i9 K M F.nx G H E.nx
 rt:Cont K M F.rt G H E.rt
 bk:i9 K M F.bk G H E.bk
 ct:i9 K M F.ct G H E.ct
theorem Cont.up {K:Fg}{M M1:Mem}{k:D→Mem→Prop}{G H G1 H1:Hp}{Q:VK} (c:Cont K M k G H Q) (s:Stp K G H M G1 H1 M1):Cont K M1 k G1 H1 Q:=fun v G' H' d M' s'=>c v G' H' d M' (s.trans s')
theorem i9.up {K:Fg}{M M1:Mem}{k:Gm→Mem→Prop}{G H G1 H1:Hp}{Q:St→Hp→Prop} (c:i9 K M k G H Q) (s:Stp K G H M G1 H1 M1):i9 K M1 k G1 H1 Q:=fun v G' H' d M' s'=>c v G' H' d M' (s.trans s')
theorem lU.up {K:Fg}{M M1:Mem}{k:Bool→Mem→Prop}{G H G1 H1:Hp}{Q:Bool→Hp→Prop} (c:lU K M k G H Q) (s:Stp K G H M G1 H1 M1):lU K M1 k G1 H1 Q:=fun v G' H' M' s'=>c v G' H' M' (s.trans s')
theorem EndsOk.up {K:Fg}{M M1:Mem}{F:Fin}{E:Ends}{G H G1 H1:Hp} (c:EndsOk K G H M F E) (s:Stp K G H M G1 H1 M1):EndsOk K G1 H1 M1 F E:=⟨c.nx.up s,c.rt.up s,c.bk.up s,c.ct.up s⟩
def GS (X:Cx) (ss:List Stmt) (Γ:Gm) (M:Mem) (F:Fin):Prop :=
 ∀ σ G H E,EnvR X.K G Γ σ→Rel X.K G H M→EndsOk X.K G H M F E→tUSs X ss E σ H
def G1 (X:Cx) (st:Stmt) (Γ:Gm) (M:Mem) (F:Fin):Prop :=
 ∀ σ G H E,EnvR X.K G Γ σ→Rel X.K G H M→EndsOk X.K G H M F E→tUS X st E σ H
end Z
namespace Z
open PySem L2
section
variable {K:Fg}{G H:Hp}{M:Mem}
theorem cA {i:Int}:Den K G (.int i) (.int i):=by simp only [Den]
theorem dB {i:Bool}:Den K G (.bl i) (.bl i):=by simp only [Den]
theorem fY {i:Str}:Den K G (.str i) (.str i):=by simp only [Den]
theorem tQ:Den K G .non .non:=by simp only [Den]
theorem wM {a:Addr}:Den K G (.mt a) (.ref a):=by simp only [Den]
theorem iN {a:Addr}{vs:List V}{ds:List D} (h:SqT K G a vs) (r:Dens K G ds vs):Den K G (.tup ds) (.ref a):=by simp only [Den]; exact ⟨a,vs,rfl,h,r⟩
theorem eM {a:Addr}{vs:List V}{ds:List D} (h:G a=some (.lst vs)) (r:Dens K G ds vs):Den K G (.lst ds) (.ref a):=by simp only [Den]; exact ⟨a,vs,rfl,h,r⟩
theorem aE0 {a:Addr}{vs:List V}{ds:List D} (h:SqL K G a vs) (r:Dens K G ds vs):Den K G (.fl ds) (.ref a):=by simp only [Den]; exact ⟨a,vs,rfl,h,r⟩
theorem Den.int_ {i:Int}{v:V} (h:Den K G (.int i) v):v = .int i:=by simp only [Den] at h; exact h
theorem Den.bl_ {i:Bool}{v:V} (h:Den K G (.bl i) v):v = .bl i:=by simp only [Den] at h; exact h
theorem Den.str_ {i:Str}{v:V} (h:Den K G (.str i) v):v = .str i:=by simp only [Den] at h; exact h
theorem Den.non_ {v:V} (h:Den K G .non v):v = .non:=by simp only [Den] at h; exact h
theorem Den.mt_ {a:Addr}{v:V} (h:Den K G (.mt a) v):v = .ref a:=by simp only [Den] at h; exact h
theorem Den.tup_ {ds:List D}{v:V} (h:Den K G (.tup ds) v):∃ a vs,v = .ref a∧SqT K G a vs∧Dens K G ds vs:=by simp only [Den] at h; exact h
theorem Den.lst_ {ds:List D}{v:V} (h:Den K G (.lst ds) v):∃ a vs,v = .ref a∧G a=some (.lst vs)∧Dens K G ds vs:=by simp only [Den] at h; exact h
theorem Den.fl_ {ds:List D}{v:V} (h:Den K G (.fl ds) v):∃ a vs,v = .ref a∧SqL K G a vs∧Dens K G ds vs:=by simp only [Den] at h; exact h
theorem Den.st_ {ks:List (List Int)}{v:V} (h:Den K G (.st ks) v):∃ a xs ep,v = .ref a∧StO K G (G a) a ks xs ep:=by simp only [Den] at h; exact h
inductive Seq (M:Mem):D→Bool→List D→Prop
 | tup (ds:List D):Seq M (.tup ds) false ds
 | lst (ds:List D):Seq M (.lst ds) true ds
 | fl (ds:List D):Seq M (.fl ds) true ds
 | mt {a:Addr}{ds:List D} (h:M a=some (.lst ds)):Seq M (.mt a) true ds
theorem Seq.sq {d:D}{t:Bool}{ds:List D}{v:V} (q:Seq M d t ds) (r:Rel K G H M) (h:Den K G d v):∃ a vs,v = .ref a∧(if t=true then SqL K H a vs else SqT K H a vs)∧Dens K G ds vs:=by
 cases q with
 | tup ds=>obtain ⟨a,vs,e,s,d⟩:=h.tup_; exact ⟨a,vs,e,R.seqT r.same s,d⟩
 | lst ds=>obtain ⟨a,vs,e,s,d⟩:=h.lst_; exact ⟨a,vs,e,SqL.of (r.same _ _ s),d⟩
 | fl ds=>obtain ⟨a,vs,e,s,d⟩:=h.fl_; exact ⟨a,vs,e,r.same.seq s,d⟩
 | mt hm=>obtain ⟨_,vs,e,d⟩:=r.mem _ _ hm; exact ⟨_,vs,h.mt_,SqL.of e,d⟩
theorem Seq.sq2 {d:D}{t:Bool}{ds:List D}{v:V} (q:Seq M d t ds) (r:Rel K G H M) (h:Den K G d v):∃ a vs,v = .ref a∧(SqL K H a vs∨SqT K H a vs)∧Dens K G ds vs:=by
 obtain ⟨a,vs,e,s,d⟩:=q.sq r h
 refine ⟨a,vs,e,?_,d⟩
 cases t with
 | true=>exact .inl s
 | false=>exact .inr s
inductive Lst (M:Mem):D→List D→Prop
 | lst (ds:List D):Lst M (.lst ds) ds
 | mt {a:Addr}{ds:List D} (h:M a=some (.lst ds)):Lst M (.mt a) ds
theorem Lst.sq {d:D}{ds:List D}{v:V} (q:Lst M d ds) (r:Rel K G H M) (h:Den K G d v):∃ a vs,v = .ref a∧H a=some (.lst vs)∧Dens K G ds vs:=by
 cases q with
 | lst ds=>obtain ⟨a,vs,e,s,d⟩:=h.lst_; exact ⟨a,vs,e,r.same _ _ s,d⟩
 | mt hm=>obtain ⟨_,vs,e,d⟩:=r.mem _ _ hm; exact ⟨_,vs,h.mt_,e,d⟩
end
section
variable {X:Cx}{Γ:Gm}{M:Mem}{k:D→Mem→Prop}{kb:Bool→Mem→Prop}{pos:Pos}{a b c e:Expr}{es rest:List Expr}
theorem ge_v (i:Nat) {x:Str}{d:D} (hΓ:Γ[i]?=some (some d)) (h:k d M) (hN:X.N[i]?=some x:=by rfl) (hv:Vis X.env.scope x:=by first | exact Or.inl rfl | exact Or.inr (Or.inl rfl) | exact Or.inr (Or.inr rfl))
  (hd:(x == ("__debug__" : Str))=false:=by decide) (hcd:(x == ("__classdict__" : Str))=false:=by decide):GE X (.Name x pos) Γ M k :=
 fun σ G H Q en rl q=>b3 (aEQ hN hv hd hcd) (let ⟨v,e,dv⟩:=en.get i d hΓ; ⟨v,e,q v G H d M (Stp.refl rl) dv h⟩)
theorem aC {i:Int}{j:Nat} (h:k (.int i) M):GE X (.Constant (.int i) j pos) Γ M k:=fun σ G H Q en rl q=>b3 aDZ (q _ G H _ M (Stp.refl rl) cA h)
theorem mF {i:Bool}{j:Nat} (h:k (.bl i) M):GE X (.Constant (.bool i) j pos) Γ M k:=fun σ G H Q en rl q=>b3 aF0 (q _ G H _ M (Stp.refl rl) dB h)
theorem bW {x:Str}{j:Nat} (h:k (.str x) M):GE X (.Constant (.str x) j pos) Γ M k:=fun σ G H Q en rl q=>b3 aEO (q _ G H _ M (Stp.refl rl) fY h)
theorem aEH (h:GE X e Γ M fun d M1=>∃ a ds M2,d = .mt a∧M1 a=some (.lst ds)∧M2 a=none∧Le M2 M1∧k (.lst ds) M2):GE X e Γ M k:=fun σ G H Q en rl q =>
 h σ G H Q en rl fun v G1 H1 d M1 s1 e1 ⟨a,ds,M2,ed,h1,h2,h3,h4⟩=>by
  subst ed
  obtain ⟨vs,x1,x2,st⟩:=s1.rel.frz h1
  have l:Le M2 (delM M1 a):=fun b o z=>by rw [mK (fun y=>by rw [y,h2] at z; cases z)]; exact h3 b o z
  have st2:=st.trans (st.rel.drop l)
  exact q v _ _ (.lst ds) M2 (s1.trans st2) (by rw [e1.mt_]; exact eM bF (x2.up st.gg)) h4
def Op2 (K:Fg) (r:R2) (d1 d2:D) (M:Mem) (k:D→Mem→Prop):Prop:=∀ G H v1 v2 Q,Rel K G H M→Den K G d1 v1→Den K G d2 v2→Cont K M k G H Q→r v1 v2 H Q
theorem two {r:R2} (h:GE X a Γ M fun d1 M1=>GE X b Γ M1 fun d2 M2=>Op2 X.K r d1 d2 M2 k) {σ:St}{G H:Hp}{Q:VK} (en:EnvR X.K G Γ σ) (rl:Rel X.K G H M) (q:Cont X.K M k G H Q):tOp r (tU X a) (tU X b) σ H Q:=by
 refine h σ G H _ en rl fun v1 G1 H1 d1 M1 s1 e1 h1 => ?_
 refine h1 σ G1 H1 _ (en.up s1.gg) s1.rel fun v2 G2 H2 d2 M2 s2 e2 h2 => ?_
 exact h2 G2 H2 v1 v2 Q s2.rel (e1.up s2.gg) e2 (q.up (s1.trans s2))
theorem aH {op:Operator}{r:R2} (ho:OpR X (binaryOp op) r) (h:GE X a Γ M fun d1 M1=>GE X b Γ M1 fun d2 M2=>Op2 X.K r d1 d2 M2 k):GE X (.BinOp a op b pos) Γ M k :=
 fun σ G H Q en rl q=>b3 (aGJ ho pU pU) (two h en rl q)
theorem gL {op:CmpOp}{r:R2} (ho:OpR X (compareOp op) r) (h:GE X a Γ M fun d1 M1=>GE X b Γ M1 fun d2 M2=>Op2 X.K r d1 d2 M2 k) (hm:behindInMarks op b=false:=by first | exact nomark _ | rfl):GE X (.Compare a [op] [b] pos) Γ M k :=
 fun σ G H Q en rl q=>b3 (aCQ ho pU pU hm) (two h en rl q)
theorem bG {op:CmpOp}{r:R2} (ho:OpR X (compareOp op) r) (h:GE X a Γ M fun d1 M1=>GE X b Γ M1 fun d2 M2=>Op2 X.K r d1 d2 M2 fun d M3=>∃ c,d = .bl c∧kb c M3) (hm:behindInMarks op b=false:=by first | exact nomark _ | rfl):GT X (.Compare a [op] [b] pos) Γ M kb :=
 fun σ G H Q en rl q=>oH (aDB ho pU pU hm) (two (k:=fun d M3=>∃ c,d = .bl c∧kb c M3) h en rl fun v G' H' d M' s e ⟨c,ed,hk⟩=>by subst ed; exact ⟨c,e.bl_,q c G' H' M' s hk⟩)
theorem aI {r:R2} (hr:IxR X r) (h:GE X a Γ M fun d1 M1=>GE X b Γ M1 fun d2 M2=>Op2 X.K r d1 d2 M2 k) (hs:tL b:=by intro _ _; rfl):GE X (.Subscript a b pos) Γ M k :=
 fun σ G H Q en rl q=>b3 (aGA hr pU pU hs) (two h en rl q)
theorem gT {op:UnaryOp}{g:Int→Int} (ho:UnR X (unaryOp op) (rU fun i => .int (g i))) (h:GE X a Γ M fun d M1=>∃ i,d = .int i∧k (.int (g i)) M1):GE X (.UnaryOp op a pos) Γ M k:=fun σ G H Q en rl q=>by
 refine b3 (aF1 ho pU) ?_
 refine h σ G H _ en rl fun v G1 H1 d M1 s1 e1 ⟨i,ed,h1⟩ => ?_
 subst ed
 exact ⟨i,e1.int_,q _ _ _ _ _ s1 cA h1⟩
end
section
variable {K:Fg}{M:Mem}{k:D→Mem→Prop}{i j:Int}{x y:Str}
theorem o2_0 {g:Int→Int→Int} (h:k (.int (g i j)) M):Op2 K (rI0 fun i j => .int (g i j)) (.int i) (.int j) M k:=fun G H v1 v2 Q rl e1 e2 q=>⟨i,j,e1.int_,e2.int_,q _ G H _ M (Stp.refl rl) cA h⟩
theorem o2_C {C:Int→Int→Prop}{g:Int→Int→Int} (hc:C i j) (h:k (.int (g i j)) M):Op2 K (rI C fun i j => .int (g i j)) (.int i) (.int j) M k:=fun G H v1 v2 Q rl e1 e2 q=>⟨i,j,e1.int_,e2.int_,hc,q _ G H _ M (Stp.refl rl) cA h⟩
theorem o2_B {g:Int→Int→Bool} (h:k (.bl (g i j)) M):Op2 K (rI0 fun i j => .bl (g i j)) (.int i) (.int j) M k:=fun G H v1 v2 Q rl e1 e2 q=>⟨i,j,e1.int_,e2.int_,q _ G H _ M (Stp.refl rl) dB h⟩
theorem iT (h:k (.bl (decide (i=j))) M):Op2 K rEq (.int i) (.int j) M k:=fun G H v1 v2 Q rl e1 e2 q=>by
 rw [e1.int_,e2.int_]
 exact ⟨rfl,by rw [show decide (V.int i=V.int j)=decide (i=j) from by simp]; exact q _ G H _ M (Stp.refl rl) dB h⟩
theorem yJ (h:k (.bl (!decide (i=j))) M):Op2 K rNe (.int i) (.int j) M k:=fun G H v1 v2 Q rl e1 e2 q=>by
 rw [e1.int_,e2.int_]
 exact ⟨rfl,by rw [show decide (V.int i=V.int j)=decide (i=j) from by simp]; exact q _ G H _ M (Stp.refl rl) dB h⟩
theorem qY (h:k (.bl (decide (x=y))) M):Op2 K rEq (.str x) (.str y) M k:=fun G H v1 v2 Q rl e1 e2 q=>by
 rw [e1.str_,e2.str_]
 exact ⟨rfl,by rw [show decide (V.str x=V.str y)=decide (x=y) from by simp]; exact q _ G H _ M (Stp.refl rl) dB h⟩
theorem nY (h:k (.bl (!decide (x=y))) M):Op2 K rNe (.str x) (.str y) M k:=fun G H v1 v2 Q rl e1 e2 q=>by
 rw [e1.str_,e2.str_]
 exact ⟨rfl,by rw [show decide (V.str x=V.str y)=decide (x=y) from by simp]; exact q _ G H _ M (Stp.refl rl) dB h⟩
theorem aJ {d1 d:D}{t:Bool}{ds:List D} (q1:Seq M d1 t ds) (e:atI ds i=some d) (h:k d M):Op2 K (rIx K) d1 (.int i) M k:=fun G H v1 v2 Q rl e1 e2 q=>by
 obtain ⟨a,vs,ev,s,dn⟩:=q1.sq2 rl e1
 obtain ⟨v,ei,dv⟩:=dn.atI e
 rw [ev,e2.int_]
 exact R.aF2 s ei (q v G H d M (Stp.refl rl) dv h)
theorem j4 {z:Str}{c:Nat} (hz:z.length≤sizeLine) (e:atI z.cps.toList i=some c) (h:k (.str ⟨#[c]⟩) M):Op2 K (rIx K) (.str z) (.int i) M k:=fun G H v1 v2 Q rl e1 e2 q =>
 .inr (.inr ⟨z,i,c,e1.str_,e2.int_,hz,e,q _ G H _ M (Stp.refl rl) fY h⟩)
theorem tX (hz:x.length+y.length≤sizeLine) (h:k (.str (x++y)) M):Op2 K (fun x y H Q=>∃ i j,x = .str i∧y = .str j∧i.length+j.length≤sizeLine∧Q (.str (i++j)) H) (.str x) (.str y) M k :=
 fun G H v1 v2 Q rl e1 e2 q=>⟨x,y,e1.str_,e2.str_,hz,q _ G H _ M (Stp.refl rl) fY h⟩
theorem oW (h1 : -(2 ^ 40)≤i) (h2:i < 2 ^ 40) (h3:x.length * i.toNat≤sizeLine) (h:k (.str (repS x i.toNat)) M):Op2 K aBL (.str x) (.int i) M k :=
 fun G H v1 v2 Q rl e1 e2 q=>⟨x,i,e1.str_,e2.int_,h1,h2,h3,q _ G H _ M (Stp.refl rl) fY h⟩
theorem d7 {d1 d2:D}{xs ys:List D} (q1:Lst M d1 xs) (q2:Lst M d2 ys) (hl:xs.length+ys.length≤sizeLine) (h:k (.lst (xs++ys)) M):Op2 K rCat d1 d2 M k:=fun G H v1 v2 Q rl e1 e2 q=>by
 obtain ⟨a,vs,ev,s,dn⟩:=q1.sq rl e1
 obtain ⟨b,ws,ew,s2,dn2⟩:=q2.sq rl e2
 refine ⟨a,b,vs,ws,ev,ew,s,s2,by rw [← dn.len,← dn2.len]; exact hl,fun p hp => ?_⟩
 have st:=rl.new (o := .lst (vs++ws)) hp
 exact q _ _ _ _ _ st (eM bF ((dn.append dn2).up st.gg)) h
end
end Z
namespace Z
open PySem L2
section
variable {X:Cx}{Γ:Gm}{M:Mem}{k:D→Mem→Prop}{kb:Bool→Mem→Prop}{pos:Pos}{a b c e o:Expr}{es rest:List Expr}
theorem cL (h:GE X e Γ M fun d M1=>∃ c,d = .bl c∧kb c M1) (he:∀ whole,isTrue e X.env whole=(do let v ← whole; standAt e.pos; holding [v] (truthy v)):=by intro _; rfl):GT X e Γ M kb:=fun σ G H Q en rl q=>by
 refine oH (aFM pU he) ?_
 exact h σ G H _ en rl fun v G1 H1 d M1 s1 e1 ⟨c,ed,h1⟩=>by subst ed; exact ⟨c,e1.bl_,q _ _ _ _ s1 h1⟩
inductive Tru (M:Mem):D→Bool→Prop
 | seq {d:D}{t:Bool}{ds:List D} (q:Seq M d t ds):Tru M d (!ds.isEmpty)
 | str (x:Str) (h:x.length≤sizeLine):Tru M (.str x) ((x.length:Int) != 0)
 | bl (b:Bool):Tru M (.bl b) b
 | int (i:Int):Tru M (.int i) (i != 0)
 | non:Tru M .non false
theorem qX {K:Fg}{G:Hp}{ds:List D}{vs:List V} (h:Dens K G ds vs):ds.isEmpty=vs.isEmpty:=by
 cases ds with
 | nil=>rw [bR h]; rfl
 | cons d ds=>obtain ⟨v,r,rfl,_⟩:=bA h; rfl
theorem kK (h:GE X e Γ M fun d M1=>∃ c,Tru M1 d c∧kb c M1) (he:∀ whole,isTrue e X.env whole=(do let v ← whole; standAt e.pos; holding [v] (truthy v)):=by intro _; rfl):GT X e Γ M kb:=fun σ G H Q en rl q=>by
 refine oH (aAT pU he) ?_
 refine h σ G H _ en rl fun v G1 H1 d M1 s1 e1 ⟨c,tr,h1⟩=>⟨c,?_,q _ _ _ _ s1 h1⟩
 cases tr with
 | seq sq =>
  obtain ⟨a,vs,ev,s,dn⟩:=sq.sq2 s1.rel e1
  subst ev
  rw [qX dn]
  rcases s with s | s
  ·exact .inl ⟨vs,s,rfl⟩
  ·exact .inr (.inl ⟨vs,s,rfl⟩)
 | str x hx=>rw [e1.str_]; exact ⟨hx,rfl⟩
 | bl b=>rw [e1.bl_]; rfl
 | int i=>rw [e1.int_]; rfl
 | non=>rw [e1.non_]; rfl
theorem c8 (h:GT X a Γ M fun c M1=>kb (!c) M1):GT X (.UnaryOp .Not a pos) Γ M kb:=fun σ G H Q en rl q=>by
 refine oH (aEJ pUT) ?_
 exact h σ G H _ en rl fun c G1 H1 M1 s1 h1=>q _ _ _ _ s1 h1
theorem gt_w (h:GW X e Γ M kb):GT X e Γ M kb:=fun σ G H Q en rl q pins s I=>h σ G H Q en rl q (eval e X.env) pins s I
theorem uS (h:GT X a Γ M kb):GW X (.BoolOp .And [a] pos) Γ M kb:=fun σ G H Q en rl q=>oC (aCC pUT) (h σ G H _ en rl q)
theorem iY (h:GT X a Γ M kb):GW X (.BoolOp .Or [a] pos) Γ M kb:=fun σ G H Q en rl q=>oC (aDW pUT) (h σ G H _ en rl q)
theorem xT (h:GT X a Γ M fun c M1=>if c=true then GW X (.BoolOp .And (b::rest) pos) Γ M1 kb else kb false M1):GW X (.BoolOp .And (a::b::rest) pos) Γ M kb:=fun σ G H Q en rl q=>by
 refine oC (aER pUT pUW) ?_
 refine h σ G H _ en rl fun c G1 H1 M1 s1 h1 => ?_
 cases c with
 | true=>rw [if_pos rfl] at h1 ⊢; exact h1 σ G1 H1 _ (en.up s1.gg) s1.rel (q.up s1)
 | false=>rw [if_neg Bool.false_ne_true] at h1 ⊢; exact q _ _ _ _ s1 h1
theorem gA (h:GT X a Γ M fun c M1=>if c=true then kb true M1 else GW X (.BoolOp .Or (b::rest) pos) Γ M1 kb):GW X (.BoolOp .Or (a::b::rest) pos) Γ M kb:=fun σ G H Q en rl q=>by
 refine oC (aGE pUT pUW) ?_
 refine h σ G H _ en rl fun c G1 H1 M1 s1 h1 => ?_
 cases c with
 | true=>rw [if_pos rfl] at h1 ⊢; exact q _ _ _ _ s1 h1
 | false=>rw [if_neg Bool.false_ne_true] at h1 ⊢; exact h1 σ G1 H1 _ (en.up s1.gg) s1.rel (q.up s1)
theorem lN {op:BoolOp} (h:GE X a Γ M k):GE X (.BoolOp op [a] pos) Γ M k:=fun σ G H Q en rl q=>b3 (aEK pU) (h σ G H _ en rl q)
theorem oN (h:GE X a Γ M fun d M1=>∃ c,d = .bl c∧if c=true then GE X (.BoolOp .And (b::rest) pos) Γ M1 k else k (.bl false) M1):GE X (.BoolOp .And (a::b::rest) pos) Γ M k:=fun σ G H Q en rl q=>by
 refine b3 (aD8 pU pU) ?_
 refine h σ G H _ en rl fun v G1 H1 d M1 s1 e1 ⟨c,ed,h1⟩ => ?_
 subst ed
 refine ⟨c,e1.bl_,?_⟩
 cases c with
 | true=>rw [if_pos rfl] at h1 ⊢; exact h1 σ G1 H1 _ (en.up s1.gg) s1.rel (q.up s1)
 | false=>rw [if_neg Bool.false_ne_true] at h1 ⊢; exact q _ _ _ _ _ s1 dB h1
theorem wT (h:GE X a Γ M fun d M1=>∃ c,d = .bl c∧k (.bl (!c)) M1):GE X (.UnaryOp .Not a pos) Γ M k:=fun σ G H Q en rl q=>by
 refine b3 (aES pU) ?_
 exact h σ G H _ en rl fun v G1 H1 d M1 s1 e1 ⟨c,ed,h1⟩=>by subst ed; exact ⟨c,e1.bl_,q _ _ _ _ _ s1 dB h1⟩
theorem oG (h:GT X c Γ M fun t M1=>if t=true then GE X a Γ M1 k else GE X b Γ M1 k):GE X (.IfExp c a b pos) Γ M k:=fun σ G H Q en rl q=>by
 refine b3 (zN pUT pU pU) ?_
 refine h σ G H _ en rl fun t G1 H1 M1 s1 h1 => ?_
 cases t with
 | true=>rw [if_pos rfl] at h1 ⊢; exact h1 σ G1 H1 _ (en.up s1.gg) s1.rel (q.up s1)
 | false=>rw [if_neg Bool.false_ne_true] at h1 ⊢; exact h1 σ G1 H1 _ (en.up s1.gg) s1.rel (q.up s1)
variable {ka:List D→Mem→Prop}
theorem aB (h:ka [] M):GA X [] Γ M ka:=fun σ G H Q en rl q=>yI wF (q _ _ _ _ _ (Stp.refl rl) cW h)
theorem aA (h:GE X e Γ M fun d M1=>GA X es Γ M1 fun ds M2=>ka (d::ds) M2) (hs:starEach (e::es) X.env=(false,eval e X.env)::starEach es X.env:=by rfl):GA X (e::es) Γ M ka:=fun σ G H Q en rl q=>by
 refine yI (oY pU pUA hs) ?_
 refine h σ G H _ en rl fun v G1 H1 d M1 s1 e1 h1 => ?_
 exact h1 σ G1 H1 _ (en.up s1.gg) s1.rel fun vs G2 H2 ds M2 s2 e2 h2=>q _ _ _ _ _ (s1.trans s2) (cC (e1.up s2.gg) e2) h2
theorem b5 {x1} (h:GA X es Γ M fun ds M1=>ds.length≤sizeLine∧k (.tup ds) M1):GE X (.Tuple es x1 pos) Γ M k:=fun σ G H Q en rl q=>by
 refine b3 (aEY pUA) ?_
 refine h σ G H _ en rl fun vs G1 H1 ds M1 s1 e1 ⟨hl,h1⟩=>⟨by rw [← e1.len]; exact hl,fun p hp => ?_⟩
 have st:=s1.rel.new (o := .tup vs) hp
 exact q _ _ _ _ _ (s1.trans st) (iN (SqT.of bF) (e1.up st.gg)) h1
theorem bX (h:GA X es Γ M fun ds M1=>ds.length≤sizeLine∧k (.lst ds) M1):GE X (.List es pos) Γ M k:=fun σ G H Q en rl q=>by
 refine b3 (xC pUA) ?_
 refine h σ G H _ en rl fun vs G1 H1 ds M1 s1 e1 ⟨hl,h1⟩=>⟨by rw [← e1.len]; exact hl,fun p hp => ?_⟩
 have st:=s1.rel.new (o := .lst vs) hp
 exact q _ _ _ _ _ (s1.trans st) (eM bF (e1.up st.gg)) h1
theorem iJ (h:GA X es Γ M fun ds M1=>ds.length≤sizeLine∧∀ a,M1 a=none→k (.mt a) (updM M1 a (.lst ds))):GE X (.List es pos) Γ M k:=fun σ G H Q en rl q=>by
 refine b3 (xC pUA) ?_
 refine h σ G H _ en rl fun vs G1 H1 ds M1 s1 e1 ⟨hl,h1⟩=>⟨by rw [← e1.len]; exact hl,fun p hp => ?_⟩
 exact q _ _ _ _ _ (s1.trans (s1.rel.newM hp e1)) wM (h1 p (s1.rel.free hp).2)
abbrev Ct:=List D→Mem→(D→Mem→Prop)→Prop
def spZ (K:Fg) (F:Ct):Sp:=fun vs H Q _=>∃ G M ds k,Rel K G H M∧Dens K G ds vs∧F ds M k∧Cont K M k G H Q
theorem aF {n:Nat}{f:Addr}{fd:FuncData}{ps:List Str}{x:Str}{p:Pos}{F:Ct} (Fk:FnOk X.prog X.w X.K X.mg X.base CX0 n f fd ps (spZ X.K F)) (hr:Room n X.A) (hm:X.mg x=some (.ref f)) (hk:PySem.W.keepIn X.K (.ref f)=true) (hb:Binds X.K fd ps [])
  (h:GA X (e::es) Γ M fun ds M1=>F ds M1 k) (hg:Gl X x:=by rfl) (hdb:(x == ("__debug__" : Str))=false:=by decide) (he:starEach (e::es) X.env=(false,eval e X.env)::starEach es X.env:=by rfl) (hpl:(backTo pos (starEach es X.env)).any (·.1)=false:=by rfl) :
  GE X (.Call (.Name x p) (e::es) [] pos) Γ M k:=fun σ G H Q en rl q=>by
 refine b3 (aCV Fk hr hg hm hk hb .nil pass0 pUA hdb he hpl) ?_
 refine h σ G H _ en rl fun vs G1 H1 ds M1 s1 e1 h1 => ?_
 show spZ X.K F (vs++[]) H1 Q E0
 rw [List.append_nil]
 exact ⟨G1,M1,ds,k,s1.rel,e1,h1,q.up s1⟩
def OpN (K:Fg) (r:List V→Hp→VK→Prop) (ds:List D) (M:Mem) (k:D→Mem→Prop):Prop:=∀ G H vs Q,Rel K G H M→Dens K G ds vs→Cont K M k G H Q→r vs H Q
theorem aM {x:Str}{p:Pos}{id:String}{r:List V→Hp→VK→Prop} (hc:dH X (.builtin id) r) (hm:X.mg x=none) (hv:bootBuiltins x=some (.builtin id))
  (h:GA X (e::es) Γ M fun ds M1=>OpN X.K r ds M1 k) (hg:Gl X x:=by rfl) (hn:x ≠ "__name__" := by decide) (hdb:(x == ("__debug__" : Str))=false:=by decide)
  (he:starEach (e::es) X.env=(false,eval e X.env)::starEach es X.env:=by rfl) (hpl:(backTo pos (starEach es X.env)).any (·.1)=false:=by rfl):GE X (.Call (.Name x p) (e::es) [] pos) Γ M k:=fun σ G H Q en rl q=>by
 refine b3 (rW hc hg hm hv pUA hn hdb he hpl) ?_
 exact h σ G H _ en rl fun vs G1 H1 ds M1 s1 e1 h1=>h1 G1 H1 vs Q s1.rel e1 (q.up s1)
theorem b4 {x:Str}{p:Pos}{T:String}{r:List V→Hp→VK→Prop} (hc:dH X (.type T) r) (hm:X.mg x=none) (hv:bootBuiltins x=some (.type T))
  (h:GA X (e::es) Γ M fun ds M1=>OpN X.K r ds M1 k) (hg:Gl X x:=by rfl) (hn:x ≠ "__name__" := by decide) (hdb:(x == ("__debug__" : Str))=false:=by decide)
  (he:starEach (e::es) X.env=(false,eval e X.env)::starEach es X.env:=by rfl) (hpl:(backTo pos (starEach es X.env)).any (·.1)=false:=by rfl):GE X (.Call (.Name x p) (e::es) [] pos) Γ M k:=fun σ G H Q en rl q=>by
 refine b3 (vW hc hg hm hv pUA hn hdb he hpl) ?_
 exact h σ G H _ en rl fun vs G1 H1 ds M1 s1 e1 h1=>h1 G1 H1 vs Q s1.rel e1 (q.up s1)
theorem dens1 {K:Fg}{G:Hp}{d:D}{vs:List V} (h:Dens K G [d] vs):∃ v,vs=[v]∧Den K G d v:=by
 obtain ⟨v,r,rfl,h1,h2⟩:=bA h
 rw [bR h2]; exact ⟨v,rfl,h1⟩
theorem dens2 {K:Fg}{G:Hp}{d c:D}{vs:List V} (h:Dens K G [d,c] vs):∃ v u,vs=[v,u]∧Den K G d v∧Den K G c u:=by
 obtain ⟨v,r,rfl,h1,h2⟩:=bA h
 obtain ⟨u,rfl,h3⟩:=dens1 h2
 exact ⟨v,u,rfl,h1,h3⟩
theorem bY {K:Fg}{d:D}{t:Bool}{ds:List D} (q1:Seq M d t ds) (h:k (.int (ds.length:Int)) M):OpN K (fun xs H Q=>∃ x n,xs=[x]∧LenV K x H n∧Q (.int n) H) [d] M k:=fun G H vs Q rl e q=>by
 obtain ⟨v,rfl,dv⟩:=dens1 e
 obtain ⟨a,ws,ev,s,dn⟩:=q1.sq2 rl dv
 subst ev
 refine ⟨_,ds.length,rfl,?_,q _ _ _ _ _ (Stp.refl rl) cA h⟩
 rcases s with s | s
 ·exact .inl ⟨ws,s,dn.len⟩
 ·exact .inr ⟨ws,s,dn.len⟩
theorem fJ {K:Fg}{x:Str} (hz:x.length≤sizeLine) (h:k (.int (x.length:Int)) M):OpN K (fun xs H Q=>∃ x n,xs=[x]∧LenV K x H n∧Q (.int n) H) [.str x] M k:=fun G H vs Q rl e q=>by
 obtain ⟨v,rfl,dv⟩:=dens1 e
 rw [dv.str_]
 exact ⟨_,x.length,rfl,⟨hz,rfl⟩,q _ _ _ _ _ (Stp.refl rl) cA h⟩
theorem k7 {K:Fg}{i:Int} (h:k (.int (if i < 0 then -i else i)) M):OpN K (fun xs H Q=>∃ i,xs=[.int i]∧Q (.int (if i < 0 then -i else i)) H) [.int i] M k:=fun G H vs Q rl e q=>by
 obtain ⟨v,rfl,dv⟩:=dens1 e
 rw [dv.int_]
 exact ⟨i,rfl,q _ _ _ _ _ (Stp.refl rl) cA h⟩
theorem lE {K:Fg}{i j:Int} (h:k (.int (if j > i then j else i)) M):OpN K (fun xs H Q=>∃ i j,xs=[.int i, .int j]∧Q (.int (if j > i then j else i)) H) [.int i, .int j] M k:=fun G H vs Q rl e q=>by
 obtain ⟨v,u,rfl,dv,du⟩:=dens2 e
 rw [dv.int_,du.int_]
 exact ⟨i,j,rfl,q _ _ _ _ _ (Stp.refl rl) cA h⟩
theorem aFA {K:Fg}{i j:Int} (h:k (.int (if j < i then j else i)) M):OpN K (fun xs H Q=>∃ i j,xs=[.int i, .int j]∧Q (.int (if j < i then j else i)) H) [.int i, .int j] M k:=fun G H vs Q rl e q=>by
 obtain ⟨v,u,rfl,dv,du⟩:=dens2 e
 rw [dv.int_,du.int_]
 exact ⟨i,j,rfl,q _ _ _ _ _ (Stp.refl rl) cA h⟩
theorem jV {K:Fg}{d:D}{t:Bool}{ds:List D} (q1:Seq M d t ds) (h:k (.lst ds) M):OpN K (fun xs H Q=>∃ p ys,xs=[.ref p]∧(SqL K H p ys∨SqT K H p ys)∧∀ l,H l=none→Q (.ref l) (upd H l (.lst ys))) [d] M k:=fun G H vs Q rl e q=>by
 obtain ⟨v,rfl,dv⟩:=dens1 e
 obtain ⟨a,ws,ev,s,dn⟩:=q1.sq2 rl dv
 subst ev
 refine ⟨a,ws,rfl,s,fun l hl => ?_⟩
 have st:=rl.new (o := .lst ws) hl
 exact q _ _ _ _ _ st (eM bF (dn.up st.gg)) h
theorem d8 {K:Fg}{d:D}{t:Bool}{ds:List D} (q1:Seq M d t ds) (h:k (.tup ds) M):OpN K (fun xs H Q=>∃ p ys,xs=[.ref p]∧((SqL K H p ys∧∀ l,H l=none→Q (.ref l) (upd H l (.tup ys)))∨(SqT K H p ys∧Q (.ref p) H))) [d] M k:=fun G H vs Q rl e q=>by
 obtain ⟨v,rfl,dv⟩:=dens1 e
 cases q1 with
 | tup ds =>
  obtain ⟨a,ws,ev,s,dn⟩:=dv.tup_
  subst ev
  exact ⟨a,ws,rfl, .inr ⟨R.seqT rl.same s,q _ _ _ _ _ (Stp.refl rl) dv h⟩⟩
 | lst ds =>
  obtain ⟨a,ws,ev,s,dn⟩:=(Seq.lst ds).sq rl dv
  subst ev
  refine ⟨a,ws,rfl, .inl ⟨s,fun l hl => ?_⟩⟩
  have st:=rl.new (o := .tup ws) hl
  exact q _ _ _ _ _ st (iN (SqT.of bF) (dn.up st.gg)) h
 | fl ds =>
  obtain ⟨a,ws,ev,s,dn⟩:=(Seq.fl ds).sq rl dv
  subst ev
  refine ⟨a,ws,rfl, .inl ⟨s,fun l hl => ?_⟩⟩
  have st:=rl.new (o := .tup ws) hl
  exact q _ _ _ _ _ st (iN (SqT.of bF) (dn.up st.gg)) h
 | mt hm =>
  obtain ⟨a,ws,ev,s,dn⟩:=(Seq.mt hm).sq rl dv
  subst ev
  refine ⟨a,ws,rfl, .inl ⟨s,fun l hl => ?_⟩⟩
  have st:=rl.new (o := .tup ws) hl
  exact q _ _ _ _ _ st (iN (SqT.of bF) (dn.up st.gg)) h
theorem uQ {K:Fg}{G:Hp}:∀ {bs:List Bool}{vs:List V},Dens K G (bs.map D.bl) vs→vs=bs.map V.bl
 | [],_,h=>bR h
 | b::bs,_,h=>by
  obtain ⟨v,r,rfl,h1,h2⟩:=bA h
  rw [h1.bl_,uQ h2]; rfl
theorem qV {K:Fg}{G:Hp}:∀ {bs:List Str}{vs:List V},Dens K G (bs.map D.str) vs→vs=bs.map V.str
 | [],_,h=>bR h
 | b::bs,_,h=>by
  obtain ⟨v,r,rfl,h1,h2⟩:=bA h
  rw [h1.str_,qV h2]; rfl
theorem pM {K:Fg}{G:Hp}:∀ {bs:List Int}{vs:List V},Dens K G (bs.map D.int) vs→vs=bs.map V.int
 | [],_,h=>bR h
 | b::bs,_,h=>by
  obtain ⟨v,r,rfl,h1,h2⟩:=bA h
  rw [h1.int_,pM h2]; rfl
theorem iR {K:Fg}{d:D}{t:Bool}{bs:List Bool}{g:List Bool→Bool} (q1:Seq M d t (bs.map D.bl)) (h:k (.bl (g bs)) M):OpN K (rAll K g) [d] M k:=fun G H vs Q rl e q=>by
 obtain ⟨v,rfl,dv⟩:=dens1 e
 obtain ⟨a,ws,ev,s,dn⟩:=q1.sq2 rl dv
 subst ev
 rw [uQ dn] at s
 exact ⟨a,bs,rfl,s,q _ _ _ _ _ (Stp.refl rl) dB h⟩
def TyD (T:String) (d:D) (M:Mem):Prop:=match d with
 | .str _=>T = "str"
 | .lst _=>T = "list"
 | .mt a=>T = "list" ∧ ∃ ds,M a=some (.lst ds)
 | _=>False
theorem TyD.ok {K:Fg}{G H:Hp}{T:String}{d:D}{v:V} (h:TyD T d M) (rl:Rel K G H M) (e:Den K G d v):tyV K T v H:=by
 cases d with
 | str x=>rw [e.str_]; exact h
 | lst ds=>obtain ⟨a,vs,ev,s,_⟩:=e.lst_; rw [ev]; exact .inl ⟨h,vs,SqL.of (rl.same _ _ s)⟩
 | mt a =>
  obtain ⟨h1,ds,h2⟩:=h
  obtain ⟨_,vs,s,_⟩:=rl.mem _ _ h2
  rw [e.mt_]; exact .inl ⟨h1,vs,SqL.of s⟩
 | _=>exact False.elim h
def OpM (K:Fg) (r:V→List V→Hp→VK→Prop) (d:D) (ds:List D) (M:Mem) (k:D→Mem→Prop):Prop:=∀ G H v vs Q,Rel K G H M→Den K G d v→Dens K G ds vs→Cont K M k G H Q→r v vs H Q
theorem g8 {T id:String}{name:Str}{apos cpos:Pos}{r:V→List V→Hp→VK→Prop} (pa:PlainAttrs T) (slot:Slot T name id) (hty:typeOf (.builtin id)=pure (.type "method_descriptor")) (hm:MtR X id r)
  (h:GE X o Γ M fun d M1=>TyD T d M1∧GA X (e::es) Γ M1 fun ds M2=>OpM X.K r d ds M2 k)
  (hbase:attributeBase o name X.env (eval o X.env)=eval o X.env:=by rfl)
  (hfew:((backTo cpos (starEach (e::es) X.env)).all (fun x => !x.1) && (backToKw cpos (keywordEach [] X.env)).all (fun x=>x.1.isSome)
   && decide ((e::es).length+([]:List Keyword).length+(if ([]:List Keyword).isEmpty then 0 else 1) < 30))=true:=by rfl)
  (hline:(apos.endLine == cpos.line)=true:=by rfl) (hs:starEach (e::es) X.env=(false,eval e X.env)::starEach es X.env:=by rfl) (hplain:(backTo cpos (starEach es X.env)).any (·.1)=false:=by rfl) :
  GE X (.Call (.Attribute o name apos) (e::es) [] cpos) Γ M k:=fun σ G H Q en rl q=>by
 refine b3 (aGL pa slot hty hm pU pUA hbase hfew hline hs hplain) ?_
 refine h σ G H _ en rl fun v G1 H1 d M1 s1 e1 ⟨ty,h1⟩=>⟨ty.ok s1.rel e1,?_⟩
 exact h1 σ G1 H1 _ (en.up s1.gg) s1.rel fun vs G2 H2 ds M2 s2 e2 h2=>h2 G2 H2 v vs Q s2.rel (e1.up s2.gg) e2 (q.up (s1.trans s2))
theorem gO {K:Fg}{a:Addr}{ds:List D}{d:D} (hm:M a=some (.lst ds)) (hl:ds.length < sizeLine) (h:k .non (updM M a (.lst (ds++[d])))):OpM K tD (.mt a) [d] M k:=fun G H v vs Q rl e e2 q=>by
 obtain ⟨u,rfl,du⟩:=dens1 e2
 obtain ⟨_,ws,s,dn⟩:=rl.mem _ _ hm
 exact ⟨a,ws,u,e.mt_,rfl,s,by rw [← dn.len]; exact hl,q _ _ _ _ _ (rl.wr hm (dn.append (cC du cW))) tQ h⟩
theorem m8 {K:Fg}{sep:Str}{d:D}{t:Bool}{ys:List Str} (q1:Seq M d t (ys.map D.str)) (h1:sep.length≤16) (h2:(ys.map (·.length)).sum+ys.length≤1048576) (h:k (.str (PySem.Txt.join sep ys)) M):OpM K (aBD K) (.str sep) [d] M k:=fun G H v vs Q rl e e2 q=>by
 obtain ⟨u,rfl,du⟩:=dens1 e2
 obtain ⟨a,ws,ev,s,dn⟩:=q1.sq2 rl du
 subst ev
 rw [qV dn] at s
 exact ⟨sep,a,ys,e.str_,rfl,s,h1,h2,q _ _ _ _ _ (Stp.refl rl) fY h⟩
end
end Z
namespace Z
open PySem L2
section
variable {X:Cx}{Γ:Gm}{M:Mem}{k:D→Mem→Prop}{kb:Bool→Mem→Prop}{pos:Pos}{a b c e o:Expr}{es rest:List Expr}{lo hi:Option Expr}{ko:Option Int→Mem→Prop}
def tUO (X:Cx) (e:Option Expr):TO:=fun σ H Q=>∀ pins s,Inv X pins σ H s→wpAny (model X.prog X.w) X.A (evalPart e X.env) (fun u s'=>∃ o H',Inv X pins σ H' s'∧IsPart u o∧Q o H') X.xe s
theorem pUO {e:Option Expr}:PO X e (tUO X e):=fun pins s σ H Q I h=>h pins s I
theorem yY {e:Option Expr}{t:TO} (p:PO X e t) {σ:St}{H:Hp}{Q:Option Int→Hp→Prop} (h:t σ H Q):tUO X e σ H Q:=fun pins s I=>p pins s σ H Q I h
def GO (X:Cx) (e:Option Expr) (Γ:Gm) (M:Mem) (ko:Option Int→Mem→Prop):Prop :=
 ∀ σ G H Q,EnvR X.K G Γ σ→Rel X.K G H M→(∀ o G' H' M',Stp X.K G H M G' H' M'→ko o M'→Q o H')→tUO X e σ H Q
theorem iK (h:ko none M):GO X none Γ M ko:=fun σ G H Q en rl q=>yY aDM (q _ _ _ _ (Stp.refl rl) h)
theorem iM (h:GE X e Γ M fun d M1=>∃ i,d = .int i∧ko (some i) M1):GO X (some e) Γ M ko:=fun σ G H Q en rl q=>yY (aDF pU) (h σ G H _ en rl fun v G1 H1 d M1 s1 e1 ⟨i,ed,h1⟩=>by subst ed; exact ⟨i,e1.int_,q _ _ _ _ s1 h1⟩)
abbrev R3:=V→Option Int→Option Int→Hp→VK→Prop
def Op3 (K:Fg) (r:R3) (d:D) (l u:Option Int) (M:Mem) (k:D→Mem→Prop):Prop:=∀ G H v Q,Rel K G H M→Den K G d v→Cont K M k G H Q→r v l u H Q
theorem fX {r:R3}{p2:Pos} (hr:SlR X r) (h:GE X e Γ M fun d M1=>GO X lo Γ M1 fun l M2=>GO X hi Γ M2 fun u M3=>Op3 X.K r d l u M3 k):GE X (.Subscript e (.Slice lo hi none p2) pos) Γ M k:=fun σ G H Q en rl q=>by
 refine b3 (aA2 hr pU pUO pUO) ?_
 refine h σ G H _ en rl fun v G1 H1 d M1 s1 e1 h1 => ?_
 refine h1 σ G1 H1 _ (en.up s1.gg) s1.rel fun l G2 H2 M2 s2 h2 => ?_
 refine h2 σ G2 H2 _ (en.up (s1.trans s2).gg) s2.rel fun u G3 H3 M3 s3 h3 => ?_
 exact h3 G3 H3 v Q s3.rel (e1.up (s2.trans s3).gg) (q.up ((s1.trans s2).trans s3))
def cutD {α:Type} (xs:List α) (lo hi:Option Int):List α:=(xs.drop (HT.sIx xs.length 0 lo)).take (HT.sIx xs.length xs.length hi - HT.sIx xs.length 0 lo)
theorem Dens.cut {K:Fg}{G:Hp}{ds:List D}{vs:List V} (h:Dens K G ds vs) (l u:Option Int):Dens K G (cutD ds l u) (cutV vs l u):=by
 unfold cutD cutV
 rw [← h.len]
 exact (h.drop _).take _
theorem jY {K:Fg}{d:D}{ds:List D}{l u:Option Int} (q1:Seq M d true ds) (h:k (.lst (cutD ds l u)) M):Op3 K (rSlL K) d l u M k:=fun G H v Q rl e q=>by
 obtain ⟨a,vs,ev,s,dn⟩:=q1.sq rl e
 refine ⟨a,vs,ev,s,fun p hp => ?_⟩
 have st:=rl.new (o := .lst (cutV vs l u)) hp
 exact q _ _ _ _ _ st (eM bF ((dn.cut l u).up st.gg)) h
structure YD (K:Fg) (J:It) (ds:List D) (G0:Hp):Prop where
 go:∀ i G H M,Same G0 G→Rel K G H M→i < ds.length→J.go i H
 yld:∀ i G H M x H',Same G0 G→Rel K G H M→i < ds.length→J.yld i H x H'→∃ G' d,Stp K G H M G' H' M∧ds[i]?=some d∧Den K G' d x
 stop:∀ i G H M,Same G0 G→Rel K G H M→i=ds.length→J.stop i H
theorem uH {K:Fg}{a:Addr}{vs:List V}{ds:List D}{G0:Hp} (s:SqL K G0 a vs) (dn:Dens K G0 ds vs):YD K (Itl K a) ds G0 where
 go:=fun i G H M sg rl h=>oZ.go i H (rl.same.seq (sg.seq s)) (by rw [← dn.len]; exact h)
 yld:=fun i G H M x H' sg rl h y=>by
  obtain ⟨e,hx⟩:=oZ.yld i H x H' (rl.same.seq (sg.seq s)) y (by rw [← dn.len]; exact h)
  subst e
  obtain ⟨d,hd,e⟩:=dn.get' hx
  exact ⟨G,d,Stp.refl rl,hd,e.up sg⟩
 stop:=fun i G H M sg rl h=>oZ.stop i H (rl.same.seq (sg.seq s)) (by rw [← dn.len]; exact Nat.le_of_eq h.symm)
theorem aEA {K:Fg}{a:Addr}{vs:List V}{ds:List D}{G0:Hp} (s:SqT K G0 a vs) (dn:Dens K G0 ds vs):YD K (Itt K a) ds G0 where
 go:=fun i G H M sg rl h=>qQ.go i H (R.seqT rl.same (R.seqT sg s)) (by rw [← dn.len]; exact h)
 yld:=fun i G H M x H' sg rl h y=>by
  obtain ⟨e,hx⟩:=qQ.yld i H x H' (R.seqT rl.same (R.seqT sg s)) y (by rw [← dn.len]; exact h)
  subst e
  obtain ⟨d,hd,e⟩:=dn.get' hx
  exact ⟨G,d,Stp.refl rl,hd,e.up sg⟩
 stop:=fun i G H M sg rl h=>qQ.stop i H (R.seqT rl.same (R.seqT sg s)) (by rw [← dn.len]; exact Nat.le_of_eq h.symm)
def rngD (lo:Int) (n:Nat):List D:=(List.range n).map fun i=>D.int (lo+(i:Nat))
theorem bJ (lo:Int) (n:Nat):(rngD lo n).length=n:=by simp [rngD]
theorem cX {lo:Int}{n i:Nat}{d:D} (h:(rngD lo n)[i]?=some d):i < n∧d = .int (lo+(i:Nat)):=by
 have hi:i < n:=by rw [← bJ lo n]; exact (List.getElem?_eq_some_iff.mp h).1
 simp [rngD,hi] at h
 exact ⟨hi,h.symm⟩
theorem wV {K:Fg}{lo:Int}{n:Nat}{G0:Hp}:YD K (Itr lo n) (rngD lo n) G0 where
 go:=fun i G H M sg rl h=>by rw [bJ] at h; exact h
 yld:=fun i G H M x H' sg rl h y=>by
  obtain ⟨e,hx⟩:=y
  subst e hx
  rw [bJ] at h
  exact ⟨G,_,Stp.refl rl,by simp [rngD,h],cA⟩
 stop:=fun i G H M sg rl h=>by rw [bJ] at h; exact Nat.le_of_eq h.symm
def strD (x:Str):List D:=x.cps.toList.map fun c=>D.str ⟨#[c]⟩
theorem kB (x:Str):(strD x).length=x.length:=by simp [strD,Str.length]
theorem aEB {K:Fg}{x:Str}{G0:Hp}:YD K (Its x) (strD x) G0 where
 go:=fun i G H M sg rl h=>by rw [kB] at h; exact h
 yld:=fun i G H M v H' sg rl h y=>by
  obtain ⟨e,c,hc,ev⟩:=y
  subst e ev
  exact ⟨G, .str ⟨#[c]⟩,Stp.refl rl,by simp only [strD,List.getElem?_map,Array.getElem?_toList,hc,Option.map_some],fY⟩
 stop:=fun i G H M sg rl h=>by rw [kB] at h; exact Nat.le_of_eq h.symm
variable {tg iter:Expr}{ki:List D→Mem→Prop}
def GI (X:Cx) (tg iter:Expr) (Γ:Gm) (M:Mem) (ki:List D→Mem→Prop):Prop :=
 ∀ σ G H R,EnvR X.K G Γ σ→Rel X.K G H M→(∀ J G' H' ds M',Stp X.K G H M G' H' M'→YD X.K J ds G'→ki ds M'→R J H')→tUI X tg iter σ H R
def iAny (K:Fg) (tl:TE):TI:=fun σ H R=>tl σ H fun x H1=>∃ a,x = .ref a∧(((∃ xs,SqL K H1 a xs)∧R (Itl K a) H1)∨((∃ xs,SqT K H1 a xs)∧R (Itt K a) H1))
theorem aD5 {l:Expr}{tl:TE} (hl:PE X l tl):PI X tg l (iAny X.K tl):=by
 intro pins s σ H R I h
 refine thn (hl pins s σ H _ I h) fun v s1 ⟨x,H1,I1,r1,q1⟩ => ?_
 obtain ⟨a,e,q⟩:=q1
 subst e
 cases r1
 have fp:∀ b∈[s1.heap.objs.size],FpOk X pins H1 b:=fun b hb=>by
  have e:b=s1.heap.objs.size:=by simpa using hb
  subst e
  exact I1.fpOk (Nat.le_refl _) (I1.hok.fresh (Nat.le_refl _))
 rcases q with ⟨⟨xs,hq⟩,q⟩ | ⟨⟨xs,hq⟩,q⟩
 ·obtain ⟨its,r',pl,hz⟩:=I1.list hq
  refine wpAny_pyIter_list pl.isList ?_
  exact ⟨s1.heap.objs.size,[s1.heap.objs.size],_,Itl X.K a,H1,rfl,I1.kept (t':=s1.toks) fun b o e=>Heap.get?_push_of_some _ e,wO a _,⟨_,Heap.get?_push_size _ rfl,rfl,rfl⟩,fp,q⟩
 ·obtain ⟨its,r',pl,hz⟩:=I1.tuple hq
  refine wpAny_pyIter_tuple pl ?_
  exact ⟨s1.heap.objs.size,[s1.heap.objs.size],_,Itt X.K a,H1,rfl,I1.kept (t':=s1.toks) fun b o e=>Heap.get?_push_of_some _ e,u3 a _,⟨_,Heap.get?_push_size _ rfl,rfl,rfl⟩,fp,q⟩
theorem bC (h:GE X iter Γ M fun d M1=>∃ ds,(d = .tup ds∨d = .lst ds∨d = .fl ds)∧ki ds M1):GI X tg iter Γ M ki:=fun σ G H Rr en rl q=>by
 refine k8 (aD5 pU) ?_
 refine h σ G H _ en rl fun v G1 H1 d M1 s1 e1 ⟨ds,ed,h1⟩ => ?_
 rcases ed with rfl | rfl | rfl
 ·obtain ⟨a,vs,ev,s,dn⟩:=e1.tup_
  exact ⟨a,ev, .inr ⟨⟨vs,R.seqT s1.rel.same s⟩,q _ _ _ _ _ s1 (aEA s dn) h1⟩⟩
 ·obtain ⟨a,vs,ev,s,dn⟩:=e1.lst_
  exact ⟨a,ev, .inl ⟨⟨vs,SqL.of (s1.rel.same _ _ s)⟩,q _ _ _ _ _ s1 (uH (SqL.of s) dn) h1⟩⟩
 ·obtain ⟨a,vs,ev,s,dn⟩:=e1.fl_
  exact ⟨a,ev, .inl ⟨⟨vs,s1.rel.same.seq s⟩,q _ _ _ _ _ s1 (uH s dn) h1⟩⟩
theorem fR {p:Pos} (hm:X.mg "range" = none) (h:GA X [a] Γ M fun ds M1=>∃ j:Int,ds=[.int j] ∧ -(2 ^ 62)≤j∧j < 2 ^ 62∧ki (rngD 0 j.toNat) M1) (hg:Gl X "range" := by rfl) (hs:starEach [a] X.env=[(false,eval a X.env)]:=by rfl):GI X tg (.Call (.Name "range" p) [a] [] pos) Γ M ki:=fun σ G H R en rl q=>by
 refine k8 (wE hg hm pUA hs) ?_
 refine h σ G H _ en rl fun vs G1 H1 ds M1 s1 e1 ⟨j,ed,h1,h2,h3⟩ => ?_
 subst ed
 obtain ⟨v,rfl,dv⟩:=dens1 e1
 rw [dv.int_]
 exact ⟨j,rfl,h1,h2,q _ _ _ _ _ s1 wV h3⟩
theorem uA {p:Pos} (hm:X.mg "range" = none) (h:GA X [a,b] Γ M fun ds M1=>∃ i j:Int,ds=[.int i, .int j]∧(-(2 ^ 62)≤i∧i < 2 ^ 62 ∧ -(2 ^ 62)≤j∧j < 2 ^ 62)∧ki (rngD i (j - i).toNat) M1) (hg:Gl X "range" := by rfl)
  (hs:starEach [a,b] X.env=[(false,eval a X.env),(false,eval b X.env)]:=by rfl) (hs2:starEach [b] X.env=[(false,eval b X.env)]:=by rfl):GI X tg (.Call (.Name "range" p) [a,b] [] pos) Γ M ki:=fun σ G H R en rl q=>by
 refine k8 (wI hg hm pUA hs hs2) ?_
 refine h σ G H _ en rl fun vs G1 H1 ds M1 s1 e1 ⟨i,j,ed,h1,h3⟩ => ?_
 subst ed
 obtain ⟨v,u,rfl,dv,du⟩:=dens2 e1
 rw [dv.int_,du.int_]
 exact ⟨i,j,rfl,h1,q _ _ _ _ _ s1 wV h3⟩
theorem aD7 (h:GE X iter Γ M fun d M1=>∃ x,d = .str x∧ki (strD x) M1):GI X tg iter Γ M ki:=fun σ G H R en rl q=>by
 refine k8 (aFR pU) ?_
 exact h σ G H _ en rl fun v G1 H1 d M1 s1 e1 ⟨x,ed,h1⟩=>by subst ed; exact ⟨x,e1.str_,q _ _ _ _ _ s1 aEB h1⟩
end
section
variable {K:Fg}{G H:Hp}{M:Mem}{Γ:Gm}{σ:St}
theorem xG {α:Type}{o:Option (Option α)}{x:α} (h:o.join=some x):o=some (some x):=by
 cases o with
 | none=>cases h
 | some y=>cases y with
  | none=>cases h
  | some z=>cases h; rfl
theorem EnvR.cap (h:EnvR K G Γ σ) {d:D}{v:V} (e:Den K G d v) (cap:List Nat):EnvR K G (some d::cap.map fun k=>(Γ[k]?).join) (some v::cap.map fun k=>(σ[k]?).join):=by
 refine ⟨by simp,fun i c q => ?_⟩
 cases i with
 | zero=>simp at q; subst q; exact ⟨v,rfl,e⟩
 | succ i =>
  rw [List.getElem?_cons_succ,List.getElem?_map] at q ⊢
  cases hc:cap[i]? with
  | none=>rw [hc] at q; cases q
  | some j =>
   rw [hc,Option.map_some] at q
   have q':(Γ[j]?).join=some c:=by injection q
   obtain ⟨u,a,b⟩:=h.get j c (xG q')
   exact ⟨u,by rw [Option.map_some,a]; rfl,b⟩
theorem Stp.aside {G0 H0:Hp}{M0:Mem}{p:Addr}{o:HO} (s:Stp K G0 H0 M0 G H M) (h0:H0 p=none) (hg:G p=none) (hm:M p=none):Stp K G0 H0 M0 G (upd H p o) M:=by
 refine ⟨s.gg,⟨fun b u e => ?_,fun a m e => ?_⟩,fun a u e1 e2 e3 => ?_⟩
 ·rw [aU (a7 e hg)]; exact s.rel.same b u e
 ·have z:a≠p:=fun z=>by rw [z,hm] at e; cases e
  exact ⟨(s.rel.mem a m e).1,(s.rel.mem a m e).2.mv (Same.refl G) (aU z)⟩
 ·obtain ⟨x,y,z⟩:=s.fr a u e1 e2 e3
  exact ⟨by rw [aU (a7 e1 h0)]; exact x,y,z⟩
theorem Stp.track {G0 H0:Hp}{M0:Mem}{p:Addr}{vs:List V}{ds:List D} (s:Stp K G0 H0 M0 G H M) (h0:H0 p=none) (hg:G p=none) (hp:H p=some (.lst vs)) (dn:Dens K G ds vs):Stp K G0 H0 M0 G H (updM M p (.lst ds)):=by
 refine ⟨s.gg,⟨s.rel.same,fun a m e => ?_⟩,fun a u e1 e2 e3 => ?_⟩
 ·by_cases z:a=p
  ·subst z
   rw [aT] at e; cases e
   exact ⟨hg,vs,hp,dn⟩
  ·rw [cM z] at e; exact s.rel.mem a m e
 ·obtain ⟨x,y,z⟩:=s.fr a u e1 e2 e3
  exact ⟨x,y,by rw [cM (a7 e1 h0)]; exact z⟩
end
def tUIf (Y:Cx) (ifs:List Expr):TT:=fun σ H Q=>∀ pins s,Inv Y pins σ H s →
  wpAny (model Y.prog Y.w) Y.A (forIn ifs true fun c r=>if r=true then do let ok ← isTrue c Y.env (eval c Y.env); pure (ForInStep.yield ok) else pure (ForInStep.yield r)) (TP Y pins σ Q) Y.xe s
def GIf (Y:Cx) (ifs:List Expr) (Γ:Gm) (M:Mem) (kb:Bool→Mem→Prop):Prop :=
 ∀ σ G H Q,EnvR Y.K G Γ σ→Rel Y.K G H M→lU Y.K M kb G H Q→tUIf Y ifs σ H Q
theorem a6 {Y:Cx}{Γ:Gm}{M:Mem}{kb:Bool→Mem→Prop} (h:kb true M):GIf Y [] Γ M kb:=fun σ G H Q en rl q pins s I=>aCD pins s σ H Q I (q _ _ _ _ (Stp.refl rl) h)
theorem pA {Y:Cx}{c:Expr}{Γ:Gm}{M:Mem}{kb:Bool→Mem→Prop} (h:GT Y c Γ M kb):GIf Y [c] Γ M kb:=fun σ G H Q en rl q pins s I=>aCM pUT pins s σ H Q I (h σ G H Q en rl q)
def Comp (X:Cx) (x:Str) (ns:List Str) (cap:List Nat) (elt:Expr) (ifs:List Expr) (scope:Scope) (Γ:Gm) (k:D→Mem→Prop) (ds:List D) (M1:Mem):Prop :=
 ds.length≤sizeLine∧∃ I:Nat→List D→Mem→Prop,I 0 [] M1 ∧
  (∀ i d acc M2,ds[i]?=some d→I i acc M2→∀ cs C s₀ H₀ fp,GIf (aY X scope cs C (x::ns) s₀ H₀ fp) ifs (some d::cap.map fun k=>(Γ[k]?).join) M2 fun c M3 =>
   if c=true then (∀ cs C s₀ H₀ fp,GE (aY X scope cs C (x::ns) s₀ H₀ fp) elt (some d::cap.map fun k=>(Γ[k]?).join) M3 (fun y M4=>I (i+1) (acc++[y]) M4)) else I (i+1) acc M3) ∧
  (∀ acc M2,I ds.length acc M2→∀ a,M2 a=none→k (.mt a) (updM M2 a (.lst acc)))
theorem wK {X:Cx}{x:Str}{px:Pos}{iter elt:Expr}{ifs:List Expr}{scope:Scope}{ns:List Str}{cap:List Nat}{Γ:Gm}{M:Mem}{k:D→Mem→Prop}
  (h:GI X (.Name x px) iter Γ M (Comp X x ns cap elt ifs scope Γ k)) {σ:St}{G H:Hp}{Q:VK} (en:EnvR X.K G Γ σ) (rl:Rel X.K G H M) (q:Cont X.K M k G H Q) :
  mL (tUI X (.Name x px) iter) cap (fun σ H Q=>∀ cs C s₀ H₀ fp,tUIf (aY X scope cs C (x::ns) s₀ H₀ fp) ifs σ H Q) (fun σ H Q=>∀ cs C s₀ H₀ fp,tU (aY X scope cs C (x::ns) s₀ H₀ fp) elt σ H Q) σ H Q:=by
 refine h σ G H _ en rl fun J G1 H1 ds M1 s1 yd ⟨hlen,I,h0,hstep,hend⟩ A hA => ?_
 have hA':=s1.rel.free hA
 refine ⟨fun i m ys H2=>m=ds.length - i∧i≤ds.length∧∃ G2 M2 acc,Stp X.K G1 H1 M1 G2 H2 M2∧H2 A=some (.lst ys)∧G2 A=none∧M2 A=none∧Dens X.K G2 acc ys∧I i acc M2∧acc.length≤i,
  ⟨ds.length,by simp,Nat.zero_le _,G1,M1,[],(Stp.refl s1.rel).aside hA hA'.1 hA'.2,bF,hA'.1,hA'.2,cW,h0,Nat.le_refl _⟩,?_⟩
 rintro i m ys H2 ⟨rfl,hi,G2,M2,acc,s2,hl,hg,hm,dn,hI,hacc⟩
 refine ⟨hl,?_⟩
 by_cases hlt:i < ds.length
 ·refine .inr ⟨yd.go i G2 H2 M2 s2.gg s2.rel hlt,by rw [← dn.len]; omega,fun x H3 y => ?_⟩
  obtain ⟨G3,d,s3,hd,ex⟩:=yd.yld i G2 H2 M2 x H3 s2.gg s2.rel hlt y
  obtain ⟨l3,g3,m3⟩:=s3.fr A _ hl hg hm
  intro cs C s₀ H₀ fp
  have en3:=((en.up s1.gg).up (s2.trans s3).gg).cap ex cap
  refine hstep i d acc M2 hd hI cs C s₀ H₀ fp _ G3 H3 _ en3 s3.rel fun c G4 H4 M4 s4 h4 => ?_
  obtain ⟨l4,g4,m4⟩:=s4.fr A _ l3 g3 m3
  cases c with
  | true =>
   rw [if_pos rfl] at h4 ⊢
   intro cs C s₀ H₀ fp
   refine h4 cs C s₀ H₀ fp _ G4 H4 _ (en3.up s4.gg) s4.rel fun y G5 H5 d5 M5 s5 e5 h5 => ?_
   obtain ⟨l5,g5,m5⟩:=s5.fr A _ l4 g4 m4
   have s25:=((s2.trans s3).trans s4).trans s5
   exact ⟨l5,ds.length - (i+1),by omega,rfl,hlt,G5,M5,acc++[d5],s25.aside hA g5 m5,bF,g5,m5,(dn.up ((s3.trans s4).trans s5).gg).append (cC e5 cW),h5,by rw [List.length_append,List.length_singleton]; omega⟩
  | false =>
   rw [if_neg Bool.false_ne_true] at h4 ⊢
   exact ⟨ds.length - (i+1),by omega,rfl,hlt,G4,M4,acc,(s2.trans s3).trans s4,l4,g4,m4,dn.up (s3.trans s4).gg,h4,by omega⟩
 ·have e:i=ds.length:=by omega
  subst e
  exact .inl ⟨yd.stop _ G2 H2 M2 s2.gg s2.rel rfl,q _ _ _ _ _ (s1.trans (s2.track hA hg hl dn)) wM (hend acc M2 hI A hm)⟩
end Z
namespace Z
open PySem L2
section
variable {X:Cx}{Γ:Gm}{M:Mem}{k:D→Mem→Prop}{F:Fin}{pos:Pos}{a b c e o tg iter:Expr}{st:Stmt}{ss body:List Stmt}
theorem aBO {x:Str}{px:Pos}{elt:Expr}{ifs:List Expr}{scope sc:Scope}{N:List Str} (ns:List Str) (cap:List Nat) (h:GI X (.Name x px) iter Γ M (Comp X x ns cap elt ifs scope Γ k))
  (hsc:X.env.scope=sc:=by rfl) (hN:X.N=N:=by rfl) (ok:iW sc scope x ns cap N=true:=by first | decide +kernel | kernel_rfl!) (hc:X.calm=true:=by rfl) (hs:∀ v,foldedSetIterable iter X.env v=pure v:=by intro _; rfl) :
  GE X (.ListComp elt [⟨.Name x px,iter,ifs,0⟩] scope pos) Γ M k:=fun σ G H Q en rl q =>
 b3 (zX ns cap hc hsc hN ok pUI (fun cs C s₀ H₀ fp pins s σ H Q I h=>h cs C s₀ H₀ fp pins s I) (fun cs C s₀ H₀ fp pins s σ H Q I h=>h cs C s₀ H₀ fp pins s I) hs) (wK h en rl q)
def aA7 (X:Cx) (x:Str) (ns:List Str) (cap:List Nat) (elt:Expr) (ifs:List Expr) (scope:Scope) (Γ:Gm) (k:D→Mem→Prop) (ds:List D) (M1:Mem):Prop :=
 ds.length≤sizeLine∧∃ I:Nat→List D→Mem→Prop,I 0 [] M1 ∧
  (∀ i d acc M2,ds[i]?=some d→I i acc M2→∀ cs C s₀ H₀ fp,GIf (aY X scope cs C (x::ns) s₀ H₀ fp) ifs (some d::cap.map fun k=>(Γ[k]?).join) M2 fun c M3 =>
   if c=true then (∀ cs C s₀ H₀ fp,GE (aY X scope cs C (x::ns) s₀ H₀ fp) elt (some d::cap.map fun k=>(Γ[k]?).join) M3 (fun y M4=>I (i+1) (acc++[y]) M4)) else I (i+1) acc M3) ∧
  (∀ acc M2,I ds.length acc M2→k (.lst acc) M2)
theorem aW {x:Str}{px:Pos}{elt:Expr}{ifs:List Expr}{scope sc:Scope}{N:List Str} (ns:List Str) (cap:List Nat) (h:GI X (.Name x px) iter Γ M (aA7 X x ns cap elt ifs scope Γ k))
  (hsc:X.env.scope=sc:=by rfl) (hN:X.N=N:=by rfl) (ok:iW sc scope x ns cap N=true:=by first | decide +kernel | kernel_rfl!) (hc:X.calm=true:=by rfl) (hs:∀ v,foldedSetIterable iter X.env v=pure v:=by intro _; rfl) :
  GE X (.ListComp elt [⟨.Name x px,iter,ifs,0⟩] scope pos) Γ M k:=by
 refine aEH (aBO ns cap ?_ hsc hN ok hc hs)
 intro σ G H Rr en rl q
 refine h σ G H Rr en rl fun J G1 H1 ds M1 s1 yd ⟨hl,I,h0,hstep,hend⟩ => ?_
 exact q J G1 H1 ds M1 s1 yd ⟨hl,I,h0,hstep,fun acc M2 hI a ha=>⟨a,acc,M2,rfl,aT,ha,(Le.refl M2).upd ha,hend acc M2 hI⟩⟩
theorem bP {x:Str}{ns:List Str}{cap:List Nat}{elt:Expr}{ifs:List Expr}{scope:Scope}{ds:List D}{M1:Mem} (hl:ds.length≤sizeLine) (I:Nat→List D→Mem→Prop) (h0:I 0 [] M1)
  (hs:∀ i d acc M2,ds[i]?=some d→I i acc M2→∀ cs C s₀ H₀ fp,GIf (aY X scope cs C (x::ns) s₀ H₀ fp) ifs (some d::cap.map fun k=>(Γ[k]?).join) M2 fun c M3 =>
   if c=true then (∀ cs C s₀ H₀ fp,GE (aY X scope cs C (x::ns) s₀ H₀ fp) elt (some d::cap.map fun k=>(Γ[k]?).join) M3 (fun y M4=>I (i+1) (acc++[y]) M4)) else I (i+1) acc M3)
  (hd:∀ acc M2,I ds.length acc M2→k (.lst acc) M2):aA7 X x ns cap elt ifs scope Γ k ds M1:=⟨hl,I,h0,hs,hd⟩
theorem bB (h:F.nx Γ M):GS X [] Γ M F:=fun σ G H E en rl q=>pF aDK (q.nx σ G H Γ M (Stp.refl rl) en h)
theorem aD (h:G1 X st Γ M { F with nx:=fun Γ' M'=>GS X ss Γ' M' F }):GS X (st::ss) Γ M F:=fun σ G H E en rl q=>by
 refine pF (aAA pUS pUSs) ?_
 refine h σ G H _ en rl ⟨fun σ' G' H' Γ' M' s' en' h' => ?_,q.rt,q.bk,q.ct⟩
 exact h' σ' G' H' E en' s'.rel (q.up s')
theorem aK (h:G1 X st Γ M F):GS X [st] Γ M F:=fun σ G H E en rl q=>pF (aCE pUS) (h σ G H E en rl q)
theorem i6 (i:Nat) {a:Addr}{ds:List D} (hΓ:Γ[i]?=some (some (.mt a))) (hM:M a=some (.lst ds)) (h:GS X ss (Γ.set i (some (.lst ds))) (delM M a) F):GS X ss Γ M F:=fun σ G H E en rl q=>by
 obtain ⟨vs,x1,x2,s1⟩:=rl.frz hM
 obtain ⟨v,ev,dv⟩:=en.get i _ hΓ
 have dl:Den X.K (upd G a (.lst vs)) (.lst ds) v:=by rw [dv.mt_]; exact eM bF (x2.up s1.gg)
 have en':=(en.up s1.gg).set dl i
 have es:σ.set i (some v)=σ:=by
  apply List.ext_getElem?
  intro j
  rw [List.getElem?_set]
  by_cases z:i=j
  ·subst z
   rw [if_pos rfl,if_pos (List.getElem?_eq_some_iff.mp ev).1,ev]
  ·rw [if_neg z]
 rw [es] at en'
 exact h σ _ H E en' s1.rel (q.up s1)
theorem aP (i:Nat) {x:Str}{pos':Pos} (hN:X.N.Nodup) (h:GE X e Γ M fun d M1=>F.nx (Γ.set i (some d)) M1) (hi:X.N[i]?=some x:=by rfl) (hx:Loc X.env.scope x:=by first | exact Or.inl rfl | exact Or.inr rfl)
  (hs:swapsWith e (some (.Name x pos')) pos.line X.env=pure false:=by rfl) (hf:X.fn x=true∨X.env.scope.names.lookup x=some .local:=by first | exact .inl rfl | exact .inr rfl):G1 X (.Assign [.Name x pos'] e pos) Γ M F:=fun σ G H E en rl q=>by
 refine fV (aFU hN hi hx pU hs hf) ?_
 exact h σ G H _ en rl fun v G1 H1 d M1 s1 e1 h1=>q.nx _ _ _ _ _ s1 ((en.up s1.gg).set e1 i) h1
theorem kR (iy:Nat) {x y:Str}{px py spos:Pos}{elt:Expr}{ifs:List Expr}{scope sc:Scope}{N:List Str} (ns:List Str) (cap:List Nat) (hNd:N.Nodup) (h:GI X (.Name x px) iter Γ M (Comp X x ns cap elt ifs scope Γ fun d M1=>F.nx (Γ.set iy (some d)) M1))
  (hsc:X.env.scope=sc:=by rfl) (hN:X.N=N:=by rfl) (ok:iW sc scope x ns cap N=true:=by first | decide +kernel | kernel_rfl!) (hiy:N[iy]?=some y:=by rfl) (hyl:sc.names.lookup y=some .local:=by rfl) (hc:X.calm=true:=by rfl) (hs:∀ v,foldedSetIterable iter X.env v=pure v:=by intro _; rfl)
  (hsw:swapsWith (.ListComp elt [⟨.Name x px,iter,ifs,0⟩] scope pos) (some (.Name y py)) spos.line X.env=pure true:=by rfl) :
  G1 X (.Assign [.Name y py] (.ListComp elt [⟨.Name x px,iter,ifs,0⟩] scope pos) spos) Γ M F:=fun σ G H E en rl q=>by
 refine fV (sK (tt:=fun σ H Q=>∀ cs C s₀ H₀ fp,tUIf (aY X scope cs C (x::ns) s₀ H₀ fp) ifs σ H Q) (te:=fun σ H Q=>∀ cs C s₀ H₀ fp,tU (aY X scope cs C (x::ns) s₀ H₀ fp) elt σ H Q) iy ns cap hNd hiy hyl hc hsc hN ok pUI (fun cs C s₀ H₀ fp pins s σ H Q I h=>h cs C s₀ H₀ fp pins s I) (fun cs C s₀ H₀ fp pins s σ H Q I h=>h cs C s₀ H₀ fp pins s I) hs hsw) ?_
 exact wK h en rl fun v G1 H1 d M1 s1 e1 h1=>q.nx _ _ _ _ _ s1 ((en.up s1.gg).set e1 iy) h1
theorem u5 {x:Str}{ns:List Str}{cap:List Nat}{elt:Expr}{ifs:List Expr}{scope:Scope}{ds:List D}{M1:Mem} (hl:ds.length≤sizeLine) (I:Nat→List D→Mem→Prop) (h0:I 0 [] M1)
  (hs:∀ i d acc M2,ds[i]?=some d→I i acc M2→∀ cs C s₀ H₀ fp,GIf (aY X scope cs C (x::ns) s₀ H₀ fp) ifs (some d::cap.map fun k=>(Γ[k]?).join) M2 fun c M3 =>
   if c=true then (∀ cs C s₀ H₀ fp,GE (aY X scope cs C (x::ns) s₀ H₀ fp) elt (some d::cap.map fun k=>(Γ[k]?).join) M3 (fun y M4=>I (i+1) (acc++[y]) M4)) else I (i+1) acc M3)
  (hd:∀ acc M2,I ds.length acc M2→∀ a,M2 a=none→k (.mt a) (updM M2 a (.lst acc))):Comp X x ns cap elt ifs scope Γ k ds M1 :=
 ⟨hl,I,h0,hs,hd⟩
theorem lQ (h:GE X e Γ M fun d M1=>GG X tg d Γ M1 F.nx) (hs:swapsWithSole [tg] e pos.line X.env=pure false:=by rfl) (hw:swappedStores [tg] e X.env=pure none:=by rfl)
  (h1:(assignEach [tg] X.env).map (·.2)=[assign tg X.env]:=by rfl):G1 X (.Assign [tg] e pos) Γ M F:=fun σ G H E en rl q=>by
 refine fV (aD0 pU pUG hs hw h1) ?_
 exact h σ G H _ en rl fun v G1 H1 d M1 s1 e1 h1=>h1 σ G1 H1 v _ (en.up s1.gg) s1.rel e1 (q.nx.up s1)
theorem aFC (i j:Nat) {x y:Str}{px py pt:Pos}{kt k2 pt2} (hN:X.N.Nodup) (hij:i≠j) (h:GA X [a,b] Γ M fun ds M1=>∃ d1 d2,ds=[d1,d2]∧F.nx ((Γ.set i (some d1)).set j (some d2)) M1) (hi:X.N[i]?=some x:=by rfl) (hj:X.N[j]?=some y:=by rfl)
  (hx:X.env.scope.names.lookup x=some .local:=by rfl) (hy:X.env.scope.names.lookup y=some .local:=by rfl) (hc:X.calm=true:=by rfl)
  (hw:swappedStores [.Tuple [.Name x px, .Name y py] kt pt] (.Tuple [a,b] k2 pt2) X.env=pure (some [x,y]):=by rfl)
  (hs:swapsWithSole [.Tuple [.Name x px, .Name y py] kt pt] (.Tuple [a,b] k2 pt2) pos.line X.env=pure false:=by rfl) :
  G1 X (.Assign [.Tuple [.Name x px, .Name y py] kt pt] (.Tuple [a,b] k2 pt2) pos) Γ M F:=fun σ G H E en rl q=>by
 refine fV (aD4 hc hN hi hj hij hx hy pUA hw hs) ?_
 refine h σ G H _ en rl fun vs G1 H1 ds M1 s1 e1 ⟨d1,d2,ed,h1⟩ => ?_
 subst ed
 obtain ⟨v,u,rfl,dv,du⟩:=dens2 e1
 exact ⟨v,u,rfl,q.nx _ _ _ _ _ s1 (((en.up s1.gg).set dv i).set du j) h1⟩
variable {kg:Gm→Mem→Prop}{d:D}
theorem bS (i:Nat) {x:Str} (hN:X.N.Nodup) (h:kg (Γ.set i (some d)) M) (hi:X.N[i]?=some x:=by rfl) (hx:Loc X.env.scope x:=by first | exact Or.inl rfl | exact Or.inr rfl)
  (hf:X.fn x=true∨X.env.scope.names.lookup x=some .local:=by first | exact .inl rfl | exact .inr rfl):GG X (.Name x pos) d Γ M kg:=fun σ G H v Q en rl e q =>
 oR (t9 hN hi hx hf) (q _ _ _ _ _ (Stp.refl rl) (en.set e i) h)
theorem lZ (h:kg Γ M):GGs X [] [] Γ M kg:=fun σ G H vs Q en rl e q=>tW aBR ⟨bR e,q _ _ _ _ _ (Stp.refl rl) en h⟩
theorem cZ {tgs:List Expr}{ds:List D} (h:GG X tg d Γ M fun Γ1 M1=>GGs X tgs ds Γ1 M1 kg) (hs:(assignEach (tg::tgs) X.env).map (·.2)=assign tg X.env::(assignEach tgs X.env).map (·.2):=by rfl):GGs X (tg::tgs) (d::ds) Γ M kg:=fun σ G H vs Q en rl e q=>by
 refine tW (aA3 pUG pUGs hs) ?_
 obtain ⟨v,r,ev,e1,e2⟩:=bA e
 refine ⟨v,r,ev,h σ G H v _ en rl e1 fun σ1 G1 H1 Γ1 M1 s1 en1 h1 => ?_⟩
 exact h1 σ1 G1 H1 r Q en1 s1.rel (e2.up s1.gg) (q.up s1)
theorem rG {tgs:List Expr}{kk:Nat}{n:Nat}{ds:List D} (hl:ds.length=n) (h:GGs X tgs ds Γ M kg) (hc:X.calm=true:=by rfl) (hn:(assignEach tgs X.env).length=n:=by rfl) (hst:(assignEach tgs X.env).findIdx? (·.1)=none:=by rfl) :
  GG X (.Tuple tgs kk pos) (.tup ds) Γ M kg:=fun σ G H v Q en rl e q=>by
 refine oR (aEZ hc pUGs hn hst) ?_
 obtain ⟨a,vs,ev,s,dn⟩:=e.tup_
 exact ⟨a,vs,ev,R.seqT rl.same s,by rw [← dn.len]; exact hl,h σ G H vs Q en rl dn q⟩
theorem aDP {tgs:List Expr}{kk:Nat}{n:Nat}{ds:List D} (hl:ds.length=n) (h:GGs X tgs ds Γ M kg) (hc:X.calm=true:=by rfl) (hn:(assignEach tgs X.env).length=n:=by rfl) (hst:(assignEach tgs X.env).findIdx? (·.1)=none:=by rfl) :
  GG X (.Tuple tgs kk pos) (.lst ds) Γ M kg:=fun σ G H v Q en rl e q=>by
 refine oR (aDS hc pUGs hn hst) ?_
 obtain ⟨a,vs,ev,s,dn⟩:=e.lst_
 exact ⟨a,vs,ev,SqL.of (rl.same _ _ s),by rw [← dn.len]; exact hl,h σ G H vs Q en rl dn q⟩
theorem rK {i:Expr} (h:GE X o Γ M fun d1 M1=>GE X i Γ M1 fun d2 M2=>∃ a n j ds,d1 = .mt a∧d2 = .int n∧M2 a=some (.lst ds)∧ixN ds.length n=some j∧kg Γ (updM M2 a (.lst (ds.set j d))))
  (ha:∀ v,assign (.Subscript o i pos) X.env v=(do
   let ov ← holding [v] (eval o X.env)
   let iv ← holding [v,ov] (eval i X.env)
   standAt pos
   holding [v,ov,iv] (setItem ov iv v)
   release [v,ov,iv] []):=by intro _; rfl):GG X (.Subscript o i pos) d Γ M kg:=fun σ G H v Q en rl e q=>by
 refine oR (aEU pU pU zU ha) ?_
 refine h σ G H _ en rl fun v1 G1 H1 d1 M1 s1 e1 h1 => ?_
 refine h1 σ G1 H1 _ (en.up s1.gg) s1.rel fun v2 G2 H2 d2 M2 s2 e2 ⟨a,n,j,ds,x1,x2,hm,hj,h2⟩ => ?_
 subst x1 x2
 obtain ⟨_,vs,es,dn⟩:=s2.rel.mem _ _ hm
 have s12:=s1.trans s2
 exact ⟨a,vs,n,j,(e1.up s2.gg).mt_,e2.int_,es,by rw [← dn.len]; exact hj,q _ _ _ _ _ (s12.trans (s2.rel.wr hm (dn.set (e.up s12.gg) j))) (en.up s12.gg) h2⟩
theorem j7 (h:GE X e Γ M fun _ M1=>F.nx Γ M1) (hs:swapsWith e none pos.line X.env=pure false:=by rfl):G1 X (.Expr e pos) Γ M F:=fun σ G H E en rl q =>
 fV (aCA pU hs) (h σ G H _ en rl fun v G1 H1 d M1 s1 e1 h1=>q.nx _ _ _ _ _ s1 (en.up s1.gg) h1)
theorem aQ (h:GE X e Γ M F.rt):G1 X (.Return (some e) pos) Γ M F:=fun σ G H E en rl q=>fV (aEG pU) (h σ G H _ en rl q.rt)
theorem bO {ss1 ss2:List Stmt} (h:GT X c Γ M fun t M1=>if t=true then GS X ss1 Γ M1 F else GS X ss2 Γ M1 F):G1 X (.If c ss1 ss2 pos) Γ M F:=fun σ G H E en rl q=>by
 refine fV (aGP pUT pUSs pUSs) ?_
 refine h σ G H _ en rl fun t G1 H1 M1 s1 h1 => ?_
 cases t with
 | true=>rw [if_pos rfl] at h1 ⊢; exact h1 σ G1 H1 E (en.up s1.gg) s1.rel (q.up s1)
 | false=>rw [if_neg Bool.false_ne_true] at h1 ⊢; exact h1 σ G1 H1 E (en.up s1.gg) s1.rel (q.up s1)
theorem k9 (P:Gm→Mem→Prop) (h:G1 X st Γ M { F with nx:=P }) (h2:∀ Γ' M',P Γ' M'→F.nx Γ' M'):G1 X st Γ M F:=fun σ G H E en rl q=>h σ G H E en rl ⟨fun σ' G' H' Γ' M' s' en' h'=>q.nx σ' G' H' Γ' M' s' en' (h2 _ _ h'),q.rt,q.bk,q.ct⟩
def Loop (X:Cx) (tg:Expr) (body:List Stmt) (Γ:Gm) (F:Fin) (ds:List D) (M:Mem):Prop:=∃ I:Nat→Gm→Mem→Prop,I 0 Γ M ∧
 (∀ i d Γ' M',ds[i]?=some d→I i Γ' M'→GG X tg d Γ' M' fun Γ2 M2=>GS X body Γ2 M2 { F with nx:=I (i+1),ct:=I (i+1),bk:=F.nx })∧∀ Γ' M',I ds.length Γ' M'→F.nx Γ' M'
theorem eY (h:GI X tg iter Γ M (Loop X tg body Γ F)) (hp:PassesOwn (model X.prog X.w) X.A X.env X.xe:=by exact PassesOwn.never) (hc:X.calm=true:=by rfl) (hs:∀ x,foldedSetIterable iter X.env x=pure x:=by intro _; rfl):G1 X (.For tg iter body [] pos) Γ M F:=fun σ G H E en rl q=>by
 refine fV (aFH hp hc pUI pUG pUSs hs) ?_
 refine h σ G H _ en rl fun J G1 H1 ds M1 s1 yd ⟨I,h0,hstep,hend⟩ => ?_
 refine ⟨fun i m σ' H'=>m=ds.length - i∧i≤ds.length∧∃ G' Γ' M',Stp X.K G1 H1 M1 G' H' M'∧EnvR X.K G' Γ' σ'∧I i Γ' M',⟨ds.length,by simp,Nat.zero_le _,G1,Γ,M1,Stp.refl s1.rel,en.up s1.gg,h0⟩,?_⟩
 rintro i m σ2 H2 ⟨rfl,hi,G2,Γ2,M2,s2,en2,hI⟩
 by_cases hlt:i < ds.length
 ·refine .inr ⟨yd.go i G2 H2 M2 s2.gg s2.rel hlt,fun σ' H'=>∃ G' Γ' M',Stp X.K G1 H1 M1 G' H' M'∧EnvR X.K G' Γ' σ'∧I (i+1) Γ' M',fun σ' H' z=>⟨ds.length - (i+1),by omega,rfl,hlt,z⟩,fun x H3 y => ?_⟩
  obtain ⟨G3,d,s3,hd,ex⟩:=yd.yld i G2 H2 M2 x H3 s2.gg s2.rel hlt y
  have s13:=s2.trans s3
  refine hstep i d Γ2 M2 hd hI σ2 G3 H3 x _ (en2.up s3.gg) s3.rel ex fun σ4 G4 H4 Γ4 M4 s4 en4 h4 => ?_
  have s14:=s13.trans s4
  refine h4 σ4 G4 H4 _ en4 s4.rel ⟨fun σ5 G5 H5 Γ5 M5 s5 en5 h5=>⟨G5,Γ5,M5,s14.trans s5,en5,h5⟩,q.rt.up (s1.trans s14),q.nx.up (s1.trans s14),fun σ5 G5 H5 Γ5 M5 s5 en5 h5=>⟨G5,Γ5,M5,s14.trans s5,en5,h5⟩⟩
 ·have e:i=ds.length:=by omega
  subst e
  exact .inl ⟨yd.stop _ G2 H2 M2 s2.gg s2.rel rfl,q.nx _ _ _ _ _ (s1.trans s2) en2 (hend _ _ hI)⟩
theorem rJ (I:Nat→Gm→Mem→Prop) {n:Nat} (h0:I n Γ M)
  (hs:∀ m Γ' M',I m Γ' M'→GT X c Γ' M' fun t M1=>if t=true then GS X body Γ' M1 { F with nx:=fun Γ2 M2=>∃ m',m' < m∧I m' Γ2 M2,ct:=fun Γ2 M2=>∃ m',m' < m∧I m' Γ2 M2,bk:=F.nx } else F.nx Γ' M1)
  (hp:PassesOwn (model X.prog X.w) X.A X.env X.xe:=by exact PassesOwn.never):G1 X (.While c body [] pos) Γ M F:=fun σ G H E en rl q=>by
 refine fV (zW hp pUT pUSs) ?_
 refine ⟨fun m σ' H'=>∃ G' Γ' M',Stp X.K G H M G' H' M'∧EnvR X.K G' Γ' σ'∧I m Γ' M',⟨n,G,Γ,M,Stp.refl rl,en,h0⟩,?_⟩
 rintro m σ2 H2 ⟨G2,Γ2,M2,s2,en2,hI⟩
 refine hs m Γ2 M2 hI σ2 G2 H2 _ en2 s2.rel fun t G3 H3 M3 s3 h3 => ?_
 have s13:=s2.trans s3
 cases t with
 | true =>
  rw [if_pos rfl] at h3 ⊢
  refine ⟨fun σ' H'=>∃ m',m' < m∧∃ G' Γ' M',Stp X.K G H M G' H' M'∧EnvR X.K G' Γ' σ'∧I m' Γ' M',fun σ' H' z=>z,?_⟩
  refine h3 σ2 G3 H3 _ (en2.up s3.gg) s3.rel ⟨fun σ5 G5 H5 Γ5 M5 s5 en5 ⟨m',hm,h5⟩=>⟨m',hm,G5,Γ5,M5,s13.trans s5,en5,h5⟩,q.rt.up s13,q.nx.up s13,fun σ5 G5 H5 Γ5 M5 s5 en5 ⟨m',hm,h5⟩=>⟨m',hm,G5,Γ5,M5,s13.trans s5,en5,h5⟩⟩
 | false =>
  rw [if_neg Bool.false_ne_true] at h3 ⊢
  exact q.nx _ _ _ _ _ s13 (en2.up s3.gg) h3
end
section
variable {P:Program}{w:World}{K:Fg}{mg:Str→Option Value}{base:Heap}
abbrev cxF (P:Program) (w:World) (K:Fg) (mg:Str→Option Value) (base:Heap) (N:List Str) (x:Str) (st:Stmt) (f:Addr) (cdv:Value) (A:Around) (outer:List Env) (s:Shared) (H:Hp) (E:XK):Cx :=
 (cxOf CX0 P w K mg base N x (aO st) f cdv A outer s H E).nox
theorem a8 {x:Str}{st:Stmt}{ps N:List Str}{f:Addr}{fd:FuncData}{n:Nat}{F:Ct} (Df:R.Df K mg x st ps f fd) (S:FnScope N ps (aO st)) (len:∀ ds M k,F ds M k→ds.length=ps.length)
  (h:∀ cdv A outer s H E,Room n (cxF P w K mg base N x st f cdv A outer s H E).A→∀ ds M k,F ds M k →
   GS (cxF P w K mg base N x st f cdv A outer s H E) (dL st) (ds.map some++List.replicate (N.length - ds.length) none) M { nx:=fun _ M'=>k .non M',rt:=k }):FnOk P w K mg base CX0 (n+1) f fd ps (spZ K F):=by
 refine Df.F.ok S (fun vs H Q E h => ?_) (fun cdv A outer s H vs Q E hr hsp => ?_)
 ·obtain ⟨G,M,ds,k,rl,dn,hF,_⟩:=h
  rw [← dn.len]; exact len _ _ _ hF
 ·obtain ⟨G,M,ds,k,rl,dn,hF,q⟩:=hsp
  refine ⟨_,pUSs,?_⟩
  refine h cdv A outer s H E hr ds M k hF (start N vs) G H _ (EnvR.start dn N.length) rl ⟨fun σ' G' H' Γ' M' s' en' h'=>q _ _ _ _ _ s' tQ h',q,fun _ _ _ _ _ _ _ h'=>h'.elim,fun _ _ _ _ _ _ _ h'=>h'.elim⟩
end
end Z
namespace Z
open PySem L2
mutual
def eqD:D→D→Bool
 | .non, .non=>true
 | .bl a, .bl b=>a == b
 | .int a, .int b=>a == b
 | .bl a, .int b=>(if a then 1 else 0) == b
 | .int a, .bl b=>a == (if b then 1 else 0)
 | .str a, .str b=>a == b
 | .tup xs, .tup ys=>eqDs xs ys
 | .lst xs, .lst ys=>eqDs xs ys
 | _,_=>false
def eqDs:List D→List D→Bool
 | [],[]=>true
 | x::xs,y::ys=>eqD x y && eqDs xs ys
 | _,_=>false
end
mutual
def okD:Nat→D→Bool
 | _, .non | _, .bl _ | _, .int _ | _, .str _=>true
 | n+1, .tup ds=>okDs n ds
 | n+1, .lst ds=>okDs n ds
 | _,_=>false
def okDs:Nat→List D→Bool
 | _,[]=>true
 | n,d::ds=>okD n d && okDs n ds
end
mutual
theorem eqD_refl:∀ (n:Nat) (d:D),okD n d=true→eqD d d=true
 | _, .non,_=>by simp only [eqD]
 | _, .bl _,_=>by simp only [eqD,beq_self_eq_true]
 | _, .int _,_=>by simp only [eqD,beq_self_eq_true]
 | _, .str _,_=>by simp only [eqD,beq_self_eq_true]
 | n+1, .tup ds,h=>by simp only [okD] at h; simp only [eqD]; exact eqDs_refl n ds h
 | n+1, .lst ds,h=>by simp only [okD] at h; simp only [eqD]; exact eqDs_refl n ds h
 | 0, .tup _,h=>by simp [okD] at h
 | 0, .lst _,h=>by simp [okD] at h
 | _, .mt _,h=>by simp [okD] at h
 | _, .fl _,h=>by simp [okD] at h
theorem eqDs_refl:∀ (n:Nat) (ds:List D),okDs n ds=true→eqDs ds ds=true
 | _,[],_=>by simp only [eqDs]
 | n,d::ds,h=>by
  simp only [okDs,Bool.and_eq_true] at h
  simp only [eqDs,eqD_refl n d h.1,eqDs_refl n ds h.2,Bool.and_true]
end
def eqJ (xs ys:List D) (j:Nat):Bool:=match xs[j]?,ys[j]? with
 | some x,some y=>eqD x y
 | _,_=>true
theorem dU:∀ (xs ys:List D),((List.range (min xs.length ys.length)).all (eqJ xs ys) && xs.length == ys.length)=eqDs xs ys
 | [],[]=>by simp [eqDs]
 | [],_::_=>by simp [eqDs]
 | _::_,[]=>by simp [eqDs]
 | x::xs,y::ys=>by
  have ih:=dU xs ys
  simp only [eqDs,← ih,List.length_cons]
  rw [show min (xs.length+1) (ys.length+1)=min xs.length ys.length+1 by omega,List.range_succ_eq_map,List.all_cons,List.all_map]
  have e1:eqJ (x::xs) (y::ys) 0=eqD x y:=rfl
  have e2:(eqJ (x::xs) (y::ys)) ∘ Nat.succ=eqJ xs ys:=by funext j; rfl
  rw [e1,e2,Bool.and_assoc]
  congr 2
  by_cases h:xs.length=ys.length
  ·rw [h]; simp
  ·rw [beq_eq_false_iff_ne.mpr h,beq_eq_false_iff_ne.mpr (by omega)]
section
variable {X:Cx}{pins:List (Addr × Obj)}{σ:St}{H:Hp}{s:Shared}
mutual
theorem den_inj (I:Inv X pins σ H s):∀ (n:Nat) (d e:D) (v:V),okD n d=true→okD n e=true→Den X.K H d v→Den X.K H e v→d=e
 | n, .non,e,v,h1,h2,x,y=>by
  rw [x.non_] at y
  cases e with
  | non=>rfl
  | bl b=>have:=y.bl_; cases this
  | int b=>have:=y.int_; cases this
  | str b=>have:=y.str_; cases this
  | mt b=>have:=y.mt_; cases this
  | tup b=>obtain ⟨_,_,q,_⟩:=y.tup_; cases q
  | lst b=>obtain ⟨_,_,q,_⟩:=y.lst_; cases q
  | fl b=>obtain ⟨_,_,q,_⟩:=y.fl_; cases q
  | st b=>obtain ⟨_,_,_,q,_⟩:=y.st_; cases q
 | n, .bl b,e,v,h1,h2,x,y=>by
  rw [x.bl_] at y
  cases e with
  | non=>have:=y.non_; cases this
  | bl b=>have:=y.bl_; cases this; rfl
  | int b=>have:=y.int_; cases this
  | str b=>have:=y.str_; cases this
  | mt b=>have:=y.mt_; cases this
  | tup b=>obtain ⟨_,_,q,_⟩:=y.tup_; cases q
  | lst b=>obtain ⟨_,_,q,_⟩:=y.lst_; cases q
  | fl b=>obtain ⟨_,_,q,_⟩:=y.fl_; cases q
  | st b=>obtain ⟨_,_,_,q,_⟩:=y.st_; cases q
 | n, .int b,e,v,h1,h2,x,y=>by
  rw [x.int_] at y
  cases e with
  | non=>have:=y.non_; cases this
  | bl b=>have:=y.bl_; cases this
  | int b=>have:=y.int_; cases this; rfl
  | str b=>have:=y.str_; cases this
  | mt b=>have:=y.mt_; cases this
  | tup b=>obtain ⟨_,_,q,_⟩:=y.tup_; cases q
  | lst b=>obtain ⟨_,_,q,_⟩:=y.lst_; cases q
  | fl b=>obtain ⟨_,_,q,_⟩:=y.fl_; cases q
  | st b=>obtain ⟨_,_,_,q,_⟩:=y.st_; cases q
 | n, .str b,e,v,h1,h2,x,y=>by
  rw [x.str_] at y
  cases e with
  | non=>have:=y.non_; cases this
  | bl b=>have:=y.bl_; cases this
  | int b=>have:=y.int_; cases this
  | str b=>have:=y.str_; cases this; rfl
  | mt b=>have:=y.mt_; cases this
  | tup b=>obtain ⟨_,_,q,_⟩:=y.tup_; cases q
  | lst b=>obtain ⟨_,_,q,_⟩:=y.lst_; cases q
  | fl b=>obtain ⟨_,_,q,_⟩:=y.fl_; cases q
  | st b=>obtain ⟨_,_,_,q,_⟩:=y.st_; cases q
 | n, .mt _,_,_,h1,_,_,_=>by simp [okD] at h1
 | n, .fl _,_,_,h1,_,_,_=>by simp [okD] at h1
 | 0, .tup _,_,_,h1,_,_,_=>by simp [okD] at h1
 | 0, .lst _,_,_,h1,_,_,_=>by simp [okD] at h1
 | n+1, .tup ds,e,v,h1,h2,x,y=>by
  obtain ⟨a,vs,rfl,sq,dn⟩:=x.tup_
  cases e with
  | non=>have:=y.non_; cases this
  | bl b=>have:=y.bl_; cases this
  | int b=>have:=y.int_; cases this
  | str b=>have:=y.str_; cases this
  | mt b=>simp [okD] at h2
  | fl b=>simp [okD] at h2
  | st b=>simp [okD] at h2
  | tup es =>
   obtain ⟨b,ws,q,sq2,dn2⟩:=y.tup_
   cases q
   rw [← I.tuple_inj sq sq2] at dn2
   simp only [okD] at h1 h2
   rw [dens_inj I n ds es vs h1 h2 dn dn2]
  | lst es =>
   obtain ⟨b,ws,q,sq2,dn2⟩:=y.lst_
   cases q
   exfalso
   obtain ⟨its,_,pt,_⟩:=I.tuple sq
   obtain ⟨jts,_,pl,_⟩:=I.list (SqL.of sq2)
   obtain ⟨o,e1,c1,_⟩:=pt
   obtain ⟨o2,n2,e2,c2,_⟩:=pl
   rw [e1] at e2; cases e2
   rw [c1] at c2; exact absurd c2 (by simp)
 | n+1, .lst ds,e,v,h1,h2,x,y=>by
  obtain ⟨a,vs,rfl,sq,dn⟩:=x.lst_
  cases e with
  | non=>have:=y.non_; cases this
  | bl b=>have:=y.bl_; cases this
  | int b=>have:=y.int_; cases this
  | str b=>have:=y.str_; cases this
  | mt b=>simp [okD] at h2
  | fl b=>simp [okD] at h2
  | st b=>simp [okD] at h2
  | lst es =>
   obtain ⟨b,ws,q,sq2,dn2⟩:=y.lst_
   cases q
   rw [sq] at sq2; cases sq2
   simp only [okD] at h1 h2
   rw [dens_inj I n ds es vs h1 h2 dn dn2]
  | tup es =>
   obtain ⟨b,ws,q,sq2,dn2⟩:=y.tup_
   cases q
   exfalso
   obtain ⟨its,_,pt,_⟩:=I.tuple sq2
   obtain ⟨jts,_,pl,_⟩:=I.list (SqL.of sq)
   obtain ⟨o,e1,c1,_⟩:=pt
   obtain ⟨o2,n2,e2,c2,_⟩:=pl
   rw [e1] at e2; cases e2
   rw [c1] at c2; exact absurd c2 (by simp)
theorem dens_inj (I:Inv X pins σ H s):∀ (n:Nat) (ds es:List D) (vs:List V),okDs n ds=true→okDs n es=true→Dens X.K H ds vs→Dens X.K H es vs→ds=es
 | _,[],es,vs,_,_,x,y=>by
  rw [bR x] at y
  cases es with
  | nil=>rfl
  | cons e es=>obtain ⟨_,_,q,_⟩:=bA y; cases q
 | n,d::ds,es,vs,h1,h2,x,y=>by
  obtain ⟨v,r,rfl,a,b⟩:=bA x
  cases es with
  | nil=>have:=bR y; cases this
  | cons e es =>
   obtain ⟨_,_,q,a2,b2⟩:=bA y
   cases q
   simp only [okDs,Bool.and_eq_true] at h1 h2
   rw [den_inj I n d e v h1.1 h2.1 a a2,dens_inj I n ds es r h1.2 h2.2 b b2]
end
end
end Z
namespace Z
open PySem L2
section
variable {X:Cx}{pins:List (Addr × Obj)}{σ:St}{H:Hp}{s:Shared}
theorem cP (I:Inv X pins σ H s) {ds:List D}{v:V}{u:Value} (h:Den X.K H (.tup ds) v) (r:RelV v u):∃ a its vs,u = .ref a∧s.heap.IsTuple a (List.toArray its)∧Vals vs its∧Dens X.K H ds vs:=by
 obtain ⟨a,vs,rfl,sq,dn⟩:=h.tup_
 obtain ⟨its,rv,pt,_⟩:=I.tuple sq
 exact ⟨a,its,vs,r,pt,rv,dn⟩
theorem cQ (I:Inv X pins σ H s) {ds:List D}{v:V}{u:Value} (h:Den X.K H (.lst ds) v) (r:RelV v u):∃ a its vs,u = .ref a∧s.heap.IsList a (List.toArray its)∧Vals vs its∧Dens X.K H ds vs:=by
 obtain ⟨a,vs,rfl,sq,dn⟩:=h.lst_
 obtain ⟨its,rv,pt,_⟩:=I.list (SqL.of sq)
 exact ⟨a,its,vs,r,pt.isList,rv,dn⟩
theorem cF:∀ {n:Nat}{ds:List D}{j:Nat}{d:D},okDs n ds=true→ds[j]?=some d→okD n d=true
 | _,[],_,_,_,e=>by simp at e
 | n,d0::ds,0,d,h,e=>by simp at e; subst e; simp only [okDs,Bool.and_eq_true] at h; exact h.1
 | n,d0::ds,j+1,d,h,e=>by simp only [okDs,Bool.and_eq_true] at h; exact cF (j:=j) h.2 (by simpa using e)
theorem c0 {ds:List D}{vs:List V}{its:List Value} (dn:Dens X.K H ds vs) (rv:Vals vs its) {j:Nat} (h:j < its.toArray.size):∃ d v,ds[j]?=some d∧Den X.K H d v∧RelV v its.toArray[j]:=by
 obtain ⟨v,e1,r1⟩:=aC3 rv h
 obtain ⟨d,e2,q⟩:=dn.get' e1
 exact ⟨d,v,e2,q,r1⟩
mutual
theorem eqAt_D (I:Inv X pins σ H s):∀ (d:D) (n:Nat) (e:D) (v u:V) (v' u':Value) (A:Around),okD n d=true→okD n e=true→Den X.K H d v→Den X.K H e u→RelV v v'→RelV u u'→A.units+n < cLine→SeqAt.EqAt A s v' u' (eqD d e)
 | .non,n,e,v,u,v',u',A,h1,h2,x,y,rx,ry,hu=>by
  rw [x.non_] at rx; cases (show v'=Value.none from rx)
  cases e with
  | non=>rw [y.non_] at ry; cases (show u'=Value.none from ry); simp only [eqD]; exact SeqAt.EqAt.same _
  | bl b=>rw [y.bl_] at ry; cases (show u'=Value.bool b from ry); simp only [eqD]; exact SeqAt.EqAt.none_bool b
  | int b=>rw [y.int_] at ry; obtain ⟨t,rfl⟩:=ry; simp only [eqD]; exact SeqAt.EqAt.none_int b t
  | str b=>rw [y.str_] at ry; obtain ⟨t,rfl⟩:=ry; simp only [eqD]; exact SeqAt.EqAt.none_str b t
  | mt b=>simp [okD] at h2
  | fl b=>simp [okD] at h2
  | st b=>simp [okD] at h2
  | tup es=>obtain ⟨a,its,vs,rfl,it,_⟩:=cP I y ry; simp only [eqD]; exact SeqAt.EqAt.none_tuple it (by omega)
  | lst es=>obtain ⟨a,its,vs,rfl,it,_⟩:=cQ I y ry; simp only [eqD]; exact SeqAt.EqAt.none_list it (by omega)
 | .bl c,n,e,v,u,v',u',A,h1,h2,x,y,rx,ry,hu=>by
  rw [x.bl_] at rx; cases (show v'=Value.bool c from rx)
  cases e with
  | non=>rw [y.non_] at ry; cases (show u'=Value.none from ry); simp only [eqD]; exact SeqAt.EqAt.bool_none c
  | bl b=>rw [y.bl_] at ry; cases (show u'=Value.bool b from ry); simp only [eqD]; exact SeqAt.EqAt.bool_bool c b
  | int b=>rw [y.int_] at ry; obtain ⟨t,rfl⟩:=ry; simp only [eqD]; exact SeqAt.EqAt.bool_int c b t
  | str b=>rw [y.str_] at ry; obtain ⟨t,rfl⟩:=ry; simp only [eqD]; exact SeqAt.EqAt.bool_str c b t
  | mt b=>simp [okD] at h2
  | fl b=>simp [okD] at h2
  | st b=>simp [okD] at h2
  | tup es=>obtain ⟨a,its,vs,rfl,it,_⟩:=cP I y ry; simp only [eqD]; exact SeqAt.EqAt.bool_tuple c it (by omega)
  | lst es=>obtain ⟨a,its,vs,rfl,it,_⟩:=cQ I y ry; simp only [eqD]; exact SeqAt.EqAt.bool_list c it (by omega)
 | .int c,n,e,v,u,v',u',A,h1,h2,x,y,rx,ry,hu=>by
  rw [x.int_] at rx; obtain ⟨t0,rfl⟩:=rx
  cases e with
  | non=>rw [y.non_] at ry; cases (show u'=Value.none from ry); simp only [eqD]; exact SeqAt.EqAt.int_none c t0
  | bl b=>rw [y.bl_] at ry; cases (show u'=Value.bool b from ry); simp only [eqD]; exact SeqAt.EqAt.int_bool c t0 b
  | int b=>rw [y.int_] at ry; obtain ⟨t,rfl⟩:=ry; simp only [eqD]; exact SeqAt.EqAt.int_int c t0 b t
  | str b=>rw [y.str_] at ry; obtain ⟨t,rfl⟩:=ry; simp only [eqD]; exact SeqAt.EqAt.int_str c t0 b t
  | mt b=>simp [okD] at h2
  | fl b=>simp [okD] at h2
  | st b=>simp [okD] at h2
  | tup es=>obtain ⟨a,its,vs,rfl,it,_⟩:=cP I y ry; simp only [eqD]; exact SeqAt.EqAt.int_tuple c t0 it (by omega)
  | lst es=>obtain ⟨a,its,vs,rfl,it,_⟩:=cQ I y ry; simp only [eqD]; exact SeqAt.EqAt.int_list c t0 it (by omega)
 | .str c,n,e,v,u,v',u',A,h1,h2,x,y,rx,ry,hu=>by
  rw [x.str_] at rx; obtain ⟨t0,rfl⟩:=rx
  cases e with
  | non=>rw [y.non_] at ry; cases (show u'=Value.none from ry); simp only [eqD]; exact SeqAt.EqAt.str_none c t0
  | bl b=>rw [y.bl_] at ry; cases (show u'=Value.bool b from ry); simp only [eqD]; exact SeqAt.EqAt.str_bool c t0 b
  | int b=>rw [y.int_] at ry; obtain ⟨t,rfl⟩:=ry; simp only [eqD]; exact SeqAt.EqAt.str_int c t0 b t
  | str b=>rw [y.str_] at ry; obtain ⟨t,rfl⟩:=ry; simp only [eqD]; exact SeqAt.EqAt.str_str c t0 b t
  | mt b=>simp [okD] at h2
  | fl b=>simp [okD] at h2
  | st b=>simp [okD] at h2
  | tup es=>obtain ⟨a,its,vs,rfl,it,_⟩:=cP I y ry; simp only [eqD]; exact SeqAt.EqAt.str_tuple c t0 it (by omega)
  | lst es=>obtain ⟨a,its,vs,rfl,it,_⟩:=cQ I y ry; simp only [eqD]; exact SeqAt.EqAt.str_list c t0 it (by omega)
 | .mt _,n,_,_,_,_,_,_,h1,_,_,_,_,_,_=>by simp [okD] at h1
 | .fl _,n,_,_,_,_,_,_,h1,_,_,_,_,_,_=>by simp [okD] at h1
 | .st _,n,_,_,_,_,_,_,h1,_,_,_,_,_,_=>by simp [okD] at h1
 | .tup ds,0,_,_,_,_,_,_,h1,_,_,_,_,_,_=>by simp [okD] at h1
 | .lst ds,0,_,_,_,_,_,_,h1,_,_,_,_,_,_=>by simp [okD] at h1
 | .tup ds,n+1,e,v,u,v',u',A,h1,h2,x,y,rx,ry,hu=>by
  obtain ⟨a,its,vs,rfl,it,rv,dn⟩:=cP I x rx
  cases e with
  | non=>rw [y.non_] at ry; cases (show u'=Value.none from ry); simp only [eqD]; exact SeqAt.EqAt.tuple_none it (by omega)
  | bl b=>rw [y.bl_] at ry; cases (show u'=Value.bool b from ry); simp only [eqD]; exact SeqAt.EqAt.tuple_bool b it (by omega)
  | int b=>rw [y.int_] at ry; obtain ⟨t,rfl⟩:=ry; simp only [eqD]; exact SeqAt.EqAt.tuple_int b t it (by omega)
  | str b=>rw [y.str_] at ry; obtain ⟨t,rfl⟩:=ry; simp only [eqD]; exact SeqAt.EqAt.tuple_str b t it (by omega)
  | mt b=>simp [okD] at h2
  | fl b=>simp [okD] at h2
  | st b=>simp [okD] at h2
  | lst es=>obtain ⟨b,its2,vs2,rfl,it2,_⟩:=cQ I y ry; simp only [eqD]; exact SeqAt.EqAt.tuple_list it it2 (by omega)
  | tup es =>
   obtain ⟨b,its2,vs2,rfl,it2,rv2,dn2⟩:=cP I y ry
   have k1:okDs n ds=true:=by simpa only [okD] using h1
   have k2:okDs n es=true:=by simpa only [okD] using h2
   by_cases hab:a=b
   ·subst hab
    have e0:D.tup ds=D.tup es:=den_inj I (n+1) _ _ v h1 h2 x (by
     have:v=u:=by
      obtain ⟨_,_,e3,_⟩:=x.tup_
      obtain ⟨_,_,e4,_⟩:=y.tup_
      rw [e3] at rx; rw [e4] at ry
      cases rx; cases ry; rw [e3,e4]
     rw [this]; exact y)
    rw [← e0,eqD_refl (n+1) _ h1]
    exact SeqAt.EqAt.same _
   ·have:=SeqAt.RcAt.tuples (A:=A) (s:=s) (e:=eqJ ds es) it it2 (by omega) (fun j g1 g2=>by
     obtain ⟨c,v1,e1,q1,r1⟩:=c0 dn rv g1
     obtain ⟨c2,v2,e2,q2,r2⟩:=c0 dn2 rv2 g2
     have:=eqAts_D I ds n j c e1 c2 v1 v2 _ _ A.in1 (cF k1 e1) (cF k2 e2) q1 q2 r1 r2 (by show A.units+1+n < cLine; omega)
     unfold eqJ; rw [e1,e2]; exact this)
    rw [List.size_toArray,List.size_toArray,← rv.length,← rv2.length,← dn.len,← dn2.len,dU] at this
    simp only [eqD]
    exact SeqAt.EqAt.of_refs hab this
 | .lst ds,n+1,e,v,u,v',u',A,h1,h2,x,y,rx,ry,hu=>by
  obtain ⟨a,its,vs,rfl,it,rv,dn⟩:=cQ I x rx
  cases e with
  | non=>rw [y.non_] at ry; cases (show u'=Value.none from ry); simp only [eqD]; exact SeqAt.EqAt.list_none it (by omega)
  | bl b=>rw [y.bl_] at ry; cases (show u'=Value.bool b from ry); simp only [eqD]; exact SeqAt.EqAt.list_bool b it (by omega)
  | int b=>rw [y.int_] at ry; obtain ⟨t,rfl⟩:=ry; simp only [eqD]; exact SeqAt.EqAt.list_int b t it (by omega)
  | str b=>rw [y.str_] at ry; obtain ⟨t,rfl⟩:=ry; simp only [eqD]; exact SeqAt.EqAt.list_str b t it (by omega)
  | mt b=>simp [okD] at h2
  | fl b=>simp [okD] at h2
  | st b=>simp [okD] at h2
  | tup es=>obtain ⟨b,its2,vs2,rfl,it2,_⟩:=cP I y ry; simp only [eqD]; exact SeqAt.EqAt.list_tuple it it2 (by omega)
  | lst es =>
   obtain ⟨b,its2,vs2,rfl,it2,rv2,dn2⟩:=cQ I y ry
   have k1:okDs n ds=true:=by simpa only [okD] using h1
   have k2:okDs n es=true:=by simpa only [okD] using h2
   by_cases hab:a=b
   ·subst hab
    have e0:D.lst ds=D.lst es:=den_inj I (n+1) _ _ v h1 h2 x (by
     have:v=u:=by
      obtain ⟨_,_,e3,_⟩:=x.lst_
      obtain ⟨_,_,e4,_⟩:=y.lst_
      rw [e3] at rx; rw [e4] at ry
      cases rx; cases ry; rw [e3,e4]
     rw [this]; exact y)
    rw [← e0,eqD_refl (n+1) _ h1]
    exact SeqAt.EqAt.same _
   ·simp only [eqD]
    refine SeqAt.EqAt.of_refs hab ?_
    by_cases hl:ds.length=es.length
    ·have hsz:its.toArray.size=its2.toArray.size:=by rw [List.size_toArray,List.size_toArray,← rv.length,← rv2.length,← dn.len,← dn2.len,hl]
     have:=SeqAt.RcAt.lists (A:=A) (s:=s) (e:=eqJ ds es) it it2 hsz (by omega) (fun j g1 g2=>by
      obtain ⟨c,v1,e1,q1,r1⟩:=c0 dn rv g1
      obtain ⟨c2,v2,e2,q2,r2⟩:=c0 dn2 rv2 g2
      have:=eqAts_D I ds n j c e1 c2 v1 v2 _ _ A.in1 (cF k1 e1) (cF k2 e2) q1 q2 r1 r2 (by show A.units+1+n < cLine; omega)
      unfold eqJ; rw [e1,e2]; exact this)
     have e3:=dU ds es
     rw [← hl,Nat.min_self,beq_self_eq_true,Bool.and_true] at e3
     rw [List.size_toArray,← rv.length,← dn.len,e3] at this
     exact this
    ·have hsz:(its.toArray.size != its2.toArray.size)=true:=by rw [bne_iff_ne,List.size_toArray,List.size_toArray,← rv.length,← rv2.length,← dn.len,← dn2.len]; exact hl
     have e3:=dU ds es
     rw [beq_eq_false_iff_ne.mpr hl,Bool.and_false] at e3
     rw [← e3]
     exact SeqAt.RcAt.lists_lengths it it2 hsz (by omega)
theorem eqAts_D (I:Inv X pins σ H s):∀ (ds:List D) (n j:Nat) (d:D),ds[j]?=some d→∀ (e:D) (v u:V) (v' u':Value) (A:Around),okD n d=true→okD n e=true→Den X.K H d v→Den X.K H e u→RelV v v'→RelV u u'→A.units+n < cLine→SeqAt.EqAt A s v' u' (eqD d e)
 | [],_,_,_,q=>by simp at q
 | d0::ds,n,0,d,q=>by
  simp at q; subst q
  exact fun e v u v' u' A=>eqAt_D I d0 n e v u v' u' A
 | d0::ds,n,j+1,d,q=>eqAts_D I ds n j d (by simpa using q)
end
inductive Disp:D→Prop
 | tup (ds:List D):Disp (.tup ds)
 | lst (ds:List D):Disp (.lst ds)
inductive Rs (M:Mem):D→D→Prop
 | tup (ds:List D):Rs M (.tup ds) (.tup ds)
 | lst (ds:List D):Rs M (.lst ds) (.lst ds)
 | mt {a:Addr}{ds:List D} (h:M a=some (.lst ds)):Rs M (.mt a) (.lst ds)
theorem Rs.disp {M:Mem}{d e:D} (h:Rs M d e):Disp e:=by cases h <;> constructor
theorem Rs.den {K:Fg}{G H:Hp}{M:Mem}{d e:D}{v:V} (h:Rs M d e) (rl:Rel K G H M) (q:Den K G d v):Den K H e v:=by
 cases h with
 | tup ds=>exact q.up rl.same
 | lst ds=>exact q.up rl.same
 | mt hm =>
  obtain ⟨_,vs,e1,dn⟩:=rl.mem _ _ hm
  rw [q.mt_]; exact eM e1 (dn.up rl.same)
def rEqD (K:Fg) (n:Nat) (neg:Bool):R2:=fun x y H Q=>∃ d e,Disp d∧Disp e∧okD n d=true∧okD n e=true∧Den K H d x∧Den K H e y∧Q (.bl (if neg then !eqD d e else eqD d e)) H
theorem rc_D (I:Inv X pins σ H s) {n:Nat}{d e:D}{v u:V}{v' u':Value} (A:Around) (g1:Disp d) (g2:Disp e) (h1:okD n d=true) (h2:okD n e=true) (x:Den X.K H d v) (y:Den X.K H e u) (rx:RelV v v') (ry:RelV u u') (hu:A.units+n < cLine):SeqAt.RcAt A s v' u' (eqD d e):=by
 cases g1 with
 | tup ds =>
  obtain ⟨a,its,vs,rfl,it,rv,dn⟩:=cP I x rx
  cases g2 with
  | lst es=>obtain ⟨b,its2,vs2,rfl,it2,_⟩:=cQ I y ry; simp only [eqD]; exact SeqAt.RcAt.tuple_list it it2 (by omega)
  | tup es =>
   obtain ⟨b,its2,vs2,rfl,it2,rv2,dn2⟩:=cP I y ry
   cases n with
   | zero=>simp [okD] at h1
   | succ n =>
    have k1:okDs n ds=true:=by simpa only [okD] using h1
    have k2:okDs n es=true:=by simpa only [okD] using h2
    have:=SeqAt.RcAt.tuples (A:=A) (s:=s) (e:=eqJ ds es) it it2 (by omega) (fun j g1 g2=>by
     obtain ⟨c,v1,e1,q1,r1⟩:=c0 dn rv g1
     obtain ⟨c2,v2,e2,q2,r2⟩:=c0 dn2 rv2 g2
     have:=eqAt_D I c n c2 v1 v2 _ _ A.in1 (cF k1 e1) (cF k2 e2) q1 q2 r1 r2 (by show A.units+1+n < cLine; omega)
     unfold eqJ; rw [e1,e2]; exact this)
    rw [List.size_toArray,List.size_toArray,← rv.length,← rv2.length,← dn.len,← dn2.len,dU] at this
    simp only [eqD]; exact this
 | lst ds =>
  obtain ⟨a,its,vs,rfl,it,rv,dn⟩:=cQ I x rx
  cases g2 with
  | tup es=>obtain ⟨b,its2,vs2,rfl,it2,_⟩:=cP I y ry; simp only [eqD]; exact SeqAt.RcAt.list_tuple it it2 (by omega)
  | lst es =>
   obtain ⟨b,its2,vs2,rfl,it2,rv2,dn2⟩:=cQ I y ry
   cases n with
   | zero=>simp [okD] at h1
   | succ n =>
    have k1:okDs n ds=true:=by simpa only [okD] using h1
    have k2:okDs n es=true:=by simpa only [okD] using h2
    simp only [eqD]
    by_cases hl:ds.length=es.length
    ·have hsz:its.toArray.size=its2.toArray.size:=by rw [List.size_toArray,List.size_toArray,← rv.length,← rv2.length,← dn.len,← dn2.len,hl]
     have:=SeqAt.RcAt.lists (A:=A) (s:=s) (e:=eqJ ds es) it it2 hsz (by omega) (fun j g1 g2=>by
      obtain ⟨c,v1,e1,q1,r1⟩:=c0 dn rv g1
      obtain ⟨c2,v2,e2,q2,r2⟩:=c0 dn2 rv2 g2
      have:=eqAt_D I c n c2 v1 v2 _ _ A.in1 (cF k1 e1) (cF k2 e2) q1 q2 r1 r2 (by show A.units+1+n < cLine; omega)
      unfold eqJ; rw [e1,e2]; exact this)
     have e3:=dU ds es
     rw [← hl,Nat.min_self,beq_self_eq_true,Bool.and_true] at e3
     rw [List.size_toArray,← rv.length,← dn.len,e3] at this
     exact this
    ·have hsz:(its.toArray.size != its2.toArray.size)=true:=by rw [bne_iff_ne,List.size_toArray,List.size_toArray,← rv.length,← rv2.length,← dn.len,← dn2.len]; exact hl
     have e3:=dU ds es
     rw [beq_eq_false_iff_ne.mpr hl,Bool.and_false] at e3
     rw [← e3]
     exact SeqAt.RcAt.lists_lengths it it2 hsz (by omega)
end
section
variable {X:Cx}
theorem xH {n:Nat} (hu:X.A.units+n < cLine):OpR X (compareOp .Eq) (rEqD X.K n false):=by
 intro pins s σ H x y v u Q I rx ry h
 obtain ⟨d,e,g1,g2,h1,h2,dx,dy,q⟩:=h
 exact rc_D I X.A g1 g2 h1 h2 dx dy rx ry hu X.prog X.w X.xe _ ⟨.bl (eqD d e),H,I,rfl,q⟩
theorem wP {K:Fg}{n:Nat}{M:Mem}{k:D→Mem→Prop}{d1 d2 e1 e2:D} (r1:Rs M d1 e1) (r2:Rs M d2 e2) (h1:okD n e1=true) (h2:okD n e2=true) (h:k (.bl (eqD e1 e2)) M):Op2 K (rEqD K n false) d1 d2 M k:=fun G H v1 v2 Q rl x y q =>
 ⟨e1,e2,r1.disp,r2.disp,h1,h2,r1.den rl x,r2.den rl y,q _ _ _ _ _ (Stp.refl rl) dB h⟩
end
end Z
namespace Z
open PySem L2
mutual
def toPy:D→PyData
 | .non => .none
 | .bl b => .bool b
 | .int i => .int i
 | .str x => .str x
 | .tup ds => .tuple (toPys ds)
 | .lst ds => .list (toPys ds)
 | .mt _ => .none
 | .fl _ => .none
 | .st _ => .none
def toPys:List D→List PyData
 | []=>[]
 | d::ds=>toPy d::toPys ds
end
mutual
theorem depth_le:∀ (d:D) (n:Nat),okD n d=true→(toPy d).depth≤n
 | .non,_,_=>by simp [toPy,PyData.depth]
 | .bl _,_,_=>by simp [toPy,PyData.depth]
 | .int _,_,_=>by simp [toPy,PyData.depth]
 | .str _,_,_=>by simp [toPy,PyData.depth]
 | .mt _,n,h=>by simp [okD] at h
 | .fl _,n,h=>by simp [okD] at h
 | .st _,n,h=>by simp [okD] at h
 | .tup ds,0,h=>by simp [okD] at h
 | .lst ds,0,h=>by simp [okD] at h
 | .tup ds,n+1,h=>by
  simp only [toPy,PyData.depth]
  have:=depths_le ds n (by simpa only [okD] using h)
  omega
 | .lst ds,n+1,h=>by
  simp only [toPy,PyData.depth]
  have:=depths_le ds n (by simpa only [okD] using h)
  omega
theorem depths_le:∀ (ds:List D) (n:Nat),okDs n ds=true→PyData.depthAll (toPys ds)≤n
 | [],_,_=>by simp [toPys,PyData.depthAll]
 | d::ds,n,h=>by
  simp only [okDs,Bool.and_eq_true] at h
  simp only [toPys,PyData.depthAll]
  have h1:=depth_le d n h.1
  have h2:=depths_le ds n h.2
  omega
end
mutual
theorem noDict:∀ (d:D),(toPy d).hasDict=false
 | .non=>by simp only [toPy,PyData.hasDict]
 | .bl _=>by simp only [toPy,PyData.hasDict]
 | .int _=>by simp only [toPy,PyData.hasDict]
 | .str _=>by simp only [toPy,PyData.hasDict]
 | .mt _=>by simp only [toPy,PyData.hasDict]
 | .fl _=>by simp only [toPy,PyData.hasDict]
 | .st _=>by simp only [toPy,PyData.hasDict]
 | .tup ds=>by simp only [toPy,PyData.hasDict]; exact noDicts ds
 | .lst ds=>by simp only [toPy,PyData.hasDict]; exact noDicts ds
theorem noDicts:∀ (ds:List D),PyData.hasDictAll (toPys ds)=false
 | []=>by simp only [toPys,PyData.hasDictAll]
 | d::ds=>by simp only [toPys,PyData.hasDictAll,noDict d,noDicts ds,Bool.or_false]
end
section
variable {X:Cx}{pins:List (Addr × Obj)}{σ:St}{H:Hp}{s:Shared}
mutual
theorem reads_D (I:Inv X pins σ H s):∀ (d:D) (n:Nat) (v:V) (u:Value),okD n d=true→Den X.K H d v→RelV v u→∃ as,Reads s.heap u (toPy d) as
 | .non,_,v,u,_,x,r=>by rw [x.non_] at r; cases (show u=Value.none from r); exact ⟨_,by simp only [toPy]; exact .none⟩
 | .bl b,_,v,u,_,x,r=>by rw [x.bl_] at r; cases (show u=Value.bool b from r); exact ⟨_,by simp only [toPy]; exact .bool b⟩
 | .int b,_,v,u,_,x,r=>by rw [x.int_] at r; obtain ⟨t,rfl⟩:=r; exact ⟨_,by simp only [toPy]; exact .int b t⟩
 | .str b,_,v,u,_,x,r=>by rw [x.str_] at r; obtain ⟨t,rfl⟩:=r; exact ⟨_,by simp only [toPy]; exact .str b t⟩
 | .mt _,n,_,_,h,_,_=>by simp [okD] at h
 | .fl _,n,_,_,h,_,_=>by simp [okD] at h
 | .st _,n,_,_,h,_,_=>by simp [okD] at h
 | .tup ds,0,_,_,h,_,_=>by simp [okD] at h
 | .lst ds,0,_,_,h,_,_=>by simp [okD] at h
 | .tup ds,n+1,v,u,h,x,r=>by
  obtain ⟨a,its,vs,rfl,⟨o,e1,e2,m,e3⟩,rv,dn⟩:=cP I x r
  obtain ⟨as,q⟩:=readss_D I ds n vs its (by simpa only [okD] using h) dn rv
  exact ⟨as,by simp only [toPy]; exact .tuple e1 e2 e3 (by simpa using q)⟩
 | .lst ds,n+1,v,u,h,x,r=>by
  obtain ⟨a,its,vs,rfl,⟨o,e1,e2,m,e3⟩,rv,dn⟩:=cQ I x r
  obtain ⟨as,q⟩:=readss_D I ds n vs its (by simpa only [okD] using h) dn rv
  exact ⟨a::as,by simp only [toPy]; exact .list e1 e2 e3 (by simpa using q)⟩
theorem readss_D (I:Inv X pins σ H s):∀ (ds:List D) (n:Nat) (vs:List V) (us:List Value),okDs n ds=true→Dens X.K H ds vs→Vals vs us→∃ as,ReadsAll s.heap us (toPys ds) as
 | [],_,vs,us,_,x,r=>by
  rw [bR x] at r
  cases r
  exact ⟨[],by simp only [toPys]; exact .nil⟩
 | d::ds,n,vs,us,h,x,r=>by
  obtain ⟨v,t,rfl,a,b⟩:=bA x
  cases r with
  | cons r1 r2 =>
   simp only [okDs,Bool.and_eq_true] at h
   obtain ⟨as,q⟩:=reads_D I d n v _ h.1 a r1
   obtain ⟨bs,q2⟩:=readss_D I ds n t _ h.2 b r2
   exact ⟨as++bs,by simp only [toPys]; exact .cons q q2⟩
end
end
section
variable {X:Cx}
def vJ (K:Fg) (n:Nat):List V→Hp→VK→Prop:=fun xs H Q=>∃ x d,xs=[x]∧Disp d∧okD n d=true∧Den K H d x∧(toPy d).showable=true∧(toPy d).shown.length≤sizeLine∧Q (.str (toPy d).shown) H
theorem jQ {n:Nat} (hu:X.A.units+(n+1) < cLine) (hg:X.A.guards=some []):dH X (.builtin "repr") (vJ X.K n):=by
 intro pins s σ H xs us Q I r h
 obtain ⟨x,d,rfl,hd,ok,dx,hs,hz,q⟩:=h
 obtain ⟨u,rfl,rx⟩:=vals1 r
 obtain ⟨as,rd⟩:=reads_D I d n x u ok dx rx
 have hr:∃ a,u = .ref a:=by
  cases hd with
  | tup ds=>obtain ⟨a,_,_,e,_⟩:=cP I dx rx; exact ⟨a,e⟩
  | lst ds=>obtain ⟨a,_,_,e,_⟩:=cQ I dx rx; exact ⟨a,e⟩
 obtain ⟨a,rfl⟩:=hr
 have hdp:=depth_le d n ok
 refine repr_of_reads' rd hs (PyData.noDict_hsm (noDict d)) hg (by omega) (fun _ _ e=>e) (fun h' t tk hk => ?_) hz
 exact ⟨.str _,H,I.kept (t':=tk) hk,⟨t,rfl⟩,q⟩
theorem aBP {K:Fg}{n:Nat}{M:Mem}{k:D→Mem→Prop}{d e:D} (r:Rs M d e) (ok:okD n e=true) (hs:(toPy e).showable=true) (hz:(toPy e).shown.length≤sizeLine) (h:k (.str (toPy e).shown) M):OpN K (vJ K n) [d] M k:=fun G H vs Q rl x q=>by
 obtain ⟨v,rfl,dv⟩:=dens1 x
 exact ⟨v,e,rfl,r.disp,ok,r.den rl dv,hs,hz,q _ _ _ _ _ (Stp.refl rl) fY h⟩
end
end Z
namespace R
open PySem L2
theorem cG {z:Str}{j:Nat} (h:j < z.length):z.cps.toList[j]?=some (atS z j):=by
 have h':j < z.cps.size:=h
 simp [atS,Array.getD,h']
theorem iQ {l:List Nat}{j:Nat}:atS (ofL l) j=l.getD j 0:=by
 unfold atS ofL
 rw [Array.getD_eq_getD_getElem?,List.getElem?_toArray,List.getD_eq_getElem?_getD]
def Good (n:Nat) (zs:List Str):Prop:=∀ z∈zs,z.length=n∧z.cps.toList.all sgn=true
theorem jX {n:Nat}{zs:List Str} (h:Good n zs) {z:Str} (hz:z∈zs) {j:Nat} (hj:j < n):atS z j=35∨atS z j=46:=by
 obtain ⟨h1,h2⟩:=h z hz
 have e:=cG (z:=z) (j:=j) (by omega)
 have:=List.all_eq_true.mp h2 _ (List.mem_of_getElem? e)
 unfold sgn at this
 rw [Bool.or_eq_true,beq_iff_eq,beq_iff_eq] at this
 exact this
theorem nN (n:Nat):(dots n).length=n:=by unfold dots; rw [f7,List.length_replicate]
theorem aDG {n:Nat}{z:Str} (hl:z.length=n) (h:∀ j,j < n→atS z j=46):z=dots n:=by
 apply fG
 show z.cps.toList=List.replicate n 46
 apply List.ext_getElem?
 intro j
 by_cases hj:j < n
 ·rw [cG (by omega),h j hj,List.getElem?_replicate,if_pos hj]
 ·rw [List.getElem?_eq_none (by rw [Array.length_toList]; have:z.cps.size=n:=hl; omega),List.getElem?_eq_none (by simp; omega)]
theorem iP {n j:Nat}:atS (dots n) j=if j < n then 46 else 0:=by
 unfold dots
 rw [iQ,List.getD_eq_getElem?_getD,List.getElem?_replicate]
 split <;> rfl
theorem gS {α:Type} (f:Nat→α):∀ p,f p≠f 0→∃ k,k < p∧f k≠f (k+1)
 | 0,h=>absurd rfl h
 | p+1,h=>by
  by_cases e:f p=f 0
  ·exact ⟨p,by omega,by rw [e]; exact Ne.symm h⟩
  ·obtain ⟨k,h1,h2⟩:=gS f p e
   exact ⟨k,by omega,h2⟩
theorem fM {α:Type} (f:Nat→α):∀ m p,f p≠f (p+m)→∃ k,p≤k∧k < p+m∧f k≠f (k+1)
 | 0,p,h=>absurd rfl h
 | m+1,p,h=>by
  by_cases e:f p=f (p+m)
  ·exact ⟨p+m,by omega,by omega,by rw [← e]; exact h⟩
  ·obtain ⟨k,h1,h2,h3⟩:=fM f m p e
   exact ⟨k,h1,by omega,h3⟩
theorem bT {zs:List Str}{i:Nat} (h:i < zs.length):(framed zs)[i+1]?=zs[i]?:=by
 unfold framed
 rw [List.append_assoc,List.singleton_append,List.getElem?_cons_succ,List.getElem?_append_left h]
theorem dQ (zs:List Str):(framed zs)[0]?=some (dots ((zs.head?.map (·.length)).getD 0)):=by simp [framed]
theorem cV (zs:List Str):(framed zs)[zs.length+1]?=some (dots ((zs.head?.map (·.length)).getD 0)):=by
 unfold framed
 rw [List.append_assoc,List.singleton_append,List.getElem?_cons_succ,List.getElem?_append_right (Nat.le_refl _)]
 simp
theorem dM {zs:List Str}{i:Nat} (hz:zs≠[]):i∈chg zs↔i≤zs.length∧(framed zs)[i]?≠(framed zs)[i+1]?:=by
 unfold chg
 have:zs.isEmpty=false:=by cases zs with
  | nil=>exact absurd rfl hz
  | cons _ _=>rfl
 rw [this]
 simp only [Bool.false_eq_true,if_false,List.mem_filter,List.mem_range,Bool.not_eq_true',decide_eq_false_iff_not]
 exact ⟨fun ⟨a,b⟩=>⟨by omega,b⟩,fun ⟨a,b⟩=>⟨by omega,b⟩⟩
theorem bU {n:Nat}{zs:List Str} (h:∀ z∈zs,z.length=n) (hz:zs≠[]):(zs.head?.map (·.length)).getD 0=n:=by
 cases zs with
 | nil=>exact absurd rfl hz
 | cons z zr=>exact h z (by simp)
theorem aCS {n:Nat}{zs:List Str} (h:∀ z∈zs,z.length=n) {i:Nat}{z:Str} (hi:zs[i]?=some z) (hz:z≠dots n):2≤(chg zs).length:=by
 have hlt:i < zs.length:=(List.getElem?_eq_some_iff.mp hi).1
 have hne:zs≠[]:=fun e=>by rw [e] at hlt; simp at hlt
 have hw:=bU h hne
 have f0:(framed zs)[0]?=some (dots n):=by rw [dQ,hw]
 have fl:(framed zs)[zs.length+1]?=some (dots n):=by rw [cV,hw]
 have fp:(framed zs)[i+1]?=some z:=by rw [bT hlt,hi]
 obtain ⟨k1,a1,b1⟩:=gS (fun k=>(framed zs)[k]?) (i+1) (by show (framed zs)[i+1]?≠(framed zs)[0]?; rw [fp,f0]; exact fun e=>hz (Option.some.inj e))
 obtain ⟨k2,a2,a3,b2⟩:=fM (fun k=>(framed zs)[k]?) (zs.length - i) (i+1) (by
  show (framed zs)[i+1]?≠(framed zs)[i+1+(zs.length - i)]?
  rw [show i+1+(zs.length - i)=zs.length+1 by omega,fp,fl]; exact fun e=>hz (Option.some.inj e))
 have m1:k1∈chg zs:=(dM hne).mpr ⟨by omega,b1⟩
 have m2:k2∈chg zs:=(dM hne).mpr ⟨by omega,b2⟩
 match hc:chg zs,m1,m2 with
 | [],m1,_=>cases m1
 | [x],m1,m2 =>
  simp at m1 m2
  omega
 | _::_::_,_,_=>simp
def aL (zs:List Str):List Str:=(chg zs).dropLast.map fun i=>zs.getD i Str.empty
theorem gG {zs:List Str}:∀ z∈aL zs,z∈zs:=fun z hz=>by
 obtain ⟨i,hi,rfl⟩:=List.mem_map.mp hz
 have:=fZ (bL zs) (c7 zs) i hi
 rw [List.getD_eq_getElem?_getD,List.getElem?_eq_getElem this]
 exact List.getElem_mem _
theorem fS {n:Nat}{zs:List Str} (h:Good n zs):Good n (aL zs):=fun z hz=>h z (gG z hz)
theorem c6 (zs:List Str):(aL zs).length=(chg zs).length - 1:=by unfold aL; rw [List.length_map,List.length_dropLast]
theorem nA {n:Nat}{zs:List Str} (h:∀ z∈zs,z.length=n) (hr:aL zs≠[]):∃ z∈aL zs,z≠dots n:=by
 have h2:2≤(chg zs).length:=by
  have:=List.length_pos_iff.mpr hr
  rw [c6] at this
  omega
 have hne:zs≠[]:=fun e=>by rw [e] at h2; simp [chg] at h2
 match hc:chg zs,h2 with
 | k0::k1::r,_ =>
  have m0:k0∈chg zs:=by rw [hc]; simp
  have s:=bL zs
  rw [hc] at s
  have hk1:k1≤zs.length:=c7 zs k1 (by rw [hc]; simp)
  have hk:k0 < k1:=(List.pairwise_cons.mp s).1 k1 (by simp)
  have hk0:k0 < zs.length:=by omega
  obtain ⟨_,b0⟩:=(dM hne).mp m0
  have same:∀ j,j≤k0→(framed zs)[j]?=(framed zs)[0]?:=fun j hj=>Classical.byContradiction fun q=>by
   obtain ⟨k,a1,b1⟩:=gS (fun k=>(framed zs)[k]?) j q
   have:k∈chg zs:=(dM hne).mpr ⟨by omega,b1⟩
   rw [hc] at this
   rcases List.mem_cons.mp this with rfl | this
   ·omega
   ·have:=(List.pairwise_cons.mp s).1 k this
    omega
  refine ⟨zs.getD k0 Str.empty,?_,fun q=>b0 ?_⟩
  ·unfold aL
   rw [hc]
   simp
  ·rw [same k0 (Nat.le_refl _),dQ,bU h hne,bT hk0,← q,List.getD_eq_getElem?_getD,List.getElem?_eq_getElem hk0]
   rfl
theorem fI {zs:List Str}{n j:Nat} (h:∀ z∈zs,z.length=n) (hz:zs≠[]) (hj:j < n):(aE zs)[j]?=some (ofL (zs.map (atS · j))):=by
 unfold aE
 rw [bU h hz,List.getElem?_map,List.getElem?_range hj]
 rfl
theorem jR {n:Nat}{zs:List Str} (h:Good n zs):Good zs.length (aE zs):=fun z hz=>by
 refine ⟨eB z hz,?_⟩
 obtain ⟨j,hj,rfl⟩:=List.mem_map.mp hz
 rw [List.mem_range] at hj
 show (zs.map (atS · j)).all sgn=true
 rw [List.all_eq_true]
 intro c hc
 obtain ⟨z,hz,rfl⟩:=List.mem_map.mp hc
 have hne:zs≠[]:=fun e=>by rw [e] at hz; cases hz
 rw [bU (fun z hz=>(h z hz).1) hne] at hj
 rcases jX h hz hj with e | e <;> rw [e] <;> rfl
structure Wf (nx ny:Nat) (zs:List Str):Prop where
 rows:zs.length+1=ny∨(nx=0∧ny=0∧zs=[])
 good:Good (nx - 1) zs
 wide:0 < nx∨(nx=0∧ny=0∧zs=[])
theorem r9 {n:Nat}{zs:List Str} (h:Good n zs) {z:Str} (hz:z∈zs) (hd:z≠dots n):∃ j,j < n∧atS z j=35:=by
 refine Classical.byContradiction fun q=>hd (aDG (h z hz).1 fun j hj => ?_)
 rcases jX h hz hj with e | e
 ·exact absurd ⟨j,hj,e⟩ q
 ·exact e
theorem aB0 {n:Nat}{zs:List Str} (h:Good n zs) (hr:aL zs≠[]) :
  2≤(chg (aE (aL zs))).length∧Wf (chg (aE (aL zs))).length (chg zs).length (aE (aL (aE (aL zs))))∧(aE (aL (aE (aL zs)))).length=(aL zs).length:=by
 have g1:=fS h
 obtain ⟨z,hz,hd⟩:=nA (fun z hz=>(h z hz).1) hr
 obtain ⟨j,hj,e35⟩:=r9 g1 hz hd
 have gc:=jR g1
 have hc:=fI (fun z hz=>(g1 z hz).1) hr hj
 have hnd:ofL ((aL zs).map (atS · j))≠dots (aL zs).length:=fun q=>by
  obtain ⟨i,hi,ez⟩:=List.getElem_of_mem hz
  have e1:atS (ofL ((aL zs).map (atS · j))) i=35:=by
   rw [iQ,List.getD_eq_getElem?_getD,List.getElem?_map,List.getElem?_eq_getElem hi,ez]
   exact e35
  rw [q,iP,if_pos hi] at e1
  cases e1
 have c2:=aCS (fun z hz=>(gc z hz).1) hc hnd
 have hk:aL (aE (aL zs))≠[]:=fun q=>by
  have:=c6 (aE (aL zs))
  rw [q] at this
  simp at this
  omega
 have g2:=fS gc
 have l2:=(nM (fun z hz=>(g2 z hz).1)).2 hk
 have zl:=c6 zs
 have pos:=List.length_pos_iff.mpr hr
 refine ⟨c2,⟨.inl (by rw [l2]; omega),?_, .inl (by omega)⟩,l2⟩
 have g3:=jR g2
 rw [c6] at g3
 exact g3
def aR (zs:List Str) (a u:Int):Bool:=decide (0≤u) && decide (0≤a) && ((zs[u.toNat]?).bind fun z=>z.cps.toList[a.toNat]?) == some 35
theorem cT {zs:List Str}{a u:Int} (h:u < 0):aR zs a u=false:=by
 unfold aR; rw [decide_eq_false (by omega)]; rfl
theorem bZ {zs:List Str}{a u:Int} (h:a < 0):aR zs a u=false:=by
 unfold aR; rw [decide_eq_false (show ¬ (0:Int)≤a by omega),Bool.and_false]; rfl
theorem dD {zs:List Str}{a u:Int} (h:(zs.length:Int)≤u):aR zs a u=false:=by
 unfold aR
 rw [List.getElem?_eq_none (by omega)]
 simp
theorem gB {zs:List Str}{a u:Int}{z:Str} (e:zs[u.toNat]?=some z) (h:(z.length:Int)≤a):aR zs a u=false:=by
 unfold aR
 rw [e]
 have:z.cps.toList[a.toNat]?=none:=List.getElem?_eq_none (by rw [Array.length_toList]; have:z.cps.size=z.length:=rfl; omega)
 rw [Option.bind_some,this]
 cases decide (0≤u) <;> cases decide (0≤a) <;> rfl
theorem dN {zs:List Str}{a u:Int}{z:Str}{c:Nat} (hu:0≤u) (ha:0≤a) (e:zs[u.toNat]?=some z) (ec:z.cps.toList[a.toNat]?=some c):aR zs a u=decide (c=35):=by
 unfold aR
 rw [decide_eq_true hu,decide_eq_true ha,e]
 simp only [Option.bind_some,ec,Bool.and_true,Bool.true_and]
 by_cases h:c=35
 ·subst h; rfl
 ·rw [decide_eq_false h]; simp [h]
def sg (b:Bool):Nat:=if b then 35 else 46
end R
namespace Q
open PySem L2 Z
theorem BMin:bootBuiltins "min" = some (.builtin "min"):=by decide +kernel
theorem BRepr:bootBuiltins "repr" = some (.builtin "repr"):=by decide +kernel
theorem BEnum:bootBuiltins "enumerate" = some (.type "enumerate"):=by decide +kernel
structure Bt (mg:Str→Option Value):Prop where
 len:mg "len" = none
 abs:mg "abs" = none
 int:mg "int" = none
 min:mg "min" = none
 max:mg "max" = none
 range:mg "range" = none
 list:mg "list" = none
 tuple:mg "tuple" = none
 repr:mg "repr" = none
 all:mg "all" = none
 any:mg "any" = none
 enumerate:mg "enumerate" = none
 isi:mg "isinstance" = none
 bool:mg "bool" = none
 str:mg "str" = none
 zip:mg "zip" = none
 reversed:mg "reversed" = none
 sorted:mg "sorted" = none
 dict:mg "dict" = none
def FdM (M:Mem) (p:Addr) (b:Int):Prop:=∃ g m st:Int,M p=some (.lst [.int g, .int m, .int st])∧0≤g∧0≤m∧m < 2147483399∧0≤st∧st≤b
def ButM (p:Addr) (M M':Mem):Prop:=∀ a o,a≠p→M a=some o→M' a=some o
theorem ButM.refl (p:Addr) (M:Mem):ButM p M M:=fun _ _ _ h=>h
theorem ButM.trans {p:Addr}{M M1 M2:Mem} (a:ButM p M M1) (b:ButM p M1 M2):ButM p M M2:=fun c o n h=>b c o n (a c o n h)
theorem ButM.upd {p:Addr}{M M':Mem}{o:MO} (h:ButM p M M'):ButM p M (updM M' p o):=fun a u n e=>by rw [cM n]; exact h a u n e
theorem ButM.new {p a:Addr}{M M':Mem}{o:MO} (h:ButM p M M') (n:M a=none):ButM p M (updM M' a o):=fun b u nb e=>by
 rw [cM (fun z=>by rw [z,n] at e; cases e)]; exact h b u nb e
theorem FdM.le {M M':Mem}{p:Addr}{b:Int} (h:FdM M p b) (l:Le M M'):FdM M' p b:=by
 obtain ⟨g,m,st,e,r⟩:=h
 exact ⟨g,m,st,l _ _ e,r⟩
def sX:Ct:=fun ds M k=>∃ a b:Int,ds=[.int a, .int b]∧k (.int ((Int.gcd a b:Nat):Int)) M
theorem aAZ {ns:List Int}{k:Int} (h0:0≤k) (h:k < ns.length):∃ z:Int,atI (ns.map D.int) k=some (.int z):=by
 obtain ⟨j,rfl⟩:∃ j:Nat,k=(j:Int):=⟨k.toNat,by omega⟩
 have hj:j < ns.length:=by omega
 exact ⟨ns[j],cD (by simp [hj])⟩
theorem fW {M:Mem}{a:Addr}{o:MO} (h:M a=none):delM (updM M a o) a=M:=by
 funext b
 unfold delM updM
 by_cases e:b=a
 ·rw [if_pos e,e,h]
 ·rw [if_neg e,if_neg e]
def aBA (bt at_:Int):D := .tup [.int (at_ / ((Int.gcd at_ bt:Nat):Int)), .int (bt / ((Int.gcd at_ bt:Nat):Int))]
structure Ats (bt:Int) (ats:List Int):Prop where
 bt:bt=1∨bt=2∨bt=9
 up:ats.Pairwise (· < ·)
 bd:∀ a∈ats, -20≤a∧a≤10 ^ 10
def qF (xs:List D) (js:List Nat):List D:=js.map fun j=>xs.getD j .non
def oF (xs ys:List D) (zs:List Str):D := .tup [.tup xs, .tup ys, .tup (zs.map .str)]
structure YardOk (xs ys:List D) (zs:List Str):Prop where
 lx:∃ bt ats,xs=ats.map (aBA bt)∧Ats bt ats
 ly:∃ bt ats,ys=ats.map (aBA bt)∧Ats bt ats
 wf:R.Wf xs.length ys.length zs
 few:xs.length≤21∧ys.length≤21
 full:zs=[]→xs=[]∧ys=[]
theorem b7 {α β:Type}{f:α→β}{l:List α}{i:Nat}{y:β} (h:(l.map f)[i]?=some y):∃ x,l[i]?=some x∧y=f x:=by
 rw [List.getElem?_map] at h
 cases e:l[i]? with
 | none=>rw [e] at h; cases h
 | some x=>rw [e] at h; exact ⟨x,rfl,(Option.some.inj h).symm⟩
end Q
namespace PySem
open Sem (wp)
open AutoSeq1 (wpAny_loadPart')
section
variable {prog:Program}{w:World}{A:Around}{E:Value→Shared→Prop}{s:Shared}
theorem rX {iq tu:Addr}{i:Nat}{its}{x:Value}{Q:Value→Shared→Prop} (hI:s.heap.IsTupleIter iq tu i) (hT:s.heap.IsTuple tu its) (hq:its[i]?=some x)
  (kQ:∀ h',h'.IsTupleIter iq tu (i+1)→Heap.SameBut iq s.heap h'→Q x { s with heap:=h' }):wpAny (model prog w) A (Builtin.SmallTypes.nextOf (.ref iq)) Q E s:=by
 obtain ⟨oI,eI,cI,dI⟩:=id hI
 obtain ⟨oT,eT,_,nT,dT⟩:=hT
 unfold Builtin.SmallTypes.nextOf
 refine wpAny_bind (wpAny_callSpecial?_slot (name:=Str.ofString "__next__") hI.typeIs F.slot_tuple_iterator_next (wpAny_call_entry F.slot_tuple_iterator_next hI.typeIs F.entry_tuple_iterator_next ?_ (F.args_tuple_iterator_next_1 _)))
 show wpAny _ _ (field (.ref iq) 0 >>= _) _ _ s
 refine wpAny_bind (wpAny_field eI dI (x := .ref tu) rfl ?_)
 show wpAny _ _ (if (Value.ref tu == Value.none)=true then _ else _) _ _ s
 rw [if_neg (show ¬ ((Value.ref tu == Value.none)=true) from Bool.false_ne_true)]
 show wpAny _ _ (field (.ref iq) 1 >>= _) _ _ s
 refine wpAny_bind (wpAny_field eI dI (x := .int i 0) rfl ?_)
 show wpAny _ _ (seqItems? (.ref tu) >>= _) _ _ s
 refine wpAny_bind (wpAny_seqItems eT dT ?_)
 simp only [Int.toNat_natCast,hq]
 refine wpAny_bind (wpAny_setField eI dI (by simp) (wpAny_pure ⟨x,rfl,wpAny_pure (kQ _ ?_ (Heap.SameBut.update ..))⟩))
 exact ⟨_,Heap.get?_update_self _ eI (Obj.isFreed_of_fields (Obj.data_mapFields dI _)),(Obj.cls_mapFields ..).trans cI,by rw [Obj.data_mapFields dI]; simp [rawInt]⟩
theorem sP {iq tu:Addr}{i:Nat}{its}{Q:Value→Shared→Prop} (hh:A.handled=none) (hI:s.heap.IsTupleIter iq tu i) (hT:s.heap.IsTuple tu its) (hq:its[i]?=none)
  (kE:∀ h' e,Heap.ExtBut iq s.heap h'→(∃ o,h'.get? e=some o∧o.cls = .type "StopIteration")→E (.ref e) { s with heap:=h' }):wpAny (model prog w) A (Builtin.SmallTypes.nextOf (.ref iq)) Q E s:=by
 obtain ⟨oI,eI,cI,dI⟩:=id hI
 obtain ⟨oT,eT,_,nT,dT⟩:=hT
 unfold Builtin.SmallTypes.nextOf
 refine wpAny_bind (wpAny_callSpecial?_slot (name:=Str.ofString "__next__") hI.typeIs F.slot_tuple_iterator_next (wpAny_call_entry F.slot_tuple_iterator_next hI.typeIs F.entry_tuple_iterator_next ?_ (F.args_tuple_iterator_next_1 _)))
 show wpAny _ _ (field (.ref iq) 0 >>= _) _ _ s
 refine wpAny_bind (wpAny_field eI dI (x := .ref tu) rfl ?_)
 show wpAny _ _ (if (Value.ref tu == Value.none)=true then _ else _) _ _ s
 rw [if_neg (show ¬ ((Value.ref tu == Value.none)=true) from Bool.false_ne_true)]
 show wpAny _ _ (field (.ref iq) 1 >>= _) _ _ s
 refine wpAny_bind (wpAny_field eI dI (x := .int i 0) rfl ?_)
 show wpAny _ _ (seqItems? (.ref tu) >>= _) _ _ s
 refine wpAny_bind (wpAny_seqItems eT dT ?_)
 simp only [Int.toNat_natCast,hq]
 refine wpAny_bind (wpAny_rule (wpAny_bind (wpAny_setField eI dI (by simp) ?_)))
 show wpAny _ _ ((newExc (.type "StopIteration") []) >>= _) _ _ _
 refine wpAny_bind ?_
 simp only [newExc,newTuple]
 refine (wpAny_bind (wpAny_newObj_type ?_ (by size_fits)))
 refine wpAny_bind (m:=firstArgMember _ _) (wpAny_of_eq (a:=Value.none) (by first | rfl | (simp only [firstArgMember]; rfl) | skip) ?_)
 refine (wpAny_newObj_type ?_ (by size_fits))
 simp only [raiseNew]
 refine wpAny_bind (wpAny_handled ?_)
 first | rw [show (A.in1).handled=none from hh] | rw [hh]
 refine (wpAny_bind (wpAny_pure (wpAny_throw ?_)))
 exact kE _ _ (((Heap.SameBut.update ..).extBut.push _).push _) ⟨_,Heap.get?_push_size _ rfl,rfl⟩
end
theorem Draws.tup {prog:Program}{w:World}{A:Around} (hh:A.handled=none) (iq tu:Addr) (hne:tu≠iq) (its:Array Value) :
  Draws prog w A iq [iq,tu] its.size (fun i v=>its[i]?=some v) (fun i h=>h.IsTupleIter iq tu i∧h.IsTuple tu its) where
 live:=fun _ _ q=>let ⟨o,ho,_⟩:=q.1; ⟨o,ho⟩
 frame:=fun _ _ _ q hk=>⟨let ⟨o,ho,r⟩:=q.1; ⟨o,hk iq (by simp) o ho,r⟩,let ⟨o,ho,r⟩:=q.2; ⟨o,hk tu (by simp) o ho,r⟩⟩
 item:=fun i s Q E hi q kQ=>by
  refine rX q.1 q.2 (x:=its[i]) (by simp [hi]) fun h' hit' hs' => ?_
  exact kQ _ h' s.toks (by simp [hi]) ⟨hit',let ⟨o,ho,r⟩:=q.2; ⟨o,(hs'.2 tu hne).trans ho,r⟩⟩ hs'
 done:=fun s Q E q kE=>sP hh q.1 q.2 (by simp) kE
section
variable {prog:Program}{w:World}{A:Around}{E:Value→Shared→Prop}{s:Shared}
end
end PySem
namespace L2
open PySem PySem.Spec PyProof.Rows
section
variable {X:Cx}{pins:List (Addr × Obj)}{σ:St}{H:Hp}{s:Shared}{h':Heap}
theorem Inv.turnedT {t':Nat}{ch:List Addr}{T:Addr}{o:HO} (I:Inv X pins σ H s) (k:∀ b ob,b ∉ ch→s.heap.get? b=some ob→h'.get? b=some ob) (hf:∀ b∈ch,FpOk X pins H b) (hT:s.heap.objs.size≤T)
  (new:dP X.prog X.w (upd H T o) h' T o):Inv X pins σ (upd H T o) { s with heap:=h',toks:=t' }:=by
 have hn:H T=none:=I.hok.fresh hT
 have nit:∀ b u,H b=some u→b ∉ ch:=fun b u e z=>by rw [(hf b z).1] at e; cases e
 have ne:∀ b u,s.heap.get? b=some u→b≠T:=fun b u e=>Nat.ne_of_lt (Nat.lt_of_lt_of_le (Heap.lt_size e) hT)
 refine I.step (g':=s.gens) (d':=s.drawn) (ch:=ch) (fun b hb => ?_) (fun b ob _ _ hc e _=>k b ob hc e) (fun b ob _ _ hc e _=>⟨ob.slots,k b ob hc e⟩) (fun b ob _ e n=>by rw [aU (ne b ob e)]; exact n)
  (fun b ob hc e=>⟨ob,k b ob hc e⟩) (fun b xs e=>by rw [aU (a7 e hn)]; exact e) (fun b ob u e=>by rw [aU (a7 e hn)]; exact e) (fun b ps e=>⟨#[],by rw [aU (a7 e hn),e]; simp⟩) (fun m hm => ?_) (fun b u e => ?_) I.bare
 ·obtain ⟨f0,f1,f2,f3,f4,f5⟩:=hf b hb
  exact ⟨f3,f1,f4,f5⟩
 ·obtain ⟨ob,es,ep,ho,r⟩:=hm
  exact ⟨ob,es,ep,k _ ob (fun z=>(hf _ z).2.1 rfl) ho,r⟩
 ·by_cases z:b=T
  ·subst z; rw [bF] at e; cases e; exact new
  ·rw [aU z] at e
   refine (I.hok b u e).stay (fun c v hc q=>k c v ?_ q) (fun c q=>by rw [aU (a7 q hn)]; exact q) fun c xs q=>by rw [aU (a7 q hn)]; exact q
   rcases hc with y | y
   ·rw [y]; exact nit b u e
   ·exact nit c _ y
theorem Inv.turnedL {t':Nat}{ch:List Addr} (I:Inv X pins σ H s) (k:∀ b ob,b ∉ ch→s.heap.get? b=some ob→h'.get? b=some ob) (hf:∀ b∈ch,FpOk X pins H b):Inv X pins σ H { s with heap:=h',toks:=t' }:=by
 have nit:∀ b u,H b=some u→b ∉ ch:=fun b u e z=>by rw [(hf b z).1] at e; cases e
 refine I.step (g':=s.gens) (d':=s.drawn) (ch:=ch) (fun b hb => ?_) (fun b ob _ _ hc e _=>k b ob hc e) (fun b ob _ _ hc e _=>⟨ob.slots,k b ob hc e⟩) (fun _ _ _ _ n=>n)
  (fun b ob hc e=>⟨ob,k b ob hc e⟩) (fun _ _ e=>e) (fun _ _ _ e=>e) (fun b ps e=>⟨#[],by rw [e]; simp⟩) (fun m hm => ?_) (fun b u e => ?_) I.bare
 ·obtain ⟨f0,f1,f2,f3,f4,f5⟩:=hf b hb
  exact ⟨f3,f1,f4,f5⟩
 ·obtain ⟨ob,es,ep,ho,r⟩:=hm
  exact ⟨ob,es,ep,k _ ob (fun z=>(hf _ z).2.1 rfl) ho,r⟩
 ·refine (I.hok b u e).stay (fun c v hc q=>k c v ?_ q) (fun _ q=>q) fun _ _ q=>q
  rcases hc with y | y
  ·rw [y]; exact nit b u e
  ·exact nit c _ y
end
end L2
namespace Z
open PySem L2
section
variable {X:Cx}{Γ:Gm}{M:Mem}{k:D→Mem→Prop}{pos:Pos}{a b:Expr}{rest:List Expr}
def iD (ds:List D):List D:=ds.mapIdx fun i d => .tup [.int (i:Int),d]
end
end Z
namespace R
open PySem L2
theorem nF {α:Type} (f:Nat→α):∀ p,f p≠f 0→∃ k,k < p∧f k≠f (k+1)∧f (k+1)=f p
 | 0,h=>absurd rfl h
 | p+1,h=>by
  by_cases e:f p=f (p+1)
  ·obtain ⟨k,h1,h2,h3⟩:=nF f p (by rw [e]; exact h)
   exact ⟨k,by omega,h2,h3.trans e⟩
  ·exact ⟨p,by omega,e,rfl⟩
theorem rP {l:List Nat} (s:l.Pairwise (· < ·)) {a b:Nat} (ha:a∈l) (hb:b∈l) (h:a < b):a∈l.dropLast:=by
 have hne:l≠[]:=fun e=>by rw [e] at ha; cases ha
 have e:=List.dropLast_concat_getLast hne
 rw [← e] at ha hb s
 rw [List.pairwise_append] at s
 rcases List.mem_append.mp ha with ha | ha
 ·exact ha
 ·rw [List.mem_singleton] at ha
  rcases List.mem_append.mp hb with hb | hb
  ·have:=s.2.2 b hb _ (List.mem_singleton_self _)
   omega
  ·rw [List.mem_singleton] at hb
   omega
theorem qP {n:Nat}{zs:List Str} (h:∀ z∈zs,z.length=n) {z:Str} (hz:z∈zs):z=dots n∨z∈aL zs:=by
 by_cases hd:z=dots n
 ·exact .inl hd
 refine .inr ?_
 obtain ⟨p,hp,ez⟩:=List.getElem_of_mem hz
 have hne:zs≠[]:=fun e=>by rw [e] at hz; cases hz
 have hw:=bU h hne
 have f0:(framed zs)[0]?=some (dots n):=by rw [dQ,hw]
 have fl:(framed zs)[zs.length+1]?=some (dots n):=by rw [cV,hw]
 have fp:(framed zs)[p+1]?=some z:=by rw [bT hp,List.getElem?_eq_getElem hp,ez]
 have ne:∀ {o:Option Str},o=some (dots n)→(framed zs)[p+1]?≠o:=fun e q=>hd (by rw [fp,e] at q; injection q)
 obtain ⟨k,k1,k2,k3⟩:=nF (fun i=>(framed zs)[i]?) (p+1) (ne f0)
 obtain ⟨j,j1,j2,j3⟩:=fM (fun i=>(framed zs)[i]?) (zs.length - p) (p+1) (by
  show (framed zs)[p+1]?≠(framed zs)[p+1+(zs.length - p)]?
  rw [show p+1+(zs.length - p)=zs.length+1 by omega]; exact ne fl)
 have mk:k∈chg zs:=(dM hne).mpr ⟨by omega,k2⟩
 have mj:j∈chg zs:=(dM hne).mpr ⟨by omega,j3⟩
 have:=rP (bL zs) mk mj (by omega)
 refine List.mem_map.mpr ⟨k,this,?_⟩
 have e:(framed zs)[k+1]?=some z:=k3.trans fp
 rw [bT (by omega)] at e
 rw [List.getD_eq_getElem?_getD,e]; rfl
theorem rD {n:Nat}{zs:List Str} (h:∀ z∈zs,z=dots n):chg zs=[]:=by
 by_cases hne:zs=[]
 ·rw [hne]; simp [chg]
 have hl:∀ z∈zs,z.length=n:=fun z hz=>by rw [h z hz,nN]
 have hw:=bU hl hne
 have all:∀ i,i≤zs.length+1→(framed zs)[i]?=some (dots n):=fun i hi=>by
  rcases Nat.eq_zero_or_pos i with rfl | hp
  ·rw [dQ,hw]
  ·obtain ⟨j,rfl⟩:∃ j,i=j+1:=⟨i - 1,by omega⟩
   by_cases hj:j < zs.length
   ·rw [bT hj,List.getElem?_eq_getElem hj,h _ (List.getElem_mem hj)]
   ·rw [show j=zs.length by omega,cV,hw]
 refine List.eq_nil_iff_forall_not_mem.mpr fun i hi => ?_
 obtain ⟨a,b⟩:=(dM hne).mp hi
 exact b (by rw [all i (by omega),all (i+1) (by omega)])
theorem p7 {n:Nat}{zs:List Str} (h:∀ z∈zs,z.length=n) (hr:aL zs=[]):chg zs=[]∧chg (aE zs)=[]:=by
 have hd:∀ z∈zs,z=dots n:=fun z hz=>(qP h hz).elim id fun q=>by rw [hr] at q; cases q
 refine ⟨rD hd,rD (n:=zs.length) fun c hc => ?_⟩
 obtain ⟨j,hj,rfl⟩:=List.mem_map.mp hc
 rw [List.mem_range] at hj
 by_cases hne:zs=[]
 ·rw [hne] at hj; simp at hj
 rw [bU h hne] at hj
 unfold dots ofL
 congr 2
 refine List.eq_replicate_iff.mpr ⟨by simp,fun b hb => ?_⟩
 obtain ⟨z,hz,rfl⟩:=List.mem_map.mp hb
 rw [hd z hz,iP,if_pos hj]
def oU (n i:Nat) (z:Str):Nat:=if i=0∨i=n+1 then 46 else atS z (i - 1)
theorem b6 {n:Nat}{zs:List Str} (h:∀ z∈zs,z.length=n) (hz:zs≠[]):(aE zs).length=n:=by
 unfold aE; rw [bU h hz]; simp
theorem eS {n i:Nat}{zs:List Str} (h:∀ z∈zs,z.length=n) (hz:zs≠[]) (hn:0 < n) (hi:i≤n+1):(framed (aE zs))[i]?=some (ofL (zs.map (oU n i))):=by
 have hc:=b6 h hz
 have hne:aE zs≠[]:=fun e=>by rw [e] at hc; simp at hc; omega
 have hw:((aE zs).head?.map (·.length)).getD 0=zs.length:=bU (fun c hc=>eB c hc) hne
 have hd:dots zs.length=ofL (zs.map fun _=>46):=by
  unfold dots; rw [List.map_const']
 rcases Nat.eq_zero_or_pos i with rfl | hp
 ·rw [dQ,hw,hd]; rfl
 ·obtain ⟨j,rfl⟩:∃ j,i=j+1:=⟨i - 1,by omega⟩
  by_cases hj:j < n
  ·rw [bT (by omega),fI h hz hj]
   congr 2
   apply List.map_congr_left
   intro z _
   unfold oU
   rw [if_neg (by omega)]; rfl
  ·have e:j=(aE zs).length:=by omega
   rw [e,cV,hw,hd]
   congr 2
   apply List.map_congr_left
   intro z _
   unfold oU
   rw [if_pos (by omega)]
theorem pE {zs:List Str}{f g:Str→Nat}:(some (ofL (zs.map f))=some (ofL (zs.map g)))↔∀ z∈zs,f z=g z:=by
 constructor
 ·intro e
  injection e with e
  unfold ofL at e
  injection e with e
  have e:zs.map f=zs.map g:=by injection e
  exact fun z hz=>(List.map_inj_left.mp e) z hz
 ·intro e
  rw [List.map_congr_left e]
theorem k6 {n:Nat}{zs:List Str} (h:∀ z∈zs,z.length=n) (hr:aL zs≠[]):chg (aE (aL zs))=chg (aE zs):=by
 have hz:zs≠[]:=fun e=>by subst e; exact hr (by simp [aL,chg])
 have hk:∀ z∈aL zs,z.length=n:=fun z q=>h z (gG z q)
 rcases Nat.eq_zero_or_pos n with rfl | hn
 ·have e1:aE zs=[]:=List.length_eq_zero_iff.mp (b6 h hz)
  have e2:aE (aL zs)=[]:=List.length_eq_zero_iff.mp (b6 hk hr)
  rw [e1,e2]
 ·have l1:=b6 h hz
  have l2:=b6 hk hr
  have n1:(aE zs).isEmpty=false:=by cases hc:aE zs with
   | nil=>rw [hc] at l1; simp at l1; omega
   | cons _ _=>rfl
  have n2:(aE (aL zs)).isEmpty=false:=by cases hc:aE (aL zs) with
   | nil=>rw [hc] at l2; simp at l2; omega
   | cons _ _=>rfl
  unfold chg
  rw [n1,n2,l1,l2,if_neg Bool.false_ne_true,if_neg Bool.false_ne_true]
  apply List.filter_congr
  intro i hi
  rw [List.mem_range] at hi
  rw [eS h hz hn (by omega),eS h hz hn (by omega),eS hk hr hn (by omega),eS hk hr hn (by omega)]
  congr 1
  apply decide_eq_decide.mpr
  rw [pE,pE]
  constructor
  ·intro q z hz
   rcases qP h hz with rfl | hz
   ·unfold oU
    rw [iP,iP]
    split <;> split <;> (try split) <;> (try split) <;> first | rfl | omega
   ·exact q z hz
  ·exact fun q z hz=>q z (gG z hz)
theorem kZ {n:Nat}{zs:List Str} (h:Good n zs) (hr:aL zs≠[]):aE (aL (aE (aL zs)))=bN zs:=by
 have g1:=fS h
 have hl:∀ z∈aL zs,z.length=n:=fun z hz=>(g1 z hz).1
 obtain ⟨c2,wf,le⟩:=aB0 h hr
 have hJ:=k6 (fun z hz=>(h z hz).1) hr
 have lt:∀ j∈(chg (aE (aL zs))).dropLast,j < n:=fun j hj=>by
  have:=fZ (bL _) (c7 _) j hj
  rw [b6 hl hr] at this
  exact this
 have e1:aL (aE (aL zs))=(chg (aE (aL zs))).dropLast.map fun j=>ofL ((aL zs).map (atS · j)):=by
  show List.map _ _=_
  apply List.map_congr_left
  intro j hj
  rw [List.getD_eq_getElem?_getD,fI hl hr (lt j hj)]; rfl
 have hk:aL (aE (aL zs))≠[]:=fun q=>by
  have:=c6 (aE (aL zs))
  rw [q] at this
  simp at this
  omega
 have hw:((aL (aE (aL zs))).head?.map (·.length)).getD 0=(aL zs).length:=bU (fun z hz=>eB z (gG z hz)) hk
 have ek:bN zs=(aL zs).map fun z=>ofL ((chg (aE (aL zs))).dropLast.map (atS z)):=by
  rw [hJ]; unfold aL bN; rw [List.map_map]; rfl
 rw [ek]
 show (List.range (((aL (aE (aL zs))).head?.map (·.length)).getD 0)).map (fun j=>ofL ((aL (aE (aL zs))).map (atS · j)))=_
 rw [hw,e1]
 apply List.ext_getElem
 ·simp
 ·intro r hr1 hr2
  rw [List.length_map,List.length_range] at hr1
  rw [List.getElem_map,List.getElem_map,List.getElem_range,List.map_map]
  congr 1
  apply List.map_congr_left
  intro j _
  show atS (ofL ((aL zs).map (atS · j))) r=_
  rw [iQ,List.getD_eq_getElem?_getD,List.getElem?_map,List.getElem?_eq_getElem hr1]; rfl
abbrev Cell:=List Int
def j5 (zs:List Str) (inside:Bool) (nx ny:Nat):List Cell:=(List.range (ny+1)).flatMap fun (u:Nat)=>(List.range (nx+1)).filterMap fun (a:Nat)=>if aR zs ((a:Int) - 1) ((u:Int) - 1)=inside then some [(a:Int) - 1,(u:Int) - 1] else none
def dS (zs:List Str) (w:Nat):List Cell:=(List.range zs.length).flatMap fun (u:Nat)=>(List.range w).filterMap fun (a:Nat)=>if aR zs (a:Int) (u:Int)=true then some [(a:Int),(u:Int)] else none
inductive Rch (cells:List Cell) (st:List (Int × Int)) (s:Cell):Cell→Prop
 | refl:Rch cells st s s
 | step {x y:Int}{d:Int × Int}:Rch cells st s [x,y]→d∈st→[x+d.1,y+d.2]∈cells→Rch cells st s [x+d.1,y+d.2]
theorem Rch.mem {cells:List Cell}{st:List (Int × Int)}{s c:Cell} (h:Rch cells st s c) (hs:s∈cells):c∈cells:=by
 cases h with
 | refl=>exact hs
 | step _ _ m=>exact m
open Classical in
noncomputable def starts (cells:List Cell) (st:List (Int × Int)):Nat→List Cell
 | 0=>[]
 | i+1=>match cells[i]? with
  | some c=>if ∃ s∈starts cells st i,Rch cells st s c then starts cells st i else starts cells st i++[c]
  | none=>starts cells st i
def aEL (f:Int→Int→Bool) (w h:Nat):List Str:=(List.range h).map fun (u:Nat)=>ofL ((List.range w).map fun (a:Nat)=>sg (f (a:Int) (u:Int)))
theorem still {zs:List Str} (hz:zs≠[]) {a b:Nat} (hab:a≤b) (hb:b≤zs.length+1) (hn:∀ c∈chg zs,¬ (a≤c∧c < b)):(framed zs)[a]?=(framed zs)[b]?:=by
 refine Classical.byContradiction fun q => ?_
 obtain ⟨k,h1,h2,h3⟩:=fM (fun i=>(framed zs)[i]?) (b - a) a (by rw [show a+(b - a)=b by omega]; exact q)
 exact hn k ((dM hz).mpr ⟨by omega,h3⟩) ⟨h1,by omega⟩
theorem lG {zs:List Str}{i j:Nat}{c d:Nat} (hi:(chg zs)[i]?=some c) (hj:(chg zs)[j]?=some d) (h:i < j):c < d:=by
 obtain ⟨h1,e1⟩:=List.getElem?_eq_some_iff.mp hi
 obtain ⟨h2,e2⟩:=List.getElem?_eq_some_iff.mp hj
 have:=List.pairwise_iff_getElem.mp (bL zs) i j h1 h2 h
 rw [e1,e2] at this; exact this
theorem qM {zs:List Str}{i:Nat}{c d e:Nat} (hi:(chg zs)[i]?=some c) (hj:(chg zs)[i+1]?=some d) (he:e∈chg zs) (h:c < e):d≤e:=by
 obtain ⟨k,hk,ek⟩:=List.getElem_of_mem he
 have ek':(chg zs)[k]?=some e:=by rw [List.getElem?_eq_getElem hk,ek]
 by_cases h1:k≤i
 ·by_cases h2:k=i
  ·subst h2; rw [hi] at ek'; cases ek'; omega
  ·have:=lG ek' hi (by omega); omega
 ·by_cases h2:k=i+1
  ·subst h2; rw [hj] at ek'; cases ek'; omega
  ·have:=lG hj ek' (by omega); omega
theorem pR {zs:List Str}{c e:Nat} (hi:(chg zs)[0]?=some c) (he:e∈chg zs):c≤e:=by
 obtain ⟨k,hk,ek⟩:=List.getElem_of_mem he
 have ek':(chg zs)[k]?=some e:=by rw [List.getElem?_eq_getElem hk,ek]
 by_cases h:k=0
 ·subst h; rw [hi] at ek'; cases ek'; omega
 ·have:=lG hi ek' (by omega); omega
theorem wL {zs:List Str}{c e:Nat} (hi:(chg zs)[(chg zs).length - 1]?=some c) (he:e∈chg zs):e≤c:=by
 obtain ⟨k,hk,ek⟩:=List.getElem_of_mem he
 have ek':(chg zs)[k]?=some e:=by rw [List.getElem?_eq_getElem hk,ek]
 by_cases h:k=(chg zs).length - 1
 ·subst h; rw [hi] at ek'; cases ek'; omega
 ·have:=lG ek' hi (by omega); omega
theorem qL {zs:List Str}{i c:Nat} (hi:(chg zs)[i]?=some c) (h:i+1 < (chg zs).length):(aL zs)[i]?=zs[c]?∧c < zs.length:=by
 have hd:(chg zs).dropLast[i]?=some c:=by rw [List.getElem?_dropLast,if_pos (by omega)]; exact hi
 have hl:=fZ (bL zs) (c7 zs) c (List.mem_of_getElem? hd)
 unfold aL
 rw [List.getElem?_map,hd,Option.map_some,List.getD_eq_getElem?_getD,List.getElem?_eq_getElem hl]
 exact ⟨rfl,hl⟩
theorem rA {n:Nat}{zs:List Str} (h:∀ z∈zs,z.length=n) (hr:aL zs≠[]):chg (aL zs)=List.range (chg zs).length:=by
 have hc:chg zs≠[]:=fun e=>hr (by unfold aL; rw [e]; rfl)
 have hz:zs≠[]:=lT zs hc
 have hkl:=c6 zs
 have hk1:1≤(aL zs).length:=List.length_pos_iff.mpr hr
 have hK:∀ z∈aL zs,z.length=n:=fun z hz=>h z (gG z hz)
 have w1:=bU h hz
 have w2:=bU hK hr
 have f0:=dQ zs
 have fl:=cV zs
 have g0:=dQ (aL zs)
 have gl:=cV (aL zs)
 rw [w1] at f0 fl
 rw [w2] at g0 gl
 have A:∀ i c,(chg zs)[i]?=some c→(framed (aL zs))[i]?=(framed zs)[c]?:=fun i c hi=>by
  have hil:=(List.getElem?_eq_some_iff.mp hi).1
  have hcl:=c7 zs c (List.mem_of_getElem? hi)
  cases i with
  | zero =>
   rw [g0,← f0]
   exact still hz (Nat.zero_le _) (by omega) fun e he z=>by have:=pR hi he; omega
  | succ i =>
   obtain ⟨b,hb⟩:∃ b,(chg zs)[i]?=some b:=⟨(chg zs)[i],List.getElem?_eq_getElem (by omega)⟩
   obtain ⟨k1,k2⟩:=qL hb (by omega)
   have lt:=lG hb hi (Nat.lt_succ_self i)
   rw [bT (by omega),k1,← bT k2]
   exact still hz (by omega) (by omega) fun e he z=>by have:=qM hb hi he (by omega); omega
 have B:∀ i c,(chg zs)[i]?=some c→(framed (aL zs))[i+1]?=(framed zs)[c+1]?:=fun i c hi=>by
  have hil:=(List.getElem?_eq_some_iff.mp hi).1
  have hcl:=c7 zs c (List.mem_of_getElem? hi)
  by_cases hlast:i+1 < (chg zs).length
  ·obtain ⟨k1,k2⟩:=qL hi hlast
   rw [bT (by omega),k1,← bT k2]
  ·have ei:i=(chg zs).length - 1:=by omega
   rw [show i+1=(aL zs).length+1 by omega,gl,← fl]
   exact (still hz (by omega) (Nat.le_refl _) fun e he z=>by have:=wL (ei ▸ hi) he; omega).symm
 have:chg (aL zs)=(List.range ((aL zs).length+1)).filter fun i => !decide ((framed (aL zs))[i]?=(framed (aL zs))[i+1]?):=by
  unfold chg
  rw [if_neg (by rw [List.isEmpty_iff]; exact hr)]
 rw [this,show (aL zs).length+1=(chg zs).length by omega]
 refine List.filter_eq_self.mpr fun i hi => ?_
 have hil:=List.mem_range.mp hi
 have hi':(chg zs)[i]?=some (chg zs)[i]:=List.getElem?_eq_getElem hil
 have hne:=((dM hz).mp (List.mem_of_getElem? hi')).2
 rw [← A i _ hi',← B i _ hi'] at hne
 rw [decide_eq_false hne]; rfl
theorem lR {n:Nat}{zs:List Str} (h:∀ z∈zs,z.length=n) (hz:zs≠[]) (hn:0 < n):aE (aE zs)=zs:=by
 have hc:(aE zs).length=n:=b6 h hz
 have hcn:aE zs≠[]:=fun e=>by rw [e] at hc; simp at hc; omega
 have hce:∀ z∈aE zs,z.length=zs.length:=fun z hz=>eB z hz
 have hzl:0 < zs.length:=List.length_pos_iff.mpr hz
 have hcc:=b6 hce hcn
 apply List.ext_getElem?
 intro i
 by_cases hi:i < zs.length
 ·rw [fI hce hcn hi,List.getElem?_eq_getElem hi]
  congr 1
  apply fG
  show (aE zs).map (atS · i)=zs[i].cps.toList
  apply List.ext_getElem?
  intro j
  have hl:=h zs[i] (List.getElem_mem hi)
  by_cases hj:j < n
  ·rw [List.getElem?_map,fI h hz hj,Option.map_some,cG (by omega),iQ,List.getD_eq_getElem?_getD,List.getElem?_map,List.getElem?_eq_getElem hi]
   rfl
  ·rw [List.getElem?_eq_none (by rw [List.length_map]; omega),List.getElem?_eq_none (by rw [Array.length_toList]; have:zs[i].cps.size=zs[i].length:=rfl; omega)]
 ·rw [List.getElem?_eq_none (by omega),List.getElem?_eq_none (by omega)]
theorem vH {n:Nat}{zs:List Str} (h:Good n zs) (hr:aL zs≠[]) :
  chg (bN zs)=List.range (chg zs).length∧chg (aE (bN zs))=List.range (chg (aE zs)).length∧bN zs≠[]∧Good ((chg (aE zs)).length - 1) (bN zs)∧2≤(chg (aE zs)).length∧2≤(chg zs).length:=by
 have hl:∀ z∈zs,z.length=n:=fun z hz=>(h z hz).1
 have gR:=fS h
 have hR:∀ z∈aL zs,z.length=n:=fun z hz=>(gR z hz).1
 obtain ⟨z0,hz0,hd0⟩:=nA hl hr
 obtain ⟨j0,hj0,_⟩:=r9 gR hz0 hd0
 have hn:0 < n:=by omega
 have eR:=rA hl hr
 have eC:=k6 hl hr
 have gC:=jR gR
 have hC:∀ z∈aE (aL zs),z.length=(aL zs).length:=fun z hz=>(gC z hz).1
 have cne:aE (aL zs)≠[]:=fun e=>by have:=b6 hR hr; rw [e] at this; simp at this; omega
 have kne:aL (aE (aL zs))≠[]:=fun e=>by
  have h1:=(p7 hC e).2
  rw [lR hR hr hn,eR] at h1
  have h2:(chg zs).length=0:=by simpa using congrArg List.length h1
  have:=c6 zs
  exact hr (List.length_eq_zero_iff.mp (by omega))
 have eK:=rA hC kne
 have gK:=fS gC
 have hK:∀ z∈aL (aE (aL zs)),z.length=(aL zs).length:=fun z hz=>(gK z hz).1
 have rl:0 < (aL zs).length:=List.length_pos_iff.mpr hr
 have e1:=k6 hC kne
 rw [lR hR hr hn,eR,kZ h hr] at e1
 have e2:aE (bN zs)=aL (aE (aL zs)):=by rw [← kZ h hr]; exact lR hK kne rl
 have kl:=c6 (aE (aL zs))
 have kp:0 < (aL (aE (aL zs))).length:=List.length_pos_iff.mpr kne
 have kz:=c6 zs
 rw [eC] at kl
 refine ⟨e1,by rw [e2,eK,eC],fun e => ?_,?_,by omega,by omega⟩
 ·rw [e] at e1
  have h2:=congrArg List.length e1
  rw [List.length_range,show (chg ([]:List Str)).length=0 from rfl] at h2
  omega
 ·rw [← kZ h hr]
  have:=jR gK
  rw [kl] at this
  exact this
theorem tI {zs:List Str}{r j c d:Nat} (hj:j < zs.length) (h1:(chg zs)[r]?=some c) (h2:(chg zs)[r+1]?=some d) (hc:c≤j) (hd:j < d):zs[j]?=zs[c]?:=by
 have hz:zs≠[]:=fun e=>by rw [e] at hj; simp at hj
 rw [← bT hj,← bT (show c < zs.length by omega)]
 exact (still hz (by omega) (by omega) fun e he z=>by have:=qM h1 h2 he (by omega); omega).symm
theorem rZ {n:Nat}{zs:List Str} (h:∀ z∈zs,z.length=n) {j:Nat} (hj:j < zs.length) (hn:∀ r c d,(chg zs)[r]?=some c→(chg zs)[r+1]?=some d→¬ (c≤j∧j < d)):zs[j]?=some (dots n):=by
 have hz:zs≠[]:=fun e=>by rw [e] at hj; simp at hj
 have w:=bU h hz
 have f0:=dQ zs
 have fl:=cV zs
 rw [w] at f0 fl
 rw [← bT hj]
 by_cases hall:∀ e∈chg zs,j < e
 ·rw [← f0]
  exact (still hz (Nat.zero_le _) (by omega) fun e he z=>by have:=hall e he; omega).symm
 ·have h0:∀ (r c:Nat),(chg zs)[r]?=some c→c≤j:=fun r=>by
   induction r with
   | zero =>
    intro c hc
    refine Classical.byContradiction fun q=>hall fun e he => ?_
    have:=pR hc he; omega
   | succ r ih =>
    intro d hd
    have hr:=(List.getElem?_eq_some_iff.mp hd).1
    have hc:(chg zs)[r]?=some (chg zs)[r]:=List.getElem?_eq_getElem (by omega)
    have:=hn r _ d hc hd
    have:=ih _ hc
    omega
  rw [← fl]
  refine still hz (by omega) (Nat.le_refl _) fun e he z => ?_
  obtain ⟨k,hk,ek⟩:=List.getElem_of_mem he
  have:=h0 k e (by rw [List.getElem?_eq_getElem hk,ek])
  omega
theorem aB9 {zs:List Str}{r c i j:Nat} (hr:(chg zs)[r]?=some i) (hr1:r+1 < (chg zs).length) (hc:(chg (aE zs))[c]?=some j) (hc1:c+1 < (chg (aE zs)).length) {z:Str} (hz:zs[i]?=some z):∃ y,(bN zs)[r]?=some y∧atS y c=atS z j:=by
 have d1:(chg zs).dropLast[r]?=some i:=by rw [List.getElem?_dropLast,if_pos (by omega)]; exact hr
 have d2:(chg (aE zs)).dropLast[c]?=some j:=by rw [List.getElem?_dropLast,if_pos (by omega)]; exact hc
 unfold bN
 rw [List.getElem?_map,d1]
 refine ⟨_,rfl,?_⟩
 rw [iQ,List.getD_eq_getElem?_getD,List.getElem?_map,d2,List.getD_eq_getElem?_getD,hz]
 rfl
theorem aFB {n:Nat}{zs:List Str} (h:∀ z∈zs,z.length=n) {c k i d:Nat} (hk:k < n) (h1:(chg (aE zs))[c]?=some i) (h2:(chg (aE zs))[c+1]?=some d) (hc:i≤k) (hd:k < d):∀ z∈zs,atS z k=atS z i:=fun z hz=>by
 have hne:zs≠[]:=fun e=>by rw [e] at hz; cases hz
 have hl:=b6 h hne
 have:=tI (zs:=aE zs) (by omega) h1 h2 hc hd
 rw [fI h hne hk,fI h hne (by omega)] at this
 exact pE.mp this z hz
theorem aCY {n:Nat}{zs:List Str} (h:∀ z∈zs,z.length=n) {k:Nat} (hk:k < n) (hn:∀ r c d,(chg (aE zs))[r]?=some c→(chg (aE zs))[r+1]?=some d→¬ (c≤k∧k < d)):∀ z∈zs,atS z k=46:=fun z hz=>by
 have hne:zs≠[]:=fun e=>by rw [e] at hz; cases hz
 have hl:=b6 h hne
 have:=rZ (zs:=aE zs) (fun z hz=>eB z hz) (j:=k) (by omega) hn
 rw [fI h hne hk] at this
 have e:ofL (zs.map (atS · k))=dots zs.length:=by injection this
 obtain ⟨i,hi,rfl⟩:=List.getElem_of_mem hz
 have e2:=congrArg (fun s=>atS s i) e
 simp only [iQ,iP,if_pos hi] at e2
 rw [List.getD_eq_getElem?_getD,List.getElem?_map,List.getElem?_eq_getElem hi] at e2
 exact e2
def cK (C:List Nat) (k:Int):Nat:=(C.filter fun (i:Nat)=>decide ((i:Int)≤k)).length
def bd (C:List Nat) (k:Int):Int:=(cK C k:Int) - 1
theorem o8 {k:Int}:∀ {C:List Nat},C.Pairwise (· < ·)→∀ {i c:Nat},C[i]?=some c→((c:Int)≤k↔i < cK C k)
 | [],_,i,c,h=>by simp at h
 | a::l,hs,i,c,h=>by
  obtain ⟨h1,h2⟩:=List.pairwise_cons.mp hs
  unfold cK
  by_cases ha:(a:Int)≤k
  ·rw [List.filter_cons_of_pos (by simpa using ha),List.length_cons]
   cases i with
   | zero=>simp at h; subst h; exact ⟨fun _=>by omega,fun _=>ha⟩
   | succ i =>
    have:=o8 (k:=k) h2 (i:=i) (c:=c) (by simpa using h)
    unfold cK at this
    rw [this]; omega
  ·rw [List.filter_cons_of_neg (by simpa using ha)]
   have e:l.filter (fun (i:Nat)=>decide ((i:Int)≤k))=[]:=List.filter_eq_nil_iff.mpr fun x hx=>by have:=h1 x hx; simp; omega
   rw [e]
   cases i with
   | zero=>simp at h; subst h; exact ⟨fun z=>absurd z ha,fun z=>by simp at z⟩
   | succ i =>
    have:=h1 c (List.mem_of_getElem? (i:=i) (by simpa using h))
    exact ⟨fun z=>by omega,fun z=>by simp at z⟩
theorem xB (C:List Nat) (k:Int):cK C k≤C.length:=List.length_filter_le _ _
theorem aDH {n:Nat}{zs:List Str} (g:Good n zs) (k j:Int):aR (bN zs) (bd (chg (aE zs)) k) (bd (chg zs) j)=aR zs k j:=by
 have h:∀ z∈zs,z.length=n:=fun z hz=>(g z hz).1
 have kl:(bN zs).length=(chg zs).length - 1:=by unfold bN; rw [List.length_map,List.length_dropLast]
 have kw:∀ z∈bN zs,z.length=(chg (aE zs)).length - 1:=fun z hz=>by
  unfold bN at hz
  obtain ⟨i,_,rfl⟩:=List.mem_map.mp hz
  rw [f7,List.length_map,List.length_dropLast]
 have c1:=xB (chg zs) j
 have c2:=xB (chg (aE zs)) k
 have key1:=fun {i c}=>o8 (k:=j) (bL zs) (i:=i) (c:=c)
 have key2:=fun {i c}=>o8 (k:=k) (bL (aE zs)) (i:=i) (c:=c)
 unfold bd
 -- the row is none: both are out
 by_cases hr:0 < cK (chg zs) j∧cK (chg zs) j < (chg zs).length
 rotate_left
 ·have lhs:aR (bN zs) ((cK (chg (aE zs)) k:Int) - 1) ((cK (chg zs) j:Int) - 1)=false:=by
   by_cases h0:cK (chg zs) j=0
   ·exact cT (by omega)
   ·exact dD (by omega)
  rw [lhs]
  symm
  by_cases hj0:j < 0
  ·exact cT hj0
  by_cases hj1:(zs.length:Int)≤j
  ·exact dD hj1
  obtain ⟨m,rfl⟩:∃ m:Nat,j=(m:Int):=⟨j.toNat,by omega⟩
  have hd:=rZ h (j:=m) (by omega) fun r c d h1 h2 h3=>by
   have a1:=key1 h1
   have a2:=key1 h2
   have hl2:=(List.getElem?_eq_some_iff.mp h2).1
   omega
  by_cases hk0:k < 0
  ·exact bZ hk0
  obtain ⟨q,rfl⟩:∃ q:Nat,k=(q:Int):=⟨k.toNat,by omega⟩
  by_cases hk1:n≤q
  ·exact gB (z:=dots n) (by rw [Int.toNat_natCast]; exact hd) (by rw [nN]; omega)
  ·rw [dN (z:=dots n) (c:=46) (by omega) (by omega) (by rw [Int.toNat_natCast]; exact hd) (by rw [Int.toNat_natCast,cG (by rw [nN]; omega),iP,if_pos (by omega)])]
   rfl
 obtain ⟨r,hr0⟩:∃ r,cK (chg zs) j=r+1:=⟨cK (chg zs) j - 1,by omega⟩
 have er:(((cK (chg zs) j:Nat):Int) - 1)=(r:Int):=by omega
 have g1:(chg zs)[r]?=some (chg zs)[r]:=List.getElem?_eq_getElem (by omega)
 have g2:(chg zs)[r+1]?=some (chg zs)[r+1]:=List.getElem?_eq_getElem (by omega)
 have b1:=(key1 g1).mpr (by omega)
 have b2:=key1 g2
 have hd2:=c7 _ _ (List.mem_of_getElem? g2)
 obtain ⟨m,rfl⟩:∃ m:Nat,j=(m:Int):=⟨j.toNat,by omega⟩
 have hm:m < zs.length:=by omega
 have eb:=tI hm g1 g2 (by omega) (by omega)
 obtain ⟨z,hz⟩:∃ z,zs[m]?=some z:=⟨zs[m],List.getElem?_eq_getElem hm⟩
 rw [hz] at eb
 have hzm:=List.mem_of_getElem? hz
 have hkr:r < (bN zs).length:=by omega
 have hky:(bN zs)[r]?=some (bN zs)[r]:=List.getElem?_eq_getElem hkr
 have hyl:=kw _ (List.getElem_mem hkr)
 rw [er]
 by_cases hc:0 < cK (chg (aE zs)) k∧cK (chg (aE zs)) k < (chg (aE zs)).length
 rotate_left
 ·have lhs:aR (bN zs) ((cK (chg (aE zs)) k:Int) - 1) (r:Int)=false:=by
   by_cases h0:cK (chg (aE zs)) k=0
   ·exact bZ (by omega)
   ·exact gB (z:=(bN zs)[r]) (by rw [Int.toNat_natCast]; exact hky) (by omega)
  rw [lhs]
  symm
  by_cases hk0:k < 0
  ·exact bZ hk0
  obtain ⟨q,rfl⟩:∃ q:Nat,k=(q:Int):=⟨k.toNat,by omega⟩
  by_cases hk1:n≤q
  ·exact gB (z:=z) (by rw [Int.toNat_natCast]; exact hz) (by rw [h z hzm]; omega)
  ·have:=aCY h (k:=q) (by omega) (fun r c d h1 h2 h3=>by
    have a1:=key2 h1
    have a2:=key2 h2
    have hl2:=(List.getElem?_eq_some_iff.mp h2).1
    omega) z hzm
   rw [dN (z:=z) (c:=46) (by omega) (by omega) (by rw [Int.toNat_natCast]; exact hz) (by rw [Int.toNat_natCast,cG (by rw [h z hzm]; omega),this])]
   rfl
 obtain ⟨c,hc0⟩:∃ c,cK (chg (aE zs)) k=c+1:=⟨cK (chg (aE zs)) k - 1,by omega⟩
 have ec:(((cK (chg (aE zs)) k:Nat):Int) - 1)=(c:Int):=by omega
 have f1:(chg (aE zs))[c]?=some (chg (aE zs))[c]:=List.getElem?_eq_getElem (by omega)
 have f2:(chg (aE zs))[c+1]?=some (chg (aE zs))[c+1]:=List.getElem?_eq_getElem (by omega)
 have d1:=(key2 f1).mpr (by omega)
 have d2:=key2 f2
 have hne:zs≠[]:=fun e=>by rw [e] at hm; simp at hm
 have hcl:=b6 h hne
 have hd3:=c7 _ _ (List.mem_of_getElem? f2)
 obtain ⟨q,rfl⟩:∃ q:Nat,k=(q:Int):=⟨k.toNat,by omega⟩
 have hq:q < n:=by omega
 obtain ⟨y,hy,ey⟩:=aB9 g1 (by omega) f1 (by omega) eb.symm
 have ecol:=aFB h (k:=q) hq f1 f2 (by omega) (by omega) z hzm
 have hyl2:=kw y (List.mem_of_getElem? hy)
 rw [ec,dN (z:=y) (c:=atS y c) (by omega) (by omega) (by rw [Int.toNat_natCast]; exact hy) (by rw [Int.toNat_natCast]; exact cG (by omega)),
  dN (z:=z) (c:=atS z q) (by omega) (by omega) (by rw [Int.toNat_natCast]; exact hz) (by rw [Int.toNat_natCast]; exact cG (by rw [h z hzm]; exact hq)),ey,ecol]
theorem i7 {K:List Str}{a u:Int}:aR K a u=true↔0≤u∧0≤a∧∃ z,K[u.toNat]?=some z∧z.cps.toList[a.toNat]?=some 35:=by
 unfold aR
 rw [Bool.and_eq_true,Bool.and_eq_true,decide_eq_true_eq,decide_eq_true_eq,beq_iff_eq]
 constructor
 ·rintro ⟨⟨h1,h2⟩,h3⟩
  obtain ⟨z,hz,e⟩:=Option.bind_eq_some_iff.mp h3
  exact ⟨h1,h2,z,hz,e⟩
 ·rintro ⟨h1,h2,z,hz,e⟩
  exact ⟨⟨h1,h2⟩,Option.bind_eq_some_iff.mpr ⟨z,hz,e⟩⟩
end R
namespace U
open PySem
abbrev Up (ws:List Rat):Prop:=ws.Pairwise (· < ·)
def ix (ws:List Rat) (x:Rat):Int:=((ws.filter fun w=>decide (w≤x)).length:Int) - 1
theorem g7 (ws:List Rat) (x:Rat) : -1≤ix ws x:=by unfold ix; omega
theorem hU (ws:List Rat) (x:Rat):ix ws x < ws.length:=by
 unfold ix
 have:=List.length_filter_le (fun w=>decide (w≤x)) ws
 omega
theorem dC {x:Rat}:∀ {ws:List Rat},Up ws→∀ {i:Nat} (h:i < ws.length),ws[i]≤x↔(i:Int)≤ix ws x
 | [],_,i,h=>absurd h (Nat.not_lt_zero _)
 | w::r,u,i,h=>by
  obtain ⟨u1,u2⟩:=List.pairwise_cons.mp u
  unfold ix
  by_cases hw:w≤x
  ·rw [List.filter_cons_of_pos (by simpa using hw),List.length_cons]
   cases i with
   | zero=>exact ⟨fun _=>by omega,fun _=>hw⟩
   | succ i =>
    have:=dC (x:=x) u2 (i:=i) (by simpa using h)
    unfold ix at this
    simp only [List.getElem_cons_succ]
    rw [this]
    omega
  ·rw [List.filter_cons_of_neg (by simpa using hw)]
   have e:r.filter (fun w=>decide (w≤x))=[]:=List.filter_eq_nil_iff.mpr fun a ha=>by
    have:=u1 a ha
    simp only [decide_eq_true_eq]
    grind
   rw [e]
   have h1:¬ (w::r)[i]≤x:=by
    cases i with
    | zero=>simpa using hw
    | succ i =>
     have:=u1 _ (List.getElem_mem (by simpa using h:i < r.length))
     simp only [List.getElem_cons_succ]
     grind
   exact ⟨fun z=>absurd z h1,fun z=>by simp at z; omega⟩
theorem mU {ws:List Rat}{x:Rat}{k:Int} (u:Up ws) (h0 : -1≤k) (h1:k < ws.length) (h:∀ (i:Nat) (hi:i < ws.length),ws[i]≤x↔(i:Int)≤k):ix ws x=k:=by
 have a:=g7 ws x
 have b:=hU ws x
 apply Int.le_antisymm
 ·by_cases hk:0≤ix ws x
  ·have q:=(h (ix ws x).toNat (by omega)).mp ((dC u (by omega)).mpr (by omega))
   omega
  ·omega
 ·by_cases hk:0≤k
  ·have q:=(dC (x:=x) u (i:=k.toNat) (by omega)).mp ((h k.toNat (by omega)).mpr (by omega))
   omega
  ·omega
theorem jP {ws:List Rat} (u:Up ws) {i j:Nat} (hi:i < ws.length) (hj:j < ws.length):ws[i] < ws[j]↔i < j:=by
 have p:=List.pairwise_iff_getElem.mp u
 constructor
 ·intro h
  rcases Nat.lt_trichotomy i j with q | q | q
  ·exact q
  ·subst q; grind
  ·have:=p j i hj hi q; grind
 ·exact p i j hi hj
theorem fL {ws:List Rat} (u:Up ws) {i j:Nat} (hi:i < ws.length) (hj:j < ws.length):ws[i]≤ws[j]↔i≤j:=by
 have:=jP u hj hi
 constructor
 ·intro h; refine Nat.le_of_not_lt fun q => ?_
  have:=this.mpr q; grind
 ·intro h
  have:¬ ws[j] < ws[i]:=fun q=>by have:=this.mp q; omega
  grind
theorem eF {ws:List Rat} (u:Up ws) {i:Nat} (hi:i < ws.length):ix ws ws[i]=i :=
 mU u (by omega) (by omega) fun j hj=>by rw [fL u hj hi]; omega
theorem vU {ws vs:List Rat} (u:Up ws) (v:Up vs) (h:∀ x,x∈ws↔x∈vs):ws=vs:=by
 induction ws generalizing vs with
 | nil =>
  cases vs with
  | nil=>rfl
  | cons a r=>exact absurd ((h a).mpr (.head _)) (by simp)
 | cons w ws ih =>
  cases vs with
  | nil=>exact absurd ((h w).mp (.head _)) (by simp)
  | cons a r =>
   obtain ⟨u1,u2⟩:=List.pairwise_cons.mp u
   obtain ⟨v1,v2⟩:=List.pairwise_cons.mp v
   have e:w=a:=by
    rcases List.mem_cons.mp ((h w).mp (.head _)) with q | q
    ·exact q
    ·rcases List.mem_cons.mp ((h a).mpr (.head _)) with z | z
     ·exact z.symm
     ·have:=v1 w q; have:=u1 a z; grind
   subst e
   rw [ih u2 v2 fun x => ?_]
   constructor
   ·intro hx
    rcases List.mem_cons.mp ((h x).mp (.tail _ hx)) with q | q
    ·subst q; have:=u1 x hx; grind
    ·exact q
   ·intro hx
    rcases List.mem_cons.mp ((h x).mpr (.tail _ hx)) with q | q
    ·subst q; have:=v1 x hx; grind
    ·exact q
theorem uG {ws xs:List Rat} (u:Up ws) (v:Up xs) (hs:∀ w∈ws,w∈xs) {x:Rat}{i:Nat} (hi:i < xs.length) (e:ix xs x=i):ix ws x=ix ws xs[i]:=by
 unfold ix
 refine congrArg (fun l:List Rat=>(l.length:Int) - 1) (List.filter_congr fun w hw => ?_)
 obtain ⟨j,hj,rfl⟩:=List.getElem_of_mem (hs w hw)
 have h1:=dC (x:=x) v hj
 have h2:=fL v hj hi
 rw [decide_eq_decide,h1,h2,e]
 omega
theorem vZ {ws xs:List Rat} (v:Up xs) (hs:∀ w∈ws,w∈xs) {x:Rat} (e:ix xs x = -1):ix ws x = -1:=by
 unfold ix
 rw [List.filter_eq_nil_iff.mpr fun w hw => ?_]
 ·rfl
 ·obtain ⟨j,hj,rfl⟩:=List.getElem_of_mem (hs w hw)
  have h1:=dC (x:=x) v hj
  rw [decide_eq_true_eq,h1,e]
  omega
theorem uL {ws xs:List Rat} (v:Up xs) (hs:∀ w∈ws,w∈xs) {x:Rat} (e:ix xs x=(xs.length:Int) - 1):ix ws x=(ws.length:Int) - 1:=by
 unfold ix
 rw [List.filter_eq_self.mpr fun w hw => ?_]
 obtain ⟨j,hj,rfl⟩:=List.getElem_of_mem (hs w hw)
 have h1:=dC (x:=x) v hj
 rw [decide_eq_true_eq,h1,e]
 omega
def fA (xs:List Rat) (js:List Nat):List Rat:=js.map fun j=>xs.getD j 0
theorem qK {xs:List Rat} (u:Up xs) {js:List Nat} (hs:js.Pairwise (· < ·)) (h:∀ j∈js,j < xs.length):Up (fA xs js):=by
 unfold fA Up
 rw [List.pairwise_map]
 refine List.Pairwise.imp_of_mem ?_ hs
 intro a b ha hb hab
 have h1:=h a ha
 have h2:=h b hb
 rw [List.getD_eq_getElem?_getD,List.getD_eq_getElem?_getD,List.getElem?_eq_getElem h1,List.getElem?_eq_getElem h2]
 exact (jP u h1 h2).mpr hab
theorem pI {xs:List Rat}{js:List Nat} (h:∀ j∈js,j < xs.length):∀ x∈fA xs js,x∈xs:=fun x hx=>by
 obtain ⟨j,hj,rfl⟩:=List.mem_map.mp hx
 rw [List.getD_eq_getElem?_getD,List.getElem?_eq_getElem (h j hj)]
 exact List.getElem_mem _
theorem uP {xs:List Rat} (u:Up xs) {js:List Nat} (h:∀ j∈js,j < xs.length) (x:Rat):ix (fA xs js) x=R.bd js (ix xs x):=by
 unfold ix fA R.bd R.cK
 rw [List.filter_map,List.length_map]
 congr 2
 congr 1
 refine List.filter_congr fun j hj => ?_
 have h1:=h j hj
 have:=dC (x:=x) u h1
 show decide (xs.getD j 0≤x)=_
 rw [List.getD_eq_getElem?_getD,List.getElem?_eq_getElem h1,decide_eq_decide]
 exact this
end U
namespace Z
open PySem L2
end Z
namespace Q
open PySem L2 Z
theorem rL {n:Nat} (h:n≤1000):("." : Str).length * ((n:Int)).toNat≤sizeLine:=by
 have e:("." : Str).length=1:=by decide +kernel
 rw [e,Int.toNat_natCast,Nat.one_mul]
 exact R.aS (by omega)
theorem iA {zs:List Str}{i:Nat} (h:i < zs.length+2):∃ u,(R.framed zs)[i]?=some u:=⟨(R.framed zs)[i]'(by rw [R.hX]; exact h),by simp [R.hX,h]⟩
theorem mI {zs:List Str}{i:Nat}{z:Str} (h:zs[i]?=some z):atI (zs.map D.str) (0+(i:Int))=some (.str z):=by
 rw [Int.zero_add]; exact cD (by rw [List.getElem?_map,h]; rfl)
theorem qI {zs:List Str}{i:Nat}{z:Str} (h:zs[i+1]?=some z):atI (zs.map D.str) (0+(i:Int)+1)=some (.str z):=by
 rw [Int.zero_add]; exact cD (j:=i+1) (by rw [List.getElem?_map,h]; rfl)
def natD (l:List Nat):List D:=l.map fun (i:Nat)=>D.int (i:Int)
theorem fC {l:List Nat}{i:Nat}{d:D} (h:(natD l)[i]?=some d):∃ j,l[i]?=some j∧d = .int (j:Int):=b7 h
theorem b8 (l:List Nat):(natD l).length=l.length:=by simp [natD]
theorem xE {zs:List Str}:(List.range (zs.length+1)).filter (fun i => !decide ((R.framed zs)[i]?=(R.framed zs)[i+1]?))=R.chg zs:=by
 unfold R.chg
 cases zs with
 | nil=>rfl
 | cons z zr=>rfl
theorem gF {p:Nat→Bool}{n:Nat}:(List.range (n+1)).filter p=if p n=true then (List.range n).filter p++[n] else (List.range n).filter p:=by
 rw [List.range_succ,List.filter_append]
 by_cases h:p n=true
 ·rw [if_pos h,List.filter_cons_of_pos h]; rfl
 ·rw [if_neg h,List.filter_cons_of_neg h,List.filter_nil,List.append_nil]
theorem jO {α:Type} (l:List α):cutD l none (some (-1))=l.dropLast:=by
 unfold cutD
 have e1:HT.sIx l.length 0 none=0:=rfl
 have e2:HT.sIx l.length l.length (some (-1))=l.length - 1:=by
  show (if (-1:Int) < 0 then ((-1:Int)+(l.length:Int)).toNat else min (-1:Int).toNat l.length)=l.length - 1
  rw [if_pos (by decide)]; omega
 rw [e1,e2,List.drop_zero,Nat.sub_zero,List.dropLast_eq_take]
theorem fB (l:List Nat):(natD l).dropLast=natD l.dropLast:=by simp [natD,List.map_dropLast]
theorem bH {α β:Type}{f:α→β}{l:List α}{i:Nat}{x:α} (h:l[i]?=some x):(l.take (i+1)).map f=(l.take i).map f++[f x]:=by
 rw [d9 h,List.map_append]; rfl
theorem at_D {xs:List D}{j:Nat} (h:j < xs.length):atI xs (j:Int)=some (xs.getD j .non):=cD (by simp [h])
theorem mZ (l:List Str) (h:∀ z∈l,z.length=1):(l.map (·.length)).sum=l.length:=by
 induction l with
 | nil=>rfl
 | cons a l ih =>
  rw [List.map_cons,List.sum_cons,ih fun z hz=>h z (by simp [hz]),h a (by simp),List.length_cons,Nat.add_comm]
theorem rT (zs:List Str) (j:Nat):PySem.Txt.join Str.empty (zs.map fun z=>(⟨#[R.atS z j]⟩:Str))=R.ofL (zs.map (R.atS · j)):=by
 have:=R.o6 (zs.map (R.atS · j))
 rw [List.map_map] at this
 exact this
theorem map_nil {α β:Type}{f:α→β}{l:List α} (h:decide (l.map f=[])=true):l=[]:=by
 have:=of_decide_eq_true h
 cases l with
 | nil=>rfl
 | cons a l=>cases this
end Q
namespace R
open PySem L2
theorem fE {A:Around}{k n:Nat} (hr:Room k A) (h:n≤64:=by decide):A.units+n < cLine:=by have:=hr.units; omega
end R
namespace Q
open PySem L2 Z
theorem ButM.del {p a:Addr}{M M':Mem} (h:ButM p M M') (n:M a=none):ButM p M (delM M' a):=fun b u nb e=>by
 rw [mK (fun z=>by rw [z,n] at e; cases e)]; exact h b u nb e
theorem ButM.none_of {p a:Addr}{M M':Mem} (h:ButM p M M') (n:M' a=none) (np:a≠p):M a=none:=by
 cases e:M a with
 | none=>rfl
 | some o=>rw [h a o np e] at n; cases n
theorem yU {n:Nat}{zs:List Str} (h:R.Good n zs) {cs:List Nat} (hl:cs.length=n) (hs:∀ c∈cs,c=35∨c=46):R.Good n (zs++[R.ofL cs]):=fun z hz=>by
 rcases List.mem_append.mp hz with hz | hz
 ·exact h z hz
 ·rw [List.mem_singleton] at hz
  subst hz
  refine ⟨by rw [R.f7]; exact hl,?_⟩
  show cs.all R.sgn=true
  rw [List.all_eq_true]
  intro c hc
  rcases hs c hc with rfl | rfl <;> rfl
theorem aBW (l:List Nat):((l.map fun c=>(⟨#[c]⟩:Str)).map (·.length)).sum=l.length:=by
 rw [mZ _ fun z hz=>by obtain ⟨c,_,rfl⟩:=List.mem_map.mp hz; rfl,List.length_map]
end Q
namespace Z
open PySem L2
section
variable {K:Fg}{M:Mem}{k:D→Mem→Prop}
end
theorem p8 {es:List D}{i:Nat}{d:D} (h:(iD es)[i]?=some d):∃ x,es[i]?=some x∧d = .tup [.int (i:Int),x]:=by
 unfold iD at h
 rw [List.getElem?_mapIdx] at h
 cases e:es[i]? with
 | none=>rw [e] at h; cases h
 | some x=>rw [e] at h; exact ⟨x,rfl,(Option.some.inj h).symm⟩
theorem pZ (es:List D):(iD es).length=es.length:=by simp [iD]
end Z
namespace L2
open PySem PySem.Spec PyProof.Rows
section
variable {X:Cx}
end
end L2
namespace Z
open PySem L2
section
variable {K:Fg}{M:Mem}{k:D→Mem→Prop}
end
end Z
namespace Q
open PySem L2 Z
def cHas:Ct:=fun ds M k=>∃ (x y:D) (zs:List Str) (a u:Int),ds=[.tup [x,y, .tup (zs.map .str)], .int a, .int u]∧(∀ z∈zs,z.length≤1000)∧k (.bl (R.aR zs a u)) M
theorem xU {c:Nat}:decide ((⟨#[c]⟩:Str)=("#" : Str))=decide (c=35):=by
 have e:("#" : Str)=⟨#[35]⟩:=by decide +kernel
 rw [e]
 by_cases h:c=35
 ·rw [h]; simp
 ·rw [decide_eq_false h]
  exact decide_eq_false fun z=>h (by injection z with z; simpa using z)
theorem aCX {zs:List Str}{a u:Int} (h1:¬ decide (u < 0)=true) (h2:¬ decide (((zs.map D.str).length:Int)≤u)=true) (h3:¬ decide (a < 0)=true):0≤u∧0≤a∧∃ z,zs[u.toNat]?=some z∧atI (zs.map D.str) u=some (.str z):=by
 have h1':¬ u < 0:=fun z=>h1 (decide_eq_true z)
 have h2':¬ ((zs.length:Nat):Int)≤u:=fun z=>h2 (decide_eq_true (by rw [List.length_map]; exact z))
 have h3':¬ a < 0:=fun z=>h3 (decide_eq_true z)
 obtain ⟨j,rfl⟩:∃ j:Nat,u=(j:Int):=⟨u.toNat,by omega⟩
 have hj:j < zs.length:=by omega
 refine ⟨by omega,by omega,zs[j],by simp [hj],cD (by simp [hj])⟩
theorem aCP {z:Str}{a:Int} (ha:0≤a) (h:¬ ((z.length:Nat):Int)≤a):∃ c,z.cps.toList[a.toNat]?=some c∧atI z.cps.toList a=some c:=by
 obtain ⟨j,rfl⟩:∃ j:Nat,a=(j:Int):=⟨a.toNat,by omega⟩
 have hj:j < z.cps.toList.length:=by rw [Array.length_toList]; have:z.cps.size=z.length:=rfl; omega
 exact ⟨z.cps.toList[j],by simp,cD (List.getElem?_eq_getElem hj)⟩
end Q
namespace HT
open PySem PySem.Spec PyProof.Rows
section
variable {prog:Program}{w:World}{A:Around}{E:Value→Shared→Prop}{s:Shared}
end
end HT
namespace L2
open PySem PySem.Spec PyProof.Rows
section
variable {X:Cx}
end
end L2
namespace Z
open PySem L2
section
variable {X:Cx}{Γ:Gm}{M:Mem}{k:D→Mem→Prop}{e:Expr}
end
end Z
namespace Q
open PySem L2 Z
theorem dotted (z:Str):("." : Str)++z++("." : Str)=R.ofL (46::z.cps.toList++[46]):=by
 apply fG
 have e:("." : Str).cps = #[46]:=by decide +kernel
 show (("." : Str).cps++z.cps++("." : Str).cps).toList=46::z.cps.toList++[46]
 rw [e]; simp
theorem vC (z:Str) (h:z.length≤1000):("." : Str).length+z.length≤sizeLine∧(("." : Str)++z).length+("." : Str).length≤sizeLine:=by
 have e:("." : Str).length=1:=by decide +kernel
 have e2:(("." : Str)++z).length=1+z.length:=by
  show (("." : Str).cps++z.cps).size=_
  rw [Array.size_append]
  have:("." : Str).cps.size=1:=e
  rw [this]; rfl
 rw [e2,e]
 exact ⟨R.aS (by omega),R.aS (by omega)⟩
end Q
namespace Z
open PySem L2
theorem slen (a b:Str):(a++b).length=a.length+b.length:=by
 show (a.cps++b.cps).size=_
 rw [Array.size_append]; rfl
theorem nE:∀ (ts:List Str) (k:Nat) (acc:Str),(textFrom k acc ts).length≤acc.length+(ts.map (·.length)).sum+2 * ts.length
 | [],k,acc=>by simp [textFrom]
 | t::ts,k,acc=>by
  have ih:=nE ts (k+1) (acc++(if k > 0 then ", " else "" : String)++t)
  have e:(acc++((if k > 0 then ", " else "" : String):Str)++t).length≤acc.length+2+t.length:=by
   rw [slen,slen]
   split
   ·have:((", " : String):Str).length=2:=by decide +kernel
    omega
   ·have:(("" : String):Str).length=0:=by decide +kernel
    omega
  show (textFrom (k+1) (acc++(if k > 0 then ", " else "" : String)++t) ts).length≤_
  rw [List.map_cons,List.sum_cons,List.length_cons]
  omega
theorem sL (ts:List Str):(listText ts).length≤(ts.map (·.length)).sum+2 * ts.length+2:=by
 unfold listText
 rw [slen]
 have h:=nE ts 0 "["
 have e1:("[" : Str).length=1:=by decide +kernel
 have e2:("]" : Str).length=1:=by decide +kernel
 omega
theorem sY:∀ ts:List Str,(Str.join ", " ts).length≤(ts.map (·.length)).sum+2 * ts.length
 | []=>by show (Str.empty).length≤_; exact Nat.zero_le _
 | [x]=>by show x.length≤_; simp
 | x::y::r=>by
  have ih:=sY (y::r)
  show (x ++ ", " ++ Str.join ", " (y::r)).length≤_
  rw [slen,slen]
  have e2:((", " : String):Str).length=2:=by decide +kernel
  rw [List.map_cons,List.sum_cons,List.length_cons]
  omega
theorem rB (ts:List Str):(tupleText ts).length≤(ts.map (·.length)).sum+2 * ts.length+3:=by
 unfold tupleText
 rw [slen,slen]
 have h:=sY ts
 have e1:("(" : Str).length=1:=by decide +kernel
 have e2:(((if ts.length == 1 then ",)" else ")" : String)):Str).length≤2:=by split <;> decide +kernel
 omega
mutual
def smD:D→Bool
 | .non | .bl _ | .str _=>true
 | .int i=>decide (i.natAbs < 10 ^ 65)
 | .tup ds=>smDs ds
 | .lst ds=>smDs ds
 | .mt _ | .fl _ | .st _=>false
def smDs:List D→Bool
 | []=>true
 | d::ds=>smD d && smDs ds
end
mutual
def wt:D→Nat
 | .non=>4
 | .bl _=>5
 | .int _=>66
 | .str x=>(reprText x).length
 | .tup ds=>wts ds+3
 | .lst ds=>wts ds+2
 | .mt _ | .fl _ | .st _=>0
def wts:List D→Nat
 | []=>0
 | d::ds=>wt d+2+wts ds
end
mutual
theorem shown_le:∀ d:D,smD d=true→(toPy d).showable=true∧(toPy d).shown.length≤wt d
 | .non,_=>by simp only [toPy,PyData.showable,PyData.shown,wt]; exact ⟨trivial,by decide +kernel⟩
 | .bl b,_=>by simp only [toPy,PyData.showable,PyData.shown,wt]; exact ⟨trivial,by cases b <;> decide +kernel⟩
 | .str x,_=>by simp only [toPy,PyData.showable,PyData.shown,wt]; exact ⟨trivial,Nat.le_refl _⟩
 | .int i,h=>by
  simp only [smD,decide_eq_true_eq] at h
  simp only [toPy,PyData.showable,PyData.shown,wt,decide_eq_true_eq]
  refine ⟨?_,?_⟩
  ·have h2:i.natAbs < 2 ^ 1920:=Nat.lt_of_lt_of_le h (by decide)
   by_cases h0:i.natAbs=0
   ·rw [h0]; decide
   ·exact (Nat.log2_lt h0).mpr h2
  ·have:=int_text_length_le10 (a:=i) (k:=65) (by decide) h
   show (Str.ofString (toString i)).length≤66
   rw [ofString_length]; exact this
 | .mt _,h=>by simp [smD] at h
 | .fl _,h=>by simp [smD] at h
 | .st _,h=>by simp [smD] at h
 | .tup ds,h=>by
  simp only [smD] at h
  obtain ⟨h1,h2⟩:=showns_le ds h
  simp only [toPy,PyData.showable,PyData.shown,wt]
  exact ⟨h1,Nat.le_trans (rB _) (by omega)⟩
 | .lst ds,h=>by
  simp only [smD] at h
  obtain ⟨h1,h2⟩:=showns_le ds h
  simp only [toPy,PyData.showable,PyData.shown,wt]
  exact ⟨h1,Nat.le_trans (sL _) (by omega)⟩
theorem showns_le:∀ ds:List D,smDs ds=true→PyData.showableAll (toPys ds)=true∧((PyData.shownAll (toPys ds)).map (·.length)).sum+2 * (PyData.shownAll (toPys ds)).length≤wts ds
 | [],_=>by simp [toPys,PyData.showableAll,PyData.shownAll,wts]
 | d::ds,h=>by
  simp only [smDs,Bool.and_eq_true] at h
  obtain ⟨a1,a2⟩:=shown_le d h.1
  obtain ⟨b1,b2⟩:=showns_le ds h.2
  simp only [toPys,PyData.showableAll,PyData.shownAll,wts,List.map_cons,List.sum_cons,List.length_cons]
  exact ⟨by rw [a1,b1]; rfl,by omega⟩
end
theorem oX:∀ {ds:List D},(∀ d∈ds,smD d=true)→smDs ds=true
 | [],_=>by simp only [smDs]
 | d::ds,h=>by
  have ih:=oX (ds:=ds) fun e he=>h e (List.mem_cons_of_mem _ he)
  simp only [smDs,h d (by simp),ih,Bool.and_true]
theorem lW {n:Nat}:∀ {ds:List D},(∀ d∈ds,okD n d=true)→okDs n ds=true
 | [],_=>by simp only [okDs]
 | d::ds,h=>by
  have ih:=lW (ds:=ds) fun e he=>h e (List.mem_cons_of_mem _ he)
  simp only [okDs,h d (by simp),ih,Bool.and_true]
theorem rM {B:Nat}:∀ {ds:List D},(∀ d∈ds,wt d≤B)→wts ds≤ds.length * (B+2)
 | [],_=>by simp [wts]
 | d::ds,h=>by
  have h1:=h d (by simp)
  have h2:=rM (B:=B) (ds:=ds) fun e he=>h e (by simp [he])
  simp only [wts,List.length_cons,Nat.succ_mul]
  omega
theorem kC {K:Fg}{n:Nat}{M:Mem}{k:D→Mem→Prop}{d e:D} (r:Rs M d e) (ok:okD n e=true) (hs:smD e=true) (hz:wt e≤10000000) (h:k (.str (toPy e).shown) M):OpN K (vJ K n) [d] M k :=
 aBP r ok (shown_le e hs).1 (Nat.le_trans (shown_le e hs).2 (Nat.le_trans hz (by decide))) h
end Z
namespace Q
open PySem L2 Z
def cU (p:Int × Int):D := .tup [.int p.1, .int p.2]
def cLaw:Ct:=fun ds M k=>∃ ns:List Int,ds=[.fl (ns.map .int)]∧ns.length≤63∧∀ M',k (.bl true) M'
end Q
namespace L2
open PySem PySem.Spec PyProof.Rows
section
variable {X:Cx}
def Iel (K:PySem.W.Frag) (a:Addr):It:=⟨fun i H=>∃ xs x,SqL K H a xs∧xs[i]?=some x,
 fun i H v H'=>∃ T x,H T=none∧v = .ref T∧H'=upd H T (.tup [.int (i:Int),x])∧∀ xs,SqL K H a xs→xs[i]?=some x,fun i H=>∃ xs,SqL K H a xs∧xs.length=i⟩
theorem vA {P:Program}{w:World}{K:PySem.W.Frag}{elts:List Expr}{kk:Nat}{tp:Pos} (a e it:Addr) (hei:e≠it) :
  Turn P w K (.Tuple elts kk tp) (Iel K a) [e,it] e (fun i h=>(∃ old,IsEnum h e it (i:Nat) old)∧h.IsListIter it a i) where
 mem:=by simp
 obj:=fun i h st b hb=>by
  obtain ⟨⟨old,he⟩,o,ho,hc,hd⟩:=st
  rcases List.mem_cons.mp hb with rfl | hb
  ·exact ⟨_,he,fun v z=>by cases z⟩
  ·rw [List.mem_singleton] at hb
   subst hb
   exact ⟨o,ho,fun v z=>by rw [hd] at z; cases z⟩
 keep:=fun i h h' st k=>by
  obtain ⟨⟨old,he⟩,o,ho,r⟩:=st
  exact ⟨⟨old,k e (by simp) _ he⟩,o,k it (by simp) o ho,r⟩
 item:=by
  intro X hP hw hK hc i pins s σ H E I hf st hg
  subst hP hw hK
  obtain ⟨⟨old,he⟩,hit⟩:=st
  obtain ⟨xs,x,hq,hx⟩:=hg
  obtain ⟨its,rv,pt,hz⟩:=I.list hq
  have pt':s.heap.IsList a its.toArray:=pt.isList
  have hai:a≠it:=fun z=>by
   obtain ⟨o,e1,c1,_⟩:=pt'
   obtain ⟨o2,e2,c2,_⟩:=hit
   rw [z,e2] at e1; cases e1
   rw [c1] at c2; exact absurd c2 (by simp)
  have hae:e ∉ [it,a]:=fun z=>by
   rcases List.mem_cons.mp z with y | y
   ·exact hei y
   ·rw [List.mem_singleton] at y
    obtain ⟨o,e1,c1,_⟩:=pt'
    have he':=he
    unfold IsEnum at he'
    rw [y,e1] at he'; cases he'
    exact absurd c1 (by simp)
  have Dr:=Draws.list (prog:=X.prog) (w:=X.w) (A:=X.A.in1) (I.ok.hd hc) it a hai its.toArray
  have hlt:i < its.toArray.size:=by rw [List.size_toArray,← rv.length]; exact (List.getElem?_eq_some_iff.mp hx).1
  refine wpAny_pyNext_enum_itemD Dr he ⟨hit,pt'⟩ hlt hei hae fun y h1 tk hy ho hs1 hT hsz hk => ?_
  refine ⟨_,rfl,wpAny_letOwnedTupleGo_enum ho fun h2 he2 hs2 => ?_⟩
  obtain ⟨u,hu,ru⟩:=rv.get hx
  have ey:y=u:=by
   have e3:its[i]?=some y:=by simpa using hy
   rw [hu] at e3; exact (Option.some.inj e3).symm
  subst ey
  have hTe:s.heap.objs.size≠e:=Nat.ne_of_gt (Heap.lt_size he)
  have tup2:h2.get? s.heap.objs.size=some { cls := .type "tuple", data := .seq #[.int (i:Int) tk,y] }:=(hs2.2 _ hTe).trans hT
  have k2:∀ b ob,b ∉ [e,it]→s.heap.get? b=some ob→h2.get? b=some ob:=fun b ob hb q=>by
   have b1:b≠e:=fun z=>hb (by simp [z])
   have b2:b≠it:=fun z=>hb (by simp [z])
   exact (hs2.2 b b1).trans (hk b ob b1 b2 q)
  have I2:Inv X pins σ (upd H s.heap.objs.size (.tup [.int (i:Int),x])) { s with heap:=h2,toks:=tk+1 }:=I.turnedT k2 hf (Nat.le_refl _) ⟨(show 2≤sizeLine by decide),[.int (i:Int) tk,y], .cons ⟨tk,rfl⟩ (.cons ru .nil),_,tup2,rfl,_,rfl⟩
  have hn:H s.heap.objs.size=none:=I.hok.fresh (Nat.le_refl _)
  refine ⟨.ref s.heap.objs.size,_,I2,rfl,⟨s.heap.objs.size,x,hn,rfl,rfl,fun xs' q' => ?_⟩,⟨⟨_,by simpa using he2⟩,?_⟩,fun b hb => ?_⟩
  ·rw [I.list_inj q' hq]; exact hx
  ·obtain ⟨⟨o,ho3,r3⟩,_⟩:=hs1
   exact ⟨o,(hs2.2 it (Ne.symm hei)).trans ho3,r3⟩
  ·rw [aU (fun z => ?_)]
   ·exact (hf b hb).1
   ·rcases List.mem_cons.mp hb with y | y
    ·exact hTe (by rw [← z,y])
    ·rw [List.mem_singleton] at y
     obtain ⟨o,ho3,_⟩:=hit
     exact absurd (Heap.lt_size ho3) (by rw [← y,z]; exact Nat.lt_irrefl _)
 done:=by
  intro X hP hw hK hc i pins s σ H E I hf st hg
  subst hP hw hK
  obtain ⟨⟨old,he⟩,hit⟩:=st
  obtain ⟨xs,hq,hl⟩:=hg
  obtain ⟨its,rv,pt,hz⟩:=I.list hq
  have pt':s.heap.IsList a its.toArray:=pt.isList
  have hai:a≠it:=fun z=>by
   obtain ⟨o,e1,c1,_⟩:=pt'
   obtain ⟨o2,e2,c2,_⟩:=hit
   rw [z,e2] at e1; cases e1
   rw [c1] at c2; exact absurd c2 (by simp)
  have Dr:=Draws.list (prog:=X.prog) (w:=X.w) (A:=X.A.in1) (I.ok.hd hc) it a hai its.toArray
  have hn:its.toArray.size=i:=by rw [List.size_toArray,← rv.length]; exact hl
  subst hn
  refine wpAny_pyNext_enum_endD Dr he ⟨hit,pt'⟩ fun h2 hx=>⟨rfl,I.turnedL (t':=s.toks) (ch:=[it]) (fun b ob hb q=>hx b ob (fun z=>hb (by simp [z])) q) fun b hb=>hf b ?_⟩
  rw [List.mem_singleton] at hb
  rw [hb]; simp
 self:=fun A i s Q E st h=>by
  obtain ⟨⟨old,he⟩,_⟩:=st
  exact wpAny_pyIter_enum he h
def aDQ (K:PySem.W.Frag) (ta:TA):TI:=fun σ H R=>ta σ H fun vs H1=>∃ a,vs=[.ref a]∧(∃ xs,SqL K H1 a xs)∧R (Iel K a) H1
theorem aAM {elts:List Expr}{kk:Nat}{tp:Pos}{a:Expr}{ta:TA}{p pos:Pos} (hg:Gl X "enumerate") (hm:X.mg "enumerate" = none) (hv:bootBuiltins "enumerate" = some (.type "enumerate")) (ha:PA X [a] ta) (hs:starEach [a] X.env=[(false,eval a X.env)]:=by rfl) :
  PI X (.Tuple elts kk tp) (.Call (.Name "enumerate" p) [a] [] pos) (aDQ X.K ta):=by
 intro pins s σ H R I h
 refine Call_ (j6 I hg hm hv (PyProof.Rows.callWith_type1 (thn (ha pos pins s σ H _ I h) fun us s1 ⟨vs,H1,I1,r1,q1⟩ => ?_) hs rfl))
 obtain ⟨b,e,⟨xs,hq⟩,q⟩:=q1
 subst e
 obtain ⟨u,rfl,ru⟩:=vals1 r1
 cases ru
 obtain ⟨its,rv,pt,hz⟩:=I1.list hq
 refine call_enumerate_list (show s1.heap.IsList b its.toArray from pt.isList) fun h' he hi hsz hk => ?_
 have I2:Inv X pins σ H1 { s1 with heap:=h' }:=I1.kept (t':=s1.toks) hk
 refine wpAny_pyIter_enum he ?_
 refine ⟨_,[s1.heap.objs.size+1,s1.heap.objs.size],_,Iel X.K b,H1,rfl,I2,vA b _ _ (Nat.succ_ne_self _),⟨⟨_,he⟩,hi⟩,fun c hc => ?_,q⟩
 rcases List.mem_cons.mp hc with rfl | hc
 ·exact I1.fpOk (Nat.le_succ _) (I1.hok.fresh (Nat.le_succ _))
 ·rw [List.mem_singleton] at hc
  subst hc
  exact I1.fpOk (Nat.le_refl _) (I1.hok.fresh (Nat.le_refl _))
end
end L2
namespace Z
open PySem L2
section
variable {X:Cx}{Γ:Gm}{M:Mem}{k:D→Mem→Prop}{pos:Pos}{a b:Expr}{rest:List Expr}
theorem aAC {K:Fg}{a:Addr}{vs:List V}{ds:List D}{G0:Hp} (s:G0 a=some (.lst vs)) (dn:Dens K G0 ds vs):YD K (Iel K a) (iD ds) G0 where
 go:=fun i G H M sg rl h=>by
  have hi:i < vs.length:=by rw [← dn.len]; simpa [iD] using h
  exact ⟨vs,vs[i],SqL.of (rl.same _ _ (sg _ _ s)),by simp [hi]⟩
 yld:=fun i G H M x H' sg rl h y=>by
  obtain ⟨T,v,hT,rfl,rfl,hx⟩:=y
  have hx':=hx vs (SqL.of (rl.same _ _ (sg _ _ s)))
  obtain ⟨d,hd,e⟩:=dn.get' hx'
  have st:=rl.new (o := .tup [.int (i:Int),v]) hT
  exact ⟨_, .tup [.int (i:Int),d],st,by simp [iD,hd],iN (SqT.of bF) (cC cA (cC ((e.up sg).up st.gg) cW))⟩
 stop:=fun i G H M sg rl h=>⟨vs,SqL.of (rl.same _ _ (sg _ _ s)),by rw [← dn.len]; simpa [iD] using h.symm⟩
theorem rQ {elts:List Expr}{kk:Nat}{tp p:Pos}{ki:List D→Mem→Prop} (hm:X.mg "enumerate" = none) (hv:bootBuiltins "enumerate" = some (.type "enumerate")) (h:GA X [a] Γ M fun ds M1=>∃ es,ds=[.lst es]∧ki (iD es) M1) (hg:Gl X "enumerate" := by rfl) (hs:starEach [a] X.env=[(false,eval a X.env)]:=by rfl) :
  GI X (.Tuple elts kk tp) (.Call (.Name "enumerate" p) [a] [] pos) Γ M ki:=fun σ G H Rr en rl q=>by
 refine k8 (aAM hg hm hv pUA hs) ?_
 refine h σ G H _ en rl fun vs G1 H1 ds M1 s1 e1 ⟨es,ed,h1⟩ => ?_
 subst ed
 obtain ⟨v,rfl,dv⟩:=dens1 e1
 obtain ⟨b,ws,rfl,sq,dn⟩:=dv.lst_
 exact ⟨b,rfl,⟨ws,SqL.of (s1.rel.same _ _ sq)⟩,q _ _ _ _ _ s1 (aAC sq dn) h1⟩
end
section
variable {X:Cx}{pins:List (Addr × Obj)}{σ:St}{H:Hp}{s:Shared}
theorem aE3 (I:Inv X pins σ H s) {n:Nat}{d e:D}{v u:V}{v' u':Value} (A:Around) (g1:Disp d) (g2:Disp e) (h1:okD n d=true) (h2:okD n e=true) (x:Den X.K H d v) (y:Den X.K H e u) (rx:RelV v v') (ry:RelV u u') (hu:A.units+n < cLine):SeqAt.RcNeAt A s v' u' (!eqD d e):=by
 cases g1 with
 | tup ds =>
  obtain ⟨a,its,vs,rfl,it,rv,dn⟩:=cP I x rx
  cases g2 with
  | lst es=>obtain ⟨b,its2,vs2,rfl,it2,_⟩:=cQ I y ry; simp only [eqD]; exact SeqAt.RcNeAt.tuple_list it it2 (by omega)
  | tup es =>
   obtain ⟨b,its2,vs2,rfl,it2,rv2,dn2⟩:=cP I y ry
   cases n with
   | zero=>simp [okD] at h1
   | succ n =>
    have k1:okDs n ds=true:=by simpa only [okD] using h1
    have k2:okDs n es=true:=by simpa only [okD] using h2
    have:=SeqAt.RcNeAt.tuples (A:=A) (s:=s) (e:=eqJ ds es) it it2 (by omega) (fun j g1 g2=>by
     obtain ⟨c,v1,e1,q1,r1⟩:=c0 dn rv g1
     obtain ⟨c2,v2,e2,q2,r2⟩:=c0 dn2 rv2 g2
     have:=eqAt_D I c n c2 v1 v2 _ _ A.in1 (cF k1 e1) (cF k2 e2) q1 q2 r1 r2 (by show A.units+1+n < cLine; omega)
     unfold eqJ; rw [e1,e2]; exact this)
    rw [List.size_toArray,List.size_toArray,← rv.length,← rv2.length,← dn.len,← dn2.len,dU] at this
    simp only [eqD]; exact this
 | lst ds =>
  obtain ⟨a,its,vs,rfl,it,rv,dn⟩:=cQ I x rx
  cases g2 with
  | tup es=>obtain ⟨b,its2,vs2,rfl,it2,_⟩:=cP I y ry; simp only [eqD]; exact SeqAt.RcNeAt.list_tuple it it2 (by omega)
  | lst es =>
   obtain ⟨b,its2,vs2,rfl,it2,rv2,dn2⟩:=cQ I y ry
   cases n with
   | zero=>simp [okD] at h1
   | succ n =>
    have k1:okDs n ds=true:=by simpa only [okD] using h1
    have k2:okDs n es=true:=by simpa only [okD] using h2
    simp only [eqD]
    by_cases hl:ds.length=es.length
    ·have hsz:its.toArray.size=its2.toArray.size:=by rw [List.size_toArray,List.size_toArray,← rv.length,← rv2.length,← dn.len,← dn2.len,hl]
     have:=SeqAt.RcNeAt.lists (A:=A) (s:=s) (e:=eqJ ds es) it it2 hsz (by omega) (fun j g1 g2=>by
      obtain ⟨c,v1,e1,q1,r1⟩:=c0 dn rv g1
      obtain ⟨c2,v2,e2,q2,r2⟩:=c0 dn2 rv2 g2
      have:=eqAt_D I c n c2 v1 v2 _ _ A.in1 (cF k1 e1) (cF k2 e2) q1 q2 r1 r2 (by show A.units+1+n < cLine; omega)
      unfold eqJ; rw [e1,e2]; exact this)
     have e3:=dU ds es
     rw [← hl,Nat.min_self,beq_self_eq_true,Bool.and_true] at e3
     rw [List.size_toArray,← rv.length,← dn.len,e3] at this
     exact this
    ·have hsz:(its.toArray.size != its2.toArray.size)=true:=by rw [bne_iff_ne,List.size_toArray,List.size_toArray,← rv.length,← rv2.length,← dn.len,← dn2.len]; exact hl
     have e3:=dU ds es
     rw [beq_eq_false_iff_ne.mpr hl,Bool.and_false] at e3
     rw [← e3]
     exact SeqAt.RcNeAt.lists_lengths it it2 hsz (by omega)
end
section
variable {X:Cx}
theorem aE2 {n:Nat} (hu:X.A.units+n < cLine):OpR X (compareOp .NotEq) (rEqD X.K n true):=by
 intro pins s σ H x y v u Q I rx ry h
 obtain ⟨d,e,g1,g2,h1,h2,dx,dy,q⟩:=h
 exact aE3 I X.A g1 g2 h1 h2 dx dy rx ry hu X.prog X.w X.xe _ ⟨.bl (!eqD d e),H,I,rfl,q⟩
theorem aE4 {K:Fg}{n:Nat}{M:Mem}{k:D→Mem→Prop}{d1 d2 e1 e2:D} (r1:Rs M d1 e1) (r2:Rs M d2 e2) (h1:okD n e1=true) (h2:okD n e2=true) (h:k (.bl (!eqD e1 e2)) M):Op2 K (rEqD K n true) d1 d2 M k:=fun G H v1 v2 Q rl x y q =>
 ⟨e1,e2,r1.disp,r2.disp,h1,h2,r1.den rl x,r2.den rl y,q _ _ _ _ _ (Stp.refl rl) dB h⟩
end
section
variable {X:Cx}{M:Mem}{k:D→Mem→Prop}{K:Fg}
end
end Z
namespace Z
open PySem L2 PySem.Spec PyProof.Rows
def tyN:D→String
 | .non => "NoneType"
 | .bl _ => "bool"
 | .int _ => "int"
 | .str _ => "str"
 | .tup _ => "tuple"
 | .lst _ | .fl _ | .mt _ | .st _ => "list"
def isN (T S:String):Bool:=S == T || (S == "bool" && T == "int")
def isD (T:String) (d:D):Bool:=isN T (tyN d)
def Plain5 (T:String):Prop:=T = "int" ∨ T = "bool" ∨ T = "str" ∨ T = "tuple" ∨ T = "list"
theorem aGQ {K:Fg}{T S:String} (h:Plain5 T) (h2:S = "NoneType" ∨ Plain5 S):PySem.W.kitOne K (.type S) (.type T)=some (isN T S):=by
 rcases h with rfl | rfl | rfl | rfl | rfl <;> rcases h2 with rfl | rfl | rfl | rfl | rfl | rfl <;> first
  | exact aDY (by decide +kernel) (by decide +kernel) (by decide +kernel)
  | (rw [zP (by decide +kernel)]; decide +kernel)
theorem aE1 (d:D):tyN d = "NoneType" ∨ Plain5 (tyN d):=by
 cases d with
 | non=>exact .inl rfl
 | bl b=>exact .inr (.inr (.inl rfl))
 | int b=>exact .inr (.inl rfl)
 | str b=>exact .inr (.inr (.inr (.inl rfl)))
 | tup b=>exact .inr (.inr (.inr (.inr (.inl rfl))))
 | lst b=>exact .inr (.inr (.inr (.inr (.inr rfl))))
 | fl b=>exact .inr (.inr (.inr (.inr (.inr rfl))))
 | mt b=>exact .inr (.inr (.inr (.inr (.inr rfl))))
 | st b=>exact .inr (.inr (.inr (.inr (.inr rfl))))
theorem aFZ {K:Fg}{T:String} (h:Plain5 T) (d:D):PySem.W.kitOne K (.type (tyN d)) (.type T)=some (isD T d):=aGQ h (aE1 d)
def Slv:D→Prop
 | .mt _ | .st _=>False
 | _=>True
theorem yN {X:Cx}{T:String} (hT:Plain5 T):dH X (.builtin "isinstance") (fun xs H Q=>∃ x d,xs=[x, .ty T]∧Slv d∧Den X.K H d x∧Q (.bl (isD T d)) H):=by
 intro pins s σ H xs us Q I r h
 obtain ⟨x,d,rfl,nm,dx,q⟩:=h
 obtain ⟨u,w',rfl,rx,r2⟩:=vals2 r
 cases (show w'=Value.type T from r2)
 have e:=aFZ (K:=X.K) hT d
 have fin:∀ tk,∃ v H',Inv X pins σ H' { s with toks:=tk }∧RelV v (Value.bool (isD T d))∧Q v H':=fun tk=>⟨.bl (isD T d),H,I.tok tk,rfl,q⟩
 cases d with
 | non=>rw [dx.non_] at rx; cases (show u=Value.none from rx); exact PySem.W.kia_one PySem.W.kitx_none I.kIn True.intro e (fun z=>nomatch z) fin
 | bl y=>rw [dx.bl_] at rx; cases (show u=Value.bool y from rx); exact PySem.W.kia_one PySem.W.kitx_bool I.kIn True.intro e (fun z=>nomatch z) fin
 | int i=>rw [dx.int_] at rx; obtain ⟨t,q2⟩:=(show ∃ t,u=Value.int i t from rx); cases q2; exact PySem.W.kia_one PySem.W.kitx_int I.kIn True.intro e (fun z=>nomatch z) fin
 | str y=>rw [dx.str_] at rx; obtain ⟨t,q2⟩:=(show ∃ t,u=Value.str y t from rx); cases q2; exact PySem.W.kia_one PySem.W.kitx_str I.kIn True.intro e (fun z=>nomatch z) fin
 | mt a=>exact nm.elim
 | st a=>exact nm.elim
 | tup ds =>
  obtain ⟨a,its,vs,rfl,⟨o,h1,h2,_⟩,_⟩:=cP I dx rx
  exact PySem.W.kia_one PySem.W.kitx_tuple I.kIn ⟨o,h1,h2⟩ e (fun z=>nomatch z) fin
 | lst ds =>
  obtain ⟨a,its,vs,rfl,⟨o,h1,h2,_⟩,_⟩:=cQ I dx rx
  exact PySem.W.kia_one PySem.W.kitx_list I.kIn ⟨o,h1,h2⟩ e (fun z=>nomatch z) fin
 | fl ds =>
  obtain ⟨a,vs,rfl,sq,dn⟩:=dx.fl_
  cases (show u=Value.ref a from rx)
  obtain ⟨its,rv,pt,_⟩:=I.list sq
  obtain ⟨o,h1,h2,_⟩:=pt.isList
  exact PySem.W.kia_one PySem.W.kitx_list I.kIn ⟨o,h1,h2⟩ e (fun z=>nomatch z) fin
inductive Rz (M:Mem):D→D→Prop
 | self {d:D} (h:Slv d):Rz M d d
 | mt {a:Addr}{ds:List D} (h:M a=some (.lst ds)):Rz M (.mt a) (.lst ds)
section
variable {X:Cx}{Γ:Gm}{M:Mem}{k:D→Mem→Prop}{pos p1 p2:Pos}{e:Expr}
theorem i8 {C:Str}{T:String} (hT:Plain5 T) (hm:X.mg "isinstance" = none) (hmT:X.mg C=none) (hvT:bootBuiltins C=some (.type T)) (h:GE X e Γ M fun d M1=>∃ d',Rz M1 d d'∧k (.bl (isD T d')) M1) (hg:Gl X "isinstance" := by rfl) (hgT:Gl X C:=by rfl)
  (hn:C ≠ "__name__" := by decide) (hdb:(C == ("__debug__" : Str))=false:=by decide)
  (he:starEach [e, .Name C p2] X.env=(false,eval e X.env)::starEach [.Name C p2] X.env:=by rfl) (hpl:(backTo pos (starEach [.Name C p2] X.env)).any (·.1)=false:=by rfl):GE X (.Call (.Name "isinstance" p1) [e, .Name C p2] [] pos) Γ M k:=fun σ G H Q en rl q=>by
 refine b3 (rW (yN hT) hg hm PyProof.Rows.boot_isinstance (oY (hs:=he) pU (oY (aC6 (v := .ty T) hgT hmT hvT rfl hn hdb) wF)) (by decide) (by decide) he hpl) ?_
 refine h σ G H _ en rl fun v G1 H1 d M1 s1 e1 ⟨d',rz,h1⟩ => ?_
 refine ⟨v,d',rfl,?_,?_,q _ _ _ _ _ s1 dB h1⟩
 ·cases rz with
  | self h=>exact h
  | mt h=>exact True.intro
 ·cases rz with
  | self h=>exact e1.up s1.rel.same
  | mt hm =>
   obtain ⟨_,vs,e2,dn⟩:=s1.rel.mem _ _ hm
   rw [e1.mt_]; exact eM e2 (dn.up s1.rel.same)
end
end Z
namespace HD
open PySem PySem.Spec PyProof.Rows
section
variable {prog:Program}{w:World}{A:Around}{E:Value→Shared→Prop}{s:Shared}{d it:Addr}{o:Obj}{es:Array DictEntry}{ep:Nat}
end
end HD
namespace HD
open PySem PySem.Spec PyProof.Rows
section
variable {prog:Program}{w:World}{K:Type} [DecidableEq K] {knd:HeapKind prog w K}{A:Around}{E:Value→Shared→Prop}{s:Shared}{d a:Addr}{xs:List (K × Addr × Value)}{k:K}{v:Value}
end
end HD
namespace HD
open PySem PySem.Spec PyProof.Rows
section
variable {prog:Program}{w:World}{K:Type} [DecidableEq K] {knd:HeapKind prog w K}{A:Around}{E:Value→Shared→Prop}{s:Shared}{d o:Addr}{xs ys:List (K × Addr × Value)}
end
end HD
namespace Z
open PySem PySem.Spec PyProof.Rows L2
end Z
namespace Z
open PySem PySem.Spec PyProof.Rows L2
section
variable {X:Cx}{pins:List (Addr × Obj)}{σ:L2.St}{H:Hp}{s:Shared}{a b:Addr}{k:List Int}{ks:List (List Int)}{xs:List (List Int × Addr)}{ep:Nat}
theorem p3 {P:Program}{w:World}:∀ {ks:List Int}{us:List Value},Vals (ks.map V.int) us→ItemsAre (intKind P w) ks us
 | [],_,r=>by rw [List.map_nil] at r; cases r; exact .nil
 | k::ks,_,r=>by
  rw [List.map_cons] at r
  cases r with
  | @cons x y l m h t =>
   obtain ⟨tk,rfl⟩:=(show ∃ t,y=Value.int k t from h)
   exact .cons (by show Value.isInt k (Value.int k tk)=true; simp [Value.isInt]) (p3 t)
end
end Z
namespace Z
open PySem L2
inductive Stt (M:Mem):D→List (List Int)→Prop
 | st (ks:List (List Int)):Stt M (.st ks) ks
 | mt {a:Addr}{ks:List (List Int)} (h:M a=some (.st ks)):Stt M (.mt a) ks
section
variable {K:Fg}{G H:Hp}{M:Mem}{k:D→Mem→Prop}
end
section
variable {X:Cx}{Γ:Gm}{M:Mem}{k:D→Mem→Prop}{kg:Gm→Mem→Prop}{F:Fin}{pos:Pos}{a b c e o tg iter:Expr}{ss:List Stmt}
end
end Z
namespace Z
open PySem L2
section
variable {X:Cx}{Γ:Gm}{M:Mem}{tg iter:Expr}{ki:List D→Mem→Prop}
end
end Z
namespace R
structure Gth (cells:List Cell) (st:List (Int × Int)) (s:Cell) (ks ws:List Cell) (busy:Option (Int × Int × List (Int × Int))):Prop where
 s0:s∈ks
 all:∀ c∈ks,Rch cells st s c
 sub:∀ c∈ks,c∈cells
 nd:ks.Nodup
 ww:∀ c∈ws,c∈ks
 cl:∀ x y,[x,y]∈ks→[x,y]∈ws∨(∃ dn,busy=some (x,y,dn))∨∀ d∈st,[x+d.1,y+d.2]∈cells→[x+d.1,y+d.2]∈ks
 bz:∀ x y dn,busy=some (x,y,dn)→[x,y]∈ks∧∀ d∈dn,[x+d.1,y+d.2]∈cells→[x+d.1,y+d.2]∈ks
section
variable {cells:List Cell}{st:List (Int × Int)}{s:Cell}{ks ws:List Cell}{x y:Int}{dn:List (Int × Int)}{d:Int × Int}
theorem yW {α:Type} [DecidableEq α]:∀ {ks cs:List α},ks.Nodup→(∀ k∈ks,k∈cs)→ks.length≤cs.length
 | [],_,_,_=>Nat.zero_le _
 | k::ks,cs,h,hs=>by
  rw [List.nodup_cons] at h
  have hk:=hs k (List.mem_cons_self ..)
  have:=yW (ks:=ks) (cs:=cs.erase k) h.2 fun j hj=>by
   have:j≠k:=fun e=>h.1 (e ▸ hj)
   exact (List.mem_erase_of_ne this).mpr (hs j (List.mem_cons_of_mem _ hj))
  rw [List.length_erase_of_mem hk] at this
  have:0 < cs.length:=List.length_pos_of_mem hk
  rw [List.length_cons]; omega
theorem Gth.len (h:Gth cells st s ks ws b):ks.length≤cells.length:=yW h.nd h.sub
end
end R
namespace Q
open PySem L2 Z
end Q
namespace R
open PySem L2
abbrev RS:=List (Nat × Nat) × Option Nat
structure RInv (bs:List Bool) (n:Nat) (q:RS):Prop where
 bd:∀ p∈q.1,p.1 < p.2∧p.2 < n
 bg:∀ b,q.2=some b→b < n
 len:q.1.length≤n
 any:(q.1≠[]∨q.2≠none)↔∃ i,i < n∧bs.getD i false=true
end R
namespace Q
open PySem L2 Z
end Q
namespace R
open PySem L2
end R
namespace Q
open PySem L2 Z
theorem m7 (z:Str) (zr:List Str):atI ((z::zr).map D.str) 0=some (.str z):=cD (j:=0) rfl
theorem uU (z:Str) (js:List Nat):PySem.Txt.join Str.empty (js.map fun j=>(⟨#[R.atS z j]⟩:Str))=R.ofL (js.map (R.atS z)):=by
 have:=R.o6 (js.map (R.atS z))
 rw [List.map_map] at this
 exact this
def sZ:Ct:=fun ds M k=>∃ (z:Str) (js:List Nat),ds=[.str z, .lst (natD js)]∧z.length≤1000∧js.length≤1000∧(∀ j∈js,j < z.length)∧k (.str (R.ofL (js.map (R.atS z)))) M
def mO (xs ys:List D) (zs:List Str):D:=oF (qF xs (R.chg (R.aE zs))) (qF ys (R.chg zs)) (R.bN zs)
structure Grp (cells:List R.Cell) (st:List (Int × Int)) (n:Nat) (gs:List (List R.Cell)):Prop where
 len:gs.length=(R.starts cells st n).length
 at_:∀ (j:Nat) s,(R.starts cells st n)[j]?=some s→∃ ks,gs[j]?=some ks∧∀ c,c∈ks↔R.Rch cells st s c
noncomputable def aGB (cells:List R.Cell) (st:List (Int × Int)) (s:R.Cell) (w h:Nat):List Str:=R.aEL (fun a u => @decide (R.Rch cells st s [a,u]) (Classical.propDecidable _)) w h
noncomputable def tE (xs ys:List D) (cells:List R.Cell) (st:List (Int × Int)) (ss:List R.Cell):List D:=ss.map fun s=>mO xs ys (aGB cells st s (xs.length - 1) (ys.length - 1))
def straight:List (Int × Int):=[(1,0),(0,1),(-1,0),(0, -1)]
def sB:List (Int × Int):=[(1,0),(1,1),(0,1),(-1,1),(-1,0),(-1, -1),(0, -1),(1, -1)]
noncomputable def pcs (xs ys:List D) (zs:List Str):List D:=tE xs ys (R.j5 zs true xs.length ys.length) straight (R.starts (R.j5 zs true xs.length ys.length) straight (R.j5 zs true xs.length ys.length).length)
theorem Grp.nil (cells:List R.Cell) (st:List (Int × Int)):Grp cells st 0 []:=⟨rfl,fun j s h=>by simp [R.starts] at h⟩
theorem aB8 {X:Cx}{Γ:Gm}{M:Mem}{k:D→Mem→Prop}{pos:Pos}{x:Str}{a:Addr}{d:D} (hm:X.mg x=some (.ref a)) (hd:∀ G,Den X.K G d (.ref a)) (h:k d M) (hg:Gl X x:=by rfl) (hb:(x == ("__debug__" : Str))=false:=by decide):GE X (.Name x pos) Γ M k :=
 fun σ G H Q en rl q=>b3 (uK (v := .ref a) hg hm rfl hb) (q _ G H d M (Stp.refl rl) (hd G) h)
def al9 (all:Bool) (r u:Int):Bool:=all || r * u == 0
def st9 (all:Bool):List (Int × Int):=[(-1, -1),(-1,0),(-1,1),(0, -1),(0,0),(0,1),(1, -1),(1,0),(1,1)].filter fun d=>al9 all d.1 d.2
def l3:List Int:=[-1,0,1]
theorem aFG {K:Fg}{G:Hp}{a:Addr}{i j:Int}{ti tj n:Nat}{od:Option Addr}{sl:Array (Option Value)} (h:K.lookup a=some ⟨.type "tuple", od, .seq #[.int i ti, .int j tj] n,sl⟩):Den K G (cU (i,j)) (.ref a) :=
 iN (vs:=[.int i, .int j]) (.inr ⟨_,_,_,h,rfl,rfl,(by show (2:Nat)≤sizeLine; decide), .cons ⟨ti,rfl⟩ (.cons ⟨tj,rfl⟩ .nil)⟩) (cC cA (cC cA cW))
noncomputable def hls (xs ys:List D) (zs:List Str):List D:=tE xs ys (R.j5 zs false xs.length ys.length) sB ((R.starts (R.j5 zs false xs.length ys.length) sB (R.j5 zs false xs.length ys.length).length).drop 1)
end Q
namespace HT
open PySem PySem.Spec PyProof.Rows
section
variable {prog:Program}{w:World}{A:Around}{E:Value→Shared→Prop}{s:Shared}
end
end HT
namespace L2
open PySem PySem.Spec PyProof.Rows
section
variable {X:Cx}
end
end L2
namespace Z
open PySem L2
theorem vB {α:Type} (l:List α):cutD l (some 1) none=l.drop 1:=by
 unfold cutD
 have e1:HT.sIx l.length 0 (some 1)=min 1 l.length:=HT.aDI l.length 0 1
 have e2:HT.sIx l.length l.length none=l.length:=rfl
 rw [e1,e2]
 by_cases h:1≤l.length
 ·rw [Nat.min_eq_left h,List.take_of_length_le (by rw [List.length_drop]; exact Nat.le_refl _)]
 ·have:l=[]:=List.length_eq_zero_iff.mp (by omega)
  subst this; rfl
end Z
namespace Q
open PySem L2 Z
mutual
def tameB:Nat→D→Bool
 | _, .non | _, .bl _=>true
 | _, .int i=>decide (i.natAbs < 10 ^ 65)
 | _, .str z=>decide (z.length≤1000)
 | n+1, .tup ds=>decide (ds.length≤100) && tamesB n ds
 | n+1, .lst ds=>decide (ds.length≤100) && tamesB n ds
 | _,_=>false
def tamesB:Nat→List D→Bool
 | _,[]=>true
 | n,d::ds=>tameB n d && tamesB n ds
end
theorem nR {n:Nat}:∀ {ds:List D},(∀ x∈ds,tameB n x=true)→tamesB n ds=true
 | [],_=>by simp only [tamesB]
 | d::ds,h=>by
  simp only [tamesB,Bool.and_eq_true]
  exact ⟨h d List.mem_cons_self,nR fun x hx=>h x (List.mem_cons_of_mem _ hx)⟩
theorem aCG {n:Nat}{ds:List D} (h1:ds.length≤100) (h2:∀ x∈ds,tameB n x=true):tameB (n+1) (.tup ds)=true:=by
 simp only [tameB,Bool.and_eq_true,decide_eq_true_eq]
 exact ⟨h1,nR h2⟩
theorem aAL {n:Nat}{ds:List D} (h1:ds.length≤100) (h2:∀ x∈ds,tameB n x=true):tameB (n+1) (.lst ds)=true:=by
 simp only [tameB,Bool.and_eq_true,decide_eq_true_eq]
 exact ⟨h1,nR h2⟩
mutual
theorem tame_ok:∀ (n:Nat) (d:D),tameB n d=true→okD n d=true
 | _, .non,_=>by simp only [okD]
 | _, .bl _,_=>by simp only [okD]
 | _, .int _,_=>by simp only [okD]
 | _, .str _,_=>by simp only [okD]
 | n+1, .tup ds,h=>by
  simp only [tameB,Bool.and_eq_true] at h
  simp only [okD]; exact tames_ok n ds h.2
 | n+1, .lst ds,h=>by
  simp only [tameB,Bool.and_eq_true] at h
  simp only [okD]; exact tames_ok n ds h.2
 | 0, .tup _,h=>by simp [tameB] at h
 | 0, .lst _,h=>by simp [tameB] at h
 | _, .mt _,h=>by simp [tameB] at h
 | _, .fl _,h=>by simp [tameB] at h
 | _, .st _,h=>by simp [tameB] at h
theorem tames_ok:∀ (n:Nat) (ds:List D),tamesB n ds=true→okDs n ds=true
 | _,[],_=>by simp only [okDs]
 | n,d::ds,h=>by
  simp only [tamesB,Bool.and_eq_true] at h
  simp only [okDs,tame_ok n d h.1,tames_ok n ds h.2,Bool.and_true]
end
theorem aAN {n:Nat}{d:D} (h:tameB n d=true):Slv d:=by
 cases d <;> first | exact trivial | (exfalso; simp [tameB] at h)
theorem rH {n:Nat}{z:Str} (h:tameB n (.str z)=true):z.length≤1000:=by simpa [tameB] using h
mutual
theorem tame_up:∀ (n:Nat) (d:D),tameB n d=true→tameB (n+1) d=true
 | _, .non,_=>by simp only [tameB]
 | _, .bl _,_=>by simp only [tameB]
 | _, .int _,h=>by simpa only [tameB] using h
 | _, .str _,h=>by simpa only [tameB] using h
 | n+1, .tup ds,h=>by
  simp only [tameB,Bool.and_eq_true] at h ⊢
  exact ⟨h.1,tames_up n ds h.2⟩
 | n+1, .lst ds,h=>by
  simp only [tameB,Bool.and_eq_true] at h ⊢
  exact ⟨h.1,tames_up n ds h.2⟩
 | 0, .tup _,h=>by simp [tameB] at h
 | 0, .lst _,h=>by simp [tameB] at h
 | _, .mt _,h=>by simp [tameB] at h
 | _, .fl _,h=>by simp [tameB] at h
 | _, .st _,h=>by simp [tameB] at h
theorem tames_up:∀ (n:Nat) (ds:List D),tamesB n ds=true→tamesB (n+1) ds=true
 | _,[],_=>by simp only [tamesB]
 | n,d::ds,h=>by
  simp only [tamesB,Bool.and_eq_true] at h ⊢
  exact ⟨tame_up n d h.1,tames_up n ds h.2⟩
end
theorem sS (z:Str):isD "str" (.str z)=true:=rfl
theorem iI (i:Int):isD "int" (.int i)=true:=rfl
theorem bI (i:Int):isD "bool" (.int i)=false:=rfl
theorem aDT (d:D):(∃ z,d = .str z)∨(isD "str" d=false∧∀ z,d ≠ .str z):=by
 cases d with
 | str ls=>exact .inl ⟨ls,rfl⟩
 | _=>exact .inr ⟨rfl,fun _ h=>nomatch h⟩
def isW:D→Bool
 | .int _=>true
 | _=>false
theorem aDU (d:D):(∃ i,d = .int i)∨(isW d=false∧(isD "int" d=false∨isD "int" d=true∧isD "bool" d=true)):=by
 cases d with
 | int i=>exact .inl ⟨i,rfl⟩
 | bl b=>exact .inr ⟨rfl, .inr ⟨rfl,rfl⟩⟩
 | _=>exact .inr ⟨rfl, .inl rfl⟩
def ltP (p q:Int × Int):Bool:=decide (p.1 * q.2 < q.1 * p.2)
def rowB (w:Nat):D→Bool
 | .str z=>decide (z.length=w) && z.cps.toList.all fun c=>c == 35 || c == 46
 | _=>false
theorem aFF {w:Nat}{d:D} (h:∀ z,d ≠ .str z):rowB w d=false:=by
 cases d with
 | str z=>exact absurd rfl (h z)
 | _=>rfl
def fitB (rs:List D) (nx ny:Nat):Bool:=decide (rs.length=ny - 1) && rs.all (rowB (nx - 1))
def Sq2 (t:Bool) (d:D) (ds:List D):Prop:=d=if t=true then .lst ds else .tup ds
def nO:Ct:=fun ds M k=>∃ d,ds=[d]∧Slv d∧k (.bl (isW d)) M
def wH:Ct:=fun ds M k=>∃ d n w,ds=[d, .int ((w:Nat):Int)]∧tameB n d=true∧k (.bl (rowB w d)) M
def aBG:Ct:=fun ds M k=>∃ t dr dx dy rs xs ys n,ds=[dr,dx,dy]∧Sq2 t dr rs∧Sq2 t dx xs∧Sq2 t dy ys∧(∀ r∈rs,tameB n r=true)∧rs.length≤100∧xs.length≤100∧ys.length≤100∧k (.bl (fitB rs xs.length ys.length)) M
def qO:Ct:=fun ds M k=>∃ (t:Bool) (r:D) (zs:List Str) (n j:Nat),ds=[r, .int (j:Int)]∧Sq2 t r (zs.map .str)∧zs.length≤1000∧n≤1000∧(∀ z∈zs,z.length=n)∧j < n∧k (.str (R.ofL (zs.map (R.atS · j)))) M
def pY:Ct:=fun ds M k=>∃ (t:Bool) (r:D) (zs:List Str) (n:Nat),ds=[r]∧Sq2 t r (zs.map .str)∧zs.length≤1000∧n≤1000∧(∀ z∈zs,z.length=n)∧k (.lst ((R.aE zs).map .str)) M
def pN:Ct:=fun ds M k=>∃ (t:Bool) (r:D) (zs:List Str) (n:Nat),ds=[r]∧Sq2 t r (zs.map .str)∧zs.length≤1000∧n≤1000∧(∀ z∈zs,z.length=n)∧k (.lst (natD (R.chg zs))) M
def q5:Ct:=fun ds M k=>∃ (t:Bool) (dx dy dr:D) (xs ys:List D) (zs:List Str) (n:Nat),ds=[dx,dy,dr]∧Sq2 t dx xs∧Sq2 t dy ys∧Sq2 t dr (zs.map .str)∧zs.length≤900∧n≤900∧(∀ z∈zs,z.length=n)∧(∀ j∈R.chg (R.aE zs),j < xs.length)∧(∀ j∈R.chg zs,j < ys.length)∧k (mO xs ys zs) M
theorem maxz0 (n:Nat):(if 0 > (n:Int) - 1 then 0 else (n:Int) - 1)=((n - 1:Nat):Int):=by split <;> omega
theorem sD {α:Type} (f:α→Bool) (l:List α):(l.map f).all id=l.all f:=by rw [List.all_map]; rfl
theorem zZ {K:Fg}{M:Mem}{k:D→Mem→Prop}{x y:Str} (h:k (.bl (!(Builtin.Str.occurrences y x 0 y.length 1).isEmpty)) M):Op2 K (fun x y H Q=>∃ i j,x = .str i∧y = .str j∧Q (.bl (!(Builtin.Str.occurrences j i 0 j.length 1).isEmpty)) H) (.str x) (.str y) M k:=fun G H v1 v2 Q rl e1 e2 q =>
 ⟨x,y,e1.str_,e2.str_,q _ _ _ _ _ (Stp.refl rl) dB h⟩
theorem tf (b:Bool):b=false∨b=true:=by cases b <;> simp
theorem oJ {b:Bool}{P Q:Prop} (h:b=true) (p:P):if b=true then P else Q:=by rw [if_pos h]; exact p
theorem mC {b:Bool}{P Q:Prop} (h:b=false) (p:Q):if b=true then P else Q:=by rw [if_neg (by rw [h]; exact Bool.false_ne_true)]; exact p
theorem lT:R.chg []=[]:=by decide +kernel
theorem eP {zs:List Str}{ny:Nat} (h:zs.length=ny - 1):∀ j∈R.chg zs,j < ny:=fun j hj=>by
 have:=R.c7 zs j hj
 cases zs with
 | nil=>rw [lT] at hj; cases hj
 | cons z zr=>rw [List.length_cons] at h this; omega
theorem eQ {zs:List Str}{nx:Nat} (h:∀ z∈zs,z.length=nx - 1):∀ j∈R.chg (R.aE zs),j < nx:=fun j hj=>by
 have h1:=(R.nM h).1
 have:=R.c7 _ j hj
 cases hc:R.aE zs with
 | nil=>rw [hc,lT] at hj; cases hj
 | cons z zr=>rw [hc] at h1 this; rw [List.length_cons] at h1 this; omega
theorem aAQ {xs ys:List D} (zs:List Str) (hx:∀ x∈xs,okD 1 x=true) (hy:∀ y∈ys,okD 1 y=true):okD 3 (oF xs ys zs)=true:=by
 have o1:=lW hx
 have o2:=lW hy
 have o3:okDs 1 (zs.map D.str)=true:=lW fun d hd=>by obtain ⟨z,_,rfl⟩:=List.mem_map.mp hd; rfl
 simp only [oF,okD,okDs,o1,o2,o3,Bool.and_true]
end Q
namespace Z
open PySem L2 PySem.Spec PyProof.Rows
section
variable {K:Fg}{M:Mem}{k:D→Mem→Prop}{ds es:List D}
end
end Z
namespace Q
open PySem L2 Z
theorem aFK {X:Cx}{e:Expr}{Γ:Gm}{M:Mem}{P kb:Bool→Mem→Prop} (h:GT X e Γ M P) (hk:∀ c M1,P c M1→kb c M1):GT X e Γ M kb:=fun σ G H Q en rl q=>h σ G H Q en rl fun b G' H' M' s hp=>q b G' H' M' s (hk _ _ hp)
theorem oV {α:Type}{l:List α} (h:l≠[]):∃ r x,l=r++[x]:=by
 rcases List.eq_nil_or_concat l with e | ⟨r,x,e⟩
 ·exact absurd e h
 ·exact ⟨r,x,by simpa using e⟩
structure TT (n:Nat) (xs:List D):Prop where
 len:xs.length≤n
 each:∀ x∈xs,tameB 2 x=true
theorem TT.tup {n:Nat}{xs:List D} (h:TT n xs) (hn:n≤100):tameB 3 (.tup xs)=true:=aCG (Nat.le_trans h.len hn) h.each
theorem TT.lst {n:Nat}{xs:List D} (h:TT n xs) (hn:n≤100):tameB 3 (.lst xs)=true:=aAL (Nat.le_trans h.len hn) h.each
theorem aC1 {n:Nat}{zs:List Str} (hz:∀ z∈zs,z.length≤1000) (hl:zs.length≤n):TT n (zs.map .str):=⟨by rw [List.length_map]; exact hl,fun x hx=>by
 obtain ⟨z,hz',rfl⟩:=List.mem_map.mp hx
 simp only [tameB,decide_eq_true_eq]
 exact hz z hz'⟩
theorem yD {n:Nat}{z:Str} (h:z.length≤1000):tameB n (.str z)=true:=by cases n <;> simpa only [tameB,decide_eq_true_eq] using h
theorem two {n:Nat}{x y:D} (hx:tameB n x=true) (hy:tameB n y=true):∀ d∈[x,y],tameB n d=true:=fun d hd=>by
 simp only [List.mem_cons,List.not_mem_nil,or_false] at hd
 rcases hd with rfl | rfl <;> assumption
end Q
namespace Z
open PySem L2
end Z
namespace Q
open PySem L2 Z
theorem aFW {zs:List Str}{nx ny:Nat} (h:zs.length=ny - 1) (hz:∀ z∈zs,z.length=nx - 1):fitB (zs.map .str) nx ny=zs.all fun z=>z.cps.toList.all R.sgn:=by
 unfold fitB
 rw [List.length_map,decide_eq_true h,Bool.true_and,List.all_map]
 rw [Bool.eq_iff_iff,List.all_eq_true,List.all_eq_true]
 constructor
 ·intro a z hz'
  have:=a z hz'
  simp only [Function.comp,rowB,Bool.and_eq_true] at this
  exact this.2
 ·intro a z hz'
  simp only [Function.comp,rowB,Bool.and_eq_true]
  exact ⟨decide_eq_true (hz z hz'),a z hz'⟩
def sc (c:Nat) (l:List Nat):Int:=(l.map fun n=>if decide (n=c)=true then (1:Int) else 0).sum
end Q
namespace HD
open PySem PySem.Spec PyProof.Rows
theorem pH {α β:Type} (f:α→β):∀ (l:List α) (i:Nat),(l.eraseIdx i).map f=(l.map f).eraseIdx i
 | [],_=>by simp
 | x::l,0=>by simp
 | x::l,i+1=>by simp only [List.eraseIdx_cons_succ,List.map_cons]; rw [pH f l i]
section
variable {prog:Program}{w:World}{K:Type} [DecidableEq K] {knd:HeapKind prog w K}{A:Around}{E:Value→Shared→Prop}{s:Shared}{d a:Addr}{xs:List (K × Addr × Value)}{k:K}
end
end HD
namespace HD
open PySem PySem.Spec PyProof.Rows
section
variable {prog:Program}{w:World}{K:Type} [DecidableEq K] {knd:HeapKind prog w K}{A:Around}{E:Value→Shared→Prop}{s:Shared}{o:Addr}{ys:List (K × Addr × Value)}
end
end HD
namespace HD
open PySem PySem.Spec PyProof.Rows
section
variable {prog:Program}{w:World}{A:Around}{E:Value→Shared→Prop}{s:Shared}{d o:Addr}{od oo:Obj}{es eo:Array DictEntry}{ep e2:Nat}
end
end HD
namespace Z
open PySem L2
theorem StO.erase {K:Fg}{G:Hp}{o:Option HO}{a:Addr}{ks:List (List Int)}{xs:List (List Int × Addr)}{ep ep':Nat} (h:StO K G o a ks xs ep) (i:Nat):StO K G (some (.ext (DSt a (xs.eraseIdx i) ep'))) a (ks.eraseIdx i) (xs.eraseIdx i) ep' :=
 ⟨List.Nodup.eraseIdx i h.nd,Nat.le_trans (by rw [List.length_eraseIdx]; split <;> omega) h.len,by rw [HD.pH,h.keys],fun p hp=>h.at_ p (List.mem_of_mem_eraseIdx hp),rfl⟩
section
variable {X:Cx}{Γ:Gm}{M:Mem}{k:D→Mem→Prop}{e o:Expr}
end
end Z
namespace Z
open PySem L2
end Z
namespace HD
open PySem PySem.Spec PyProof.Rows
end HD
namespace Z
open PySem L2
end Z
namespace HT
open PySem PyProof.Rows
section
open PySem.SeqAt
open PySem.AutoSeq1 (wpAny_loadPart')
open PySem.MeetsSeq PySem.MeetsSeq2 PySem.MeetsSeq3
end
end HT
namespace Z
open PySem L2
section
variable {X:Cx}{Γ:Gm}{M:Mem}{F:Fin}{tg iter:Expr}{body:List Stmt}{pos:Pos}
end
end Z
namespace Z
open PySem L2
def tk (M:Mem) (b:Addr):Bool:=match M b with
 | some (.lst _)=>true
 | _=>false
def qG (G H:Hp) (M:Mem):Hp:=fun b=>if tk M b=true then H b else G b
def lO (G1:Hp) (M:Mem):Hp:=fun b=>if tk M b=true then none else G1 b
mutual
def noL:D→Bool
 | .non | .bl _ | .int _ | .str _=>true
 | .tup ds=>noLs ds
 | _=>false
def noLs:List D→Bool
 | []=>true
 | d::ds=>noL d && noLs ds
end
theorem aGK {M:Mem}{b:Addr} (h:M b=none):tk M b=false:=by unfold tk; rw [h]
section
variable {K:Fg}{G H G1 H1:Hp}{M M1:Mem}
theorem Rel.gM (rl:Rel K G H M) {b:Addr}{o:HO} (h:G b=some o):M b=none:=by
 cases e:M b with
 | none=>rfl
 | some m=>rw [(rl.mem b m e).1] at h; cases h
theorem Rel.loan_same (rl:Rel K G H M):Same G (qG G H M):=fun b o h=>by
 unfold qG; rw [if_neg (by rw [aGK (rl.gM h)]; exact Bool.false_ne_true)]; exact h
theorem uZ {a:Addr}{vs:List V} (hl:∀ b,tk M b=true→∃ ws,G1 b=some (.lst ws)) (h:SqT K G1 a vs):SqT K (lO G1 M) a vs:=by
 rcases h with h | h
 ·refine .inl ?_
  have ne:¬ tk M a=true:=fun t=>by
   obtain ⟨ws,e⟩:=hl a t
   rcases h with h | ⟨o,h⟩ <;> rw [e] at h <;> cases h
  have e:lO G1 M a=G1 a:=by unfold lO; rw [if_neg ne]
  rcases h with h | ⟨o,h⟩
  ·exact .inl (e.trans h)
  ·exact .inr ⟨o,e.trans h⟩
 ·exact .inr h
mutual
theorem den_strip (hl:∀ b,tk M b=true→∃ ws,G1 b=some (.lst ws)):∀ (d:D) {v:V},noL d=true→Den K G1 d v→Den K (lO G1 M) d v
 | .non,_,_,h=>by simp only [Den] at h ⊢; exact h
 | .bl _,_,_,h=>by simp only [Den] at h ⊢; exact h
 | .int _,_,_,h=>by simp only [Den] at h ⊢; exact h
 | .str _,_,_,h=>by simp only [Den] at h ⊢; exact h
 | .tup ds,_,n,h=>by
  simp only [noL] at n
  simp only [Den] at h ⊢
  obtain ⟨a,vs,e,q,r⟩:=h
  exact ⟨a,vs,e,uZ hl q,dens_strip hl ds n r⟩
 | .mt _,_,n,_=>by simp [noL] at n
 | .lst _,_,n,_=>by simp [noL] at n
 | .fl _,_,n,_=>by simp [noL] at n
 | .st _,_,n,_=>by simp [noL] at n
theorem dens_strip (hl:∀ b,tk M b=true→∃ ws,G1 b=some (.lst ws)):∀ (ds:List D) {vs:List V},noLs ds=true→Dens K G1 ds vs→Dens K (lO G1 M) ds vs
 | [],_,_,h=>by simp only [Dens] at h ⊢; exact h
 | d::ds,_,n,h=>by
  simp only [noLs,Bool.and_eq_true] at n
  simp only [Dens] at h ⊢
  obtain ⟨v,r,e,h1,h2⟩:=h
  exact ⟨v,r,e,den_strip hl d n.1 h1,dens_strip hl ds n.2 h2⟩
end
end
def Ln (M:Mem) (d d':D):Prop:=∀ K G H v,Rel K G H M→Den K G d v→Den K (qG G H M) d' v
def Lns (M:Mem) (ds ds':List D):Prop:=∀ K G H vs,Rel K G H M→Dens K G ds vs→Dens K (qG G H M) ds' vs
theorem Lns.nil {M:Mem}:Lns M [] []:=fun K G H vs rl e=>by rw [bR e]; exact cW
theorem Lns.cons {M:Mem}{d d':D}{ds ds':List D} (h:Ln M d d') (r:Lns M ds ds'):Lns M (d::ds) (d'::ds'):=fun K G H vs rl e=>by
 obtain ⟨v,rr,rfl,h1,h2⟩:=bA e
 exact cC (h K G H v rl h1) (r K G H rr rl h2)
theorem Ln.lst {M:Mem}{ds ds':List D} (h:Lns M ds ds'):Ln M (.lst ds) (.lst ds'):=fun K G H v rl e=>by
 obtain ⟨a,vs,ev,e1,e2⟩:=e.lst_
 rw [ev]
 exact eM (rl.loan_same a _ e1) (h K G H vs rl e2)
inductive LnE (M:Mem):Gm→Gm→Prop
 | n:LnE M [] []
 | s {o:Option D}{Γ Γ':Gm} (r:LnE M Γ Γ'):LnE M (o::Γ) (none::Γ')
 | c {d d':D}{Γ Γ':Gm} (h:Ln M d d') (r:LnE M Γ Γ'):LnE M (some d::Γ) (some d'::Γ')
section
variable {X:Cx}{Γ Γ':Gm}{M:Mem}{k:D→Mem→Prop}{kb:Bool→Mem→Prop}{e:Expr}{d0:D}{b0:Bool}
end
end Z
namespace Z
open PySem L2
section
variable {X:Cx}{Γ:Gm}{M:Mem}{k:D→Mem→Prop}{kb:Bool→Mem→Prop}{pos:Pos}{a b c:Expr}
theorem nK {x:Str}{n:Int}{t:Tok} (hm:X.mg x=some (.int n t)) (h:k (.int n) M) (hg:Gl X x:=by rfl) (hb:(x == ("__debug__" : Str))=false:=by decide):GE X (.Name x pos) Γ M k :=
 fun σ G H Q en rl q=>b3 (uK (v := .int n) hg hm ⟨t,rfl⟩ hb) (q _ G H _ M (Stp.refl rl) cA h)
theorem aAU {op op':CmpOp}{r r':R2} (ho:OpR X (compareOp op) r) (ho':OpR X (compareOp op') r')
  (h:GE X a Γ M fun d1 M1=>GE X b Γ M1 fun d2 M2=>Op2 X.K r d1 d2 M2 fun e M3=>∃ t,e = .bl t∧if t=true then GE X c Γ M3 fun d3 M4=>Op2 X.K r' d2 d3 M4 k else k (.bl false) M3)
  (hm:lastMarks [op,op'] [b,c]=false:=by with_unfolding_all rfl):GE X (.Compare a [op,op'] [b,c] pos) Γ M k:=fun σ G H Q en rl q=>by
 refine b3 (zG ho ho' pU pU pU hm) ?_
 refine h σ G H _ en rl fun v1 G1 H1 d1 M1 s1 e1 h1 => ?_
 refine h1 σ G1 H1 _ (en.up s1.gg) s1.rel fun v2 G2 H2 d2 M2 s2 e2 h2 => ?_
 refine h2 G2 H2 v1 v2 _ s2.rel (e1.up s2.gg) e2 fun z G3 H3 d3 M3 s3 e3 ⟨t,ed,h3⟩ => ?_
 subst ed
 have s13:=(s1.trans s2).trans s3
 refine ⟨t,e3.bl_,?_⟩
 cases t with
 | true =>
  rw [if_pos rfl] at h3 ⊢
  refine h3 σ G3 H3 _ (en.up s13.gg) s3.rel fun w G4 H4 d4 M4 s4 e4 h4 => ?_
  exact h4 G4 H4 v2 w Q s4.rel (e2.up (s3.trans s4).gg) e4 (q.up (s13.trans s4))
 | false =>
  rw [if_neg Bool.false_ne_true] at h3 ⊢
  exact q _ _ _ _ _ s13 dB h3
end
end Z
namespace Q
open PySem L2 Z
def p1 (x:Int):Int × Int:=(x,1)
def eU (xs:List Int):List D:=(xs.map p1).map cU
structure Up7 (xs:List Int):Prop where
 up:xs.Pairwise (· < ·)
 few:xs.length≤7
 bd:∀ x∈xs, -1000000000≤x∧x≤1000000000
def dv (a b:Int):Int:=if b < 0 then -((Int.gcd a b:Nat):Int) else ((Int.gcd a b:Nat):Int)
def lowP (a b:Int):Int × Int:=(a.fdiv (dv a b),b.fdiv (dv a b))
def jZ:Ct:=fun ds M k=>∃ a b:Int,ds=[.int a, .int b]∧b≠0∧b.natAbs < 10 ^ 1000∧k (cU (lowP a b)) M
def lM:Ct:=fun ds M k=>∃ a b:Int,ds=[.int a, .int b]∧b≠0∧b.natAbs < 10 ^ 1000∧k (cU (lowP a b)) M
def nW:Ct:=fun ds M k=>∃ x:Int,ds=[.int x] ∧ -1000000000≤x∧x≤1000000000∧k (.bl true) M
def nH:Ct:=fun ds M k=>∃ xs:List Int,ds=[.lst (xs.map .int)]∧Up7 xs∧k (.bl true) M
def aBB:Ct:=fun ds M k=>∃ (xs ys:List Int) (zs:List Str),ds=[.lst (xs.map .int), .lst (ys.map .int), .lst (zs.map .str)]∧Up7 xs∧Up7 ys∧R.Good (xs.length - 1) zs∧zs.length=ys.length - 1∧k (mO (eU xs) (eU ys) zs) M
theorem low1 (x:Int):lowP x 1=p1 x:=by
 have e:dv x 1=1:=by unfold dv; rw [if_neg (by decide),Int.gcd_one]; rfl
 unfold lowP p1
 rw [e,Int.fdiv_one]
 rfl
theorem lL (ds:List D):isD "list" (.lst ds)=true:=rfl
theorem nJ (n:Nat):(List.replicate n true).all id=true:=by
 rw [List.all_eq_true]; intro b hb; rw [(List.mem_replicate.mp hb).2]; rfl
theorem wA {xs:List Int}{i:Nat} (h:i < xs.length):atI (xs.map D.int) (i:Int)=some (.int xs[i]):=cD (by rw [List.getElem?_map,List.getElem?_eq_getElem h]; rfl)
theorem n5 (xs:List Int):(eU xs).length=xs.length:=by unfold eU; rw [List.length_map,List.length_map]
theorem zC {n:Nat}{zs:List Str} (h:R.Good n zs):(zs.all fun z=>z.cps.toList.all R.sgn)=true:=List.all_eq_true.mpr fun z hz=>(h z hz).2
theorem TT.tame1 {n:Nat}{zs:List Str} (h:TT n (zs.map .str)):∀ r∈zs.map D.str,tameB 1 r=true:=fun r hr=>by
 obtain ⟨z,hz,rfl⟩:=List.mem_map.mp hr
 exact yD (rH (h.each _ hr))
theorem fL {xs:List Int} (h:xs.Pairwise (· < ·)) {i j:Nat} (hij:i≤j) (hj:j < xs.length):xs.getD i 0≤xs.getD j 0:=by
 rw [List.getD_eq_getElem?_getD,List.getD_eq_getElem?_getD,List.getElem?_eq_getElem (show i < xs.length by omega),List.getElem?_eq_getElem hj]
 by_cases e:i=j
 ·subst e; exact Int.le_refl _
 ·exact Int.le_of_lt (List.pairwise_iff_getElem.mp h i j (by omega) hj (by omega))
theorem jP {xs:List Int} (h:xs.Pairwise (· < ·)) {i j:Nat} (hij:i < j) (hj:j < xs.length):xs.getD i 0 < xs.getD j 0:=by
 rw [List.getD_eq_getElem?_getD,List.getD_eq_getElem?_getD,List.getElem?_eq_getElem (show i < xs.length by omega),List.getElem?_eq_getElem hj]
 exact List.pairwise_iff_getElem.mp h i j (by omega) hj (by omega)
end Q
namespace L2
open PySem PySem.Spec PyProof.Rows
section
variable {X:Cx}
end
end L2
namespace Z
open PySem L2
section
variable {X:Cx}{Γ:Gm}{M:Mem}{k:D→Mem→Prop}{pos:Pos}{a b:Expr}{rest:List Expr}
end
end Z
namespace Q
open PySem L2 Z
structure Bg (p:Int × Int):Prop where
 a:p.1.natAbs < 10 ^ 400
 b:p.2.natAbs < 10 ^ 400
 c:p.2≠0
theorem big400 {i:Int} (h:i.natAbs < 10 ^ 400):i.natAbs < big:=Nat.lt_of_lt_of_le h (by unfold big; decide)
theorem wD {p q:Int × Int} (hp:Bg p) (hq:Bg q):p.2 * q.2≠0∧(p.2 * q.2).natAbs < 10 ^ 1000:=by
 refine ⟨Int.mul_ne_zero hp.c hq.c,?_⟩
 rw [Int.natAbs_mul]
 refine Nat.lt_of_lt_of_le (Nat.mul_lt_mul'' hp.b hq.b) ?_
 rw [← Nat.pow_add]
 exact Nat.pow_le_pow_right (by decide) (by decide)
def dS (K:List Str) (bx bu:List Int):List Bool:=bu.flatMap fun u=>bx.map fun a=>R.aR K a u
def lieS (l:List Bool):Str:=if l.all id then "in" else if l.any id then "rim" else "out"
theorem vL (K:List Str) (bx bu:List Int) (h1:bx.length≤2) (h2:bu.length≤2):(dS K bx bu).length≤4:=by
 unfold dS
 match bu,h2 with
 | [],_=>simp
 | [a],_=>simp; omega
 | [a,b],_=>simp; omega
def lowG (t b:Int):Int × Int:=(t.fdiv ((Int.gcd t b:Nat):Int),b.fdiv ((Int.gcd t b:Nat):Int))
def vK:Ct:=fun ds M k=>∃ t b:Int,ds=[.int t, .int b]∧0 < b∧b < 10 ^ 60∧k (cU (lowG t b)) M
structure Spot (xs:List Int) (v:Int × Int) (cols:List Int):Prop where
 pos:0 < v.2
 sm:v.1.natAbs < 10 ^ 65∧v.2.natAbs < 10 ^ 65
 at_:(∃ k:Nat,k < xs.length∧v=p1 (xs.getD k 0)∧cols=[(k:Int) - 1,(k:Int)])∨(∃ k:Int,cols=[k]∧∀ i,i < xs.length→(xs.getD i 0 * v.2 < v.1↔(i:Int)≤k)∧xs.getD i 0 * v.2≠v.1)
theorem Spot.on {xs:List Int}{k:Nat} (hk:k < xs.length) (h9:(xs.getD k 0).natAbs≤1000000000):Spot xs (p1 (xs.getD k 0)) [(k:Int) - 1,(k:Int)] :=
 ⟨by show (0:Int) < 1; decide,⟨Nat.lt_of_le_of_lt h9 (by decide),by show (1:Int).natAbs < _; exact Nat.one_lt_pow (by decide) (by decide)⟩, .inl ⟨k,hk,rfl,rfl⟩⟩
end Q
namespace PySem
namespace F
end F
def Heap.IsRv (h:Heap) (a:Addr) (v:Value) (i:Int):Prop:=∃ o,h.get? a=some o∧o.cls = .type "reversed" ∧ o.data = .fields #[v,rawInt i]
section
variable {prog:Program}{w:World}{A:Around}{E:Value→Shared→Prop}{s:Shared}
theorem Heap.IsRv.typeIs {a:Addr}{v:Value}{i:Int} (x:s.heap.IsRv a v i):s.TypeIs (.ref a) "reversed" := let ⟨o,ho,hc,_⟩:=x; ⟨o,ho,hc⟩
end
end PySem
namespace PySem
open PyProof.Rows
section
variable {prog:Program}{w:World}{A:Around}{E:Value→Shared→Prop}{s:Shared}{I:Addr}
end
end PySem
namespace PySem
open PyProof.Rows
open Builtin Builtin.Str Builtin.Int
section
variable {prog:Program}{w:World}{A:Around}{E:Value→Shared→Prop}{s:Shared}{I:Addr}
end
end PySem
namespace L2
open PySem PySem.Spec PyProof.Rows
section
variable {X:Cx}
end
end L2
namespace Z
open PySem L2
section
variable {X:Cx}{Γ:Gm}{M:Mem}{k:D→Mem→Prop}{pos:Pos}{a b o tg:Expr}{rest:List Expr}{ki:List D→Mem→Prop}
end
end Z
namespace Q
open PySem L2 Z
theorem aB5 {t b:Int} (hb:0 < b):lowP t b=lowG t b:=by
 unfold lowP lowG dv
 rw [if_neg (by omega)]
structure Tidy2 (K:List Str) (a b:Nat):Prop where
 v:(K=[]∧a=0∧b=0)∨(K≠[]∧R.chg K=List.range b∧R.chg (R.aE K)=List.range a∧R.Good (a - 1) K∧K.length+1=b∧2≤a∧2≤b)
theorem Tidy2.good {K:List Str}{a b:Nat} (h:Tidy2 K a b):R.Good (a - 1) K∧K.length=b - 1:=by
 rcases h.v with ⟨rfl,rfl,rfl⟩ | ⟨_,_,_,g,l,_,_⟩
 ·exact ⟨fun z hz=>(nomatch hz),rfl⟩
 ·exact ⟨g,by omega⟩
theorem vS {n:Nat}{zs:List Str} (g:R.Good n zs):Tidy2 (R.bN zs) (R.chg (R.aE zs)).length (R.chg zs).length:=by
 by_cases hr:R.aL zs=[]
 ·obtain ⟨e1,e2⟩:=R.p7 (fun z hz=>(g z hz).1) hr
  refine ⟨.inl ⟨?_,?_,?_⟩⟩
  ·unfold R.bN; rw [e1] <;> first | rfl | (rw [e2]; rfl)
  ·first | (rw [e2]; rfl) | (rw [e1]; rfl)
  ·first | (rw [e1]; rfl) | (rw [e2]; rfl)
 ·obtain ⟨t1,t2,t3,t4,t5,t6⟩:=R.vH g hr
  have hkl:(R.bN zs).length=(R.chg zs).length - 1:=by unfold R.bN; rw [List.length_map,List.length_dropLast]
  exact ⟨.inr ⟨t3,t1,t2,t4,by omega,t5,t6⟩⟩
structure By (w:Nat) (p:Int × Int):Prop where
 b0:0 < p.2
 b9:p.2≤9
 a20:p.1.natAbs≤20
 a0:w=3→0 < p.1
end Q
namespace U
open PySem
def inY (ws us:List Rat) (K:List Str) (x y:Rat):Bool:=R.aR K (ix ws x) (ix us y)
theorem jN {n:Nat}{K:List Str} (h:∀ z∈K,z.length=n) {a u:Int} (ha:(n:Int)≤a):R.aR K a u=false:=by
 cases e:R.aR K a u with
 | false=>rfl
 | true =>
  obtain ⟨h1,h2,z,hz,hc⟩:=R.i7.mp e
  have:=h z (List.mem_of_getElem? hz)
  have h3:a.toNat < z.cps.toList.length:=(List.getElem?_eq_some_iff.mp hc).1
  rw [Array.length_toList] at h3
  have h4:z.cps.size=z.length:=rfl
  omega
structure Steps (f:Rat→Rat→Bool) (xs ys:List Rat):Prop where
 out:∀ x y,ix xs x = -1∨ix xs x=(xs.length:Int) - 1∨ix ys y = -1∨ix ys y=(ys.length:Int) - 1→f x y=false
 at_:∀ x y (i j:Nat) (hi:i < xs.length) (hj:j < ys.length),ix xs x=i→ix ys y=j→f x y=f xs[i] ys[j]
theorem xM {ws us xs ys:List Rat}{K:List Str} (u:Up ws) (u':Up us) (hK:∀ z∈K,z.length=ws.length - 1) (lK:K.length=us.length - 1) (v:Up xs) (v':Up ys) (hs:∀ w∈ws,w∈xs) (hs':∀ w∈us,w∈ys):Steps (inY ws us K) xs ys where
 out x y h:=by
  unfold inY
  rcases h with h | h | h | h
  ·rw [vZ v hs h]; exact R.bZ (by omega)
  ·rw [uL v hs h]
   cases ws with
   | nil=>exact R.bZ (by simp)
   | cons w r=>exact jN hK (by simp)
  ·rw [vZ v' hs' h]; exact R.cT (by omega)
  ·rw [uL v' hs' h]
   cases us with
   | nil=>exact R.cT (by simp)
   | cons w r=>exact R.dD (by rw [lK]; simp)
 at_ x y i j hi hj e e':=by
  unfold inY
  rw [uG u v hs hi e,uG u' v' hs' hj e']
theorem Steps.pick {f g:Rat→Rat→Bool}{xs ys:List Rat} (hf:Steps f xs ys) (hg:Steps g xs ys) (p:Bool→Bool→Bool) (h0:p false false=false):Steps (fun x y=>p (f x y) (g x y)) xs ys :=
 ⟨fun x y h=>by rw [hf.out x y h,hg.out x y h]; exact h0,fun x y i j hi hj e e'=>by rw [hf.at_ x y i j hi hj e e',hg.at_ x y i j hi hj e e']⟩
def gZ (f:Rat→Rat→Bool) (xs ys:List Rat):List Str:=ys.dropLast.map fun y=>R.ofL (xs.dropLast.map fun x=>R.sg (f x y))
theorem jF (f:Rat→Rat→Bool) (xs ys:List Rat):(gZ f xs ys).length=ys.length - 1:=by unfold gZ; rw [List.length_map,List.length_dropLast]
theorem gX (f:Rat→Rat→Bool) (xs ys:List Rat):R.Good (xs.length - 1) (gZ f xs ys):=fun z hz=>by
 unfold gZ at hz
 obtain ⟨y,_,rfl⟩:=List.mem_map.mp hz
 refine ⟨by rw [R.f7,List.length_map,List.length_dropLast],?_⟩
 rw [List.all_eq_true]
 intro c hc
 have hc':c∈xs.dropLast.map fun x=>R.sg (f x y):=hc
 obtain ⟨q,_,rfl⟩:=List.mem_map.mp hc'
 unfold R.sg; split <;> rfl
theorem zY {f:Rat→Rat→Bool}{xs ys:List Rat}{i j:Nat} (hi:i+1 < xs.length) (hj:j+1 < ys.length):R.aR (gZ f xs ys) (i:Int) (j:Int)=f xs[i] ys[j]:=by
 have hj':j < ys.dropLast.length:=by rw [List.length_dropLast]; omega
 have hi':i < xs.dropLast.length:=by rw [List.length_dropLast]; omega
 have e1:(gZ f xs ys)[((j:Int)).toNat]?=some (R.ofL (xs.dropLast.map fun x=>R.sg (f x ys[j]))):=by
  rw [Int.toNat_natCast]; unfold gZ
  rw [List.getElem?_map,List.getElem?_eq_getElem hj',List.getElem_dropLast]; rfl
 have e2:(R.ofL (xs.dropLast.map fun x=>R.sg (f x ys[j]))).cps.toList[((i:Int)).toNat]?=some (R.sg (f xs[i] ys[j])):=by
  rw [Int.toNat_natCast]
  show (xs.dropLast.map fun x=>R.sg (f x ys[j]))[i]?=_
  rw [List.getElem?_map,List.getElem?_eq_getElem hi',List.getElem_dropLast]; rfl
 rw [R.dN (by omega) (by omega) e1 e2]
 unfold R.sg
 cases f xs[i] ys[j] <;> rfl
theorem aBX {f:Rat→Rat→Bool}{xs ys:List Rat} (h:Steps f xs ys) (x y:Rat):R.aR (gZ f xs ys) (ix xs x) (ix ys y)=f x y:=by
 have a1:=g7 xs x
 have a2:=hU xs x
 have b1:=g7 ys y
 have b2:=hU ys y
 by_cases ha:ix xs x = -1
 ·rw [h.out x y (.inl ha),ha]; exact R.bZ (by omega)
 by_cases ha':ix xs x=(xs.length:Int) - 1
 ·rw [h.out x y (.inr (.inl ha')),ha']
  exact jN (fun z hz=>(gX f xs ys z hz).1) (by omega)
 by_cases hb:ix ys y = -1
 ·rw [h.out x y (.inr (.inr (.inl hb))),hb]; exact R.cT (by omega)
 by_cases hb':ix ys y=(ys.length:Int) - 1
 ·rw [h.out x y (.inr (.inr (.inr hb'))),hb']
  exact R.dD (by rw [jF]; omega)
 obtain ⟨i,hi⟩:∃ i:Nat,ix xs x=i:=⟨(ix xs x).toNat,by omega⟩
 obtain ⟨j,hj⟩:∃ j:Nat,ix ys y=j:=⟨(ix ys y).toNat,by omega⟩
 rw [h.at_ x y i j (by omega) (by omega) hi hj,hi,hj]
 exact zY (by omega) (by omega)
theorem aC4 {xs ys:List Rat}{zs:List Str} (u:Up xs) (v:Up ys) (g:R.Good (xs.length - 1) zs) (hz:zs.length=ys.length - 1) (x y:Rat) :
  inY (fA xs (R.chg (R.aE zs))) (fA ys (R.chg zs)) (R.bN zs) x y=R.aR zs (ix xs x) (ix ys y):=by
 unfold inY
 rw [uP u (Q.eQ fun z hz=>(g z hz).1),uP v (Q.eP hz),R.aDH g]
theorem rS {n:Nat}{K:List Str} (g:R.Good n K) {j:Nat}{z:Str} (hz:K[j]?=some z):z=R.ofL ((List.range n).map fun (c:Nat)=>R.sg (R.aR K (c:Int) (j:Int))):=by
 obtain ⟨hl,hs⟩:=g z (List.mem_of_getElem? hz)
 have e:z.cps.toList=(List.range n).map fun (c:Nat)=>R.sg (R.aR K (c:Int) (j:Int)):=by
  refine List.ext_getElem? fun c => ?_
  rw [List.getElem?_map]
  by_cases hc:c < n
  ·rw [List.getElem?_range hc,R.cG (by omega)]
   have h2:=R.jX g (List.mem_of_getElem? hz) hc
   rw [Option.map_some,R.dN (z:=z) (c:=R.atS z c) (by omega) (by omega) (by rw [Int.toNat_natCast]; exact hz) (by rw [Int.toNat_natCast]; exact R.cG (by omega))]
   unfold R.sg
   rcases h2 with h2 | h2 <;> rw [h2] <;> rfl
  ·rw [List.getElem?_eq_none (by rw [Array.length_toList]; have:z.cps.size=z.length:=rfl; omega),List.getElem?_eq_none (by simpa using hc)]; rfl
 unfold R.ofL
 rw [← e]
theorem aDC {n:Nat}{K K':List Str} (g:R.Good n K) (g':R.Good n K') (hl:K.length=K'.length) (h:∀ a u:Nat,a < n→u < K.length→R.aR K (a:Int) (u:Int)=R.aR K' (a:Int) (u:Int)):K=K':=by
 refine List.ext_getElem? fun j => ?_
 by_cases hj:j < K.length
 ·have e1:K[j]?=some K[j]:=List.getElem?_eq_getElem hj
  have e2:K'[j]?=some (K'[j]'(by omega)):=List.getElem?_eq_getElem (by omega)
  rw [e1,e2,rS g e1,rS g' e2]
  congr 2
  refine List.map_congr_left fun c hc => ?_
  rw [h c j (List.mem_range.mp hc) hj]
 ·rw [List.getElem?_eq_none (by omega),List.getElem?_eq_none (by omega)]
theorem frow {n:Nat}{K:List Str} (g:R.Good n K) (hK:K≠[]) {j:Nat} (hj:j≤K.length+1):(R.framed K)[j]?=some (R.ofL ((List.range n).map fun (c:Nat)=>R.sg (R.aR K (c:Int) ((j:Int) - 1)))):=by
 have hw:=R.bU (fun z hz=>(g z hz).1) hK
 have hd:∀ u:Int,(∀ c:Nat,R.aR K (c:Int) u=false)→R.dots n=R.ofL ((List.range n).map fun (c:Nat)=>R.sg (R.aR K (c:Int) u)):=fun u hu=>by
  unfold R.dots
  congr 1
  refine (List.eq_replicate_iff.mpr ⟨by simp,fun b hb => ?_⟩).symm
  obtain ⟨c,_,rfl⟩:=List.mem_map.mp hb
  rw [hu c]; rfl
 rcases Nat.eq_zero_or_pos j with rfl | hp
 ·rw [R.dQ,hw,← hd _ fun c=>R.cT (by omega)]
 ·obtain ⟨k,rfl⟩:∃ k,j=k+1:=⟨j - 1,by omega⟩
  rw [show (((k+1:Nat):Int) - 1)=(k:Int) by omega]
  by_cases hk:k < K.length
  ·rw [R.bT hk,List.getElem?_eq_getElem hk,← rS g (List.getElem?_eq_getElem hk)]
  ·have e:k=K.length:=by omega
   rw [e,R.cV,hw,← hd _ fun c=>R.dD (by omega)]
theorem fcol {n:Nat}{K:List Str} (g:R.Good n K) (hK:K≠[]) (hn:0 < n) {i:Nat} (hi:i≤n+1):(R.framed (R.aE K))[i]?=some (R.ofL ((List.range K.length).map fun (r:Nat)=>R.sg (R.aR K ((i:Int) - 1) (r:Int)))):=by
 rw [R.eS (fun z hz=>(g z hz).1) hK hn hi]
 congr 2
 refine List.ext_getElem? fun r => ?_
 rw [List.getElem?_map,List.getElem?_map]
 by_cases hr:r < K.length
 ·rw [List.getElem?_eq_getElem hr,List.getElem?_range hr,Option.map_some,Option.map_some]
  congr 1
  have e1:K[r]?=some K[r]:=List.getElem?_eq_getElem hr
  have hl:=(g _ (List.getElem_mem hr)).1
  unfold R.oU
  split
  ·rename_i h
   rcases h with rfl | rfl
   ·rw [R.bZ (by omega)]; rfl
   ·rw [jN (fun z hz=>(g z hz).1) (by omega)]; rfl
  ·rename_i h
   have hi':i - 1 < n:=by omega
   have h2:=R.jX g (List.getElem_mem hr) hi'
   rw [show ((i:Int) - 1)=((i - 1:Nat):Int) by omega,R.dN (z:=K[r]) (c:=R.atS K[r] (i - 1)) (by omega) (by omega) (by rw [Int.toNat_natCast]; exact e1) (by rw [Int.toNat_natCast]; exact R.cG (by omega))]
   unfold R.sg
   rcases h2 with h2 | h2 <;> rw [h2] <;> rfl
 ·rw [List.getElem?_eq_none (by omega),List.getElem?_eq_none (by simpa using hr)]; rfl
theorem wZ {n:Nat}{f g:Nat→Bool} (h:some (R.ofL ((List.range n).map fun c=>R.sg (f c)))≠some (R.ofL ((List.range n).map fun c=>R.sg (g c)))):∃ c,c < n∧f c≠g c:=by
 refine Classical.byContradiction fun q=>h ?_
 congr 2
 refine List.map_congr_left fun c hc => ?_
 have:=List.mem_range.mp hc
 have e:f c=g c:=Classical.byContradiction fun z=>q ⟨c,this,z⟩
 rw [e]
theorem r0 {K:List Str}{a b:Nat} (T:Q.Tidy2 K a b) {i:Nat} (hi:i < a):∃ j:Nat,j+1 < b∧R.aR K ((i:Int) - 1) (j:Int)≠R.aR K (i:Int) (j:Int):=by
 rcases T.v with ⟨_,rfl,_⟩ | ⟨hK,t1,t2,g,l,ha,hb⟩
 ·omega
 ·have hm:i∈R.chg (R.aE K):=by rw [t2]; exact List.mem_range.mpr hi
  have lc:=R.b6 (fun z hz=>(g z hz).1) hK
  have hcn:R.aE K≠[]:=fun e=>by rw [e] at lc; simp at lc; omega
  obtain ⟨h1,h2⟩:=(R.dM hcn).mp hm
  rw [fcol g hK (by omega) (by omega),fcol g hK (by omega) (by omega)] at h2
  obtain ⟨c,hc,hne⟩:=wZ h2
  refine ⟨c,by omega,?_⟩
  rwa [show (((i+1:Nat):Int) - 1)=(i:Int) by omega] at hne
theorem aA4 {K:List Str}{a b:Nat} (T:Q.Tidy2 K a b) {j:Nat} (hj:j < b):∃ i:Nat,i+1 < a∧R.aR K (i:Int) ((j:Int) - 1)≠R.aR K (i:Int) (j:Int):=by
 rcases T.v with ⟨_,_,rfl⟩ | ⟨hK,t1,t2,g,l,ha,hb⟩
 ·omega
 ·have hm:j∈R.chg K:=by rw [t1]; exact List.mem_range.mpr hj
  obtain ⟨h1,h2⟩:=(R.dM hK).mp hm
  rw [frow g hK (by omega),frow g hK (by omega)] at h2
  obtain ⟨c,hc,hne⟩:=wZ h2
  refine ⟨c,by omega,?_⟩
  rwa [show (((j+1:Nat):Int) - 1)=(j:Int) by omega] at hne
def JX (f:Rat→Rat→Bool) (w:Rat):Prop:=∃ y,∀ x,x < w→∃ x',x≤x'∧x' < w∧f x' y≠f w y
theorem lC {ws:List Rat} (u:Up ws) {i:Nat} (hi:i < ws.length) {x:Rat} (hx:x < ws[i]) (h:∀ k (hk:k < ws.length),k < i→ws[k]≤x):ix ws x=(i:Int) - 1 :=
 mU u (by omega) (by omega) fun k hk=>by
  constructor
  ·intro h1
   have:=(jP u hk hi).mp (by grind)
   omega
  ·intro h1
   exact h k hk (by omega)
theorem before {ws:List Rat} (u:Up ws) {i:Nat} (hi:i < ws.length) {x:Rat} (hx:x < ws[i]):∃ x',x≤x'∧x' < ws[i]∧ix ws x'=(i:Int) - 1:=by
 by_cases h0:i=0
 ·subst h0
  exact ⟨x,by grind,hx,lC u hi hx fun k _ q=>absurd q (Nat.not_lt_zero _)⟩
 ·have hp:i - 1 < ws.length:=by omega
  have hl:=(jP u hp hi).mpr (by omega)
  have le:∀ k (hk:k < ws.length),k < i→ws[k]≤ws[i - 1]:=fun k hk q=>(fL u hk hp).mpr (by omega)
  by_cases hm:x≤ws[i - 1]
  ·exact ⟨ws[i - 1],hm,hl,lC u hi hl le⟩
  ·exact ⟨x,by grind,hx,lC u hi hx fun k hk q=>by have:=le k hk q; grind⟩
theorem still {ws:List Rat} (u:Up ws) {w:Rat} (hw:w ∉ ws):∃ x,x < w∧∀ x',x≤x'→x' < w→ix ws x'=ix ws w:=by
 have a:=g7 ws w
 have b:=hU ws w
 by_cases hk:ix ws w = -1
 ·refine ⟨w - 1,by grind,fun x' h1 h2 => ?_⟩
  rw [hk]
  refine mU u (by omega) (by omega) fun i hi => ?_
  constructor
  ·intro h; have:=(dC (x:=w) u hi).mp (by grind); omega
  ·intro h; omega
 ·have hi:(ix ws w).toNat < ws.length:=by omega
  have hle:=(dC (x:=w) u hi).mpr (by omega)
  have hne:ws[(ix ws w).toNat]≠w:=fun e=>hw (e ▸ List.getElem_mem hi)
  refine ⟨ws[(ix ws w).toNat],by grind,fun x' h1 h2 => ?_⟩
  refine mU u a b fun i hi' => ?_
  constructor
  ·intro h; exact (dC (x:=w) u hi').mp (by grind)
  ·intro h
   have:=(fL u hi' hi).mpr (by omega)
   grind
theorem xD {ws us:List Rat}{K:List Str} (u:Up ws) (u':Up us) (T:Q.Tidy2 K ws.length us.length) (w:Rat):w∈ws↔JX (inY ws us K) w:=by
 constructor
 ·intro hw
  obtain ⟨i,hi,rfl⟩:=List.getElem_of_mem hw
  obtain ⟨j,hj,hne⟩:=r0 T hi
  refine ⟨us[j],fun x hx => ?_⟩
  obtain ⟨x',h1,h2,h3⟩:=before u hi hx
  refine ⟨x',h1,h2,?_⟩
  unfold inY
  rw [h3,eF u hi,eF u' (by omega)]
  exact hne
 ·rintro ⟨y,h⟩
  refine Classical.byContradiction fun hw => ?_
  obtain ⟨x,hx,hs⟩:=still u hw
  obtain ⟨x',h1,h2,h3⟩:=h x hx
  unfold inY at h3
  rw [hs x' h1 h2] at h3
  exact h3 rfl
theorem yL {ws us:List Rat}{K:List Str} (u:Up ws) (u':Up us) (T:Q.Tidy2 K ws.length us.length) (w:Rat):w∈us↔JX (fun y x=>inY ws us K x y) w:=by
 constructor
 ·intro hw
  obtain ⟨j,hj,rfl⟩:=List.getElem_of_mem hw
  obtain ⟨i,hi,hne⟩:=aA4 T hj
  refine ⟨ws[i],fun x hx => ?_⟩
  obtain ⟨x',h1,h2,h3⟩:=before u' hj hx
  refine ⟨x',h1,h2,?_⟩
  unfold inY
  dsimp only
  rw [h3,eF u' hj,eF u (by omega)]
  exact hne
 ·rintro ⟨x,h⟩
  refine Classical.byContradiction fun hw => ?_
  obtain ⟨y,hy,hs⟩:=still u' hw
  obtain ⟨y',h1,h2,h3⟩:=h y hy
  unfold inY at h3
  dsimp only at h3
  rw [hs y' h1 h2] at h3
  exact h3 rfl
theorem aAY {ws us ws' us':List Rat}{K K':List Str} (u:Up ws) (v:Up us) (T:Q.Tidy2 K ws.length us.length) (u':Up ws') (v':Up us') (T':Q.Tidy2 K' ws'.length us'.length)
  (h:∀ x y,inY ws us K x y=inY ws' us' K' x y):ws=ws'∧us=us'∧K=K':=by
 have hf:inY ws us K=inY ws' us' K':=funext fun x=>funext fun y=>h x y
 have e1:ws=ws':=vU u u' fun x=>by rw [xD u v T,xD u' v' T',hf]
 have e2:us=us':=vU v v' fun x=>by rw [yL u v T,yL u' v' T',hf]
 subst e1 e2
 refine ⟨rfl,rfl,?_⟩
 obtain ⟨g,l⟩:=T.good
 obtain ⟨g',l'⟩:=T'.good
 refine aDC g g' (by omega) fun a b ha hb => ?_
 have:=h ws[a] us[b]
 unfold inY at this
 rwa [eF u (by omega),eF v (by omega)] at this
def cR:List Rat→List Rat→List Rat
 | [],ys=>ys
 | x::xs,[]=>x::xs
 | x::xs,y::ys=>if y < x then y::cR (x::xs) ys else if x=y then x::cR xs ys else x::cR xs (y::ys)
termination_by xs ys=>xs.length+ys.length
theorem cH:∀ (xs ys:List Rat) (a:Rat),a∈cR xs ys↔a∈xs∨a∈ys
 | [],ys,a=>by rw [cR]; simp
 | x::xs,[],a=>by rw [cR]; simp
 | x::xs,y::ys,a=>by
  rw [cR]
  split
  ·rw [List.mem_cons,cH (x::xs) ys a,List.mem_cons (a:=a) (b:=y)]
   constructor
   ·rintro (h | h | h)
    ·exact .inr (.inl h)
    ·exact .inl h
    ·exact .inr (.inr h)
   ·rintro (h | h | h)
    ·exact .inr (.inl h)
    ·exact .inl h
    ·exact .inr (.inr h)
  ·split
   ·rename_i h1 h2
    subst h2
    rw [List.mem_cons,cH xs ys a,List.mem_cons,List.mem_cons]
    constructor
    ·rintro (h | h | h)
     ·exact .inl (.inl h)
     ·exact .inl (.inr h)
     ·exact .inr (.inr h)
    ·rintro ((h | h) | h | h)
     ·exact .inl h
     ·exact .inr (.inl h)
     ·exact .inl h
     ·exact .inr (.inr h)
   ·rw [List.mem_cons,cH xs (y::ys) a,List.mem_cons (a:=a) (b:=x)]
    constructor
    ·rintro (h | h | h)
     ·exact .inl (.inl h)
     ·exact .inl (.inr h)
     ·exact .inr h
    ·rintro ((h | h) | h)
     ·exact .inl h
     ·exact .inr (.inl h)
     ·exact .inr (.inr h)
termination_by xs ys=>xs.length+ys.length
theorem bV:∀ {xs ys:List Rat},xs.Pairwise (· < ·)→ys.Pairwise (· < ·)→(cR xs ys).Pairwise (· < ·)
 | [],ys,_,hy=>by rw [cR]; exact hy
 | x::xs,[],hx,_=>by rw [cR]; exact hx
 | x::xs,y::ys,hx,hy=>by
  obtain ⟨x1,x2⟩:=List.pairwise_cons.mp hx
  obtain ⟨y1,y2⟩:=List.pairwise_cons.mp hy
  rw [cR]
  split
  ·rename_i h
   refine List.pairwise_cons.mpr ⟨fun a ha => ?_,bV hx y2⟩
   rcases (cH _ _ _).mp ha with h1 | h1
   ·rcases List.mem_cons.mp h1 with rfl | h1
    ·exact h
    ·have:=x1 a h1; grind
   ·exact y1 a h1
  ·split
   ·rename_i h1 h2
    subst h2
    refine List.pairwise_cons.mpr ⟨fun a ha => ?_,bV x2 y2⟩
    rcases (cH _ _ _).mp ha with h1 | h1
    ·exact x1 a h1
    ·exact y1 a h1
   ·rename_i h1 h2
    refine List.pairwise_cons.mpr ⟨fun a ha => ?_,bV x2 hy⟩
    rcases (cH _ _ _).mp ha with h3 | h3
    ·exact x1 a h3
    ·rcases List.mem_cons.mp h3 with rfl | h3
     ·grind
     ·have:=y1 a h3; grind
termination_by xs ys=>xs.length+ys.length
structure Yd where
 ws:List Rat
 us:List Rat
 K:List Str
 uw:Up ws
 uu:Up us
 T:Q.Tidy2 K ws.length us.length
def Yd.has (A:Yd) (x y:Rat):Bool:=inY A.ws A.us A.K x y
theorem Yd.ext' {A B:Yd} (h:∀ x y,A.has x y=B.has x y):A=B:=by
 obtain ⟨ws,us,K,uw,uu,T⟩:=A
 obtain ⟨ws',us',K',uw',uu',T'⟩:=B
 obtain ⟨rfl,rfl,rfl⟩:=aAY uw uu T uw' uu' T' h
 rfl
theorem Yd.wide (A:Yd):(∀ z∈A.K,z.length=A.ws.length - 1)∧A.K.length=A.us.length - 1:=⟨fun z hz=>(A.T.good.1 z hz).1,A.T.good.2⟩
theorem Yd.steps (A:Yd) {xs ys:List Rat} (v:Up xs) (v':Up ys) (hs:∀ w∈A.ws,w∈xs) (hs':∀ w∈A.us,w∈ys):Steps A.has xs ys:=xM A.uw A.uu A.wide.1 A.wide.2 v v' hs hs'
def Yd.ofG (xs ys:List Rat) (zs:List Str) (u:Up xs) (v:Up ys) (g:R.Good (xs.length - 1) zs) (hz:zs.length=ys.length - 1):Yd where
 ws:=fA xs (R.chg (R.aE zs))
 us:=fA ys (R.chg zs)
 K:=R.bN zs
 uw:=qK u (R.bL _) (Q.eQ fun z hz=>(g z hz).1)
 uu:=qK v (R.bL _) (Q.eP hz)
 T:=by
  have:=Q.vS g
  unfold fA
  rw [List.length_map,List.length_map]
  exact this
theorem Yd.ofG_has {xs ys:List Rat}{zs:List Str} (u:Up xs) (v:Up ys) (g:R.Good (xs.length - 1) zs) (hz:zs.length=ys.length - 1) (x y:Rat):(Yd.ofG xs ys zs u v g hz).has x y=R.aR zs (ix xs x) (ix ys y):=aC4 u v g hz x y
theorem Yd.ofG_ws {xs ys:List Rat}{zs:List Str} (u:Up xs) (v:Up ys) (g:R.Good (xs.length - 1) zs) (hz:zs.length=ys.length - 1):(∀ w∈(Yd.ofG xs ys zs u v g hz).ws,w∈xs)∧∀ w∈(Yd.ofG xs ys zs u v g hz).us,w∈ys :=
 ⟨pI (Q.eQ fun z hz=>(g z hz).1),pI (Q.eP hz)⟩
def Yd.ofF (f:Rat→Rat→Bool) (xs ys:List Rat) (u:Up xs) (v:Up ys):Yd:=Yd.ofG xs ys (gZ f xs ys) u v (gX f xs ys) (jF f xs ys)
theorem Yd.ofF_has {f:Rat→Rat→Bool}{xs ys:List Rat} (u:Up xs) (v:Up ys) (h:Steps f xs ys) (x y:Rat):(Yd.ofF f xs ys u v).has x y=f x y:=by
 unfold Yd.ofF
 rw [Yd.ofG_has,aBX h]
theorem mgl {ws vs:List Rat}:∀ w∈ws,w∈cR ws vs:=fun w hw=>(cH _ _ _).mpr (.inl hw)
theorem mgr {ws vs:List Rat}:∀ w∈vs,w∈cR ws vs:=fun w hw=>(cH _ _ _).mpr (.inr hw)
def Yd.op (p:Bool→Bool→Bool) (A B:Yd):Yd:=Yd.ofF (fun x y=>p (A.has x y) (B.has x y)) (cR A.ws B.ws) (cR A.us B.us) (bV A.uw B.uw) (bV A.uu B.uu)
theorem Yd.op_has {p:Bool→Bool→Bool} (h0:p false false=false) (A B:Yd) (x y:Rat):(Yd.op p A B).has x y=p (A.has x y) (B.has x y) :=
 Yd.ofF_has _ _ ((A.steps (bV A.uw B.uw) (bV A.uu B.uu) mgl mgl).pick (B.steps (bV A.uw B.uw) (bV A.uu B.uu) mgr mgr) p h0) x y
structure On (Sx Sy:List Rat) (A:Yd):Prop where
 x:∀ w∈A.ws,w∈Sx
 y:∀ w∈A.us,w∈Sy
theorem On.op {Sx Sy:List Rat}{A B:Yd} (a:On Sx Sy A) (b:On Sx Sy B) (p:Bool→Bool→Bool):On Sx Sy (Yd.op p A B) where
 x w hw:=by
  rcases (cH _ _ _).mp ((Yd.ofG_ws (bV A.uw B.uw) (bV A.uu B.uu) (gX _ _ _) (jF _ _ _)).1 w hw) with h | h
  ·exact a.x w h
  ·exact b.x w h
 y w hw:=by
  rcases (cH _ _ _).mp ((Yd.ofG_ws (bV A.uw B.uw) (bV A.uu B.uu) (gX _ _ _) (jF _ _ _)).2 w hw) with h | h
  ·exact a.y w h
  ·exact b.y w h
theorem aA5 {ws:List Rat} (u:Up ws):ws.Nodup:=u.imp fun h=>by grind
theorem jW {ws S:List Rat} (u:Up ws) (h:∀ w∈ws,w∈S):ws.length≤S.length:=(aA5 u).length_le_of_subset h
theorem Yd.void_iff (A:Yd):A.K=[]↔∀ x y,A.has x y=false:=by
 constructor
 ·intro h x y
  unfold Yd.has inY
  rw [h]
  cases e:R.aR [] (ix A.ws x) (ix A.us y) with
  | false=>rfl
  | true=>obtain ⟨_,_,z,hz,_⟩:=R.i7.mp e; cases hz
 ·intro h
  rcases A.T.v with ⟨e,_,_⟩ | ⟨hK,t1,t2,g,l,ha,hb⟩
  ·exact e
  ·exfalso
   obtain ⟨j,hj,hne⟩:=r0 A.T (i:=0) (by omega)
   have:=h (A.ws[0]'(by omega)) (A.us[j]'(by omega))
   unfold Yd.has inY at this
   rw [eF A.uw,eF A.uu] at this
   rw [R.bZ (by omega)] at hne
   exact hne this.symm
def Yd.void:Yd:=⟨[],[],[], .nil, .nil,⟨.inl ⟨rfl,rfl,rfl⟩⟩⟩
theorem Yd.void_has (x y:Rat):Yd.void.has x y=false:=(Yd.void_iff _).mp rfl x y
end U
namespace Q
open PySem L2 Z
theorem zH (p v:Int × Int):eqD (cU p) (cU v)=decide (p=v):=by
 obtain ⟨a,b⟩:=v
 obtain ⟨x,y⟩:=p
 unfold cU
 simp only [eqD,eqDs,Bool.and_true]
 by_cases h1:x=a
 ·by_cases h2:y=b
  ·rw [decide_eq_true (by rw [h1,h2])]; simp [h1,h2]
  ·rw [decide_eq_false (by intro e; injection e with e1 e2; exact h2 e2)]; simp [h2]
 ·rw [decide_eq_false (by intro e; injection e with e1 e2; exact h1 e1)]; simp [h1]
theorem q8 {α:Type} (l:List α):(cutD l (some 1) none).length=l.length - 1:=by rw [vB,List.length_drop]
end Q
namespace PySem
open Builtin
structure ZAp (z TI TO i1 i2:Addr) (fp1 fp2:List Addr):Prop where
 TIz:TI≠z
 TOz:TO≠z
 i1z:i1≠z
 i2z:i2≠z
 TOi1:TO≠i1
 TOi2:TO≠i2
 i12:i1≠i2
 f1:∀ b∈fp1,b≠z∧b≠TO∧b≠i2
 f2:∀ b∈fp2,b≠z∧b≠TO∧b≠i1
section
variable {prog:Program}{w:World}{A:Around}{E:Value→Shared→Prop}{s:Shared}{z TI TO i1 i2:Addr}{fp1 fp2:List Addr}{n1 n2 k:Nat}{P1 P2:Nat→Value→Prop}{S1 S2:Nat→Heap→Prop}{a b:Value}
end
end PySem
namespace PySem
open PyProof.Rows
section
variable {prog:Program}{w:World}{A:Around}{E:Value→Shared→Prop}{s:Shared}
end
end PySem
namespace L2
open PySem PySem.Spec PyProof.Rows
section
variable {X:Cx}
end
end L2
namespace Z
open PySem L2
section
variable {X:Cx}{Γ:Gm}{M:Mem}{k:D→Mem→Prop}{pos:Pos}{a b:Expr}{rest:List Expr}
end
end Z
namespace L2
open PySem PySem.Spec PyProof.Rows
section
variable {X:Cx}
end
end L2
namespace Z
open PySem L2
section
variable {X:Cx}{Γ:Gm}{M:Mem}{k:D→Mem→Prop}{pos:Pos}{a b:Expr}{rest:List Expr}
end
end Z
namespace Q
open PySem L2 Z
end Q
namespace Z
open PySem L2
end Z
namespace Q
open PySem L2 Z
end Q
namespace L2
open PySem PySem.Spec PyProof.Rows
end L2
namespace Z
open PySem L2
section
variable {X:Cx}{Γ:Gm}{M:Mem}{k:D→Mem→Prop}{pos:Pos}{iter:Expr}
end
end Z
namespace Q
open PySem L2 Z
end Q
namespace Q
open PySem L2 Z U
def pq (q:Rat):Int × Int:=(q.num,(q.den:Int))
def numD (q:Rat):D:=cU (pq q)
def aZ (xs:List Rat):List D:=xs.map numD
theorem c9 (xs:List Rat):(aZ xs).length=xs.length:=List.length_map ..
structure Bq (q:Rat):Prop where
 a:q.num.natAbs < 10 ^ 400
 b:q.den < 10 ^ 400
theorem Bq.g {q:Rat} (h:Bq q):Bg (pq q):=⟨h.a,by show ((q.den:Int)).natAbs < _; rw [Int.natAbs_natCast]; exact h.b,by show (q.den:Int)≠0; have:=q.den_nz; omega⟩
def BqL (xs:List Rat):Prop:=∀ x∈xs,Bq x
theorem vR (a b:Rat):ltP (pq a) (pq b)=decide (a < b):=by
 unfold ltP pq
 rw [decide_eq_decide]
 exact (Rat.lt_iff a b).symm
theorem aD2 {a b:Rat}:pq a=pq b↔a=b:=by
 constructor
 ·intro e
  unfold pq at e
  injection e with e1 e2
  exact Rat.ext e1 (by omega)
 ·intro e; rw [e]
theorem r8 (a b:Rat):eqD (numD a) (numD b)=decide (a=b):=by
 unfold numD
 rw [zH,decide_eq_decide,aD2]
theorem k5 (t b:Int) (hb:b≠0):lowP t b=pq (Rat.divInt t b):=by
 obtain ⟨h1,h2⟩:=Num.pV t b hb
 unfold pq
 rw [← h1,← h2]
 rfl
theorem fQ (q:Rat):(q.den:Int)≠0:=by have:=q.den_nz; omega
theorem zV (a b:Rat):lowP ((pq a).1 * (pq b).2 - (pq b).1 * (pq a).2) ((pq a).2 * (pq b).2)=pq (a - b):=by
 exact (k5 _ _ (Int.mul_ne_zero (fQ a) (fQ b))).trans (congrArg pq (Num.tJ a b))
theorem aAR (a b:Rat):lowP ((pq a).1 * (pq b).1) ((pq a).2 * (pq b).2)=pq (a * b):=by
 exact (k5 _ _ (Int.mul_ne_zero (fQ a) (fQ b))).trans (congrArg pq (Num.aB3 a b))
theorem qJ (xs:List Int):eU xs=aZ (xs.map fun (x:Int)=>(x:Rat)):=by
 unfold eU aZ
 rw [List.map_map,List.map_map]; rfl
def l8:Ct:=fun ds M k=>∃ p q:Int × Int,ds=[cU p,cU q]∧(p.1.natAbs < 10 ^ 400∧p.2.natAbs < 10 ^ 400)∧(q.1.natAbs < 10 ^ 400∧q.2.natAbs < 10 ^ 400)∧k (.bl (ltP p q)) M
theorem Bq.p {q:Rat} (h:Bq q):(pq q).1.natAbs < 10 ^ 400∧(pq q).2.natAbs < 10 ^ 400:=⟨h.g.a,h.g.b⟩
def tZ:Ct:=fun ds M k=>∃ a b:Rat,ds=[numD a,numD b]∧Bq a∧Bq b∧k (numD (a - b)) M
def t7:Ct:=fun ds M k=>∃ a b:Rat,ds=[numD a,numD b]∧Bq a∧Bq b∧k (numD (a * b)) M
theorem kA {ws:List Rat}{i:Nat} (h:i < ws.length):atI (aZ ws) (i:Int)=some (numD (ws.getD i 0)):=cD (by
 unfold aZ
 rw [List.getElem?_map,List.getD_eq_getElem?_getD,List.getElem?_eq_getElem h]; rfl)
def cntQ (ws:List Rat) (x:Rat):Nat:=(ws.filter fun w=>decide (w < x)).length
def aX (ws:List Rat) (x:Rat):List Int:=if cntQ ws x < ws.length∧ws.getD (cntQ ws x) 0=x then [(cntQ ws x:Int) - 1,(cntQ ws x:Int)] else [(cntQ ws x:Int) - 1]
theorem aDO {ws:List Rat}{x:Rat} (h:x ∉ ws):(cntQ ws x:Int) - 1=ix ws x:=by
 unfold cntQ ix
 congr 3
 refine List.filter_congr fun w hw => ?_
 have:w≠x:=fun e=>h (e ▸ hw)
 rw [decide_eq_decide]
 grind
theorem aE5 {ws:List Rat} (u:Up ws) {i:Nat} (h:i < ws.length):cntQ ws ws[i]=i:=by
 have e:ix ws ws[i]=i:=eF u h
 have:(ws.filter fun w=>decide (w≤ws[i])).length=cntQ ws ws[i]+1:=by
  unfold cntQ
  clear e
  revert i
  induction ws with
  | nil=>intro i h; exact absurd h (Nat.not_lt_zero _)
  | cons a r ih =>
   intro i h
   obtain ⟨u1,u2⟩:=List.pairwise_cons.mp u
   cases i with
   | zero =>
    have e1:r.filter (fun w=>decide (w≤a))=[]:=List.filter_eq_nil_iff.mpr fun b hb=>by have:=u1 b hb; simp only [decide_eq_true_eq]; grind
    have e2:r.filter (fun w=>decide (w < a))=[]:=List.filter_eq_nil_iff.mpr fun b hb=>by have:=u1 b hb; simp only [decide_eq_true_eq]; grind
    show ((a::r).filter fun w=>decide (w≤a)).length=((a::r).filter fun w=>decide (w < a)).length+1
    rw [List.filter_cons_of_pos (by simp only [decide_eq_true_eq]; grind),List.filter_cons_of_neg (by simp only [decide_eq_true_eq]; grind),e1,e2]; rfl
   | succ i =>
    have hi:i < r.length:=by simpa using h
    have:=u1 _ (List.getElem_mem hi)
    show ((a::r).filter fun w=>decide (w≤r[i])).length=((a::r).filter fun w=>decide (w < r[i])).length+1
    rw [List.filter_cons_of_pos (by simp only [decide_eq_true_eq]; grind),List.filter_cons_of_pos (by simp only [decide_eq_true_eq]; grind),List.length_cons,List.length_cons,ih u2 hi]
 unfold ix at e
 omega
theorem xO {ws:List Rat}{x:Rat} (h:x ∉ ws):aX ws x=[ix ws x]:=by
 unfold aX
 rw [if_neg,aDO h]
 rintro ⟨h1,h2⟩
 refine h ?_
 rw [List.getD_eq_getElem?_getD,List.getElem?_eq_getElem h1] at h2
 exact h2 ▸ List.getElem_mem h1
theorem zT {ws:List Rat} (u:Up ws) {i:Nat} (h:i < ws.length):aX ws ws[i]=[(i:Int) - 1,(i:Int)]:=by
 unfold aX
 rw [aE5 u h,if_pos ⟨h,by rw [List.getD_eq_getElem?_getD,List.getElem?_eq_getElem h]; rfl⟩]
theorem n6 (ws:List Rat) (x:Rat):(aX ws x).length≤2:=by unfold aX; split <;> simp
def tY:Ct:=fun ds M k=>∃ (ws:List Rat) (x:Rat),ds=[.tup (aZ ws),numD x]∧BqL ws∧ws.length≤100∧Bq x∧k (.lst ((aX ws x).map .int)) M
theorem kM (xs ys:List Rat):aZ xs++aZ ys=aZ (xs++ys):=by unfold aZ; rw [List.map_append]
theorem nG {xs:List Rat}{js:List Nat} (h:∀ j∈js,j < xs.length):qF (aZ xs) js=aZ (fA xs js):=by
 unfold qF aZ fA
 rw [List.map_map]
 refine List.map_congr_left fun j hj => ?_
 have:=h j hj
 rw [List.getD_eq_getElem?_getD,List.getElem?_map,List.getElem?_eq_getElem this]
 show numD xs[j]=numD (xs.getD j 0)
 rw [List.getD_eq_getElem?_getD,List.getElem?_eq_getElem this]; rfl
def yd (A:Yd):D:=oF (aZ A.ws) (aZ A.us) A.K
theorem aB1 {xs ys:List Rat}{zs:List Str} (u:Up xs) (v:Up ys) (g:R.Good (xs.length - 1) zs) (hz:zs.length=ys.length - 1):mO (aZ xs) (aZ ys) zs=yd (Yd.ofG xs ys zs u v g hz):=by
 unfold mO yd
 rw [nG (eQ fun z hz=>(g z hz).1),nG (eP hz)]; rfl
theorem pS (xs:List Rat):∀ x∈aZ xs,okD 1 x=true:=fun x hx=>by
 obtain ⟨q,_,rfl⟩:=List.mem_map.mp hx
 rfl
theorem aBM (A:Yd):okD 3 (yd A)=true:=aAQ _ (pS _) (pS _)
noncomputable instance:DecidableEq Yd:=fun _ _=>Classical.propDecidable _
structure Bnd (S:List Rat):Prop where
 len:S.length≤90
 b:BqL S
def aBF (a b:Bool):Bool:=a && b
def aBQ (a b:Bool):Bool:=a || b
def aBI (a b:Bool):Bool:=a && !b
end Q
namespace U
open PySem
inductive Cmp (g:Rat→Rat):Rat→List Rat→List Rat→Prop
 | nil {v:Rat}{xs:List Rat} (hv:v=0) (h:∀ x∈xs,g x=0):Cmp g v xs []
 | skip {v a:Rat}{r ws:List Rat} (e:g a=v) (h:Cmp g v r ws):Cmp g v (a::r) ws
 | keep {v a:Rat}{r ws:List Rat} (h:Cmp g (g a) r ws):Cmp g v (a::r) (a::ws)
theorem xA {f:Rat→Rat}{x y:Rat} (h:∀ w,f w≤x↔w≤y) (ws:List Rat):ix (ws.map f) x=ix ws y:=by
 unfold ix
 rw [List.filter_map,List.length_map]
 refine congrArg (fun l:List Rat=>(l.length:Int) - 1) (List.filter_congr fun w _ => ?_)
 show decide (f w≤x)=decide (w≤y)
 rw [decide_eq_decide]; exact h w
def Yd.scale (A:Yd) (a b:Rat) (ha:0 < a) (hb:0 < b):Yd where
 ws:=A.ws.map (· * a)
 us:=A.us.map (· * b)
 K:=A.K
 uw:=by unfold Up; rw [List.pairwise_map]; exact A.uw.imp fun h=>Rat.mul_lt_mul_of_pos_right h ha
 uu:=by unfold Up; rw [List.pairwise_map]; exact A.uu.imp fun h=>Rat.mul_lt_mul_of_pos_right h hb
 T:=by rw [List.length_map,List.length_map]; exact A.T
theorem lP {a w x:Rat} (ha:0 < a):w * a≤x↔w≤x / a:=by
 have:=Rat.div_lt_iff (a:=x) (c:=w) ha
 constructor
 ·intro h; refine Rat.not_lt.mp fun q => ?_; have:=this.mp q; grind
 ·intro h; refine Rat.not_lt.mp fun q => ?_; have:=this.mpr q; grind
theorem Yd.scale_has (A:Yd) {a b:Rat} (ha:0 < a) (hb:0 < b) (x y:Rat):(A.scale a b ha hb).has x y=A.has (x / a) (y / b):=by
 unfold Yd.has inY Yd.scale
 dsimp only
 rw [xA (y:=x / a) (fun w=>lP ha),xA (y:=y / b) (fun w=>lP hb)]
theorem cnil (a u:Int):R.aR [] a u=false:=by
 cases e:R.aR [] a u with
 | false=>rfl
 | true=>obtain ⟨_,_,z,hz,_⟩:=R.i7.mp e; cases hz
theorem Yd.big (A:Yd):A.K=[]∨(2≤A.ws.length∧2≤A.us.length):=by
 rcases A.T.v with ⟨h,_,_⟩ | ⟨_,_,_,_,_,h1,h2⟩
 ·exact .inl h
 ·exact .inr ⟨h1,h2⟩
theorem gap:∀ (S:List Rat) (x:Rat),∃ n,x < n∧∀ s∈S,x < s→n≤s
 | [],x=>⟨x+1,by grind,fun s hs=>(nomatch hs)⟩
 | a::S,x=>by
  obtain ⟨n,h1,h2⟩:=gap S x
  by_cases ha:x < a
  ·by_cases hn:a < n
   ·exact ⟨a,ha,fun s hs hx=>by
     rcases List.mem_cons.mp hs with q | q
     ·grind
     ·have:=h2 s q hx; grind⟩
   ·exact ⟨n,h1,fun s hs hx=>by
     rcases List.mem_cons.mp hs with q | q
     ·grind
     ·exact h2 s q hx⟩
  ·exact ⟨n,h1,fun s hs hx=>by
    rcases List.mem_cons.mp hs with q | q
    ·grind
    ·exact h2 s q hx⟩
end U
set_option exponentiation.threshold 500
namespace Q
open PySem L2 Z U
theorem uM (q:Rat):q * (q.den:Rat)=(q.num:Rat):=by
 have h:=Rat.num_divInt_den q
 have hd:((q.den:Int):Rat)≠0:=by
  intro e
  have:=Rat.intCast_inj.mp (e.trans (Rat.intCast_zero).symm)
  have:=q.den_nz; omega
 conv=>lhs; lhs; rw [← h,Rat.divInt_eq_div]
 rw [← Rat.intCast_natCast,Rat.div_mul_cancel hd]
structure Fr (m B:Nat) (q:Rat):Prop where
 ex:∃ k:Int,q * (m:Rat)=(k:Rat)∧k.natAbs≤B
theorem Fr.cross {m B:Nat}{q:Rat} (h:Fr m B q):∃ k:Int,q.num * (m:Int)=k * (q.den:Int)∧k.natAbs≤B:=by
 obtain ⟨k,e,hk⟩:=h.ex
 refine ⟨k,?_,hk⟩
 have h1:q * (q.den:Rat)=(q.num:Rat):=uM q
 have h2:((q.num * (m:Int):Int):Rat)=((k * (q.den:Int):Int):Rat):=by
  rw [Rat.intCast_mul,Rat.intCast_mul,Rat.intCast_natCast,Rat.intCast_natCast,← h1,← e]
  grind
 exact Rat.intCast_inj.mp h2
theorem Fr.bd {m B:Nat}{q:Rat} (h:Fr m B q) (hm:0 < m):q.num.natAbs≤B∧q.den≤m:=by
 obtain ⟨k,e,hk⟩:=h.cross
 have e':q.num.natAbs * m=k.natAbs * q.den:=by
  have:=congrArg Int.natAbs e
  rwa [Int.natAbs_mul,Int.natAbs_mul,Int.natAbs_natCast,Int.natAbs_natCast] at this
 have hd:q.den ∣ m:=by
  refine Nat.Coprime.dvd_of_dvd_mul_left (k:=q.den) (m:=q.num.natAbs) (Nat.Coprime.symm q.reduced) ?_
  rw [e']; exact Nat.dvd_mul_left _ _
 have hl:=Nat.le_of_dvd hm hd
 refine ⟨?_,hl⟩
 have:q.num.natAbs * m≤B * m:=by
  rw [e']; exact Nat.mul_le_mul hk hl
 exact Nat.le_of_mul_le_mul_right this hm
theorem Fr.bq {m B:Nat}{q:Rat} (h:Fr m B q) (hm:0 < m) (h1:m < 10 ^ 400) (h2:B < 10 ^ 400):Bq q:=⟨Nat.lt_of_le_of_lt (h.bd hm).1 h2,Nat.lt_of_le_of_lt (h.bd hm).2 h1⟩
theorem Fr.mono {m B B':Nat}{q:Rat} (h:Fr m B q) (hB:B≤B'):Fr m B' q:=let ⟨k,e,hk⟩:=h.ex; ⟨k,e,by omega⟩
theorem Fr.zero (m B:Nat):Fr m B 0:=⟨0,by rw [Rat.zero_mul]; rfl,by simp⟩
theorem Fr.sub {m B C:Nat}{a b:Rat} (h:Fr m B a) (g:Fr m C b):Fr m (B+C) (a - b):=by
 obtain ⟨k,e,hk⟩:=h.ex
 obtain ⟨l,e',hl⟩:=g.ex
 exact ⟨k - l,by rw [Rat.intCast_sub,← e,← e']; grind,by omega⟩
theorem Fr.mul {m n B C:Nat}{a b:Rat} (h:Fr m B a) (g:Fr n C b):Fr (m * n) (B * C) (a * b):=by
 obtain ⟨k,e,hk⟩:=h.ex
 obtain ⟨l,e',hl⟩:=g.ex
 exact ⟨k * l,by rw [Rat.intCast_mul,← e,← e',Rat.natCast_mul]; grind,by rw [Int.natAbs_mul]; exact Nat.mul_le_mul hk hl⟩
theorem Fr.int {m B:Nat}{x:Int} (h:x.natAbs * m≤B):Fr m B (x:Rat):=⟨x * m,by rw [Rat.intCast_mul,Rat.intCast_natCast],by rw [Int.natAbs_mul,Int.natAbs_natCast]; exact h⟩
def FrL (m B:Nat) (ws:List Rat):Prop:=∀ w∈ws,Fr m B w
theorem FrL.at {m B:Nat}{ws:List Rat} (h:FrL m B ws) (i:Nat):Fr m B (ws.getD i 0):=by
 rw [List.getD_eq_getElem?_getD]
 cases e:ws[i]? with
 | none=>exact Fr.zero m B
 | some w=>exact h w (List.mem_of_getElem? e)
def sm:Nat:=10 ^ 60
def Sml (q:Rat):Prop:=q.num.natAbs < 10 ^ 65∧q.den < 10 ^ 65
def toQ (xs:List Int):List Rat:=xs.map fun (x:Int)=>(x:Rat)
theorem eG (xs:List Int):(toQ xs).length=xs.length:=List.length_map ..
theorem jU {xs:List Int} (h:xs.Pairwise (· < ·)):Up (toQ xs):=by
 unfold toQ Up
 rw [List.pairwise_map]
 exact h.imp fun hxy=>Rat.intCast_lt_intCast.mpr hxy
def dA (xs ys:List Int) (zs:List Str) (hx:xs.Pairwise (· < ·)) (hy:ys.Pairwise (· < ·)) (g:R.Good (xs.length - 1) zs) (hz:zs.length=ys.length - 1):Yd:=Yd.ofG (toQ xs) (toQ ys) zs (jU hx) (jU hy) (by rw [eG]; exact g) (by rw [eG]; exact hz)
theorem zS {xs ys:List Int}{zs:List Str} (hx:xs.Pairwise (· < ·)) (hy:ys.Pairwise (· < ·)) (g:R.Good (xs.length - 1) zs) (hz:zs.length=ys.length - 1):mO (eU xs) (eU ys) zs=yd (dA xs ys zs hx hy g hz):=by
 rw [qJ,qJ]
 exact aB1 _ _ _ _
def nC:Ct:=fun ds M k=>∃ (A:Yd) (a b:Rat) (ha:0 < a) (hb:0 < b),ds=[yd A,numD a,numD b]∧BqL A.ws∧BqL A.us∧Bq a∧Bq b∧A.ws.length≤90∧A.us.length≤90∧k (yd (Yd.scale A a b ha hb)) M
end Q
namespace U
open PySem
def hit (s:Bool) (ws:List Rat) (dn up:Rat) (h:Int→Bool) (x:Rat):Prop:=∃ u,x - up≤u∧u≤x+dn∧h (ix ws u)=s
open Classical in
noncomputable def gro (s:Bool) (ws:List Rat) (dn up:Rat) (h:Int→Bool) (x:Rat):Bool:=if hit s ws dn up h x then s else !s
def lowQ (ws:List Rat) (dn:Rat):List Rat:=ws.map (· - dn)
def uppQ (ws:List Rat) (up:Rat):List Rat:=ws.map (· + up)
def finQ (ws:List Rat) (dn up:Rat):List Rat:=cR (lowQ ws dn) (uppQ ws up)
theorem aDN {ws:List Rat} (u:Up ws) (dn:Rat):Up (lowQ ws dn):=by unfold lowQ Up; rw [List.pairwise_map]; exact u.imp fun h=>by grind
theorem aC8 {ws:List Rat} (u:Up ws) (up:Rat):Up (uppQ ws up):=by unfold uppQ Up; rw [List.pairwise_map]; exact u.imp fun h=>by grind
theorem uO {ws:List Rat} (u:Up ws) (dn up:Rat):Up (finQ ws dn up):=bV (aDN u dn) (aC8 u up)
noncomputable def growS (s:Bool) (ws:List Rat) (dn up:Rat) (z:Str):Str:=R.ofL ((finQ ws dn up).dropLast.map fun x=>R.sg (gro s ws dn up (fun i=>R.aR [z] i 0) x))
theorem zO {K:List Str}{r:Nat}{z:Str} (h:K[r]?=some z) (i:Int):R.aR K i (r:Int)=R.aR [z] i 0:=by
 rw [Bool.eq_iff_iff,R.i7,R.i7]
 constructor
 ·rintro ⟨h1,h2,z',hz,hc⟩
  rw [Int.toNat_natCast,h] at hz
  cases hz
  exact ⟨by omega,h2,z,rfl,hc⟩
 ·rintro ⟨h1,h2,z',hz,hc⟩
  cases hz
  exact ⟨by omega,h2,z,by rw [Int.toNat_natCast]; exact h,hc⟩
noncomputable def groF (s:Bool) (A:Yd) (a b c d:Rat) (x y:Rat):Bool:=gro s A.us b d (fun r=>gro s A.ws a c (fun i=>R.aR A.K i r) x) y
structure Nn (a b c d:Rat):Prop where
 a:0≤a
 b:0≤b
 c:0≤c
 d:0≤d
noncomputable def Yd.grow (A:Yd) (s:Bool) (a b c d:Rat):Yd:=Yd.ofF (groF s A a b c d) (finQ A.ws a c) (finQ A.us b d) (uO A.uw a c) (uO A.uu b d)
structure Bx where
 w:Rat
 s:Rat
 e:Rat
 n:Rat
structure Bx.Ok (b:Bx):Prop where
 w:0≤b.w
 s:0≤b.s
 e:0≤b.e
 n:0≤b.n
noncomputable def Yd.cut (A:Yd) (b:Bx):Yd:=A.grow false b.e b.n b.w b.s
noncomputable def Yd.back (A:Yd) (b:Bx):Yd:=A.grow true b.w b.s b.e b.n
def Yd.le (A B:Yd):Prop:=∀ x y,A.has x y=true→B.has x y=true
theorem Yd.le_refl (A:Yd):A.le A:=fun _ _ h=>h
theorem Yd.le_trans {A B C:Yd} (h:A.le B) (g:B.le C):A.le C:=fun x y q=>g x y (h x y q)
end U
namespace Z
open PySem L2
section
variable {X:Cx}{Γ:Gm}{M:Mem}{k:D→Mem→Prop}
end
end Z
set_option exponentiation.threshold 500
namespace Q
open PySem L2 Z U
def sgn1 (s:Bool):Str:=⟨#[R.sg s]⟩
theorem aEE (s:Bool) (n:Nat):repS (sgn1 s) n=R.ofL (List.replicate n (R.sg s)):=fG (by
 rw [gQ]
 show (List.replicate n [R.sg s]).flatten=List.replicate n (R.sg s)
 induction n with
 | zero=>rfl
 | succ n ih=>rw [List.replicate_succ,List.flatten_cons,ih]; rfl)
def dotZ (z:Str):Str:=R.ofL (46::z.cps.toList++[46])
theorem sE (z:Str):(dotZ z).length=z.length+2:=by
 unfold dotZ
 rw [R.f7]
 simp only [List.cons_append,List.length_cons,List.length_append,Array.length_toList,List.length_nil]
 have:z.cps.size=z.length:=rfl
 omega
theorem aE9 {n:Nat}{z:Str} (g:R.Good n [z]) {p:Nat} (hp:p≤n+1) (s:Bool):R.atS (dotZ z) p=R.sg s↔R.aR [z] ((p:Int) - 1) 0=s:=by
 have hl:z.length=n:=(g z (by simp)).1
 have hd:(dotZ z).cps.toList=46::z.cps.toList++[46]:=rfl
 have hz:z.cps.toList.length=n:=by rw [Array.length_toList]; exact hl
 have ga:=R.cG (z:=dotZ z) (j:=p) (by rw [sE]; omega)
 rw [hd] at ga
 have sgi:∀ b:Bool,R.sg b=R.sg s↔b=s:=fun b=>by cases b <;> cases s <;> decide
 by_cases h0:p=0
 ·subst h0
  rw [R.bZ (by omega)]
  have:R.atS (dotZ z) 0=R.sg false:=(Option.some.inj ga).symm
  rw [this]; exact sgi _
 ·obtain ⟨q,rfl⟩:∃ q,p=q+1:=⟨p - 1,by omega⟩
  rw [show (((q+1:Nat):Int) - 1)=(q:Int) by omega]
  by_cases hq:q < n
  ·have e:R.atS (dotZ z) (q+1)=R.atS z q:=by
    have a2:=R.cG (z:=z) (j:=q) (by omega)
    rw [List.cons_append,List.getElem?_cons_succ,List.getElem?_append_left (by omega),a2] at ga
    exact (Option.some.inj ga).symm
   have h2:=R.jX g (List.mem_singleton.mpr rfl) hq
   rw [e,R.dN (z:=z) (c:=R.atS z q) (by omega) (by omega) rfl (by rw [Int.toNat_natCast]; exact R.cG (by omega))]
   rcases h2 with h2 | h2 <;> rw [h2] <;> cases s <;> decide
  ·have e:q=n:=by omega
   rw [jN (fun z hz=>(g z hz).1) (by omega)]
   have:R.atS (dotZ z) (q+1)=R.sg false:=by
    rw [List.cons_append,List.getElem?_cons_succ,List.getElem?_append_right (by omega),hz,e,Nat.sub_self] at ga
    rw [e]; exact (Option.some.inj ga).symm
   rw [this]; exact sgi _
theorem aC7 (p:Int):Rat.divInt p 1=(p:Rat):=by
 rw [Rat.divInt_eq_div]
 show (p:Rat) / (1:Rat)=p
 grind
structure Gr (ws:List Rat) (dn up:Rat):Prop where
 u:Up ws
 d0:0≤dn
 u0:0≤up
 b:BqL ws
 bd:Bq dn
 bu:Bq up
 lo:BqL (lowQ ws dn)
 hi:BqL (uppQ ws up)
 len:ws.length≤90
def bxP (p q r s:Int) (t:Rat):Bx:=⟨(p:Rat) * t,(q:Rat) * t,(r:Rat) * t,(s:Rat) * t⟩
structure CutOk (A:Yd) (p q r s:Int) (t:Rat):Prop where
 hp:p.natAbs < 1000
 hq:q.natAbs < 1000
 hr:r.natAbs < 1000
 hs:s.natAbs < 1000
 ht:Bq t
 xc:Gr A.ws (bxP p q r s t).e (bxP p q r s t).w
 yc:Gr A.us (bxP p q r s t).n (bxP p q r s t).s
 xb:Gr A.ws (bxP p q r s t).w (bxP p q r s t).e
 yb:Gr A.us (bxP p q r s t).s (bxP p q r s t).n
def kL (p q r s:Int):D := .tup [.int p, .int q, .int r, .int s]
end Q
set_option exponentiation.threshold 500
namespace Q
open PySem L2 Z U
theorem hB (A B:Yd) (x y:Rat):(Yd.op aBF A B).has x y=(A.has x y && B.has x y):=Yd.op_has rfl A B x y
theorem hE (A B:Yd) (x y:Rat):(Yd.op aBQ A B).has x y=(A.has x y || B.has x y):=Yd.op_has rfl A B x y
theorem hL (A B:Yd) (x y:Rat):(Yd.op aBI A B).has x y=(A.has x y && !B.has x y):=Yd.op_has rfl A B x y
theorem in1 (A B:Yd):Yd.op aBI (Yd.op aBF A B) A=Yd.void:=Yd.ext' fun x y=>by rw [hL,hB,Yd.void_has]; cases A.has x y <;> cases B.has x y <;> rfl
theorem aFV {K:Fg}{M:Mem}{k:D→Mem→Prop}{a b:Rat} (h:k (.bl (!decide (a=b))) M):Op2 K (rEqD K 1 true) (numD a) (numD b) M k :=
 aE4 (e1:=numD a) (e2:=numD b) (.tup _) (.tup _) rfl rfl (by rw [r8]; exact h)
structure Y8 (A:Yd):Prop where
 x:FrL 6 100000000000 A.ws
 y:FrL 6 100000000000 A.us
 lx:A.ws.length≤7
 ly:A.us.length≤7
structure S8 (S:List Rat):Prop where
 len:S.length≤30
 fr:FrL 6 100000000000 S
structure O8 (Sx Sy:List Rat) (A:Yd):Prop where
 on:On Sx Sy A
 sx:S8 Sx
 sy:S8 Sy
theorem O8.op {Sx Sy:List Rat}{A B:Yd} (a:O8 Sx Sy A) (b:O8 Sx Sy B) (p:Bool→Bool→Bool):O8 Sx Sy (Yd.op p A B):=⟨a.on.op b.on p,a.sx,a.sy⟩
theorem O8.size {Sx Sy:List Rat}{A:Yd} (a:O8 Sx Sy A):FrL 6 100000000000 A.ws∧FrL 6 100000000000 A.us∧A.ws.length≤90∧A.us.length≤90 :=
 ⟨fun w hw=>a.sx.fr w (a.on.x w hw),fun w hw=>a.sy.fr w (a.on.y w hw),Nat.le_trans (jW A.uw a.on.x) (Nat.le_trans a.sx.len (by decide)),Nat.le_trans (jW A.uu a.on.y) (Nat.le_trans a.sy.len (by decide))⟩
theorem aAW {xs ys:List Int}{zs:List Str} (ux:Up7 xs) (uy:Up7 ys) (g:R.Good (xs.length - 1) zs) (hz:zs.length=ys.length - 1):(∀ w∈(dA xs ys zs ux.up uy.up g hz).ws,∃ x∈xs,w=(x:Rat))∧(∀ w∈(dA xs ys zs ux.up uy.up g hz).us,∃ x∈ys,w=(x:Rat))∧(dA xs ys zs ux.up uy.up g hz).ws.length≤7∧(dA xs ys zs ux.up uy.up g hz).us.length≤7:=by
 obtain ⟨h1,h2⟩:=Yd.ofG_ws (jU ux.up) (jU uy.up) (by rw [eG]; exact g:R.Good ((toQ xs).length - 1) zs) (by rw [eG]; exact hz)
 have fx:=ux.few
 have fy:=uy.few
 refine ⟨fun w hw => ?_,fun w hw => ?_,?_,?_⟩
 ·obtain ⟨x,hx,rfl⟩:=List.mem_map.mp (h1 w hw); exact ⟨x,hx,rfl⟩
 ·obtain ⟨x,hx,rfl⟩:=List.mem_map.mp (h2 w hw); exact ⟨x,hx,rfl⟩
 ·exact Nat.le_trans (jW (dA xs ys zs ux.up uy.up g hz).uw h1) (by rw [eG]; exact fx)
 ·exact Nat.le_trans (jW (dA xs ys zs ux.up uy.up g hz).uu h2) (by rw [eG]; exact fy)
end Q
set_option exponentiation.threshold 500
namespace Q
open PySem L2 Z U
def yM:Ct:=fun ds M k=>∃ a b:Rat,ds=[numD a,numD b]∧Bq a∧Bq b∧b≠0∧k (numD (a / b)) M
theorem xP {b:Rat} (h:b≠0):b.num≠0:=fun e=>h (Rat.num_eq_zero.mp e)
theorem aB2 {a b:Rat} (h:b≠0):lowP ((pq a).1 * (pq b).2) ((pq a).2 * (pq b).1)=pq (a / b) :=
 (k5 _ _ (Int.mul_ne_zero (fQ a) (xP h))).trans (congrArg pq (Num.aB6 a b))
theorem aBS {p q:Int × Int} (hp:Bg p) (hq:Bg q):(p.2 * q.1).natAbs < 10 ^ 1000:=by
 rw [Int.natAbs_mul]
 have:p.2.natAbs * q.1.natAbs≤10 ^ 400 * 10 ^ 400:=Nat.mul_le_mul (Nat.le_of_lt hp.b) (Nat.le_of_lt hq.a)
 rw [← Nat.pow_add] at this
 exact Nat.lt_of_le_of_lt this (Nat.pow_lt_pow_right (by decide) (by decide))
theorem i0 {t b:Int} (hb:0 < b):cU (lowG t b)=numD (Rat.divInt t b):=by
 rw [← aB5 hb,k5 _ _ (by omega)]; rfl
end Q
set_option exponentiation.threshold 500
namespace Q
open PySem L2 Z U
def PnM (M:Mem) (p:Addr) (b:Int):Prop:=∃ (ns:List Int) (st g:Int),M p=some (.lst [.fl (ns.map .int), .int st, .int g])∧0≤st∧st≤b∧0≤g
theorem PnM.mono {M:Mem}{p:Addr}{b c:Int} (h:PnM M p b) (l:b≤c):PnM M p c:=by
 obtain ⟨ns,st,g,h1,h2,h3,h4⟩:=h
 exact ⟨ns,st,g,h1,h2,by omega,h4⟩
theorem PnM.ne {M:Mem}{p a:Addr}{b:Int} (h:PnM M p b) (n:M a=none):a≠p:=fun z=>by
 obtain ⟨ns,st,g,h1,_⟩:=h
 rw [z,h1] at n; cases n
theorem PnM.new {M:Mem}{p a:Addr}{b:Int}{o:MO} (h:PnM M p b) (n:a≠p):PnM (updM M a o) p b:=by
 obtain ⟨ns,st,g,h1,h2⟩:=h
 exact ⟨ns,st,g,by rw [cM (fun e=>n e.symm)]; exact h1,h2⟩
theorem PnM.del {M:Mem}{p a:Addr}{b:Int} (h:PnM M p b) (n:a≠p):PnM (delM M a) p b:=by
 obtain ⟨ns,st,g,h1,h2⟩:=h
 exact ⟨ns,st,g,by unfold delM; rw [if_neg (fun e=>n e.symm)]; exact h1,h2⟩
def cPen:Ct:=fun ds M k=>∃ (ns:List Int),ds=[.fl (ns.map .int)]∧∀ p M',M p=none→Le M M'→PnM M' p 0→k (.mt p) M'
def jL:Ct:=fun ds M k=>∃ (p:Addr) (n b:Int),ds=[.mt p, .int n]∧0 < n∧n < 1073741824∧PnM M p b∧b≤1000000∧∀ z M',0≤z→z < n→PnM M' p (b+1)→ButM p M M'→(∀ a,a≠p→M' a=M a)→k (.int z) M'
def tT:Ct:=fun ds M k=>∃ (p:Addr) (b gap:Int),ds=[.mt p, .int gap]∧1≤gap∧gap≤100000000∧PnM M p b∧b≤900000∧∀ xs M',Up7 xs→2≤xs.length→PnM M' p (b+20)→ButM p M M'→k (.lst (xs.map .int)) M'
def uC:Ct:=fun ds M k=>∃ (p:Addr) (b:Int) (xs ys:List Int),ds=[.mt p, .lst (xs.map .int), .lst (ys.map .int)]∧PnM M p b∧b≤900000∧2≤xs.length∧2≤ys.length∧xs.length≤20∧ys.length≤20∧∀ zs M',R.Good (xs.length - 1) zs→zs.length=ys.length - 1→PnM M' p (b+500)→ButM p M M'→k (.lst (zs.map .str)) M'
structure Pc (p:Int):Prop where
 a:1≤p
 b:p≤9
def yA:Ct:=fun ds M k=>∃ (p:Addr) (b:Int),ds=[.mt p]∧PnM M p b∧b≤900000∧∀ e n w s M',Pc e→Pc n→Pc w→Pc s→PnM M' p (b+10)→ButM p M M'→k (kL e n w s) M'
structure Tm (t:Rat):Prop where
 p:0≤t
 n:t.num.natAbs≤1000000000000
 d:t.den≤1000000
theorem gP {a b:Int} (hb:0 < b):Fr b.toNat a.natAbs (Rat.divInt a b):=by
 have nb:((b:Int):Rat)≠0:=fun e=>by have:=Rat.intCast_inj.mp (e.trans Rat.intCast_zero.symm); omega
 refine ⟨a,?_,Nat.le_refl _⟩
 have e:((b.toNat:Nat):Rat)=((b:Int):Rat):=by rw [← Rat.intCast_natCast,Int.toNat_of_nonneg (by omega)]
 rw [Rat.divInt_eq_div,e]
 grind
theorem xI {a b:Int} (hb:0 < b):(Rat.divInt a b).num.natAbs≤a.natAbs∧((Rat.divInt a b).den:Int)≤b:=by
 obtain ⟨h1,h2⟩:=(gP (a:=a) hb).bd (by omega)
 exact ⟨h1,by omega⟩
theorem aD9 {a b:Int} (ha:0≤a) (hb:0 < b):0≤Rat.divInt a b:=by
 rw [Rat.divInt_eq_div]
 have h1:(0:Rat) < (b:Rat):=Rat.intCast_pos.mpr hb
 have h2:(0:Rat)≤(a:Rat):=Rat.intCast_nonneg.mpr ha
 refine Rat.not_lt.mp fun q => ?_
 have:=(Rat.div_lt_iff h1).mp q
 grind
structure Yk (m B n:Nat) (A:Yd):Prop where
 x:FrL m B A.ws
 y:FrL m B A.us
 lx:A.ws.length≤n
 ly:A.us.length≤n
structure Mk (m:Nat) (t:Rat):Prop where
 m0:0 < m
 m1:m≤100000000000000000000
 p:0≤t
 f:Fr m 100000000000000000000000000000000 t
def stp:Nat:=1000000000000000000000000000000000
theorem Mk.of {t:Rat} (h:Tm t):Mk t.den t:=⟨t.den_pos,Nat.le_trans h.d (by decide),h.p,⟨t.num,uM t,Nat.le_trans h.n (by decide)⟩⟩
theorem Mk.fr {m:Nat}{t:Rat} (h:Mk m t) {p:Int} (hp:Pc p):Fr m stp ((p:Rat) * t):=by
 obtain ⟨h1,h2⟩:=hp
 obtain ⟨k,e,hk⟩:=h.f.ex
 refine ⟨p * k,?_,?_⟩
 ·rw [Rat.mul_assoc,e,Rat.intCast_mul]
 ·rw [Int.natAbs_mul]
  exact Nat.le_trans (Nat.mul_le_mul (show p.natAbs≤9 by omega) hk) (by decide)
theorem Mk.bq {m B:Nat}{t q:Rat} (h:Mk m t) (f:Fr m B q) (hB:B≤10 ^ 60):Bq q:=f.bq h.m0 (Nat.lt_of_le_of_lt h.m1 (by decide +kernel)) (Nat.lt_of_le_of_lt hB (by decide +kernel))
theorem Mk.sml {m B:Nat}{t q:Rat} (h:Mk m t) (f:Fr m B q) (hB:B≤10 ^ 60):Sml q:=by
 obtain ⟨a,b⟩:=f.bd h.m0
 exact ⟨Nat.lt_of_le_of_lt a (Nat.lt_of_le_of_lt hB (by decide +kernel)),Nat.lt_of_le_of_lt b (Nat.lt_of_le_of_lt h.m1 (by decide +kernel))⟩
def far:Nat:=10 ^ 50
structure Pp (p q r s:Int):Prop where
 p:Pc p
 q:Pc q
 r:Pc r
 s:Pc s
theorem zL {xs ys:List Int}{zs:List Str} (ux:Up7 xs) (uy:Up7 ys) (g:R.Good (xs.length - 1) zs) (hz:zs.length=ys.length - 1) {m:Nat}{t:Rat} (h:Mk m t):Yk m 1000000000000000000000000000000 7 (dA xs ys zs ux.up uy.up g hz):=by
 obtain ⟨h1,h2,h3,h4⟩:=aAW ux uy g hz
 have hm:=h.m1
 have key:∀ x:Int, -1000000000≤x∧x≤1000000000→Fr m 1000000000000000000000000000000 (x:Rat):=fun x hx=>Fr.int (Nat.le_trans (Nat.mul_le_mul (show x.natAbs≤1000000000 by omega) hm) (by decide))
 exact ⟨fun w hw=>by obtain ⟨x,hx,rfl⟩:=h1 w hw; exact key x (ux.bd x hx),fun w hw=>by obtain ⟨x,hx,rfl⟩:=h2 w hw; exact key x (uy.bd x hx),h3,h4⟩
theorem Yk.repr {m B n:Nat}{A:Yd} (k:Yk m B n A) {t:Rat} (h:Mk m t) (hB:B≤far) (hn:n≤90):smD (yd A)=true∧wt (yd A)≤10000000:=by
 have lx:=k.lx
 have ly:=k.ly
 obtain ⟨hw,hK⟩:=A.wide
 have g:=A.T.good.1
 have t1:∀ z∈A.K,wt (.str z)≤1000:=fun z hz=>by
  have h2:∀ c∈z.cps.toList,c < 16 ^ 8:=fun c hc=>by
   have:=(g z hz).2
   rw [List.all_eq_true] at this
   have:=this c hc
   have e:c=35∨c=46:=by simpa [R.sgn] using this
   omega
  have:=PySem.StrLaws.reprText_len z h2
  have:=hw z hz
  show (reprText z).length≤_
  omega
 have ln:∀ ws:List Rat,FrL m B ws→smDs (aZ ws)=true∧wts (aZ ws)≤ws.length * 141:=fun ws f=>by
  have s1:∀ d∈aZ ws,smD d=true∧wt d≤139:=fun d hd=>by
   obtain ⟨q,hq,rfl⟩:=List.mem_map.mp hd
   obtain ⟨a1,a2⟩:=h.sml (f q hq) (Nat.le_trans hB (by unfold far; decide +kernel))
   refine ⟨?_,Nat.le_of_eq (by simp only [numD,cU,wt,wts])⟩
   show smD (.tup [.int q.num, .int (q.den:Int)])=true
   simp only [smD,smDs,Bool.and_true,Bool.and_eq_true,decide_eq_true_eq]
   exact ⟨a1,by rw [Int.natAbs_natCast]; exact a2⟩
  have w:=rM (B:=139) fun d hd=>(s1 d hd).2
  rw [c9] at w
  exact ⟨oX fun d hd=>(s1 d hd).1,w⟩
 obtain ⟨a1,a2⟩:=ln A.ws k.x
 obtain ⟨b1,b2⟩:=ln A.us k.y
 have c1:smDs (A.K.map D.str)=true:=oX fun d hd=>by obtain ⟨z,_,rfl⟩:=List.mem_map.mp hd; rfl
 have c2:wts (A.K.map D.str)≤A.K.length * 1002:=by
  have:=rM (B:=1000) (ds:=A.K.map D.str) fun d hd=>by obtain ⟨z,hz,rfl⟩:=List.mem_map.mp hd; exact t1 z hz
  rwa [List.length_map] at this
 unfold yd oF
 simp only [smD,smDs,wt,wts,a1,b1,c1,Bool.and_true]
 exact ⟨trivial,by omega⟩
theorem aA0 {z:Int} (h0:0≤z) (h1:z < 3):∃ m:Int,atI [D.int 3, .int 40, .int (10 ^ (8:Int).toNat)] z=some (.int m)∧1≤m∧m≤100000000:=by
 have:z=0∨z=1∨z=2:=by omega
 rcases this with rfl | rfl | rfl
 ·exact ⟨3,rfl,by decide,by decide⟩
 ·exact ⟨40,rfl,by decide,by decide⟩
 ·exact ⟨10 ^ (8:Int).toNat,rfl,by decide,by decide⟩
theorem xQ {z:Int} (h0:0≤z) (h1:z < 5):∃ t:Str,atI [D.str "#####.", .str "##.", .str "#.", .str "#....", .str "#"] z=some (.str t)∧1≤t.length∧t.length≤6∧t.cps.toList.all R.sgn=true:=by
 have:z=0∨z=1∨z=2∨z=3∨z=4:=by omega
 rcases this with rfl | rfl | rfl | rfl | rfl
 ·exact ⟨"#####.", rfl,by decide +kernel,by decide +kernel,by decide +kernel⟩
 ·exact ⟨"##.", rfl,by decide +kernel,by decide +kernel,by decide +kernel⟩
 ·exact ⟨"#.", rfl,by decide +kernel,by decide +kernel,by decide +kernel⟩
 ·exact ⟨"#....", rfl,by decide +kernel,by decide +kernel,by decide +kernel⟩
 ·exact ⟨"#", rfl,by decide +kernel,by decide +kernel,by decide +kernel⟩
theorem aDD {t:Str} (h:t.cps.toList.all R.sgn=true) {j:Nat} (hj:j < t.length):R.atS t j=35∨R.atS t j=46:=by
 have e:=R.cG (z:=t) (j:=j) hj
 rw [List.all_eq_true] at h
 have:=h _ (List.mem_of_getElem? e)
 simpa [R.sgn] using this
theorem pB {xs:List Int}{i:Int} (h0:0≤i) (h:i < xs.length):∃ x,xs[i.toNat]?=some x∧atI (xs.map D.int) i=some (.int x):=by
 obtain ⟨j,rfl⟩:∃ j:Nat,i=j:=⟨i.toNat,by omega⟩
 have hj:j < xs.length:=by omega
 exact ⟨xs[j],by rw [Int.toNat_natCast]; exact List.getElem?_eq_getElem hj,cD (by rw [List.getElem?_map,List.getElem?_eq_getElem hj]; rfl)⟩
theorem tm0:Tm 0:=⟨by decide +kernel,by decide +kernel,by decide +kernel⟩
end Q
namespace U
open PySem
def maxQ (a b:Rat):Rat:=if a < b then b else a
def minQ (a b:Rat):Rat:=if b < a then b else a
theorem qS {t a b:Rat}:t≤maxQ a b↔t≤a∨t≤b:=by
 unfold maxQ; split <;> grind
theorem xX {t a b:Rat}:maxQ a b≤t↔a≤t∧b≤t:=by
 unfold maxQ; split <;> grind
theorem aEW {t a b:Rat}:t≤minQ a b↔t≤a∧t≤b:=by
 unfold minQ; split <;> grind
def tB (ws:List Rat) (x p q:Rat) (b:Nat):Rat :=
 if b=0 then (x - ws.getD 0 0) / p else if b < ws.length then maxQ ((x - ws.getD b 0) / p) ((ws.getD (b - 1) 0 - x) / q) else (ws.getD (b - 1) 0 - x) / q
theorem gD {ws:List Rat}{i:Nat} (h:i < ws.length):ws.getD i 0=ws[i]:=by rw [List.getD_eq_getElem?_getD,List.getElem?_eq_getElem h]; rfl
theorem jS {a w x:Rat} (ha:0 < a):w≤x / a↔w * a≤x:=(lP ha).symm
theorem aBJ {ws:List Rat}{x p q t:Rat} (hp:0 < p) (hq:0 < q) (hl:1≤ws.length) {b:Nat} (hb:b≤ws.length):t≤tB ws x p q b↔(∃ h:b < ws.length,t * p≤x - ws[b])∨∃ h:b - 1 < ws.length,0 < b∧t * q≤ws[b - 1] - x:=by
 unfold tB
 by_cases h0:b=0
 ·subst h0
  rw [if_pos rfl,jS hp,gD (show 0 < ws.length by omega)]
  constructor
  ·intro h; exact .inl ⟨by omega,h⟩
  ·rintro (⟨_,h⟩ | ⟨_,h,_⟩)
   ·exact h
   ·omega
 ·rw [if_neg h0]
  by_cases h1:b < ws.length
  ·rw [if_pos h1,qS,jS hp,jS hq,gD h1,gD (show b - 1 < ws.length by omega)]
   constructor
   ·rintro (h | h)
    ·exact .inl ⟨h1,h⟩
    ·exact .inr ⟨by omega,by omega,h⟩
   ·rintro (⟨_,h⟩ | ⟨_,_,h⟩)
    ·exact .inl h
    ·exact .inr h
  ·rw [if_neg h1,jS hq,gD (show b - 1 < ws.length by omega)]
   constructor
   ·intro h; exact .inr ⟨by omega,by omega,h⟩
   ·rintro (⟨h,_⟩ | ⟨_,_,h⟩)
    ·exact absurd h h1
    ·exact h
theorem iB {ws:List Rat} (u:Up ws) {x p q t:Rat} (hp:0 < p) (hq:0 < q) (hl:1≤ws.length) (ht:0 < t) {b:Nat} (hb:b≤ws.length):¬ t≤tB ws x p q b↔∃ v,x - p * t < v∧v < x+q * t∧ix ws v=(b:Int) - 1:=by
 rw [aBJ hp hq hl hb]
 have pt:0 < p * t:=Rat.mul_pos hp ht
 have qt:0 < q * t:=Rat.mul_pos hq ht
 have cp:t * p=p * t:=Rat.mul_comm _ _
 have cq:t * q=q * t:=Rat.mul_comm _ _
 constructor
 ·intro h
  have g1:∀ h':b < ws.length,x - p * t < ws[b]:=fun h'=>by
   refine Rat.not_le.mp fun z=>h (.inl ⟨h',?_⟩); rw [cp]; grind
  have g2:∀ h':b - 1 < ws.length,0 < b→ws[b - 1] < x+q * t:=fun h' hb0=>by
   refine Rat.not_le.mp fun z=>h (.inr ⟨h',hb0,?_⟩); rw [cq]; grind
  obtain ⟨lo,l1,l2,l3⟩:∃ lo,x - p * t≤lo∧(∀ h':b - 1 < ws.length,0 < b→ws[b - 1]≤lo)∧(lo < x+q * t∧∀ h':b < ws.length,lo < ws[b]):=by
   by_cases hb0:0 < b
   ·have hb1:b - 1 < ws.length:=by omega
    have g3:∀ h':b < ws.length,ws[b - 1] < ws[b]:=fun h'=>(jP u hb1 h').mpr (by omega)
    by_cases hc:x - p * t≤ws[b - 1]
    ·exact ⟨ws[b - 1],hc,fun _ _=>by grind,g2 hb1 hb0,g3⟩
    ·exact ⟨x - p * t,by grind,fun _ _=>by grind,by grind,g1⟩
   ·exact ⟨x - p * t,by grind,fun _ h=>absurd h hb0,by grind,g1⟩
  obtain ⟨hi,k1,k2,k3⟩:∃ hi,hi≤x+q * t∧(∀ h':b < ws.length,hi≤ws[b])∧lo < hi:=by
   by_cases h':b < ws.length
   ·by_cases hc:ws[b]≤x+q * t
    ·exact ⟨ws[b],hc,fun _=>by grind,l3.2 h'⟩
    ·exact ⟨x+q * t,by grind,fun _=>by grind,l3.1⟩
   ·exact ⟨x+q * t,by grind,fun z=>absurd z h',l3.1⟩
  refine ⟨(lo+hi) / 2,by grind,by grind,?_⟩
  refine mU u (by omega) (by omega) fun i hi' => ?_
  constructor
  ·intro z
   by_cases h':b < ws.length
   ·have a1:=k2 h'
    have:=(jP u hi' h').mp (by grind)
    omega
   ·omega
  ·intro z
   have hb1:b - 1 < ws.length:=by omega
   have a1:=l2 hb1 (by omega)
   have a2:=(fL u hi' hb1).mpr (by omega)
   grind
 ·rintro ⟨v,v1,v2,v3⟩ (⟨h',z⟩ | ⟨h',hb0,z⟩)
  ·have:¬ ws[b]≤v:=fun y=>by have:=(dC u h').mp y; omega
   rw [cp] at z
   grind
  ·have:ws[b - 1]≤v:=(dC u h').mpr (by omega)
   rw [cq] at z
   grind
theorem tB_0 {ws:List Rat} (u:Up ws) {x p q:Rat} (hp:0 < p) (hq:0 < q) (hl:1≤ws.length) {b:Nat} (hb:b≤ws.length):tB ws x p q b≤0↔(b:Int) - 1∈Q.aX ws x:=by
 have key:tB ws x p q b≤0↔(∀ h:b < ws.length,x≤ws[b])∧∀ h:b - 1 < ws.length,0 < b→ws[b - 1]≤x:=by
  have e:∀ a r:Rat,0 < a→(r / a≤0↔r≤0):=fun a r ha=>by
   have:=Rat.div_lt_iff (a:=r) (c:=0) ha
   have h2:=jS (w:=0) (x:=r) ha
   have h3:=Rat.lt_div_iff (a:=0) (b:=r) ha
   constructor
   ·intro z; refine Rat.not_lt.mp fun y => ?_; have:=h3.mpr (by grind); grind
   ·intro z; refine Rat.not_lt.mp fun y => ?_; have:=h3.mp y; grind
  unfold tB
  by_cases h0:b=0
  ·subst h0
   rw [if_pos rfl,e _ _ hp,gD (show 0 < ws.length by omega)]
   constructor
   ·intro z; exact ⟨fun _=>by grind,fun _ y=>by omega⟩
   ·rintro ⟨z,_⟩; have:=z (by omega); grind
  ·rw [if_neg h0]
   by_cases h1:b < ws.length
   ·rw [if_pos h1,xX,e _ _ hp,e _ _ hq,gD h1,gD (show b - 1 < ws.length by omega)]
    constructor
    ·rintro ⟨y,z⟩; exact ⟨fun _=>by grind,fun _ _=>by grind⟩
    ·rintro ⟨y,z⟩; have:=y h1; have:=z (by omega) (by omega); exact ⟨by grind,by grind⟩
   ·rw [if_neg h1,e _ _ hq,gD (show b - 1 < ws.length by omega)]
    constructor
    ·intro z; exact ⟨fun y=>absurd y h1,fun _ _=>by grind⟩
    ·rintro ⟨_,z⟩; have:=z (by omega) (by omega); grind
 rw [key]
 by_cases hx:x∈ws
 ·obtain ⟨i,hi,rfl⟩:=List.getElem_of_mem hx
  rw [Q.zT u hi]
  simp only [List.mem_cons,List.not_mem_nil,or_false]
  constructor
  ·rintro ⟨y,z⟩
   have a:b < ws.length→i≤b:=fun h=>(fL u hi h).mp (y h)
   have c:0 < b→b - 1≤i:=fun h=>(fL u (by omega) hi).mp (z (by omega) h)
   by_cases h1:b < ws.length
   ·have:=a h1
    by_cases h2:0 < b
    ·have:=c h2; omega
    ·omega
   ·have:=c (by omega); omega
  ·intro h
   refine ⟨fun h1=>(fL u hi h1).mpr (by omega),fun h1 h2=>(fL u h1 hi).mpr (by omega)⟩
 ·rw [Q.xO hx,List.mem_singleton]
  have a:=g7 ws x
  have c:=hU ws x
  constructor
  ·rintro ⟨y,z⟩
   refine (mU u (by omega) (by omega) fun i hi => ?_).symm
   constructor
   ·intro w
    by_cases h1:b < ws.length
    ·have h2:=y h1
     have h3:ws[i]≠x:=fun e=>hx (e ▸ List.getElem_mem hi)
     have:=(jP u hi h1).mp (by grind)
     omega
    ·omega
   ·intro w
    have h2:=z (by omega) (by omega)
    have:=(fL u hi (show b - 1 < ws.length by omega)).mpr (by omega)
    grind
  ·intro h
   refine ⟨fun h1 => ?_,fun h1 h2=>(dC u h1).mpr (by omega)⟩
   have:¬ ws[b]≤x:=fun z=>by have:=(dC u h1).mp z; omega
   grind
def hRow (tx:Nat→Rat) (ty:Rat) (out:Nat→Bool):Nat→Rat→Rat
 | 0,t=>t
 | n+1,t=>if out n then minQ (hRow tx ty out n t) (maxQ (tx n) ty) else hRow tx ty out n t
def hAll (tx ty:Nat→Rat) (out:Nat→Nat→Bool) (na:Nat):Nat→Rat→Rat
 | 0,t=>t
 | m+1,t=>hRow tx (ty m) (fun a=>out a m) na (hAll tx ty out na m t)
theorem uF {tx:Nat→Rat}{ty:Rat}{out:Nat→Bool}{t0 t:Rat}:∀ n,t≤hRow tx ty out n t0↔t≤t0∧∀ a,a < n→out a=true→t≤maxQ (tx a) ty
 | 0=>by unfold hRow; exact ⟨fun h=>⟨h,fun a ha=>absurd ha (Nat.not_lt_zero _)⟩,fun h=>h.1⟩
 | n+1=>by
  have ih:=uF (tx:=tx) (ty:=ty) (out:=out) (t0:=t0) (t:=t) n
  unfold hRow
  by_cases ho:out n=true
  ·rw [if_pos ho,aEW,ih]
   constructor
   ·rintro ⟨⟨h1,h2⟩,h3⟩
    refine ⟨h1,fun a ha hoa => ?_⟩
    by_cases e:a=n
    ·subst e; exact h3
    ·exact h2 a (by omega) hoa
   ·rintro ⟨h1,h2⟩
    exact ⟨⟨h1,fun a ha=>h2 a (by omega)⟩,h2 n (by omega) ho⟩
  ·rw [if_neg ho,ih]
   constructor
   ·rintro ⟨h1,h2⟩
    refine ⟨h1,fun a ha hoa => ?_⟩
    by_cases e:a=n
    ·subst e; exact absurd hoa ho
    ·exact h2 a (by omega) hoa
   ·rintro ⟨h1,h2⟩
    exact ⟨h1,fun a ha=>h2 a (by omega)⟩
theorem tP {tx ty:Nat→Rat}{out:Nat→Nat→Bool}{na:Nat}{t0 t:Rat}:∀ m,t≤hAll tx ty out na m t0↔t≤t0∧∀ b,b < m→∀ a,a < na→out a b=true→t≤maxQ (tx a) (ty b)
 | 0=>by unfold hAll; exact ⟨fun h=>⟨h,fun a ha=>absurd ha (Nat.not_lt_zero _)⟩,fun h=>h.1⟩
 | m+1=>by
  have ih:=tP (tx:=tx) (ty:=ty) (out:=out) (na:=na) (t0:=t0) (t:=t) m
  unfold hAll
  rw [uF,ih]
  constructor
  ·rintro ⟨⟨h1,h2⟩,h3⟩
   refine ⟨h1,fun b hb a ha ho => ?_⟩
   by_cases e:b=m
   ·subst e; exact h3 a ha ho
   ·exact h2 b (by omega) a ha ho
  ·rintro ⟨h1,h2⟩
   exact ⟨⟨h1,fun b hb=>h2 b (by omega)⟩,h2 m (by omega)⟩
def dZ (A:Yd) (x y:Rat):Bool:=(Q.aX A.us y).all fun l=>(Q.aX A.ws x).all fun k=>R.aR A.K k l
structure Pz (p q r s:Rat):Prop where
 p:0 < p
 q:0 < q
 r:0 < r
 s:0 < s
def hgt (A:Yd) (p q r s x y:Rat):Rat:=hAll (tB A.ws x p r) (tB A.us y q s) (fun a b => !R.aR A.K ((a:Int) - 1) ((b:Int) - 1)) (A.ws.length+1) (A.us.length+1) (tB A.ws x p r 0)
def eO (A:Yd) (p q r s x y:Rat):Rat:=if dZ A x y then hgt A p q r s x y else 0
structure IsH (A:Yd) (p q r s x y h:Rat):Prop where
 nn:0≤h
 i:∀ t,0 < t→(t≤h↔∀ u v,x - p * t < u→u < x+r * t→y - q * t < v→v < y+s * t→A.has u v=true)
theorem IsH.uniq {A:Yd}{p q r s x y h h':Rat} (a:IsH A p q r s x y h) (b:IsH A p q r s x y h'):h=h':=by
 have one:∀ {h h':Rat},IsH A p q r s x y h→IsH A p q r s x y h'→h'≤h:=fun {h h'} a b=>by
  by_cases z:0 < h'
  ·exact (a.i h' z).mpr ((b.i h' z).mp (by grind))
  ·have:=a.nn; grind
 have:=one a b
 have:=one b a
 grind
theorem nL (ws:List Rat) (x:Rat):∃ k,k∈Q.aX ws x:=by
 unfold Q.aX
 split <;> exact ⟨_, .head _⟩
theorem n0 {ws:List Rat}{x:Rat}{k:Int} (h:k∈Q.aX ws x):∃ b:Nat,b≤ws.length∧k=(b:Int) - 1:=by
 have hl:Q.cntQ ws x≤ws.length:=List.length_filter_le _ _
 unfold Q.aX at h
 split at h
 ·rename_i g
  simp only [List.mem_cons,List.not_mem_nil,or_false] at h
  rcases h with rfl | rfl
  ·exact ⟨_,hl,rfl⟩
  ·exact ⟨Q.cntQ ws x+1,by omega,by omega⟩
 ·rw [List.mem_singleton] at h
  exact ⟨_,hl,h⟩
theorem qR {A:Yd}{x y:Rat} (h:dZ A x y=true):2≤A.ws.length∧2≤A.us.length:=by
 rcases A.big with e | e
 ·exfalso
  obtain ⟨l,hl⟩:=nL A.us y
  obtain ⟨k,hk⟩:=nL A.ws x
  unfold dZ at h
  rw [List.all_eq_true] at h
  have:=h l hl
  rw [List.all_eq_true] at this
  have:=this k hk
  rw [e,cnil] at this
  cases this
 ·exact e
theorem tV {A:Yd}{x y:Rat} (h:dZ A x y=true) {k l:Int} (hk:k∈Q.aX A.ws x) (hl:l∈Q.aX A.us y):R.aR A.K k l=true:=by
 unfold dZ at h
 rw [List.all_eq_true] at h
 have:=h l hl
 rw [List.all_eq_true] at this
 exact this k hk
theorem aFN {A:Yd}{x y:Rat} (h:¬ dZ A x y=true):∃ k∈Q.aX A.ws x,∃ l∈Q.aX A.us y,R.aR A.K k l=false:=by
 refine Classical.byContradiction fun z=>h ?_
 unfold dZ
 rw [List.all_eq_true]
 intro l hl
 rw [List.all_eq_true]
 intro k hk
 refine (Bool.not_eq_false _).mp fun e=>z ⟨k,hk,l,hl,e⟩
theorem xR (A:Yd) {p q r s:Rat} (z:Pz p q r s) (x y:Rat):IsH A p q r s x y (eO A p q r s x y):=by
 unfold eO
 by_cases hin:dZ A x y=true
 ·rw [if_pos hin]
  obtain ⟨b1,b2⟩:=qR hin
  have ge:∀ t,t≤hgt A p q r s x y↔t≤tB A.ws x p r 0∧∀ b,b < A.us.length+1→∀ a,a < A.ws.length+1→R.aR A.K ((a:Int) - 1) ((b:Int) - 1)=false→t≤maxQ (tB A.ws x p r a) (tB A.us y q s b):=fun t=>by
   unfold hgt
   rw [tP]
   simp only [Bool.not_eq_true']
  constructor
  ·refine (ge 0).mpr ⟨?_,fun b hb a ha ho => ?_⟩
   ·refine Rat.not_lt.mp fun w => ?_
    have h0:=(tB_0 A.uw z.p z.r (x:=x) (b:=0) (by omega) (by omega)).mp (by grind)
    obtain ⟨l,hl⟩:=nL A.us y
    have:=tV hin h0 hl
    rw [R.bZ (by omega)] at this
    cases this
   ·refine Rat.not_lt.mp fun w => ?_
    have w':maxQ (tB A.ws x p r a) (tB A.us y q s b)≤0:=by grind
    obtain ⟨w1,w2⟩:=xX.mp w'
    have:=tV hin ((tB_0 A.uw z.p z.r (by omega) (by omega)).mp w1) ((tB_0 A.uu z.q z.s (by omega) (by omega)).mp w2)
    rw [ho] at this; cases this
  ·intro t ht
   rw [ge t]
   constructor
   ·rintro ⟨_,h⟩ u v h1 h2 h3 h4
    refine (Bool.not_eq_false _).mp fun e => ?_
    have a1:=g7 A.ws u
    have a2:=hU A.ws u
    have c1:=g7 A.us v
    have c2:=hU A.us v
    obtain ⟨a,ha⟩:∃ a:Nat,ix A.ws u=(a:Int) - 1:=⟨(ix A.ws u+1).toNat,by omega⟩
    obtain ⟨b,hb⟩:∃ b:Nat,ix A.us v=(b:Int) - 1:=⟨(ix A.us v+1).toNat,by omega⟩
    have e':R.aR A.K ((a:Int) - 1) ((b:Int) - 1)=false:=by rw [← ha,← hb]; exact e
    rcases qS.mp (h b (by omega) a (by omega) e') with g | g
    ·exact (iB A.uw z.p z.r (by omega) ht (by omega)).mpr ⟨u,h1,h2,ha⟩ g
    ·exact (iB A.uu z.q z.s (by omega) ht (by omega)).mpr ⟨v,h3,h4,hb⟩ g
   ·intro h
    have qt:0 < q * t:=Rat.mul_pos z.q ht
    have st:0 < s * t:=Rat.mul_pos z.s ht
    constructor
    ·refine Classical.byContradiction fun w => ?_
     obtain ⟨u,h1,h2,h3⟩:=(iB A.uw z.p z.r (b:=0) (by omega) ht (by omega)).mp w
     have:=h u y h1 h2 (by grind) (by grind)
     unfold Yd.has inY at this
     rw [h3,R.bZ (by omega)] at this
     cases this
    ·intro b hb a ha ho
     rw [qS]
     refine Classical.byContradiction fun w => ?_
     obtain ⟨u,h1,h2,h3⟩:=(iB A.uw z.p z.r (b:=a) (by omega) ht (by omega)).mp fun g=>w (.inl g)
     obtain ⟨v,g1,g2,g3⟩:=(iB A.uu z.q z.s (b:=b) (by omega) ht (by omega)).mp fun g=>w (.inr g)
     have:=h u v h1 h2 g1 g2
     unfold Yd.has inY at this
     rw [h3,g3,ho] at this
     cases this
 ·rw [if_neg hin]
  refine ⟨by grind,fun t ht=>⟨fun h=>absurd h (by grind),fun h => ?_⟩⟩
  exfalso
  have pt:0 < p * t:=Rat.mul_pos z.p ht
  have rt:0 < r * t:=Rat.mul_pos z.r ht
  have qt:0 < q * t:=Rat.mul_pos z.q ht
  have st:0 < s * t:=Rat.mul_pos z.s ht
  rcases A.big with e | ⟨b1,b2⟩
  ·have:=h x y (by grind) (by grind) (by grind) (by grind)
   unfold Yd.has inY at this
   rw [e,cnil] at this
   cases this
  ·obtain ⟨k,hk,l,hl,hc⟩:=aFN hin
   obtain ⟨a,ha,rfl⟩:=n0 hk
   obtain ⟨b,hb,rfl⟩:=n0 hl
   have w1:=(tB_0 A.uw z.p z.r (by omega) ha).mpr hk
   have w2:=(tB_0 A.uu z.q z.s (by omega) hb).mpr hl
   obtain ⟨u,h1,h2,h3⟩:=(iB A.uw z.p z.r (x:=x) (b:=a) (by omega) ht ha).mp (by grind)
   obtain ⟨v,g1,g2,g3⟩:=(iB A.uu z.q z.s (x:=y) (b:=b) (by omega) ht hb).mp (by grind)
   have:=h u v h1 h2 g1 g2
   unfold Yd.has inY at this
   rw [h3,g3,hc] at this
   cases this
end U
set_option exponentiation.threshold 500
namespace Q
open PySem L2 Z U
def nU:Ct:=fun ds M k=>∃ a b:Rat,ds=[numD a,numD b]∧Bq a∧Bq b∧k (numD (maxQ a b)) M
def tH:Ct:=fun ds M k=>∃ a b:Rat,ds=[numD a,numD b]∧Bq a∧Bq b∧k (numD (minQ a b)) M
def tR:Ct:=fun ds M k=>∃ (a:Rat) (p:Int),ds=[numD a, .int p]∧Bq a∧Pc p∧k (numD (a / (p:Rat))) M
def wS:Ct:=fun ds M k=>∃ (A:Yd) (v u:Rat),ds=[yd A,numD v,numD u]∧BqL A.ws∧BqL A.us∧A.ws.length≤100∧A.us.length≤100∧Bq v∧Bq u∧k (.str (lieS (dS A.K (aX A.ws v) (aX A.us u)))) M
theorem aEC (A:Yd) (x y:Rat):decide (lieS (dS A.K (aX A.ws x) (aX A.us y))=("in" : Str))=dZ A x y:=by
 have e:(dS A.K (aX A.ws x) (aX A.us y)).all id=dZ A x y:=by
  unfold dS dZ
  rw [List.all_flatMap]
  congr 1
  funext l
  rw [List.all_map]; rfl
 unfold lieS
 rw [e]
 cases h:dZ A x y with
 | true=>exact decide_eq_true rfl
 | false =>
  rw [if_neg Bool.false_ne_true]
  split
  ·decide +kernel
  ·decide +kernel
structure Nm (m B:Nat):Prop where
 m0:0 < m
 m1:m≤sm
 b:B≤sm
structure Dn (m B:Nat) (q:Rat):Prop where
 n:q.num.natAbs≤2 * B
 d:q.den≤9 * m
theorem Dn.bq {m B:Nat}{q:Rat} (h:Dn m B q) (n:Nm m B):Bq q:=by
 have h1:=h.n
 have h2:=h.d
 have a:=n.m1
 have b:=n.b
 exact ⟨Nat.lt_of_le_of_lt (Nat.le_trans h1 (Nat.mul_le_mul_left 2 b)) (by unfold sm; decide +kernel),Nat.lt_of_le_of_lt (Nat.le_trans h2 (Nat.mul_le_mul_left 9 a)) (by unfold sm; decide +kernel)⟩
theorem Nm.bq {m B:Nat} (n:Nm m B) {q:Rat} (h:Fr m B q):Bq q:=h.bq n.m0 (Nat.lt_of_le_of_lt n.m1 (by unfold sm; decide +kernel)) (Nat.lt_of_le_of_lt n.b (by unfold sm; decide +kernel))
theorem Nm.bq2 {m B:Nat} (n:Nm m B) {q:Rat} (h:Fr m (B+B) q):Bq q:=h.bq n.m0 (Nat.lt_of_le_of_lt n.m1 (by unfold sm; decide +kernel)) (Nat.lt_of_le_of_lt (Nat.add_le_add n.b n.b) (by unfold sm; decide +kernel))
theorem Nm.div {m B:Nat} (n:Nm m B) {q:Rat} (h:Fr m (B+B) q) {p:Int} (hp:Pc p):Dn m B (q / (p:Rat)):=by
 obtain ⟨h1,h2⟩:=hp
 obtain ⟨k,e,hk⟩:=h.ex
 have np:((p:Int):Rat)≠0:=fun e=>by have:=Rat.intCast_inj.mp (e.trans Rat.intCast_zero.symm); omega
 have ep:((p.toNat:Nat):Rat)=((p:Int):Rat):=by rw [← Rat.intCast_natCast,Int.toNat_of_nonneg (by omega)]
 have f:Fr (m * p.toNat) (B+B) (q / (p:Rat)):=⟨k,by rw [Rat.natCast_mul,ep,← e]; grind,hk⟩
 obtain ⟨a,b⟩:=f.bd (Nat.mul_pos n.m0 (by omega))
 refine ⟨by omega,Nat.le_trans b ?_⟩
 rw [Nat.mul_comm]
 exact Nat.mul_le_mul_right m (by omega)
theorem rR {m B:Nat}{a b:Rat} (h:Dn m B a) (g:Dn m B b):Dn m B (maxQ a b):=by unfold maxQ; split <;> assumption
theorem aD6 {m B:Nat}{a b:Rat} (h:Dn m B a) (g:Dn m B b):Dn m B (minQ a b):=by unfold minQ; split <;> assumption
theorem n8 {m B:Nat} (n:Nm m B) {ws:List Rat} (f:FrL m B ws) {x:Rat} (fx:Fr m B x) {p q:Int} (hp:Pc p) (hq:Pc q) (b:Nat):Dn m B (tB ws x p q b):=by
 unfold U.tB
 split
 ·exact n.div (fx.sub (f.at 0)) hp
 ·split
  ·exact rR (n.div (fx.sub (f.at _)) hp) (n.div ((f.at _).sub fx) hq)
  ·exact n.div ((f.at _).sub fx) hq
theorem mB {m B:Nat}{tx:Nat→Rat}{ty:Rat}{out:Nat→Bool} (h1:∀ a,Dn m B (tx a)) (h2:Dn m B ty) {t:Rat} (h3:Dn m B t):∀ n,Dn m B (hRow tx ty out n t)
 | 0=>h3
 | n+1=>by
  unfold hRow
  split
  ·exact aD6 (mB h1 h2 h3 n) (rR (h1 n) h2)
  ·exact mB h1 h2 h3 n
theorem o5 {m B:Nat}{tx ty:Nat→Rat}{out:Nat→Nat→Bool}{na:Nat} (h1:∀ a,Dn m B (tx a)) (h2:∀ b,Dn m B (ty b)) {t:Rat} (h3:Dn m B t):∀ n,Dn m B (hAll tx ty out na n t)
 | 0=>h3
 | n+1=>mB h1 (h2 n) (o5 h1 h2 h3 n) na
def cY (ws:List Rat) (x p q:Rat) (n:Nat):List D:=(List.range n).map fun b=>numD (tB ws x p q b)
theorem iE (ws:List Rat) (x p q:Rat) (n:Nat):(cY ws x p q n).length=n:=by unfold cY; rw [List.length_map,List.length_range]
theorem nB (ws:List Rat) (x p q:Rat) (n:Nat):cY ws x p q (n+1)=cY ws x p q n++[numD (tB ws x p q n)]:=by unfold cY; rw [List.range_succ,List.map_append]; rfl
theorem nZ {ws:List Rat}{x p q:Rat}{n i:Nat}{d:D} (h:(cY ws x p q n)[i]?=some d):i < n∧d=numD (tB ws x p q i):=by
 unfold cY at h
 obtain ⟨j,hj,rfl⟩:=b7 h
 obtain ⟨h1,h2⟩:=List.getElem?_eq_some_iff.mp hj
 rw [List.getElem_range] at h2
 subst h2
 rw [List.length_range] at h1
 exact ⟨h1,rfl⟩
theorem zE (ws:List Rat) (x p q:Rat) (n:Nat):atI (cY ws x p q (n+1)) 0=some (numD (U.tB ws x p q 0)):=cD (j:=0) (by
 unfold cY
 rw [List.getElem?_map,List.getElem?_range (by omega)]; rfl)
def qW:Ct:=fun ds M k=>∃ (ws:List Rat) (x:Rat) (p q:Int) (m B:Nat),ds=[.tup (aZ ws),numD x, .int p, .int q]∧Nm m B∧FrL m B ws∧Fr m B x∧1≤ws.length∧ws.length≤90∧Pc p∧Pc q∧k (.lst (cY ws x p q (ws.length+1))) M
def nS:Ct:=fun ds M k=>∃ (A:Yd) (e n w s:Int) (x y:Rat) (m B:Nat),ds=[yd A,kL e n w s,numD x,numD y]∧Nm m B∧FrL m B A.ws∧FrL m B A.us∧Fr m B x∧Fr m B y∧A.ws.length≤90∧A.us.length≤90∧Pp e n w s∧k (numD (eO A e n w s x y)) M
theorem u6 {ws:List Rat} (h:1≤ws.length):atI (aZ ws) (-1)=some (numD (ws.getD (ws.length - 1) 0)):=by
 obtain ⟨r,w,rfl⟩:=oV (l:=ws) (fun e=>by rw [e] at h; simp at h)
 have:aZ (r++[w])=aZ r++[numD w]:=by unfold aZ; rw [List.map_append]; rfl
 rw [this,nP,List.getD_eq_getElem?_getD,List.length_append]
 simp
theorem wR {m B:Nat} (n:Nm m B) {A:Yd} (f:FrL m B A.ws) (g:FrL m B A.us) {x y:Rat} (fx:Fr m B x) (fy:Fr m B y) {p q r s:Int} (o:Pp p q r s):Dn m B (eO A p q r s x y):=by
 unfold eO
 split
 ·exact o5 (fun a=>n8 n f fx o.p o.r a) (fun b=>n8 n g fy o.q o.s b) (n8 n f fx o.p o.r 0) _
 ·exact ⟨Nat.zero_le _,by show 1≤9 * m; have:=n.m0; omega⟩
end Q
set_option exponentiation.threshold 500
namespace Q
open PySem L2 Z U
structure Tm2 (t:Rat):Prop where
 p:0≤t
 n:t.num.natAbs≤100000000000000000000
 d:t.den≤1000000000000
def bot:Int:=200000000000000000000
structure Al (a b:Int):Prop where
 n:a.natAbs≤10 ^ 35
def wB:Ct:=fun ds M k=>∃ (p:Addr) (b:Int) (xs:List Int) (c:Int),ds=[.mt p, .lst (xs.map .int), .int c]∧PnM M p b∧b≤900000∧Up7 xs∧2≤xs.length∧1≤c∧c≤bot∧∀ a M',Al a c→PnM M' p (b+10)→ButM p M M'→k (.int a) M'
def yH:Ct:=fun ds M k=>∃ (p:Addr) (b:Int) (xs ys:List Int),ds=[.mt p, .lst (xs.map .int), .lst (ys.map .int)]∧PnM M p b∧b≤800000∧Up7 xs∧2≤xs.length∧Up7 ys∧2≤ys.length∧∀ u v c M',Al u c→Al v c→1≤c→c≤bot→PnM M' p (b+40)→ButM p M M'→k (.tup [.int u, .int v, .int c]) M'
theorem aAG {z1 z2 z:Int} (h1:0≤z1) (h2:z1 < 12) (h3:0≤z2) (h4:z2 < 10 ^ (6:Int).toNat) (h0:0≤z) (h:z < 4):∃ c:Int,atI [D.int 1, .int 2, .int (1+z1), .int (10 ^ (20:Int).toNat+z2)] z=some (.int c)∧1≤c∧c≤bot:=by
 have h4':z2 < 1000000:=h4
 have e:(10:Int) ^ (20:Int).toNat=100000000000000000000:=rfl
 have:z=0∨z=1∨z=2∨z=3:=by omega
 unfold bot
 rcases this with rfl | rfl | rfl | rfl
 ·exact ⟨1,rfl,by omega,by omega⟩
 ·exact ⟨2,rfl,by omega,by omega⟩
 ·exact ⟨1+z1,rfl,by omega,by omega⟩
 ·exact ⟨_,rfl,by rw [e]; omega,by rw [e]; omega⟩
theorem al0 {x c:Int}{X:Nat} (hx:x.natAbs≤X) (hc:c.natAbs≤200000000000000000000):(x * c).natAbs≤X * 200000000000000000000:=by
 rw [Int.natAbs_mul]; exact Nat.mul_le_mul hx hc
theorem al1 {x c:Int} (hx:x.natAbs≤1000000000) (hc:c.natAbs≤200000000000000000000):(x * c).natAbs≤10 ^ 35:=Nat.le_trans (al0 hx hc) (by decide)
theorem al2 {x c z:Int} (hx:x.natAbs≤1000000000) (hc:c.natAbs≤200000000000000000000) (hz:z.natAbs≤9):(x * c - z).natAbs≤10 ^ 35:=by
 have:=al0 hx hc
 generalize x * c=y at *
 exact Nat.le_trans (show _≤1000000000 * 200000000000000000000+9 by omega) (by decide)
theorem al2' {x c z:Int} (hx:x.natAbs≤1000000000) (hc:c.natAbs≤200000000000000000000) (hz:z.natAbs≤9):(x * c+z).natAbs≤10 ^ 35:=by
 have:=al0 hx hc
 generalize x * c=y at *
 exact Nat.le_trans (show _≤1000000000 * 200000000000000000000+9 by omega) (by decide)
theorem al3 {x o c z:Int} (hx:x.natAbs≤1000000000) (ho:o.natAbs≤1000000000) (hc:c.natAbs≤200000000000000000000) (hz:z.natAbs≤12):(x * c+(o - x) * c * z / 12).natAbs≤10 ^ 35:=by
 have h1:=al0 hx hc
 have h2:((o - x) * c * z).natAbs≤2000000000 * 200000000000000000000 * 12:=by
  rw [Int.natAbs_mul]; exact Nat.mul_le_mul (al0 (show (o - x).natAbs≤2000000000 by omega) hc) hz
 generalize x * c=y at *
 generalize (o - x) * c * z=v at *
 exact Nat.le_trans (show _≤1000000000 * 200000000000000000000+(2000000000 * 200000000000000000000 * 12+1) by omega) (by decide)
theorem yT {z a b:Int} (h0:0≤z) (h:z < 2):∃ q:Int,atI [D.int a, .int b] z=some (.int q)∧(q=a∨q=b):=by
 have:z=0∨z=1:=by omega
 rcases this with rfl | rfl
 ·exact ⟨a,rfl, .inl rfl⟩
 ·exact ⟨b,rfl, .inr rfl⟩
theorem pp_z {e n w s:Int} (o:Pp e n w s):Pz (e:Rat) (n:Rat) (w:Rat) (s:Rat):=⟨Rat.intCast_pos.mpr (by have:=o.p.a; omega),Rat.intCast_pos.mpr (by have:=o.q.a; omega),Rat.intCast_pos.mpr (by have:=o.r.a; omega),Rat.intCast_pos.mpr (by have:=o.s.a; omega)⟩
end Q
namespace HD
open PySem PySem.Spec PyProof.Rows L2 PySem.W
section
variable {prog:Program}{w:World}{A:Around}{E:Value→Shared→Prop}{s:Shared}
end
end HD
namespace Z
open PySem L2
section
variable {K:Fg}{G H:Hp}{M:Mem}{p:Addr}
end
section
variable {X:Cx}{Γ:Gm}{M:Mem}{k:D→Mem→Prop}{kg:Gm→Mem→Prop}{pos:Pos}{o:Expr}{pins:List (Addr × Obj)}{σ:St}{H:Hp}{s:Shared}
theorem jE:∀ {vs:List Value}{ns:List Int},PyProof.Rows.IntsAre vs ns→Vals (ns.map V.int) vs
 | _,_, .nil => .nil
 | _,_, .cons n t h => .cons ⟨t,rfl⟩ (jE h)
end
end Z
set_option exponentiation.threshold 500
namespace Q
open PySem L2 Z U
theorem Yk.op {m B n l:Nat}{A B':Yd} (k:Yk m B n A) (k':Yk m B l B') (p:Bool→Bool→Bool):Yk m B (n+l) (Yd.op p A B'):=by
 have o1:On (A.ws++B'.ws) (A.us++B'.us) A:=⟨fun w hw=>List.mem_append.mpr (.inl hw),fun w hw=>List.mem_append.mpr (.inl hw)⟩
 have o2:On (A.ws++B'.ws) (A.us++B'.us) B':=⟨fun w hw=>List.mem_append.mpr (.inr hw),fun w hw=>List.mem_append.mpr (.inr hw)⟩
 have o:=o1.op o2 p
 have l1:=jW (Yd.op p A B').uw o.x
 have l2:=jW (Yd.op p A B').uu o.y
 rw [List.length_append] at l1 l2
 have a1:=k.lx
 have a2:=k.ly
 have b1:=k'.lx
 have b2:=k'.ly
 refine ⟨fun w hw => ?_,fun w hw => ?_,by omega,by omega⟩
 ·rcases List.mem_append.mp (o.x w hw) with h | h
  ·exact k.x w h
  ·exact k'.x w h
 ·rcases List.mem_append.mp (o.y w hw) with h | h
  ·exact k.y w h
  ·exact k'.y w h
end Q
namespace PySem
open Builtin
section
variable {prog:Program}{w:World}{A:Around}{E:Value→Shared→Prop}{s:Shared}{z TI TO i1 i2:Addr}{fp1 fp2:List Addr}{n1 n2 k:Nat}{P1 P2:Nat→Value→Prop}{S1 S2:Nat→Heap→Prop}{a b:Value}
end
end PySem
namespace L2
open PySem PySem.Spec PyProof.Rows
section
variable {X:Cx}
end
end L2
namespace Z
open PySem L2
section
variable {X:Cx}{Γ:Gm}{M:Mem}{k:D→Mem→Prop}{pos:Pos}{a b:Expr}{rest:List Expr}
end
end Z
set_option exponentiation.threshold 500
namespace Q
open PySem L2 Z U
structure MidOf (xs vs:List Int) (t:Rat) (m:Int):Prop where
 off:∀ x∈xs,∀ v∈vs,2 * (x * (t.den:Int)+v * t.num)≠m
 bd : -10000000000000000≤m∧m≤10000000000000000
theorem mH {xs:List Int}{i:Nat} (h:i < (toQ xs).length):(toQ xs)[i]=((xs.getD i 0:Int):Rat):=by
 unfold toQ at h ⊢
 rw [List.length_map] at h
 rw [List.getElem_map,List.getD_eq_getElem?_getD,List.getElem?_eq_getElem h]; rfl
theorem p6 {xs ys:List Int}{zs:List Str} (hx:xs.Pairwise (· < ·)) (hy:ys.Pairwise (· < ·)) (g:R.Good (xs.length - 1) zs) (hz:zs.length=ys.length - 1) (x y:Rat):(dA xs ys zs hx hy g hz).has x y=R.aR zs (ix (toQ xs) x) (ix (toQ ys) y):=Yd.ofG_has _ _ _ _ x y
theorem p4 {xs:List Int}{k:Nat} (h:k < xs.length):xs.getD k 0∈xs:=by
 rw [List.getD_eq_getElem?_getD,List.getElem?_eq_getElem h]; exact List.getElem_mem h
theorem yZ {xs ys:List Int}{zs:List Str} (hx:xs.Pairwise (· < ·)) (hy:ys.Pairwise (· < ·)) (g:R.Good (xs.length - 1) zs) (hz:zs.length=ys.length - 1):(∀ w∈(dA xs ys zs hx hy g hz).ws,w∈toQ xs)∧∀ w∈(dA xs ys zs hx hy g hz).us,w∈toQ ys:=Yd.ofG_ws _ _ _ _
theorem aFE {e n w s:Int} (o:Pp e n w s):∀ q∈[e,n,w,s],1≤q∧q≤9:=fun q hq=>by
 simp only [List.mem_cons,List.not_mem_nil,or_false] at hq
 rcases hq with rfl | rfl | rfl | rfl
 ·exact ⟨o.p.a,o.p.b⟩
 ·exact ⟨o.q.a,o.q.b⟩
 ·exact ⟨o.r.a,o.r.b⟩
 ·exact ⟨o.s.a,o.s.b⟩
theorem tN {xs:List Int}{k:Nat} (h:k < xs.length):atI (xs.map D.int) (k:Int)=some (.int (xs.getD k 0)):=cD (by
 rw [List.getElem?_map,List.getD_eq_getElem?_getD,List.getElem?_eq_getElem h]; rfl)
theorem xV {zs:List Str}{j:Nat}{z:Str} (h:zs[j]?=some z):atI (zs.map D.str) (j:Int)=some (.str z):=cD (by rw [List.getElem?_map,h]; rfl)
end Q
set_option exponentiation.threshold 500
namespace Q
open PySem L2 Z U
def F60:Int:=10 ^ (60:Int).toNat
def wq (xs:List Int) (b:Int) (k:Nat):Int:=if k=0 then 0 - F60 else if k≤xs.length then xs.getD (k - 1) 0 * b else F60
abbrev C4:=Int × Int × Int × Int
def kH (c:C4):D := .tup [.int c.1, .int c.2.1, .int c.2.2.1, .int c.2.2.2]
def lD (xs ys:List Int) (b:Int) (j k:Nat):C4:=(wq xs b k,wq xs b (k+1),wq ys b j,wq ys b (j+1))
def OutC (xs ys:List Int) (zs:List Str) (b:Int) (c:C4):Prop:=∃ j k:Nat,j≤ys.length∧k≤xs.length∧R.aR zs ((k:Int) - 1) ((j:Int) - 1)=false∧c=lD xs ys b j k
def qT:Ct:=fun ds M k=>∃ (xs ys:List Int) (zs:List Str) (b:Int),ds=[.lst (xs.map .int), .lst (ys.map .int), .lst (zs.map .str), .int b]∧Up7 xs∧Up7 ys∧2≤xs.length∧2≤ys.length∧R.Good (xs.length - 1) zs∧zs.length=ys.length - 1∧∀ cs:List C4,(∀ c,c∈cs↔OutC xs ys zs b c)→cs.length≤64→k (.lst (cs.map kH)) M
theorem m6 {xs:List Int}{b:Int}{k:Nat} (hk:k≤xs.length+1):atI ([D.int (0 - F60)]++(xs.map (· * b)).map D.int++[D.int F60]) (k:Int)=some (.int (wq xs b k)):=cD (by
 unfold wq
 rw [List.append_assoc]
 cases k with
 | zero=>rfl
 | succ k =>
  rw [List.singleton_append,List.getElem?_cons_succ,if_neg (by omega)]
  by_cases h:k+1≤xs.length
  ·rw [if_pos h,List.getElem?_append_left (by simp; omega),List.getElem?_map,List.getElem?_map,Nat.add_sub_cancel,List.getD_eq_getElem?_getD,List.getElem?_eq_getElem (by omega)]; rfl
  ·rw [if_neg h,List.getElem?_append_right (by simp; omega)]
   have:k - ((xs.map (· * b)).map D.int).length=0:=by simp; omega
   rw [this]; rfl)
def dJ (n:Nat):Str:=R.ofL (List.replicate n 46)
theorem aBU (n:Nat):repS "." n=dJ n:=by
 have:=aEE false n
 exact this
def jA (n:Nat) (zs:List Str):List Str:=[dJ n]++zs.map dotZ++[dJ n]
theorem yR (n:Nat) (zs:List Str):(jA n zs).length=zs.length+2:=by unfold jA; simp
theorem zA {zs:List Str}{j:Nat}{z:Str} (h:zs[j]?=some z) (a:Int):R.aR zs a (j:Int)=R.aR [z] a 0:=U.zO h a
theorem aC5 {n:Nat}{zs:List Str} (g:R.Good n zs) {j:Nat} (hj:j≤zs.length+1):∃ z,(jA (n+2) zs)[j]?=some z∧z.length=n+2∧∀ k,k≤n+1→(R.atS z k=46↔R.aR zs ((k:Int) - 1) ((j:Int) - 1)=false):=by
 have bl:(dJ (n+2)).length=n+2:=by unfold dJ; rw [R.f7,List.length_replicate]
 have ba:∀ k,k≤n+1→R.atS (dJ (n+2)) k=46:=fun k hk=>by
  have:=R.cG (z:=dJ (n+2)) (j:=k) (by omega)
  have e:(dJ (n+2)).cps.toList=List.replicate (n+2) 46:=rfl
  rw [e,List.getElem?_replicate,if_pos (by omega)] at this
  exact (Option.some.inj this).symm
 unfold jA
 rw [List.append_assoc]
 cases j with
 | zero=>exact ⟨_,rfl,bl,fun k hk=>⟨fun _=>R.cT (by omega),fun _=>ba k hk⟩⟩
 | succ j =>
  rw [List.singleton_append,List.getElem?_cons_succ]
  by_cases h:j < zs.length
  ·have hz:=List.getElem?_eq_getElem h
   rw [List.getElem?_append_left (by simp; omega),List.getElem?_map,hz]
   have gz:=g _ (List.mem_of_getElem? hz)
   refine ⟨_,rfl,by rw [sE,gz.1],fun k hk => ?_⟩
   rw [show (((j+1:Nat):Int) - 1)=(j:Int) by omega,zA hz]
   exact aE9 (n:=n) (fun y hy=>by rw [List.mem_singleton] at hy; rw [hy]; exact gz) hk false
  ·rw [List.getElem?_append_right (by simp; omega)]
   have:j - (zs.map dotZ).length=0:=by simp; omega
   rw [this]
   exact ⟨_,rfl,bl,fun k hk=>⟨fun _=>R.dD (by omega),fun _=>ba k hk⟩⟩
theorem zD {P:C4→Prop}{cs:List C4} (h:∀ c,c∈cs↔P c) (d:C4):∀ c,c∈cs++[d]↔P c∨c=d:=fun c=>by rw [List.mem_append,h c,List.mem_singleton]
def iC (xs ys:List Int) (zs:List Str) (b:Int) (j k:Nat) (c:C4):Prop:=∃ j' k':Nat,(j' < j∧k'≤xs.length∨j'=j∧k' < k)∧R.aR zs ((k':Int) - 1) ((j':Int) - 1)=false∧c=lD xs ys b j' k'
theorem aCU {xs ys:List Int}{zs:List Str}{b:Int}{j:Nat}{c:C4}:iC xs ys zs b j (xs.length+1) c↔iC xs ys zs b (j+1) 0 c:=by
 constructor
 ·rintro ⟨j',k',h,r⟩; exact ⟨j',k', .inl (by omega),r⟩
 ·rintro ⟨j',k',h,r⟩; exact ⟨j',k',by omega,r⟩
theorem aCH {xs ys:List Int}{zs:List Str}{b:Int}{j k:Nat}{c:C4} (h:R.aR zs ((k:Int) - 1) ((j:Int) - 1)=false):iC xs ys zs b j (k+1) c↔iC xs ys zs b j k c∨c=lD xs ys b j k:=by
 constructor
 ·rintro ⟨j',k',q,r⟩
  by_cases e:j'=j∧k'=k
  ·obtain ⟨rfl,rfl⟩:=e; exact .inr r.2
  ·exact .inl ⟨j',k',by omega,r⟩
 ·rintro (⟨j',k',q,r⟩ | rfl)
  ·exact ⟨j',k',by omega,r⟩
  ·exact ⟨j,k,by omega,h,rfl⟩
theorem aE7 {xs ys:List Int}{zs:List Str}{b:Int}{j k:Nat}{c:C4} (h:R.aR zs ((k:Int) - 1) ((j:Int) - 1)≠false):iC xs ys zs b j (k+1) c↔iC xs ys zs b j k c:=by
 constructor
 ·rintro ⟨j',k',q,r⟩
  by_cases e:j'=j∧k'=k
  ·obtain ⟨rfl,rfl⟩:=e; exact absurd r.1 h
  ·exact ⟨j',k',by omega,r⟩
 ·rintro ⟨j',k',q,r⟩
  exact ⟨j',k',by omega,r⟩
theorem aBV {xs ys:List Int}{zs:List Str}{b:Int}{c:C4}:iC xs ys zs b (ys.length+1) 0 c↔OutC xs ys zs b c:=by
 constructor
 ·rintro ⟨j',k',q,r⟩; exact ⟨j',k',by omega,by omega,r⟩
 ·rintro ⟨j',k',h1,h2,r⟩; exact ⟨j',k', .inl ⟨by omega,h2⟩,r⟩
theorem aED (c:Nat):decide ((⟨#[c]⟩:Str)=("." : Str))=decide (c=46):=by
 rw [show ("." : Str)=⟨#[46]⟩ from by decide +kernel,decide_eq_decide]
 constructor
 ·intro e; injection e with e; injection e with e; injection e
 ·intro e; rw [e]
theorem wC {cs:List C4}{i:Nat}{d:D} (h:(cs.map kH)[i]?=some d):∃ c,cs[i]?=some c∧d=kH c:=by
 rw [List.getElem?_map] at h
 cases e:cs[i]? with
 | none=>rw [e] at h; cases h
 | some c=>rw [e] at h; exact ⟨c,rfl,(Option.some.inj h).symm⟩
end Q
namespace PySem
section
variable {prog:Program}{w:World}{A:Around}{E:Value→Shared→Prop}{s:Shared}
theorem F.args_max4 (a b c d:Value):argsOk "max" ⟨[a,b,c,d],[]⟩:=by unfold argsOk; kernel_rfl
theorem wJ {a b c d:Int}{t u x y:Tok}{Q:Value→Shared→Prop} (hh:A.handled=none)
  (kQ:∀ (m:Int) (q:Tok) h' tk,(m=a∨m=b∨m=c∨m=d)→a≤m→b≤m→c≤m→d≤m→(∀ e o,s.heap.get? e=some o→h'.get? e=some o)→Q (.int m q) { s with heap:=h',toks:=tk }) :
  wpAny (model prog w) A (call (.builtin "max") [.int a t, .int b u, .int c x, .int d y]) Q E s:=by
 have hname:(toString "max" ++ toString ".loop" : String) = "max.loop" := by decide
 refine call_function_tree F.kind_max F.plain_max F.entry_max (F.args_max4 _ _ _ _) ?_
 show wpAny _ A.in1 (Builtin.Builtins.bindParams "max" ["key", "default"] 0 ⟨[],[]⟩ >>= _) _ _ _
 refine wpAny_bind (wpAny_of_eq (show Builtin.Builtins.bindParams "max" ["key", "default"] 0 ⟨[],[]⟩=pure ([none,none]:List _) from rfl) ?_)
 show wpAny _ A.in1 (newTuple [.int a t, .int b u, .int c x, .int d y] >>= _) _ _ s
 refine wpAny_bind (wpAny_newObj_type ?_)
 have hT:(s.heap.push { cls := .type "tuple", data := .seq #[.int a t, .int b u, .int c x, .int d y] }).IsTuple s.heap.objs.size (intItems #[(a,t),(b,u),(c,x),(d,y)]):=⟨_,Heap.get?_push_size _ rfl,rfl,0,by simp [intItems]⟩
 have hsz:(s.heap.push { cls := .type "tuple", data := .seq #[.int a t, .int b u, .int c x, .int d y] }).objs.size=s.heap.objs.size+1:=Heap.size_push ..
 have key:wpAny (model prog w) A.in1 (pyIter (.ref s.heap.objs.size)) (fun iv s₂=>iv = .ref (s.heap.objs.size+1)∧s₂.heap.IsTupleIter (s.heap.objs.size+1) s.heap.objs.size 0∧s₂.heap.IsTuple s.heap.objs.size (intItems #[(a,t),(b,u),(c,x),(d,y)]) ∧
   s₂.heap.objs.size=s.heap.objs.size+2∧(∀ e o,s.heap.get? e=some o→s₂.heap.get? e=some o)∧∃ h2 tk2,s₂={ s with heap:=h2,toks:=tk2 }) E { s with heap:=s.heap.push { cls := .type "tuple", data := .seq #[.int a t, .int b u, .int c x, .int d y] } }:=by
  refine wpAny_pyIter_tuple hT ?_
  refine ⟨by rw [hsz],⟨_,by rw [← hsz]; exact Heap.get?_push_size _ rfl,rfl,rfl⟩,hT.push _,by rw [Heap.size_push,hsz],fun e o q=>Heap.get?_push_of_some _ (Heap.get?_push_of_some _ q),_,_,rfl⟩
 refine wpAny_bind (wpAny_mono key (fun iv s₂ h₂ => ?_) fun _ _ e=>e)
 obtain ⟨rfl,hI,hT2,hz2,hold,h2,tk2,rfl⟩:=h₂
 refine wpAny_bind (wpAny_newObj_type ?_)
 rw [hname]
 have W:=Walks.tuple (prog:=prog) (w:=w) (A:=A.in1) hh (s.heap.objs.size+1) s.heap.objs.size (Nat.ne_of_lt (Nat.lt_succ_self _)) (intItems #[(a,t),(b,u),(c,x),(d,y)])
 have hfp:h2.objs.size ∉ [s.heap.objs.size+1,s.heap.objs.size]:=fun hm=>by
  have hz3:h2.objs.size=s.heap.objs.size+2:=hz2
  rw [hz3] at hm
  simp at hm
 refine wpAny_pure ⟨plainId_quiet F.plain_max_loop _,codeAny_max_loop_first W _ (CmpOf.ints_gt (numAt #[(a,t),(b,u),(c,x),(d,y)]) (fun _ _=>intItems_at)) h2.objs.size hfp (by simp [intItems])
  (W.frame _ _ _ ⟨hI,hT2⟩ fun b _ o e=>Heap.get?_push_of_some _ e) (Heap.get?_push_size _ rfl) fun v h' tk hP hk => ?_⟩
 obtain ⟨g1,g2⟩:=argBest_gt (numAt #[(a,t),(b,u),(c,x),(d,y)]) 3
 have hP2:(intItems #[(a,t),(b,u),(c,x),(d,y)])[argBest (fun i j=>decide (numAt #[(a,t),(b,u),(c,x),(d,y)] i > numAt #[(a,t),(b,u),(c,x),(d,y)] j)) 3]?=some v:=by
  have e3:(intItems #[(a,t),(b,u),(c,x),(d,y)]).size - 1=3:=by simp [intItems]
  rw [e3] at hP; exact hP
 obtain ⟨q,hv⟩:=intItems_at hP2
 generalize argBest (fun i j=>decide (numAt #[(a,t),(b,u),(c,x),(d,y)] i > numAt #[(a,t),(b,u),(c,x),(d,y)] j)) 3=bi at *
 have w0:a≤numAt #[(a,t),(b,u),(c,x),(d,y)] bi:=g2 0 (by omega)
 have w1:b≤numAt #[(a,t),(b,u),(c,x),(d,y)] bi:=g2 1 (by omega)
 have w2:c≤numAt #[(a,t),(b,u),(c,x),(d,y)] bi:=g2 2 (by omega)
 have w3:d≤numAt #[(a,t),(b,u),(c,x),(d,y)] bi:=g2 3 (by omega)
 have one:numAt #[(a,t),(b,u),(c,x),(d,y)] bi=a∨numAt #[(a,t),(b,u),(c,x),(d,y)] bi=b∨numAt #[(a,t),(b,u),(c,x),(d,y)] bi=c∨numAt #[(a,t),(b,u),(c,x),(d,y)] bi=d:=by
  have:bi=0∨bi=1∨bi=2∨bi=3:=by omega
  rcases this with e | e | e | e <;> rw [e]
  ·exact .inl rfl
  ·exact .inr (.inl rfl)
  ·exact .inr (.inr (.inl rfl))
  ·exact .inr (.inr (.inr rfl))
 rw [hv]
 refine kQ _ q h' tk one w0 w1 w2 w3 fun e o g=>hk e o (fun hm => ?_) (Nat.ne_of_lt (Heap.lt_size (hold e o g))) (Heap.get?_push_of_some _ (hold e o g))
 have hlt:=Heap.lt_size g
 rw [List.mem_singleton] at hm
 exact absurd hlt (by rw [hm]; exact Nat.not_lt.mpr (Nat.le_succ _))
theorem aAO {l:Addr}{vs:List Value}{ns:List Int}{Q:Value→Shared→Prop} (hh:A.handled=none) (hl:s.heap.IsList l vs.toArray) (hi:PyProof.Rows.IntsAre vs ns) (hne:0 < ns.length)
  (h:∀ h' M (t:Tok) tk,(∀ b o,s.heap.get? b=some o→h'.get? b=some o)→M∈ns→(∀ a,a∈ns→M≤a)→Q (.int M t) { s with heap:=h',toks:=tk }) :
  wpAny (model prog w) A (call (.builtin "min") [.ref l]) Q E s:=by
 obtain ⟨xs,e⟩:=hi.allInts.items
 have hns:ns=xs.toList.map (·.1):=by rw [← hi.numsOf,← nums_intItems,← e]
 have hsz:0 < xs.size:=by
  have h3:=hne; rw [hns,List.length_map,Array.length_toList] at h3; exact h3
 rw [e] at hl
 refine min_intList hh hl hsz fun v h' tk hv hk => ?_
 obtain ⟨t,rfl⟩:=intItems_at hv
 obtain ⟨h1,h2⟩:=argBest_lt (numAt xs) (xs.size - 1)
 refine h _ _ t tk hk ?_ fun a ha => ?_
 ·rw [hns,numAt_eq]; exact getD_mem (by rw [List.length_map,Array.length_toList]; omega)
 ·rw [hns] at ha
  obtain ⟨j,hj,rfl⟩:=mem_getD ha
  rw [List.length_map,Array.length_toList] at hj
  rw [← numAt_eq]; exact h2 j (by omega)
end
end PySem
namespace L2
open PySem PySem.Spec
section
variable {X:Cx}
def aBH:List V→Hp→VK→Prop:=fun xs H Q=>∃ a b c d:Int,xs=[.int a, .int b, .int c, .int d]∧∀ m:Int,(m=a∨m=b∨m=c∨m=d)→a≤m→b≤m→c≤m→d≤m→Q (.int m) H
theorem yE (hc:X.calm=true):dH X (.builtin "max") aBH:=by
 intro pins s σ H xs us Q I r h
 obtain ⟨a,b,c,d,rfl,q⟩:=h
 cases r with
 | cons r1 r =>
  cases r with
  | cons r2 r =>
   cases r with
   | cons r3 r =>
    cases r with
    | cons r4 r =>
     cases r
     obtain ⟨t1,rfl⟩:=r1
     obtain ⟨t2,rfl⟩:=r2
     obtain ⟨t3,rfl⟩:=r3
     obtain ⟨t4,rfl⟩:=r4
     exact wJ (I.ok.hd hc) fun m tq h' tk a0 a1 a2 a3 a4 hk=>⟨.int m,H,I.kept (t':=tk) hk,⟨tq,rfl⟩,q m a0 a1 a2 a3 a4⟩
def aBN (K:PySem.W.Frag):List V→Hp→VK→Prop:=fun xs H Q=>∃ (l:Addr) (ns:List Int),xs=[.ref l]∧SqL K H l (ns.map V.int)∧0 < ns.length∧∀ m,m∈ns→(∀ a,a∈ns→m≤a)→Q (.int m) H
theorem yO (hc:X.calm=true):dH X (.builtin "min") (aBN X.K):=by
 intro pins s σ H xs us Q I r h
 obtain ⟨l,ns,rfl,hq,hne,q⟩:=h
 obtain ⟨u,rfl,rx⟩:=vals1 r
 cases rx
 obtain ⟨its,r',pl,hz⟩:=I.list hq
 exact aAO (I.ok.hd hc) pl.isList (uX r') hne fun h' m t tk hk h1 h2=>⟨.int m,H,I.kept (t':=tk) hk,⟨t,rfl⟩,q m h1 h2⟩
end
end L2
namespace Z
open PySem L2
section
variable {X:Cx}{Γ:Gm}{M:Mem}{k:D→Mem→Prop}
theorem aCR {K:Fg}{i1 i2 i3 i4:Int} (h:∀ m:Int,(m=i1∨m=i2∨m=i3∨m=i4)→i1≤m→i2≤m→i3≤m→i4≤m→k (.int m) M):OpN K aBH [.int i1, .int i2, .int i3, .int i4] M k:=fun G H vs Q rl e q=>by
 obtain ⟨v1,r,rfl,d1,e⟩:=bA e
 obtain ⟨v2,r,rfl,d2,e⟩:=bA e
 obtain ⟨v3,v4,rfl,d3,d4⟩:=dens2 e
 exact ⟨i1,i2,i3,i4,by rw [d1.int_,d2.int_,d3.int_,d4.int_],fun m a0 a1 a2 a3 a4=>q _ _ _ _ _ (Stp.refl rl) cA (h m a0 a1 a2 a3 a4)⟩
theorem aDL {K:Fg}{ns:List Int} (hne:0 < ns.length) (h:∀ m,m∈ns→(∀ a,a∈ns→m≤a)→k (.int m) M):OpN K (aBN K) [.lst (ns.map .int)] M k:=fun G H vs Q rl e q=>by
 obtain ⟨v,rfl,dv⟩:=dens1 e
 obtain ⟨a,ws,ev,s,dn⟩:=dv.lst_
 subst ev
 rw [pM dn] at s
 exact ⟨a,ns,rfl,SqL.of (rl.same _ _ s),hne,fun m h1 h2=>q _ _ _ _ _ (Stp.refl rl) cA (h m h1 h2)⟩
end
end Z
set_option exponentiation.threshold 500
namespace Q
open PySem L2 Z U
theorem jI {a b c:Rat} (hc:0 < c):a * c≤b * c↔a≤b:=by
 rw [U.lP hc,Rat.mul_div_cancel (by grind)]
theorem lS {a b c:Rat} (hc:0 < c):a * c < b * c↔a < b:=by
 rw [← Rat.not_le,← Rat.not_le,jI hc]
structure Wy (W E p:Int):Prop where
 eW:W=E * p
 p0:0 < p
 E0:0 < E
theorem Wy.r {W E p:Int} (h:Wy W E p):(W:Rat)=(E:Rat) * (p:Rat):=by rw [h.eW,Rat.intCast_mul]
theorem aFX {W E p b x q:Int} (h:Wy W E p) (hb:0 < b) {t:Rat}:t * ((W * b:Int):Rat)≤(((x - q * b) * E:Int):Rat)↔t * (p:Rat)≤Rat.divInt x b - (q:Rat):=by
 have b0:(0:Rat) < (b:Rat):=Rat.intCast_pos.mpr hb
 have e0:(0:Rat) < (E:Rat):=Rat.intCast_pos.mpr h.E0
 have eb:(0:Rat) < (E:Rat) * (b:Rat):=Rat.mul_pos e0 b0
 have e1:t * ((W * b:Int):Rat)=(t * (p:Rat)) * ((E:Rat) * (b:Rat)):=by rw [Rat.intCast_mul,h.r]; grind
 have e2:(((x - q * b) * E:Int):Rat)=(Rat.divInt x b - (q:Rat)) * ((E:Rat) * (b:Rat)):=by
  have:Rat.divInt x b * (b:Rat)=(x:Rat):=by rw [Rat.divInt_eq_div,Rat.div_mul_cancel (by grind)]
  rw [Rat.intCast_mul,Rat.intCast_sub,Rat.intCast_mul]
  grind
 rw [e1,e2,jI eb]
theorem aFO {W E p b x q:Int} (h:Wy W E p) (hb:0 < b) {t:Rat}:t * ((W * b:Int):Rat)≤(((q * b - x) * E:Int):Rat)↔t * (p:Rat)≤(q:Rat) - Rat.divInt x b:=by
 have b0:(0:Rat) < (b:Rat):=Rat.intCast_pos.mpr hb
 have e0:(0:Rat) < (E:Rat):=Rat.intCast_pos.mpr h.E0
 have eb:(0:Rat) < (E:Rat) * (b:Rat):=Rat.mul_pos e0 b0
 have e1:t * ((W * b:Int):Rat)=(t * (p:Rat)) * ((E:Rat) * (b:Rat)):=by rw [Rat.intCast_mul,h.r]; grind
 have e2:(((q * b - x) * E:Int):Rat)=((q:Rat) - Rat.divInt x b) * ((E:Rat) * (b:Rat)):=by
  have:Rat.divInt x b * (b:Rat)=(x:Rat):=by rw [Rat.divInt_eq_div,Rat.div_mul_cancel (by grind)]
  rw [Rat.intCast_mul,Rat.intCast_sub,Rat.intCast_mul]
  grind
 rw [e1,e2,jI eb]
theorem uN {W b z E:Int}{t:Rat} (ht:0 < t) (hw:0 < W) (hb:0 < b) (hz:z < 0) (hE:0 < E):¬ t * ((W * b:Int):Rat)≤((z * E:Int):Rat):=fun h=>by
 have h1:0 < t * ((W * b:Int):Rat):=Rat.mul_pos ht (Rat.intCast_pos.mpr (Int.mul_pos hw hb))
 have h2:((z * E:Int):Rat) < ((0:Int):Rat):=Rat.intCast_lt_intCast.mpr (Int.mul_neg_of_neg_of_pos hz hE)
 have h3:((0:Int):Rat)=0:=rfl
 grind
theorem j8 {xs:List Int}{W E V p q b x:Int} (hE:Wy W E p) (hV:Wy W V q) (hb:0 < b) (hx:x.natAbs≤10 ^ 50) (h1:1≤xs.length) {t:Rat} (ht:0 < t) {k:Nat} (hk:k≤xs.length) :
  t≤tB (toQ xs) (Rat.divInt x b) p q k↔t * ((W * b:Int):Rat)≤(((x - wq xs b (k+1)) * E:Int):Rat)∨t * ((W * b:Int):Rat)≤(((wq xs b k - x) * V:Int):Rat):=by
 have W0:0 < W:=by rw [hE.eW]; exact Int.mul_pos hE.E0 hE.p0
 have l:=eG xs
 have far:(10:Int) ^ 50 < F60:=by unfold F60; decide +kernel
 have hx2 : -((10:Int) ^ 50)≤x∧x≤(10:Int) ^ 50:=by
  have:((10 ^ 50:Nat):Int)=(10:Int) ^ 50:=by decide +kernel
  omega
 rw [aBJ (Rat.intCast_pos.mpr hE.p0) (Rat.intCast_pos.mpr hV.p0) (by omega) (by omega)]
 unfold wq
 rw [if_neg (by omega),Nat.add_sub_cancel]
 refine or_congr ?_ ?_
 ·by_cases hn:k < xs.length
  ·rw [if_pos (by omega),aFX hE hb]
   constructor
   ·rintro ⟨h,z⟩; rw [mH] at z; exact z
   ·intro z; exact ⟨by omega,by rw [mH]; exact z⟩
  ·rw [if_neg (by omega)]
   exact ⟨fun ⟨h,_⟩=>absurd h (by omega),fun z=>absurd z (uN ht W0 hb (by omega) hE.E0)⟩
 ·by_cases h0:k=0
  ·rw [if_pos h0]
   exact ⟨fun ⟨_,h,_⟩=>absurd h (by omega),fun z=>absurd z (uN ht W0 hb (by omega) hV.E0)⟩
  ·rw [if_neg h0,if_pos hk,aFO hV hb]
   constructor
   ·rintro ⟨h,_,z⟩; rw [mH] at z; exact z
   ·intro z; exact ⟨by omega,by omega,by rw [mH]; exact z⟩
def wayF (x y E N Wt S:Int) (c:C4):Int:=max (max ((x - c.2.1) * E) ((c.1 - x) * Wt)) (max ((y - c.2.2.2) * N) ((c.2.2.1 - y) * S))
theorem aCT {a b c d m:Int} (h:m=a∨m=b∨m=c∨m=d) (h1:a≤m) (h2:b≤m) (h3:c≤m) (h4:d≤m):m=max (max a b) (max c d):=by omega
theorem xY {z:Rat}{a b c d:Int}:z≤((max (max a b) (max c d):Int):Rat)↔(z≤(a:Rat)∨z≤(b:Rat))∨(z≤(c:Rat)∨z≤(d:Rat)):=by
 have up:∀ {p q:Int},p≤q→(p:Rat)≤(q:Rat):=fun h=>Rat.intCast_le_intCast.mpr h
 constructor
 ·intro h
  have:max (max a b) (max c d)=a∨max (max a b) (max c d)=b∨max (max a b) (max c d)=c∨max (max a b) (max c d)=d:=by omega
  rcases this with e | e | e | e <;> rw [e] at h
  ·exact .inl (.inl h)
  ·exact .inl (.inr h)
  ·exact .inr (.inl h)
  ·exact .inr (.inr h)
 ·rintro ((h | h) | (h | h)) <;> refine Rat.le_trans h (up ?_) <;> omega
structure Four (W E N Wt S e n w s:Int):Prop where
 e:Wy W E e
 n:Wy W N n
 w:Wy W Wt w
 s:Wy W S s
theorem aCZ {xs ys:List Int}{zs:List Str} (hx:xs.Pairwise (· < ·)) (hy:ys.Pairwise (· < ·)) (g:R.Good (xs.length - 1) zs) (hz:zs.length=ys.length - 1) (lx:1≤xs.length) (ly:1≤ys.length)
  {W E N Wt S e n w s:Int} (f:Four W E N Wt S e n w s) {b x y:Int} (hb:0 < b) (bx:x.natAbs≤10 ^ 50) (by_:y.natAbs≤10 ^ 50) {cs:List C4} (hc:∀ c,c∈cs↔OutC xs ys zs b c)
  {m:Int} (m1:m∈cs.map (wayF x y E N Wt S)) (m2:∀ a∈cs.map (wayF x y E N Wt S),m≤a) :
  IsH (dA xs ys zs hx hy g hz) e n w s (Rat.divInt x b) (Rat.divInt y b) (Rat.divInt (if m > 0 then m else 0) (W * b)):=by
 have W0:0 < W:=by rw [f.e.eW]; exact Int.mul_pos f.e.E0 f.e.p0
 have Wb:0 < W * b:=Int.mul_pos W0 hb
 have Wr:(0:Rat) < ((W * b:Int):Rat):=Rat.intCast_pos.mpr Wb
 have lqx:=eG xs
 have lqy:=eG ys
 refine ⟨aD9 (by split <;> omega) Wb,fun t ht => ?_⟩
 have k1:t≤Rat.divInt (if m > 0 then m else 0) (W * b)↔t * ((W * b:Int):Rat)≤(m:Rat):=by
  rw [Rat.divInt_eq_div,← U.lP Wr]
  have tp:0 < t * ((W * b:Int):Rat):=Rat.mul_pos ht Wr
  by_cases hm:m > 0
  ·rw [if_pos hm]
  ·rw [if_neg hm]
   have:(m:Rat)≤((0:Int):Rat):=Rat.intCast_le_intCast.mpr (by omega)
   have z:((0:Int):Rat)=0:=rfl
   constructor <;> intro <;> grind
 have k2:t * ((W * b:Int):Rat)≤(m:Rat)↔∀ j k:Nat,j≤ys.length→k≤xs.length→R.aR zs ((k:Int) - 1) ((j:Int) - 1)=false→t≤tB (toQ xs) (Rat.divInt x b) e w k∨t≤tB (toQ ys) (Rat.divInt y b) n s j:=by
  constructor
  ·intro h j k hj hk hcell
   have h1:=m2 _ (List.mem_map.mpr ⟨_,(hc _).mpr ⟨j,k,hj,hk,hcell,rfl⟩,rfl⟩)
   have h2:t * ((W * b:Int):Rat)≤((wayF x y E N Wt S (lD xs ys b j k):Int):Rat):=Rat.le_trans h (Rat.intCast_le_intCast.mpr h1)
   exact (xY.mp h2).imp (j8 f.e f.w hb bx lx ht hk).mpr (j8 f.n f.s hb by_ ly ht hj).mpr
  ·intro h
   obtain ⟨c,hcm,rfl⟩:=List.mem_map.mp m1
   obtain ⟨j,k,hj,hk,hcell,rfl⟩:=(hc c).mp hcm
   exact xY.mpr ((h j k hj hk hcell).imp (j8 f.e f.w hb bx lx ht hk).mp (j8 f.n f.s hb by_ ly ht hj).mp)
 rw [k1,k2]
 have tx:=fun {k:Nat} (hk:k≤xs.length)=>iB (jU hx) (x:=Rat.divInt x b) (p:=(e:Rat)) (q:=(w:Rat)) (Rat.intCast_pos.mpr f.e.p0) (Rat.intCast_pos.mpr f.w.p0) (by omega) ht (b:=k) (by omega)
 have ty:=fun {k:Nat} (hk:k≤ys.length)=>iB (jU hy) (x:=Rat.divInt y b) (p:=(n:Rat)) (q:=(s:Rat)) (Rat.intCast_pos.mpr f.n.p0) (Rat.intCast_pos.mpr f.s.p0) (by omega) ht (b:=k) (by omega)
 constructor
 ·intro h u v h1 h2 h3 h4
  rw [p6]
  refine Classical.byContradiction fun q => ?_
  have q:=Bool.eq_false_iff.mpr q
  have a1:=g7 (toQ xs) u
  have a2:=hU (toQ xs) u
  have b1:=g7 (toQ ys) v
  have b2:=hU (toQ ys) v
  obtain ⟨k,ek⟩:∃ k:Nat,ix (toQ xs) u=(k:Int) - 1:=⟨(ix (toQ xs) u+1).toNat,by omega⟩
  obtain ⟨j,ej⟩:∃ k:Nat,ix (toQ ys) v=(k:Int) - 1:=⟨(ix (toQ ys) v+1).toNat,by omega⟩
  rw [ek,ej] at q
  rcases h j k (by omega) (by omega) q with z | z
  ·exact (tx (by omega)).mpr ⟨u,h1,h2,ek⟩ z
  ·exact (ty (by omega)).mpr ⟨v,h3,h4,ej⟩ z
 ·intro h j k hj hk hcell
  refine Classical.byContradiction fun q => ?_
  rw [not_or] at q
  obtain ⟨u,h1,h2,ek⟩:=(tx hk).mp q.1
  obtain ⟨v,h3,h4,ej⟩:=(ty hj).mp q.2
  have:=h u v h1 h2 h3 h4
  rw [p6,ek,ej,hcell] at this
  cases this
theorem yC {A:Yd}{p q r s x y H c:Rat} (hc:0 < c) (h:IsH A p q r s x y H):IsH (A.scale c c hc hc) p q r s (x * c) (y * c) (H * c):=by
 refine ⟨Rat.mul_nonneg h.nn (Rat.le_of_lt hc),fun t ht => ?_⟩
 have nz:c≠0:=by grind
 obtain ⟨t1,rfl⟩:∃ t1,t=t1 * c:=⟨t / c,by rw [Rat.div_mul_cancel nz]⟩
 have t0:0 < t1:=(lS hc).mp (by rw [Rat.zero_mul]; exact ht)
 rw [jI hc,h.i t1 t0]
 have key:∀ a b z w:Rat,(a * c - b * (z * c) < w * c↔a - b * z < w):=fun a b z w=>by rw [show a * c - b * (z * c)=(a - b * z) * c by grind,lS hc]
 have key2:∀ a b z w:Rat,(w * c < a * c+b * (z * c)↔w < a+b * z):=fun a b z w=>by rw [show a * c+b * (z * c)=(a+b * z) * c by grind,lS hc]
 constructor
 ·intro g u v h1 h2 h3 h4
  obtain ⟨u1,rfl⟩:∃ u1,u=u1 * c:=⟨u / c,by rw [Rat.div_mul_cancel nz]⟩
  obtain ⟨v1,rfl⟩:∃ u1,v=u1 * c:=⟨v / c,by rw [Rat.div_mul_cancel nz]⟩
  rw [key] at h1 h3
  rw [key2] at h2 h4
  rw [Yd.scale_has,Rat.mul_div_cancel nz,Rat.mul_div_cancel nz]
  exact g u1 v1 h1 h2 h3 h4
 ·intro g u v h1 h2 h3 h4
  have:=g (u * c) (v * c) ((key _ _ _ _).mpr h1) ((key2 _ _ _ _).mpr h2) ((key _ _ _ _).mpr h3) ((key2 _ _ _ _).mpr h4)
  rwa [Yd.scale_has,Rat.mul_div_cancel nz,Rat.mul_div_cancel nz] at this
end Q
set_option exponentiation.threshold 500
namespace Q
open PySem L2 Z U
def hol (e n w s:Int):Int:=e * n * w * s
theorem qN {e n w s:Int} (o:Pp e n w s):(1≤e * n∧e * n≤81)∧(1≤e * n * w∧e * n * w≤729)∧1≤hol e n w s∧hol e n w s≤6561:=by
 have e1:=o.p.a; have e2:=o.p.b; have n1:=o.q.a; have n2:=o.q.b; have w1:=o.r.a; have w2:=o.r.b; have s1:=o.s.a; have s2:=o.s.b
 have a1:1 * 1≤e * n:=Int.mul_le_mul e1 n1 (by decide) (by omega)
 have a2:e * n≤9 * 9:=Int.mul_le_mul e2 n2 (by omega) (by decide)
 have b1:1 * 1≤e * n * w:=Int.mul_le_mul (by omega) w1 (by decide) (by omega)
 have b2:e * n * w≤81 * 9:=Int.mul_le_mul (by omega) w2 (by omega) (by decide)
 have c1:1 * 1≤e * n * w * s:=Int.mul_le_mul (by omega) s1 (by decide) (by omega)
 have c2:e * n * w * s≤729 * 9:=Int.mul_le_mul (by omega) s2 (by omega) (by decide)
 unfold hol
 exact ⟨⟨by omega,by omega⟩,⟨by omega,by omega⟩,by omega,by omega⟩
theorem aDE {e n w s:Int}:e ∣ hol e n w s∧n ∣ hol e n w s∧w ∣ hol e n w s∧s ∣ hol e n w s:=by
 unfold hol
 refine ⟨⟨n * w * s,by grind⟩,⟨e * w * s,by grind⟩,⟨e * n * s,by grind⟩,⟨e * n * w,by grind⟩⟩
theorem qE {W p:Int} (hp:Pc p) (hW:1≤W) (d:p ∣ W):Wy W (W / p) p:=by
 have h1:=hp.a
 refine ⟨(Int.ediv_mul_cancel d).symm,by omega,?_⟩
 exact Int.ediv_pos_of_pos_of_dvd (by omega) (by omega) d
theorem four22 {e n w s:Int} (o:Pp e n w s):Four (hol e n w s) (hol e n w s / e) (hol e n w s / n) (hol e n w s / w) (hol e n w s / s) e n w s:=by
 obtain ⟨_,_,h,_⟩:=qN o
 obtain ⟨a,b,c,d⟩:=aDE (e:=e) (n:=n) (w:=w) (s:=s)
 exact ⟨qE o.p h a,qE o.q h b,qE o.r h c,qE o.s h d⟩
theorem lX {W p:Int} (hp:Pc p) (h1:1≤W) (h2:W≤6561):0≤W / p∧W / p≤6561:=by
 have:=hp.a
 exact ⟨Int.ediv_nonneg (by omega) (by omega),Int.le_trans (Int.ediv_le_self _ (by omega)) h2⟩
def aA8:Ct:=fun ds M k=>∃ (cs:List C4) (e n w s x y b:Int),ds=[.lst (cs.map kH),kL e n w s, .tup [.int x, .int y, .int b]]∧cs≠[]∧cs.length≤64∧Pp e n w s∧1≤b∧b≤bot∧∀ m,m∈cs.map (wayF x y (hol e n w s / e) (hol e n w s / n) (hol e n w s / w) (hol e n w s / s))→(∀ a∈cs.map (wayF x y (hol e n w s / e) (hol e n w s / n) (hol e n w s / w) (hol e n w s / s)),m≤a)→k (numD (Rat.divInt (if m > 0 then m else 0) (hol e n w s * b))) M
theorem aBE {e n w s b:Int} (o:Pp e n w s) (h1:1≤b) (h2:b≤bot):0 < hol e n w s * b∧hol e n w s * b≤2000000000000000000000000:=by
 obtain ⟨_,_,a,c⟩:=qN o
 refine ⟨Int.mul_pos (by omega) (by omega),?_⟩
 have:hol e n w s * b≤6561 * 200000000000000000000:=Int.mul_le_mul c (by unfold bot at h2; exact h2) (by omega) (by decide)
 omega
structure Pt (q:Int × Int × Int):Prop where
 u:Al q.1 q.2.2
 v:Al q.2.1 q.2.2
 c1:1≤q.2.2
 c2:q.2.2≤bot
def ptD (q:Int × Int × Int):D := .tup [.int q.1, .int q.2.1, .int q.2.2]
theorem aE8 {cs:List (Int × Int × Int)}{i:Nat}{d:D} (h:(cs.map ptD)[i]?=some d):∃ c,cs[i]?=some c∧d=ptD c:=by
 rw [List.getElem?_map] at h
 cases e:cs[i]? with
 | none=>rw [e] at h; cases h
 | some c=>rw [e] at h; exact ⟨c,rfl,(Option.some.inj h).symm⟩
theorem aGG {m:Int} (h:1≤m):numD (Rat.divInt 1 m) = .tup [.int 1, .int m]:=by
 rw [← i0 (show 0 < m by omega)]
 unfold lowG
 simp [cU]
theorem bD {m:Int} (h:1≤m):(0:Rat) < Rat.divInt 1 m:=by
 rw [Rat.divInt_eq_div]
 have h1:(0:Rat) < (m:Rat):=Rat.intCast_pos.mpr (by omega)
 refine (Rat.lt_div_iff h1).mpr ?_
 rw [Rat.zero_mul]; decide
theorem yP {m:Int} (h:1≤m) (h2:m≤1000000007):Bq (Rat.divInt 1 m):=by
 obtain ⟨a,b⟩:=xI (a:=1) (b:=m) (by omega)
 exact ⟨Nat.lt_of_le_of_lt (show _≤1 by simpa using a) (by decide +kernel),Nat.lt_of_le_of_lt (show _≤1000000007 by omega) (by decide +kernel)⟩
theorem u4 {z:Int} (h0:0≤z) (h1:z < 5):∃ m:Int,atI [D.int 1, .int 1, .int 6, .int 12, .int (10 ^ (9:Int).toNat+7)] z=some (.int m)∧1≤m∧m≤1000000007:=by
 have:z=0∨z=1∨z=2∨z=3∨z=4:=by omega
 rcases this with rfl | rfl | rfl | rfl | rfl
 ·exact ⟨1,rfl,by decide,by decide⟩
 ·exact ⟨1,rfl,by decide,by decide⟩
 ·exact ⟨6,rfl,by decide,by decide⟩
 ·exact ⟨12,rfl,by decide,by decide⟩
 ·exact ⟨10 ^ (9:Int).toNat+7,rfl,by decide,by decide⟩
theorem nm22 {c m:Int} (c1:1≤c) (c2:c≤bot) (m1:1≤m) (m2:m≤1000000007):Nm (c.toNat * m.toNat) (10 ^ 60):=by
 refine ⟨Nat.mul_pos (by omega) (by omega),?_,by unfold sm; exact Nat.le_refl _⟩
 have:c.toNat * m.toNat≤200000000000000000000 * 1000000007:=Nat.mul_le_mul (by unfold bot at c2; omega) (by omega)
 exact Nat.le_trans this (by unfold sm; decide +kernel)
theorem fr22 {a c m:Int} (c1:1≤c) (m1:1≤m) (h:a.natAbs≤10 ^ 35):Fr (c.toNat * m.toNat) (10 ^ 60) (Rat.divInt a c * Rat.divInt 1 m):=by
 have:=(gP (a:=a) (show 0 < c by omega)).mul (gP (a:=1) (show 0 < m by omega))
 exact this.mono (Nat.le_trans (Nat.mul_le_mul h (Nat.le_refl 1)) (by decide +kernel))
theorem frl22 {ws:List Rat}{xs:List Int} (hw:∀ w∈ws,w∈toQ xs) (ux:Up7 xs) {c m:Int} (c1:1≤c) (c2:c≤bot) (m1:1≤m):FrL (c.toNat * m.toNat) (10 ^ 60) (ws.map (· * Rat.divInt 1 m)):=fun w hq=>by
 obtain ⟨v,hv,rfl⟩:=List.mem_map.mp hq
 obtain ⟨x,hx,rfl⟩:=List.mem_map.mp (hw v hv)
 have bx:=ux.bd x hx
 have f:Fr c.toNat (10 ^ 35) (x:Rat):=Fr.int (Nat.le_trans (Nat.mul_le_mul (show x.natAbs≤1000000000 by omega) (show c.toNat≤200000000000000000000 by unfold bot at c2; omega)) (by decide +kernel))
 exact (f.mul (gP (a:=1) (show 0 < m by omega))).mono (Nat.le_trans (Nat.mul_le_mul (Nat.le_refl _) (Nat.le_refl 1)) (by decide +kernel))
theorem vI {u c m:Int}:Rat.divInt u c * Rat.divInt 1 m=Rat.divInt u (c * m):=by rw [Rat.divInt_mul_divInt,Int.mul_one]
theorem aGC (q:Rat) (m:Int):Rat.divInt q.num ((q.den:Int) * m)=q * Rat.divInt 1 m:=by
 conv=>rhs; rw [← Rat.num_divInt_den q]
 rw [vI]
theorem zM {q:Rat} (h:Sml q):smD (numD q)=true∧wt (numD q)≤10000000:=by
 obtain ⟨a1,a2⟩:=h
 refine ⟨?_,Nat.le_trans (Nat.le_of_eq (by simp only [numD,cU,wt,wts])) (show 139≤10000000 by decide)⟩
 show smD (.tup [.int q.num, .int (q.den:Int)])=true
 simp only [smD,smDs,Bool.and_true,Bool.and_eq_true,decide_eq_true_eq]
 exact ⟨a1,by rw [Int.natAbs_natCast]; exact a2⟩
theorem aDV {m B:Nat}{q:Rat} (h:Dn m B q) (n:Nm m B):Sml q:=by
 refine ⟨Nat.lt_of_le_of_lt h.n ?_,Nat.lt_of_le_of_lt h.d ?_⟩
 ·exact Nat.lt_of_le_of_lt (Nat.mul_le_mul_left 2 n.b) (by unfold sm; decide +kernel)
 ·exact Nat.lt_of_le_of_lt (Nat.mul_le_mul_left 9 n.m1) (by unfold sm; decide +kernel)
theorem xL {p q r s:Rat} (x y:Rat):eO Yd.void p q r s x y=0:=by
 unfold eO
 cases e:dZ Yd.void x y with
 | false=>rfl
 | true=>have h:=(qR e).1; exact absurd h (by show ¬ 2≤0; omega)
theorem shown22 {A:Yd}{xs ys:List Int} (hx:∀ w∈A.ws,w∈toQ xs) (hy:∀ w∈A.us,w∈toQ ys) (ux:Up7 xs) (uy:Up7 ys) (lx:A.ws.length≤7) (ly:A.us.length≤7) {m:Int} (m1:1≤m) (m2:m≤1000000007):Yk m.toNat (10 ^ 40) 7 (A.scale (Rat.divInt 1 m) (Rat.divInt 1 m) (bD m1) (bD m1))∧Mk m.toNat 0:=by
 have key:∀ {ws:List Rat}{zs:List Int},(∀ w∈ws,w∈toQ zs)→Up7 zs→FrL m.toNat (10 ^ 40) (ws.map (· * Rat.divInt 1 m)):=fun hw uz w hq=>by
  obtain ⟨v,hv,rfl⟩:=List.mem_map.mp hq
  obtain ⟨x,hx,rfl⟩:=List.mem_map.mp (hw v hv)
  have bx:=uz.bd x hx
  refine ⟨x,?_,Nat.le_trans (show x.natAbs≤1000000000 by omega) (by decide +kernel)⟩
  have e:((m.toNat:Nat):Rat)=((m:Int):Rat):=by rw [← Rat.intCast_natCast,Int.toNat_of_nonneg (by omega)]
  have nz:((m:Int):Rat)≠0:=fun e=>by have:=Rat.intCast_inj.mp (e.trans Rat.intCast_zero.symm); omega
  rw [e,Rat.divInt_eq_div]
  grind
 refine ⟨⟨key hx ux,key hy uy,by show (A.ws.map _).length≤7; rw [List.length_map]; exact lx,by show (A.us.map _).length≤7; rw [List.length_map]; exact ly⟩,⟨by omega,by omega,Rat.le_refl,Fr.zero _ _⟩⟩
def rN:Ct:=fun ds M k=>∃ (p:Addr) (b:Int) (xs ys:List Int) (zs:List Str) (e n w s:Int),ds=[.mt p, .lst (xs.map .int), .lst (ys.map .int), .lst (zs.map .str),kL e n w s]∧PnM M p b∧b≤700000∧Up7 xs∧Up7 ys∧2≤xs.length∧2≤ys.length∧R.Good (xs.length - 1) zs∧zs.length=ys.length - 1∧Pp e n w s∧∀ M',PnM M' p (b+600)→ButM p M M'→k (.bl true) M'
def top (i:Nat):Stmt:=PySem.Challenge.pw_roofridges_k22_heights_by_cells.main.body.getD i (.Pass ⟨0,0,0,0⟩)
abbrev fP:Stmt:=top 6
abbrev dR:Stmt:=top 7
abbrev fD:Stmt:=top 8
abbrev fK:Stmt:=top 9
abbrev mS:Stmt:=top 10
abbrev mV:Stmt:=top 11
abbrev oO:Stmt:=top 12
abbrev iH:Stmt:=top 13
abbrev kG:Stmt:=top 14
abbrev gH:Stmt:=top 15
abbrev kD:Stmt:=top 19
abbrev gU:Stmt:=top 20
abbrev kP:Stmt:=top 21
abbrev jK:Stmt:=top 22
abbrev jG:Stmt:=top 23
abbrev kX:Stmt:=top 24
abbrev kO:Stmt:=top 25
abbrev dY:Stmt:=top 26
abbrev dG:Stmt:=top 27
abbrev oM:Stmt:=top 28
abbrev iF:Stmt:=top 29
abbrev fN:Stmt:=top 30
abbrev nX:Stmt:=top 31
abbrev jD:Stmt:=top 33
abbrev gY:Stmt:=top 34
abbrev i5:Stmt:=top 35
abbrev gE:Stmt:=top 37
abbrev qD:Stmt:=top 39
abbrev eZ:Stmt:=top 40
abbrev mQ:Stmt:=top 41
abbrev mE:Stmt:=top 42
abbrev l7:Stmt:=top 43
abbrev iX:Stmt:=top 44
abbrev mG:Stmt:=top 45
abbrev mD:Stmt:=top 46
abbrev jM:Stmt:=top 47
abbrev oQ:Stmt:=top 48
abbrev lY:Stmt:=top 49
abbrev lV:Stmt:=top 50
section
variable {P:Program}{w:World}{K:PySem.W.Frag}{mg:Str→Option Value}{base:Heap}
theorem sJ:FnScope ["thing"] ["thing"] (aO fP):=⟨rfl,rfl,rfl,by decide +kernel,rfl,by decide +kernel,by decide +kernel⟩
theorem sO {f:Addr}{fd:FuncData} (Df:R.Df K mg "is_whole" fP ["thing"] f fd) (T:Bt mg):FnOk P w K mg base CX0 1 f fd ["thing"] (spZ K nO):=by
 refine a8 Df sJ (fun ds M k h => ?_) (fun cdv A outer s H E hr ds M k h => ?_)
 ·obtain ⟨d,rfl,_⟩:=h; rfl
 obtain ⟨d,rfl,hs,hk⟩:=h
 refine aK (aQ (oN ?_))
 refine i8 (.inl rfl) T.isi T.int R.BI ?_
 refine ge_v 0 rfl ?_
 refine ⟨_, .self hs,?_⟩
 refine ⟨_,rfl,?_⟩
 rcases aDU d with ⟨i,rfl⟩ | ⟨e0,e1 | ⟨e1,e2⟩⟩
 ·rw [iI]
  refine iteT (lN (wT ?_))
  refine i8 (.inr (.inl rfl)) T.isi T.bool R.BB ?_
  refine ge_v 0 rfl ?_
  refine ⟨_, .self trivial,?_⟩
  rw [bI]
  exact ⟨_,rfl,hk⟩
 ·rw [e1]
  rw [e0] at hk
  exact iteF hk
 ·rw [e1]
  refine iteT (lN (wT ?_))
  refine i8 (.inr (.inl rfl)) T.isi T.bool R.BB ?_
  refine ge_v 0 rfl ?_
  refine ⟨_, .self hs,?_⟩
  rw [e2]
  rw [e0] at hk
  exact ⟨_,rfl,hk⟩
theorem dF:FnScope ["one", "other", "rest"] ["one", "other"] (aO dR):=⟨rfl,rfl,rfl,by decide +kernel,rfl,by decide +kernel,by decide +kernel⟩
theorem m9 {f:Addr}{fd:FuncData} (Df:R.Df K mg "common_divisor" dR ["one", "other"] f fd) (T:Bt mg):FnOk P w K mg base CX0 1 f fd ["one", "other"] (spZ K sX):=by
 refine a8 Df dF (fun ds M k h => ?_) (fun cdv A outer s H E hr ds M k h => ?_)
 ·obtain ⟨a,b,rfl,_⟩:=h; rfl
 obtain ⟨a,b,rfl,hk⟩:=h
 refine aD (rJ (fun m Γ' M'=>M'=M∧∃ (x y:Int) (v:Option D),Γ'=[some (.int x),some (.int y),v]∧Int.gcd x y=Int.gcd a b∧m=y.natAbs) (n:=b.natAbs) ⟨rfl,a,b,_,rfl,rfl,rfl⟩ ?_)
 rintro m Γ' M' ⟨rfl,x,y,v,rfl,hg,rfl⟩
 refine bG mX ?_
 refine ge_v 1 rfl ?_
 refine aC ?_
 refine yJ ?_
 refine ⟨_,rfl,?_⟩
 refine ite2 (fun hb => ?_) (fun hb => ?_)
 ·have hy:y≠0:=fun z=>by subst z; simp at hb
  refine aD (aP 2 dF.nd (aH tK ?_))
  refine ge_v 0 rfl ?_
  refine ge_v 1 rfl ?_
  refine o2_C hy ?_
  refine aD (aP 0 dF.nd ?_)
  refine ge_v 1 rfl ?_
  refine aK (aP 1 dF.nd ?_)
  refine ge_v 2 rfl ?_
  refine ⟨_,Num.t8 x y hy,rfl,_,_,_,rfl,?_,rfl⟩
  rw [Num.rC]; exact hg
 ·have hy:y=0:=by simpa using hb
  subst hy
  refine aK (aQ ?_)
  refine aM iZ T.abs PyProof.Rows.boot_abs ?_
  refine aA ?_
  refine ge_v 0 rfl ?_
  refine aB ?_
  refine k7 ?_
  rw [R.aCB,hg]
  exact hk
end
end Q
namespace Q
open PySem L2 Z
open U
section
variable {P:Program}{w:World}{K:PySem.W.Frag}{mg:Str→Option Value}{base:Heap}
theorem cS:FnScope ["_law_xs", "_law_ys", "_law_signs_here", "_law_bottom", "_law_far", "_law_wide", "_law_tall", "_law_blank", "_law_rows", "_law_found", "_law_j", "_law_k"] ["_law_xs", "_law_ys", "_law_signs_here", "_law_bottom"] (aO jM):=⟨rfl,rfl,rfl,by decide +kernel,rfl,by decide +kernel,by decide +kernel⟩
theorem uV {f:Addr}{fd:FuncData} (Df:R.Df K mg "_law_outside" jM ["_law_xs", "_law_ys", "_law_signs_here", "_law_bottom"] f fd) (T:Bt mg):FnOk P w K mg base CX0 2 f fd ["_law_xs", "_law_ys", "_law_signs_here", "_law_bottom"] (spZ K qT):=by
 refine a8 Df cS (fun ds M k h => ?_) (fun cdv A outer s H E hr ds M k h => ?_)
 ·obtain ⟨xs,ys,zs,b,rfl,_⟩:=h; rfl
 obtain ⟨xs,ys,zs,b,rfl,uxs,uys,lx,ly,gz,hz,hk⟩:=h
 have fx:=uxs.few
 have fy:=uys.few
 refine aD (aP 4 cS.nd ?_)
 refine aH gI ?_
 refine aC ?_
 refine aC ?_
 refine o2_C ⟨by decide,by decide,by decide⟩ ?_
 refine aD (aP 5 cS.nd (aH d6 (aH d6 ?_)))
 refine bX ?_
 refine aA ?_
 refine aH bK ?_
 refine aC ?_
 refine ge_v 4 rfl ?_
 refine o2_0 ?_
 refine aB ?_
 refine ⟨(show 1≤sizeLine by decide),?_⟩
 refine aW ["_law_bottom"] [3] (bC ?_)
 refine ge_v 0 rfl ?_
 refine ⟨_, .inr (.inl rfl),?_⟩
 refine bP (by rw [List.length_map]; exact R.aS (by omega)) (fun i acc M'=>M'=M∧acc=((xs.take i).map (· * b)).map D.int) ⟨rfl,rfl⟩ ?_ ?_
 ·rintro i d acc M' hd ⟨rfl,rfl⟩ cs C s₀ H₀ fp
  obtain ⟨x,hx,rfl⟩:=b7 hd
  have bx:=uxs.bd x (List.mem_of_getElem? hx)
  refine a6 (iteT fun cs C s₀ H₀ fp => ?_)
  refine aH bM ?_
  refine ge_v 0 rfl ?_
  refine ge_v 1 rfl ?_
  refine o2_C (.inl ⟨by omega,by omega⟩) ?_
  refine ⟨rfl,?_⟩
  rw [bH hx,List.map_append]
  rfl
 rintro acc M ⟨rfl,rfl⟩
 rw [List.length_map,List.take_length]
 refine d7 (.lst _) (.lst _) (by rw [List.length_map,List.length_map]; exact R.aS (show 1+xs.length≤_ by omega)) ?_
 refine bX ?_
 refine aA ?_
 refine ge_v 4 rfl ?_
 refine aB ?_
 refine ⟨(show 1≤sizeLine by decide),?_⟩
 refine d7 (.lst _) (.lst _) (by rw [List.length_append,List.length_map,List.length_map]; exact R.aS (show 1+xs.length+1≤_ by omega)) ?_
 refine aD (aP 6 cS.nd (aH d6 (aH d6 ?_)))
 refine bX ?_
 refine aA ?_
 refine aH bK ?_
 refine aC ?_
 refine ge_v 4 rfl ?_
 refine o2_0 ?_
 refine aB ?_
 refine ⟨(show 1≤sizeLine by decide),?_⟩
 refine aW ["_law_bottom"] [3] (bC ?_)
 refine ge_v 1 rfl ?_
 refine ⟨_, .inr (.inl rfl),?_⟩
 refine bP (by rw [List.length_map]; exact R.aS (by omega)) (fun i acc M'=>M'=M∧acc=((ys.take i).map (· * b)).map D.int) ⟨rfl,rfl⟩ ?_ ?_
 ·rintro i d acc M' hd ⟨rfl,rfl⟩ cs C s₀ H₀ fp
  obtain ⟨x,hx,rfl⟩:=b7 hd
  have bx:=uys.bd x (List.mem_of_getElem? hx)
  refine a6 (iteT fun cs C s₀ H₀ fp => ?_)
  refine aH bM ?_
  refine ge_v 0 rfl ?_
  refine ge_v 1 rfl ?_
  refine o2_C (.inl ⟨by omega,by omega⟩) ?_
  refine ⟨rfl,?_⟩
  rw [bH hx,List.map_append]
  rfl
 rintro acc M ⟨rfl,rfl⟩
 rw [List.length_map,List.take_length]
 refine d7 (.lst _) (.lst _) (by rw [List.length_map,List.length_map]; exact R.aS (show 1+ys.length≤_ by omega)) ?_
 refine bX ?_
 refine aA ?_
 refine ge_v 4 rfl ?_
 refine aB ?_
 refine ⟨(show 1≤sizeLine by decide),?_⟩
 refine d7 (.lst _) (.lst _) (by rw [List.length_append,List.length_map,List.length_map]; exact R.aS (show 1+ys.length+1≤_ by omega)) ?_
 refine aD (aP 7 cS.nd ?_)
 refine aH o4 ?_
 refine bW ?_
 refine aH bQ ?_
 refine aM aV T.len PySem.boot_len ?_
 refine aA ?_
 refine ge_v 0 rfl ?_
 refine aB ?_
 refine bY (.lst _) ?_
 refine aC ?_
 refine o2_0 ?_
 refine oW (by rw [List.length_map]; omega) (by rw [List.length_map]; omega) (by rw [List.length_map]; show 1 * _≤_; exact R.aS (by omega)) ?_
 rw [List.length_map,show ((xs.length:Int)+1).toNat=xs.length+1 by omega,show repS "." (xs.length+1)=dJ (xs.length+1) from aBU _]
 refine aD (aP 8 cS.nd (aH d6 (aH d6 ?_)))
 refine bX ?_
 refine aA ?_
 refine ge_v 7 rfl ?_
 refine aB ?_
 refine ⟨(show 1≤sizeLine by decide),?_⟩
 refine aW [] [] (bC ?_)
 refine ge_v 2 rfl ?_
 refine ⟨_, .inr (.inl rfl),?_⟩
 refine bP (by rw [List.length_map]; exact R.aS (by omega)) (fun i acc M'=>M'=M∧acc=((zs.take i).map dotZ).map D.str) ⟨rfl,rfl⟩ ?_ ?_
 ·rintro i d acc M' hd ⟨rfl,rfl⟩ cs C s₀ H₀ fp
  obtain ⟨z,hzi,rfl⟩:=b7 hd
  have zl:=(gz z (List.mem_of_getElem? hzi)).1
  have hdl:=vC z (by omega)
  refine a6 (iteT fun cs C s₀ H₀ fp => ?_)
  refine aH oK ?_
  refine aH oK ?_
  refine bW ?_
  refine ge_v 0 rfl ?_
  refine tX hdl.1 ?_
  refine bW ?_
  refine tX hdl.2 ?_
  rw [show Str.ofString "." ++ z++Str.ofString "." = dotZ z from dotted z]
  refine ⟨rfl,?_⟩
  rw [bH hzi,List.map_append]
  rfl
 rintro acc M ⟨rfl,rfl⟩
 rw [List.length_map,List.take_length]
 refine d7 (.lst _) (.lst _) (by rw [List.length_map,List.length_map]; exact R.aS (show 1+zs.length≤_ by omega)) ?_
 refine bX ?_
 refine aA ?_
 refine ge_v 7 rfl ?_
 refine aB ?_
 refine ⟨(show 1≤sizeLine by decide),?_⟩
 refine d7 (.lst _) (.lst _) (by rw [List.length_append,List.length_map,List.length_map]; exact R.aS (show 1+zs.length+1≤_ by omega)) ?_
 rw [show [D.str (dJ (xs.length+1))]++(zs.map dotZ).map D.str++[D.str (dJ (xs.length+1))]=(jA (xs.length+1) zs).map D.str by unfold jA; simp]
 have nx:xs.length+1=xs.length - 1+2:=by omega
 have rl:=yR (xs.length+1) zs
 refine aD (aP 9 cS.nd (iJ (aB ⟨(show 0≤sizeLine by decide),fun a ha => ?_⟩)))
 refine aD (eY (fR T.range ?_))
 refine aA ?_
 refine aM aV T.len PySem.boot_len ?_
 refine aA ?_
 refine ge_v 8 rfl ?_
 refine aB ?_
 refine bY (.lst _) ?_
 refine aB ?_
 rw [List.length_map,rl]
 refine ⟨_,rfl,by omega,by omega,?_⟩
 rw [Int.toNat_natCast]
 refine ⟨fun i Γ' M'=>∃ cs:List C4,(∃ v10 v11,Γ'=[some (.lst (xs.map .int)),some (.lst (ys.map .int)),some (.lst (zs.map .str)),some (.int b),some (.int F60),some (.lst ([D.int (0 - F60)]++(xs.map (· * b)).map D.int++[D.int F60])),some (.lst ([D.int (0 - F60)]++(ys.map (· * b)).map D.int++[D.int F60])),some (.str (dJ (xs.length+1))),some (.lst ((jA (xs.length+1) zs).map .str)),some (.mt a),v10,v11])∧M'=updM M a (.lst (cs.map kH))∧(∀ c,c∈cs↔iC xs ys zs b i 0 c)∧cs.length≤8 * i,⟨[],⟨_,_,rfl⟩,rfl,fun c=>⟨fun q=>(nomatch q),fun ⟨j',k',q,_⟩=>by omega⟩,by simp⟩,?_,?_⟩
 rotate_left
 ·rintro Γ' M' ⟨cs,⟨v10,v11,rfl⟩,rfl,hcs,lcs⟩
  rw [bJ,show zs.length+2=ys.length+1 by omega] at hcs lcs
  refine i6 9 rfl aT ?_
  rw [fW ha]
  refine aK (aQ ?_)
  refine ge_v 9 rfl ?_
  exact hk cs (fun c=>(hcs c).trans aBV) (by omega)
 rintro j d Γ' M' hd ⟨cs,⟨v10,v11,rfl⟩,rfl,hcs,lcs⟩
 obtain ⟨hj,rfl⟩:=cX hd
 rw [Int.zero_add]
 obtain ⟨z,hzj,zl,zc⟩:=aC5 gz (j:=j) (by omega)
 rw [← nx] at hzj zl
 refine bS 10 cS.nd ?_
 refine aK (eY (fR T.range ?_))
 refine aA ?_
 refine aM aV T.len PySem.boot_len ?_
 refine aA ?_
 refine aI aG ?_
 refine ge_v 8 rfl ?_
 refine ge_v 10 rfl ?_
 refine aJ (.lst _) (xV hzj) ?_
 refine aB ?_
 refine fJ (R.aS (by omega)) ?_
 refine aB ?_
 rw [zl]
 refine ⟨_,rfl,by omega,by omega,?_⟩
 rw [Int.toNat_natCast]
 refine ⟨fun i Γ' M'=>∃ cs:List C4,(∃ v11,Γ'=[some (.lst (xs.map .int)),some (.lst (ys.map .int)),some (.lst (zs.map .str)),some (.int b),some (.int F60),some (.lst ([D.int (0 - F60)]++(xs.map (· * b)).map D.int++[D.int F60])),some (.lst ([D.int (0 - F60)]++(ys.map (· * b)).map D.int++[D.int F60])),some (.str (dJ (xs.length+1))),some (.lst ((jA (xs.length+1) zs).map .str)),some (.mt a),some (.int (j:Int)),v11])∧M'=updM M a (.lst (cs.map kH))∧(∀ c,c∈cs↔iC xs ys zs b j i c)∧cs.length≤8 * j+i,⟨cs,⟨_,rfl⟩,rfl,hcs,by omega⟩,?_,?_⟩
 rotate_left
 ·rintro Γ' M' ⟨cs,⟨v11,rfl⟩,rfl,hcs,lcs⟩
  rw [bJ] at hcs lcs
  exact ⟨cs,⟨_,_,rfl⟩,rfl,fun c=>(hcs c).trans aCU,by omega⟩
 rintro k d Γ' M' hd ⟨cs,⟨v11,rfl⟩,rfl,hcs,lcs⟩
 obtain ⟨hk1,rfl⟩:=cX hd
 rw [Int.zero_add]
 refine bS 11 cS.nd ?_
 refine aK (bO ?_)
 refine bG f9 ?_
 refine aI aG ?_
 refine aI aG ?_
 refine ge_v 8 rfl ?_
 refine ge_v 10 rfl ?_
 refine aJ (.lst _) (xV hzj) ?_
 refine ge_v 11 rfl ?_
 refine j4 (R.aS (by omega)) (R.k4 (by omega)) ?_
 refine bW ?_
 refine qY ?_
 refine ⟨_,rfl,?_⟩
 rw [aED]
 refine ite2 (fun h1 => ?_) (fun h1=>bB ⟨cs,⟨_,rfl⟩,rfl,fun c=>(hcs c).trans (aE7 fun q=>h1 (decide_eq_true ((zc k (by omega)).mpr q))).symm,by omega⟩)
 have ho:=(zc k (by omega)).mp (of_decide_eq_true h1)
 refine aK (j7 ?_)
 refine g8 PySem.F.plainAttrs_list PySem.F.slot_list_append PySem.F.type_list_append fH ?_
 refine ge_v 9 rfl ?_
 refine ⟨⟨rfl,_,aT⟩,?_⟩
 refine aA ?_
 refine b5 ?_
 refine aA ?_
 refine aI aG ?_
 refine ge_v 5 rfl ?_
 refine ge_v 11 rfl ?_
 refine aJ (.lst _) (m6 (by omega)) ?_
 refine aA ?_
 refine aI aG ?_
 refine ge_v 5 rfl ?_
 refine aH bQ ?_
 refine ge_v 11 rfl ?_
 refine aC ?_
 refine o2_0 ?_
 refine aJ (.lst _) (m6 (k:=k+1) (by omega)) ?_
 refine aA ?_
 refine aI aG ?_
 refine ge_v 6 rfl ?_
 refine ge_v 10 rfl ?_
 refine aJ (.lst _) (m6 (by omega)) ?_
 refine aA ?_
 refine aI aG ?_
 refine ge_v 6 rfl ?_
 refine aH bQ ?_
 refine ge_v 10 rfl ?_
 refine aC ?_
 refine o2_0 ?_
 refine aJ (.lst _) (m6 (k:=j+1) (by omega)) ?_
 refine aB ?_
 refine ⟨(show 4≤sizeLine by decide),?_⟩
 refine aB ?_
 refine gO aT (by rw [List.length_map]; exact Nat.lt_of_le_of_lt (show _≤1000 by omega) (by decide)) ?_
 refine ⟨cs++[lD xs ys b j k],⟨_,rfl⟩,by rw [jB,List.map_append]; rfl,fun c=>(zD hcs _ c).trans (aCH ho).symm,by rw [List.length_append]; show cs.length+1≤_; omega⟩
theorem jC:FnScope ["_law_upper", "_law_bottom", "_law_one", "_law_other"] ["_law_upper", "_law_bottom"] (aO iX):=⟨rfl,rfl,rfl,by decide +kernel,rfl,by decide +kernel,by decide +kernel⟩
theorem yV {f:Addr}{fd:FuncData} (Df:R.Df K mg "_law_number" iX ["_law_upper", "_law_bottom"] f fd) (T:Bt mg):FnOk P w K mg base CX0 1 f fd ["_law_upper", "_law_bottom"] (spZ K vK):=by
 refine a8 Df jC (fun ds M k h => ?_) (fun cdv A outer s H E hr ds M k h => ?_)
 ·obtain ⟨t,b,rfl,_⟩:=h; rfl
 obtain ⟨t,b,rfl,hb,hb2,hk⟩:=h
 have hg:Int.gcd t b≠0:=fun e=>by have:=(Int.gcd_eq_zero_iff.mp e).2; omega
 have hgl:Int.gcd t b≤b.natAbs:=Nat.le_of_dvd (by omega) (Int.gcd_dvd_natAbs_right t b)
 have hd:((Int.gcd t b:Nat):Int)≠0∧((Int.gcd t b:Nat):Int).natAbs < big:=⟨by omega,Nat.lt_of_lt_of_le (show _ < 10 ^ 60 by omega) (by unfold big; decide)⟩
 refine aD (aP 2 jC.nd ?_)
 refine aM iZ T.abs PyProof.Rows.boot_abs ?_
 refine aA ?_
 refine ge_v 0 rfl ?_
 refine aB ?_
 refine k7 ?_
 refine aD (aP 3 jC.nd ?_)
 refine ge_v 1 rfl ?_
 refine aD (rJ (fun m Γ' M'=>M'=M∧∃ x y:Int,Γ'=[some (.int t),some (.int b),some (.int x),some (.int y)]∧0≤x∧0≤y∧Int.gcd x y=Int.gcd t b∧m=y.natAbs) (n:=b.natAbs) ⟨rfl,_,b,rfl,by split <;> omega,by omega,by split <;> simp [Int.gcd_neg,Int.neg_gcd],rfl⟩ ?_)
 rintro m Γ' M' ⟨rfl,x,y,rfl,hx,hy,hgx,rfl⟩
 refine bG oP ?_
 refine ge_v 3 rfl ?_
 refine aC ?_
 refine o2_B ?_
 refine ⟨_,rfl,?_⟩
 refine ite2 (fun hb1 => ?_) (fun hb1 => ?_)
 ·have hy0:=of_decide_eq_true hb1
  refine aK (aFC 2 3 jC.nd (by decide) ?_)
  refine aA ?_
  refine ge_v 3 rfl ?_
  refine aA (aH tK ?_)
  refine ge_v 2 rfl ?_
  refine ge_v 3 rfl ?_
  refine o2_C (show y≠0 by omega) (aB ?_)
  refine ⟨_,_,rfl,_,Num.t8 x y (by omega),rfl,_,_,rfl,by omega,?_,?_,rfl⟩
  ·rw [Int.fmod_eq_emod_of_nonneg _ (by omega)]; exact Int.emod_nonneg _ (by omega)
  ·rw [Num.rC]; exact hgx
 ·have hy0:y=0:=by
   have:¬ 0 < y:=fun z=>hb1 (decide_eq_true z)
   omega
  subst hy0
  rw [Int.gcd_zero_right] at hgx
  have ex:x=((Int.gcd t b:Nat):Int):=by omega
  rw [ex]
  refine aK (aQ (b5 (aA (aH j9 ?_))))
  refine ge_v 0 rfl ?_
  refine ge_v 2 rfl ?_
  refine o2_C hd (aA (aH j9 ?_))
  refine ge_v 1 rfl ?_
  refine ge_v 2 rfl ?_
  refine o2_C hd (aB ⟨(show 2≤sizeLine by decide),?_⟩)
  exact hk
theorem dW:FnScope ["_law_outside_here", "_law_paces_here", "_law_point_here", "_law_x", "_law_y", "_law_bottom", "_law_whole", "_law_east", "_law_north", "_law_west", "_law_south", "_law_ways"] ["_law_outside_here", "_law_paces_here", "_law_point_here"] (aO oQ):=⟨rfl,rfl,rfl,by decide +kernel,rfl,by decide +kernel,by decide +kernel⟩
theorem aC0 {f:Addr}{fd:FuncData}{aGU:Addr}{aGV:FuncData} (Df:R.Df K mg "_law_high" oQ ["_law_outside_here", "_law_paces_here", "_law_point_here"] f fd)
  (aGW:R.Df K mg "_law_number" iX ["_law_upper", "_law_bottom"] aGU aGV) (aGX:FnOk P w K mg base CX0 1 aGU aGV ["_law_upper", "_law_bottom"] (spZ K vK)) (T:Bt mg):FnOk P w K mg base CX0 3 f fd ["_law_outside_here", "_law_paces_here", "_law_point_here"] (spZ K aA8):=by
 refine a8 Df dW (fun ds M k h => ?_) (fun cdv A outer s H E hr ds M k h => ?_)
 ·obtain ⟨cs,e,n,w,s,x,y,b,rfl,_⟩:=h; rfl
 obtain ⟨cs,e,n,w,s,x,y,b,rfl,cne,lcs,o,b1,b2,hk⟩:=h
 have hpp:∀ q∈[e,n,w,s],1≤q∧q≤9:=aFE o
 obtain ⟨⟨h11,h12⟩,⟨h21,h22⟩,h31,h32⟩:=qN o
 have e9:=hpp e (by simp)
 have n9:=hpp n (by simp)
 have w9:=hpp w (by simp)
 have s9:=hpp s (by simp)
 have de:=lX o.p h31 h32
 have dn:=lX o.q h31 h32
 have dw:=lX o.r h31 h32
 have ds:=lX o.s h31 h32
 obtain ⟨hb1,hb2⟩:=aBE o b1 b2
 refine aD (lQ ?_)
 refine ge_v 2 rfl ?_
 refine rG rfl (cZ (bS 3 dW.nd (cZ (bS 4 dW.nd (cZ (bS 5 dW.nd (lZ ?_)))))))
 refine aD (aP 6 dW.nd ?_)
 refine aH bM ?_
 refine aH bM ?_
 refine aH bM ?_
 refine aI aG ?_
 refine ge_v 1 rfl ?_
 refine aC ?_
 refine aJ (.tup _) rfl ?_
 refine aI aG ?_
 refine ge_v 1 rfl ?_
 refine aC ?_
 refine aJ (.tup _) rfl ?_
 refine o2_C (.inl ⟨by omega,by omega⟩) ?_
 refine aI aG ?_
 refine ge_v 1 rfl ?_
 refine aC ?_
 refine aJ (.tup _) rfl ?_
 refine o2_C (.inl ⟨by omega,by omega⟩) ?_
 refine aI aG ?_
 refine ge_v 1 rfl ?_
 refine aC ?_
 refine aJ (.tup _) rfl ?_
 refine o2_C (.inl ⟨by omega,by omega⟩) ?_
 rw [show e * n * w * s=hol e n w s from rfl]
 refine aD (lQ (aW ["_law_whole"] [6] (bC ?_)))
 refine ge_v 1 rfl ?_
 refine ⟨[e,n,w,s].map D.int, .inl rfl,?_⟩
 refine bP (ds:=[e,n,w,s].map D.int) (by rw [List.length_map]; exact R.aS (show 4≤1000000 by decide)) (fun i acc M'=>M'=M∧acc=([e,n,w,s].take i).map fun (x:Int)=>D.int (hol e n w s / x)) ⟨rfl,rfl⟩ ?_ ?_
 ·rintro i d acc M' hd ⟨rfl,rfl⟩ cs C s₀ H₀ fp
  obtain ⟨q,hq,rfl⟩:=b7 hd
  have bx:=hpp q (List.mem_of_getElem? hq)
  refine a6 (iteT fun cs C s₀ H₀ fp => ?_)
  refine aH jT ?_
  refine ge_v 1 rfl ?_
  refine ge_v 0 rfl ?_
  refine o2_C ⟨by omega,by omega⟩ ?_
  refine ⟨rfl,?_⟩
  rw [bH hq]
 rintro acc M ⟨rfl,rfl⟩
 refine aDP rfl (cZ (bS 7 dW.nd (cZ (bS 8 dW.nd (cZ (bS 9 dW.nd (cZ (bS 10 dW.nd (lZ ?_)))))))))
 refine aD (kR 11 ["_law_x", "_law_y", "_law_east", "_law_north", "_law_west", "_law_south"] [3,4,7,8,9,10] dW.nd (bC ?_))
 refine ge_v 0 rfl ?_
 refine ⟨_, .inr (.inl rfl),?_⟩
 refine u5 (ds:=cs.map kH) (by rw [List.length_map]; exact R.aS (by omega)) (fun i acc M'=>M'=M∧acc=((cs.take i).map (wayF x y (hol e n w s / e) (hol e n w s / n) (hol e n w s / w) (hol e n w s / s))).map D.int) ⟨rfl,rfl⟩ ?_ ?_
 ·rintro i d acc M' hd ⟨rfl,rfl⟩ cs' C s₀ H₀ fp
  obtain ⟨c,hc,rfl⟩:=wC hd
  refine a6 (iteT fun cs' C s₀ H₀ fp => ?_)
  refine aM (yE rfl) T.max R.BMax ?_
  refine aA ?_
  refine aH bM ?_
  refine aH bK ?_
  refine ge_v 1 rfl ?_
  refine aI aG ?_
  refine ge_v 0 rfl ?_
  refine aC ?_
  refine aJ (.tup _) rfl ?_
  refine o2_0 ?_
  refine ge_v 3 rfl ?_
  refine o2_C (.inr ⟨by omega,by omega⟩) ?_
  refine aA ?_
  refine aH bM ?_
  refine aH bK ?_
  refine aI aG ?_
  refine ge_v 0 rfl ?_
  refine aC ?_
  refine aJ (.tup _) rfl ?_
  refine ge_v 1 rfl ?_
  refine o2_0 ?_
  refine ge_v 5 rfl ?_
  refine o2_C (.inr ⟨by omega,by omega⟩) ?_
  refine aA ?_
  refine aH bM ?_
  refine aH bK ?_
  refine ge_v 2 rfl ?_
  refine aI aG ?_
  refine ge_v 0 rfl ?_
  refine aC ?_
  refine aJ (.tup _) rfl ?_
  refine o2_0 ?_
  refine ge_v 4 rfl ?_
  refine o2_C (.inr ⟨by omega,by omega⟩) ?_
  refine aA ?_
  refine aH bM ?_
  refine aH bK ?_
  refine aI aG ?_
  refine ge_v 0 rfl ?_
  refine aC ?_
  refine aJ (.tup _) rfl ?_
  refine ge_v 2 rfl ?_
  refine o2_0 ?_
  refine ge_v 6 rfl ?_
  refine o2_C (.inr ⟨by omega,by omega⟩) ?_
  refine aB ?_
  refine aCR fun m a0 a1 a2 a3 a4 => ?_
  refine ⟨rfl,?_⟩
  rw [bH hc,List.map_append,aCT a0 a1 a2 a3 a4]
  rfl
 rintro acc M ⟨rfl,rfl⟩ a11 ha11
 rw [List.length_map,List.take_length]
 refine i6 11 rfl aT ?_
 rw [fW ha11]
 refine aK (aQ (aF aGX (hr.mono (by decide)) aGW.m aGW.F.kp aGW.b (aA ?_)))
 refine aM (gJ rfl) T.max R.BMax (aA ?_)
 refine aC ?_
 refine aA (aM (yO rfl) T.min BMin ?_)
 refine aA ?_
 refine ge_v 11 rfl ?_
 refine aB ?_
 refine aDL (by rw [List.length_map]; exact List.length_pos_iff.mpr cne) fun m m1 m2 => ?_
 refine aB (lE (aA ?_))
 refine aH bM ?_
 refine ge_v 6 rfl ?_
 refine ge_v 5 rfl ?_
 refine o2_C (.inl ⟨by omega,by omega⟩) ?_
 refine aB ⟨_,_,rfl,hb1,Int.lt_of_le_of_lt hb2 (by decide +kernel),?_⟩
 rw [i0 hb1]
 exact hk m m1 m2
theorem aET:FnScope ["_law_script"] ["_law_script"] (aO qD):=⟨rfl,rfl,rfl,by decide +kernel,rfl,by decide +kernel,by decide +kernel⟩
theorem aFP {f:Addr}{fd:FuncData} (Df:R.Df K mg "_law_pen" qD ["_law_script"] f fd):FnOk P w K mg base CX0 1 f fd ["_law_script"] (spZ K cPen):=by
 refine a8 Df aET (fun ds M k h => ?_) (fun cdv A outer s H E hr ds M k h => ?_)
 ·obtain ⟨ns,rfl,_⟩:=h; rfl
 obtain ⟨ns,rfl,hk⟩:=h
 refine aK (aQ (iJ ?_))
 refine aA ?_
 refine ge_v 0 rfl ?_
 refine aA ?_
 refine aC ?_
 refine aA ?_
 refine aC ?_
 refine aB ?_
 refine ⟨(show 3≤sizeLine by decide),fun p hp => ?_⟩
 exact hk p _ hp ((Le.refl _).upd hp) ⟨ns,0,0,aT,by omega,by omega,by omega⟩
theorem f6:FnScope ["_law_pen_here", "_law_many", "_law_digit", "_law_place", "_law_cell", "_law_mixed"] ["_law_pen_here", "_law_many"] (aO eZ):=⟨rfl,rfl,rfl,by decide +kernel,rfl,by decide +kernel,by decide +kernel⟩
theorem aCJ {f:Addr}{fd:FuncData} (Df:R.Df K mg "_law_draw" eZ ["_law_pen_here", "_law_many"] f fd) (T:Bt mg):FnOk P w K mg base CX0 1 f fd ["_law_pen_here", "_law_many"] (spZ K jL):=by
 refine a8 Df f6 (fun ds M k h => ?_) (fun cdv A outer s H E hr ds M k h => ?_)
 ·obtain ⟨p,n,b,rfl,_⟩:=h; rfl
 obtain ⟨p,n,b,rfl,hn,hn2,⟨ns,st,g,hM,hs,hs2,hg⟩,hb,hk⟩:=h
 refine aD (bO ?_)
 refine bG oP ?_
 refine aI aG ?_
 refine ge_v 0 rfl ?_
 refine aC ?_
 refine aJ (.mt hM) rfl ?_
 refine aC ?_
 refine o2_B ?_
 refine ⟨_,rfl,?_⟩
 refine ite2 (fun hgt => ?_) (fun hgt=>bB ?_)
 ·refine aD (aP 2 f6.nd ?_)
  refine aH gN ?_
  refine aI aG ?_
  refine ge_v 0 rfl ?_
  refine aC ?_
  refine aJ (.mt hM) rfl ?_
  refine ge_v 1 rfl ?_
  refine o2_C (show (0:Int) < _ by first | decide | omega) ?_
  refine aD (lQ ?_)
  refine aH jT ?_
  refine aI aG ?_
  refine ge_v 0 rfl ?_
  refine aC ?_
  refine aJ (.mt hM) rfl ?_
  refine ge_v 1 rfl ?_
  refine o2_C ⟨hn,hn2⟩ ?_
  refine rK ?_
  refine ge_v 0 rfl ?_
  refine aC ?_
  refine ⟨p,2,2,_,rfl,rfl,hM,rfl,?_⟩
  refine aK (aQ ?_)
  refine ge_v 2 rfl ?_
  exact hk _ _ (Int.emod_nonneg _ (by omega)) (Int.emod_lt_of_pos _ hn) ⟨ns,st,_,aT,hs,by omega,Int.ediv_nonneg hg (by omega)⟩ (ButM.refl p M).upd (fun a ha=>cM ha)
 refine aD (aP 3 f6.nd ?_)
 refine aI aG ?_
 refine ge_v 0 rfl ?_
 refine aC ?_
 refine aJ (.mt hM) rfl ?_
 refine aD (lQ ?_)
 refine aH bQ ?_
 refine ge_v 3 rfl ?_
 refine aC ?_
 refine o2_0 ?_
 refine rK ?_
 refine ge_v 0 rfl ?_
 refine aC ?_
 refine ⟨p,1,1,_,rfl,rfl,hM,rfl,?_⟩
 refine aD (aP 4 f6.nd ?_)
 refine aC ?_
 refine aD (k9 (fun Γ' M'=>M'=updM M p (.lst [.fl (ns.map .int), .int (st+1), .int g])∧∃ c:Int,Γ'=[some (.mt p),some (.int n),none,some (.int st),some (.int c),none]) ?_ ?_)
 ·refine bO ?_
  refine bG oP ?_
  refine aM aV T.len PySem.boot_len ?_
  refine aA ?_
  refine aI aG ?_
  refine ge_v 0 rfl ?_
  refine aC ?_
  refine aJ (.mt aT) rfl ?_
  refine aB ?_
  refine bY (.fl _) ?_
  refine aC ?_
  refine o2_B ?_
  refine ⟨_,rfl,?_⟩
  refine ite2 (fun hb1 => ?_) (fun hb1=>bB ⟨rfl,_,rfl⟩)
  have hb':=of_decide_eq_true hb1
  have hb2:(0:Int) < (ns.length:Int):=by rw [List.length_map] at hb'; exact hb'
  obtain ⟨z,hz⟩:=aAZ (ns:=ns) (k:=st % (ns.length:Int)) (Int.emod_nonneg _ (by omega)) (Int.emod_lt_of_pos _ hb2)
  refine aK (aP 4 f6.nd ?_)
  refine aI aG ?_
  refine aI aG ?_
  refine ge_v 0 rfl ?_
  refine aC ?_
  refine aJ (.mt aT) rfl ?_
  refine aH gN ?_
  refine ge_v 3 rfl ?_
  refine aM aV T.len PySem.boot_len ?_
  refine aA ?_
  refine aI aG ?_
  refine ge_v 0 rfl ?_
  refine aC ?_
  refine aJ (.mt aT) rfl ?_
  refine aB ?_
  refine bY (.fl _) ?_
  refine o2_C hb' ?_
  refine aJ (.fl _) (by rw [List.length_map]; exact hz) ?_
  exact ⟨rfl,_,rfl⟩
 rintro Γ' M' ⟨rfl,c,rfl⟩
 refine aD (bO (aFK (P:=fun _ M1=>M1=updM M p (.lst [.fl (ns.map .int), .int (st+1), .int g])) (gt_w (xT ?_)) ?_))
 ·refine bG kF ?_
  refine ge_v 3 rfl ?_
  refine aM aV T.len PySem.boot_len ?_
  refine aA ?_
  refine aI aG ?_
  refine ge_v 0 rfl ?_
  refine aC ?_
  refine aJ (.mt aT) rfl ?_
  refine aB ?_
  refine bY (.fl _) ?_
  refine o2_B ?_
  refine ⟨_,rfl,?_⟩
  refine ite2 (fun h1=>uS ?_) (fun h1=>rfl)
  refine bG vM ?_
  refine aM iZ T.abs PyProof.Rows.boot_abs ?_
  refine aA ?_
  refine ge_v 4 rfl ?_
  refine aB ?_
  refine k7 ?_
  refine aH gI ?_
  refine aC ?_
  refine aC ?_
  refine o2_C ⟨by decide,by decide,by decide⟩ ?_
  refine o2_B ?_
  refine ⟨_,rfl,?_⟩
  rfl
 rintro c2 M1 rfl
 refine ite2 (fun hgt => ?_) (fun hgt=>bB ?_)
 ·refine aD (lQ ?_)
  refine aH jT ?_
  refine aM iZ T.abs PyProof.Rows.boot_abs ?_
  refine aA ?_
  refine ge_v 4 rfl ?_
  refine aB ?_
  refine k7 ?_
  refine ge_v 1 rfl ?_
  refine o2_C ⟨hn,hn2⟩ ?_
  refine rK ?_
  refine ge_v 0 rfl ?_
  refine aC ?_
  refine ⟨p,2,2,_,rfl,rfl,aT,rfl,?_⟩
  refine aK (aQ ?_)
  refine aH gN ?_
  refine aM iZ T.abs PyProof.Rows.boot_abs ?_
  refine aA ?_
  refine ge_v 4 rfl ?_
  refine aB ?_
  refine k7 ?_
  refine ge_v 1 rfl ?_
  refine o2_C hn ?_
  exact hk _ _ (Int.emod_nonneg _ (by omega)) (Int.emod_lt_of_pos _ hn) ⟨ns,st+1,_,aT,by omega,by omega,Int.ediv_nonneg (by split <;> omega) (by omega)⟩ (ButM.refl p M).upd.upd (fun a ha=>(cM ha).trans (cM ha))
 refine aD (aP 5 f6.nd ?_)
 refine aH gN ?_
 refine aH bM ?_
 refine aH bQ ?_
 refine aH bQ ?_
 refine aH gN ?_
 refine ge_v 4 rfl ?_
 refine aC ?_
 refine o2_C (show (0:Int) < _ by first | decide | omega) ?_
 refine aH bM ?_
 refine aC ?_
 refine ge_v 3 rfl ?_
 refine o2_C (.inl ⟨by decide,by decide⟩) ?_
 refine o2_0 ?_
 refine aC ?_
 refine o2_0 ?_
 refine aC ?_
 refine o2_C (.inr ⟨by decide,by decide⟩) ?_
 refine aC ?_
 refine o2_C (show (0:Int) < _ by first | decide | omega) ?_
 refine aD (aP 5 f6.nd ?_)
 refine aH gN ?_
 refine aH bM ?_
 refine ge_v 5 rfl ?_
 refine aH bQ ?_
 refine aH bQ ?_
 refine aH gN ?_
 refine ge_v 5 rfl ?_
 refine aC ?_
 refine o2_C (show (0:Int) < _ by first | decide | omega) ?_
 refine aH bM ?_
 refine aC ?_
 refine ge_v 3 rfl ?_
 refine o2_C (.inl ⟨by decide,by decide⟩) ?_
 refine o2_0 ?_
 refine aC ?_
 refine o2_0 ?_
 refine o2_C (.inl (R.xF _ (by decide) (by decide))) ?_
 refine aC ?_
 refine o2_C (show (0:Int) < _ by first | decide | omega) ?_
 refine aK (aQ ?_)
 refine aH gN ?_
 refine aH jT ?_
 refine ge_v 5 rfl ?_
 refine aC ?_
 refine o2_C ⟨by decide,by decide⟩ ?_
 refine ge_v 1 rfl ?_
 refine o2_C hn ?_
 exact hk _ _ (Int.emod_nonneg _ (by omega)) (Int.emod_lt_of_pos _ hn) ⟨ns,st+1,g,aT,by omega,by omega,hg⟩ (ButM.refl p M).upd (fun a ha=>cM ha)
theorem kT:FnScope ["_law_pen_here", "_law_lines_here", "_law_bottom", "_law_k", "_law_way", "_law_other"] ["_law_pen_here", "_law_lines_here", "_law_bottom"] (aO mG):=⟨rfl,rfl,rfl,by decide +kernel,rfl,by decide +kernel,by decide +kernel⟩
theorem zF {f:Addr}{fd:FuncData}{aGY:Addr}{aGZ:FuncData} (Df:R.Df K mg "_law_along" mG ["_law_pen_here", "_law_lines_here", "_law_bottom"] f fd)
  (aG0:R.Df K mg "_law_draw" eZ ["_law_pen_here", "_law_many"] aGY aGZ) (aG1:FnOk P w K mg base CX0 1 aGY aGZ ["_law_pen_here", "_law_many"] (spZ K jL)) (T:Bt mg):FnOk P w K mg base CX0 2 f fd ["_law_pen_here", "_law_lines_here", "_law_bottom"] (spZ K wB):=by
 refine a8 Df kT (fun ds M k h => ?_) (fun cdv A outer s H E hr ds M k h => ?_)
 ·obtain ⟨p,b,xs,c,rfl,_⟩:=h; rfl
 obtain ⟨p,b,xs,c,rfl,hF0,hb,ux,lx,c1,c2,hk⟩:=h
 have fx:=ux.few
 have c3:c.natAbs≤200000000000000000000:=by unfold bot at c2; omega
 have ml:(xs.map D.int).length=xs.length:=List.length_map ..
 refine aD (aP 3 kT.nd ?_)
 refine aF aG1 (hr.mono (by decide)) aG0.m aG0.F.kp aG0.b ?_
 refine aA ?_
 refine ge_v 0 rfl ?_
 refine aA ?_
 refine aM aV T.len PySem.boot_len ?_
 refine aA ?_
 refine ge_v 1 rfl ?_
 refine aB ?_
 refine bY (.lst _) ?_
 refine aB ?_
 refine ⟨p,_,_,rfl,by rw [ml]; omega,by rw [ml]; omega,hF0,by omega,fun z1 M1 z10 z11 hF1 hB1 hE1 => ?_⟩
 rw [ml] at z11
 obtain ⟨x,hx,hxa⟩:=pB (xs:=xs) (i:=z1) z10 z11
 have bx:=ux.bd x (List.mem_of_getElem? hx)
 refine aD (aP 4 kT.nd ?_)
 refine aF aG1 (hr.mono (by decide)) aG0.m aG0.F.kp aG0.b ?_
 refine aA ?_
 refine ge_v 0 rfl ?_
 refine aA ?_
 refine aC ?_
 refine aB ?_
 refine ⟨p,_,_,rfl,by decide,by decide,hF1,by omega,fun z2 M2 z20 z21 hF2 hB2 hE2 => ?_⟩
 have hB12:=hB1.trans hB2
 refine aD (bO ?_)
 refine bG f9 ?_
 refine ge_v 4 rfl ?_
 refine aC ?_
 refine iT ?_
 refine ⟨_,rfl,?_⟩
 refine ite2 (fun h1 => ?_) (fun h1=>bB ?_)
 ·refine aK (aQ ?_)
  refine aH bM ?_
  refine aI aG ?_
  refine ge_v 1 rfl ?_
  refine ge_v 3 rfl ?_
  refine aJ (.lst _) hxa ?_
  refine ge_v 2 rfl ?_
  refine o2_C (.inl ⟨by omega,by omega⟩) ?_
  exact hk _ _ ⟨al1 (by omega) c3⟩ (hF2.mono (by omega)) hB12
 refine aD (bO ?_)
 refine bG f9 ?_
 refine ge_v 4 rfl ?_
 refine aC ?_
 refine iT ?_
 refine ⟨_,rfl,?_⟩
 refine ite2 (fun h2 => ?_) (fun h2=>bB ?_)
 ·obtain ⟨f,hf,hfa⟩:=pB (xs:=xs) (i:=0) (by omega) (by omega)
  obtain ⟨xr,l,hl⟩:=oV (l:=xs) (fun e=>by rw [e] at lx; simp at lx)
  have bf:=ux.bd f (List.mem_of_getElem? hf)
  have bl:=ux.bd l (by rw [hl]; simp)
  have hla:atI (xs.map D.int) (-1)=some (.int l):=by rw [hl,List.map_append]; exact nP _ _
  refine aK (aQ ?_)
  refine aI aG ?_
  refine bX ?_
  refine aA ?_
  refine aH bK ?_
  refine aH bM ?_
  refine aI aG ?_
  refine ge_v 1 rfl ?_
  refine aC ?_
  refine aJ (.lst _) hfa ?_
  refine ge_v 2 rfl ?_
  refine o2_C (.inl ⟨by omega,by omega⟩) ?_
  refine aF aG1 (hr.mono (by decide)) aG0.m aG0.F.kp aG0.b ?_
  refine aA ?_
  refine ge_v 0 rfl ?_
  refine aA ?_
  refine aC ?_
  refine aB ?_
  refine ⟨p,_,_,rfl,by decide,by decide,hF2,by omega,fun z3 M3 z30 z31 hF3 hB3 hE3 => ?_⟩
  refine o2_0 ?_
  refine aA ?_
  refine aH bQ ?_
  refine aH bM ?_
  refine aI aG ?_
  refine ge_v 1 rfl ?_
  refine gT fT ?_
  refine aC ?_
  refine ⟨_,rfl,?_⟩
  refine aJ (.lst _) hla ?_
  refine ge_v 2 rfl ?_
  refine o2_C (.inl ⟨by omega,by omega⟩) ?_
  refine aF aG1 (hr.mono (by decide)) aG0.m aG0.F.kp aG0.b ?_
  refine aA ?_
  refine ge_v 0 rfl ?_
  refine aA ?_
  refine aC ?_
  refine aB ?_
  refine ⟨p,_,_,rfl,by decide,by decide,hF3,by omega,fun z4 M4 z40 z41 hF4 hB4 hE4 => ?_⟩
  refine o2_0 ?_
  refine aB ?_
  refine ⟨(show 2≤sizeLine by decide),?_⟩
  refine aF aG1 (hr.mono (by decide)) aG0.m aG0.F.kp aG0.b ?_
  refine aA ?_
  refine ge_v 0 rfl ?_
  refine aA ?_
  refine aC ?_
  refine aB ?_
  refine ⟨p,_,_,rfl,by decide,by decide,hF4,by omega,fun z5 M5 z50 z51 hF5 hB5 hE5 => ?_⟩
  obtain ⟨q,hq,hq2⟩:=yT z50 z51 (a:=f * c - z3) (b:=l * c+z4)
  refine aJ (.lst _) hq ?_
  refine hk _ _ ⟨?_⟩ (hF5.mono (by omega)) (((hB12.trans hB3).trans hB4).trans hB5)
  rcases hq2 with rfl | rfl
  ·exact al2 (by omega) c3 (by omega)
  ·exact al2' (by omega) c3 (by omega)
 obtain ⟨o,ho,hoa⟩:=pB (xs:=xs) (i:=if (xs.length:Int) - 1 < z1+1 then (xs.length:Int) - 1 else z1+1) (by split <;> omega) (by split <;> omega)
 have bo:=ux.bd o (List.mem_of_getElem? ho)
 refine aD (aP 5 kT.nd ?_)
 refine aI aG ?_
 refine ge_v 1 rfl ?_
 refine aM (yK rfl) T.min BMin ?_
 refine aA ?_
 refine aH bQ ?_
 refine ge_v 3 rfl ?_
 refine aC ?_
 refine o2_0 ?_
 refine aA ?_
 refine aH bK ?_
 refine aM aV T.len PySem.boot_len ?_
 refine aA ?_
 refine ge_v 1 rfl ?_
 refine aB ?_
 refine bY (.lst _) ?_
 refine aC ?_
 refine o2_0 ?_
 refine aB ?_
 refine aFA ?_
 refine aJ (.lst _) (by rw [ml]; exact hoa) ?_
 refine aK (aQ (aH bQ ?_))
 refine aH bM ?_
 refine aI aG ?_
 refine ge_v 1 rfl ?_
 refine ge_v 3 rfl ?_
 refine aJ (.lst _) hxa ?_
 refine ge_v 2 rfl ?_
 refine o2_C (.inl ⟨by omega,by omega⟩) ?_
 refine aH jT (aH bM (aH bM (aH bK ?_)))
 refine ge_v 5 rfl ?_
 refine aI aG ?_
 refine ge_v 1 rfl ?_
 refine ge_v 3 rfl ?_
 refine aJ (.lst _) hxa ?_
 refine o2_0 ?_
 refine ge_v 2 rfl ?_
 refine o2_C (.inl ⟨by omega,by omega⟩) ?_
 refine aF aG1 (hr.mono (by decide)) aG0.m aG0.F.kp aG0.b ?_
 refine aA ?_
 refine ge_v 0 rfl ?_
 refine aA ?_
 refine aC ?_
 refine aB ?_
 refine ⟨p,_,_,rfl,by decide,by decide,hF2,by omega,fun z3 M3 z30 z31 hF3 hB3 hE3 => ?_⟩
 refine o2_C (.inr ⟨by omega,by omega⟩) ?_
 refine aC ?_
 refine o2_C ⟨by decide,by decide⟩ (o2_0 ?_)
 exact hk _ _ ⟨al3 (by omega) (by omega) c3 (by omega)⟩ (hF3.mono (by omega)) (hB12.trans hB3)
theorem rF:FnScope ["_law_pen_here", "_law_xs", "_law_ys", "_law_bottom"] ["_law_pen_here", "_law_xs", "_law_ys"] (aO mD):=⟨rfl,rfl,rfl,by decide +kernel,rfl,by decide +kernel,by decide +kernel⟩
theorem aAV {f:Addr}{fd:FuncData}{aGY aG2:Addr}{aGZ aG3:FuncData} (Df:R.Df K mg "_law_point" mD ["_law_pen_here", "_law_xs", "_law_ys"] f fd)
  (aG0:R.Df K mg "_law_draw" eZ ["_law_pen_here", "_law_many"] aGY aGZ) (aG1:FnOk P w K mg base CX0 1 aGY aGZ ["_law_pen_here", "_law_many"] (spZ K jL))
  (aG4:R.Df K mg "_law_along" mG ["_law_pen_here", "_law_lines_here", "_law_bottom"] aG2 aG3) (aG5:FnOk P w K mg base CX0 2 aG2 aG3 ["_law_pen_here", "_law_lines_here", "_law_bottom"] (spZ K wB)) (T:Bt mg):FnOk P w K mg base CX0 3 f fd ["_law_pen_here", "_law_xs", "_law_ys"] (spZ K yH):=by
 refine a8 Df rF (fun ds M k h => ?_) (fun cdv A outer s H E hr ds M k h => ?_)
 ·obtain ⟨p,b,xs,ys,rfl,_⟩:=h; rfl
 obtain ⟨p,b,xs,ys,rfl,hF0,hb,ux,lx,uy,ly,hk⟩:=h
 refine aD (aP 3 rF.nd ?_)
 refine aI aG ?_
 refine bX ?_
 refine aA ?_
 refine aC ?_
 refine aA ?_
 refine aC ?_
 refine aA ?_
 refine aH bQ ?_
 refine aC ?_
 refine aF aG1 (hr.mono (by decide)) aG0.m aG0.F.kp aG0.b ?_
 refine aA ?_
 refine ge_v 0 rfl ?_
 refine aA ?_
 refine aC ?_
 refine aB ?_
 refine ⟨p,_,_,rfl,by decide,by decide,hF0,by omega,fun z1 M1 z10 z11 hF1 hB1 hE1 => ?_⟩
 refine o2_0 ?_
 refine aA ?_
 refine aH bQ ?_
 refine aH gI ?_
 refine aC ?_
 refine aC ?_
 refine o2_C ⟨by decide,by decide,by decide⟩ ?_
 refine aF aG1 (hr.mono (by decide)) aG0.m aG0.F.kp aG0.b ?_
 refine aA ?_
 refine ge_v 0 rfl ?_
 refine aA ?_
 refine aH gI ?_
 refine aC ?_
 refine aC ?_
 refine o2_C ⟨by decide,by decide,by decide⟩ ?_
 refine aB ?_
 refine ⟨p,_,_,rfl,by decide,by decide,hF1,by omega,fun z2 M2 z20 z21 hF2 hB2 hE2 => ?_⟩
 refine o2_0 ?_
 refine aB ?_
 refine ⟨(show 4≤sizeLine by decide),?_⟩
 refine aF aG1 (hr.mono (by decide)) aG0.m aG0.F.kp aG0.b ?_
 refine aA ?_
 refine ge_v 0 rfl ?_
 refine aA ?_
 refine aC ?_
 refine aB ?_
 refine ⟨p,_,_,rfl,by decide,by decide,hF2,by omega,fun z3 M3 z30 z31 hF3 hB3 hE3 => ?_⟩
 obtain ⟨c,hc,c1,c2⟩:=aAG z10 z11 z20 z21 z30 z31
 refine aJ (.lst _) hc ?_
 refine aK (aQ ?_)
 refine b5 ?_
 refine aA ?_
 refine aF aG5 (hr.mono (by decide)) aG4.m aG4.F.kp aG4.b ?_
 refine aA ?_
 refine ge_v 0 rfl ?_
 refine aA ?_
 refine ge_v 1 rfl ?_
 refine aA ?_
 refine ge_v 3 rfl ?_
 refine aB ?_
 refine ⟨p,_,xs,c,rfl,hF3,by omega,ux,lx,c1,c2,fun u M4 hu hF4 hB4 => ?_⟩
 refine aA ?_
 refine aF aG5 (hr.mono (by decide)) aG4.m aG4.F.kp aG4.b ?_
 refine aA ?_
 refine ge_v 0 rfl ?_
 refine aA ?_
 refine ge_v 2 rfl ?_
 refine aA ?_
 refine ge_v 3 rfl ?_
 refine aB ?_
 refine ⟨p,_,ys,c,rfl,hF4,by omega,uy,ly,c1,c2,fun v M5 hv hF5 hB5 => ?_⟩
 refine aA ?_
 refine ge_v 3 rfl ?_
 refine aB ?_
 refine ⟨(show 3≤sizeLine by decide),?_⟩
 exact hk u v c _ hu hv c1 c2 (hF5.mono (by omega)) ((((hB1.trans hB2).trans hB3).trans hB4).trans hB5)
theorem lH:FnScope ["top", "bottom", "divisor"] ["top", "bottom"] (aO fD):=⟨rfl,rfl,rfl,by decide +kernel,rfl,by decide +kernel,by decide +kernel⟩
theorem wU {f:Addr}{fd:FuncData}{aG6:Addr}{aG7:FuncData} (Df:R.Df K mg "lowest" fD ["top", "bottom"] f fd)
  (aG8:R.Df K mg "common_divisor" dR ["one", "other"] aG6 aG7) (aG9:FnOk P w K mg base CX0 1 aG6 aG7 ["one", "other"] (spZ K sX)):FnOk P w K mg base CX0 2 f fd ["top", "bottom"] (spZ K jZ):=by
 refine a8 Df lH (fun ds M k h => ?_) (fun cdv A outer s H E hr ds M k h => ?_)
 ·obtain ⟨a,b,rfl,_⟩:=h; rfl
 obtain ⟨a,b,rfl,hb0,hbb,hk⟩:=h
 have hg:Int.gcd a b≠0:=fun e=>hb0 (Int.gcd_eq_zero_iff.mp e).2
 have hgl:Int.gcd a b≤b.natAbs:=Nat.le_of_dvd (by omega) (Int.gcd_dvd_natAbs_right a b)
 have hd:dv a b≠0∧(dv a b).natAbs < big:=by
  refine ⟨by unfold dv; split <;> omega,Nat.lt_of_lt_of_le (show (dv a b).natAbs < 10 ^ 1000 from ?_) (by unfold big; decide)⟩
  have:(dv a b).natAbs=Int.gcd a b:=by unfold dv; split <;> omega
  omega
 refine aD (aP 2 lH.nd ?_)
 refine aF aG9 (hr.mono (by decide)) aG8.m aG8.F.kp aG8.b ?_
 refine aA ?_
 refine ge_v 0 rfl ?_
 refine aA ?_
 refine ge_v 1 rfl ?_
 refine aB ?_
 refine ⟨a,b,rfl,?_⟩
 refine aD (k9 (fun Γ' M'=>M'=M∧Γ'=[some (.int a),some (.int b),some (.int (dv a b))]) (bO ?_) ?_)
 ·refine bG kF ?_
  refine ge_v 1 rfl ?_
  refine aC ?_
  refine o2_B ?_
  refine ⟨_,rfl,?_⟩
  refine ite2 (fun hb => ?_) (fun hb => ?_)
  ·have:=of_decide_eq_true hb
   refine aK (aP 2 lH.nd ?_)
   refine gT fT ?_
   refine ge_v 2 rfl ?_
   refine ⟨_,rfl,?_⟩
   exact ⟨rfl,by unfold dv; rw [if_pos this]; rfl⟩
  ·have:¬ b < 0:=fun z=>hb (decide_eq_true z)
   exact bB ⟨rfl,by unfold dv; rw [if_neg this]; rfl⟩
 rintro Γ' M' ⟨rfl,rfl⟩
 refine aK (aQ (b5 (aA (aH j9 ?_))))
 refine ge_v 0 rfl ?_
 refine ge_v 2 rfl ?_
 refine o2_C hd (aA (aH j9 ?_))
 refine ge_v 1 rfl ?_
 refine ge_v 2 rfl ?_
 refine o2_C hd (aB ⟨(show 2≤sizeLine by decide),?_⟩)
 exact hk
theorem sR:FnScope ["top", "bottom"] ["top", "bottom"] (aO fK):=⟨rfl,rfl,rfl,by decide +kernel,rfl,by decide +kernel,by decide +kernel⟩
theorem sU {f:Addr}{fd:FuncData}{aHA aHB:Addr}{aHC aHD:FuncData} (Df:R.Df K mg "fraction" fK ["top", "bottom"] f fd)
  (aHE:R.Df K mg "is_whole" fP ["thing"] aHA aHC) (aHF:FnOk P w K mg base CX0 1 aHA aHC ["thing"] (spZ K nO))
  (aHG:R.Df K mg "lowest" fD ["top", "bottom"] aHB aHD) (aHH:FnOk P w K mg base CX0 2 aHB aHD ["top", "bottom"] (spZ K jZ)):FnOk P w K mg base CX0 3 f fd ["top", "bottom"] (spZ K lM):=by
 refine a8 Df sR (fun ds M k h => ?_) (fun cdv A outer s H E hr ds M k h => ?_)
 ·obtain ⟨a,b,rfl,_⟩:=h; rfl
 obtain ⟨a,b,rfl,hb0,hbb,hk⟩:=h
 refine aD (bO (gt_w (gA ?_)))
 refine c8 ?_
 refine cL ?_
 refine aF aHF (hr.mono (by decide)) aHE.m aHE.F.kp aHE.b ?_
 refine aA ?_
 refine ge_v 0 rfl ?_
 refine aB ?_
 refine ⟨_,rfl,trivial,?_⟩
 refine ⟨_,rfl,?_⟩
 refine iteF (iY ?_)
 refine c8 ?_
 refine cL ?_
 refine aF aHF (hr.mono (by decide)) aHE.m aHE.F.kp aHE.b ?_
 refine aA ?_
 refine ge_v 1 rfl ?_
 refine aB ?_
 refine ⟨_,rfl,trivial,?_⟩
 refine ⟨_,rfl,?_⟩
 refine iteF (bB ?_)
 refine aD (bO ?_)
 refine bG f9 ?_
 refine ge_v 1 rfl ?_
 refine aC ?_
 refine iT ?_
 refine ⟨_,rfl,?_⟩
 refine ite2 (fun hb=>absurd (of_decide_eq_true hb) (by omega)) (fun _=>bB ?_)
 refine aK (aQ ?_)
 refine aF aHH (hr.mono (by decide)) aHG.m aHG.F.kp aHG.b ?_
 refine aA ?_
 refine ge_v 0 rfl ?_
 refine aA ?_
 refine ge_v 1 rfl ?_
 refine aB ?_
 refine ⟨a,b,rfl,hb0,hbb,?_⟩
 exact hk
theorem aAK:FnScope ["one", "other"] ["one", "other"] (aO mS):=⟨rfl,rfl,rfl,by decide +kernel,rfl,by decide +kernel,by decide +kernel⟩
theorem aAX {f:Addr}{fd:FuncData}{aHB:Addr}{aHD:FuncData} (Df:R.Df K mg "minus" mS ["one", "other"] f fd)
  (aHG:R.Df K mg "lowest" fD ["top", "bottom"] aHB aHD) (aHH:FnOk P w K mg base CX0 2 aHB aHD ["top", "bottom"] (spZ K jZ)):FnOk P w K mg base CX0 3 f fd ["one", "other"] (spZ K tZ):=by
 refine a8 Df aAK (fun ds M k h => ?_) (fun cdv A outer s H E hr ds M k h => ?_)
 ·obtain ⟨p,q,rfl,_⟩:=h; rfl
 obtain ⟨p,q,rfl,hp,hq,hk⟩:=h
 obtain ⟨h1,h2⟩:=wD hp.g hq.g
 unfold numD at hk
 rw [← zV] at hk
 refine aK (aQ (aF aHH (hr.mono (by decide)) aHG.m aHG.F.kp aHG.b ?_))
 refine aA (aH bK (aH eN ?_))
 refine aI aG ?_
 refine ge_v 0 rfl ?_
 refine aC ?_
 refine aJ (.tup _) rfl ?_
 refine aI aG ?_
 refine ge_v 1 rfl ?_
 refine aC ?_
 refine aJ (.tup _) rfl ?_
 refine o2_C ⟨big400 hp.g.a,big400 hq.g.b⟩ (aH eN ?_)
 refine aI aG ?_
 refine ge_v 1 rfl ?_
 refine aC ?_
 refine aJ (.tup _) rfl ?_
 refine aI aG ?_
 refine ge_v 0 rfl ?_
 refine aC ?_
 refine aJ (.tup _) rfl ?_
 refine o2_C ⟨big400 hq.g.a,big400 hp.g.b⟩ (o2_0 ?_)
 refine aA (aH eN ?_)
 refine aI aG ?_
 refine ge_v 0 rfl ?_
 refine aC ?_
 refine aJ (.tup _) rfl ?_
 refine aI aG ?_
 refine ge_v 1 rfl ?_
 refine aC ?_
 refine aJ (.tup _) rfl ?_
 refine o2_C ⟨big400 hp.g.b,big400 hq.g.b⟩ (aB ?_)
 exact ⟨_,_,rfl,h1,h2,hk⟩
theorem aA6:FnScope ["one", "other"] ["one", "other"] (aO mV):=⟨rfl,rfl,rfl,by decide +kernel,rfl,by decide +kernel,by decide +kernel⟩
theorem aAD {f:Addr}{fd:FuncData}{aHB:Addr}{aHD:FuncData} (Df:R.Df K mg "times" mV ["one", "other"] f fd)
  (aHG:R.Df K mg "lowest" fD ["top", "bottom"] aHB aHD) (aHH:FnOk P w K mg base CX0 2 aHB aHD ["top", "bottom"] (spZ K jZ)):FnOk P w K mg base CX0 3 f fd ["one", "other"] (spZ K t7):=by
 refine a8 Df aA6 (fun ds M k h => ?_) (fun cdv A outer s H E hr ds M k h => ?_)
 ·obtain ⟨p,q,rfl,_⟩:=h; rfl
 obtain ⟨p,q,rfl,hp,hq,hk⟩:=h
 obtain ⟨h1,h2⟩:=wD hp.g hq.g
 unfold numD at hk
 rw [← aAR] at hk
 refine aK (aQ (aF aHH (hr.mono (by decide)) aHG.m aHG.F.kp aHG.b ?_))
 refine aA (aH eN ?_)
 refine aI aG ?_
 refine ge_v 0 rfl ?_
 refine aC ?_
 refine aJ (.tup _) rfl ?_
 refine aI aG ?_
 refine ge_v 1 rfl ?_
 refine aC ?_
 refine aJ (.tup _) rfl ?_
 refine o2_C ⟨big400 hp.g.a,big400 hq.g.a⟩ ?_
 refine aA (aH eN ?_)
 refine aI aG ?_
 refine ge_v 0 rfl ?_
 refine aC ?_
 refine aJ (.tup _) rfl ?_
 refine aI aG ?_
 refine ge_v 1 rfl ?_
 refine aC ?_
 refine aJ (.tup _) rfl ?_
 refine o2_C ⟨big400 hp.g.b,big400 hq.g.b⟩ (aB ?_)
 exact ⟨_,_,rfl,h1,h2,hk⟩
theorem iS:FnScope ["yard", "by_x", "by_y", "xs", "ys"] ["yard", "by_x", "by_y"] (aO gE):=⟨rfl,rfl,rfl,by decide +kernel,rfl,by decide +kernel,by decide +kernel⟩
theorem q0 {f:Addr}{fd:FuncData}{aHI:Addr}{aHJ:FuncData} (Df:R.Df K mg "stretched" gE ["yard", "by_x", "by_y"] f fd)
  (aHK:R.Df K mg "times" mV ["one", "other"] aHI aHJ) (aHL:FnOk P w K mg base CX0 3 aHI aHJ ["one", "other"] (spZ K t7)) (T:Bt mg):FnOk P w K mg base CX0 5 f fd ["yard", "by_x", "by_y"] (spZ K nC):=by
 refine a8 Df iS (fun ds M k h => ?_) (fun cdv A outer s H E hr ds M k h => ?_)
 ·obtain ⟨A,a,b,ha,hb,rfl,_⟩:=h; rfl
 obtain ⟨A,a,b,ha,hb,rfl,h9,g9,ba,bb,hl,gl,hk⟩:=h
 refine aD (aP 3 iS.nd ?_)
 refine b4 cB T.tuple R.BT (aA (aW ["by_x"] [1] (bC ?_)))
 refine aI aG ?_
 refine ge_v 0 rfl ?_
 refine aC ?_
 refine aJ (.tup _) rfl ?_
 refine ⟨_, .inl rfl,?_⟩
 refine bP (ds:=aZ A.ws) (by rw [c9]; exact R.aS (by omega)) (fun i acc M'=>M'=M∧acc=aZ ((A.ws.take i).map (· * a))) ⟨rfl,rfl⟩ ?_ ?_
 ·rintro i d acc M' hd ⟨rfl,rfl⟩ cs C s₀ H₀ fp
  obtain ⟨x,hx,rfl⟩:=b7 hd
  refine a6 (iteT fun cs C s₀ H₀ fp => ?_)
  refine aF aHL (hr.mono (by decide)) aHK.m aHK.F.kp aHK.b ?_
  refine aA ?_
  refine ge_v 0 rfl ?_
  refine aA ?_
  refine ge_v 1 rfl ?_
  refine aB ?_
  refine ⟨_,_,rfl,h9 x (List.mem_of_getElem? hx),ba,?_⟩
  refine ⟨rfl,?_⟩
  rw [bH hx,← kM]
  rfl
 rintro acc M ⟨rfl,rfl⟩
 rw [c9,List.take_length]
 refine aB (d8 (.lst _) ?_)
 refine aD (aP 4 iS.nd ?_)
 refine b4 cB T.tuple R.BT (aA (aW ["by_y"] [2] (bC ?_)))
 refine aI aG ?_
 refine ge_v 0 rfl ?_
 refine aC ?_
 refine aJ (.tup _) rfl ?_
 refine ⟨_, .inl rfl,?_⟩
 refine bP (ds:=aZ A.us) (by rw [c9]; exact R.aS (by omega)) (fun i acc M'=>M'=M∧acc=aZ ((A.us.take i).map (· * b))) ⟨rfl,rfl⟩ ?_ ?_
 ·rintro i d acc M' hd ⟨rfl,rfl⟩ cs C s₀ H₀ fp
  obtain ⟨x,hx,rfl⟩:=b7 hd
  refine a6 (iteT fun cs C s₀ H₀ fp => ?_)
  refine aF aHL (hr.mono (by decide)) aHK.m aHK.F.kp aHK.b ?_
  refine aA ?_
  refine ge_v 0 rfl ?_
  refine aA ?_
  refine ge_v 1 rfl ?_
  refine aB ?_
  refine ⟨_,_,rfl,g9 x (List.mem_of_getElem? hx),bb,?_⟩
  refine ⟨rfl,?_⟩
  rw [bH hx,← kM]
  rfl
 rintro acc M ⟨rfl,rfl⟩
 rw [c9,List.take_length]
 refine aB (d8 (.lst _) ?_)
 refine aK (aQ ?_)
 refine b5 ?_
 refine aA ?_
 refine ge_v 3 rfl ?_
 refine aA ?_
 refine ge_v 4 rfl ?_
 refine aA ?_
 refine aI aG ?_
 refine ge_v 0 rfl ?_
 refine aC ?_
 refine aJ (.tup _) rfl ?_
 refine aB ?_
 refine ⟨(show 3≤sizeLine by decide),?_⟩
 exact hk
theorem nQ:FnScope ["thing"] ["thing"] (aO dY):=⟨rfl,rfl,rfl,by decide +kernel,rfl,by decide +kernel,by decide +kernel⟩
theorem nV {f:Addr}{fd:FuncData}{aHA:Addr}{aHC:FuncData} (Df:R.Df K mg "is_whole_line" dY ["thing"] f fd)
  (aHE:R.Df K mg "is_whole" fP ["thing"] aHA aHC) (aHF:FnOk P w K mg base CX0 1 aHA aHC ["thing"] (spZ K nO)) {tF:Tok} (CF:mg "FARTHEST" = some (.int 1000000000 tF)):FnOk P w K mg base CX0 2 f fd ["thing"] (spZ K nW):=by
 refine a8 Df nQ (fun ds M k h => ?_) (fun cdv A outer s H E hr ds M k h => ?_)
 ·obtain ⟨x,rfl,_⟩:=h; rfl
 obtain ⟨x,rfl,h1,h2,hk⟩:=h
 refine aK (aQ (oN ?_))
 refine aF aHF (hr.mono (by decide)) aHE.m aHE.F.kp aHE.b ?_
 refine aA ?_
 refine ge_v 0 rfl ?_
 refine aB ?_
 refine ⟨_,rfl,trivial,?_⟩
 refine ⟨_,rfl,iteT (lN (aAU aA9 aA9 (gT fT (nK CF ⟨_,rfl,?_⟩))))⟩
 refine ge_v 0 rfl ?_
 refine o2_B ⟨_,rfl,oJ (decide_eq_true (by omega)) (nK CF (o2_B ?_))⟩
 rw [decide_eq_true h2]
 exact hk
theorem lF:FnScope ["thing"] ["thing"] (aO dG):=⟨rfl,rfl,rfl,by decide +kernel,rfl,by decide +kernel,by decide +kernel⟩
theorem lI {f:Addr}{fd:FuncData}{aHM:Addr}{aHN:FuncData} (Df:R.Df K mg "are_whole_lines" dG ["thing"] f fd)
  (aHO:R.Df K mg "is_whole_line" dY ["thing"] aHM aHN) (aHP:FnOk P w K mg base CX0 2 aHM aHN ["thing"] (spZ K nW)) (T:Bt mg) {tM:Tok} (CM:mg "MOST_LINES" = some (.int 7 tM)):FnOk P w K mg base CX0 3 f fd ["thing"] (spZ K nH):=by
 refine a8 Df lF (fun ds M k h => ?_) (fun cdv A outer s H E hr ds M k h => ?_)
 ·obtain ⟨xs,rfl,_⟩:=h; rfl
 obtain ⟨xs,rfl,u7,hk⟩:=h
 have few:=u7.few
 have ml:(xs.map D.int).length=xs.length:=List.length_map ..
 refine aD (bO (gt_w (gA ?_)))
 refine c8 ?_
 refine cL ?_
 refine i8 (.inr (.inr (.inr (.inr rfl)))) T.isi T.list R.BL ?_
 refine ge_v 0 rfl ?_
 refine ⟨_, .self trivial,?_⟩
 refine ⟨_,rfl,?_⟩
 rw [lL]
 refine iteF (iY (bG oP ?_))
 refine aM aV T.len PySem.boot_len ?_
 refine aA ?_
 refine ge_v 0 rfl ?_
 refine aB ?_
 refine bY (.lst _) ?_
 refine nK CM (o2_B ⟨_,rfl,?_⟩)
 refine mC (decide_eq_false (by omega)) (bB ?_)
 refine aD (bO (c8 (cL ?_)))
 refine aM (f8 rfl) T.all R.BAll (aA (aW [] [] (bC ?_)))
 refine ge_v 0 rfl ?_
 refine ⟨_, .inr (.inl rfl),?_⟩
 refine bP (ds:=xs.map D.int) (by rw [ml]; exact R.aS (by omega)) (fun i acc M'=>M'=M∧acc=(List.replicate i true).map D.bl) ⟨rfl,rfl⟩ ?_ ?_
 ·rintro i d acc M' hd ⟨rfl,rfl⟩ cs C s₀ H₀ fp
  obtain ⟨x,hx,rfl⟩:=b7 hd
  have hb:=u7.bd x (List.mem_of_getElem? hx)
  refine a6 (iteT fun cs C s₀ H₀ fp => ?_)
  refine aF aHP (hr.mono (by decide)) aHO.m aHO.F.kp aHO.b ?_
  refine aA ?_
  refine ge_v 0 rfl ?_
  refine aB ?_
  refine ⟨x,rfl,hb.1,hb.2,?_⟩
  refine ⟨rfl,?_⟩
  rw [List.replicate_succ',List.map_append]
  rfl
 rintro acc M' ⟨rfl,rfl⟩
 refine aB (iR (.lst _) ⟨_,rfl,?_⟩)
 rw [nJ]
 refine iteF (bB (aK (aQ ?_)))
 refine aM (f8 rfl) T.all R.BAll (aA (aW ["thing"] [0] (uA T.range ?_)))
 refine aA ?_
 refine aC ?_
 refine aA ?_
 refine aM aV T.len PySem.boot_len ?_
 refine aA ?_
 refine ge_v 0 rfl ?_
 refine aB ?_
 refine bY (.lst _) ?_
 refine aB ?_
 rw [ml]
 refine ⟨_,_,rfl,⟨by omega,by omega,by omega,by omega⟩,?_⟩
 rw [show (((xs.length:Nat):Int) - 1).toNat=xs.length - 1 by omega]
 refine bP (by rw [bJ]; exact R.aS (by omega)) (fun i acc M1=>M1=M'∧acc=(List.replicate i true).map D.bl) ⟨rfl,rfl⟩ ?_ ?_
 ·rintro i d acc M1 hd ⟨rfl,rfl⟩ cs C s₀ H₀ fp
  obtain ⟨hi,rfl⟩:=cX hd
  have lt:=List.pairwise_iff_getElem.mp u7.up i (i+1) (by omega) (by omega) (by omega)
  refine a6 (iteT fun cs C s₀ H₀ fp => ?_)
  refine gL kF ?_
  refine aI aG ?_
  refine ge_v 1 rfl ?_
  refine aH bK ?_
  refine ge_v 0 rfl ?_
  refine aC ?_
  refine o2_0 ?_
  refine aJ (.lst _) (by rw [show (1:Int)+(i:Int) - 1=((i:Nat):Int) by omega]; exact wA (by omega)) ?_
  refine aI aG ?_
  refine ge_v 1 rfl ?_
  refine ge_v 0 rfl ?_
  refine aJ (.lst _) (by rw [show (1:Int)+(i:Int)=((i+1:Nat):Int) by omega]; exact wA (by omega)) ?_
  refine o2_B ?_
  rw [decide_eq_true lt]
  refine ⟨rfl,?_⟩
  rw [List.replicate_succ',List.map_append]
  rfl
 rintro acc M1 ⟨rfl,rfl⟩
 refine aB (iR (.lst _) ?_)
 rw [nJ]
 exact hk
theorem xZ:FnScope ["rows", "place"] ["rows", "place"] (aO kP):=⟨rfl,rfl,rfl,by decide +kernel,rfl,by decide +kernel,by decide +kernel⟩
theorem yS {f:Addr}{fd:FuncData} (Df:R.Df K mg "column" kP ["rows", "place"] f fd):FnOk P w K mg base CX0 1 f fd ["rows", "place"] (spZ K qO):=by
 refine a8 Df xZ (fun ds M k h => ?_) (fun cdv A outer s H E hr ds M k h => ?_)
 ·obtain ⟨t,r,zs,n,j,rfl,_⟩:=h; rfl
 obtain ⟨t,r,zs,n,j,rfl,s1,hl,hn,hz,hj,hk⟩:=h
 cases t with
 | true =>
  cases s1
  refine aK (aQ ?_)
  refine g8 PySem.F.plainAttrs_str PySem.F.slot_str_join PySem.F.type_str_join l6 ?_
  refine bW ?_
  refine ⟨rfl,?_⟩
  refine aA ((aW ["place"] [1] (bC ?_)))
  refine ge_v 0 rfl ?_
  refine ⟨_, .inr (.inl rfl),?_⟩
  refine bP (ds:=zs.map D.str) (by rw [List.length_map]; exact R.aS (by omega)) (fun i2 acc2 M2=>M2=M∧acc2=((zs.take i2).map fun z=>(⟨#[R.atS z j]⟩:Str)).map D.str) ⟨rfl,rfl⟩ ?_ ?_
  ·rintro i2 d2 acc2 M2 hd2 ⟨rfl,rfl⟩ cs C s₀ H₀ fp
   obtain ⟨z,hz2,rfl⟩:=b7 hd2
   have hzn:=hz z (List.mem_of_getElem? hz2)
   refine a6 (iteT fun cs C s₀ H₀ fp => ?_)
   refine aI aG ?_
   refine ge_v 0 rfl ?_
   refine ge_v 1 rfl ?_
   refine j4 (R.aS (by omega)) (R.k4 (by omega)) ?_
   refine ⟨rfl,?_⟩
   rw [d9 hz2,List.map_append,List.map_append]
   rfl
  ·rintro acc2 M2 ⟨rfl,rfl⟩
   rw [List.length_map,List.take_length]
   refine aB ?_
   refine m8 (ys:=zs.map fun z=>(⟨#[R.atS z j]⟩:Str)) (.lst _) (by decide +kernel) ?_ ?_
   ·rw [mZ _ (fun z hz => ?_),List.length_map]
    ·omega
    ·obtain ⟨y,_,rfl⟩:=List.mem_map.mp hz
     rfl
   ·rw [R.jH,rT]
    exact hk
 | false =>
  cases s1
  refine aK (aQ ?_)
  refine g8 PySem.F.plainAttrs_str PySem.F.slot_str_join PySem.F.type_str_join l6 ?_
  refine bW ?_
  refine ⟨rfl,?_⟩
  refine aA ((aW ["place"] [1] (bC ?_)))
  refine ge_v 0 rfl ?_
  refine ⟨_, .inl rfl,?_⟩
  refine bP (ds:=zs.map D.str) (by rw [List.length_map]; exact R.aS (by omega)) (fun i2 acc2 M2=>M2=M∧acc2=((zs.take i2).map fun z=>(⟨#[R.atS z j]⟩:Str)).map D.str) ⟨rfl,rfl⟩ ?_ ?_
  ·rintro i2 d2 acc2 M2 hd2 ⟨rfl,rfl⟩ cs C s₀ H₀ fp
   obtain ⟨z,hz2,rfl⟩:=b7 hd2
   have hzn:=hz z (List.mem_of_getElem? hz2)
   refine a6 (iteT fun cs C s₀ H₀ fp => ?_)
   refine aI aG ?_
   refine ge_v 0 rfl ?_
   refine ge_v 1 rfl ?_
   refine j4 (R.aS (by omega)) (R.k4 (by omega)) ?_
   refine ⟨rfl,?_⟩
   rw [d9 hz2,List.map_append,List.map_append]
   rfl
  ·rintro acc2 M2 ⟨rfl,rfl⟩
   rw [List.length_map,List.take_length]
   refine aB ?_
   refine m8 (ys:=zs.map fun z=>(⟨#[R.atS z j]⟩:Str)) (.lst _) (by decide +kernel) ?_ ?_
   ·rw [mZ _ (fun z hz => ?_),List.length_map]
    ·omega
    ·obtain ⟨y,_,rfl⟩:=List.mem_map.mp hz
     rfl
   ·rw [R.jH,rT]
    exact hk
theorem kI:FnScope ["rows", "wide"] ["rows"] (aO jK):=⟨rfl,rfl,rfl,by decide +kernel,rfl,by decide +kernel,by decide +kernel⟩
theorem vG {f:Addr}{fd:FuncData}{aHQ:Addr}{aHR:FuncData} (Df:R.Df K mg "columns" jK ["rows"] f fd)
  (aHS:R.Df K mg "column" kP ["rows", "place"] aHQ aHR) (aHT:FnOk P w K mg base CX0 1 aHQ aHR ["rows", "place"] (spZ K qO)) (T:Bt mg):FnOk P w K mg base CX0 2 f fd ["rows"] (spZ K pY):=by
 refine a8 Df kI (fun ds M k h => ?_) (fun cdv A outer s H E hr ds M k h => ?_)
 ·obtain ⟨t,r,zs,n,rfl,_⟩:=h; rfl
 obtain ⟨t,r,zs,n,rfl,s1,hl,hn,hz,hk⟩:=h
 cases t with
 | true =>
  cases s1
  refine aD (k9 (fun Γ' M'=>M'=M∧Γ'=[some (.lst (zs.map D.str)),some (.int (((zs.head?.map (·.length)).getD 0:Nat):Int))]) (aP 1 kI.nd (oG ?_)) ?_)
  ·refine kK ?_
   refine ge_v 0 rfl ?_
   refine ⟨_, .seq (.lst _),?_⟩
   refine ite2 (fun hb => ?_) (fun hb => ?_)
   ·cases zs with
    | nil=>cases hb
    | cons z zr =>
     have hzl:=hz z (by simp)
     refine aM aV T.len PySem.boot_len ?_
     refine aA ?_
     refine aI aG ?_
     refine ge_v 0 rfl ?_
     refine aC ?_
     refine aJ (.lst _) (m7 z zr) ?_
     refine aB ?_
     refine fJ (R.aS (by omega)) ?_
     exact ⟨rfl,rfl⟩
   ·cases zs with
    | nil =>
     refine aC ?_
     exact ⟨rfl,rfl⟩
    | cons z zr=>exact absurd rfl hb
  rintro Γ' M' ⟨rfl,rfl⟩
  have hw:(zs.head?.map (·.length)).getD 0≤n:=by
   cases zs with
   | nil=>exact Nat.zero_le _
   | cons z zr=>exact Nat.le_of_eq (hz z (by simp))
  refine aK (aQ ((aW ["rows"] [0] (fR T.range ?_))))
  refine aA ?_
  refine ge_v 1 rfl ?_
  refine aB ?_
  refine ⟨_,rfl,by omega,by omega,?_⟩
  rw [Int.toNat_natCast]
  refine bP (by rw [bJ]; exact R.aS (by omega)) (fun i acc M1=>M1=M'∧acc=((List.range i).map fun j=>R.ofL (zs.map (R.atS · j))).map D.str) ⟨rfl,rfl⟩ ?_ ?_
  ·rintro i d acc M1 hd ⟨rfl,rfl⟩ cs C s₀ H₀ fp
   obtain ⟨hi,rfl⟩:=cX hd
   rw [Int.zero_add]
   refine a6 (iteT fun cs C s₀ H₀ fp => ?_)
   refine aF aHT (hr.mono (by decide)) aHS.m aHS.F.kp aHS.b ?_
   refine aA ?_
   refine ge_v 1 rfl ?_
   refine aA ?_
   refine ge_v 0 rfl ?_
   refine aB ?_
   refine ⟨true,_,zs,n,i,rfl,rfl,hl,hn,hz,by omega,?_⟩
   refine ⟨rfl,?_⟩
   rw [List.range_succ,List.map_append,List.map_append]
   rfl
  ·rintro acc M1 ⟨rfl,rfl⟩
   rw [bJ]
   exact hk
 | false =>
  cases s1
  refine aD (k9 (fun Γ' M'=>M'=M∧Γ'=[some (.tup (zs.map D.str)),some (.int (((zs.head?.map (·.length)).getD 0:Nat):Int))]) (aP 1 kI.nd (oG ?_)) ?_)
  ·refine kK ?_
   refine ge_v 0 rfl ?_
   refine ⟨_, .seq (.tup _),?_⟩
   refine ite2 (fun hb => ?_) (fun hb => ?_)
   ·cases zs with
    | nil=>cases hb
    | cons z zr =>
     have hzl:=hz z (by simp)
     refine aM aV T.len PySem.boot_len ?_
     refine aA ?_
     refine aI aG ?_
     refine ge_v 0 rfl ?_
     refine aC ?_
     refine aJ (.tup _) (m7 z zr) ?_
     refine aB ?_
     refine fJ (R.aS (by omega)) ?_
     exact ⟨rfl,rfl⟩
   ·cases zs with
    | nil =>
     refine aC ?_
     exact ⟨rfl,rfl⟩
    | cons z zr=>exact absurd rfl hb
  rintro Γ' M' ⟨rfl,rfl⟩
  have hw:(zs.head?.map (·.length)).getD 0≤n:=by
   cases zs with
   | nil=>exact Nat.zero_le _
   | cons z zr=>exact Nat.le_of_eq (hz z (by simp))
  refine aK (aQ ((aW ["rows"] [0] (fR T.range ?_))))
  refine aA ?_
  refine ge_v 1 rfl ?_
  refine aB ?_
  refine ⟨_,rfl,by omega,by omega,?_⟩
  rw [Int.toNat_natCast]
  refine bP (by rw [bJ]; exact R.aS (by omega)) (fun i acc M1=>M1=M'∧acc=((List.range i).map fun j=>R.ofL (zs.map (R.atS · j))).map D.str) ⟨rfl,rfl⟩ ?_ ?_
  ·rintro i d acc M1 hd ⟨rfl,rfl⟩ cs C s₀ H₀ fp
   obtain ⟨hi,rfl⟩:=cX hd
   rw [Int.zero_add]
   refine a6 (iteT fun cs C s₀ H₀ fp => ?_)
   refine aF aHT (hr.mono (by decide)) aHS.m aHS.F.kp aHS.b ?_
   refine aA ?_
   refine ge_v 1 rfl ?_
   refine aA ?_
   refine ge_v 0 rfl ?_
   refine aB ?_
   refine ⟨false,_,zs,n,i,rfl,rfl,hl,hn,hz,by omega,?_⟩
   refine ⟨rfl,?_⟩
   rw [List.range_succ,List.map_append,List.map_append]
   rfl
  ·rintro acc M1 ⟨rfl,rfl⟩
   rw [bJ]
   exact hk
theorem fU:FnScope ["bands", "outside", "framed"] ["bands"] (aO jG):=⟨rfl,rfl,rfl,by decide +kernel,rfl,by decide +kernel,by decide +kernel⟩
theorem vF {f:Addr}{fd:FuncData} (Df:R.Df K mg "changes" jG ["bands"] f fd) (T:Bt mg):FnOk P w K mg base CX0 1 f fd ["bands"] (spZ K pN):=by
 refine a8 Df fU (fun ds M k h => ?_) (fun cdv A outer s H E hr ds M k h => ?_)
 ·obtain ⟨t,r,zs,n,rfl,_⟩:=h; rfl
 obtain ⟨t,r,zs,n,rfl,s1,hl,hn,hz,hk⟩:=h
 cases t with
 | true =>
  cases s1
  refine aD (bO ?_)
  refine c8 ?_
  refine kK ?_
  refine ge_v 0 rfl ?_
  refine ⟨_, .seq (.lst _),?_⟩
  refine ite2 (fun hb => ?_) (fun hb => ?_)
  ·have e:zs=[]:=by
    cases zs with
    | nil=>rfl
    | cons z zr=>exact absurd hb (by simp)
   subst e
   refine aK (aQ ?_)
   refine bX ?_
   refine aB ?_
   refine ⟨(show 0≤sizeLine by decide),?_⟩
   exact hk
  have hne:zs≠[]:=fun e=>by subst e; exact hb rfl
  obtain ⟨z0,zr,rfl⟩:∃ z0 zr,zs=z0::zr:=by
   cases zs with
   | nil=>exact absurd rfl hne
   | cons z zr=>exact ⟨z,zr,rfl⟩
  have l0:=hz z0 (by simp)
  refine bB ?_
  refine aD (aP 1 fU.nd ?_)
  refine aH o4 ?_
  refine bW ?_
  refine aM aV T.len PySem.boot_len ?_
  refine aA ?_
  refine aI aG ?_
  refine ge_v 0 rfl ?_
  refine aC ?_
  refine aJ (.lst _) (m7 z0 zr) ?_
  refine aB ?_
  refine fJ (R.aS (by omega)) ?_
  refine oW (by omega) (by omega) (rL (by omega)) ?_
  rw [Int.toNat_natCast,R.qA]
  refine aD (aP 2 fU.nd ?_)
  refine aH d6 ?_
  refine aH d6 ?_
  refine bX ?_
  refine aA ?_
  refine ge_v 1 rfl ?_
  refine aB ?_
  refine ⟨(show 1≤sizeLine by decide),?_⟩
  refine b4 eA T.list R.BL ?_
  refine aA ?_
  refine ge_v 0 rfl ?_
  refine aB ?_
  refine jV (.lst _) ?_
  refine d7 (.lst _) (.lst _) (by rw [List.length_map]; exact R.aS (by simp only [List.length_cons,List.length_nil] at hl ⊢; omega)) ?_
  refine bX ?_
  refine aA ?_
  refine ge_v 1 rfl ?_
  refine aB ?_
  refine ⟨(show 1≤sizeLine by decide),?_⟩
  refine d7 (.lst _) (.lst _) (by simp only [List.length_append,List.length_map,List.length_cons,List.length_nil] at hl ⊢; exact R.aS (by omega)) ?_
  rw [show [D.str (R.dots z0.length)]++(z0::zr).map D.str++[D.str (R.dots z0.length)]=(R.framed (z0::zr)).map D.str from by simp [R.framed]]
  generalize hzz:z0::zr=zs at *
  refine aK (aQ ((aW ["framed"] [2] (fR T.range ?_))))
  refine aA ?_
  refine aH bK ?_
  refine aM aV T.len PySem.boot_len ?_
  refine aA ?_
  refine ge_v 2 rfl ?_
  refine aB ?_
  refine bY (.lst _) ?_
  refine aC ?_
  refine o2_0 ?_
  refine aB ?_
  rw [List.length_map,R.hX]
  refine ⟨_,rfl,by omega,by omega,?_⟩
  rw [show (((zs.length+2:Nat):Int) - 1).toNat=zs.length+1 by omega]
  refine bP (by rw [bJ]; exact R.aS (by omega)) (fun i acc M'=>M'=M∧acc=((List.range i).filter fun i => !decide ((R.framed zs)[i]?=(R.framed zs)[i+1]?)).map fun (j:Nat)=>D.int (j:Int)) ⟨rfl,rfl⟩ ?_ ?_
  ·rintro i d acc M' hd ⟨rfl,rfl⟩ cs C s₀ H₀ fp
   obtain ⟨hi,rfl⟩:=cX hd
   obtain ⟨u,hu⟩:=iA (zs:=zs) (i:=i) (by omega)
   obtain ⟨v,hv⟩:=iA (zs:=zs) (i:=i+1) (by omega)
   refine pA ?_
   refine bG mX ?_
   refine aI aG ?_
   refine ge_v 1 rfl ?_
   refine ge_v 0 rfl ?_
   refine aJ (.lst _) (mI hu) ?_
   refine aI aG ?_
   refine ge_v 1 rfl ?_
   refine aH bQ ?_
   refine ge_v 0 rfl ?_
   refine aC ?_
   refine o2_0 ?_
   refine aJ (.lst _) (qI hv) ?_
   refine nY ?_
   refine ⟨_,rfl,?_⟩
   have ed:(!decide ((R.framed zs)[i]?=(R.framed zs)[i+1]?))=(!decide (u=v)):=by rw [hu,hv]; congr 1; simp
   refine ite2 (fun hb=>fun cs C s₀ H₀ fp => ?_) (fun hb => ?_)
   ·refine ge_v 0 rfl ?_
    refine ⟨rfl,?_⟩
    rw [gF,if_pos (by rw [ed]; exact hb),List.map_append,Int.zero_add]
    rfl
   ·refine ⟨rfl,?_⟩
    rw [gF,if_neg (by rw [ed]; exact hb)]
  rintro acc M' ⟨rfl,rfl⟩
  rw [bJ,xE]
  exact hk
 | false =>
  cases s1
  refine aD (bO ?_)
  refine c8 ?_
  refine kK ?_
  refine ge_v 0 rfl ?_
  refine ⟨_, .seq (.tup _),?_⟩
  refine ite2 (fun hb => ?_) (fun hb => ?_)
  ·have e:zs=[]:=by
    cases zs with
    | nil=>rfl
    | cons z zr=>exact absurd hb (by simp)
   subst e
   refine aK (aQ ?_)
   refine bX ?_
   refine aB ?_
   refine ⟨(show 0≤sizeLine by decide),?_⟩
   exact hk
  have hne:zs≠[]:=fun e=>by subst e; exact hb rfl
  obtain ⟨z0,zr,rfl⟩:∃ z0 zr,zs=z0::zr:=by
   cases zs with
   | nil=>exact absurd rfl hne
   | cons z zr=>exact ⟨z,zr,rfl⟩
  have l0:=hz z0 (by simp)
  refine bB ?_
  refine aD (aP 1 fU.nd ?_)
  refine aH o4 ?_
  refine bW ?_
  refine aM aV T.len PySem.boot_len ?_
  refine aA ?_
  refine aI aG ?_
  refine ge_v 0 rfl ?_
  refine aC ?_
  refine aJ (.tup _) (m7 z0 zr) ?_
  refine aB ?_
  refine fJ (R.aS (by omega)) ?_
  refine oW (by omega) (by omega) (rL (by omega)) ?_
  rw [Int.toNat_natCast,R.qA]
  refine aD (aP 2 fU.nd ?_)
  refine aH d6 ?_
  refine aH d6 ?_
  refine bX ?_
  refine aA ?_
  refine ge_v 1 rfl ?_
  refine aB ?_
  refine ⟨(show 1≤sizeLine by decide),?_⟩
  refine b4 eA T.list R.BL ?_
  refine aA ?_
  refine ge_v 0 rfl ?_
  refine aB ?_
  refine jV (.tup _) ?_
  refine d7 (.lst _) (.lst _) (by rw [List.length_map]; exact R.aS (by simp only [List.length_cons,List.length_nil] at hl ⊢; omega)) ?_
  refine bX ?_
  refine aA ?_
  refine ge_v 1 rfl ?_
  refine aB ?_
  refine ⟨(show 1≤sizeLine by decide),?_⟩
  refine d7 (.lst _) (.lst _) (by simp only [List.length_append,List.length_map,List.length_cons,List.length_nil] at hl ⊢; exact R.aS (by omega)) ?_
  rw [show [D.str (R.dots z0.length)]++(z0::zr).map D.str++[D.str (R.dots z0.length)]=(R.framed (z0::zr)).map D.str from by simp [R.framed]]
  generalize hzz:z0::zr=zs at *
  refine aK (aQ ((aW ["framed"] [2] (fR T.range ?_))))
  refine aA ?_
  refine aH bK ?_
  refine aM aV T.len PySem.boot_len ?_
  refine aA ?_
  refine ge_v 2 rfl ?_
  refine aB ?_
  refine bY (.lst _) ?_
  refine aC ?_
  refine o2_0 ?_
  refine aB ?_
  rw [List.length_map,R.hX]
  refine ⟨_,rfl,by omega,by omega,?_⟩
  rw [show (((zs.length+2:Nat):Int) - 1).toNat=zs.length+1 by omega]
  refine bP (by rw [bJ]; exact R.aS (by omega)) (fun i acc M'=>M'=M∧acc=((List.range i).filter fun i => !decide ((R.framed zs)[i]?=(R.framed zs)[i+1]?)).map fun (j:Nat)=>D.int (j:Int)) ⟨rfl,rfl⟩ ?_ ?_
  ·rintro i d acc M' hd ⟨rfl,rfl⟩ cs C s₀ H₀ fp
   obtain ⟨hi,rfl⟩:=cX hd
   obtain ⟨u,hu⟩:=iA (zs:=zs) (i:=i) (by omega)
   obtain ⟨v,hv⟩:=iA (zs:=zs) (i:=i+1) (by omega)
   refine pA ?_
   refine bG mX ?_
   refine aI aG ?_
   refine ge_v 1 rfl ?_
   refine ge_v 0 rfl ?_
   refine aJ (.lst _) (mI hu) ?_
   refine aI aG ?_
   refine ge_v 1 rfl ?_
   refine aH bQ ?_
   refine ge_v 0 rfl ?_
   refine aC ?_
   refine o2_0 ?_
   refine aJ (.lst _) (qI hv) ?_
   refine nY ?_
   refine ⟨_,rfl,?_⟩
   have ed:(!decide ((R.framed zs)[i]?=(R.framed zs)[i+1]?))=(!decide (u=v)):=by rw [hu,hv]; congr 1; simp
   refine ite2 (fun hb=>fun cs C s₀ H₀ fp => ?_) (fun hb => ?_)
   ·refine ge_v 0 rfl ?_
    refine ⟨rfl,?_⟩
    rw [gF,if_pos (by rw [ed]; exact hb),List.map_append,Int.zero_add]
    rfl
   ·refine ⟨rfl,?_⟩
    rw [gF,if_neg (by rw [ed]; exact hb)]
  rintro acc M' ⟨rfl,rfl⟩
  rw [bJ,xE]
  exact hk
theorem xK:FnScope ["row", "places"] ["row", "places"] (aO kX):=⟨rfl,rfl,rfl,by decide +kernel,rfl,by decide +kernel,by decide +kernel⟩
theorem xS {f:Addr}{fd:FuncData} (Df:R.Df K mg "picked" kX ["row", "places"] f fd):FnOk P w K mg base CX0 1 f fd ["row", "places"] (spZ K sZ):=by
 refine a8 Df xK (fun ds M k h => ?_) (fun cdv A outer s H E hr ds M k h => ?_)
 ·obtain ⟨z,js,rfl,_⟩:=h; rfl
 obtain ⟨z,js,rfl,hz,hl,hj,hk⟩:=h
 refine aK (aQ ?_)
 refine g8 PySem.F.plainAttrs_str PySem.F.slot_str_join PySem.F.type_str_join l6 ?_
 refine bW ?_
 refine ⟨rfl,?_⟩
 refine aA ((aW ["row"] [0] (bC ?_)))
 refine ge_v 1 rfl ?_
 refine ⟨_, .inr (.inl rfl),?_⟩
 refine bP (ds:=natD js) (by rw [b8]; exact R.aS (by omega)) (fun i2 acc2 M2=>M2=M∧acc2=((js.take i2).map fun j=>(⟨#[R.atS z j]⟩:Str)).map D.str) ⟨rfl,rfl⟩ ?_ ?_
 ·rintro i2 d2 acc2 M2 hd2 ⟨rfl,rfl⟩ cs C s₀ H₀ fp
  obtain ⟨j,hj2,rfl⟩:=fC hd2
  have hjl:=hj j (List.mem_of_getElem? hj2)
  refine a6 (iteT fun cs C s₀ H₀ fp => ?_)
  refine aI aG ?_
  refine ge_v 1 rfl ?_
  refine ge_v 0 rfl ?_
  refine j4 (R.aS (by omega)) (R.k4 hjl) ?_
  refine ⟨rfl,?_⟩
  rw [d9 hj2,List.map_append,List.map_append]
  rfl
 ·rintro acc2 M2 ⟨rfl,rfl⟩
  rw [b8,List.take_length]
  refine aB ?_
  refine m8 (ys:=js.map fun j=>(⟨#[R.atS z j]⟩:Str)) (.lst _) (by decide +kernel) ?_ ?_
  ·rw [mZ _ (fun z hz => ?_),List.length_map]
   ·omega
   ·obtain ⟨y,_,rfl⟩:=List.mem_map.mp hz
    rfl
  ·rw [R.jH,uU]
   exact hk
theorem eE:FnScope ["xs", "ys", "rows", "at_xs", "at_ys", "kept"] ["xs", "ys", "rows"] (aO kO):=⟨rfl,rfl,rfl,by decide +kernel,rfl,by decide +kernel,by decide +kernel⟩
theorem wW {f:Addr}{fd:FuncData}{aHU aHV aHW:Addr}{aHX aHY aHZ:FuncData} (Df:R.Df K mg "tidied" kO ["xs", "ys", "rows"] f fd)
  (aH0:R.Df K mg "changes" jG ["bands"] aHU aHX) (aH1:FnOk P w K mg base CX0 1 aHU aHX ["bands"] (spZ K pN))
  (aH2:R.Df K mg "columns" jK ["rows"] aHV aHY) (aH3:FnOk P w K mg base CX0 2 aHV aHY ["rows"] (spZ K pY))
  (aH4:R.Df K mg "picked" kX ["row", "places"] aHW aHZ) (aH5:FnOk P w K mg base CX0 1 aHW aHZ ["row", "places"] (spZ K sZ)) (T:Bt mg):FnOk P w K mg base CX0 3 f fd ["xs", "ys", "rows"] (spZ K q5):=by
 refine a8 Df eE (fun ds M k h => ?_) (fun cdv A outer s H E hr ds M k h => ?_)
 ·obtain ⟨t,dx,dy,dr,xs,ys,zs,n,rfl,_⟩:=h; rfl
 obtain ⟨t,dx,dy,dr,xs,ys,zs,n,rfl,s1,s2,s3,hl,hn,hz,hx,hy,hk⟩:=h
 have cl:=R.nM hz
 have kx:=R.uI (R.aE zs)
 have ky:=R.uI zs
 cases t with
 | true =>
  cases s1
  cases s2
  cases s3
  refine aD (aP 3 eE.nd ?_)
  refine aF aH1 (hr.mono (by decide)) aH0.m aH0.F.kp aH0.b ?_
  refine aA ?_
  refine aF aH3 (hr.mono (by decide)) aH2.m aH2.F.kp aH2.b ?_
  refine aA ?_
  refine ge_v 2 rfl ?_
  refine aB ?_
  refine ⟨true,_,zs,n,rfl,rfl,by omega,by omega,hz,?_⟩
  refine aB ?_
  refine ⟨true,_,R.aE zs,zs.length,rfl,rfl,by omega,by omega,fun z hz=>R.eB z hz,?_⟩
  refine aD (aP 4 eE.nd ?_)
  refine aF aH1 (hr.mono (by decide)) aH0.m aH0.F.kp aH0.b ?_
  refine aA ?_
  refine ge_v 2 rfl ?_
  refine aB ?_
  refine ⟨true,_,zs,n,rfl,rfl,by omega,by omega,hz,?_⟩
  have hjx:∀ j∈(R.chg (R.aE zs)).dropLast,j < n:=fun j hj=>by
   have:=R.fZ (R.bL _) (R.c7 _) j hj
   omega
  refine aD (kR 5 ["rows", "at_xs"] [2,3] eE.nd (bC ?_))
  refine fX iL ?_
  refine ge_v 4 rfl ?_
  refine iK ?_
  refine iM ?_
  refine gT fT ?_
  refine aC ?_
  refine ⟨_,rfl,?_⟩
  refine ⟨_,rfl,?_⟩
  refine jY (.lst _) ?_
  rw [show cutD (natD (R.chg zs)) none (some (-1))=natD (R.chg zs).dropLast from (jO _).trans (fB _)]
  refine ⟨_, .inr (.inl rfl),?_⟩
  refine u5 (ds:=natD (R.chg zs).dropLast) (by rw [b8,List.length_dropLast]; exact R.aS (by omega)) (fun i acc M2=>M2=M∧acc=(((R.chg zs).dropLast.take i).map fun i=>R.ofL ((R.chg (R.aE zs)).dropLast.map (R.atS (zs.getD i Str.empty)))).map D.str) ⟨rfl,rfl⟩ ?_ ?_
  ·rintro i d acc M2 hd ⟨rfl,rfl⟩ cs C s₀ H₀ fp
   obtain ⟨j,hj,rfl⟩:=fC hd
   have hjl:=R.fZ (R.bL zs) (R.c7 zs) j (List.mem_of_getElem? hj)
   have hzj:zs[j]?=some (zs.getD j Str.empty):=by rw [List.getD_eq_getElem?_getD,List.getElem?_eq_getElem hjl]; rfl
   have hzm:=List.mem_of_getElem? hzj
   refine a6 (iteT fun cs C s₀ H₀ fp => ?_)
   refine aF aH5 (hr.mono (by decide)) aH4.m aH4.F.kp aH4.b ?_
   refine aA ?_
   refine aI aG ?_
   refine ge_v 1 rfl ?_
   refine ge_v 0 rfl ?_
   refine aJ (.lst _) (by have:=mI hzj; rw [Int.zero_add] at this; exact this) ?_
   refine aA ?_
   refine fX iL ?_
   refine ge_v 2 rfl ?_
   refine iK ?_
   refine iM ?_
   refine gT fT ?_
   refine aC ?_
   refine ⟨_,rfl,?_⟩
   refine ⟨_,rfl,?_⟩
   refine jY (.lst _) ?_
   refine aB ?_
   rw [show cutD (natD (R.chg (R.aE zs))) none (some (-1))=natD (R.chg (R.aE zs)).dropLast from (jO _).trans (fB _)]
   refine ⟨_,(R.chg (R.aE zs)).dropLast,rfl,by rw [hz _ hzm]; omega,by rw [List.length_dropLast]; omega,fun j hj=>by rw [hz _ hzm]; exact hjx j hj,?_⟩
   refine ⟨rfl,?_⟩
   rw [bH hj,List.map_append]
   rfl
  rintro acc M2 ⟨rfl,rfl⟩ a ha
  rw [b8,List.take_length]
  refine i6 5 rfl aT ?_
  rw [fW ha]
  refine aK (aQ (b5 (aA ?_)))
  refine b4 cB T.tuple R.BT (aA (aW ["xs"] [0] (bC ?_)))
  refine ge_v 3 rfl ?_
  refine ⟨_, .inr (.inl rfl),?_⟩
  refine bP (ds:=natD (R.chg (R.aE zs))) (by rw [b8]; exact R.aS (by omega)) (fun i acc M1=>M1=M2∧acc=((R.chg (R.aE zs)).take i).map fun j=>xs.getD j .non) ⟨rfl,rfl⟩ ?_ ?_
  ·rintro i d acc M1 hd ⟨rfl,rfl⟩ cs C s₀ H₀ fp
   obtain ⟨j,hj,rfl⟩:=fC hd
   refine a6 (iteT fun cs C s₀ H₀ fp => ?_)
   refine aI aG ?_
   refine ge_v 1 rfl ?_
   refine ge_v 0 rfl ?_
   refine aJ (.lst _) (at_D (hx j (List.mem_of_getElem? hj))) ?_
   exact ⟨rfl,(bH hj).symm⟩
  rintro acc M1 ⟨rfl,rfl⟩
  rw [b8,List.take_length]
  refine aB (d8 (.lst _) ?_)
  refine aA ?_
  refine b4 cB T.tuple R.BT (aA (aW ["ys"] [1] (bC ?_)))
  refine ge_v 4 rfl ?_
  refine ⟨_, .inr (.inl rfl),?_⟩
  refine bP (ds:=natD (R.chg zs)) (by rw [b8]; exact R.aS (by omega)) (fun i acc M2=>M2=M1∧acc=((R.chg zs).take i).map fun j=>ys.getD j .non) ⟨rfl,rfl⟩ ?_ ?_
  ·rintro i d acc M2 hd ⟨rfl,rfl⟩ cs C s₀ H₀ fp
   obtain ⟨j,hj,rfl⟩:=fC hd
   refine a6 (iteT fun cs C s₀ H₀ fp => ?_)
   refine aI aG ?_
   refine ge_v 1 rfl ?_
   refine ge_v 0 rfl ?_
   refine aJ (.lst _) (at_D (hy j (List.mem_of_getElem? hj))) ?_
   exact ⟨rfl,(bH hj).symm⟩
  rintro acc M2 ⟨rfl,rfl⟩
  rw [b8,List.take_length]
  refine aB (d8 (.lst _) ?_)
  refine aA ?_
  refine b4 cB T.tuple R.BT ?_
  refine aA ?_
  refine ge_v 5 rfl ?_
  refine aB ?_
  refine d8 (.lst _) ?_
  refine aB ⟨(show 3≤sizeLine by decide),?_⟩
  exact hk
 | false =>
  cases s1
  cases s2
  cases s3
  refine aD (aP 3 eE.nd ?_)
  refine aF aH1 (hr.mono (by decide)) aH0.m aH0.F.kp aH0.b ?_
  refine aA ?_
  refine aF aH3 (hr.mono (by decide)) aH2.m aH2.F.kp aH2.b ?_
  refine aA ?_
  refine ge_v 2 rfl ?_
  refine aB ?_
  refine ⟨false,_,zs,n,rfl,rfl,by omega,by omega,hz,?_⟩
  refine aB ?_
  refine ⟨true,_,R.aE zs,zs.length,rfl,rfl,by omega,by omega,fun z hz=>R.eB z hz,?_⟩
  refine aD (aP 4 eE.nd ?_)
  refine aF aH1 (hr.mono (by decide)) aH0.m aH0.F.kp aH0.b ?_
  refine aA ?_
  refine ge_v 2 rfl ?_
  refine aB ?_
  refine ⟨false,_,zs,n,rfl,rfl,by omega,by omega,hz,?_⟩
  have hjx:∀ j∈(R.chg (R.aE zs)).dropLast,j < n:=fun j hj=>by
   have:=R.fZ (R.bL _) (R.c7 _) j hj
   omega
  refine aD (kR 5 ["rows", "at_xs"] [2,3] eE.nd (bC ?_))
  refine fX iL ?_
  refine ge_v 4 rfl ?_
  refine iK ?_
  refine iM ?_
  refine gT fT ?_
  refine aC ?_
  refine ⟨_,rfl,?_⟩
  refine ⟨_,rfl,?_⟩
  refine jY (.lst _) ?_
  rw [show cutD (natD (R.chg zs)) none (some (-1))=natD (R.chg zs).dropLast from (jO _).trans (fB _)]
  refine ⟨_, .inr (.inl rfl),?_⟩
  refine u5 (ds:=natD (R.chg zs).dropLast) (by rw [b8,List.length_dropLast]; exact R.aS (by omega)) (fun i acc M2=>M2=M∧acc=(((R.chg zs).dropLast.take i).map fun i=>R.ofL ((R.chg (R.aE zs)).dropLast.map (R.atS (zs.getD i Str.empty)))).map D.str) ⟨rfl,rfl⟩ ?_ ?_
  ·rintro i d acc M2 hd ⟨rfl,rfl⟩ cs C s₀ H₀ fp
   obtain ⟨j,hj,rfl⟩:=fC hd
   have hjl:=R.fZ (R.bL zs) (R.c7 zs) j (List.mem_of_getElem? hj)
   have hzj:zs[j]?=some (zs.getD j Str.empty):=by rw [List.getD_eq_getElem?_getD,List.getElem?_eq_getElem hjl]; rfl
   have hzm:=List.mem_of_getElem? hzj
   refine a6 (iteT fun cs C s₀ H₀ fp => ?_)
   refine aF aH5 (hr.mono (by decide)) aH4.m aH4.F.kp aH4.b ?_
   refine aA ?_
   refine aI aG ?_
   refine ge_v 1 rfl ?_
   refine ge_v 0 rfl ?_
   refine aJ (.tup _) (by have:=mI hzj; rw [Int.zero_add] at this; exact this) ?_
   refine aA ?_
   refine fX iL ?_
   refine ge_v 2 rfl ?_
   refine iK ?_
   refine iM ?_
   refine gT fT ?_
   refine aC ?_
   refine ⟨_,rfl,?_⟩
   refine ⟨_,rfl,?_⟩
   refine jY (.lst _) ?_
   refine aB ?_
   rw [show cutD (natD (R.chg (R.aE zs))) none (some (-1))=natD (R.chg (R.aE zs)).dropLast from (jO _).trans (fB _)]
   refine ⟨_,(R.chg (R.aE zs)).dropLast,rfl,by rw [hz _ hzm]; omega,by rw [List.length_dropLast]; omega,fun j hj=>by rw [hz _ hzm]; exact hjx j hj,?_⟩
   refine ⟨rfl,?_⟩
   rw [bH hj,List.map_append]
   rfl
  rintro acc M2 ⟨rfl,rfl⟩ a ha
  rw [b8,List.take_length]
  refine i6 5 rfl aT ?_
  rw [fW ha]
  refine aK (aQ (b5 (aA ?_)))
  refine b4 cB T.tuple R.BT (aA (aW ["xs"] [0] (bC ?_)))
  refine ge_v 3 rfl ?_
  refine ⟨_, .inr (.inl rfl),?_⟩
  refine bP (ds:=natD (R.chg (R.aE zs))) (by rw [b8]; exact R.aS (by omega)) (fun i acc M1=>M1=M2∧acc=((R.chg (R.aE zs)).take i).map fun j=>xs.getD j .non) ⟨rfl,rfl⟩ ?_ ?_
  ·rintro i d acc M1 hd ⟨rfl,rfl⟩ cs C s₀ H₀ fp
   obtain ⟨j,hj,rfl⟩:=fC hd
   refine a6 (iteT fun cs C s₀ H₀ fp => ?_)
   refine aI aG ?_
   refine ge_v 1 rfl ?_
   refine ge_v 0 rfl ?_
   refine aJ (.tup _) (at_D (hx j (List.mem_of_getElem? hj))) ?_
   exact ⟨rfl,(bH hj).symm⟩
  rintro acc M1 ⟨rfl,rfl⟩
  rw [b8,List.take_length]
  refine aB (d8 (.lst _) ?_)
  refine aA ?_
  refine b4 cB T.tuple R.BT (aA (aW ["ys"] [1] (bC ?_)))
  refine ge_v 4 rfl ?_
  refine ⟨_, .inr (.inl rfl),?_⟩
  refine bP (ds:=natD (R.chg zs)) (by rw [b8]; exact R.aS (by omega)) (fun i acc M2=>M2=M1∧acc=((R.chg zs).take i).map fun j=>ys.getD j .non) ⟨rfl,rfl⟩ ?_ ?_
  ·rintro i d acc M2 hd ⟨rfl,rfl⟩ cs C s₀ H₀ fp
   obtain ⟨j,hj,rfl⟩:=fC hd
   refine a6 (iteT fun cs C s₀ H₀ fp => ?_)
   refine aI aG ?_
   refine ge_v 1 rfl ?_
   refine ge_v 0 rfl ?_
   refine aJ (.tup _) (at_D (hy j (List.mem_of_getElem? hj))) ?_
   exact ⟨rfl,(bH hj).symm⟩
  rintro acc M2 ⟨rfl,rfl⟩
  rw [b8,List.take_length]
  refine aB (d8 (.lst _) ?_)
  refine aA ?_
  refine b4 cB T.tuple R.BT ?_
  refine aA ?_
  refine ge_v 5 rfl ?_
  refine aB ?_
  refine d8 (.lst _) ?_
  refine aB ⟨(show 3≤sizeLine by decide),?_⟩
  exact hk
theorem xJ:FnScope ["thing", "wide"] ["thing", "wide"] (aO kD):=⟨rfl,rfl,rfl,by decide +kernel,rfl,by decide +kernel,by decide +kernel⟩
theorem wQ {f:Addr}{fd:FuncData} (Df:R.Df K mg "is_row" kD ["thing", "wide"] f fd) (T:Bt mg):FnOk P w K mg base CX0 1 f fd ["thing", "wide"] (spZ K wH):=by
 refine a8 Df xJ (fun ds M k h => ?_) (fun cdv A outer s H E hr ds M k h => ?_)
 ·obtain ⟨d,n,w,rfl,_⟩:=h; rfl
 obtain ⟨d,n,w,rfl,ht,hk⟩:=h
 rcases aDT d with ⟨z,rfl⟩ | ⟨e0,e1⟩
 ·have hz:=rH ht
  refine aD (bO (gt_w (gA ?_)))
  refine c8 ?_
  refine cL ?_
  refine i8 (.inr (.inr (.inl rfl))) T.isi T.str R.BS ?_
  refine ge_v 0 rfl ?_
  refine ⟨_, .self trivial,?_⟩
  refine ⟨_,rfl,?_⟩
  rw [sS]
  refine iteF (iY ?_)
  refine bG mX ?_
  refine aM aV T.len PySem.boot_len ?_
  refine aA ?_
  refine ge_v 0 rfl ?_
  refine aB ?_
  refine fJ (R.aS (by omega)) ?_
  refine ge_v 1 rfl ?_
  refine yJ ?_
  refine ⟨_,rfl,?_⟩
  by_cases h2:z.length=w
  ·rw [decide_eq_true (by omega)]
   refine iteF (bB (aK (aQ ?_)))
   refine aM (f8 rfl) T.all R.BAll (aA (aW [] [] (aD7 ?_)))
   refine ge_v 0 rfl ?_
   refine ⟨_,rfl,?_⟩
   refine bP (ds:=strD z) (by rw [kB]; exact R.aS (by omega)) (fun i acc M'=>M'=M∧acc=((z.cps.toList.take i).map fun c=>c == 35 || c == 46).map D.bl) ⟨rfl,rfl⟩ ?_ ?_
   ·rintro i d acc M' hd ⟨rfl,rfl⟩ cs C s₀ H₀ fp
    obtain ⟨c,hc,rfl⟩:=b7 hd
    refine a6 (iteT fun cs C s₀ H₀ fp => ?_)
    refine gL wX ?_
    refine ge_v 0 rfl ?_
    refine bW ?_
    refine zZ ?_
    rw [R.zI]
    refine ⟨rfl,?_⟩
    rw [bH hc,List.map_append]
    rfl
   rintro acc M' ⟨rfl,rfl⟩
   rw [kB,show z.length=z.cps.toList.length from (Array.length_toList ..).symm,List.take_length]
   refine aB (iR (.lst _) ?_)
   rw [sD]
   rw [show rowB w (.str z)=z.cps.toList.all (fun c=>c == 35 || c == 46) from by show (decide (z.length=w) && _)=_; rw [decide_eq_true h2]; rfl] at hk
   exact hk
  ·rw [decide_eq_false (by omega)]
   rw [show rowB w (.str z)=false from by show (decide (z.length=w) && _)=_; rw [decide_eq_false h2]; rfl] at hk
   refine iteT (aK (aQ ?_))
   refine mF ?_
   exact hk
 ·rw [aFF e1] at hk
  refine aD (bO (gt_w (gA ?_)))
  refine c8 ?_
  refine cL ?_
  refine i8 (.inr (.inr (.inl rfl))) T.isi T.str R.BS ?_
  refine ge_v 0 rfl ?_
  refine ⟨_, .self (aAN ht),?_⟩
  refine ⟨_,rfl,?_⟩
  rw [e0]
  refine iteT (iteT (aK (aQ ?_)))
  refine mF ?_
  exact hk
theorem eV:FnScope ["rows", "xs", "ys", "wide", "high"] ["rows", "xs", "ys"] (aO gU):=⟨rfl,rfl,rfl,by decide +kernel,rfl,by decide +kernel,by decide +kernel⟩
theorem sG {f:Addr}{fd:FuncData}{aH6:Addr}{aH7:FuncData} (Df:R.Df K mg "rows_fit" gU ["rows", "xs", "ys"] f fd)
  (aH8:R.Df K mg "is_row" kD ["thing", "wide"] aH6 aH7) (aH9:FnOk P w K mg base CX0 1 aH6 aH7 ["thing", "wide"] (spZ K wH)) (T:Bt mg):FnOk P w K mg base CX0 2 f fd ["rows", "xs", "ys"] (spZ K aBG):=by
 refine a8 Df eV (fun ds M k h => ?_) (fun cdv A outer s H E hr ds M k h => ?_)
 ·obtain ⟨t,dr,dx,dy,rs,xs,ys,n,rfl,_⟩:=h; rfl
 obtain ⟨t,dr,dx,dy,rs,xs,ys,n,rfl,s1,s2,s3,ht,l1,l2,l3,hk⟩:=h
 cases t with
 | true =>
  cases s1
  cases s2
  cases s3
  refine aD (aP 3 eV.nd ?_)
  refine aM (gJ rfl) T.max R.BMax ?_
  refine aA ?_
  refine aH bK ?_
  refine aM aV T.len PySem.boot_len ?_
  refine aA ?_
  refine ge_v 1 rfl ?_
  refine aB ?_
  refine bY (.lst _) ?_
  refine aC ?_
  refine o2_0 ?_
  refine aA ?_
  refine aC ?_
  refine aB ?_
  refine lE ?_
  rw [maxz0]
  refine aD (aP 4 eV.nd ?_)
  refine aM (gJ rfl) T.max R.BMax ?_
  refine aA ?_
  refine aH bK ?_
  refine aM aV T.len PySem.boot_len ?_
  refine aA ?_
  refine ge_v 2 rfl ?_
  refine aB ?_
  refine bY (.lst _) ?_
  refine aC ?_
  refine o2_0 ?_
  refine aA ?_
  refine aC ?_
  refine aB ?_
  refine lE ?_
  rw [maxz0]
  refine aK (aQ (oN ?_))
  refine gL f9 ?_
  refine aM aV T.len PySem.boot_len ?_
  refine aA ?_
  refine ge_v 0 rfl ?_
  refine aB ?_
  refine bY (.lst _) ?_
  refine ge_v 4 rfl ?_
  refine iT ?_
  refine ⟨_,rfl,?_⟩
  by_cases h1:rs.length=ys.length - 1
  ·refine oJ (decide_eq_true (by omega)) (lN ?_)
   refine aM (f8 rfl) T.all R.BAll (aA (aW ["wide"] [3] (bC ?_)))
   refine ge_v 0 rfl ?_
   refine ⟨_, .inr (.inl rfl),?_⟩
   refine bP (ds:=rs) (R.aS (by omega)) (fun i acc M'=>M'=M∧acc=((rs.take i).map (rowB (xs.length - 1))).map D.bl) ⟨rfl,rfl⟩ ?_ ?_
   ·rintro i d acc M' hd ⟨rfl,rfl⟩ cs C s₀ H₀ fp
    refine a6 (iteT fun cs C s₀ H₀ fp => ?_)
    refine aF aH9 (hr.mono (by decide)) aH8.m aH8.F.kp aH8.b ?_
    refine aA ?_
    refine ge_v 0 rfl ?_
    refine aA ?_
    refine ge_v 1 rfl ?_
    refine aB ?_
    refine ⟨d,n,_,rfl,ht d (List.mem_of_getElem? hd),?_⟩
    refine ⟨rfl,?_⟩
    rw [bH hd,List.map_append]
    rfl
   rintro acc M' ⟨rfl,rfl⟩
   rw [List.take_length]
   refine aB (iR (.lst _) ?_)
   rw [sD]
   rw [show fitB rs xs.length ys.length=rs.all (rowB (xs.length - 1)) from by unfold fitB; rw [decide_eq_true h1]; rfl] at hk
   exact hk
  ·rw [show fitB rs xs.length ys.length=false from by unfold fitB; rw [decide_eq_false h1]; rfl] at hk
   exact mC (decide_eq_false (by omega)) hk
 | false =>
  cases s1
  cases s2
  cases s3
  refine aD (aP 3 eV.nd ?_)
  refine aM (gJ rfl) T.max R.BMax ?_
  refine aA ?_
  refine aH bK ?_
  refine aM aV T.len PySem.boot_len ?_
  refine aA ?_
  refine ge_v 1 rfl ?_
  refine aB ?_
  refine bY (.tup _) ?_
  refine aC ?_
  refine o2_0 ?_
  refine aA ?_
  refine aC ?_
  refine aB ?_
  refine lE ?_
  rw [maxz0]
  refine aD (aP 4 eV.nd ?_)
  refine aM (gJ rfl) T.max R.BMax ?_
  refine aA ?_
  refine aH bK ?_
  refine aM aV T.len PySem.boot_len ?_
  refine aA ?_
  refine ge_v 2 rfl ?_
  refine aB ?_
  refine bY (.tup _) ?_
  refine aC ?_
  refine o2_0 ?_
  refine aA ?_
  refine aC ?_
  refine aB ?_
  refine lE ?_
  rw [maxz0]
  refine aK (aQ (oN ?_))
  refine gL f9 ?_
  refine aM aV T.len PySem.boot_len ?_
  refine aA ?_
  refine ge_v 0 rfl ?_
  refine aB ?_
  refine bY (.tup _) ?_
  refine ge_v 4 rfl ?_
  refine iT ?_
  refine ⟨_,rfl,?_⟩
  by_cases h1:rs.length=ys.length - 1
  ·refine oJ (decide_eq_true (by omega)) (lN ?_)
   refine aM (f8 rfl) T.all R.BAll (aA (aW ["wide"] [3] (bC ?_)))
   refine ge_v 0 rfl ?_
   refine ⟨_, .inl rfl,?_⟩
   refine bP (ds:=rs) (R.aS (by omega)) (fun i acc M'=>M'=M∧acc=((rs.take i).map (rowB (xs.length - 1))).map D.bl) ⟨rfl,rfl⟩ ?_ ?_
   ·rintro i d acc M' hd ⟨rfl,rfl⟩ cs C s₀ H₀ fp
    refine a6 (iteT fun cs C s₀ H₀ fp => ?_)
    refine aF aH9 (hr.mono (by decide)) aH8.m aH8.F.kp aH8.b ?_
    refine aA ?_
    refine ge_v 0 rfl ?_
    refine aA ?_
    refine ge_v 1 rfl ?_
    refine aB ?_
    refine ⟨d,n,_,rfl,ht d (List.mem_of_getElem? hd),?_⟩
    refine ⟨rfl,?_⟩
    rw [bH hd,List.map_append]
    rfl
   rintro acc M' ⟨rfl,rfl⟩
   rw [List.take_length]
   refine aB (iR (.lst _) ?_)
   rw [sD]
   rw [show fitB rs xs.length ys.length=rs.all (rowB (xs.length - 1)) from by unfold fitB; rw [decide_eq_true h1]; rfl] at hk
   exact hk
  ·rw [show fitB rs xs.length ys.length=false from by unfold fitB; rw [decide_eq_false h1]; rfl] at hk
   exact mC (decide_eq_false (by omega)) hk
theorem aBT:FnScope ["xs", "ys", "rows"] ["xs", "ys", "rows"] (aO oM):=⟨rfl,rfl,rfl,by decide +kernel,rfl,by decide +kernel,by decide +kernel⟩
theorem aBY {f:Addr}{fd:FuncData}{aIA aIB aIC aID:Addr}{aIE aIF aIG aIH:FuncData} (Df:R.Df K mg "made" oM ["xs", "ys", "rows"] f fd)
  (aII:R.Df K mg "are_whole_lines" dG ["thing"] aIA aIE) (aIJ:FnOk P w K mg base CX0 3 aIA aIE ["thing"] (spZ K nH))
  (aIK:R.Df K mg "rows_fit" gU ["rows", "xs", "ys"] aIB aIF) (aIL:FnOk P w K mg base CX0 2 aIB aIF ["rows", "xs", "ys"] (spZ K aBG))
  (aIM:R.Df K mg "tidied" kO ["xs", "ys", "rows"] aIC aIG) (aIN:FnOk P w K mg base CX0 3 aIC aIG ["xs", "ys", "rows"] (spZ K q5))
  (aIO:R.Df K mg "fraction" fK ["top", "bottom"] aID aIH) (aIP:FnOk P w K mg base CX0 3 aID aIH ["top", "bottom"] (spZ K lM)) (T:Bt mg):FnOk P w K mg base CX0 5 f fd ["xs", "ys", "rows"] (spZ K aBB):=by
 refine a8 Df aBT (fun ds M k h => ?_) (fun cdv A outer s H E hr ds M k h => ?_)
 ·obtain ⟨xs,ys,zs,rfl,_⟩:=h; rfl
 obtain ⟨xs,ys,zs,rfl,ux,uy,gz,hz,hk⟩:=h
 have fx:=ux.few
 have fy:=uy.few
 have mx:(xs.map D.int).length=xs.length:=List.length_map ..
 have my:(ys.map D.int).length=ys.length:=List.length_map ..
 refine aD (bO (gt_w (gA ?_)))
 refine c8 ?_
 refine cL ?_
 refine aF aIJ (hr.mono (by decide)) aII.m aII.F.kp aII.b ?_
 refine aA ?_
 refine ge_v 0 rfl ?_
 refine aB ?_
 refine ⟨xs,rfl,ux,?_⟩
 refine ⟨_,rfl,?_⟩
 refine iteF (iY ?_)
 refine c8 ?_
 refine cL ?_
 refine aF aIJ (hr.mono (by decide)) aII.m aII.F.kp aII.b ?_
 refine aA ?_
 refine ge_v 1 rfl ?_
 refine aB ?_
 refine ⟨ys,rfl,uy,?_⟩
 refine ⟨_,rfl,?_⟩
 refine iteF (bB ?_)
 refine aD (bO (gt_w (gA ?_)))
 refine c8 ?_
 refine cL ?_
 refine i8 (.inr (.inr (.inr (.inr rfl)))) T.isi T.list R.BL ?_
 refine ge_v 2 rfl ?_
 refine ⟨_, .self trivial,?_⟩
 refine ⟨_,rfl,?_⟩
 rw [lL]
 refine iteF (iY ?_)
 refine c8 ?_
 refine cL ?_
 refine aF aIL (hr.mono (by decide)) aIK.m aIK.F.kp aIK.b ?_
 refine aA ?_
 refine ge_v 2 rfl ?_
 refine aA ?_
 refine ge_v 0 rfl ?_
 refine aA ?_
 refine ge_v 1 rfl ?_
 refine aB ?_
 refine ⟨true,_,_,_,zs.map .str,xs.map .int,ys.map .int,1,rfl,rfl,rfl,rfl,fun r hr=>(aC1 (n:=50) (fun z hz=>Nat.le_trans (Nat.le_of_eq (gz z hz).1) (show _≤1000 by omega)) (by omega)).tame1 r hr,by rw [List.length_map]; omega,by omega,by omega,?_⟩
 refine ⟨_,rfl,?_⟩
 rw [mx,my,aFW hz (fun z hz=>(gz z hz).1),zC gz]
 refine iteF (bB (aK (aQ ?_)))
 refine aF aIN (hr.mono (by decide)) aIM.m aIM.F.kp aIM.b ?_
 refine aA (aW [] [] (bC ?_))
 refine ge_v 0 rfl ?_
 refine ⟨_, .inr (.inl rfl),?_⟩
 refine bP (ds:=xs.map D.int) (by rw [List.length_map]; exact R.aS (by omega)) (fun i acc M1=>M1=M∧acc=((xs.take i).map p1).map cU) ⟨rfl,rfl⟩ ?_ ?_
 ·rintro i d acc M1 hd ⟨rfl,rfl⟩ cs C s₀ H₀ fp
  obtain ⟨x,hx,rfl⟩:=b7 hd
  refine a6 (iteT fun cs C s₀ H₀ fp => ?_)
  refine aF aIP (hr.mono (by decide)) aIO.m aIO.F.kp aIO.b ?_
  refine aA ?_
  refine ge_v 0 rfl ?_
  refine aA ?_
  refine aC ?_
  refine aB ?_
  refine ⟨x,1,rfl,by decide,Nat.one_lt_pow (by decide) (by decide),?_⟩
  rw [low1]
  refine ⟨rfl,?_⟩
  rw [bH hx,List.map_append]
  rfl
 rintro acc M ⟨rfl,rfl⟩
 rw [List.length_map,List.take_length]
 refine aA (aW [] [] (bC ?_))
 refine ge_v 1 rfl ?_
 refine ⟨_, .inr (.inl rfl),?_⟩
 refine bP (ds:=ys.map D.int) (by rw [List.length_map]; exact R.aS (by omega)) (fun i acc M1=>M1=M∧acc=((ys.take i).map p1).map cU) ⟨rfl,rfl⟩ ?_ ?_
 ·rintro i d acc M1 hd ⟨rfl,rfl⟩ cs C s₀ H₀ fp
  obtain ⟨x,hx,rfl⟩:=b7 hd
  refine a6 (iteT fun cs C s₀ H₀ fp => ?_)
  refine aF aIP (hr.mono (by decide)) aIO.m aIO.F.kp aIO.b ?_
  refine aA ?_
  refine ge_v 0 rfl ?_
  refine aA ?_
  refine aC ?_
  refine aB ?_
  refine ⟨x,1,rfl,by decide,Nat.one_lt_pow (by decide) (by decide),?_⟩
  rw [low1]
  refine ⟨rfl,?_⟩
  rw [bH hx,List.map_append]
  rfl
 rintro acc M ⟨rfl,rfl⟩
 rw [List.length_map,List.take_length]
 refine aA ?_
 refine ge_v 2 rfl ?_
 refine aB ?_
 exact ⟨true,_,_,_,eU xs,eU ys,zs,xs.length - 1,rfl,rfl,rfl,rfl,by omega,by omega,fun z hz=>(gz z hz).1,by rw [n5]; exact eQ fun z hz=>(gz z hz).1,by rw [n5]; exact eP hz,hk⟩
theorem aCW:FnScope ["one", "other"] ["one", "other"] (aO oO):=⟨rfl,rfl,rfl,by decide +kernel,rfl,by decide +kernel,by decide +kernel⟩
theorem aCF {f:Addr}{fd:FuncData}{aHB:Addr}{aHD:FuncData} (Df:R.Df K mg "over" oO ["one", "other"] f fd)
  (aHG:R.Df K mg "lowest" fD ["top", "bottom"] aHB aHD) (aHH:FnOk P w K mg base CX0 2 aHB aHD ["top", "bottom"] (spZ K jZ)):FnOk P w K mg base CX0 3 f fd ["one", "other"] (spZ K yM):=by
 refine a8 Df aCW (fun ds M k h => ?_) (fun cdv A outer s H E hr ds M k h => ?_)
 ·obtain ⟨p,q,rfl,_⟩:=h; rfl
 obtain ⟨p,q,rfl,hp,hq,h0,hk⟩:=h
 have hn:=xP h0
 unfold numD at hk
 rw [← aB2 h0] at hk
 refine aD (bO ?_)
 refine bG f9 ?_
 refine aI aG ?_
 refine ge_v 1 rfl ?_
 refine aC ?_
 refine aJ (.tup _) rfl ?_
 refine aC ?_
 refine iT ?_
 refine ⟨_,rfl,?_⟩
 refine mC (decide_eq_false hn) (bB ?_)
 refine aK (aQ (aF aHH (hr.mono (by decide)) aHG.m aHG.F.kp aHG.b ?_))
 refine aA (aH eN ?_)
 refine aI aG ?_
 refine ge_v 0 rfl ?_
 refine aC ?_
 refine aJ (.tup _) rfl ?_
 refine aI aG ?_
 refine ge_v 1 rfl ?_
 refine aC ?_
 refine aJ (.tup _) rfl ?_
 refine o2_C ⟨big400 hp.g.a,big400 hq.g.b⟩ ?_
 refine aA (aH eN ?_)
 refine aI aG ?_
 refine ge_v 0 rfl ?_
 refine aC ?_
 refine aJ (.tup _) rfl ?_
 refine aI aG ?_
 refine ge_v 1 rfl ?_
 refine aC ?_
 refine aJ (.tup _) rfl ?_
 refine o2_C ⟨big400 hp.g.b,big400 hq.g.a⟩ (aB ?_)
 exact ⟨_,_,rfl,Int.mul_ne_zero (fQ p) hn,aBS hp.g hq.g,hk⟩
theorem vQ:FnScope ["way", "pace"] ["way", "pace"] (aO jD):=⟨rfl,rfl,rfl,by decide +kernel,rfl,by decide +kernel,by decide +kernel⟩
theorem u8 {f:Addr}{fd:FuncData}{aIQ aID:Addr}{aIR aIH:FuncData} (Df:R.Df K mg "time_to" jD ["way", "pace"] f fd)
  (aIS:R.Df K mg "over" oO ["one", "other"] aIQ aIR) (aIT:FnOk P w K mg base CX0 3 aIQ aIR ["one", "other"] (spZ K yM))
  (aIO:R.Df K mg "fraction" fK ["top", "bottom"] aID aIH) (aIP:FnOk P w K mg base CX0 3 aID aIH ["top", "bottom"] (spZ K lM)):FnOk P w K mg base CX0 5 f fd ["way", "pace"] (spZ K tR):=by
 refine a8 Df vQ (fun ds M k h => ?_) (fun cdv A outer s H E hr ds M k h => ?_)
 ·obtain ⟨a,p,rfl,_⟩:=h; rfl
 obtain ⟨a,p,rfl,ha,hp,hk⟩:=h
 obtain ⟨h1,h2⟩:=hp
 have hpq:Bq (p:Rat):=⟨Nat.lt_of_le_of_lt (show p.natAbs≤9 by omega) (by decide +kernel),by show 1 < _; exact Nat.one_lt_pow (by decide) (by decide)⟩
 have np:(p:Rat)≠0:=fun e=>by have:=Rat.intCast_inj.mp (e.trans Rat.intCast_zero.symm); omega
 refine aK (aQ ?_)
 refine aF aIT (hr.mono (by decide)) aIS.m aIS.F.kp aIS.b ?_
 refine aA ?_
 refine ge_v 0 rfl ?_
 refine aA ?_
 refine aF aIP (hr.mono (by decide)) aIO.m aIO.F.kp aIO.b ?_
 refine aA ?_
 refine ge_v 1 rfl ?_
 refine aA ?_
 refine aC ?_
 refine aB ?_
 refine ⟨p,1,rfl,by decide,Nat.one_lt_pow (by decide) (by decide),?_⟩
 rw [k5 p 1 (by decide),aC7]
 refine aB ?_
 refine ⟨_,_,rfl,ha,hpq,np,?_⟩
 exact hk
theorem aAH:FnScope ["one", "other"] ["one", "other"] (aO iH):=⟨rfl,rfl,rfl,by decide +kernel,rfl,by decide +kernel,by decide +kernel⟩
theorem zB {f:Addr}{fd:FuncData} (Df:R.Df K mg "under" iH ["one", "other"] f fd):FnOk P w K mg base CX0 1 f fd ["one", "other"] (spZ K l8):=by
 refine a8 Df aAH (fun ds M k h => ?_) (fun cdv A outer s H E hr ds M k h => ?_)
 ·obtain ⟨p,q,rfl,_⟩:=h; rfl
 obtain ⟨p,q,rfl,⟨p1,p2⟩,⟨q1,q2⟩,hk⟩:=h
 refine aK (aQ (gL kF (aH eN ?_)))
 refine aI aG ?_
 refine ge_v 0 rfl ?_
 refine aC ?_
 refine aJ (.tup _) rfl ?_
 refine aI aG ?_
 refine ge_v 1 rfl ?_
 refine aC ?_
 refine aJ (.tup _) rfl ?_
 refine o2_C ⟨big400 p1,big400 q2⟩ (aH eN ?_)
 refine aI aG ?_
 refine ge_v 1 rfl ?_
 refine aC ?_
 refine aJ (.tup _) rfl ?_
 refine aI aG ?_
 refine ge_v 0 rfl ?_
 refine aC ?_
 refine aJ (.tup _) rfl ?_
 refine o2_C ⟨big400 q1,big400 p2⟩ (o2_B ?_)
 exact hk
theorem uY:FnScope ["one", "other"] ["one", "other"] (aO gH):=⟨rfl,rfl,rfl,by decide +kernel,rfl,by decide +kernel,by decide +kernel⟩
theorem vN {f:Addr}{fd:FuncData}{aIU:Addr}{aIV:FuncData} (Df:R.Df K mg "greater" gH ["one", "other"] f fd)
  (aIW:R.Df K mg "under" iH ["one", "other"] aIU aIV) (aIX:FnOk P w K mg base CX0 1 aIU aIV ["one", "other"] (spZ K l8)):FnOk P w K mg base CX0 2 f fd ["one", "other"] (spZ K nU):=by
 refine a8 Df uY (fun ds M k h => ?_) (fun cdv A outer s H E hr ds M k h => ?_)
 ·obtain ⟨a,b,rfl,_⟩:=h; rfl
 obtain ⟨a,b,rfl,ha,hb,hk⟩:=h
 refine aK (aQ (oG (cL ?_)))
 refine aF aIX (hr.mono (by decide)) aIW.m aIW.F.kp aIW.b ?_
 refine aA ?_
 refine ge_v 0 rfl ?_
 refine aA ?_
 refine ge_v 1 rfl ?_
 refine aB ?_
 refine ⟨pq a,pq b,rfl,ha.p,hb.p,?_⟩
 rw [vR]
 refine ⟨_,rfl,?_⟩
 unfold maxQ at hk
 refine ite2 (fun hc => ?_) (fun hc => ?_)
 ·rw [if_pos (of_decide_eq_true hc)] at hk
  refine ge_v 1 rfl ?_
  exact hk
 ·rw [if_neg (fun z=>hc (decide_eq_true z))] at hk
  refine ge_v 0 rfl ?_
  exact hk
theorem xW:FnScope ["one", "other"] ["one", "other"] (aO kG):=⟨rfl,rfl,rfl,by decide +kernel,rfl,by decide +kernel,by decide +kernel⟩
theorem wY {f:Addr}{fd:FuncData}{aIU:Addr}{aIV:FuncData} (Df:R.Df K mg "lesser" kG ["one", "other"] f fd)
  (aIW:R.Df K mg "under" iH ["one", "other"] aIU aIV) (aIX:FnOk P w K mg base CX0 1 aIU aIV ["one", "other"] (spZ K l8)):FnOk P w K mg base CX0 2 f fd ["one", "other"] (spZ K tH):=by
 refine a8 Df xW (fun ds M k h => ?_) (fun cdv A outer s H E hr ds M k h => ?_)
 ·obtain ⟨a,b,rfl,_⟩:=h; rfl
 obtain ⟨a,b,rfl,ha,hb,hk⟩:=h
 refine aK (aQ (oG (cL ?_)))
 refine aF aIX (hr.mono (by decide)) aIW.m aIW.F.kp aIW.b ?_
 refine aA ?_
 refine ge_v 1 rfl ?_
 refine aA ?_
 refine ge_v 0 rfl ?_
 refine aB ?_
 refine ⟨pq b,pq a,rfl,hb.p,ha.p,?_⟩
 rw [vR]
 refine ⟨_,rfl,?_⟩
 unfold minQ at hk
 refine ite2 (fun hc => ?_) (fun hc => ?_)
 ·rw [if_pos (of_decide_eq_true hc)] at hk
  refine ge_v 1 rfl ?_
  exact hk
 ·rw [if_neg (fun z=>hc (decide_eq_true z))] at hk
  refine ge_v 0 rfl ?_
  exact hk
theorem eX:FnScope ["lines", "where", "down", "up", "told", "place", "from_above", "from_below"] ["lines", "where", "down", "up"] (aO gY):=⟨rfl,rfl,rfl,by decide +kernel,rfl,by decide +kernel,by decide +kernel⟩
theorem sH {f:Addr}{fd:FuncData}{aIY aIZ aI0:Addr}{aI1 aI2 aI3:FuncData} (Df:R.Df K mg "times_to" gY ["lines", "where", "down", "up"] f fd)
  (aI4:R.Df K mg "minus" mS ["one", "other"] aIY aI1) (aI5:FnOk P w K mg base CX0 3 aIY aI1 ["one", "other"] (spZ K tZ))
  (aI6:R.Df K mg "time_to" jD ["way", "pace"] aIZ aI2) (aI7:FnOk P w K mg base CX0 5 aIZ aI2 ["way", "pace"] (spZ K tR))
  (aI8:R.Df K mg "greater" gH ["one", "other"] aI0 aI3) (aI9:FnOk P w K mg base CX0 2 aI0 aI3 ["one", "other"] (spZ K nU)) (T:Bt mg):FnOk P w K mg base CX0 6 f fd ["lines", "where", "down", "up"] (spZ K qW):=by
 refine a8 Df eX (fun ds M k h => ?_) (fun cdv A outer s H E hr ds M k h => ?_)
 ·obtain ⟨ws,x,p,q,m,B,rfl,_⟩:=h; rfl
 obtain ⟨ws,x,p,q,m,B,rfl,nm,f,fx,l1,l9,hp,hq,hk⟩:=h
 have bx:=nm.bq fx
 have bw:∀ i,Bq (ws.getD i 0):=fun i=>nm.bq (f.at i)
 have b1:∀ i,Bq (x - ws.getD i 0):=fun i=>nm.bq2 (fx.sub (f.at i))
 have b2:∀ i,Bq (ws.getD i 0 - x):=fun i=>nm.bq2 ((f.at i).sub fx)
 refine aD (aP 4 eX.nd (iJ ?_))
 refine aA ?_
 refine aF aI7 (hr.mono (by decide)) aI6.m aI6.F.kp aI6.b ?_
 refine aA ?_
 refine aF aI5 (hr.mono (by decide)) aI4.m aI4.F.kp aI4.b ?_
 refine aA ?_
 refine ge_v 1 rfl ?_
 refine aA ?_
 refine aI aG ?_
 refine ge_v 0 rfl ?_
 refine aC ?_
 refine aJ (.tup _) (kA (i:=0) (by omega)) ?_
 refine aB ?_
 refine ⟨_,_,rfl,bx,bw 0,?_⟩
 refine aA ?_
 refine ge_v 2 rfl ?_
 refine aB ?_
 refine ⟨_,_,rfl,b1 0,hp,?_⟩
 refine aB ?_
 refine ⟨(show 1≤sizeLine by decide),fun a ha => ?_⟩
 refine aD (eY (uA T.range ?_))
 refine aA ?_
 refine aC ?_
 refine aA ?_
 refine aM aV T.len PySem.boot_len ?_
 refine aA ?_
 refine ge_v 0 rfl ?_
 refine aB ?_
 refine bY (.tup _) ?_
 refine aB ?_
 rw [c9]
 refine ⟨_,_,rfl,⟨by omega,by omega,by omega,by omega⟩,?_⟩
 rw [show (((ws.length:Nat):Int) - 1).toNat=ws.length - 1 by omega]
 refine ⟨fun i Γ' M'=>M'=updM M a (.lst (cY ws x p q (i+1)))∧∃ v5 v6 v7,Γ'=[some (.tup (aZ ws)),some (numD x),some (.int p),some (.int q),some (.mt a),v5,v6,v7],⟨rfl,_,_,_,rfl⟩,?_,?_⟩
 ·rintro i d Γ' M' hd ⟨rfl,v5,v6,v7,rfl⟩
  obtain ⟨hi,rfl⟩:=cX hd
  refine bS 5 eX.nd ?_
  refine aD (aP 6 eX.nd ?_)
  refine aF aI7 (hr.mono (by decide)) aI6.m aI6.F.kp aI6.b ?_
  refine aA ?_
  refine aF aI5 (hr.mono (by decide)) aI4.m aI4.F.kp aI4.b ?_
  refine aA ?_
  refine ge_v 1 rfl ?_
  refine aA ?_
  refine aI aG ?_
  refine ge_v 0 rfl ?_
  refine ge_v 5 rfl ?_
  refine aJ (.tup _) (by rw [show (1:Int)+(i:Int)=((i+1:Nat):Int) by omega]; exact kA (by omega)) ?_
  refine aB ?_
  refine ⟨_,_,rfl,bx,bw _,?_⟩
  refine aA ?_
  refine ge_v 2 rfl ?_
  refine aB ?_
  refine ⟨_,_,rfl,b1 _,hp,?_⟩
  refine aD (aP 7 eX.nd ?_)
  refine aF aI7 (hr.mono (by decide)) aI6.m aI6.F.kp aI6.b ?_
  refine aA ?_
  refine aF aI5 (hr.mono (by decide)) aI4.m aI4.F.kp aI4.b ?_
  refine aA ?_
  refine aI aG ?_
  refine ge_v 0 rfl ?_
  refine aH bK ?_
  refine ge_v 5 rfl ?_
  refine aC ?_
  refine o2_0 ?_
  refine aJ (.tup _) (by rw [show (1:Int)+(i:Int) - 1=((i:Nat):Int) by omega]; exact kA (by omega)) ?_
  refine aA ?_
  refine ge_v 1 rfl ?_
  refine aB ?_
  refine ⟨_,_,rfl,bw _,bx,?_⟩
  refine aA ?_
  refine ge_v 3 rfl ?_
  refine aB ?_
  refine ⟨_,_,rfl,b2 _,hq,?_⟩
  refine aK (j7 ?_)
  refine g8 PySem.F.plainAttrs_list PySem.F.slot_list_append PySem.F.type_list_append fH ?_
  refine ge_v 4 rfl ?_
  refine ⟨⟨rfl,_,aT⟩,?_⟩
  refine aA ?_
  refine aF aI9 (hr.mono (by decide)) aI8.m aI8.F.kp aI8.b ?_
  refine aA ?_
  refine ge_v 6 rfl ?_
  refine aA ?_
  refine ge_v 7 rfl ?_
  refine aB ?_
  refine ⟨_,_,rfl,(nm.div (fx.sub (f.at _)) hp).bq nm,(nm.div ((f.at _).sub fx) hq).bq nm,?_⟩
  refine aB ?_
  refine gO aT (by rw [iE]; exact Nat.lt_of_le_of_lt (show _≤1000 by omega) (by decide)) ?_
  refine ⟨?_,_,_,_,rfl⟩
  rw [jB,nB ws x p q (i+1),show U.tB ws x p q (i+1)=maxQ ((x - ws.getD (i+1) 0) / (p:Rat)) ((ws.getD i 0 - x) / (q:Rat)) by unfold U.tB; rw [if_neg (by omega),if_pos (by omega)]; rfl]
 ·rintro Γ' M' ⟨rfl,v5,v6,v7,rfl⟩
  rw [bJ,show ws.length - 1+1=ws.length by omega]
  refine aD (j7 ?_)
  refine g8 PySem.F.plainAttrs_list PySem.F.slot_list_append PySem.F.type_list_append fH ?_
  refine ge_v 4 rfl ?_
  refine ⟨⟨rfl,_,aT⟩,?_⟩
  refine aA ?_
  refine aF aI7 (hr.mono (by decide)) aI6.m aI6.F.kp aI6.b ?_
  refine aA ?_
  refine aF aI5 (hr.mono (by decide)) aI4.m aI4.F.kp aI4.b ?_
  refine aA ?_
  refine aI aG ?_
  refine ge_v 0 rfl ?_
  refine gT fT ?_
  refine aC ?_
  refine ⟨_,rfl,?_⟩
  refine aJ (.tup _) (u6 l1) ?_
  refine aA ?_
  refine ge_v 1 rfl ?_
  refine aB ?_
  refine ⟨_,_,rfl,bw _,bx,?_⟩
  refine aA ?_
  refine ge_v 3 rfl ?_
  refine aB ?_
  refine ⟨_,_,rfl,b2 _,hq,?_⟩
  refine aB ?_
  refine gO aT (by rw [iE]; exact Nat.lt_of_le_of_lt (show _≤1000 by omega) (by decide)) ?_
  rw [jB]
  refine i6 4 rfl aT ?_
  rw [fW ha]
  refine aK (aQ ?_)
  refine ge_v 4 rfl ?_
  rw [nB,show U.tB ws x p q ws.length=(ws.getD (ws.length - 1) 0 - x) / (q:Rat) by unfold U.tB; rw [if_neg (by omega),if_neg (by omega)]] at hk
  exact hk
theorem nI:FnScope ["lines", "where", "below"] ["lines", "where"] (aO iF):=⟨rfl,rfl,rfl,by decide +kernel,rfl,by decide +kernel,by decide +kernel⟩
theorem sW {f:Addr}{fd:FuncData}{aIU:Addr}{aIV:FuncData} (Df:R.Df K mg "bands_at" iF ["lines", "where"] f fd)
  (aIW:R.Df K mg "under" iH ["one", "other"] aIU aIV) (aIX:FnOk P w K mg base CX0 1 aIU aIV ["one", "other"] (spZ K l8)) (T:Bt mg):FnOk P w K mg base CX0 2 f fd ["lines", "where"] (spZ K tY):=by
 refine a8 Df nI (fun ds M k h => ?_) (fun cdv A outer s H E hr ds M k h => ?_)
 ·obtain ⟨ws,v,rfl,_⟩:=h; rfl
 obtain ⟨ws,v,rfl,h9,hl,hv,hk⟩:=h
 have ml:=c9 ws
 refine aD (aP 2 nI.nd ?_)
 refine aM aV T.len PySem.boot_len (aA (aW ["where"] [1] (bC ?_)))
 refine ge_v 0 rfl ?_
 refine ⟨_, .inl rfl,?_⟩
 refine bP (ds:=aZ ws) (by rw [ml]; exact R.aS (by omega)) (fun i acc M'=>M'=M∧acc=aZ ((ws.take i).filter fun x=>decide (x < v))) ⟨rfl,rfl⟩ ?_ ?_
 ·rintro i d acc M' hd ⟨rfl,rfl⟩ cs C s₀ H₀ fp
  obtain ⟨x,hx,rfl⟩:=b7 hd
  refine pA (cL ?_)
  refine aF aIX (hr.mono (by decide)) aIW.m aIW.F.kp aIW.b ?_
  refine aA ?_
  refine ge_v 0 rfl ?_
  refine aA ?_
  refine ge_v 1 rfl ?_
  refine aB ?_
  refine ⟨pq x,pq v,rfl,(h9 x (List.mem_of_getElem? hx)).p,hv.p,?_⟩
  rw [vR]
  refine ⟨_,rfl,?_⟩
  refine ite2 (fun hb=>fun cs C s₀ H₀ fp => ?_) (fun hb => ?_)
  ·refine ge_v 0 rfl ?_
   refine ⟨rfl,?_⟩
   rw [d9 hx,List.filter_append,List.filter_cons_of_pos (p:=fun x=>decide (x < v)) hb,List.filter_nil,← kM]
   rfl
  ·refine ⟨rfl,?_⟩
   rw [d9 hx,List.filter_append,List.filter_cons_of_neg (p:=fun x=>decide (x < v)) hb,List.filter_nil,List.append_nil]
 rintro acc M' ⟨rfl,rfl⟩
 rw [ml,List.take_length]
 refine aB (bY (.lst _) ?_)
 rw [c9,show (ws.filter fun x=>decide (x < v)).length=cntQ ws v from rfl]
 have hcl:cntQ ws v≤ws.length:=List.length_filter_le _ _
 refine aD (bO (gt_w (xT ?_)))
 refine bG kF ?_
 refine ge_v 2 rfl ?_
 refine aM aV T.len PySem.boot_len ?_
 refine aA ?_
 refine ge_v 0 rfl ?_
 refine aB ?_
 refine bY (.tup _) ?_
 refine o2_B ?_
 refine ⟨_,rfl,?_⟩
 rw [ml]
 unfold aX at hk
 by_cases h1:cntQ ws v < ws.length
 rotate_left
 ·rw [if_neg (fun z=>h1 z.1)] at hk
  refine mC (decide_eq_false (by omega)) (iteF (bB (aK (aQ ?_))))
  refine bX ?_
  refine aA ?_
  refine aH bK ?_
  refine ge_v 2 rfl ?_
  refine aC ?_
  refine o2_0 ?_
  refine aB ?_
  refine ⟨(show 1≤sizeLine by decide),?_⟩
  exact hk
 refine oJ (decide_eq_true (by omega)) (uS ?_)
 refine bG (xH (n:=1) (R.fE hr)) ?_
 refine aI aG ?_
 refine ge_v 0 rfl ?_
 refine ge_v 2 rfl ?_
 refine aJ (.tup _) (kA h1) ?_
 refine ge_v 1 rfl ?_
 refine wP (e1:=numD (ws.getD (cntQ ws v) 0)) (e2:=numD v) (.tup _) (.tup _) rfl rfl ⟨_,rfl,?_⟩
 rw [r8]
 by_cases h2:ws.getD (cntQ ws v) 0=v
 ·rw [if_pos ⟨h1,h2⟩] at hk
  refine oJ (decide_eq_true h2) (aK (aQ ?_))
  refine bX ?_
  refine aA ?_
  refine aH bK ?_
  refine ge_v 2 rfl ?_
  refine aC ?_
  refine o2_0 ?_
  refine aA ?_
  refine ge_v 2 rfl ?_
  refine aB ?_
  refine ⟨(show 2≤sizeLine by decide),?_⟩
  exact hk
 ·rw [if_neg (fun z=>h2 z.2)] at hk
  refine mC (decide_eq_false h2) (bB (aK (aQ ?_)))
  refine bX ?_
  refine aA ?_
  refine aH bK ?_
  refine ge_v 2 rfl ?_
  refine aC ?_
  refine o2_0 ?_
  refine aB ?_
  refine ⟨(show 1≤sizeLine by decide),?_⟩
  exact hk
theorem nD:FnScope ["yard", "across", "up", "rows"] ["yard", "across", "up"] (aO fN):=⟨rfl,rfl,rfl,by decide +kernel,rfl,by decide +kernel,by decide +kernel⟩
theorem sN {f:Addr}{fd:FuncData} (Df:R.Df K mg "has_cell" fN ["yard", "across", "up"] f fd) (T:Bt mg):FnOk P w K mg base CX0 1 f fd ["yard", "across", "up"] (spZ K cHas):=by
 refine a8 Df nD (fun ds M k h => ?_) (fun cdv A outer s H E hr ds M k h => ?_)
 ·obtain ⟨x,y,zs,a,u,rfl,_⟩:=h; rfl
 obtain ⟨x,y,zs,a,u,rfl,hz,hk⟩:=h
 have kf:R.aR zs a u=false→k (.bl false) M:=fun e=>by rw [e] at hk; exact hk
 refine aD (aP 3 nD.nd ?_)
 refine aI aG ?_
 refine ge_v 0 rfl ?_
 refine aC ?_
 refine aJ (.tup _) rfl ?_
 refine aD (bO ?_)
 refine gt_w ?_
 refine gA ?_
 refine bG kF ?_
 refine ge_v 2 rfl ?_
 refine aC ?_
 refine o2_B ?_
 refine ⟨_,rfl,?_⟩
 refine ite2 (fun h1=>iteT (aK (aQ (mF (kf (R.cT (of_decide_eq_true h1))))))) (fun h1 => ?_)
 refine gA ?_
 refine bG vM ?_
 refine ge_v 2 rfl ?_
 refine aM aV T.len PySem.boot_len ?_
 refine aA ?_
 refine ge_v 3 rfl ?_
 refine aB ?_
 refine bY (.tup _) ?_
 refine o2_B ?_
 refine ⟨_,rfl,?_⟩
 refine ite2 (fun h2=>iteT (aK (aQ (mF (kf (R.dD (by have:=of_decide_eq_true h2; rw [List.length_map] at this; exact this))))))) (fun h2 => ?_)
 refine gA ?_
 refine bG kF ?_
 refine ge_v 1 rfl ?_
 refine aC ?_
 refine o2_B ?_
 refine ⟨_,rfl,?_⟩
 refine ite2 (fun h3=>iteT (aK (aQ (mF (kf (R.bZ (of_decide_eq_true h3))))))) (fun h3 => ?_)
 obtain ⟨hu,ha,z,ez,ei⟩:=aCX h1 h2 h3
 refine iY ?_
 refine bG vM ?_
 refine ge_v 1 rfl ?_
 refine aM aV T.len PySem.boot_len ?_
 refine aA ?_
 refine aI aG ?_
 refine ge_v 3 rfl ?_
 refine ge_v 2 rfl ?_
 refine aJ (.tup _) ei ?_
 refine aB ?_
 refine fJ (R.aS (by have:=hz z (List.mem_of_getElem? ez); omega)) ?_
 refine o2_B ?_
 refine ⟨_,rfl,?_⟩
 have hzl:=hz z (List.mem_of_getElem? ez)
 refine ite2 (fun h4=>aK (aQ (mF (kf (R.gB ez (of_decide_eq_true h4)))))) (fun h4=>bB ?_)
 obtain ⟨c,ec,ec2⟩:=aCP ha (fun q=>h4 (decide_eq_true q))
 refine aK (aQ ?_)
 refine gL f9 ?_
 refine aI aG ?_
 refine aI aG ?_
 refine ge_v 3 rfl ?_
 refine ge_v 2 rfl ?_
 refine aJ (.tup _) ei ?_
 refine ge_v 1 rfl ?_
 refine j4 (R.aS (by omega)) ec2 ?_
 refine bW ?_
 refine qY ?_
 rw [xU,← R.dN hu ha ez ec]
 exact hk
theorem mJ:FnScope ["yard", "x", "y", "cells", "up", "across"] ["yard", "x", "y"] (aO nX):=⟨rfl,rfl,rfl,by decide +kernel,rfl,by decide +kernel,by decide +kernel⟩
theorem aCK {f:Addr}{fd:FuncData}{aJA aJB:Addr}{aJC aJD:FuncData} (Df:R.Df K mg "lies" nX ["yard", "x", "y"] f fd)
  (aJE:R.Df K mg "bands_at" iF ["lines", "where"] aJA aJC) (aJF:FnOk P w K mg base CX0 2 aJA aJC ["lines", "where"] (spZ K tY))
  (aJG:R.Df K mg "has_cell" fN ["yard", "across", "up"] aJB aJD) (aJH:FnOk P w K mg base CX0 1 aJB aJD ["yard", "across", "up"] (spZ K cHas)) (T:Bt mg):FnOk P w K mg base CX0 3 f fd ["yard", "x", "y"] (spZ K wS):=by
 refine a8 Df mJ (fun ds M k h => ?_) (fun cdv A outer s H E hr ds M k h => ?_)
 ·obtain ⟨A,v,u,rfl,_⟩:=h; rfl
 obtain ⟨A,v,u,rfl,h9,g9,hl,gl,hv,hu,hk⟩:=h
 have hw:∀ z∈A.K,z.length≤1000:=fun z hz=>by have:=A.wide.1 z hz; omega
 have l1:=n6 A.ws v
 have l2:=n6 A.us u
 refine aD (aP 3 mJ.nd (iJ ?_))
 refine aB ⟨(show 0≤sizeLine by decide),fun a ha => ?_⟩
 refine aD (eY (bC ?_))
 refine aF aJF (hr.mono (by decide)) aJE.m aJE.F.kp aJE.b ?_
 refine aA ?_
 refine aI aG ?_
 refine ge_v 0 rfl ?_
 refine aC ?_
 refine aJ (.tup _) rfl ?_
 refine aA ?_
 refine ge_v 2 rfl ?_
 refine aB ?_
 refine ⟨A.us,u,rfl,g9,gl,hu,?_⟩
 refine ⟨_, .inr (.inl rfl),?_⟩
 refine ⟨fun i Γ' M'=>M'=updM M a (.lst ((dS A.K (aX A.ws v) ((aX A.us u).take i)).map .bl))∧∃ v4 v5,Γ'=[some (yd A),some (numD v),some (numD u),some (.mt a),v4,v5],⟨rfl,_,_,rfl⟩,?_,?_⟩
 ·rintro i d Γ' M' hd ⟨rfl,v4,v5,rfl⟩
  obtain ⟨up,hup,rfl⟩:=b7 hd
  have cl:=vL A.K (aX A.ws v) ((aX A.us u).take i) l1 (by rw [List.length_take]; omega)
  refine bS 4 mJ.nd ?_
  refine aK (eY (bC ?_))
  refine aF aJF (hr.mono (by decide)) aJE.m aJE.F.kp aJE.b ?_
  refine aA ?_
  refine aI aG ?_
  refine ge_v 0 rfl ?_
  refine aC ?_
  refine aJ (.tup _) rfl ?_
  refine aA ?_
  refine ge_v 1 rfl ?_
  refine aB ?_
  refine ⟨A.ws,v,rfl,h9,hl,hv,?_⟩
  refine ⟨_, .inr (.inl rfl),?_⟩
  refine ⟨fun j Γ' M'=>M'=updM M a (.lst ((dS A.K (aX A.ws v) ((aX A.us u).take i)++((aX A.ws v).take j).map fun c=>R.aR A.K c up).map .bl))∧∃ v5,Γ'=[some (yd A),some (numD v),some (numD u),some (.mt a),some (.int up),v5],⟨by simp,_,rfl⟩,?_,?_⟩
  ·rintro j d Γ' M' hd ⟨rfl,w5,rfl⟩
   obtain ⟨ac,hac,rfl⟩:=b7 hd
   refine bS 5 mJ.nd ?_
   refine aK (j7 ?_)
   refine g8 PySem.F.plainAttrs_list PySem.F.slot_list_append PySem.F.type_list_append fH ?_
   refine ge_v 3 rfl ?_
   refine ⟨⟨rfl,_,aT⟩,?_⟩
   refine aA ?_
   refine aF aJH (hr.mono (by decide)) aJG.m aJG.F.kp aJG.b ?_
   refine aA ?_
   refine ge_v 0 rfl ?_
   refine aA ?_
   refine ge_v 5 rfl ?_
   refine aA ?_
   refine ge_v 4 rfl ?_
   refine aB ?_
   refine ⟨_,_,A.K,_,_,rfl,hw,?_⟩
   refine aB ?_
   refine gO aT (by rw [List.length_map,List.length_append,List.length_map,List.length_take]; exact Nat.lt_of_le_of_lt (show _≤60000 by omega) (by decide)) ?_
   refine ⟨?_,_,rfl⟩
   rw [jB,bH hac,← List.append_assoc,List.map_append (l₁:=_++_)]
   rfl
  ·rintro Γ' M' ⟨rfl,w5,rfl⟩
   rw [List.length_map,List.take_length]
   refine ⟨?_,_,_,rfl⟩
   rw [d9 hup]
   unfold dS
   rw [List.flatMap_append,List.flatMap_singleton]
 ·rintro Γ' M' ⟨rfl,v4,v5,rfl⟩
  rw [List.length_map,List.take_length]
  refine i6 3 rfl aT ?_
  rw [fW ha]
  unfold lieS at hk
  refine aD (bO ?_)
  refine cL ?_
  refine aM (f8 rfl) T.all R.BAll ?_
  refine aA ?_
  refine ge_v 3 rfl ?_
  refine aB ?_
  refine iR (.lst _) ?_
  refine ⟨_,rfl,?_⟩
  rcases tf ((dS A.K (aX A.ws v) (aX A.us u)).all id) with e1 | e1
  ·rw [e1] at hk ⊢
   rw [if_neg Bool.false_ne_true] at hk
   refine iteF (bB ?_)
   refine aD (bO ?_)
   refine cL ?_
   refine aM (aAF rfl) T.any R.BAny ?_
   refine aA ?_
   refine ge_v 3 rfl ?_
   refine aB ?_
   refine iR (.lst _) ?_
   refine ⟨_,rfl,?_⟩
   rcases tf ((dS A.K (aX A.ws v) (aX A.us u)).any id) with e2 | e2
   ·rw [e2] at hk ⊢
    rw [if_neg Bool.false_ne_true] at hk
    refine iteF (bB (aK (aQ ?_)))
    refine bW ?_
    exact hk
   ·rw [e2] at hk ⊢
    rw [if_pos rfl] at hk
    refine iteT (aK (aQ ?_))
    refine bW ?_
    exact hk
  ·rw [e1] at hk ⊢
   rw [if_pos rfl] at hk
   refine iteT (aK (aQ ?_))
   refine bW ?_
   exact hk
theorem c5:FnScope ["yard", "paces", "x", "y", "across_times", "up_times", "told", "up", "up_time", "across", "across_time"] ["yard", "paces", "x", "y"] (aO i5):=⟨rfl,rfl,rfl,by decide +kernel,rfl,by decide +kernel,by decide +kernel⟩
theorem yQ {f:Addr}{fd:FuncData}{aJI aJJ aJB aJK aI0:Addr}{aJL aJM aJD aJN aI3:FuncData} (Df:R.Df K mg "height" i5 ["yard", "paces", "x", "y"] f fd)
  (aJO:R.Df K mg "lies" nX ["yard", "x", "y"] aJI aJL) (aJP:FnOk P w K mg base CX0 3 aJI aJL ["yard", "x", "y"] (spZ K wS))
  (aJQ:R.Df K mg "times_to" gY ["lines", "where", "down", "up"] aJJ aJM) (aJR:FnOk P w K mg base CX0 6 aJJ aJM ["lines", "where", "down", "up"] (spZ K qW))
  (aJG:R.Df K mg "has_cell" fN ["yard", "across", "up"] aJB aJD) (aJH:FnOk P w K mg base CX0 1 aJB aJD ["yard", "across", "up"] (spZ K cHas))
  (aJS:R.Df K mg "lesser" kG ["one", "other"] aJK aJN) (aJT:FnOk P w K mg base CX0 2 aJK aJN ["one", "other"] (spZ K tH))
  (aI8:R.Df K mg "greater" gH ["one", "other"] aI0 aI3) (aI9:FnOk P w K mg base CX0 2 aI0 aI3 ["one", "other"] (spZ K nU)) (T:Bt mg) {aN:Addr} (CN:mg "NOUGHT" = some (.ref aN)) (EN:∀ G,Den K G (cU (p1 0)) (.ref aN)):FnOk P w K mg base CX0 7 f fd ["yard", "paces", "x", "y"] (spZ K nS):=by
 refine a8 Df c5 (fun ds M k h => ?_) (fun cdv A outer s H E hr ds M k h => ?_)
 ·obtain ⟨A,e,n,w,s,x,y,m,B,rfl,_⟩:=h; rfl
 obtain ⟨A,e,n,w,s,x,y,m,B,rfl,nm,f,g,fx,fy,lx,ly,o,hk⟩:=h
 refine aD (bO ?_)
 refine bG mX ?_
 refine aF aJP (hr.mono (by decide)) aJO.m aJO.F.kp aJO.b ?_
 refine aA ?_
 refine ge_v 0 rfl ?_
 refine aA ?_
 refine ge_v 2 rfl ?_
 refine aA ?_
 refine ge_v 3 rfl ?_
 refine aB ?_
 refine ⟨A,x,y,rfl,fun w hw=>nm.bq (f w hw),fun w hw=>nm.bq (g w hw),by omega,by omega,nm.bq fx,nm.bq fy,?_⟩
 refine bW ?_
 refine nY ?_
 refine ⟨_,rfl,?_⟩
 rw [aEC]
 unfold eO at hk
 cases hin:dZ A x y with
 | false =>
  rw [hin,if_neg Bool.false_ne_true] at hk
  refine iteT (aK (aQ (aB8 CN EN ?_)))
  exact hk
 | true =>
  rw [hin,if_pos rfl] at hk
  refine iteF (bB ?_)
  obtain ⟨b1,b2⟩:=qR hin
  have hzl:∀ z∈A.K,z.length≤1000:=fun z hz=>by have:=A.wide.1 z hz; omega
  have dx:=fun a=>n8 nm f fx o.p o.r a
  have dy:=fun b=>n8 nm g fy o.q o.s b
  refine aD (aP 4 c5.nd ?_)
  refine aF aJR (hr.mono (by decide)) aJQ.m aJQ.F.kp aJQ.b ?_
  refine aA ?_
  refine aI aG ?_
  refine ge_v 0 rfl ?_
  refine aC ?_
  refine aJ (.tup _) rfl ?_
  refine aA ?_
  refine ge_v 2 rfl ?_
  refine aA ?_
  refine aI aG ?_
  refine ge_v 1 rfl ?_
  refine aC ?_
  refine aJ (.tup _) rfl ?_
  refine aA ?_
  refine aI aG ?_
  refine ge_v 1 rfl ?_
  refine aC ?_
  refine aJ (.tup _) rfl ?_
  refine aB ?_
  refine ⟨A.ws,x,e,w,m,B,rfl,nm,f,fx,by omega,by omega,o.p,o.r,?_⟩
  refine aD (aP 5 c5.nd ?_)
  refine aF aJR (hr.mono (by decide)) aJQ.m aJQ.F.kp aJQ.b ?_
  refine aA ?_
  refine aI aG ?_
  refine ge_v 0 rfl ?_
  refine aC ?_
  refine aJ (.tup _) rfl ?_
  refine aA ?_
  refine ge_v 3 rfl ?_
  refine aA ?_
  refine aI aG ?_
  refine ge_v 1 rfl ?_
  refine aC ?_
  refine aJ (.tup _) rfl ?_
  refine aA ?_
  refine aI aG ?_
  refine ge_v 1 rfl ?_
  refine aC ?_
  refine aJ (.tup _) rfl ?_
  refine aB ?_
  refine ⟨A.us,y,n,s,m,B,rfl,nm,g,fy,by omega,by omega,o.q,o.s,?_⟩
  refine aD (aP 6 c5.nd ?_)
  refine aI aG ?_
  refine ge_v 4 rfl ?_
  refine aC ?_
  refine aJ (.lst _) (zE _ _ _ _ _) ?_
  refine aD (eY (rQ T.enumerate BEnum ?_))
  refine aA ?_
  refine ge_v 5 rfl ?_
  refine aB ?_
  refine ⟨_,rfl,?_⟩
  refine ⟨fun j Γ' M'=>M'=M∧∃ v7 v8 v9 v10,Γ'=[some (yd A),some (kL e n w s),some (numD x),some (numD y),some (.lst (cY A.ws x e w (A.ws.length+1))),some (.lst (cY A.us y n s (A.us.length+1))),some (numD (hAll (U.tB A.ws x e w) (U.tB A.us y n s) (fun a b => !R.aR A.K ((a:Int) - 1) ((b:Int) - 1)) (A.ws.length+1) j (U.tB A.ws x e w 0))),v7,v8,v9,v10],⟨rfl,_,_,_,_,rfl⟩,?_,?_⟩
  ·rintro j d Γ' M' hd ⟨rfl,v7,v8,v9,v10,rfl⟩
   obtain ⟨ty,hty,rfl⟩:=p8 hd
   obtain ⟨hj,rfl⟩:=nZ hty
   refine rG rfl (cZ (bS 7 c5.nd (cZ (bS 8 c5.nd (lZ ?_)))))
   refine aK (eY (rQ T.enumerate BEnum ?_))
   refine aA ?_
   refine ge_v 4 rfl ?_
   refine aB ?_
   refine ⟨_,rfl,?_⟩
   refine ⟨fun i Γ' M1=>M1=M'∧∃ v9 v10,Γ'=[some (yd A),some (kL e n w s),some (numD x),some (numD y),some (.lst (cY A.ws x e w (A.ws.length+1))),some (.lst (cY A.us y n s (A.us.length+1))),some (numD (hRow (U.tB A.ws x e w) (U.tB A.us y n s j) (fun a => !R.aR A.K ((a:Int) - 1) ((j:Int) - 1)) i (hAll (U.tB A.ws x e w) (U.tB A.us y n s) (fun a b => !R.aR A.K ((a:Int) - 1) ((b:Int) - 1)) (A.ws.length+1) j (U.tB A.ws x e w 0)))),some (.int (j:Int)),some (numD (U.tB A.us y n s j)),v9,v10],⟨rfl,_,_,rfl⟩,?_,?_⟩
   ·rintro i d Γ' M1 hd ⟨rfl,v9,v10,rfl⟩
    obtain ⟨tx,htx,rfl⟩:=p8 hd
    obtain ⟨hi,rfl⟩:=nZ htx
    refine rG rfl (cZ (bS 9 c5.nd (cZ (bS 10 c5.nd (lZ ?_)))))
    refine aK (bO ?_)
    refine c8 ?_
    refine cL ?_
    refine aF aJH (hr.mono (by decide)) aJG.m aJG.F.kp aJG.b ?_
    refine aA ?_
    refine ge_v 0 rfl ?_
    refine aA ?_
    refine aH bK ?_
    refine ge_v 9 rfl ?_
    refine aC ?_
    refine o2_0 ?_
    refine aA ?_
    refine aH bK ?_
    refine ge_v 7 rfl ?_
    refine aC ?_
    refine o2_0 ?_
    refine aB ?_
    refine ⟨_,_,A.K,_,_,rfl,hzl,?_⟩
    refine ⟨_,rfl,?_⟩
    cases hc:R.aR A.K ((i:Int) - 1) ((j:Int) - 1) with
    | true =>
     refine iteF (bB ?_)
     dsimp only
     rw [show hRow (U.tB A.ws x e w) (U.tB A.us y n s j) (fun a => !R.aR A.K ((a:Int) - 1) ((j:Int) - 1)) (i+1) (hAll (U.tB A.ws x e w) (U.tB A.us y n s) (fun a b => !R.aR A.K ((a:Int) - 1) ((b:Int) - 1)) (A.ws.length+1) j (U.tB A.ws x e w 0))=_ from if_neg (by simp [hc])]
     exact ⟨rfl,_,_,rfl⟩
    | false =>
     refine iteT (aK (aP 6 c5.nd ?_))
     refine aF aJT (hr.mono (by decide)) aJS.m aJS.F.kp aJS.b ?_
     refine aA ?_
     refine ge_v 6 rfl ?_
     refine aA ?_
     refine aF aI9 (hr.mono (by decide)) aI8.m aI8.F.kp aI8.b ?_
     refine aA ?_
     refine ge_v 10 rfl ?_
     refine aA ?_
     refine ge_v 8 rfl ?_
     refine aB ?_
     refine ⟨_,_,rfl,(dx i).bq nm,(dy j).bq nm,?_⟩
     refine aB ?_
     refine ⟨_,_,rfl,(mB dx (dy j) (o5 dx dy (dx 0) j) i).bq nm,(rR (dx i) (dy j)).bq nm,?_⟩
     dsimp only
     rw [show hRow (U.tB A.ws x e w) (U.tB A.us y n s j) (fun a => !R.aR A.K ((a:Int) - 1) ((j:Int) - 1)) (i+1) (hAll (U.tB A.ws x e w) (U.tB A.us y n s) (fun a b => !R.aR A.K ((a:Int) - 1) ((b:Int) - 1)) (A.ws.length+1) j (U.tB A.ws x e w 0))=_ from if_pos (by simp [hc])]
     exact ⟨rfl,_,_,rfl⟩
   ·rintro Γ' M1 ⟨rfl,v9,v10,rfl⟩
    rw [pZ,iE]
    exact ⟨rfl,_,_,_,_,rfl⟩
  ·rintro Γ' M' ⟨rfl,v7,v8,v9,v10,rfl⟩
   rw [pZ,iE]
   refine aK (aQ ?_)
   refine ge_v 6 rfl ?_
   exact hk
theorem dE:FnScope ["_law_pen_here", "_law_xs", "_law_ys", "_law_signs_here", "_law_paces_here", "_law_parts", "_law_yard", "_law_kept", "_law_points", "_law_point_here", "_law_x", "_law_y", "_law_high_here", "_law_due"] ["_law_pen_here", "_law_xs", "_law_ys", "_law_signs_here", "_law_paces_here"] (aO lY):=⟨rfl,rfl,rfl,by decide +kernel,rfl,by decide +kernel,by decide +kernel⟩
theorem aA1 {f:Addr}{fd:FuncData}{aGY aJU aJV aJW aGU aJX aJY aJZ:Addr}{aGZ aJ0 aJ1 aJ2 aGV aJ3 aJ4 aJ5:FuncData} (Df:R.Df K mg "_law_right" lY ["_law_pen_here", "_law_xs", "_law_ys", "_law_signs_here", "_law_paces_here"] f fd)
  (aG0:R.Df K mg "_law_draw" eZ ["_law_pen_here", "_law_many"] aGY aGZ) (aG1:FnOk P w K mg base CX0 1 aGY aGZ ["_law_pen_here", "_law_many"] (spZ K jL))
  (aJ6:R.Df K mg "stretched" gE ["yard", "by_x", "by_y"] aJU aJ0) (aJ7:FnOk P w K mg base CX0 5 aJU aJ0 ["yard", "by_x", "by_y"] (spZ K nC))
  (aJ8:R.Df K mg "made" oM ["xs", "ys", "rows"] aJV aJ1) (aJ9:FnOk P w K mg base CX0 5 aJV aJ1 ["xs", "ys", "rows"] (spZ K aBB))
  (aKA:R.Df K mg "_law_point" mD ["_law_pen_here", "_law_xs", "_law_ys"] aJW aJ2) (aKB:FnOk P w K mg base CX0 3 aJW aJ2 ["_law_pen_here", "_law_xs", "_law_ys"] (spZ K yH))
  (aGW:R.Df K mg "_law_number" iX ["_law_upper", "_law_bottom"] aGU aGV) (aGX:FnOk P w K mg base CX0 1 aGU aGV ["_law_upper", "_law_bottom"] (spZ K vK))
  (aKC:R.Df K mg "_law_high" oQ ["_law_outside_here", "_law_paces_here", "_law_point_here"] aJX aJ3) (aKD:FnOk P w K mg base CX0 3 aJX aJ3 ["_law_outside_here", "_law_paces_here", "_law_point_here"] (spZ K aA8))
  (aKE:R.Df K mg "_law_outside" jM ["_law_xs", "_law_ys", "_law_signs_here", "_law_bottom"] aJY aJ4) (aKF:FnOk P w K mg base CX0 2 aJY aJ4 ["_law_xs", "_law_ys", "_law_signs_here", "_law_bottom"] (spZ K qT))
  (aKG:R.Df K mg "height" i5 ["yard", "paces", "x", "y"] aJZ aJ5) (aKH:FnOk P w K mg base CX0 7 aJZ aJ5 ["yard", "paces", "x", "y"] (spZ K nS)) (T:Bt mg):FnOk P w K mg base CX0 9 f fd ["_law_pen_here", "_law_xs", "_law_ys", "_law_signs_here", "_law_paces_here"] (spZ K rN):=by
 refine a8 Df dE (fun ds M k h => ?_) (fun cdv A outer s H E hr ds M k h => ?_)
 ·obtain ⟨p,b,xs,ys,zs,e,n,w,s,rfl,_⟩:=h; rfl
 obtain ⟨p,b,xs,ys,zs,e,n,w,s,rfl,hF0,hb,ux,uy,lx,ly,gz,hz,o,hk⟩:=h
 have z4:=pp_z o
 have dw:=yZ ux.up uy.up gz hz
 have k0:=zL ux uy gz hz (Mk.of tm0)
 have hi:=fun {b x y:Int} (hb:0 < b) (bx:x.natAbs≤10 ^ 50) (by_:y.natAbs≤10 ^ 50) {cs:List C4} (hc:∀ c,c∈cs↔OutC xs ys zs b c) {m:Int} (m1:m∈cs.map (wayF x y (hol e n w s / e) (hol e n w s / n) (hol e n w s / w) (hol e n w s / s))) (m2:∀ a∈cs.map (wayF x y (hol e n w s / e) (hol e n w s / n) (hol e n w s / w) (hol e n w s / s)),m≤a)=>aCZ ux.up uy.up gz hz (by omega) (by omega) (four22 o) hb bx by_ hc m1 m2
 refine aD (aP 5 dE.nd ?_)
 refine aI aG ?_
 refine bX ?_
 refine aA ?_
 refine aC ?_
 refine aA ?_
 refine aC ?_
 refine aA ?_
 refine aC ?_
 refine aA ?_
 refine aC ?_
 refine aA ?_
 refine aH bQ ?_
 refine aH gI ?_
 refine aC ?_
 refine aC ?_
 refine o2_C ⟨by decide,by decide,by decide⟩ ?_
 refine aC ?_
 refine o2_0 ?_
 refine aB ?_
 refine ⟨(show 5≤sizeLine by decide),?_⟩
 refine aF aG1 (hr.mono (by decide)) aG0.m aG0.F.kp aG0.b ?_
 refine aA ?_
 refine ge_v 0 rfl ?_
 refine aA ?_
 refine aC ?_
 refine aB ?_
 refine ⟨p,_,_,rfl,by decide,by decide,hF0,by omega,fun z1 M1 z10 z11 hF1 hB1 hE1 => ?_⟩
 obtain ⟨m,hm,m1,m2⟩:=u4 z10 z11
 refine aJ (.lst _) hm ?_
 refine aD (aP 6 dE.nd ?_)
 refine aF aJ7 (hr.mono (by decide)) aJ6.m aJ6.F.kp aJ6.b ?_
 refine aA ?_
 refine aF aJ9 (hr.mono (by decide)) aJ8.m aJ8.F.kp aJ8.b ?_
 refine aA ?_
 refine b4 eA T.list R.BL ?_
 refine aA ?_
 refine ge_v 1 rfl ?_
 refine aB ?_
 refine jV (.lst _) ?_
 refine aA ?_
 refine b4 eA T.list R.BL ?_
 refine aA ?_
 refine ge_v 2 rfl ?_
 refine aB ?_
 refine jV (.lst _) ?_
 refine aA ?_
 refine b4 eA T.list R.BL ?_
 refine aA ?_
 refine ge_v 3 rfl ?_
 refine aB ?_
 refine jV (.lst _) ?_
 refine aB ?_
 refine ⟨xs,ys,zs,rfl,ux,uy,gz,hz,?_⟩
 rw [zS ux.up uy.up gz hz]
 refine aA ?_
 refine b5 ?_
 refine aA ?_
 refine aC ?_
 refine aA ?_
 refine ge_v 5 rfl ?_
 refine aB ?_
 refine ⟨(show 2≤sizeLine by decide),?_⟩
 refine aA ?_
 refine b5 ?_
 refine aA ?_
 refine aC ?_
 refine aA ?_
 refine ge_v 5 rfl ?_
 refine aB ?_
 refine ⟨(show 2≤sizeLine by decide),?_⟩
 refine aB ?_
 refine ⟨(dA xs ys zs ux.up uy.up gz hz),Rat.divInt 1 m,Rat.divInt 1 m,bD m1,bD m1,by rw [aGG m1],fun w hw=>(Mk.of tm0).bq (k0.x w hw) (by decide +kernel),fun w hw=>(Mk.of tm0).bq (k0.y w hw) (by decide +kernel),yP m1 m2,yP m1 m2,by have:=k0.lx; omega,by have:=k0.ly; omega,?_⟩
 generalize dA xs ys zs ux.up uy.up gz hz=A at *
 have lA:=k0.lx
 have lB:=k0.ly
 obtain ⟨ks,km⟩:=shown22 dw.1 dw.2 ux uy lA lB m1 m2
 have rs:=ks.repr km (by unfold far; decide +kernel) (by decide)
 have sxl:(A.scale (Rat.divInt 1 m) (Rat.divInt 1 m) (bD m1) (bD m1)).ws.length=A.ws.length:=List.length_map ..
 have syl:(A.scale (Rat.divInt 1 m) (Rat.divInt 1 m) (bD m1) (bD m1)).us.length=A.us.length:=List.length_map ..
 refine aD (aP 7 dE.nd ?_)
 refine aM (jQ (n:=3) (R.fE hr) hr.gd) T.repr BRepr ?_
 refine aA ?_
 refine ge_v 6 rfl ?_
 refine aB ?_
 refine kC (e:=yd (A.scale (Rat.divInt 1 m) (Rat.divInt 1 m) (bD m1) (bD m1))) (.tup _) (aBM _) rs.1 rs.2 ?_
 refine aD (aP 8 dE.nd (aH d6 ?_))
 refine bX ?_
 refine aA ?_
 refine b5 ?_
 refine aA ?_
 refine aI aG ?_
 refine ge_v 1 rfl ?_
 refine aC ?_
 refine aJ (.lst _) (tN (k:=0) (by omega)) ?_
 refine aA ?_
 refine aI aG ?_
 refine ge_v 2 rfl ?_
 refine aC ?_
 refine aJ (.lst _) (tN (k:=0) (by omega)) ?_
 refine aA ?_
 refine aC ?_
 refine aB ?_
 refine ⟨(show 3≤sizeLine by decide),?_⟩
 refine aB ?_
 refine ⟨(show 1≤sizeLine by decide),?_⟩
 refine aW ["_law_pen_here", "_law_xs", "_law_ys"] [0,1,2] (fR T.range ?_)
 refine aA ?_
 refine aC ?_
 refine aB ?_
 refine ⟨_,rfl,by decide,by decide,?_⟩
 refine bP (by rw [bJ]; exact R.aS (by decide)) (fun i acc M'=>∃ pts:List (Int × Int × Int),acc=pts.map ptD∧pts.length=i∧(∀ q∈pts,Pt q)∧PnM M' p (b+1+40 * i)∧ButM p M M') ⟨[],rfl,rfl,fun q hq=>(nomatch hq),hF1.mono (by omega),hB1⟩ ?_ ?_
 ·rintro i d acc M' hd ⟨pts,rfl,lp,hpts,hF,hB⟩ cs C s₀ H₀ fp
  obtain ⟨hi11,rfl⟩:=cX hd
  have hi11':i < 11:=hi11
  refine a6 (iteT fun cs C s₀ H₀ fp => ?_)
  refine aF aKB (hr.mono (by decide)) aKA.m aKA.F.kp aKA.b ?_
  refine aA ?_
  refine ge_v 1 rfl ?_
  refine aA ?_
  refine ge_v 2 rfl ?_
  refine aA ?_
  refine ge_v 3 rfl ?_
  refine aB ?_
  refine ⟨p,_,xs,ys,rfl,hF,by omega,ux,lx,uy,ly,fun u v c M1 hu hv c1 c2 hF1 hB1 => ?_⟩
  refine ⟨pts++[(u,v,c)],by rw [List.map_append]; rfl,by rw [List.length_append,lp]; rfl,fun q hq => ?_,hF1.mono (by omega),hB.trans hB1⟩
  rcases List.mem_append.mp hq with hq | hq
  ·exact hpts q hq
  ·rw [List.mem_singleton] at hq; rw [hq]; exact ⟨hu,hv,c1,c2⟩
 rintro acc M2 ⟨pts0,rfl,lp0,hpts0,hF2,hB2⟩
 rw [bJ] at lp0 hF2
 refine d7 (.lst _) (.lst _) (by rw [List.length_map,lp0]; exact R.aS (show 1+11≤1000000 by decide)) ?_
 have x0:=ux.bd _ (p4 (k:=0) (show 0 < xs.length by omega))
 have y0:=uy.bd _ (p4 (k:=0) (show 0 < ys.length by omega))
 obtain ⟨pts,ept,hpts,lpts⟩:∃ pts:List (Int × Int × Int),[D.tup [.int (xs.getD 0 0), .int (ys.getD 0 0), .int 1]]++pts0.map ptD=pts.map ptD∧(∀ q∈pts,Pt q)∧pts.length≤20:=by
  refine ⟨(xs.getD 0 0,ys.getD 0 0,1)::pts0,rfl,fun q hq => ?_,by rw [List.length_cons,lp0]; decide⟩
  rcases List.mem_cons.mp hq with rfl | hq
  ·exact ⟨⟨Nat.le_trans (show (xs.getD 0 0).natAbs≤1000000000 by omega) (by decide +kernel)⟩,⟨Nat.le_trans (show (ys.getD 0 0).natAbs≤1000000000 by omega) (by decide +kernel)⟩,(show (1:Int)≤1 by decide),(show (1:Int)≤bot by decide)⟩
  ·exact hpts0 q hq
 rw [show [D.tup [.int (xs.getD 0 0), .int (ys.getD 0 0), .int 1]]++pts0.map ptD=pts.map ptD from ept]
 refine aD (eY (bC ?_))
 refine ge_v 8 rfl ?_
 refine ⟨_, .inr (.inl rfl),?_⟩
 refine ⟨fun i Γ' M'=>M'=M2∧∃ v9 v10 v11 v12 v13,Γ'=[some (.mt p),some (.lst (xs.map .int)),some (.lst (ys.map .int)),some (.lst (zs.map .str)),some (kL e n w s),some (.int m),some (yd (A.scale (Rat.divInt 1 m) (Rat.divInt 1 m) (bD m1) (bD m1))),some (.str (toPy (yd (A.scale (Rat.divInt 1 m) (Rat.divInt 1 m) (bD m1) (bD m1)))).shown),some (.lst (pts.map ptD)),v9,v10,v11,v12,v13],⟨rfl,_,_,_,_,_,rfl⟩,?_,?_⟩
 rotate_left
 ·rintro Γ' M' ⟨rfl,v9,v10,v11,v12,v13,rfl⟩
  refine aK (aQ (gL f9 ?_))
  refine aM (jQ (n:=3) (R.fE hr) hr.gd) T.repr BRepr ?_
  refine aA ?_
  refine ge_v 6 rfl ?_
  refine aB ?_
  refine kC (e:=yd (A.scale (Rat.divInt 1 m) (Rat.divInt 1 m) (bD m1) (bD m1))) (.tup _) (aBM _) rs.1 rs.2 ?_
  refine ge_v 7 rfl ?_
  refine qY ?_
  rw [decide_eq_true rfl]
  exact hk _ (hF2.mono (by omega)) hB2
 rintro i d Γ' M' hd ⟨rfl,v9,v10,v11,v12,v13,rfl⟩
 obtain ⟨q,hqg,rfl⟩:=aE8 hd
 obtain ⟨⟨hu⟩,⟨hv⟩,c1,c2⟩:=hpts q (List.mem_of_getElem? hqg)
 have nm:=nm22 c1 c2 m1 m2
 have fu:=fr22 c1 m1 hu
 have fv:=fr22 c1 m1 hv
 have frx:=frl22 dw.1 ux c1 c2 m1
 have fry:=frl22 dw.2 uy c1 c2 m1
 have cm0:0 < q.2.2 * m:=Int.mul_pos (by omega) (by omega)
 have cm1:q.2.2 * m < 10 ^ 60:=by
  have:q.2.2 * m≤200000000000000000000 * 1000000007:=Int.mul_le_mul (by unfold bot at c2; exact c2) m2 (by omega) (by decide)
  exact Int.lt_of_le_of_lt this (by decide +kernel)
 have bu:q.1.natAbs≤10 ^ 50:=Nat.le_trans hu (by decide +kernel)
 have bv:q.2.1.natAbs≤10 ^ 50:=Nat.le_trans hv (by decide +kernel)
 refine bS 9 dE.nd ?_
 refine aD (aP 10 dE.nd ?_)
 refine aF aGX (hr.mono (by decide)) aGW.m aGW.F.kp aGW.b ?_
 refine aA ?_
 refine aI aG ?_
 refine ge_v 9 rfl ?_
 refine aC ?_
 refine aJ (.tup _) rfl ?_
 refine aA ?_
 refine aH bM ?_
 refine aI aG ?_
 refine ge_v 9 rfl ?_
 refine aC ?_
 refine aJ (.tup _) rfl ?_
 refine ge_v 5 rfl ?_
 refine o2_C (.inr ⟨by omega,by omega⟩) ?_
 refine aB ?_
 refine ⟨q.1,q.2.2 * m,rfl,cm0,cm1,?_⟩
 rw [i0 cm0,← vI]
 refine aD (aP 11 dE.nd ?_)
 refine aF aGX (hr.mono (by decide)) aGW.m aGW.F.kp aGW.b ?_
 refine aA ?_
 refine aI aG ?_
 refine ge_v 9 rfl ?_
 refine aC ?_
 refine aJ (.tup _) rfl ?_
 refine aA ?_
 refine aH bM ?_
 refine aI aG ?_
 refine ge_v 9 rfl ?_
 refine aC ?_
 refine aJ (.tup _) rfl ?_
 refine ge_v 5 rfl ?_
 refine o2_C (.inr ⟨by omega,by omega⟩) ?_
 refine aB ?_
 refine ⟨q.2.1,q.2.2 * m,rfl,cm0,cm1,?_⟩
 rw [i0 cm0,← vI]
 refine aD (aP 12 dE.nd ?_)
 refine aF aKD (hr.mono (by decide)) aKC.m aKC.F.kp aKC.b ?_
 refine aA ?_
 refine aF aKF (hr.mono (by decide)) aKE.m aKE.F.kp aKE.b ?_
 refine aA ?_
 refine ge_v 1 rfl ?_
 refine aA ?_
 refine ge_v 2 rfl ?_
 refine aA ?_
 refine ge_v 3 rfl ?_
 refine aA ?_
 refine aI aG ?_
 refine ge_v 9 rfl ?_
 refine aC ?_
 refine aJ (.tup _) rfl ?_
 refine aB ?_
 refine ⟨xs,ys,zs,q.2.2,rfl,ux,uy,lx,ly,gz,hz,fun cs hcs lcs => ?_⟩
 refine aA ?_
 refine ge_v 4 rfl ?_
 refine aA ?_
 refine ge_v 9 rfl ?_
 refine aB ?_
 refine ⟨cs,e,n,w,s,q.1,q.2.1,q.2.2,rfl,List.ne_nil_of_mem ((hcs _).mpr ⟨0,0,Nat.zero_le _,Nat.zero_le _,R.cT (by decide),rfl⟩),lcs,o,c1,c2,fun mm mm1 mm2 => ?_⟩
 have ih:=yC (bD m1) (hi (by omega) bu bv hcs mm1 mm2)
 generalize hHH:Rat.divInt (if mm > 0 then mm else 0) (hol e n w s * q.2.2)=HH at *
 have hd2:(HH.den:Int)≤2000000000000000000000000:=by
  have hb:=aBE o c1 c2
  have:=(xI (a:=if mm > 0 then mm else 0) hb.1).2
  rw [hHH] at this
  omega
 have hd3:0 < HH.den:=HH.den_pos
 have dm0:0 < (HH.den:Int) * m:=Int.mul_pos (by omega) (by omega)
 have dm1:(HH.den:Int) * m < 10 ^ 60:=by
  have:(HH.den:Int) * m≤2000000000000000000000000 * 1000000007:=Int.mul_le_mul hd2 m2 (by omega) (by decide)
  exact Int.lt_of_le_of_lt this (by decide +kernel)
 have hq:=(xR (A.scale (Rat.divInt 1 m) (Rat.divInt 1 m) (bD m1) (bD m1)) z4 (Rat.divInt q.1 q.2.2 * Rat.divInt 1 m) (Rat.divInt q.2.1 q.2.2 * Rat.divInt 1 m)).uniq ih
 have hdn:=wR (A:=(A.scale (Rat.divInt 1 m) (Rat.divInt 1 m) (bD m1) (bD m1))) nm frx fry fu fv o
 rw [show eO (A.scale (Rat.divInt 1 m) (Rat.divInt 1 m) (bD m1) (bD m1)) e n w s (Rat.divInt q.1 q.2.2 * Rat.divInt 1 m) (Rat.divInt q.2.1 q.2.2 * Rat.divInt 1 m)=HH * Rat.divInt 1 m from hq] at hdn
 have rn:=zM (aDV hdn nm)
 refine aD (aP 13 dE.nd ?_)
 refine aF aGX (hr.mono (by decide)) aGW.m aGW.F.kp aGW.b ?_
 refine aA ?_
 refine aI aG ?_
 refine ge_v 12 rfl ?_
 refine aC ?_
 refine aJ (.tup _) rfl ?_
 refine aA ?_
 refine aH bM ?_
 refine aI aG ?_
 refine ge_v 12 rfl ?_
 refine aC ?_
 refine aJ (.tup _) rfl ?_
 refine ge_v 5 rfl ?_
 refine o2_C (.inr ⟨by omega,by omega⟩) ?_
 refine aB ?_
 refine ⟨HH.num,(HH.den:Int) * m,rfl,dm0,dm1,?_⟩
 rw [i0 dm0,aGC]
 refine aK (bO (gt_w (gA (bG mX ?_))))
 refine aM (jQ (n:=3) (R.fE hr) hr.gd) T.repr BRepr ?_
 refine aA ?_
 refine aF aKH (hr.mono (by decide)) aKG.m aKG.F.kp aKG.b ?_
 refine aA ?_
 refine ge_v 6 rfl ?_
 refine aA ?_
 refine ge_v 4 rfl ?_
 refine aA ?_
 refine ge_v 10 rfl ?_
 refine aA ?_
 refine ge_v 11 rfl ?_
 refine aB ?_
 refine ⟨_,e,n,w,s,_,_,_,_,rfl,nm,frx,fry,fu,fv,by rw [sxl]; omega,by rw [syl]; omega,o,?_⟩
 rw [hq]
 refine aB ?_
 refine kC (e:=numD _) (.tup _) rfl rn.1 rn.2 ?_
 refine aM (jQ (n:=3) (R.fE hr) hr.gd) T.repr BRepr ?_
 refine aA ?_
 refine ge_v 13 rfl ?_
 refine aB ?_
 refine kC (e:=numD _) (.tup _) rfl rn.1 rn.2 ?_
 refine nY ⟨_,rfl,?_⟩
 rw [decide_eq_true rfl]
 refine iteF (iY (bG (aE2 (n:=1) (R.fE hr)) ?_))
 refine aF aKH (hr.mono (by decide)) aKG.m aKG.F.kp aKG.b ?_
 refine aA ?_
 refine ge_v 6 rfl ?_
 refine aA ?_
 refine ge_v 4 rfl ?_
 refine aA ?_
 refine ge_v 10 rfl ?_
 refine aA ?_
 refine ge_v 11 rfl ?_
 refine aB ?_
 refine ⟨_,e,n,w,s,_,_,_,_,rfl,nm,frx,fry,fu,fv,by rw [sxl]; omega,by rw [syl]; omega,o,?_⟩
 rw [hq]
 refine ge_v 13 rfl ?_
 refine aFV ?_
 rw [decide_eq_true rfl]
 refine ⟨_,rfl,?_⟩
 exact iteF (bB ⟨rfl,_,_,_,_,_,rfl⟩)
theorem kU:FnScope ["_law_pen_here", "_law_gap", "_law_lines_here", "_law_k"] ["_law_pen_here", "_law_gap"] (aO mQ):=⟨rfl,rfl,rfl,by decide +kernel,rfl,by decide +kernel,by decide +kernel⟩
theorem zK {f:Addr}{fd:FuncData}{aGY:Addr}{aGZ:FuncData} (Df:R.Df K mg "_law_lines" mQ ["_law_pen_here", "_law_gap"] f fd)
  (aG0:R.Df K mg "_law_draw" eZ ["_law_pen_here", "_law_many"] aGY aGZ) (aG1:FnOk P w K mg base CX0 1 aGY aGZ ["_law_pen_here", "_law_many"] (spZ K jL)) (T:Bt mg):FnOk P w K mg base CX0 2 f fd ["_law_pen_here", "_law_gap"] (spZ K tT):=by
 refine a8 Df kU (fun ds M k h => ?_) (fun cdv A outer s H E hr ds M k h => ?_)
 ·obtain ⟨p,b,gap,rfl,_⟩:=h; rfl
 obtain ⟨p,b,gap,rfl,hg1,hg2,hF0,hb,hk⟩:=h
 refine aD (aP 2 kU.nd (iJ ?_))
 refine aA ?_
 refine aH bK ?_
 refine aF aG1 (hr.mono (by decide)) aG0.m aG0.F.kp aG0.b ?_
 refine aA ?_
 refine ge_v 0 rfl ?_
 refine aA ?_
 refine aC ?_
 refine aB ?_
 refine ⟨p,_,_,rfl,by decide,by decide,hF0,by omega,fun z1 M1 z10 z11 hF1 hB1 hE1 => ?_⟩
 refine aC ?_
 refine o2_0 ?_
 refine aB ?_
 refine ⟨(show 1≤sizeLine by decide),fun a0 ha0 => ?_⟩
 have hap0:a0≠p:=hF1.ne ha0
 have haM0:M a0=none:=hB1.none_of ha0 hap0
 refine aD (k9 (fun Γ' M'=>∃ (a:Addr) (x0:Int),Γ'=[some (.mt p),some (.int gap),some (.mt a),none]∧M' a=some (.lst [.int x0])∧a≠p∧M a=none ∧ -100000000≤x0∧x0≤100000000∧PnM M' p (b+2)∧ButM p M M') ?_ ?_)
 ·refine bO ?_
  refine bG oP ?_
  refine ge_v 1 rfl ?_
  refine aC ?_
  refine o2_B ?_
  refine ⟨_,rfl,?_⟩
  refine ite2 (fun h1 => ?_) (fun h1=>bB ⟨a0,_,rfl,aT,hap0,haM0,by omega,by omega,(hF1.new hap0).mono (by omega),hB1.new haM0⟩)
  refine aK (aP 2 kU.nd (iJ ?_))
  refine aA ?_
  refine aH bK ?_
  refine aF aG1 (hr.mono (by decide)) aG0.m aG0.F.kp aG0.b ?_
  refine aA ?_
  refine ge_v 0 rfl ?_
  refine aA ?_
  refine aH bM ?_
  refine aC ?_
  refine aH gI ?_
  refine aC ?_
  refine aC ?_
  refine o2_C ⟨by decide,by decide,by decide⟩ ?_
  refine o2_C (.inl ⟨by decide,by decide⟩) ?_
  refine aB ?_
  refine ⟨p,_,_,rfl,by decide,by decide,(hF1.new hap0),by omega,fun z2 M2 z20 z21 hF2 hB2 hE2 => ?_⟩
  refine aH gI ?_
  refine aC ?_
  refine aC ?_
  refine o2_C ⟨by decide,by decide,by decide⟩ ?_
  refine o2_0 ?_
  refine aB ?_
  refine ⟨(show 1≤sizeLine by decide),fun a ha => ?_⟩
  have hap:a≠p:=hF2.ne ha
  have hB12:=(hB1.new (o := .lst [.int (z1 - 20)]) haM0).trans hB2
  have haM:M a=none:=hB12.none_of ha hap
  have z21':z2 < 200000000:=z21
  exact ⟨a,z2 - 100000000,rfl,aT,hap,haM,by omega,by omega,(hF2.new hap).mono (by omega),hB12.new haM⟩
 rintro Γ' M2 ⟨a,x0,rfl,hM2,hap,haM,x00,x01,hF2,hB12⟩
 refine aD (eY (fR T.range ?_))
 refine aA ?_
 refine aH bQ ?_
 refine aC ?_
 refine aF aG1 (hr.mono (by decide)) aG0.m aG0.F.kp aG0.b ?_
 refine aA ?_
 refine ge_v 0 rfl ?_
 refine aA ?_
 refine aC ?_
 refine aB ?_
 refine ⟨p,_,_,rfl,by decide,by decide,hF2,by omega,fun z3 M3 z30 z31 hF3 hB3 hE3 => ?_⟩
 refine o2_0 ?_
 refine aB ?_
 refine ⟨_,rfl,by omega,by omega,?_⟩
 obtain ⟨n3,hn3⟩:∃ n3:Nat,1+z3=(n3:Int):=⟨(1+z3).toNat,by omega⟩
 rw [hn3,Int.toNat_natCast]
 refine ⟨fun i Γ' M'=>∃ (xs:List Int) (v3:Option D),Γ'=[some (.mt p),some (.int gap),some (.mt a),v3]∧M' a=some (.lst (xs.map .int))∧PnM M' p (b+3+i)∧ButM p M M'∧xs.length=i+1∧xs.Pairwise (· < ·)∧∀ x∈xs, -100000000≤x∧x≤100000000+100000001 * i,
  ⟨[x0],_,rfl,(hE3 a hap).trans hM2,hF3.mono (by omega),hB12.trans hB3,rfl,List.pairwise_singleton _ _,fun x hx=>by rw [List.mem_singleton] at hx; omega⟩,?_,?_⟩
 ·rintro i d Γ' M' hd ⟨xs,v3,rfl,hM,hF,hB,hl,hp,hbd⟩
  obtain ⟨hi,rfl⟩:=cX hd
  obtain ⟨xr,xl,rfl⟩:=oV (l:=xs) (fun e=>by rw [e] at hl; simp at hl)
  have hxl:=hbd xl (by simp)
  refine bS 3 kU.nd ?_
  refine aK (j7 ?_)
  refine g8 PySem.F.plainAttrs_list PySem.F.slot_list_append PySem.F.type_list_append fH ?_
  refine ge_v 2 rfl ?_
  refine ⟨⟨rfl,_,hM⟩,?_⟩
  refine aA ?_
  refine aH bQ ?_
  refine aH bQ ?_
  refine aI aG ?_
  refine ge_v 2 rfl ?_
  refine gT fT ?_
  refine aC ?_
  refine ⟨_,rfl,?_⟩
  refine aJ (.mt hM) (by rw [List.map_append]; exact nP _ _) ?_
  refine aC ?_
  refine o2_0 ?_
  refine aF aG1 (hr.mono (by decide)) aG0.m aG0.F.kp aG0.b ?_
  refine aA ?_
  refine ge_v 0 rfl ?_
  refine aA ?_
  refine ge_v 1 rfl ?_
  refine aB ?_
  refine ⟨p,gap,_,rfl,by omega,by omega,hF,by omega,fun z4 M4 z40 z41 hF4 hB4 hE4 => ?_⟩
  refine o2_0 ?_
  refine aB ?_
  refine gO ((hE4 a hap).trans hM) (by rw [List.length_map,hl]; exact Nat.lt_of_le_of_lt (show i+1≤20 by omega) (by decide)) ?_
  refine ⟨xr++[xl]++[xl+1+z4],_,rfl,by rw [aT]; simp,(hF4.new hap).mono (by omega),(hB.trans hB4).new haM,by rw [List.length_append,hl]; rfl,?_,fun x hx => ?_⟩
  ·rw [List.pairwise_append]
   refine ⟨hp,List.pairwise_singleton _ _,fun x hx y hy => ?_⟩
   rw [List.mem_singleton] at hy
   have hx2:x≤xl:=by
    rcases List.mem_append.mp hx with hx | hx
    ·exact Int.le_of_lt ((List.pairwise_append.mp hp).2.2 x hx xl (by simp))
    ·rw [List.mem_singleton] at hx; omega
   omega
  ·rcases List.mem_append.mp hx with hx | hx
   ·have:=hbd x hx; omega
   ·rw [List.mem_singleton] at hx; omega
 ·rintro Γ' M' ⟨xs,v3,rfl,hM,hF,hB,hl,hp,hbd⟩
  rw [bJ] at hl hF hbd
  refine i6 2 rfl hM ?_
  refine aK (aQ ?_)
  refine ge_v 2 rfl ?_
  exact hk xs _ ⟨hp,by omega,fun x hx=>by have:=hbd x hx; omega⟩ (by omega) ((hF.del hap).mono (by omega)) (hB.del haM)
theorem sC:FnScope ["_law_pen_here", "_law_xs", "_law_ys", "_law_menu"] ["_law_pen_here", "_law_xs", "_law_ys"] (aO mE):=⟨rfl,rfl,rfl,by decide +kernel,rfl,by decide +kernel,by decide +kernel⟩
theorem aAS {f:Addr}{fd:FuncData}{aGY:Addr}{aGZ:FuncData} (Df:R.Df K mg "_law_signs" mE ["_law_pen_here", "_law_xs", "_law_ys"] f fd)
  (aG0:R.Df K mg "_law_draw" eZ ["_law_pen_here", "_law_many"] aGY aGZ) (aG1:FnOk P w K mg base CX0 1 aGY aGZ ["_law_pen_here", "_law_many"] (spZ K jL)) (T:Bt mg):FnOk P w K mg base CX0 2 f fd ["_law_pen_here", "_law_xs", "_law_ys"] (spZ K uC):=by
 refine a8 Df sC (fun ds M k h => ?_) (fun cdv A outer s H E hr ds M k h => ?_)
 ·obtain ⟨p,b,xs,ys,rfl,_⟩:=h; rfl
 obtain ⟨p,b,xs,ys,rfl,hF0,hb,l2x,l2y,fx,fy,hk⟩:=h
 refine aD (aP 3 sC.nd ?_)
 refine aI aG ?_
 refine bX ?_
 refine aA ?_
 refine bW ?_
 refine aA ?_
 refine bW ?_
 refine aA ?_
 refine bW ?_
 refine aA ?_
 refine bW ?_
 refine aA ?_
 refine bW ?_
 refine aB ?_
 refine ⟨(show 5≤sizeLine by decide),?_⟩
 refine aF aG1 (hr.mono (by decide)) aG0.m aG0.F.kp aG0.b ?_
 refine aA ?_
 refine ge_v 0 rfl ?_
 refine aA ?_
 refine aC ?_
 refine aB ?_
 refine ⟨p,_,_,rfl,by decide,by decide,hF0,by omega,fun z1 M1 z10 z11 hF1 hB1 hE1 => ?_⟩
 obtain ⟨mn,hmn,mn1,mn2,mn3⟩:=xQ z10 z11
 refine aJ (.lst _) hmn ?_
 have lx:(cutD (xs.map D.int) (some 1) none).length=xs.length - 1:=by rw [q8,List.length_map]
 have ly:(cutD (ys.map D.int) (some 1) none).length=ys.length - 1:=by rw [q8,List.length_map]
 refine aK (aQ (aW ["_law_pen_here", "_law_xs", "_law_menu"] [0,1,3] (bC ?_)))
 refine fX iL ?_
 refine ge_v 2 rfl ?_
 refine iM ?_
 refine aC ?_
 refine ⟨_,rfl,?_⟩
 refine iK ?_
 refine jY (.lst _) ?_
 refine ⟨_, .inr (.inl rfl),?_⟩
 refine bP (by rw [ly]; exact R.aS (by omega)) (fun i acc M'=>∃ zs:List Str,acc=zs.map D.str∧PnM M' p (b+1+20 * i)∧ButM p M M'∧zs.length=i∧R.Good (xs.length - 1) zs) ⟨[],rfl,hF1.mono (by omega),hB1,rfl,fun z hz=>(nomatch hz)⟩ ?_ ?_
 ·rintro i d acc M' hd ⟨zs,rfl,hF,hB,hl,hgd⟩ cs C s₀ H₀ fp
  have hi:i < ys.length - 1:=by rw [← ly]; exact (List.getElem?_eq_some_iff.mp hd).1
  refine a6 (iteT fun cs C s₀ H₀ fp => ?_)
  refine g8 PySem.F.plainAttrs_str PySem.F.slot_str_join PySem.F.type_str_join l6 (bW ⟨rfl,aA (aW ["_law_pen_here", "_law_menu"] [1,3] (bC ?_))⟩)
  refine fX iL ?_
  refine ge_v 2 rfl ?_
  refine iM ?_
  refine aC ?_
  refine ⟨_,rfl,?_⟩
  refine iK ?_
  refine jY (.lst _) ?_
  refine ⟨_, .inr (.inl rfl),?_⟩
  refine bP (by rw [lx]; exact R.aS (by omega)) (fun i2 acc M2=>∃ cs:List Nat,acc=(cs.map fun c=>(⟨#[c]⟩:Str)).map D.str∧(∀ c∈cs,c=35∨c=46)∧cs.length=i2∧PnM M2 p (b+1+20 * i+i2)∧ButM p M M2)
   ⟨[],rfl,fun c hc=>(nomatch hc),rfl,hF.mono (by omega),hB⟩ ?_ ?_
  ·rintro i2 d2 acc M2 hd2 ⟨cs,rfl,hcs,hl2,hF2,hB2⟩ cs' C s₀ H₀ fp
   have hi2:i2 < xs.length - 1:=by rw [← lx]; exact (List.getElem?_eq_some_iff.mp hd2).1
   refine a6 (iteT fun cs' C s₀ H₀ fp => ?_)
   refine aI aG ?_
   refine ge_v 2 rfl ?_
   refine aF aG1 (hr.mono (by decide)) aG0.m aG0.F.kp aG0.b ?_
   refine aA ?_
   refine ge_v 1 rfl ?_
   refine aA ?_
   refine aM aV T.len PySem.boot_len ?_
   refine aA ?_
   refine ge_v 2 rfl ?_
   refine aB ?_
   refine fJ (R.aS (by omega)) ?_
   refine aB ?_
   refine ⟨p,_,_,rfl,by omega,by omega,hF2,by omega,fun z3 M3 z30 z31 hF3 hB3 hE3 => ?_⟩
   obtain ⟨j3,rfl⟩:∃ j3:Nat,z3=j3:=⟨z3.toNat,by omega⟩
   refine j4 (R.aS (by omega)) (R.k4 (by omega)) ?_
   refine ⟨cs++[_],by rw [List.map_append,List.map_append]; rfl,fun q hq => ?_,by rw [List.length_append,hl2]; rfl,hF3.mono (by omega),hB2.trans hB3⟩
   rcases List.mem_append.mp hq with hq | hq
   ·exact hcs q hq
   ·rw [List.mem_singleton] at hq
    rw [hq]
    exact aDD mn3 (by omega)
  ·rintro acc M2 ⟨cs,rfl,hcs,hl2,hF2,hB2⟩
   rw [lx] at hl2 hF2
   refine aB (m8 (.lst _) (by decide +kernel) (by rw [aBW,List.length_map]; omega) ?_)
   rw [R.jH,R.o6]
   exact ⟨zs++[R.ofL cs],by rw [List.map_append]; rfl,hF2.mono (by omega),hB2,by rw [List.length_append,hl]; rfl,yU hgd hl2 hcs⟩
 rintro acc M2 ⟨zs,rfl,hF,hB,hl,hgd⟩
 rw [ly] at hl hF
 exact hk zs _ hgd hl (hF.mono (by omega)) hB
theorem rE:FnScope ["_law_pen_here", "_law_one"] ["_law_pen_here"] (aO l7):=⟨rfl,rfl,rfl,by decide +kernel,rfl,by decide +kernel,by decide +kernel⟩
theorem aAE {f:Addr}{fd:FuncData}{aGY:Addr}{aGZ:FuncData} (Df:R.Df K mg "_law_paces" l7 ["_law_pen_here"] f fd)
  (aG0:R.Df K mg "_law_draw" eZ ["_law_pen_here", "_law_many"] aGY aGZ) (aG1:FnOk P w K mg base CX0 1 aGY aGZ ["_law_pen_here", "_law_many"] (spZ K jL)):FnOk P w K mg base CX0 2 f fd ["_law_pen_here"] (spZ K yA):=by
 refine a8 Df rE (fun ds M k h => ?_) (fun cdv A outer s H E hr ds M k h => ?_)
 ·obtain ⟨p,b,rfl,_⟩:=h; rfl
 obtain ⟨p,b,rfl,hF0,hb,hk⟩:=h
 refine aD (aP 1 rE.nd ?_)
 refine aH bQ ?_
 refine aC ?_
 refine aF aG1 (hr.mono (by decide)) aG0.m aG0.F.kp aG0.b ?_
 refine aA ?_
 refine ge_v 0 rfl ?_
 refine aA ?_
 refine aC ?_
 refine aB ?_
 refine ⟨p,_,_,rfl,by decide,by decide,hF0,by omega,fun z1 M1 z10 z11 hF1 hB1 hE1 => ?_⟩
 refine o2_0 ?_
 refine aD (bO ?_)
 refine bG f9 ?_
 refine aF aG1 (hr.mono (by decide)) aG0.m aG0.F.kp aG0.b ?_
 refine aA ?_
 refine ge_v 0 rfl ?_
 refine aA ?_
 refine aC ?_
 refine aB ?_
 refine ⟨p,_,_,rfl,by decide,by decide,hF1,by omega,fun z2 M2 z20 z21 hF2 hB2 hE2 => ?_⟩
 refine aC ?_
 refine iT ?_
 refine ⟨_,rfl,?_⟩
 refine ite2 (fun h1 => ?_) (fun h1=>bB ?_)
 ·refine aK (aQ ?_)
  refine b5 ?_
  refine aA ?_
  refine ge_v 1 rfl ?_
  refine aA ?_
  refine ge_v 1 rfl ?_
  refine aA ?_
  refine ge_v 1 rfl ?_
  refine aA ?_
  refine ge_v 1 rfl ?_
  refine aB ?_
  refine ⟨(show 4≤sizeLine by decide),?_⟩
  exact hk _ _ _ _ _ ⟨by omega,by omega⟩ ⟨by omega,by omega⟩ ⟨by omega,by omega⟩ ⟨by omega,by omega⟩ (hF2.mono (by omega)) (hB1.trans hB2)
 refine aK (aQ ?_)
 refine b5 ?_
 refine aA ?_
 refine ge_v 1 rfl ?_
 refine aA ?_
 refine aH bQ ?_
 refine aC ?_
 refine aF aG1 (hr.mono (by decide)) aG0.m aG0.F.kp aG0.b ?_
 refine aA ?_
 refine ge_v 0 rfl ?_
 refine aA ?_
 refine aC ?_
 refine aB ?_
 refine ⟨p,_,_,rfl,by decide,by decide,hF2,by omega,fun z3 M3 z30 z31 hF3 hB3 hE3 => ?_⟩
 refine o2_0 ?_
 refine aA ?_
 refine aH bQ ?_
 refine aC ?_
 refine aF aG1 (hr.mono (by decide)) aG0.m aG0.F.kp aG0.b ?_
 refine aA ?_
 refine ge_v 0 rfl ?_
 refine aA ?_
 refine aC ?_
 refine aB ?_
 refine ⟨p,_,_,rfl,by decide,by decide,hF3,by omega,fun z4 M4 z40 z41 hF4 hB4 hE4 => ?_⟩
 refine o2_0 ?_
 refine aA ?_
 refine aH bQ ?_
 refine aC ?_
 refine aF aG1 (hr.mono (by decide)) aG0.m aG0.F.kp aG0.b ?_
 refine aA ?_
 refine ge_v 0 rfl ?_
 refine aA ?_
 refine aC ?_
 refine aB ?_
 refine ⟨p,_,_,rfl,by decide,by decide,hF4,by omega,fun z5 M5 z50 z51 hF5 hB5 hE5 => ?_⟩
 refine o2_0 ?_
 refine aB ?_
 refine ⟨(show 4≤sizeLine by decide),?_⟩
 exact hk _ _ _ _ _ ⟨by omega,by omega⟩ ⟨by omega,by omega⟩ ⟨by omega,by omega⟩ ⟨by omega,by omega⟩ (hF5.mono (by omega)) ((((hB1.trans hB2).trans hB3).trans hB4).trans hB5)
theorem iU:FnScope ["_law_script", "_law_pen_here", "_law_turn", "_law_gap", "_law_xs", "_law_ys", "_law_signs_here"] ["_law_script"] (aO lV):=⟨rfl,rfl,rfl,by decide +kernel,rfl,by decide +kernel,by decide +kernel⟩
theorem aFT {f:Addr}{fd:FuncData}{aKI aGY aKJ aKK aKL aKM aJZ:Addr}{aKN aGZ aKO aKP aKQ aKR aJ5:FuncData} (Df:R.Df K mg "law" lV ["_law_script"] f fd)
  (aKS:R.Df K mg "_law_pen" qD ["_law_script"] aKI aKN) (aKT:FnOk P w K mg base CX0 1 aKI aKN ["_law_script"] (spZ K cPen))
  (aG0:R.Df K mg "_law_draw" eZ ["_law_pen_here", "_law_many"] aGY aGZ) (aG1:FnOk P w K mg base CX0 1 aGY aGZ ["_law_pen_here", "_law_many"] (spZ K jL))
  (aKU:R.Df K mg "_law_lines" mQ ["_law_pen_here", "_law_gap"] aKJ aKO) (aKV:FnOk P w K mg base CX0 2 aKJ aKO ["_law_pen_here", "_law_gap"] (spZ K tT))
  (aKW:R.Df K mg "_law_signs" mE ["_law_pen_here", "_law_xs", "_law_ys"] aKK aKP) (aKX:FnOk P w K mg base CX0 2 aKK aKP ["_law_pen_here", "_law_xs", "_law_ys"] (spZ K uC))
  (aKY:R.Df K mg "_law_right" lY ["_law_pen_here", "_law_xs", "_law_ys", "_law_signs_here", "_law_paces_here"] aKL aKQ) (aKZ:FnOk P w K mg base CX0 9 aKL aKQ ["_law_pen_here", "_law_xs", "_law_ys", "_law_signs_here", "_law_paces_here"] (spZ K rN))
  (aK0:R.Df K mg "_law_paces" l7 ["_law_pen_here"] aKM aKR) (aK1:FnOk P w K mg base CX0 2 aKM aKR ["_law_pen_here"] (spZ K yA))
  (aKG:R.Df K mg "height" i5 ["yard", "paces", "x", "y"] aJZ aJ5) (aKH:FnOk P w K mg base CX0 7 aJZ aJ5 ["yard", "paces", "x", "y"] (spZ K nS)) (T:Bt mg):FnOk P w K mg base CX0 10 f fd ["_law_script"] (spZ K cLaw):=by
 refine a8 Df iU (fun ds M k h => ?_) (fun cdv A outer s H E hr ds M k h => ?_)
 ·obtain ⟨ns,rfl,_⟩:=h; rfl
 obtain ⟨ns,rfl,hns,hk⟩:=h
 refine aD (aP 1 iU.nd ?_)
 refine aF aKT (hr.mono (by decide)) aKS.m aKS.F.kp aKS.b ?_
 refine aA ?_
 refine ge_v 0 rfl ?_
 refine aB ?_
 refine ⟨ns,rfl,fun p M0 hp hL hF0 => ?_⟩
 refine aD (eY (fR T.range ?_))
 refine aA ?_
 refine aC ?_
 refine aB ?_
 refine ⟨_,rfl,by decide,by decide,?_⟩
 refine ⟨fun i Γ' M'=>(∃ v2 v3 v4 v5 v6,Γ'=[some (.fl (ns.map .int)),some (.mt p),v2,v3,v4,v5,v6])∧PnM M' p (3000 * i),⟨⟨_,_,_,_,_,rfl⟩,hF0.mono (by omega)⟩,?_,?_⟩
 rotate_left
 ·rintro Γ' M1 ⟨⟨v2,v3,v4,v5,v6,rfl⟩,_⟩
  refine aK (aQ (gL (xH (n:=1) (R.fE hr)) ?_))
  refine aF aKH (hr.mono (by decide)) aKG.m aKG.F.kp aKG.b ?_
  refine aA ?_
  refine b5 ?_
  refine aA ?_
  refine b5 ?_
  refine aB ?_
  refine ⟨(show 0≤sizeLine by decide),?_⟩
  refine aA ?_
  refine b5 ?_
  refine aB ?_
  refine ⟨(show 0≤sizeLine by decide),?_⟩
  refine aA ?_
  refine b5 ?_
  refine aB ?_
  refine ⟨(show 0≤sizeLine by decide),?_⟩
  refine aB ?_
  refine ⟨(show 3≤sizeLine by decide),?_⟩
  refine aA ?_
  refine b5 ?_
  refine aA ?_
  refine aC ?_
  refine aA ?_
  refine aC ?_
  refine aA ?_
  refine aC ?_
  refine aA ?_
  refine aC ?_
  refine aB ?_
  refine ⟨(show 4≤sizeLine by decide),?_⟩
  refine aA ?_
  refine b5 ?_
  refine aA ?_
  refine aC ?_
  refine aA ?_
  refine aC ?_
  refine aB ?_
  refine ⟨(show 2≤sizeLine by decide),?_⟩
  refine aA ?_
  refine b5 ?_
  refine aA ?_
  refine aC ?_
  refine aA ?_
  refine aC ?_
  refine aB ?_
  refine ⟨(show 2≤sizeLine by decide),?_⟩
  refine aB ?_
  refine ⟨Yd.void,1,2,3,4,0,Rat.divInt 5 7,7,10 ^ 60,rfl,⟨by decide,by unfold sm; decide +kernel,by unfold sm; exact Nat.le_refl _⟩,fun w hw=>(nomatch hw),fun w hw=>(nomatch hw),Fr.zero _ _,(gP (a:=5) (b:=7) (by decide)).mono (by decide +kernel),by decide,by decide,⟨⟨by decide,by decide⟩,⟨by decide,by decide⟩,⟨by decide,by decide⟩,⟨by decide,by decide⟩⟩,?_⟩
  refine b5 ?_
  refine aA ?_
  refine aC ?_
  refine aA ?_
  refine aC ?_
  refine aB ?_
  refine ⟨(show 2≤sizeLine by decide),?_⟩
  rw [xL]
  refine wP (e1:=numD 0) (e2:=numD 0) (.tup _) (.tup _) rfl rfl ?_
  rw [r8,decide_eq_true rfl]
  exact hk _
 rintro i d Γ' M' hd ⟨⟨v2,v3,v4,v5,v6,rfl⟩,hF⟩
 obtain ⟨hi,rfl⟩:=cX hd
 have hi2:i < 2:=hi
 refine bS 2 iU.nd ?_
 refine aD (aP 3 iU.nd ?_)
 refine aI aG ?_
 refine bX ?_
 refine aA ?_
 refine aC ?_
 refine aA ?_
 refine aC ?_
 refine aA ?_
 refine aH gI ?_
 refine aC ?_
 refine aC ?_
 refine o2_C ⟨by decide,by decide,by decide⟩ ?_
 refine aB ?_
 refine ⟨(show 3≤sizeLine by decide),?_⟩
 refine aF aG1 (hr.mono (by decide)) aG0.m aG0.F.kp aG0.b ?_
 refine aA ?_
 refine ge_v 1 rfl ?_
 refine aA ?_
 refine aC ?_
 refine aB ?_
 refine ⟨p,_,_,rfl,by decide,by decide,hF,by omega,fun z1 M1 z10 z11 hF1 hB1 hE1 => ?_⟩
 obtain ⟨gap,hga,hga1,hga2⟩:=aA0 z10 z11
 refine aJ (.lst _) hga ?_
 refine aD (aP 4 iU.nd ?_)
 refine aF aKV (hr.mono (by decide)) aKU.m aKU.F.kp aKU.b ?_
 refine aA ?_
 refine ge_v 1 rfl ?_
 refine aA ?_
 refine ge_v 3 rfl ?_
 refine aB ?_
 refine ⟨p,_,gap,rfl,hga1,hga2,hF1,by omega,fun xs M2 ux l2x hF2 hB2 => ?_⟩
 refine aD (aP 5 iU.nd ?_)
 refine aF aKV (hr.mono (by decide)) aKU.m aKU.F.kp aKU.b ?_
 refine aA ?_
 refine ge_v 1 rfl ?_
 refine aA ?_
 refine ge_v 3 rfl ?_
 refine aB ?_
 refine ⟨p,_,gap,rfl,hga1,hga2,hF2,by omega,fun ys M3 uy l2y hF3 hB3 => ?_⟩
 have fx:=ux.few
 have fy:=uy.few
 refine aD (aP 6 iU.nd ?_)
 refine aF aKX (hr.mono (by decide)) aKW.m aKW.F.kp aKW.b ?_
 refine aA ?_
 refine ge_v 1 rfl ?_
 refine aA ?_
 refine ge_v 4 rfl ?_
 refine aA ?_
 refine ge_v 5 rfl ?_
 refine aB ?_
 refine ⟨p,_,xs,ys,rfl,hF3,by omega,l2x,l2y,by omega,by omega,fun zs M4 gz hz hF4 hB4 => ?_⟩
 refine aK (bO ?_)
 refine c8 ?_
 refine cL ?_
 refine aF aKZ (hr.mono (by decide)) aKY.m aKY.F.kp aKY.b ?_
 refine aA ?_
 refine ge_v 1 rfl ?_
 refine aA ?_
 refine ge_v 4 rfl ?_
 refine aA ?_
 refine ge_v 5 rfl ?_
 refine aA ?_
 refine ge_v 6 rfl ?_
 refine aA ?_
 refine aF aK1 (hr.mono (by decide)) aK0.m aK0.F.kp aK0.b ?_
 refine aA ?_
 refine ge_v 1 rfl ?_
 refine aB ?_
 refine ⟨p,_,rfl,hF4,by omega,fun e n w s M5 he hn hw hs hF5 hB5 => ?_⟩
 refine aB ?_
 refine ⟨p,_,xs,ys,zs,e,n,w,s,rfl,hF5,by omega,ux,uy,l2x,l2y,gz,hz,⟨he,hn,hw,hs⟩,fun M6 hF6 hB6 => ?_⟩
 refine ⟨_,rfl,?_⟩
 exact iteF (bB ⟨⟨_,_,_,_,_,rfl⟩,hF6.mono (by omega)⟩)
end
end Q
namespace HB
open PySem PySem.W
abbrev S (x:String) (k:Nat):Value := .str (Str.ofString x) k
abbrev R (a:Nat):Value := .ref a
abbrev I (a:Int):Value := .int a 0
abbrev J (a:Int) (k:Nat):Value := .int a k
abbrev E (P:Params) (x:String) (k:Nat) (v:Value):DictEntry:=⟨PyData.keyHash P (Str.ofString x), .str (Str.ofString x) k,v⟩
abbrev tO (l:List Value):Obj:=⟨.type "tuple", none, .seq l.toArray 0,#[]⟩
abbrev vO (l:List Value):Obj:=⟨.none,none, .fields l.toArray,#[]⟩
abbrev dO (l:List DictEntry) (n:Nat):Obj:=⟨.type "dict", none, .dict l.toArray n,#[]⟩
abbrev fO (n:String) (s:Stmt) (pm:Value) (cd:Nat):Obj:=⟨.type "function", none, .func { name:=Str.ofString n,qualname:=Str.ofString n,params:=L2.eJ s,body := .stmts (L2.dL s),scope:=L2.aO s,globals:=3,closure:=[],defaults := .none,kwdefaults := .none,doc := .none,pyModule:=pm,annotations:=none,code := .ref cd,closureTuple := .none,builtins:=0 },#[]⟩
abbrev pO (n:String) (s:Stmt):Obj:=⟨.none,none, .func { name:=Str.ofString n,qualname:=Str.ofString n,params:=L2.eJ s,body := .stmts (L2.dL s),scope:=L2.aO s,globals:=0,closure:=[],defaults := .none,kwdefaults := .none,doc := .none,pyModule := .none,annotations:=none,code := .none,closureTuple := .none,builtins:=0 },#[]⟩
abbrev cO (n f:String) (t1 t2 t3 l1 c1 c2 c3 c4 a1 a2 a3 a4 a5 t4 l2 t5:Nat) (b:Bool) (k:Nat):Obj:=⟨.type "code", none, .fields #[S n t1,S n t2,S f t3,I l1,I c1,I c2,I c3,I c4,R a1, .bool b,I k,R a2, .none,R a3,R a4,R a5,I t4,I l2,S f t5],#[]⟩
def fl:String := "/claim/cut.py"
def vs:Nat→List String→List Value
 | _,[]=>[]
 | k,x::xs => .str (Str.ofString x) k::vs (k+1) xs
def D7 (s:Stmt) (n:String) (b t l c:Nat) (ns:List String) (pm:Value):List Obj :=
 [tO [],vO [],tO (vs (t+3) ns),tO [],pO n s,cO n "/claim/cut.py" t (t+1) (t+2) l c 0 0 3 b (b+1) (b+2) (b+3) (b+4) (t+3+ns.length) l (t+4+ns.length) true 181,fO n s pm (b+5)]
def ov {a:Type}:List (Nat × a)→List a→List a
 | [],l=>l
 | (i,x)::r,l=>ov r (l.set i x)
def ev {a:Type}:Nat→List a→List a
 | 0,_=>[]
 | _+1,[]=>[]
 | _+1,[x]=>[x]
 | n+1,x::_::r=>x::ev n r
def bt:Nat→List Obj→BT
 | 0,_ => .nil
 | _+1,[] => .nil
 | n+1,x::r => .node x (bt n (ev (2 ^ n) r)) (bt n (ev (2 ^ n) r.tail))
abbrev sh (h:Heap) (k:Nat) (os:OsState):Shared:=⟨h,Array.mk [],{},k,os⟩
abbrev sT (t:BT) (n k:Nat) (os:OsState):SharedT:=⟨t,n,{},Array.mk [],{},k,os⟩
abbrev ps (a b c d:Nat):Pos:=⟨a,b,c,d⟩
abbrev z:Pos:=⟨0,0,0,0⟩
abbrev B:List Frame:=[topFrame z]
theorem eRun:segRunT treeTable=PySem.W.Fast.tw10110043849684766642 PySem.W.Fast.tw14364793385576792824:=by rw [PySem.W.Fast.te10110043849684766642,PySem.W.Fast.te14364793385576792824]
theorem eGo:topGo treeTable=PySem.W.Fast.tw15667345088766844465 PySem.W.Fast.tw14364793385576792824:=by rw [PySem.W.Fast.te15667345088766844465,PySem.W.Fast.te14364793385576792824]
theorem eSeg:segRun treeTable=PySem.W.Fast.tw14374325043358763698 PySem.W.Fast.tw14364793385576792824:=by rw [PySem.W.Fast.te14374325043358763698,PySem.W.Fast.te14364793385576792824]
theorem eTop:topRun treeTable=PySem.W.Fast.tw14082659384304107361 PySem.W.Fast.tw14364793385576792824:=by rw [PySem.W.Fast.te14082659384304107361,PySem.W.Fast.te14364793385576792824]
end HB
namespace HB
open PySem PySem.W L2
theorem mkD {K:PySem.W.Frag}{mg:Str→Option Value}{h:Heap} (X:K.In h) (G:h.Ns mainGlobals mg) (n:String) (st:Stmt) (ps:List Str) (f cd:Addr) (pm:Value)
  (a:nsIn K mainGlobals (Str.ofString n)=some (some (.ref f))) (l:K.lookup f=some (fO n st pm cd)) (c:codeIn K (.ref cd) (Str.ofString n)=true) (k:keepIn K (.ref f)=true)
  (b:∀ (kV doc pm:Value) (an:Option Addr) (cdv ct:Value) (us:List Value),us.length=ps.length→bindArgs (PySem.W.fnOf (Str.ofString n) (Str.ofString n) (eJ st) (dL st) (aO st) .none kV doc pm an cdv ct) ⟨us,[]⟩=pure (ps.zip us)) :
  R.Df K mg (Str.ofString n) st ps f (PySem.W.fnOf (Str.ofString n) (Str.ofString n) (eJ st) (dL st) (aO st) .none .none .none pm none (.ref cd) .none) :=
 have F:Fun K (Str.ofString n) (Str.ofString n) st f _:=aFI l c k
 ⟨F,F.binds b,mg_of X G a⟩
def btNs:List Str:=["len", "abs", "int", "min", "max", "range", "list", "tuple", "repr", "all", "any", "enumerate", "isinstance", "bool", "str", "zip", "reversed", "sorted", "dict"]
theorem mkB {K:PySem.W.Frag}{mg:Str→Option Value}{h:Heap} (X:K.In h) (G:h.Ns mainGlobals mg) (e:(btNs.all fun n=>nsIn K mainGlobals n == some none)=true):Q.Bt mg :=
 have z:∀ n∈btNs,mg n=none:=fun n hn=>mg_none_of X G (eq_of_beq (List.all_eq_true.mp e n hn))
 ⟨z _ (by simp [btNs]),z _ (by simp [btNs]),z _ (by simp [btNs]),z _ (by simp [btNs]),z _ (by simp [btNs]),z _ (by simp [btNs]),z _ (by simp [btNs]),z _ (by simp [btNs]),z _ (by simp [btNs]),z _ (by simp [btNs]),z _ (by simp [btNs]),z _ (by simp [btNs]),z _ (by simp [btNs]),z _ (by simp [btNs]),z _ (by simp [btNs]),z _ (by simp [btNs]),z _ (by simp [btNs]),z _ (by simp [btNs]),z _ (by simp [btNs])⟩
end HB
namespace HD
open PySem PySem.W HB Q
noncomputable section
def es3 (P:Params):List DictEntry:=[E P "__name__" 165 (S "law_roofridges_k22_heights_by_cells" 469),E P "__doc__" 166 .none,E P "__package__" 167 .none,E P "__loader__" 168 (.builtin "__main__.__loader__#opaque"),E P "__spec__" 169 .none,E P "__annotations__" 170 (R 6),E P "__builtins__" 171 (R 4),E P "__file__" 173 (S "/claim/cut.py" 172),E P "__cached__" 174 .none,E P "RoofError" 206 (R 24),E P "NoNumber" 222 (R 37),E P "NoYard" 238 (R 49),E P "NOUGHT" 243 (R 52),E P "is_whole" 250 (R 59),E P "common_divisor" 259 (R 66),E P "lowest" 268 (R 73),E P "fraction" 276 (R 80),E P "minus" 284 (R 87),E P "times" 292 (R 94),E P "over" 300 (R 101),E P "under" 308 (R 108),E P "lesser" 316 (R 115),E P "greater" 324 (R 122),E P "MOST_LINES" 328 (J 7 327),E P "FARTHEST" 330 (J 1000000000 329),E P "is_row" 336 (R 127),E P "rows_fit" 342 (R 132),E P "column" 348 (R 137),E P "columns" 354 (R 142),E P "changes" 360 (R 147),E P "picked" 366 (R 152),E P "tidied" 372 (R 157),E P "is_whole_line" 379 (R 164),E P "are_whole_lines" 385 (R 169),E P "made" 391 (R 174),E P "bands_at" 397 (R 179),E P "has_cell" 407 (R 186),E P "lies" 419 (R 193),E P "time_to" 429 (R 200),E P "times_to" 443 (R 207),E P "height" 460 (R 214),E P "stretched" 468 (R 219),E P "_law_pen" 477 (R 226),E P "_law_draw" 489 (R 233),E P "_law_lines" 499 (R 240),E P "_law_signs" 505 (R 245),E P "_law_paces" 513 (R 252),E P "_law_number" 523 (R 259),E P "_law_along" 535 (R 266),E P "_law_point" 545 (R 273),E P "_law_outside" 551 (R 278),E P "_law_high" 557 (R 283),E P "_law_right" 563 (R 288),E P "law" 576 (R 295)]
def es12:List Value:=[(I 2),(I 0),(R 20),(I 4),(I 0),(R 33),(I 6),(I 0),(R 45),(I 10),(I 0),(R 58),(I 12),(I 0),(R 65),(I 18),(I 0),(R 72),(I 23),(I 0),(R 79),(I 29),(I 0),(R 86),(I 31),(I 0),(R 93),(I 33),(I 0),(R 100),(I 37),(I 0),(R 107),(I 39),(I 0),(R 114),(I 41),(I 0),(R 121),(I 46),(I 0),(R 126),(I 50),(I 0),(R 131),(I 54),(I 0),(R 136),(I 56),(I 0),(R 141),(I 59),(I 0),(R 146),(I 65),(I 0),(R 151),(I 67),(I 0),(R 156),(I 72),(I 0),(R 163),(I 74),(I 0),(R 168),(I 80),(I 0),(R 173),(I 86),(I 0),(R 178),(I 91),(I 0),(R 185),(I 96),(I 0),(R 192),(I 107),(I 0),(R 199),(I 109),(I 0),(R 206),(I 117),(I 0),(R 213),(I 129),(I 0),(R 218),(I 134),(I 0),(R 225),(I 136),(I 0),(R 232),(I 152),(I 0),(R 239),(I 159),(I 0),(R 244),(I 162),(I 0),(R 251),(I 167),(I 0),(R 258),(I 173),(I 0),(R 265),(I 182),(I 0),(R 272),(I 185),(I 0),(R 277),(I 197),(I 0),(R 282),(I 203),(I 0),(R 287),(I 216),(I 0),(R 294)]
def hl0 (P:Params):List Obj:=[boot_o_0 P]++[boot_o_1 P]++[boot_o_2 P]++[dO (es3 P) 54]++[boot_o_4 P]++[boot_o_5 P]++[boot_o_6 P]++[boot_o_7 P]++[boot_o_8 P]++[boot_o_9 P]++[boot_o_10 P]++[tO []]
def hl1 (P:Params):List Obj:=[vO es12]++[⟨.type "code", none, .fields #[(S "<module>" 182),(S "<module>" 183),(S "/claim/cut.py" 184),(I 1),(I 0),(I 0),(I 0),(I 0),(R 11),(.bool false),(I 181),(R 12), .none, .none, .none, .none,(I 185),(I 1),(S "/claim/cut.py" 186)],#[]⟩]++[⟨(.type "frame"),none, .plain,#[some (R 13),some (R 3),some (R 3),none,some (S "__main__" 164),none,some (R 0)]⟩]++[tO [(.type "ValueError")]]++[⟨(.type "builtin_function_or_method"),none, .fields #[(.builtin "type.__prepare__"),(.type "type")],#[]⟩]++[dO [E P "__module__" 196 (S "roofridges.errors" 187),E P "__qualname__" 198 (S "RoofError" 197),E P "__firstlineno__" 200 (J 2 199),E P "__static_attributes__" 201 (R 22)] 4]++[tO []]++[vO []]++[⟨.type "code", none, .fields #[(S "RoofError" 191),(S "RoofError" 192),(S "/claim/cut.py" 193),(I 2),(I 0),(I 0),(I 0),(I 0),(R 18),(.bool false),(I 181),(R 19), .none, .none, .none, .none,(I 194),(I 2),(S "/claim/cut.py" 195)],#[]⟩]++[⟨(.type "frame"),none, .plain,#[some (R 20),some (R 3),some (R 17),none,some (S "roofridges.errors" 187),none,some (R 0)]⟩]++[tO []]++[dO [E P "__module__" 196 (S "roofridges.errors" 187),E P "__firstlineno__" 200 (J 2 199),E P "__static_attributes__" 201 (R 22),E P "__weakref__" 203 (R 25),E P "__doc__" 204 .none] 3]
def hl2 (P:Params):List Obj:=[⟨(.type "type"),none, .cls { name := "RoofError", bases:=[(.type "ValueError")],mro:=[(R 24),(.type "ValueError"),(.type "Exception"),(.type "BaseException"),(.type "object")],ns:=23,qualname := "RoofError", hasDict:=true,slotNames:=[],subclasses:=[(R 37),(R 49)],abstract:=false,collection:=none,hasDel:=false },#[some (R 15),none,some (S "RoofError" 189),some (S "RoofError" 197),some (.builtin "ValueError.__new__"),some (.bool true)]⟩]++[⟨(.type "getset_descriptor"),none, .fields #[(S "__weakref__" 202),(R 24),(.builtin "ExceptionGroup.__weakref__"), .none],#[]⟩]++[⟨(.type "super"),none, .fields #[(R 24),(R 24),(R 24)],#[]⟩]++[⟨(.type "builtin_function_or_method"),none, .fields #[(.builtin "object.__init_subclass__"),(R 24)],#[]⟩]++[tO [(R 24)]]++[⟨(.type "builtin_function_or_method"),none, .fields #[(.builtin "type.__prepare__"),(.type "type")],#[]⟩]++[dO [E P "__module__" 214 (S "roofridges.errors" 187),E P "__qualname__" 216 (S "NoNumber" 215),E P "__firstlineno__" 218 (J 4 217),E P "__static_attributes__" 219 (R 35)] 4]++[tO []]++[vO []]++[⟨.type "code", none, .fields #[(S "NoNumber" 209),(S "NoNumber" 210),(S "/claim/cut.py" 211),(I 4),(I 0),(I 0),(I 0),(I 0),(R 31),(.bool false),(I 181),(R 32), .none, .none, .none, .none,(I 212),(I 4),(S "/claim/cut.py" 213)],#[]⟩]++[⟨(.type "frame"),none, .plain,#[some (R 33),some (R 3),some (R 30),none,some (S "roofridges.errors" 187),none,some (R 0)]⟩]++[tO []]
def hl3 (P:Params):List Obj:=[dO [E P "__module__" 214 (S "roofridges.errors" 187),E P "__firstlineno__" 218 (J 4 217),E P "__static_attributes__" 219 (R 35),E P "__doc__" 220 .none] 2]++[⟨(.type "type"),none, .cls { name := "NoNumber", bases:=[(R 24)],mro:=[(R 37),(R 24),(.type "ValueError"),(.type "Exception"),(.type "BaseException"),(.type "object")],ns:=36,qualname := "NoNumber", hasDict:=true,slotNames:=[],subclasses:=[],abstract:=false,collection:=none,hasDel:=false },#[some (R 28),none,some (S "NoNumber" 207),some (S "NoNumber" 215),some (.builtin "ValueError.__new__"),some (.bool true)]⟩]++[⟨(.type "super"),none, .fields #[(R 37),(R 37),(R 37)],#[]⟩]++[⟨(.type "builtin_function_or_method"),none, .fields #[(.builtin "object.__init_subclass__"),(R 37)],#[]⟩]++[tO [(R 24)]]++[⟨(.type "builtin_function_or_method"),none, .fields #[(.builtin "type.__prepare__"),(.type "type")],#[]⟩]++[dO [E P "__module__" 230 (S "roofridges.errors" 187),E P "__qualname__" 232 (S "NoYard" 231),E P "__firstlineno__" 234 (J 6 233),E P "__static_attributes__" 235 (R 47)] 4]++[tO []]++[vO []]++[⟨.type "code", none, .fields #[(S "NoYard" 225),(S "NoYard" 226),(S "/claim/cut.py" 227),(I 6),(I 0),(I 0),(I 0),(I 0),(R 43),(.bool false),(I 181),(R 44), .none, .none, .none, .none,(I 228),(I 6),(S "/claim/cut.py" 229)],#[]⟩]++[⟨(.type "frame"),none, .plain,#[some (R 45),some (R 3),some (R 42),none,some (S "roofridges.errors" 187),none,some (R 0)]⟩]++[tO []]
def hl4 (P:Params):List Obj:=[dO [E P "__module__" 230 (S "roofridges.errors" 187),E P "__firstlineno__" 234 (J 6 233),E P "__static_attributes__" 235 (R 47),E P "__doc__" 236 .none] 2]++[⟨(.type "type"),none, .cls { name := "NoYard", bases:=[(R 24)],mro:=[(R 49),(R 24),(.type "ValueError"),(.type "Exception"),(.type "BaseException"),(.type "object")],ns:=48,qualname := "NoYard", hasDict:=true,slotNames:=[],subclasses:=[],abstract:=false,collection:=none,hasDel:=false },#[some (R 40),none,some (S "NoYard" 223),some (S "NoYard" 231),some (.builtin "ValueError.__new__"),some (.bool true)]⟩]++[⟨(.type "super"),none, .fields #[(R 49),(R 49),(R 49)],#[]⟩]++[⟨(.type "builtin_function_or_method"),none, .fields #[(.builtin "object.__init_subclass__"),(R 49)],#[]⟩]++[tO [(J 0 241),(J 1 242)]]++D7 (Q.top 6) "is_whole" 53 244 10 1 ["thing"] (S "roofridges.fractions" 239)++D7 (Q.top 7) "common_divisor" 60 251 12 2 ["one", "other", "rest"] (S "roofridges.fractions" 239)++D7 (Q.top 8) "lowest" 67 260 18 2 ["top", "bottom", "divisor"] (S "roofridges.fractions" 239)++D7 (Q.top 9) "fraction" 74 269 23 2 ["top", "bottom"] (S "roofridges.fractions" 239)++D7 (Q.top 10) "minus" 81 277 29 2 ["one", "other"] (S "roofridges.fractions" 239)++D7 (Q.top 11) "times" 88 285 31 2 ["one", "other"] (S "roofridges.fractions" 239)++D7 (Q.top 12) "over" 95 293 33 2 ["one", "other"] (S "roofridges.fractions" 239)
def hl5 (P:Params):List Obj:=D7 (Q.top 13) "under" 102 301 37 2 ["one", "other"] (S "roofridges.fractions" 239)++D7 (Q.top 14) "lesser" 109 309 39 2 ["one", "other"] (S "roofridges.fractions" 239)++D7 (Q.top 15) "greater" 116 317 41 2 ["one", "other"] (S "roofridges.fractions" 239)++[tO []]++[vO []]++[pO "is_row" (Q.top 19)]++[⟨.type "code", none, .fields #[(S "is_row" 331),(S "is_row" 332),(S "/claim/cut.py" 333),(I 46),(I 2),(I 0),(I 0),(I 3),(R 123),(.bool true),(I 181),(R 124), .none, .none, .none,(R 125),(I 334),(I 46),(S "/claim/cut.py" 335)],#[]⟩]++[fO "is_row" (Q.top 19) (S "roofridges.yards" 325) 126]++[tO []]++[vO []]++[pO "rows_fit" (Q.top 20)]++[⟨.type "code", none, .fields #[(S "rows_fit" 337),(S "rows_fit" 338),(S "/claim/cut.py" 339),(I 50),(I 3),(I 0),(I 0),(I 3),(R 128),(.bool true),(I 181),(R 129), .none, .none, .none,(R 130),(I 340),(I 50),(S "/claim/cut.py" 341)],#[]⟩]
def hl6 (P:Params):List Obj:=[fO "rows_fit" (Q.top 20) (S "roofridges.yards" 325) 131]++[tO []]++[vO []]++[pO "column" (Q.top 21)]++[⟨.type "code", none, .fields #[(S "column" 343),(S "column" 344),(S "/claim/cut.py" 345),(I 54),(I 2),(I 0),(I 0),(I 3),(R 133),(.bool true),(I 181),(R 134), .none, .none, .none,(R 135),(I 346),(I 54),(S "/claim/cut.py" 347)],#[]⟩]++[fO "column" (Q.top 21) (S "roofridges.yards" 325) 136]++[tO []]++[vO []]++[pO "columns" (Q.top 22)]++[⟨.type "code", none, .fields #[(S "columns" 349),(S "columns" 350),(S "/claim/cut.py" 351),(I 56),(I 1),(I 0),(I 0),(I 3),(R 138),(.bool true),(I 181),(R 139), .none, .none, .none,(R 140),(I 352),(I 56),(S "/claim/cut.py" 353)],#[]⟩]++[fO "columns" (Q.top 22) (S "roofridges.yards" 325) 141]++[tO []]
def hl7 (P:Params):List Obj:=[vO []]++[pO "changes" (Q.top 23)]++[⟨.type "code", none, .fields #[(S "changes" 355),(S "changes" 356),(S "/claim/cut.py" 357),(I 59),(I 1),(I 0),(I 0),(I 3),(R 143),(.bool true),(I 181),(R 144), .none, .none, .none,(R 145),(I 358),(I 59),(S "/claim/cut.py" 359)],#[]⟩]++[fO "changes" (Q.top 23) (S "roofridges.yards" 325) 146]++[tO []]++[vO []]++[pO "picked" (Q.top 24)]++[⟨.type "code", none, .fields #[(S "picked" 361),(S "picked" 362),(S "/claim/cut.py" 363),(I 65),(I 2),(I 0),(I 0),(I 3),(R 148),(.bool true),(I 181),(R 149), .none, .none, .none,(R 150),(I 364),(I 65),(S "/claim/cut.py" 365)],#[]⟩]++[fO "picked" (Q.top 24) (S "roofridges.yards" 325) 151]++[tO []]++[vO []]++[pO "tidied" (Q.top 25)]
def hl8 (P:Params):List Obj:=[⟨.type "code", none, .fields #[(S "tidied" 367),(S "tidied" 368),(S "/claim/cut.py" 369),(I 67),(I 3),(I 0),(I 0),(I 3),(R 153),(.bool true),(I 181),(R 154), .none, .none, .none,(R 155),(I 370),(I 67),(S "/claim/cut.py" 371)],#[]⟩]++[fO "tidied" (Q.top 25) (S "roofridges.yards" 325) 156]++D7 (Q.top 26) "is_whole_line" 158 373 72 1 ["thing"] (S "roofridges.yards" 325)++[tO []]++[vO []]++[pO "are_whole_lines" (Q.top 27)]++[⟨.type "code", none, .fields #[(S "are_whole_lines" 380),(S "are_whole_lines" 381),(S "/claim/cut.py" 382),(I 74),(I 1),(I 0),(I 0),(I 3),(R 165),(.bool true),(I 181),(R 166), .none, .none, .none,(R 167),(I 383),(I 74),(S "/claim/cut.py" 384)],#[]⟩]++[fO "are_whole_lines" (Q.top 27) (S "roofridges.yards" 325) 168]++[tO []]++[vO []]++[pO "made" (Q.top 28)]++[⟨.type "code", none, .fields #[(S "made" 386),(S "made" 387),(S "/claim/cut.py" 388),(I 80),(I 3),(I 0),(I 0),(I 3),(R 170),(.bool true),(I 181),(R 171), .none, .none, .none,(R 172),(I 389),(I 80),(S "/claim/cut.py" 390)],#[]⟩]
def hl9 (P:Params):List Obj:=[fO "made" (Q.top 28) (S "roofridges.yards" 325) 173]++[tO []]++[vO []]++[pO "bands_at" (Q.top 29)]++[⟨.type "code", none, .fields #[(S "bands_at" 392),(S "bands_at" 393),(S "/claim/cut.py" 394),(I 86),(I 2),(I 0),(I 0),(I 3),(R 175),(.bool true),(I 181),(R 176), .none, .none, .none,(R 177),(I 395),(I 86),(S "/claim/cut.py" 396)],#[]⟩]++[fO "bands_at" (Q.top 29) (S "roofridges.yards" 325) 178]++D7 (Q.top 30) "has_cell" 180 398 91 3 ["yard", "across", "up", "rows"] (S "roofridges.yards" 325)++D7 (Q.top 31) "lies" 187 408 96 3 ["yard", "x", "y", "cells", "up", "across"] (S "roofridges.yards" 325)++D7 (Q.top 33) "time_to" 194 422 107 2 ["way", "pace"] (S "roofridges.heights" 420)++D7 (Q.top 34) "times_to" 201 430 109 4 ["lines", "where", "down", "up", "told", "place", "from_above", "from_below"] (S "roofridges.heights" 420)++D7 (Q.top 35) "height" 208 444 117 4 ["yard", "paces", "x", "y", "across_times", "up_times", "told", "up", "up_time", "across", "across_time"] (S "roofridges.heights" 420)++[tO []]
def hl10 (P:Params):List Obj:=[vO []]++[pO "stretched" (Q.top 37)]++[⟨.type "code", none, .fields #[(S "stretched" 463),(S "stretched" 464),(S "/claim/cut.py" 465),(I 129),(I 3),(I 0),(I 0),(I 3),(R 215),(.bool true),(I 181),(R 216), .none, .none, .none,(R 217),(I 466),(I 129),(S "/claim/cut.py" 467)],#[]⟩]++[fO "stretched" (Q.top 37) (S "roofridges.moves" 461) 218]++D7 (Q.top 39) "_law_pen" 220 471 134 1 ["_law_script"] (S "law_roofridges_k22_heights_by_cells" 469)++D7 (Q.top 40) "_law_draw" 227 478 136 2 ["_law_pen_here", "_law_many", "_law_digit", "_law_place", "_law_cell", "_law_mixed"] (S "law_roofridges_k22_heights_by_cells" 469)++D7 (Q.top 41) "_law_lines" 234 490 152 2 ["_law_pen_here", "_law_gap", "_law_lines_here", "_law_k"] (S "law_roofridges_k22_heights_by_cells" 469)++[tO []]++[vO []]++[pO "_law_signs" (Q.top 42)]++[⟨.type "code", none, .fields #[(S "_law_signs" 500),(S "_law_signs" 501),(S "/claim/cut.py" 502),(I 159),(I 3),(I 0),(I 0),(I 3),(R 241),(.bool true),(I 181),(R 242), .none, .none, .none,(R 243),(I 503),(I 159),(S "/claim/cut.py" 504)],#[]⟩]++[fO "_law_signs" (Q.top 42) (S "law_roofridges_k22_heights_by_cells" 469) 244]
def hl11 (P:Params):List Obj:=D7 (Q.top 43) "_law_paces" 246 506 162 1 ["_law_pen_here", "_law_one"] (S "law_roofridges_k22_heights_by_cells" 469)++D7 (Q.top 44) "_law_number" 253 514 167 2 ["_law_upper", "_law_bottom", "_law_one", "_law_other"] (S "law_roofridges_k22_heights_by_cells" 469)++D7 (Q.top 45) "_law_along" 260 524 173 3 ["_law_pen_here", "_law_lines_here", "_law_bottom", "_law_k", "_law_way", "_law_other"] (S "law_roofridges_k22_heights_by_cells" 469)++D7 (Q.top 46) "_law_point" 267 536 182 3 ["_law_pen_here", "_law_xs", "_law_ys", "_law_bottom"] (S "law_roofridges_k22_heights_by_cells" 469)++[tO []]++[vO []]++[pO "_law_outside" (Q.top 47)]++[⟨.type "code", none, .fields #[(S "_law_outside" 546),(S "_law_outside" 547),(S "/claim/cut.py" 548),(I 185),(I 4),(I 0),(I 0),(I 3),(R 274),(.bool true),(I 181),(R 275), .none, .none, .none,(R 276),(I 549),(I 185),(S "/claim/cut.py" 550)],#[]⟩]++[fO "_law_outside" (Q.top 47) (S "law_roofridges_k22_heights_by_cells" 469) 277]++[tO []]++[vO []]++[pO "_law_high" (Q.top 48)]
def hl12 (P:Params):List Obj:=[⟨.type "code", none, .fields #[(S "_law_high" 552),(S "_law_high" 553),(S "/claim/cut.py" 554),(I 197),(I 3),(I 0),(I 0),(I 3),(R 279),(.bool true),(I 181),(R 280), .none, .none, .none,(R 281),(I 555),(I 197),(S "/claim/cut.py" 556)],#[]⟩]++[fO "_law_high" (Q.top 48) (S "law_roofridges_k22_heights_by_cells" 469) 282]++[tO []]++[vO []]++[pO "_law_right" (Q.top 49)]++[⟨.type "code", none, .fields #[(S "_law_right" 558),(S "_law_right" 559),(S "/claim/cut.py" 560),(I 203),(I 5),(I 0),(I 0),(I 3),(R 284),(.bool true),(I 181),(R 285), .none, .none, .none,(R 286),(I 561),(I 203),(S "/claim/cut.py" 562)],#[]⟩]++[fO "_law_right" (Q.top 49) (S "law_roofridges_k22_heights_by_cells" 469) 287]++D7 (Q.top 50) "law" 289 564 216 1 ["_law_script", "_law_pen_here", "_law_turn", "_law_gap", "_law_xs", "_law_ys", "_law_signs_here"] (S "law_roofridges_k22_heights_by_cells" 469)
def hl (P:Params):List Obj:=hl0 P++hl1 P++hl2 P++hl3 P++hl4 P++hl5 P++hl6 P++hl7 P++hl8 P++hl9 P++hl10 P++hl11 P++hl12 P
def hA (P:Params):Heap:=⟨Array.mk (ov [(3,boot_o_3 P),(12,vO (es12.take 0))] ((hl P).take 15)),{}⟩
def env:Env:={ scope:=PySem.Challenge.pw_roofridges_k22_heights_by_cells.main.scope,locals:=mainNs,globals:=mainNs,cells:=[],code:=(R 13),frame:=some 14 }
abbrev p:Program:=PySem.Challenge.rw_roofridges_k22_heights_by_cells.row.toRowW.1
abbrev bE:List Stmt:=behindTheImports p
abbrev cE:Code := .body bE env
theorem pre (w:World) (os:OsState):topGo treeTable p w 11 (some (R 6)) 12 ⟨boot_heap w.params,Array.mk [],boot_drawn,boot_toks,os⟩ (topStub p)=some (sh (hA w.params) 187 os,⟨denote treeTable cE,cE,(ps 0 0 0 0),B⟩):=by rw [eGo,PySem.W.Fast.te11892475500146522536,PySem.W.Fast.te14364793385576792824]; kernel_rfl!
def t0 (P:Params):BT:=bt 14 (ov [(3,boot_o_3 P),(12,vO (es12.take 0))] ((hl P).take 15))
theorem block (w:World) (os:OsState):segRun treeTable p w 11 (some (R 6)) 1 1 (sh (hA w.params) 187 os) (blockOf bE env cE (ps 0 0 0 0) B)=some (.next,(sT (t0 w.params) 15 187 os).abs,cE,(ps 0 0 0 0)):=by rw [eSeg]; kernel_rfl!
def t1 (P:Params):BT:=bt 14 (ov [(3,dO (ov [(0,E P "__name__" 165 (S "roofridges.errors" 187))] ((es3 P).take 10)) 10),(12,vO (es12.take 3)),(24,⟨(.type "type"),none, .cls { name := "RoofError", bases:=[(.type "ValueError")],mro:=[(R 24),(.type "ValueError"),(.type "Exception"),(.type "BaseException"),(.type "object")],ns:=23,qualname := "RoofError", hasDict:=true,slotNames:=[],subclasses:=[],abstract:=false,collection:=none,hasDel:=false },#[some (R 15),none,some (S "RoofError" 189),some (S "RoofError" 197),some (.builtin "ValueError.__new__"),some (.bool true)]⟩)] ((hl P).take 28))
def g1:List Stmt:=[Q.top 0,Q.top 1]
theorem r1 (w:World) (os:OsState):segRunT treeTable p w 11 (some (R 6)) 1 196 (sT (t0 w.params) 15 187 os) (piecesOf g1 env cE (ps 0 0 0 0) B)=some (.next,sT (t1 w.params) 28 207 os,cE,(ps 2 0 3 8)):=by rw [eRun]; kernel_rfl!
def t2 (P:Params):BT:=bt 14 (ov [(3,dO (ov [(0,E P "__name__" 165 (S "roofridges.errors" 187))] ((es3 P).take 11)) 11),(12,vO (es12.take 6)),(24,⟨(.type "type"),none, .cls { name := "RoofError", bases:=[(.type "ValueError")],mro:=[(R 24),(.type "ValueError"),(.type "Exception"),(.type "BaseException"),(.type "object")],ns:=23,qualname := "RoofError", hasDict:=true,slotNames:=[],subclasses:=[(R 37)],abstract:=false,collection:=none,hasDel:=false },#[some (R 15),none,some (S "RoofError" 189),some (S "RoofError" 197),some (.builtin "ValueError.__new__"),some (.bool true)]⟩)] ((hl P).take 40))
def g2:List Stmt:=[Q.top 2]
theorem r2 (w:World) (os:OsState):segRunT treeTable p w 11 (some (R 6)) 1 214 (sT (t1 w.params) 28 207 os) (piecesOf g2 env cE (ps 2 0 3 8) B)=some (.next,sT (t2 w.params) 40 223 os,cE,(ps 4 0 5 8)):=by rw [eRun]; kernel_rfl!
def t3 (P:Params):BT:=bt 14 (ov [(3,dO (ov [(0,E P "__name__" 165 (S "roofridges.fractions" 239))] ((es3 P).take 18)) 18),(12,vO (es12.take 24))] ((hl P).take 88))
def g3:List Stmt:=[Q.top 3,Q.top 4,Q.top 5,Q.top 6,Q.top 7,Q.top 8,Q.top 9,Q.top 10]
theorem r3 (w:World) (os:OsState):segRunT treeTable p w 11 (some (R 6)) 1 386 (sT (t2 w.params) 40 223 os) (piecesOf g3 env cE (ps 4 0 5 8) B)=some (.next,sT (t3 w.params) 88 285 os,cE,(ps 29 0 30 75)):=by rw [eRun]; kernel_rfl!
def t4 (P:Params):BT:=bt 14 (ov [(3,dO (ov [(0,E P "__name__" 165 (S "roofridges.yards" 325))] ((es3 P).take 33)) 33),(12,vO (es12.take 63))] ((hl P).take 165))
def g4:List Stmt:=[Q.top 11,Q.top 12,Q.top 13,Q.top 14,Q.top 15,Q.top 16,Q.top 17,Q.top 18,Q.top 19,Q.top 20,Q.top 21,Q.top 22,Q.top 23,Q.top 24,Q.top 25,Q.top 26]
theorem r4 (w:World) (os:OsState):segRunT treeTable p w 11 (some (R 6)) 1 389 (sT (t3 w.params) 88 285 os) (piecesOf g4 env cE (ps 29 0 30 75) B)=some (.next,sT (t4 w.params) 165 380 os,cE,(ps 72 0 73 61)):=by rw [eRun]; kernel_rfl!
def t5 (P:Params):BT:=bt 14 (ov [(3,dO (ov [] ((es3 P).take 45)) 45),(12,vO (es12.take 99))] ((hl P).take 241))
def g5:List Stmt:=[Q.top 27,Q.top 28,Q.top 29,Q.top 30,Q.top 31,Q.top 32,Q.top 33,Q.top 34,Q.top 35,Q.top 36,Q.top 37,Q.top 38,Q.top 39,Q.top 40,Q.top 41]
theorem r5 (w:World) (os:OsState):segRunT treeTable p w 11 (some (R 6)) 1 398 (sT (t4 w.params) 165 380 os) (piecesOf g5 env cE (ps 72 0 73 61) B)=some (.next,sT (t5 w.params) 241 500 os,cE,(ps 152 0 158 26)):=by rw [eRun]; kernel_rfl!
def t6 (P:Params):BT:=bt 14 (ov [] ((hl P).take 296))
def g6:List Stmt:=[Q.top 42,Q.top 43,Q.top 44,Q.top 45,Q.top 46,Q.top 47,Q.top 48,Q.top 49,Q.top 50]
theorem r6 (w:World) (os:OsState):segRunT treeTable p w 11 (some (R 6)) 1 268 (sT (t5 w.params) 241 500 os) (piecesOf g6 env cE (ps 152 0 158 26) B)=some (.next,sT (t6 w.params) 296 577 os,cE,(ps 216 0 225 71)):=by rw [eRun]; kernel_rfl!
def hZ (P:Params):Heap:=⟨Array.mk (hl P),{}⟩
theorem fin (w:World) (os:OsState):topRun treeTable p w 11 (some (R 6)) 2 (sT (t6 w.params) 296 577 os).abs ⟨doneF .next,cE,(ps 216 0 225 71),B⟩=some (sh (hZ w.params) 577 os):=by rw [eTop]; kernel_rfl!
theorem body:bE=g1++(g2++(g3++(g4++(g5++(g6++([])))))):=by kernel_rfl!
theorem chain (w:World) (os:OsState):topRun treeTable p w 11 (some (R 6)) (196+(214+(386+(389+(398+(268+(2))))))) (sT (t0 w.params) 15 187 os).abs (restOf (g1++(g2++(g3++(g4++(g5++(g6++([]))))))) env cE (ps 0 0 0 0) B)=some (sh (hZ w.params) 577 os):=piece_app (segRun_of (r1 w os)) (piece_app (segRun_of (r2 w os)) (piece_app (segRun_of (r3 w os)) (piece_app (segRun_of (r4 w os)) (piece_app (segRun_of (r5 w os)) (piece_app (segRun_of (r6 w os)) (fin w os))))))
theorem run (w:World) (os:OsState):topRun treeTable p w 11 (some (R 6)) (12+(1+(196+(214+(386+(389+(398+(268+(2))))))))) ⟨boot_heap w.params,Array.mk [],boot_drawn,boot_toks,os⟩ (topStub p)=some (sh (hZ w.params) 577 os):=go_top (pre w os) (piece_block (block w os) (by have h:=chain w os; rw [← body] at h; exact h))
def view:Program:={ p with main:={ p.main with body:=[Q.top 1,Q.top 2,Q.top 3,Q.top 5,Q.top 6,Q.top 7,Q.top 8,Q.top 9,Q.top 10,Q.top 11,Q.top 12,Q.top 13,Q.top 14,Q.top 15,Q.top 17,Q.top 18,Q.top 19,Q.top 20,Q.top 21,Q.top 22,Q.top 23,Q.top 24,Q.top 25,Q.top 26,Q.top 27,Q.top 28,Q.top 29,Q.top 30,Q.top 31,Q.top 33,Q.top 34,Q.top 35,Q.top 37,Q.top 39,Q.top 40,Q.top 41,Q.top 42,Q.top 43,Q.top 44,Q.top 45,Q.top 46,Q.top 47,Q.top 48,Q.top 49,Q.top 50] } }
def ob (P:Params) (i:Nat):Obj:=(hl P).getD i default
def K (P:Params):Frag:=[(nat_lit 2,ob P 2),(nat_lit 3,ob P 3),(nat_lit 15,ob P 15),(nat_lit 22,ob P 22),(nat_lit 23,ob P 23),(nat_lit 24,ob P 24),(nat_lit 25,ob P 25),(nat_lit 28,ob P 28),(nat_lit 35,ob P 35),(nat_lit 36,ob P 36),(nat_lit 37,ob P 37),(nat_lit 40,ob P 40),(nat_lit 47,ob P 47),(nat_lit 48,ob P 48),(nat_lit 49,ob P 49),(nat_lit 52,ob P 52),(nat_lit 53,ob P 53),(nat_lit 55,ob P 55),(nat_lit 56,ob P 56),(nat_lit 58,ob P 58),(nat_lit 59,fO "is_whole" (Q.top 6) (S "roofridges.fractions" 239) 58),(nat_lit 60,ob P 60),(nat_lit 62,ob P 62),(nat_lit 63,ob P 63),(nat_lit 65,ob P 65),(nat_lit 66,fO "common_divisor" (Q.top 7) (S "roofridges.fractions" 239) 65),(nat_lit 67,ob P 67),(nat_lit 69,ob P 69),(nat_lit 70,ob P 70),(nat_lit 72,ob P 72),(nat_lit 73,fO "lowest" (Q.top 8) (S "roofridges.fractions" 239) 72),(nat_lit 74,ob P 74),(nat_lit 76,ob P 76),(nat_lit 77,ob P 77),(nat_lit 79,ob P 79),(nat_lit 80,fO "fraction" (Q.top 9) (S "roofridges.fractions" 239) 79),(nat_lit 81,ob P 81),(nat_lit 83,ob P 83),(nat_lit 84,ob P 84),(nat_lit 86,ob P 86),(nat_lit 87,fO "minus" (Q.top 10) (S "roofridges.fractions" 239) 86),(nat_lit 88,ob P 88),(nat_lit 90,ob P 90),(nat_lit 91,ob P 91),(nat_lit 93,ob P 93),(nat_lit 94,fO "times" (Q.top 11) (S "roofridges.fractions" 239) 93),(nat_lit 95,ob P 95),(nat_lit 97,ob P 97),(nat_lit 98,ob P 98),(nat_lit 100,ob P 100),(nat_lit 101,fO "over" (Q.top 12) (S "roofridges.fractions" 239) 100),(nat_lit 102,ob P 102),(nat_lit 104,ob P 104),(nat_lit 105,ob P 105),(nat_lit 107,ob P 107),(nat_lit 108,fO "under" (Q.top 13) (S "roofridges.fractions" 239) 107),(nat_lit 109,ob P 109),(nat_lit 111,ob P 111),(nat_lit 112,ob P 112),(nat_lit 114,ob P 114),(nat_lit 115,fO "lesser" (Q.top 14) (S "roofridges.fractions" 239) 114),(nat_lit 116,ob P 116),(nat_lit 118,ob P 118),(nat_lit 119,ob P 119),(nat_lit 121,ob P 121),(nat_lit 122,fO "greater" (Q.top 15) (S "roofridges.fractions" 239) 121),(nat_lit 123,ob P 123),(nat_lit 126,ob P 126),(nat_lit 127,fO "is_row" (Q.top 19) (S "roofridges.yards" 325) 126),(nat_lit 128,ob P 128),(nat_lit 131,ob P 131),(nat_lit 132,fO "rows_fit" (Q.top 20) (S "roofridges.yards" 325) 131),(nat_lit 133,ob P 133),(nat_lit 136,ob P 136),(nat_lit 137,fO "column" (Q.top 21) (S "roofridges.yards" 325) 136),(nat_lit 138,ob P 138),(nat_lit 141,ob P 141),(nat_lit 142,fO "columns" (Q.top 22) (S "roofridges.yards" 325) 141),(nat_lit 143,ob P 143),(nat_lit 146,ob P 146),(nat_lit 147,fO "changes" (Q.top 23) (S "roofridges.yards" 325) 146),(nat_lit 148,ob P 148),(nat_lit 151,ob P 151),(nat_lit 152,fO "picked" (Q.top 24) (S "roofridges.yards" 325) 151),(nat_lit 153,ob P 153),(nat_lit 156,ob P 156),(nat_lit 157,fO "tidied" (Q.top 25) (S "roofridges.yards" 325) 156),(nat_lit 158,ob P 158),(nat_lit 160,ob P 160),(nat_lit 161,ob P 161),(nat_lit 163,ob P 163),(nat_lit 164,fO "is_whole_line" (Q.top 26) (S "roofridges.yards" 325) 163),(nat_lit 165,ob P 165),(nat_lit 168,ob P 168),(nat_lit 169,fO "are_whole_lines" (Q.top 27) (S "roofridges.yards" 325) 168),(nat_lit 170,ob P 170),(nat_lit 173,ob P 173),(nat_lit 174,fO "made" (Q.top 28) (S "roofridges.yards" 325) 173),(nat_lit 175,ob P 175),(nat_lit 178,ob P 178),(nat_lit 179,fO "bands_at" (Q.top 29) (S "roofridges.yards" 325) 178),(nat_lit 180,ob P 180),(nat_lit 182,ob P 182),(nat_lit 183,ob P 183),(nat_lit 185,ob P 185),(nat_lit 186,fO "has_cell" (Q.top 30) (S "roofridges.yards" 325) 185),(nat_lit 187,ob P 187),(nat_lit 189,ob P 189),(nat_lit 190,ob P 190),(nat_lit 192,ob P 192),(nat_lit 193,fO "lies" (Q.top 31) (S "roofridges.yards" 325) 192),(nat_lit 194,ob P 194),(nat_lit 196,ob P 196),(nat_lit 197,ob P 197),(nat_lit 199,ob P 199),(nat_lit 200,fO "time_to" (Q.top 33) (S "roofridges.heights" 420) 199),(nat_lit 201,ob P 201),(nat_lit 203,ob P 203),(nat_lit 204,ob P 204),(nat_lit 206,ob P 206),(nat_lit 207,fO "times_to" (Q.top 34) (S "roofridges.heights" 420) 206),(nat_lit 208,ob P 208),(nat_lit 210,ob P 210),(nat_lit 211,ob P 211),(nat_lit 213,ob P 213),(nat_lit 214,fO "height" (Q.top 35) (S "roofridges.heights" 420) 213),(nat_lit 215,ob P 215),(nat_lit 218,ob P 218),(nat_lit 219,fO "stretched" (Q.top 37) (S "roofridges.moves" 461) 218),(nat_lit 220,ob P 220),(nat_lit 222,ob P 222),(nat_lit 223,ob P 223),(nat_lit 225,ob P 225),(nat_lit 226,fO "_law_pen" (Q.top 39) (S "law_roofridges_k22_heights_by_cells" 469) 225),(nat_lit 227,ob P 227),(nat_lit 229,ob P 229),(nat_lit 230,ob P 230),(nat_lit 232,ob P 232),(nat_lit 233,fO "_law_draw" (Q.top 40) (S "law_roofridges_k22_heights_by_cells" 469) 232),(nat_lit 234,ob P 234),(nat_lit 236,ob P 236),(nat_lit 237,ob P 237),(nat_lit 239,ob P 239),(nat_lit 240,fO "_law_lines" (Q.top 41) (S "law_roofridges_k22_heights_by_cells" 469) 239),(nat_lit 241,ob P 241),(nat_lit 244,ob P 244),(nat_lit 245,fO "_law_signs" (Q.top 42) (S "law_roofridges_k22_heights_by_cells" 469) 244),(nat_lit 246,ob P 246),(nat_lit 248,ob P 248),(nat_lit 249,ob P 249),(nat_lit 251,ob P 251),(nat_lit 252,fO "_law_paces" (Q.top 43) (S "law_roofridges_k22_heights_by_cells" 469) 251),(nat_lit 253,ob P 253),(nat_lit 255,ob P 255),(nat_lit 256,ob P 256),(nat_lit 258,ob P 258),(nat_lit 259,fO "_law_number" (Q.top 44) (S "law_roofridges_k22_heights_by_cells" 469) 258),(nat_lit 260,ob P 260),(nat_lit 262,ob P 262),(nat_lit 263,ob P 263),(nat_lit 265,ob P 265),(nat_lit 266,fO "_law_along" (Q.top 45) (S "law_roofridges_k22_heights_by_cells" 469) 265),(nat_lit 267,ob P 267),(nat_lit 269,ob P 269),(nat_lit 270,ob P 270),(nat_lit 272,ob P 272),(nat_lit 273,fO "_law_point" (Q.top 46) (S "law_roofridges_k22_heights_by_cells" 469) 272),(nat_lit 274,ob P 274),(nat_lit 277,ob P 277),(nat_lit 278,fO "_law_outside" (Q.top 47) (S "law_roofridges_k22_heights_by_cells" 469) 277),(nat_lit 279,ob P 279),(nat_lit 282,ob P 282),(nat_lit 283,fO "_law_high" (Q.top 48) (S "law_roofridges_k22_heights_by_cells" 469) 282),(nat_lit 284,ob P 284),(nat_lit 287,ob P 287),(nat_lit 288,fO "_law_right" (Q.top 49) (S "law_roofridges_k22_heights_by_cells" 469) 287),(nat_lit 289,ob P 289),(nat_lit 291,ob P 291),(nat_lit 292,ob P 292),(nat_lit 294,ob P 294),(nat_lit 295,fO "law" (Q.top 50) (S "law_roofridges_k22_heights_by_cells" 469) 294)]
def as:List Addr:=[nat_lit 2,nat_lit 3,nat_lit 15,nat_lit 22,nat_lit 23,nat_lit 24,nat_lit 25,nat_lit 28,nat_lit 35,nat_lit 36,nat_lit 37,nat_lit 40,nat_lit 47,nat_lit 48,nat_lit 49,nat_lit 52,nat_lit 53,nat_lit 55,nat_lit 56,nat_lit 58,nat_lit 59,nat_lit 60,nat_lit 62,nat_lit 63,nat_lit 65,nat_lit 66,nat_lit 67,nat_lit 69,nat_lit 70,nat_lit 72,nat_lit 73,nat_lit 74,nat_lit 76,nat_lit 77,nat_lit 79,nat_lit 80,nat_lit 81,nat_lit 83,nat_lit 84,nat_lit 86,nat_lit 87,nat_lit 88,nat_lit 90,nat_lit 91,nat_lit 93,nat_lit 94,nat_lit 95,nat_lit 97,nat_lit 98,nat_lit 100,nat_lit 101,nat_lit 102,nat_lit 104,nat_lit 105,nat_lit 107,nat_lit 108,nat_lit 109,nat_lit 111,nat_lit 112,nat_lit 114,nat_lit 115,nat_lit 116,nat_lit 118,nat_lit 119,nat_lit 121,nat_lit 122,nat_lit 123,nat_lit 126,nat_lit 127,nat_lit 128,nat_lit 131,nat_lit 132,nat_lit 133,nat_lit 136,nat_lit 137,nat_lit 138,nat_lit 141,nat_lit 142,nat_lit 143,nat_lit 146,nat_lit 147,nat_lit 148,nat_lit 151,nat_lit 152,nat_lit 153,nat_lit 156,nat_lit 157,nat_lit 158,nat_lit 160,nat_lit 161,nat_lit 163,nat_lit 164,nat_lit 165,nat_lit 168,nat_lit 169,nat_lit 170,nat_lit 173,nat_lit 174,nat_lit 175,nat_lit 178,nat_lit 179,nat_lit 180,nat_lit 182,nat_lit 183,nat_lit 185,nat_lit 186,nat_lit 187,nat_lit 189,nat_lit 190,nat_lit 192,nat_lit 193,nat_lit 194,nat_lit 196,nat_lit 197,nat_lit 199,nat_lit 200,nat_lit 201,nat_lit 203,nat_lit 204,nat_lit 206,nat_lit 207,nat_lit 208,nat_lit 210,nat_lit 211,nat_lit 213,nat_lit 214,nat_lit 215,nat_lit 218,nat_lit 219,nat_lit 220,nat_lit 222,nat_lit 223,nat_lit 225,nat_lit 226,nat_lit 227,nat_lit 229,nat_lit 230,nat_lit 232,nat_lit 233,nat_lit 234,nat_lit 236,nat_lit 237,nat_lit 239,nat_lit 240,nat_lit 241,nat_lit 244,nat_lit 245,nat_lit 246,nat_lit 248,nat_lit 249,nat_lit 251,nat_lit 252,nat_lit 253,nat_lit 255,nat_lit 256,nat_lit 258,nat_lit 259,nat_lit 260,nat_lit 262,nat_lit 263,nat_lit 265,nat_lit 266,nat_lit 267,nat_lit 269,nat_lit 270,nat_lit 272,nat_lit 273,nat_lit 274,nat_lit 277,nat_lit 278,nat_lit 279,nat_lit 282,nat_lit 283,nat_lit 284,nat_lit 287,nat_lit 288,nat_lit 289,nat_lit 291,nat_lit 292,nat_lit 294,nat_lit 295]
abbrev Hk:Hook:=kHook K as (fun _=>by kernel_rfl!)
theorem opens:∀ w:World,(fencedOpening treeTable p w 3816).map (fun s=>(s.heap,s.gens,s.drawn,s.toks))=some (boot_heap w.params,Array.mk [],boot_drawn,boot_toks):=boot_open (by kernel_rfl!) (by kernel_rfl!) (fun _=>by kernel_rfl!)
abbrev Xt:Shared→Bool:=fun s=>xlAt view [] s && recOk (RowW.records PySem.Challenge.rw_roofridges_k22_heights_by_cells.row.toRowW) s
theorem size (w:World):((boot_heap w.params).isNs mainGlobals && (Array.mk ([]:List GenState)).size == 0,(boot_heap w.params).objs.size,(boot_heap w.params).nsMap mainGlobals "__annotations__")=(true,11,(some (R 6))):=by kernel_rfl!
theorem look1 (w:World) (os:OsState):(staticsOk (importedModules p.main.body) (boot_heap w.params) (hZ w.params) && namesBound p (hZ w.params) && gensDone (sh (hZ w.params) 577 os) && laidKept (boot_heap w.params) (hZ w.params))=true:=by kernel_rfl!
theorem look2 (w:World) (os:OsState):openSeen view [] (importedModules p.main.body) Xt true (sh (hZ w.params) 577 os)=openGood view []:=by rw [PySem.W.Fast.te4187177175401517315]; kernel_rfl!
theorem look3 (w:World) (os:OsState):Hk.obs (sh (hZ w.params) 577 os)=Hk.val w:=by kernel_rfl!
theorem left:LeftO p view [] Xt Hk.obs Hk.val 3816 true:=LeftO.of_pieces opens size run (by kernel_rfl!) (fun w=>funext fun os=>by rw [look1,look2,look3])
theorem said:PySem.Challenge.rw_roofridges_k22_heights_by_cells.wellSaid=true:=by rw [PySem.W.Fast.te9446332074065402090]; kernel_rfl!
end
end HD
namespace Q
open PySem L2 Z
theorem uR {K:Fg}{G:Hp}:∀ ns:List Int,Dens K G (ns.map D.int) (ns.map V.int)
 | []=>by simp only [List.map,Dens]
 | n::ns=>by simp only [List.map,Dens]; exact ⟨_,_,rfl,by simp only [Den],uR ns⟩
open HB in
theorem aEF {l:PySem.W.OpenLaw}{w:World}{h:Heap}{mg:Str→Option Value}{fa:Addr} (X:(HD.K w.params).In h) (G:h.Ns mainGlobals mg) (hfa:mg "law" = some (.ref fa)) :
  ∃ fd:FuncData,(∀ (s:Shared) (v:Value),BindsTo s fd ⟨[v],[]⟩ [("_law_script", v)])∧∀ base:Heap,(HD.K w.params).In base→base.Ns mainGlobals mg→FnOk l.prog w (HD.K w.params) mg base CX0 10 fa fd ["_law_script"] (spZ (HD.K w.params) cLaw):=by
 have T:Bt mg:=mkB X G (by kernel_rfl!)
 have C_FARTHEST:=PySem.W.mg_of X G (by kernel_rfl!:PySem.W.nsIn (HD.K w.params) mainGlobals "FARTHEST" = some (some (J 1000000000 329)))
 have C_MOST_LINES:=PySem.W.mg_of X G (by kernel_rfl!:PySem.W.nsIn (HD.K w.params) mainGlobals "MOST_LINES" = some (some (J 7 327)))
 have C_NOUGHT:=PySem.W.mg_of X G (by kernel_rfl!:PySem.W.nsIn (HD.K w.params) mainGlobals "NOUGHT" = some (some (R 52)))
 have E_NOUGHT:∀ G,Den (HD.K w.params) G (cU (p1 0)) (.ref 52):=fun G=>aFG (by kernel_rfl!:List.lookup 52 (HD.K w.params)=some (tO [(J 0 241),(J 1 242)]))
 have D1:=mkD X G "is_whole" fP ["thing"] 59 58 (S "roofridges.fractions" 239) (by kernel_rfl!) (by kernel_rfl!) (by kernel_rfl!) (by kernel_rfl!) (fun _ _ _ _ _ _ us hl=>match us,hl with | [_],_=>rfl)
 have D2:=mkD X G "common_divisor" dR ["one", "other"] 66 65 (S "roofridges.fractions" 239) (by kernel_rfl!) (by kernel_rfl!) (by kernel_rfl!) (by kernel_rfl!) (fun _ _ _ _ _ _ us hl=>match us,hl with | [_,_],_=>rfl)
 have D3:=mkD X G "under" iH ["one", "other"] 108 107 (S "roofridges.fractions" 239) (by kernel_rfl!) (by kernel_rfl!) (by kernel_rfl!) (by kernel_rfl!) (fun _ _ _ _ _ _ us hl=>match us,hl with | [_,_],_=>rfl)
 have D4:=mkD X G "bands_at" iF ["lines", "where"] 179 178 (S "roofridges.yards" 325) (by kernel_rfl!) (by kernel_rfl!) (by kernel_rfl!) (by kernel_rfl!) (fun _ _ _ _ _ _ us hl=>match us,hl with | [_,_],_=>rfl)
 have D5:=mkD X G "has_cell" fN ["yard", "across", "up"] 186 185 (S "roofridges.yards" 325) (by kernel_rfl!) (by kernel_rfl!) (by kernel_rfl!) (by kernel_rfl!) (fun _ _ _ _ _ _ us hl=>match us,hl with | [_,_,_],_=>rfl)
 have D6:=mkD X G "column" kP ["rows", "place"] 137 136 (S "roofridges.yards" 325) (by kernel_rfl!) (by kernel_rfl!) (by kernel_rfl!) (by kernel_rfl!) (fun _ _ _ _ _ _ us hl=>match us,hl with | [_,_],_=>rfl)
 have D7:=mkD X G "columns" jK ["rows"] 142 141 (S "roofridges.yards" 325) (by kernel_rfl!) (by kernel_rfl!) (by kernel_rfl!) (by kernel_rfl!) (fun _ _ _ _ _ _ us hl=>match us,hl with | [_],_=>rfl)
 have D8:=mkD X G "changes" jG ["bands"] 147 146 (S "roofridges.yards" 325) (by kernel_rfl!) (by kernel_rfl!) (by kernel_rfl!) (by kernel_rfl!) (fun _ _ _ _ _ _ us hl=>match us,hl with | [_],_=>rfl)
 have D9:=mkD X G "picked" kX ["row", "places"] 152 151 (S "roofridges.yards" 325) (by kernel_rfl!) (by kernel_rfl!) (by kernel_rfl!) (by kernel_rfl!) (fun _ _ _ _ _ _ us hl=>match us,hl with | [_,_],_=>rfl)
 have D10:=mkD X G "tidied" kO ["xs", "ys", "rows"] 157 156 (S "roofridges.yards" 325) (by kernel_rfl!) (by kernel_rfl!) (by kernel_rfl!) (by kernel_rfl!) (fun _ _ _ _ _ _ us hl=>match us,hl with | [_,_,_],_=>rfl)
 have D11:=mkD X G "lowest" fD ["top", "bottom"] 73 72 (S "roofridges.fractions" 239) (by kernel_rfl!) (by kernel_rfl!) (by kernel_rfl!) (by kernel_rfl!) (fun _ _ _ _ _ _ us hl=>match us,hl with | [_,_],_=>rfl)
 have D12:=mkD X G "fraction" fK ["top", "bottom"] 80 79 (S "roofridges.fractions" 239) (by kernel_rfl!) (by kernel_rfl!) (by kernel_rfl!) (by kernel_rfl!) (fun _ _ _ _ _ _ us hl=>match us,hl with | [_,_],_=>rfl)
 have D13:=mkD X G "minus" mS ["one", "other"] 87 86 (S "roofridges.fractions" 239) (by kernel_rfl!) (by kernel_rfl!) (by kernel_rfl!) (by kernel_rfl!) (fun _ _ _ _ _ _ us hl=>match us,hl with | [_,_],_=>rfl)
 have D14:=mkD X G "times" mV ["one", "other"] 94 93 (S "roofridges.fractions" 239) (by kernel_rfl!) (by kernel_rfl!) (by kernel_rfl!) (by kernel_rfl!) (fun _ _ _ _ _ _ us hl=>match us,hl with | [_,_],_=>rfl)
 have D15:=mkD X G "stretched" gE ["yard", "by_x", "by_y"] 219 218 (S "roofridges.moves" 461) (by kernel_rfl!) (by kernel_rfl!) (by kernel_rfl!) (by kernel_rfl!) (fun _ _ _ _ _ _ us hl=>match us,hl with | [_,_,_],_=>rfl)
 have D16:=mkD X G "is_row" kD ["thing", "wide"] 127 126 (S "roofridges.yards" 325) (by kernel_rfl!) (by kernel_rfl!) (by kernel_rfl!) (by kernel_rfl!) (fun _ _ _ _ _ _ us hl=>match us,hl with | [_,_],_=>rfl)
 have D17:=mkD X G "rows_fit" gU ["rows", "xs", "ys"] 132 131 (S "roofridges.yards" 325) (by kernel_rfl!) (by kernel_rfl!) (by kernel_rfl!) (by kernel_rfl!) (fun _ _ _ _ _ _ us hl=>match us,hl with | [_,_,_],_=>rfl)
 have D18:=mkD X G "is_whole_line" dY ["thing"] 164 163 (S "roofridges.yards" 325) (by kernel_rfl!) (by kernel_rfl!) (by kernel_rfl!) (by kernel_rfl!) (fun _ _ _ _ _ _ us hl=>match us,hl with | [_],_=>rfl)
 have D19:=mkD X G "are_whole_lines" dG ["thing"] 169 168 (S "roofridges.yards" 325) (by kernel_rfl!) (by kernel_rfl!) (by kernel_rfl!) (by kernel_rfl!) (fun _ _ _ _ _ _ us hl=>match us,hl with | [_],_=>rfl)
 have D20:=mkD X G "made" oM ["xs", "ys", "rows"] 174 173 (S "roofridges.yards" 325) (by kernel_rfl!) (by kernel_rfl!) (by kernel_rfl!) (by kernel_rfl!) (fun _ _ _ _ _ _ us hl=>match us,hl with | [_,_,_],_=>rfl)
 have D21:=mkD X G "_law_pen" qD ["_law_script"] 226 225 (S "law_roofridges_k22_heights_by_cells" 469) (by kernel_rfl!) (by kernel_rfl!) (by kernel_rfl!) (by kernel_rfl!) (fun _ _ _ _ _ _ us hl=>match us,hl with | [_],_=>rfl)
 have D22:=mkD X G "_law_draw" eZ ["_law_pen_here", "_law_many"] 233 232 (S "law_roofridges_k22_heights_by_cells" 469) (by kernel_rfl!) (by kernel_rfl!) (by kernel_rfl!) (by kernel_rfl!) (fun _ _ _ _ _ _ us hl=>match us,hl with | [_,_],_=>rfl)
 have D23:=mkD X G "_law_lines" mQ ["_law_pen_here", "_law_gap"] 240 239 (S "law_roofridges_k22_heights_by_cells" 469) (by kernel_rfl!) (by kernel_rfl!) (by kernel_rfl!) (by kernel_rfl!) (fun _ _ _ _ _ _ us hl=>match us,hl with | [_,_],_=>rfl)
 have D24:=mkD X G "_law_signs" mE ["_law_pen_here", "_law_xs", "_law_ys"] 245 244 (S "law_roofridges_k22_heights_by_cells" 469) (by kernel_rfl!) (by kernel_rfl!) (by kernel_rfl!) (by kernel_rfl!) (fun _ _ _ _ _ _ us hl=>match us,hl with | [_,_,_],_=>rfl)
 have D25:=mkD X G "_law_paces" l7 ["_law_pen_here"] 252 251 (S "law_roofridges_k22_heights_by_cells" 469) (by kernel_rfl!) (by kernel_rfl!) (by kernel_rfl!) (by kernel_rfl!) (fun _ _ _ _ _ _ us hl=>match us,hl with | [_],_=>rfl)
 have D26:=mkD X G "_law_number" iX ["_law_upper", "_law_bottom"] 259 258 (S "law_roofridges_k22_heights_by_cells" 469) (by kernel_rfl!) (by kernel_rfl!) (by kernel_rfl!) (by kernel_rfl!) (fun _ _ _ _ _ _ us hl=>match us,hl with | [_,_],_=>rfl)
 have D27:=mkD X G "over" oO ["one", "other"] 101 100 (S "roofridges.fractions" 239) (by kernel_rfl!) (by kernel_rfl!) (by kernel_rfl!) (by kernel_rfl!) (fun _ _ _ _ _ _ us hl=>match us,hl with | [_,_],_=>rfl)
 have D28:=mkD X G "greater" gH ["one", "other"] 122 121 (S "roofridges.fractions" 239) (by kernel_rfl!) (by kernel_rfl!) (by kernel_rfl!) (by kernel_rfl!) (fun _ _ _ _ _ _ us hl=>match us,hl with | [_,_],_=>rfl)
 have D29:=mkD X G "lesser" kG ["one", "other"] 115 114 (S "roofridges.fractions" 239) (by kernel_rfl!) (by kernel_rfl!) (by kernel_rfl!) (by kernel_rfl!) (fun _ _ _ _ _ _ us hl=>match us,hl with | [_,_],_=>rfl)
 have D30:=mkD X G "time_to" jD ["way", "pace"] 200 199 (S "roofridges.heights" 420) (by kernel_rfl!) (by kernel_rfl!) (by kernel_rfl!) (by kernel_rfl!) (fun _ _ _ _ _ _ us hl=>match us,hl with | [_,_],_=>rfl)
 have D31:=mkD X G "times_to" gY ["lines", "where", "down", "up"] 207 206 (S "roofridges.heights" 420) (by kernel_rfl!) (by kernel_rfl!) (by kernel_rfl!) (by kernel_rfl!) (fun _ _ _ _ _ _ us hl=>match us,hl with | [_,_,_,_],_=>rfl)
 have D32:=mkD X G "lies" nX ["yard", "x", "y"] 193 192 (S "roofridges.yards" 325) (by kernel_rfl!) (by kernel_rfl!) (by kernel_rfl!) (by kernel_rfl!) (fun _ _ _ _ _ _ us hl=>match us,hl with | [_,_,_],_=>rfl)
 have D33:=mkD X G "height" i5 ["yard", "paces", "x", "y"] 214 213 (S "roofridges.heights" 420) (by kernel_rfl!) (by kernel_rfl!) (by kernel_rfl!) (by kernel_rfl!) (fun _ _ _ _ _ _ us hl=>match us,hl with | [_,_,_,_],_=>rfl)
 have D34:=mkD X G "_law_along" mG ["_law_pen_here", "_law_lines_here", "_law_bottom"] 266 265 (S "law_roofridges_k22_heights_by_cells" 469) (by kernel_rfl!) (by kernel_rfl!) (by kernel_rfl!) (by kernel_rfl!) (fun _ _ _ _ _ _ us hl=>match us,hl with | [_,_,_],_=>rfl)
 have D35:=mkD X G "_law_point" mD ["_law_pen_here", "_law_xs", "_law_ys"] 273 272 (S "law_roofridges_k22_heights_by_cells" 469) (by kernel_rfl!) (by kernel_rfl!) (by kernel_rfl!) (by kernel_rfl!) (fun _ _ _ _ _ _ us hl=>match us,hl with | [_,_,_],_=>rfl)
 have D36:=mkD X G "_law_outside" jM ["_law_xs", "_law_ys", "_law_signs_here", "_law_bottom"] 278 277 (S "law_roofridges_k22_heights_by_cells" 469) (by kernel_rfl!) (by kernel_rfl!) (by kernel_rfl!) (by kernel_rfl!) (fun _ _ _ _ _ _ us hl=>match us,hl with | [_,_,_,_],_=>rfl)
 have D37:=mkD X G "_law_high" oQ ["_law_outside_here", "_law_paces_here", "_law_point_here"] 283 282 (S "law_roofridges_k22_heights_by_cells" 469) (by kernel_rfl!) (by kernel_rfl!) (by kernel_rfl!) (by kernel_rfl!) (fun _ _ _ _ _ _ us hl=>match us,hl with | [_,_,_],_=>rfl)
 have D38:=mkD X G "_law_right" lY ["_law_pen_here", "_law_xs", "_law_ys", "_law_signs_here", "_law_paces_here"] 288 287 (S "law_roofridges_k22_heights_by_cells" 469) (by kernel_rfl!) (by kernel_rfl!) (by kernel_rfl!) (by kernel_rfl!) (fun _ _ _ _ _ _ us hl=>match us,hl with | [_,_,_,_,_],_=>rfl)
 have D39:=mkD X G "law" lV ["_law_script"] 295 294 (S "law_roofridges_k22_heights_by_cells" 469) (by kernel_rfl!) (by kernel_rfl!) (by kernel_rfl!) (by kernel_rfl!) (fun _ _ _ _ _ _ us hl=>match us,hl with | [_],_=>rfl)
 cases hfa.symm.trans D39.m
 refine ⟨PySem.W.fnOf "law" "law" (eJ lV) (dL lV) (aO lV) .none .none .none (S "law_roofridges_k22_heights_by_cells" 469) none (.ref 294) .none,fun s v => .of_eq rfl,fun base _ _ => ?_⟩
 have G1:=sO (P:=l.prog) (w:=w) (base:=base) D1 T
 have G2:=m9 (P:=l.prog) (w:=w) (base:=base) D2 T
 have G3:=zB (P:=l.prog) (w:=w) (base:=base) D3
 have G4:=sW (P:=l.prog) (w:=w) (base:=base) D4 D3 G3 T
 have G5:=sN (P:=l.prog) (w:=w) (base:=base) D5 T
 have G6:=yS (P:=l.prog) (w:=w) (base:=base) D6
 have G7:=vG (P:=l.prog) (w:=w) (base:=base) D7 D6 G6 T
 have G8:=vF (P:=l.prog) (w:=w) (base:=base) D8 T
 have G9:=xS (P:=l.prog) (w:=w) (base:=base) D9
 have G10:=wW (P:=l.prog) (w:=w) (base:=base) D10 D8 G8 D7 G7 D9 G9 T
 have G11:=wU (P:=l.prog) (w:=w) (base:=base) D11 D2 G2
 have G12:=sU (P:=l.prog) (w:=w) (base:=base) D12 D1 G1 D11 G11
 have G13:=aAX (P:=l.prog) (w:=w) (base:=base) D13 D11 G11
 have G14:=aAD (P:=l.prog) (w:=w) (base:=base) D14 D11 G11
 have G15:=q0 (P:=l.prog) (w:=w) (base:=base) D15 D14 G14 T
 have G16:=wQ (P:=l.prog) (w:=w) (base:=base) D16 T
 have G17:=sG (P:=l.prog) (w:=w) (base:=base) D17 D16 G16 T
 have G18:=nV (P:=l.prog) (w:=w) (base:=base) D18 D1 G1 C_FARTHEST
 have G19:=lI (P:=l.prog) (w:=w) (base:=base) D19 D18 G18 T C_MOST_LINES
 have G20:=aBY (P:=l.prog) (w:=w) (base:=base) D20 D19 G19 D17 G17 D10 G10 D12 G12 T
 have G21:=aFP (P:=l.prog) (w:=w) (base:=base) D21
 have G22:=aCJ (P:=l.prog) (w:=w) (base:=base) D22 T
 have G23:=zK (P:=l.prog) (w:=w) (base:=base) D23 D22 G22 T
 have G24:=aAS (P:=l.prog) (w:=w) (base:=base) D24 D22 G22 T
 have G25:=aAE (P:=l.prog) (w:=w) (base:=base) D25 D22 G22
 have G26:=yV (P:=l.prog) (w:=w) (base:=base) D26 T
 have G27:=aCF (P:=l.prog) (w:=w) (base:=base) D27 D11 G11
 have G28:=vN (P:=l.prog) (w:=w) (base:=base) D28 D3 G3
 have G29:=wY (P:=l.prog) (w:=w) (base:=base) D29 D3 G3
 have G30:=u8 (P:=l.prog) (w:=w) (base:=base) D30 D27 G27 D12 G12
 have G31:=sH (P:=l.prog) (w:=w) (base:=base) D31 D13 G13 D30 G30 D28 G28 T
 have G32:=aCK (P:=l.prog) (w:=w) (base:=base) D32 D4 G4 D5 G5 T
 have G33:=yQ (P:=l.prog) (w:=w) (base:=base) D33 D32 G32 D31 G31 D5 G5 D29 G29 D28 G28 T C_NOUGHT E_NOUGHT
 have G34:=zF (P:=l.prog) (w:=w) (base:=base) D34 D22 G22 T
 have G35:=aAV (P:=l.prog) (w:=w) (base:=base) D35 D22 G22 D34 G34 T
 have G36:=uV (P:=l.prog) (w:=w) (base:=base) D36 T
 have G37:=aC0 (P:=l.prog) (w:=w) (base:=base) D37 D26 G26 T
 have G38:=aA1 (P:=l.prog) (w:=w) (base:=base) D38 D22 G22 D15 G15 D20 G20 D35 G35 D26 G26 D37 G37 D36 G36 D33 G33 T
 have G39:=aFT (P:=l.prog) (w:=w) (base:=base) D39 D21 G21 D22 G22 D23 G23 D24 G24 D38 G38 D25 G25 D33 G33 T
 exact G39
theorem walk {l:PySem.W.OpenLaw}{q:Program}{loose:List Str}{XP:(Str→Option Value)→Heap→Prop}{YP:World→Heap→Prop}{d:DefRec}{K:Params→PySem.W.Frag} (hn:l.most=some 63) (hdf:d.params.defaults=[])
  (hY:∀ (w:World) (h:Heap),YP w h→(K w.params).In h)
  (F:∀ (w:World) (mg:Str→Option Value) (fa:Addr) (h:Heap),(K w.params).In h→h.Ns mainGlobals mg→mg d.name=some (.ref fa) →
   ∃ fd:FuncData,(∀ (s:Shared) (u:Value),BindsTo s fd ⟨[u],[]⟩ [("_law_script", u)])∧∀ base:Heap,(K w.params).In base→base.Ns mainGlobals mg→FnOk l.prog w (K w.params) mg base CX0 10 fa fd ["_law_script"] (spZ (K w.params) cLaw)) :
  PySem.W.WalkO q loose XP YP l.row.toRowW d [] (fun f vs=>PySem.call f vs) :=
 L2.aBZ (n:=63) (k:=10) (x := "_law_script") (CX:=fun _=>CX0) (sp:=fun w=>spZ (K w.params) cLaw) hn (by decide) hdf ⟨rfl,by decide,by decide,rfl⟩ hY F
  (fun w H a ns hl _ hS=>⟨H,fun _=>none,[.fl (ns.map .int)],fun d _=>d = .bl true,⟨Same.refl H,nofun⟩,⟨_,_,rfl,aE0 hS (uR ns),by simp only [Dens]⟩,⟨ns,rfl,hl,fun _=>rfl⟩,fun v G' H' d M' _ hd e=>by subst e; simpa only [Den] using hd⟩) fun _ _ _ _ _ z=>z
end Q
open PySem PySem.W PyProof.Rows
set_option maxRecDepth 100000 in
set_option maxHeartbeats 0 in
theorem PySem.Challenge.cw_roofridges_k22_heights_by_cells_holds : PySem.Challenge.rw_roofridges_k22_heights_by_cells.Holds := by
 w_on
 refine holds_law HD.said fun said => ?_
 refine holds_open (q:=HD.view) (loose:=[]) (Xt:=HD.Xt) (XP:=XL HD.view []) (Yf:=HD.Hk.obs) (Ya:=HD.Hk.val) (YP:=HD.Hk.says) HD.left (Hook.of HD.Hk) (Hook.keeps HD.Hk) (fun s e=>xl_of s (Bool.and_eq_true_iff.mp e).1) XL.keeps (by rfl) (by rfl) (by rfl) (fun s e=>recFacts_of (Bool.and_eq_true_iff.mp e).2) (by rfl) (by first | assumption | decide +kernel) (by decide +kernel) ⟨rfl,rfl,rfl,rfl,rfl,by decide +kernel⟩ ?hw ?hc
 case hw=>w_witness2
 exact Q.walk (l:=PySem.Challenge.rw_roofridges_k22_heights_by_cells) (K:=HD.K) rfl rfl (fun w h Y=>PySem.W.kIn_of Y) fun w mg fa h KX G hmg=>Q.aEF KX G hmg
