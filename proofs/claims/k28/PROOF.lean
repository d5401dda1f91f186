import PyProof.Rows.All
import Wide.All
import OpenK.AllK
import Wide.FinOn
import Lean
import PyProof.EqAt
import PyProof.EqKinds
import PyProof.NeKinds
import PyProof.TupleCall
import PySem.Challenge.RW_roofridges_k28_grown_back_by_cells
set_option Elab.async false
set_option linter.all false
set_option maxRecDepth 100000
set_option maxHeartbeats 4000000
namespace L2
open PySem PySem.Spec PyProof.Rows
abbrev Key:=Sum Int Str
def pY:Key→Value→Bool
 | .inl k,v=>Value.isInt k v
 | .inr x,v=>Value.isStrOf x v
def keyH (w:World):Key→Int
 | .inl k=>hashInt k
 | .inr x=>hashStr w x
theorem c7:∀ {k:Key}{v:Value},pY k v=true→(∃ i t,k=Sum.inl i∧v=Value.int i t)∨(∃ x t,k=Sum.inr x∧v=Value.str x t)
 | .inl i,v,h=>by
  obtain ⟨t,e⟩:=Value.isInt_shape (k:=i) (v:=v) h
  exact .inl ⟨i,t,rfl,e⟩
 | .inr x,v,h=>by
  obtain ⟨t,e⟩:=Value.isStrOf_shape (x:=x) (v:=v) h
  exact .inr ⟨x,t,rfl,e⟩
theorem aAQ (i:Int) (t:Tok):pY (.inl i) (.int i t)=true:=by simp [pY,Value.isInt]
theorem aH0 (a b:Int):decide ((Sum.inl a:Key)=Sum.inl b)=(a == b):=by
 by_cases e:a=b
 ·subst e; simp
 ·have h:¬ (Sum.inl a:Key)=Sum.inl b:=fun q=>e (Sum.inl.inj q)
  rw [decide_eq_false h]
  exact (beq_eq_false_iff_ne.mpr e).symm
theorem aI0 (a b:Str):decide ((Sum.inr a:Key)=Sum.inr b)=decide (a=b):=by
 by_cases e:a=b
 ·subst e; simp
 ·have h:¬ (Sum.inr a:Key)=Sum.inr b:=fun q=>e (Sum.inr.inj q)
  rw [decide_eq_false h,decide_eq_false e]
theorem aH5 (a:Int) (b:Str):decide ((Sum.inl a:Key)=Sum.inr b)=false:=decide_eq_false (fun q=>nomatch q)
theorem aHV (a:Str) (b:Int):decide ((Sum.inr a:Key)=Sum.inl b)=false:=decide_eq_false (fun q=>nomatch q)
def fF (prog:Program) (w:World):PySem.KeyKind prog w Key where
 is:=pY
 hash:=keyH w
 inj:=fun v a b ha hb=>by
  rcases c7 ha with ⟨i,t,rfl,rfl⟩ | ⟨x,t,rfl,rfl⟩
  ·rcases c7 hb with ⟨j,u,rfl,e⟩ | ⟨y,u,rfl,e⟩
   ·injection e with e1 _; rw [e1]
   ·exact nomatch e
  ·rcases c7 hb with ⟨j,u,rfl,e⟩ | ⟨y,u,rfl,e⟩
   ·exact nomatch e
   ·injection e with e1 _; rw [e1]
 byValue:=fun k v h=>by
  rcases c7 h with ⟨i,t,rfl,rfl⟩ | ⟨x,t,rfl,rfl⟩ <;> rfl
 pyHash:=fun hv h=>by
  rcases c7 hv with ⟨i,t,rfl,rfl⟩ | ⟨x,t,rfl,rfl⟩
  ·exact wpAny_pyHash_int h
  ·exact wpAny_pyHash_str h
 eqBool:=fun hu hv h=>by
  rcases c7 hu with ⟨i,t,rfl,rfl⟩ | ⟨x,t,rfl,rfl⟩
  ·rcases c7 hv with ⟨j,u,rfl,rfl⟩ | ⟨y,u,rfl,rfl⟩
   ·rw [aH0] at h; exact wpAny_eqBool_int h
   ·rw [aH5] at h; exact SeqAt.EqAt.int_str i t y u _ _ _ _ h
  ·rcases c7 hv with ⟨j,u,rfl,rfl⟩ | ⟨y,u,rfl,rfl⟩
   ·rw [aHV] at h; exact SeqAt.EqAt.str_int x t j u _ _ _ _ h
   ·rw [aI0] at h; exact wpAny_eqBool_str h
 «strs» := fun k x t v h=>by
  rcases c7 h with ⟨i,u,rfl,e⟩ | ⟨y,u,rfl,e⟩
  ·exact nomatch e
  ·injection e with e1 _
   subst e1
   cases v <;> rfl
theorem yS (prog:Program) (w:World) (k:Key) (v:Value):(fF prog w).is k v=pY k v:=rfl
theorem vQ (prog:Program) (w:World) (i:Int) (t:Tok):(fF prog w).is (.inl i) (.int i t)=true:=aAQ i t
inductive V where
 | non | bl (b:Bool) | int (i:Int) | str (x:Str) | byt (b:Array UInt8) | flt (b:UInt64) | ref (a:Addr) | ty (n:String)
 deriving DecidableEq
def RelV:V→Value→Prop
 | .non,u=>u=Value.none
 | .bl b,u=>u=Value.bool b
 | .int i,u=>∃ t,u=Value.int i t
 | .str x,u=>∃ t,u=Value.str x t
 | .byt b,u=>∃ t,u=Value.bytes b t
 | .flt b,u=>∃ t,u=Value.float b t
 | .ref a,u=>u=Value.ref a
 | .ty n,u=>u=Value.type n
abbrev Vals:List V→List Value→Prop:=Paired RelV
theorem Vals.length {xs:List V}{us:List Value} (r:Vals xs us):xs.length=us.length:=Paired.length r
theorem Vals.get:∀ {xs:List V}{us:List Value}{i:Nat}{x:V},Vals xs us→xs[i]?=some x→∃ u,us[i]?=some u∧RelV x u
 | _,_,_,_, .nil,e=>by simp at e
 | _,_,0,_, .cons r _,e=>by simp at e; subst e; exact ⟨_,rfl,r⟩
 | _,_,i+1,x, .cons _ t,e=>by
  obtain ⟨u,h1,h2⟩:=Vals.get (i:=i) (x:=x) t (by simpa using e)
  exact ⟨u,by simpa using h1,h2⟩
theorem Vals.set {x:V}{u:Value} (r:RelV x u):∀ {xs:List V}{us:List Value} (i:Nat),Vals xs us→Vals (xs.set i x) (us.set i u)
 | _,_,_, .nil => .nil
 | _,_,0, .cons _ t => .cons r t
 | _,_,i+1, .cons q t => .cons q (Vals.set r i t)
theorem Vals.append:∀ {xs ys:List V}{us ws:List Value},Vals xs us→Vals ys ws→Vals (xs++ys) (us++ws)
 | _,_,_,_, .nil,s=>s
 | _,_,_,_, .cons r t,s => .cons r (Vals.append t s)
theorem Vals.take:∀ {xs:List V}{us:List Value} (n:Nat),Vals xs us→Vals (xs.take n) (us.take n)
 | _,_,0,_ => .nil
 | _,_,_+1, .nil => .nil
 | _,_,n+1, .cons r t => .cons r (Vals.take n t)
theorem Vals.drop:∀ {xs:List V}{us:List Value} (n:Nat),Vals xs us→Vals (xs.drop n) (us.drop n)
 | _,_,0,r=>r
 | _,_,_+1, .nil => .nil
 | _,_,n+1, .cons _ t=>Vals.drop n t
def RelO:Option V→Option Value→Prop
 | some v,some u=>RelV v u
 | none,none=>True
 | _,_=>False
def KV {κ:Type}:List (κ × V)→List (κ × Value)→Prop:=Paired fun (p:κ × V) (q:κ × Value)=>p.1=q.1∧RelV p.2 q.2
def kV:Key→V
 | .inl i => .int i
 | .inr x => .str x
inductive HO where
 /-- a list -/
 | lst (xs:List V)
 /-- a tuple (never changes) -/
 | tup (xs:List V)
 /-- a dict whose keys are ints and texts; one whose keys are tuples of ints and texts (the empty one is both) -/
 | dK (kvs:List (Key × V)) | dT (kvs:List (List Key × V))
 /-- a set of ints: its members,its size -/
 | set (S:Int→Bool) (n:Nat)
 /-- an instance of the class at C,its dict at dx,its attributes -/
 | ins (C dx:Addr) (fs:List (Str × V))
 /-- the dict of the instance at x -/
 | own (x:Addr)
 /-- the dict of an exception -/
 | xd (fs:List (Str × V))
 /-- a bound method,f of x -/
 | met (f x:Addr)
 /-- a range object lo,lo+1, .. below hi -/
 | rng (lo hi:Int)
 /-- a thing that is known to the object (the script; a dict while a loop walks it): read,never written while it is so -/
 | frz (o:Obj) (u:HO)
 /-- a code object's table -/
 | tbl (ps:Array Value)
 /-- any other thing,by what is true of its one object (a def of one's own: SetO a S n:=HO.ext fun h => ..) -/
 | ext (φ:Heap→Prop)
abbrev Hp:=Addr→Option HO
def upd (H:Hp) (a:Addr) (o:HO):Hp:=fun b=>if b=a then some o else H b
theorem bB {H:Hp}{a:Addr}{o:HO}:upd H a o a=some o:=by unfold upd; rw [if_pos rfl]
theorem aW {H:Hp}{a b:Addr}{o:HO} (h:b≠a):upd H a o b=H b:=by unfold upd; rw [if_neg h]
theorem bA {H:Hp}{a b:Addr}{o:HO} (h:H a=some o) (h':H b=none):a≠b:=by
 intro e; subst e; rw [h] at h'; cases h'
section
variable (P:Program) (w:World)
def eH (H:Hp) (h:Heap) (a:Addr):HO→Prop
 | .lst xs=>xs.length≤sizeLine∧∃ (its:List Value) (n:Nat),Vals xs its∧h.get? a=some { cls := .type "list", data := .seq its.toArray n }
 | .tup xs=>xs.length≤sizeLine∧∃ its:List Value,Vals xs its∧IsTup h a its.toArray
 | .dK kvs=>kvs.length≤sizeLine∧(a == sysModules)=false∧∃ vs,KV kvs vs∧h.DictOf (fF P w) a vs
 | .dT kvs=>kvs.length≤sizeLine∧(a == sysModules)=false∧∃ xs:List (List Key × Addr × Value),
   Paired (fun (p:List Key × V) (q:List Key × Addr × Value)=>p.1=q.1∧H q.2.1=some (.tup (p.1.map kV))∧RelV p.2 q.2.2) kvs xs ∧
   ∃ o es ep,h.get? a=some o∧o.ExactDict∧o.data = .dict es ep∧es.toList=xs.map (entryOfKey (tupleKind (fF P w)))∧(xs.map (·.1)).Nodup
 | .set S n=>h.SetOf (intKind P w) a S n
 | .ins C dx fs=>H dx=some (.own a)∧fs.length≤1000∧dx≠a∧h.get? a=some (PySem.W.instObj C dx) ∧
   ∃ mA,h.Ns1 dx mA∧(∀ f,RelO (fs.lookup f) (mA f))∧PySem.Within mA (fs.map (·.1))
 | .own _=>∃ o,h.get? a=some o
 | .xd fs=>∃ mA,h.Ns1 a mA∧∀ f,RelO (fs.lookup f) (mA f)
 | .rng lo hi=>∃ t u v,h.get? a=some { cls := .type "range", data := .fields #[.int lo t, .int hi u, .int 1 v] }
 | .frz o u=>h.get? a=some o∧eH H h a u
 | .tbl ps=>h.get? a=some { cls := .none,data := .fields ps }
 | .met f x=>h.get? a=some (PySem.W.methodObj (.ref f) (.ref x))
 | .ext φ=>φ h∧(∃ o,h.get? a=some o)∧∀ h1 h2:Heap,φ h1→(∀ o,h1.get? a=some o→h2.get? a=some o)→φ h2
def HOk (H:Hp) (h:Heap):Prop:=∀ a o,H a=some o→eH P w H h a o
end
section
variable {P:Program}{w:World}{H H':Hp}{h h':Heap}{a:Addr}{o:HO}
theorem eH.lt (x:eH P w H h a o):a < h.objs.size:=by
 cases o with
 | lst xs=>obtain ⟨_,_,_,_,e⟩:=x; exact Heap.lt_size e
 | tup xs=>obtain ⟨_,_,_,p⟩:=x; exact p.lt
 | dK kvs=>obtain ⟨_,_,_,_,o,_,_,e,_⟩:=x; exact Heap.lt_size e
 | dT kvs=>obtain ⟨_,_,_,_,o,_,_,e,_⟩:=x; exact Heap.lt_size e
 | set S n=>obtain ⟨o,_,_,_,e,_⟩:=x; exact Heap.lt_size e
 | ins C dx fs=>obtain ⟨_,_,_,e,_⟩:=x; exact Heap.lt_size e
 | own y=>obtain ⟨_,e⟩:=x; exact Heap.lt_size e
 | xd fs=>obtain ⟨_,⟨_,_,_,e,_⟩,_⟩:=x; exact Heap.lt_size e
 | rng lo hi=>obtain ⟨_,_,_,e⟩:=x; exact Heap.lt_size e
 | frz ob u=>obtain ⟨e,_⟩:=x; exact Heap.lt_size e
 | tbl ps=>exact Heap.lt_size (show h.get? a=some _ from x)
 | met f y=>exact Heap.lt_size (show h.get? a=some _ from x)
 | ext φ=>obtain ⟨_,⟨_,e⟩,_⟩:=x; exact Heap.lt_size e
theorem Paired.mapP {α β:Type}{F G:α→β→Prop}:∀ {l₁:List α}{l₂:List β},Paired F l₁ l₂→(∀ a b,F a b→G a b)→Paired G l₁ l₂
 | _,_, .nil,_ => .nil
 | _,_, .cons r t,f => .cons (f _ _ r) (Paired.mapP t f)
theorem eH.stay (x:eH P w H h a o) (k:∀ b u,(b=a∨H b=some (.own a))→h.get? b=some u→h'.get? b=some u)
  (ho:∀ b,H b=some (.own a)→H' b=some (.own a)) (ht:∀ b xs,H b=some (.tup xs)→H' b=some (.tup xs)):eH P w H' h' a o:=by
 induction o with
 | lst xs=>obtain ⟨z,its,n,r,e⟩:=x; exact ⟨z,its,n,r,k _ _ (.inl rfl) e⟩
 | tup xs=>obtain ⟨z,its,r,ob,e,c⟩:=x; exact ⟨z,its,r,ob,k _ _ (.inl rfl) e,c⟩
 | dK kvs=>obtain ⟨z,y,vs,r,ob,es,ep,e,c⟩:=x; exact ⟨z,y,vs,r,ob,es,ep,k _ _ (.inl rfl) e,c⟩
 | dT kvs =>
  obtain ⟨z,y,xs,r,ob,es,ep,e,c⟩:=x
  exact ⟨z,y,xs,Paired.mapP r fun p q z=>⟨z.1,ht _ _ z.2.1,z.2.2⟩,ob,es,ep,k _ _ (.inl rfl) e,c⟩
 | set S n=>obtain ⟨ob,es,ep,t,e,c⟩:=x; exact ⟨ob,es,ep,t,k _ _ (.inl rfl) e,c⟩
 | ins C dx fs =>
  obtain ⟨d,z,ne,e,mA,⟨od,es,ep,e2,c⟩,r⟩:=x
  exact ⟨ho _ d,z,ne,k _ _ (.inl rfl) e,mA,⟨od,es,ep,k _ _ (.inr d) e2,c⟩,r⟩
 | own y=>obtain ⟨ob,e⟩:=x; exact ⟨ob,k _ _ (.inl rfl) e⟩
 | xd fs=>obtain ⟨mA,⟨od,es,ep,e,c⟩,r⟩:=x; exact ⟨mA,⟨od,es,ep,k _ _ (.inl rfl) e,c⟩,r⟩
 | rng lo hi=>obtain ⟨t,u,v,e⟩:=x; exact ⟨t,u,v,k _ _ (.inl rfl) e⟩
 | frz ob u ih=>obtain ⟨e,q⟩:=x; exact ⟨k _ _ (.inl rfl) e,ih q⟩
 | tbl ps =>
  have e:h.get? a=some { cls := .none,data := .fields ps }:=x
  show h'.get? a=some { cls := .none,data := .fields ps }
  exact k a _ (.inl rfl) e
 | met f y =>
  have e:h.get? a=some (PySem.W.methodObj (.ref f) (.ref y)):=x
  show h'.get? a=some (PySem.W.methodObj (.ref f) (.ref y))
  exact k a _ (.inl rfl) e
 | ext φ=>obtain ⟨p,⟨o,e⟩,st⟩:=x; exact ⟨st _ _ p fun o q=>k _ _ (.inl rfl) q,⟨o,k _ _ (.inl rfl) e⟩,st⟩
theorem HOk.lt (x:HOk P w H h) (e:H a=some o):a < h.objs.size:=(x a o e).lt
theorem HOk.fresh (x:HOk P w H h) (e:h.objs.size≤a):H a=none:=by
 cases q:H a with
 | none=>rfl
 | some u=>exact absurd (Nat.lt_of_lt_of_le (x.lt q) e) (Nat.lt_irrefl _)
theorem HOk.kept (x:HOk P w H h) (k:∀ b u,h.get? b=some u→h'.get? b=some u):HOk P w H h':=fun a o e =>
 (x a o e).stay (fun b u _ q=>k b u q) (fun _ q=>q) fun _ _ q=>q
theorem HOk.laid (x:HOk P w H h) (k:∀ b u,h.get? b=some u→h'.get? b=some u) (hp:h.objs.size≤a) (new:eH P w (upd H a o) h' a o):HOk P w (upd H a o) h':=fun b u e=>by
 have hn:=x.fresh hp
 by_cases hb:b=a
 ·subst hb; rw [bB] at e; cases e; exact new
 ·rw [aW hb] at e
  exact (x b u e).stay (fun c v _ q=>k c v q) (fun c q=>by rw [aW (bA q hn)]; exact q) fun c xs q=>by rw [aW (bA q hn)]; exact q
end
def Rd (H:Hp) (a:Addr) (u:HO):Prop:=H a=some u∨∃ o,H a=some (.frz o u)
theorem Rd.ok {P:Program}{w:World}{H:Hp}{h:Heap}{a:Addr}{u:HO} (r:Rd H a u) (x:HOk P w H h):eH P w H h a u:=by
 rcases r with r | ⟨o,r⟩
 ·exact x a u r
 ·obtain ⟨_,q⟩:=x a _ r
  exact q
def Mut:Option HO→Prop
 | some (.lst _)=>True
 | some (.dK _)=>True
 | some (.dT _)=>True
 | some (.set _ _)=>True
 | some (.ins _ _ _)=>True
 | some (.ext _)=>True
 | _=>False
section
variable {P:Program}{w:World}{H:Hp}{h h':Heap}{x e:Addr}{o':HO}
theorem HOk.write (ok:HOk P w H h) (mu:Mut (H x)) (he:e=x∨H e=some (.own x)) (k:∀ b u,b≠e→h.get? b=some u→h'.get? b=some u) (heo:∃ u,h'.get? e=some u)
  (new:eH P w (upd H x o') h' x o'):HOk P w (upd H x o') h':=fun b u q=>by
 have nown:∀ c y,H c=some (.own y)→c≠x:=fun c y r z=>by subst z; rw [r] at mu; exact mu
 have ntup:∀ c xs,H c=some (.tup xs)→c≠x:=fun c xs r z=>by subst z; rw [r] at mu; exact mu
 by_cases hb:b=x
 ·subst hb; rw [bB] at q; cases q; exact new
 ·rw [aW hb] at q
  by_cases hbe:b=e
  ·have q':H b=some (.own x):=by
    rcases he with z | z
    ·exact absurd (hbe.trans z) hb
    ·rw [hbe]; exact z
   rw [q] at q'; cases q'
   obtain ⟨v,hv⟩:=heo
   exact ⟨v,by rw [hbe]; exact hv⟩
  ·refine (ok b u q).stay (fun c v hc r=>k c v ?_ r) (fun c r=>by rw [aW (nown c b r)]; exact r) fun c xs r=>by rw [aW (ntup c xs r)]; exact r
   rcases hc with rfl | hc
   ·exact hbe
   ·rintro rfl
    rcases he with z | z
    ·exact nown c b hc z
    ·rw [hc] at z; cases z; exact hb rfl
end
structure Un (fs ex:List Addr) (H H':Hp) (h h':Heap):Prop where
 keep:∀ b o,h.get? b=some o→H b=none→b ∉ fs→b ∉ ex→h'.get? b=some o
 slot:∀ b o,h.get? b=some o→H b=none→b∈fs→b ∉ ex→∃ sl,h'.get? b=some { o with slots:=sl }
 free:∀ b o,h.get? b=some o→H b=none→b ∉ ex→H' b=none
 there:∀ b o,h.get? b=some o→b ∉ ex→∃ o',h'.get? b=some o'
 tups:∀ b xs,H b=some (.tup xs)→H' b=some (.tup xs)
 frzs:∀ b o u,H b=some (.frz o u)→H' b=some (.frz o u)
 tbls:∀ b ps,H b=some (.tbl ps)→∃ more,H' b=some (.tbl (ps++more))
section
variable {fs fs' ex ex':List Addr}{H H1 H2:Hp}{h h1 h2 h':Heap}{a x e:Addr}{o:HO}
theorem Un.any (u:Un fs ex H H1 h h1) {b:Addr}{ob:Obj} (q:h.get? b=some ob) (n:H b=none) (hx:b ∉ ex):∃ sl,h1.get? b=some { ob with slots:=sl }:=by
 by_cases hb:b∈fs
 ·exact u.slot b ob q n hb hx
 ·exact ⟨ob.slots,u.keep b ob q n hb hx⟩
theorem Un.trans (a:Un fs ex H H1 h h1) (b:Un fs ex H1 H2 h1 h2):Un fs ex H H2 h h2 where
 keep:=fun c ob q n hc hx=>b.keep c ob (a.keep c ob q n hc hx) (a.free c ob q n hx) hc hx
 slot:=fun c ob q n hc hx=>by
  obtain ⟨sl,e1⟩:=a.slot c ob q n hc hx
  obtain ⟨sl',e2⟩:=b.slot c _ e1 (a.free c ob q n hx) hc hx
  exact ⟨sl',e2⟩
 free:=fun c ob q n hx=>by
  obtain ⟨o',e1⟩:=a.there c ob q hx
  exact b.free c o' e1 (a.free c ob q n hx) hx
 there:=fun c ob q hx=>by
  obtain ⟨o',e1⟩:=a.there c ob q hx
  exact b.there c o' e1 hx
 tups:=fun c xs q=>b.tups c xs (a.tups c xs q)
 frzs:=fun c ob xs q=>b.frzs c ob xs (a.frzs c ob xs q)
 tbls:=fun c ps q=>by
  obtain ⟨m1,e1⟩:=a.tbls c ps q
  obtain ⟨m2,e2⟩:=b.tbls c _ e1
  exact ⟨m1++m2,by rw [e2,Array.append_assoc]⟩
theorem Un.kept (k:∀ b u,h.get? b=some u→h'.get? b=some u):Un fs ex H H h h' :=
 ⟨fun b ob q _ _ _=>k b ob q,fun b ob q _ _ _=>⟨ob.slots,k b ob q⟩,fun _ _ _ n _=>n,fun b ob q _=>⟨ob,k b ob q⟩,fun _ _ q=>q,fun _ _ _ q=>q,fun _ ps q=>⟨#[],by rw [q]; simp⟩⟩
theorem Un.refl:Un fs ex H H h h:=Un.kept fun _ _ q=>q
theorem Un.laid (k:∀ b u,h.get? b=some u→h'.get? b=some u) (hp:h.objs.size≤a) (hn:H a=none):Un fs ex H (upd H a o) h h' where
 keep:=fun b u q _ _ _=>k b u q
 slot:=fun b u q _ _ _=>⟨u.slots,k b u q⟩
 free:=fun b u q n _=>by rw [aW (Nat.ne_of_lt (Nat.lt_of_lt_of_le (Heap.lt_size q) hp))]; exact n
 there:=fun b u q _=>⟨u,k b u q⟩
 tups:=fun b xs q=>by rw [aW (bA q hn)]; exact q
 frzs:=fun b u xs q=>by rw [aW (bA q hn)]; exact q
 tbls:=fun b ps q=>⟨#[],by rw [aW (bA q hn),q]; simp⟩
theorem Un.write (mu:Mut (H x)) (he:e=x∨H e=some (.own x)) (k:∀ b u,b≠e→h.get? b=some u→h'.get? b=some u) (heo:∃ u,h'.get? e=some u):Un fs ex H (upd H x o) h h':=by
 have hx:∀ b,H b=none→b≠x:=fun b n z=>by subst z; rw [n] at mu; exact mu
 have hb:∀ b,H b=none→b≠e:=fun b n z=>by
  subst z
  rcases he with r | r
  ·exact hx b n r
  ·rw [n] at r; cases r
 have hm:∀ b u,H b=some u→¬ Mut (some u)→b≠x:=fun b u q nm z=>by subst z; rw [q] at mu; exact nm mu
 refine ⟨fun b u q n _ _=>k b u (hb b n) q,fun b u q n _ _=>⟨u.slots,k b u (hb b n) q⟩,fun b u q n _=>by rw [aW (hx b n)]; exact n,fun b u q _ => ?_,
  fun b xs q=>by rw [aW (hm b _ q fun z=>z)]; exact q,fun b u xs q=>by rw [aW (hm b _ q fun z=>z)]; exact q,fun b ps q=>⟨#[],by rw [aW (hm b _ q fun z=>z),q]; simp⟩⟩
 by_cases hbe:b=e
 ·subst hbe; exact heo
 ·exact ⟨u,k b u hbe q⟩
end
def trk (h:Heap) (H:Hp):List Addr:=(List.range h.objs.size).filter fun a=>(H a).isSome
def hidT (h:Heap) (H:Hp):Heap:=PySem.W.hideAll h (trk h H)
theorem aA6 (h:Heap) (H:Hp):(hidT h H).objs.size=h.objs.size:=PySem.W.hideAll_size _ _
theorem aD2 {h:Heap}{H:Hp}{b:Addr}{o:Obj} (e:h.get? b=some o) (n:H b=none):(hidT h H).get? b=some o :=
 PySem.W.hideAll_get _ e fun hm=>by
  have q:(H b).isSome=true:=(List.mem_filter.mp hm).2
  rw [n] at q; simp at q
theorem aGD {h:Heap}{H:Hp}{b:Addr}{o:Obj} (e:(hidT h H).get? b=some o):h.get? b=some o∧H b=none:=by
 have e':h.get? b=some o:=PySem.W.of_hideAll (trk h H) e
 refine ⟨e',?_⟩
 cases q:H b with
 | none=>rfl
 | some x =>
  have hm:b∈trk h H:=List.mem_filter.mpr ⟨List.mem_range.mpr (Heap.lt_size e'),by simp [q]⟩
  have z:(hidT h H).get? b=none:=PySem.W.hideAll_none (trk h H) hm
  rw [z] at e; cases e
def aE7 (g h:Heap) (L:Addr):List (Addr × Obj):=(List.range h.objs.size).filterMap fun a=>if a=L∨(g.get? a).isSome=true then none else (h.get? a).map fun o=>(a,o)
def rest (g h:Heap) (L d:Addr):List (Addr × Obj):=(aE7 g h L).filter fun p=>decide (p.1≠d)
end L2
namespace L2
open PySem PySem.Spec PyProof.Rows
structure Mod (K:PySem.W.Frag) (mg:Str→Option Value) (base:Heap):Prop where
 kin:K.In base
 glob:base.Ns mainGlobals mg
 blt:∃ mb,base.Ns builtinsNs mb∧∀ x:Str,x ≠ "__name__" → mb x=bootBuiltins x
 nolimit:base.NoLimit
/-- the context: a def's body (or a comprehension's block) running. base: fixed through the whole law; s₀,H₀: the entry; outer: the frames whose slots others may change (a def's callers); stack: all frames that run;
   ex: iterators that were made ahead of the entry and are walked here (a comprehension's); fn: the names whose cells were made at the entry (a def: all; a comprehension's block: its own); calm: not within an except suite; pn: pins that every state bears; xe: what is wanted of an exception that leaves the code -/
structure Cx where
 prog:Program
 w:World
 K:PySem.W.Frag
 mg:Str→Option Value
 base:Heap
 A:Around
 N:List Str
 s₀:Shared
 H₀:Hp
 env:Env
 outer:List Env
 stack:List Env
 ex:List Addr
 fn:Str→Bool
 calm:Bool
 pn:List (Addr × Obj)
 xe:Value→Shared→Prop
def frs (l:List Env):List Addr:=l.filterMap (·.frame)
abbrev Cx.fs (X:Cx):List Addr:=frs X.outer
def Vis (sc:Scope) (x:Str):Prop:=sc.names.lookup x=some .local∨sc.names.lookup x=some .cell∨sc.names.lookup x=some .free
def Loc (sc:Scope) (x:Str):Prop:=sc.names.lookup x=some .local∨sc.names.lookup x=some .cell
def Look (env:Env) (h:Heap) (m:Str→Option Value) (x:Str) (u:Value):Prop :=
 (env.kindOf x=some .local∧m x=some u)∨((env.kindOf x=some .cell∨env.kindOf x=some .free)∧∃ c,env.cells.lookup x=some c∧h.IsCell c (some u))
structure Cx.Ok (X:Cx):Prop where
 mod:Mod X.K X.mg X.base
 kind:X.env.scope.kind = .function
 glob:X.env.globals=mainGlobals
 blt:X.env.builtins=builtinsNs
 above:X.s₀.heap.objs.size≤X.env.locals
 inj:∀ x y c,X.env.cells.lookup x=some c→X.env.cells.lookup y=some c→x=y
 has:∀ x,(X.env.kindOf x=some .cell∨X.env.kindOf x=some .free)→∃ c,X.env.cells.lookup x=some c
 cab:∀ x c,X.fn x=true→X.env.cells.lookup x=some c→X.s₀.heap.objs.size≤c
 hd:X.calm=true→X.A.handled=none
 frames:X.A.frames=some X.stack
 stk:X.stack=X.outer∨(X.stack=X.env::X.outer∧X.env.frame=some X.env.locals)
 exf:∀ b∈X.ex,b≠X.env.locals∧∀ x c,X.env.cells.lookup x=some c→c≠b
 bs:∀ b o,X.base.get? b=some o→X.s₀.heap.get? b=some o∧X.H₀ b=none
 bsz:X.base.objs.size≤X.s₀.heap.objs.size
 noex:∀ b o,X.base.get? b=some o→b ∉ X.ex
 exfs:∀ b∈X.ex,b ∉ X.fs
 funs:X.s₀.heap.FunFrames X.base X.outer
 frf:∀ b∈X.fs,X.H₀ b=none
structure Inv (X:Cx) (pins:List (Addr × Obj)) (σ:List (Option V)) (H:Hp) (s:Shared):Prop where
 ok:X.Ok
 os:s.os=X.s₀.os
 bare:AllBare s.gens
 base:Un X.fs X.ex X.H₀ H X.s₀.heap s.heap
 loc:∃ m,s.heap.Ns X.env.locals m∧∀ (i:Nat) (x:Str) (v:V),X.N[i]?=some x→σ[i]?=some (some v)→Vis X.env.scope x→∃ u,RelV v u∧Look X.env s.heap m x u
 cell:∀ x c,X.env.cells.lookup x=some c→∃ v,s.heap.IsCell c v
 free:H X.env.locals=none
 freeC:∀ x c,X.env.cells.lookup x=some c→H c=none
 pin:∀ p∈X.pn++pins,s.heap.get? p.1=some p.2∧H p.1=none∧p.1≠X.env.locals∧p.1 ∉ X.fs∧∀ v,p.2.data ≠ .cell v
 hok:HOk X.prog X.w H s.heap
 len:σ.length=X.N.length
section
variable {X:Cx}{pins:List (Addr × Obj)}{σ:List (Option V)}{H H':Hp}{s:Shared}{h':Heap}
theorem Cx.Ok.nofr (ok:X.Ok) {b:Addr}{o:Obj} (e:X.base.get? b=some o):b ∉ X.fs:=fun hb=>by
 have:=(ok.funs.mem hb).1
 rw [e] at this; cases this
theorem Inv.bs (I:Inv X pins σ H s):∀ b o,X.base.get? b=some o→s.heap.get? b=some o∧H b=none:=fun b o e =>
 ⟨I.base.keep b o (I.ok.bs b o e).1 (I.ok.bs b o e).2 (I.ok.nofr e) (I.ok.noex b o e),I.base.free b o (I.ok.bs b o e).1 (I.ok.bs b o e).2 (I.ok.noex b o e)⟩
theorem Inv.bk (I:Inv X pins σ H s):∀ b o,X.base.get? b=some o→s.heap.get? b=some o:=fun b o e=>(I.bs b o e).1
theorem Inv.mod (I:Inv X pins σ H s):Mod X.K X.mg X.base:=I.ok.mod
theorem Inv.kIn (I:Inv X pins σ H s):X.K.In s.heap:=I.ok.mod.kin.keeps I.bk
theorem Inv.fr (I:Inv X pins σ H s):∃ m,Fr X.base X.env.locals s.heap m :=
 let ⟨m,hn,_⟩:=I.loc
 ⟨m,hn,I.bk,Nat.le_trans I.ok.bsz I.ok.above⟩
theorem Inv.lt (I:Inv X pins σ H s):X.env.locals < s.heap.objs.size:=let ⟨_,hn,_⟩:=I.loc; hn.lt
theorem Inv.sz (I:Inv X pins σ H s):X.s₀.heap.objs.size≤s.heap.objs.size:=Nat.le_trans I.ok.above (Nat.le_of_lt I.lt)
theorem Inv.nofs (I:Inv X pins σ H s) {a:Addr} (h:s.heap.objs.size≤a):a ∉ X.fs:=fun hb=>by
 obtain ⟨_,o,ho,_⟩:=I.ok.funs.mem hb
 exact absurd (Nat.lt_of_lt_of_le (Heap.lt_size ho) (Nat.le_trans I.sz h)) (Nat.lt_irrefl _)
theorem Inv.cne (I:Inv X pins σ H s):∀ x c,X.env.cells.lookup x=some c→c≠X.env.locals:=fun x c e z=>by
 obtain ⟨v,o,ho,hd⟩:=I.cell x c e
 obtain ⟨m,⟨o',es,ep,ho',hd',_⟩,_⟩:=I.loc
 rw [z,ho'] at ho; cases ho; rw [hd'] at hd; cases hd
theorem Inv.funs (I:Inv X pins σ H s):s.heap.FunFrames X.base X.outer:=by
 have all:∀ (l:List Env),(∀ b∈frs l,b∈X.fs)→X.s₀.heap.FunFrames X.base l→s.heap.FunFrames X.base l:=by
  intro l
  induction l with
  | nil=>intro _ _; trivial
  | cons env r ih =>
   intro hs hl
   obtain ⟨hk,⟨L,o,hf,hn,ho,hd⟩,hr⟩:=hl
   have hL:L∈X.fs:=hs L (by unfold frs; rw [List.filterMap_cons,hf]; exact List.mem_cons_self)
   obtain ⟨sl,e⟩:=I.base.slot L o ho (I.ok.frf L hL) hL fun z=>I.ok.exfs L z hL
   exact ⟨hk,⟨L,_,hf,hn,e,hd⟩,ih (fun b hb=>hs b (by unfold frs; rw [List.filterMap_cons,hf]; exact List.mem_cons_of_mem _ hb)) hr⟩
 exact all X.outer (fun _ hb=>hb) I.ok.funs
theorem Inv.stack (I:Inv X pins σ H s):s.heap.FunFrames X.base X.stack:=by
 rcases I.ok.stk with e | ⟨e,hf⟩
 ·rw [e]; exact I.funs
 ·rw [e]
  obtain ⟨m,hn,_⟩:=I.loc
  refine .cons (by rw [I.ok.kind]; decide) hf hn ?_ I.funs
  exact Heap.get?_none_of_le (Nat.le_trans I.ok.bsz I.ok.above)
theorem Inv.stkSub (I:Inv X pins σ H s):∀ b∈frs X.stack,b∈X.env.locals::X.fs:=fun b hb=>by
 rcases I.ok.stk with e | ⟨e,hf⟩
 ·rw [e] at hb; exact List.mem_cons_of_mem _ hb
 ·rw [e] at hb
  unfold frs at hb
  rw [List.filterMap_cons,hf] at hb
  exact hb
theorem Inv.stkFree (I:Inv X pins σ H s):∀ b∈frs X.stack,H b=none:=fun b hb=>by
 rcases List.mem_cons.mp (I.stkSub b hb) with e | hb
 ·rw [e]; exact I.free
 ·obtain ⟨_,o,ho,_⟩:=I.ok.funs.mem hb
  exact I.base.free b o ho (I.ok.frf b hb) fun z=>I.ok.exfs b z hb
theorem Inv.step {g':Array GenState}{t':Nat}{d':Drawn}{ch:List Addr} (I:Inv X pins σ H s)
  (hch:∀ b∈ch,(b∈X.ex∨X.s₀.heap.objs.size≤b)∧b≠X.env.locals∧(∀ x c,X.env.cells.lookup x=some c→c≠b)∧∀ p∈X.pn++pins,p.1≠b)
  (keep:∀ b o,b≠X.env.locals→b ∉ X.fs→b ∉ ch→s.heap.get? b=some o→H b=none→h'.get? b=some o)
  (slot:∀ b o,b≠X.env.locals→b∈X.fs→b ∉ ch→s.heap.get? b=some o→H b=none→∃ sl,h'.get? b=some { o with slots:=sl }) (free:∀ b o,b ∉ ch→s.heap.get? b=some o→H b=none→H' b=none)
  (there:∀ b o,b ∉ ch→s.heap.get? b=some o→∃ o',h'.get? b=some o')
  (tups:∀ b xs,H b=some (.tup xs)→H' b=some (.tup xs)) (frzs:∀ b o u,H b=some (.frz o u)→H' b=some (.frz o u)) (tbls:∀ b ps,H b=some (.tbl ps)→∃ more,H' b=some (.tbl (ps++more)))
  (ns:∀ m,s.heap.Ns X.env.locals m→h'.Ns X.env.locals m) (hok:HOk X.prog X.w H' h') (hg:AllBare g') :
  Inv X pins σ H' { s with heap:=h',gens:=g',drawn:=d',toks:=t' }:=by
 have neL:∀ b o,X.s₀.heap.get? b=some o→b≠X.env.locals:=fun b o e=>Nat.ne_of_lt (Nat.lt_of_lt_of_le (Heap.lt_size e) I.ok.above)
 have neC:∀ b o,X.s₀.heap.get? b=some o→b ∉ X.ex→b ∉ ch:=fun b o e hx hb=>by
  rcases (hch b hb).1 with z | z
  ·exact hx z
  ·exact absurd (Nat.lt_of_lt_of_le (Heap.lt_size e) z) (Nat.lt_irrefl _)
 have cellK:∀ x c,X.env.cells.lookup x=some c→∀ v,s.heap.IsCell c v→h'.IsCell c v:=fun x c e v ⟨o,ho,hd⟩=>by
  have nch:c ∉ ch:=fun z=>(hch c z).2.2.1 x c e rfl
  by_cases hc:c∈X.fs
  ·obtain ⟨sl,q⟩:=slot c o (I.cne x c e) hc nch ho (I.freeC x c e)
   exact ⟨_,q,hd⟩
  ·exact ⟨o,keep c o (I.cne x c e) hc nch ho (I.freeC x c e),hd⟩
 refine ⟨I.ok,I.os,hg,⟨fun b o e n hb hx => ?_,fun b o e n hb hx => ?_,fun b o e n hx => ?_,fun b o e hx => ?_,fun b xs e=>tups b xs (I.base.tups b xs e),fun b o xs e=>frzs b o xs (I.base.frzs b o xs e),fun b ps e => ?_⟩,?_,fun x c e => ?_,?_,fun x c e => ?_,fun p hp => ?_,hok,I.len⟩
 ·exact keep b o (neL b o e) hb (neC b o e hx) (I.base.keep b o e n hb hx) (I.base.free b o e n hx)
 ·obtain ⟨sl,e1⟩:=I.base.slot b o e n hb hx
  obtain ⟨sl',e2⟩:=slot b _ (neL b o e) hb (neC b o e hx) e1 (I.base.free b o e n hx)
  exact ⟨sl',e2⟩
 ·obtain ⟨o',e1⟩:=I.base.there b o e hx
  exact free b o' (neC b o e hx) e1 (I.base.free b o e n hx)
 ·obtain ⟨o',e1⟩:=I.base.there b o e hx
  exact there b o' (neC b o e hx) e1
 ·obtain ⟨m1,e1⟩:=I.base.tbls b ps e
  obtain ⟨m2,e2⟩:=tbls b _ e1
  exact ⟨m1++m2,by rw [e2,Array.append_assoc]⟩
 ·obtain ⟨m,hn,hl⟩:=I.loc
  refine ⟨m,ns m hn,fun i x v e1 e2 e3 => ?_⟩
  obtain ⟨u,r,l⟩:=hl i x v e1 e2 e3
  refine ⟨u,r,?_⟩
  rcases l with l | ⟨k,c,e,z⟩
  ·exact .inl l
  ·exact .inr ⟨k,c,e,cellK x c e _ z⟩
 ·obtain ⟨v,z⟩:=I.cell x c e
  exact ⟨v,cellK x c e v z⟩
 ·obtain ⟨m,⟨o,_,_,ho,_⟩,_⟩:=I.loc
  exact free _ o (fun z=>(hch _ z).2.1 rfl) ho I.free
 ·obtain ⟨v,o,ho,hd⟩:=I.cell x c e
  exact free c o (fun z=>(hch c z).2.2.1 x c e rfl) ho (I.freeC x c e)
 ·obtain ⟨e,n,ne,nf,d⟩:=I.pin p hp
  have nch:p.1 ∉ ch:=fun z=>(hch p.1 z).2.2.2 p hp rfl
  exact ⟨keep p.1 p.2 ne nf nch e n,free p.1 p.2 nch e n,ne,nf,d⟩
theorem Inv.un {t':Nat} (I:Inv X pins σ H s) (u:Un X.fs [] H H' s.heap h') (hok:HOk X.prog X.w H' h'):Inv X pins σ H' { s with heap:=h',toks:=t' }:=by
 obtain ⟨m,⟨o,es,ep,ho,r⟩,_⟩:=id I.loc
 obtain ⟨sl,hL⟩:=u.any ho I.free (by simp)
 exact I.step (g':=s.gens) (d':=s.drawn) (ch:=[]) (fun _ z=>nomatch z) (fun b o _ hb _ e n=>u.keep b o e n hb (by simp)) (fun b o _ hb _ e n=>u.slot b o e n hb (by simp)) (fun b o _ e n=>u.free b o e n (by simp)) (fun b o _ e=>u.there b o e (by simp)) u.tups u.frzs u.tbls (fun m' hm=>by
  obtain ⟨o',es',ep',ho',r'⟩:=hm
  rw [ho] at ho'; cases ho'
  exact ⟨_,es',ep',hL,r'⟩) hok I.bare
theorem Inv.call {g':Array GenState}{t':Nat}{d':Drawn}{ch:List Addr} (I:Inv X pins σ H s) (u:Un (frs X.stack) ch H H' s.heap h') (hok:HOk X.prog X.w H' h') (hg:AllBare g')
  (hch:∀ b∈ch,(b∈X.ex∨X.s₀.heap.objs.size≤b)∧b≠X.env.locals∧(∀ x c,X.env.cells.lookup x=some c→c≠b)∧∀ p∈X.pn++pins,p.1≠b) :
  Inv X pins σ H' { s with heap:=h',gens:=g',drawn:=d',toks:=t' }:=by
 obtain ⟨m,⟨o,es,ep,ho,r⟩,_⟩:=id I.loc
 obtain ⟨sl,hL⟩:=u.any ho I.free fun z=>(hch _ z).2.1 rfl
 exact I.step (ch:=ch) hch (fun b o hL hb hc e n=>u.keep b o e n (fun z=>(List.mem_cons.mp (I.stkSub b z)).elim hL hb) hc) (fun b o _ _ hc e n=>u.any e n hc) (fun b o hc e n=>u.free b o e n hc) (fun b o hc e=>u.there b o e hc) u.tups u.frzs u.tbls (fun m' hm=>by
  obtain ⟨o',es',ep',ho',r'⟩:=hm
  rw [ho] at ho'; cases ho'
  exact ⟨_,es',ep',hL,r'⟩) hok hg
theorem Inv.turned {t':Nat}{it:Addr} (I:Inv X pins σ H s) (k:∀ b o,b≠it→s.heap.get? b=some o→h'.get? b=some o) (hn:H it=none) (hL:it≠X.env.locals)
  (h1:it∈X.ex∨X.s₀.heap.objs.size≤it) (h2:∀ x c,X.env.cells.lookup x=some c→c≠it) (h3:∀ p∈X.pn++pins,p.1≠it):Inv X pins σ H { s with heap:=h',toks:=t' }:=by
 have nit:∀ b u,H b=some u→b≠it:=fun b u e z=>by rw [z,hn] at e; cases e
 refine I.step (g':=s.gens) (d':=s.drawn) (ch:=[it]) (fun b hb => ?_) (fun b o _ _ hc e _=>k b o (fun z=>hc (by simp [z])) e) (fun b o _ _ hc e _=>⟨o.slots,k b o (fun z=>hc (by simp [z])) e⟩) (fun _ _ _ _ n=>n)
  (fun b o hc e=>⟨o,k b o (fun z=>hc (by simp [z])) e⟩) (fun _ _ e=>e) (fun _ _ _ e=>e) (fun b ps e=>⟨#[],by rw [e]; simp⟩) (fun m hm => ?_) (fun b u e => ?_) I.bare
 ·have e:b=it:=by simpa using hb
  subst e
  exact ⟨h1,hL,h2,h3⟩
 ·obtain ⟨o,es,ep,ho,r⟩:=hm
  exact ⟨o,es,ep,k _ o (Ne.symm hL) ho,r⟩
 ·refine (I.hok b u e).stay (fun c v hc q=>k c v ?_ q) (fun _ q=>q) fun _ _ q=>q
  rcases hc with z | z
  ·rw [z]; exact nit b u e
  ·exact nit c _ z
theorem Inv.tok (I:Inv X pins σ H s) (t:Nat):Inv X pins σ H { s with toks:=t }:=I.un (h':=s.heap) (t':=t) Un.refl I.hok
theorem Inv.kept {t':Nat} (I:Inv X pins σ H s) (k:∀ b u,s.heap.get? b=some u→h'.get? b=some u):Inv X pins σ H { s with heap:=h',toks:=t' }:=I.un (Un.kept k) (I.hok.kept k)
theorem Inv.laid {a:Addr}{o:HO}{t':Nat} (I:Inv X pins σ H s) (k:∀ b u,s.heap.get? b=some u→h'.get? b=some u) (hp:s.heap.objs.size≤a) (new:eH X.prog X.w (upd H a o) h' a o) :
  Inv X pins σ (upd H a o) { s with heap:=h',toks:=t' }:=I.un (Un.laid k hp (I.hok.fresh hp)) (I.hok.laid k hp new)
theorem Inv.write {x e:Addr}{o:HO}{t':Nat} (I:Inv X pins σ H s) (mu:Mut (H x)) (he:e=x∨H e=some (.own x)) (k:∀ b u,b≠e→s.heap.get? b=some u→h'.get? b=some u) (heo:∃ u,h'.get? e=some u)
  (new:eH X.prog X.w (upd H x o) h' x o):Inv X pins σ (upd H x o) { s with heap:=h',toks:=t' }:=I.un (Un.write mu he k heo) (I.hok.write mu he k heo new)
theorem Inv.pins_of {pins':List (Addr × Obj)} (I:Inv X pins σ H s) (h:∀ p∈pins',s.heap.get? p.1=some p.2∧H p.1=none∧p.1≠X.env.locals∧p.1 ∉ X.fs∧∀ v,p.2.data ≠ .cell v):Inv X pins' σ H s :=
 ⟨I.ok,I.os,I.bare,I.base,I.loc,I.cell,I.free,I.freeC,fun p hp=>(List.mem_append.mp hp).elim (fun z=>I.pin p (List.mem_append_left _ z)) (h p),I.hok,I.len⟩
theorem sY {N:List Str} (hN:N.Nodup) {i j:Nat}{x:Str} (a:N[i]?=some x) (b:N[j]?=some x):i=j:=by
 obtain ⟨h1,e1⟩:=List.getElem?_eq_some_iff.mp a
 obtain ⟨h2,e2⟩:=List.getElem?_eq_some_iff.mp b
 exact (List.getElem_inj hN).mp (e1.trans e2.symm)
theorem rT {M:Model}{A:Around}{E:Value→Shared→Prop}{i:Nat}{x:Str}{v:V}{u:Value}{Q:Unit→Shared→Prop} (I:Inv X pins σ H s) (hN:X.N.Nodup) (hi:X.N[i]?=some x) (hx:Loc X.env.scope x) (r:RelV v u)
  (h:∀ s',Inv X pins (σ.set i (some v)) H s'→(∃ a,Heap.SameBut a s.heap s'.heap∧(a=X.env.locals∨X.env.cells.lookup x=some a))→Q () s') (hf:X.fn x=true∨X.env.scope.names.lookup x=some .local:=by first | exact .inl rfl | exact .inr rfl | assumption):wpAny M A (storeName X.env x u) Q E s:=by
 obtain ⟨m,hn,hl⟩:=id I.loc
 have hcls:(X.env.scope.kind == .class || (X.env.scope.kind == .module && X.env.locals != X.env.globals))=false:=by rw [I.ok.kind]; rfl
 have hiσ:i < σ.length:=by rw [I.len]; exact (List.getElem?_eq_some_iff.mp hi).1
 have cne:=I.cne
 have tracked:∀ {a:Addr}{h':Heap},(∃ o,s.heap.get? a=some o∧H a=none)→Heap.SameBut a s.heap h'→HOk X.prog X.w H h':=fun {a h'} ha hs b ob e=>by
  obtain ⟨_,_,hfree⟩:=ha
  refine (I.hok b ob e).stay (fun c w' hc q=>(hs.2 c ?_).trans q) (fun _ q=>q) fun _ _ q=>q
  rintro rfl
  rcases hc with rfl | hc
  ·rw [hfree] at e; cases e
  ·rw [hfree] at hc; cases hc
 rcases hx with hk | hk
 ·refine wpAny_storeName_local hk hn (fun h' hn' hs => ?_) hcls
  obtain ⟨oL,_,_,hoL,_⟩:=id hn
  refine h _ ⟨I.ok,I.os,I.bare,⟨fun b o e n hb hx => ?_,fun b o e n hb hx => ?_,I.base.free,fun b o e hx => ?_,I.base.tups,I.base.frzs,I.base.tbls⟩,⟨_,hn',fun j y v' e1 e2 e3 => ?_⟩,fun y c e => ?_,I.free,I.freeC,fun p hp => ?_,tracked ⟨oL,hoL,I.free⟩ hs,by simpa using I.len⟩ ⟨_,hs, .inl rfl⟩
  ·exact (hs.2 b (Nat.ne_of_lt (Nat.lt_of_lt_of_le (Heap.lt_size e) I.ok.above))).trans (I.base.keep b o e n hb hx)
  ·obtain ⟨sl,e1⟩:=I.base.slot b o e n hb hx
   exact ⟨sl,(hs.2 b (Nat.ne_of_lt (Nat.lt_of_lt_of_le (Heap.lt_size e) I.ok.above))).trans e1⟩
  ·obtain ⟨o',e1⟩:=I.base.there b o e hx
   exact ⟨o',(hs.2 b (Nat.ne_of_lt (Nat.lt_of_lt_of_le (Heap.lt_size e) I.ok.above))).trans e1⟩
  ·by_cases hj:j=i
   ·subst hj
    rw [hi] at e1; cases e1
    rw [List.getElem?_set_self hiσ] at e2
    cases e2
    exact ⟨u,r, .inl ⟨hk,by simp⟩⟩
   ·rw [List.getElem?_set_ne (Ne.symm hj)] at e2
    obtain ⟨u',r',q⟩:=hl j y v' e1 e2 e3
    refine ⟨u',r',?_⟩
    rcases q with ⟨k,e⟩ | ⟨k,c,e,z⟩
    ·refine .inl ⟨k,?_⟩
     have:y≠x:=fun e=>hj (sY hN e1 (e ▸ hi))
     simp [this,e]
    ·exact .inr ⟨k,c,e,z.sameBut hs (cne y c e)⟩
  ·obtain ⟨w',z⟩:=I.cell y c e
   exact ⟨w',z.sameBut hs (cne y c e)⟩
  ·obtain ⟨e,n,ne,nf,d⟩:=I.pin p hp
   exact ⟨(hs.2 p.1 ne).trans e,n,ne,nf,d⟩
 ·have hfn:X.fn x=true:=by
   rcases hf with z | z
   ·exact z
   ·rw [z] at hk; cases hk
  obtain ⟨c,hc⟩:=I.ok.has x (.inl hk)
  obtain ⟨w',z⟩:=I.cell x c hc
  refine wpAny_storeName_cell I.ok.kind hk hc z (fun h' hc' hs => ?_)
  obtain ⟨oc,hoc,hocd⟩:=id z
  refine h { s with heap:=h' } ⟨I.ok,I.os,I.bare,⟨fun b o e n hb hx => ?_,fun b o e n hb hx => ?_,I.base.free,fun b o e hx => ?_,I.base.tups,I.base.frzs,I.base.tbls⟩,⟨m,hn.sameBut hs (Ne.symm (cne x c hc)),fun j y v' e1 e2 e3 => ?_⟩,fun y c' e => ?_,I.free,I.freeC,fun p hp => ?_,tracked ⟨oc,hoc,I.freeC x c hc⟩ hs,by simpa using I.len⟩ ⟨c,hs, .inr hc⟩
  ·exact (hs.2 b (Nat.ne_of_lt (Nat.lt_of_lt_of_le (Heap.lt_size e) (I.ok.cab x c hfn hc)))).trans (I.base.keep b o e n hb hx)
  ·obtain ⟨sl,e1⟩:=I.base.slot b o e n hb hx
   exact ⟨sl,(hs.2 b (Nat.ne_of_lt (Nat.lt_of_lt_of_le (Heap.lt_size e) (I.ok.cab x c hfn hc)))).trans e1⟩
  ·obtain ⟨o',e1⟩:=I.base.there b o e hx
   exact ⟨o',(hs.2 b (Nat.ne_of_lt (Nat.lt_of_lt_of_le (Heap.lt_size e) (I.ok.cab x c hfn hc)))).trans e1⟩
  ·by_cases hj:j=i
   ·subst hj
    rw [hi] at e1; cases e1
    rw [List.getElem?_set_self hiσ] at e2
    cases e2
    exact ⟨u,r, .inr ⟨.inl hk,c,hc,hc'⟩⟩
   ·rw [List.getElem?_set_ne (Ne.symm hj)] at e2
    obtain ⟨u',r',q⟩:=hl j y v' e1 e2 e3
    refine ⟨u',r',?_⟩
    rcases q with q | ⟨k,c',e,z'⟩
    ·exact .inl q
    ·refine .inr ⟨k,c',e,z'.sameBut hs ?_⟩
     rintro rfl
     exact hj (sY hN e1 (I.ok.inj _ _ _ e hc ▸ hi))
  ·by_cases hcc:c'=c
   ·subst hcc; exact ⟨_,hc'⟩
   ·obtain ⟨w2,z2⟩:=I.cell y c' e
    exact ⟨w2,z2.sameBut hs hcc⟩
  ·obtain ⟨e,n,ne,nf,d⟩:=I.pin p hp
   refine ⟨(hs.2 p.1 ?_).trans e,n,ne,nf,d⟩
   intro q
   rw [q,hoc] at e
   have q':oc=p.2:=Option.some.inj e
   exact d w' (by rw [← q']; exact hocd)
theorem mF {M:Model}{A:Around}{E:Value→Shared→Prop}{i:Nat}{x:Str}{v:V}{u:Value}{Q:Unit→Shared→Prop} (I:Inv X pins σ H s) (hN:X.N.Nodup) (hi:X.N[i]?=some x) (hx:Loc X.env.scope x) (r:RelV v u)
  (h:∀ s',Inv X pins (σ.set i (some v)) H s'→Q () s') (hf:X.fn x=true∨X.env.scope.names.lookup x=some .local:=by first | exact .inl rfl | exact .inr rfl | assumption):wpAny M A (storeName X.env x u) Q E s :=
 rT I hN hi hx r (fun s' I' _=>h s' I') hf
theorem Inv.call' {s':Shared}{ch:List Addr} (I:Inv X pins σ H s) (ho:s'.os=s.os) (u:Un (frs X.stack) ch H H' s.heap s'.heap) (hok:HOk X.prog X.w H' s'.heap) (hg:AllBare s'.gens)
  (hch:∀ b∈ch,(b∈X.ex∨X.s₀.heap.objs.size≤b)∧b≠X.env.locals∧(∀ x c,X.env.cells.lookup x=some c→c≠b)∧∀ p∈X.pn++pins,p.1≠b):Inv X pins σ H' s':=by
 obtain ⟨h',g',d',t',o'⟩:=s'
 have e:o'=s.os:=ho
 subst e
 exact I.call (g':=g') (t':=t') (d':=d') u hok hg hch
end
abbrev XK:=Value→Option Addr→Hp→Prop
abbrev St:=List (Option V)
abbrev VK:=V→Hp→Prop
abbrev TE:=St→Hp→VK→Prop
abbrev TT:=St→Hp→(Bool→Hp→Prop)→Prop
abbrev TA:=St→Hp→(List V→Hp→Prop)→Prop
structure Ends where
 nx:St→Hp→Prop
 rt:VK
 bk:St→Hp→Prop:=fun _ _=>False
 ct:St→Hp→Prop:=fun _ _=>False
abbrev TS:=Ends→St→Hp→Prop
def EP (X:Cx) (pins:List (Addr × Obj)) (σ:St) (Q:VK) (u:Value) (s':Shared):Prop:=∃ v H',Inv X pins σ H' s'∧RelV v u∧Q v H'
def TP (X:Cx) (pins:List (Addr × Obj)) (σ:St) (Q:Bool→Hp→Prop) (b:Bool) (s':Shared):Prop:=∃ H',Inv X pins σ H' s'∧Q b H'
def AP (X:Cx) (pins:List (Addr × Obj)) (σ:St) (Q:List V→Hp→Prop) (us:List Value) (s':Shared):Prop:=∃ vs H',Inv X pins σ H' s'∧Vals vs us∧Q vs H'
def SP (X:Cx) (pins:List (Addr × Obj)) (D:Ends) (f:Flow) (s':Shared):Prop :=
 match f with
 | .next=>∃ σ' H',Inv X pins σ' H' s'∧D.nx σ' H'
 | .brk=>∃ σ' H',Inv X pins σ' H' s'∧D.bk σ' H'
 | .cont=>∃ σ' H',Inv X pins σ' H' s'∧D.ct σ' H'
 | .ret u=>∃ v σ' H',Inv X pins σ' H' s'∧RelV v u∧D.rt v H'
def PE (X:Cx) (e:Expr) (t:TE):Prop :=
 ∀ (pins:List (Addr × Obj)) (s:Shared) (σ:St) (H:Hp) (Q:VK),Inv X pins σ H s→t σ H Q→wpAny (model X.prog X.w) X.A (eval e X.env) (EP X pins σ Q) X.xe s
def PT (X:Cx) (e:Expr) (t:TT):Prop :=
 ∀ (pins:List (Addr × Obj)) (s:Shared) (σ:St) (H:Hp) (Q:Bool→Hp→Prop),Inv X pins σ H s→t σ H Q→wpAny (model X.prog X.w) X.A (isTrue e X.env (eval e X.env)) (TP X pins σ Q) X.xe s
def PW (X:Cx) (e:Expr) (t:TT):Prop :=
 ∀ (whole:Sem Value) (pins:List (Addr × Obj)) (s:Shared) (σ:St) (H:Hp) (Q:Bool→Hp→Prop),Inv X pins σ H s→t σ H Q→wpAny (model X.prog X.w) X.A (isTrue e X.env whole) (TP X pins σ Q) X.xe s
def PA (X:Cx) (es:List Expr) (t:TA):Prop :=
 ∀ (pos:Pos) (pins:List (Addr × Obj)) (s:Shared) (σ:St) (H:Hp) (Q:List V→Hp→Prop),Inv X pins σ H s→t σ H Q→wpAny (model X.prog X.w) X.A (spliced (backTo pos (starEach es X.env))) (AP X pins σ Q) X.xe s
def PS (X:Cx) (st:Stmt) (t:TS):Prop :=
 ∀ (pins:List (Addr × Obj)) (s:Shared) (σ:St) (H:Hp) (D:Ends),Inv X pins σ H s→t D σ H→wpAny (model X.prog X.w) X.A (exec st X.env) (SP X pins D) X.xe s
def PSs (X:Cx) (st:List Stmt) (t:TS):Prop :=
 ∀ (pins:List (Addr × Obj)) (s:Shared) (σ:St) (H:Hp) (D:Ends),Inv X pins σ H s→t D σ H→wpAny (model X.prog X.w) X.A (execs st X.env) (SP X pins D) X.xe s
theorem thn {α:Type}{t:Sem α}{Q Q':α→Shared→Prop}{M:Model}{A:Around}{E:Value→Shared→Prop}{s:Shared} (h:wpAny M A t Q E s) (hQ:∀ a s,Q a s→Q' a s):wpAny M A t Q' E s:=wpAny_mono h hQ fun _ _ x=>x
end L2
namespace L2
open PySem PySem.Spec PyProof.Rows
section
variable {X:Cx}
def tVar (i:Nat):TE:=fun σ H Q=>∃ v,σ[i]?=some (some v)∧Q v H
def tC (v:V):TE:=fun _ H Q=>Q v H
theorem aBQ {i:Nat}{x:Str}{pos:Pos} (hN:X.N[i]?=some x) (hv:Vis X.env.scope x) (hd:(x == ("__debug__" : Str))=false:=by decide) (hcd:(x == ("__classdict__" : Str))=false:=by decide):PE X (.Name x pos) (tVar i):=by
 intro pins s σ H Q I h
 obtain ⟨v,e,h⟩:=h
 obtain ⟨m,hn,hl⟩:=I.loc
 obtain ⟨u,r,l⟩:=hl i x v hN e hv
 have fin:EP X pins σ Q u s:=⟨v,H,I,r,h⟩
 rcases l with ⟨hk,hm⟩ | ⟨hk,c,hc,hcell⟩
 ·exact wpAny_Name (wpAny_loadName_local I.ok.kind hk hn hm fin) hd
 ·rcases hk with hk | hk
  ·exact wpAny_Name (wpAny_loadName_cell I.ok.kind hk hc hcell fin) hd
  ·exact wpAny_Name (wpAny_loadName_free I.ok.kind hk hc hcell fin hcd) hd
theorem aIO {i j pos}:PE X (.Constant (.int i) j pos) (tC (.int i)):=fun _ _ _ H _ I h=>wpAny_Constant_int ⟨.int i,H,I.tok _,⟨_,rfl⟩,h⟩
theorem aKJ {b j pos}:PE X (.Constant (.bool b) j pos) (tC (.bl b)):=fun _ _ _ H _ I h=>Constant_bool ⟨.bl b,H,I,rfl,h⟩
theorem aIP {x j pos}:PE X (.Constant (.str x) j pos) (tC (.str x)):=fun _ _ _ H _ I h=>Calls.Constant_str ⟨.str x,H,I.tok _,⟨_,rfl⟩,h⟩
def Gl (X:Cx) (x:Str):Prop:=X.env.kindOf x=some .globalImplicit
theorem xK {E:Value→Shared→Prop}{pins:List (Addr × Obj)}{s:Shared}{σ:St}{H:Hp}{x:Str}{u:Value}{pos:Pos}{Q:Value→Shared→Prop} (I:Inv X pins σ H s) (hg:Gl X x) (hm:X.mg x=some u) (h:Q u s)
  (hd:(x == ("__debug__" : Str))=false:=by decide):wpAny (model X.prog X.w) X.A (eval (.Name x pos) X.env) Q E s :=
 Calls.Name_function_global I.ok.kind hg (Calls.loadGlobal_global (by rw [I.ok.glob]; exact I.mod.glob.keeps I.bk) hm h) hd
theorem j5 {E:Value→Shared→Prop}{pins:List (Addr × Obj)}{s:Shared}{σ:St}{H:Hp}{x:Str}{u:Value}{pos:Pos}{Q:Value→Shared→Prop} (I:Inv X pins σ H s) (hg:Gl X x) (hm:X.mg x=none) (hv:bootBuiltins x=some u) (h:Q u s)
  (hn:x ≠ "__name__" := by decide) (hd:(x == ("__debug__" : Str))=false:=by decide):wpAny (model X.prog X.w) X.A (eval (.Name x pos) X.env) Q E s:=by
 obtain ⟨mb,h1,h2⟩:=I.mod.blt
 exact Calls.Name_function_global I.ok.kind hg (Calls.loadGlobal_builtin (by rw [I.ok.glob]; exact I.mod.glob.keeps I.bk) hm (by rw [I.ok.blt]; exact h1.keeps I.bk) ((h2 x hn).trans hv) h) hd
theorem aHA {x:Str}{v:V}{u:Value}{pos:Pos} (hg:Gl X x) (hm:X.mg x=some u) (r:RelV v u) (hd:(x == ("__debug__" : Str))=false:=by decide):PE X (.Name x pos) (tC v) :=
 fun _ _ _ H _ I h=>xK I hg hm ⟨v,H,I,r,h⟩ hd
theorem aHQ {x:Str}{v:V}{u:Value}{pos:Pos} (hg:Gl X x) (hm:X.mg x=none) (hv:bootBuiltins x=some u) (r:RelV v u) (hn:x ≠ "__name__" := by decide) (hd:(x == ("__debug__" : Str))=false:=by decide):PE X (.Name x pos) (tC v) :=
 fun _ _ _ H _ I h=>j5 I hg hm hv ⟨v,H,I,r,h⟩ hn hd
variable {a b:Expr}{ta tb:TE}{pos:Pos}
def tB (t:TE):TT:=fun σ H Q=>t σ H fun x H1=>∃ c,x = .bl c∧Q c H1
theorem aI8 {e:Expr}{t:TE} (h:PE X e t) (he:∀ whole,isTrue e X.env whole=(do let v ← whole; standAt e.pos; holding [v] (truthy v)):=by intro _; rfl):PT X e (tB t):=by
 intro pins s σ H Q I hw
 refine isTrue_plain (thn (h pins s σ H _ I hw) fun v s1 ⟨x,H1,I1,r1,q1⟩ => ?_) (he _)
 obtain ⟨d,rfl,q⟩:=q1
 cases r1
 exact wpAny_truthy_bool ⟨H1,I1,q⟩
variable {tA tB':TT}{rest:List Expr}
def tAnd (t u:TT):TT:=fun σ H Q=>t σ H fun c H1=>if c=true then u σ H1 Q else Q false H1
def tOr (t u:TT):TT:=fun σ H Q=>t σ H fun c H1=>if c=true then Q true H1 else u σ H1 Q
def tNot (t:TT):TT:=fun σ H Q=>t σ H fun c H1=>Q (!c) H1
theorem aFP (ha:PT X a tA):PW X (.BoolOp .And [a] pos) tA:=by
 intro wh pins s σ H Q I h
 refine isTrue_and (thn (ha pins s σ H Q I h) fun c s1 e => ?_)
 cases c with
 | true=>exact isTrue_and_nil e
 | false=>exact e
theorem aH2 (ha:PT X a tA):PW X (.BoolOp .Or [a] pos) tA:=by
 intro wh pins s σ H Q I h
 refine isTrue_or (thn (ha pins s σ H Q I h) fun c s1 e => ?_)
 cases c with
 | false=>exact isTrue_or_nil e
 | true=>exact e
theorem aHW (ha:PT X a tA) (hb:PW X (.BoolOp .And (b::rest) pos) tB'):PW X (.BoolOp .And (a::b::rest) pos) (tAnd tA tB'):=by
 intro wh pins s σ H Q I h
 refine isTrue_and (thn (ha pins s σ H _ I h) fun c s1 ⟨H1,I1,q1⟩ => ?_)
 cases c with
 | true=>exact hb wh pins s1 σ H1 Q I1 q1
 | false=>exact ⟨H1,I1,q1⟩
theorem aJ6 (ha:PT X a tA) (hb:PW X (.BoolOp .Or (b::rest) pos) tB'):PW X (.BoolOp .Or (a::b::rest) pos) (tOr tA tB'):=by
 intro wh pins s σ H Q I h
 refine isTrue_or (thn (ha pins s σ H _ I h) fun c s1 ⟨H1,I1,q1⟩ => ?_)
 cases c with
 | true=>exact ⟨H1,I1,q1⟩
 | false=>exact hb wh pins s1 σ H1 Q I1 q1
theorem aI9 (ha:PT X a tA):PT X (.UnaryOp .Not a pos) (tNot tA):=by
 intro pins s σ H Q I h
 exact isTrue_not (ha pins s σ H (fun c H1=>Q (!c) H1) I h)
def aJY (ta tb:TE):TE:=fun σ H Q=>ta σ H fun x H1=>∃ c,x = .bl c∧if c=true then tb σ H1 Q else Q (.bl false) H1
def aJ2 (ta:TE):TE:=fun σ H Q=>ta σ H fun x H1=>∃ c,x = .bl c∧Q (.bl (!c)) H1
theorem aJL {op}{t:TE} (h:PE X a t):PE X (.BoolOp op [a] pos) t:=fun pins s σ H Q I hw=>BoolOp_one (h pins s σ H Q I hw)
theorem aH8 (ha:PE X a ta) (hb:PE X (.BoolOp .And (b::rest) pos) tb):PE X (.BoolOp .And (a::b::rest) pos) (aJY ta tb):=by
 intro pins s σ H Q I h
 refine BoolOp_and (thn (ha pins s σ H _ I h) fun v s1 ⟨x,H1,I1,r1,q1⟩ => ?_)
 obtain ⟨c,rfl,q1⟩:=q1
 cases r1
 refine wpAny_truthy_bool ?_
 cases c with
 | true=>exact hb pins s1 σ H1 Q I1 q1
 | false=>exact ⟨.bl false,H1,I1,rfl,q1⟩
theorem aIN (ha:PE X a ta):PE X (.UnaryOp .Not a pos) (aJ2 ta):=by
 intro pins s σ H Q I h
 refine UnaryOp_ (thn (ha pins s σ H _ I h) fun v s1 ⟨x,H1,I1,r1,q1⟩ => ?_)
 obtain ⟨c,rfl,q1⟩:=q1
 cases r1
 exact not_of (wpAny_truthy_bool ⟨.bl (!c),H1,I1,rfl,q1⟩)
def tIf (t:TT) (ta tb:TE):TE:=fun σ H Q=>t σ H fun c H1=>if c=true then ta σ H1 Q else tb σ H1 Q
theorem aC6 {c:Expr} (hc:PT X c tA) (ha:PE X a ta) (hb:PE X b tb):PE X (.IfExp c a b pos) (tIf tA ta tb):=by
 intro pins s σ H Q I h
 refine wpAny_IfExp (thn (hc pins s σ H _ I h) fun d s1 ⟨H1,I1,q1⟩ => ?_)
 cases d with
 | true=>exact ha pins s1 σ H1 Q I1 q1
 | false=>exact hb pins s1 σ H1 Q I1 q1
end
end L2
namespace L2
open PySem PySem.Spec PyProof.Rows
def SqL (K:PySem.W.Frag) (H:Hp) (a:Addr) (xs:List V):Prop :=
 Rd H a (.lst xs) ∨
  ∃ (o:Obj) (its:Array Value) (n:Nat),K.lookup a=some o∧o.cls = .type "list" ∧ o.dict=none∧o.data = .seq its n∧its.size≤sizeLine∧Vals xs its.toList
def SqT (K:PySem.W.Frag) (H:Hp) (a:Addr) (xs:List V):Prop :=
 Rd H a (.tup xs) ∨
  ∃ (o:Obj) (its:Array Value) (n:Nat),K.lookup a=some o∧o.cls = .type "tuple" ∧ o.data = .seq its n∧its.size≤sizeLine∧Vals xs its.toList
def absV:Value→Option V
 | .none=>some .non
 | .bool b=>some (.bl b)
 | .int i _=>some (.int i)
 | .str x _=>some (.str x)
 | .bytes b _=>some (.byt b)
 | .float b _=>some (.flt b)
 | .ref a=>some (.ref a)
 | .type n=>some (.ty n)
 | _=>none
theorem RelV.abs {x:V}{u:Value} (r:RelV x u):absV u=some x:=by
 cases x with
 | non=>cases r; rfl
 | bl _=>cases r; rfl
 | int _=>obtain ⟨t,rfl⟩:=r; rfl
 | str _=>obtain ⟨t,rfl⟩:=r; rfl
 | byt _=>obtain ⟨t,rfl⟩:=r; rfl
 | flt _=>obtain ⟨t,rfl⟩:=r; rfl
 | ref _=>cases r; rfl
 | ty _=>cases r; rfl
theorem RelV.inj {x y:V}{u:Value} (r:RelV x u) (q:RelV y u):x=y:=Option.some.inj (r.abs.symm.trans q.abs)
theorem Vals.inj:∀ {xs ys:List V}{us:List Value},Vals xs us→Vals ys us→xs=ys
 | _,_,_, .nil, .nil=>rfl
 | _,_,_, .cons r t, .cons r' t'=>by rw [r.inj r',Vals.inj t t']
section
variable {X:Cx}{pins:List (Addr × Obj)}{σ:St}{H:Hp}{s:Shared}{a:Addr}{xs ys:List V}
theorem SqL.of {K:PySem.W.Frag} (h:H a=some (.lst xs)):SqL K H a xs := .inl (.inl h)
theorem SqT.of {K:PySem.W.Frag} (h:H a=some (.tup xs)):SqT K H a xs := .inl (.inl h)
theorem Inv.list (I:Inv X pins σ H s) (h:SqL X.K H a xs):∃ its:List Value,Vals xs its∧PlainL s.heap a its.toArray∧xs.length≤sizeLine:=by
 rcases h with h | ⟨o,its,n,hk,hc,hd,hs,hz,r⟩
 ·obtain ⟨z,its,n,r,e⟩:=h.ok I.hok
  exact ⟨its,r,⟨_,n,e,rfl,rfl,rfl⟩,z⟩
 ·refine ⟨its.toList,r,⟨o,n,I.kIn a o hk,hc,hd,by simpa using hs⟩,?_⟩
  have e:=r.length
  simp only [Array.length_toList] at e
  omega
theorem Inv.tuple (I:Inv X pins σ H s) (h:SqT X.K H a xs):∃ its:List Value,Vals xs its∧IsTup s.heap a its.toArray∧xs.length≤sizeLine:=by
 rcases h with h | ⟨o,its,n,hk,hc,hs,hz,r⟩
 ·obtain ⟨z,its,r,p⟩:=h.ok I.hok
  exact ⟨its,r,p,z⟩
 ·refine ⟨its.toList,r,⟨o,I.kIn a o hk,hc,n,by simpa using hs⟩,?_⟩
  have e:=r.length
  simp only [Array.length_toList] at e
  omega
theorem Inv.list_inj (I:Inv X pins σ H s) (h:SqL X.K H a xs) (h':SqL X.K H a ys):xs=ys:=by
 obtain ⟨its,r,⟨o,n,e,_,_,d⟩,_⟩:=I.list h
 obtain ⟨its',r',⟨o',n',e',_,_,d'⟩,_⟩:=I.list h'
 rw [e] at e'; cases e'
 rw [d] at d'
 injection d' with d1 _
 have:its=its':=by simpa using congrArg Array.toList d1
 subst this
 exact r.inj r'
theorem Inv.tuple_inj (I:Inv X pins σ H s) (h:SqT X.K H a xs) (h':SqT X.K H a ys):xs=ys:=by
 obtain ⟨its,r,⟨o,e,_,n,d⟩,_⟩:=I.tuple h
 obtain ⟨its',r',⟨o',e',_,n',d'⟩,_⟩:=I.tuple h'
 rw [e] at e'; cases e'
 rw [d] at d'
 injection d' with d1 _
 have:its=its':=by simpa using congrArg Array.toList d1
 subst this
 exact r.inj r'
end
abbrev Cx.wish (X:Cx) (E:Value→Shared→Prop):Cx:={ X with xe:=E }
abbrev Cx.nox (X:Cx):Cx:=X.wish fun _ _=>False
theorem Cx.Ok.wish {X:Cx} (ok:X.Ok) (E:Value→Shared→Prop):(X.wish E).Ok :=
 ⟨ok.mod,ok.kind,ok.glob,ok.blt,ok.above,ok.inj,ok.has,ok.cab,ok.hd,ok.frames,ok.stk,ok.exf,ok.bs,ok.bsz,ok.noex,ok.exfs,ok.funs,ok.frf⟩
theorem Cx.Ok.unwish {X:Cx}{E:Value→Shared→Prop} (ok:(X.wish E).Ok):X.Ok :=
 ⟨ok.mod,ok.kind,ok.glob,ok.blt,ok.above,ok.inj,ok.has,ok.cab,ok.hd,ok.frames,ok.stk,ok.exf,ok.bs,ok.bsz,ok.noex,ok.exfs,ok.funs,ok.frf⟩
section
variable {X:Cx}{pins:List (Addr × Obj)}{σ:St}{H:Hp}{s:Shared}{E:Value→Shared→Prop}
theorem Inv.wish (I:Inv X pins σ H s) (E:Value→Shared→Prop):Inv (X.wish E) pins σ H s:=⟨I.ok.wish E,I.os,I.bare,I.base,I.loc,I.cell,I.free,I.freeC,I.pin,I.hok,I.len⟩
theorem Inv.unwish (I:Inv (X.wish E) pins σ H s):Inv X pins σ H s:=⟨I.ok.unwish,I.os,I.bare,I.base,I.loc,I.cell,I.free,I.freeC,I.pin,I.hok,I.len⟩
theorem SP.unwish {D:Ends}{f:Flow}{s':Shared} (h:SP (X.wish E) pins D f s'):SP X pins D f s':=by
 cases f with
 | next=>obtain ⟨σ',H',I,q⟩:=h; exact ⟨σ',H',I.unwish,q⟩
 | brk=>obtain ⟨σ',H',I,q⟩:=h; exact ⟨σ',H',I.unwish,q⟩
 | cont=>obtain ⟨σ',H',I,q⟩:=h; exact ⟨σ',H',I.unwish,q⟩
 | ret u=>obtain ⟨v,σ',H',I,r,q⟩:=h; exact ⟨v,σ',H',I.unwish,r,q⟩
theorem PSs.nox {st:List Stmt}{t:TS} (h:PSs X.nox st t):PSs X st t:=fun pins s σ H D I hw =>
 wpAny_mono (h pins s σ H D (I.wish _) hw) (fun _ _ q=>q.unwish) fun _ _ z=>False.elim z
end
section
variable {X:Cx}{st:Stmt}{rest:List Stmt}{t u:TS}{e:Expr}{te:TE}{pos:Pos}
def aJT:TS:=fun D σ H=>D.nx σ H
def tSeq (t u:TS):TS:=fun D σ H=>t { D with nx:=u D } σ H
theorem aFT:PSs X [] aJT:=fun _ _ σ H _ I h=>wpAny_execs_nil ⟨σ,H,I,h⟩
theorem aDB (h1:PS X st t) (h2:PSs X rest u):PSs X (st::rest) (tSeq t u):=by
 intro pins s σ H D I h
 refine wpAny_execs_cons (thn (h1 pins s σ H { D with nx:=u D } I h) fun f s1 q => ?_)
 cases f with
 | next =>
  obtain ⟨σ',H',I',q⟩:=q
  exact h2 pins s1 σ' H' D I' q
 | ret v=>exact q
 | brk=>exact q
 | cont=>exact q
theorem aHC (h1:PS X st t):PSs X [st] t:=by
 intro pins s σ H D I h
 refine wpAny_execs_cons (thn (h1 pins s σ H D I h) fun f s1 q => ?_)
 cases f with
 | next=>exact wpAny_execs_nil q
 | ret v=>exact q
 | brk=>exact q
 | cont=>exact q
theorem Inv.quiet {pins:List (Addr × Obj)}{σ:St}{H:Hp}{s:Shared} (I:Inv X pins σ H s):interactive X.env=false:=by simp [interactive,I.ok.kind]
def aJ4 (te:TE):TS:=fun D σ H=>te σ H fun _ H1=>D.nx σ H1
theorem aG2 (he:PE X e te) (hs:swapsWith e none pos.line X.env=pure false:=by rfl):PS X (.Expr e pos) (aJ4 te):=by
 intro pins s σ H D I h
 exact wpAny_Expr_any (thn (he pins s σ H _ I h) fun v s1 ⟨x,H1,I1,r1,q1⟩=>⟨σ,H1,I1,q1⟩) I.quiet hs
def tRet (te:TE):TS:=fun D σ H=>te σ H D.rt
theorem aJF (he:PE X e te):PS X (.Return (some e) pos) (tRet te):=by
 intro pins s σ H D I h
 exact wpAny_Return_some (thn (he pins s σ H _ I h) fun v s1 ⟨x,H1,I1,r1,q1⟩=>⟨x,σ,H1,I1,r1,q1⟩)
def tIfS (c:TT) (t u:TS):TS:=fun D σ H=>c σ H fun b H1=>if b=true then t D σ H1 else u D σ H1
theorem aJS {c:Expr}{a b:List Stmt}{tc:TT} (hc:PT X c tc) (ha:PSs X a t) (hb:PSs X b u):PS X (.If c a b pos) (tIfS tc t u):=by
 intro pins s σ H D I h
 refine wpAny_If (thn (hc pins s σ H _ I h) fun d s1 ⟨H1,I1,q1⟩ => ?_)
 cases d with
 | true=>exact ha pins s1 σ H1 D I1 q1
 | false=>exact hb pins s1 σ H1 D I1 q1
end
abbrev TG:=V→St→Hp→(St→Hp→Prop)→Prop
abbrev TGs:=List V→St→Hp→(St→Hp→Prop)→Prop
def PG (X:Cx) (target:Expr) (t:TG):Prop :=
 ∀ (pins:List (Addr × Obj)) (s:Shared) (σ:St) (H:Hp) (v:V) (u:Value) (Q:St→Hp→Prop),Inv X pins σ H s→RelV v u→t v σ H Q →
  wpAny (model X.prog X.w) X.A (assign target X.env u) (fun _ s'=>∃ σ' H',Inv X pins σ' H' s'∧Q σ' H') X.xe s
def PGs (X:Cx) (ts:List Expr) (t:TGs):Prop :=
 ∀ (pins:List (Addr × Obj)) (s:Shared) (σ:St) (H:Hp) (vs:List V) (us:List Value) (Q:St→Hp→Prop),Inv X pins σ H s→Vals vs us→t vs σ H Q →
  wpAny (model X.prog X.w) X.A (assignInOrder ((assignEach ts X.env).map (·.2)) us) (fun _ s'=>∃ σ' H',Inv X pins σ' H' s'∧Q σ' H') X.xe s
abbrev TSet:=V→V→V→Hp→(Hp→Prop)→Prop
def PSet (X:Cx) (t:TSet):Prop :=
 ∀ (pins:List (Addr × Obj)) (s:Shared) (σ:St) (H:Hp) (o i v:V) (ov iv u:Value) (Q:Hp→Prop),Inv X pins σ H s→RelV o ov→RelV i iv→RelV v u→t o i v H Q →
  wpAny (model X.prog X.w) X.A (setItem ov iv u) (fun _ s'=>∃ H',Inv X pins σ H' s'∧Q H') X.xe s
section
variable {X:Cx}{pos:Pos}
def lJ (i:Nat):TG:=fun v σ H Q=>Q (σ.set i (some v)) H
theorem oH {i:Nat}{x:Str} (hN:X.N.Nodup) (hi:X.N[i]?=some x) (hx:Loc X.env.scope x) (hf:X.fn x=true∨X.env.scope.names.lookup x=some .local:=by first | exact .inl rfl | exact .inr rfl | assumption):PG X (.Name x pos) (lJ i):=by
 intro pins s σ H v u Q I r h
 exact wpAny_assign_Name (mF I hN hi hx r (fun s' I'=>⟨_,H,I',h⟩) hf)
def gNil:TGs:=fun vs σ H Q=>vs=[]∧Q σ H
def yV (t:TG) (u:TGs):TGs:=fun vs σ H Q=>∃ v r,vs=v::r∧t v σ H fun σ' H'=>u r σ' H' Q
theorem wW:PGs X [] gNil:=by
 intro pins s σ H vs us Q I r h
 obtain ⟨e,h⟩:=h
 subst e
 cases r
 exact assignInOrder_nil ⟨σ,H,I,h⟩
theorem pD {e:Expr}{es:List Expr}{t:TG}{u:TGs} (h1:PG X e t) (h2:PGs X es u)
  (hs:(assignEach (e::es) X.env).map (·.2)=assign e X.env::(assignEach es X.env).map (·.2):=by rfl):PGs X (e::es) (yV t u):=by
 intro pins s σ H vs us Q I r h
 obtain ⟨v,vr,e1,h⟩:=h
 subst e1
 cases r with
 | cons r rr =>
  rw [hs]
  refine assignInOrder_cons (thn (h1 pins s σ H _ _ _ I r h) fun _ s1 ⟨σ1,H1,I1,q1⟩ => ?_)
  exact h2 pins s1 σ1 H1 _ _ Q I1 rr q1
def gTup (K:PySem.W.Frag) (n:Nat) (t:TGs):TG:=fun v σ H Q=>∃ a xs,v = .ref a∧SqT K H a xs∧xs.length=n∧t xs σ H Q
theorem zY {es:List Expr}{k:Nat}{t:TGs}{n:Nat} (hc:X.calm=true) (h:PGs X es t)
  (hn:(assignEach es X.env).length=n:=by rfl) (hst:(assignEach es X.env).findIdx? (·.1)=none:=by rfl):PG X (.Tuple es k pos) (gTup X.K n t):=by
 intro pins s σ H v u Q I r hw
 obtain ⟨a,xs,e1,hq,hl,hw⟩:=hw
 subst e1
 cases r
 obtain ⟨its,rv,ht,hz⟩:=I.tuple hq
 refine assign_Tuple_tuple (I.ok.hd hc) ht (by simp [hn,← hl,rv.length]) hst fun h' hx => ?_
 have I1:Inv X pins σ H { s with heap:=h' }:=I.kept (t':=s.toks) fun b o e=>hx b o (Nat.ne_of_lt (Heap.lt_size e)) e
 exact h pins _ σ H xs _ Q I1 (by simpa using rv) hw
def gSub (to ti:TE) (t:TSet):TG:=fun v σ H Q=>to σ H fun o H1=>ti σ H1 fun i H2=>t o i v H2 fun H3=>Q σ H3
theorem aAE {o i:Expr}{to ti:TE}{t:TSet} (ho:PE X o to) (hi:PE X i ti) (hs:PSet X t)
  (ha:∀ v,assign (.Subscript o i pos) X.env v=(do
   let ov ← holding [v] (eval o X.env)
   let iv ← holding [v,ov] (eval i X.env)
   standAt pos
   holding [v,ov,iv] (setItem ov iv v)
   release [v,ov,iv] []):=by intro _; rfl):PG X (.Subscript o i pos) (gSub to ti t):=by
 intro pins s σ H v u Q I r h
 rw [ha]
 refine wpAny_bind (wpAny_holding (thn (ho pins s σ H _ I h) fun ov s1 ⟨x,H1,I1,r1,q1⟩ => ?_))
 refine wpAny_bind (wpAny_holding (thn (hi pins s1 σ H1 _ I1 q1) fun iv s2 ⟨y,H2,I2,r2,q2⟩ => ?_))
 refine wpAny_bind (wpAny_standAt (wpAny_bind (wpAny_holding (thn (hs pins s2 σ H2 x y v ov iv u _ I2 r1 r2 r q2) fun _ s3 ⟨H3,I3,q3⟩ => ?_))))
 exact wpAny_release ⟨σ,H3,I3,q3⟩
def tAsg (te:TE) (g:TG):TS:=fun D σ H=>te σ H fun x H1=>g x σ H1 D.nx
theorem aIC {tg e:Expr}{te:TE}{g:TG} (he:PE X e te) (hg:PG X tg g) (hs:swapsWithSole [tg] e pos.line X.env=pure false:=by rfl) (hw:swappedStores [tg] e X.env=pure none:=by rfl)
  (h1:(assignEach [tg] X.env).map (·.2)=[assign tg X.env]:=by rfl):PS X (.Assign [tg] e pos) (tAsg te g):=by
 intro pins s σ H D I h
 refine wpAny_Assign_stores (thn (he pins s σ H _ I h) fun v s1 ⟨x,H1,I1,r1,q1⟩ => ?_) hs hw
 rw [h1]
 exact thn (hg pins s1 σ H1 x v _ I1 r1 q1) fun _ s2 q=>q
theorem aJI {i:Nat}{x:Str}{e:Expr}{te:TE}{pos':Pos} (hN:X.N.Nodup) (hi:X.N[i]?=some x) (hx:Loc X.env.scope x) (he:PE X e te) (hs:swapsWith e (some (.Name x pos')) pos.line X.env=pure false:=by rfl) (hf:X.fn x=true∨X.env.scope.names.lookup x=some .local:=by first | exact .inl rfl | exact .inr rfl | assumption) :
  PS X (.Assign [.Name x pos'] e pos) (tAsg te (lJ i)):=by
 intro pins s σ H D I h
 refine wpAny_Assign_Name (thn (he pins s σ H _ I h) fun v s1 ⟨y,H1,I1,r1,q1⟩ => ?_) hs
 exact mF I1 hN hi hx r1 (fun s2 I2=>⟨_,H1,I2,q1⟩) hf
def tPar (i j:Nat) (ta:TA):TS:=fun D σ H=>ta σ H fun vs H1=>∃ v w,vs=[v,w]∧D.nx ((σ.set i (some v)).set j (some w)) H1
theorem aI7 {i j:Nat}{x y:Str}{a b:Expr}{ta:TA}{px py pt:Pos}{kt k2 pt2} (hc:X.calm=true) (hN:X.N.Nodup) (hi:X.N[i]?=some x) (hj:X.N[j]?=some y) (hij:i≠j)
  (hx:X.env.scope.names.lookup x=some .local) (hy:X.env.scope.names.lookup y=some .local) (ha:PA X [a,b] ta)
  (hw:swappedStores [.Tuple [.Name x px, .Name y py] kt pt] (.Tuple [a,b] k2 pt2) X.env=pure (some [x,y]))
  (hs:swapsWithSole [.Tuple [.Name x px, .Name y py] kt pt] (.Tuple [a,b] k2 pt2) pos.line X.env=pure false:=by rfl) :
  PS X (.Assign [.Tuple [.Name x px, .Name y py] kt pt] (.Tuple [a,b] k2 pt2) pos) (tPar i j ta):=by
 intro pins s σ H D I h
 rw [exec_Assign_arm]
 refine wpAny_bind (wpAny_standAt ?_)
 rw [hs]
 refine wpAny_bind (wpAny_pure ?_)
 rw [if_neg (by decide)]
 refine wpAny_bind (Tuple_ (thn (ha _ pins s σ H _ I h) fun us s1 ⟨vs,H1,I1,r1,q1⟩ => ?_))
 obtain ⟨v,w,e1,q1⟩:=q1
 subst e1
 obtain ⟨u1,u2,rfl,rv,rw'⟩:∃ u1 u2,us=[u1,u2]∧RelV v u1∧RelV w u2:=by
  cases r1 with
  | cons p q =>
   cases q with
   | cons p' q' =>
    cases q'
    exact ⟨_,_,rfl,p,p'⟩
 refine wpAny_newObj_type ?_ (by show 2≤sizeLine; decide)
 have I2:Inv X pins σ H1 { s1 with heap:=s1.heap.push { cls := .type "tuple", data := .seq [u1,u2].toArray } }:=I1.kept (t':=s1.toks) fun b o e=>Heap.get?_push_of_some _ e
 rw [hw]
 refine wpAny_bind (wpAny_pure ?_)
 show wpAny (model X.prog X.w) X.A (do rule "assign.swapped-stores"; let items ← unpackItems (.ref s1.heap.objs.size) 2 none; assignInOrder [fun v=>bindName X.env y v,fun v=>bindName X.env x v] items.reverse; pure Flow.next) _ _ _
 refine wpAny_bind (wpAny_rule (wpAny_bind (unpackItems_tuple (items := #[u1,u2]) (I.ok.hd hc) (IsTup.new s1.heap _) fun h' hx' => ?_)))
 have I3:=I2.kept (h':=h') (t':=s1.toks) fun b o e=>hx' b o (Nat.ne_of_lt (Heap.lt_size e)) e
 show wpAny _ _ (assignInOrder [fun v=>bindName X.env y v,fun v=>bindName X.env x v] [u2,u1] >>= fun _=>pure Flow.next) _ _ _
 refine wpAny_bind (assignInOrder_cons (wpAny_bindName (mF I3 hN hj (.inl hy) rw' (fun s2 I4 => ?_) (.inr hy))))
 refine assignInOrder_cons (wpAny_bindName (mF I4 hN hi (.inl hx) rv (fun s3 I5=>assignInOrder_nil (wpAny_pure ?_)) (.inr hx)))
 rw [List.set_comm _ _ (Ne.symm hij)] at I5
 exact ⟨_,H1,I5,q1⟩
end
section
variable {X:Cx}{pos:Pos}
def aH3 (c:TT) (tb:TS):TS:=fun D σ H=>∃ W:Nat→St→Hp→Prop,(∃ m,W m σ H)∧∀ m σ H,W m σ H →
 c σ H fun b H1=>if b=true then ∃ N:St→Hp→Prop,(∀ σ' H',N σ' H'→∃ m',m' < m∧W m' σ' H')∧tb { D with nx:=N,ct:=N,bk:=D.nx } σ H1 else D.nx σ H1
theorem aEJ {c:Expr}{body:List Stmt}{tc:TT}{tb:TS} (hp:PassesOwn (model X.prog X.w) X.A X.env X.xe) (hc:PT X c tc) (hb:PSs X body tb):PS X (.While c body [] pos) (aH3 tc tb):=by
 intro pins s σ H D I h
 obtain ⟨W,⟨m0,w0⟩,turn⟩:=h
 refine wpAny_While (codeAny_whileLoop (fun n s'=>∃ σ' H',Inv X pins σ' H' s'∧W n σ' H') ?_ m0 ⟨σ,H,I,w0⟩)
 rintro n s1 ⟨σ1,H1,I1,w1⟩
 refine wpAny_passesOwn hp (thn (hc pins s1 σ1 H1 _ I1 (turn n σ1 H1 w1)) fun b s2 ⟨H2,I2,q2⟩ => ?_)
 cases b with
 | true =>
  obtain ⟨N,hN,q2⟩:=q2
  rw [if_pos rfl]
  refine wpAny_passesOwn hp (thn (hb pins s2 σ1 H2 _ I2 q2) fun f s3 q3 => ?_)
  cases f with
  | next =>
   obtain ⟨σ3,H3,I3,n3⟩:=q3
   obtain ⟨m',hm,w3⟩:=hN σ3 H3 n3
   exact ⟨m',hm,σ3,H3,I3,w3⟩
  | cont =>
   obtain ⟨σ3,H3,I3,n3⟩:=q3
   obtain ⟨m',hm,w3⟩:=hN σ3 H3 n3
   exact ⟨m',hm,σ3,H3,I3,w3⟩
  | brk=>exact q3
  | ret v=>exact q3
 | false =>
  rw [if_neg Bool.false_ne_true]
  exact wpAny_execs_nil ⟨σ1,H2,I2,q2⟩
end
structure It where
 go:Nat→Hp→Prop
 yld:Nat→Hp→V→Hp→Prop
 stop:Nat→Hp→Prop
def FpOk (X:Cx) (pins:List (Addr × Obj)) (H:Hp) (b:Addr):Prop :=
 H b=none∧b≠X.env.locals∧b ∉ X.fs∧(b∈X.ex∨X.s₀.heap.objs.size≤b)∧(∀ x c,X.env.cells.lookup x=some c→c≠b)∧∀ p∈X.pn++pins,p.1≠b
theorem Inv.fpOk {X:Cx}{pins:List (Addr × Obj)}{σ:St}{H H':Hp}{s:Shared}{b:Addr} (I:Inv X pins σ H s) (hb:s.heap.objs.size≤b) (hn:H' b=none):FpOk X pins H' b:=by
 refine ⟨hn,Nat.ne_of_gt (Nat.lt_of_lt_of_le I.lt hb),I.nofs hb, .inr (Nat.le_trans I.sz hb),fun x c e z => ?_,fun p hp z => ?_⟩
 ·obtain ⟨v,q⟩:=I.cell x c e
  exact absurd (Nat.lt_of_lt_of_le q.lt (by rw [z]; exact hb)) (Nat.lt_irrefl _)
 ·exact absurd (Nat.lt_of_lt_of_le (Heap.lt_size (I.pin p hp).1) (by rw [z]; exact hb)) (Nat.lt_irrefl _)
structure Turn (P:Program) (w:World) (K:PySem.W.Frag) (tg:Expr) (J:It) (fp:List Addr) (it:Addr) (tn:Nat→Heap→Prop):Prop where
 mem:it∈fp
 obj:∀ i h,tn i h→∀ b∈fp,∃ o,h.get? b=some o∧∀ v,o.data ≠ .cell v
 keep:∀ i h h',tn i h→(∀ b∈fp,∀ o,h.get? b=some o→h'.get? b=some o)→tn i h'
 item:∀ (X:Cx),X.prog=P→X.w=w→X.K=K→X.calm=true→∀ (i:Nat) (pins:List (Addr × Obj)) (s:Shared) (σ:St) (H:Hp) (E:Value→Shared→Prop),Inv X pins σ H s→(∀ b∈fp,FpOk X pins H b)→tn i s.heap→J.go i H →
  wpAny (model P w) X.A (pyNext (.ref it)) (fun r s1=>∃ u,r=some u ∧
   wpAny (model P w) X.A (letOwnedTupleGo tg (.ref it) u) (fun _ s2=>∃ x H',Inv X pins σ H' s2∧RelV x u∧J.yld i H x H'∧tn (i+1) s2.heap∧∀ b∈fp,H' b=none) E s1) E s
 done:∀ (X:Cx),X.prog=P→X.w=w→X.K=K→X.calm=true→∀ (i:Nat) (pins:List (Addr × Obj)) (s:Shared) (σ:St) (H:Hp) (E:Value→Shared→Prop),Inv X pins σ H s→(∀ b∈fp,FpOk X pins H b)→tn i s.heap→J.stop i H →
  wpAny (model P w) X.A (pyNext (.ref it)) (fun r s1=>r=none∧Inv X pins σ H s1) E s
 self:∀ (A:Around) (i:Nat) (s:Shared) (Q:Value→Shared→Prop) (E:Value→Shared→Prop),tn i s.heap→Q (.ref it) s→wpAny (model P w) A (pyIter (.ref it)) Q E s
abbrev TI:=St→Hp→(It→Hp→Prop)→Prop
def PIE (X:Cx) (pins:List (Addr × Obj)) (σ:St) (tg:Expr) (R:It→Hp→Prop) (itv:Value) (s2:Shared):Prop :=
 ∃ (it:Addr) (fp:List Addr) (tn:Nat→Heap→Prop) (J:It) (H':Hp),itv = .ref it∧Inv X pins σ H' s2∧Turn X.prog X.w X.K tg J fp it tn∧tn 0 s2.heap∧(∀ b∈fp,FpOk X pins H' b)∧R J H'
def PI (X:Cx) (tg iter:Expr) (wi:TI):Prop :=
 ∀ (pins:List (Addr × Obj)) (s:Shared) (σ:St) (H:Hp) (R:It→Hp→Prop),Inv X pins σ H s→wi σ H R →
  wpAny (model X.prog X.w) X.A (eval iter X.env) (fun v s1=>wpAny (model X.prog X.w) X.A (pyIter v) (PIE X pins σ tg R) X.xe s1) X.xe s
theorem qF {M:Model}{A:Around}{E:Value→Shared→Prop}{s:Shared}{tg:Expr}{it:Addr}{u:Value}{o:Obj}{n:String}{vs:Array Value}{Q:Unit→Shared→Prop} (ho:s.heap.get? it=some o) (hc:o.cls = .type n) (hd:o.data = .fields vs)
    (hn:["enumerate", "zip", "dict_itemiterator", "dict_reverseitemiterator", "odict_iterator", "itertools.zip_longest", "itertools.pairwise"].contains n=false) (hQ:Q () s):wpAny M A (letOwnedTupleGo tg (.ref it) u) Q E s:=by
  unfold letOwnedTupleGo
  cases tg <;> first
    | exact wpAny_pure hQ
    | (cases u <;> first
        | exact wpAny_pure hQ
        | (refine wpAny_bind (wpAny_load ho ?_)
           rw [hc,hd]
           show wpAny M A (if (["enumerate", "zip", "dict_itemiterator", "dict_reverseitemiterator", "odict_iterator", "itertools.zip_longest", "itertools.pairwise"].contains n && vs[0]? == some (rawInt _))=true then _ else _) Q E s
           rw [if_neg (by intro h; rw [hn,Bool.false_and] at h; cases h)]
           exact wpAny_pure hQ))
def Itl (K:PySem.W.Frag) (a:Addr):It :=
 ⟨fun i H=>∃ xs x,SqL K H a xs∧xs[i]?=some x,fun i H x H'=>H'=H∧∀ xs,SqL K H a xs→xs[i]?=some x,fun i H=>∃ xs,SqL K H a xs∧xs.length≤i⟩
def Itt (K:PySem.W.Frag) (a:Addr):It :=
 ⟨fun i H=>∃ xs x,SqT K H a xs∧xs[i]?=some x,fun i H x H'=>H'=H∧∀ xs,SqT K H a xs→xs[i]?=some x,fun i H=>∃ xs,SqT K H a xs∧xs.length≤i⟩
def Itr (lo:Int) (n:Nat):It:=⟨fun i _=>i < n,fun i H x H'=>H'=H∧x = .int (lo+i),fun i _=>n≤i⟩
theorem aCC {P:Program}{w:World}{K:PySem.W.Frag}{tg:Expr} (a it:Addr):Turn P w K tg (Itl K a) [it] it (fun i h=>h.IsListIter it a i) where
 mem:=by simp
 obj:=fun i h st b hb=>by
  have e:b=it:=by simpa using hb
  subst e
  obtain ⟨o,e,c,d⟩:=st
  exact ⟨o,e,fun v z=>by rw [d] at z; cases z⟩
 keep:=fun i h h' st k=>st.at fun o e=>k it (by simp) o e
 item:=by
  intro X hP hw hK hc i pins s σ H E I hf st hg
  subst hP hw hK
  obtain ⟨xs,x,hq,hx⟩:=hg
  obtain ⟨its,rv,p,hz⟩:=I.list hq
  obtain ⟨u,hu,ru⟩:=rv.get hx
  obtain ⟨f0,f1,f2,f3,f4,f5⟩:=hf it (by simp)
  refine wpAny_pyNext_list_item st p.isList (x:=u) (by simpa using hu) fun h' st' sb => ?_
  have I1:Inv X pins σ H { s with heap:=h' }:=I.turned (t':=s.toks) (fun b o hb e=>(sb.2 b hb).trans e) f0 f1 f3 f4 f5
  obtain ⟨o,e,c,d⟩:=id st'
  exact ⟨u,rfl,qF (s:={ s with heap:=h' }) e c d (by decide) ⟨x,H,I1,ru,⟨rfl,fun ys hy=>by rw [I.list_inj hy hq]; exact hx⟩,st',fun b hb=>(hf b hb).1⟩⟩
 done:=by
  intro X hP hw hK hc i pins s σ H E I hf st hg
  subst hP hw hK
  obtain ⟨xs,hq,hx⟩:=hg
  obtain ⟨its,rv,p,hz⟩:=I.list hq
  obtain ⟨f0,f1,f2,f3,f4,f5⟩:=hf it (by simp)
  have hl:=rv.length
  exact wpAny_pyNext_list_end (I.ok.hd hc) st p.isList (by simp; omega) fun h' eb=>⟨rfl,I.turned (t':=s.toks) (fun b o hb e=>eb b o hb e) f0 f1 f3 f4 f5⟩
 self:=fun _ _ _ _ _ st h=>wpAny_pyIter_listiter st h
theorem zI {P:Program}{w:World}{K:PySem.W.Frag}{tg:Expr} (a it:Addr):Turn P w K tg (Itt K a) [it] it (fun i h=>h.IsTupleIter it a i) where
 mem:=by simp
 obj:=fun i h st b hb=>by
  have e:b=it:=by simpa using hb
  subst e
  obtain ⟨o,e,c,d⟩:=st
  exact ⟨o,e,fun v z=>by rw [d] at z; cases z⟩
 keep:=fun i h h' st k=>st.at fun o e=>k it (by simp) o e
 item:=by
  intro X hP hw hK hc i pins s σ H E I hf st hg
  subst hP hw hK
  obtain ⟨xs,x,hq,hx⟩:=hg
  obtain ⟨its,rv,p,hz⟩:=I.tuple hq
  obtain ⟨u,hu,ru⟩:=rv.get hx
  obtain ⟨f0,f1,f2,f3,f4,f5⟩:=hf it (by simp)
  refine wpAny_pyNext_tuple_item st (show s.heap.IsTuple a its.toArray from p) (x:=u) (by simpa using hu) fun h' st' sb => ?_
  have I1:Inv X pins σ H { s with heap:=h' }:=I.turned (t':=s.toks) (fun b o hb e=>(sb.2 b hb).trans e) f0 f1 f3 f4 f5
  obtain ⟨o,e,c,d⟩:=id st'
  exact ⟨u,rfl,qF (s:={ s with heap:=h' }) e c d (by decide) ⟨x,H,I1,ru,⟨rfl,fun ys hy=>by rw [I.tuple_inj hy hq]; exact hx⟩,st',fun b hb=>(hf b hb).1⟩⟩
 done:=by
  intro X hP hw hK hc i pins s σ H E I hf st hg
  subst hP hw hK
  obtain ⟨xs,hq,hx⟩:=hg
  obtain ⟨its,rv,p,hz⟩:=I.tuple hq
  obtain ⟨f0,f1,f2,f3,f4,f5⟩:=hf it (by simp)
  have hl:=rv.length
  exact wpAny_pyNext_tuple_end (I.ok.hd hc) st (show s.heap.IsTuple a its.toArray from p) (by simp; omega) fun h' eb=>⟨rfl,I.turned (t':=s.toks) (fun b o hb e=>eb b o hb e) f0 f1 f3 f4 f5⟩
 self:=fun _ _ _ _ _ st h=>wpAny_pyIter_tupleiter st h
theorem zD {P:Program}{w:World}{K:PySem.W.Frag}{tg:Expr} (it:Addr) (lo:Int) (n:Nat):Turn P w K tg (Itr lo n) [it] it (fun i h=>IsRangeIter h it (lo+(i:Nat) * 1) ((n:Int) - (i:Nat)) 1) where
 mem:=by simp
 obj:=fun i h st b hb=>by
  have e:b=it:=by simpa using hb
  subst e
  exact ⟨_,st,fun v z=>by
   have z':Data.fields _=Data.cell v:=z
   cases z'⟩
 keep:=fun i h h' st k=>k it (by simp) _ st
 item:=by
  intro X hP hw hK hc i pins s σ H E I hf st hg
  subst hP hw hK
  obtain ⟨f0,f1,f2,f3,f4,f5⟩:=hf it (by simp)
  have W:=Walks.range (prog:=X.prog) (w:=X.w) (I.ok.hd hc) it lo 1 n
  refine W.item i s _ _ hg st fun v h' tk hv st' kk => ?_
  obtain ⟨t,rfl⟩:=hv
  have I1:Inv X pins σ H { s with heap:=h',toks:=tk }:=I.turned (fun b o hb e=>kk b o (by simpa using hb) e) f0 f1 f3 f4 f5
  refine ⟨_,rfl,qF (s:={ s with heap:=h',toks:=tk }) (n := "range_iterator") st' rfl rfl (by decide) ⟨.int (lo+i),H,I1,⟨t,?_⟩,⟨rfl,rfl⟩,st',fun b hb=>(hf b hb).1⟩⟩
  rw [Int.mul_one]
 done:=by
  intro X hP hw hK hc i pins s σ H E I hf st hg
  subst hP hw hK
  obtain ⟨f0,f1,f2,f3,f4,f5⟩:=hf it (by simp)
  exact wpAny_pyNext_range_end (I.ok.hd hc) st (by have:n≤i:=hg; omega) fun h' eb=>⟨rfl,I.turned (t':=s.toks) (fun b o hb e=>eb b o hb e) f0 f1 f3 f4 f5⟩
 self:=fun _ _ _ _ _ st h=>wpAny_pyIter_rangeiter st h
end L2
namespace L2
open PySem PySem.Spec PyProof.Rows
section
variable {X:Cx}{tg:Expr}
theorem tN {pins:List (Addr × Obj)}{σ:St}{H:Hp}{s:Shared}{R:It→Hp→Prop}{E:Value→Shared→Prop}{lo hi:Int}{t u v:Tok}{tk:Nat} (I:Inv X pins σ H s) (h1 : -(2 ^ 62)≤lo) (h2:lo < 2 ^ 62) (h3 : -(2 ^ 62)≤hi) (h4:hi < 2 ^ 62)
  (q:R (Itr lo (hi - lo).toNat) H):wpAny (model X.prog X.w) X.A (pyIter (.ref s.heap.objs.size)) (PIE X pins σ tg R) E { s with heap:=s.heap.push { cls := .type "range", data := .fields #[.int lo t, .int hi u, .int 1 v] },toks:=tk }:=by
 refine wpAny_pyIter_range (IsRange.new ..) (small_one h1 h2 h3 h4) ?_
 have I1:Inv X pins σ H { s with heap:=s.heap.push { cls := .type "range", data := .fields #[.int lo t, .int hi u, .int 1 v] },toks:=tk }:=I.kept fun b o e=>Heap.get?_push_of_some _ e
 refine ⟨(s.heap.push { cls := .type "range", data := .fields #[.int lo t, .int hi u, .int 1 v] }).objs.size,[(s.heap.push { cls := .type "range", data := .fields #[.int lo t, .int hi u, .int 1 v] }).objs.size],_,_,H,rfl,
  I1.kept (t':=tk) fun b o e=>Heap.get?_push_of_some _ e,zD _ lo (hi - lo).toNat,?_,fun b hb => ?_,q⟩
 ·have e1:lo+((0:Nat):Int) * 1=lo:=by simp
  have e2:(((hi - lo).toNat:Nat):Int) - ((0:Nat):Int)=Builtin.Range.rangeSize lo hi 1:=by rw [rangeSize_one]; split <;> omega
  show IsRangeIter _ _ (lo+((0:Nat):Int) * 1) ((((hi - lo).toNat:Nat):Int) - ((0:Nat):Int)) 1
  rw [e1,e2]
  exact Heap.get?_push_size _ rfl
 ·have e:b=(s.heap.push { cls := .type "range", data := .fields #[.int lo t, .int hi u, .int 1 v] }).objs.size:=by simpa using hb
  subst e
  exact I1.fpOk (Nat.le_refl _) (I1.hok.fresh (Nat.le_refl _))
def aKC (ta:TA):TI:=fun σ H R=>ta σ H fun vs H1=>∃ j:Int,vs=[.int j] ∧ -(2 ^ 62)≤j∧j < 2 ^ 62∧R (Itr 0 j.toNat) H1
def aJN (ta:TA):TI:=fun σ H R=>ta σ H fun vs H1=>∃ i j:Int,vs=[.int i, .int j]∧(-(2 ^ 62)≤i∧i < 2 ^ 62 ∧ -(2 ^ 62)≤j∧j < 2 ^ 62)∧R (Itr i (j - i).toNat) H1
theorem aBU {a:Expr}{ta:TA}{p pos:Pos} (hg:Gl X "range") (hm:X.mg "range" = none) (ha:PA X [a] ta) (hs:starEach [a] X.env=[(false,eval a X.env)]:=by rfl):PI X tg (.Call (.Name "range" p) [a] [] pos) (aKC ta):=by
 intro pins s σ H R I h
 refine Call_ (j5 I hg hm boot_range (PyProof.Rows.callWith_type1 (thn (ha pos pins s σ H _ I h) fun us s1 ⟨vs,H1,I1,r1,q1⟩ => ?_) hs rfl))
 obtain ⟨j,e,q1,q2,q⟩:=q1
 subst e
 cases r1 with
 | cons r rr =>
  cases rr
  obtain ⟨t,rfl⟩:=r
  exact call_range_1 (tN I1 (by omega) (by omega) q1 q2 (by simpa using q))
theorem aCI {a b:Expr}{ta:TA}{p pos:Pos} (hg:Gl X "range") (hm:X.mg "range" = none) (ha:PA X [a,b] ta) (hs:starEach [a,b] X.env=[(false,eval a X.env),(false,eval b X.env)]:=by rfl) (hs2:starEach [b] X.env=[(false,eval b X.env)]:=by rfl) :
  PI X tg (.Call (.Name "range" p) [a,b] [] pos) (aJN ta):=by
 intro pins s σ H R I h
 refine Call_ (j5 I hg hm boot_range (PyProof.Rows.callWith_type1 (thn (ha pos pins s σ H _ I h) fun us s1 ⟨vs,H1,I1,r1,q1⟩ => ?_) (by rw [hs,hs2]) (by rw [hs2]; rfl)))
 obtain ⟨i,j,e,⟨q1,q2,q3,q4⟩,q⟩:=q1
 subst e
 cases r1 with
 | cons r rr =>
  cases rr with
  | cons r' rr =>
   cases rr
   obtain ⟨t,rfl⟩:=r
   obtain ⟨t',rfl⟩:=r'
   exact call_range_2 (tN I1 q1 q2 q3 q4 q)
def tFor (wi:TI) (g:TG) (tb:TS):TS:=fun D σ H=>wi σ H fun J H1=>∃ W:Nat→Nat→St→Hp→Prop,(∃ m,W 0 m σ H1)∧∀ i m σ H,W i m σ H →
 (J.stop i H∧D.nx σ H)∨(J.go i H∧∃ N:St→Hp→Prop,(∀ σ' H',N σ' H'→∃ m',m' < m∧W (i+1) m' σ' H')∧∀ x H',J.yld i H x H'→g x σ H' fun σ2 H2=>tb { D with nx:=N,ct:=N,bk:=D.nx } σ2 H2)
def lF (fp:List Addr) (h:Heap):List (Addr × Obj):=fp.filterMap fun b=>(h.get? b).map fun o=>(b,o)
theorem fT {fp:List Addr}{h:Heap}{b:Addr}{o:Obj} (hb:b∈fp) (e:h.get? b=some o):(b,o)∈lF fp h:=List.mem_filterMap.mpr ⟨b,hb,by rw [e]; rfl⟩
theorem aB9 {fp:List Addr}{h:Heap}{p:Addr × Obj} (hp:p∈lF fp h):p.1∈fp∧h.get? p.1=some p.2:=by
 obtain ⟨b,hb,e⟩:=List.mem_filterMap.mp hp
 cases q:h.get? b with
 | none=>rw [q] at e; cases e
 | some o =>
  rw [q] at e
  have e':(b,o)=p:=Option.some.inj e
  subst e'
  exact ⟨hb,q⟩
theorem Inv.pinned {pins:List (Addr × Obj)}{σ:St}{H:Hp}{s:Shared}{fp:List Addr} (I:Inv X pins σ H s) (hf:∀ b∈fp,FpOk X pins H b) (ho:∀ b∈fp,∃ o,s.heap.get? b=some o∧∀ v,o.data ≠ .cell v):Inv X (pins++lF fp s.heap) σ H s :=
 I.pins_of fun p hp=>(List.mem_append.mp hp).elim (fun z=>I.pin p (List.mem_append_right _ z)) fun z=>by
  obtain ⟨hb,e⟩:=aB9 z
  obtain ⟨f0,f1,f2,_⟩:=hf p.1 hb
  obtain ⟨o,e',d⟩:=ho p.1 hb
  rw [e] at e'; cases e'
  exact ⟨e,f0,f1,f2,d⟩
theorem Inv.unpinned {pins pl:List (Addr × Obj)}{σ:St}{H:Hp}{s:Shared} (I:Inv X (pins++pl) σ H s):Inv X pins σ H s:=I.pins_of fun p hp=>I.pin p (List.mem_append_right _ (List.mem_append_left _ hp))
theorem aJD {iter:Expr}{body:List Stmt}{wi:TI}{g:TG}{tb:TS}{pos:Pos} (hp:PassesOwn (model X.prog X.w) X.A X.env X.xe) (hc:X.calm=true) (hi:PI X tg iter wi) (hg:PG X tg g) (hb:PSs X body tb)
  (hs:∀ x,foldedSetIterable iter X.env x=pure x:=by intro _; rfl):PS X (.For tg iter body [] pos) (tFor wi g tb):=by
 intro pins s σ H D I h
 refine wpAny_For (thn (hi pins s σ H _ I h) fun v s1 h1=>thn h1 fun itv s2 h2 => ?_) hs
 obtain ⟨it,fp,tn,J,H2,e,I2,T,st2,f2,W,⟨m0,w0⟩,turn⟩:=h2
 subst e
 -- what stays true of the iterator's objects through the loop
 have stat:∀ {H':Hp},(∀ b∈fp,H' b=none)→∀ b∈fp,FpOk X pins H' b:=fun hn b hb=>⟨hn b hb,(f2 b hb).2⟩
 refine codeAny_forLoop_any (fun n s'=>∃ i σ' H',Inv X pins σ' H' s'∧tn i s'.heap∧(∀ b∈fp,H' b=none)∧W i n σ' H') ?_ m0 ⟨0,σ,H2,I2,st2,fun b hb=>(f2 b hb).1,w0⟩
 rintro n s3 ⟨i,σ3,H3,I3,st3,fr3,w3⟩
 rcases turn i n σ3 H3 w3 with ⟨stop,qn⟩ | ⟨go,N,hN,step⟩
 ·refine wpAny_passesOwn hp (thn (T.done X rfl rfl rfl hc i pins s3 σ3 H3 X.xe I3 (stat fr3) st3 stop) fun r s4 ⟨hr,I4⟩ => ?_)
  subst hr
  exact wpAny_execs_nil ⟨σ3,H3,I4,qn⟩
 ·refine wpAny_passesOwn hp (thn (T.item X rfl rfl rfl hc i pins s3 σ3 H3 X.xe I3 (stat fr3) st3 go) fun r s4 ⟨u,hr,h4⟩ => ?_)
  subst hr
  refine wpAny_passesOwn hp (thn h4 fun _ s5 ⟨x,H5,I5,r5,y5,st5,fr5⟩ => ?_)
  have I5':=I5.pinned (stat fr5) (T.obj _ _ st5)
  refine wpAny_passesOwn hp (thn (hg _ s5 σ3 H5 x u _ I5' r5 (step x H5 y5)) fun _ s6 ⟨σ6,H6,I6,q6⟩ => ?_)
  refine wpAny_passesOwn hp (thn (hb _ s6 σ6 H6 _ I6 q6) fun f s7 q7 => ?_)
  have again:∀ {σ7:St}{H7:Hp},Inv X (pins++lF fp s5.heap) σ7 H7 s7→N σ7 H7→∃ m,m < n∧∃ i σ' H',Inv X pins σ' H' s7∧tn i s7.heap∧(∀ b∈fp,H' b=none)∧W i m σ' H':=fun {σ7 H7} I7 n7=>by
   obtain ⟨m',hm,w7⟩:=hN σ7 H7 n7
   refine ⟨m',hm,i+1,σ7,H7,I7.unpinned,T.keep _ _ _ st5 fun b hb o e=>(I7.pin (b,o) (List.mem_append_right _ (List.mem_append_right _ (fT hb e)))).1,fun b hb => ?_,w7⟩
   obtain ⟨o,e,d⟩:=T.obj _ _ st5 b hb
   exact (I7.pin (b,o) (List.mem_append_right _ (List.mem_append_right _ (fT hb e)))).2.1
  cases f with
  | next=>obtain ⟨σ7,H7,I7,n7⟩:=q7; exact again I7 n7
  | cont=>obtain ⟨σ7,H7,I7,n7⟩:=q7; exact again I7 n7
  | brk=>obtain ⟨σ7,H7,I7,q7⟩:=q7; exact ⟨σ7,H7,I7.unpinned,q7⟩
  | ret v=>obtain ⟨x7,σ7,H7,I7,r7,q7⟩:=q7; exact ⟨x7,σ7,H7,I7.unpinned,r7,q7⟩
end
end L2
namespace L2
open PySem PySem.Spec PyProof.Rows
abbrev R2:=V→V→Hp→VK→Prop
def OpR (X:Cx) (f:Value→Value→Sem Value) (r:R2):Prop :=
 ∀ (pins:List (Addr × Obj)) (s:Shared) (σ:St) (H:Hp) (x y:V) (v u:Value) (Q:VK),Inv X pins σ H s→RelV x v→RelV y u→r x y H Q →
  wpAny (model X.prog X.w) X.A (f v u) (EP X pins σ Q) X.xe s
def UnR (X:Cx) (f:Value→Sem Value) (r:V→Hp→VK→Prop):Prop :=
 ∀ (pins:List (Addr × Obj)) (s:Shared) (σ:St) (H:Hp) (x:V) (v:Value) (Q:VK),Inv X pins σ H s→RelV x v→r x H Q →
  wpAny (model X.prog X.w) X.A (f v) (EP X pins σ Q) X.xe s
def eW (X:Cx) (f:Value) (r:List V→Hp→VK→Prop):Prop :=
 ∀ (pins:List (Addr × Obj)) (s:Shared) (σ:St) (H:Hp) (xs:List V) (us:List Value) (Q:VK),Inv X pins σ H s→Vals xs us→r xs H Q →
  wpAny (model X.prog X.w) X.A (call f us) (EP X pins σ Q) X.xe s
def TruR (X:Cx) (r:V→Hp→(Bool→Hp→Prop)→Prop):Prop :=
 ∀ (pins:List (Addr × Obj)) (s:Shared) (σ:St) (H:Hp) (x:V) (v:Value) (Q:Bool→Hp→Prop),Inv X pins σ H s→RelV x v→r x H Q →
  wpAny (model X.prog X.w) X.A (truthy v) (TP X pins σ Q) X.xe s
def tOp (r:R2) (ta tb:TE):TE:=fun σ H Q=>ta σ H fun x H1=>tb σ H1 fun y H2=>r x y H2 Q
def tUn (r:V→Hp→VK→Prop) (ta:TE):TE:=fun σ H Q=>ta σ H fun x H1=>r x H1 Q
def rI (C:Int→Int→Prop) (g:Int→Int→V):R2:=fun x y H Q=>∃ i j,x = .int i∧y = .int j∧C i j∧Q (g i j) H
def rI0 (g:Int→Int→V):R2:=fun x y H Q=>∃ i j,x = .int i∧y = .int j∧Q (g i j) H
def rU (g:Int→V):V→Hp→VK→Prop:=fun x H Q=>∃ i,x = .int i∧Q (g i) H
section
variable {X:Cx}{a b c:Expr}{ta tb tc:TE}{pos:Pos}
theorem binT (ha:PE X a ta) (hb:PE X b tb) {pins:List (Addr × Obj)}{s:Shared}{σ:St}{H:Hp}{R:V→V→Hp→Prop} (I:Inv X pins σ H s)
  (h:ta σ H fun x H1=>tb σ H1 fun y H2=>R x y H2) {Q:Value→Shared→Prop}{f:Value→Value→Sem Value}
  (hf:∀ v u s2 x y H2,Inv X pins σ H2 s2→RelV x v→RelV y u→R x y H2→wpAny (model X.prog X.w) X.A (f v u) Q X.xe s2) :
  wpAny (model X.prog X.w) X.A (eval a X.env) (fun v s₁=>wpAny (model X.prog X.w) X.A (eval b X.env) (fun u s₂=>wpAny (model X.prog X.w) X.A (f v u) Q X.xe s₂) X.xe s₁) X.xe s:=by
 refine thn (ha pins s σ H _ I h) fun v s1 ⟨x,H1,I1,r1,q1⟩ => ?_
 refine thn (hb pins s1 σ H1 _ I1 q1) fun u s2 ⟨y,H2,I2,r2,q2⟩ => ?_
 exact hf v u s2 x y H2 I2 r1 r2 q2
theorem aKB {op:Operator}{r:R2} (ho:OpR X (binaryOp op) r) (ha:PE X a ta) (hb:PE X b tb):PE X (.BinOp a op b pos) (tOp r ta tb):=by
 intro pins s σ H Q I h
 exact wpAny_BinOp (binT ha hb I h fun v u s2 x y H2 I2 rx ry q=>ho pins s2 σ H2 x y v u Q I2 rx ry q)
theorem aKF {op:UnaryOp}{r:V→Hp→VK→Prop} (ho:UnR X (unaryOp op) r) (ha:PE X a ta):PE X (.UnaryOp op a pos) (tUn r ta):=by
 intro pins s σ H Q I h
 exact UnaryOp_ (thn (ha pins s σ H _ I h) fun v s1 ⟨x,H1,I1,r1,q1⟩=>ho pins s1 σ H1 x v Q I1 r1 q1)
theorem opI {f:Value→Value→Sem Value}{C:Int→Int→Prop}{g:Int→Int→Int}
  (rule:∀ (i j:Int) (t u:Tok) (s:Shared) (Q:Value→Shared→Prop) (E:Value→Shared→Prop),C i j→Q (.int (g i j) s.toks) { s with toks:=s.toks+1 }→wpAny (model X.prog X.w) X.A (f (.int i t) (.int j u)) Q E s) :
  OpR X f (rI C fun i j => .int (g i j)):=by
 intro pins s σ H x y v u Q I rx ry h
 obtain ⟨i,j,rfl,rfl,hc,q⟩:=h
 obtain ⟨t,rfl⟩:=rx
 obtain ⟨t',rfl⟩:=ry
 exact rule i j t t' s _ _ hc ⟨.int (g i j),H,I.tok _,⟨_,rfl⟩,q⟩
theorem opI0 {f:Value→Value→Sem Value}{g:Int→Int→Int}
  (rule:∀ (i j:Int) (t u:Tok) (s:Shared) (Q:Value→Shared→Prop) (E:Value→Shared→Prop),Q (.int (g i j) s.toks) { s with toks:=s.toks+1 }→wpAny (model X.prog X.w) X.A (f (.int i t) (.int j u)) Q E s) :
  OpR X f (rI0 fun i j => .int (g i j)):=by
 intro pins s σ H x y v u Q I rx ry h
 obtain ⟨i,j,rfl,rfl,q⟩:=h
 obtain ⟨t,rfl⟩:=rx
 obtain ⟨t',rfl⟩:=ry
 exact rule i j t t' s _ _ ⟨.int (g i j),H,I.tok _,⟨_,rfl⟩,q⟩
theorem opB0 {f:Value→Value→Sem Value}{g:Int→Int→Bool}
  (rule:∀ (i j:Int) (t u:Tok) (s:Shared) (Q:Value→Shared→Prop) (E:Value→Shared→Prop),Q (.bool (g i j)) s→wpAny (model X.prog X.w) X.A (f (.int i t) (.int j u)) Q E s) :
  OpR X f (rI0 fun i j => .bl (g i j)):=by
 intro pins s σ H x y v u Q I rx ry h
 obtain ⟨i,j,rfl,rfl,q⟩:=h
 obtain ⟨t,rfl⟩:=rx
 obtain ⟨t',rfl⟩:=ry
 exact rule i j t t' s _ _ ⟨.bl (g i j),H,I,rfl,q⟩
def CDiv (i j:Int):Prop:=0 < j∧j < 1073741824
def CPow (i j:Int):Prop:=0≤j∧j≤1000000∧i.natAbs < 2 ^ 64
def CMul (i j:Int):Prop:=(-(2 ^ 64) < i∧i < 2 ^ 64)∨(-(2 ^ 64) < j∧j < 2 ^ 64)
theorem CMul.ok {i j:Int} (h:CMul i j):IntMulOk i j:=by
 rcases h with ⟨h1,h2⟩ | ⟨h1,h2⟩
 ·exact .of_left (intBits_le_64 h1 h2)
 ·exact .of_right (intBits_le_64 h1 h2)
theorem bK:OpR X (binaryOp .Add) (rI0 fun i j => .int (i+j)):=opI0 fun _ _ _ _ _ _ _ q=>add_int q
theorem bY:OpR X (binaryOp .Sub) (rI0 fun i j => .int (i - j)):=opI0 fun _ _ _ _ _ _ _ q=>sub_int q
theorem cV:OpR X (binaryOp .Mult) (rI CMul fun i j => .int (i * j)):=opI fun _ _ _ _ _ _ _ hc q=>mul_int q hc.ok
theorem qT:OpR X (binaryOp .FloorDiv) (rI CDiv fun i j => .int (i / j)):=opI fun i j _ _ _ _ _ hc q=>by
 have h1:(0:Int) < j:=hc.1
 have h2:j < 1073741824:=hc.2
 exact floordiv_int (by omega) (by rw [Int.fdiv_eq_ediv_of_nonneg i (by omega)]; exact q) (.inl (PyProof.noPylong_small (by omega)))
theorem jC:OpR X (binaryOp .Mod) (rI (fun _ j=>0 < j) fun i j => .int (i % j)):=opI fun i j _ _ _ _ _ hc q=>by
 have h1:(0:Int) < j:=hc
 exact mod_int' (by omega) (by rw [Int.fmod_eq_emod_of_nonneg i (by omega)]; exact q)
theorem xM:OpR X (binaryOp .Mod) (rI (fun _ j=>j≠0) fun i j => .int (i.fmod j)):=opI fun _ _ _ _ _ _ _ hc q=>mod_int' hc q
theorem pW:OpR X (binaryOp .Pow) (rI CPow fun i j => .int (i ^ j.toNat)):=opI fun _ _ _ _ _ _ _ hc q=>pow_int_small hc.1 hc.2.1 hc.2.2 q
theorem unI {f:Value→Sem Value}{g:Int→Int}
  (rule:∀ (i:Int) (t:Tok) (s:Shared) (Q:Value→Shared→Prop) (E:Value→Shared→Prop),Q (.int (g i) s.toks) { s with toks:=s.toks+1 }→wpAny (model X.prog X.w) X.A (f (.int i t)) Q E s) :
  UnR X f (rU fun i => .int (g i)):=by
 intro pins s σ H x v Q I rx h
 obtain ⟨i,rfl,q⟩:=h
 obtain ⟨t,rfl⟩:=rx
 exact rule i t s _ _ ⟨.int (g i),H,I.tok _,⟨_,rfl⟩,q⟩
theorem i9:UnR X (unaryOp .USub) (rU fun i => .int (-i)):=unI fun _ _ _ _ _ q=>neg_int q
end
def scal:V→V→Bool
 | .non, .non=>true | .non, .int _=>true | .int _, .non=>true | .non, .bl _=>true | .bl _, .non=>true | .non, .str _=>true | .str _, .non=>true
 | .int _, .int _=>true | .bl _, .bl _=>true | .str _, .str _=>true | .byt _, .byt _=>true
 | .int _, .str _=>true | .str _, .int _=>true | .bl _, .str _=>true | .str _, .bl _=>true
 | _,_=>false
def rEq:R2:=fun x y H Q=>scal x y=true∧Q (.bl (decide (x=y))) H
def rNe:R2:=fun x y H Q=>scal x y=true∧Q (.bl (!decide (x=y))) H
theorem wI {i j:Int}:decide (V.int i=V.int j)=(i == j):=by
 rw [Bool.eq_iff_iff]
 simp
theorem aBP {i j:Bool}:decide (V.bl i=V.bl j)=(i == j):=by
 rw [Bool.eq_iff_iff]
 simp
theorem xT {i j:Str}:decide (V.str i=V.str j)=(i == j):=by
 rw [Bool.eq_iff_iff]
 simp
theorem wH {i j:Array UInt8}:decide (V.byt i=V.byt j)=(i.toList == j.toList):=by
 rw [Bool.eq_iff_iff]
 cases i
 cases j
 simp
section
variable {X:Cx}{a b c:Expr}{ta tb tc:TE}{pos:Pos}
theorem bH {pins:List (Addr × Obj)}{σ:St}{H:Hp}{s:Shared}{Q:VK}{k k':Bool} (I:Inv X pins σ H s) (q:Q (.bl k) H) (e:k=k'):EP X pins σ Q (.bool k') s:=by
 subst e
 exact ⟨.bl k,H,I,rfl,q⟩
theorem gI:OpR X (compareOp .Eq) rEq:=by
 intro pins s σ H x y v u Q I rx ry h
 obtain ⟨hs,q⟩:=h
 cases x with
 | non =>
  cases rx
  cases y with
  | non=>cases ry; exact PySem.EqNone.eq_none_none (bH I q (by simp))
  | bl j=>cases ry; exact PySem.EqNone.eq_none_bool (bH I q (by simp))
  | int j=>obtain ⟨t',rfl⟩:=ry; exact PySem.EqNone.eq_none_int (bH I q (by simp))
  | str j=>obtain ⟨t',rfl⟩:=ry; exact PySem.EqNone.eq_none_str (bH I q (by simp))
  | _=>exact absurd (show false=true from hs) Bool.false_ne_true
 | bl i =>
  cases rx
  cases y with
  | non=>cases ry; exact PySem.EqNone.eq_bool_none (bH I q (by simp))
  | bl j=>cases ry; exact eq_bool (bH I q aBP)
  | str j=>obtain ⟨t',rfl⟩:=ry; exact PySem.EqMixed.eq_bool_str (bH I q (by simp))
  | _=>exact absurd (show false=true from hs) Bool.false_ne_true
 | int i =>
  obtain ⟨t,rfl⟩:=rx
  cases y with
  | non=>cases ry; exact PySem.EqNone.eq_int_none (bH I q (by simp))
  | int j=>obtain ⟨t',rfl⟩:=ry; exact eq_int (bH I q wI)
  | str j=>obtain ⟨t',rfl⟩:=ry; exact PySem.EqMixed.eq_int_str (bH I q (by simp))
  | _=>exact absurd (show false=true from hs) Bool.false_ne_true
 | str i =>
  obtain ⟨t,rfl⟩:=rx
  cases y with
  | non=>cases ry; exact PySem.EqNone.eq_str_none (bH I q (by simp))
  | bl j=>cases ry; exact PySem.EqMixed.eq_str_bool (bH I q (by simp))
  | int j=>obtain ⟨t',rfl⟩:=ry; exact PySem.EqMixed.eq_str_int (bH I q (by simp))
  | str j=>obtain ⟨t',rfl⟩:=ry; exact eq_str (bH I q xT)
  | _=>exact absurd (show false=true from hs) Bool.false_ne_true
 | byt i =>
  obtain ⟨t,rfl⟩:=rx
  cases y with
  | byt j=>obtain ⟨t',rfl⟩:=ry; exact PySem.W.eq_bytes (bH I q wH)
  | _=>exact absurd (show false=true from hs) Bool.false_ne_true
 | _=>cases y <;> exact absurd (show false=true from hs) Bool.false_ne_true
theorem l9:OpR X (compareOp .NotEq) rNe:=by
 intro pins s σ H x y v u Q I rx ry h
 obtain ⟨hs,q⟩:=h
 cases x with
 | non =>
  cases rx
  cases y with
  | non=>cases ry; exact PySem.EqNone.ne_none_none (bH I q (by simp))
  | bl j=>cases ry; exact PySem.EqNone.ne_none_bool (bH I q (by simp))
  | int j=>obtain ⟨t',rfl⟩:=ry; exact PySem.EqNone.ne_none_int (bH I q (by simp))
  | str j=>obtain ⟨t',rfl⟩:=ry; exact PySem.EqNone.ne_none_str (bH I q (by simp))
  | _=>exact absurd (show false=true from hs) Bool.false_ne_true
 | bl i =>
  cases rx
  cases y with
  | non=>cases ry; exact PySem.EqNone.ne_bool_none (bH I q (by simp))
  | bl j=>cases ry; exact ne_bool (bH I q (congrArg not aBP))
  | str j=>obtain ⟨t',rfl⟩:=ry; exact PySem.EqMixed.ne_bool_str (bH I q (by simp))
  | _=>exact absurd (show false=true from hs) Bool.false_ne_true
 | int i =>
  obtain ⟨t,rfl⟩:=rx
  cases y with
  | non=>cases ry; exact PySem.EqNone.ne_int_none (bH I q (by simp))
  | int j=>obtain ⟨t',rfl⟩:=ry; exact ne_int (bH I q (congrArg not wI))
  | str j=>obtain ⟨t',rfl⟩:=ry; exact PySem.EqMixed.ne_int_str (bH I q (by simp))
  | _=>exact absurd (show false=true from hs) Bool.false_ne_true
 | str i =>
  obtain ⟨t,rfl⟩:=rx
  cases y with
  | non=>cases ry; exact PySem.EqNone.ne_str_none (bH I q (by simp))
  | bl j=>cases ry; exact PySem.EqMixed.ne_str_bool (bH I q (by simp))
  | int j=>obtain ⟨t',rfl⟩:=ry; exact PySem.EqMixed.ne_str_int (bH I q (by simp))
  | str j=>obtain ⟨t',rfl⟩:=ry; exact ne_str (bH I q (congrArg not xT))
  | _=>exact absurd (show false=true from hs) Bool.false_ne_true
 | byt i =>
  obtain ⟨t,rfl⟩:=rx
  cases y with
  | byt j=>obtain ⟨t',rfl⟩:=ry; exact PySem.W.ne_bytes (bH I q (congrArg not wH))
  | _=>exact absurd (show false=true from hs) Bool.false_ne_true
 | _=>cases y <;> exact absurd (show false=true from hs) Bool.false_ne_true
theorem eM:OpR X (compareOp .Lt) (rI0 fun i j => .bl (decide (i < j))):=opB0 fun _ _ _ _ _ _ _ q=>lt_int q
theorem aE0:OpR X (compareOp .LtE) (rI0 fun i j => .bl (decide (i≤j))):=opB0 fun _ _ _ _ _ _ _ q=>le_int q
theorem qE:OpR X (compareOp .Gt) (rI0 fun i j => .bl (decide (j < i))):=opB0 fun _ _ _ _ _ _ _ q=>gt_int q
theorem sR:OpR X (compareOp .GtE) (rI0 fun i j => .bl (decide (j≤i))):=opB0 fun _ _ _ _ _ _ _ q=>ge_int q
theorem aBV:OpR X (compareOp .In) (fun x y H Q=>∃ i j,x = .str i∧y = .str j∧Q (.bl (!(Builtin.Str.occurrences j i 0 j.length 1).isEmpty)) H):=by
 intro pins s σ H x y v u Q I rx ry h
 obtain ⟨i,j,rfl,rfl,q⟩:=h
 obtain ⟨t,rfl⟩:=rx
 obtain ⟨t',rfl⟩:=ry
 exact in_str (bH I q rfl)
theorem nomark (b:Expr) {op:CmpOp} (h:op ≠ .In:=by decide) (h2:op ≠ .NotIn:=by decide):behindInMarks op b=false:=by
 have e1:(op == CmpOp.In)=false:=by cases op <;> first | rfl | exact absurd rfl h
 have e2:(op == CmpOp.NotIn)=false:=by cases op <;> first | rfl | exact absurd rfl h2
 cases b <;> simp [behindInMarks,e1,e2]
theorem aFB {op:CmpOp}{r:R2} (ho:OpR X (compareOp op) r) (ha:PE X a ta) (hb:PE X b tb) (hm:behindInMarks op b=false):PE X (.Compare a [op] [b] pos) (tOp r ta tb):=by
 intro pins s σ H Q I h
 exact wpAny_Compare1 (binT ha hb I h fun v u s2 x y H2 I2 rx ry q=>ho pins s2 σ H2 x y v u Q I2 rx ry q) hm
def aER (t:TE):TT:=fun σ H Q=>t σ H fun x H'=>∃ k,x = .bl k∧Q k H'
theorem aFR {op:CmpOp}{r:R2} (ho:OpR X (compareOp op) r) (ha:PE X a ta) (hb:PE X b tb) (hm:behindInMarks op b=false):PT X (.Compare a [op] [b] pos) (aER (tOp r ta tb)):=by
 intro pins s σ H Q I h
 refine wpAny_isTrue_Compare1 (thn (ha pins s σ H _ I h) fun v s1 ⟨x,H1,I1,r1,q1⟩=>thn (hb pins s1 σ H1 _ I1 q1) fun u s2 ⟨y,H2,I2,r2,q2⟩ =>
  thn (ho pins s2 σ H2 x y v u _ I2 r1 r2 q2) fun c s3 ⟨z,H3,I3,r3,k,e,q3⟩ => ?_) hm
 subst e
 cases r3
 exact wpAny_truthy_bool ⟨H3,I3,q3⟩
def aCB (r r':R2) (ta tb tc:TE):TE:=fun σ H Q=>ta σ H fun x H1=>tb σ H1 fun y H2=>r x y H2 fun z H3=>∃ k,z = .bl k ∧
 (if k=true then tc σ H3 fun w' H4=>r' y w' H4 Q else Q (.bl false) H3)
theorem aEI {op op':CmpOp}{r r':R2} (ho:OpR X (compareOp op) r) (ho':OpR X (compareOp op') r') (ha:PE X a ta) (hb:PE X b tb) (hc:PE X c tc)
  (hm:lastMarks [op,op'] [b,c]=false:=by with_unfolding_all rfl):PE X (.Compare a [op,op'] [b,c] pos) (aCB r r' ta tb tc):=by
 intro pins s σ H Q I h
 refine Compare_chain (thn (ha pins s σ H _ I h) fun v s1 ⟨x,H1,I1,r1,q1⟩=>chain_link (thn (hb pins s1 σ H1 _ I1 q1) fun u s2 ⟨y,H2,I2,r2,q2⟩ =>
  thn (ho pins s2 σ H2 x y v u _ I2 r1 r2 q2) fun d s3 ⟨z,H3,I3,r3,k,e,q3⟩ => ?_)) hm
 subst e
 cases r3
 refine wpAny_truthy_bool ?_
 cases k with
 | false=>exact ite_ff ⟨.bl false,H3,I3,rfl,q3⟩
 | true=>exact ite_tt (chain_last (thn (hc pins s3 σ H3 _ I3 q3) fun w' s4 ⟨z',H4,I4,r4,q4⟩=>ho' pins s4 σ H4 y z' u w' Q I4 r2 r4 q4))
theorem aEP {op op':CmpOp}{r r':R2} (ho:OpR X (compareOp op) r) (ho':OpR X (compareOp op') r') (ha:PE X a ta) (hb:PE X b tb) (hc:PE X c tc)
  (hm:lastMarks [op,op'] [b,c]=false:=by with_unfolding_all rfl):PT X (.Compare a [op,op'] [b,c] pos) (aER (aCB r r' ta tb tc)):=by
 intro pins s σ H Q I h
 refine isTrue_chain (thn (ha pins s σ H _ I h) fun v s1 ⟨x,H1,I1,r1,q1⟩=>test_link (thn (hb pins s1 σ H1 _ I1 q1) fun u s2 ⟨y,H2,I2,r2,q2⟩ =>
  thn (ho pins s2 σ H2 x y v u _ I2 r1 r2 q2) fun d s3 ⟨z,H3,I3,r3,k,e,q3⟩ => ?_)) hm
 subst e
 cases r3
 refine wpAny_truthy_bool ?_
 cases k with
 | false =>
  obtain ⟨k',e',q'⟩:=q3
  cases e'
  exact ite_ff ⟨H3,I3,q'⟩
 | true =>
  refine ite_tt (test_last (thn (hc pins s3 σ H3 _ I3 q3) fun w' s4 ⟨z',H4,I4,r4,q4⟩=>thn (ho' pins s4 σ H4 y z' u w' _ I4 r2 r4 q4) fun d' s5 ⟨z2,H5,I5,r5,k2,e2,q5⟩ => ?_))
  subst e2
  cases r5
  exact wpAny_truthy_bool ⟨H5,I5,q5⟩
def TruV (K:PySem.W.Frag) (x:V) (H:Hp) (k:Bool):Prop :=
 match x with
 | .non=>k=false
 | .bl b=>k=b
 | .int i=>k=(i != 0)
 | .str y=>y.length≤sizeLine∧k=((y.length:Int) != 0)
 | .byt y=>y.size≤sizeLine∧k=((y.size:Int) != 0)
 | .ref p=>(∃ xs,SqL K H p xs∧k = !xs.isEmpty)∨(∃ xs,SqT K H p xs∧k = !xs.isEmpty)∨∃ kvs,H p=some (.dK kvs)∧k = !kvs.isEmpty
 | _=>False
theorem yZ {κ:Type}{kvs:List (κ × V)}{vs:List (κ × Value)} (r:KV kvs vs):(!vs.isEmpty) = !kvs.isEmpty:=by
 cases r <;> rfl
theorem p5 {xs:List V}{its:List Value} (r:Vals xs its):(!its.toArray.isEmpty) = !xs.isEmpty:=by
 cases r <;> simp
theorem line63:(sizeLine:Nat) < 2 ^ 63:=by rw [sizeLine_eq]; decide
theorem aH1:TruR X (fun x H Q=>∃ k,TruV X.K x H k∧Q k H):=by
 intro pins s σ H x v Q I rx h
 obtain ⟨k,e,q⟩:=h
 have hl:=line63
 have hs:sizeLine=16777216:=sizeLine_eq
 cases x with
 | non =>
  cases rx
  have e':k=false:=e
  subst e'
  exact truthy_none ⟨H,I,q⟩
 | bl b =>
  cases rx
  have e':k=b:=e
  subst e'
  exact wpAny_truthy_bool ⟨H,I,q⟩
 | int i =>
  obtain ⟨t,rfl⟩:=rx
  have e':k=(i != 0):=e
  subst e'
  exact PySem.P.truthy_int ⟨H,I,q⟩
 | str y =>
  obtain ⟨t,rfl⟩:=rx
  obtain ⟨hy,e'⟩:y.length≤sizeLine∧k=((y.length:Int) != 0):=e
  subst e'
  exact PySem.P.truthy_str (by omega) ⟨H,I.tok _,q⟩
 | byt y =>
  obtain ⟨t,rfl⟩:=rx
  obtain ⟨hy,e'⟩:y.size≤sizeLine∧k=((y.size:Int) != 0):=e
  subst e'
  exact PySem.W.truthy_bytes (by omega) ⟨H,I.tok _,q⟩
 | ref p =>
  cases rx
  have e':(∃ xs,SqL X.K H p xs∧k = !xs.isEmpty)∨(∃ xs,SqT X.K H p xs∧k = !xs.isEmpty)∨∃ kvs,H p=some (.dK kvs)∧k = !kvs.isEmpty:=e
  rcases e' with ⟨xs,hx,e'⟩ | ⟨xs,hx,e'⟩ | ⟨kvs,hx,e'⟩
  ·subst e'
   obtain ⟨its,r,pl,hz⟩:=I.list hx
   have hlen:=r.length
   exact wpAny_truthy_list pl.isList (by simp only [List.size_toArray]; omega) ⟨H,I.tok _,by rw [p5 r]; exact q⟩
  ·subst e'
   obtain ⟨its,r,pl,hz⟩:=I.tuple hx
   have hlen:=r.length
   exact truthy_tuple pl (by simp only [List.size_toArray]; omega) ⟨H,I.tok _,by rw [p5 r]; exact q⟩
  ·subst e'
   obtain ⟨hz,hS,vs,r,m⟩:kvs.length≤sizeLine∧(p == sysModules)=false∧∃ vs,KV kvs vs∧s.heap.DictOf (fF X.prog X.w) p vs:=I.hok p _ hx
   have hlen:kvs.length=vs.length:=Paired.length r
   exact wpAny_truthy_dict hS m (by omega) ⟨H,I.tok _,by rw [yZ r]; exact q⟩
 | _=>exact (show False from e).elim
theorem aDO (ha:PE X a ta) (he:∀ whole,isTrue a X.env whole=(do let v ← whole; standAt a.pos; holding [v] (truthy v))) :
  PT X a (fun σ H Q=>ta σ H fun x H'=>∃ k,TruV X.K x H' k∧Q k H'):=by
 intro pins s σ H Q I h
 exact isTrue_plain (thn (ha pins s σ H _ I h) fun v s1 ⟨x,H1,I1,r1,q1⟩=>aH1 pins s1 σ H1 x v Q I1 r1 q1) (he _)
theorem jM:OpR X (binaryOp .Add) (fun x y H Q=>∃ i j,x = .str i∧y = .str j∧i.length+j.length≤sizeLine∧Q (.str (i++j)) H):=by
 intro pins s σ H x y v u Q I rx ry h
 obtain ⟨i,j,rfl,rfl,hz,q⟩:=h
 obtain ⟨t,rfl⟩:=rx
 obtain ⟨t',rfl⟩:=ry
 exact add_str (fun t' tk=>⟨.str (i++j),H,I.tok _,⟨_,rfl⟩,q⟩) hz
theorem vals1 {x:V}{us:List Value} (r:Vals [x] us):∃ u,us=[u]∧RelV x u:=by
 cases r with
 | cons r1 r2=>cases r2; exact ⟨_,rfl,r1⟩
theorem vals2 {x y:V}{us:List Value} (r:Vals [x,y] us):∃ u w',us=[u,w']∧RelV x u∧RelV y w':=by
 cases r with
 | cons r1 r2 =>
  cases r2 with
  | cons r3 r4=>cases r4; exact ⟨_,_,rfl,r1,r3⟩
theorem j6:eW X (.builtin "abs") (fun xs H Q=>∃ i,xs=[.int i]∧Q (.int (if i < 0 then -i else i)) H):=by
 intro pins s σ H xs us Q I r h
 obtain ⟨i,rfl,q⟩:=h
 obtain ⟨u,rfl,t,rfl⟩:=vals1 r
 exact call_abs_int fun u tk=>⟨.int (if i < 0 then -i else i),H,I.tok _,⟨_,rfl⟩,q⟩
theorem kO (hc:X.calm=true):eW X (.builtin "max") (fun xs H Q=>∃ i j,xs=[.int i, .int j]∧Q (.int (if j > i then j else i)) H):=by
 intro pins s σ H xs us Q I r h
 obtain ⟨i,j,rfl,q⟩:=h
 obtain ⟨u,w',rfl,⟨t,rfl⟩,⟨t',rfl⟩⟩:=vals2 r
 refine max_two_ints (I.ok.hd hc) fun h' tk k=>⟨_,H,I.kept k,?_,q⟩
 by_cases hj:j > i
 ·rw [if_pos hj,if_pos hj]; exact ⟨_,rfl⟩
 ·rw [if_neg hj,if_neg hj]; exact ⟨_,rfl⟩
theorem aBG:eW X (.type "int") (fun xs H Q=>(∃ i,xs=[.int i]∧Q (.int i) H)∨∃ k,xs=[.bl k]∧Q (.int (if k then 1 else 0)) H):=by
 intro pins s σ H xs us Q I r h
 rcases h with ⟨i,rfl,q⟩ | ⟨k,rfl,q⟩
 ·obtain ⟨u,rfl,t,rfl⟩:=vals1 r
  exact call_int_int ⟨.int i,H,I,⟨_,rfl⟩,q⟩
 ·obtain ⟨u,rfl,r1⟩:=vals1 r
  cases r1
  exact call_int_bool ⟨.int (if k then 1 else 0),H,I.tok _,⟨_,rfl⟩,q⟩
def LenV (K:PySem.W.Frag) (x:V) (H:Hp) (n:Nat):Prop :=
 match x with
 | .str y=>y.length≤sizeLine∧n=y.length
 | .byt y=>y.size≤sizeLine∧n=y.size
 | .ref p=>(∃ xs,SqL K H p xs∧n=xs.length)∨∃ xs,SqT K H p xs∧n=xs.length
 | _=>False
theorem aX:eW X (.builtin "len") (fun xs H Q=>∃ x n,xs=[x]∧LenV X.K x H n∧Q (.int n) H):=by
 intro pins s σ H xs us Q I r h
 obtain ⟨x,n,rfl,e,q⟩:=h
 obtain ⟨u,rfl,rx⟩:=vals1 r
 have hl:=line63
 have hs:sizeLine=16777216:=sizeLine_eq
 cases x with
 | str y =>
  obtain ⟨t,rfl⟩:=rx
  obtain ⟨hy,e'⟩:y.length≤sizeLine∧n=y.length:=e
  subst e'
  exact len_str (by omega) ⟨.int _,H,I.tok _,⟨_,rfl⟩,q⟩
 | byt y =>
  obtain ⟨t,rfl⟩:=rx
  obtain ⟨hy,e'⟩:y.size≤sizeLine∧n=y.size:=e
  subst e'
  exact PySem.W.len_bytes (by omega) ⟨.int _,H,I.tok _,⟨_,rfl⟩,q⟩
 | ref p =>
  cases rx
  have e':(∃ xs,SqL X.K H p xs∧n=xs.length)∨∃ xs,SqT X.K H p xs∧n=xs.length:=e
  rcases e' with ⟨xs,hx,e'⟩ | ⟨xs,hx,e'⟩
  ·subst e'
   obtain ⟨its,r',pl,hz⟩:=I.list hx
   have hlen:=r'.length
   exact Calls.call_len_list pl.isList (by simp only [List.size_toArray]; omega) ⟨.int xs.length,H,I.tok _,⟨_,by simp only [List.size_toArray]; rw [hlen]⟩,q⟩
  ·subst e'
   obtain ⟨its,r',pl,hz⟩:=I.tuple hx
   have hlen:=r'.length
   exact len_tuple pl (by simp only [List.size_toArray]; omega) ⟨.int xs.length,H,I.tok _,⟨_,by simp only [List.size_toArray]; rw [hlen]⟩,q⟩
 | _=>exact (show False from e).elim
end
end L2
namespace L2
open PySem PySem.Spec PyProof.Rows
structure ObjM (h:Heap) (x dx C:Addr) (mA:Str→Option Value):Prop where
 obj:h.get? x=some (PySem.W.instObj C dx)
 ns:h.Ns1 dx mA
 ne:dx≠x
section
variable {prog:Program}{w:World}{A:Around}{E:Value→Shared→Prop}{s:Shared}{K:PySem.W.Frag}{x dx C f:Addr}{mA:Str→Option Value}{name:Str}{v:Value}
end
section
variable {P:Program}{w:World}{H H':Hp}{h h':Heap}{a C dx:Addr}{fs fs':List (Str × V)}
end
structure Cls (K:PySem.W.Frag) (C:Addr):Prop where
 pg:PySem.W.plainGet K C Str.empty=true
 hd:PySem.W.hasDictIn K C=true
 po:PySem.W.plainOver K C=true
 sa:PySem.W.findIn K (.ref C) "__setattr__" = some (some (.builtin "object.__setattr__"))
structure Con (K:PySem.W.Frag) (C:Addr) (f:Str) (v:V) (u:Value):Prop where
 at_:PySem.W.findIn K (.ref C) f=some (some u)
 rel:RelV v u
 get:PySem.W.specialIn K u "__get__" = some none
 cp:PySem.W.copiedNames.contains f=false
structure Meth (K:PySem.W.Frag) (C:Addr) (m:Str) (f:Addr):Prop where
 at_:PySem.W.findIn K (.ref C) m=some (some (.ref f))
 fn:PySem.W.isFn K (.ref f)=true
 kp:PySem.W.keepIn K (.ref f)=true
section
variable {X:Cx}{pins:List (Addr × Obj)}{σ:St}{H:Hp}{s:Shared}{a C dx:Addr}{fs:List (Str × V)}{f:Str}{v:V}{A:Around}{E:Value→Shared→Prop}
end
section
variable {X:Cx}{o e value:Expr}{f:Str}{pos pos' tpos:Pos}{ta tv:TE}
end
section
variable {X:Cx}{pins:List (Addr × Obj)}{σ:St}{H:Hp}{s:Shared}{A:Around}{E:Value→Shared→Prop}{Q:Value→Shared→Prop}{c:Value}{b:Bool}
inductive TyOf (K:PySem.W.Frag) (H:Hp):V→Value→Prop where
 | non:TyOf K H .non (.type "NoneType")
 | bl (x:Bool):TyOf K H (.bl x) (.type "bool")
 | int (i:Int):TyOf K H (.int i) (.type "int")
 | str (x:Str):TyOf K H (.str x) (.type "str")
 | flt (x:UInt64):TyOf K H (.flt x) (.type "float")
 | lst {a:Addr}{xs:List V} (e:H a=some (.lst xs)):TyOf K H (.ref a) (.type "list")
 | frz {a:Addr}{o:Obj}{xs:List V} (e:H a=some (.frz o (.lst xs))):TyOf K H (.ref a) (.type "list")
 | tup {a:Addr}{xs:List V} (e:H a=some (.tup xs)):TyOf K H (.ref a) (.type "tuple")
 | dK {a:Addr}{kvs:List (Key × V)} (e:H a=some (.dK kvs)):TyOf K H (.ref a) (.type "dict")
 | dT {a:Addr}{kvs:List (List Key × V)} (e:H a=some (.dT kvs)):TyOf K H (.ref a) (.type "dict")
 | ins {a C dx:Addr}{fs:List (Str × V)} (e:H a=some (.ins C dx fs)) (cl:Cls K C) (ha:PySem.W.findIn K (.ref C) "__class__" = some (some (.builtin "object.__class__")))
   (hn:PySem.W.specialIn K (.builtin "object.__class__") "__get__" = some (some (.builtin "getset_descriptor.__get__"))) (htk:PySem.W.takesIn K (.builtin "object.__class__")=some true)
   (hm:PySem.W.mroIn K C (.type "object")=some true):TyOf K H (.ref a) (.ref C)
end
end L2
namespace L2
open PySem PySem.Spec PyProof.Rows
structure Room (k:Nat) (A:Around):Prop where
 hd:A.handled=none
 dp:A.depth+3 * k+5 < recursionLimit
 un:A.units+16 * k+200 < cLine
 gd:A.guards=some []
theorem Room.mono {j k:Nat}{A:Around} (r:Room k A) (h:j≤k):Room j A:=⟨r.hd,by have:=r.dp; omega,by have:=r.un; omega,r.gd⟩
theorem Room.deeper {k:Nat}{A:Around} (r:Room (k+1) A) (env:Env):Room k (A.deeper env) :=
 ⟨r.hd,by have:=r.dp; show A.depth+1+3 * k+5 < _; omega,by have:=r.un; show A.units+3+16 * k+200 < _; omega,r.gd⟩
theorem Room.in1 {k:Nat}{A:Around} (r:Room (k+1) A):Room k A.in1 :=
 ⟨r.hd,by have:=r.dp; show A.depth+3 * k+5 < _; omega,by have:=r.un; show A.units+1+16 * k+200 < _; omega,r.gd⟩
theorem Room.depth {k:Nat}{A:Around} (r:Room k A):A.depth < recursionLimit:=by have:=r.dp; omega
theorem Room.units {k:Nat}{A:Around} (r:Room k A):A.units+64 < cLine:=by have:=r.un; omega
def tNil:TA:=fun _ H Q=>Q [] H
def aJ3 (ta:TE) (tr:TA):TA:=fun σ H Q=>ta σ H fun x H1=>tr σ H1 fun xs H2=>Q (x::xs) H2
section
variable {X:Cx}{e:Expr}{es:List Expr}{te:TE}{t:TA}{pos:Pos}
theorem aCJ:PA X [] tNil:=fun _ _ _ _ H Q I h=>Calls.spliced_nil ⟨[],H,I, .nil,h⟩
theorem qN (ha:PE X e te) (hr:PA X es t) (hs:starEach (e::es) X.env=(false,eval e X.env)::starEach es X.env:=by rfl):PA X (e::es) (aJ3 te t):=by
 intro pos pins s σ H Q I h
 rw [hs]
 show wpAny _ _ (spliced ((false,eval e X.env)::backTo pos (starEach es X.env))) _ _ s
 refine Calls.spliced_cons (thn (ha pins s σ H _ I h) fun u s1 ⟨x,H1,I1,r1,q1⟩ => ?_)
 exact thn (hr pos pins s1 σ H1 _ I1 q1) fun us s2 ⟨xs,H2,I2,r2,q2⟩=>⟨x::xs,H2,I2, .cons r1 r2,q2⟩
def tTup (t:TA):TE:=fun σ H Q=>t σ H fun xs H1=>xs.length≤sizeLine∧∀ p,H1 p=none→Q (.ref p) (upd H1 p (.tup xs))
def tLst (t:TA):TE:=fun σ H Q=>t σ H fun xs H1=>xs.length≤sizeLine∧∀ p,H1 p=none→Q (.ref p) (upd H1 p (.lst xs))
theorem aJH {x1} (h:PA X es t):PE X (.Tuple es x1 pos) (tTup t):=by
 intro pins s σ H Q I hq
 refine wpAny_Tuple_spliced (thn (h pos pins s σ H _ I hq) fun us s1 ⟨xs,H1,I1,r,z,q⟩=>⟨by rw [← r.length]; exact z,?_⟩)
 have hf:H1 s1.heap.objs.size=none:=I1.hok.fresh (Nat.le_refl _)
 refine ⟨.ref s1.heap.objs.size,upd H1 s1.heap.objs.size (.tup xs),I1.laid (t':=s1.toks) (fun b u e=>Heap.get?_push_of_some _ e) (Nat.le_refl _) ?_,rfl,q _ hf⟩
 exact ⟨z,us,r,⟨_,Heap.get?_push_size _ rfl,rfl,_,rfl⟩⟩
theorem aB6 (h:PA X es t):PE X (.List es pos) (tLst t):=by
 intro pins s σ H Q I hq
 refine wpAny_List_spliced (thn (h pos pins s σ H _ I hq) fun us s1 ⟨xs,H1,I1,r,z,q⟩=>⟨by rw [← r.length]; exact z,?_⟩)
 have hf:H1 s1.heap.objs.size=none:=I1.hok.fresh (Nat.le_refl _)
 refine ⟨.ref s1.heap.objs.size,upd H1 s1.heap.objs.size (.lst xs),I1.laid (t':=s1.toks) (fun b u e=>Heap.get?_push_of_some _ e) (Nat.le_refl _) ?_,rfl,q _ hf⟩
 exact ⟨z,us,0,r,Heap.get?_push_size _ rfl⟩
end
abbrev Sp:=List V→Hp→VK→XK→Prop
abbrev CXT:=List Env→Hp→Shared→XK→Value→Shared→Prop
structure Env0 (P:Program) (w:World) (K:PySem.W.Frag) (mg:Str→Option Value) (base:Heap) (A:Around) (outer:List Env) (s:Shared) (H:Hp):Prop where
 frames:A.frames=some outer
 mod:Mod K mg base
 bs:∀ b o,base.get? b=some o→s.heap.get? b=some o∧H b=none
 bsz:base.objs.size≤s.heap.objs.size
 funs:s.heap.FunFrames base outer
 frf:∀ b∈frs outer,H b=none
 hok:HOk P w H s.heap
 bare:AllBare s.gens
def CE (outer:List Env) (P:Program) (w:World) (H:Hp) (s:Shared) (Q:VK) (u:Value) (s':Shared):Prop :=
 ∃ v H',s'.os=s.os∧AllBare s'.gens∧Un (frs outer) [] H H' s.heap s'.heap∧HOk P w H' s'.heap∧RelV v u∧Q v H'
def CR (CX:CXT) (outer:List Env) (P:Program) (w:World) (H:Hp) (s:Shared) (Q:VK) (E:XK) (r:Result) (s':Shared):Prop :=
 match r with
 | .ok (.ret u)=>CE outer P w H s Q u s'
 | .ok _=>False
 | .error e=>CX outer H s E e s'
structure FnOk (P:Program) (w:World) (K:PySem.W.Frag) (mg:Str→Option Value) (base:Heap) (CX:CXT) (k:Nat) (f:Addr) (fd:FuncData) (ps:List Str) (sp:Sp):Prop where
 len:∀ vs H Q E,sp vs H Q E→vs.length=ps.length
 run:∀ (A:Around) (outer:List Env) (s:Shared) (H:Hp) (args:Args) (us:List Value) (vs:List V) (Q:VK) (E:XK),Room k A→Env0 P w K mg base A outer s H→BindsTo s fd args (ps.zip us)→Vals vs us→sp vs H Q E →
  codeAny (model P w) A (.call (.ref f) args) (CR CX outer P w H s Q E) s
theorem Env0.in1 {P:Program}{w:World}{K:PySem.W.Frag}{mg:Str→Option Value}{base:Heap}{A:Around}{outer:List Env}{s:Shared}{H:Hp} (e:Env0 P w K mg base A outer s H) :
  Env0 P w K mg base A.in1 outer s H:=⟨e.frames,e.mod,e.bs,e.bsz,e.funs,e.frf,e.hok,e.bare⟩
section
variable {X:Cx}{pins:List (Addr × Obj)}{σ:St}{H:Hp}{s s':Shared}
theorem Inv.env0 (I:Inv X pins σ H s):Env0 X.prog X.w X.K X.mg X.base X.A X.stack s H :=
 ⟨I.ok.frames,I.ok.mod,I.bs,Nat.le_trans I.ok.bsz I.sz,I.stack,I.stkFree,I.hok,I.bare⟩
theorem Inv.after {Q:VK}{u:Value} (I:Inv X pins σ H s) (h:CE X.stack X.prog X.w H s Q u s'):EP X pins σ Q u s':=by
 obtain ⟨v,H',os,bare,un,hok,r,q⟩:=h
 obtain ⟨hh,g,d,t,os'⟩:=s'
 obtain rfl:os'=s.os:=os
 exact ⟨v,H',I.call (h':=hh) (g':=g) (d':=d) (t':=t) (ch:=[]) un hok bare (fun b z=>absurd z (by simp)),r,q⟩
end
def aJZ (sp:Sp) (dvs:List V) (E:XK) (t:TA):TE:=fun σ H Q=>t σ H fun vs H1=>sp (vs++dvs) H1 Q E
def Binds (K:PySem.W.Frag) (fd:FuncData) (ps:List Str) (ds:List Value):Prop :=
 ∀ (s:Shared) (us:List Value),K.In s.heap→(us++ds).length=ps.length→BindsTo s fd ⟨us,[]⟩ (ps.zip (us++ds))
theorem Binds.all {K:PySem.W.Frag}{fd:FuncData}{ps:List Str} (h:∀ us:List Value,us.length=ps.length→bindArgs fd ⟨us,[]⟩=pure (ps.zip us)):Binds K fd ps []:=fun s us _ hl=>by
 rw [List.append_nil] at hl ⊢
 exact .of_eq (h us hl)
def Passes (CX:CXT) (X:Cx) (E:XK):Prop:=∀ (pins:List (Addr × Obj)) (σ:St) (H:Hp) (s:Shared) (e:Value) (s':Shared),Inv X pins σ H s→CX X.stack H s E e s'→X.xe e s'
section
variable {X:Cx}{CX:CXT}{k:Nat}{f C:Addr}{fd:FuncData}{ps:List Str}{sp:Sp}{dvs:List V}{ds:List Value}{E:XK}{x m:Str}{p pos apos:Pos}{e o:Expr}{es:List Expr}{ta:TE}{t:TA}
theorem aHY {pins:List (Addr × Obj)}{σ:St}{H:Hp}{s:Shared}{Q:VK}{us:List Value}{vs:List V} (F:FnOk X.prog X.w X.K X.mg X.base CX k f fd ps sp) (hr:Room k X.A) (hb:Binds X.K fd ps ds) (hd:Vals dvs ds) (hx:Passes CX X E)
  (I:Inv X pins σ H s) (r:Vals vs us) (h:sp (vs++dvs) H Q E):wpAny (model X.prog X.w) X.A (call (.ref f) us) (EP X pins σ Q) X.xe s:=by
 have r2:Vals (vs++dvs) (us++ds):=r.append hd
 have hl:(us++ds).length=ps.length:=by rw [← r2.length]; exact F.len _ _ _ _ h
 refine wpAny_call (codeAny_mono (F.run X.A X.stack s H ⟨us,[]⟩ (us++ds) (vs++dvs) Q E hr I.env0 (hb s us I.kIn hl) r2 h) fun r s' hq => ?_)
 cases r with
 | error e=>exact hx pins σ H s e s' I hq
 | ok fl =>
  cases fl with
  | ret u=>exact I.after hq
  | next=>exact False.elim hq
  | brk=>exact False.elim hq
  | cont=>exact False.elim hq
theorem aFI (F:FnOk X.prog X.w X.K X.mg X.base CX k f fd ps sp) (hr:Room k X.A) (hg:Gl X x) (hm:X.mg x=some (.ref f)) (hk:PySem.W.keepIn X.K (.ref f)=true) (hb:Binds X.K fd ps ds) (hd:Vals dvs ds) (hx:Passes CX X E)
  (ha:PA X (e::es) t) (hdb:(x == ("__debug__" : Str))=false:=by decide) (he:starEach (e::es) X.env=(false,eval e X.env)::starEach es X.env:=by rfl) (hpl:(backTo pos (starEach es X.env)).any (·.1)=false:=by rfl) :
  PE X (.Call (.Name x p) (e::es) [] pos) (aJZ sp dvs E t):=by
 intro pins s σ H Q I h
 refine wpAny_Call_Name_kw (xK I hg hm ?_ hdb)
 refine PySem.W.callWith_K (h₀:=X.base) I.ok.mod.kin hk (thn (ha pos pins s σ H _ I h) fun us s1 ⟨vs,H1,I1,r,q⟩=>⟨I1.kIn,?_⟩) he hpl
 exact aHY F hr hb hd hx I1 r q
structure Mk (K:PySem.W.Frag) (C f:Addr):Prop where
 makes:PySem.W.makesIn K C=true
 init:PySem.W.findIn K (.ref C) "__init__" = some (some (.ref f))
 fn:PySem.W.isFn K (.ref f)=true
 kp:PySem.W.keepIn K (.ref C)=true
end
section
variable {X:Cx}{CX:CXT}{k:Nat}{f C:Addr}{fd:FuncData}{ps ks:List Str}{sp:Sp}{E:XK}{x m:Str}{p pos apos kpos:Pos}{e o:Expr}{es:List Expr}{kws:List Keyword}{te ta:TE}{t tk:TA}{nm:Option Str}
structure KBinds (K:PySem.W.Frag) (fd:FuncData) (ps ks:List Str) (g:List Value→List Value→List Value) (gV:List V→List V→List V):Prop where
 to:∀ (s:Shared) (us ws:List Value),K.In s.heap→(g us ws).length=ps.length→BindsTo s fd ⟨us,ks.zip ws⟩ (ps.zip (g us ws))
 rel:∀ {vs:List V}{us:List Value}{zs:List V}{ws:List Value},Vals vs us→Vals zs ws→Vals (gV vs zs) (g us ws)
variable {g:List Value→List Value→List Value}{gV:List V→List V→List V}
end
structure FnScope (N P:List Str) (sc:Scope):Prop where
 kind:sc.kind = .function
 co:sc.isCoroutine=false
 gen:sc.isGenerator=false
 nd:N.Nodup
 pre:N.take P.length=P
 par:∀ x∈P,sc.names.lookup x=some .local∨sc.names.lookup x=some .cell
 nofree:∀ y∈sc.names,y.2 ≠ .free
theorem rR {kindOf:Str→Option NameKind}{x:Str}:∀ {binds:List (Str × Value)}{m:Str→Option Value},(∀ v,(x,v) ∉ binds)→bindL kindOf binds m x=m x
 | [],_,_=>rfl
 | (n,v)::r,m,h=>by
  unfold bindL
  rw [rR fun w hw=>h w (List.mem_cons_of_mem _ hw)]
  split
  ·have:x≠n:=by rintro rfl; exact h v List.mem_cons_self
   simp [this]
  ·rfl
theorem rQ {kindOf:Str→Option NameKind}{x:Str}:∀ {binds:List (Str × Value)}{m:Str→Option Value},(∀ v,(x,v) ∉ binds)→bindC kindOf binds m x=m x
 | [],_,_=>rfl
 | (n,v)::r,m,h=>by
  unfold bindC
  rw [rQ fun w hw=>h w (List.mem_cons_of_mem _ hw)]
  split
  ·rfl
  ·have:x≠n:=by rintro rfl; exact h v List.mem_cons_self
   simp [this]
theorem rP {kindOf:Str→Option NameKind}{x:Str}{v:Value}:∀ {P:List Str}{vs:List Value}{i:Nat}{m:Str→Option Value},P.Nodup→P[i]?=some x→vs[i]?=some v→kindOf x=some .local →
  bindL kindOf (P.zip vs) m x=some v
 | [],_,_,_,_,h,_,_=>by simp at h
 | _::_,[],_,_,_,_,h,_=>by simp at h
 | p::P,w::vs,0,m,nd,h1,h2,hk=>by
  simp at h1 h2; subst h1; subst h2
  show bindL kindOf ((p,w)::P.zip vs) m p=_
  unfold bindL
  rw [rR fun v hv=>(List.nodup_cons.mp nd).1 (List.of_mem_zip hv).1,if_pos hk]
  simp
 | p::P,w::vs,i+1,m,nd,h1,h2,hk=>by
  show bindL kindOf ((p,w)::P.zip vs) m x=_
  unfold bindL
  exact rP (i:=i) (List.nodup_cons.mp nd).2 (by simpa using h1) (by simpa using h2) hk
theorem rX {kindOf:Str→Option NameKind}{x:Str}{v:Value}:∀ {P:List Str}{vs:List Value}{i:Nat}{m:Str→Option Value},P.Nodup→P[i]?=some x→vs[i]?=some v→kindOf x≠some .local →
  bindC kindOf (P.zip vs) m x=some v
 | [],_,_,_,_,h,_,_=>by simp at h
 | _::_,[],_,_,_,_,h,_=>by simp at h
 | p::P,w::vs,0,m,nd,h1,h2,hk=>by
  simp at h1 h2; subst h1; subst h2
  show bindC kindOf ((p,w)::P.zip vs) m p=_
  unfold bindC
  rw [rQ fun v hv=>(List.nodup_cons.mp nd).1 (List.of_mem_zip hv).1,if_neg hk]
  simp
 | p::P,w::vs,i+1,m,nd,h1,h2,hk=>by
  show bindC kindOf ((p,w)::P.zip vs) m x=_
  unfold bindC
  exact rX (i:=i) (List.nodup_cons.mp nd).2 (by simpa using h1) (by simpa using h2) hk
def start (N:List Str) (vs:List V):St:=vs.map some++List.replicate (N.length - vs.length) none
def cxOf (CX:CXT) (P:Program) (w:World) (K:PySem.W.Frag) (mg:Str→Option Value) (base:Heap) (N:List Str) (qual:Str) (scope:Scope) (f:Addr) (cd:Value) (A:Around) (outer:List Env) (s:Shared) (H:Hp) (E:XK):Cx where
 prog:=P
 w:=w
 K:=K
 mg:=mg
 base:=base
 A:=A.deeper (envOfC qual scope s.heap.objs.size f cd)
 N:=N
 s₀:=s
 H₀:=H
 env:=envOfC qual scope s.heap.objs.size f cd
 outer:=outer
 stack:=envOfC qual scope s.heap.objs.size f cd::outer
 ex:=[]
 calm:=true
 fn:=fun _=>true
 pn:=[]
 xe:=fun e s'=>wpAny (model P w) (A.deeper (envOfC qual scope s.heap.objs.size f cd)) (leaving (envOfC qual scope s.heap.objs.size f cd) e) (fun _ s''=>CX outer H s E e s'') (fun e' s''=>CX outer H s E e' s'') s'
theorem vI {sc:Scope}{n:Nat}{x:Str} (h:sc.names.lookup x=some .cell):∃ c,(cellsFrom n sc.names []).lookup x=some c:=by
 have q:=PySem.W.cellsFrom_some sc.names n [] (.inl h)
 exact Option.isSome_iff_exists.mp q
theorem aBH {CX:CXT}{P:Program}{w:World}{K:PySem.W.Frag}{mg:Str→Option Value}{base:Heap}{N ps:List Str}{qual:Str}{scope:Scope}{f:Addr}{cd:Value}{A:Around}{outer:List Env}{s s1:Shared}{H:Hp}{E:XK}{us:List Value}{vs:List V}
  (S:FnScope N ps scope) (hd:A.handled=none) (e0:Env0 P w K mg base A outer s H) (hl:vs.length=ps.length) (r:Vals vs us)
  (x:InCallC s s.heap.objs.size (bindL (envOfC qual scope s.heap.objs.size f cd).kindOf (ps.zip us) fun _=>none) (cellsFrom (s.heap.objs.size+1) scope.names []) (bindC (envOfC qual scope s.heap.objs.size f cd).kindOf (ps.zip us) fun _=>none) s1) :
  Inv (cxOf CX P w K mg base N qual scope f cd A outer s H E) [] (start N vs) H s1:=by
 have hpl:ps.length≤N.length:=by have:=congrArg List.length S.pre; rw [List.length_take] at this; omega
 obtain ⟨h1,tk,rfl,hk⟩:=x.done
 have noA:∀ b:Addr,b ∉ (cxOf CX P w K mg base N qual scope f cd A outer s H E).ex:=fun b z=>absurd (show b∈([]:List Addr) from z) (by simp)
 refine ⟨⟨e0.mod,S.kind,rfl,rfl,Nat.le_refl _,fun y z c h1 h2 => ?_,fun y hy => ?_,fun y c _ h => ?_,fun _=>hd,Around.frames_deeper e0.frames, .inr ⟨rfl,rfl⟩,fun b z=>absurd z (noA b),e0.bs,e0.bsz,fun b _ _=>noA b,fun b z=>absurd z (noA b),e0.funs,e0.frf⟩,
  rfl,e0.bare,Un.kept hk,⟨_,x.toInCall.ns,fun i y v h1 h2 h3 => ?_⟩,fun y c h=>⟨_,x.cell y c h⟩,e0.hok.fresh (Nat.le_refl _),fun y c h => ?_,fun p hp=>absurd (show p∈([]:List (Addr × Obj)) from hp) (by simp),e0.hok.kept hk,?_⟩
 ·exact name_of_addr x.apart (PySem.mem_of_lookup h1) (PySem.mem_of_lookup h2)
 ·have hy:scope.names.lookup y=some .cell∨scope.names.lookup y=some .free:=hy
  rcases hy with hy | hy
  ·exact vI hy
  ·exact absurd rfl (S.nofree _ (PySem.mem_of_lookup hy))
 ·exact Nat.le_of_lt (x.above y c (PySem.mem_of_lookup h))
 ·have hi:i < vs.length:=by
   unfold start at h2
   by_cases hi:i < vs.length
   ·exact hi
   ·rw [List.getElem?_append_right (by simpa using hi)] at h2
    rw [List.getElem?_replicate] at h2
    split at h2 <;> cases h2
  have ha:vs[i]?=some v:=by
   unfold start at h2
   rw [List.getElem?_append_left (by simpa using hi),List.getElem?_map] at h2
   cases e:vs[i]? with
   | none=>rw [e] at h2; cases h2
   | some a=>rw [e] at h2; cases h2; rfl
  obtain ⟨u,hu,rv⟩:=r.get ha
  have hp:ps[i]?=some y:=by
   rw [← S.pre,List.getElem?_take_of_lt (by omega)]; exact h1
  have ndP:ps.Nodup:=by rw [← S.pre]; exact S.nd.sublist (List.take_sublist _ _)
  refine ⟨u,rv,?_⟩
  rcases S.par y (List.mem_of_getElem? hp) with k | k
  ·exact .inl ⟨k,rP ndP hp hu k⟩
  ·obtain ⟨c,e⟩:=vI (n:=s.heap.objs.size+1) k
   refine .inr ⟨.inl k,c,e,?_⟩
   have q:=x.cell y c e
   rw [rX ndP hp hu (by show scope.names.lookup y≠_; rw [k]; decide)] at q
   exact q
 ·exact e0.hok.fresh (Nat.le_of_lt (x.above y c (PySem.mem_of_lookup h)))
 ·unfold start
  show _=N.length
  rw [List.length_append,List.length_map,List.length_replicate]
  omega
theorem aKD {CX:CXT}{P:Program}{w:World}{K:PySem.W.Frag}{mg:Str→Option Value}{base:Heap}{k:Nat}{f:Addr}{name qual:Str}{params:Arguments}{body:List Stmt}{scope:Scope}{dV kV doc pm cdv ct oc:Value}{an od:Option Addr}
  {osl:Array (Option Value)}{N ps:List Str}{sp:Sp} (lk:K.lookup f=some ⟨oc,od, .func (PySem.W.fnOf name qual params body scope dV kV doc pm an cdv ct),osl⟩) (hcd:PySem.W.codeIn K cdv qual=true) (S:FnScope N ps scope)
  (len:∀ vs H Q E,sp vs H Q E→vs.length=ps.length)
  (hbody:∀ (A:Around) (outer:List Env) (s:Shared) (H:Hp) (vs:List V) (Q:VK) (E:XK),Room k (A.deeper (envOfC qual scope s.heap.objs.size f cdv))→sp vs H Q E →
   ∃ t,PSs (cxOf CX P w K mg base N qual scope f cdv A outer s H E) body t∧t { nx:=fun _ H'=>Q .non H',rt:=Q } (start N vs) H) :
  FnOk P w K mg base CX (k+1) f (PySem.W.fnOf name qual params body scope dV kV doc pm an cdv ct) ps sp:=by
 refine ⟨len,fun A outer s H args us vs Q E hr e0 hb r hsp => ?_⟩
 have hl:=len _ _ _ _ hsp
 have KX:K.In s.heap:=e0.mod.kin.keeps fun b o e=>(e0.bs b o e).1
 have lim:s.heap.NoLimit:=e0.mod.nolimit.keeps fun b o e=>(e0.bs b o e).1
 have hkind:∀ y∈ps.zip us,scope.names.lookup y.1=some .local∨(scope.names.lookup y.1=some .cell∧((cellsFrom (s.heap.objs.size+1) scope.names []).lookup y.1).isSome=true):=fun ⟨n,v⟩ hy=>by
  rcases S.par n (List.of_mem_zip hy).1 with q | q
  ·exact .inl q
  ·exact .inr ⟨q,PySem.W.cellsFrom_some _ _ _ (.inl q)⟩
 refine codeAny_call_function hr.depth (KX _ _ lk) rfl S.co S.gen rfl (PySem.W.codeRec_of KX hcd) (hb _ _ _ _ ?_)
 refine wpAny_newFunctionEnv_cells S.kind hkind fun env he s1 x => ?_
 subst he
 refine ⟨lim.keeps x.toInCall.keep,codeAny_func ?_⟩
 obtain ⟨t,ht,hq⟩:=hbody A outer s H vs Q E (hr.deeper _) hsp
 have I:Inv (cxOf CX P w K mg base N qual scope f cdv A outer s H E) [] (start N vs) H s1:=aBH S hr.hd e0 hl r x
 refine wpAny_mono (ht [] s1 (start N vs) H _ I hq) (fun fl s' hs => ?_) fun e s' hs=>hs
 have fin:∀ {σ':St}{H':Hp}{v:V}{u:Value},Inv (cxOf CX P w K mg base N qual scope f cdv A outer s H E) [] σ' H' s'→RelV v u→Q v H'→CE outer P w H s Q u s' :=
  fun {σ' H' v u} J rv q=>⟨v,H',J.os,J.bare,J.base,J.hok,rv,q⟩
 cases fl with
 | ret u =>
  obtain ⟨v,σ',H',J,rv,q⟩:=hs
  exact fin J rv q
 | next =>
  obtain ⟨σ',H',J,q⟩:=hs
  exact fin (v:=V.non) (u:=Value.none) J rfl q
 | brk =>
  obtain ⟨_,_,_,q⟩:=hs
  exact False.elim q
 | cont =>
  obtain ⟨_,_,_,q⟩:=hs
  exact False.elim q
end L2
namespace L2
open PySem PySem.Spec PyProof.Rows
section
variable {X:Cx}{x:Str}{p pos:Pos}{e:Expr}{es:List Expr}{t:TA}{id T:String}{r:List V→Hp→VK→Prop}
def tCB (r:List V→Hp→VK→Prop) (t:TA):TE:=fun σ H Q=>t σ H fun vs H1=>r vs H1 Q
theorem tL (hc:eW X (.builtin id) r) (hg:Gl X x) (hm:X.mg x=none) (hv:bootBuiltins x=some (.builtin id)) (ha:PA X (e::es) t) (hn:x ≠ "__name__" := by decide) (hdb:(x == ("__debug__" : Str))=false:=by decide)
  (he:starEach (e::es) X.env=(false,eval e X.env)::starEach es X.env:=by rfl) (hpl:(backTo pos (starEach es X.env)).any (·.1)=false:=by rfl):PE X (.Call (.Name x p) (e::es) [] pos) (tCB r t):=by
 intro pins s σ H Q I h
 refine wpAny_Call_Name_kw (j5 I hg hm hv ?_ hn hdb)
 exact PyProof.Rows.callWith_builtin1 (thn (ha pos pins s σ H _ I h) fun us s1 ⟨vs,H1,I1,r1,q1⟩=>hc pins s1 σ H1 vs us Q I1 r1 q1) he hpl
theorem aAT (hc:eW X (.type T) r) (hg:Gl X x) (hm:X.mg x=none) (hv:bootBuiltins x=some (.type T)) (ha:PA X (e::es) t) (hn:x ≠ "__name__" := by decide) (hdb:(x == ("__debug__" : Str))=false:=by decide)
  (he:starEach (e::es) X.env=(false,eval e X.env)::starEach es X.env:=by rfl) (hpl:(backTo pos (starEach es X.env)).any (·.1)=false:=by rfl):PE X (.Call (.Name x p) (e::es) [] pos) (tCB r t):=by
 intro pins s σ H Q I h
 refine wpAny_Call_Name_kw (j5 I hg hm hv ?_ hn hdb)
 exact PyProof.Rows.callWith_type1 (thn (ha pos pins s σ H _ I h) fun us s1 ⟨vs,H1,I1,r1,q1⟩=>hc pins s1 σ H1 vs us Q I1 r1 q1) he hpl
end
end L2
namespace HT
open PySem PyProof.Rows
section
open PySem.SeqAt
open PySem.AutoSeq1 (wpAny_loadPart')
open PySem.MeetsSeq PySem.MeetsSeq2 PySem.MeetsSeq3
end
section
variable {prog:Program}{w:World}{A:Around}{E:Value→Shared→Prop}{s:Shared}
def sIx (n d:Nat):Option Int→Nat
 | none=>d
 | some v=>if v < 0 then (v+(n:Int)).toNat else min v.toNat n
theorem aD6 (n d:Nat):sIx n d none=d:=rfl
theorem qS (n d k:Nat):sIx n d (some (k:Int))=min k n:=by
 show (if (k:Int) < 0 then ((k:Int)+(n:Int)).toNat else min (k:Int).toNat n)=min k n
 rw [if_neg (by omega),Int.toNat_natCast]
theorem aA9 (n d:Nat) (hd:d≤n) (o:Option Int):sIx n d o≤n:=by
 cases o with
 | none=>exact hd
 | some v =>
  show (if v < 0 then (v+(n:Int)).toNat else min v.toNat n)≤n
  by_cases hv:v < 0
  ·rw [if_pos hv]; omega
  ·rw [if_neg hv]; exact Nat.min_le_right _ _
theorem yD (v:Int) (n d:Nat):(if v < 0 then max (v+(n:Int)) 0 else min v (n:Int))=((sIx n d (some v):Nat):Int):=by
 show (if v < 0 then max (v+(n:Int)) 0 else min v (n:Int))=(((if v < 0 then (v+(n:Int)).toNat else min v.toNat n):Nat):Int)
 by_cases hv:v < 0
 ·simp only [if_pos hv]; omega
 ·simp only [if_neg hv]; omega
theorem zO (lo hi:Option Int) (n:Nat):Builtin.Slice.sliceAdjust lo hi 1 (n:Int)=(((sIx n 0 lo:Nat):Int),((sIx n n hi:Nat):Int)):=by
 have h1:¬ ((1:Int) < 0):=by omega
 unfold Builtin.Slice.sliceAdjust
 simp only [h1,if_false]
 refine Prod.ext ?_ ?_
 ·cases lo with
  | none=>rfl
  | some v=>exact yD v n 0
 ·cases hi with
  | none=>rfl
  | some v=>exact yD v n n
theorem zP (i j:Nat):Builtin.Slice.slicePlaces (i:Int) (j:Int) 1=j - i:=by
 unfold Builtin.Slice.slicePlaces
 have h1:(1:Int) > 0:=by omega
 simp only [h1,if_true,Int.ediv_one]
 split <;> omega
theorem qK {v:Value}{o:Option Int}{Q:Option Int→Shared→Prop} (p:IsPart v o) (h:Q o s):wpAny (model prog w) A (Builtin.Slice.slicePartIndex v) Q E s:=by
 cases p with
 | none=>exact slicePart_none h
 | int i t=>exact slicePart_int h
theorem kD {sl:Addr}{vl vu:Value}{lo hi:Option Int}{n:Nat}{Q:Int × Int × Nat→Shared→Prop} (hs:s.heap.IsSliceOf sl vl vu .none) (pl:IsPart vl lo) (pu:IsPart vu hi)
  (h:Q (((sIx n 0 lo:Nat):Int),1,sIx n n hi - sIx n 0 lo) s):wpAny (model prog w) A (Builtin.Slice.sliceApplied (.ref sl) (pure (n:Int))) Q E s:=by
 obtain ⟨os,hos,hcs,hds⟩:=id hs
 unfold Builtin.Slice.sliceApplied Builtin.Slice.sliceFields
 refine wpAny_bind (wpAny_bind (wpAny_field hos hds (x:=vl) rfl (wpAny_bind (wpAny_field hos hds (x:=vu) rfl (wpAny_bind (wpAny_field hos hds (x := .none) rfl (wpAny_pure ?_)))))))
 refine wpAny_bind (slicePart_none ?_)
 show wpAny _ _ (if ((1:Int) == 0)=true then _ else _) _ _ s
 rw [if_neg (by decide)]
 refine wpAny_bind (qK pl (wpAny_bind (qK pu (wpAny_bind (wpAny_pure ?_)))))
 show wpAny _ _ (match Builtin.Slice.sliceAdjust lo hi 1 (n:Int) with | (lo,hi)=>pure (lo,(1:Int),Builtin.Slice.slicePlaces lo hi 1)) _ _ s
 rw [zO lo hi n]
 show wpAny _ _ (pure (((sIx n 0 lo:Nat):Int),(1:Int),Builtin.Slice.slicePlaces ((sIx n 0 lo:Nat):Int) ((sIx n n hi:Nat):Int) 1)) _ _ s
 rw [zP]
 exact wpAny_pure h
theorem aDS (xs:Array Value) (i k:Nat):((List.range k).filterMap fun (m:Nat)=>xs[((i:Int)+(m:Int) * 1).toNat]?).toArray=((xs.toList.drop i).take k).toArray:=by
 have e:(fun (m:Nat)=>xs[((i:Int)+(m:Int) * 1).toNat]?)=fun m=>xs[i+m]?:=by
  funext m
  have:((i:Int)+(m:Int) * 1).toNat=i+m:=by omega
  rw [this]
 rw [e]
 have:=pick_run xs i k
 rw [List.filterMap_map] at this
 have e2:((fun x=>xs[x]?) ∘ fun x=>i+x)=fun m=>xs[i+m]?:=rfl
 rw [e2] at this
 rw [this]
theorem oX {t sl:Addr}{items:Array Value}{vl vu:Value}{lo hi:Option Int}{Q:Value→Shared→Prop} (ht:IsTup s.heap t items) (hs:s.heap.IsSliceOf sl vl vu .none) (pl:IsPart vl lo) (pu:IsPart vu hi)
  (hw:¬ (sIx items.size 0 lo=0∧sIx items.size items.size hi=items.size))
  (h:Q (.ref s.heap.objs.size) { s with heap:=s.heap.push { cls := .type "tuple", data := .seq ((items.toList.drop (sIx items.size 0 lo)).take (sIx items.size items.size hi - sIx items.size 0 lo)).toArray } })
  (hsz:items.size≤sizeLine):wpAny (model prog w) A (getItem (.ref t) (.ref sl)) Q E s:=by
 have htake:sizeOk (.seq ((items.toList.drop (sIx items.size 0 lo)).take (sIx items.size items.size hi - sIx items.size 0 lo)).toArray):=by
  show ((items.toList.drop (sIx items.size 0 lo)).take (sIx items.size items.size hi - sIx items.size 0 lo)).toArray.size≤sizeLine
  rw [List.size_toArray,List.length_take,List.length_drop,Array.length_toList]
  omega
 have hj:sIx items.size items.size hi≤items.size:=aA9 _ _ (Nat.le_refl _) hi
 obtain ⟨os,hos,hcs,hds⟩:=id hs
 have hTs:s.TypeIs (.ref sl) "slice" := ⟨os,hos,hcs⟩
 unfold getItem
 try with_reducible refine wpAny_holding ?_
 first | refine wpAny_bind (wpAny_pure ?_) | skip
 refine wpAny_bind (wpAny_sequenceKey ht.typeIs (by decide) ?_)
 refine wpAny_bind (wpAny_callSpecial?_slot (name:=Str.ofString "__getitem__") ht.typeIs PyProof.Rows.slot_tuple_getitem
  (wpAny_call_entry PyProof.Rows.slot_tuple_getitem ht.typeIs entry_tuple_getitem ?_ (args_tuple_getitem _ _)))
 show wpAny _ _ (Builtin.Tuple.tupleItemsOf (.ref t) >>= _) _ _ s
 refine wpAny_bind (tupleItemsOf_ ht ?_)
 refine wpAny_bind (wpAny_typeOf hTs ?_)
 rw [if_pos (by decide)]
 refine wpAny_bind (kD hs pl pu ?_)
 have hno:¬ ((((sIx items.size 0 lo:Nat):Int) == 0 && (1:Int) == 1 && (sIx items.size items.size hi - sIx items.size 0 lo) == items.size)=true):=by
  intro q
  rw [Bool.and_eq_true,Bool.and_eq_true] at q
  have q1:((sIx items.size 0 lo:Nat):Int)=0:=eq_of_beq q.1.1
  have q2:sIx items.size items.size hi - sIx items.size 0 lo=items.size:=eq_of_beq q.2
  exact hw ⟨by omega,by omega⟩
 show wpAny _ _ (if (((sIx items.size 0 lo:Nat):Int) == 0 && (1:Int) == 1 && (sIx items.size items.size hi - sIx items.size 0 lo) == items.size)=true then _ else _) _ _ s
 rw [if_neg hno,aDS]
 first
  | exact wpAny_bind (m:=Builtin.Tuple.tupleExact _) (wpAny_newObj_type (wpAny_pure ⟨_,rfl,wpAny_pure h⟩) htake)
  | exact wpAny_bind (m:=Builtin.Tuple.tupleExact _) (wpAny_newObj_type (wpAny_bind (wpAny_pure (wpAny_pure ⟨_,rfl,wpAny_pure h⟩))) htake)
  | exact wpAny_bind (wpAny_bind (m:=Builtin.Tuple.tupleExact _) (wpAny_newObj_type (wpAny_pure (wpAny_pure ⟨_,rfl,wpAny_pure h⟩)) htake))
  | exact wpAny_bind (wpAny_bind (m:=Builtin.Tuple.tupleExact _) (wpAny_newObj_type (wpAny_pure ⟨_,rfl,wpAny_pure h⟩) htake))
end
end HT
namespace L2
open PySem PySem.Spec PyProof.Rows
abbrev TO:=St→Hp→(Option Int→Hp→Prop)→Prop
def PO (X:Cx) (e:Option Expr) (t:TO):Prop :=
 ∀ (pins:List (Addr × Obj)) (s:Shared) (σ:St) (H:Hp) (Q:Option Int→Hp→Prop),Inv X pins σ H s→t σ H Q →
  wpAny (model X.prog X.w) X.A (evalPart e X.env) (fun u s'=>∃ o H',Inv X pins σ H' s'∧IsPart u o∧Q o H') X.xe s
def aFM:TO:=fun _ H Q=>Q none H
def aJM (t:TE):TO:=fun σ H Q=>t σ H fun x H1=>∃ i,x = .int i∧Q (some i) H1
section
variable {X:Cx}{e:Expr}{te:TE}{lo hi:Option Expr}{tl th:TO}{pos p2:Pos}
theorem aFZ:PO X none aFM:=by
 intro pins s σ H Q I h
 rw [evalPart_none]
 exact wpAny_pure ⟨none,H,I, .none,h⟩
theorem aGZ (h:PE X e te):PO X (some e) (aJM te):=by
 intro pins s σ H Q I hw
 rw [evalPart_some]
 refine thn (h pins s σ H _ I hw) fun u s1 ⟨x,H1,I1,r1,q1⟩ => ?_
 obtain ⟨i,rfl,q⟩:=q1
 obtain ⟨t,rfl⟩:=r1
 exact ⟨some i,H1,I1, .int i t,q⟩
def SlR (X:Cx) (r:V→Option Int→Option Int→Hp→VK→Prop):Prop :=
 ∀ (pins:List (Addr × Obj)) (s:Shared) (σ:St) (H:Hp) (x:V) (v vl vu:Value) (lo hi:Option Int) (sl:Addr) (Q:VK),Inv X pins σ H s→RelV x v→s.heap.IsSliceOf sl vl vu .none→IsPart vl lo→IsPart vu hi→r x lo hi H Q →
  ∃ T id,typeLookup (.type T) "__getitem__" = pure (some (.builtin id))∧s.TypeIs v T∧wpAny (model X.prog X.w) X.A (getItem v (.ref sl)) (EP X pins σ Q) X.xe s
def tSl (r:V→Option Int→Option Int→Hp→VK→Prop) (te:TE) (tl th:TO):TE:=fun σ H Q=>te σ H fun x H1=>tl σ H1 fun l H2=>th σ H2 fun u H3=>r x l u H3 Q
theorem aEG {r:V→Option Int→Option Int→Hp→VK→Prop} (hr:SlR X r) (he:PE X e te) (hl:PO X lo tl) (hu:PO X hi th):PE X (.Subscript e (.Slice lo hi none p2) pos) (tSl r te tl th):=by
 intro pins s σ H Q I h
 refine Subscript_ (thn (he pins s σ H _ I h) fun v s1 ⟨x,H1,I1,r1,q1⟩ => ?_)
 refine wpAny_Slice (thn (hl pins s1 σ H1 _ I1 q1) fun vl s2 ⟨l,H2,I2,pl,q2⟩=>thn (hu pins s2 σ H2 _ I2 q2) fun vu s3 ⟨u,H3,I3,pu,q3⟩ => ?_)
 rw [evalPart_none]
 refine wpAny_pure ?_
 have I4:Inv X pins σ H3 { s3 with heap:=s3.heap.push { cls := .type "slice", data := .fields #[vl,vu, .none] } }:=I3.kept (t':=s3.toks) fun b ob q=>Heap.get?_push_of_some _ q
 obtain ⟨T,id,hT,ht,hg⟩:=hr pins { s3 with heap:=s3.heap.push { cls := .type "slice", data := .fields #[vl,vu, .none] } } σ H3 x v vl vu l u s3.heap.objs.size Q I4 r1 (Heap.IsSliceOf.new ..) pl pu q3
 show wpAny (model X.prog X.w) X.A (subscriptTail e (.Slice lo hi none p2) v (.ref s3.heap.objs.size)) (EP X pins σ Q) X.xe { s3 with heap:=s3.heap.push { cls := .type "slice", data := .fields #[vl,vu, .none] } }
 exact tail_any (ops:=[.ref s3.heap.objs.size,v]) ht hT hg (by with_unfolding_all rfl)
def cutV (xs:List V) (lo hi:Option Int):List V:=(xs.drop (HT.sIx xs.length 0 lo)).take (HT.sIx xs.length xs.length hi - HT.sIx xs.length 0 lo)
theorem o8 (xs:List V) (lo hi:Option Int):(cutV xs lo hi).length≤xs.length:=by
 unfold cutV
 rw [List.length_take,List.length_drop]
 omega
def rSlT (K:PySem.W.Frag):V→Option Int→Option Int→Hp→VK→Prop:=fun x lo hi H Q=>∃ a xs,x = .ref a∧SqT K H a xs ∧
 ¬ (HT.sIx xs.length 0 lo=0∧HT.sIx xs.length xs.length hi=xs.length)∧∀ p,H p=none→Q (.ref p) (upd H p (.tup (cutV xs lo hi)))
theorem aI6:SlR X (rSlT X.K):=by
 intro pins s σ H x v vl vu lo hi sl Q I rx hs pl pu h
 obtain ⟨a,xs,rfl,hx,hw,q⟩:=h
 cases rx
 obtain ⟨its,r,ht,hz⟩:=I.tuple hx
 have hlen:its.toArray.size=xs.length:=by rw [List.size_toArray]; exact r.length.symm
 refine ⟨"tuple", _,PyProof.Rows.slot_tuple_getitem.lookup,ht.typeIs,?_⟩
 refine HT.oX ht hs pl pu (by rw [hlen]; exact hw) ?_ (by rw [hlen]; exact hz)
 rw [hlen]
 refine ⟨.ref s.heap.objs.size,_,I.laid (t':=s.toks) (o := .tup (cutV xs lo hi)) (fun b ob q=>Heap.get?_push_of_some _ q) (Nat.le_refl _) ?_,rfl,q _ (I.hok.fresh (Nat.le_refl _))⟩
 exact ⟨Nat.le_trans (o8 xs lo hi) hz,_,(r.drop (HT.sIx xs.length 0 lo)).take (HT.sIx xs.length xs.length hi - HT.sIx xs.length 0 lo),IsTup.new _ _⟩
end
end L2
namespace L2
open PySem PySem.Spec PyProof.Rows
def ixN (n:Nat) (i:Int):Option Nat:=if 0≤i then (if i < n then some i.toNat else none) else if -(n:Int)≤i then some (i+n).toNat else none
def atI {α:Type} (xs:List α) (i:Int):Option α:=(ixN xs.length i).bind fun j=>xs[j]?
theorem wZ {n:Nat}{i:Int}{j:Nat} (h:ixN n i=some j):seqIndex? i n=some j∧j < n ∧ -(n:Int)≤i∧i < n:=by
 unfold ixN at h
 by_cases h0:0≤i
 ·rw [if_pos h0] at h
  by_cases h1:i < n
  ·rw [if_pos h1] at h
   have e:i.toNat=j:=Option.some.inj h
   exact ⟨by rw [seqIndex_of h0 h1,e],by omega,by omega,h1⟩
  ·rw [if_neg h1] at h; cases h
 ·rw [if_neg h0] at h
  by_cases h1 : -(n:Int)≤i
  ·rw [if_pos h1] at h
   have e:(i+n).toNat=j:=Option.some.inj h
   exact ⟨by rw [seqIndex_neg (by omega) h1,e],by omega,h1,by omega⟩
  ·rw [if_neg h1] at h; cases h
theorem q8 {α:Type}{xs:List α}{i:Int}{v:α} (h:atI xs i=some v):∃ j,seqIndex? i xs.length=some j∧xs[j]?=some v∧j < xs.length ∧ -(xs.length:Int)≤i∧i < xs.length:=by
 unfold atI at h
 cases e:ixN xs.length i with
 | none=>rw [e] at h; cases h
 | some j =>
  rw [e] at h
  obtain ⟨h1,h2,h3,h4⟩:=wZ e
  exact ⟨j,h1,h,h2,h3,h4⟩
theorem cW {α:Type}{xs:List α}{j:Nat}{v:α} (h:xs[j]?=some v):atI xs (j:Int)=some v:=by
 have hj:j < xs.length:=(List.getElem?_eq_some_iff.mp h).1
 have e:ixN xs.length (j:Int)=some j:=by
  unfold ixN
  rw [if_pos (by omega),if_pos (by omega)]; simp
 unfold atI; rw [e]; exact h
theorem uM {α:Type} (xs:List α) (v:α):atI (xs++[v]) (-1)=some v:=by
 have hl:(xs++[v]).length=xs.length+1:=by simp
 have e:ixN (xs++[v]).length (-1)=some xs.length:=by
  unfold ixN
  rw [hl,if_neg (by decide),if_pos (by omega)]
  congr 1
  omega
 unfold atI
 rw [e]
 show (xs++[v])[xs.length]?=some v
 simp
def wP (b:Expr):Prop:=∀ o i,subscripted b false o i=operate [o,i] (getItem o i)
def IxR (X:Cx) (r:R2):Prop :=
 ∀ (value slice:Expr) (pins:List (Addr × Obj)) (s:Shared) (σ:St) (H:Hp) (x y:V) (v u:Value) (Q:VK),Inv X pins σ H s→RelV x v→RelV y u→r x y H Q →
  subscripted slice false v u=operate [v,u] (getItem v u)→wpAny (model X.prog X.w) X.A (subscriptTail value slice v u) (EP X pins σ Q) X.xe s
def MtR (X:Cx) (id:String) (r:V→List V→Hp→VK→Prop):Prop :=
 ∀ (pins:List (Addr × Obj)) (s:Shared) (σ:St) (H:Hp) (x:V) (xs:List V) (v:Value) (us:List Value) (Q:VK),Inv X pins σ H s→RelV x v→Vals xs us→r x xs H Q →
  wpAny (model X.prog X.w) X.A (call (.builtin id) (v::us)) (EP X pins σ Q) X.xe s
section
variable {X:Cx}{a b:Expr}{ta tb:TE}{pos:Pos}
theorem IxR.or {r r':R2} (h:IxR X r) (h':IxR X r'):IxR X (fun x y H Q=>r x y H Q∨r' x y H Q):=by
 intro value slice pins s σ H x y v u Q I rx ry q hs
 rcases q with q | q
 ·exact h value slice pins s σ H x y v u Q I rx ry q hs
 ·exact h' value slice pins s σ H x y v u Q I rx ry q hs
theorem aJ5 {r:R2} (hr:IxR X r) (ha:PE X a ta) (hb:PE X b tb) (hs:wP b):PE X (.Subscript a b pos) (tOp r ta tb):=by
 intro pins s σ H Q I h
 exact Subscript_ (binT ha hb I h fun v u s2 x y H2 I2 rx ry q=>hr a b pins s2 σ H2 x y v u Q I2 rx ry q (hs _ _))
def rIxL (K:PySem.W.Frag):R2:=fun x y H Q=>∃ p xs i v,x = .ref p∧y = .int i∧SqL K H p xs∧atI xs i=some v∧Q v H
def rIxT (K:PySem.W.Frag):R2:=fun x y H Q=>∃ p xs i v,x = .ref p∧y = .int i∧SqT K H p xs∧atI xs i=some v∧Q v H
def rIxS:R2:=fun x y H Q=>∃ z i c,x = .str z∧y = .int i∧z.length≤sizeLine∧atI z.cps.toList i=some c∧Q (.str ⟨#[c]⟩) H
theorem aF4:IxR X (rIxL X.K):=by
 intro value slice pins s σ H x y v u Q I rx ry h hs
 obtain ⟨p,xs,i,z,rfl,rfl,hq,he,q⟩:=h
 cases rx
 obtain ⟨t,rfl⟩:=ry
 obtain ⟨its,r,pl,hz⟩:=I.list hq
 obtain ⟨j,h1,h2,h3,h4,h5⟩:=q8 he
 obtain ⟨w,ew,rw'⟩:=r.get h2
 have hl:=r.length
 have hn:=line63
 have fin:EP X pins σ Q w s:=⟨z,H,I,rw',q⟩
 by_cases h0:0≤i
 ·have hj:i.toNat=j:=by
   rw [seqIndex_of h0 h5] at h1
   exact Option.some.inj h1
  exact item_listR pl.isList h0 (by omega) (by rw [hj]; simpa using ew) fin hs
 ·have hj:(i+(its.toArray.size:Int)).toNat=j:=by
   rw [seqIndex_neg (by omega) h4] at h1
   rw [List.size_toArray,← hl]
   exact Option.some.inj h1
  exact subscriptTail_builtinR (x:=w) pl.isList.typeIs slot_list_getitem.lookup
   (wpAny_getItem_list_neg (Q:=fun r s'=>r=w∧EP X pins σ Q r s') pl.isList (by omega) (by rw [List.size_toArray] <;> omega) (by omega) (by rw [hj]; simpa using ew) ⟨rfl,fin⟩) hs
theorem aIV:IxR X (rIxT X.K):=by
 intro value slice pins s σ H x y v u Q I rx ry h hs
 obtain ⟨p,xs,i,z,rfl,rfl,hq,he,q⟩:=h
 cases rx
 obtain ⟨t,rfl⟩:=ry
 obtain ⟨its,r,pl,hz⟩:=I.tuple hq
 obtain ⟨j,h1,h2,h3,h4,h5⟩:=q8 he
 obtain ⟨w,ew,rw'⟩:=r.get h2
 have hl:=r.length
 have hn:=line63
 have fin:EP X pins σ Q w s:=⟨z,H,I,rw',q⟩
 exact subscriptTail_builtinR (x:=w) pl.typeIs slot_tuple_getitem.lookup
  (getItem_tuple (j:=j) (Q:=fun r s'=>r=w∧EP X pins σ Q r s') pl (by omega) (by omega) (by rw [List.size_toArray,← hl]; exact h1) (by simpa using ew) ⟨rfl,fin⟩) hs
theorem aIE:IxR X rIxS:=by
 intro value slice pins s σ H x y v u Q I rx ry h hs
 obtain ⟨z,i,c,rfl,rfl,hz,he,q⟩:=h
 obtain ⟨t,rfl⟩:=rx
 obtain ⟨t',rfl⟩:=ry
 obtain ⟨j,h1,h2,h3,h4,h5⟩:=q8 he
 have hl:z.cps.toList.length=z.length:=by simp [Str.length]
 rw [hl] at h1 h4 h5
 have hn:=line63
 exact tail_any (typeIs_str s z t) slot_str_getitem.lookup (getItem_str (c:=c) (by
  have e1:decide (i < -(2 ^ 63:Int))=false:=decide_eq_false (by omega)
  have e2:decide (i≥2 ^ 63)=false:=decide_eq_false (by omega)
  rw [e1,e2,Bool.or_false]) (by rw [h1]; simpa using h2) ⟨.str ⟨#[c]⟩,H,I.tok _,⟨_,rfl⟩,q⟩) hs
def rIx (K:PySem.W.Frag):R2:=fun x y H Q=>rIxL K x y H Q∨rIxT K x y H Q∨rIxS x y H Q
theorem aF:IxR X (rIx X.K):=aF4.or (aIV.or aIE)
theorem zH (its:List Value) (n j:Nat) (u:Value):Obj.mapSeq (·.setIfInBounds j u) { cls := .type "list", data := .seq its.toArray n }={ cls := .type "list", data := .seq (its.set j u).toArray n }:=by
 simp [Obj.mapSeq]
theorem Inv.lst {pins:List (Addr × Obj)}{σ:St}{H:Hp}{s:Shared}{p:Addr}{xs:List V} (I:Inv X pins σ H s) (h:H p=some (.lst xs)) :
  ∃ (its:List Value) (n:Nat),Vals xs its∧s.heap.get? p=some { cls := .type "list", data := .seq its.toArray n }∧xs.length≤sizeLine:=by
 obtain ⟨z,its,n,r,e⟩:=I.hok p _ h
 exact ⟨its,n,r,e,z⟩
theorem Inv.lstUpd {pins:List (Addr × Obj)}{σ:St}{H:Hp}{s:Shared}{p:Addr}{xs ys:List V}{its its':List Value}{n n':Nat}{f:Obj→Obj} (I:Inv X pins σ H s) (h:H p=some (.lst xs))
  (ho:s.heap.get? p=some { cls := .type "list", data := .seq its.toArray n }) (hf:f { cls := .type "list", data := .seq its.toArray n }={ cls := .type "list", data := .seq its'.toArray n' }) (r:Vals ys its') (hz:ys.length≤sizeLine) (t:Nat) :
  Inv X pins σ (upd H p (.lst ys)) { s with heap:=s.heap.update p f,toks:=t }:=by
 have e:(s.heap.update p f).get? p=some { cls := .type "list", data := .seq its'.toArray n' }:=by
  rw [Heap.get?_update_self f ho (by rw [hf] <;> rfl),hf]
 refine I.write (x:=p) (e:=p) (by rw [h]; trivial) (.inl rfl) (fun b u hb q=>(Heap.get?_update_other _ _ (Ne.symm hb)).trans q) ⟨_,e⟩ ?_
 exact ⟨hz,its',n',r,e⟩
def aJ8:V→V→V→Hp→(Hp→Prop)→Prop:=fun o i v H Q=>∃ p xs k j,o = .ref p∧i = .int k∧H p=some (.lst xs)∧ixN xs.length k=some j∧Q (upd H p (.lst (xs.set j v)))
theorem aC2:PSet X aJ8:=by
 intro pins s σ H o i v ov iv u Q I ro ri rv h
 obtain ⟨p,xs,k,j,rfl,rfl,hp,hj,q⟩:=h
 cases ro
 obtain ⟨t,rfl⟩:=ri
 obtain ⟨its,n,r,ho,hz⟩:=I.lst hp
 obtain ⟨h1,h2,h3,h4⟩:=wZ hj
 have hl:=r.length
 have hn:=line63
 have I':Inv X pins σ (upd H p (.lst (xs.set j v))) { s with heap:=s.heap.update p (Obj.mapSeq (·.setIfInBounds j u)) } :=
  I.lstUpd hp ho (zH its n j u) (r.set rv j) (by rw [List.length_set]; exact hz) s.toks
 by_cases h0:0≤k
 ·have hk:k.toNat=j:=by
   rw [seqIndex_of h0 h4] at h1
   exact Option.some.inj h1
  exact PySem.W.ki_setAt ho h0 (by omega) (by rw [List.size_toArray,← hl]; exact h4) (by rw [hk]; exact ⟨_,I',q⟩)
 ·have hk:(k+(its.toArray.size:Int)).toNat=j:=by
   rw [seqIndex_neg (by omega) h3] at h1
   rw [List.size_toArray,← hl]
   exact Option.some.inj h1
  exact PySem.W.ki_setBack ho (by omega) (by rw [List.size_toArray,← hl]; exact h3) (by omega) (by rw [hk]; exact ⟨_,I',q⟩)
theorem nF (lo hi:Option Int) (n:Nat):(sliceBounds lo hi none n).1=((HT.sIx n 0 lo:Nat):Int)∧(sliceBounds lo hi none n).2.1=((HT.sIx n n hi:Nat):Int)∧(sliceBounds lo hi none n).2.2=1:=by
 refine ⟨?_,?_,rfl⟩
 ·cases lo with
  | none=>simp [sliceBounds,HT.sIx]
  | some i =>
   simp only [sliceBounds,HT.sIx,Option.getD_none,show (1:Int) > 0 by decide,if_true]
   by_cases h:i < 0
   ·simp only [h,if_true] <;> omega
   ·simp only [h,if_false] <;> omega
 ·cases hi with
  | none=>simp [sliceBounds,HT.sIx]
  | some i =>
   simp only [sliceBounds,HT.sIx,Option.getD_none,show (1:Int) > 0 by decide,if_true]
   by_cases h:i < 0
   ·simp only [h,if_true] <;> omega
   ·simp only [h,if_false] <;> omega
theorem sK (its:List Value) (lo hi:Option Int):slicePick its.toArray lo hi none=((its.drop (HT.sIx its.length 0 lo)).take (HT.sIx its.length its.length hi - HT.sIx its.length 0 lo)).toArray:=by
 obtain ⟨h1,h2,h3⟩:=nF lo hi its.toArray.size
 unfold slicePick
 rw [h1,h2,h3]
 simp only [sliceRange_one,pick_run,List.size_toArray] <;> rfl
def rSlL (K:PySem.W.Frag):V→Option Int→Option Int→Hp→VK→Prop:=fun x lo hi H Q=>∃ a xs,x = .ref a∧SqL K H a xs∧∀ p,H p=none→Q (.ref p) (upd H p (.lst (cutV xs lo hi)))
theorem f7:SlR X (rSlL X.K):=by
 intro pins s σ H x v vl vu lo hi sl Q I rx hs pl pu h
 obtain ⟨a,xs,rfl,hx,q⟩:=h
 cases rx
 obtain ⟨its,r,ht,hz⟩:=I.list hx
 have hlen:=r.length
 refine ⟨"list", _,slot_list_getitem.lookup,ht.isList.typeIs,?_⟩
 refine wpAny_getItem_list_slice ht.isList hs pl pu .none (by simp) ?_ (by rw [List.size_toArray] <;> omega)
 rw [sK,← hlen]
 refine ⟨.ref s.heap.objs.size,_,I.laid (t':=s.toks) (o := .lst (cutV xs lo hi)) (fun b ob q=>Heap.get?_push_of_some _ q) (Nat.le_refl _) ?_,rfl,q _ (I.hok.fresh (Nat.le_refl _))⟩
 exact ⟨Nat.le_trans (o8 xs lo hi) hz,_,0,(r.drop (HT.sIx xs.length 0 lo)).take (HT.sIx xs.length xs.length hi - HT.sIx xs.length 0 lo),Heap.get?_push_size _ rfl⟩
theorem cT:eW X (.type "list") (fun xs H Q=>∃ p ys,xs=[.ref p]∧(SqL X.K H p ys∨SqT X.K H p ys)∧∀ l,H l=none→Q (.ref l) (upd H l (.lst ys))):=by
 intro pins s σ H xs us Q I r h
 obtain ⟨p,ys,rfl,hq,q⟩:=h
 obtain ⟨u,rfl,rx⟩:=vals1 r
 cases rx
 have fin:∀ (its:List Value),Vals ys its→ys.length≤sizeLine→∀ (h':Heap) (c':Nat),(∀ b o',s.heap.get? b=some o'→h'.get? b=some o') →
   h'.get? s.heap.objs.size=some { cls := .type "list", dict:=none,data := .seq its.toArray c',slots := #[] }→EP X pins σ Q (.ref s.heap.objs.size) { s with heap:=h' }:=fun its r' hz h' c' kp e =>
  ⟨.ref s.heap.objs.size,_,I.laid (t':=s.toks) kp (Nat.le_refl _) (show eH X.prog X.w _ h' _ (.lst ys) from ⟨hz,its,c',r',e⟩),rfl,q _ (I.hok.fresh (Nat.le_refl _))⟩
 rcases hq with hq | hq
 ·obtain ⟨its,r',pl,hz⟩:=I.list hq
  have hlen:=r'.length
  obtain ⟨o,ho,hc,n,hd⟩:=pl.isList
  exact call_list_seq p (.inl rfl) ho hc hd (fun h' c' kp e=>fin its r' hz h' c' kp e) (by simp only [List.size_toArray] <;> omega)
 ·obtain ⟨its,r',pl,hz⟩:=I.tuple hq
  have hlen:=r'.length
  obtain ⟨o,ho,hc,n,hd⟩:=pl
  exact call_list_seq p (.inr rfl) ho hc hd (fun h' c' kp e=>fin its r' hz h' c' kp e) (by simp only [List.size_toArray] <;> omega)
theorem dE:eW X (.type "tuple") (fun xs H Q=>∃ p ys,xs=[.ref p]∧((SqL X.K H p ys∧∀ l,H l=none→Q (.ref l) (upd H l (.tup ys)))∨(SqT X.K H p ys∧Q (.ref p) H))):=by
 intro pins s σ H xs us Q I r h
 obtain ⟨p,ys,rfl,h⟩:=h
 obtain ⟨u,rfl,rx⟩:=vals1 r
 cases rx
 rcases h with ⟨hq,q⟩ | ⟨hq,q⟩
 ·obtain ⟨its,r',pl,hz⟩:=I.list hq
  have hlen:=r'.length
  refine call_tuple_list pl.isList (fun h' kp => ?_) (by simp only [List.size_toArray] <;> omega)
  have I1:Inv X pins σ H { s with heap:=h' }:=I.kept (t':=s.toks) kp
  have I2:Inv X pins σ (upd H h'.objs.size (.tup ys)) { s with heap:=h'.push { cls := .type "tuple", data := .seq its.toArray } } :=
   I1.laid (t':=s.toks) (fun b o e=>Heap.get?_push_of_some _ e) (Nat.le_refl _) (show eH X.prog X.w _ _ _ (.tup ys) from ⟨hz,its,r',IsTup.new _ _⟩)
  exact ⟨.ref h'.objs.size,_,I2,rfl,q _ (I1.hok.fresh (Nat.le_refl _))⟩
 ·obtain ⟨its,r',pl,hz⟩:=I.tuple hq
  exact call_tuple_same pl ⟨.ref p,H,I,rfl,q⟩
def tyV (K:PySem.W.Frag) (T:String) (x:V) (H:Hp):Prop:=match x with
 | .str _=>T = "str"
 | .int _=>T = "int"
 | .ref p=>(T = "list" ∧ ∃ xs,SqL K H p xs)∨(T = "tuple" ∧ ∃ o,K.lookup p=some o∧o.cls = .type "tuple" ∧ o.dict=none) ∨
   (T = "dict" ∧ ((∃ kvs,H p=some (.dK kvs))∨∃ kvs,H p=some (.dT kvs)))∨(T = "set" ∧ ∃ S n,H p=some (.set S n))
 | _=>False
theorem aIZ {pins:List (Addr × Obj)}{σ:St}{H:Hp}{s:Shared}{T:String}{x:V}{v:Value} (I:Inv X pins σ H s) (r:RelV x v) (ty:tyV X.K T x H) :
  s.TypeIs v T∧∀ a,v = .ref a→∃ ob,s.heap.get? a=some ob∧ob.dict=none:=by
 cases x with
 | str z =>
  obtain ⟨t,rfl⟩:=r
  cases (show T = "str" from ty)
  exact ⟨typeIs_str s z t,fun _ e=>nomatch e⟩
 | int i =>
  obtain ⟨t,rfl⟩:=r
  cases (show T = "int" from ty)
  exact ⟨typeIs_int s i t,fun _ e=>nomatch e⟩
 | ref p =>
  cases r
  rcases ty with ⟨rfl,xs,hq⟩ | ⟨rfl,o,hk,hc,hd⟩ | ⟨rfl,hk⟩ | ⟨rfl,S,n,hk⟩
  ·obtain ⟨its,_,pl,_⟩:=I.list hq
   refine ⟨pl.isList.typeIs,fun a e => ?_⟩
   cases e
   obtain ⟨o,n,e,c,hd,_⟩:=pl
   exact ⟨o,e,hd⟩
  ·refine ⟨⟨o,I.kIn p o hk,hc⟩,fun a e => ?_⟩
   cases e
   exact ⟨o,I.kIn _ o hk,hd⟩
  ·have z:∃ o,s.heap.get? p=some o∧o.ExactDict:=by
    rcases hk with ⟨kvs,hk⟩ | ⟨kvs,hk⟩
    ·obtain ⟨_,_,_,_,o,_,_,e,ex,_⟩:=I.hok p _ hk
     exact ⟨o,e,ex⟩
    ·obtain ⟨_,_,_,_,o,_,_,e,ex,_⟩:=I.hok p _ hk
     exact ⟨o,e,ex⟩
   obtain ⟨o,e,ex⟩:=z
   refine ⟨⟨o,e,ex.1⟩,fun a e2 => ?_⟩
   cases e2
   exact ⟨o,e,ex.2.1⟩
  ·obtain ⟨o,_,_,_,e,ex,_⟩:=I.hok p _ hk
   refine ⟨⟨o,e,ex.1⟩,fun a e2 => ?_⟩
   cases e2
   exact ⟨o,e,ex.2.1⟩
 | _=>exact False.elim ty
def tBM (K:PySem.W.Frag) (T:String) (r:V→List V→Hp→VK→Prop) (to:TE) (t:TA):TE:=fun σ H Q=>to σ H fun x H1=>tyV K T x H1∧t σ H1 fun xs H2=>r x xs H2 Q
variable {o e:Expr}{es:List Expr}{to:TE}{t:TA}{name:Str}{apos cpos:Pos}{T id:String}{r:V→List V→Hp→VK→Prop}
theorem aJ1 (pa:PlainAttrs T) (slot:Slot T name id) (hty:typeOf (.builtin id)=pure (.type "method_descriptor")) (hm:MtR X id r) (ho:PE X o to) (ha:PA X (e::es) t)
  (hbase:attributeBase o name X.env (eval o X.env)=eval o X.env:=by rfl)
  (hfew:((backTo cpos (starEach (e::es) X.env)).all (fun x => !x.1) && (backToKw cpos (keywordEach [] X.env)).all (fun x=>x.1.isSome)
   && decide ((e::es).length+([]:List Keyword).length+(if ([]:List Keyword).isEmpty then 0 else 1) < 30))=true:=by rfl)
  (hline:(apos.endLine == cpos.line)=true:=by rfl) (hs:starEach (e::es) X.env=(false,eval e X.env)::starEach es X.env:=by rfl) (hplain:(backTo cpos (starEach es X.env)).any (·.1)=false:=by rfl) :
  PE X (.Call (.Attribute o name apos) (e::es) [] cpos) (tBM X.K T r to t):=by
 intro pins s σ H Q I h
 refine wpAny_Call_method_late hbase hfew hline rfl (thn (ho pins s σ H _ I h) fun v s1 ⟨x,H1,I1,r1,ty,q1⟩ => ?_)
 obtain ⟨h1,h2⟩:=aIZ I1 r1 ty
 refine ⟨T,id,pa,slot,hty,h1,h2,?_⟩
 have hA:=ha cpos pins s1 σ H1 _ I1 q1
 rw [hs] at hA ⊢
 refine Calls.callWith_builtin (by show (false || (backTo cpos (starEach es X.env)).any (·.1))=false; rw [hplain] <;> rfl) (Calls.evalArgs_plain ?_)
 exact thn hA fun us s2 ⟨vs,H2,I2,r2,q2⟩=>hm pins s2 σ H2 x vs v us Q I2 r1 r2 q2
/- xs.append(e),list.index on a module's tuple .. are MtR facts of 06m -/
end
end L2
namespace L2
open PySem PySem.Spec PyProof.Rows
def MtM (X:Cx) (id:String) (r:V→List V→Hp→VK→Prop):Prop :=
 ∀ (pins:List (Addr × Obj)) (s:Shared) (σ:St) (H:Hp) (x:V) (xs:List V) (v:Value) (us:List Value) (Q:VK),Inv X pins σ H s→RelV x v→Vals xs us→r x xs H Q →
  wpAny (model X.prog X.w) X.A (call (.builtin id) (v::us)) (EP X pins σ Q) X.xe s
theorem Vals.one:∀ {x:V}{us:List Value},Vals [x] us→∃ u,us=[u]∧RelV x u
 | _,_, .cons r .nil=>⟨_,rfl,r⟩
theorem Vals.eraseIdx:∀ {xs:List V}{us:List Value} (i:Nat),Vals xs us→Vals (xs.eraseIdx i) (us.eraseIdx i)
 | _,_,_, .nil => .nil
 | _,_,0, .cons _ t=>t
 | _,_,i+1, .cons r t => .cons r (Vals.eraseIdx i t)
section
variable {X:Cx}{pins:List (Addr × Obj)}{σ:St}{H:Hp}{s:Shared}{l b:Addr}{xs ys zs:List V}
theorem Inv.lset {its its':List Value}{n:Nat}{f:Array Value→Array Value}{t':Nat} (I:Inv X pins σ H s) (hH:H l=some (.lst xs))
  (e:s.heap.get? l=some { cls := .type "list", data := .seq its.toArray n }) (hf:f its.toArray=its'.toArray) (hv:Vals ys its') (hz:ys.length≤sizeLine) :
  Inv X pins σ (upd H l (.lst ys)) { s with heap:=s.heap.update l (Obj.mapSeq f),toks:=t' }:=by
 have q:=PySem.IsL.update e f
 rw [hf] at q
 refine I.write (x:=l) (e:=l) (by rw [hH]; exact trivial) (.inl rfl) (fun b' u hb hu=>(Heap.get?_update_other s.heap (Obj.mapSeq f) (Ne.symm hb)).trans hu) ⟨_,q⟩ ?_
 exact ⟨hz,its',_,hv,q⟩
theorem Inv.lnew {its:List Value}{t':Nat} (I:Inv X pins σ H s) (hv:Vals ys its) (hz:ys.length≤sizeLine) :
  Inv X pins σ (upd H s.heap.objs.size (.lst ys)) { s with heap:=s.heap.push { cls := .type "list", data := .seq its.toArray },toks:=t' } :=
 I.laid (fun _ _ q=>Heap.get?_push_of_some _ q) (Nat.le_refl _) ⟨hz,its,0,hv,Heap.get?_push_size _ rfl⟩
theorem Inv.fresh (I:Inv X pins σ H s):H s.heap.objs.size=none:=I.hok.fresh (Nat.le_refl _)
theorem Inv.lstM (I:Inv X pins σ H s) (hH:H l=some (.lst xs)):xs.length≤sizeLine∧∃ (its:List Value) (n:Nat),Vals xs its∧xs.length=its.length∧s.heap.get? l=some { cls := .type "list", data := .seq its.toArray n }:=by
 obtain ⟨z,its,n,r,e⟩:=I.hok l _ hH
 exact ⟨z,its,n,r,r.length,e⟩
theorem aC1 {n:Nat} (h:n≤sizeLine):Builtin.List.listTooLong n=false:=by
 unfold Builtin.List.listTooLong
 exact decide_eq_false (by omega)
end
section
variable {X:Cx}
def xJ:V→List V→Hp→VK→Prop:=fun x vs H Q=>∃ l xs y,x = .ref l∧vs=[y]∧H l=some (.lst xs)∧xs.length < sizeLine∧Q .non (upd H l (.lst (xs++[y])))
theorem gZ:MtM X "list.append" xJ:=by
 intro pins s σ H x vs v us Q I rx rv h
 obtain ⟨l,xs,y,rfl,rfl,hH,hz,q⟩:=h
 cases rx
 obtain ⟨u,rfl,ru⟩:=rv.one
 obtain ⟨z,its,n,r,hl,e⟩:=I.lstM hH
 refine call_meets F.slot_list_append ⟨_,e,rfl⟩ F.entry_list_append (F.args_list_append_2 _ _) (PySem.list_append l its.toArray n u (by rw [List.size_toArray]; omega)) ⟨e,?_⟩
 refine ⟨.non,_,I.lset (its':=its++[u]) hH e (by simp) (r.append (.cons ru .nil)) ?_,rfl,q⟩
 rw [List.length_append,List.length_singleton]
 omega
def rCat:R2:=fun x y H Q=>∃ l b xs zs,x = .ref l∧y = .ref b∧H l=some (.lst xs)∧H b=some (.lst zs)∧xs.length+zs.length≤sizeLine∧∀ p,H p=none→Q (.ref p) (upd H p (.lst (xs++zs)))
theorem fC:OpR X (binaryOp .Add) rCat:=by
 intro pins s σ H x y v u Q I rx ry h
 obtain ⟨l,b,xs,zs,rfl,rfl,hH,hB,hz,q⟩:=h
 cases rx
 cases ry
 obtain ⟨z,its,n,r,hl,e⟩:=I.lstM hH
 obtain ⟨z2,its2,n2,r2,hl2,e2⟩:=I.lstM hB
 refine PySem.P.add_list e e2 ?_ (by rw [List.size_toArray,List.size_toArray]; omega)
 have ea:its.toArray++its2.toArray=(its++its2).toArray:=by simp
 rw [ea]
 exact ⟨.ref _,_,I.lnew (t':=s.toks) (r.append r2) (by rw [List.length_append]; omega),rfl,q _ I.fresh⟩
end
section
variable {prog:Program}{w:World}{A:Around}{E:Value→Shared→Prop}{s:Shared}
set_option maxRecDepth 100000 in
end
section
variable {X:Cx}
end
end L2
namespace Att
open PySem PySem.W PySem.Calls PyProof.Rows
theorem qD {P:Params}{h:Heap}:∀ (ns:List Int) (vs:List Value),WellAll P h vs (ns.map WData.int)→IntsAre vs ns:=by
 intro ns
 induction ns with
 | nil =>
  intro vs w
  rw [List.map_nil] at w
  cases w
  exact .nil
 | cons n ns ih =>
  intro vs w
  rw [List.map_cons] at w
  cases w with
  | cons a b =>
   cases a
   exact .cons _ _ (ih _ b)
theorem zZ {l:OpenLaw}{n:Nat} (hn:l.most=some n) {P:Params}{h:Heap}{args:List WData}{vals:List Value}
  (hpre:l.row.toRowW.claim.pre args=true) (hwl:WellAll P h vals args) :
  ∃ a vs ns,vals=[Value.ref a]∧args=[WData.list (ns.map WData.int)]∧h.get? a=some { cls := .type "list", data := .seq vs.toArray }∧IntsAre vs ns∧ns.length≤n:=by
 have hsh:WShape.hasAll [] args [.list .int]=true:=(pre_splitW hpre).1
 have hc:l.pre.holds [] { args:=args }=true:=(pre_splitW hpre).2
 obtain ⟨d,r,rfl,h1,h2⟩:=hasAllW_cons hsh
 obtain rfl:=hasAllW_nil h2
 obtain ⟨xs,rfl,h3⟩:=hasW_list h1
 obtain ⟨ns,rfl⟩:=items_int h3
 have hlen:ns.length≤n:=by
  unfold OpenLaw.pre at hc
  have h4:(WTm.not (.lt (.lit (.int (n:Int))) (.len (.arg 0)))).holds [] { args:=[.list (ns.map .int)] }=true:=by
   have h4:=(holds_andW hc).1
   rw [hn] at h4
   exact h4
  have h5:=condW_of h4 (w_not (w_lt w_lit (w_len_list (w_arg rfl))))
  rw [List.length_map] at h5
  refine Nat.le_of_not_lt fun q => ?_
  have q':(n:Int) < ((ns.length:Nat):Int):=by omega
  first
   | (rw [decide_eq_true q'] at h5; exact absurd h5 (by decide))
   | (simp at h5; omega)
 cases hwl with
 | cons w1 w2 =>
  cases w2
  cases w1 with
  | list ho hall=>exact ⟨_,_,ns,rfl,rfl,ho,qD ns _ hall,hlen⟩
theorem aBF (l:OpenLaw) (args:List WData):l.row.toRowW.claim.post args (.bool true) args=true :=
 postW_of (r:=l.row.toRowW) (X:=(true == true))
  (show WShape.has [] (.bool true) .bool=true by first | rfl | decide | simp [WShape.has,WShape.arms,WShape.armsAll])
  (show (WTm.eq .res (.lit (.bool true))).value [] { args:=args,res:=some (.bool true),after:=args }=some (.bool (true == true)) from w_eq_bool (w_res rfl) w_lit) rfl
theorem vT {l:OpenLaw}{n:Nat}{q:Program}{loose:List Str}{XP:(Str→Option Value)→Heap→Prop}{YP:World→Heap→Prop}{d:DefRec}
  (hn:l.most=some n) (hdf:d.params.defaults=[])
  (call:∀ (w:World) (s₀ s₁:Shared) (mg mb:Str→Option Value) (fa:Addr) (o:Obj) (pm cd doc:Value) (a:Addr) (vs:List Value) (ns:List Int),
   Ground q loose [] XP w s₀ mg mb s₁.heap→YP w s₁.heap →
   s₁.heap.get? fa=some o→o.data = .func (docDef d.name d.params d.body d.scope pm cd doc)→s₁.heap.CodeRec cd d.name→mg d.name=some (.ref fa) →
   s₁.heap.get? a=some { cls := .type "list", data := .seq vs.toArray }→IntsAre vs ns→ns.length≤n→s₁.gens = #[] →
   codeAny (model l.prog w) callerA (.call (.ref fa) ⟨[.ref a],[]⟩) (fun r s'=>r = .ok (.ret (.bool true))∧OldK s₁.heap s'.heap∧s'.os=s₁.os∧AllBare s'.gens) s₁) :
  WalkO q loose XP YP l.row.toRowW d [] (fun f vs=>PySem.call f vs):=by
 intro w s₀ s₁ mg mb G Y fa o pm cd doc dV kV ho hd hcd hD hmg hg args vals as hpre hlay hrd hwl hlo
 obtain rfl:dV = .none:=Dflts.none hD hdf
 obtain rfl:kV = .none:=Dflts.noKw hD
 obtain ⟨a,vs,ns,rfl,rfl,hobj,hints,hlen⟩:=zZ hn hpre hwl
 refine enter_call (codeAny_mono (call w s₀ s₁ mg mb fa o pm cd doc a vs ns G Y ho (fd_plain hd) hcd hmg hobj hints hlen hg) fun r s' hq => ?_)
 obtain ⟨rfl,h2,h3,h4⟩:=hq
 exact ⟨.inl ⟨.bool true, .bool true,[],rfl,fun _=>rfl, .bool true,aBF l _,fun _=>⟨List.Pairwise.nil,fun _ hm=>(nomatch hm)⟩⟩,h2,h3,h4⟩
section
variable {prog:Program}{w:World}{A:Around}{E:Value→Shared→Prop}{s:Shared}{K:Frag}
end
end Att
namespace L2
open PySem PySem.Spec PyProof.Rows
theorem jI:∀ {vs:List Value}{ns:List Int},IntsAre vs ns→Vals (ns.map V.int) vs
 | _,_, .nil => .nil
 | _,_, .cons n t h => .cons ⟨t,rfl⟩ (jI h)
def Only (H:Hp):Prop:=∀ b,H b=none∨∃ o xs,H b=some (.frz o (.lst xs))
theorem aEK {P:Program}{w:World}{K:PySem.W.Frag}{mg mb:Str→Option Value}{CX:CXT}{k:Nat}{fa a:Addr}{fd:FuncData}{x:Str}{sp:Sp}{s₁:Shared}{vs:List Value}{ns:List Int}
  (KX:K.In s₁.heap) (hns:s₁.heap.Ns mainGlobals mg) (hb:s₁.heap.Ns builtinsNs mb) (hbb:∀ x:Str,x ≠ "__name__" → mb x=bootBuiltins x) (hlim:s₁.heap.NoLimit) (hg:s₁.gens = #[])
  (ha:s₁.heap.get? a=some { cls := .type "list", data := .seq vs.toArray }) (hi:IntsAre vs ns) (hl:ns.length≤sizeLine) (hr:Room k callerA)
  (F:∀ base:Heap,K.In base→base.Ns mainGlobals mg→FnOk P w K mg base CX k fa fd [x] sp) (hbind:∀ (s:Shared) (u:Value),BindsTo s fd ⟨[u],[]⟩ [(x,u)])
  (hsp:∀ H:Hp,Only H→SqL K H a (ns.map V.int)→sp [.ref a] H (fun v _=>v = .bl true) fun _ _ _=>False)
  (hCX:∀ H e s',CX [] H s₁ (fun _ _ _=>False) e s'→False) :
  codeAny (model P w) callerA (.call (.ref fa) ⟨[.ref a],[]⟩) (fun r s'=>r = .ok (.ret (.bool true))∧OldK s₁.heap s'.heap∧s'.os=s₁.os∧AllBare s'.gens) s₁:=by
 have rv:=jI hi
 have lenV:=hi.length
 -- from an abstract heap in which nothing but the script may be tracked
 have core:∀ H:Hp,Only H→SqL K H a (ns.map V.int)→HOk P w H s₁.heap→(∀ b,H b≠none→b=a)→(H a≠none→K.lookup a=none) →
   codeAny (model P w) callerA (.call (.ref fa) ⟨[.ref a],[]⟩) (fun r s'=>r = .ok (.ret (.bool true))∧OldK s₁.heap s'.heap∧s'.os=s₁.os∧AllBare s'.gens) s₁:=by
  intro H hO hS hok hA hK
  have base_of:∀ {b:Addr}{o:Obj},s₁.heap.get? b=some o→H b=none→(hidT s₁.heap H).get? b=some o:=fun e n=>aD2 e n
  have noA:∀ {b:Addr}{o:Obj}{es:Array DictEntry}{ep:Nat},s₁.heap.get? b=some o→o.data = .dict es ep→H b=none:=fun {b o es ep} e d=>by
   cases q:H b with
   | none=>rfl
   | some u =>
    have e':b=a:=hA b (by rw [q]; simp)
    subst e'
    rw [ha] at e; cases e
    have d':Data.seq vs.toArray _=Data.dict es ep:=d
    cases d'
  have nsK:∀ {b:Addr}{m:Str→Option Value},s₁.heap.Ns b m→(hidT s₁.heap H).Ns b m:=fun {b m} ⟨o,es,ep,e,d,r⟩=>⟨o,es,ep,base_of e (noA e d),d,r⟩
  have hKb:K.In (hidT s₁.heap H):=fun b o e=>base_of (KX b o e) (by
   cases q:H b with
   | none=>rfl
   | some u =>
    have e':b=a:=hA b (by rw [q]; simp)
    subst e'
    rw [hK (by rw [q]; simp)] at e; cases e)
  have hM:Mod K mg (hidT s₁.heap H):=⟨hKb,nsK hns,⟨mb,nsK hb,hbb⟩,let ⟨mc,h1,h2⟩:=hlim; ⟨mc,nsK h1,h2⟩⟩
  have e0:Env0 P w K mg (hidT s₁.heap H) callerA [] s₁ H:=⟨rfl,hM,fun b o e=>aGD e,Nat.le_of_eq (aA6 _ _),trivial,fun b hb=>absurd (show b∈([]:List Addr) from hb) (by simp),hok, .of_eq hg⟩
  refine codeAny_mono ((F _ hKb (nsK hns)).run callerA [] s₁ H ⟨[.ref a],[]⟩ [.ref a] [.ref a] _ _ hr e0 (hbind s₁ (.ref a)) (.cons rfl .nil) (hsp H hO hS)) fun r s' h => ?_
  cases r with
  | error e=>exact (hCX H e s' h).elim
  | ok fl =>
   cases fl with
   | next=>exact False.elim h
   | brk=>exact False.elim h
   | cont=>exact False.elim h
   | ret u =>
    obtain ⟨v,H',os,bare,un,hok',r',q⟩:=h
    have q':v = .bl true:=q
    subst q'
    obtain rfl:u=Value.bool true:=r'
    refine ⟨rfl,OldK.of_keep fun b o e => ?_,os,bare⟩
    cases q:H b with
    | none=>exact un.keep b o e q (by intro z; exact absurd (show b∈([]:List Addr) from z) (by simp)) (by simp)
    | some u =>
     rcases hO b with z | ⟨ob,xs,z⟩
     ·rw [q] at z; cases z
     ·have z2:=un.frzs b ob _ z
      obtain ⟨e1,_⟩:=hok b _ z
      obtain ⟨e2,_⟩:=hok' b _ z2
      rw [e] at e1; cases e1
      exact e2
 cases hk:K.lookup a with
 | some o =>
  -- the script is one of the module's own objects
  have e:=KX a o hk
  rw [ha] at e
  cases e
  refine core (fun _=>none) (fun _ => .inl rfl) (.inr ⟨_,vs.toArray,_,hk,rfl,rfl,rfl,by rw [List.size_toArray,lenV]; exact hl,by simpa using rv⟩) (fun b u z=>by have z':(none:Option HO)=some u:=z; cases z') (fun b z=>absurd rfl z) fun z=>absurd rfl z
 | none =>
  refine core (fun b=>if b=a then some (.frz { cls := .type "list", data := .seq vs.toArray } (.lst (ns.map V.int))) else none) (fun b => ?_) (.inl (.inr ⟨{ cls := .type "list", data := .seq vs.toArray },if_pos rfl⟩)) (fun b u z => ?_) (fun b z => ?_) fun _=>hk
  ·by_cases hb:b=a
   ·exact .inr ⟨_,_,if_pos hb⟩
   ·exact .inl (if_neg hb)
  ·by_cases hb:b=a
   ·have z':=(if_pos hb).symm.trans z
    cases z'
    subst hb
    exact ⟨ha,by rw [List.length_map]; exact hl,vs,_,rv,ha⟩
   ·have z':=(if_neg hb).symm.trans z
    cases z'
  ·by_cases hb:b=a
   ·exact hb
   ·exact absurd (if_neg hb) z
theorem aF6 {l:PySem.W.OpenLaw}{n k:Nat}{q:Program}{loose:List Str}{XP:(Str→Option Value)→Heap→Prop}{YP:World→Heap→Prop}{d:DefRec}{K:Params→PySem.W.Frag}{CX:World→CXT}{sp:World→Sp}{x:Str}
  (hn:l.most=some n) (hn2:n≤sizeLine) (hdf:d.params.defaults=[]) (hr:Room k callerA)
  (hY:∀ (w:World) (h:Heap),YP w h→(K w.params).In h)
  (F:∀ (w:World) (mg:Str→Option Value) (fa:Addr) (h:Heap),(K w.params).In h→h.Ns mainGlobals mg→mg d.name=some (.ref fa) →
   ∃ fd:FuncData,(∀ (s:Shared) (u:Value),BindsTo s fd ⟨[u],[]⟩ [(x,u)]) ∧
    ∀ base:Heap,(K w.params).In base→base.Ns mainGlobals mg→FnOk l.prog w (K w.params) mg base (CX w) k fa fd [x] (sp w))
  (hsp:∀ (w:World) (H:Hp) (a:Addr) (ns:List Int),ns.length≤n→Only H→SqL (K w.params) H a (ns.map V.int)→sp w [.ref a] H (fun v _=>v = .bl true) fun _ _ _=>False)
  (hCX:∀ (w:World) (H:Hp) (s:Shared) (e:Value) (s':Shared),CX w [] H s (fun _ _ _=>False) e s'→False) :
  PySem.W.WalkO q loose XP YP l.row.toRowW d [] (fun f vs=>PySem.call f vs):=by
 refine Att.vT hn hdf fun w s₀ s₁ mg mb fa o pm cd doc a vs ns G Y ho hd hcd hmg hobj hints hlen hg => ?_
 have KX:=hY w _ Y
 obtain ⟨fd,hb,hF⟩:=F w mg fa _ KX G.T.g hmg
 exact aEK KX G.T.g G.T.b G.T.builtins G.T.nolimit hg hobj hints (Nat.le_trans hlen hn2) hr hF hb (fun H hO hS=>hsp w H a ns hlen hO hS) fun H e s'=>hCX w H s₁ e s'
def fV (s:Stmt):Arguments:=match s with
 | .FunctionDef _ a _ _ _ _ _ _ _ _=>a
 | _=>{ posonlyargs:=[],args:=[],vararg:=none,kwonlyargs:=[],kw_defaults:=[],kwarg:=none,defaults:=[] }
def eO (s:Stmt):List Stmt:=match s with
 | .FunctionDef _ _ b _ _ _ _ _ _ _=>b
 | _=>[]
def aO (s:Stmt):Scope:=match s with
 | .FunctionDef _ _ _ _ _ _ sc _ _ _=>sc
 | _=>{ kind := .function,names:=[],isGenerator:=false,isCoroutine:=false }
abbrev CX0:CXT:=fun _ _ _ _ _ _=>False
abbrev E0:XK:=fun _ _ _=>False
theorem pass0 {X:Cx}:Passes CX0 X E0:=fun _ _ _ _ _ _ _ h=>h.elim
structure Fun (K:PySem.W.Frag) (x qual:Str) (st:Stmt) (f:Addr) (fd:FuncData):Prop where
 ex:∃ (oc:Value) (od:Option Addr) (kV doc pm:Value) (an:Option Addr) (cdv ct:Value) (osl:Array (Option Value)),
  fd=PySem.W.fnOf x qual (fV st) (eO st) (aO st) .none kV doc pm an cdv ct∧K.lookup f=some ⟨oc,od, .func fd,osl⟩∧PySem.W.codeIn K cdv qual=true
 kp:PySem.W.keepIn K (.ref f)=true
section
variable {P:Program}{w:World}{K:PySem.W.Frag}{mg:Str→Option Value}{base:Heap}
theorem Fun.ok {x qual:Str}{st:Stmt}{f:Addr}{fd:FuncData}{N ps:List Str}{k:Nat}{sp:Sp} (F:Fun K x qual st f fd) (S:FnScope N ps (aO st)) (len:∀ vs H Q E,sp vs H Q E→vs.length=ps.length)
  (hbody:∀ (cdv:Value) (A:Around) (outer:List Env) (s:Shared) (H:Hp) (vs:List V) (Q:VK) (E:XK),Room k (A.deeper (envOfC qual (aO st) s.heap.objs.size f cdv))→sp vs H Q E →
   ∃ t,PSs (cxOf CX0 P w K mg base N qual (aO st) f cdv A outer s H E).nox (eO st) t∧t { nx:=fun _ H'=>Q .non H',rt:=Q } (start N vs) H):FnOk P w K mg base CX0 (k+1) f fd ps sp:=by
 obtain ⟨oc,od,kV,doc,pm,an,cdv,ct,osl,rfl,lk,hcd⟩:=F.ex
 refine aKD lk hcd S len fun A outer s H vs Q E hr hsp => ?_
 obtain ⟨t,h,q⟩:=hbody cdv A outer s H vs Q E hr hsp
 exact ⟨t,h.nox,q⟩
theorem Fun.binds {x qual:Str}{st:Stmt}{f:Addr}{fd:FuncData}{ps:List Str} (F:Fun K x qual st f fd)
  (h:∀ (kV doc pm:Value) (an:Option Addr) (cdv ct:Value) (us:List Value),us.length=ps.length→bindArgs (PySem.W.fnOf x qual (fV st) (eO st) (aO st) .none kV doc pm an cdv ct) ⟨us,[]⟩=pure (ps.zip us)):Binds K fd ps []:=by
 obtain ⟨oc,od,kV,doc,pm,an,cdv,ct,osl,rfl,lk,hcd⟩:=F.ex
 exact .all (h kV doc pm an cdv ct)
theorem aIG {x qual:Str}{st:Stmt}{f:Addr}{oc:Value}{od an:Option Addr}{osl:Array (Option Value)}{kV doc pm cdv ct:Value} (l:K.lookup f=some ⟨oc,od, .func (PySem.W.fnOf x qual (fV st) (eO st) (aO st) .none kV doc pm an cdv ct),osl⟩)
  (c:PySem.W.codeIn K cdv qual=true) (k:PySem.W.keepIn K (.ref f)=true):Fun K x qual st f (PySem.W.fnOf x qual (fV st) (eO st) (aO st) .none kV doc pm an cdv ct):=⟨⟨oc,od,kV,doc,pm,an,cdv,ct,osl,rfl,l,c⟩,k⟩
end
section
variable {X:Cx}
theorem pv (i:Nat) {x:Str}{pos:Pos} (hN:X.N[i]?=some x:=by rfl) (hv:Vis X.env.scope x:=by first | exact Or.inl rfl | exact Or.inr (Or.inl rfl) | exact Or.inr (Or.inr rfl)) (hd:(x == ("__debug__" : Str))=false:=by decide)
  (hcd:(x == ("__classdict__" : Str))=false:=by decide):PE X (.Name x pos) (tVar i):=aBQ hN hv hd hcd
end
theorem iteF {A B:Prop} (h:B):if false=true then A else B:=by
 rw [if_neg Bool.false_ne_true]
 exact h
theorem iteT {A B:Prop} (h:A):if true=true then A else B:=by
 rw [if_pos rfl]
 exact h
theorem ite2 {c A B:Prop} [Decidable c] (h1:c→A) (h2:¬ c→B):if c then A else B:=by
 by_cases h:c
 ·rw [if_pos h]
  exact h1 h
 ·rw [if_neg h]
  exact h2 h
def Same (H H':Hp):Prop:=∀ b o,H b=some o→H' b=some o
theorem Same.refl (H:Hp):Same H H:=fun _ _ h=>h
theorem Same.trans {H H1 H2:Hp} (a:Same H H1) (b:Same H1 H2):Same H H2:=fun c o h=>b c o (a c o h)
theorem Same.free {H H':Hp} (e:Same H H') {l:Addr} (h:H' l=Option.none):H l=Option.none:=by
 cases q:H l with
 | none=>rfl
 | some o =>
  rw [e l o q] at h
  cases h
theorem Same.seq {K:PySem.W.Frag}{H H':Hp}{a:Addr}{xs:List V} (e:Same H H') (h:SqL K H a xs):SqL K H' a xs:=by
 rcases h with (h | ⟨o,h⟩) | h
 ·exact .inl (.inl (e _ _ h))
 ·exact .inl (.inr ⟨o,e _ _ h⟩)
 ·exact .inr h
end L2
namespace L2
open PySem PySem.Spec PyProof.Rows
def big:Nat:=2 ^ 8000
def aJP (_ j:Int):Prop:=j≠0∧j.natAbs < big
def aJX (i j:Int):Prop:=i.natAbs < big∧j.natAbs < big
theorem aEA {n:Nat} (h:n < big):n.log2 < 9000:=by
 by_cases h0:n=0
 ·subst h0; decide
 ·exact Nat.lt_of_lt_of_le ((Nat.log2_lt h0).mpr h) (by decide)
section
variable {X:Cx}
theorem lZ:OpR X (binaryOp .FloorDiv) (rI aJP fun i j => .int (i.fdiv j)) :=
 opI fun _ _ _ _ _ _ _ hc q=>floordiv_int hc.1 q (.inl (PyProof.noPylong_of_log2 (aEA hc.2)))
theorem fH:OpR X (binaryOp .Mult) (rI aJX fun i j => .int (i * j)) :=
 opI fun _ _ _ _ _ _ _ hc q=>mul_int q (IntMulOk.of_le (m:=8000) (n:=8000) (intBits_le_iff.mpr hc.1) (intBits_le_iff.mpr hc.2) (by decide))
end
theorem aHZ {K:PySem.W.Frag}{S T:String}{b:Bool} (h1:(Value.type S == Value.type T)=false) (h2:PySem.W.kitMeta T=true) (h3:(fastBuiltinMro S).map (·.contains (.type T))=some b) :
  PySem.W.kitOne K (.type S) (.type T)=some b:=by
 unfold PySem.W.kitOne PySem.W.kitCls
 rw [if_neg (by rw [h1]; exact Bool.false_ne_true)]
 show (if PySem.W.kitMeta T=true then _ else _)=_
 rw [if_pos h2]
 exact h3
theorem aCU {K:PySem.W.Frag}{t:Value} (h:(t == t)=true:=by first | rfl | simp):PySem.W.kitOne K t t=some true:=by
 unfold PySem.W.kitOne; rw [if_pos h]
section
variable {X:Cx}
end
end L2
namespace L2
open PySem PySem.Spec PyProof.Rows
structure ExcK (K:PySem.W.Frag) (C:Addr):Prop where
 cd:(PySem.W.clsIn K C).isSome=true
 ga:PySem.W.findIn K (.ref C) "__getattribute__" = some (some (.builtin "BaseException.__getattribute__"))
 gt:PySem.W.findIn K (.ref C) "__getattr__" = some none
 cl:PySem.W.findIn K (.ref C) "__class__" = some (some (.builtin "object.__class__"))
 be:PySem.W.mroIn K C (.type "BaseException")=some true
 ob:PySem.W.mroIn K C (.type "object")=some true
section
variable {prog:Program}{w:World}{A:Around}{E:Value→Shared→Prop}{h:Heap}{g:Array GenState}{d:Drawn}{t:Nat}{os:OsState}{a C:Addr}{K:PySem.W.Frag}
end
section
variable {X:Cx}
end
end L2
namespace L2
open PySem PySem.Spec PyProof.Rows
structure Thrown (h₀:Heap) (H':Hp) (e T:Addr) (cls:Value) (h:Heap):Prop where
 ne:h₀.get? e=none
 nT:h₀.get? T=none
 He:H' e=none
 HT:H' T=none
 ob:∃ oe vs oT ts a0,h.get? e=some oe∧(oe.cls=cls∧vs[0]?=some a0)∧oe.data = .fields vs∧vs[1]?=some (.ref T)∧T≠e∧h.get? T=some oT∧oT.data = .fields ts∧ts[3]?=some .none
section
variable {X:Cx}{pins:List (Addr × Obj)}{σ:St}{H:Hp}{s:Shared}
end
end L2
namespace L2
open PySem PySem.Spec PyProof.Rows
def bmV:List Value:=[.type "ValueError", .type "Exception", .type "BaseException", .type "object"]
section
variable {X:Cx}{E:XK}{C:Addr}{x:Str}{np cpos pos:Pos}{e₀:Expr}{rest:List Expr}{ta:TA}
end
structure ThrownX (X:Cx) (pins:List (Addr × Obj)) (H':Hp) (e T:Addr) (cls:Value) (h:Heap):Prop where
 e0:X.s₀.heap.get? e=none
 T0:X.s₀.heap.get? T=none
 He:H' e=none
 HT:H' T=none
 eL:e≠X.env.locals
 TL:T≠X.env.locals
 ce:∀ x c,X.env.cells.lookup x=some c→c≠e∧c≠T
 pe:∀ p∈X.pn++pins,p.1≠e∧p.1≠T
 ob:∃ oe vs oT ts a0,h.get? e=some oe∧(oe.cls=cls∧vs[0]?=some a0)∧oe.data = .fields vs∧vs[1]?=some (.ref T)∧T≠e∧h.get? T=some oT∧oT.data = .fields ts∧ts[3]?=some .none
def XP (X:Cx) (pins:List (Addr × Obj)) (σ:St) (E:XK) (v:Value) (s':Shared):Prop:=∃ e T cls H',v = .ref e∧Inv X pins σ H' s'∧ThrownX X pins H' e T cls s'.heap∧E cls none H'
section
variable {X:Cx}{pins:List (Addr × Obj)}{σ:St}{H:Hp}{s s':Shared}
end
end L2
namespace L2
open PySem PySem.Spec PyProof.Rows
section
variable {X:Cx}{pins:List (Addr × Obj)}{σ:St}{H:Hp}{s:Shared}
end
end L2
namespace Num
theorem uC (a b:Int):Int.gcd b (a.fmod b)=Int.gcd a b:=by
 rw [Int.fmod_def,Int.gcd_comm a b]
 exact Int.gcd_sub_mul_left_right _ _ _
theorem xX (a b:Int) (hb:b≠0):(a.fmod b).natAbs < b.natAbs:=by
 rcases Int.lt_or_gt_of_ne hb with h | h
 ·have h0:0 < -b:=by omega
  have e:a.fmod b = -((-a).fmod (-b)):=by rw [Int.neg_fmod_neg]; omega
  have h1:=Int.fmod_nonneg_of_pos (-a) h0
  have h2:=Int.fmod_lt_of_pos (-a) h0
  omega
 ·have h1:=Int.fmod_nonneg_of_pos a h
  have h2:=Int.fmod_lt_of_pos a h
  omega
def div (t b:Int):Int:=if b < 0 then -((Int.gcd t b:Nat):Int) else ((Int.gcd t b:Nat):Int)
def top (t b:Int):Int:=t.fdiv (div t b)
def bot (t b:Int):Int:=b.fdiv (div t b)
theorem qO {t b:Int} (h:b≠0):0 < Int.gcd t b:=Int.gcd_pos_of_ne_zero_right t h
theorem aIK {t b:Int} (h:b≠0):div t b≠0:=by
 have:=qO (t:=t) h
 unfold div; split <;> omega
theorem aGY (t b:Int):(div t b).natAbs=Int.gcd t b:=by
 unfold div; split <;> omega
theorem aF0 (t b:Int):div t b ∣ t:=by
 unfold div; split
 ·exact Int.neg_dvd.mpr (Int.gcd_dvd_left ..)
 ·exact Int.gcd_dvd_left ..
theorem aGA (t b:Int):div t b ∣ b:=by
 unfold div; split
 ·exact Int.neg_dvd.mpr (Int.gcd_dvd_right ..)
 ·exact Int.gcd_dvd_right ..
theorem wV (t b:Int):top t b * div t b=t:=Int.fdiv_mul_cancel (aF0 t b)
theorem qM (t b:Int):bot t b * div t b=b:=Int.fdiv_mul_cancel (aGA t b)
theorem aGC {t b:Int} (h:b≠0):0 < bot t b:=by
 have e:=qM t b
 have g:=qO (t:=t) h
 by_cases hb:b < 0
 ·have hd:div t b < 0:=by unfold div; rw [if_pos hb]; omega
  rcases Int.lt_trichotomy (bot t b) 0 with c | c | c
  ·have:=Int.mul_pos_of_neg_of_neg c hd; omega
  ·rw [c,Int.zero_mul] at e; omega
  ·exact c
 ·have hd:0 < div t b:=by unfold div; rw [if_neg hb]; omega
  rcases Int.lt_trichotomy (bot t b) 0 with c | c | c
  ·have:=Int.mul_neg_of_neg_of_pos c hd; omega
  ·rw [c,Int.zero_mul] at e; omega
  ·exact c
theorem low (t b:Int) (h:b≠0):Int.gcd (top t b) (bot t b)=1:=by
 have g:=qO (t:=t) h
 have e:Int.gcd (top t b * div t b) (bot t b * div t b)=Int.gcd (top t b) (bot t b) * (div t b).natAbs:=Int.gcd_mul_right ..
 rw [wV,qM,aGY] at e
 have e':1 * Int.gcd t b=Int.gcd (top t b) (bot t b) * Int.gcd t b:=by rw [Nat.one_mul]; exact e
 exact (Nat.eq_of_mul_eq_mul_right g e').symm
theorem cross (t b:Int) (h:b≠0):top t b * b=t * bot t b:=by
 have e1:=wV t b
 have e2:=qM t b
 have d:=aIK (t:=t) h
 have:top t b * (bot t b * div t b)=top t b * div t b * bot t b:=by
  rw [Int.mul_assoc,Int.mul_comm (bot t b)]
 rw [e1,e2] at this
 exact this
theorem aIJ (t b:Int):(top t b).natAbs≤t.natAbs:=Int.natAbs_fdiv_le_natAbs ..
theorem aHX (t b:Int):(bot t b).natAbs≤b.natAbs:=Int.natAbs_fdiv_le_natAbs ..
theorem qJ {k n m:Int} (h:k ∣ n * m) (g:Int.gcd k n=1):k ∣ m:=by
 have:=Int.dvd_gcd_mul_iff_dvd_mul.mpr h
 rw [g] at this
 simpa using this
theorem uniq {p q r s:Int} (hq:0 < q) (hs:0 < s) (g:Int.gcd p q=1) (g':Int.gcd r s=1) (e:p * s=r * q):p=r∧q=s:=by
 have d1:q ∣ s:=by
  have:q ∣ p * s:=⟨r,by rw [e,Int.mul_comm]⟩
  have h:=qJ this (by rw [Int.gcd_comm]; exact g)
  exact h
 have d2:s ∣ q:=by
  have:s ∣ r * q:=⟨p,by rw [← e,Int.mul_comm]⟩
  exact qJ this (by rw [Int.gcd_comm]; exact g')
 have h1:=Int.le_of_dvd hs d1
 have h2:=Int.le_of_dvd hq d2
 have hqs:q=s:=by omega
 subst hqs
 exact ⟨Int.eq_of_mul_eq_mul_right (by omega) e,rfl⟩
end Num
namespace R
open PySem L2
theorem BI:bootBuiltins "int" = some (.type "int"):=by decide +kernel
theorem BB:bootBuiltins "bool" = some (.type "bool"):=by decide +kernel
theorem BT:bootBuiltins "tuple" = some (.type "tuple"):=by decide +kernel
structure Df (K:PySem.W.Frag) (mg:Str→Option Value) (x:Str) (st:Stmt) (ps:List Str) (f:Addr) (fd:FuncData):Prop where
 F:Fun K x x st f fd
 b:Binds K fd ps []
 m:mg x=some (.ref f)
structure Bn (mg:Str→Option Value):Prop where
 isi:mg "isinstance" = none
 int:mg "int" = none
 bool:mg "bool" = none
 tuple:mg "tuple" = none
 len:mg "len" = none
 abs:mg "abs" = none
 range:mg "range" = none
 min:mg "min" = none
inductive Kn (K:PySem.W.Frag) (H:Hp):V→Prop
 | non:Kn K H .non
 | bl (b:Bool):Kn K H (.bl b)
 | int (i:Int):Kn K H (.int i)
 | str (x:Str):Kn K H (.str x)
 | lst {a:Addr}{xs:List V} (e:H a=some (.lst xs)):Kn K H (.ref a)
 | tup {a:Addr}{xs:List V} (e:H a=some (.tup xs)):Kn K H (.ref a)
section
variable {P:Program}{w:World}{K:PySem.W.Frag}{mg:Str→Option Value}{base:Heap}
theorem aG0 (a:Int):(if a < 0 then -a else a)=((Int.gcd a 0:Nat):Int):=by
 rw [Int.gcd_zero_right]; split <;> omega
def second:St→Nat
 | [_,some (.int b)]=>b.natAbs
 | [_,some (.int b),_]=>b.natAbs
 | _=>0
def num (t b:Int):HO := .tup [.int (Num.top t b), .int (Num.bot t b)]
end
end R
namespace R
open PySem L2
section
variable {P:Program}{w:World}{K:PySem.W.Frag}{mg:Str→Option Value}{base:Heap}
structure Kn2 (K:PySem.W.Frag) (H:Hp) (v:V):Prop where
 kn:Kn K H v
 two:∀ a x y,v = .ref a→H a=some (.tup [x,y])→Kn K H x∧Kn K H y
def numB (H:Hp):V→Bool
 | .ref a=>(match H a with
  | some (.tup [.int x, .int y])=>decide (1≤y) && decide (Int.gcd x y=1)
  | _=>false)
 | _=>false
end
end R
namespace L2
open PySem PySem.Spec PyProof.Rows
end L2
namespace R
open PySem L2
structure Fd (H:Hp) (p:Addr) (b:Int):Prop where
 ex:∃ g m st:Int,H p=some (.lst [.int g, .int m, .int st])∧0≤g∧0≤m∧m < 2147483399∧0≤st∧st≤b
def But (p:Addr) (H H':Hp):Prop:=∀ c o,H c=some o→c≠p→H' c=some o
theorem But.trans {p:Addr}{H H1 H2:Hp} (a:But p H H1) (b:But p H1 H2):But p H H2:=fun c o e n=>b c o (a c o e n) n
section
variable {P:Program}{w:World}{K:PySem.W.Frag}{mg:Str→Option Value}{base:Heap}
theorem aBY (x:Int) {m:Int} (h0:0 < m) (h1:m < 2 ^ 64) : -(2 ^ 64) < x % m∧x % m < 2 ^ 64:=by
 have:=Int.emod_nonneg x (show m≠0 by omega)
 have:=Int.emod_lt_of_pos x h0
 omega
end
end R
namespace R
open PySem L2
section
variable {P:Program}{w:World}{K:PySem.W.Frag}{mg:Str→Option Value}{base:Heap}
end
end R
namespace R
open PySem L2
structure Ex (K:PySem.W.Frag) (mg:Str→Option Value) (CR CN CY CP CT CW CM:Addr):Prop where
 mR:mg "RoofError" = some (.ref CR)
 mN:mg "NoNumber" = some (.ref CN)
 mY:mg "NoYard" = some (.ref CY)
 mP:mg "NoPoint" = some (.ref CP)
 mT:mg "NoText" = some (.ref CT)
 mW:mg "NoRow" = some (.ref CW)
 mM:mg "NoName" = some (.ref CM)
 vE:mg "ValueError" = none
 xN:PySem.W.excIn K CN bmV "ValueError.__new__" = true
 kN:ExcK K CN
 cN:PySem.W.exmOne K (.ref CN) (.ref CR)=some true
 iV:PySem.W.kitOne K (.ref CN) (.type "ValueError")=some true
 iO:PySem.W.kitAny K (.ref CN) [.ref CM, .ref CP, .ref CW, .ref CT, .ref CY]=some false
section
variable {P:Program}{w:World}{K:PySem.W.Frag}{mg:Str→Option Value}{base:Heap}{CR CN CY CP CT CW CM:Addr}
end
end R
namespace R
open PySem L2
theorem Kn2.tup {K:PySem.W.Frag}{H:Hp}{a:Addr}{xs:List V} (e:H a=some (.tup xs)) (h:∀ x∈xs,Kn K H x):Kn2 K H (.ref a):=by
 refine ⟨.tup e,fun b x y eb q => ?_⟩
 cases eb
 rw [e] at q; cases q
 exact ⟨h x (by simp),h y (by simp)⟩
theorem Kn2.lst {K:PySem.W.Frag}{H:Hp}{a:Addr}{xs:List V} (e:H a=some (.lst xs)):Kn2 K H (.ref a):=by
 refine ⟨.lst e,fun b x y eb q => ?_⟩
 cases eb
 rw [e] at q; cases q
section
variable {P:Program}{w:World}{K:PySem.W.Frag}{mg:Str→Option Value}{base:Heap}
end
end R
namespace R
open PySem L2
section
variable {P:Program}{w:World}{K:PySem.W.Frag}{mg:Str→Option Value}{base:Heap}
end
end R
namespace R
open PySem L2
end R
namespace L2
open PySem PySem.Spec PyProof.Rows
section
variable {prog:Program}{w:World}{A:Around}{E:Value→Shared→Prop}{s:Shared}
theorem lW {h:Heap}{a:Addr}{its:Array Value} (x:PlainL h a its):h.IsList a its:=let ⟨o,n,e,c,_,d⟩:=x; ⟨o,e,c,n,d⟩
theorem t7 {it l:Addr}{items:Array Value} (hne:l≠it):∀ (n i:Nat) (s:Shared) (Q:List Value→Shared→Prop),s.heap.IsListIter it l i→PlainL s.heap l items→i+n≤items.size →
  (∀ h',h'.IsListIter it l (i+n)→Heap.ExtBut it s.heap h'→Q ((items.toList.drop i).take n) { s with heap:=h' })→wpAny (model prog w) A (draw (.ref it) n) Q E s
 | 0,i,s,Q,hit,_,_,hQ=>by
  show wpAny _ _ (pure []) Q E s
  exact wpAny_pure (by simpa using hQ s.heap hit (fun _ _ _ e=>e))
 | n+1,i,s,Q,hit,ht,hle,hQ=>by
  have hlt:i < items.size:=by omega
  show wpAny _ _ (pyNext (.ref it) >>= _) Q E s
  refine wpAny_bind (wpAny_pyNext_list_item hit (lW ht) (x:=items[i]) (by simp [hlt]) fun h1 hit1 hs1 => ?_)
  refine wpAny_bind (wpAny_holding (t7 hne n (i+1) _ _ hit1 (ht.extBut hs1.extBut hne) (by omega) fun h2 hit2 hs2=>wpAny_pure ?_))
  have hd:items.toList.drop i=items[i]::items.toList.drop (i+1):=by simp [List.drop_eq_getElem_cons,hlt]
  have z:=hQ h2 (by rw [show i+(n+1)=i+1+n by omega]; exact hit2) (fun b o hb e=>hs2 b o hb (hs1.extBut b o hb e))
  rw [hd,List.take_succ_cons] at z
  exact z
theorem yY {t:Addr}{items:Array Value}{targets:List (Bool × (Value→Sem Unit))}{Q:Unit→Shared→Prop} (hh:A.handled=none) (ht:PlainL s.heap t items)
  (hn:targets.length=items.size) (hstar:targets.findIdx? (·.1)=none)
  (h:∀ h',Heap.ExtBut s.heap.objs.size s.heap h'→wpAny (model prog w) A (assignInOrder (targets.map (·.2)) items.toList) Q E { s with heap:=h' }) :
  wpAny (model prog w) A (unpack (.ref t) targets) Q E s:=by
 have hlt:t≠s.heap.objs.size:=by obtain ⟨o,_,ho,_⟩:=ht; exact Nat.ne_of_lt (Heap.lt_size ho)
 unfold unpack
 rw [hn,hstar]
 refine wpAny_bind (wpAny_holding ?_)
 unfold unpackItems
 refine wpAny_bind ?_
 unfold notIterableAtAll
 refine wpAny_bind (wpAny_specialOf (lW ht).typeIs slot_list_iter.lookup ?_)
 refine wpAny_pure ?_
 simp only [Bool.false_eq_true,if_false]
 refine wpAny_bind (wpAny_holding (wpAny_pyIter_list (lW ht) ?_))
 refine wpAny_bind (wpAny_holding (t7 hlt items.size 0 _ _ ⟨_,Heap.get?_push_size _ rfl,rfl,rfl⟩ (ht.keeps fun b o e=>Heap.get?_push_of_some _ e) (by omega) fun h1 hit1 hs1 => ?_))
 have hall:List.take items.size (List.drop 0 items.toList)=items.toList:=by
  rw [List.drop_zero]; exact List.take_of_length_le (by simp)
 rw [hall]
 rw [if_neg (by simp)]
 have ht1:PlainL h1 t items:=PlainL.extBut (ht.keeps fun b o e=>Heap.get?_push_of_some _ e) hs1 hlt
 refine wpAny_bind (wpAny_holding (wpAny_pyNext_list_end hh hit1 (lW ht1) (by simp) fun h2 he2 => ?_))
 simp only [Option.isSome_none,Bool.false_eq_true,if_false]
 exact wpAny_pure (h h2 fun b o hb e=>he2 b o hb (hs1 b o hb (Heap.get?_push_of_some _ e)))
end
section
variable {X:Cx}{pos:Pos}
def gLst (K:PySem.W.Frag) (n:Nat) (t:TGs):TG:=fun v σ H Q=>∃ a xs,v = .ref a∧SqL K H a xs∧xs.length=n∧t xs σ H Q
theorem aIM {es:List Expr}{k:Nat}{t:TGs}{n:Nat} (hc:X.calm=true) (h:PGs X es t)
  (hn:(assignEach es X.env).length=n:=by rfl) (hst:(assignEach es X.env).findIdx? (·.1)=none:=by rfl):PG X (.Tuple es k pos) (gLst X.K n t):=by
 intro pins s σ H v u Q I r hw
 obtain ⟨a,xs,e1,hq,hl,hw⟩:=hw
 subst e1
 cases r
 obtain ⟨its,rv,ht,hz⟩:=I.list hq
 rw [assign_Tuple]
 refine wpAny_bind (wpAny_standAt (yY (I.ok.hd hc) ht (by simp [hn,← hl,rv.length]) hst fun h' hx => ?_))
 have I1:Inv X pins σ H { s with heap:=h' }:=I.kept (t':=s.toks) fun b o e=>hx b o (Nat.ne_of_lt (Heap.lt_size e)) e
 exact h pins _ σ H xs _ Q I1 (by simpa using rv) hw
end
end L2
namespace Num
theorem rB (t b:Int) (hb:b≠0):top t b=(Rat.divInt t b).num∧bot t b=((Rat.divInt t b).den:Int):=by
 have hd:((Rat.divInt t b).den:Int)≠0:=by have:=(Rat.divInt t b).den_nz; omega
 have e:(Rat.divInt t b).num * b=t * ((Rat.divInt t b).den:Int):=by
  have:=Rat.num_divInt_den (Rat.divInt t b)
  exact (Rat.divInt_eq_divInt_iff hd hb).mp this
 have g:Int.gcd (Rat.divInt t b).num ((Rat.divInt t b).den:Int)=1:=by
  have:=(Rat.divInt t b).reduced
  rw [Int.gcd_eq_natAbs_gcd_natAbs]
  exact this
 refine uniq (aGC hb) (by have:=(Rat.divInt t b).den_pos; omega) (low t b hb) g ?_
 have c:=cross t b hb
 have h1:top t b * ((Rat.divInt t b).den:Int) * b=(Rat.divInt t b).num * bot t b * b:=by
  rw [Int.mul_right_comm,c,Int.mul_right_comm,← e,Int.mul_right_comm]
 exact Int.eq_of_mul_eq_mul_right hb h1
theorem aGE (x y:Rat):Rat.divInt (x.num * (y.den:Int)+y.num * (x.den:Int)) ((x.den:Int) * (y.den:Int))=x+y:=by
 have h1:(x.den:Int)≠0:=by have:=x.den_nz; omega
 have h2:(y.den:Int)≠0:=by have:=y.den_nz; omega
 rw [← Rat.divInt_add_divInt _ _ h1 h2,Rat.num_divInt_den,Rat.num_divInt_den]
theorem wF (x y:Rat):Rat.divInt (x.num * (y.den:Int) - y.num * (x.den:Int)) ((x.den:Int) * (y.den:Int))=x - y:=by
 have h1:(x.den:Int)≠0:=by have:=x.den_nz; omega
 have h2:(y.den:Int)≠0:=by have:=y.den_nz; omega
 rw [← Rat.divInt_sub_divInt _ _ h1 h2,Rat.num_divInt_den,Rat.num_divInt_den]
theorem aE9 (x y:Rat):Rat.divInt (x.num * y.num) ((x.den:Int) * (y.den:Int))=x * y:=by
 rw [← Rat.divInt_mul_divInt,Rat.num_divInt_den,Rat.num_divInt_den]
end Num
namespace R
open PySem L2
structure Sz (k:Nat) (x:Rat):Prop where
 n:x.num.natAbs < 2 ^ k
 d:x.den < 2 ^ k
theorem hV (x:Rat):((x.den:Nat):Int)≠0:=by have:=x.den_nz; omega
theorem aIL {a b j k:Nat} (h1:a < 2 ^ j) (h2:b < 2 ^ k):a * b < 2 ^ (j+k):=by
 rw [Nat.pow_add]
 exact Nat.mul_lt_mul'' h1 h2
theorem lO {a b:Int}{j k:Nat} (h1:a.natAbs < 2 ^ j) (h2:b.natAbs < 2 ^ k):(a * b).natAbs < 2 ^ (j+k):=by
 rw [Int.natAbs_mul]; exact aIL h1 h2
theorem vX (k:Nat):2 ^ (k+1)=2 ^ k+2 ^ k:=by rw [Nat.pow_succ]; omega
theorem zF {a b:Int}{k:Nat} (h1:a.natAbs < 2 ^ k) (h2:b.natAbs < 2 ^ k):(a - b).natAbs < 2 ^ (k+1):=by
 rw [vX]; generalize 2 ^ k=m at *; omega
theorem Sz.dn {k:Nat}{x:Rat} (h:Sz k x):((x.den:Nat):Int).natAbs < 2 ^ k:=by have:=h.d; omega
theorem aA2 {t b:Int}{k:Nat} (hb:b≠0) (h1:t.natAbs < 2 ^ k) (h2:b.natAbs < 2 ^ k):Sz k (Rat.divInt t b):=by
 obtain ⟨e1,e2⟩:=Num.rB t b hb
 refine ⟨?_,?_⟩
 ·rw [← e1]; exact Nat.lt_of_le_of_lt (Num.aIJ t b) h1
 ·have:=Num.aHX t b
  rw [e2] at this
  have e:(((Rat.divInt t b).den:Nat):Int).natAbs=(Rat.divInt t b).den:=by omega
  rw [e] at this
  exact Nat.lt_of_le_of_lt this h2
theorem aJG {a b:Int} (h1:a≠0) (h2:b≠0):a * b≠0:=Int.mul_ne_zero h1 h2
theorem Sz.sub {j k:Nat}{x y:Rat} (h1:Sz j x) (h2:Sz k y):Sz (j+k+1) (x - y):=by
 rw [← Num.wF]
 refine aA2 (aJG (hV x) (hV y)) (zF (lO h1.n h2.dn) ?_) ?_
 ·rw [Nat.add_comm]; exact lO h2.n h1.dn
 ·exact Nat.lt_of_lt_of_le (lO h1.dn h2.dn) (Nat.pow_le_pow_right (by decide) (by omega))
end R
namespace L2
open PySem PySem.Spec PyProof.Rows
theorem d8:∀ (names:List (Str × NameKind)) (n:Nat) (acc:List (Str × Addr)),cellsFrom n names acc=cellsFrom n names []++acc
 | [],_,_=>rfl
 | (name,kind)::r,n,acc=>by
  unfold cellsFrom
  split
  ·rw [d8 r (n+1) ((name,n)::acc),d8 r (n+1) [(name,n)],List.append_assoc]; rfl
  ·exact d8 r n acc
theorem k7:∀ (names:List (Str × NameKind)) (n:Nat) (acc:List (Str × Addr)) {y:Str}{c:Addr},(y,c)∈cellsFrom n names acc→(y,NameKind.cell)∈names∨(y,c)∈acc
 | [],_,_,_,_,h => .inr h
 | (name,kind)::r,n,acc,y,c,h=>by
  unfold cellsFrom at h
  split at h
  ·rename_i hk
   rcases k7 r (n+1) _ h with q | q
   ·exact .inl (List.mem_cons_of_mem _ q)
   ·rcases List.mem_cons.mp q with q | q
    ·cases q
     have:kind = .cell:=by simpa using hk
     exact .inl (by rw [this]; exact List.mem_cons_self)
    ·exact .inr q
  ·rcases k7 r n _ h with q | q
   ·exact .inl (List.mem_cons_of_mem _ q)
   ·exact .inr q
theorem eX {y:Str}:∀ {l m:List (Str × Addr)},(l++m).lookup y=match l.lookup y with | some c=>some c | none=>m.lookup y
 | [],_=>rfl
 | (n,c)::l,m=>by
  rw [List.cons_append,List.lookup_cons,List.lookup_cons]
  cases y == n with
  | true=>rfl
  | false=>exact eX (l:=l) (m:=m)
theorem mB {scope:Scope}{env:Env}:∀ (names:List (Str × NameKind)) (acc:List (Str × Addr)),
  (∀ n,(n,NameKind.free)∈names→∃ c,env.cells.lookup n=some c)→(∀ n c,acc.lookup n=some c→env.cells.lookup n=some c) →
  ∃ cl,(forIn names acc fun x cs=>(if x.2 == NameKind.free then (do let c ← cellOf env x.1; pure (ForInStep.yield ((x.1,c)::cs))) else pure (ForInStep.yield cs)):Sem (List (Str × Addr)))=pure cl ∧
   (∀ n c,cl.lookup n=some c→env.cells.lookup n=some c)∧(∀ n,(n,NameKind.free)∈names→∃ c,cl.lookup n=some c)∧∀ n c,acc.lookup n=some c→∃ c',cl.lookup n=some c'
 | [],acc,_,h2=>⟨acc,rfl,h2,(fun _ h=>nomatch h),fun n c e=>⟨c,e⟩⟩
 | (name,kind)::r,acc,h1,h2=>by
  have h1':∀ n,(n,NameKind.free)∈r→∃ c,env.cells.lookup n=some c:=fun n hn=>h1 n (List.mem_cons_of_mem _ hn)
  by_cases hk:kind = .free
  ·subst hk
   obtain ⟨c,hc⟩:=h1 name List.mem_cons_self
   obtain ⟨cl,e,q1,q2,q3⟩:=mB (scope:=scope) (env:=env) r ((name,c)::acc) h1' (fun n c' hn=>by
    rw [List.lookup_cons] at hn
    cases hb:n == name with
    | true =>
     rw [hb] at hn
     have:n=name:=by simpa using hb
     subst this
     cases hn; exact hc
    | false=>rw [hb] at hn; exact h2 n c' hn)
   refine ⟨cl,?_,q1,fun n hn => ?_,fun n c' hn => ?_⟩
   ·rw [List.forIn_cons]
    simp only [beq_self_eq_true,if_true]
    have e0:cellOf env name=pure c:=by unfold cellOf; rw [hc]
    rw [e0]
    exact e
   ·rcases List.mem_cons.mp hn with z | z
    ·cases z
     exact q3 _ c (by rw [List.lookup_cons,beq_self_eq_true])
    ·exact q2 n z
   ·cases hb:n == name with
    | true=>exact q3 n c (by rw [List.lookup_cons,hb])
    | false=>exact q3 n c' (by rw [List.lookup_cons,hb]; exact hn)
  ·obtain ⟨cl,e,q1,q2,q3⟩:=mB (scope:=scope) (env:=env) r acc h1' h2
   refine ⟨cl,?_,q1,fun n hn => ?_,q3⟩
   ·rw [List.forIn_cons]
    have hb:(kind == NameKind.free)=false:=by simpa using hk
    simp only [hb,Bool.false_eq_true,if_false]
    exact e
   ·rcases List.mem_cons.mp hn with z | z
    ·cases z; exact absurd rfl hk
    ·exact q2 n z
theorem mI {scope:Scope}{env:Env} (h:∀ n,(n,NameKind.free)∈scope.names→∃ c,env.cells.lookup n=some c) :
  ∃ cl,closureFor scope env=pure cl∧(∀ n c,cl.lookup n=some c→env.cells.lookup n=some c)∧(∀ n,(n,NameKind.free)∈scope.names→∃ c,cl.lookup n=some c):=by
 obtain ⟨cl,e,q1,q2,_⟩:=mB (scope:=scope) (env:=env) scope.names [] h (fun n c e=>by cases e)
 refine ⟨cl,?_,q1,q2⟩
 show ((forIn scope.names [] fun x cs=>(if x.2 == NameKind.free then (do let c ← cellOf env x.1; pure (ForInStep.yield ((x.1,c)::cs))) else pure (ForInStep.yield cs)):Sem (List (Str × Addr))) >>= fun cs=>pure cs)=pure cl
 rw [e]
 rfl
theorem o5 {M:Model}{A:Around}{E:Value→Shared→Prop}{s:Shared}{scope:Scope}{globals:Addr}{cl:List (Str × Addr)}{qual:Str}{code:Value}{env:Env}{Q:Env→Shared→Prop}
  (h:Q (newEnv scope s.heap.objs.size globals (cellsFrom (s.heap.objs.size+1) scope.names cl) qual none code (some env) builtinsNs) { s with heap:=pushCells (s.heap.push { cls := .type "dict", data := .dict #[] }) scope.names }) :
  wpAny M A (newFunctionEnv scope globals cl [] qual none code (some env)) Q E s:=by
 simp only [newFunctionEnv,Option.isSome_some,if_true]
 refine wpAny_bind (wpAny_alloc ?_)
 refine wpAny_bind (wpAny_layCells _ (fun name kind cells=>by cases hkc:kind == NameKind.cell <;> simp [hkc]) _ _ _ _ ?_)
 rw [show ({ s with heap:=s.heap.push { cls := .type "dict", data := .dict #[] } }:Shared).heap.objs.size=s.heap.objs.size+1 from Heap.size_push ..]
 exact wpAny_bind (wpAny_pure (wpAny_pure h))
def aS (X:Cx) (scope:Scope) (cs:List (Str × Addr)) (C:Addr) (Nc:List Str) (s₀:Shared) (H₀:Hp) (fp:List Addr):Cx :=
 { X with N:=Nc,s₀:=s₀,H₀:=H₀,env:=compEnvC scope cs C X.env,outer:=X.stack,ex:=fp,fn:=fun y=>scope.names.lookup y == some .cell,pn:=[],xe:=fun _ _=>False }
theorem cY {env:Env}{y:Str}{k:NameKind}:∀ {names:List (Str × NameKind)},
  (names.map fun (n,k)=>if (k == NameKind.free && env.scope.kind == .function && env.kindOf n == some .cell) then (n,NameKind.cell) else (n,k)).lookup y=some k →
  names.lookup y=some k∨(names.lookup y=some .free∧k = .cell)
 | [],h=>by cases h
 | (n,k')::r,h=>by
  have ih := @cY env y k r
  rw [List.map_cons] at h
  cases hy:y == n with
  | true =>
   rw [List.lookup_cons,hy]
   by_cases hc:(k' == NameKind.free && env.scope.kind == .function && env.kindOf n == some .cell)=true
   ·dsimp only at h
    rw [if_pos hc,List.lookup_cons,hy] at h
    cases h
    have:k' = .free:=by
     rw [Bool.and_eq_true,Bool.and_eq_true] at hc
     simpa using hc.1.1
    exact .inr ⟨by rw [this],rfl⟩
   ·dsimp only at h
    rw [if_neg hc,List.lookup_cons,hy] at h
    exact .inl h
  | false =>
   rw [List.lookup_cons,hy]
   by_cases hc:(k' == NameKind.free && env.scope.kind == .function && env.kindOf n == some .cell)=true
   ·dsimp only at h
    rw [if_pos hc,List.lookup_cons,hy] at h
    exact ih h
   ·dsimp only at h
    rw [if_neg hc,List.lookup_cons,hy] at h
    exact ih h
def PIf (Y:Cx) (ifs:List Expr) (tt:TT):Prop :=
 ∀ (pins:List (Addr × Obj)) (s:Shared) (σ:St) (H:Hp) (Q:Bool→Hp→Prop),Inv Y pins σ H s→tt σ H Q →
  wpAny (model Y.prog Y.w) Y.A (forIn ifs true fun c r=>if r=true then do let ok ← isTrue c Y.env (eval c Y.env); pure (ForInStep.yield ok) else pure (ForInStep.yield r)) (TP Y pins σ Q) Y.xe s
def aJW:TT:=fun _ H Q=>Q true H
theorem aFD {Y:Cx}:PIf Y [] aJW:=fun pins s σ H Q I h=>by
 rw [List.forIn_nil]
 exact wpAny_pure ⟨H,I,h⟩
theorem aG5 {Y:Cx}{c:Expr}{tt:TT} (h:PT Y c tt):PIf Y [c] tt:=fun pins s σ H Q I q=>wpAny_tests_one (h pins s σ H Q I q)
theorem mU {prog:Program}{w:World}{A:Around}{R:Result→Shared→Prop}{s:Shared}{elt target iter:Expr}{ifs:List Expr}{scope:Scope}{pos:Pos}{it acc:Value}{env:Env} (I:Nat→Shared→Prop)
  (turn:∀ n s,I n s→wpAny (model prog w) A (pyNext it) (fun r s₁=>match r with
   | none=>R (.ok .next) s₁
   | some v=>wpAny (model prog w) A (letOwnedTupleGo target it v) (fun _ s₁'=>wpAny (model prog w) A (assign target env v) (fun _ s₂ =>
     wpAny (model prog w) A (forIn ifs true fun c r=>if r=true then do let ok ← isTrue c env (eval c env); pure (ForInStep.yield ok) else pure (ForInStep.yield r)) (fun ok s₃ =>
      if ok=true then wpAny (model prog w) A (eval elt env) (fun x s₄ =>
       wpAny (model prog w) A (call (.builtin "list.append") [acc,x]) (fun _ s₅=>∃ m,m < n∧I m s₅) (fun _ _=>False) s₄) (fun _ _=>False) s₃
      else ∃ m,m < n∧I m s₃) (fun _ _=>False) s₂) (fun _ _=>False) s₁') (fun _ _=>False) s₁) (fun _ _=>False) s)
  (n:Nat) (h:I n s) :
  codeAny (model prog w) A (.compLoop (.ListComp elt [⟨target,iter,ifs,0⟩] scope pos) 0 it acc env) R s:=by
 refine codeAny_loop rfl I (fun n s hI => ?_) n h
 show wpAny _ A ((compTurn (.ListComp elt [⟨target,iter,ifs,0⟩] scope pos) 0 it acc env).onRaise (fun x=>do noteFrame x env; theTreesLotGoes x)) _ _ s
 refine wpAny_noted ?_
 rw [compTurn_list]
 refine wpAny_bind (wpAny_standAt (wpAny_bind (wpAny_mono (turn n s hI) (fun r s₁ h₁ => ?_) fun _ _ h'=>h'.elim)))
 cases r with
 | none=>exact wpAny_pure h₁
 | some v =>
  refine wpAny_bind (wpAny_mono h₁ (fun _ s₁' h₁' => ?_) fun _ _ h'=>h'.elim)
  refine wpAny_bind (wpAny_mono h₁' (fun _ s₂ h₂=>wpAny_bind (wpAny_mono h₂ (fun ok s₃ h₃ => ?_) fun _ _ h'=>h'.elim)) fun _ _ h'=>h'.elim)
  cases ok with
  | false=>exact wpAny_pure ⟨rfl,h₃⟩
  | true =>
   exact wpAny_bind (wpAny_bind (wpAny_mono h₃ (fun x s₄ h₄=>wpAny_bind (wpAny_mono h₄ (fun _ s₅ h₅=>wpAny_pure (wpAny_pure ⟨rfl,h₅⟩)) fun _ _ h'=>h'.elim)) fun _ _ h'=>h'.elim))
def aJO (J:It) (cap:List Nat) (tt:TT) (te:TE) (σ:St) (H1:Hp) (Q:VK) (D:Addr):Prop:=∃ W:Nat→Nat→List V→Hp→Prop,(∃ m,W 0 m [] (upd H1 D (.lst [])))∧∀ i m ys H2,W i m ys H2 →
 H2 D=some (.lst ys)∧((J.stop i H2∧Q (.ref D) H2)∨(J.go i H2∧ys.length < sizeLine∧∀ x H3,J.yld i H2 x H3 →
  tt (some x::cap.map fun k=>(σ[k]?).join) H3 fun b H4=>if b=true then te (some x::cap.map fun k=>(σ[k]?).join) H4 fun y H5=>H5 D=some (.lst ys)∧∃ m',m' < m∧W (i+1) m' (ys++[y]) (upd H5 D (.lst (ys++[y])))
   else ∃ m',m' < m∧W (i+1) m' ys H4))
def oP (wi:TI) (cap:List Nat) (tt:TT) (te:TE):TE:=fun σ H Q=>wi σ H fun J H1=>∀ D,H1 D=none→aJO J cap tt te σ H1 Q D
structure CFree (X:Cx) (pins:List (Addr × Obj)) (H':Hp) (C:Addr):Prop where
 hn:H' C=none
 hL:C≠X.env.locals
 h1:X.s₀.heap.objs.size≤C
 h2:∀ x c,X.env.cells.lookup x=some c→c≠C
 h3:∀ p∈X.pn++pins,p.1≠C
theorem rK {X:Cx}{x:Str}{px pos:Pos}{iter elt:Expr}{ifs:List Expr}{scope:Scope}{ns:List Str}{cap:List Nat}{wi:TI}{tt:TT}{te:TE} (hc:X.calm=true) (hkind:scope.kind = .function)
  (hnames:∀ y∈scope.names,y.2 = .local→scope.names.lookup y.1=some .local) (hx:Loc (relabel scope X.env) x) (hxf:scope.names.lookup x=some .cell∨(relabel scope X.env).names.lookup x=some .local)
  (hNc:(x::ns).Nodup) (hlen:cap.length=ns.length) (hcap:∀ (j k:Nat) (nm:Str),cap[j]?=some k→ns[j]?=some nm→X.N[k]?=some nm∧(X.env.scope.names.lookup nm=some .cell∨X.env.scope.names.lookup nm=some .free))
  (hns:∀ nm∈ns,(nm,NameKind.free)∈scope.names∧(nm,NameKind.cell) ∉ scope.names) (hnsk:∀ nm∈ns,scope.names.lookup nm=some .free) (hfree:∀ y∈scope.names,y.2 = .free→X.env.scope.names.lookup y.1=some .cell∨X.env.scope.names.lookup y.1=some .free)
  (hi:PI X (.Name x px) iter wi)
  (ht:∀ cs C s₀ H₀ fp,PIf (aS X scope cs C (x::ns) s₀ H₀ fp) ifs tt) (he:∀ cs C s₀ H₀ fp,PE (aS X scope cs C (x::ns) s₀ H₀ fp) elt te)
  (hs:∀ v,foldedSetIterable iter X.env v=pure v:=by intro _; rfl)
  {use:Option (Value→Sem Unit)}{Q':Value→Shared→Prop}{pins:List (Addr × Obj)}{s:Shared}{σ:St}{H:Hp}{Q:VK}{ip:Pos} (I:Inv X pins σ H s) (h:oP wi cap tt te σ H Q)
  (hfin:∀ (D C:Addr) (H':Hp) (s':Shared),Inv X pins σ H' s'→Q (.ref D) H'→(∃ m,s'.heap.Ns C m)→CFree X pins H' C→compPost (model X.prog X.w) X.A X.xe use Q' (.ref D) C (.ok .next) s') :
  wpAny (model X.prog X.w) X.A (comprehension (.ListComp elt [⟨.Name x px,iter,ifs,0⟩] scope pos) scope X.env ip (newList []) false (eval iter X.env) use) Q' X.xe s:=by
 obtain ⟨cl,ecl,cl1,cl2⟩:=mI (scope:=scope) (env:=X.env) fun n hn=>I.ok.has n (hfree (n, .free) hn rfl)
 refine wpAny_comprehension_free (use:=use) rfl hs ecl hkind hnames (thn (hi pins s σ H _ I h) fun xv s1 h1=>thn h1 fun itv s2 h2 => ?_)
 obtain ⟨it,fp,tn,J,H2,rfl,I2,T,st2,f2,q⟩:=h2
 have hD:H2 s2.heap.objs.size=none:=I2.fresh
 obtain ⟨W,⟨m0,w0⟩,step⟩:=q s2.heap.objs.size hD
 refine wpAny_newObj_type ?_ (by show 0≤sizeLine; exact Nat.zero_le _)
 have I3:Inv X pins σ (upd H2 s2.heap.objs.size (.lst [])) { s2 with heap:=s2.heap.push { cls := .type "list", data := .seq ([]:List Value).toArray } } :=
  I2.laid (t':=s2.toks) (fun b u e=>Heap.get?_push_of_some _ e) (Nat.le_refl _) ⟨Nat.zero_le _,[],0, .nil,Heap.get?_push_size _ rfl⟩
 have sz3:(s2.heap.push { cls := .type "list", data := .seq ([]:List Value).toArray }).objs.size=s2.heap.objs.size+1:=Heap.size_push ..
 have hfp3:∀ b∈fp,∀ o,(upd H2 s2.heap.objs.size (.lst [])) b≠some o:=fun b hb o z=>by
  obtain ⟨ob,e,_⟩:=T.obj 0 _ st2 b hb
  rw [aW (Nat.ne_of_lt (Heap.lt_size e)),(f2 b hb).1] at z
  cases z
 revert I3 sz3 w0 step hfp3
 generalize upd H2 s2.heap.objs.size (.lst [])=H3
 generalize hs3:({ s2 with heap:=s2.heap.push { cls := .type "list", data := .seq ([]:List Value).toArray } }:Shared)=s3
 intro step w0 I3 sz3 hfp3
 have st3:tn 0 s3.heap:=T.keep 0 _ _ st2 fun b _ o e=>by rw [← hs3]; exact Heap.get?_push_of_some _ e
 have fpLt:∀ b∈fp,b < s3.heap.objs.size:=fun b hb=>by
  obtain ⟨o,e,_⟩:=T.obj 0 _ st3 b hb
  exact Heap.lt_size e
 refine o5 ?_
 have new:CellsOk (pushCells (s3.heap.push { cls := .type "dict", data := .dict #[] }) scope.names) (s3.heap.objs.size+1) (cellsFrom (s3.heap.objs.size+1) scope.names []):=by
  have ok:=cellsFrom_ok scope.names (s3.heap.push { cls := .type "dict", data := .dict #[] }) (s3.heap.objs.size+1) [] ⟨fun _ _ hm=>(nomatch hm),List.Pairwise.nil⟩ (by rw [Heap.size_push]; exact Nat.le_refl _)
  rw [Heap.size_push] at ok
  exact ok
 have keep4:∀ b o,s3.heap.get? b=some o→(pushCells (s3.heap.push { cls := .type "dict", data := .dict #[] }) scope.names).get? b=some o:=fun b o e=>pushCells_keeps _ _ b o (Heap.get?_push_of_some _ e)
 have nsC:(pushCells (s3.heap.push { cls := .type "dict", data := .dict #[] }) scope.names).Ns s3.heap.objs.size (fun _=>none):=(Heap.Ns.new s3.heap (.type "dict")).keeps (pushCells_keeps _ _)
 have lk:∀ y c,(cellsFrom (s3.heap.objs.size+1) scope.names cl).lookup y=some c→((y,c)∈cellsFrom (s3.heap.objs.size+1) scope.names []∧(y,NameKind.cell)∈scope.names)∨(cl.lookup y=some c∧X.env.cells.lookup y=some c):=fun y c e=>by
  rw [d8,eX] at e
  cases z:(cellsFrom (s3.heap.objs.size+1) scope.names []).lookup y with
  | some c' =>
   rw [z] at e
   have e':c'=c:=Option.some.inj e
   subst e'
   have hm:=PySem.mem_of_lookup z
   rcases k7 _ _ _ hm with q | q
   ·exact .inl ⟨hm,q⟩
   ·cases q
  | none=>rw [z] at e; exact .inr ⟨e,cl1 y c e⟩
 have oldLt:∀ y c,X.env.cells.lookup y=some c→c < s3.heap.objs.size:=fun y c e=>by
  obtain ⟨v,z⟩:=I3.cell y c e
  exact z.lt
 have hlk2:∀ nm∈ns,∃ c,(cellsFrom (s3.heap.objs.size+1) scope.names cl).lookup nm=some c∧X.env.cells.lookup nm=some c:=fun nm hnm=>by
  obtain ⟨h1,h2⟩:=hns nm hnm
  obtain ⟨c,e⟩:=cl2 nm h1
  refine ⟨c,?_,cl1 nm c e⟩
  rw [d8,eX]
  cases z:(cellsFrom (s3.heap.objs.size+1) scope.names []).lookup nm with
  | some c' =>
   rcases k7 _ _ _ (PySem.mem_of_lookup z) with q | q
   ·exact absurd q h2
   ·cases q
  | none=>exact e
 show codeAny (model X.prog X.w) X.A (.compStart (.ListComp elt [⟨.Name x px,iter,ifs,0⟩] scope pos) 0 (.ref it) (.ref s2.heap.objs.size) (aS X scope (cellsFrom (s3.heap.objs.size+1) scope.names cl) s3.heap.objs.size (x::ns) s3 H3 fp).env) (compPost (model X.prog X.w) X.A X.xe use Q' (.ref s2.heap.objs.size) s3.heap.objs.size) { s3 with heap:=pushCells (s3.heap.push { cls := .type "dict", data := .dict #[] }) scope.names }
 have ht':=ht (cellsFrom (s3.heap.objs.size+1) scope.names cl) s3.heap.objs.size s3 H3 fp
 have he':=he (cellsFrom (s3.heap.objs.size+1) scope.names cl) s3.heap.objs.size s3 H3 fp
 have OK:(aS X scope (cellsFrom (s3.heap.objs.size+1) scope.names cl) s3.heap.objs.size (x::ns) s3 H3 fp).Ok:=by
  refine ⟨I3.ok.mod,hkind,I3.ok.glob,I3.ok.blt,Nat.le_refl _,fun y z c e1 e2 => ?_,fun y hy => ?_,fun y c hf e => ?_,fun _=>I3.ok.hd hc,I3.ok.frames, .inl rfl,fun b hb=>⟨Nat.ne_of_lt (fpLt b hb),fun y c e => ?_⟩,I3.bs,Nat.le_trans I3.ok.bsz I3.sz,fun b o e hb => ?_,fun b hb hm => ?_,I3.stack,I3.stkFree⟩
  ·rcases lk y c e1 with ⟨a1,_⟩ | ⟨a1,a2⟩ <;> rcases lk z c e2 with ⟨b1,_⟩ | ⟨b1,b2⟩
   ·exact name_of_addr new.apart a1 b1
   ·exact absurd (Nat.lt_of_lt_of_le (oldLt z c b2) (Nat.le_of_succ_le (new.empty y c a1).2)) (Nat.lt_irrefl _)
   ·exact absurd (Nat.lt_of_lt_of_le (oldLt y c a2) (Nat.le_of_succ_le (new.empty z c b1).2)) (Nat.lt_irrefl _)
   ·exact I3.ok.inj y z c a2 b2
  ·have key:scope.names.lookup y=some .cell∨scope.names.lookup y=some .free:=by
    rcases hy with hy | hy
    ·rcases cY (env:=X.env) (names:=scope.names) hy with q | ⟨q,_⟩
     ·exact .inl q
     ·exact .inr q
    ·rcases cY (env:=X.env) (names:=scope.names) hy with q | ⟨q,_⟩
     ·exact .inr q
     ·exact .inr q
   rcases key with q | q
   ·exact Option.isSome_iff_exists.mp (PySem.W.cellsFrom_some scope.names (s3.heap.objs.size+1) cl (.inl q))
   ·obtain ⟨c,e⟩:=cl2 y (PySem.mem_of_lookup q)
    exact Option.isSome_iff_exists.mp (PySem.W.cellsFrom_some scope.names (s3.heap.objs.size+1) cl (.inr (by rw [e]; rfl)))
  ·have hf':scope.names.lookup y=some .cell:=by
    have hf0:(scope.names.lookup y == some .cell)=true:=hf
    simpa using hf0
   have e':(cellsFrom (s3.heap.objs.size+1) scope.names cl).lookup y=some c:=e
   have e0:=Option.isSome_iff_exists.mp (PySem.W.cellsFrom_some scope.names (s3.heap.objs.size+1) [] (.inl hf'))
   obtain ⟨c',z⟩:=e0
   rw [d8,eX,z] at e'
   cases e'
   exact Nat.le_of_succ_le (new.empty y c (PySem.mem_of_lookup z)).2
  ·rcases lk y c e with ⟨a1,_⟩ | ⟨a1,a2⟩
   ·exact fun z=>absurd (Nat.lt_of_lt_of_le (fpLt b hb) (z ▸ Nat.le_of_succ_le (new.empty y c a1).2)) (Nat.lt_irrefl _)
   ·exact (f2 b hb).2.2.2.2.1 y c a2
  ·rcases (f2 b hb).2.2.2.1 with z | z
   ·exact I3.ok.noex b o e z
   ·exact absurd (Nat.lt_of_lt_of_le (Heap.lt_size (I3.ok.bs b o e).1) z) (Nat.lt_irrefl _)
  ·rcases List.mem_cons.mp (I3.stkSub b hm) with z | z
   ·exact (f2 b hb).2.1 z
   ·exact (f2 b hb).2.2.1 z
 have IY:Inv (aS X scope (cellsFrom (s3.heap.objs.size+1) scope.names cl) s3.heap.objs.size (x::ns) s3 H3 fp) [] (none::cap.map fun k=>(σ[k]?).join) H3 { s3 with heap:=pushCells (s3.heap.push { cls := .type "dict", data := .dict #[] }) scope.names }:=by
  refine ⟨OK,rfl,I3.bare,Un.kept keep4,⟨_,nsC,fun i nm v e1 e2 e3 => ?_⟩,fun y c e => ?_,I3.fresh,fun y c e => ?_,fun p hp=>absurd (show p∈([]:List (Addr × Obj)) from hp) (by simp),I3.hok.kept keep4,by simp [aS,hlen]⟩
  ·cases i with
   | zero=>cases e2
   | succ j =>
    have e1':ns[j]?=some nm:=e1
    have e2':(cap.map fun k=>(σ[k]?).join)[j]?=some (some v):=e2
    rw [List.getElem?_map] at e2'
    cases hk:cap[j]? with
    | none=>rw [hk] at e2'; cases e2'
    | some k =>
     rw [hk] at e2'
     have e2'':(σ[k]?).join=some v:=Option.some.inj e2'
     have e4:σ[k]?=some (some v):=by
      cases z:σ[k]? with
      | none=>rw [z] at e2''; cases e2''
      | some o=>rw [z] at e2''; exact congrArg some e2''
     obtain ⟨hN,hcell⟩:=hcap j k nm hk e1'
     obtain ⟨m,_,hl⟩:=I3.loc
     obtain ⟨u,r,l⟩:=hl k nm v hN e4 (.inr hcell)
     refine ⟨u,r,?_⟩
     rcases l with ⟨l1,_⟩ | ⟨_,c,ec,z⟩
     ·have l1':X.env.scope.names.lookup nm=some .local:=l1
      rcases hcell with q | q <;> rw [q] at l1' <;> cases l1'
     ·obtain ⟨c',g1,g2⟩:=hlk2 nm (List.mem_of_getElem? e1')
      rw [ec] at g2
      cases g2
      refine .inr ⟨?_,c,g1,?_⟩
      ·rcases e3 with q | q
       ·rcases cY (env:=X.env) (names:=scope.names) q with w1 | ⟨_,w1⟩
        ·exfalso
         have hmem:=(hns nm (List.mem_of_getElem? e1')).1
         have:=hnames (nm, .local) (PySem.mem_of_lookup w1) rfl
         -- a name has one kind in a scope: its cell is known,so it is not local here
         exact absurd (I3.ok.has nm (hfree (nm, .free) hmem rfl)) (fun _=>by
          have hk2:=(hnsk nm (List.mem_of_getElem? e1'))
          rw [w1] at hk2; cases hk2)
        ·cases w1
       ·exact q
      ·obtain ⟨o,ho,hd⟩:=z
       exact ⟨o,keep4 c o ho,hd⟩
  ·rcases lk y c e with ⟨a1,_⟩ | ⟨a1,a2⟩
   ·exact ⟨none,(new.empty y c a1).1⟩
   ·obtain ⟨v,o,ho,hd⟩:=I3.cell y c a2
    exact ⟨v,o,keep4 c o ho,hd⟩
  ·rcases lk y c e with ⟨a1,_⟩ | ⟨a1,a2⟩
   ·exact I3.hok.fresh (Nat.le_of_succ_le (new.empty y c a1).2)
   ·exact I3.freeC y c a2
 -- what is reached at the end
 have fin:∀ {σ':St}{H':Hp}{s':Shared},Inv (aS X scope (cellsFrom (s3.heap.objs.size+1) scope.names cl) s3.heap.objs.size (x::ns) s3 H3 fp) [] σ' H' s'→Q (.ref s2.heap.objs.size) H' →
   compPost (model X.prog X.w) X.A X.xe use Q' (.ref s2.heap.objs.size) s3.heap.objs.size (.ok .next) s':=fun {σ' H' s'} J qd=>by
  obtain ⟨m',hn',_⟩:=J.loc
  have hCn:H' s3.heap.objs.size=none:=J.free
  refine hfin _ _ H' s' (I3.call' (ch:=fp) J.os J.base J.hok J.bare fun b hb=>⟨(f2 b hb).2.2.2.1,(f2 b hb).2.1,(f2 b hb).2.2.2.2.1,(f2 b hb).2.2.2.2.2⟩) qd ⟨m',hn'⟩ ⟨hCn,Nat.ne_of_gt I3.lt,I3.sz,fun y c e=>Nat.ne_of_lt (oldLt y c e),fun p hp=>Nat.ne_of_lt (Heap.lt_size (I3.pin p hp).1)⟩
 have fpY:∀ {H':Hp},(∀ b∈fp,H' b=none)→∀ b∈fp,FpOk (aS X scope (cellsFrom (s3.heap.objs.size+1) scope.names cl) s3.heap.objs.size (x::ns) s3 H3 fp) [] H' b:=fun {H'} hn b hb =>
  ⟨hn b hb,(OK.exf b hb).1,OK.exfs b hb, .inl hb,(OK.exf b hb).2,fun p hp=>absurd (show p∈([]:List (Addr × Obj)) from hp) (by simp)⟩
 have st4:tn 0 (pushCells (s3.heap.push { cls := .type "dict", data := .dict #[] }) scope.names):=T.keep 0 _ _ st3 fun b _ o e=>keep4 b o e
 have fr3:∀ b∈fp,H3 b=none:=fun b hb=>by
  cases z:H3 b with
  | none=>rfl
  | some o=>exact absurd rfl (fun _:(1:Nat)=1=>hfp3 b hb o z)
 have loop:codeAny (model X.prog X.w) X.A (.compLoop (.ListComp elt [⟨.Name x px,iter,ifs,0⟩] scope pos) 0 (.ref it) (.ref s2.heap.objs.size) (aS X scope (cellsFrom (s3.heap.objs.size+1) scope.names cl) s3.heap.objs.size (x::ns) s3 H3 fp).env) (compPost (model X.prog X.w) X.A X.xe use Q' (.ref s2.heap.objs.size) s3.heap.objs.size) { s3 with heap:=pushCells (s3.heap.push { cls := .type "dict", data := .dict #[] }) scope.names }:=by
  refine mU (fun n s'=>∃ i ys o H',Inv (aS X scope (cellsFrom (s3.heap.objs.size+1) scope.names cl) s3.heap.objs.size (x::ns) s3 H3 fp) [] (o::cap.map fun k=>(σ[k]?).join) H' s'∧tn i s'.heap∧(∀ b∈fp,H' b=none)∧W i n ys H') ?_ m0 ⟨0,[],none,H3,IY,st4,fr3,w0⟩
  rintro n s5 ⟨i,ys,o,H5,I5,st5,fr5,w5⟩
  obtain ⟨eD,alt⟩:=step i n ys H5 w5
  rcases alt with ⟨stop,qd⟩ | ⟨go,hz,turn⟩
  ·refine thn (T.done (aS X scope (cellsFrom (s3.heap.objs.size+1) scope.names cl) s3.heap.objs.size (x::ns) s3 H3 fp) rfl rfl rfl hc i [] s5 _ H5 (fun _ _=>False) I5 (fpY fr5) st5 stop) fun r s6 ⟨hr,I6⟩ => ?_
   subst hr
   exact fin I6 qd
  ·refine thn (T.item (aS X scope (cellsFrom (s3.heap.objs.size+1) scope.names cl) s3.heap.objs.size (x::ns) s3 H3 fp) rfl rfl rfl hc i [] s5 _ H5 (fun _ _=>False) I5 (fpY fr5) st5 go) fun r s6 ⟨u,hr,h6⟩ => ?_
   subst hr
   refine thn h6 fun _ s7 ⟨xv',H7,I7,r7,y7,st7,fr7⟩ => ?_
   have I7':=I7.pinned (fpY fr7) (T.obj _ _ st7)
   have hst:PG (aS X scope (cellsFrom (s3.heap.objs.size+1) scope.names cl) s3.heap.objs.size (x::ns) s3 H3 fp) (.Name x px) (lJ 0):=oH hNc rfl hx (hxf.elim (fun z => .inl (by show (scope.names.lookup x == some .cell)=true; rw [z]; rfl)) .inr)
   refine thn (hst _ s7 _ H7 xv' u (fun σ8 H8=>σ8=(some xv'::cap.map fun k=>(σ[k]?).join)∧H8=H7) I7' r7 ⟨rfl,rfl⟩) fun _ s8 ⟨σ8,H8,I8,e8,e8'⟩ => ?_
   subst e8 e8'
   have back:∀ {σ9:St}{H9:Hp}{s9:Shared},Inv (aS X scope (cellsFrom (s3.heap.objs.size+1) scope.names cl) s3.heap.objs.size (x::ns) s3 H3 fp) ([]++lF fp s7.heap) σ9 H9 s9→tn (i+1) s9.heap∧∀ b∈fp,H9 b=none:=fun {σ9 H9 s9} I9=>by
    refine ⟨T.keep _ _ _ st7 fun b hb o e=>(I9.pin (b,o) (List.mem_append_right _ (List.mem_append_right _ (fT hb e)))).1,fun b hb => ?_⟩
    obtain ⟨o,e,d⟩:=T.obj _ _ st7 b hb
    exact (I9.pin (b,o) (List.mem_append_right _ (List.mem_append_right _ (fT hb e)))).2.1
   refine thn (ht' _ s8 _ _ _ I8 (turn xv' _ y7)) fun b s9 ⟨H9,I9,q9⟩ => ?_
   cases b with
   | false =>
    rw [if_neg Bool.false_ne_true] at q9 ⊢
    obtain ⟨m',hm,w9⟩:=q9
    obtain ⟨st9,fr9⟩:=back I9
    exact ⟨m',hm,i+1,ys,_,H9,I9.unpinned,st9,fr9,w9⟩
   | true =>
    rw [if_pos rfl] at q9 ⊢
    refine thn (he' _ s9 _ _ _ I9 q9) fun yv s10 ⟨y,H10,I10,r10,eD10,m',hm,w10⟩ => ?_
    refine thn (gZ (X:=aS X scope (cellsFrom (s3.heap.objs.size+1) scope.names cl) s3.heap.objs.size (x::ns) s3 H3 fp) _ s10 _ H10 (.ref s2.heap.objs.size) [y] (.ref s2.heap.objs.size) [yv] (fun _ H11=>H11=upd H10 s2.heap.objs.size (.lst (ys++[y]))) I10 rfl (.cons r10 .nil) ⟨_,ys,y,rfl,rfl,eD10,hz,rfl⟩) fun _ s11 ⟨_,H11,I11,_,e11⟩ => ?_
    subst e11
    obtain ⟨st11,fr11⟩:=back I11
    exact ⟨m',hm,i+1,_,_,_,I11.unpinned,st11,fr11,w10⟩
 exact codeAny_compStart_list loop (T.self X.A 0 _ _ _ st4 loop)
theorem aFE {X:Cx}{x:Str}{px pos:Pos}{iter elt:Expr}{ifs:List Expr}{scope:Scope}{ns:List Str}{cap:List Nat}{wi:TI}{tt:TT}{te:TE} (hc:X.calm=true) (hkind:scope.kind = .function)
  (hnames:∀ y∈scope.names,y.2 = .local→scope.names.lookup y.1=some .local) (hx:Loc (relabel scope X.env) x) (hxf:scope.names.lookup x=some .cell∨(relabel scope X.env).names.lookup x=some .local)
  (hNc:(x::ns).Nodup) (hlen:cap.length=ns.length) (hcap:∀ (j k:Nat) (nm:Str),cap[j]?=some k→ns[j]?=some nm→X.N[k]?=some nm∧(X.env.scope.names.lookup nm=some .cell∨X.env.scope.names.lookup nm=some .free))
  (hns:∀ nm∈ns,(nm,NameKind.free)∈scope.names∧(nm,NameKind.cell) ∉ scope.names) (hnsk:∀ nm∈ns,scope.names.lookup nm=some .free) (hfree:∀ y∈scope.names,y.2 = .free→X.env.scope.names.lookup y.1=some .cell∨X.env.scope.names.lookup y.1=some .free)
  (hi:PI X (.Name x px) iter wi)
  (ht:∀ cs C s₀ H₀ fp,PIf (aS X scope cs C (x::ns) s₀ H₀ fp) ifs tt) (he:∀ cs C s₀ H₀ fp,PE (aS X scope cs C (x::ns) s₀ H₀ fp) elt te)
  (hs:∀ v,foldedSetIterable iter X.env v=pure v:=by intro _; rfl) :
  PE X (.ListComp elt [⟨.Name x px,iter,ifs,0⟩] scope pos) (oP wi cap tt te):=by
 intro pins s σ H Q I h
 rw [eval_ListComp]
 refine rK hc hkind hnames hx hxf hNc hlen hcap hns hnsk hfree hi ht he hs (use:=none) I h fun D C H' s' J q ⟨m,hn⟩ cf=>⟨m,hn,fun h' hs' => ?_⟩
 exact ⟨.ref D,H',J.turned (t':=s'.toks) (it:=C) (fun b o hb e=>(hs'.2 b hb).trans e) cf.hn cf.hL (.inr cf.h1) cf.h2 cf.h3,rfl,q⟩
theorem yH {y:Str}{py spos:Pos}{iy:Nat}{X:Cx}{x:Str}{px pos:Pos}{iter elt:Expr}{ifs:List Expr}{scope:Scope}{ns:List Str}{cap:List Nat}{wi:TI}{tt:TT}{te:TE} (hN:X.N.Nodup) (hiy:X.N[iy]?=some y) (hyl:X.env.scope.names.lookup y=some .local) (hc:X.calm=true) (hkind:scope.kind = .function)
  (hnames:∀ y∈scope.names,y.2 = .local→scope.names.lookup y.1=some .local) (hx:Loc (relabel scope X.env) x) (hxf:scope.names.lookup x=some .cell∨(relabel scope X.env).names.lookup x=some .local)
  (hNc:(x::ns).Nodup) (hlen:cap.length=ns.length) (hcap:∀ (j k:Nat) (nm:Str),cap[j]?=some k→ns[j]?=some nm→X.N[k]?=some nm∧(X.env.scope.names.lookup nm=some .cell∨X.env.scope.names.lookup nm=some .free))
  (hns:∀ nm∈ns,(nm,NameKind.free)∈scope.names∧(nm,NameKind.cell) ∉ scope.names) (hnsk:∀ nm∈ns,scope.names.lookup nm=some .free) (hfree:∀ y∈scope.names,y.2 = .free→X.env.scope.names.lookup y.1=some .cell∨X.env.scope.names.lookup y.1=some .free)
  (hi:PI X (.Name x px) iter wi)
  (ht:∀ cs C s₀ H₀ fp,PIf (aS X scope cs C (x::ns) s₀ H₀ fp) ifs tt) (he:∀ cs C s₀ H₀ fp,PE (aS X scope cs C (x::ns) s₀ H₀ fp) elt te)
  (hs:∀ v,foldedSetIterable iter X.env v=pure v:=by intro _; rfl)
  (hsw:swapsWith (.ListComp elt [⟨.Name x px,iter,ifs,0⟩] scope pos) (some (.Name y py)) spos.line X.env=pure true:=by rfl) :
  PS X (.Assign [.Name y py] (.ListComp elt [⟨.Name x px,iter,ifs,0⟩] scope pos) spos) (tAsg (oP wi cap tt te) (lJ iy)):=by
 intro pins s σ H D I h
 rw [exec_Assign_Name_used _ _ _ _ hsw]
 refine wpAny_bind (wpAny_standAt (wpAny_bind ?_))
 show wpAny _ X.A (do let _ ← comprehension (.ListComp elt [⟨.Name x px,iter,ifs,0⟩] scope pos) scope X.env _ (newList []) false (eval iter X.env) (some (assign (.Name y py) X.env))) _ _ s
 refine wpAny_bind (wpAny_mono (rK hc hkind hnames hx hxf hNc hlen hcap hns hnsk hfree hi ht he hs (use:=some (assign (.Name y py) X.env)) (Q':=fun _ s'=>SP X pins D .next s') I h fun L C H' s' J q ⟨m,hn⟩ cf => ?_) (fun _ s' hq=>wpAny_pure (wpAny_pure hq)) fun _ _ e=>e)
 refine wpAny_assign_Name (rT J hN hiy (.inl hyl) (v := .ref L) rfl (fun s2 J2 ⟨a,sb,ha⟩ => ?_) (.inr hyl))
 have hCa:C≠a:=by
  rcases ha with rfl | ha
  ·exact cf.hL
  ·exact Ne.symm (cf.h2 y a ha)
 refine ⟨m,hn.sameBut sb hCa,fun h' hs' => ?_⟩
 exact ⟨_,H',J2.turned (t':=s2.toks) (it:=C) (fun b o hb e=>(hs'.2 b hb).trans e) cf.hn cf.hL (.inr cf.h1) cf.h2 cf.h3,q⟩
def Its (x:Str):It:=⟨fun i _=>i < x.cps.size,fun i H v H'=>H'=H∧∃ c,x.cps[i]?=some c∧v = .str ⟨#[c]⟩,fun i _=>x.cps.size≤i⟩
theorem u8 {P:Program}{w:World}{K:PySem.W.Frag}{tg:Expr} (x:Str) (t:Tok) (it:Addr) (b:Bool):Turn P w K tg (Its x) [it] it (fun i h=>h.IsStrIter it (if b then "str_ascii_iterator" else "str_iterator") x t i) where
 mem:=by simp
 obj:=fun i h st b hb=>by
  have e:b=it:=by simpa using hb
  subst e
  obtain ⟨o,e,c,d⟩:=st
  exact ⟨o,e,fun v z=>by rw [d] at z; cases z⟩
 keep:=fun i h h' st k=>by
  obtain ⟨o,e,r⟩:=st
  exact ⟨o,k it (by simp) o e,r⟩
 item:=by
  intro X hP hw hK hc i pins s σ H E I hf st hg
  subst hP hw hK
  obtain ⟨f0,f1,f2,f3,f4,f5⟩:=hf it (by simp)
  have hg':i < x.cps.size:=hg
  cases b with
  | true =>
   refine wpAny_pyNext_ascii_item st (c:=x.cps[i]) (by simp [hg']) fun h' st' sb => ?_
   have I1:Inv X pins σ H { s with heap:=h',toks:=s.toks+1 }:=I.turned (t':=s.toks+1) (fun b o hb e=>(sb.2 b hb).trans e) f0 f1 f3 f4 f5
   obtain ⟨o,e,c,d⟩:=id st'
   exact ⟨_,rfl,qF (s:={ s with heap:=h',toks:=s.toks+1 }) e c d (by decide) ⟨.str ⟨#[x.cps[i]]⟩,H,I1,⟨s.toks,rfl⟩,⟨rfl,_,by simp [hg'],rfl⟩,st',fun b hb=>(hf b hb).1⟩⟩
  | false =>
   refine wpAny_pyNext_wide_item st (c:=x.cps[i]) (by simp [hg']) fun h' st' sb => ?_
   have I1:Inv X pins σ H { s with heap:=h',toks:=s.toks+1 }:=I.turned (t':=s.toks+1) (fun b o hb e=>(sb.2 b hb).trans e) f0 f1 f3 f4 f5
   obtain ⟨o,e,c,d⟩:=id st'
   exact ⟨_,rfl,qF (s:={ s with heap:=h',toks:=s.toks+1 }) e c d (by decide) ⟨.str ⟨#[x.cps[i]]⟩,H,I1,⟨s.toks,rfl⟩,⟨rfl,_,by simp [hg'],rfl⟩,st',fun b hb=>(hf b hb).1⟩⟩
 done:=by
  intro X hP hw hK hc i pins s σ H E I hf st hg
  subst hP hw hK
  obtain ⟨f0,f1,f2,f3,f4,f5⟩:=hf it (by simp)
  have hg':x.cps.size≤i:=hg
  cases b with
  | true=>exact wpAny_pyNext_ascii_end (I.ok.hd hc) st (by simp [hg']) fun h' eb=>⟨rfl,I.turned (t':=s.toks) (fun b o hb e=>eb b o hb e) f0 f1 f3 f4 f5⟩
  | false=>exact wpAny_pyNext_wide_end (I.ok.hd hc) st (by simp [hg']) fun h' eb=>⟨rfl,I.turned (t':=s.toks) (fun b o hb e=>eb b o hb e) f0 f1 f3 f4 f5⟩
 self:=fun _ _ _ _ _ st h=>by
  cases b with
  | true=>exact wpAny_pyIter_striter_ascii st h
  | false=>exact wpAny_pyIter_striter_wide st h
def iStr (tl:TE):TI:=fun σ H R=>tl σ H fun x H1=>∃ z,x = .str z∧R (Its z) H1
theorem aJB {X:Cx}{tg l:Expr}{tl:TE} (hl:PE X l tl):PI X tg l (iStr tl):=by
 intro pins s σ H R I h
 refine thn (hl pins s σ H _ I h) fun v s1 ⟨x,H1,I1,r1,q1⟩ => ?_
 obtain ⟨z,e,q⟩:=q1
 subst e
 obtain ⟨t,rfl⟩:=r1
 have fp:∀ b∈[s1.heap.objs.size],FpOk X pins H1 b:=fun b hb=>by
  have e:b=s1.heap.objs.size:=by simpa using hb
  subst e
  exact I1.fpOk (Nat.le_refl _) (I1.hok.fresh (Nat.le_refl _))
 cases ha:z.cps.all (· < 128)
 ·exact wpAny_pyIter_wide ha ⟨s1.heap.objs.size,[s1.heap.objs.size],_,_,H1,rfl,I1.kept (t':=s1.toks) fun b o e=>Heap.get?_push_of_some _ e,u8 z t _ false,⟨_,Heap.get?_push_size _ rfl,rfl,rfl⟩,fp,q⟩
 ·exact wpAny_pyIter_ascii ha ⟨s1.heap.objs.size,[s1.heap.objs.size],_,_,H1,rfl,I1.kept (t':=s1.toks) fun b o e=>Heap.get?_push_of_some _ e,u8 z t _ true,⟨_,Heap.get?_push_size _ rfl,rfl,rfl⟩,fp,q⟩
structure Yields (J:It) (xs:List V) (Kp:Hp→Prop):Prop where
 go:∀ i H,Kp H→i < xs.length→J.go i H
 yld:∀ i H x H',Kp H→J.yld i H x H'→i < xs.length→H'=H∧xs[i]?=some x
 stop:∀ i H,Kp H→xs.length≤i→J.stop i H
theorem qX {K:PySem.W.Frag}{a:Addr}{xs:List V}:Yields (Itl K a) xs (fun H=>SqL K H a xs) where
 go:=fun i H k h=>⟨xs,xs[i],k,by simp [h]⟩
 yld:=fun i H x H' k y _=>⟨y.1,y.2 xs k⟩
 stop:=fun i H k h=>⟨xs,k,h⟩
theorem uY {K:PySem.W.Frag}{a:Addr}{xs:List V}:Yields (Itt K a) xs (fun H=>SqT K H a xs) where
 go:=fun i H k h=>⟨xs,xs[i],k,by simp [h]⟩
 yld:=fun i H x H' k y _=>⟨y.1,y.2 xs k⟩
 stop:=fun i H k h=>⟨xs,k,h⟩
def Butd (D:Addr) (H H':Hp):Prop:=∀ b o,b≠D→H b=some o→H' b=some o
theorem Butd.upd {D:Addr}{H:Hp}{o:HO}:Butd D H (upd H D o):=fun b u n e=>by rw [aW n]; exact e
theorem Same.but {D:Addr}{H1 H H':Hp} (s:Same H1 H) (n:H1 D=none) (b:Butd D H H'):Same H1 H':=fun c o e=>b c o (bA e n) (s c o e)
theorem rH {D:Addr}{H:Hp}{o:HO} (n:H D=none):Same H (upd H D o):=(Same.refl H).but n Butd.upd
theorem fK {α:Type}{xs:List α}{i:Nat}{x:α} (h:xs[i]?=some x):xs.take (i+1)=xs.take i++[x]:=by
 rw [List.take_succ,h]; rfl
end L2
namespace L2
open PySem PySem.Spec PyProof.Rows
section
variable {X:Cx}
theorem kG {bs:List Bool}{its:List Value} (r:Vals (bs.map V.bl) its) {i:Nat}{v:Value} (e:its.toArray[i]?=some v):v = .bool (bs.getD i false):=by
 have e':its[i]?=some v:=by simpa using e
 have hl:=r.length
 rw [List.length_map] at hl
 have hi:i < bs.length:=by
  have:=(List.getElem?_eq_some_iff.mp e').1
  omega
 have hx:(bs.map V.bl)[i]?=some (.bl bs[i]):=by simp [hi]
 obtain ⟨u,hu,ru⟩:=r.get hx
 rw [e'] at hu
 cases hu
 have:v = .bool bs[i]:=ru
 rw [this]
 simp [List.getD,hi]
theorem rG (bs:List Bool):((List.range bs.length).all fun i=>bs.getD i false)=bs.all id:=by
 induction bs with
 | nil=>rfl
 | cons b r ih =>
  rw [List.length_cons,List.range_succ_eq_map,List.all_cons,List.all_map,List.all_cons]
  rw [← ih]
  rfl
theorem sI (bs:List Bool):((List.range bs.length).any fun i=>bs.getD i false)=bs.any id:=by
 induction bs with
 | nil=>rfl
 | cons b r ih =>
  rw [List.length_cons,List.range_succ_eq_map,List.any_cons,List.any_map,List.any_cons]
  rw [← ih]
  rfl
def rAll (K:PySem.W.Frag) (g:List Bool→Bool):List V→Hp→VK→Prop:=fun xs H Q=>∃ p bs,xs=[.ref p]∧(SqL K H p (bs.map V.bl)∨SqT K H p (bs.map V.bl))∧Q (.bl (g bs)) H
theorem fQ (hc:X.calm=true):eW X (.builtin "all") (rAll X.K fun bs=>bs.all id):=by
 intro pins s σ H xs us Q I r h
 obtain ⟨p,bs,rfl,hq,q⟩:=h
 obtain ⟨u,rfl,rx⟩:=vals1 r
 cases rx
 refine call_all_walk ?_
 rcases hq with hq | hq
 ·obtain ⟨its,r',pl,hz⟩:=I.list hq
  have hlen:=r'.length
  rw [List.length_map] at hlen
  refine wpAny_pyIter_list pl.isList ?_
  have hne:p≠s.heap.objs.size:=Nat.ne_of_lt (Heap.lt_size pl.isList.choose_spec.1)
  refine ⟨_,_,_,_,_,_,fun i=>bs.getD i false,rfl,Walks.list (show X.A.in1.handled=none from I.ok.hd hc) s.heap.objs.size p hne its.toArray,⟨⟨_,Heap.get?_push_size _ rfl,rfl,rfl⟩,?_⟩,?_,?_⟩
  ·obtain ⟨o,e,z⟩:=pl.isList
   exact ⟨o,Heap.get?_push_of_some _ e,z⟩
  ·intro i v s' Q' E' hv hQ'
   rw [kG r' hv]
   exact wpAny_truthy_bool hQ'
  ·intro h' tk k
   refine ⟨.bl (bs.all id),H,?_,?_,q⟩
   ·exact I.kept (t':=tk) fun b o e=>k b o (by simp; exact Nat.ne_of_lt (Heap.lt_size e)) (Heap.get?_push_of_some _ e)
   ·show Value.bool _=Value.bool _
    rw [← rG bs,List.size_toArray,← hlen]
 ·obtain ⟨its,r',pl,hz⟩:=I.tuple hq
  have hlen:=r'.length
  rw [List.length_map] at hlen
  have pl':s.heap.IsTuple p its.toArray:=pl
  refine wpAny_pyIter_tuple pl' ?_
  have hne:p≠s.heap.objs.size:=Nat.ne_of_lt (Heap.lt_size pl'.choose_spec.1)
  refine ⟨_,_,_,_,_,_,fun i=>bs.getD i false,rfl,Walks.tuple (show X.A.in1.handled=none from I.ok.hd hc) s.heap.objs.size p hne its.toArray,⟨⟨_,Heap.get?_push_size _ rfl,rfl,rfl⟩,?_⟩,?_,?_⟩
  ·obtain ⟨o,e,z⟩:=pl'
   exact ⟨o,Heap.get?_push_of_some _ e,z⟩
  ·intro i v s' Q' E' hv hQ'
   rw [kG r' hv]
   exact wpAny_truthy_bool hQ'
  ·intro h' tk k
   refine ⟨.bl (bs.all id),H,?_,?_,q⟩
   ·exact I.kept (t':=tk) fun b o e=>k b o (by simp; exact Nat.ne_of_lt (Heap.lt_size e)) (Heap.get?_push_of_some _ e)
   ·show Value.bool _=Value.bool _
    rw [← rG bs,List.size_toArray,← hlen]
theorem aDC (hc:X.calm=true):eW X (.builtin "any") (rAll X.K fun bs=>bs.any id):=by
 intro pins s σ H xs us Q I r h
 obtain ⟨p,bs,rfl,hq,q⟩:=h
 obtain ⟨u,rfl,rx⟩:=vals1 r
 cases rx
 refine call_any_walk ?_
 rcases hq with hq | hq
 ·obtain ⟨its,r',pl,hz⟩:=I.list hq
  have hlen:=r'.length
  rw [List.length_map] at hlen
  refine wpAny_pyIter_list pl.isList ?_
  have hne:p≠s.heap.objs.size:=Nat.ne_of_lt (Heap.lt_size pl.isList.choose_spec.1)
  refine ⟨_,_,_,_,_,_,fun i=>bs.getD i false,rfl,Walks.list (show X.A.in1.handled=none from I.ok.hd hc) s.heap.objs.size p hne its.toArray,⟨⟨_,Heap.get?_push_size _ rfl,rfl,rfl⟩,?_⟩,?_,?_⟩
  ·obtain ⟨o,e,z⟩:=pl.isList
   exact ⟨o,Heap.get?_push_of_some _ e,z⟩
  ·intro i v s' Q' E' hv hQ'
   rw [kG r' hv]
   exact wpAny_truthy_bool hQ'
  ·intro h' tk k
   refine ⟨.bl (bs.any id),H,?_,?_,q⟩
   ·exact I.kept (t':=tk) fun b o e=>k b o (by simp; exact Nat.ne_of_lt (Heap.lt_size e)) (Heap.get?_push_of_some _ e)
   ·show Value.bool _=Value.bool _
    rw [← sI bs,List.size_toArray,← hlen]
 ·obtain ⟨its,r',pl,hz⟩:=I.tuple hq
  have hlen:=r'.length
  rw [List.length_map] at hlen
  have pl':s.heap.IsTuple p its.toArray:=pl
  refine wpAny_pyIter_tuple pl' ?_
  have hne:p≠s.heap.objs.size:=Nat.ne_of_lt (Heap.lt_size pl'.choose_spec.1)
  refine ⟨_,_,_,_,_,_,fun i=>bs.getD i false,rfl,Walks.tuple (show X.A.in1.handled=none from I.ok.hd hc) s.heap.objs.size p hne its.toArray,⟨⟨_,Heap.get?_push_size _ rfl,rfl,rfl⟩,?_⟩,?_,?_⟩
  ·obtain ⟨o,e,z⟩:=pl'
   exact ⟨o,Heap.get?_push_of_some _ e,z⟩
  ·intro i v s' Q' E' hv hQ'
   rw [kG r' hv]
   exact wpAny_truthy_bool hQ'
  ·intro h' tk k
   refine ⟨.bl (bs.any id),H,?_,?_,q⟩
   ·exact I.kept (t':=tk) fun b o e=>k b o (by simp; exact Nat.ne_of_lt (Heap.lt_size e)) (Heap.get?_push_of_some _ e)
   ·show Value.bool _=Value.bool _
    rw [← sI bs,List.size_toArray,← hlen]
theorem qQ:∀ {ys:List Str}{its:List Value},Vals (ys.map V.str) its→StrsAre its ys
 | [],_,r=>by cases r; exact .nil
 | y::ys,_,r=>by
  cases r with
  | cons a b =>
   obtain ⟨t,rfl⟩:=a
   exact .cons y t (qQ b)
def aE4 (K:PySem.W.Frag):V→List V→Hp→VK→Prop:=fun x vs H Q=>∃ sep p ys,x = .str sep∧vs=[.ref p]∧(SqL K H p (ys.map V.str)∨SqT K H p (ys.map V.str))∧sep.length≤16∧(ys.map (·.length)).sum+ys.length≤1048576∧Q (.str (Txt.join sep ys)) H
theorem oQ:MtR X "str.join" (aE4 X.K):=by
 intro pins s σ H x vs u us Q I rx rv h
 obtain ⟨sep,p,ys,rfl,rfl,hq,h1,h2,q⟩:=h
 obtain ⟨v,rfl,ry⟩:=vals1 rv
 cases ry
 obtain ⟨t,rfl⟩:=rx
 rcases hq with hq | hq
 ·obtain ⟨its,r',pl,hz⟩:=I.list hq
  exact join_listW pl.isList (qQ r') h1 h2 fun t' k=>⟨.str _,H,I.tok k,⟨t',rfl⟩,q⟩
 ·obtain ⟨its,r',pl,hz⟩:=I.tuple hq
  exact join_tupleW pl (qQ r') h1 h2 fun t' k=>⟨.str _,H,I.tok k,⟨t',rfl⟩,q⟩
def repS (x:Str) (n:Nat):Str:=⟨(List.replicate n x.cps).foldl (· ++ ·) #[]⟩
theorem tD (a:Array Nat):∀ (n:Nat) (acc:Array Nat),((List.replicate n a).foldl (· ++ ·) acc).toList=acc.toList++(List.replicate n a.toList).flatten
 | 0,acc=>by simp
 | n+1,acc=>by
  rw [List.replicate_succ,List.foldl_cons,tD a n,List.replicate_succ,List.flatten_cons]
  simp
theorem i5 (x:Str) (n:Nat):(repS x n).cps.toList=(List.replicate n x.cps.toList).flatten:=by
 unfold repS
 rw [tD]; rfl
theorem aEL (x:Str) (n:Nat):(repS x n).length=x.length * n:=by
 show (repS x n).cps.size=x.cps.size * n
 rw [← Array.length_toList,i5,← Array.length_toList]
 generalize x.cps.toList=l
 induction n with
 | zero=>simp
 | succ n ih=>rw [List.replicate_succ,List.flatten_cons,List.length_append,ih,Nat.mul_succ,Nat.add_comm]
theorem eU {x y:Str} (h:x.cps.toList=y.cps.toList):x=y:=by
 cases x; cases y
 simp only [Str.mk.injEq]
 exact Array.toList_inj.mp h
theorem aDZ (x:Str):repS x 1=x:=eU (by rw [i5]; simp)
theorem aC8 (x:Str) (n:Nat) (h:x.length=0):repS x n=x:=by
 have hx:x.cps.toList=[]:=List.eq_nil_of_length_eq_zero (by rw [Array.length_toList]; exact h)
 apply eU
 rw [i5,hx]
 induction n with
 | zero=>rfl
 | succ n ih=>rw [List.replicate_succ,List.flatten_cons,ih]; rfl
def aEX:R2:=fun x y H Q=>∃ z n,x = .str z∧y = .int n ∧ -(2 ^ 40)≤n∧n < 2 ^ 40∧z.length * n.toNat≤sizeLine∧Q (.str (repS z n.toNat)) H
theorem oU:OpR X (binaryOp .Mult) aEX:=by
 intro pins s σ H x y u v Q I rx ry h
 obtain ⟨z,n,rfl,rfl,h1,h2,h3,q⟩:=h
 obtain ⟨t,rfl⟩:=rx
 obtain ⟨t',rfl⟩:=ry
 refine P.mul_str (by rw [decide_eq_false (by omega),decide_eq_false (by omega)]; rfl) (fun a b => ?_) (fun a b => ?_) ?_
 ·have:(n.toNat:Int)=n:=by omega
  have h4:((z.length:Int)) * n≤(sizeLine:Nat):=by rw [← this]; exact_mod_cast h3
  intro c
  have hn:0 < n:=by omega
  have:=(Int.ediv_lt_iff_lt_mul hn).mp c
  have h5:((sizeLine:Nat):Int) < 2 ^ 62:=by decide
  omega
 ·exact aC1 h3
 ·by_cases c1:n < 1
  ·rw [if_pos c1]
   rw [show n.toNat=0 by omega] at q
   exact ⟨by decide, .str _,H,I.tok _,⟨_,rfl⟩,q⟩
  ·rw [if_neg c1]
   by_cases c2:(n == 1 || z.length == 0)=true
   ·rw [if_pos c2]
    refine ⟨.str z,H,I,⟨_,rfl⟩,?_⟩
    have e:repS z n.toNat=z:=by
     rw [Bool.or_eq_true,beq_iff_eq,beq_iff_eq] at c2
     rcases c2 with c | c
     ·rw [c]; exact aDZ z
     ·exact aC8 z _ c
    rw [e] at q; exact q
   ·rw [if_neg c2]
    refine ⟨?_, .str _,H,I.tok _,⟨_,rfl⟩,q⟩
    show (repS z n.toNat).length≤sizeLine
    rw [aEL]; exact h3
end
end L2
namespace L2
open PySem PySem.Spec PyProof.Rows
def g7 (sc scope:Scope) (x:Str) (ns:List Str) (cap:List Nat) (N:List Str):Bool :=
 decide (scope.kind = .function) && scope.names.all (fun y=>decide (y.2 ≠ .local) || decide (scope.names.lookup y.1=some .local)) && (decide (scope.names.lookup x=some .local) || decide (scope.names.lookup x=some .cell)) &&
 decide ((x::ns).Nodup) && decide (cap.length=ns.length) &&
 (List.range cap.length).all (fun j=>match cap[j]?,ns[j]? with
  | some k,some nm=>decide (N[k]?=some nm) && (decide (sc.names.lookup nm=some .cell) || decide (sc.names.lookup nm=some .free))
  | _,_=>true) &&
 ns.all (fun nm=>decide ((nm,NameKind.free)∈scope.names) && decide ((nm,NameKind.cell) ∉ scope.names) && decide (scope.names.lookup nm=some .free)) &&
 scope.names.all (fun y=>decide (y.2 ≠ .free) || (decide (sc.names.lookup y.1=some .cell) || decide (sc.names.lookup y.1=some .free)))
theorem dS {env:Env}:∀ {names:List (Str × NameKind)}{x:Str},names.lookup x=some .cell →
  (names.map fun (n,k)=>if (k == NameKind.free && env.scope.kind == .function && env.kindOf n == some .cell) then (n,NameKind.cell) else (n,k)).lookup x=some .cell
 | [],_,h=>by simp at h
 | (n,k)::r,x,h=>by
  have ih := @dS env r x
  show List.lookup x ((if (k == NameKind.free && env.scope.kind == .function && env.kindOf n == some .cell)=true then (n,NameKind.cell) else (n,k))::_)=_
  rw [List.lookup_cons] at h
  split
  ·rw [List.lookup_cons]
   cases hx:x == n with
   | true=>rfl
   | false=>rw [hx] at h; exact ih h
  ·rw [List.lookup_cons]
   cases hx:x == n with
   | true=>rw [hx] at h; exact h
   | false=>rw [hx] at h; exact ih h
structure CompOk (sc scope:Scope) (x:Str) (ns:List Str) (cap:List Nat) (N:List Str):Prop where
 hkind:scope.kind = .function
 hnames:∀ y∈scope.names,y.2 = .local→scope.names.lookup y.1=some .local
 hx:scope.names.lookup x=some .local∨scope.names.lookup x=some .cell
 hNc:(x::ns).Nodup
 hlen:cap.length=ns.length
 hcap:∀ (j k:Nat) (nm:Str),cap[j]?=some k→ns[j]?=some nm→N[k]?=some nm∧(sc.names.lookup nm=some .cell∨sc.names.lookup nm=some .free)
 hns:∀ nm∈ns,(nm,NameKind.free)∈scope.names∧(nm,NameKind.cell) ∉ scope.names
 hnsk:∀ nm∈ns,scope.names.lookup nm=some .free
 hfree:∀ y∈scope.names,y.2 = .free→sc.names.lookup y.1=some .cell∨sc.names.lookup y.1=some .free
theorem kF {sc scope:Scope}{x:Str}{ns:List Str}{cap:List Nat}{N:List Str} (h:g7 sc scope x ns cap N=true):CompOk sc scope x ns cap N:=by
 unfold g7 at h
 simp only [Bool.and_eq_true,Bool.or_eq_true,decide_eq_true_eq,List.all_eq_true] at h
 obtain ⟨⟨⟨⟨⟨⟨⟨h1,h2⟩,h3⟩,h4⟩,h5⟩,h6⟩,h7⟩,h8⟩:=h
 refine ⟨h1,fun y hy e=>(h2 y hy).resolve_left (fun z=>z e),h3,h4,h5,fun j k nm e1 e2 => ?_,fun nm hm=>(h7 nm hm).1,fun nm hm=>(h7 nm hm).2,fun y hy e=>(h8 y hy).resolve_left (fun z=>z e)⟩
 have hj:j < cap.length:=(List.getElem?_eq_some_iff.mp e1).1
 have:=h6 j (List.mem_range.mpr hj)
 rw [e1,e2] at this
 simpa using this
theorem aDM {X:Cx}{x:Str}{px pos:Pos}{iter elt:Expr}{ifs:List Expr}{scope sc:Scope}{N:List Str} (ns:List Str) (cap:List Nat) {wi:TI}{tt:TT}{te:TE} (hc:X.calm=true) (hsc:X.env.scope=sc) (hN:X.N=N) (ok:g7 sc scope x ns cap N=true)
  (hi:PI X (.Name x px) iter wi)
  (ht:∀ cs C s₀ H₀ fp,PIf (aS X scope cs C (x::ns) s₀ H₀ fp) ifs tt) (he:∀ cs C s₀ H₀ fp,PE (aS X scope cs C (x::ns) s₀ H₀ fp) elt te)
  (hs:∀ v,foldedSetIterable iter X.env v=pure v:=by intro _; rfl) :
  PE X (.ListComp elt [⟨.Name x px,iter,ifs,0⟩] scope pos) (oP wi cap tt te):=by
 subst hsc hN
 have k:=kF ok
 refine aFE hc k.hkind k.hnames ?_ ?_ k.hNc k.hlen k.hcap k.hns k.hnsk k.hfree hi ht he hs
 ·rcases k.hx with z | z
  ·exact .inl (lookup_relabel_local z)
  ·exact .inr (dS z)
 ·rcases k.hx with z | z
  ·exact .inr (lookup_relabel_local z)
  ·exact .inl z
theorem vR {y:Str}{py spos:Pos} (iy:Nat) {X:Cx}{x:Str}{px pos:Pos}{iter elt:Expr}{ifs:List Expr}{scope sc:Scope}{N:List Str} (ns:List Str) (cap:List Nat) {wi:TI}{tt:TT}{te:TE} (hNd:N.Nodup) (hiy:N[iy]?=some y) (hyl:sc.names.lookup y=some .local) (hc:X.calm=true) (hsc:X.env.scope=sc) (hN:X.N=N) (ok:g7 sc scope x ns cap N=true)
  (hi:PI X (.Name x px) iter wi)
  (ht:∀ cs C s₀ H₀ fp,PIf (aS X scope cs C (x::ns) s₀ H₀ fp) ifs tt) (he:∀ cs C s₀ H₀ fp,PE (aS X scope cs C (x::ns) s₀ H₀ fp) elt te)
  (hs:∀ v,foldedSetIterable iter X.env v=pure v:=by intro _; rfl)
  (hsw:swapsWith (.ListComp elt [⟨.Name x px,iter,ifs,0⟩] scope pos) (some (.Name y py)) spos.line X.env=pure true:=by rfl) :
  PS X (.Assign [.Name y py] (.ListComp elt [⟨.Name x px,iter,ifs,0⟩] scope pos) spos) (tAsg (oP wi cap tt te) (lJ iy)):=by
 subst hsc hN
 have k:=kF ok
 refine yH hNd hiy hyl hc k.hkind k.hnames ?_ ?_ k.hNc k.hlen k.hcap k.hns k.hnsk k.hfree hi ht he hs hsw
 ·rcases k.hx with z | z
  ·exact .inl (lookup_relabel_local z)
  ·exact .inr (dS z)
 ·rcases k.hx with z | z
  ·exact .inr (lookup_relabel_local z)
  ·exact .inl z
end L2
namespace R
open PySem L2
theorem BS:bootBuiltins "str" = some (.type "str"):=by decide +kernel
theorem BL:bootBuiltins "list" = some (.type "list"):=by decide +kernel
theorem BAll:bootBuiltins "all" = some (.builtin "all"):=by decide +kernel
theorem BMax:bootBuiltins "max" = some (.builtin "max"):=by decide +kernel
theorem BAny:bootBuiltins "any" = some (.builtin "any"):=by decide +kernel
structure Bn2 (mg:Str→Option Value):Prop where
 str:mg "str" = none
 list:mg "list" = none
 all:mg "all" = none
 any:mg "any" = none
 max:mg "max" = none
 enum:mg "enumerate" = none
theorem aDX (c:Nat):(!(Builtin.Str.occurrences ("#." : Str) ⟨#[c]⟩ 0 ("#." : Str).length 1).isEmpty)=(c == 35 || c == 46):=by
 by_cases h1:c=35
 ·subst h1; decide +kernel
 by_cases h2:c=46
 ·subst h2; decide +kernel
 have e:("#." : Str)=⟨#[35,46]⟩:=by decide +kernel
 rw [e]
 have a0:Builtin.Str.subAt (⟨#[35,46]⟩:Str) ⟨#[c]⟩ 0=false:=by
  simp [Builtin.Str.subAt,Str.length]
  omega
 have a1:Builtin.Str.subAt (⟨#[35,46]⟩:Str) ⟨#[c]⟩ 1=false:=by
  simp [Builtin.Str.subAt,Str.length]
  omega
 simp [Builtin.Str.occurrences,Str.length,Std.Legacy.Range.forIn_eq_forIn_range',Std.Legacy.Range.size,List.range',a0,a1,h1,h2]
def sgn (c:Nat):Bool:=c == 35 || c == 46
def rowB (wide:Int):V→Bool
 | .str z=>decide ((z.length:Int)=wide) && z.cps.toList.all sgn
 | _=>false
theorem aU {n:Nat} (h:n≤1000000):n≤sizeLine:=Nat.le_trans h (by decide)
abbrev Sq (K:PySem.W.Frag) (H:Hp) (a:Addr) (xs:List V):Prop:=SqL K H a xs∨SqT K H a xs
theorem aFA {H H':Hp}{a:Addr}{u:HO} (s:Same H H') (h:Rd H a u):Rd H' a u:=by
 rcases h with h | ⟨o,h⟩
 ·exact .inl (s _ _ h)
 ·exact .inr ⟨o,s _ _ h⟩
theorem seqT {K:PySem.W.Frag}{H H':Hp}{a:Addr}{xs:List V} (s:Same H H') (h:SqT K H a xs):SqT K H' a xs:=h.imp (aFA s) id
def fitB (us:List V) (na nb:Nat):Bool:=decide (us.length=nb - 1) && us.all (rowB ((na - 1:Nat):Int))
def ofL (l:List Nat):Str:=⟨l.toArray⟩
def atS (z:Str) (j:Nat):Nat:=z.cps.getD j 0
theorem rV:∀ (ps:List Str) (acc:Array Nat),(ps.foldl (fun acc p=>acc++(Str.empty).cps++p.cps) acc).toList=acc.toList++(ps.map (·.cps.toList)).flatten
 | [],acc=>by simp
 | p::ps,acc=>by
  rw [List.foldl_cons,rV ps]
  simp [Str.empty]
theorem aBZ (ps:List Str):(Txt.join Str.empty ps).cps.toList=(ps.map (·.cps.toList)).flatten:=by
 cases ps with
 | nil=>rfl
 | cons p ps =>
  show (((p::ps).drop 1).foldl (fun acc p=>acc++(Str.empty).cps++p.cps) ((p::ps).headD Str.empty).cps).toList=_
  rw [rV]
  simp
theorem qU (l:List Nat):Txt.join Str.empty (l.map fun c=>(⟨#[c]⟩:Str))=ofL l:=by
 apply eU
 rw [aBZ]
 simp only [ofL,List.map_map]
 induction l with
 | nil=>rfl
 | cons a l ih=>rw [List.map_cons,List.flatten_cons,ih]; rfl
theorem eN (l:List Nat):(ofL l).length=l.length:=by simp [ofL,Str.length]
theorem mS {z:Str}{j:Nat} (h:j < z.length):atI z.cps.toList (j:Int)=some (atS z j):=by
 have h':j < z.cps.size:=h
 refine cW ?_
 simp [atS,h',Array.getD]
def aE (zs:List Str):List Str:=(List.range ((zs.head?.map (·.length)).getD 0)).map fun j=>ofL (zs.map (atS · j))
theorem aJR {K:PySem.W.Frag}{H:Hp}{p:Addr}{xs:List V}{i:Int}{v:V}{Q:VK} (h:Sq K H p xs) (e:atI xs i=some v) (q:Q v H):rIx K (.ref p) (.int i) H Q:=by
 rcases h with h | h
 ·exact .inl ⟨p,xs,i,v,rfl,rfl,h,e,q⟩
 ·exact .inr (.inl ⟨p,xs,i,v,rfl,rfl,h,e,q⟩)
theorem kH:("" : Str)=Str.empty:=by decide +kernel
def dots (n:Nat):Str:=ofL (List.replicate n 46)
theorem rL (n:Nat):repS "." n=dots n:=by
 apply eU
 rw [i5]
 have e:("." : Str).cps.toList=[46]:=by decide +kernel
 rw [e]
 show _=(List.replicate n 46)
 induction n with
 | zero=>rfl
 | succ n ih=>rw [List.replicate_succ,List.flatten_cons,ih,List.replicate_succ]; rfl
def framed (zs:List Str):List Str:=[dots ((zs.head?.map (·.length)).getD 0)]++zs++[dots ((zs.head?.map (·.length)).getD 0)]
def chg (zs:List Str):List Nat:=if zs.isEmpty then [] else (List.range (zs.length+1)).filter fun i => !decide ((framed zs)[i]?=(framed zs)[i+1]?)
theorem jR (zs:List Str):(framed zs).length=zs.length+2:=by simp [framed]
theorem dY (zs:List Str):∀ i∈chg zs,i≤zs.length:=fun i hi=>by
 unfold chg at hi
 split at hi
 ·cases hi
 ·have:=List.mem_range.mp (List.mem_filter.mp hi).1
  omega
theorem b5 (zs:List Str):(chg zs).Pairwise (· < ·):=by
 unfold chg
 split
 ·exact List.Pairwise.nil
 ·exact List.Pairwise.filter _ List.pairwise_lt_range
theorem wX (zs:List Str):(chg zs).length≤zs.length+1:=by
 unfold chg
 split
 ·simp
 ·exact Nat.le_trans (List.length_filter_le _ _) (by simp)
theorem iM {l:List Nat}{n:Nat} (h:l.Pairwise (· < ·)) (b:∀ i∈l,i≤n):∀ i∈l.dropLast,i < n:=fun i hi=>by
 have hne:l≠[]:=fun e=>by rw [e] at hi; cases hi
 have e:=List.dropLast_concat_getLast hne
 rw [← e] at h
 have h1:=(List.pairwise_append.mp h).2.2 i hi (l.getLast hne) (by simp)
 have h2:=b _ (List.getLast_mem hne)
 omega
theorem oA (zs:List Str) (h:chg zs≠[]):zs≠[]:=fun e=>h (by rw [e]; rfl)
def bZ (zs:List Str):List Str:=(chg zs).dropLast.map fun i=>ofL ((chg (aE zs)).dropLast.map (atS (zs.getD i Str.empty)))
theorem j4 {zs:List Str}{n:Nat} (h:∀ z∈zs,z.length=n):(aE zs).length≤n∧(zs≠[]→(aE zs).length=n):=by
 unfold aE
 rw [List.length_map,List.length_range]
 cases zs with
 | nil=>exact ⟨Nat.zero_le _,fun e=>absurd rfl e⟩
 | cons z zr =>
  have:=h z (by simp)
  exact ⟨by show z.length≤n; omega,fun _=>this⟩
theorem fL {zs:List Str}:∀ z∈aE zs,z.length=zs.length:=fun z hz=>by
 obtain ⟨j,_,rfl⟩:=List.mem_map.mp hz
 rw [eN,List.length_map]
def aJ9:V→Bool
 | .int i=>decide (-1000000000≤i) && decide (i≤1000000000)
 | _=>false
def ltV:V→V→Bool
 | .int a, .int b=>decide (a < b)
 | _,_=>false
def aFS (xs:List V):Bool:=(List.range (xs.length - 1)).all fun i=>ltV (xs.getD i .non) (xs.getD (i+1) .non)
def aH4 (xs:List V):Bool:=decide (xs.length≤7) && (xs.all aJ9 && aFS xs)
def dP (H:Hp):V→Bool
 | .ref a=>(match H a with
  | some (.lst xs)=>aH4 xs
  | _=>false)
 | _=>false
structure KnL (K:PySem.W.Frag) (H:Hp) (v:V):Prop where
 kn:Kn K H v
 each:∀ a xs,v = .ref a→H a=some (.lst xs)→∀ x∈xs,Kn K H x
theorem aFN {n:Int}{v:V} (h:rowB n v=true):∃ z:Str,v = .str z∧(z.length:Int)=n∧z.cps.toList.all sgn=true:=by
 cases v with
 | str z =>
  simp only [rowB,Bool.and_eq_true,decide_eq_true_eq] at h
  exact ⟨z,rfl,h.1,h.2⟩
 | _=>cases h
theorem mD {n:Nat}:∀ {us:List V},us.all (rowB (n:Int))=true→∃ zs:List Str,us=zs.map V.str∧(∀ z∈zs,z.length=n∧z.cps.toList.all sgn=true)
 | [],_=>⟨[],rfl,fun _ h=>(nomatch h)⟩
 | x::xs,h=>by
  rw [List.all_cons,Bool.and_eq_true] at h
  obtain ⟨z,rfl,hz,hs⟩:=aFN h.1
  obtain ⟨zs,rfl,hzs⟩:=mD h.2
  exact ⟨z::zs,rfl,fun y hy=>by
   rcases List.mem_cons.mp hy with e | e
   ·subst e; exact ⟨by omega,hs⟩
   ·exact hzs y e⟩
end R
namespace L2
open PySem PySem.Spec PyProof.Rows
section
variable {X:Cx}
end
end L2
namespace L2
open PySem PySem.Spec PyProof.Rows
def cutL (l:List Nat) (lo hi:Option Int):List Nat:=(l.drop (HT.sIx l.length 0 lo)).take (HT.sIx l.length l.length hi - HT.sIx l.length 0 lo)
def cutS (z:Str) (lo hi:Option Int):Str:=⟨(cutL z.cps.toList lo hi).toArray⟩
def rSlS:V→Option Int→Option Int→Hp→VK→Prop:=fun x lo hi H Q=>∃ z,x = .str z∧z.length≤sizeLine∧Q (.str (cutS z lo hi)) H
theorem aAB (lo hi:Option Int) (n:Nat):Builtin.Str.strSliceIndices lo hi 1 n=sliceRange ((HT.sIx n 0 lo:Nat):Int) ((HT.sIx n n hi:Nat):Int) 1:=by
 obtain ⟨h1,h2,h3⟩:=nF lo hi n
 rw [← h1,← h2]
 cases lo <;> cases hi <;> rfl
theorem yN (z:Str) (lo hi:Option Int):(Builtin.Str.strSliceIndices lo hi 1 z.length).filterMap (z.cps[·]?)=cutL z.cps.toList lo hi:=by
 rw [aAB,sliceRange_one,pick_run]
 unfold cutL
 rw [Array.length_toList]
 rfl
theorem aDI (l:List Nat) (lo hi:Option Int):(cutL l lo hi).length≤l.length:=by
 unfold cutL
 rw [List.length_take,List.length_drop]; omega
theorem aBE (z:Str) (lo hi:Option Int) (h:(Builtin.Str.strSliceIndices lo hi 1 z.length).length=z.length):cutS z lo hi=z:=by
 rw [aAB,sliceRange_one,List.length_map,List.length_range] at h
 apply eU
 show cutL z.cps.toList lo hi=z.cps.toList
 unfold cutL
 have hn:z.cps.toList.length=z.length:=Array.length_toList
 rw [hn]
 have h1:=HT.aA9 z.length z.length (Nat.le_refl _) hi
 by_cases h0:HT.sIx z.length 0 lo=0
 ·rw [h0,List.drop_zero]
  rw [h0] at h
  exact List.take_of_length_le (by rw [hn]; omega)
 ·have:z.length=0:=by omega
  rw [List.eq_nil_of_length_eq_zero (hn.trans this)]
  simp
section
variable {X:Cx}
theorem aA4:SlR X rSlS:=by
 intro pins s σ H x v vl vu lo hi sl Q I rx hs pl pu h
 obtain ⟨z,rfl,hz,q⟩:=h
 obtain ⟨t,rfl⟩:=rx
 refine ⟨"str", _,slot_str_getitem.lookup,typeIs_str s z t,?_⟩
 have key:∀ (l u:Option (Int × Tok)),l.map (·.1)=lo→u.map (·.1)=hi→s.heap.IsSlice sl l u none→wpAny (model X.prog X.w) X.A (getItem (.str z t) (.ref sl)) (EP X pins σ Q) X.xe s:=fun l u e1 e2 hsl=>by
  refine wpAny_getItem_str_slice hsl rfl ?_
  unfold sliceMade slicePicked
  rw [e1,e2]
  show (if ((1:Int) == 1 && (Builtin.Str.strSliceIndices lo hi 1 z.length).length == z.length)=true then Made.val (.str z t) else Made.str ⟨((Builtin.Str.strSliceIndices lo hi 1 z.length).filterMap (z.cps[·]?)).toArray⟩).post _ s
  by_cases c:((1:Int) == 1 && (Builtin.Str.strSliceIndices lo hi 1 z.length).length == z.length)=true
  ·rw [if_pos c]
   have c':(Builtin.Str.strSliceIndices lo hi 1 z.length).length=z.length:=by simpa using c
   rw [aBE z lo hi c'] at q
   exact ⟨.str z,H,I,⟨t,rfl⟩,q⟩
  ·rw [if_neg c,yN]
   refine ⟨?_, .str (cutS z lo hi),H,I.tok _,⟨_,rfl⟩,q⟩
   show (cutL z.cps.toList lo hi).toArray.size≤sizeLine
   rw [List.size_toArray]
   exact Nat.le_trans (aDI _ _ _) (by rw [Array.length_toList]; exact hz)
 cases pl with
 | none =>
  cases pu with
  | none=>exact key none none rfl rfl hs
  | int j u=>exact key none (some (j,u)) rfl rfl hs
 | int i u' =>
  cases pu with
  | none=>exact key (some (i,u')) none rfl rfl hs
  | int j u=>exact key (some (i,u')) (some (j,u)) rfl rfl hs
end
end L2
namespace L2
open PySem PySem.Spec PyProof.Rows
def aE2:V→Bool
 | .ref _=>true
 | .non=>true
 | .bl _=>true
 | .int _=>true
 | .str _=>true
 | _=>false
theorem aG6 {xs:List V}{us:List Value} (r:Vals xs us) {j:Nat} (h:j < us.toArray.size):∃ x,xs[j]?=some x∧RelV x us.toArray[j]:=by
 have l:=r.length
 rw [List.size_toArray] at h
 have g:xs[j]?=some (xs[j]'(by omega)):=by simp
 obtain ⟨u,eu,ru⟩:=r.get g
 refine ⟨_,g,?_⟩
 have:us.toArray[j]=u:=by
  rw [List.getElem?_eq_getElem h] at eu
  simpa using eu
 rw [this]
 exact ru
theorem pI (n:Nat):((List.range n).all fun _=>true)=true:=List.all_eq_true.mpr fun _ _=>rfl
inductive Alike (K:PySem.W.Frag) (H:Hp):V→V→Prop
 | one {v:V} (h:aE2 v=true):Alike K H v v
 | lists {a b:Addr}{xs:List V} (ha:SqL K H a xs) (hb:SqL K H b xs) (h:xs.all aE2=true):Alike K H (.ref a) (.ref b)
section
variable {X:Cx}
end
end L2
namespace L2
open PySem PySem.Spec PyProof.Rows
section
variable {X:Cx}{o e:Expr}{es:List Expr}{to:TE}{t:TA}{name:Str}{apos cpos:Pos}{T id:String}{r:V→List V→Hp→VK→Prop}
end
end L2
namespace Z
open PySem L2
inductive D where
 | non | bl (b:Bool) | int (i:Int) | str (x:Str) | mt (a:Addr) | tup (ds:List D) | lst (ds:List D) | fl (ds:List D) | st (ks:List (List Int))
abbrev Fg:=PySem.W.Frag
def aJ7 (k:List Int):Int:=reduceHash (Builtin.Tuple.tupleHashOf (k.map hashInt))
def entS (p:List Int × Addr):DictEntry:={ hash:=aJ7 p.1,key := .ref p.2,val := .bool true }
def DSt (a:Addr) (xs:List (List Int × Addr)) (ep:Nat) (h:Heap):Prop:=(a == sysModules)=false∧∃ o,h.get? a=some o∧o.ExactDict∧o.data = .dict (xs.map entS).toArray ep
structure StO (K:Fg) (G:Hp) (o:Option HO) (a:Addr) (ks:List (List Int)) (xs:List (List Int × Addr)) (ep:Nat):Prop where
 nd:ks.Nodup
 len:ks.length≤sizeLine
 keys:xs.map (·.1)=ks
 at_:∀ p∈xs,SqT K G p.2 (p.1.map V.int)
 ob:o=some (.ext (DSt a xs ep))
theorem StO.mv {K:Fg}{G G':Hp}{o o':Option HO}{a:Addr}{ks:List (List Int)}{xs:List (List Int × Addr)}{ep:Nat} (h:StO K G o a ks xs ep) (s:Same G G') (e:o'=o):StO K G' o' a ks xs ep :=
 ⟨h.nd,h.len,h.keys,fun p hp=>R.seqT s (h.at_ p hp),e.trans h.ob⟩
mutual
def Den (K:Fg) (G:Hp):D→V→Prop
 | .non,v=>v = .non
 | .bl b,v=>v = .bl b
 | .int i,v=>v = .int i
 | .str x,v=>v = .str x
 | .mt a,v=>v = .ref a
 | .tup ds,v=>∃ a vs,v = .ref a∧SqT K G a vs∧Dens K G ds vs
 | .lst ds,v=>∃ a vs,v = .ref a∧G a=some (.lst vs)∧Dens K G ds vs
 | .fl ds,v=>∃ a vs,v = .ref a∧SqL K G a vs∧Dens K G ds vs
 | .st ks,v=>∃ a xs ep,v = .ref a∧StO K G (G a) a ks xs ep
def Dens (K:Fg) (G:Hp):List D→List V→Prop
 | [],vs=>vs=[]
 | d::ds,vs=>∃ v r,vs=v::r∧Den K G d v∧Dens K G ds r
end
mutual
theorem Den.mono {K:Fg}{G G':Hp} (s:Same G G'):∀ (d:D) {v:V},Den K G d v→Den K G' d v
 | .non,_,h=>by simp only [Den] at h ⊢; exact h
 | .bl _,_,h=>by simp only [Den] at h ⊢; exact h
 | .int _,_,h=>by simp only [Den] at h ⊢; exact h
 | .str _,_,h=>by simp only [Den] at h ⊢; exact h
 | .mt _,_,h=>by simp only [Den] at h ⊢; exact h
 | .tup ds,_,h=>by
  simp only [Den] at h ⊢
  obtain ⟨a,vs,e,q,r⟩:=h
  exact ⟨a,vs,e,R.seqT s q,Dens.mono s ds r⟩
 | .lst ds,_,h=>by
  simp only [Den] at h ⊢
  obtain ⟨a,vs,e,q,r⟩:=h
  exact ⟨a,vs,e,s _ _ q,Dens.mono s ds r⟩
 | .fl ds,_,h=>by
  simp only [Den] at h ⊢
  obtain ⟨a,vs,e,q,r⟩:=h
  exact ⟨a,vs,e,s.seq q,Dens.mono s ds r⟩
 | .st ks,_,h=>by
  simp only [Den] at h ⊢
  obtain ⟨a,xs,ep,e,q⟩:=h
  exact ⟨a,xs,ep,e,q.mv s ((s _ _ q.ob).trans q.ob.symm)⟩
theorem Dens.mono {K:Fg}{G G':Hp} (s:Same G G'):∀ (ds:List D) {vs:List V},Dens K G ds vs→Dens K G' ds vs
 | [],_,h=>by simp only [Dens] at h ⊢; exact h
 | d::ds,_,h=>by
  simp only [Dens] at h ⊢
  obtain ⟨v,r,e,h1,h2⟩:=h
  exact ⟨v,r,e,Den.mono s d h1,Dens.mono s ds h2⟩
end
theorem Den.up {K:Fg}{G G':Hp}{d:D}{v:V} (h:Den K G d v) (s:Same G G'):Den K G' d v:=Den.mono s d h
theorem Dens.up {K:Fg}{G G':Hp}{ds:List D}{vs:List V} (h:Dens K G ds vs) (s:Same G G'):Dens K G' ds vs:=Dens.mono s ds h
theorem cQ {K:Fg}{G:Hp}:Dens K G [] []:=by simp only [Dens]
theorem cJ {K:Fg}{G:Hp}{d:D}{v:V}{ds:List D}{vs:List V} (h:Den K G d v) (r:Dens K G ds vs):Dens K G (d::ds) (v::vs):=by
 simp only [Dens]; exact ⟨v,vs,rfl,h,r⟩
theorem bV {K:Fg}{G:Hp}{d:D}{ds:List D}{vs:List V} (h:Dens K G (d::ds) vs):∃ v r,vs=v::r∧Den K G d v∧Dens K G ds r:=by simp only [Dens] at h; exact h
theorem cF {K:Fg}{G:Hp}{vs:List V} (h:Dens K G [] vs):vs=[]:=by simp only [Dens] at h; exact h
theorem Dens.len {K:Fg}{G:Hp}:∀ {ds:List D}{vs:List V},Dens K G ds vs→ds.length=vs.length
 | [],_,h=>by rw [cF h]; rfl
 | d::ds,_,h=>by
  obtain ⟨v,r,rfl,_,h2⟩:=bV h
  rw [List.length_cons,List.length_cons,Dens.len h2]
theorem Dens.get {K:Fg}{G:Hp}:∀ {ds:List D}{vs:List V}{i:Nat}{d:D},Dens K G ds vs→ds[i]?=some d→∃ v,vs[i]?=some v∧Den K G d v
 | [],_,_,_,_,e=>by simp at e
 | d0::ds,_,0,d,h,e=>by
  obtain ⟨v,r,rfl,h1,_⟩:=bV h
  simp at e; subst e
  exact ⟨v,rfl,h1⟩
 | d0::ds,_,i+1,d,h,e=>by
  obtain ⟨v,r,rfl,_,h2⟩:=bV h
  obtain ⟨u,a,b⟩:=Dens.get (i:=i) h2 (by simpa using e)
  exact ⟨u,by simpa using a,b⟩
theorem Dens.get' {K:Fg}{G:Hp}:∀ {ds:List D}{vs:List V}{i:Nat}{v:V},Dens K G ds vs→vs[i]?=some v→∃ d,ds[i]?=some d∧Den K G d v:=fun {ds vs i v} h e=>by
 have hi:i < vs.length:=(List.getElem?_eq_some_iff.mp e).1
 rw [← h.len] at hi
 have e2:ds[i]?=some ds[i]:=by simp [hi]
 obtain ⟨u,a,b⟩:=h.get e2
 rw [e] at a; cases a
 exact ⟨_,e2,b⟩
theorem Dens.append {K:Fg}{G:Hp}:∀ {ds es:List D}{vs ws:List V},Dens K G ds vs→Dens K G es ws→Dens K G (ds++es) (vs++ws)
 | [],_,_,_,h,r=>by rw [cF h]; exact r
 | d::ds,_,_,_,h,r=>by
  obtain ⟨v,t,rfl,h1,h2⟩:=bV h
  exact cJ h1 (Dens.append h2 r)
theorem Dens.take {K:Fg}{G:Hp}:∀ {ds:List D}{vs:List V} (n:Nat),Dens K G ds vs→Dens K G (ds.take n) (vs.take n)
 | _,_,0,_=>by simp only [List.take_zero]; exact cQ
 | [],_,n+1,h=>by rw [cF h]; exact cQ
 | d::ds,_,n+1,h=>by
  obtain ⟨v,t,rfl,h1,h2⟩:=bV h
  exact cJ h1 (Dens.take n h2)
theorem Dens.drop {K:Fg}{G:Hp}:∀ {ds:List D}{vs:List V} (n:Nat),Dens K G ds vs→Dens K G (ds.drop n) (vs.drop n)
 | _,_,0,h=>h
 | [],_,n+1,h=>by rw [cF h]; exact cQ
 | d::ds,_,n+1,h=>by
  obtain ⟨v,t,rfl,h1,h2⟩:=bV h
  exact Dens.drop n h2
theorem Dens.set {K:Fg}{G:Hp}{d:D}{v:V} (e:Den K G d v):∀ {ds:List D}{vs:List V} (i:Nat),Dens K G ds vs→Dens K G (ds.set i d) (vs.set i v)
 | [],_,_,h=>by rw [cF h]; exact cQ
 | d0::ds,_,0,h=>by
  obtain ⟨u,t,rfl,h1,h2⟩:=bV h
  exact cJ e h2
 | d0::ds,_,i+1,h=>by
  obtain ⟨u,t,rfl,h1,h2⟩:=bV h
  exact cJ h1 (Dens.set e i h2)
theorem Dens.atI {K:Fg}{G:Hp}{ds:List D}{vs:List V}{i:Int}{d:D} (h:Dens K G ds vs) (e:atI ds i=some d):∃ v,L2.atI vs i=some v∧Den K G d v:=by
 unfold L2.atI at e ⊢
 rw [← h.len]
 cases hj:ixN ds.length i with
 | none=>rw [hj] at e; cases e
 | some j =>
  rw [hj] at e
  exact h.get e
theorem Dens.of_map {K:Fg}{G:Hp}{α:Type}{f:α→D}{g:α→V} (h:∀ x,Den K G (f x) (g x)):∀ xs:List α,Dens K G (xs.map f) (xs.map g)
 | []=>cQ
 | x::xs=>cJ (h x) (Dens.of_map h xs)
inductive MO where
 | lst (ds:List D)
 | st (ks:List (List Int))
 | ob (o:HO)
abbrev Mem:=Addr→Option MO
def updM (M:Mem) (a:Addr) (o:MO):Mem:=fun b=>if b=a then some o else M b
def delM (M:Mem) (a:Addr):Mem:=fun b=>if b=a then none else M b
theorem aV {M:Mem}{a:Addr}{o:MO}:updM M a o a=some o:=by unfold updM; rw [if_pos rfl]
theorem b8 {M:Mem}{a b:Addr}{o:MO} (h:b≠a):updM M a o b=M b:=by unfold updM; rw [if_neg h]
theorem nO {M:Mem}{a:Addr}{o u:MO}:updM (updM M a o) a u=updM M a u:=by
 funext b; unfold updM; split <;> rfl
theorem aAS {M:Mem}{a:Addr}:delM M a a=none:=by unfold delM; rw [if_pos rfl]
theorem oB {M:Mem}{a b:Addr} (h:b≠a):delM M a b=M b:=by unfold delM; rw [if_neg h]
def Le (M M':Mem):Prop:=∀ a o,M a=some o→M' a=some o
theorem Le.refl (M:Mem):Le M M:=fun _ _ h=>h
theorem Le.trans {M M1 M2:Mem} (a:Le M M1) (b:Le M1 M2):Le M M2:=fun c o h=>b c o (a c o h)
theorem Le.upd {M M':Mem}{a:Addr}{o:MO} (h:Le M M') (n:M a=none):Le M (updM M' a o):=fun b u e=>by
 rw [b8 (fun z=>by rw [z,n] at e; cases e)]; exact h b u e
def MOk (K:Fg) (G H:Hp) (a:Addr):MO→Prop
 | .lst ds=>∃ vs,H a=some (.lst vs)∧Dens K G ds vs
 | .st ks=>∃ xs ep,StO K G (H a) a ks xs ep
 | .ob o=>H a=some o
theorem MOk.mv {K:Fg}{G G' H H':Hp}{a:Addr}{m:MO} (h:MOk K G H a m) (s:Same G G') (e:H' a=H a):MOk K G' H' a m:=by
 cases m with
 | lst ds=>obtain ⟨vs,e1,e2⟩:=h; exact ⟨vs,e.trans e1,e2.up s⟩
 | st ks=>obtain ⟨xs,ep,q⟩:=h; exact ⟨xs,ep,q.mv s e⟩
 | ob o=>exact e.trans h
structure Rel (K:Fg) (G H:Hp) (M:Mem):Prop where
 same:Same G H
 mem:∀ a o,M a=some o→G a=none∧MOk K G H a o
structure Stp (K:Fg) (G H:Hp) (M:Mem) (G' H':Hp) (M':Mem):Prop where
 gg:Same G G'
 rel:Rel K G' H' M'
 fr:∀ a o,H a=some o→G a=none→M a=none→H' a=some o∧G' a=none∧M' a=none
theorem Stp.refl {K:Fg}{G H:Hp}{M:Mem} (r:Rel K G H M):Stp K G H M G H M:=⟨Same.refl G,r,fun _ _ h h1 h2=>⟨h,h1,h2⟩⟩
theorem Stp.trans {K:Fg}{G H G1 H1 G2 H2:Hp}{M M1 M2:Mem} (a:Stp K G H M G1 H1 M1) (b:Stp K G1 H1 M1 G2 H2 M2):Stp K G H M G2 H2 M2 :=
 ⟨a.gg.trans b.gg,b.rel,fun c o h h1 h2=>let ⟨x,y,z⟩:=a.fr c o h h1 h2; b.fr c o x y z⟩
theorem Rel.le {K:Fg}{G H:Hp}{M M':Mem} (r:Rel K G H M) (l:Le M' M):Rel K G H M':=⟨r.same,fun a o h=>r.mem a o (l a o h)⟩
theorem Rel.got {K:Fg}{G H:Hp}{M:Mem}{a:Addr}{o:MO} (r:Rel K G H M) (h:M a=some o):∃ u,H a=some u:=by
 cases o with
 | lst ds=>obtain ⟨_,vs,e,_⟩:=r.mem a _ h; exact ⟨_,e⟩
 | st ks=>obtain ⟨_,xs,ep,q⟩:=r.mem a _ h; exact ⟨_,q.ob⟩
 | ob o=>exact ⟨o,(r.mem a _ h).2⟩
theorem Rel.free {K:Fg}{G H:Hp}{M:Mem}{p:Addr} (r:Rel K G H M) (h:H p=none):G p=none∧M p=none:=by
 refine ⟨r.same.free h,?_⟩
 cases e:M p with
 | none=>rfl
 | some o=>obtain ⟨u,q⟩:=r.got e; rw [h] at q; cases q
theorem Rel.new {K:Fg}{G H:Hp}{M:Mem}{p:Addr}{o:HO} (r:Rel K G H M) (h:H p=none):Stp K G H M (upd G p o) (upd H p o) M:=by
 have hG:=(r.free h).1
 have s1:Same G (upd G p o):=rH hG
 refine ⟨s1,⟨fun b u e => ?_,fun a m e => ?_⟩,fun a u e1 e2 e3 => ?_⟩
 ·by_cases z:b=p
  ·subst z; rw [bB] at e ⊢; exact e
  ·rw [aW z] at e ⊢; exact r.same b u e
 ·obtain ⟨u,q⟩:=r.got e
  have z:a≠p:=bA q h
  refine ⟨by rw [aW z]; exact (r.mem a m e).1,?_⟩
  exact (r.mem a m e).2.mv s1 (aW z)
 ·have z:a≠p:=bA e1 h
  exact ⟨by rw [aW z]; exact e1,by rw [aW z]; exact e2,e3⟩
theorem Rel.newM {K:Fg}{G H:Hp}{M:Mem}{p:Addr}{vs:List V}{ds:List D} (r:Rel K G H M) (h:H p=none) (e:Dens K G ds vs):Stp K G H M G (upd H p (.lst vs)) (updM M p (.lst ds)):=by
 have hG:=(r.free h).1
 refine ⟨Same.refl G,⟨fun b u q => ?_,fun a m q => ?_⟩,fun a u e1 e2 e3 => ?_⟩
 ·rw [aW (bA q hG)]; exact r.same b u q
 ·by_cases z:a=p
  ·subst z
   rw [aV] at q; cases q
   exact ⟨hG,vs,bB,e⟩
  ·rw [b8 z] at q
   refine ⟨(r.mem a m q).1,?_⟩
   exact (r.mem a m q).2.mv (Same.refl G) (aW z)
 ·have z:a≠p:=bA e1 h
  exact ⟨by rw [aW z]; exact e1,e2,by rw [b8 z]; exact e3⟩
theorem Rel.wr {K:Fg}{G H:Hp}{M:Mem}{p:Addr}{vs:List V}{ds:List D}{o:MO} (r:Rel K G H M) (h:M p=some o) (e:Dens K G ds vs):Stp K G H M G (upd H p (.lst vs)) (updM M p (.lst ds)):=by
 have hG:=(r.mem p _ h).1
 refine ⟨Same.refl G,⟨fun b u q => ?_,fun a m q => ?_⟩,fun a u e1 e2 e3 => ?_⟩
 ·rw [aW (bA q hG)]; exact r.same b u q
 ·by_cases z:a=p
  ·subst z
   rw [aV] at q; cases q
   exact ⟨hG,vs,bB,e⟩
  ·rw [b8 z] at q
   refine ⟨(r.mem a m q).1,?_⟩
   exact (r.mem a m q).2.mv (Same.refl G) (aW z)
 ·have z:a≠p:=fun z=>by rw [z,h] at e3; cases e3
  exact ⟨by rw [aW z]; exact e1,e2,by rw [b8 z]; exact e3⟩
theorem Rel.frz {K:Fg}{G H:Hp}{M:Mem}{a:Addr}{ds:List D} (r:Rel K G H M) (h:M a=some (.lst ds)):∃ vs,H a=some (.lst vs)∧Dens K G ds vs∧Stp K G H M (upd G a (.lst vs)) H (delM M a):=by
 obtain ⟨hG,vs,e,q⟩:=r.mem a _ h
 have s1:Same G (upd G a (.lst vs)):=rH hG
 refine ⟨vs,e,q,s1,⟨fun b u z => ?_,fun b m z => ?_⟩,fun b u e1 e2 e3 => ?_⟩
 ·by_cases y:b=a
  ·subst y; rw [bB] at z; cases z; exact e
  ·rw [aW y] at z; exact r.same b u z
 ·by_cases y:b=a
  ·subst y; rw [aAS] at z; cases z
  ·rw [oB y] at z
   refine ⟨by rw [aW y]; exact (r.mem b m z).1,?_⟩
   exact (r.mem b m z).2.mv s1 rfl
 ·have y:b≠a:=fun y=>by rw [y,h] at e3; cases e3
  exact ⟨e1,by rw [aW y]; exact e2,by rw [oB y]; exact e3⟩
theorem Rel.drop {K:Fg}{G H:Hp}{M M':Mem} (r:Rel K G H M) (l:Le M' M):Stp K G H M G H M' :=
 ⟨Same.refl G,r.le l,fun a o h1 h2 h3=>⟨h1,h2,by
  cases e:M' a with
  | none=>rfl
  | some u=>rw [l a u e] at h3; cases h3⟩⟩
abbrev Gm:=List (Option D)
structure EnvR (K:Fg) (G:Hp) (Γ:Gm) (σ:St):Prop where
 len:Γ.length=σ.length
 get:∀ (i:Nat) (d:D),Γ[i]?=some (some d)→∃ v,σ[i]?=some (some v)∧Den K G d v
theorem EnvR.up {K:Fg}{G G':Hp}{Γ:Gm}{σ:St} (h:EnvR K G Γ σ) (s:Same G G'):EnvR K G' Γ σ :=
 ⟨h.len,fun i d e=>let ⟨v,a,b⟩:=h.get i d e; ⟨v,a,b.up s⟩⟩
theorem EnvR.set {K:Fg}{G:Hp}{Γ:Gm}{σ:St} (h:EnvR K G Γ σ) {d:D}{v:V} (e:Den K G d v) (i:Nat):EnvR K G (Γ.set i (some d)) (σ.set i (some v)):=by
 refine ⟨by rw [List.length_set,List.length_set,h.len],fun j c q => ?_⟩
 rw [List.getElem?_set] at q ⊢
 by_cases z:i=j
 ·rw [if_pos z] at q ⊢
  split at q
  ·rename_i hl
   rw [if_pos (by rw [← h.len]; exact hl)]
   cases q
   exact ⟨v,rfl,e⟩
  ·cases q
 ·rw [if_neg z] at q ⊢
  exact h.get j c q
theorem EnvR.start {K:Fg}{G:Hp}{ds:List D}{vs:List V} (h:Dens K G ds vs) (n:Nat):EnvR K G (ds.map some++List.replicate (n - ds.length) none) (vs.map some++List.replicate (n - vs.length) none):=by
 have hl:=h.len
 refine ⟨by simp [hl],fun i d e => ?_⟩
 by_cases hi:i < ds.length
 ·rw [List.getElem?_append_left (by simpa using hi),List.getElem?_map] at e
  rw [List.getElem?_append_left (by simp; omega),List.getElem?_map]
  cases q:ds[i]? with
  | none=>rw [q] at e; cases e
  | some c =>
   rw [q] at e; cases e
   obtain ⟨v,a,b⟩:=h.get q
   exact ⟨v,by rw [a]; rfl,b⟩
 ·rw [List.getElem?_append_right (by simpa using hi),List.getElem?_replicate] at e
  split at e <;> cases e
def tU (X:Cx) (e:Expr):TE:=fun σ H Q=>∀ pins s,Inv X pins σ H s→wpAny (model X.prog X.w) X.A (eval e X.env) (EP X pins σ Q) X.xe s
theorem pU {X:Cx}{e:Expr}:PE X e (tU X e):=fun pins s σ H Q I h=>h pins s I
theorem cL {X:Cx}{e:Expr}{t:TE} (p:PE X e t) {σ:St}{H:Hp}{Q:VK} (h:t σ H Q):tU X e σ H Q:=fun pins s I=>p pins s σ H Q I h
def tUT (X:Cx) (e:Expr):TT:=fun σ H Q=>∀ pins s,Inv X pins σ H s→wpAny (model X.prog X.w) X.A (isTrue e X.env (eval e X.env)) (TP X pins σ Q) X.xe s
theorem pUT {X:Cx}{e:Expr}:PT X e (tUT X e):=fun pins s σ H Q I h=>h pins s I
theorem m9 {X:Cx}{e:Expr}{t:TT} (p:PT X e t) {σ:St}{H:Hp}{Q:Bool→Hp→Prop} (h:t σ H Q):tUT X e σ H Q:=fun pins s I=>p pins s σ H Q I h
def tUW (X:Cx) (e:Expr):TT:=fun σ H Q=>∀ whole pins s,Inv X pins σ H s→wpAny (model X.prog X.w) X.A (isTrue e X.env whole) (TP X pins σ Q) X.xe s
theorem pUW {X:Cx}{e:Expr}:PW X e (tUW X e):=fun whole pins s σ H Q I h=>h whole pins s I
theorem pM {X:Cx}{e:Expr}{t:TT} (p:PW X e t) {σ:St}{H:Hp}{Q:Bool→Hp→Prop} (h:t σ H Q):tUW X e σ H Q:=fun whole pins s I=>p whole pins s σ H Q I h
def tUA (X:Cx) (es:List Expr):TA:=fun σ H Q=>∀ pos pins s,Inv X pins σ H s→wpAny (model X.prog X.w) X.A (spliced (backTo pos (starEach es X.env))) (AP X pins σ Q) X.xe s
theorem pUA {X:Cx}{es:List Expr}:PA X es (tUA X es):=fun pos pins s σ H Q I h=>h pos pins s I
theorem aAU {X:Cx}{es:List Expr}{t:TA} (p:PA X es t) {σ:St}{H:Hp}{Q:List V→Hp→Prop} (h:t σ H Q):tUA X es σ H Q:=fun pos pins s I=>p pos pins s σ H Q I h
def tUS (X:Cx) (st:Stmt):TS:=fun E σ H=>∀ pins s,Inv X pins σ H s→wpAny (model X.prog X.w) X.A (exec st X.env) (SP X pins E) X.xe s
theorem pUS {X:Cx}{st:Stmt}:PS X st (tUS X st):=fun pins s σ H E I h=>h pins s I
theorem hU {X:Cx}{st:Stmt}{t:TS} (p:PS X st t) {σ:St}{H:Hp}{E:Ends} (h:t E σ H):tUS X st E σ H:=fun pins s I=>p pins s σ H E I h
def tUSs (X:Cx) (st:List Stmt):TS:=fun E σ H=>∀ pins s,Inv X pins σ H s→wpAny (model X.prog X.w) X.A (execs st X.env) (SP X pins E) X.xe s
theorem pUSs {X:Cx}{st:List Stmt}:PSs X st (tUSs X st):=fun pins s σ H E I h=>h pins s I
theorem qY {X:Cx}{st:List Stmt}{t:TS} (p:PSs X st t) {σ:St}{H:Hp}{E:Ends} (h:t E σ H):tUSs X st E σ H:=fun pins s I=>p pins s σ H E I h
def tUG (X:Cx) (tg:Expr):TG:=fun v σ H Q=>∀ pins s u,Inv X pins σ H s→RelV v u→wpAny (model X.prog X.w) X.A (assign tg X.env u) (fun _ s'=>∃ σ' H',Inv X pins σ' H' s'∧Q σ' H') X.xe s
theorem pUG {X:Cx}{tg:Expr}:PG X tg (tUG X tg):=fun pins s σ H v u Q I r h=>h pins s u I r
theorem m8 {X:Cx}{tg:Expr}{t:TG} (p:PG X tg t) {v:V}{σ:St}{H:Hp}{Q:St→Hp→Prop} (h:t v σ H Q):tUG X tg v σ H Q:=fun pins s u I r=>p pins s σ H v u Q I r h
def tUGs (X:Cx) (tg:List Expr):TGs:=fun vs σ H Q=>∀ pins s us,Inv X pins σ H s→Vals vs us→wpAny (model X.prog X.w) X.A (assignInOrder ((assignEach tg X.env).map (·.2)) us) (fun _ s'=>∃ σ' H',Inv X pins σ' H' s'∧Q σ' H') X.xe s
theorem pUGs {X:Cx}{tg:List Expr}:PGs X tg (tUGs X tg):=fun pins s σ H vs us Q I r h=>h pins s us I r
theorem wK {X:Cx}{tg:List Expr}{t:TGs} (p:PGs X tg t) {vs:List V}{σ:St}{H:Hp}{Q:St→Hp→Prop} (h:t vs σ H Q):tUGs X tg vs σ H Q:=fun pins s us I r=>p pins s σ H vs us Q I r h
def tUI (X:Cx) (tg iter:Expr):TI:=fun σ H R=>∀ pins s,Inv X pins σ H s→wpAny (model X.prog X.w) X.A (eval iter X.env) (fun v s1=>wpAny (model X.prog X.w) X.A (pyIter v) (PIE X pins σ tg R) X.xe s1) X.xe s
theorem pUI {X:Cx}{tg iter:Expr}:PI X tg iter (tUI X tg iter):=fun pins s σ H R I h=>h pins s I
theorem kZ {X:Cx}{tg iter:Expr}{t:TI} (p:PI X tg iter t) {σ:St}{H:Hp}{R:It→Hp→Prop} (h:t σ H R):tUI X tg iter σ H R:=fun pins s I=>p pins s σ H R I h
def Cont (K:Fg) (M:Mem) (k:D→Mem→Prop) (G H:Hp) (Q:VK):Prop:=∀ v G' H' d M',Stp K G H M G' H' M'→Den K G' d v→k d M'→Q v H'
def GE (X:Cx) (e:Expr) (Γ:Gm) (M:Mem) (k:D→Mem→Prop):Prop :=
 ∀ σ G H Q,EnvR X.K G Γ σ→Rel X.K G H M→Cont X.K M k G H Q→tU X e σ H Q
def oF (K:Fg) (M:Mem) (k:Bool→Mem→Prop) (G H:Hp) (Q:Bool→Hp→Prop):Prop:=∀ b G' H' M',Stp K G H M G' H' M'→k b M'→Q b H'
def GT (X:Cx) (e:Expr) (Γ:Gm) (M:Mem) (k:Bool→Mem→Prop):Prop :=
 ∀ σ G H Q,EnvR X.K G Γ σ→Rel X.K G H M→oF X.K M k G H Q→tUT X e σ H Q
def GW (X:Cx) (e:Expr) (Γ:Gm) (M:Mem) (k:Bool→Mem→Prop):Prop :=
 ∀ σ G H Q,EnvR X.K G Γ σ→Rel X.K G H M→oF X.K M k G H Q→tUW X e σ H Q
def GA (X:Cx) (es:List Expr) (Γ:Gm) (M:Mem) (k:List D→Mem→Prop):Prop :=
 ∀ σ G H Q,EnvR X.K G Γ σ→Rel X.K G H M→(∀ vs G' H' ds M',Stp X.K G H M G' H' M'→Dens X.K G' ds vs→k ds M'→Q vs H')→tUA X es σ H Q
def kU (K:Fg) (M:Mem) (k:Gm→Mem→Prop) (G H:Hp) (Q:St→Hp→Prop):Prop:=∀ σ' G' H' Γ' M',Stp K G H M G' H' M'→EnvR K G' Γ' σ'→k Γ' M'→Q σ' H'
def GG (X:Cx) (tg:Expr) (d:D) (Γ:Gm) (M:Mem) (k:Gm→Mem→Prop):Prop :=
 ∀ σ G H v Q,EnvR X.K G Γ σ→Rel X.K G H M→Den X.K G d v→kU X.K M k G H Q→tUG X tg v σ H Q
def GGs (X:Cx) (tgs:List Expr) (ds:List D) (Γ:Gm) (M:Mem) (k:Gm→Mem→Prop):Prop :=
 ∀ σ G H vs Q,EnvR X.K G Γ σ→Rel X.K G H M→Dens X.K G ds vs→kU X.K M k G H Q→tUGs X tgs vs σ H Q
structure Fin where
 nx:Gm→Mem→Prop
 rt:D→Mem→Prop
 bk:Gm→Mem→Prop:=fun _ _=>False
 ct:Gm→Mem→Prop:=fun _ _=>False
structure EndsOk (K:Fg) (G H:Hp) (M:Mem) (F:Fin) (E:Ends):Prop where
 nx:kU K M F.nx G H E.nx
 rt:Cont K M F.rt G H E.rt
 bk:kU K M F.bk G H E.bk
 ct:kU K M F.ct G H E.ct
theorem Cont.up {K:Fg}{M M1:Mem}{k:D→Mem→Prop}{G H G1 H1:Hp}{Q:VK} (c:Cont K M k G H Q) (s:Stp K G H M G1 H1 M1):Cont K M1 k G1 H1 Q:=fun v G' H' d M' s'=>c v G' H' d M' (s.trans s')
theorem kU.up {K:Fg}{M M1:Mem}{k:Gm→Mem→Prop}{G H G1 H1:Hp}{Q:St→Hp→Prop} (c:kU K M k G H Q) (s:Stp K G H M G1 H1 M1):kU K M1 k G1 H1 Q:=fun v G' H' d M' s'=>c v G' H' d M' (s.trans s')
theorem oF.up {K:Fg}{M M1:Mem}{k:Bool→Mem→Prop}{G H G1 H1:Hp}{Q:Bool→Hp→Prop} (c:oF K M k G H Q) (s:Stp K G H M G1 H1 M1):oF K M1 k G1 H1 Q:=fun v G' H' M' s'=>c v G' H' M' (s.trans s')
theorem EndsOk.up {K:Fg}{M M1:Mem}{F:Fin}{E:Ends}{G H G1 H1:Hp} (c:EndsOk K G H M F E) (s:Stp K G H M G1 H1 M1):EndsOk K G1 H1 M1 F E:=⟨c.nx.up s,c.rt.up s,c.bk.up s,c.ct.up s⟩
def GS (X:Cx) (ss:List Stmt) (Γ:Gm) (M:Mem) (F:Fin):Prop :=
 ∀ σ G H E,EnvR X.K G Γ σ→Rel X.K G H M→EndsOk X.K G H M F E→tUSs X ss E σ H
def G1 (X:Cx) (st:Stmt) (Γ:Gm) (M:Mem) (F:Fin):Prop :=
 ∀ σ G H E,EnvR X.K G Γ σ→Rel X.K G H M→EndsOk X.K G H M F E→tUS X st E σ H
end Z
namespace Z
open PySem L2
section
variable {K:Fg}{G H:Hp}{M:Mem}
theorem dD {i:Int}:Den K G (.int i) (.int i):=by simp only [Den]
theorem d6 {i:Bool}:Den K G (.bl i) (.bl i):=by simp only [Den]
theorem f6 {i:Str}:Den K G (.str i) (.str i):=by simp only [Den]
theorem xB:Den K G .non .non:=by simp only [Den]
theorem p6 {a:Addr}:Den K G (.mt a) (.ref a):=by simp only [Den]
theorem iQ {a:Addr}{vs:List V}{ds:List D} (h:SqT K G a vs) (r:Dens K G ds vs):Den K G (.tup ds) (.ref a):=by simp only [Den]; exact ⟨a,vs,rfl,h,r⟩
theorem fD {a:Addr}{vs:List V}{ds:List D} (h:G a=some (.lst vs)) (r:Dens K G ds vs):Den K G (.lst ds) (.ref a):=by simp only [Den]; exact ⟨a,vs,rfl,h,r⟩
theorem aIY {a:Addr}{vs:List V}{ds:List D} (h:SqL K G a vs) (r:Dens K G ds vs):Den K G (.fl ds) (.ref a):=by simp only [Den]; exact ⟨a,vs,rfl,h,r⟩
theorem Den.int_ {i:Int}{v:V} (h:Den K G (.int i) v):v = .int i:=by simp only [Den] at h; exact h
theorem Den.bl_ {i:Bool}{v:V} (h:Den K G (.bl i) v):v = .bl i:=by simp only [Den] at h; exact h
theorem Den.str_ {i:Str}{v:V} (h:Den K G (.str i) v):v = .str i:=by simp only [Den] at h; exact h
theorem Den.non_ {v:V} (h:Den K G .non v):v = .non:=by simp only [Den] at h; exact h
theorem Den.mt_ {a:Addr}{v:V} (h:Den K G (.mt a) v):v = .ref a:=by simp only [Den] at h; exact h
theorem Den.tup_ {ds:List D}{v:V} (h:Den K G (.tup ds) v):∃ a vs,v = .ref a∧SqT K G a vs∧Dens K G ds vs:=by simp only [Den] at h; exact h
theorem Den.lst_ {ds:List D}{v:V} (h:Den K G (.lst ds) v):∃ a vs,v = .ref a∧G a=some (.lst vs)∧Dens K G ds vs:=by simp only [Den] at h; exact h
theorem Den.fl_ {ds:List D}{v:V} (h:Den K G (.fl ds) v):∃ a vs,v = .ref a∧SqL K G a vs∧Dens K G ds vs:=by simp only [Den] at h; exact h
theorem Den.st_ {ks:List (List Int)}{v:V} (h:Den K G (.st ks) v):∃ a xs ep,v = .ref a∧StO K G (G a) a ks xs ep:=by simp only [Den] at h; exact h
inductive Seq (M:Mem):D→Bool→List D→Prop
 | tup (ds:List D):Seq M (.tup ds) false ds
 | lst (ds:List D):Seq M (.lst ds) true ds
 | fl (ds:List D):Seq M (.fl ds) true ds
 | mt {a:Addr}{ds:List D} (h:M a=some (.lst ds)):Seq M (.mt a) true ds
theorem Seq.sq {d:D}{t:Bool}{ds:List D}{v:V} (q:Seq M d t ds) (r:Rel K G H M) (h:Den K G d v):∃ a vs,v = .ref a∧(if t=true then SqL K H a vs else SqT K H a vs)∧Dens K G ds vs:=by
 cases q with
 | tup ds=>obtain ⟨a,vs,e,s,d⟩:=h.tup_; exact ⟨a,vs,e,R.seqT r.same s,d⟩
 | lst ds=>obtain ⟨a,vs,e,s,d⟩:=h.lst_; exact ⟨a,vs,e,SqL.of (r.same _ _ s),d⟩
 | fl ds=>obtain ⟨a,vs,e,s,d⟩:=h.fl_; exact ⟨a,vs,e,r.same.seq s,d⟩
 | mt hm=>obtain ⟨_,vs,e,d⟩:=r.mem _ _ hm; exact ⟨_,vs,h.mt_,SqL.of e,d⟩
theorem Seq.sq2 {d:D}{t:Bool}{ds:List D}{v:V} (q:Seq M d t ds) (r:Rel K G H M) (h:Den K G d v):∃ a vs,v = .ref a∧(SqL K H a vs∨SqT K H a vs)∧Dens K G ds vs:=by
 obtain ⟨a,vs,e,s,d⟩:=q.sq r h
 refine ⟨a,vs,e,?_,d⟩
 cases t with
 | true=>exact .inl s
 | false=>exact .inr s
inductive Lst (M:Mem):D→List D→Prop
 | lst (ds:List D):Lst M (.lst ds) ds
 | mt {a:Addr}{ds:List D} (h:M a=some (.lst ds)):Lst M (.mt a) ds
theorem Lst.sq {d:D}{ds:List D}{v:V} (q:Lst M d ds) (r:Rel K G H M) (h:Den K G d v):∃ a vs,v = .ref a∧H a=some (.lst vs)∧Dens K G ds vs:=by
 cases q with
 | lst ds=>obtain ⟨a,vs,e,s,d⟩:=h.lst_; exact ⟨a,vs,e,r.same _ _ s,d⟩
 | mt hm=>obtain ⟨_,vs,e,d⟩:=r.mem _ _ hm; exact ⟨_,vs,h.mt_,e,d⟩
end
section
variable {X:Cx}{Γ:Gm}{M:Mem}{k:D→Mem→Prop}{kb:Bool→Mem→Prop}{pos:Pos}{a b c e:Expr}{es rest:List Expr}
theorem ge_v (i:Nat) {x:Str}{d:D} (hΓ:Γ[i]?=some (some d)) (h:k d M) (hN:X.N[i]?=some x:=by rfl) (hv:Vis X.env.scope x:=by first | exact Or.inl rfl | exact Or.inr (Or.inl rfl) | exact Or.inr (Or.inr rfl))
  (hd:(x == ("__debug__" : Str))=false:=by decide) (hcd:(x == ("__classdict__" : Str))=false:=by decide):GE X (.Name x pos) Γ M k :=
 fun σ G H Q en rl q=>cL (aBQ hN hv hd hcd) (let ⟨v,e,dv⟩:=en.get i d hΓ; ⟨v,e,q v G H d M (Stp.refl rl) dv h⟩)
theorem aC {i:Int}{j:Nat} (h:k (.int i) M):GE X (.Constant (.int i) j pos) Γ M k:=fun σ G H Q en rl q=>cL aIO (q _ G H _ M (Stp.refl rl) dD h)
theorem c5 {i:Bool}{j:Nat} (h:k (.bl i) M):GE X (.Constant (.bool i) j pos) Γ M k:=fun σ G H Q en rl q=>cL aKJ (q _ G H _ M (Stp.refl rl) d6 h)
theorem bW {x:Str}{j:Nat} (h:k (.str x) M):GE X (.Constant (.str x) j pos) Γ M k:=fun σ G H Q en rl q=>cL aIP (q _ G H _ M (Stp.refl rl) f6 h)
theorem aBD (h:GE X e Γ M fun d M1=>∃ a ds M2,d = .mt a∧M1 a=some (.lst ds)∧M2 a=none∧Le M2 M1∧k (.lst ds) M2):GE X e Γ M k:=fun σ G H Q en rl q =>
 h σ G H Q en rl fun v G1 H1 d M1 s1 e1 ⟨a,ds,M2,ed,h1,h2,h3,h4⟩=>by
  subst ed
  obtain ⟨vs,x1,x2,st⟩:=s1.rel.frz h1
  have l:Le M2 (delM M1 a):=fun b o z=>by rw [oB (fun y=>by rw [y,h2] at z; cases z)]; exact h3 b o z
  have st2:=st.trans (st.rel.drop l)
  exact q v _ _ (.lst ds) M2 (s1.trans st2) (by rw [e1.mt_]; exact fD bB (x2.up st.gg)) h4
def Op2 (K:Fg) (r:R2) (d1 d2:D) (M:Mem) (k:D→Mem→Prop):Prop:=∀ G H v1 v2 Q,Rel K G H M→Den K G d1 v1→Den K G d2 v2→Cont K M k G H Q→r v1 v2 H Q
theorem two {r:R2} (h:GE X a Γ M fun d1 M1=>GE X b Γ M1 fun d2 M2=>Op2 X.K r d1 d2 M2 k) {σ:St}{G H:Hp}{Q:VK} (en:EnvR X.K G Γ σ) (rl:Rel X.K G H M) (q:Cont X.K M k G H Q):tOp r (tU X a) (tU X b) σ H Q:=by
 refine h σ G H _ en rl fun v1 G1 H1 d1 M1 s1 e1 h1 => ?_
 refine h1 σ G1 H1 _ (en.up s1.gg) s1.rel fun v2 G2 H2 d2 M2 s2 e2 h2 => ?_
 exact h2 G2 H2 v1 v2 Q s2.rel (e1.up s2.gg) e2 (q.up (s1.trans s2))
theorem aH {op:Operator}{r:R2} (ho:OpR X (binaryOp op) r) (h:GE X a Γ M fun d1 M1=>GE X b Γ M1 fun d2 M2=>Op2 X.K r d1 d2 M2 k):GE X (.BinOp a op b pos) Γ M k :=
 fun σ G H Q en rl q=>cL (aKB ho pU pU) (two h en rl q)
theorem fA {op:CmpOp}{r:R2} (ho:OpR X (compareOp op) r) (h:GE X a Γ M fun d1 M1=>GE X b Γ M1 fun d2 M2=>Op2 X.K r d1 d2 M2 k) (hm:behindInMarks op b=false:=by first | exact nomark _ | rfl):GE X (.Compare a [op] [b] pos) Γ M k :=
 fun σ G H Q en rl q=>cL (aFB ho pU pU hm) (two h en rl q)
theorem aZ {op:CmpOp}{r:R2} (ho:OpR X (compareOp op) r) (h:GE X a Γ M fun d1 M1=>GE X b Γ M1 fun d2 M2=>Op2 X.K r d1 d2 M2 fun d M3=>∃ c,d = .bl c∧kb c M3) (hm:behindInMarks op b=false:=by first | exact nomark _ | rfl):GT X (.Compare a [op] [b] pos) Γ M kb :=
 fun σ G H Q en rl q=>m9 (aFR ho pU pU hm) (two (k:=fun d M3=>∃ c,d = .bl c∧kb c M3) h en rl fun v G' H' d M' s e ⟨c,ed,hk⟩=>by subst ed; exact ⟨c,e.bl_,q c G' H' M' s hk⟩)
theorem aI {r:R2} (hr:IxR X r) (h:GE X a Γ M fun d1 M1=>GE X b Γ M1 fun d2 M2=>Op2 X.K r d1 d2 M2 k) (hs:wP b:=by intro _ _; rfl):GE X (.Subscript a b pos) Γ M k :=
 fun σ G H Q en rl q=>cL (aJ5 hr pU pU hs) (two h en rl q)
theorem kS {op:UnaryOp}{g:Int→Int} (ho:UnR X (unaryOp op) (rU fun i => .int (g i))) (h:GE X a Γ M fun d M1=>∃ i,d = .int i∧k (.int (g i)) M1):GE X (.UnaryOp op a pos) Γ M k:=fun σ G H Q en rl q=>by
 refine cL (aKF ho pU) ?_
 refine h σ G H _ en rl fun v G1 H1 d M1 s1 e1 ⟨i,ed,h1⟩ => ?_
 subst ed
 exact ⟨i,e1.int_,q _ _ _ _ _ s1 dD h1⟩
end
section
variable {K:Fg}{M:Mem}{k:D→Mem→Prop}{i j:Int}{x y:Str}
theorem o2_0 {g:Int→Int→Int} (h:k (.int (g i j)) M):Op2 K (rI0 fun i j => .int (g i j)) (.int i) (.int j) M k:=fun G H v1 v2 Q rl e1 e2 q=>⟨i,j,e1.int_,e2.int_,q _ G H _ M (Stp.refl rl) dD h⟩
theorem o2_C {C:Int→Int→Prop}{g:Int→Int→Int} (hc:C i j) (h:k (.int (g i j)) M):Op2 K (rI C fun i j => .int (g i j)) (.int i) (.int j) M k:=fun G H v1 v2 Q rl e1 e2 q=>⟨i,j,e1.int_,e2.int_,hc,q _ G H _ M (Stp.refl rl) dD h⟩
theorem o2_B {g:Int→Int→Bool} (h:k (.bl (g i j)) M):Op2 K (rI0 fun i j => .bl (g i j)) (.int i) (.int j) M k:=fun G H v1 v2 Q rl e1 e2 q=>⟨i,j,e1.int_,e2.int_,q _ G H _ M (Stp.refl rl) d6 h⟩
theorem lG (h:k (.bl (decide (i=j))) M):Op2 K rEq (.int i) (.int j) M k:=fun G H v1 v2 Q rl e1 e2 q=>by
 rw [e1.int_,e2.int_]
 exact ⟨rfl,by rw [show decide (V.int i=V.int j)=decide (i=j) from by simp]; exact q _ G H _ M (Stp.refl rl) d6 h⟩
theorem pV (h:k (.bl (!decide (i=j))) M):Op2 K rNe (.int i) (.int j) M k:=fun G H v1 v2 Q rl e1 e2 q=>by
 rw [e1.int_,e2.int_]
 exact ⟨rfl,by rw [show decide (V.int i=V.int j)=decide (i=j) from by simp]; exact q _ G H _ M (Stp.refl rl) d6 h⟩
theorem lA (h:k (.bl (decide (x=y))) M):Op2 K rEq (.str x) (.str y) M k:=fun G H v1 v2 Q rl e1 e2 q=>by
 rw [e1.str_,e2.str_]
 exact ⟨rfl,by rw [show decide (V.str x=V.str y)=decide (x=y) from by simp]; exact q _ G H _ M (Stp.refl rl) d6 h⟩
theorem uT (h:k (.bl (!decide (x=y))) M):Op2 K rNe (.str x) (.str y) M k:=fun G H v1 v2 Q rl e1 e2 q=>by
 rw [e1.str_,e2.str_]
 exact ⟨rfl,by rw [show decide (V.str x=V.str y)=decide (x=y) from by simp]; exact q _ G H _ M (Stp.refl rl) d6 h⟩
theorem aK {d1 d:D}{t:Bool}{ds:List D} (q1:Seq M d1 t ds) (e:atI ds i=some d) (h:k d M):Op2 K (rIx K) d1 (.int i) M k:=fun G H v1 v2 Q rl e1 e2 q=>by
 obtain ⟨a,vs,ev,s,dn⟩:=q1.sq2 rl e1
 obtain ⟨v,ei,dv⟩:=dn.atI e
 rw [ev,e2.int_]
 exact R.aJR s ei (q v G H d M (Stp.refl rl) dv h)
theorem k9 {z:Str}{c:Nat} (hz:z.length≤sizeLine) (e:atI z.cps.toList i=some c) (h:k (.str ⟨#[c]⟩) M):Op2 K (rIx K) (.str z) (.int i) M k:=fun G H v1 v2 Q rl e1 e2 q =>
 .inr (.inr ⟨z,i,c,e1.str_,e2.int_,hz,e,q _ G H _ M (Stp.refl rl) f6 h⟩)
theorem oO (hz:x.length+y.length≤sizeLine) (h:k (.str (x++y)) M):Op2 K (fun x y H Q=>∃ i j,x = .str i∧y = .str j∧i.length+j.length≤sizeLine∧Q (.str (i++j)) H) (.str x) (.str y) M k :=
 fun G H v1 v2 Q rl e1 e2 q=>⟨x,y,e1.str_,e2.str_,hz,q _ G H _ M (Stp.refl rl) f6 h⟩
theorem oK (h1 : -(2 ^ 40)≤i) (h2:i < 2 ^ 40) (h3:x.length * i.toNat≤sizeLine) (h:k (.str (repS x i.toNat)) M):Op2 K aEX (.str x) (.int i) M k :=
 fun G H v1 v2 Q rl e1 e2 q=>⟨x,i,e1.str_,e2.int_,h1,h2,h3,q _ G H _ M (Stp.refl rl) f6 h⟩
theorem fB {d1 d2:D}{xs ys:List D} (q1:Lst M d1 xs) (q2:Lst M d2 ys) (hl:xs.length+ys.length≤sizeLine) (h:k (.lst (xs++ys)) M):Op2 K rCat d1 d2 M k:=fun G H v1 v2 Q rl e1 e2 q=>by
 obtain ⟨a,vs,ev,s,dn⟩:=q1.sq rl e1
 obtain ⟨b,ws,ew,s2,dn2⟩:=q2.sq rl e2
 refine ⟨a,b,vs,ws,ev,ew,s,s2,by rw [← dn.len,← dn2.len]; exact hl,fun p hp => ?_⟩
 have st:=rl.new (o := .lst (vs++ws)) hp
 exact q _ _ _ _ _ st (fD bB ((dn.append dn2).up st.gg)) h
end
end Z
namespace Z
open PySem L2
section
variable {X:Cx}{Γ:Gm}{M:Mem}{k:D→Mem→Prop}{kb:Bool→Mem→Prop}{pos:Pos}{a b c e o:Expr}{es rest:List Expr}
theorem bL (h:GE X e Γ M fun d M1=>∃ c,d = .bl c∧kb c M1) (he:∀ whole,isTrue e X.env whole=(do let v ← whole; standAt e.pos; holding [v] (truthy v)):=by intro _; rfl):GT X e Γ M kb:=fun σ G H Q en rl q=>by
 refine m9 (aI8 pU he) ?_
 exact h σ G H _ en rl fun v G1 H1 d M1 s1 e1 ⟨c,ed,h1⟩=>by subst ed; exact ⟨c,e1.bl_,q _ _ _ _ s1 h1⟩
inductive Tru (M:Mem):D→Bool→Prop
 | seq {d:D}{t:Bool}{ds:List D} (q:Seq M d t ds):Tru M d (!ds.isEmpty)
 | str (x:Str) (h:x.length≤sizeLine):Tru M (.str x) ((x.length:Int) != 0)
 | bl (b:Bool):Tru M (.bl b) b
 | int (i:Int):Tru M (.int i) (i != 0)
 | non:Tru M .non false
theorem uF {K:Fg}{G:Hp}{ds:List D}{vs:List V} (h:Dens K G ds vs):ds.isEmpty=vs.isEmpty:=by
 cases ds with
 | nil=>rw [cF h]; rfl
 | cons d ds=>obtain ⟨v,r,rfl,_⟩:=bV h; rfl
theorem lI (h:GE X e Γ M fun d M1=>∃ c,Tru M1 d c∧kb c M1) (he:∀ whole,isTrue e X.env whole=(do let v ← whole; standAt e.pos; holding [v] (truthy v)):=by intro _; rfl):GT X e Γ M kb:=fun σ G H Q en rl q=>by
 refine m9 (aDO pU he) ?_
 refine h σ G H _ en rl fun v G1 H1 d M1 s1 e1 ⟨c,tr,h1⟩=>⟨c,?_,q _ _ _ _ s1 h1⟩
 cases tr with
 | seq sq =>
  obtain ⟨a,vs,ev,s,dn⟩:=sq.sq2 s1.rel e1
  subst ev
  rw [uF dn]
  rcases s with s | s
  ·exact .inl ⟨vs,s,rfl⟩
  ·exact .inr (.inl ⟨vs,s,rfl⟩)
 | str x hx=>rw [e1.str_]; exact ⟨hx,rfl⟩
 | bl b=>rw [e1.bl_]; rfl
 | int i=>rw [e1.int_]; rfl
 | non=>rw [e1.non_]; rfl
theorem bS (h:GT X a Γ M fun c M1=>kb (!c) M1):GT X (.UnaryOp .Not a pos) Γ M kb:=fun σ G H Q en rl q=>by
 refine m9 (aI9 pUT) ?_
 exact h σ G H _ en rl fun c G1 H1 M1 s1 h1=>q _ _ _ _ s1 h1
theorem gt_w (h:GW X e Γ M kb):GT X e Γ M kb:=fun σ G H Q en rl q pins s I=>h σ G H Q en rl q (eval e X.env) pins s I
theorem jV (h:GT X a Γ M kb):GW X (.BoolOp .And [a] pos) Γ M kb:=fun σ G H Q en rl q=>pM (aFP pUT) (h σ G H _ en rl q)
theorem eS (h:GT X a Γ M kb):GW X (.BoolOp .Or [a] pos) Γ M kb:=fun σ G H Q en rl q=>pM (aH2 pUT) (h σ G H _ en rl q)
theorem lE (h:GT X a Γ M fun c M1=>if c=true then GW X (.BoolOp .And (b::rest) pos) Γ M1 kb else kb false M1):GW X (.BoolOp .And (a::b::rest) pos) Γ M kb:=fun σ G H Q en rl q=>by
 refine pM (aHW pUT pUW) ?_
 refine h σ G H _ en rl fun c G1 H1 M1 s1 h1 => ?_
 cases c with
 | true=>rw [if_pos rfl] at h1 ⊢; exact h1 σ G1 H1 _ (en.up s1.gg) s1.rel (q.up s1)
 | false=>rw [if_neg Bool.false_ne_true] at h1 ⊢; exact q _ _ _ _ s1 h1
theorem dH (h:GT X a Γ M fun c M1=>if c=true then kb true M1 else GW X (.BoolOp .Or (b::rest) pos) Γ M1 kb):GW X (.BoolOp .Or (a::b::rest) pos) Γ M kb:=fun σ G H Q en rl q=>by
 refine pM (aJ6 pUT pUW) ?_
 refine h σ G H _ en rl fun c G1 H1 M1 s1 h1 => ?_
 cases c with
 | true=>rw [if_pos rfl] at h1 ⊢; exact q _ _ _ _ s1 h1
 | false=>rw [if_neg Bool.false_ne_true] at h1 ⊢; exact h1 σ G1 H1 _ (en.up s1.gg) s1.rel (q.up s1)
theorem kA {op:BoolOp} (h:GE X a Γ M k):GE X (.BoolOp op [a] pos) Γ M k:=fun σ G H Q en rl q=>cL (aJL pU) (h σ G H _ en rl q)
theorem lD (h:GE X a Γ M fun d M1=>∃ c,d = .bl c∧if c=true then GE X (.BoolOp .And (b::rest) pos) Γ M1 k else k (.bl false) M1):GE X (.BoolOp .And (a::b::rest) pos) Γ M k:=fun σ G H Q en rl q=>by
 refine cL (aH8 pU pU) ?_
 refine h σ G H _ en rl fun v G1 H1 d M1 s1 e1 ⟨c,ed,h1⟩ => ?_
 subst ed
 refine ⟨c,e1.bl_,?_⟩
 cases c with
 | true=>rw [if_pos rfl] at h1 ⊢; exact h1 σ G1 H1 _ (en.up s1.gg) s1.rel (q.up s1)
 | false=>rw [if_neg Bool.false_ne_true] at h1 ⊢; exact q _ _ _ _ _ s1 d6 h1
theorem aB7 (h:GE X a Γ M fun d M1=>∃ c,d = .bl c∧k (.bl (!c)) M1):GE X (.UnaryOp .Not a pos) Γ M k:=fun σ G H Q en rl q=>by
 refine cL (aIN pU) ?_
 exact h σ G H _ en rl fun v G1 H1 d M1 s1 e1 ⟨c,ed,h1⟩=>by subst ed; exact ⟨c,e1.bl_,q _ _ _ _ _ s1 d6 h1⟩
theorem kC (h:GT X c Γ M fun t M1=>if t=true then GE X a Γ M1 k else GE X b Γ M1 k):GE X (.IfExp c a b pos) Γ M k:=fun σ G H Q en rl q=>by
 refine cL (aC6 pUT pU pU) ?_
 refine h σ G H _ en rl fun t G1 H1 M1 s1 h1 => ?_
 cases t with
 | true=>rw [if_pos rfl] at h1 ⊢; exact h1 σ G1 H1 _ (en.up s1.gg) s1.rel (q.up s1)
 | false=>rw [if_neg Bool.false_ne_true] at h1 ⊢; exact h1 σ G1 H1 _ (en.up s1.gg) s1.rel (q.up s1)
variable {ka:List D→Mem→Prop}
theorem aB (h:ka [] M):GA X [] Γ M ka:=fun σ G H Q en rl q=>aAU aCJ (q _ _ _ _ _ (Stp.refl rl) cQ h)
theorem aA (h:GE X e Γ M fun d M1=>GA X es Γ M1 fun ds M2=>ka (d::ds) M2) (hs:starEach (e::es) X.env=(false,eval e X.env)::starEach es X.env:=by rfl):GA X (e::es) Γ M ka:=fun σ G H Q en rl q=>by
 refine aAU (qN pU pUA hs) ?_
 refine h σ G H _ en rl fun v G1 H1 d M1 s1 e1 h1 => ?_
 exact h1 σ G1 H1 _ (en.up s1.gg) s1.rel fun vs G2 H2 ds M2 s2 e2 h2=>q _ _ _ _ _ (s1.trans s2) (cJ (e1.up s2.gg) e2) h2
theorem cB {x1} (h:GA X es Γ M fun ds M1=>ds.length≤sizeLine∧k (.tup ds) M1):GE X (.Tuple es x1 pos) Γ M k:=fun σ G H Q en rl q=>by
 refine cL (aJH pUA) ?_
 refine h σ G H _ en rl fun vs G1 H1 ds M1 s1 e1 ⟨hl,h1⟩=>⟨by rw [← e1.len]; exact hl,fun p hp => ?_⟩
 have st:=s1.rel.new (o := .tup vs) hp
 exact q _ _ _ _ _ (s1.trans st) (iQ (SqT.of bB) (e1.up st.gg)) h1
theorem dA (h:GA X es Γ M fun ds M1=>ds.length≤sizeLine∧k (.lst ds) M1):GE X (.List es pos) Γ M k:=fun σ G H Q en rl q=>by
 refine cL (aB6 pUA) ?_
 refine h σ G H _ en rl fun vs G1 H1 ds M1 s1 e1 ⟨hl,h1⟩=>⟨by rw [← e1.len]; exact hl,fun p hp => ?_⟩
 have st:=s1.rel.new (o := .lst vs) hp
 exact q _ _ _ _ _ (s1.trans st) (fD bB (e1.up st.gg)) h1
theorem jY (h:GA X es Γ M fun ds M1=>ds.length≤sizeLine∧∀ a,M1 a=none→k (.mt a) (updM M1 a (.lst ds))):GE X (.List es pos) Γ M k:=fun σ G H Q en rl q=>by
 refine cL (aB6 pUA) ?_
 refine h σ G H _ en rl fun vs G1 H1 ds M1 s1 e1 ⟨hl,h1⟩=>⟨by rw [← e1.len]; exact hl,fun p hp => ?_⟩
 exact q _ _ _ _ _ (s1.trans (s1.rel.newM hp e1)) p6 (h1 p (s1.rel.free hp).2)
abbrev Ct:=List D→Mem→(D→Mem→Prop)→Prop
def spZ (K:Fg) (F:Ct):Sp:=fun vs H Q _=>∃ G M ds k,Rel K G H M∧Dens K G ds vs∧F ds M k∧Cont K M k G H Q
theorem aG {n:Nat}{f:Addr}{fd:FuncData}{ps:List Str}{x:Str}{p:Pos}{F:Ct} (Fk:FnOk X.prog X.w X.K X.mg X.base CX0 n f fd ps (spZ X.K F)) (hr:Room n X.A) (hm:X.mg x=some (.ref f)) (hk:PySem.W.keepIn X.K (.ref f)=true) (hb:Binds X.K fd ps [])
  (h:GA X (e::es) Γ M fun ds M1=>F ds M1 k) (hg:Gl X x:=by rfl) (hdb:(x == ("__debug__" : Str))=false:=by decide) (he:starEach (e::es) X.env=(false,eval e X.env)::starEach es X.env:=by rfl) (hpl:(backTo pos (starEach es X.env)).any (·.1)=false:=by rfl) :
  GE X (.Call (.Name x p) (e::es) [] pos) Γ M k:=fun σ G H Q en rl q=>by
 refine cL (aFI Fk hr hg hm hk hb .nil pass0 pUA hdb he hpl) ?_
 refine h σ G H _ en rl fun vs G1 H1 ds M1 s1 e1 h1 => ?_
 show spZ X.K F (vs++[]) H1 Q E0
 rw [List.append_nil]
 exact ⟨G1,M1,ds,k,s1.rel,e1,h1,q.up s1⟩
def OpN (K:Fg) (r:List V→Hp→VK→Prop) (ds:List D) (M:Mem) (k:D→Mem→Prop):Prop:=∀ G H vs Q,Rel K G H M→Dens K G ds vs→Cont K M k G H Q→r vs H Q
theorem aM {x:Str}{p:Pos}{id:String}{r:List V→Hp→VK→Prop} (hc:eW X (.builtin id) r) (hm:X.mg x=none) (hv:bootBuiltins x=some (.builtin id))
  (h:GA X (e::es) Γ M fun ds M1=>OpN X.K r ds M1 k) (hg:Gl X x:=by rfl) (hn:x ≠ "__name__" := by decide) (hdb:(x == ("__debug__" : Str))=false:=by decide)
  (he:starEach (e::es) X.env=(false,eval e X.env)::starEach es X.env:=by rfl) (hpl:(backTo pos (starEach es X.env)).any (·.1)=false:=by rfl):GE X (.Call (.Name x p) (e::es) [] pos) Γ M k:=fun σ G H Q en rl q=>by
 refine cL (tL hc hg hm hv pUA hn hdb he hpl) ?_
 exact h σ G H _ en rl fun vs G1 H1 ds M1 s1 e1 h1=>h1 G1 H1 vs Q s1.rel e1 (q.up s1)
theorem bU {x:Str}{p:Pos}{T:String}{r:List V→Hp→VK→Prop} (hc:eW X (.type T) r) (hm:X.mg x=none) (hv:bootBuiltins x=some (.type T))
  (h:GA X (e::es) Γ M fun ds M1=>OpN X.K r ds M1 k) (hg:Gl X x:=by rfl) (hn:x ≠ "__name__" := by decide) (hdb:(x == ("__debug__" : Str))=false:=by decide)
  (he:starEach (e::es) X.env=(false,eval e X.env)::starEach es X.env:=by rfl) (hpl:(backTo pos (starEach es X.env)).any (·.1)=false:=by rfl):GE X (.Call (.Name x p) (e::es) [] pos) Γ M k:=fun σ G H Q en rl q=>by
 refine cL (aAT hc hg hm hv pUA hn hdb he hpl) ?_
 exact h σ G H _ en rl fun vs G1 H1 ds M1 s1 e1 h1=>h1 G1 H1 vs Q s1.rel e1 (q.up s1)
theorem dens1 {K:Fg}{G:Hp}{d:D}{vs:List V} (h:Dens K G [d] vs):∃ v,vs=[v]∧Den K G d v:=by
 obtain ⟨v,r,rfl,h1,h2⟩:=bV h
 rw [cF h2]; exact ⟨v,rfl,h1⟩
theorem dens2 {K:Fg}{G:Hp}{d c:D}{vs:List V} (h:Dens K G [d,c] vs):∃ v u,vs=[v,u]∧Den K G d v∧Den K G c u:=by
 obtain ⟨v,r,rfl,h1,h2⟩:=bV h
 obtain ⟨u,rfl,h3⟩:=dens1 h2
 exact ⟨v,u,rfl,h1,h3⟩
theorem bQ {K:Fg}{d:D}{t:Bool}{ds:List D} (q1:Seq M d t ds) (h:k (.int (ds.length:Int)) M):OpN K (fun xs H Q=>∃ x n,xs=[x]∧LenV K x H n∧Q (.int n) H) [d] M k:=fun G H vs Q rl e q=>by
 obtain ⟨v,rfl,dv⟩:=dens1 e
 obtain ⟨a,ws,ev,s,dn⟩:=q1.sq2 rl dv
 subst ev
 refine ⟨_,ds.length,rfl,?_,q _ _ _ _ _ (Stp.refl rl) dD h⟩
 rcases s with s | s
 ·exact .inl ⟨ws,s,dn.len⟩
 ·exact .inr ⟨ws,s,dn.len⟩
theorem gU {K:Fg}{x:Str} (hz:x.length≤sizeLine) (h:k (.int (x.length:Int)) M):OpN K (fun xs H Q=>∃ x n,xs=[x]∧LenV K x H n∧Q (.int n) H) [.str x] M k:=fun G H vs Q rl e q=>by
 obtain ⟨v,rfl,dv⟩:=dens1 e
 rw [dv.str_]
 exact ⟨_,x.length,rfl,⟨hz,rfl⟩,q _ _ _ _ _ (Stp.refl rl) dD h⟩
theorem mQ {K:Fg}{i:Int} (h:k (.int (if i < 0 then -i else i)) M):OpN K (fun xs H Q=>∃ i,xs=[.int i]∧Q (.int (if i < 0 then -i else i)) H) [.int i] M k:=fun G H vs Q rl e q=>by
 obtain ⟨v,rfl,dv⟩:=dens1 e
 rw [dv.int_]
 exact ⟨i,rfl,q _ _ _ _ _ (Stp.refl rl) dD h⟩
theorem aGQ {K:Fg}{c:Bool} (h:k (.int (if c then 1 else 0)) M):OpN K (fun xs H Q=>(∃ i,xs=[.int i]∧Q (.int i) H)∨∃ k,xs=[.bl k]∧Q (.int (if k then 1 else 0)) H) [.bl c] M k:=fun G H vs Q rl e q=>by
 obtain ⟨v,rfl,dv⟩:=dens1 e
 rw [dv.bl_]
 exact .inr ⟨c,rfl,q _ _ _ _ _ (Stp.refl rl) dD h⟩
theorem pP {K:Fg}{i j:Int} (h:k (.int (if j > i then j else i)) M):OpN K (fun xs H Q=>∃ i j,xs=[.int i, .int j]∧Q (.int (if j > i then j else i)) H) [.int i, .int j] M k:=fun G H vs Q rl e q=>by
 obtain ⟨v,u,rfl,dv,du⟩:=dens2 e
 rw [dv.int_,du.int_]
 exact ⟨i,j,rfl,q _ _ _ _ _ (Stp.refl rl) dD h⟩
theorem fY {K:Fg}{d:D}{t:Bool}{ds:List D} (q1:Seq M d t ds) (h:k (.lst ds) M):OpN K (fun xs H Q=>∃ p ys,xs=[.ref p]∧(SqL K H p ys∨SqT K H p ys)∧∀ l,H l=none→Q (.ref l) (upd H l (.lst ys))) [d] M k:=fun G H vs Q rl e q=>by
 obtain ⟨v,rfl,dv⟩:=dens1 e
 obtain ⟨a,ws,ev,s,dn⟩:=q1.sq2 rl dv
 subst ev
 refine ⟨a,ws,rfl,s,fun l hl => ?_⟩
 have st:=rl.new (o := .lst ws) hl
 exact q _ _ _ _ _ st (fD bB (dn.up st.gg)) h
theorem gQ {K:Fg}{d:D}{t:Bool}{ds:List D} (q1:Seq M d t ds) (h:k (.tup ds) M):OpN K (fun xs H Q=>∃ p ys,xs=[.ref p]∧((SqL K H p ys∧∀ l,H l=none→Q (.ref l) (upd H l (.tup ys)))∨(SqT K H p ys∧Q (.ref p) H))) [d] M k:=fun G H vs Q rl e q=>by
 obtain ⟨v,rfl,dv⟩:=dens1 e
 cases q1 with
 | tup ds =>
  obtain ⟨a,ws,ev,s,dn⟩:=dv.tup_
  subst ev
  exact ⟨a,ws,rfl, .inr ⟨R.seqT rl.same s,q _ _ _ _ _ (Stp.refl rl) dv h⟩⟩
 | lst ds =>
  obtain ⟨a,ws,ev,s,dn⟩:=(Seq.lst ds).sq rl dv
  subst ev
  refine ⟨a,ws,rfl, .inl ⟨s,fun l hl => ?_⟩⟩
  have st:=rl.new (o := .tup ws) hl
  exact q _ _ _ _ _ st (iQ (SqT.of bB) (dn.up st.gg)) h
 | fl ds =>
  obtain ⟨a,ws,ev,s,dn⟩:=(Seq.fl ds).sq rl dv
  subst ev
  refine ⟨a,ws,rfl, .inl ⟨s,fun l hl => ?_⟩⟩
  have st:=rl.new (o := .tup ws) hl
  exact q _ _ _ _ _ st (iQ (SqT.of bB) (dn.up st.gg)) h
 | mt hm =>
  obtain ⟨a,ws,ev,s,dn⟩:=(Seq.mt hm).sq rl dv
  subst ev
  refine ⟨a,ws,rfl, .inl ⟨s,fun l hl => ?_⟩⟩
  have st:=rl.new (o := .tup ws) hl
  exact q _ _ _ _ _ st (iQ (SqT.of bB) (dn.up st.gg)) h
theorem xQ {K:Fg}{G:Hp}:∀ {bs:List Bool}{vs:List V},Dens K G (bs.map D.bl) vs→vs=bs.map V.bl
 | [],_,h=>cF h
 | b::bs,_,h=>by
  obtain ⟨v,r,rfl,h1,h2⟩:=bV h
  rw [h1.bl_,xQ h2]; rfl
theorem tW {K:Fg}{G:Hp}:∀ {bs:List Str}{vs:List V},Dens K G (bs.map D.str) vs→vs=bs.map V.str
 | [],_,h=>cF h
 | b::bs,_,h=>by
  obtain ⟨v,r,rfl,h1,h2⟩:=bV h
  rw [h1.str_,tW h2]; rfl
theorem iF {K:Fg}{d:D}{t:Bool}{bs:List Bool}{g:List Bool→Bool} (q1:Seq M d t (bs.map D.bl)) (h:k (.bl (g bs)) M):OpN K (rAll K g) [d] M k:=fun G H vs Q rl e q=>by
 obtain ⟨v,rfl,dv⟩:=dens1 e
 obtain ⟨a,ws,ev,s,dn⟩:=q1.sq2 rl dv
 subst ev
 rw [xQ dn] at s
 exact ⟨a,bs,rfl,s,q _ _ _ _ _ (Stp.refl rl) d6 h⟩
def TyD (T:String) (d:D) (M:Mem):Prop:=match d with
 | .str _=>T = "str"
 | .lst _=>T = "list"
 | .mt a=>T = "list" ∧ ∃ ds,M a=some (.lst ds)
 | _=>False
theorem TyD.ok {K:Fg}{G H:Hp}{T:String}{d:D}{v:V} (h:TyD T d M) (rl:Rel K G H M) (e:Den K G d v):tyV K T v H:=by
 cases d with
 | str x=>rw [e.str_]; exact h
 | lst ds=>obtain ⟨a,vs,ev,s,_⟩:=e.lst_; rw [ev]; exact .inl ⟨h,vs,SqL.of (rl.same _ _ s)⟩
 | mt a =>
  obtain ⟨h1,ds,h2⟩:=h
  obtain ⟨_,vs,s,_⟩:=rl.mem _ _ h2
  rw [e.mt_]; exact .inl ⟨h1,vs,SqL.of s⟩
 | _=>exact False.elim h
def OpM (K:Fg) (r:V→List V→Hp→VK→Prop) (d:D) (ds:List D) (M:Mem) (k:D→Mem→Prop):Prop:=∀ G H v vs Q,Rel K G H M→Den K G d v→Dens K G ds vs→Cont K M k G H Q→r v vs H Q
theorem i0 {T id:String}{name:Str}{apos cpos:Pos}{r:V→List V→Hp→VK→Prop} (pa:PlainAttrs T) (slot:Slot T name id) (hty:typeOf (.builtin id)=pure (.type "method_descriptor")) (hm:MtR X id r)
  (h:GE X o Γ M fun d M1=>TyD T d M1∧GA X (e::es) Γ M1 fun ds M2=>OpM X.K r d ds M2 k)
  (hbase:attributeBase o name X.env (eval o X.env)=eval o X.env:=by rfl)
  (hfew:((backTo cpos (starEach (e::es) X.env)).all (fun x => !x.1) && (backToKw cpos (keywordEach [] X.env)).all (fun x=>x.1.isSome)
   && decide ((e::es).length+([]:List Keyword).length+(if ([]:List Keyword).isEmpty then 0 else 1) < 30))=true:=by rfl)
  (hline:(apos.endLine == cpos.line)=true:=by rfl) (hs:starEach (e::es) X.env=(false,eval e X.env)::starEach es X.env:=by rfl) (hplain:(backTo cpos (starEach es X.env)).any (·.1)=false:=by rfl) :
  GE X (.Call (.Attribute o name apos) (e::es) [] cpos) Γ M k:=fun σ G H Q en rl q=>by
 refine cL (aJ1 pa slot hty hm pU pUA hbase hfew hline hs hplain) ?_
 refine h σ G H _ en rl fun v G1 H1 d M1 s1 e1 ⟨ty,h1⟩=>⟨ty.ok s1.rel e1,?_⟩
 exact h1 σ G1 H1 _ (en.up s1.gg) s1.rel fun vs G2 H2 ds M2 s2 e2 h2=>h2 G2 H2 v vs Q s2.rel (e1.up s2.gg) e2 (q.up (s1.trans s2))
theorem kJ {K:Fg}{a:Addr}{ds:List D}{d:D} (hm:M a=some (.lst ds)) (hl:ds.length < sizeLine) (h:k .non (updM M a (.lst (ds++[d])))):OpM K xJ (.mt a) [d] M k:=fun G H v vs Q rl e e2 q=>by
 obtain ⟨u,rfl,du⟩:=dens1 e2
 obtain ⟨_,ws,s,dn⟩:=rl.mem _ _ hm
 exact ⟨a,ws,u,e.mt_,rfl,s,by rw [← dn.len]; exact hl,q _ _ _ _ _ (rl.wr hm (dn.append (cJ du cQ))) xB h⟩
theorem oS {K:Fg}{sep:Str}{d:D}{t:Bool}{ys:List Str} (q1:Seq M d t (ys.map D.str)) (h1:sep.length≤16) (h2:(ys.map (·.length)).sum+ys.length≤1048576) (h:k (.str (PySem.Txt.join sep ys)) M):OpM K (aE4 K) (.str sep) [d] M k:=fun G H v vs Q rl e e2 q=>by
 obtain ⟨u,rfl,du⟩:=dens1 e2
 obtain ⟨a,ws,ev,s,dn⟩:=q1.sq2 rl du
 subst ev
 rw [tW dn] at s
 exact ⟨sep,a,ys,e.str_,rfl,s,h1,h2,q _ _ _ _ _ (Stp.refl rl) f6 h⟩
end
end Z
namespace Z
open PySem L2
section
variable {X:Cx}{Γ:Gm}{M:Mem}{k:D→Mem→Prop}{kb:Bool→Mem→Prop}{pos:Pos}{a b c e o:Expr}{es rest:List Expr}{lo hi:Option Expr}{ko:Option Int→Mem→Prop}
def tUO (X:Cx) (e:Option Expr):TO:=fun σ H Q=>∀ pins s,Inv X pins σ H s→wpAny (model X.prog X.w) X.A (evalPart e X.env) (fun u s'=>∃ o H',Inv X pins σ H' s'∧IsPart u o∧Q o H') X.xe s
theorem pUO {e:Option Expr}:PO X e (tUO X e):=fun pins s σ H Q I h=>h pins s I
theorem aB5 {e:Option Expr}{t:TO} (p:PO X e t) {σ:St}{H:Hp}{Q:Option Int→Hp→Prop} (h:t σ H Q):tUO X e σ H Q:=fun pins s I=>p pins s σ H Q I h
def GO (X:Cx) (e:Option Expr) (Γ:Gm) (M:Mem) (ko:Option Int→Mem→Prop):Prop :=
 ∀ σ G H Q,EnvR X.K G Γ σ→Rel X.K G H M→(∀ o G' H' M',Stp X.K G H M G' H' M'→ko o M'→Q o H')→tUO X e σ H Q
theorem dN (h:ko none M):GO X none Γ M ko:=fun σ G H Q en rl q=>aB5 aFZ (q _ _ _ _ (Stp.refl rl) h)
theorem dM (h:GE X e Γ M fun d M1=>∃ i,d = .int i∧ko (some i) M1):GO X (some e) Γ M ko:=fun σ G H Q en rl q=>aB5 (aGZ pU) (h σ G H _ en rl fun v G1 H1 d M1 s1 e1 ⟨i,ed,h1⟩=>by subst ed; exact ⟨i,e1.int_,q _ _ _ _ s1 h1⟩)
abbrev R3:=V→Option Int→Option Int→Hp→VK→Prop
def Op3 (K:Fg) (r:R3) (d:D) (l u:Option Int) (M:Mem) (k:D→Mem→Prop):Prop:=∀ G H v Q,Rel K G H M→Den K G d v→Cont K M k G H Q→r v l u H Q
theorem cZ {r:R3}{p2:Pos} (hr:SlR X r) (h:GE X e Γ M fun d M1=>GO X lo Γ M1 fun l M2=>GO X hi Γ M2 fun u M3=>Op3 X.K r d l u M3 k):GE X (.Subscript e (.Slice lo hi none p2) pos) Γ M k:=fun σ G H Q en rl q=>by
 refine cL (aEG hr pU pUO pUO) ?_
 refine h σ G H _ en rl fun v G1 H1 d M1 s1 e1 h1 => ?_
 refine h1 σ G1 H1 _ (en.up s1.gg) s1.rel fun l G2 H2 M2 s2 h2 => ?_
 refine h2 σ G2 H2 _ (en.up (s1.trans s2).gg) s2.rel fun u G3 H3 M3 s3 h3 => ?_
 exact h3 G3 H3 v Q s3.rel (e1.up (s2.trans s3).gg) (q.up ((s1.trans s2).trans s3))
def cutD {α:Type} (xs:List α) (lo hi:Option Int):List α:=(xs.drop (HT.sIx xs.length 0 lo)).take (HT.sIx xs.length xs.length hi - HT.sIx xs.length 0 lo)
theorem Dens.cut {K:Fg}{G:Hp}{ds:List D}{vs:List V} (h:Dens K G ds vs) (l u:Option Int):Dens K G (cutD ds l u) (cutV vs l u):=by
 unfold cutD cutV
 rw [← h.len]
 exact (h.drop _).take _
theorem zT {K:Fg}{z:Str}{l u:Option Int} (hz:z.length≤sizeLine) (h:k (.str (cutS z l u)) M):Op3 K rSlS (.str z) l u M k:=fun G H v Q rl e q=>⟨z,e.str_,hz,q _ _ _ _ _ (Stp.refl rl) f6 h⟩
theorem iE {K:Fg}{d:D}{ds:List D}{l u:Option Int} (q1:Seq M d true ds) (h:k (.lst (cutD ds l u)) M):Op3 K (rSlL K) d l u M k:=fun G H v Q rl e q=>by
 obtain ⟨a,vs,ev,s,dn⟩:=q1.sq rl e
 refine ⟨a,vs,ev,s,fun p hp => ?_⟩
 have st:=rl.new (o := .lst (cutV vs l u)) hp
 exact q _ _ _ _ _ st (fD bB ((dn.cut l u).up st.gg)) h
structure YD (K:Fg) (J:It) (ds:List D) (G0:Hp):Prop where
 go:∀ i G H M,Same G0 G→Rel K G H M→i < ds.length→J.go i H
 yld:∀ i G H M x H',Same G0 G→Rel K G H M→i < ds.length→J.yld i H x H'→∃ G' d,Stp K G H M G' H' M∧ds[i]?=some d∧Den K G' d x
 stop:∀ i G H M,Same G0 G→Rel K G H M→i=ds.length→J.stop i H
theorem xI {K:Fg}{a:Addr}{vs:List V}{ds:List D}{G0:Hp} (s:SqL K G0 a vs) (dn:Dens K G0 ds vs):YD K (Itl K a) ds G0 where
 go:=fun i G H M sg rl h=>qX.go i H (rl.same.seq (sg.seq s)) (by rw [← dn.len]; exact h)
 yld:=fun i G H M x H' sg rl h y=>by
  obtain ⟨e,hx⟩:=qX.yld i H x H' (rl.same.seq (sg.seq s)) y (by rw [← dn.len]; exact h)
  subst e
  obtain ⟨d,hd,e⟩:=dn.get' hx
  exact ⟨G,d,Stp.refl rl,hd,e.up sg⟩
 stop:=fun i G H M sg rl h=>qX.stop i H (rl.same.seq (sg.seq s)) (by rw [← dn.len]; exact Nat.le_of_eq h.symm)
theorem aIX {K:Fg}{a:Addr}{vs:List V}{ds:List D}{G0:Hp} (s:SqT K G0 a vs) (dn:Dens K G0 ds vs):YD K (Itt K a) ds G0 where
 go:=fun i G H M sg rl h=>uY.go i H (R.seqT rl.same (R.seqT sg s)) (by rw [← dn.len]; exact h)
 yld:=fun i G H M x H' sg rl h y=>by
  obtain ⟨e,hx⟩:=uY.yld i H x H' (R.seqT rl.same (R.seqT sg s)) y (by rw [← dn.len]; exact h)
  subst e
  obtain ⟨d,hd,e⟩:=dn.get' hx
  exact ⟨G,d,Stp.refl rl,hd,e.up sg⟩
 stop:=fun i G H M sg rl h=>uY.stop i H (R.seqT rl.same (R.seqT sg s)) (by rw [← dn.len]; exact Nat.le_of_eq h.symm)
def rngD (lo:Int) (n:Nat):List D:=(List.range n).map fun i=>D.int (lo+(i:Nat))
theorem b4 (lo:Int) (n:Nat):(rngD lo n).length=n:=by simp [rngD]
theorem eA {lo:Int}{n i:Nat}{d:D} (h:(rngD lo n)[i]?=some d):i < n∧d = .int (lo+(i:Nat)):=by
 have hi:i < n:=by rw [← b4 lo n]; exact (List.getElem?_eq_some_iff.mp h).1
 simp [rngD,hi] at h
 exact ⟨hi,h.symm⟩
theorem aB2 {K:Fg}{lo:Int}{n:Nat}{G0:Hp}:YD K (Itr lo n) (rngD lo n) G0 where
 go:=fun i G H M sg rl h=>by rw [b4] at h; exact h
 yld:=fun i G H M x H' sg rl h y=>by
  obtain ⟨e,hx⟩:=y
  subst e hx
  rw [b4] at h
  exact ⟨G,_,Stp.refl rl,by simp [rngD,h],dD⟩
 stop:=fun i G H M sg rl h=>by rw [b4] at h; exact Nat.le_of_eq h.symm
def strD (x:Str):List D:=x.cps.toList.map fun c=>D.str ⟨#[c]⟩
theorem gS (x:Str):(strD x).length=x.length:=by simp [strD,Str.length]
theorem aIR {K:Fg}{x:Str}{G0:Hp}:YD K (Its x) (strD x) G0 where
 go:=fun i G H M sg rl h=>by rw [gS] at h; exact h
 yld:=fun i G H M v H' sg rl h y=>by
  obtain ⟨e,c,hc,ev⟩:=y
  subst e ev
  exact ⟨G, .str ⟨#[c]⟩,Stp.refl rl,by simp only [strD,List.getElem?_map,Array.getElem?_toList,hc,Option.map_some],f6⟩
 stop:=fun i G H M sg rl h=>by rw [gS] at h; exact Nat.le_of_eq h.symm
variable {tg iter:Expr}{ki:List D→Mem→Prop}
def GI (X:Cx) (tg iter:Expr) (Γ:Gm) (M:Mem) (ki:List D→Mem→Prop):Prop :=
 ∀ σ G H R,EnvR X.K G Γ σ→Rel X.K G H M→(∀ J G' H' ds M',Stp X.K G H M G' H' M'→YD X.K J ds G'→ki ds M'→R J H')→tUI X tg iter σ H R
def iAny (K:Fg) (tl:TE):TI:=fun σ H R=>tl σ H fun x H1=>∃ a,x = .ref a∧(((∃ xs,SqL K H1 a xs)∧R (Itl K a) H1)∨((∃ xs,SqT K H1 a xs)∧R (Itt K a) H1))
theorem aHT {l:Expr}{tl:TE} (hl:PE X l tl):PI X tg l (iAny X.K tl):=by
 intro pins s σ H R I h
 refine thn (hl pins s σ H _ I h) fun v s1 ⟨x,H1,I1,r1,q1⟩ => ?_
 obtain ⟨a,e,q⟩:=q1
 subst e
 cases r1
 have fp:∀ b∈[s1.heap.objs.size],FpOk X pins H1 b:=fun b hb=>by
  have e:b=s1.heap.objs.size:=by simpa using hb
  subst e
  exact I1.fpOk (Nat.le_refl _) (I1.hok.fresh (Nat.le_refl _))
 rcases q with ⟨⟨xs,hq⟩,q⟩ | ⟨⟨xs,hq⟩,q⟩
 ·obtain ⟨its,r',pl,hz⟩:=I1.list hq
  refine wpAny_pyIter_list pl.isList ?_
  exact ⟨s1.heap.objs.size,[s1.heap.objs.size],_,Itl X.K a,H1,rfl,I1.kept (t':=s1.toks) fun b o e=>Heap.get?_push_of_some _ e,aCC a _,⟨_,Heap.get?_push_size _ rfl,rfl,rfl⟩,fp,q⟩
 ·obtain ⟨its,r',pl,hz⟩:=I1.tuple hq
  refine wpAny_pyIter_tuple pl ?_
  exact ⟨s1.heap.objs.size,[s1.heap.objs.size],_,Itt X.K a,H1,rfl,I1.kept (t':=s1.toks) fun b o e=>Heap.get?_push_of_some _ e,zI a _,⟨_,Heap.get?_push_size _ rfl,rfl,rfl⟩,fp,q⟩
theorem bJ (h:GE X iter Γ M fun d M1=>∃ ds,(d = .tup ds∨d = .lst ds∨d = .fl ds)∧ki ds M1):GI X tg iter Γ M ki:=fun σ G H Rr en rl q=>by
 refine kZ (aHT pU) ?_
 refine h σ G H _ en rl fun v G1 H1 d M1 s1 e1 ⟨ds,ed,h1⟩ => ?_
 rcases ed with rfl | rfl | rfl
 ·obtain ⟨a,vs,ev,s,dn⟩:=e1.tup_
  exact ⟨a,ev, .inr ⟨⟨vs,R.seqT s1.rel.same s⟩,q _ _ _ _ _ s1 (aIX s dn) h1⟩⟩
 ·obtain ⟨a,vs,ev,s,dn⟩:=e1.lst_
  exact ⟨a,ev, .inl ⟨⟨vs,SqL.of (s1.rel.same _ _ s)⟩,q _ _ _ _ _ s1 (xI (SqL.of s) dn) h1⟩⟩
 ·obtain ⟨a,vs,ev,s,dn⟩:=e1.fl_
  exact ⟨a,ev, .inl ⟨⟨vs,s1.rel.same.seq s⟩,q _ _ _ _ _ s1 (xI s dn) h1⟩⟩
theorem jD {p:Pos} (hm:X.mg "range" = none) (h:GA X [a] Γ M fun ds M1=>∃ j:Int,ds=[.int j] ∧ -(2 ^ 62)≤j∧j < 2 ^ 62∧ki (rngD 0 j.toNat) M1) (hg:Gl X "range" := by rfl) (hs:starEach [a] X.env=[(false,eval a X.env)]:=by rfl):GI X tg (.Call (.Name "range" p) [a] [] pos) Γ M ki:=fun σ G H R en rl q=>by
 refine kZ (aBU hg hm pUA hs) ?_
 refine h σ G H _ en rl fun vs G1 H1 ds M1 s1 e1 ⟨j,ed,h1,h2,h3⟩ => ?_
 subst ed
 obtain ⟨v,rfl,dv⟩:=dens1 e1
 rw [dv.int_]
 exact ⟨j,rfl,h1,h2,q _ _ _ _ _ s1 aB2 h3⟩
theorem xD {p:Pos} (hm:X.mg "range" = none) (h:GA X [a,b] Γ M fun ds M1=>∃ i j:Int,ds=[.int i, .int j]∧(-(2 ^ 62)≤i∧i < 2 ^ 62 ∧ -(2 ^ 62)≤j∧j < 2 ^ 62)∧ki (rngD i (j - i).toNat) M1) (hg:Gl X "range" := by rfl)
  (hs:starEach [a,b] X.env=[(false,eval a X.env),(false,eval b X.env)]:=by rfl) (hs2:starEach [b] X.env=[(false,eval b X.env)]:=by rfl):GI X tg (.Call (.Name "range" p) [a,b] [] pos) Γ M ki:=fun σ G H R en rl q=>by
 refine kZ (aCI hg hm pUA hs hs2) ?_
 refine h σ G H _ en rl fun vs G1 H1 ds M1 s1 e1 ⟨i,j,ed,h1,h3⟩ => ?_
 subst ed
 obtain ⟨v,u,rfl,dv,du⟩:=dens2 e1
 rw [dv.int_,du.int_]
 exact ⟨i,j,rfl,h1,q _ _ _ _ _ s1 aB2 h3⟩
theorem aI1 (h:GE X iter Γ M fun d M1=>∃ x,d = .str x∧ki (strD x) M1):GI X tg iter Γ M ki:=fun σ G H R en rl q=>by
 refine kZ (aJB pU) ?_
 exact h σ G H _ en rl fun v G1 H1 d M1 s1 e1 ⟨x,ed,h1⟩=>by subst ed; exact ⟨x,e1.str_,q _ _ _ _ _ s1 aIR h1⟩
end
section
variable {K:Fg}{G H:Hp}{M:Mem}{Γ:Gm}{σ:St}
theorem aA0 {α:Type}{o:Option (Option α)}{x:α} (h:o.join=some x):o=some (some x):=by
 cases o with
 | none=>cases h
 | some y=>cases y with
  | none=>cases h
  | some z=>cases h; rfl
theorem EnvR.cap (h:EnvR K G Γ σ) {d:D}{v:V} (e:Den K G d v) (cap:List Nat):EnvR K G (some d::cap.map fun k=>(Γ[k]?).join) (some v::cap.map fun k=>(σ[k]?).join):=by
 refine ⟨by simp,fun i c q => ?_⟩
 cases i with
 | zero=>simp at q; subst q; exact ⟨v,rfl,e⟩
 | succ i =>
  rw [List.getElem?_cons_succ,List.getElem?_map] at q ⊢
  cases hc:cap[i]? with
  | none=>rw [hc] at q; cases q
  | some j =>
   rw [hc,Option.map_some] at q
   have q':(Γ[j]?).join=some c:=by injection q
   obtain ⟨u,a,b⟩:=h.get j c (aA0 q')
   exact ⟨u,by rw [Option.map_some,a]; rfl,b⟩
theorem Stp.aside {G0 H0:Hp}{M0:Mem}{p:Addr}{o:HO} (s:Stp K G0 H0 M0 G H M) (h0:H0 p=none) (hg:G p=none) (hm:M p=none):Stp K G0 H0 M0 G (upd H p o) M:=by
 refine ⟨s.gg,⟨fun b u e => ?_,fun a m e => ?_⟩,fun a u e1 e2 e3 => ?_⟩
 ·rw [aW (bA e hg)]; exact s.rel.same b u e
 ·have z:a≠p:=fun z=>by rw [z,hm] at e; cases e
  exact ⟨(s.rel.mem a m e).1,(s.rel.mem a m e).2.mv (Same.refl G) (aW z)⟩
 ·obtain ⟨x,y,z⟩:=s.fr a u e1 e2 e3
  exact ⟨by rw [aW (bA e1 h0)]; exact x,y,z⟩
theorem Stp.track {G0 H0:Hp}{M0:Mem}{p:Addr}{vs:List V}{ds:List D} (s:Stp K G0 H0 M0 G H M) (h0:H0 p=none) (hg:G p=none) (hp:H p=some (.lst vs)) (dn:Dens K G ds vs):Stp K G0 H0 M0 G H (updM M p (.lst ds)):=by
 refine ⟨s.gg,⟨s.rel.same,fun a m e => ?_⟩,fun a u e1 e2 e3 => ?_⟩
 ·by_cases z:a=p
  ·subst z
   rw [aV] at e; cases e
   exact ⟨hg,vs,hp,dn⟩
  ·rw [b8 z] at e; exact s.rel.mem a m e
 ·obtain ⟨x,y,z⟩:=s.fr a u e1 e2 e3
  exact ⟨x,y,by rw [b8 (bA e1 h0)]; exact z⟩
end
def tUIf (Y:Cx) (ifs:List Expr):TT:=fun σ H Q=>∀ pins s,Inv Y pins σ H s →
  wpAny (model Y.prog Y.w) Y.A (forIn ifs true fun c r=>if r=true then do let ok ← isTrue c Y.env (eval c Y.env); pure (ForInStep.yield ok) else pure (ForInStep.yield r)) (TP Y pins σ Q) Y.xe s
def GIf (Y:Cx) (ifs:List Expr) (Γ:Gm) (M:Mem) (kb:Bool→Mem→Prop):Prop :=
 ∀ σ G H Q,EnvR Y.K G Γ σ→Rel Y.K G H M→oF Y.K M kb G H Q→tUIf Y ifs σ H Q
theorem bD {Y:Cx}{Γ:Gm}{M:Mem}{kb:Bool→Mem→Prop} (h:kb true M):GIf Y [] Γ M kb:=fun σ G H Q en rl q pins s I=>aFD pins s σ H Q I (q _ _ _ _ (Stp.refl rl) h)
theorem qP {Y:Cx}{c:Expr}{Γ:Gm}{M:Mem}{kb:Bool→Mem→Prop} (h:GT Y c Γ M kb):GIf Y [c] Γ M kb:=fun σ G H Q en rl q pins s I=>aG5 pUT pins s σ H Q I (h σ G H Q en rl q)
def Comp (X:Cx) (x:Str) (ns:List Str) (cap:List Nat) (elt:Expr) (ifs:List Expr) (scope:Scope) (Γ:Gm) (k:D→Mem→Prop) (ds:List D) (M1:Mem):Prop :=
 ds.length≤sizeLine∧∃ I:Nat→List D→Mem→Prop,I 0 [] M1 ∧
  (∀ i d acc M2,ds[i]?=some d→I i acc M2→∀ cs C s₀ H₀ fp,GIf (aS X scope cs C (x::ns) s₀ H₀ fp) ifs (some d::cap.map fun k=>(Γ[k]?).join) M2 fun c M3 =>
   if c=true then (∀ cs C s₀ H₀ fp,GE (aS X scope cs C (x::ns) s₀ H₀ fp) elt (some d::cap.map fun k=>(Γ[k]?).join) M3 (fun y M4=>I (i+1) (acc++[y]) M4)) else I (i+1) acc M3) ∧
  (∀ acc M2,I ds.length acc M2→∀ a,M2 a=none→k (.mt a) (updM M2 a (.lst acc)))
theorem aBX {X:Cx}{x:Str}{px:Pos}{iter elt:Expr}{ifs:List Expr}{scope:Scope}{ns:List Str}{cap:List Nat}{Γ:Gm}{M:Mem}{k:D→Mem→Prop}
  (h:GI X (.Name x px) iter Γ M (Comp X x ns cap elt ifs scope Γ k)) {σ:St}{G H:Hp}{Q:VK} (en:EnvR X.K G Γ σ) (rl:Rel X.K G H M) (q:Cont X.K M k G H Q) :
  oP (tUI X (.Name x px) iter) cap (fun σ H Q=>∀ cs C s₀ H₀ fp,tUIf (aS X scope cs C (x::ns) s₀ H₀ fp) ifs σ H Q) (fun σ H Q=>∀ cs C s₀ H₀ fp,tU (aS X scope cs C (x::ns) s₀ H₀ fp) elt σ H Q) σ H Q:=by
 refine h σ G H _ en rl fun J G1 H1 ds M1 s1 yd ⟨hlen,I,h0,hstep,hend⟩ A hA => ?_
 have hA':=s1.rel.free hA
 refine ⟨fun i m ys H2=>m=ds.length - i∧i≤ds.length∧∃ G2 M2 acc,Stp X.K G1 H1 M1 G2 H2 M2∧H2 A=some (.lst ys)∧G2 A=none∧M2 A=none∧Dens X.K G2 acc ys∧I i acc M2∧acc.length≤i,
  ⟨ds.length,by simp,Nat.zero_le _,G1,M1,[],(Stp.refl s1.rel).aside hA hA'.1 hA'.2,bB,hA'.1,hA'.2,cQ,h0,Nat.le_refl _⟩,?_⟩
 rintro i m ys H2 ⟨rfl,hi,G2,M2,acc,s2,hl,hg,hm,dn,hI,hacc⟩
 refine ⟨hl,?_⟩
 by_cases hlt:i < ds.length
 ·refine .inr ⟨yd.go i G2 H2 M2 s2.gg s2.rel hlt,by rw [← dn.len]; omega,fun x H3 y => ?_⟩
  obtain ⟨G3,d,s3,hd,ex⟩:=yd.yld i G2 H2 M2 x H3 s2.gg s2.rel hlt y
  obtain ⟨l3,g3,m3⟩:=s3.fr A _ hl hg hm
  intro cs C s₀ H₀ fp
  have en3:=((en.up s1.gg).up (s2.trans s3).gg).cap ex cap
  refine hstep i d acc M2 hd hI cs C s₀ H₀ fp _ G3 H3 _ en3 s3.rel fun c G4 H4 M4 s4 h4 => ?_
  obtain ⟨l4,g4,m4⟩:=s4.fr A _ l3 g3 m3
  cases c with
  | true =>
   rw [if_pos rfl] at h4 ⊢
   intro cs C s₀ H₀ fp
   refine h4 cs C s₀ H₀ fp _ G4 H4 _ (en3.up s4.gg) s4.rel fun y G5 H5 d5 M5 s5 e5 h5 => ?_
   obtain ⟨l5,g5,m5⟩:=s5.fr A _ l4 g4 m4
   have s25:=((s2.trans s3).trans s4).trans s5
   exact ⟨l5,ds.length - (i+1),by omega,rfl,hlt,G5,M5,acc++[d5],s25.aside hA g5 m5,bB,g5,m5,(dn.up ((s3.trans s4).trans s5).gg).append (cJ e5 cQ),h5,by rw [List.length_append,List.length_singleton]; omega⟩
  | false =>
   rw [if_neg Bool.false_ne_true] at h4 ⊢
   exact ⟨ds.length - (i+1),by omega,rfl,hlt,G4,M4,acc,(s2.trans s3).trans s4,l4,g4,m4,dn.up (s3.trans s4).gg,h4,by omega⟩
 ·have e:i=ds.length:=by omega
  subst e
  exact .inl ⟨yd.stop _ G2 H2 M2 s2.gg s2.rel rfl,q _ _ _ _ _ (s1.trans (s2.track hA hg hl dn)) p6 (hend acc M2 hI A hm)⟩
end Z
namespace Z
open PySem L2
section
variable {X:Cx}{Γ:Gm}{M:Mem}{k:D→Mem→Prop}{F:Fin}{pos:Pos}{a b c e o tg iter:Expr}{st:Stmt}{ss body:List Stmt}
theorem aG3 {x:Str}{px:Pos}{elt:Expr}{ifs:List Expr}{scope sc:Scope}{N:List Str} (ns:List Str) (cap:List Nat) (h:GI X (.Name x px) iter Γ M (Comp X x ns cap elt ifs scope Γ k))
  (hsc:X.env.scope=sc:=by rfl) (hN:X.N=N:=by rfl) (ok:g7 sc scope x ns cap N=true:=by first | decide +kernel | kernel_rfl!) (hc:X.calm=true:=by rfl) (hs:∀ v,foldedSetIterable iter X.env v=pure v:=by intro _; rfl) :
  GE X (.ListComp elt [⟨.Name x px,iter,ifs,0⟩] scope pos) Γ M k:=fun σ G H Q en rl q =>
 cL (aDM ns cap hc hsc hN ok pUI (fun cs C s₀ H₀ fp pins s σ H Q I h=>h cs C s₀ H₀ fp pins s I) (fun cs C s₀ H₀ fp pins s σ H Q I h=>h cs C s₀ H₀ fp pins s I) hs) (aBX h en rl q)
def aE3 (X:Cx) (x:Str) (ns:List Str) (cap:List Nat) (elt:Expr) (ifs:List Expr) (scope:Scope) (Γ:Gm) (k:D→Mem→Prop) (ds:List D) (M1:Mem):Prop :=
 ds.length≤sizeLine∧∃ I:Nat→List D→Mem→Prop,I 0 [] M1 ∧
  (∀ i d acc M2,ds[i]?=some d→I i acc M2→∀ cs C s₀ H₀ fp,GIf (aS X scope cs C (x::ns) s₀ H₀ fp) ifs (some d::cap.map fun k=>(Γ[k]?).join) M2 fun c M3 =>
   if c=true then (∀ cs C s₀ H₀ fp,GE (aS X scope cs C (x::ns) s₀ H₀ fp) elt (some d::cap.map fun k=>(Γ[k]?).join) M3 (fun y M4=>I (i+1) (acc++[y]) M4)) else I (i+1) acc M3) ∧
  (∀ acc M2,I ds.length acc M2→k (.lst acc) M2)
theorem a9 {x:Str}{px:Pos}{elt:Expr}{ifs:List Expr}{scope sc:Scope}{N:List Str} (ns:List Str) (cap:List Nat) (h:GI X (.Name x px) iter Γ M (aE3 X x ns cap elt ifs scope Γ k))
  (hsc:X.env.scope=sc:=by rfl) (hN:X.N=N:=by rfl) (ok:g7 sc scope x ns cap N=true:=by first | decide +kernel | kernel_rfl!) (hc:X.calm=true:=by rfl) (hs:∀ v,foldedSetIterable iter X.env v=pure v:=by intro _; rfl) :
  GE X (.ListComp elt [⟨.Name x px,iter,ifs,0⟩] scope pos) Γ M k:=by
 refine aBD (aG3 ns cap ?_ hsc hN ok hc hs)
 intro σ G H Rr en rl q
 refine h σ G H Rr en rl fun J G1 H1 ds M1 s1 yd ⟨hl,I,h0,hstep,hend⟩ => ?_
 exact q J G1 H1 ds M1 s1 yd ⟨hl,I,h0,hstep,fun acc M2 hI a ha=>⟨a,acc,M2,rfl,aV,ha,(Le.refl M2).upd ha,hend acc M2 hI⟩⟩
theorem b6 {x:Str}{ns:List Str}{cap:List Nat}{elt:Expr}{ifs:List Expr}{scope:Scope}{ds:List D}{M1:Mem} (hl:ds.length≤sizeLine) (I:Nat→List D→Mem→Prop) (h0:I 0 [] M1)
  (hs:∀ i d acc M2,ds[i]?=some d→I i acc M2→∀ cs C s₀ H₀ fp,GIf (aS X scope cs C (x::ns) s₀ H₀ fp) ifs (some d::cap.map fun k=>(Γ[k]?).join) M2 fun c M3 =>
   if c=true then (∀ cs C s₀ H₀ fp,GE (aS X scope cs C (x::ns) s₀ H₀ fp) elt (some d::cap.map fun k=>(Γ[k]?).join) M3 (fun y M4=>I (i+1) (acc++[y]) M4)) else I (i+1) acc M3)
  (hd:∀ acc M2,I ds.length acc M2→k (.lst acc) M2):aE3 X x ns cap elt ifs scope Γ k ds M1:=⟨hl,I,h0,hs,hd⟩
theorem bC (h:F.nx Γ M):GS X [] Γ M F:=fun σ G H E en rl q=>qY aFT (q.nx σ G H Γ M (Stp.refl rl) en h)
theorem aD (h:G1 X st Γ M { F with nx:=fun Γ' M'=>GS X ss Γ' M' F }):GS X (st::ss) Γ M F:=fun σ G H E en rl q=>by
 refine qY (aDB pUS pUSs) ?_
 refine h σ G H _ en rl ⟨fun σ' G' H' Γ' M' s' en' h' => ?_,q.rt,q.bk,q.ct⟩
 exact h' σ' G' H' E en' s'.rel (q.up s')
theorem aJ (h:G1 X st Γ M F):GS X [st] Γ M F:=fun σ G H E en rl q=>qY (aHC pUS) (h σ G H E en rl q)
theorem i6 (i:Nat) {a:Addr}{ds:List D} (hΓ:Γ[i]?=some (some (.mt a))) (hM:M a=some (.lst ds)) (h:GS X ss (Γ.set i (some (.lst ds))) (delM M a) F):GS X ss Γ M F:=fun σ G H E en rl q=>by
 obtain ⟨vs,x1,x2,s1⟩:=rl.frz hM
 obtain ⟨v,ev,dv⟩:=en.get i _ hΓ
 have dl:Den X.K (upd G a (.lst vs)) (.lst ds) v:=by rw [dv.mt_]; exact fD bB (x2.up s1.gg)
 have en':=(en.up s1.gg).set dl i
 have es:σ.set i (some v)=σ:=by
  apply List.ext_getElem?
  intro j
  rw [List.getElem?_set]
  by_cases z:i=j
  ·subst z
   rw [if_pos rfl,if_pos (List.getElem?_eq_some_iff.mp ev).1,ev]
  ·rw [if_neg z]
 rw [es] at en'
 exact h σ _ H E en' s1.rel (q.up s1)
theorem aP (i:Nat) {x:Str}{pos':Pos} (hN:X.N.Nodup) (h:GE X e Γ M fun d M1=>F.nx (Γ.set i (some d)) M1) (hi:X.N[i]?=some x:=by rfl) (hx:Loc X.env.scope x:=by first | exact Or.inl rfl | exact Or.inr rfl)
  (hs:swapsWith e (some (.Name x pos')) pos.line X.env=pure false:=by rfl) (hf:X.fn x=true∨X.env.scope.names.lookup x=some .local:=by first | exact .inl rfl | exact .inr rfl):G1 X (.Assign [.Name x pos'] e pos) Γ M F:=fun σ G H E en rl q=>by
 refine hU (aJI hN hi hx pU hs hf) ?_
 exact h σ G H _ en rl fun v G1 H1 d M1 s1 e1 h1=>q.nx _ _ _ _ _ s1 ((en.up s1.gg).set e1 i) h1
theorem jO (iy:Nat) {x y:Str}{px py spos:Pos}{elt:Expr}{ifs:List Expr}{scope sc:Scope}{N:List Str} (ns:List Str) (cap:List Nat) (hNd:N.Nodup) (h:GI X (.Name x px) iter Γ M (Comp X x ns cap elt ifs scope Γ fun d M1=>F.nx (Γ.set iy (some d)) M1))
  (hsc:X.env.scope=sc:=by rfl) (hN:X.N=N:=by rfl) (ok:g7 sc scope x ns cap N=true:=by first | decide +kernel | kernel_rfl!) (hiy:N[iy]?=some y:=by rfl) (hyl:sc.names.lookup y=some .local:=by rfl) (hc:X.calm=true:=by rfl) (hs:∀ v,foldedSetIterable iter X.env v=pure v:=by intro _; rfl)
  (hsw:swapsWith (.ListComp elt [⟨.Name x px,iter,ifs,0⟩] scope pos) (some (.Name y py)) spos.line X.env=pure true:=by rfl) :
  G1 X (.Assign [.Name y py] (.ListComp elt [⟨.Name x px,iter,ifs,0⟩] scope pos) spos) Γ M F:=fun σ G H E en rl q=>by
 refine hU (vR (tt:=fun σ H Q=>∀ cs C s₀ H₀ fp,tUIf (aS X scope cs C (x::ns) s₀ H₀ fp) ifs σ H Q) (te:=fun σ H Q=>∀ cs C s₀ H₀ fp,tU (aS X scope cs C (x::ns) s₀ H₀ fp) elt σ H Q) iy ns cap hNd hiy hyl hc hsc hN ok pUI (fun cs C s₀ H₀ fp pins s σ H Q I h=>h cs C s₀ H₀ fp pins s I) (fun cs C s₀ H₀ fp pins s σ H Q I h=>h cs C s₀ H₀ fp pins s I) hs hsw) ?_
 exact aBX h en rl fun v G1 H1 d M1 s1 e1 h1=>q.nx _ _ _ _ _ s1 ((en.up s1.gg).set e1 iy) h1
theorem sM {x:Str}{ns:List Str}{cap:List Nat}{elt:Expr}{ifs:List Expr}{scope:Scope}{ds:List D}{M1:Mem} (hl:ds.length≤sizeLine) (I:Nat→List D→Mem→Prop) (h0:I 0 [] M1)
  (hs:∀ i d acc M2,ds[i]?=some d→I i acc M2→∀ cs C s₀ H₀ fp,GIf (aS X scope cs C (x::ns) s₀ H₀ fp) ifs (some d::cap.map fun k=>(Γ[k]?).join) M2 fun c M3 =>
   if c=true then (∀ cs C s₀ H₀ fp,GE (aS X scope cs C (x::ns) s₀ H₀ fp) elt (some d::cap.map fun k=>(Γ[k]?).join) M3 (fun y M4=>I (i+1) (acc++[y]) M4)) else I (i+1) acc M3)
  (hd:∀ acc M2,I ds.length acc M2→∀ a,M2 a=none→k (.mt a) (updM M2 a (.lst acc))):Comp X x ns cap elt ifs scope Γ k ds M1 :=
 ⟨hl,I,h0,hs,hd⟩
theorem jB (h:GE X e Γ M fun d M1=>GG X tg d Γ M1 F.nx) (hs:swapsWithSole [tg] e pos.line X.env=pure false:=by rfl) (hw:swappedStores [tg] e X.env=pure none:=by rfl)
  (h1:(assignEach [tg] X.env).map (·.2)=[assign tg X.env]:=by rfl):G1 X (.Assign [tg] e pos) Γ M F:=fun σ G H E en rl q=>by
 refine hU (aIC pU pUG hs hw h1) ?_
 exact h σ G H _ en rl fun v G1 H1 d M1 s1 e1 h1=>h1 σ G1 H1 v _ (en.up s1.gg) s1.rel e1 (q.nx.up s1)
theorem aIA (i j:Nat) {x y:Str}{px py pt:Pos}{kt k2 pt2} (hN:X.N.Nodup) (hij:i≠j) (h:GA X [a,b] Γ M fun ds M1=>∃ d1 d2,ds=[d1,d2]∧F.nx ((Γ.set i (some d1)).set j (some d2)) M1) (hi:X.N[i]?=some x:=by rfl) (hj:X.N[j]?=some y:=by rfl)
  (hx:X.env.scope.names.lookup x=some .local:=by rfl) (hy:X.env.scope.names.lookup y=some .local:=by rfl) (hc:X.calm=true:=by rfl)
  (hw:swappedStores [.Tuple [.Name x px, .Name y py] kt pt] (.Tuple [a,b] k2 pt2) X.env=pure (some [x,y]):=by rfl)
  (hs:swapsWithSole [.Tuple [.Name x px, .Name y py] kt pt] (.Tuple [a,b] k2 pt2) pos.line X.env=pure false:=by rfl) :
  G1 X (.Assign [.Tuple [.Name x px, .Name y py] kt pt] (.Tuple [a,b] k2 pt2) pos) Γ M F:=fun σ G H E en rl q=>by
 refine hU (aI7 hc hN hi hj hij hx hy pUA hw hs) ?_
 refine h σ G H _ en rl fun vs G1 H1 ds M1 s1 e1 ⟨d1,d2,ed,h1⟩ => ?_
 subst ed
 obtain ⟨v,u,rfl,dv,du⟩:=dens2 e1
 exact ⟨v,u,rfl,q.nx _ _ _ _ _ s1 (((en.up s1.gg).set dv i).set du j) h1⟩
variable {kg:Gm→Mem→Prop}{d:D}
theorem bT (i:Nat) {x:Str} (hN:X.N.Nodup) (h:kg (Γ.set i (some d)) M) (hi:X.N[i]?=some x:=by rfl) (hx:Loc X.env.scope x:=by first | exact Or.inl rfl | exact Or.inr rfl)
  (hf:X.fn x=true∨X.env.scope.names.lookup x=some .local:=by first | exact .inl rfl | exact .inr rfl):GG X (.Name x pos) d Γ M kg:=fun σ G H v Q en rl e q =>
 m8 (oH hN hi hx hf) (q _ _ _ _ _ (Stp.refl rl) (en.set e i) h)
theorem k8 (h:kg Γ M):GGs X [] [] Γ M kg:=fun σ G H vs Q en rl e q=>wK wW ⟨cF e,q _ _ _ _ _ (Stp.refl rl) en h⟩
theorem cX {tgs:List Expr}{ds:List D} (h:GG X tg d Γ M fun Γ1 M1=>GGs X tgs ds Γ1 M1 kg) (hs:(assignEach (tg::tgs) X.env).map (·.2)=assign tg X.env::(assignEach tgs X.env).map (·.2):=by rfl):GGs X (tg::tgs) (d::ds) Γ M kg:=fun σ G H vs Q en rl e q=>by
 refine wK (pD pUG pUGs hs) ?_
 obtain ⟨v,r,ev,e1,e2⟩:=bV e
 refine ⟨v,r,ev,h σ G H v _ en rl e1 fun σ1 G1 H1 Γ1 M1 s1 en1 h1 => ?_⟩
 exact h1 σ1 G1 H1 r Q en1 s1.rel (e2.up s1.gg) (q.up s1)
theorem qH {tgs:List Expr}{kk:Nat}{n:Nat}{ds:List D} (hl:ds.length=n) (h:GGs X tgs ds Γ M kg) (hc:X.calm=true:=by rfl) (hn:(assignEach tgs X.env).length=n:=by rfl) (hst:(assignEach tgs X.env).findIdx? (·.1)=none:=by rfl) :
  GG X (.Tuple tgs kk pos) (.tup ds) Γ M kg:=fun σ G H v Q en rl e q=>by
 refine m8 (zY hc pUGs hn hst) ?_
 obtain ⟨a,vs,ev,s,dn⟩:=e.tup_
 exact ⟨a,vs,ev,R.seqT rl.same s,by rw [← dn.len]; exact hl,h σ G H vs Q en rl dn q⟩
theorem aI3 {tgs:List Expr}{kk:Nat}{n:Nat}{ds:List D} (hl:ds.length=n) (h:GGs X tgs ds Γ M kg) (hc:X.calm=true:=by rfl) (hn:(assignEach tgs X.env).length=n:=by rfl) (hst:(assignEach tgs X.env).findIdx? (·.1)=none:=by rfl) :
  GG X (.Tuple tgs kk pos) (.lst ds) Γ M kg:=fun σ G H v Q en rl e q=>by
 refine m8 (aIM hc pUGs hn hst) ?_
 obtain ⟨a,vs,ev,s,dn⟩:=e.lst_
 exact ⟨a,vs,ev,SqL.of (rl.same _ _ s),by rw [← dn.len]; exact hl,h σ G H vs Q en rl dn q⟩
theorem vF {i:Expr} (h:GE X o Γ M fun d1 M1=>GE X i Γ M1 fun d2 M2=>∃ a n j ds,d1 = .mt a∧d2 = .int n∧M2 a=some (.lst ds)∧ixN ds.length n=some j∧kg Γ (updM M2 a (.lst (ds.set j d))))
  (ha:∀ v,assign (.Subscript o i pos) X.env v=(do
   let ov ← holding [v] (eval o X.env)
   let iv ← holding [v,ov] (eval i X.env)
   standAt pos
   holding [v,ov,iv] (setItem ov iv v)
   release [v,ov,iv] []):=by intro _; rfl):GG X (.Subscript o i pos) d Γ M kg:=fun σ G H v Q en rl e q=>by
 refine m8 (aAE pU pU aC2 ha) ?_
 refine h σ G H _ en rl fun v1 G1 H1 d1 M1 s1 e1 h1 => ?_
 refine h1 σ G1 H1 _ (en.up s1.gg) s1.rel fun v2 G2 H2 d2 M2 s2 e2 ⟨a,n,j,ds,x1,x2,hm,hj,h2⟩ => ?_
 subst x1 x2
 obtain ⟨_,vs,es,dn⟩:=s2.rel.mem _ _ hm
 have s12:=s1.trans s2
 exact ⟨a,vs,n,j,(e1.up s2.gg).mt_,e2.int_,es,by rw [← dn.len]; exact hj,q _ _ _ _ _ (s12.trans (s2.rel.wr hm (dn.set (e.up s12.gg) j))) (en.up s12.gg) h2⟩
theorem n5 (h:GE X e Γ M fun _ M1=>F.nx Γ M1) (hs:swapsWith e none pos.line X.env=pure false:=by rfl):G1 X (.Expr e pos) Γ M F:=fun σ G H E en rl q =>
 hU (aG2 pU hs) (h σ G H _ en rl fun v G1 H1 d M1 s1 e1 h1=>q.nx _ _ _ _ _ s1 (en.up s1.gg) h1)
theorem aN (h:GE X e Γ M F.rt):G1 X (.Return (some e) pos) Γ M F:=fun σ G H E en rl q=>hU (aJF pU) (h σ G H _ en rl q.rt)
theorem bG {ss1 ss2:List Stmt} (h:GT X c Γ M fun t M1=>if t=true then GS X ss1 Γ M1 F else GS X ss2 Γ M1 F):G1 X (.If c ss1 ss2 pos) Γ M F:=fun σ G H E en rl q=>by
 refine hU (aJS pUT pUSs pUSs) ?_
 refine h σ G H _ en rl fun t G1 H1 M1 s1 h1 => ?_
 cases t with
 | true=>rw [if_pos rfl] at h1 ⊢; exact h1 σ G1 H1 E (en.up s1.gg) s1.rel (q.up s1)
 | false=>rw [if_neg Bool.false_ne_true] at h1 ⊢; exact h1 σ G1 H1 E (en.up s1.gg) s1.rel (q.up s1)
theorem i4 (P:Gm→Mem→Prop) (h:G1 X st Γ M { F with nx:=P }) (h2:∀ Γ' M',P Γ' M'→F.nx Γ' M'):G1 X st Γ M F:=fun σ G H E en rl q=>h σ G H E en rl ⟨fun σ' G' H' Γ' M' s' en' h'=>q.nx σ' G' H' Γ' M' s' en' (h2 _ _ h'),q.rt,q.bk,q.ct⟩
def Loop (X:Cx) (tg:Expr) (body:List Stmt) (Γ:Gm) (F:Fin) (ds:List D) (M:Mem):Prop:=∃ I:Nat→Gm→Mem→Prop,I 0 Γ M ∧
 (∀ i d Γ' M',ds[i]?=some d→I i Γ' M'→GG X tg d Γ' M' fun Γ2 M2=>GS X body Γ2 M2 { F with nx:=I (i+1),ct:=I (i+1),bk:=F.nx })∧∀ Γ' M',I ds.length Γ' M'→F.nx Γ' M'
theorem fN (h:GI X tg iter Γ M (Loop X tg body Γ F)) (hp:PassesOwn (model X.prog X.w) X.A X.env X.xe:=by exact PassesOwn.never) (hc:X.calm=true:=by rfl) (hs:∀ x,foldedSetIterable iter X.env x=pure x:=by intro _; rfl):G1 X (.For tg iter body [] pos) Γ M F:=fun σ G H E en rl q=>by
 refine hU (aJD hp hc pUI pUG pUSs hs) ?_
 refine h σ G H _ en rl fun J G1 H1 ds M1 s1 yd ⟨I,h0,hstep,hend⟩ => ?_
 refine ⟨fun i m σ' H'=>m=ds.length - i∧i≤ds.length∧∃ G' Γ' M',Stp X.K G1 H1 M1 G' H' M'∧EnvR X.K G' Γ' σ'∧I i Γ' M',⟨ds.length,by simp,Nat.zero_le _,G1,Γ,M1,Stp.refl s1.rel,en.up s1.gg,h0⟩,?_⟩
 rintro i m σ2 H2 ⟨rfl,hi,G2,Γ2,M2,s2,en2,hI⟩
 by_cases hlt:i < ds.length
 ·refine .inr ⟨yd.go i G2 H2 M2 s2.gg s2.rel hlt,fun σ' H'=>∃ G' Γ' M',Stp X.K G1 H1 M1 G' H' M'∧EnvR X.K G' Γ' σ'∧I (i+1) Γ' M',fun σ' H' z=>⟨ds.length - (i+1),by omega,rfl,hlt,z⟩,fun x H3 y => ?_⟩
  obtain ⟨G3,d,s3,hd,ex⟩:=yd.yld i G2 H2 M2 x H3 s2.gg s2.rel hlt y
  have s13:=s2.trans s3
  refine hstep i d Γ2 M2 hd hI σ2 G3 H3 x _ (en2.up s3.gg) s3.rel ex fun σ4 G4 H4 Γ4 M4 s4 en4 h4 => ?_
  have s14:=s13.trans s4
  refine h4 σ4 G4 H4 _ en4 s4.rel ⟨fun σ5 G5 H5 Γ5 M5 s5 en5 h5=>⟨G5,Γ5,M5,s14.trans s5,en5,h5⟩,q.rt.up (s1.trans s14),q.nx.up (s1.trans s14),fun σ5 G5 H5 Γ5 M5 s5 en5 h5=>⟨G5,Γ5,M5,s14.trans s5,en5,h5⟩⟩
 ·have e:i=ds.length:=by omega
  subst e
  exact .inl ⟨yd.stop _ G2 H2 M2 s2.gg s2.rel rfl,q.nx _ _ _ _ _ (s1.trans s2) en2 (hend _ _ hI)⟩
theorem lN (I:Nat→Gm→Mem→Prop) {n:Nat} (h0:I n Γ M)
  (hs:∀ m Γ' M',I m Γ' M'→GT X c Γ' M' fun t M1=>if t=true then GS X body Γ' M1 { F with nx:=fun Γ2 M2=>∃ m',m' < m∧I m' Γ2 M2,ct:=fun Γ2 M2=>∃ m',m' < m∧I m' Γ2 M2,bk:=F.nx } else F.nx Γ' M1)
  (hp:PassesOwn (model X.prog X.w) X.A X.env X.xe:=by exact PassesOwn.never):G1 X (.While c body [] pos) Γ M F:=fun σ G H E en rl q=>by
 refine hU (aEJ hp pUT pUSs) ?_
 refine ⟨fun m σ' H'=>∃ G' Γ' M',Stp X.K G H M G' H' M'∧EnvR X.K G' Γ' σ'∧I m Γ' M',⟨n,G,Γ,M,Stp.refl rl,en,h0⟩,?_⟩
 rintro m σ2 H2 ⟨G2,Γ2,M2,s2,en2,hI⟩
 refine hs m Γ2 M2 hI σ2 G2 H2 _ en2 s2.rel fun t G3 H3 M3 s3 h3 => ?_
 have s13:=s2.trans s3
 cases t with
 | true =>
  rw [if_pos rfl] at h3 ⊢
  refine ⟨fun σ' H'=>∃ m',m' < m∧∃ G' Γ' M',Stp X.K G H M G' H' M'∧EnvR X.K G' Γ' σ'∧I m' Γ' M',fun σ' H' z=>z,?_⟩
  refine h3 σ2 G3 H3 _ (en2.up s3.gg) s3.rel ⟨fun σ5 G5 H5 Γ5 M5 s5 en5 ⟨m',hm,h5⟩=>⟨m',hm,G5,Γ5,M5,s13.trans s5,en5,h5⟩,q.rt.up s13,q.nx.up s13,fun σ5 G5 H5 Γ5 M5 s5 en5 ⟨m',hm,h5⟩=>⟨m',hm,G5,Γ5,M5,s13.trans s5,en5,h5⟩⟩
 | false =>
  rw [if_neg Bool.false_ne_true] at h3 ⊢
  exact q.nx _ _ _ _ _ s13 (en2.up s3.gg) h3
end
section
variable {P:Program}{w:World}{K:Fg}{mg:Str→Option Value}{base:Heap}
abbrev cxF (P:Program) (w:World) (K:Fg) (mg:Str→Option Value) (base:Heap) (N:List Str) (x:Str) (st:Stmt) (f:Addr) (cdv:Value) (A:Around) (outer:List Env) (s:Shared) (H:Hp) (E:XK):Cx :=
 (cxOf CX0 P w K mg base N x (aO st) f cdv A outer s H E).nox
theorem bF {x:Str}{st:Stmt}{ps N:List Str}{f:Addr}{fd:FuncData}{n:Nat}{F:Ct} (Df:R.Df K mg x st ps f fd) (S:FnScope N ps (aO st)) (len:∀ ds M k,F ds M k→ds.length=ps.length)
  (h:∀ cdv A outer s H E,Room n (cxF P w K mg base N x st f cdv A outer s H E).A→∀ ds M k,F ds M k →
   GS (cxF P w K mg base N x st f cdv A outer s H E) (eO st) (ds.map some++List.replicate (N.length - ds.length) none) M { nx:=fun _ M'=>k .non M',rt:=k }):FnOk P w K mg base CX0 (n+1) f fd ps (spZ K F):=by
 refine Df.F.ok S (fun vs H Q E h => ?_) (fun cdv A outer s H vs Q E hr hsp => ?_)
 ·obtain ⟨G,M,ds,k,rl,dn,hF,_⟩:=h
  rw [← dn.len]; exact len _ _ _ hF
 ·obtain ⟨G,M,ds,k,rl,dn,hF,q⟩:=hsp
  refine ⟨_,pUSs,?_⟩
  refine h cdv A outer s H E hr ds M k hF (start N vs) G H _ (EnvR.start dn N.length) rl ⟨fun σ' G' H' Γ' M' s' en' h'=>q _ _ _ _ _ s' xB h',q,fun _ _ _ _ _ _ _ h'=>h'.elim,fun _ _ _ _ _ _ _ h'=>h'.elim⟩
end
end Z
namespace Z
open PySem L2
mutual
def eqD:D→D→Bool
 | .non, .non=>true
 | .bl a, .bl b=>a == b
 | .int a, .int b=>a == b
 | .bl a, .int b=>(if a then 1 else 0) == b
 | .int a, .bl b=>a == (if b then 1 else 0)
 | .str a, .str b=>a == b
 | .tup xs, .tup ys=>eqDs xs ys
 | .lst xs, .lst ys=>eqDs xs ys
 | _,_=>false
def eqDs:List D→List D→Bool
 | [],[]=>true
 | x::xs,y::ys=>eqD x y && eqDs xs ys
 | _,_=>false
end
mutual
def okD:Nat→D→Bool
 | _, .non | _, .bl _ | _, .int _ | _, .str _=>true
 | n+1, .tup ds=>okDs n ds
 | n+1, .lst ds=>okDs n ds
 | _,_=>false
def okDs:Nat→List D→Bool
 | _,[]=>true
 | n,d::ds=>okD n d && okDs n ds
end
mutual
theorem eqD_refl:∀ (n:Nat) (d:D),okD n d=true→eqD d d=true
 | _, .non,_=>by simp only [eqD]
 | _, .bl _,_=>by simp only [eqD,beq_self_eq_true]
 | _, .int _,_=>by simp only [eqD,beq_self_eq_true]
 | _, .str _,_=>by simp only [eqD,beq_self_eq_true]
 | n+1, .tup ds,h=>by simp only [okD] at h; simp only [eqD]; exact eqDs_refl n ds h
 | n+1, .lst ds,h=>by simp only [okD] at h; simp only [eqD]; exact eqDs_refl n ds h
 | 0, .tup _,h=>by simp [okD] at h
 | 0, .lst _,h=>by simp [okD] at h
 | _, .mt _,h=>by simp [okD] at h
 | _, .fl _,h=>by simp [okD] at h
theorem eqDs_refl:∀ (n:Nat) (ds:List D),okDs n ds=true→eqDs ds ds=true
 | _,[],_=>by simp only [eqDs]
 | n,d::ds,h=>by
  simp only [okDs,Bool.and_eq_true] at h
  simp only [eqDs,eqD_refl n d h.1,eqDs_refl n ds h.2,Bool.and_true]
end
def eqJ (xs ys:List D) (j:Nat):Bool:=match xs[j]?,ys[j]? with
 | some x,some y=>eqD x y
 | _,_=>true
theorem fG:∀ (xs ys:List D),((List.range (min xs.length ys.length)).all (eqJ xs ys) && xs.length == ys.length)=eqDs xs ys
 | [],[]=>by simp [eqDs]
 | [],_::_=>by simp [eqDs]
 | _::_,[]=>by simp [eqDs]
 | x::xs,y::ys=>by
  have ih:=fG xs ys
  simp only [eqDs,← ih,List.length_cons]
  rw [show min (xs.length+1) (ys.length+1)=min xs.length ys.length+1 by omega,List.range_succ_eq_map,List.all_cons,List.all_map]
  have e1:eqJ (x::xs) (y::ys) 0=eqD x y:=rfl
  have e2:(eqJ (x::xs) (y::ys)) ∘ Nat.succ=eqJ xs ys:=by funext j; rfl
  rw [e1,e2,Bool.and_assoc]
  congr 2
  by_cases h:xs.length=ys.length
  ·rw [h]; simp
  ·rw [beq_eq_false_iff_ne.mpr h,beq_eq_false_iff_ne.mpr (by omega)]
section
variable {X:Cx}{pins:List (Addr × Obj)}{σ:St}{H:Hp}{s:Shared}
mutual
theorem den_inj (I:Inv X pins σ H s):∀ (n:Nat) (d e:D) (v:V),okD n d=true→okD n e=true→Den X.K H d v→Den X.K H e v→d=e
 | n, .non,e,v,h1,h2,x,y=>by
  rw [x.non_] at y
  cases e with
  | non=>rfl
  | bl b=>have:=y.bl_; cases this
  | int b=>have:=y.int_; cases this
  | str b=>have:=y.str_; cases this
  | mt b=>have:=y.mt_; cases this
  | tup b=>obtain ⟨_,_,q,_⟩:=y.tup_; cases q
  | lst b=>obtain ⟨_,_,q,_⟩:=y.lst_; cases q
  | fl b=>obtain ⟨_,_,q,_⟩:=y.fl_; cases q
  | st b=>obtain ⟨_,_,_,q,_⟩:=y.st_; cases q
 | n, .bl b,e,v,h1,h2,x,y=>by
  rw [x.bl_] at y
  cases e with
  | non=>have:=y.non_; cases this
  | bl b=>have:=y.bl_; cases this; rfl
  | int b=>have:=y.int_; cases this
  | str b=>have:=y.str_; cases this
  | mt b=>have:=y.mt_; cases this
  | tup b=>obtain ⟨_,_,q,_⟩:=y.tup_; cases q
  | lst b=>obtain ⟨_,_,q,_⟩:=y.lst_; cases q
  | fl b=>obtain ⟨_,_,q,_⟩:=y.fl_; cases q
  | st b=>obtain ⟨_,_,_,q,_⟩:=y.st_; cases q
 | n, .int b,e,v,h1,h2,x,y=>by
  rw [x.int_] at y
  cases e with
  | non=>have:=y.non_; cases this
  | bl b=>have:=y.bl_; cases this
  | int b=>have:=y.int_; cases this; rfl
  | str b=>have:=y.str_; cases this
  | mt b=>have:=y.mt_; cases this
  | tup b=>obtain ⟨_,_,q,_⟩:=y.tup_; cases q
  | lst b=>obtain ⟨_,_,q,_⟩:=y.lst_; cases q
  | fl b=>obtain ⟨_,_,q,_⟩:=y.fl_; cases q
  | st b=>obtain ⟨_,_,_,q,_⟩:=y.st_; cases q
 | n, .str b,e,v,h1,h2,x,y=>by
  rw [x.str_] at y
  cases e with
  | non=>have:=y.non_; cases this
  | bl b=>have:=y.bl_; cases this
  | int b=>have:=y.int_; cases this
  | str b=>have:=y.str_; cases this; rfl
  | mt b=>have:=y.mt_; cases this
  | tup b=>obtain ⟨_,_,q,_⟩:=y.tup_; cases q
  | lst b=>obtain ⟨_,_,q,_⟩:=y.lst_; cases q
  | fl b=>obtain ⟨_,_,q,_⟩:=y.fl_; cases q
  | st b=>obtain ⟨_,_,_,q,_⟩:=y.st_; cases q
 | n, .mt _,_,_,h1,_,_,_=>by simp [okD] at h1
 | n, .fl _,_,_,h1,_,_,_=>by simp [okD] at h1
 | 0, .tup _,_,_,h1,_,_,_=>by simp [okD] at h1
 | 0, .lst _,_,_,h1,_,_,_=>by simp [okD] at h1
 | n+1, .tup ds,e,v,h1,h2,x,y=>by
  obtain ⟨a,vs,rfl,sq,dn⟩:=x.tup_
  cases e with
  | non=>have:=y.non_; cases this
  | bl b=>have:=y.bl_; cases this
  | int b=>have:=y.int_; cases this
  | str b=>have:=y.str_; cases this
  | mt b=>simp [okD] at h2
  | fl b=>simp [okD] at h2
  | st b=>simp [okD] at h2
  | tup es =>
   obtain ⟨b,ws,q,sq2,dn2⟩:=y.tup_
   cases q
   rw [← I.tuple_inj sq sq2] at dn2
   simp only [okD] at h1 h2
   rw [dens_inj I n ds es vs h1 h2 dn dn2]
  | lst es =>
   obtain ⟨b,ws,q,sq2,dn2⟩:=y.lst_
   cases q
   exfalso
   obtain ⟨its,_,pt,_⟩:=I.tuple sq
   obtain ⟨jts,_,pl,_⟩:=I.list (SqL.of sq2)
   obtain ⟨o,e1,c1,_⟩:=pt
   obtain ⟨o2,n2,e2,c2,_⟩:=pl
   rw [e1] at e2; cases e2
   rw [c1] at c2; exact absurd c2 (by simp)
 | n+1, .lst ds,e,v,h1,h2,x,y=>by
  obtain ⟨a,vs,rfl,sq,dn⟩:=x.lst_
  cases e with
  | non=>have:=y.non_; cases this
  | bl b=>have:=y.bl_; cases this
  | int b=>have:=y.int_; cases this
  | str b=>have:=y.str_; cases this
  | mt b=>simp [okD] at h2
  | fl b=>simp [okD] at h2
  | st b=>simp [okD] at h2
  | lst es =>
   obtain ⟨b,ws,q,sq2,dn2⟩:=y.lst_
   cases q
   rw [sq] at sq2; cases sq2
   simp only [okD] at h1 h2
   rw [dens_inj I n ds es vs h1 h2 dn dn2]
  | tup es =>
   obtain ⟨b,ws,q,sq2,dn2⟩:=y.tup_
   cases q
   exfalso
   obtain ⟨its,_,pt,_⟩:=I.tuple sq2
   obtain ⟨jts,_,pl,_⟩:=I.list (SqL.of sq)
   obtain ⟨o,e1,c1,_⟩:=pt
   obtain ⟨o2,n2,e2,c2,_⟩:=pl
   rw [e1] at e2; cases e2
   rw [c1] at c2; exact absurd c2 (by simp)
theorem dens_inj (I:Inv X pins σ H s):∀ (n:Nat) (ds es:List D) (vs:List V),okDs n ds=true→okDs n es=true→Dens X.K H ds vs→Dens X.K H es vs→ds=es
 | _,[],es,vs,_,_,x,y=>by
  rw [cF x] at y
  cases es with
  | nil=>rfl
  | cons e es=>obtain ⟨_,_,q,_⟩:=bV y; cases q
 | n,d::ds,es,vs,h1,h2,x,y=>by
  obtain ⟨v,r,rfl,a,b⟩:=bV x
  cases es with
  | nil=>have:=cF y; cases this
  | cons e es =>
   obtain ⟨_,_,q,a2,b2⟩:=bV y
   cases q
   simp only [okDs,Bool.and_eq_true] at h1 h2
   rw [den_inj I n d e v h1.1 h2.1 a a2,dens_inj I n ds es r h1.2 h2.2 b b2]
end
end
end Z
namespace Z
open PySem L2
section
variable {X:Cx}{pins:List (Addr × Obj)}{σ:St}{H:Hp}{s:Shared}
theorem dF (I:Inv X pins σ H s) {ds:List D}{v:V}{u:Value} (h:Den X.K H (.tup ds) v) (r:RelV v u):∃ a its vs,u = .ref a∧s.heap.IsTuple a (List.toArray its)∧Vals vs its∧Dens X.K H ds vs:=by
 obtain ⟨a,vs,rfl,sq,dn⟩:=h.tup_
 obtain ⟨its,rv,pt,_⟩:=I.tuple sq
 exact ⟨a,its,vs,r,pt,rv,dn⟩
theorem dC (I:Inv X pins σ H s) {ds:List D}{v:V}{u:Value} (h:Den X.K H (.lst ds) v) (r:RelV v u):∃ a its vs,u = .ref a∧s.heap.IsList a (List.toArray its)∧Vals vs its∧Dens X.K H ds vs:=by
 obtain ⟨a,vs,rfl,sq,dn⟩:=h.lst_
 obtain ⟨its,rv,pt,_⟩:=I.list (SqL.of sq)
 exact ⟨a,its,vs,r,pt.isList,rv,dn⟩
theorem cC:∀ {n:Nat}{ds:List D}{j:Nat}{d:D},okDs n ds=true→ds[j]?=some d→okD n d=true
 | _,[],_,_,_,e=>by simp at e
 | n,d0::ds,0,d,h,e=>by simp at e; subst e; simp only [okDs,Bool.and_eq_true] at h; exact h.1
 | n,d0::ds,j+1,d,h,e=>by simp only [okDs,Bool.and_eq_true] at h; exact cC (j:=j) h.2 (by simpa using e)
theorem dU {ds:List D}{vs:List V}{its:List Value} (dn:Dens X.K H ds vs) (rv:Vals vs its) {j:Nat} (h:j < its.toArray.size):∃ d v,ds[j]?=some d∧Den X.K H d v∧RelV v its.toArray[j]:=by
 obtain ⟨v,e1,r1⟩:=aG6 rv h
 obtain ⟨d,e2,q⟩:=dn.get' e1
 exact ⟨d,v,e2,q,r1⟩
mutual
theorem eqAt_D (I:Inv X pins σ H s):∀ (d:D) (n:Nat) (e:D) (v u:V) (v' u':Value) (A:Around),okD n d=true→okD n e=true→Den X.K H d v→Den X.K H e u→RelV v v'→RelV u u'→A.units+n < cLine→SeqAt.EqAt A s v' u' (eqD d e)
 | .non,n,e,v,u,v',u',A,h1,h2,x,y,rx,ry,hu=>by
  rw [x.non_] at rx; cases (show v'=Value.none from rx)
  cases e with
  | non=>rw [y.non_] at ry; cases (show u'=Value.none from ry); simp only [eqD]; exact SeqAt.EqAt.same _
  | bl b=>rw [y.bl_] at ry; cases (show u'=Value.bool b from ry); simp only [eqD]; exact SeqAt.EqAt.none_bool b
  | int b=>rw [y.int_] at ry; obtain ⟨t,rfl⟩:=ry; simp only [eqD]; exact SeqAt.EqAt.none_int b t
  | str b=>rw [y.str_] at ry; obtain ⟨t,rfl⟩:=ry; simp only [eqD]; exact SeqAt.EqAt.none_str b t
  | mt b=>simp [okD] at h2
  | fl b=>simp [okD] at h2
  | st b=>simp [okD] at h2
  | tup es=>obtain ⟨a,its,vs,rfl,it,_⟩:=dF I y ry; simp only [eqD]; exact SeqAt.EqAt.none_tuple it (by omega)
  | lst es=>obtain ⟨a,its,vs,rfl,it,_⟩:=dC I y ry; simp only [eqD]; exact SeqAt.EqAt.none_list it (by omega)
 | .bl c,n,e,v,u,v',u',A,h1,h2,x,y,rx,ry,hu=>by
  rw [x.bl_] at rx; cases (show v'=Value.bool c from rx)
  cases e with
  | non=>rw [y.non_] at ry; cases (show u'=Value.none from ry); simp only [eqD]; exact SeqAt.EqAt.bool_none c
  | bl b=>rw [y.bl_] at ry; cases (show u'=Value.bool b from ry); simp only [eqD]; exact SeqAt.EqAt.bool_bool c b
  | int b=>rw [y.int_] at ry; obtain ⟨t,rfl⟩:=ry; simp only [eqD]; exact SeqAt.EqAt.bool_int c b t
  | str b=>rw [y.str_] at ry; obtain ⟨t,rfl⟩:=ry; simp only [eqD]; exact SeqAt.EqAt.bool_str c b t
  | mt b=>simp [okD] at h2
  | fl b=>simp [okD] at h2
  | st b=>simp [okD] at h2
  | tup es=>obtain ⟨a,its,vs,rfl,it,_⟩:=dF I y ry; simp only [eqD]; exact SeqAt.EqAt.bool_tuple c it (by omega)
  | lst es=>obtain ⟨a,its,vs,rfl,it,_⟩:=dC I y ry; simp only [eqD]; exact SeqAt.EqAt.bool_list c it (by omega)
 | .int c,n,e,v,u,v',u',A,h1,h2,x,y,rx,ry,hu=>by
  rw [x.int_] at rx; obtain ⟨t0,rfl⟩:=rx
  cases e with
  | non=>rw [y.non_] at ry; cases (show u'=Value.none from ry); simp only [eqD]; exact SeqAt.EqAt.int_none c t0
  | bl b=>rw [y.bl_] at ry; cases (show u'=Value.bool b from ry); simp only [eqD]; exact SeqAt.EqAt.int_bool c t0 b
  | int b=>rw [y.int_] at ry; obtain ⟨t,rfl⟩:=ry; simp only [eqD]; exact SeqAt.EqAt.int_int c t0 b t
  | str b=>rw [y.str_] at ry; obtain ⟨t,rfl⟩:=ry; simp only [eqD]; exact SeqAt.EqAt.int_str c t0 b t
  | mt b=>simp [okD] at h2
  | fl b=>simp [okD] at h2
  | st b=>simp [okD] at h2
  | tup es=>obtain ⟨a,its,vs,rfl,it,_⟩:=dF I y ry; simp only [eqD]; exact SeqAt.EqAt.int_tuple c t0 it (by omega)
  | lst es=>obtain ⟨a,its,vs,rfl,it,_⟩:=dC I y ry; simp only [eqD]; exact SeqAt.EqAt.int_list c t0 it (by omega)
 | .str c,n,e,v,u,v',u',A,h1,h2,x,y,rx,ry,hu=>by
  rw [x.str_] at rx; obtain ⟨t0,rfl⟩:=rx
  cases e with
  | non=>rw [y.non_] at ry; cases (show u'=Value.none from ry); simp only [eqD]; exact SeqAt.EqAt.str_none c t0
  | bl b=>rw [y.bl_] at ry; cases (show u'=Value.bool b from ry); simp only [eqD]; exact SeqAt.EqAt.str_bool c t0 b
  | int b=>rw [y.int_] at ry; obtain ⟨t,rfl⟩:=ry; simp only [eqD]; exact SeqAt.EqAt.str_int c t0 b t
  | str b=>rw [y.str_] at ry; obtain ⟨t,rfl⟩:=ry; simp only [eqD]; exact SeqAt.EqAt.str_str c t0 b t
  | mt b=>simp [okD] at h2
  | fl b=>simp [okD] at h2
  | st b=>simp [okD] at h2
  | tup es=>obtain ⟨a,its,vs,rfl,it,_⟩:=dF I y ry; simp only [eqD]; exact SeqAt.EqAt.str_tuple c t0 it (by omega)
  | lst es=>obtain ⟨a,its,vs,rfl,it,_⟩:=dC I y ry; simp only [eqD]; exact SeqAt.EqAt.str_list c t0 it (by omega)
 | .mt _,n,_,_,_,_,_,_,h1,_,_,_,_,_,_=>by simp [okD] at h1
 | .fl _,n,_,_,_,_,_,_,h1,_,_,_,_,_,_=>by simp [okD] at h1
 | .st _,n,_,_,_,_,_,_,h1,_,_,_,_,_,_=>by simp [okD] at h1
 | .tup ds,0,_,_,_,_,_,_,h1,_,_,_,_,_,_=>by simp [okD] at h1
 | .lst ds,0,_,_,_,_,_,_,h1,_,_,_,_,_,_=>by simp [okD] at h1
 | .tup ds,n+1,e,v,u,v',u',A,h1,h2,x,y,rx,ry,hu=>by
  obtain ⟨a,its,vs,rfl,it,rv,dn⟩:=dF I x rx
  cases e with
  | non=>rw [y.non_] at ry; cases (show u'=Value.none from ry); simp only [eqD]; exact SeqAt.EqAt.tuple_none it (by omega)
  | bl b=>rw [y.bl_] at ry; cases (show u'=Value.bool b from ry); simp only [eqD]; exact SeqAt.EqAt.tuple_bool b it (by omega)
  | int b=>rw [y.int_] at ry; obtain ⟨t,rfl⟩:=ry; simp only [eqD]; exact SeqAt.EqAt.tuple_int b t it (by omega)
  | str b=>rw [y.str_] at ry; obtain ⟨t,rfl⟩:=ry; simp only [eqD]; exact SeqAt.EqAt.tuple_str b t it (by omega)
  | mt b=>simp [okD] at h2
  | fl b=>simp [okD] at h2
  | st b=>simp [okD] at h2
  | lst es=>obtain ⟨b,its2,vs2,rfl,it2,_⟩:=dC I y ry; simp only [eqD]; exact SeqAt.EqAt.tuple_list it it2 (by omega)
  | tup es =>
   obtain ⟨b,its2,vs2,rfl,it2,rv2,dn2⟩:=dF I y ry
   have k1:okDs n ds=true:=by simpa only [okD] using h1
   have k2:okDs n es=true:=by simpa only [okD] using h2
   by_cases hab:a=b
   ·subst hab
    have e0:D.tup ds=D.tup es:=den_inj I (n+1) _ _ v h1 h2 x (by
     have:v=u:=by
      obtain ⟨_,_,e3,_⟩:=x.tup_
      obtain ⟨_,_,e4,_⟩:=y.tup_
      rw [e3] at rx; rw [e4] at ry
      cases rx; cases ry; rw [e3,e4]
     rw [this]; exact y)
    rw [← e0,eqD_refl (n+1) _ h1]
    exact SeqAt.EqAt.same _
   ·have:=SeqAt.RcAt.tuples (A:=A) (s:=s) (e:=eqJ ds es) it it2 (by omega) (fun j g1 g2=>by
     obtain ⟨c,v1,e1,q1,r1⟩:=dU dn rv g1
     obtain ⟨c2,v2,e2,q2,r2⟩:=dU dn2 rv2 g2
     have:=eqAts_D I ds n j c e1 c2 v1 v2 _ _ A.in1 (cC k1 e1) (cC k2 e2) q1 q2 r1 r2 (by show A.units+1+n < cLine; omega)
     unfold eqJ; rw [e1,e2]; exact this)
    rw [List.size_toArray,List.size_toArray,← rv.length,← rv2.length,← dn.len,← dn2.len,fG] at this
    simp only [eqD]
    exact SeqAt.EqAt.of_refs hab this
 | .lst ds,n+1,e,v,u,v',u',A,h1,h2,x,y,rx,ry,hu=>by
  obtain ⟨a,its,vs,rfl,it,rv,dn⟩:=dC I x rx
  cases e with
  | non=>rw [y.non_] at ry; cases (show u'=Value.none from ry); simp only [eqD]; exact SeqAt.EqAt.list_none it (by omega)
  | bl b=>rw [y.bl_] at ry; cases (show u'=Value.bool b from ry); simp only [eqD]; exact SeqAt.EqAt.list_bool b it (by omega)
  | int b=>rw [y.int_] at ry; obtain ⟨t,rfl⟩:=ry; simp only [eqD]; exact SeqAt.EqAt.list_int b t it (by omega)
  | str b=>rw [y.str_] at ry; obtain ⟨t,rfl⟩:=ry; simp only [eqD]; exact SeqAt.EqAt.list_str b t it (by omega)
  | mt b=>simp [okD] at h2
  | fl b=>simp [okD] at h2
  | st b=>simp [okD] at h2
  | tup es=>obtain ⟨b,its2,vs2,rfl,it2,_⟩:=dF I y ry; simp only [eqD]; exact SeqAt.EqAt.list_tuple it it2 (by omega)
  | lst es =>
   obtain ⟨b,its2,vs2,rfl,it2,rv2,dn2⟩:=dC I y ry
   have k1:okDs n ds=true:=by simpa only [okD] using h1
   have k2:okDs n es=true:=by simpa only [okD] using h2
   by_cases hab:a=b
   ·subst hab
    have e0:D.lst ds=D.lst es:=den_inj I (n+1) _ _ v h1 h2 x (by
     have:v=u:=by
      obtain ⟨_,_,e3,_⟩:=x.lst_
      obtain ⟨_,_,e4,_⟩:=y.lst_
      rw [e3] at rx; rw [e4] at ry
      cases rx; cases ry; rw [e3,e4]
     rw [this]; exact y)
    rw [← e0,eqD_refl (n+1) _ h1]
    exact SeqAt.EqAt.same _
   ·simp only [eqD]
    refine SeqAt.EqAt.of_refs hab ?_
    by_cases hl:ds.length=es.length
    ·have hsz:its.toArray.size=its2.toArray.size:=by rw [List.size_toArray,List.size_toArray,← rv.length,← rv2.length,← dn.len,← dn2.len,hl]
     have:=SeqAt.RcAt.lists (A:=A) (s:=s) (e:=eqJ ds es) it it2 hsz (by omega) (fun j g1 g2=>by
      obtain ⟨c,v1,e1,q1,r1⟩:=dU dn rv g1
      obtain ⟨c2,v2,e2,q2,r2⟩:=dU dn2 rv2 g2
      have:=eqAts_D I ds n j c e1 c2 v1 v2 _ _ A.in1 (cC k1 e1) (cC k2 e2) q1 q2 r1 r2 (by show A.units+1+n < cLine; omega)
      unfold eqJ; rw [e1,e2]; exact this)
     have e3:=fG ds es
     rw [← hl,Nat.min_self,beq_self_eq_true,Bool.and_true] at e3
     rw [List.size_toArray,← rv.length,← dn.len,e3] at this
     exact this
    ·have hsz:(its.toArray.size != its2.toArray.size)=true:=by rw [bne_iff_ne,List.size_toArray,List.size_toArray,← rv.length,← rv2.length,← dn.len,← dn2.len]; exact hl
     have e3:=fG ds es
     rw [beq_eq_false_iff_ne.mpr hl,Bool.and_false] at e3
     rw [← e3]
     exact SeqAt.RcAt.lists_lengths it it2 hsz (by omega)
theorem eqAts_D (I:Inv X pins σ H s):∀ (ds:List D) (n j:Nat) (d:D),ds[j]?=some d→∀ (e:D) (v u:V) (v' u':Value) (A:Around),okD n d=true→okD n e=true→Den X.K H d v→Den X.K H e u→RelV v v'→RelV u u'→A.units+n < cLine→SeqAt.EqAt A s v' u' (eqD d e)
 | [],_,_,_,q=>by simp at q
 | d0::ds,n,0,d,q=>by
  simp at q; subst q
  exact fun e v u v' u' A=>eqAt_D I d0 n e v u v' u' A
 | d0::ds,n,j+1,d,q=>eqAts_D I ds n j d (by simpa using q)
end
inductive Disp:D→Prop
 | tup (ds:List D):Disp (.tup ds)
 | lst (ds:List D):Disp (.lst ds)
inductive Rs (M:Mem):D→D→Prop
 | tup (ds:List D):Rs M (.tup ds) (.tup ds)
 | lst (ds:List D):Rs M (.lst ds) (.lst ds)
 | mt {a:Addr}{ds:List D} (h:M a=some (.lst ds)):Rs M (.mt a) (.lst ds)
theorem Rs.disp {M:Mem}{d e:D} (h:Rs M d e):Disp e:=by cases h <;> constructor
theorem Rs.den {K:Fg}{G H:Hp}{M:Mem}{d e:D}{v:V} (h:Rs M d e) (rl:Rel K G H M) (q:Den K G d v):Den K H e v:=by
 cases h with
 | tup ds=>exact q.up rl.same
 | lst ds=>exact q.up rl.same
 | mt hm =>
  obtain ⟨_,vs,e1,dn⟩:=rl.mem _ _ hm
  rw [q.mt_]; exact fD e1 (dn.up rl.same)
def rEqD (K:Fg) (n:Nat) (neg:Bool):R2:=fun x y H Q=>∃ d e,Disp d∧Disp e∧okD n d=true∧okD n e=true∧Den K H d x∧Den K H e y∧Q (.bl (if neg then !eqD d e else eqD d e)) H
theorem rc_D (I:Inv X pins σ H s) {n:Nat}{d e:D}{v u:V}{v' u':Value} (A:Around) (g1:Disp d) (g2:Disp e) (h1:okD n d=true) (h2:okD n e=true) (x:Den X.K H d v) (y:Den X.K H e u) (rx:RelV v v') (ry:RelV u u') (hu:A.units+n < cLine):SeqAt.RcAt A s v' u' (eqD d e):=by
 cases g1 with
 | tup ds =>
  obtain ⟨a,its,vs,rfl,it,rv,dn⟩:=dF I x rx
  cases g2 with
  | lst es=>obtain ⟨b,its2,vs2,rfl,it2,_⟩:=dC I y ry; simp only [eqD]; exact SeqAt.RcAt.tuple_list it it2 (by omega)
  | tup es =>
   obtain ⟨b,its2,vs2,rfl,it2,rv2,dn2⟩:=dF I y ry
   cases n with
   | zero=>simp [okD] at h1
   | succ n =>
    have k1:okDs n ds=true:=by simpa only [okD] using h1
    have k2:okDs n es=true:=by simpa only [okD] using h2
    have:=SeqAt.RcAt.tuples (A:=A) (s:=s) (e:=eqJ ds es) it it2 (by omega) (fun j g1 g2=>by
     obtain ⟨c,v1,e1,q1,r1⟩:=dU dn rv g1
     obtain ⟨c2,v2,e2,q2,r2⟩:=dU dn2 rv2 g2
     have:=eqAt_D I c n c2 v1 v2 _ _ A.in1 (cC k1 e1) (cC k2 e2) q1 q2 r1 r2 (by show A.units+1+n < cLine; omega)
     unfold eqJ; rw [e1,e2]; exact this)
    rw [List.size_toArray,List.size_toArray,← rv.length,← rv2.length,← dn.len,← dn2.len,fG] at this
    simp only [eqD]; exact this
 | lst ds =>
  obtain ⟨a,its,vs,rfl,it,rv,dn⟩:=dC I x rx
  cases g2 with
  | tup es=>obtain ⟨b,its2,vs2,rfl,it2,_⟩:=dF I y ry; simp only [eqD]; exact SeqAt.RcAt.list_tuple it it2 (by omega)
  | lst es =>
   obtain ⟨b,its2,vs2,rfl,it2,rv2,dn2⟩:=dC I y ry
   cases n with
   | zero=>simp [okD] at h1
   | succ n =>
    have k1:okDs n ds=true:=by simpa only [okD] using h1
    have k2:okDs n es=true:=by simpa only [okD] using h2
    simp only [eqD]
    by_cases hl:ds.length=es.length
    ·have hsz:its.toArray.size=its2.toArray.size:=by rw [List.size_toArray,List.size_toArray,← rv.length,← rv2.length,← dn.len,← dn2.len,hl]
     have:=SeqAt.RcAt.lists (A:=A) (s:=s) (e:=eqJ ds es) it it2 hsz (by omega) (fun j g1 g2=>by
      obtain ⟨c,v1,e1,q1,r1⟩:=dU dn rv g1
      obtain ⟨c2,v2,e2,q2,r2⟩:=dU dn2 rv2 g2
      have:=eqAt_D I c n c2 v1 v2 _ _ A.in1 (cC k1 e1) (cC k2 e2) q1 q2 r1 r2 (by show A.units+1+n < cLine; omega)
      unfold eqJ; rw [e1,e2]; exact this)
     have e3:=fG ds es
     rw [← hl,Nat.min_self,beq_self_eq_true,Bool.and_true] at e3
     rw [List.size_toArray,← rv.length,← dn.len,e3] at this
     exact this
    ·have hsz:(its.toArray.size != its2.toArray.size)=true:=by rw [bne_iff_ne,List.size_toArray,List.size_toArray,← rv.length,← rv2.length,← dn.len,← dn2.len]; exact hl
     have e3:=fG ds es
     rw [beq_eq_false_iff_ne.mpr hl,Bool.and_false] at e3
     rw [← e3]
     exact SeqAt.RcAt.lists_lengths it it2 hsz (by omega)
end
section
variable {X:Cx}
theorem jH {n:Nat} (hu:X.A.units+n < cLine):OpR X (compareOp .Eq) (rEqD X.K n false):=by
 intro pins s σ H x y v u Q I rx ry h
 obtain ⟨d,e,g1,g2,h1,h2,dx,dy,q⟩:=h
 exact rc_D I X.A g1 g2 h1 h2 dx dy rx ry hu X.prog X.w X.xe _ ⟨.bl (eqD d e),H,I,rfl,q⟩
theorem jE {K:Fg}{n:Nat}{M:Mem}{k:D→Mem→Prop}{d1 d2 e1 e2:D} (r1:Rs M d1 e1) (r2:Rs M d2 e2) (h1:okD n e1=true) (h2:okD n e2=true) (h:k (.bl (eqD e1 e2)) M):Op2 K (rEqD K n false) d1 d2 M k:=fun G H v1 v2 Q rl x y q =>
 ⟨e1,e2,r1.disp,r2.disp,h1,h2,r1.den rl x,r2.den rl y,q _ _ _ _ _ (Stp.refl rl) d6 h⟩
end
end Z
namespace Z
open PySem L2
mutual
def toPy:D→PyData
 | .non => .none
 | .bl b => .bool b
 | .int i => .int i
 | .str x => .str x
 | .tup ds => .tuple (toPys ds)
 | .lst ds => .list (toPys ds)
 | .mt _ => .none
 | .fl _ => .none
 | .st _ => .none
def toPys:List D→List PyData
 | []=>[]
 | d::ds=>toPy d::toPys ds
end
mutual
theorem depth_le:∀ (d:D) (n:Nat),okD n d=true→(toPy d).depth≤n
 | .non,_,_=>by simp [toPy,PyData.depth]
 | .bl _,_,_=>by simp [toPy,PyData.depth]
 | .int _,_,_=>by simp [toPy,PyData.depth]
 | .str _,_,_=>by simp [toPy,PyData.depth]
 | .mt _,n,h=>by simp [okD] at h
 | .fl _,n,h=>by simp [okD] at h
 | .st _,n,h=>by simp [okD] at h
 | .tup ds,0,h=>by simp [okD] at h
 | .lst ds,0,h=>by simp [okD] at h
 | .tup ds,n+1,h=>by
  simp only [toPy,PyData.depth]
  have:=depths_le ds n (by simpa only [okD] using h)
  omega
 | .lst ds,n+1,h=>by
  simp only [toPy,PyData.depth]
  have:=depths_le ds n (by simpa only [okD] using h)
  omega
theorem depths_le:∀ (ds:List D) (n:Nat),okDs n ds=true→PyData.depthAll (toPys ds)≤n
 | [],_,_=>by simp [toPys,PyData.depthAll]
 | d::ds,n,h=>by
  simp only [okDs,Bool.and_eq_true] at h
  simp only [toPys,PyData.depthAll]
  have h1:=depth_le d n h.1
  have h2:=depths_le ds n h.2
  omega
end
mutual
theorem noDict:∀ (d:D),(toPy d).hasDict=false
 | .non=>by simp only [toPy,PyData.hasDict]
 | .bl _=>by simp only [toPy,PyData.hasDict]
 | .int _=>by simp only [toPy,PyData.hasDict]
 | .str _=>by simp only [toPy,PyData.hasDict]
 | .mt _=>by simp only [toPy,PyData.hasDict]
 | .fl _=>by simp only [toPy,PyData.hasDict]
 | .st _=>by simp only [toPy,PyData.hasDict]
 | .tup ds=>by simp only [toPy,PyData.hasDict]; exact noDicts ds
 | .lst ds=>by simp only [toPy,PyData.hasDict]; exact noDicts ds
theorem noDicts:∀ (ds:List D),PyData.hasDictAll (toPys ds)=false
 | []=>by simp only [toPys,PyData.hasDictAll]
 | d::ds=>by simp only [toPys,PyData.hasDictAll,noDict d,noDicts ds,Bool.or_false]
end
section
variable {X:Cx}{pins:List (Addr × Obj)}{σ:St}{H:Hp}{s:Shared}
mutual
theorem reads_D (I:Inv X pins σ H s):∀ (d:D) (n:Nat) (v:V) (u:Value),okD n d=true→Den X.K H d v→RelV v u→∃ as,Reads s.heap u (toPy d) as
 | .non,_,v,u,_,x,r=>by rw [x.non_] at r; cases (show u=Value.none from r); exact ⟨_,by simp only [toPy]; exact .none⟩
 | .bl b,_,v,u,_,x,r=>by rw [x.bl_] at r; cases (show u=Value.bool b from r); exact ⟨_,by simp only [toPy]; exact .bool b⟩
 | .int b,_,v,u,_,x,r=>by rw [x.int_] at r; obtain ⟨t,rfl⟩:=r; exact ⟨_,by simp only [toPy]; exact .int b t⟩
 | .str b,_,v,u,_,x,r=>by rw [x.str_] at r; obtain ⟨t,rfl⟩:=r; exact ⟨_,by simp only [toPy]; exact .str b t⟩
 | .mt _,n,_,_,h,_,_=>by simp [okD] at h
 | .fl _,n,_,_,h,_,_=>by simp [okD] at h
 | .st _,n,_,_,h,_,_=>by simp [okD] at h
 | .tup ds,0,_,_,h,_,_=>by simp [okD] at h
 | .lst ds,0,_,_,h,_,_=>by simp [okD] at h
 | .tup ds,n+1,v,u,h,x,r=>by
  obtain ⟨a,its,vs,rfl,⟨o,e1,e2,m,e3⟩,rv,dn⟩:=dF I x r
  obtain ⟨as,q⟩:=readss_D I ds n vs its (by simpa only [okD] using h) dn rv
  exact ⟨as,by simp only [toPy]; exact .tuple e1 e2 e3 (by simpa using q)⟩
 | .lst ds,n+1,v,u,h,x,r=>by
  obtain ⟨a,its,vs,rfl,⟨o,e1,e2,m,e3⟩,rv,dn⟩:=dC I x r
  obtain ⟨as,q⟩:=readss_D I ds n vs its (by simpa only [okD] using h) dn rv
  exact ⟨a::as,by simp only [toPy]; exact .list e1 e2 e3 (by simpa using q)⟩
theorem readss_D (I:Inv X pins σ H s):∀ (ds:List D) (n:Nat) (vs:List V) (us:List Value),okDs n ds=true→Dens X.K H ds vs→Vals vs us→∃ as,ReadsAll s.heap us (toPys ds) as
 | [],_,vs,us,_,x,r=>by
  rw [cF x] at r
  cases r
  exact ⟨[],by simp only [toPys]; exact .nil⟩
 | d::ds,n,vs,us,h,x,r=>by
  obtain ⟨v,t,rfl,a,b⟩:=bV x
  cases r with
  | cons r1 r2 =>
   simp only [okDs,Bool.and_eq_true] at h
   obtain ⟨as,q⟩:=reads_D I d n v _ h.1 a r1
   obtain ⟨bs,q2⟩:=readss_D I ds n t _ h.2 b r2
   exact ⟨as++bs,by simp only [toPys]; exact .cons q q2⟩
end
end
section
variable {X:Cx}
def zK (K:Fg) (n:Nat):List V→Hp→VK→Prop:=fun xs H Q=>∃ x d,xs=[x]∧Disp d∧okD n d=true∧Den K H d x∧(toPy d).showable=true∧(toPy d).shown.length≤sizeLine∧Q (.str (toPy d).shown) H
theorem kL {n:Nat} (hu:X.A.units+(n+1) < cLine) (hg:X.A.guards=some []):eW X (.builtin "repr") (zK X.K n):=by
 intro pins s σ H xs us Q I r h
 obtain ⟨x,d,rfl,hd,ok,dx,hs,hz,q⟩:=h
 obtain ⟨u,rfl,rx⟩:=vals1 r
 obtain ⟨as,rd⟩:=reads_D I d n x u ok dx rx
 have hr:∃ a,u = .ref a:=by
  cases hd with
  | tup ds=>obtain ⟨a,_,_,e,_⟩:=dF I dx rx; exact ⟨a,e⟩
  | lst ds=>obtain ⟨a,_,_,e,_⟩:=dC I dx rx; exact ⟨a,e⟩
 obtain ⟨a,rfl⟩:=hr
 have hdp:=depth_le d n ok
 refine repr_of_reads' rd hs (PyData.noDict_hsm (noDict d)) hg (by omega) (fun _ _ e=>e) (fun h' t tk hk => ?_) hz
 exact ⟨.str _,H,I.kept (t':=tk) hk,⟨t,rfl⟩,q⟩
theorem aGR {K:Fg}{n:Nat}{M:Mem}{k:D→Mem→Prop}{d e:D} (r:Rs M d e) (ok:okD n e=true) (hs:(toPy e).showable=true) (hz:(toPy e).shown.length≤sizeLine) (h:k (.str (toPy e).shown) M):OpN K (zK K n) [d] M k:=fun G H vs Q rl x q=>by
 obtain ⟨v,rfl,dv⟩:=dens1 x
 exact ⟨v,e,rfl,r.disp,ok,r.den rl dv,hs,hz,q _ _ _ _ _ (Stp.refl rl) f6 h⟩
theorem aHM {x y:Value} (h:(x == y)=true):x=y:=eq_of_beq h
def eOf (ds:List D) (its:List Value) (c:D) (y:Value):Bool:=match (its.zip ds).find? (fun p=>p.1 == y) with
 | some p=>eqD p.2 c
 | none=>false
theorem vL {pins:List (Addr × Obj)}{σ:St}{H:Hp}{s:Shared} (I:Inv X pins σ H s) {n:Nat}{ds:List D}{vs:List V}{its:List Value} (ok:okDs n ds=true) (dn:Dens X.K H ds vs) (rv:Vals vs its) {c:D}{j:Nat}{y:Value}{d:D}
  (hy:its[j]?=some y) (hd:ds[j]?=some d):eOf ds its c y=eqD d c:=by
 unfold eOf
 have hl:its.length=ds.length:=by rw [dn.len,rv.length]
 have hz:(its.zip ds)[j]?=some (y,d):=by rw [List.getElem?_zip_eq_some]; exact ⟨hy,hd⟩
 cases hf:(its.zip ds).find? (fun p=>p.1 == y) with
 | none =>
  have:=List.find?_eq_none.mp hf (y,d) (List.mem_of_getElem? hz)
  exact absurd (by simp) this
 | some p =>
  have h1:=List.find?_some hf
  have h2:=List.mem_of_find?_eq_some hf
  obtain ⟨i,hi⟩:=List.getElem?_of_mem h2
  obtain ⟨a1,a2⟩:=List.getElem?_zip_eq_some.mp (show (its.zip ds)[i]?=some (p.1,p.2) from hi)
  have ey:p.1=y:=aHM h1
  rw [ey] at a1
  obtain ⟨v1,w1,q1⟩:=dn.get a2
  obtain ⟨v2,w2,q2⟩:=dn.get hd
  obtain ⟨u1,x1,r1⟩:=rv.get w1
  obtain ⟨u2,x2,r2⟩:=rv.get w2
  rw [a1] at x1; cases x1
  rw [hy] at x2; cases x2
  have:v1=v2:=r1.inj r2
  subst this
  show eqD p.2 c=eqD d c
  rw [den_inj I n p.2 d v1 (cC ok a2) (cC ok hd) q1 q2]
end
end Z
namespace R
open PySem L2
theorem cA {z:Str}{j:Nat} (h:j < z.length):z.cps.toList[j]?=some (atS z j):=by
 have h':j < z.cps.size:=h
 simp [atS,Array.getD,h']
theorem jX {l:List Nat}{j:Nat}:atS (ofL l) j=l.getD j 0:=by
 unfold atS ofL
 rw [Array.getD_eq_getD_getElem?,List.getElem?_toArray,List.getD_eq_getElem?_getD]
def Good (n:Nat) (zs:List Str):Prop:=∀ z∈zs,z.length=n∧z.cps.toList.all sgn=true
theorem lH {n:Nat}{zs:List Str} (h:Good n zs) {z:Str} (hz:z∈zs) {j:Nat} (hj:j < n):atS z j=35∨atS z j=46:=by
 obtain ⟨h1,h2⟩:=h z hz
 have e:=cA (z:=z) (j:=j) (by omega)
 have:=List.all_eq_true.mp h2 _ (List.mem_of_getElem? e)
 unfold sgn at this
 rw [Bool.or_eq_true,beq_iff_eq,beq_iff_eq] at this
 exact this
theorem pH (n:Nat):(dots n).length=n:=by unfold dots; rw [eN,List.length_replicate]
theorem aFC {n:Nat}{z:Str} (hl:z.length=n) (h:∀ j,j < n→atS z j=46):z=dots n:=by
 apply eU
 show z.cps.toList=List.replicate n 46
 apply List.ext_getElem?
 intro j
 by_cases hj:j < n
 ·rw [cA (by omega),h j hj,List.getElem?_replicate,if_pos hj]
 ·rw [List.getElem?_eq_none (by rw [Array.length_toList]; have:z.cps.size=n:=hl; omega),List.getElem?_eq_none (by simp; omega)]
theorem jW {n j:Nat}:atS (dots n) j=if j < n then 46 else 0:=by
 unfold dots
 rw [jX,List.getD_eq_getElem?_getD,List.getElem?_replicate]
 split <;> rfl
theorem jL {α:Type} (f:Nat→α):∀ p,f p≠f 0→∃ k,k < p∧f k≠f (k+1)
 | 0,h=>absurd rfl h
 | p+1,h=>by
  by_cases e:f p=f 0
  ·exact ⟨p,by omega,by rw [e]; exact Ne.symm h⟩
  ·obtain ⟨k,h1,h2⟩:=jL f p e
   exact ⟨k,by omega,h2⟩
theorem hW {α:Type} (f:Nat→α):∀ m p,f p≠f (p+m)→∃ k,p≤k∧k < p+m∧f k≠f (k+1)
 | 0,p,h=>absurd rfl h
 | m+1,p,h=>by
  by_cases e:f p=f (p+m)
  ·exact ⟨p+m,by omega,by omega,by rw [← e]; exact h⟩
  ·obtain ⟨k,h1,h2,h3⟩:=hW f m p e
   exact ⟨k,h1,by omega,h3⟩
theorem cG {zs:List Str}{i:Nat} (h:i < zs.length):(framed zs)[i+1]?=zs[i]?:=by
 unfold framed
 rw [List.append_assoc,List.singleton_append,List.getElem?_cons_succ,List.getElem?_append_left h]
theorem eY (zs:List Str):(framed zs)[0]?=some (dots ((zs.head?.map (·.length)).getD 0)):=by simp [framed]
theorem dL (zs:List Str):(framed zs)[zs.length+1]?=some (dots ((zs.head?.map (·.length)).getD 0)):=by
 unfold framed
 rw [List.append_assoc,List.singleton_append,List.getElem?_cons_succ,List.getElem?_append_right (Nat.le_refl _)]
 simp
theorem eQ {zs:List Str}{i:Nat} (hz:zs≠[]):i∈chg zs↔i≤zs.length∧(framed zs)[i]?≠(framed zs)[i+1]?:=by
 unfold chg
 have:zs.isEmpty=false:=by cases zs with
  | nil=>exact absurd rfl hz
  | cons _ _=>rfl
 rw [this]
 simp only [Bool.false_eq_true,if_false,List.mem_filter,List.mem_range,Bool.not_eq_true',decide_eq_false_iff_not]
 exact ⟨fun ⟨a,b⟩=>⟨by omega,b⟩,fun ⟨a,b⟩=>⟨by omega,b⟩⟩
theorem cH {n:Nat}{zs:List Str} (h:∀ z∈zs,z.length=n) (hz:zs≠[]):(zs.head?.map (·.length)).getD 0=n:=by
 cases zs with
 | nil=>exact absurd rfl hz
 | cons z zr=>exact h z (by simp)
theorem aFU {n:Nat}{zs:List Str} (h:∀ z∈zs,z.length=n) {i:Nat}{z:Str} (hi:zs[i]?=some z) (hz:z≠dots n):2≤(chg zs).length:=by
 have hlt:i < zs.length:=(List.getElem?_eq_some_iff.mp hi).1
 have hne:zs≠[]:=fun e=>by rw [e] at hlt; simp at hlt
 have hw:=cH h hne
 have f0:(framed zs)[0]?=some (dots n):=by rw [eY,hw]
 have fl:(framed zs)[zs.length+1]?=some (dots n):=by rw [dL,hw]
 have fp:(framed zs)[i+1]?=some z:=by rw [cG hlt,hi]
 obtain ⟨k1,a1,b1⟩:=jL (fun k=>(framed zs)[k]?) (i+1) (by show (framed zs)[i+1]?≠(framed zs)[0]?; rw [fp,f0]; exact fun e=>hz (Option.some.inj e))
 obtain ⟨k2,a2,a3,b2⟩:=hW (fun k=>(framed zs)[k]?) (zs.length - i) (i+1) (by
  show (framed zs)[i+1]?≠(framed zs)[i+1+(zs.length - i)]?
  rw [show i+1+(zs.length - i)=zs.length+1 by omega,fp,fl]; exact fun e=>hz (Option.some.inj e))
 have m1:k1∈chg zs:=(eQ hne).mpr ⟨by omega,b1⟩
 have m2:k2∈chg zs:=(eQ hne).mpr ⟨by omega,b2⟩
 match hc:chg zs,m1,m2 with
 | [],m1,_=>cases m1
 | [x],m1,m2 =>
  simp at m1 m2
  omega
 | _::_::_,_,_=>simp
def aQ (zs:List Str):List Str:=(chg zs).dropLast.map fun i=>zs.getD i Str.empty
theorem i8 {zs:List Str}:∀ z∈aQ zs,z∈zs:=fun z hz=>by
 obtain ⟨i,hi,rfl⟩:=List.mem_map.mp hz
 have:=iM (b5 zs) (dY zs) i hi
 rw [List.getD_eq_getElem?_getD,List.getElem?_eq_getElem this]
 exact List.getElem_mem _
theorem iH {n:Nat}{zs:List Str} (h:Good n zs):Good n (aQ zs):=fun z hz=>h z (i8 z hz)
theorem d7 (zs:List Str):(aQ zs).length=(chg zs).length - 1:=by unfold aQ; rw [List.length_map,List.length_dropLast]
theorem oY {n:Nat}{zs:List Str} (h:∀ z∈zs,z.length=n) (hr:aQ zs≠[]):∃ z∈aQ zs,z≠dots n:=by
 have h2:2≤(chg zs).length:=by
  have:=List.length_pos_iff.mpr hr
  rw [d7] at this
  omega
 have hne:zs≠[]:=fun e=>by rw [e] at h2; simp [chg] at h2
 match hc:chg zs,h2 with
 | k0::k1::r,_ =>
  have m0:k0∈chg zs:=by rw [hc]; simp
  have s:=b5 zs
  rw [hc] at s
  have hk1:k1≤zs.length:=dY zs k1 (by rw [hc]; simp)
  have hk:k0 < k1:=(List.pairwise_cons.mp s).1 k1 (by simp)
  have hk0:k0 < zs.length:=by omega
  obtain ⟨_,b0⟩:=(eQ hne).mp m0
  have same:∀ j,j≤k0→(framed zs)[j]?=(framed zs)[0]?:=fun j hj=>Classical.byContradiction fun q=>by
   obtain ⟨k,a1,b1⟩:=jL (fun k=>(framed zs)[k]?) j q
   have:k∈chg zs:=(eQ hne).mpr ⟨by omega,b1⟩
   rw [hc] at this
   rcases List.mem_cons.mp this with rfl | this
   ·omega
   ·have:=(List.pairwise_cons.mp s).1 k this
    omega
  refine ⟨zs.getD k0 Str.empty,?_,fun q=>b0 ?_⟩
  ·unfold aQ
   rw [hc]
   simp
  ·rw [same k0 (Nat.le_refl _),eY,cH h hne,cG hk0,← q,List.getD_eq_getElem?_getD,List.getElem?_eq_getElem hk0]
   rfl
theorem fE {zs:List Str}{n j:Nat} (h:∀ z∈zs,z.length=n) (hz:zs≠[]) (hj:j < n):(aE zs)[j]?=some (ofL (zs.map (atS · j))):=by
 unfold aE
 rw [cH h hz,List.getElem?_map,List.getElem?_range hj]
 rfl
theorem gW {n:Nat}{zs:List Str} (h:Good n zs):Good zs.length (aE zs):=fun z hz=>by
 refine ⟨fL z hz,?_⟩
 obtain ⟨j,hj,rfl⟩:=List.mem_map.mp hz
 rw [List.mem_range] at hj
 show (zs.map (atS · j)).all sgn=true
 rw [List.all_eq_true]
 intro c hc
 obtain ⟨z,hz,rfl⟩:=List.mem_map.mp hc
 have hne:zs≠[]:=fun e=>by rw [e] at hz; cases hz
 rw [cH (fun z hz=>(h z hz).1) hne] at hj
 rcases lH h hz hj with e | e <;> rw [e] <;> rfl
structure Wf (nx ny:Nat) (zs:List Str):Prop where
 rows:zs.length+1=ny∨(nx=0∧ny=0∧zs=[])
 good:Good (nx - 1) zs
 wide:0 < nx∨(nx=0∧ny=0∧zs=[])
theorem sX {n:Nat}{zs:List Str} (h:Good n zs) {z:Str} (hz:z∈zs) (hd:z≠dots n):∃ j,j < n∧atS z j=35:=by
 refine Classical.byContradiction fun q=>hd (aFC (h z hz).1 fun j hj => ?_)
 rcases lH h hz hj with e | e
 ·exact absurd ⟨j,hj,e⟩ q
 ·exact e
theorem aFF {n:Nat}{zs:List Str} (h:Good n zs) (hr:aQ zs≠[]) :
  2≤(chg (aE (aQ zs))).length∧Wf (chg (aE (aQ zs))).length (chg zs).length (aE (aQ (aE (aQ zs))))∧(aE (aQ (aE (aQ zs)))).length=(aQ zs).length:=by
 have g1:=iH h
 obtain ⟨z,hz,hd⟩:=oY (fun z hz=>(h z hz).1) hr
 obtain ⟨j,hj,e35⟩:=sX g1 hz hd
 have gc:=gW g1
 have hc:=fE (fun z hz=>(g1 z hz).1) hr hj
 have hnd:ofL ((aQ zs).map (atS · j))≠dots (aQ zs).length:=fun q=>by
  obtain ⟨i,hi,ez⟩:=List.getElem_of_mem hz
  have e1:atS (ofL ((aQ zs).map (atS · j))) i=35:=by
   rw [jX,List.getD_eq_getElem?_getD,List.getElem?_map,List.getElem?_eq_getElem hi,ez]
   exact e35
  rw [q,jW,if_pos hi] at e1
  cases e1
 have c2:=aFU (fun z hz=>(gc z hz).1) hc hnd
 have hk:aQ (aE (aQ zs))≠[]:=fun q=>by
  have:=d7 (aE (aQ zs))
  rw [q] at this
  simp at this
  omega
 have g2:=iH gc
 have l2:=(j4 (fun z hz=>(g2 z hz).1)).2 hk
 have zl:=d7 zs
 have pos:=List.length_pos_iff.mpr hr
 refine ⟨c2,⟨.inl (by rw [l2]; omega),?_, .inl (by omega)⟩,l2⟩
 have g3:=gW g2
 rw [d7] at g3
 exact g3
def aR (zs:List Str) (a u:Int):Bool:=decide (0≤u) && decide (0≤a) && ((zs[u.toNat]?).bind fun z=>z.cps.toList[a.toNat]?) == some 35
theorem c6 {zs:List Str}{a u:Int} (h:u < 0):aR zs a u=false:=by
 unfold aR; rw [decide_eq_false (by omega)]; rfl
theorem cS {zs:List Str}{a u:Int} (h:a < 0):aR zs a u=false:=by
 unfold aR; rw [decide_eq_false (show ¬ (0:Int)≤a by omega),Bool.and_false]; rfl
theorem c8 {zs:List Str}{a u:Int} (h:(zs.length:Int)≤u):aR zs a u=false:=by
 unfold aR
 rw [List.getElem?_eq_none (by omega)]
 simp
theorem iW {zs:List Str}{a u:Int}{z:Str} (e:zs[u.toNat]?=some z) (h:(z.length:Int)≤a):aR zs a u=false:=by
 unfold aR
 rw [e]
 have:z.cps.toList[a.toNat]?=none:=List.getElem?_eq_none (by rw [Array.length_toList]; have:z.cps.size=z.length:=rfl; omega)
 rw [Option.bind_some,this]
 cases decide (0≤u) <;> cases decide (0≤a) <;> rfl
theorem eB {zs:List Str}{a u:Int}{z:Str}{c:Nat} (hu:0≤u) (ha:0≤a) (e:zs[u.toNat]?=some z) (ec:z.cps.toList[a.toNat]?=some c):aR zs a u=decide (c=35):=by
 unfold aR
 rw [decide_eq_true hu,decide_eq_true ha,e]
 simp only [Option.bind_some,ec,Bool.and_true,Bool.true_and]
 by_cases h:c=35
 ·subst h; rfl
 ·rw [decide_eq_false h]; simp [h]
def sg (b:Bool):Nat:=if b then 35 else 46
end R
namespace Q
open PySem L2 Z
theorem BRepr:bootBuiltins "repr" = some (.builtin "repr"):=by decide +kernel
theorem BEnum:bootBuiltins "enumerate" = some (.type "enumerate"):=by decide +kernel
structure Bt (mg:Str→Option Value):Prop where
 len:mg "len" = none
 abs:mg "abs" = none
 int:mg "int" = none
 min:mg "min" = none
 max:mg "max" = none
 range:mg "range" = none
 list:mg "list" = none
 tuple:mg "tuple" = none
 repr:mg "repr" = none
 all:mg "all" = none
 any:mg "any" = none
 enumerate:mg "enumerate" = none
 isi:mg "isinstance" = none
 bool:mg "bool" = none
 str:mg "str" = none
 zip:mg "zip" = none
 reversed:mg "reversed" = none
 sorted:mg "sorted" = none
 dict:mg "dict" = none
def FdM (M:Mem) (p:Addr) (b:Int):Prop:=∃ g m st:Int,M p=some (.lst [.int g, .int m, .int st])∧0≤g∧0≤m∧m < 2147483399∧0≤st∧st≤b
def ButM (p:Addr) (M M':Mem):Prop:=∀ a o,a≠p→M a=some o→M' a=some o
theorem ButM.refl (p:Addr) (M:Mem):ButM p M M:=fun _ _ _ h=>h
theorem ButM.trans {p:Addr}{M M1 M2:Mem} (a:ButM p M M1) (b:ButM p M1 M2):ButM p M M2:=fun c o n h=>b c o n (a c o n h)
theorem ButM.upd {p:Addr}{M M':Mem}{o:MO} (h:ButM p M M'):ButM p M (updM M' p o):=fun a u n e=>by rw [b8 n]; exact h a u n e
theorem ButM.new {p a:Addr}{M M':Mem}{o:MO} (h:ButM p M M') (n:M a=none):ButM p M (updM M' a o):=fun b u nb e=>by
 rw [b8 (fun z=>by rw [z,n] at e; cases e)]; exact h b u nb e
theorem FdM.le {M M':Mem}{p:Addr}{b:Int} (h:FdM M p b) (l:Le M M'):FdM M' p b:=by
 obtain ⟨g,m,st,e,r⟩:=h
 exact ⟨g,m,st,l _ _ e,r⟩
def q0:Ct:=fun ds M k=>∃ a b:Int,ds=[.int a, .int b]∧k (.int ((Int.gcd a b:Nat):Int)) M
theorem aEC {ns:List Int}{k:Int} (h0:0≤k) (h:k < ns.length):∃ z:Int,atI (ns.map D.int) k=some (.int z):=by
 obtain ⟨j,rfl⟩:∃ j:Nat,k=(j:Int):=⟨k.toNat,by omega⟩
 have hj:j < ns.length:=by omega
 exact ⟨ns[j],cW (by simp [hj])⟩
theorem gN {M:Mem}{a:Addr}{o:MO} (h:M a=none):delM (updM M a o) a=M:=by
 funext b
 unfold delM updM
 by_cases e:b=a
 ·rw [if_pos e,e,h]
 ·rw [if_neg e,if_neg e]
def aEU (bt at_:Int):D := .tup [.int (at_ / ((Int.gcd at_ bt:Nat):Int)), .int (bt / ((Int.gcd at_ bt:Nat):Int))]
structure Ats (bt:Int) (ats:List Int):Prop where
 bt:bt=1∨bt=2∨bt=9
 up:ats.Pairwise (· < ·)
 bd:∀ a∈ats, -20≤a∧a≤10 ^ 10
def l8 (xs:List D) (js:List Nat):List D:=js.map fun j=>xs.getD j .non
def mH (xs ys:List D) (zs:List Str):D := .tup [.tup xs, .tup ys, .tup (zs.map .str)]
structure YardOk (xs ys:List D) (zs:List Str):Prop where
 lx:∃ bt ats,xs=ats.map (aEU bt)∧Ats bt ats
 ly:∃ bt ats,ys=ats.map (aEU bt)∧Ats bt ats
 wf:R.Wf xs.length ys.length zs
 few:xs.length≤21∧ys.length≤21
 full:zs=[]→xs=[]∧ys=[]
theorem bP {α β:Type}{f:α→β}{l:List α}{i:Nat}{y:β} (h:(l.map f)[i]?=some y):∃ x,l[i]?=some x∧y=f x:=by
 rw [List.getElem?_map] at h
 cases e:l[i]? with
 | none=>rw [e] at h; cases h
 | some x=>rw [e] at h; exact ⟨x,rfl,(Option.some.inj h).symm⟩
end Q
namespace PySem
open Sem (wp)
open AutoSeq1 (wpAny_loadPart')
section
variable {prog:Program}{w:World}{A:Around}{E:Value→Shared→Prop}{s:Shared}
theorem uH {iq tu:Addr}{i:Nat}{its}{x:Value}{Q:Value→Shared→Prop} (hI:s.heap.IsTupleIter iq tu i) (hT:s.heap.IsTuple tu its) (hq:its[i]?=some x)
  (kQ:∀ h',h'.IsTupleIter iq tu (i+1)→Heap.SameBut iq s.heap h'→Q x { s with heap:=h' }):wpAny (model prog w) A (Builtin.SmallTypes.nextOf (.ref iq)) Q E s:=by
 obtain ⟨oI,eI,cI,dI⟩:=id hI
 obtain ⟨oT,eT,_,nT,dT⟩:=hT
 unfold Builtin.SmallTypes.nextOf
 refine wpAny_bind (wpAny_callSpecial?_slot (name:=Str.ofString "__next__") hI.typeIs F.slot_tuple_iterator_next (wpAny_call_entry F.slot_tuple_iterator_next hI.typeIs F.entry_tuple_iterator_next ?_ (F.args_tuple_iterator_next_1 _)))
 show wpAny _ _ (field (.ref iq) 0 >>= _) _ _ s
 refine wpAny_bind (wpAny_field eI dI (x := .ref tu) rfl ?_)
 show wpAny _ _ (if (Value.ref tu == Value.none)=true then _ else _) _ _ s
 rw [if_neg (show ¬ ((Value.ref tu == Value.none)=true) from Bool.false_ne_true)]
 show wpAny _ _ (field (.ref iq) 1 >>= _) _ _ s
 refine wpAny_bind (wpAny_field eI dI (x := .int i 0) rfl ?_)
 show wpAny _ _ (seqItems? (.ref tu) >>= _) _ _ s
 refine wpAny_bind (wpAny_seqItems eT dT ?_)
 simp only [Int.toNat_natCast,hq]
 refine wpAny_bind (wpAny_setField eI dI (by simp) (wpAny_pure ⟨x,rfl,wpAny_pure (kQ _ ?_ (Heap.SameBut.update ..))⟩))
 exact ⟨_,Heap.get?_update_self _ eI (Obj.isFreed_of_fields (Obj.data_mapFields dI _)),(Obj.cls_mapFields ..).trans cI,by rw [Obj.data_mapFields dI]; simp [rawInt]⟩
theorem wC {iq tu:Addr}{i:Nat}{its}{Q:Value→Shared→Prop} (hh:A.handled=none) (hI:s.heap.IsTupleIter iq tu i) (hT:s.heap.IsTuple tu its) (hq:its[i]?=none)
  (kE:∀ h' e,Heap.ExtBut iq s.heap h'→(∃ o,h'.get? e=some o∧o.cls = .type "StopIteration")→E (.ref e) { s with heap:=h' }):wpAny (model prog w) A (Builtin.SmallTypes.nextOf (.ref iq)) Q E s:=by
 obtain ⟨oI,eI,cI,dI⟩:=id hI
 obtain ⟨oT,eT,_,nT,dT⟩:=hT
 unfold Builtin.SmallTypes.nextOf
 refine wpAny_bind (wpAny_callSpecial?_slot (name:=Str.ofString "__next__") hI.typeIs F.slot_tuple_iterator_next (wpAny_call_entry F.slot_tuple_iterator_next hI.typeIs F.entry_tuple_iterator_next ?_ (F.args_tuple_iterator_next_1 _)))
 show wpAny _ _ (field (.ref iq) 0 >>= _) _ _ s
 refine wpAny_bind (wpAny_field eI dI (x := .ref tu) rfl ?_)
 show wpAny _ _ (if (Value.ref tu == Value.none)=true then _ else _) _ _ s
 rw [if_neg (show ¬ ((Value.ref tu == Value.none)=true) from Bool.false_ne_true)]
 show wpAny _ _ (field (.ref iq) 1 >>= _) _ _ s
 refine wpAny_bind (wpAny_field eI dI (x := .int i 0) rfl ?_)
 show wpAny _ _ (seqItems? (.ref tu) >>= _) _ _ s
 refine wpAny_bind (wpAny_seqItems eT dT ?_)
 simp only [Int.toNat_natCast,hq]
 refine wpAny_bind (wpAny_rule (wpAny_bind (wpAny_setField eI dI (by simp) ?_)))
 show wpAny _ _ ((newExc (.type "StopIteration") []) >>= _) _ _ _
 refine wpAny_bind ?_
 simp only [newExc,newTuple]
 refine (wpAny_bind (wpAny_newObj_type ?_ (by size_fits)))
 refine wpAny_bind (m:=firstArgMember _ _) (wpAny_of_eq (a:=Value.none) (by first | rfl | (simp only [firstArgMember]; rfl) | skip) ?_)
 refine (wpAny_newObj_type ?_ (by size_fits))
 simp only [raiseNew]
 refine wpAny_bind (wpAny_handled ?_)
 first | rw [show (A.in1).handled=none from hh] | rw [hh]
 refine (wpAny_bind (wpAny_pure (wpAny_throw ?_)))
 exact kE _ _ (((Heap.SameBut.update ..).extBut.push _).push _) ⟨_,Heap.get?_push_size _ rfl,rfl⟩
end
theorem Draws.tup {prog:Program}{w:World}{A:Around} (hh:A.handled=none) (iq tu:Addr) (hne:tu≠iq) (its:Array Value) :
  Draws prog w A iq [iq,tu] its.size (fun i v=>its[i]?=some v) (fun i h=>h.IsTupleIter iq tu i∧h.IsTuple tu its) where
 live:=fun _ _ q=>let ⟨o,ho,_⟩:=q.1; ⟨o,ho⟩
 frame:=fun _ _ _ q hk=>⟨let ⟨o,ho,r⟩:=q.1; ⟨o,hk iq (by simp) o ho,r⟩,let ⟨o,ho,r⟩:=q.2; ⟨o,hk tu (by simp) o ho,r⟩⟩
 item:=fun i s Q E hi q kQ=>by
  refine uH q.1 q.2 (x:=its[i]) (by simp [hi]) fun h' hit' hs' => ?_
  exact kQ _ h' s.toks (by simp [hi]) ⟨hit',let ⟨o,ho,r⟩:=q.2; ⟨o,(hs'.2 tu hne).trans ho,r⟩⟩ hs'
 done:=fun s Q E q kE=>wC hh q.1 q.2 (by simp) kE
section
variable {prog:Program}{w:World}{A:Around}{E:Value→Shared→Prop}{s:Shared}
end
end PySem
namespace L2
open PySem PySem.Spec PyProof.Rows
section
variable {X:Cx}{pins:List (Addr × Obj)}{σ:St}{H:Hp}{s:Shared}{h':Heap}
theorem Inv.turnedT {t':Nat}{ch:List Addr}{T:Addr}{o:HO} (I:Inv X pins σ H s) (k:∀ b ob,b ∉ ch→s.heap.get? b=some ob→h'.get? b=some ob) (hf:∀ b∈ch,FpOk X pins H b) (hT:s.heap.objs.size≤T)
  (new:eH X.prog X.w (upd H T o) h' T o):Inv X pins σ (upd H T o) { s with heap:=h',toks:=t' }:=by
 have hn:H T=none:=I.hok.fresh hT
 have nit:∀ b u,H b=some u→b ∉ ch:=fun b u e z=>by rw [(hf b z).1] at e; cases e
 have ne:∀ b u,s.heap.get? b=some u→b≠T:=fun b u e=>Nat.ne_of_lt (Nat.lt_of_lt_of_le (Heap.lt_size e) hT)
 refine I.step (g':=s.gens) (d':=s.drawn) (ch:=ch) (fun b hb => ?_) (fun b ob _ _ hc e _=>k b ob hc e) (fun b ob _ _ hc e _=>⟨ob.slots,k b ob hc e⟩) (fun b ob _ e n=>by rw [aW (ne b ob e)]; exact n)
  (fun b ob hc e=>⟨ob,k b ob hc e⟩) (fun b xs e=>by rw [aW (bA e hn)]; exact e) (fun b ob u e=>by rw [aW (bA e hn)]; exact e) (fun b ps e=>⟨#[],by rw [aW (bA e hn),e]; simp⟩) (fun m hm => ?_) (fun b u e => ?_) I.bare
 ·obtain ⟨f0,f1,f2,f3,f4,f5⟩:=hf b hb
  exact ⟨f3,f1,f4,f5⟩
 ·obtain ⟨ob,es,ep,ho,r⟩:=hm
  exact ⟨ob,es,ep,k _ ob (fun z=>(hf _ z).2.1 rfl) ho,r⟩
 ·by_cases z:b=T
  ·subst z; rw [bB] at e; cases e; exact new
  ·rw [aW z] at e
   refine (I.hok b u e).stay (fun c v hc q=>k c v ?_ q) (fun c q=>by rw [aW (bA q hn)]; exact q) fun c xs q=>by rw [aW (bA q hn)]; exact q
   rcases hc with y | y
   ·rw [y]; exact nit b u e
   ·exact nit c _ y
theorem Inv.turnedL {t':Nat}{ch:List Addr} (I:Inv X pins σ H s) (k:∀ b ob,b ∉ ch→s.heap.get? b=some ob→h'.get? b=some ob) (hf:∀ b∈ch,FpOk X pins H b):Inv X pins σ H { s with heap:=h',toks:=t' }:=by
 have nit:∀ b u,H b=some u→b ∉ ch:=fun b u e z=>by rw [(hf b z).1] at e; cases e
 refine I.step (g':=s.gens) (d':=s.drawn) (ch:=ch) (fun b hb => ?_) (fun b ob _ _ hc e _=>k b ob hc e) (fun b ob _ _ hc e _=>⟨ob.slots,k b ob hc e⟩) (fun _ _ _ _ n=>n)
  (fun b ob hc e=>⟨ob,k b ob hc e⟩) (fun _ _ e=>e) (fun _ _ _ e=>e) (fun b ps e=>⟨#[],by rw [e]; simp⟩) (fun m hm => ?_) (fun b u e => ?_) I.bare
 ·obtain ⟨f0,f1,f2,f3,f4,f5⟩:=hf b hb
  exact ⟨f3,f1,f4,f5⟩
 ·obtain ⟨ob,es,ep,ho,r⟩:=hm
  exact ⟨ob,es,ep,k _ ob (fun z=>(hf _ z).2.1 rfl) ho,r⟩
 ·refine (I.hok b u e).stay (fun c v hc q=>k c v ?_ q) (fun _ q=>q) fun _ _ q=>q
  rcases hc with y | y
  ·rw [y]; exact nit b u e
  ·exact nit c _ y
end
end L2
namespace Z
open PySem L2
section
variable {X:Cx}{Γ:Gm}{M:Mem}{k:D→Mem→Prop}{pos:Pos}{a b:Expr}{rest:List Expr}
def fW (ds:List D):List D:=ds.mapIdx fun i d => .tup [.int (i:Int),d]
end
end Z
namespace R
open PySem L2
theorem o9 {α:Type} (f:Nat→α):∀ p,f p≠f 0→∃ k,k < p∧f k≠f (k+1)∧f (k+1)=f p
 | 0,h=>absurd rfl h
 | p+1,h=>by
  by_cases e:f p=f (p+1)
  ·obtain ⟨k,h1,h2,h3⟩:=o9 f p (by rw [e]; exact h)
   exact ⟨k,by omega,h2,h3.trans e⟩
  ·exact ⟨p,by omega,e,rfl⟩
theorem uE {l:List Nat} (s:l.Pairwise (· < ·)) {a b:Nat} (ha:a∈l) (hb:b∈l) (h:a < b):a∈l.dropLast:=by
 have hne:l≠[]:=fun e=>by rw [e] at ha; cases ha
 have e:=List.dropLast_concat_getLast hne
 rw [← e] at ha hb s
 rw [List.pairwise_append] at s
 rcases List.mem_append.mp ha with ha | ha
 ·exact ha
 ·rw [List.mem_singleton] at ha
  rcases List.mem_append.mp hb with hb | hb
  ·have:=s.2.2 b hb _ (List.mem_singleton_self _)
   omega
  ·rw [List.mem_singleton] at hb
   omega
theorem u3 {n:Nat}{zs:List Str} (h:∀ z∈zs,z.length=n) {z:Str} (hz:z∈zs):z=dots n∨z∈aQ zs:=by
 by_cases hd:z=dots n
 ·exact .inl hd
 refine .inr ?_
 obtain ⟨p,hp,ez⟩:=List.getElem_of_mem hz
 have hne:zs≠[]:=fun e=>by rw [e] at hz; cases hz
 have hw:=cH h hne
 have f0:(framed zs)[0]?=some (dots n):=by rw [eY,hw]
 have fl:(framed zs)[zs.length+1]?=some (dots n):=by rw [dL,hw]
 have fp:(framed zs)[p+1]?=some z:=by rw [cG hp,List.getElem?_eq_getElem hp,ez]
 have ne:∀ {o:Option Str},o=some (dots n)→(framed zs)[p+1]?≠o:=fun e q=>hd (by rw [fp,e] at q; injection q)
 obtain ⟨k,k1,k2,k3⟩:=o9 (fun i=>(framed zs)[i]?) (p+1) (ne f0)
 obtain ⟨j,j1,j2,j3⟩:=hW (fun i=>(framed zs)[i]?) (zs.length - p) (p+1) (by
  show (framed zs)[p+1]?≠(framed zs)[p+1+(zs.length - p)]?
  rw [show p+1+(zs.length - p)=zs.length+1 by omega]; exact ne fl)
 have mk:k∈chg zs:=(eQ hne).mpr ⟨by omega,k2⟩
 have mj:j∈chg zs:=(eQ hne).mpr ⟨by omega,j3⟩
 have:=uE (b5 zs) mk mj (by omega)
 refine List.mem_map.mpr ⟨k,this,?_⟩
 have e:(framed zs)[k+1]?=some z:=k3.trans fp
 rw [cG (by omega)] at e
 rw [List.getD_eq_getElem?_getD,e]; rfl
theorem tI {n:Nat}{zs:List Str} (h:∀ z∈zs,z=dots n):chg zs=[]:=by
 by_cases hne:zs=[]
 ·rw [hne]; simp [chg]
 have hl:∀ z∈zs,z.length=n:=fun z hz=>by rw [h z hz,pH]
 have hw:=cH hl hne
 have all:∀ i,i≤zs.length+1→(framed zs)[i]?=some (dots n):=fun i hi=>by
  rcases Nat.eq_zero_or_pos i with rfl | hp
  ·rw [eY,hw]
  ·obtain ⟨j,rfl⟩:∃ j,i=j+1:=⟨i - 1,by omega⟩
   by_cases hj:j < zs.length
   ·rw [cG hj,List.getElem?_eq_getElem hj,h _ (List.getElem_mem hj)]
   ·rw [show j=zs.length by omega,dL,hw]
 refine List.eq_nil_iff_forall_not_mem.mpr fun i hi => ?_
 obtain ⟨a,b⟩:=(eQ hne).mp hi
 exact b (by rw [all i (by omega),all (i+1) (by omega)])
theorem rO {n:Nat}{zs:List Str} (h:∀ z∈zs,z.length=n) (hr:aQ zs=[]):chg zs=[]∧chg (aE zs)=[]:=by
 have hd:∀ z∈zs,z=dots n:=fun z hz=>(u3 h hz).elim id fun q=>by rw [hr] at q; cases q
 refine ⟨tI hd,tI (n:=zs.length) fun c hc => ?_⟩
 obtain ⟨j,hj,rfl⟩:=List.mem_map.mp hc
 rw [List.mem_range] at hj
 by_cases hne:zs=[]
 ·rw [hne] at hj; simp at hj
 rw [cH h hne] at hj
 unfold dots ofL
 congr 2
 refine List.eq_replicate_iff.mpr ⟨by simp,fun b hb => ?_⟩
 obtain ⟨z,hz,rfl⟩:=List.mem_map.mp hb
 rw [hd z hz,jW,if_pos hj]
def pN (n i:Nat) (z:Str):Nat:=if i=0∨i=n+1 then 46 else atS z (i - 1)
theorem b3 {n:Nat}{zs:List Str} (h:∀ z∈zs,z.length=n) (hz:zs≠[]):(aE zs).length=n:=by
 unfold aE; rw [cH h hz]; simp
theorem gA {n i:Nat}{zs:List Str} (h:∀ z∈zs,z.length=n) (hz:zs≠[]) (hn:0 < n) (hi:i≤n+1):(framed (aE zs))[i]?=some (ofL (zs.map (pN n i))):=by
 have hc:=b3 h hz
 have hne:aE zs≠[]:=fun e=>by rw [e] at hc; simp at hc; omega
 have hw:((aE zs).head?.map (·.length)).getD 0=zs.length:=cH (fun c hc=>fL c hc) hne
 have hd:dots zs.length=ofL (zs.map fun _=>46):=by
  unfold dots; rw [List.map_const']
 rcases Nat.eq_zero_or_pos i with rfl | hp
 ·rw [eY,hw,hd]; rfl
 ·obtain ⟨j,rfl⟩:∃ j,i=j+1:=⟨i - 1,by omega⟩
  by_cases hj:j < n
  ·rw [cG (by omega),fE h hz hj]
   congr 2
   apply List.map_congr_left
   intro z _
   unfold pN
   rw [if_neg (by omega)]; rfl
  ·have e:j=(aE zs).length:=by omega
   rw [e,dL,hw,hd]
   congr 2
   apply List.map_congr_left
   intro z _
   unfold pN
   rw [if_pos (by omega)]
theorem qW {zs:List Str}{f g:Str→Nat}:(some (ofL (zs.map f))=some (ofL (zs.map g)))↔∀ z∈zs,f z=g z:=by
 constructor
 ·intro e
  injection e with e
  unfold ofL at e
  injection e with e
  have e:zs.map f=zs.map g:=by injection e
  exact fun z hz=>(List.map_inj_left.mp e) z hz
 ·intro e
  rw [List.map_congr_left e]
theorem nA {n:Nat}{zs:List Str} (h:∀ z∈zs,z.length=n) (hr:aQ zs≠[]):chg (aE (aQ zs))=chg (aE zs):=by
 have hz:zs≠[]:=fun e=>by subst e; exact hr (by simp [aQ,chg])
 have hk:∀ z∈aQ zs,z.length=n:=fun z q=>h z (i8 z q)
 rcases Nat.eq_zero_or_pos n with rfl | hn
 ·have e1:aE zs=[]:=List.length_eq_zero_iff.mp (b3 h hz)
  have e2:aE (aQ zs)=[]:=List.length_eq_zero_iff.mp (b3 hk hr)
  rw [e1,e2]
 ·have l1:=b3 h hz
  have l2:=b3 hk hr
  have n1:(aE zs).isEmpty=false:=by cases hc:aE zs with
   | nil=>rw [hc] at l1; simp at l1; omega
   | cons _ _=>rfl
  have n2:(aE (aQ zs)).isEmpty=false:=by cases hc:aE (aQ zs) with
   | nil=>rw [hc] at l2; simp at l2; omega
   | cons _ _=>rfl
  unfold chg
  rw [n1,n2,l1,l2,if_neg Bool.false_ne_true,if_neg Bool.false_ne_true]
  apply List.filter_congr
  intro i hi
  rw [List.mem_range] at hi
  rw [gA h hz hn (by omega),gA h hz hn (by omega),gA hk hr hn (by omega),gA hk hr hn (by omega)]
  congr 1
  apply decide_eq_decide.mpr
  rw [qW,qW]
  constructor
  ·intro q z hz
   rcases u3 h hz with rfl | hz
   ·unfold pN
    rw [jW,jW]
    split <;> split <;> (try split) <;> (try split) <;> first | rfl | omega
   ·exact q z hz
  ·exact fun q z hz=>q z (i8 z hz)
theorem nD {n:Nat}{zs:List Str} (h:Good n zs) (hr:aQ zs≠[]):aE (aQ (aE (aQ zs)))=bZ zs:=by
 have g1:=iH h
 have hl:∀ z∈aQ zs,z.length=n:=fun z hz=>(g1 z hz).1
 obtain ⟨c2,wf,le⟩:=aFF h hr
 have hJ:=nA (fun z hz=>(h z hz).1) hr
 have lt:∀ j∈(chg (aE (aQ zs))).dropLast,j < n:=fun j hj=>by
  have:=iM (b5 _) (dY _) j hj
  rw [b3 hl hr] at this
  exact this
 have e1:aQ (aE (aQ zs))=(chg (aE (aQ zs))).dropLast.map fun j=>ofL ((aQ zs).map (atS · j)):=by
  show List.map _ _=_
  apply List.map_congr_left
  intro j hj
  rw [List.getD_eq_getElem?_getD,fE hl hr (lt j hj)]; rfl
 have hk:aQ (aE (aQ zs))≠[]:=fun q=>by
  have:=d7 (aE (aQ zs))
  rw [q] at this
  simp at this
  omega
 have hw:((aQ (aE (aQ zs))).head?.map (·.length)).getD 0=(aQ zs).length:=cH (fun z hz=>fL z (i8 z hz)) hk
 have ek:bZ zs=(aQ zs).map fun z=>ofL ((chg (aE (aQ zs))).dropLast.map (atS z)):=by
  rw [hJ]; unfold aQ bZ; rw [List.map_map]; rfl
 rw [ek]
 show (List.range (((aQ (aE (aQ zs))).head?.map (·.length)).getD 0)).map (fun j=>ofL ((aQ (aE (aQ zs))).map (atS · j)))=_
 rw [hw,e1]
 apply List.ext_getElem
 ·simp
 ·intro r hr1 hr2
  rw [List.length_map,List.length_range] at hr1
  rw [List.getElem_map,List.getElem_map,List.getElem_range,List.map_map]
  congr 1
  apply List.map_congr_left
  intro j _
  show atS (ofL ((aQ zs).map (atS · j))) r=_
  rw [jX,List.getD_eq_getElem?_getD,List.getElem?_map,List.getElem?_eq_getElem hr1]; rfl
abbrev Cell:=List Int
def lC (zs:List Str) (inside:Bool) (nx ny:Nat):List Cell:=(List.range (ny+1)).flatMap fun (u:Nat)=>(List.range (nx+1)).filterMap fun (a:Nat)=>if aR zs ((a:Int) - 1) ((u:Int) - 1)=inside then some [(a:Int) - 1,(u:Int) - 1] else none
def gB (zs:List Str) (w:Nat):List Cell:=(List.range zs.length).flatMap fun (u:Nat)=>(List.range w).filterMap fun (a:Nat)=>if aR zs (a:Int) (u:Int)=true then some [(a:Int),(u:Int)] else none
inductive Rch (cells:List Cell) (st:List (Int × Int)) (s:Cell):Cell→Prop
 | refl:Rch cells st s s
 | step {x y:Int}{d:Int × Int}:Rch cells st s [x,y]→d∈st→[x+d.1,y+d.2]∈cells→Rch cells st s [x+d.1,y+d.2]
theorem Rch.mem {cells:List Cell}{st:List (Int × Int)}{s c:Cell} (h:Rch cells st s c) (hs:s∈cells):c∈cells:=by
 cases h with
 | refl=>exact hs
 | step _ _ m=>exact m
open Classical in
noncomputable def starts (cells:List Cell) (st:List (Int × Int)):Nat→List Cell
 | 0=>[]
 | i+1=>match cells[i]? with
  | some c=>if ∃ s∈starts cells st i,Rch cells st s c then starts cells st i else starts cells st i++[c]
  | none=>starts cells st i
def aJJ (f:Int→Int→Bool) (w h:Nat):List Str:=(List.range h).map fun (u:Nat)=>ofL ((List.range w).map fun (a:Nat)=>sg (f (a:Int) (u:Int)))
theorem still {zs:List Str} (hz:zs≠[]) {a b:Nat} (hab:a≤b) (hb:b≤zs.length+1) (hn:∀ c∈chg zs,¬ (a≤c∧c < b)):(framed zs)[a]?=(framed zs)[b]?:=by
 refine Classical.byContradiction fun q => ?_
 obtain ⟨k,h1,h2,h3⟩:=hW (fun i=>(framed zs)[i]?) (b - a) a (by rw [show a+(b - a)=b by omega]; exact q)
 exact hn k ((eQ hz).mpr ⟨by omega,h3⟩) ⟨h1,by omega⟩
theorem nC {zs:List Str}{i j:Nat}{c d:Nat} (hi:(chg zs)[i]?=some c) (hj:(chg zs)[j]?=some d) (h:i < j):c < d:=by
 obtain ⟨h1,e1⟩:=List.getElem?_eq_some_iff.mp hi
 obtain ⟨h2,e2⟩:=List.getElem?_eq_some_iff.mp hj
 have:=List.pairwise_iff_getElem.mp (b5 zs) i j h1 h2 h
 rw [e1,e2] at this; exact this
theorem uN {zs:List Str}{i:Nat}{c d e:Nat} (hi:(chg zs)[i]?=some c) (hj:(chg zs)[i+1]?=some d) (he:e∈chg zs) (h:c < e):d≤e:=by
 obtain ⟨k,hk,ek⟩:=List.getElem_of_mem he
 have ek':(chg zs)[k]?=some e:=by rw [List.getElem?_eq_getElem hk,ek]
 by_cases h1:k≤i
 ·by_cases h2:k=i
  ·subst h2; rw [hi] at ek'; cases ek'; omega
  ·have:=nC ek' hi (by omega); omega
 ·by_cases h2:k=i+1
  ·subst h2; rw [hj] at ek'; cases ek'; omega
  ·have:=nC hj ek' (by omega); omega
theorem rM {zs:List Str}{c e:Nat} (hi:(chg zs)[0]?=some c) (he:e∈chg zs):c≤e:=by
 obtain ⟨k,hk,ek⟩:=List.getElem_of_mem he
 have ek':(chg zs)[k]?=some e:=by rw [List.getElem?_eq_getElem hk,ek]
 by_cases h:k=0
 ·subst h; rw [hi] at ek'; cases ek'; omega
 ·have:=nC hi ek' (by omega); omega
theorem aA5 {zs:List Str}{c e:Nat} (hi:(chg zs)[(chg zs).length - 1]?=some c) (he:e∈chg zs):e≤c:=by
 obtain ⟨k,hk,ek⟩:=List.getElem_of_mem he
 have ek':(chg zs)[k]?=some e:=by rw [List.getElem?_eq_getElem hk,ek]
 by_cases h:k=(chg zs).length - 1
 ·subst h; rw [hi] at ek'; cases ek'; omega
 ·have:=nC ek' hi (by omega); omega
theorem vA {zs:List Str}{i c:Nat} (hi:(chg zs)[i]?=some c) (h:i+1 < (chg zs).length):(aQ zs)[i]?=zs[c]?∧c < zs.length:=by
 have hd:(chg zs).dropLast[i]?=some c:=by rw [List.getElem?_dropLast,if_pos (by omega)]; exact hi
 have hl:=iM (b5 zs) (dY zs) c (List.mem_of_getElem? hd)
 unfold aQ
 rw [List.getElem?_map,hd,Option.map_some,List.getD_eq_getElem?_getD,List.getElem?_eq_getElem hl]
 exact ⟨rfl,hl⟩
theorem tQ {n:Nat}{zs:List Str} (h:∀ z∈zs,z.length=n) (hr:aQ zs≠[]):chg (aQ zs)=List.range (chg zs).length:=by
 have hc:chg zs≠[]:=fun e=>hr (by unfold aQ; rw [e]; rfl)
 have hz:zs≠[]:=oA zs hc
 have hkl:=d7 zs
 have hk1:1≤(aQ zs).length:=List.length_pos_iff.mpr hr
 have hK:∀ z∈aQ zs,z.length=n:=fun z hz=>h z (i8 z hz)
 have w1:=cH h hz
 have w2:=cH hK hr
 have f0:=eY zs
 have fl:=dL zs
 have g0:=eY (aQ zs)
 have gl:=dL (aQ zs)
 rw [w1] at f0 fl
 rw [w2] at g0 gl
 have A:∀ i c,(chg zs)[i]?=some c→(framed (aQ zs))[i]?=(framed zs)[c]?:=fun i c hi=>by
  have hil:=(List.getElem?_eq_some_iff.mp hi).1
  have hcl:=dY zs c (List.mem_of_getElem? hi)
  cases i with
  | zero =>
   rw [g0,← f0]
   exact still hz (Nat.zero_le _) (by omega) fun e he z=>by have:=rM hi he; omega
  | succ i =>
   obtain ⟨b,hb⟩:∃ b,(chg zs)[i]?=some b:=⟨(chg zs)[i],List.getElem?_eq_getElem (by omega)⟩
   obtain ⟨k1,k2⟩:=vA hb (by omega)
   have lt:=nC hb hi (Nat.lt_succ_self i)
   rw [cG (by omega),k1,← cG k2]
   exact still hz (by omega) (by omega) fun e he z=>by have:=uN hb hi he (by omega); omega
 have B:∀ i c,(chg zs)[i]?=some c→(framed (aQ zs))[i+1]?=(framed zs)[c+1]?:=fun i c hi=>by
  have hil:=(List.getElem?_eq_some_iff.mp hi).1
  have hcl:=dY zs c (List.mem_of_getElem? hi)
  by_cases hlast:i+1 < (chg zs).length
  ·obtain ⟨k1,k2⟩:=vA hi hlast
   rw [cG (by omega),k1,← cG k2]
  ·have ei:i=(chg zs).length - 1:=by omega
   rw [show i+1=(aQ zs).length+1 by omega,gl,← fl]
   exact (still hz (by omega) (Nat.le_refl _) fun e he z=>by have:=aA5 (ei ▸ hi) he; omega).symm
 have:chg (aQ zs)=(List.range ((aQ zs).length+1)).filter fun i => !decide ((framed (aQ zs))[i]?=(framed (aQ zs))[i+1]?):=by
  unfold chg
  rw [if_neg (by rw [List.isEmpty_iff]; exact hr)]
 rw [this,show (aQ zs).length+1=(chg zs).length by omega]
 refine List.filter_eq_self.mpr fun i hi => ?_
 have hil:=List.mem_range.mp hi
 have hi':(chg zs)[i]?=some (chg zs)[i]:=List.getElem?_eq_getElem hil
 have hne:=((eQ hz).mp (List.mem_of_getElem? hi')).2
 rw [← A i _ hi',← B i _ hi'] at hne
 rw [decide_eq_false hne]; rfl
theorem nG {n:Nat}{zs:List Str} (h:∀ z∈zs,z.length=n) (hz:zs≠[]) (hn:0 < n):aE (aE zs)=zs:=by
 have hc:(aE zs).length=n:=b3 h hz
 have hcn:aE zs≠[]:=fun e=>by rw [e] at hc; simp at hc; omega
 have hce:∀ z∈aE zs,z.length=zs.length:=fun z hz=>fL z hz
 have hzl:0 < zs.length:=List.length_pos_iff.mpr hz
 have hcc:=b3 hce hcn
 apply List.ext_getElem?
 intro i
 by_cases hi:i < zs.length
 ·rw [fE hce hcn hi,List.getElem?_eq_getElem hi]
  congr 1
  apply eU
  show (aE zs).map (atS · i)=zs[i].cps.toList
  apply List.ext_getElem?
  intro j
  have hl:=h zs[i] (List.getElem_mem hi)
  by_cases hj:j < n
  ·rw [List.getElem?_map,fE h hz hj,Option.map_some,cA (by omega),jX,List.getD_eq_getElem?_getD,List.getElem?_map,List.getElem?_eq_getElem hi]
   rfl
  ·rw [List.getElem?_eq_none (by rw [List.length_map]; omega),List.getElem?_eq_none (by rw [Array.length_toList]; have:zs[i].cps.size=zs[i].length:=rfl; omega)]
 ·rw [List.getElem?_eq_none (by omega),List.getElem?_eq_none (by omega)]
theorem yI {n:Nat}{zs:List Str} (h:Good n zs) (hr:aQ zs≠[]) :
  chg (bZ zs)=List.range (chg zs).length∧chg (aE (bZ zs))=List.range (chg (aE zs)).length∧bZ zs≠[]∧Good ((chg (aE zs)).length - 1) (bZ zs)∧2≤(chg (aE zs)).length∧2≤(chg zs).length:=by
 have hl:∀ z∈zs,z.length=n:=fun z hz=>(h z hz).1
 have gR:=iH h
 have hR:∀ z∈aQ zs,z.length=n:=fun z hz=>(gR z hz).1
 obtain ⟨z0,hz0,hd0⟩:=oY hl hr
 obtain ⟨j0,hj0,_⟩:=sX gR hz0 hd0
 have hn:0 < n:=by omega
 have eR:=tQ hl hr
 have eC:=nA hl hr
 have gC:=gW gR
 have hC:∀ z∈aE (aQ zs),z.length=(aQ zs).length:=fun z hz=>(gC z hz).1
 have cne:aE (aQ zs)≠[]:=fun e=>by have:=b3 hR hr; rw [e] at this; simp at this; omega
 have kne:aQ (aE (aQ zs))≠[]:=fun e=>by
  have h1:=(rO hC e).2
  rw [nG hR hr hn,eR] at h1
  have h2:(chg zs).length=0:=by simpa using congrArg List.length h1
  have:=d7 zs
  exact hr (List.length_eq_zero_iff.mp (by omega))
 have eK:=tQ hC kne
 have gK:=iH gC
 have hK:∀ z∈aQ (aE (aQ zs)),z.length=(aQ zs).length:=fun z hz=>(gK z hz).1
 have rl:0 < (aQ zs).length:=List.length_pos_iff.mpr hr
 have e1:=nA hC kne
 rw [nG hR hr hn,eR,nD h hr] at e1
 have e2:aE (bZ zs)=aQ (aE (aQ zs)):=by rw [← nD h hr]; exact nG hK kne rl
 have kl:=d7 (aE (aQ zs))
 have kp:0 < (aQ (aE (aQ zs))).length:=List.length_pos_iff.mpr kne
 have kz:=d7 zs
 rw [eC] at kl
 refine ⟨e1,by rw [e2,eK,eC],fun e => ?_,?_,by omega,by omega⟩
 ·rw [e] at e1
  have h2:=congrArg List.length e1
  rw [List.length_range,show (chg ([]:List Str)).length=0 from rfl] at h2
  omega
 ·rw [← nD h hr]
  have:=gW gK
  rw [kl] at this
  exact this
theorem wS {zs:List Str}{r j c d:Nat} (hj:j < zs.length) (h1:(chg zs)[r]?=some c) (h2:(chg zs)[r+1]?=some d) (hc:c≤j) (hd:j < d):zs[j]?=zs[c]?:=by
 have hz:zs≠[]:=fun e=>by rw [e] at hj; simp at hj
 rw [← cG hj,← cG (show c < zs.length by omega)]
 exact (still hz (by omega) (by omega) fun e he z=>by have:=uN h1 h2 he (by omega); omega).symm
theorem tY {n:Nat}{zs:List Str} (h:∀ z∈zs,z.length=n) {j:Nat} (hj:j < zs.length) (hn:∀ r c d,(chg zs)[r]?=some c→(chg zs)[r+1]?=some d→¬ (c≤j∧j < d)):zs[j]?=some (dots n):=by
 have hz:zs≠[]:=fun e=>by rw [e] at hj; simp at hj
 have w:=cH h hz
 have f0:=eY zs
 have fl:=dL zs
 rw [w] at f0 fl
 rw [← cG hj]
 by_cases hall:∀ e∈chg zs,j < e
 ·rw [← f0]
  exact (still hz (Nat.zero_le _) (by omega) fun e he z=>by have:=hall e he; omega).symm
 ·have h0:∀ (r c:Nat),(chg zs)[r]?=some c→c≤j:=fun r=>by
   induction r with
   | zero =>
    intro c hc
    refine Classical.byContradiction fun q=>hall fun e he => ?_
    have:=rM hc he; omega
   | succ r ih =>
    intro d hd
    have hr:=(List.getElem?_eq_some_iff.mp hd).1
    have hc:(chg zs)[r]?=some (chg zs)[r]:=List.getElem?_eq_getElem (by omega)
    have:=hn r _ d hc hd
    have:=ih _ hc
    omega
  rw [← fl]
  refine still hz (by omega) (Nat.le_refl _) fun e he z => ?_
  obtain ⟨k,hk,ek⟩:=List.getElem_of_mem he
  have:=h0 k e (by rw [List.getElem?_eq_getElem hk,ek])
  omega
theorem aGM {zs:List Str}{r c i j:Nat} (hr:(chg zs)[r]?=some i) (hr1:r+1 < (chg zs).length) (hc:(chg (aE zs))[c]?=some j) (hc1:c+1 < (chg (aE zs)).length) {z:Str} (hz:zs[i]?=some z):∃ y,(bZ zs)[r]?=some y∧atS y c=atS z j:=by
 have d1:(chg zs).dropLast[r]?=some i:=by rw [List.getElem?_dropLast,if_pos (by omega)]; exact hr
 have d2:(chg (aE zs)).dropLast[c]?=some j:=by rw [List.getElem?_dropLast,if_pos (by omega)]; exact hc
 unfold bZ
 rw [List.getElem?_map,d1]
 refine ⟨_,rfl,?_⟩
 rw [jX,List.getD_eq_getElem?_getD,List.getElem?_map,d2,List.getD_eq_getElem?_getD,hz]
 rfl
theorem aIH {n:Nat}{zs:List Str} (h:∀ z∈zs,z.length=n) {c k i d:Nat} (hk:k < n) (h1:(chg (aE zs))[c]?=some i) (h2:(chg (aE zs))[c+1]?=some d) (hc:i≤k) (hd:k < d):∀ z∈zs,atS z k=atS z i:=fun z hz=>by
 have hne:zs≠[]:=fun e=>by rw [e] at hz; cases hz
 have hl:=b3 h hne
 have:=wS (zs:=aE zs) (by omega) h1 h2 hc hd
 rw [fE h hne hk,fE h hne (by omega)] at this
 exact qW.mp this z hz
theorem aGX {n:Nat}{zs:List Str} (h:∀ z∈zs,z.length=n) {k:Nat} (hk:k < n) (hn:∀ r c d,(chg (aE zs))[r]?=some c→(chg (aE zs))[r+1]?=some d→¬ (c≤k∧k < d)):∀ z∈zs,atS z k=46:=fun z hz=>by
 have hne:zs≠[]:=fun e=>by rw [e] at hz; cases hz
 have hl:=b3 h hne
 have:=tY (zs:=aE zs) (fun z hz=>fL z hz) (j:=k) (by omega) hn
 rw [fE h hne hk] at this
 have e:ofL (zs.map (atS · k))=dots zs.length:=by injection this
 obtain ⟨i,hi,rfl⟩:=List.getElem_of_mem hz
 have e2:=congrArg (fun s=>atS s i) e
 simp only [jX,jW,if_pos hi] at e2
 rw [List.getD_eq_getElem?_getD,List.getElem?_map,List.getElem?_eq_getElem hi] at e2
 exact e2
def c0 (C:List Nat) (k:Int):Nat:=(C.filter fun (i:Nat)=>decide ((i:Int)≤k)).length
def bd (C:List Nat) (k:Int):Int:=(c0 C k:Int) - 1
theorem qZ {k:Int}:∀ {C:List Nat},C.Pairwise (· < ·)→∀ {i c:Nat},C[i]?=some c→((c:Int)≤k↔i < c0 C k)
 | [],_,i,c,h=>by simp at h
 | a::l,hs,i,c,h=>by
  obtain ⟨h1,h2⟩:=List.pairwise_cons.mp hs
  unfold c0
  by_cases ha:(a:Int)≤k
  ·rw [List.filter_cons_of_pos (by simpa using ha),List.length_cons]
   cases i with
   | zero=>simp at h; subst h; exact ⟨fun _=>by omega,fun _=>ha⟩
   | succ i =>
    have:=qZ (k:=k) h2 (i:=i) (c:=c) (by simpa using h)
    unfold c0 at this
    rw [this]; omega
  ·rw [List.filter_cons_of_neg (by simpa using ha)]
   have e:l.filter (fun (i:Nat)=>decide ((i:Int)≤k))=[]:=List.filter_eq_nil_iff.mpr fun x hx=>by have:=h1 x hx; simp; omega
   rw [e]
   cases i with
   | zero=>simp at h; subst h; exact ⟨fun z=>absurd z ha,fun z=>by simp at z⟩
   | succ i =>
    have:=h1 c (List.mem_of_getElem? (i:=i) (by simpa using h))
    exact ⟨fun z=>by omega,fun z=>by simp at z⟩
theorem aAD (C:List Nat) (k:Int):c0 C k≤C.length:=List.length_filter_le _ _
theorem aGO {n:Nat}{zs:List Str} (g:Good n zs) (k j:Int):aR (bZ zs) (bd (chg (aE zs)) k) (bd (chg zs) j)=aR zs k j:=by
 have h:∀ z∈zs,z.length=n:=fun z hz=>(g z hz).1
 have kl:(bZ zs).length=(chg zs).length - 1:=by unfold bZ; rw [List.length_map,List.length_dropLast]
 have kw:∀ z∈bZ zs,z.length=(chg (aE zs)).length - 1:=fun z hz=>by
  unfold bZ at hz
  obtain ⟨i,_,rfl⟩:=List.mem_map.mp hz
  rw [eN,List.length_map,List.length_dropLast]
 have c1:=aAD (chg zs) j
 have c2:=aAD (chg (aE zs)) k
 have key1:=fun {i c}=>qZ (k:=j) (b5 zs) (i:=i) (c:=c)
 have key2:=fun {i c}=>qZ (k:=k) (b5 (aE zs)) (i:=i) (c:=c)
 unfold bd
 -- the row is none: both are out
 by_cases hr:0 < c0 (chg zs) j∧c0 (chg zs) j < (chg zs).length
 rotate_left
 ·have lhs:aR (bZ zs) ((c0 (chg (aE zs)) k:Int) - 1) ((c0 (chg zs) j:Int) - 1)=false:=by
   by_cases h0:c0 (chg zs) j=0
   ·exact c6 (by omega)
   ·exact c8 (by omega)
  rw [lhs]
  symm
  by_cases hj0:j < 0
  ·exact c6 hj0
  by_cases hj1:(zs.length:Int)≤j
  ·exact c8 hj1
  obtain ⟨m,rfl⟩:∃ m:Nat,j=(m:Int):=⟨j.toNat,by omega⟩
  have hd:=tY h (j:=m) (by omega) fun r c d h1 h2 h3=>by
   have a1:=key1 h1
   have a2:=key1 h2
   have hl2:=(List.getElem?_eq_some_iff.mp h2).1
   omega
  by_cases hk0:k < 0
  ·exact cS hk0
  obtain ⟨q,rfl⟩:∃ q:Nat,k=(q:Int):=⟨k.toNat,by omega⟩
  by_cases hk1:n≤q
  ·exact iW (z:=dots n) (by rw [Int.toNat_natCast]; exact hd) (by rw [pH]; omega)
  ·rw [eB (z:=dots n) (c:=46) (by omega) (by omega) (by rw [Int.toNat_natCast]; exact hd) (by rw [Int.toNat_natCast,cA (by rw [pH]; omega),jW,if_pos (by omega)])]
   rfl
 obtain ⟨r,hr0⟩:∃ r,c0 (chg zs) j=r+1:=⟨c0 (chg zs) j - 1,by omega⟩
 have er:(((c0 (chg zs) j:Nat):Int) - 1)=(r:Int):=by omega
 have g1:(chg zs)[r]?=some (chg zs)[r]:=List.getElem?_eq_getElem (by omega)
 have g2:(chg zs)[r+1]?=some (chg zs)[r+1]:=List.getElem?_eq_getElem (by omega)
 have b1:=(key1 g1).mpr (by omega)
 have b2:=key1 g2
 have hd2:=dY _ _ (List.mem_of_getElem? g2)
 obtain ⟨m,rfl⟩:∃ m:Nat,j=(m:Int):=⟨j.toNat,by omega⟩
 have hm:m < zs.length:=by omega
 have eb:=wS hm g1 g2 (by omega) (by omega)
 obtain ⟨z,hz⟩:∃ z,zs[m]?=some z:=⟨zs[m],List.getElem?_eq_getElem hm⟩
 rw [hz] at eb
 have hzm:=List.mem_of_getElem? hz
 have hkr:r < (bZ zs).length:=by omega
 have hky:(bZ zs)[r]?=some (bZ zs)[r]:=List.getElem?_eq_getElem hkr
 have hyl:=kw _ (List.getElem_mem hkr)
 rw [er]
 by_cases hc:0 < c0 (chg (aE zs)) k∧c0 (chg (aE zs)) k < (chg (aE zs)).length
 rotate_left
 ·have lhs:aR (bZ zs) ((c0 (chg (aE zs)) k:Int) - 1) (r:Int)=false:=by
   by_cases h0:c0 (chg (aE zs)) k=0
   ·exact cS (by omega)
   ·exact iW (z:=(bZ zs)[r]) (by rw [Int.toNat_natCast]; exact hky) (by omega)
  rw [lhs]
  symm
  by_cases hk0:k < 0
  ·exact cS hk0
  obtain ⟨q,rfl⟩:∃ q:Nat,k=(q:Int):=⟨k.toNat,by omega⟩
  by_cases hk1:n≤q
  ·exact iW (z:=z) (by rw [Int.toNat_natCast]; exact hz) (by rw [h z hzm]; omega)
  ·have:=aGX h (k:=q) (by omega) (fun r c d h1 h2 h3=>by
    have a1:=key2 h1
    have a2:=key2 h2
    have hl2:=(List.getElem?_eq_some_iff.mp h2).1
    omega) z hzm
   rw [eB (z:=z) (c:=46) (by omega) (by omega) (by rw [Int.toNat_natCast]; exact hz) (by rw [Int.toNat_natCast,cA (by rw [h z hzm]; omega),this])]
   rfl
 obtain ⟨c,hc0⟩:∃ c,c0 (chg (aE zs)) k=c+1:=⟨c0 (chg (aE zs)) k - 1,by omega⟩
 have ec:(((c0 (chg (aE zs)) k:Nat):Int) - 1)=(c:Int):=by omega
 have f1:(chg (aE zs))[c]?=some (chg (aE zs))[c]:=List.getElem?_eq_getElem (by omega)
 have f2:(chg (aE zs))[c+1]?=some (chg (aE zs))[c+1]:=List.getElem?_eq_getElem (by omega)
 have d1:=(key2 f1).mpr (by omega)
 have d2:=key2 f2
 have hne:zs≠[]:=fun e=>by rw [e] at hm; simp at hm
 have hcl:=b3 h hne
 have hd3:=dY _ _ (List.mem_of_getElem? f2)
 obtain ⟨q,rfl⟩:∃ q:Nat,k=(q:Int):=⟨k.toNat,by omega⟩
 have hq:q < n:=by omega
 obtain ⟨y,hy,ey⟩:=aGM g1 (by omega) f1 (by omega) eb.symm
 have ecol:=aIH h (k:=q) hq f1 f2 (by omega) (by omega) z hzm
 have hyl2:=kw y (List.mem_of_getElem? hy)
 rw [ec,eB (z:=y) (c:=atS y c) (by omega) (by omega) (by rw [Int.toNat_natCast]; exact hy) (by rw [Int.toNat_natCast]; exact cA (by omega)),
  eB (z:=z) (c:=atS z q) (by omega) (by omega) (by rw [Int.toNat_natCast]; exact hz) (by rw [Int.toNat_natCast]; exact cA (by rw [h z hzm]; exact hq)),ey,ecol]
theorem d9 {K:List Str}{a u:Int}:aR K a u=true↔0≤u∧0≤a∧∃ z,K[u.toNat]?=some z∧z.cps.toList[a.toNat]?=some 35:=by
 unfold aR
 rw [Bool.and_eq_true,Bool.and_eq_true,decide_eq_true_eq,decide_eq_true_eq,beq_iff_eq]
 constructor
 ·rintro ⟨⟨h1,h2⟩,h3⟩
  obtain ⟨z,hz,e⟩:=Option.bind_eq_some_iff.mp h3
  exact ⟨h1,h2,z,hz,e⟩
 ·rintro ⟨h1,h2,z,hz,e⟩
  exact ⟨⟨h1,h2⟩,Option.bind_eq_some_iff.mpr ⟨z,hz,e⟩⟩
theorem rY {n:Nat}{K:List Str} (h:∀ z∈K,z.length=n) (a u:Int):aR (aE K) a u=aR K u a:=by
 by_cases hK:K=[]
 ·subst hK
  rw [Bool.eq_iff_iff,d9,d9]
  constructor
  ·rintro ⟨_,_,z,hz,_⟩; cases hz
  ·rintro ⟨_,_,z,hz,_⟩; cases hz
 rw [Bool.eq_iff_iff,d9,d9]
 have l1:=b3 h hK
 constructor
 ·rintro ⟨h1,h2,z,hz,e⟩
  have hu:=(List.getElem?_eq_some_iff.mp hz).1
  rw [l1] at hu
  rw [fE h hK hu] at hz
  have ez:=(Option.some.inj hz).symm
  subst ez
  have e':(K.map (atS · u.toNat))[a.toNat]?=some 35:=e
  rw [List.getElem?_map] at e'
  obtain ⟨y,hy,ey⟩:=Option.map_eq_some_iff.mp e'
  refine ⟨h2,h1,y,hy,?_⟩
  rw [cA (by rw [h y (List.mem_of_getElem? hy)]; exact hu)]
  exact congrArg some ey
 ·rintro ⟨h1,h2,z,hz,e⟩
  have hlt:=(List.getElem?_eq_some_iff.mp e).1
  rw [Array.length_toList] at hlt
  have hs:z.cps.size=z.length:=rfl
  have hl:=h z (List.mem_of_getElem? hz)
  refine ⟨h2,h1,_,fE h hK (show u.toNat < n by omega),?_⟩
  show (K.map (atS · u.toNat))[a.toNat]?=some 35
  rw [List.getElem?_map,hz,Option.map_some]
  rw [cA (by omega)] at e
  exact e
def jA:List Int→List Int→List Int
 | [],ys=>ys
 | x::xs,[]=>x::xs
 | x::xs,y::ys=>if y < x then y::jA (x::xs) ys else if x=y then x::jA xs ys else x::jA xs (y::ys)
termination_by xs ys=>xs.length+ys.length
theorem lX {xs ys:List Int}{f s:Nat} (hf:f < xs.length) (hs:s < ys.length) :
  jA (xs.drop f) (ys.drop s)=(if ys.getD s 0 < xs.getD f 0 then ys.getD s 0 else xs.getD f 0)::jA (xs.drop (f+if xs.getD f 0=(if ys.getD s 0 < xs.getD f 0 then ys.getD s 0 else xs.getD f 0) then 1 else 0)) (ys.drop (s+if ys.getD s 0=(if ys.getD s 0 < xs.getD f 0 then ys.getD s 0 else xs.getD f 0) then 1 else 0)):=by
 have ex:xs.drop f=xs.getD f 0::xs.drop (f+1):=by rw [List.drop_eq_getElem_cons hf,List.getD_eq_getElem?_getD,List.getElem?_eq_getElem hf]; rfl
 have ey:ys.drop s=ys.getD s 0::ys.drop (s+1):=by rw [List.drop_eq_getElem_cons hs,List.getD_eq_getElem?_getD,List.getElem?_eq_getElem hs]; rfl
 generalize xs.getD f 0=x at *
 generalize ys.getD s 0=y at *
 conv=>lhs; rw [ex,ey,jA]
 by_cases h:y < x
 ·rw [if_pos h,if_pos h,if_neg (by omega),if_pos rfl]
  show _=y::jA (xs.drop f) (ys.drop (s+1))
  rw [ex]
 ·rw [if_neg h,if_neg h,if_pos rfl]
  by_cases h2:x=y
  ·rw [if_pos h2,if_pos h2.symm]
  ·rw [if_neg h2,if_neg (fun e=>h2 e.symm)]
   show _=x::jA (xs.drop (f+1)) (ys.drop s)
   rw [ey]
end R
namespace U
open PySem
abbrev Up (ws:List Rat):Prop:=ws.Pairwise (· < ·)
def ix (ws:List Rat) (x:Rat):Int:=((ws.filter fun w=>decide (w≤x)).length:Int) - 1
theorem p9 (ws:List Rat) (x:Rat) : -1≤ix ws x:=by unfold ix; omega
theorem qI (ws:List Rat) (x:Rat):ix ws x < ws.length:=by
 unfold ix
 have:=List.length_filter_le (fun w=>decide (w≤x)) ws
 omega
theorem c9 {x:Rat}:∀ {ws:List Rat},Up ws→∀ {i:Nat} (h:i < ws.length),ws[i]≤x↔(i:Int)≤ix ws x
 | [],_,i,h=>absurd h (Nat.not_lt_zero _)
 | w::r,u,i,h=>by
  obtain ⟨u1,u2⟩:=List.pairwise_cons.mp u
  unfold ix
  by_cases hw:w≤x
  ·rw [List.filter_cons_of_pos (by simpa using hw),List.length_cons]
   cases i with
   | zero=>exact ⟨fun _=>by omega,fun _=>hw⟩
   | succ i =>
    have:=c9 (x:=x) u2 (i:=i) (by simpa using h)
    unfold ix at this
    simp only [List.getElem_cons_succ]
    rw [this]
    omega
  ·rw [List.filter_cons_of_neg (by simpa using hw)]
   have e:r.filter (fun w=>decide (w≤x))=[]:=List.filter_eq_nil_iff.mpr fun a ha=>by
    have:=u1 a ha
    simp only [decide_eq_true_eq]
    grind
   rw [e]
   have h1:¬ (w::r)[i]≤x:=by
    cases i with
    | zero=>simpa using hw
    | succ i =>
     have:=u1 _ (List.getElem_mem (by simpa using h:i < r.length))
     simp only [List.getElem_cons_succ]
     grind
   exact ⟨fun z=>absurd z h1,fun z=>by simp at z; omega⟩
theorem nU {ws:List Rat}{x:Rat}{k:Int} (u:Up ws) (h0 : -1≤k) (h1:k < ws.length) (h:∀ (i:Nat) (hi:i < ws.length),ws[i]≤x↔(i:Int)≤k):ix ws x=k:=by
 have a:=p9 ws x
 have b:=qI ws x
 apply Int.le_antisymm
 ·by_cases hk:0≤ix ws x
  ·have q:=(h (ix ws x).toNat (by omega)).mp ((c9 u (by omega)).mpr (by omega))
   omega
  ·omega
 ·by_cases hk:0≤k
  ·have q:=(c9 (x:=x) u (i:=k.toNat) (by omega)).mp ((h k.toNat (by omega)).mpr (by omega))
   omega
  ·omega
theorem i3 {ws:List Rat} (u:Up ws) {i j:Nat} (hi:i < ws.length) (hj:j < ws.length):ws[i] < ws[j]↔i < j:=by
 have p:=List.pairwise_iff_getElem.mp u
 constructor
 ·intro h
  rcases Nat.lt_trichotomy i j with q | q | q
  ·exact q
  ·subst q; grind
  ·have:=p j i hj hi q; grind
 ·exact p i j hi hj
theorem jP {ws:List Rat} (u:Up ws) {i j:Nat} (hi:i < ws.length) (hj:j < ws.length):ws[i]≤ws[j]↔i≤j:=by
 have:=i3 u hj hi
 constructor
 ·intro h; refine Nat.le_of_not_lt fun q => ?_
  have:=this.mpr q; grind
 ·intro h
  have:¬ ws[j] < ws[i]:=fun q=>by have:=this.mp q; omega
  grind
theorem fX {ws:List Rat} (u:Up ws) {i:Nat} (hi:i < ws.length):ix ws ws[i]=i :=
 nU u (by omega) (by omega) fun j hj=>by rw [jP u hj hi]; omega
theorem aAZ {ws vs:List Rat} (u:Up ws) (v:Up vs) (h:∀ x,x∈ws↔x∈vs):ws=vs:=by
 induction ws generalizing vs with
 | nil =>
  cases vs with
  | nil=>rfl
  | cons a r=>exact absurd ((h a).mpr (.head _)) (by simp)
 | cons w ws ih =>
  cases vs with
  | nil=>exact absurd ((h w).mp (.head _)) (by simp)
  | cons a r =>
   obtain ⟨u1,u2⟩:=List.pairwise_cons.mp u
   obtain ⟨v1,v2⟩:=List.pairwise_cons.mp v
   have e:w=a:=by
    rcases List.mem_cons.mp ((h w).mp (.head _)) with q | q
    ·exact q
    ·rcases List.mem_cons.mp ((h a).mpr (.head _)) with z | z
     ·exact z.symm
     ·have:=v1 w q; have:=u1 a z; grind
   subst e
   rw [ih u2 v2 fun x => ?_]
   constructor
   ·intro hx
    rcases List.mem_cons.mp ((h x).mp (.tail _ hx)) with q | q
    ·subst q; have:=u1 x hx; grind
    ·exact q
   ·intro hx
    rcases List.mem_cons.mp ((h x).mpr (.tail _ hx)) with q | q
    ·subst q; have:=v1 x hx; grind
    ·exact q
theorem yE {ws xs:List Rat} (u:Up ws) (v:Up xs) (hs:∀ w∈ws,w∈xs) {x:Rat}{i:Nat} (hi:i < xs.length) (e:ix xs x=i):ix ws x=ix ws xs[i]:=by
 unfold ix
 refine congrArg (fun l:List Rat=>(l.length:Int) - 1) (List.filter_congr fun w hw => ?_)
 obtain ⟨j,hj,rfl⟩:=List.getElem_of_mem (hs w hw)
 have h1:=c9 (x:=x) v hj
 have h2:=jP v hj hi
 rw [decide_eq_decide,h1,h2,e]
 omega
theorem aCL {ws xs:List Rat} (v:Up xs) (hs:∀ w∈ws,w∈xs) {x:Rat} (e:ix xs x = -1):ix ws x = -1:=by
 unfold ix
 rw [List.filter_eq_nil_iff.mpr fun w hw => ?_]
 ·rfl
 ·obtain ⟨j,hj,rfl⟩:=List.getElem_of_mem (hs w hw)
  have h1:=c9 (x:=x) v hj
  rw [decide_eq_true_eq,h1,e]
  omega
theorem wO {ws xs:List Rat} (v:Up xs) (hs:∀ w∈ws,w∈xs) {x:Rat} (e:ix xs x=(xs.length:Int) - 1):ix ws x=(ws.length:Int) - 1:=by
 unfold ix
 rw [List.filter_eq_self.mpr fun w hw => ?_]
 obtain ⟨j,hj,rfl⟩:=List.getElem_of_mem (hs w hw)
 have h1:=c9 (x:=x) v hj
 rw [decide_eq_true_eq,h1,e]
 omega
def gE (xs:List Rat) (js:List Nat):List Rat:=js.map fun j=>xs.getD j 0
theorem tV {xs:List Rat} (u:Up xs) {js:List Nat} (hs:js.Pairwise (· < ·)) (h:∀ j∈js,j < xs.length):Up (gE xs js):=by
 unfold gE Up
 rw [List.pairwise_map]
 refine List.Pairwise.imp_of_mem ?_ hs
 intro a b ha hb hab
 have h1:=h a ha
 have h2:=h b hb
 rw [List.getD_eq_getElem?_getD,List.getD_eq_getElem?_getD,List.getElem?_eq_getElem h1,List.getElem?_eq_getElem h2]
 exact (i3 u h1 h2).mpr hab
theorem sC {xs:List Rat}{js:List Nat} (h:∀ j∈js,j < xs.length):∀ x∈gE xs js,x∈xs:=fun x hx=>by
 obtain ⟨j,hj,rfl⟩:=List.mem_map.mp hx
 rw [List.getD_eq_getElem?_getD,List.getElem?_eq_getElem (h j hj)]
 exact List.getElem_mem _
theorem wM {xs:List Rat} (u:Up xs) {js:List Nat} (h:∀ j∈js,j < xs.length) (x:Rat):ix (gE xs js) x=R.bd js (ix xs x):=by
 unfold ix gE R.bd R.c0
 rw [List.filter_map,List.length_map]
 congr 2
 congr 1
 refine List.filter_congr fun j hj => ?_
 have h1:=h j hj
 have:=c9 (x:=x) u h1
 show decide (xs.getD j 0≤x)=_
 rw [List.getD_eq_getElem?_getD,List.getElem?_eq_getElem h1,decide_eq_decide]
 exact this
end U
namespace Z
open PySem L2
end Z
namespace Q
open PySem L2 Z
theorem tE {n:Nat} (h:n≤1000):("." : Str).length * ((n:Int)).toNat≤sizeLine:=by
 have e:("." : Str).length=1:=by decide +kernel
 rw [e,Int.toNat_natCast,Nat.one_mul]
 exact R.aU (by omega)
theorem jS {zs:List Str}{i:Nat} (h:i < zs.length+2):∃ u,(R.framed zs)[i]?=some u:=⟨(R.framed zs)[i]'(by rw [R.jR]; exact h),by simp [R.jR,h]⟩
theorem oJ {zs:List Str}{i:Nat}{z:Str} (h:zs[i]?=some z):atI (zs.map D.str) (0+(i:Int))=some (.str z):=by
 rw [Int.zero_add]; exact cW (by rw [List.getElem?_map,h]; rfl)
theorem uI {zs:List Str}{i:Nat}{z:Str} (h:zs[i+1]?=some z):atI (zs.map D.str) (0+(i:Int)+1)=some (.str z):=by
 rw [Int.zero_add]; exact cW (j:=i+1) (by rw [List.getElem?_map,h]; rfl)
def natD (l:List Nat):List D:=l.map fun (i:Nat)=>D.int (i:Int)
theorem gP {l:List Nat}{i:Nat}{d:D} (h:(natD l)[i]?=some d):∃ j,l[i]?=some j∧d = .int (j:Int):=bP h
theorem cR (l:List Nat):(natD l).length=l.length:=by simp [natD]
theorem aAN {zs:List Str}:(List.range (zs.length+1)).filter (fun i => !decide ((R.framed zs)[i]?=(R.framed zs)[i+1]?))=R.chg zs:=by
 unfold R.chg
 cases zs with
 | nil=>rfl
 | cons z zr=>rfl
theorem iZ {p:Nat→Bool}{n:Nat}:(List.range (n+1)).filter p=if p n=true then (List.range n).filter p++[n] else (List.range n).filter p:=by
 rw [List.range_succ,List.filter_append]
 by_cases h:p n=true
 ·rw [if_pos h,List.filter_cons_of_pos h]; rfl
 ·rw [if_neg h,List.filter_cons_of_neg h,List.filter_nil,List.append_nil]
theorem kP {α:Type} (l:List α):cutD l none (some (-1))=l.dropLast:=by
 unfold cutD
 have e1:HT.sIx l.length 0 none=0:=rfl
 have e2:HT.sIx l.length l.length (some (-1))=l.length - 1:=by
  show (if (-1:Int) < 0 then ((-1:Int)+(l.length:Int)).toNat else min (-1:Int).toNat l.length)=l.length - 1
  rw [if_pos (by decide)]; omega
 rw [e1,e2,List.drop_zero,Nat.sub_zero,List.dropLast_eq_take]
theorem gH (l:List Nat):(natD l).dropLast=natD l.dropLast:=by simp [natD,List.map_dropLast]
theorem bO {α β:Type}{f:α→β}{l:List α}{i:Nat}{x:α} (h:l[i]?=some x):(l.take (i+1)).map f=(l.take i).map f++[f x]:=by
 rw [fK h,List.map_append]; rfl
theorem at_D {xs:List D}{j:Nat} (h:j < xs.length):atI xs (j:Int)=some (xs.getD j .non):=cW (by simp [h])
theorem nV (l:List Str) (h:∀ z∈l,z.length=1):(l.map (·.length)).sum=l.length:=by
 induction l with
 | nil=>rfl
 | cons a l ih =>
  rw [List.map_cons,List.sum_cons,ih fun z hz=>h z (by simp [hz]),h a (by simp),List.length_cons,Nat.add_comm]
theorem uB (zs:List Str) (j:Nat):PySem.Txt.join Str.empty (zs.map fun z=>(⟨#[R.atS z j]⟩:Str))=R.ofL (zs.map (R.atS · j)):=by
 have:=R.qU (zs.map (R.atS · j))
 rw [List.map_map] at this
 exact this
theorem map_nil {α β:Type}{f:α→β}{l:List α} (h:decide (l.map f=[])=true):l=[]:=by
 have:=of_decide_eq_true h
 cases l with
 | nil=>rfl
 | cons a l=>cases this
end Q
namespace R
open PySem L2
theorem cM {A:Around}{k n:Nat} (hr:Room k A) (h:n≤64:=by decide):A.units+n < cLine:=by have:=hr.units; omega
end R
namespace Q
open PySem L2 Z
theorem ButM.del {p a:Addr}{M M':Mem} (h:ButM p M M') (n:M a=none):ButM p M (delM M' a):=fun b u nb e=>by
 rw [oB (fun z=>by rw [z,n] at e; cases e)]; exact h b u nb e
theorem ButM.none_of {p a:Addr}{M M':Mem} (h:ButM p M M') (n:M' a=none) (np:a≠p):M a=none:=by
 cases e:M a with
 | none=>rfl
 | some o=>rw [h a o np e] at n; cases n
theorem aBB {n:Nat}{zs:List Str} (h:R.Good n zs) {cs:List Nat} (hl:cs.length=n) (hs:∀ c∈cs,c=35∨c=46):R.Good n (zs++[R.ofL cs]):=fun z hz=>by
 rcases List.mem_append.mp hz with hz | hz
 ·exact h z hz
 ·rw [List.mem_singleton] at hz
  subst hz
  refine ⟨by rw [R.eN]; exact hl,?_⟩
  show cs.all R.sgn=true
  rw [List.all_eq_true]
  intro c hc
  rcases hs c hc with rfl | rfl <;> rfl
theorem aGT (l:List Nat):((l.map fun c=>(⟨#[c]⟩:Str)).map (·.length)).sum=l.length:=by
 rw [nV _ fun z hz=>by obtain ⟨c,_,rfl⟩:=List.mem_map.mp hz; rfl,List.length_map]
end Q
namespace Z
open PySem L2
section
variable {K:Fg}{M:Mem}{k:D→Mem→Prop}
end
theorem aCA {es:List D}{i:Nat}{d:D} (h:(fW es)[i]?=some d):∃ x,es[i]?=some x∧d = .tup [.int (i:Int),x]:=by
 unfold fW at h
 rw [List.getElem?_mapIdx] at h
 cases e:es[i]? with
 | none=>rw [e] at h; cases h
 | some x=>rw [e] at h; exact ⟨x,rfl,(Option.some.inj h).symm⟩
theorem aAF (es:List D):(fW es).length=es.length:=by simp [fW]
end Z
namespace L2
open PySem PySem.Spec PyProof.Rows
section
variable {X:Cx}
end
end L2
namespace Z
open PySem L2
section
variable {K:Fg}{M:Mem}{k:D→Mem→Prop}
end
end Z
namespace Q
open PySem L2 Z
def cHas:Ct:=fun ds M k=>∃ (x y:D) (zs:List Str) (a u:Int),ds=[.tup [x,y, .tup (zs.map .str)], .int a, .int u]∧(∀ z∈zs,z.length≤1000)∧k (.bl (R.aR zs a u)) M
theorem aAV {c:Nat}:decide ((⟨#[c]⟩:Str)=("#" : Str))=decide (c=35):=by
 have e:("#" : Str)=⟨#[35]⟩:=by decide +kernel
 rw [e]
 by_cases h:c=35
 ·rw [h]; simp
 ·rw [decide_eq_false h]
  exact decide_eq_false fun z=>h (by injection z with z; simpa using z)
theorem aG1 {zs:List Str}{a u:Int} (h1:¬ decide (u < 0)=true) (h2:¬ decide (((zs.map D.str).length:Int)≤u)=true) (h3:¬ decide (a < 0)=true):0≤u∧0≤a∧∃ z,zs[u.toNat]?=some z∧atI (zs.map D.str) u=some (.str z):=by
 have h1':¬ u < 0:=fun z=>h1 (decide_eq_true z)
 have h2':¬ ((zs.length:Nat):Int)≤u:=fun z=>h2 (decide_eq_true (by rw [List.length_map]; exact z))
 have h3':¬ a < 0:=fun z=>h3 (decide_eq_true z)
 obtain ⟨j,rfl⟩:∃ j:Nat,u=(j:Int):=⟨u.toNat,by omega⟩
 have hj:j < zs.length:=by omega
 refine ⟨by omega,by omega,zs[j],by simp [hj],cW (by simp [hj])⟩
theorem aFL {z:Str}{a:Int} (ha:0≤a) (h:¬ ((z.length:Nat):Int)≤a):∃ c,z.cps.toList[a.toNat]?=some c∧atI z.cps.toList a=some c:=by
 obtain ⟨j,rfl⟩:∃ j:Nat,a=(j:Int):=⟨a.toNat,by omega⟩
 have hj:j < z.cps.toList.length:=by rw [Array.length_toList]; have:z.cps.size=z.length:=rfl; omega
 exact ⟨z.cps.toList[j],by simp,cW (List.getElem?_eq_getElem hj)⟩
end Q
namespace HT
open PySem PySem.Spec PyProof.Rows
section
variable {prog:Program}{w:World}{A:Around}{E:Value→Shared→Prop}{s:Shared}
end
end HT
namespace L2
open PySem PySem.Spec PyProof.Rows
section
variable {X:Cx}
end
end L2
namespace Z
open PySem L2
section
variable {X:Cx}{Γ:Gm}{M:Mem}{k:D→Mem→Prop}{e:Expr}
end
end Z
namespace Q
open PySem L2 Z
theorem dotted (z:Str):("." : Str)++z++("." : Str)=R.ofL (46::z.cps.toList++[46]):=by
 apply eU
 have e:("." : Str).cps = #[46]:=by decide +kernel
 show (("." : Str).cps++z.cps++("." : Str).cps).toList=46::z.cps.toList++[46]
 rw [e]; simp
theorem yT (z:Str) (h:z.length≤1000):("." : Str).length+z.length≤sizeLine∧(("." : Str)++z).length+("." : Str).length≤sizeLine:=by
 have e:("." : Str).length=1:=by decide +kernel
 have e2:(("." : Str)++z).length=1+z.length:=by
  show (("." : Str).cps++z.cps).size=_
  rw [Array.size_append]
  have:("." : Str).cps.size=1:=e
  rw [this]; rfl
 rw [e2,e]
 exact ⟨R.aU (by omega),R.aU (by omega)⟩
end Q
namespace Z
open PySem L2
theorem slen (a b:Str):(a++b).length=a.length+b.length:=by
 show (a.cps++b.cps).size=_
 rw [Array.size_append]; rfl
theorem o7:∀ (ts:List Str) (k:Nat) (acc:Str),(textFrom k acc ts).length≤acc.length+(ts.map (·.length)).sum+2 * ts.length
 | [],k,acc=>by simp [textFrom]
 | t::ts,k,acc=>by
  have ih:=o7 ts (k+1) (acc++(if k > 0 then ", " else "" : String)++t)
  have e:(acc++((if k > 0 then ", " else "" : String):Str)++t).length≤acc.length+2+t.length:=by
   rw [slen,slen]
   split
   ·have:((", " : String):Str).length=2:=by decide +kernel
    omega
   ·have:(("" : String):Str).length=0:=by decide +kernel
    omega
  show (textFrom (k+1) (acc++(if k > 0 then ", " else "" : String)++t) ts).length≤_
  rw [List.map_cons,List.sum_cons,List.length_cons]
  omega
theorem vV (ts:List Str):(listText ts).length≤(ts.map (·.length)).sum+2 * ts.length+2:=by
 unfold listText
 rw [slen]
 have h:=o7 ts 0 "["
 have e1:("[" : Str).length=1:=by decide +kernel
 have e2:("]" : Str).length=1:=by decide +kernel
 omega
theorem wL:∀ ts:List Str,(Str.join ", " ts).length≤(ts.map (·.length)).sum+2 * ts.length
 | []=>by show (Str.empty).length≤_; exact Nat.zero_le _
 | [x]=>by show x.length≤_; simp
 | x::y::r=>by
  have ih:=wL (y::r)
  show (x ++ ", " ++ Str.join ", " (y::r)).length≤_
  rw [slen,slen]
  have e2:((", " : String):Str).length=2:=by decide +kernel
  rw [List.map_cons,List.sum_cons,List.length_cons]
  omega
theorem u5 (ts:List Str):(tupleText ts).length≤(ts.map (·.length)).sum+2 * ts.length+3:=by
 unfold tupleText
 rw [slen,slen]
 have h:=wL ts
 have e1:("(" : Str).length=1:=by decide +kernel
 have e2:(((if ts.length == 1 then ",)" else ")" : String)):Str).length≤2:=by split <;> decide +kernel
 omega
mutual
def smD:D→Bool
 | .non | .bl _ | .str _=>true
 | .int i=>decide (i.natAbs < 10 ^ 65)
 | .tup ds=>smDs ds
 | .lst ds=>smDs ds
 | .mt _ | .fl _ | .st _=>false
def smDs:List D→Bool
 | []=>true
 | d::ds=>smD d && smDs ds
end
mutual
def wt:D→Nat
 | .non=>4
 | .bl _=>5
 | .int _=>66
 | .str x=>(reprText x).length
 | .tup ds=>wts ds+3
 | .lst ds=>wts ds+2
 | .mt _ | .fl _ | .st _=>0
def wts:List D→Nat
 | []=>0
 | d::ds=>wt d+2+wts ds
end
mutual
theorem shown_le:∀ d:D,smD d=true→(toPy d).showable=true∧(toPy d).shown.length≤wt d
 | .non,_=>by simp only [toPy,PyData.showable,PyData.shown,wt]; exact ⟨trivial,by decide +kernel⟩
 | .bl b,_=>by simp only [toPy,PyData.showable,PyData.shown,wt]; exact ⟨trivial,by cases b <;> decide +kernel⟩
 | .str x,_=>by simp only [toPy,PyData.showable,PyData.shown,wt]; exact ⟨trivial,Nat.le_refl _⟩
 | .int i,h=>by
  simp only [smD,decide_eq_true_eq] at h
  simp only [toPy,PyData.showable,PyData.shown,wt,decide_eq_true_eq]
  refine ⟨?_,?_⟩
  ·have h2:i.natAbs < 2 ^ 1920:=Nat.lt_of_lt_of_le h (by decide)
   by_cases h0:i.natAbs=0
   ·rw [h0]; decide
   ·exact (Nat.log2_lt h0).mpr h2
  ·have:=int_text_length_le10 (a:=i) (k:=65) (by decide) h
   show (Str.ofString (toString i)).length≤66
   rw [ofString_length]; exact this
 | .mt _,h=>by simp [smD] at h
 | .fl _,h=>by simp [smD] at h
 | .st _,h=>by simp [smD] at h
 | .tup ds,h=>by
  simp only [smD] at h
  obtain ⟨h1,h2⟩:=showns_le ds h
  simp only [toPy,PyData.showable,PyData.shown,wt]
  exact ⟨h1,Nat.le_trans (u5 _) (by omega)⟩
 | .lst ds,h=>by
  simp only [smD] at h
  obtain ⟨h1,h2⟩:=showns_le ds h
  simp only [toPy,PyData.showable,PyData.shown,wt]
  exact ⟨h1,Nat.le_trans (vV _) (by omega)⟩
theorem showns_le:∀ ds:List D,smDs ds=true→PyData.showableAll (toPys ds)=true∧((PyData.shownAll (toPys ds)).map (·.length)).sum+2 * (PyData.shownAll (toPys ds)).length≤wts ds
 | [],_=>by simp [toPys,PyData.showableAll,PyData.shownAll,wts]
 | d::ds,h=>by
  simp only [smDs,Bool.and_eq_true] at h
  obtain ⟨a1,a2⟩:=shown_le d h.1
  obtain ⟨b1,b2⟩:=showns_le ds h.2
  simp only [toPys,PyData.showableAll,PyData.shownAll,wts,List.map_cons,List.sum_cons,List.length_cons]
  exact ⟨by rw [a1,b1]; rfl,by omega⟩
end
theorem qV:∀ {ds:List D},(∀ d∈ds,smD d=true)→smDs ds=true
 | [],_=>by simp only [smDs]
 | d::ds,h=>by
  have ih:=qV (ds:=ds) fun e he=>h e (List.mem_cons_of_mem _ he)
  simp only [smDs,h d (by simp),ih,Bool.and_true]
theorem nP {n:Nat}:∀ {ds:List D},(∀ d∈ds,okD n d=true)→okDs n ds=true
 | [],_=>by simp only [okDs]
 | d::ds,h=>by
  have ih:=nP (ds:=ds) fun e he=>h e (List.mem_cons_of_mem _ he)
  simp only [okDs,h d (by simp),ih,Bool.and_true]
theorem uG {B:Nat}:∀ {ds:List D},(∀ d∈ds,wt d≤B)→wts ds≤ds.length * (B+2)
 | [],_=>by simp [wts]
 | d::ds,h=>by
  have h1:=h d (by simp)
  have h2:=uG (B:=B) (ds:=ds) fun e he=>h e (by simp [he])
  simp only [wts,List.length_cons,Nat.succ_mul]
  omega
theorem mE {K:Fg}{n:Nat}{M:Mem}{k:D→Mem→Prop}{d e:D} (r:Rs M d e) (ok:okD n e=true) (hs:smD e=true) (hz:wt e≤10000000) (h:k (.str (toPy e).shown) M):OpN K (zK K n) [d] M k :=
 aGR r ok (shown_le e hs).1 (Nat.le_trans (shown_le e hs).2 (Nat.le_trans hz (by decide))) h
end Z
namespace Q
open PySem L2 Z
def bN (p:Int × Int):D := .tup [.int p.1, .int p.2]
def cLaw:Ct:=fun ds M k=>∃ ns:List Int,ds=[.fl (ns.map .int)]∧ns.length≤63∧∀ M',k (.bl true) M'
end Q
namespace L2
open PySem PySem.Spec PyProof.Rows
section
variable {X:Cx}
end
end L2
namespace Z
open PySem L2
section
variable {X:Cx}{Γ:Gm}{M:Mem}{k:D→Mem→Prop}{pos:Pos}{a b:Expr}{rest:List Expr}
end
section
variable {X:Cx}{pins:List (Addr × Obj)}{σ:St}{H:Hp}{s:Shared}
theorem aID (I:Inv X pins σ H s) {n:Nat}{d e:D}{v u:V}{v' u':Value} (A:Around) (g1:Disp d) (g2:Disp e) (h1:okD n d=true) (h2:okD n e=true) (x:Den X.K H d v) (y:Den X.K H e u) (rx:RelV v v') (ry:RelV u u') (hu:A.units+n < cLine):SeqAt.RcNeAt A s v' u' (!eqD d e):=by
 cases g1 with
 | tup ds =>
  obtain ⟨a,its,vs,rfl,it,rv,dn⟩:=dF I x rx
  cases g2 with
  | lst es=>obtain ⟨b,its2,vs2,rfl,it2,_⟩:=dC I y ry; simp only [eqD]; exact SeqAt.RcNeAt.tuple_list it it2 (by omega)
  | tup es =>
   obtain ⟨b,its2,vs2,rfl,it2,rv2,dn2⟩:=dF I y ry
   cases n with
   | zero=>simp [okD] at h1
   | succ n =>
    have k1:okDs n ds=true:=by simpa only [okD] using h1
    have k2:okDs n es=true:=by simpa only [okD] using h2
    have:=SeqAt.RcNeAt.tuples (A:=A) (s:=s) (e:=eqJ ds es) it it2 (by omega) (fun j g1 g2=>by
     obtain ⟨c,v1,e1,q1,r1⟩:=dU dn rv g1
     obtain ⟨c2,v2,e2,q2,r2⟩:=dU dn2 rv2 g2
     have:=eqAt_D I c n c2 v1 v2 _ _ A.in1 (cC k1 e1) (cC k2 e2) q1 q2 r1 r2 (by show A.units+1+n < cLine; omega)
     unfold eqJ; rw [e1,e2]; exact this)
    rw [List.size_toArray,List.size_toArray,← rv.length,← rv2.length,← dn.len,← dn2.len,fG] at this
    simp only [eqD]; exact this
 | lst ds =>
  obtain ⟨a,its,vs,rfl,it,rv,dn⟩:=dC I x rx
  cases g2 with
  | tup es=>obtain ⟨b,its2,vs2,rfl,it2,_⟩:=dF I y ry; simp only [eqD]; exact SeqAt.RcNeAt.list_tuple it it2 (by omega)
  | lst es =>
   obtain ⟨b,its2,vs2,rfl,it2,rv2,dn2⟩:=dC I y ry
   cases n with
   | zero=>simp [okD] at h1
   | succ n =>
    have k1:okDs n ds=true:=by simpa only [okD] using h1
    have k2:okDs n es=true:=by simpa only [okD] using h2
    simp only [eqD]
    by_cases hl:ds.length=es.length
    ·have hsz:its.toArray.size=its2.toArray.size:=by rw [List.size_toArray,List.size_toArray,← rv.length,← rv2.length,← dn.len,← dn2.len,hl]
     have:=SeqAt.RcNeAt.lists (A:=A) (s:=s) (e:=eqJ ds es) it it2 hsz (by omega) (fun j g1 g2=>by
      obtain ⟨c,v1,e1,q1,r1⟩:=dU dn rv g1
      obtain ⟨c2,v2,e2,q2,r2⟩:=dU dn2 rv2 g2
      have:=eqAt_D I c n c2 v1 v2 _ _ A.in1 (cC k1 e1) (cC k2 e2) q1 q2 r1 r2 (by show A.units+1+n < cLine; omega)
      unfold eqJ; rw [e1,e2]; exact this)
     have e3:=fG ds es
     rw [← hl,Nat.min_self,beq_self_eq_true,Bool.and_true] at e3
     rw [List.size_toArray,← rv.length,← dn.len,e3] at this
     exact this
    ·have hsz:(its.toArray.size != its2.toArray.size)=true:=by rw [bne_iff_ne,List.size_toArray,List.size_toArray,← rv.length,← rv2.length,← dn.len,← dn2.len]; exact hl
     have e3:=fG ds es
     rw [beq_eq_false_iff_ne.mpr hl,Bool.and_false] at e3
     rw [← e3]
     exact SeqAt.RcNeAt.lists_lengths it it2 hsz (by omega)
end
section
variable {X:Cx}
theorem aHR {n:Nat} (hu:X.A.units+n < cLine):OpR X (compareOp .NotEq) (rEqD X.K n true):=by
 intro pins s σ H x y v u Q I rx ry h
 obtain ⟨d,e,g1,g2,h1,h2,dx,dy,q⟩:=h
 exact aID I X.A g1 g2 h1 h2 dx dy rx ry hu X.prog X.w X.xe _ ⟨.bl (!eqD d e),H,I,rfl,q⟩
theorem aJE {K:Fg}{n:Nat}{M:Mem}{k:D→Mem→Prop}{d1 d2 e1 e2:D} (r1:Rs M d1 e1) (r2:Rs M d2 e2) (h1:okD n e1=true) (h2:okD n e2=true) (h:k (.bl (!eqD e1 e2)) M):Op2 K (rEqD K n true) d1 d2 M k:=fun G H v1 v2 Q rl x y q =>
 ⟨e1,e2,r1.disp,r2.disp,h1,h2,r1.den rl x,r2.den rl y,q _ _ _ _ _ (Stp.refl rl) d6 h⟩
end
section
variable {X:Cx}{M:Mem}{k:D→Mem→Prop}{K:Fg}
end
end Z
namespace Z
open PySem L2 PySem.Spec PyProof.Rows
def tyN:D→String
 | .non => "NoneType"
 | .bl _ => "bool"
 | .int _ => "int"
 | .str _ => "str"
 | .tup _ => "tuple"
 | .lst _ | .fl _ | .mt _ | .st _ => "list"
def isN (T S:String):Bool:=S == T || (S == "bool" && T == "int")
def isD (T:String) (d:D):Bool:=isN T (tyN d)
def Plain5 (T:String):Prop:=T = "int" ∨ T = "bool" ∨ T = "str" ∨ T = "tuple" ∨ T = "list"
theorem aJU {K:Fg}{T S:String} (h:Plain5 T) (h2:S = "NoneType" ∨ Plain5 S):PySem.W.kitOne K (.type S) (.type T)=some (isN T S):=by
 rcases h with rfl | rfl | rfl | rfl | rfl <;> rcases h2 with rfl | rfl | rfl | rfl | rfl | rfl <;> first
  | exact aHZ (by decide +kernel) (by decide +kernel) (by decide +kernel)
  | (rw [aCU (by decide +kernel)]; decide +kernel)
theorem aH9 (d:D):tyN d = "NoneType" ∨ Plain5 (tyN d):=by
 cases d with
 | non=>exact .inl rfl
 | bl b=>exact .inr (.inr (.inl rfl))
 | int b=>exact .inr (.inl rfl)
 | str b=>exact .inr (.inr (.inr (.inl rfl)))
 | tup b=>exact .inr (.inr (.inr (.inr (.inl rfl))))
 | lst b=>exact .inr (.inr (.inr (.inr (.inr rfl))))
 | fl b=>exact .inr (.inr (.inr (.inr (.inr rfl))))
 | mt b=>exact .inr (.inr (.inr (.inr (.inr rfl))))
 | st b=>exact .inr (.inr (.inr (.inr (.inr rfl))))
theorem aJ0 {K:Fg}{T:String} (h:Plain5 T) (d:D):PySem.W.kitOne K (.type (tyN d)) (.type T)=some (isD T d):=aJU h (aH9 d)
def Slv:D→Prop
 | .mt _ | .st _=>False
 | _=>True
theorem aB8 {X:Cx}{T:String} (hT:Plain5 T):eW X (.builtin "isinstance") (fun xs H Q=>∃ x d,xs=[x, .ty T]∧Slv d∧Den X.K H d x∧Q (.bl (isD T d)) H):=by
 intro pins s σ H xs us Q I r h
 obtain ⟨x,d,rfl,nm,dx,q⟩:=h
 obtain ⟨u,w',rfl,rx,r2⟩:=vals2 r
 cases (show w'=Value.type T from r2)
 have e:=aJ0 (K:=X.K) hT d
 have fin:∀ tk,∃ v H',Inv X pins σ H' { s with toks:=tk }∧RelV v (Value.bool (isD T d))∧Q v H':=fun tk=>⟨.bl (isD T d),H,I.tok tk,rfl,q⟩
 cases d with
 | non=>rw [dx.non_] at rx; cases (show u=Value.none from rx); exact PySem.W.kia_one PySem.W.kitx_none I.kIn True.intro e (fun z=>nomatch z) fin
 | bl y=>rw [dx.bl_] at rx; cases (show u=Value.bool y from rx); exact PySem.W.kia_one PySem.W.kitx_bool I.kIn True.intro e (fun z=>nomatch z) fin
 | int i=>rw [dx.int_] at rx; obtain ⟨t,q2⟩:=(show ∃ t,u=Value.int i t from rx); cases q2; exact PySem.W.kia_one PySem.W.kitx_int I.kIn True.intro e (fun z=>nomatch z) fin
 | str y=>rw [dx.str_] at rx; obtain ⟨t,q2⟩:=(show ∃ t,u=Value.str y t from rx); cases q2; exact PySem.W.kia_one PySem.W.kitx_str I.kIn True.intro e (fun z=>nomatch z) fin
 | mt a=>exact nm.elim
 | st a=>exact nm.elim
 | tup ds =>
  obtain ⟨a,its,vs,rfl,⟨o,h1,h2,_⟩,_⟩:=dF I dx rx
  exact PySem.W.kia_one PySem.W.kitx_tuple I.kIn ⟨o,h1,h2⟩ e (fun z=>nomatch z) fin
 | lst ds =>
  obtain ⟨a,its,vs,rfl,⟨o,h1,h2,_⟩,_⟩:=dC I dx rx
  exact PySem.W.kia_one PySem.W.kitx_list I.kIn ⟨o,h1,h2⟩ e (fun z=>nomatch z) fin
 | fl ds =>
  obtain ⟨a,vs,rfl,sq,dn⟩:=dx.fl_
  cases (show u=Value.ref a from rx)
  obtain ⟨its,rv,pt,_⟩:=I.list sq
  obtain ⟨o,h1,h2,_⟩:=pt.isList
  exact PySem.W.kia_one PySem.W.kitx_list I.kIn ⟨o,h1,h2⟩ e (fun z=>nomatch z) fin
inductive Rz (M:Mem):D→D→Prop
 | self {d:D} (h:Slv d):Rz M d d
 | mt {a:Addr}{ds:List D} (h:M a=some (.lst ds)):Rz M (.mt a) (.lst ds)
section
variable {X:Cx}{Γ:Gm}{M:Mem}{k:D→Mem→Prop}{pos p1 p2:Pos}{e:Expr}
theorem dX {C:Str}{T:String} (hT:Plain5 T) (hm:X.mg "isinstance" = none) (hmT:X.mg C=none) (hvT:bootBuiltins C=some (.type T)) (h:GE X e Γ M fun d M1=>∃ d',Rz M1 d d'∧k (.bl (isD T d')) M1) (hg:Gl X "isinstance" := by rfl) (hgT:Gl X C:=by rfl)
  (hn:C ≠ "__name__" := by decide) (hdb:(C == ("__debug__" : Str))=false:=by decide)
  (he:starEach [e, .Name C p2] X.env=(false,eval e X.env)::starEach [.Name C p2] X.env:=by rfl) (hpl:(backTo pos (starEach [.Name C p2] X.env)).any (·.1)=false:=by rfl):GE X (.Call (.Name "isinstance" p1) [e, .Name C p2] [] pos) Γ M k:=fun σ G H Q en rl q=>by
 refine cL (tL (aB8 hT) hg hm PyProof.Rows.boot_isinstance (qN (hs:=he) pU (qN (aHQ (v := .ty T) hgT hmT hvT rfl hn hdb) aCJ)) (by decide) (by decide) he hpl) ?_
 refine h σ G H _ en rl fun v G1 H1 d M1 s1 e1 ⟨d',rz,h1⟩ => ?_
 refine ⟨v,d',rfl,?_,?_,q _ _ _ _ _ s1 d6 h1⟩
 ·cases rz with
  | self h=>exact h
  | mt h=>exact True.intro
 ·cases rz with
  | self h=>exact e1.up s1.rel.same
  | mt hm =>
   obtain ⟨_,vs,e2,dn⟩:=s1.rel.mem _ _ hm
   rw [e1.mt_]; exact fD e2 (dn.up s1.rel.same)
end
end Z
namespace HD
open PySem PySem.Spec PyProof.Rows
section
variable {prog:Program}{w:World}{A:Around}{E:Value→Shared→Prop}{s:Shared}{d it:Addr}{o:Obj}{es:Array DictEntry}{ep:Nat}
end
end HD
namespace HD
open PySem PySem.Spec PyProof.Rows
section
variable {prog:Program}{w:World}{K:Type} [DecidableEq K] {knd:HeapKind prog w K}{A:Around}{E:Value→Shared→Prop}{s:Shared}{d a:Addr}{xs:List (K × Addr × Value)}{k:K}{v:Value}
end
end HD
namespace HD
open PySem PySem.Spec PyProof.Rows
section
variable {prog:Program}{w:World}{K:Type} [DecidableEq K] {knd:HeapKind prog w K}{A:Around}{E:Value→Shared→Prop}{s:Shared}{d o:Addr}{xs ys:List (K × Addr × Value)}
end
end HD
namespace Z
open PySem PySem.Spec PyProof.Rows L2
end Z
namespace Z
open PySem PySem.Spec PyProof.Rows L2
section
variable {X:Cx}{pins:List (Addr × Obj)}{σ:L2.St}{H:Hp}{s:Shared}{a b:Addr}{k:List Int}{ks:List (List Int)}{xs:List (List Int × Addr)}{ep:Nat}
theorem r8 {P:Program}{w:World}:∀ {ks:List Int}{us:List Value},Vals (ks.map V.int) us→ItemsAre (intKind P w) ks us
 | [],_,r=>by rw [List.map_nil] at r; cases r; exact .nil
 | k::ks,_,r=>by
  rw [List.map_cons] at r
  cases r with
  | @cons x y l m h t =>
   obtain ⟨tk,rfl⟩:=(show ∃ t,y=Value.int k t from h)
   exact .cons (by show Value.isInt k (Value.int k tk)=true; simp [Value.isInt]) (r8 t)
end
end Z
namespace Z
open PySem L2
inductive Stt (M:Mem):D→List (List Int)→Prop
 | st (ks:List (List Int)):Stt M (.st ks) ks
 | mt {a:Addr}{ks:List (List Int)} (h:M a=some (.st ks)):Stt M (.mt a) ks
section
variable {K:Fg}{G H:Hp}{M:Mem}{k:D→Mem→Prop}
end
section
variable {X:Cx}{Γ:Gm}{M:Mem}{k:D→Mem→Prop}{kg:Gm→Mem→Prop}{F:Fin}{pos:Pos}{a b c e o tg iter:Expr}{ss:List Stmt}
end
end Z
namespace Z
open PySem L2
section
variable {X:Cx}{Γ:Gm}{M:Mem}{tg iter:Expr}{ki:List D→Mem→Prop}
end
end Z
namespace R
structure Gth (cells:List Cell) (st:List (Int × Int)) (s:Cell) (ks ws:List Cell) (busy:Option (Int × Int × List (Int × Int))):Prop where
 s0:s∈ks
 all:∀ c∈ks,Rch cells st s c
 sub:∀ c∈ks,c∈cells
 nd:ks.Nodup
 ww:∀ c∈ws,c∈ks
 cl:∀ x y,[x,y]∈ks→[x,y]∈ws∨(∃ dn,busy=some (x,y,dn))∨∀ d∈st,[x+d.1,y+d.2]∈cells→[x+d.1,y+d.2]∈ks
 bz:∀ x y dn,busy=some (x,y,dn)→[x,y]∈ks∧∀ d∈dn,[x+d.1,y+d.2]∈cells→[x+d.1,y+d.2]∈ks
section
variable {cells:List Cell}{st:List (Int × Int)}{s:Cell}{ks ws:List Cell}{x y:Int}{dn:List (Int × Int)}{d:Int × Int}
theorem aB0 {α:Type} [DecidableEq α]:∀ {ks cs:List α},ks.Nodup→(∀ k∈ks,k∈cs)→ks.length≤cs.length
 | [],_,_,_=>Nat.zero_le _
 | k::ks,cs,h,hs=>by
  rw [List.nodup_cons] at h
  have hk:=hs k (List.mem_cons_self ..)
  have:=aB0 (ks:=ks) (cs:=cs.erase k) h.2 fun j hj=>by
   have:j≠k:=fun e=>h.1 (e ▸ hj)
   exact (List.mem_erase_of_ne this).mpr (hs j (List.mem_cons_of_mem _ hj))
  rw [List.length_erase_of_mem hk] at this
  have:0 < cs.length:=List.length_pos_of_mem hk
  rw [List.length_cons]; omega
theorem Gth.len (h:Gth cells st s ks ws b):ks.length≤cells.length:=aB0 h.nd h.sub
end
end R
namespace Q
open PySem L2 Z
end Q
namespace R
open PySem L2
abbrev RS:=List (Nat × Nat) × Option Nat
structure RInv (bs:List Bool) (n:Nat) (q:RS):Prop where
 bd:∀ p∈q.1,p.1 < p.2∧p.2 < n
 bg:∀ b,q.2=some b→b < n
 len:q.1.length≤n
 any:(q.1≠[]∨q.2≠none)↔∃ i,i < n∧bs.getD i false=true
end R
namespace Q
open PySem L2 Z
end Q
namespace R
open PySem L2
end R
namespace Q
open PySem L2 Z
theorem oR (z:Str) (zr:List Str):atI ((z::zr).map D.str) 0=some (.str z):=cW (j:=0) rfl
theorem yX (z:Str) (js:List Nat):PySem.Txt.join Str.empty (js.map fun j=>(⟨#[R.atS z j]⟩:Str))=R.ofL (js.map (R.atS z)):=by
 have:=R.qU (js.map (R.atS z))
 rw [List.map_map] at this
 exact this
def xV:Ct:=fun ds M k=>∃ (z:Str) (js:List Nat),ds=[.str z, .lst (natD js)]∧z.length≤1000∧js.length≤1000∧(∀ j∈js,j < z.length)∧k (.str (R.ofL (js.map (R.atS z)))) M
def gF (xs ys:List D) (zs:List Str):D:=mH (l8 xs (R.chg (R.aE zs))) (l8 ys (R.chg zs)) (R.bZ zs)
structure Grp (cells:List R.Cell) (st:List (Int × Int)) (n:Nat) (gs:List (List R.Cell)):Prop where
 len:gs.length=(R.starts cells st n).length
 at_:∀ (j:Nat) s,(R.starts cells st n)[j]?=some s→∃ ks,gs[j]?=some ks∧∀ c,c∈ks↔R.Rch cells st s c
noncomputable def aKH (cells:List R.Cell) (st:List (Int × Int)) (s:R.Cell) (w h:Nat):List Str:=R.aJJ (fun a u => @decide (R.Rch cells st s [a,u]) (Classical.propDecidable _)) w h
noncomputable def yC (xs ys:List D) (cells:List R.Cell) (st:List (Int × Int)) (ss:List R.Cell):List D:=ss.map fun s=>gF xs ys (aKH cells st s (xs.length - 1) (ys.length - 1))
def straight:List (Int × Int):=[(1,0),(0,1),(-1,0),(0, -1)]
def sZ:List (Int × Int):=[(1,0),(1,1),(0,1),(-1,1),(-1,0),(-1, -1),(0, -1),(1, -1)]
noncomputable def pcs (xs ys:List D) (zs:List Str):List D:=yC xs ys (R.lC zs true xs.length ys.length) straight (R.starts (R.lC zs true xs.length ys.length) straight (R.lC zs true xs.length ys.length).length)
theorem Grp.nil (cells:List R.Cell) (st:List (Int × Int)):Grp cells st 0 []:=⟨rfl,fun j s h=>by simp [R.starts] at h⟩
theorem aDF:("#" : Str)=⟨#[35]⟩:=by decide +kernel
def al9 (all:Bool) (r u:Int):Bool:=all || r * u == 0
def st9 (all:Bool):List (Int × Int):=[(-1, -1),(-1,0),(-1,1),(0, -1),(0,0),(0,1),(1, -1),(1,0),(1,1)].filter fun d=>al9 all d.1 d.2
def l3:List Int:=[-1,0,1]
noncomputable def hls (xs ys:List D) (zs:List Str):List D:=yC xs ys (R.lC zs false xs.length ys.length) sZ ((R.starts (R.lC zs false xs.length ys.length) sZ (R.lC zs false xs.length ys.length).length).drop 1)
end Q
namespace HT
open PySem PySem.Spec PyProof.Rows
section
variable {prog:Program}{w:World}{A:Around}{E:Value→Shared→Prop}{s:Shared}
theorem mK {t sl:Addr}{items:Array Value}{vl vu:Value}{lo hi:Option Int}{Q:Value→Shared→Prop} (ht:IsTup s.heap t items) (hs:s.heap.IsSliceOf sl vl vu .none) (pl:IsPart vl lo) (pu:IsPart vu hi)
  (hw:sIx items.size 0 lo=0∧sIx items.size items.size hi=items.size) (h:Q (.ref t) s):wpAny (model prog w) A (getItem (.ref t) (.ref sl)) Q E s:=by
 obtain ⟨os,hos,hcs,hds⟩:=id hs
 have hTs:s.TypeIs (.ref sl) "slice" := ⟨os,hos,hcs⟩
 unfold getItem
 try with_reducible refine wpAny_holding ?_
 first | refine wpAny_bind (wpAny_pure ?_) | skip
 refine wpAny_bind (wpAny_sequenceKey ht.typeIs (by decide) ?_)
 refine wpAny_bind (wpAny_callSpecial?_slot (name:=Str.ofString "__getitem__") ht.typeIs PyProof.Rows.slot_tuple_getitem
  (wpAny_call_entry PyProof.Rows.slot_tuple_getitem ht.typeIs entry_tuple_getitem ?_ (args_tuple_getitem _ _)))
 show wpAny _ _ (Builtin.Tuple.tupleItemsOf (.ref t) >>= _) _ _ s
 refine wpAny_bind (tupleItemsOf_ ht ?_)
 refine wpAny_bind (wpAny_typeOf hTs ?_)
 rw [if_pos (by decide)]
 refine wpAny_bind (kD hs pl pu ?_)
 have hyes:(((sIx items.size 0 lo:Nat):Int) == 0 && (1:Int) == 1 && (sIx items.size items.size hi - sIx items.size 0 lo) == items.size)=true:=by
  rw [hw.1,hw.2]; simp
 show wpAny _ _ (if (((sIx items.size 0 lo:Nat):Int) == 0 && (1:Int) == 1 && (sIx items.size items.size hi - sIx items.size 0 lo) == items.size)=true then _ else _) _ _ s
 rw [if_pos hyes]
 refine wpAny_bind ?_
 unfold Builtin.Tuple.tupleIsExact
 refine wpAny_bind (wpAny_typeOf ht.typeIs (wpAny_pure ?_))
 rw [if_pos (by rfl)]
 refine wpAny_bind (wpAny_rule ?_)
 exact wpAny_pure ⟨_,rfl,wpAny_pure h⟩
end
end HT
namespace L2
open PySem PySem.Spec PyProof.Rows
section
variable {X:Cx}
def rSlA (K:PySem.W.Frag):V→Option Int→Option Int→Hp→VK→Prop:=fun x lo hi H Q=>∃ a xs,x = .ref a∧SqT K H a xs ∧
 ((HT.sIx xs.length 0 lo=0∧HT.sIx xs.length xs.length hi=xs.length)→Q (.ref a) H)∧(¬ (HT.sIx xs.length 0 lo=0∧HT.sIx xs.length xs.length hi=xs.length)→∀ p,H p=none→Q (.ref p) (upd H p (.tup (cutV xs lo hi))))
theorem xY:SlR X (rSlA X.K):=by
 intro pins s σ H x v vl vu lo hi sl Q I rx hs pl pu h
 obtain ⟨a,xs,e,hx,q1,q2⟩:=h
 by_cases hw:HT.sIx xs.length 0 lo=0∧HT.sIx xs.length xs.length hi=xs.length
 ·subst e
  cases rx
  obtain ⟨its,r,ht,hz⟩:=I.tuple hx
  have hlen:its.toArray.size=xs.length:=by rw [List.size_toArray]; exact r.length.symm
  refine ⟨"tuple", _,PyProof.Rows.slot_tuple_getitem.lookup,ht.typeIs,?_⟩
  exact HT.mK ht hs pl pu (by rw [hlen]; exact hw) ⟨.ref a,H,I,rfl,q1 hw⟩
 ·exact aI6 pins s σ H x v vl vu lo hi sl Q I rx hs pl pu ⟨a,xs,e,hx,hw,q2 hw⟩
end
end L2
namespace Z
open PySem L2
theorem wR {K:Fg}{M:Mem}{k:D→Mem→Prop}{ds:List D}{l u:Option Int} (h:k (.tup (cutD ds l u)) M):Op3 K (rSlA K) (.tup ds) l u M k:=fun G H v Q rl e q=>by
 obtain ⟨a,vs,ev,s,dn⟩:=(Seq.tup ds).sq rl e
 refine ⟨a,vs,ev,s,fun hw => ?_,fun hw p hp => ?_⟩
 ·have ec:cutD ds l u=ds:=by
   rw [← dn.len] at hw
   unfold cutD
   rw [hw.1,hw.2,List.drop_zero,Nat.sub_zero,List.take_length]
  rw [ec] at h
  exact q _ _ _ _ _ (Stp.refl rl) (by rw [← ev]; exact e) h
 ·have st:=rl.new (o := .tup (cutV vs l u)) hp
  exact q _ _ _ _ _ st (iQ (SqT.of bB) ((dn.cut l u).up st.gg)) h
theorem qG {α:Type} (l:List α):cutD l (some 1) none=l.drop 1:=by
 unfold cutD
 have e1:HT.sIx l.length 0 (some 1)=min 1 l.length:=HT.qS l.length 0 1
 have e2:HT.sIx l.length l.length none=l.length:=rfl
 rw [e1,e2]
 by_cases h:1≤l.length
 ·rw [Nat.min_eq_left h,List.take_of_length_le (by rw [List.length_drop]; exact Nat.le_refl _)]
 ·have:l=[]:=List.length_eq_zero_iff.mp (by omega)
  subst this; rfl
theorem aFJ {α:Type} (l:List α) (n:Nat):cutD l none (some (n:Int))=l.take n:=by
 unfold cutD
 have e1:HT.sIx l.length 0 none=0:=rfl
 have e2:HT.sIx l.length l.length (some (n:Int))=min n l.length:=HT.qS l.length l.length n
 rw [e1,e2,List.drop_zero,Nat.sub_zero,List.take_eq_take_iff]
 omega
end Z
namespace Q
open PySem L2 Z
mutual
def tameB:Nat→D→Bool
 | _, .non | _, .bl _=>true
 | _, .int i=>decide (i.natAbs < 10 ^ 65)
 | _, .str z=>decide (z.length≤1000)
 | n+1, .tup ds=>decide (ds.length≤100) && tamesB n ds
 | n+1, .lst ds=>decide (ds.length≤100) && tamesB n ds
 | _,_=>false
def tamesB:Nat→List D→Bool
 | _,[]=>true
 | n,d::ds=>tameB n d && tamesB n ds
end
theorem rN {n:Nat}:∀ {ds:List D},tamesB n ds=true→∀ x∈ds,tameB n x=true
 | [],_,_,h=>nomatch h
 | d::ds,h,x,hx=>by
  simp only [tamesB,Bool.and_eq_true] at h
  rcases List.mem_cons.mp hx with rfl | hx
  ·exact h.1
  ·exact rN h.2 x hx
theorem pB {n:Nat}:∀ {ds:List D},(∀ x∈ds,tameB n x=true)→tamesB n ds=true
 | [],_=>by simp only [tamesB]
 | d::ds,h=>by
  simp only [tamesB,Bool.and_eq_true]
  exact ⟨h d List.mem_cons_self,pB fun x hx=>h x (List.mem_cons_of_mem _ hx)⟩
theorem gJ {n:Nat}{ds:List D} (h:tameB n (.tup ds)=true):ds.length≤100∧∃ m,n=m+1∧∀ x∈ds,tameB m x=true:=by
 cases n with
 | zero=>simp [tameB] at h
 | succ m =>
  simp only [tameB,Bool.and_eq_true,decide_eq_true_eq] at h
  exact ⟨h.1,m,rfl,rN h.2⟩
theorem jZ {n:Nat}{ds:List D} (h1:ds.length≤100) (h2:∀ x∈ds,tameB n x=true):tameB (n+1) (.tup ds)=true:=by
 simp only [tameB,Bool.and_eq_true,decide_eq_true_eq]
 exact ⟨h1,pB h2⟩
theorem aD4 {n:Nat}{ds:List D} (h1:ds.length≤100) (h2:∀ x∈ds,tameB n x=true):tameB (n+1) (.lst ds)=true:=by
 simp only [tameB,Bool.and_eq_true,decide_eq_true_eq]
 exact ⟨h1,pB h2⟩
mutual
theorem tame_ok:∀ (n:Nat) (d:D),tameB n d=true→okD n d=true
 | _, .non,_=>by simp only [okD]
 | _, .bl _,_=>by simp only [okD]
 | _, .int _,_=>by simp only [okD]
 | _, .str _,_=>by simp only [okD]
 | n+1, .tup ds,h=>by
  simp only [tameB,Bool.and_eq_true] at h
  simp only [okD]; exact tames_ok n ds h.2
 | n+1, .lst ds,h=>by
  simp only [tameB,Bool.and_eq_true] at h
  simp only [okD]; exact tames_ok n ds h.2
 | 0, .tup _,h=>by simp [tameB] at h
 | 0, .lst _,h=>by simp [tameB] at h
 | _, .mt _,h=>by simp [tameB] at h
 | _, .fl _,h=>by simp [tameB] at h
 | _, .st _,h=>by simp [tameB] at h
theorem tames_ok:∀ (n:Nat) (ds:List D),tamesB n ds=true→okDs n ds=true
 | _,[],_=>by simp only [okDs]
 | n,d::ds,h=>by
  simp only [tamesB,Bool.and_eq_true] at h
  simp only [okDs,tame_ok n d h.1,tames_ok n ds h.2,Bool.and_true]
end
theorem gO {n:Nat}{d:D} (h:tameB n d=true):Slv d:=by
 cases d <;> first | exact trivial | (exfalso; simp [tameB] at h)
theorem vJ {n:Nat}{i:Int} (h:tameB n (.int i)=true):i.natAbs < 10 ^ 65:=by simpa [tameB] using h
theorem tP {n:Nat}{z:Str} (h:tameB n (.str z)=true):z.length≤1000:=by simpa [tameB] using h
mutual
theorem tame_up:∀ (n:Nat) (d:D),tameB n d=true→tameB (n+1) d=true
 | _, .non,_=>by simp only [tameB]
 | _, .bl _,_=>by simp only [tameB]
 | _, .int _,h=>by simpa only [tameB] using h
 | _, .str _,h=>by simpa only [tameB] using h
 | n+1, .tup ds,h=>by
  simp only [tameB,Bool.and_eq_true] at h ⊢
  exact ⟨h.1,tames_up n ds h.2⟩
 | n+1, .lst ds,h=>by
  simp only [tameB,Bool.and_eq_true] at h ⊢
  exact ⟨h.1,tames_up n ds h.2⟩
 | 0, .tup _,h=>by simp [tameB] at h
 | 0, .lst _,h=>by simp [tameB] at h
 | _, .mt _,h=>by simp [tameB] at h
 | _, .fl _,h=>by simp [tameB] at h
 | _, .st _,h=>by simp [tameB] at h
theorem tames_up:∀ (n:Nat) (ds:List D),tamesB n ds=true→tamesB (n+1) ds=true
 | _,[],_=>by simp only [tamesB]
 | n,d::ds,h=>by
  simp only [tamesB,Bool.and_eq_true] at h ⊢
  exact ⟨tame_up n d h.1,tames_up n ds h.2⟩
end
theorem tT (ds:List D):isD "tuple" (.tup ds)=true:=rfl
theorem sS (z:Str):isD "str" (.str z)=true:=rfl
theorem iI (i:Int):isD "int" (.int i)=true:=rfl
theorem bI (i:Int):isD "bool" (.int i)=false:=rfl
theorem p4 (d:D):(∃ ls,d = .tup ls)∨(isD "tuple" d=false∧∀ ls,d ≠ .tup ls):=by
 cases d with
 | tup ls=>exact .inl ⟨ls,rfl⟩
 | _=>exact .inr ⟨rfl,fun _ h=>nomatch h⟩
theorem aH7 (d:D):(∃ z,d = .str z)∨(isD "str" d=false∧∀ z,d ≠ .str z):=by
 cases d with
 | str ls=>exact .inl ⟨ls,rfl⟩
 | _=>exact .inr ⟨rfl,fun _ h=>nomatch h⟩
def isW:D→Bool
 | .int _=>true
 | _=>false
theorem tS (d:D):(∃ i,d = .int i)∨(isW d=false∧(isD "int" d=false∨isD "int" d=true∧isD "bool" d=true)):=by
 cases d with
 | int i=>exact .inl ⟨i,rfl⟩
 | bl b=>exact .inr ⟨rfl, .inr ⟨rfl,rfl⟩⟩
 | _=>exact .inr ⟨rfl, .inl rfl⟩
def numB:D→Bool
 | .tup [.int a, .int b]=>decide (1≤b) && decide (Int.gcd a b=1)
 | _=>false
theorem pC {d:D}:numB d=true↔∃ p:Int × Int,d=bN p∧1≤p.2∧Int.gcd p.1 p.2=1:=by
 constructor
 ·intro h
  unfold numB at h
  split at h
  ·rw [Bool.and_eq_true,decide_eq_true_eq,decide_eq_true_eq] at h
   exact ⟨(_,_),rfl,h⟩
  ·cases h
 ·rintro ⟨p,rfl,h1,h2⟩
  show (decide (1≤p.2) && decide (Int.gcd p.1 p.2=1))=true
  rw [decide_eq_true h1,decide_eq_true h2]; rfl
theorem oN {d:D} (h:∀ a b,d ≠ .tup [.int a, .int b]):numB d=false:=by
 cases e:numB d with
 | false=>rfl
 | true=>obtain ⟨p,rfl,_⟩:=pC.mp e; exact absurd rfl (h p.1 p.2)
def ltP (p q:Int × Int):Bool:=decide (p.1 * q.2 < q.1 * p.2)
def upP (ps:List (Int × Int)):Bool:=(List.range (ps.length - 1)).all fun i=>ltP (ps.getD i (0,1)) (ps.getD (i+1) (0,1))
def toP:D→Int × Int
 | .tup [.int a, .int b]=>(a,b)
 | _=>(0,1)
theorem rS (ps:List (Int × Int)):(ps.map bN).map toP=ps:=by
 rw [List.map_map]
 exact (List.map_congr_left fun p _=>rfl).trans (List.map_id ps)
theorem nH:∀ {ls:List D},ls.all numB=true→∃ ps:List (Int × Int),ls=ps.map bN∧∀ p∈ps,1≤p.2∧Int.gcd p.1 p.2=1
 | [],_=>⟨[],rfl,fun p h=>(nomatch h)⟩
 | d::ls,h=>by
  rw [List.all_cons,Bool.and_eq_true] at h
  obtain ⟨p,rfl,hp⟩:=pC.mp h.1
  obtain ⟨ps,rfl,hps⟩:=nH h.2
  exact ⟨p::ps,rfl,fun q hq=>by
   rcases List.mem_cons.mp hq with rfl | hq
   ·exact hp
   ·exact hps q hq⟩
def dP:D→Bool
 | .tup ls=>ls.all numB && upP (ls.map toP)
 | _=>false
theorem aD7 {d:D} (h:∀ ls,d ≠ .tup ls):dP d=false:=by
 cases d with
 | tup ls=>exact absurd rfl (h ls)
 | _=>rfl
def rowB (w:Nat):D→Bool
 | .str z=>decide (z.length=w) && z.cps.toList.all fun c=>c == 35 || c == 46
 | _=>false
theorem aIW {w:Nat}{d:D} (h:∀ z,d ≠ .str z):rowB w d=false:=by
 cases d with
 | str z=>exact absurd rfl (h z)
 | _=>rfl
theorem aEO {w:Nat}{d:D}:rowB w d=true↔∃ z,d = .str z∧z.length=w∧∀ c∈z.cps.toList,c=35∨c=46:=by
 constructor
 ·intro h
  cases d with
  | str z =>
   simp only [rowB,Bool.and_eq_true,decide_eq_true_eq,List.all_eq_true,Bool.or_eq_true,beq_iff_eq] at h
   exact ⟨z,rfl,h⟩
  | _=>cases h
 ·rintro ⟨z,rfl,h1,h2⟩
  simp only [rowB,Bool.and_eq_true,decide_eq_true_eq,List.all_eq_true,Bool.or_eq_true,beq_iff_eq]
  exact ⟨h1,h2⟩
def fitB (rs:List D) (nx ny:Nat):Bool:=decide (rs.length=ny - 1) && rs.all (rowB (nx - 1))
def toS:D→Str
 | .str z=>z
 | _=>Str.empty
theorem mD {w:Nat}:∀ {rs:List D},rs.all (rowB w)=true→∃ zs:List Str,rs=zs.map .str∧∀ z∈zs,z.length=w∧∀ c∈z.cps.toList,c=35∨c=46
 | [],_=>⟨[],rfl,fun p h=>(nomatch h)⟩
 | d::ls,h=>by
  rw [List.all_cons,Bool.and_eq_true] at h
  obtain ⟨z,rfl,hp⟩:=aEO.mp h.1
  obtain ⟨ps,rfl,hps⟩:=mD h.2
  exact ⟨z::ps,rfl,fun q hq=>by
   rcases List.mem_cons.mp hq with rfl | hq
   ·exact hp
   ·exact hps q hq⟩
theorem tX (zs:List Str):(zs.map D.str).map toS=zs:=by
 rw [List.map_map]
 exact (List.map_congr_left fun p _=>rfl).trans (List.map_id zs)
def yard3 (x y r:D):Bool:=match x,y,r with
 | .tup xs, .tup ys, .tup rs=>dP (.tup xs) && dP (.tup ys) && fitB rs xs.length ys.length && eqD (gF xs ys (rs.map toS)) (.tup [.tup xs, .tup ys, .tup rs])
 | _,_,_=>false
def nW:D→Bool
 | .tup [x,y,r]=>yard3 x y r
 | _=>false
theorem wT {d:D} (h:∀ x y r,d ≠ .tup [x,y,r]):nW d=false:=by
 unfold nW
 split
 ·exact absurd rfl (h _ _ _)
 ·rfl
theorem aFQ {x y r:D} (h:∀ ls,r ≠ .tup ls):yard3 x y r=false:=by
 unfold yard3
 split
 ·exact absurd rfl (h _)
 ·rfl
def Sq2 (t:Bool) (d:D) (ds:List D):Prop:=d=if t=true then .lst ds else .tup ds
def mC:Ct:=fun ds M k=>∃ d,ds=[d]∧Slv d∧k (.bl (isW d)) M
def sA:Ct:=fun ds M k=>∃ d n,ds=[d]∧tameB n d=true∧k (.bl (numB d)) M
def wG:Ct:=fun ds M k=>∃ d n,ds=[d]∧tameB n d=true∧k (.bl (dP d)) M
def aCM:Ct:=fun ds M k=>∃ d n w,ds=[d, .int ((w:Nat):Int)]∧tameB n d=true∧k (.bl (rowB w d)) M
def yG:Ct:=fun ds M k=>∃ t dr dx dy rs xs ys n,ds=[dr,dx,dy]∧Sq2 t dr rs∧Sq2 t dx xs∧Sq2 t dy ys∧(∀ r∈rs,tameB n r=true)∧rs.length≤100∧xs.length≤100∧ys.length≤100∧k (.bl (fitB rs xs.length ys.length)) M
def uU:Ct:=fun ds M k=>∃ (t:Bool) (r:D) (zs:List Str) (n j:Nat),ds=[r, .int (j:Int)]∧Sq2 t r (zs.map .str)∧zs.length≤1000∧n≤1000∧(∀ z∈zs,z.length=n)∧j < n∧k (.str (R.ofL (zs.map (R.atS · j)))) M
def mV:Ct:=fun ds M k=>∃ (t:Bool) (r:D) (zs:List Str) (n:Nat),ds=[r]∧Sq2 t r (zs.map .str)∧zs.length≤1000∧n≤1000∧(∀ z∈zs,z.length=n)∧k (.lst ((R.aE zs).map .str)) M
def rJ:Ct:=fun ds M k=>∃ (t:Bool) (r:D) (zs:List Str) (n:Nat),ds=[r]∧Sq2 t r (zs.map .str)∧zs.length≤1000∧n≤1000∧(∀ z∈zs,z.length=n)∧k (.lst (natD (R.chg zs))) M
def lR:Ct:=fun ds M k=>∃ (t:Bool) (dx dy dr:D) (xs ys:List D) (zs:List Str) (n:Nat),ds=[dx,dy,dr]∧Sq2 t dx xs∧Sq2 t dy ys∧Sq2 t dr (zs.map .str)∧zs.length≤900∧n≤900∧(∀ z∈zs,z.length=n)∧(∀ j∈R.chg (R.aE zs),j < xs.length)∧(∀ j∈R.chg zs,j < ys.length)∧k (gF xs ys zs) M
def xU:Ct:=fun ds M k=>∃ d n,ds=[d]∧tameB n d=true∧n≤10∧k (.bl (nW d)) M
theorem maxz0 (n:Nat):(if 0 > (n:Int) - 1 then 0 else (n:Int) - 1)=((n - 1:Nat):Int):=by split <;> omega
theorem nL {α:Type} (f:α→Bool) (l:List α):(l.map f).all id=l.all f:=by rw [List.all_map]; rfl
theorem aEB {K:Fg}{M:Mem}{k:D→Mem→Prop}{x y:Str} (h:k (.bl (!(Builtin.Str.occurrences y x 0 y.length 1).isEmpty)) M):Op2 K (fun x y H Q=>∃ i j,x = .str i∧y = .str j∧Q (.bl (!(Builtin.Str.occurrences j i 0 j.length 1).isEmpty)) H) (.str x) (.str y) M k:=fun G H v1 v2 Q rl e1 e2 q =>
 ⟨x,y,e1.str_,e2.str_,q _ _ _ _ _ (Stp.refl rl) d6 h⟩
theorem rE {d:D} (h:dP d=true):∃ ps:List (Int × Int),d = .tup (ps.map bN)∧upP ps=true∧∀ p∈ps,1≤p.2∧Int.gcd p.1 p.2=1:=by
 cases d with
 | tup ls =>
  have h':(ls.all numB && upP (ls.map toP))=true:=h
  rw [Bool.and_eq_true] at h'
  obtain ⟨ps,rfl,hp⟩:=nH h'.1
  rw [rS] at h'
  exact ⟨ps,rfl,h'.2,hp⟩
 | _=>cases h
theorem u9 {xs ys rs:List D}:yard3 (.tup xs) (.tup ys) (.tup rs)=(dP (.tup xs) && dP (.tup ys) && fitB rs xs.length ys.length && eqD (gF xs ys (rs.map toS)) (.tup [.tup xs, .tup ys, .tup rs])):=rfl
theorem aC5 {x y r:D} (h:dP x=false):yard3 x y r=false:=by
 unfold yard3
 split
 ·rw [h]; rfl
 ·rfl
theorem aCV {x y r:D} (h:dP y=false):yard3 x y r=false:=by
 unfold yard3
 split
 ·rw [h,Bool.and_false]; rfl
 ·rfl
theorem tf (b:Bool):b=false∨b=true:=by cases b <;> simp
theorem aGK {rs:List D}{nx ny:Nat} (h:fitB rs nx ny=true):rs.length=ny - 1∧rs.all (rowB (nx - 1))=true:=by
 unfold fitB at h
 rw [Bool.and_eq_true,decide_eq_true_eq] at h
 exact h
theorem xH {ps:List (Int × Int)}{i:Nat} (h:i < ps.length):atI (ps.map bN) (i:Int)=some (bN (ps.getD i (0,1)))∧ps.getD i (0,1)∈ps:=by
 rw [List.getD_eq_getElem?_getD,List.getElem?_eq_getElem h]
 exact ⟨cW (by rw [List.getElem?_map,List.getElem?_eq_getElem h]; rfl),List.getElem_mem h⟩
theorem fZ {b:Bool}{P Q:Prop} (h:b=true) (p:P):if b=true then P else Q:=by rw [if_pos h]; exact p
theorem fS {b:Bool}{P Q:Prop} (h:b=false) (p:Q):if b=true then P else Q:=by rw [if_neg (by rw [h]; exact Bool.false_ne_true)]; exact p
theorem oA:R.chg []=[]:=by decide +kernel
theorem eE {zs:List Str}{ny:Nat} (h:zs.length=ny - 1):∀ j∈R.chg zs,j < ny:=fun j hj=>by
 have:=R.dY zs j hj
 cases zs with
 | nil=>rw [oA] at hj; cases hj
 | cons z zr=>rw [List.length_cons] at h this; omega
theorem eF {zs:List Str}{nx:Nat} (h:∀ z∈zs,z.length=nx - 1):∀ j∈R.chg (R.aE zs),j < nx:=fun j hj=>by
 have h1:=(R.j4 h).1
 have:=R.dY _ j hj
 cases hc:R.aE zs with
 | nil=>rw [hc,oA] at hj; cases hj
 | cons z zr=>rw [hc] at h1 this; rw [List.length_cons] at h1 this; omega
theorem pJ {xs ys:List D} (zs:List Str) (hx:∀ x∈xs,okD 1 x=true) (hy:∀ y∈ys,okD 1 y=true):okD 3 (mH xs ys zs)=true:=by
 have o1:=nP hx
 have o2:=nP hy
 have o3:okDs 1 (zs.map D.str)=true:=nP fun d hd=>by obtain ⟨z,_,rfl⟩:=List.mem_map.mp hd; rfl
 simp only [mH,okD,okDs,o1,o2,o3,Bool.and_true]
theorem uW (ps:List (Int × Int)):∀ x∈ps.map bN,okD 1 x=true:=fun x hx=>by
 obtain ⟨p,_,rfl⟩:=List.mem_map.mp hx; rfl
theorem aHN (ps qs:List (Int × Int)) (zs:List Str):okD 3 (mH (ps.map bN) (qs.map bN) zs)=true:=pJ zs (uW ps) (uW qs)
theorem xA (ps:List (Int × Int)) (js:List Nat):∀ x∈l8 (ps.map bN) js,okD 1 x=true:=fun x hx=>by
 obtain ⟨j,_,rfl⟩:=List.mem_map.mp hx
 rw [List.getD_eq_getElem?_getD,List.getElem?_map]
 cases ps[j]? <;> rfl
theorem aC3 (ps qs:List (Int × Int)) (zs:List Str):okD 3 (gF (ps.map bN) (qs.map bN) zs)=true:=pJ _ (xA ps _) (xA qs _)
end Q
namespace Z
open PySem L2 PySem.Spec PyProof.Rows
section
variable {K:Fg}{M:Mem}{k:D→Mem→Prop}{ds es:List D}
end
end Z
namespace Q
open PySem L2 Z
theorem kY {X:Cx}{e:Expr}{Γ:Gm}{M:Mem}{P kb:Bool→Mem→Prop} (h:GT X e Γ M P) (hk:∀ c M1,P c M1→kb c M1):GT X e Γ M kb:=fun σ G H Q en rl q=>h σ G H Q en rl fun b G' H' M' s hp=>q b G' H' M' s (hk _ _ hp)
theorem wY {α:Type}{l:List α} (h:l≠[]):∃ r x,l=r++[x]:=by
 rcases List.eq_nil_or_concat l with e | ⟨r,x,e⟩
 ·exact absurd e h
 ·exact ⟨r,x,by simpa using e⟩
structure TT (n:Nat) (xs:List D):Prop where
 len:xs.length≤n
 each:∀ x∈xs,tameB 2 x=true
theorem TT.tup {n:Nat}{xs:List D} (h:TT n xs) (hn:n≤100):tameB 3 (.tup xs)=true:=jZ (Nat.le_trans h.len hn) h.each
theorem TT.lst {n:Nat}{xs:List D} (h:TT n xs) (hn:n≤100):tameB 3 (.lst xs)=true:=aD4 (Nat.le_trans h.len hn) h.each
theorem aF9 {n:Nat}{zs:List Str} (hz:∀ z∈zs,z.length≤1000) (hl:zs.length≤n):TT n (zs.map .str):=⟨by rw [List.length_map]; exact hl,fun x hx=>by
 obtain ⟨z,hz',rfl⟩:=List.mem_map.mp hx
 simp only [tameB,decide_eq_true_eq]
 exact hz z hz'⟩
theorem rD {n:Nat}{z:Str} (h:z.length≤1000):tameB n (.str z)=true:=by cases n <;> simpa only [tameB,decide_eq_true_eq] using h
theorem two {n:Nat}{x y:D} (hx:tameB n x=true) (hy:tameB n y=true):∀ d∈[x,y],tameB n d=true:=fun d hd=>by
 simp only [List.mem_cons,List.not_mem_nil,or_false] at hd
 rcases hd with rfl | rfl <;> assumption
end Q
namespace Z
open PySem L2
end Z
namespace Q
open PySem L2 Z
theorem aB1 {zs:List Str}{nx ny:Nat} (h:zs.length=ny - 1) (hz:∀ z∈zs,z.length=nx - 1):fitB (zs.map .str) nx ny=zs.all fun z=>z.cps.toList.all R.sgn:=by
 unfold fitB
 rw [List.length_map,decide_eq_true h,Bool.true_and,List.all_map]
 rw [Bool.eq_iff_iff,List.all_eq_true,List.all_eq_true]
 constructor
 ·intro a z hz'
  have:=a z hz'
  simp only [Function.comp,rowB,Bool.and_eq_true] at this
  exact this.2
 ·intro a z hz'
  simp only [Function.comp,rowB,Bool.and_eq_true]
  exact ⟨decide_eq_true (hz z hz'),a z hz'⟩
def sc (c:Nat) (l:List Nat):Int:=(l.map fun n=>if decide (n=c)=true then (1:Int) else 0).sum
theorem yQ:nW (.tup [.tup [], .tup [], .tup []])=true:=by decide +kernel
end Q
namespace HD
open PySem PySem.Spec PyProof.Rows
theorem sE {α β:Type} (f:α→β):∀ (l:List α) (i:Nat),(l.eraseIdx i).map f=(l.map f).eraseIdx i
 | [],_=>by simp
 | x::l,0=>by simp
 | x::l,i+1=>by simp only [List.eraseIdx_cons_succ,List.map_cons]; rw [sE f l i]
section
variable {prog:Program}{w:World}{K:Type} [DecidableEq K] {knd:HeapKind prog w K}{A:Around}{E:Value→Shared→Prop}{s:Shared}{d a:Addr}{xs:List (K × Addr × Value)}{k:K}
end
end HD
namespace HD
open PySem PySem.Spec PyProof.Rows
section
variable {prog:Program}{w:World}{K:Type} [DecidableEq K] {knd:HeapKind prog w K}{A:Around}{E:Value→Shared→Prop}{s:Shared}{o:Addr}{ys:List (K × Addr × Value)}
end
end HD
namespace HD
open PySem PySem.Spec PyProof.Rows
section
variable {prog:Program}{w:World}{A:Around}{E:Value→Shared→Prop}{s:Shared}{d o:Addr}{od oo:Obj}{es eo:Array DictEntry}{ep e2:Nat}
end
end HD
namespace Z
open PySem L2
theorem StO.erase {K:Fg}{G:Hp}{o:Option HO}{a:Addr}{ks:List (List Int)}{xs:List (List Int × Addr)}{ep ep':Nat} (h:StO K G o a ks xs ep) (i:Nat):StO K G (some (.ext (DSt a (xs.eraseIdx i) ep'))) a (ks.eraseIdx i) (xs.eraseIdx i) ep' :=
 ⟨List.Nodup.eraseIdx i h.nd,Nat.le_trans (by rw [List.length_eraseIdx]; split <;> omega) h.len,by rw [HD.sE,h.keys],fun p hp=>h.at_ p (List.mem_of_mem_eraseIdx hp),rfl⟩
section
variable {X:Cx}{Γ:Gm}{M:Mem}{k:D→Mem→Prop}{e o:Expr}
end
end Z
namespace Z
open PySem L2
end Z
namespace HD
open PySem PySem.Spec PyProof.Rows
end HD
namespace Z
open PySem L2
end Z
namespace HT
open PySem PyProof.Rows
section
open PySem.SeqAt
open PySem.AutoSeq1 (wpAny_loadPart')
open PySem.MeetsSeq PySem.MeetsSeq2 PySem.MeetsSeq3
end
end HT
namespace Z
open PySem L2
section
variable {X:Cx}{Γ:Gm}{M:Mem}{F:Fin}{tg iter:Expr}{body:List Stmt}{pos:Pos}
end
end Z
namespace Z
open PySem L2
def tk (M:Mem) (b:Addr):Bool:=match M b with
 | some (.lst _)=>true
 | _=>false
def sQ (G H:Hp) (M:Mem):Hp:=fun b=>if tk M b=true then H b else G b
def nE (G1:Hp) (M:Mem):Hp:=fun b=>if tk M b=true then none else G1 b
mutual
def noL:D→Bool
 | .non | .bl _ | .int _ | .str _=>true
 | .tup ds=>noLs ds
 | _=>false
def noLs:List D→Bool
 | []=>true
 | d::ds=>noL d && noLs ds
end
theorem aKE {M:Mem}{b:Addr} (h:M b=none):tk M b=false:=by unfold tk; rw [h]
section
variable {K:Fg}{G H G1 H1:Hp}{M M1:Mem}
theorem Rel.gM (rl:Rel K G H M) {b:Addr}{o:HO} (h:G b=some o):M b=none:=by
 cases e:M b with
 | none=>rfl
 | some m=>rw [(rl.mem b m e).1] at h; cases h
theorem Rel.loan_same (rl:Rel K G H M):Same G (sQ G H M):=fun b o h=>by
 unfold sQ; rw [if_neg (by rw [aKE (rl.gM h)]; exact Bool.false_ne_true)]; exact h
theorem zJ {a:Addr}{vs:List V} (hl:∀ b,tk M b=true→∃ ws,G1 b=some (.lst ws)) (h:SqT K G1 a vs):SqT K (nE G1 M) a vs:=by
 rcases h with h | h
 ·refine .inl ?_
  have ne:¬ tk M a=true:=fun t=>by
   obtain ⟨ws,e⟩:=hl a t
   rcases h with h | ⟨o,h⟩ <;> rw [e] at h <;> cases h
  have e:nE G1 M a=G1 a:=by unfold nE; rw [if_neg ne]
  rcases h with h | ⟨o,h⟩
  ·exact .inl (e.trans h)
  ·exact .inr ⟨o,e.trans h⟩
 ·exact .inr h
mutual
theorem den_strip (hl:∀ b,tk M b=true→∃ ws,G1 b=some (.lst ws)):∀ (d:D) {v:V},noL d=true→Den K G1 d v→Den K (nE G1 M) d v
 | .non,_,_,h=>by simp only [Den] at h ⊢; exact h
 | .bl _,_,_,h=>by simp only [Den] at h ⊢; exact h
 | .int _,_,_,h=>by simp only [Den] at h ⊢; exact h
 | .str _,_,_,h=>by simp only [Den] at h ⊢; exact h
 | .tup ds,_,n,h=>by
  simp only [noL] at n
  simp only [Den] at h ⊢
  obtain ⟨a,vs,e,q,r⟩:=h
  exact ⟨a,vs,e,zJ hl q,dens_strip hl ds n r⟩
 | .mt _,_,n,_=>by simp [noL] at n
 | .lst _,_,n,_=>by simp [noL] at n
 | .fl _,_,n,_=>by simp [noL] at n
 | .st _,_,n,_=>by simp [noL] at n
theorem dens_strip (hl:∀ b,tk M b=true→∃ ws,G1 b=some (.lst ws)):∀ (ds:List D) {vs:List V},noLs ds=true→Dens K G1 ds vs→Dens K (nE G1 M) ds vs
 | [],_,_,h=>by simp only [Dens] at h ⊢; exact h
 | d::ds,_,n,h=>by
  simp only [noLs,Bool.and_eq_true] at n
  simp only [Dens] at h ⊢
  obtain ⟨v,r,e,h1,h2⟩:=h
  exact ⟨v,r,e,den_strip hl d n.1 h1,dens_strip hl ds n.2 h2⟩
end
end
def Ln (M:Mem) (d d':D):Prop:=∀ K G H v,Rel K G H M→Den K G d v→Den K (sQ G H M) d' v
def Lns (M:Mem) (ds ds':List D):Prop:=∀ K G H vs,Rel K G H M→Dens K G ds vs→Dens K (sQ G H M) ds' vs
theorem Lns.nil {M:Mem}:Lns M [] []:=fun K G H vs rl e=>by rw [cF e]; exact cQ
theorem Lns.cons {M:Mem}{d d':D}{ds ds':List D} (h:Ln M d d') (r:Lns M ds ds'):Lns M (d::ds) (d'::ds'):=fun K G H vs rl e=>by
 obtain ⟨v,rr,rfl,h1,h2⟩:=bV e
 exact cJ (h K G H v rl h1) (r K G H rr rl h2)
theorem Ln.lst {M:Mem}{ds ds':List D} (h:Lns M ds ds'):Ln M (.lst ds) (.lst ds'):=fun K G H v rl e=>by
 obtain ⟨a,vs,ev,e1,e2⟩:=e.lst_
 rw [ev]
 exact fD (rl.loan_same a _ e1) (h K G H vs rl e2)
inductive LnE (M:Mem):Gm→Gm→Prop
 | n:LnE M [] []
 | s {o:Option D}{Γ Γ':Gm} (r:LnE M Γ Γ'):LnE M (o::Γ) (none::Γ')
 | c {d d':D}{Γ Γ':Gm} (h:Ln M d d') (r:LnE M Γ Γ'):LnE M (some d::Γ) (some d'::Γ')
section
variable {X:Cx}{Γ Γ':Gm}{M:Mem}{k:D→Mem→Prop}{kb:Bool→Mem→Prop}{e:Expr}{d0:D}{b0:Bool}
end
end Z
namespace Z
open PySem L2
section
variable {X:Cx}{Γ:Gm}{M:Mem}{k:D→Mem→Prop}{kb:Bool→Mem→Prop}{pos:Pos}{a b c:Expr}
theorem pE {x:Str}{n:Int}{t:Tok} (hm:X.mg x=some (.int n t)) (h:k (.int n) M) (hg:Gl X x:=by rfl) (hb:(x == ("__debug__" : Str))=false:=by decide):GE X (.Name x pos) Γ M k :=
 fun σ G H Q en rl q=>cL (aHA (v := .int n) hg hm ⟨t,rfl⟩ hb) (q _ G H _ M (Stp.refl rl) dD h)
theorem aDR {op op':CmpOp}{r r':R2} (ho:OpR X (compareOp op) r) (ho':OpR X (compareOp op') r')
  (h:GE X a Γ M fun d1 M1=>GE X b Γ M1 fun d2 M2=>Op2 X.K r d1 d2 M2 fun e M3=>∃ t,e = .bl t∧if t=true then GE X c Γ M3 fun d3 M4=>Op2 X.K r' d2 d3 M4 k else k (.bl false) M3)
  (hm:lastMarks [op,op'] [b,c]=false:=by with_unfolding_all rfl):GE X (.Compare a [op,op'] [b,c] pos) Γ M k:=fun σ G H Q en rl q=>by
 refine cL (aEI ho ho' pU pU pU hm) ?_
 refine h σ G H _ en rl fun v1 G1 H1 d1 M1 s1 e1 h1 => ?_
 refine h1 σ G1 H1 _ (en.up s1.gg) s1.rel fun v2 G2 H2 d2 M2 s2 e2 h2 => ?_
 refine h2 G2 H2 v1 v2 _ s2.rel (e1.up s2.gg) e2 fun z G3 H3 d3 M3 s3 e3 ⟨t,ed,h3⟩ => ?_
 subst ed
 have s13:=(s1.trans s2).trans s3
 refine ⟨t,e3.bl_,?_⟩
 cases t with
 | true =>
  rw [if_pos rfl] at h3 ⊢
  refine h3 σ G3 H3 _ (en.up s13.gg) s3.rel fun w G4 H4 d4 M4 s4 e4 h4 => ?_
  exact h4 G4 H4 v2 w Q s4.rel (e2.up (s3.trans s4).gg) e4 (q.up (s13.trans s4))
 | false =>
  rw [if_neg Bool.false_ne_true] at h3 ⊢
  exact q _ _ _ _ _ s13 d6 h3
theorem uK {op op':CmpOp}{r r':R2} (ho:OpR X (compareOp op) r) (ho':OpR X (compareOp op') r')
  (h:GE X a Γ M fun d1 M1=>GE X b Γ M1 fun d2 M2=>Op2 X.K r d1 d2 M2 fun e M3=>∃ t,e = .bl t∧if t=true then GE X c Γ M3 fun d3 M4=>Op2 X.K r' d2 d3 M4 fun d M5=>∃ s,d = .bl s∧kb s M5 else kb false M3)
  (hm:lastMarks [op,op'] [b,c]=false:=by with_unfolding_all rfl):GT X (.Compare a [op,op'] [b,c] pos) Γ M kb:=fun σ G H Q en rl q=>by
 refine m9 (aEP ho ho' pU pU pU hm) ?_
 refine h σ G H _ en rl fun v1 G1 H1 d1 M1 s1 e1 h1 => ?_
 refine h1 σ G1 H1 _ (en.up s1.gg) s1.rel fun v2 G2 H2 d2 M2 s2 e2 h2 => ?_
 refine h2 G2 H2 v1 v2 _ s2.rel (e1.up s2.gg) e2 fun z G3 H3 d3 M3 s3 e3 ⟨t,ed,h3⟩ => ?_
 subst ed
 have s13:=(s1.trans s2).trans s3
 refine ⟨t,e3.bl_,?_⟩
 cases t with
 | true =>
  rw [if_pos rfl] at h3 ⊢
  refine h3 σ G3 H3 _ (en.up s13.gg) s3.rel fun w G4 H4 d4 M4 s4 e4 h4 => ?_
  refine h4 G4 H4 v2 w _ s4.rel (e2.up (s3.trans s4).gg) e4 fun u G5 H5 d5 M5 s5 e5 ⟨s,ed,h5⟩ => ?_
  subst ed
  exact ⟨s,e5.bl_,q _ _ _ _ ((s13.trans s4).trans s5) h5⟩
 | false =>
  rw [if_neg Bool.false_ne_true] at h3 ⊢
  exact ⟨false,rfl,q _ _ _ _ s13 h3⟩
end
end Z
namespace Q
open PySem L2 Z
def p1 (x:Int):Int × Int:=(x,1)
def gD (xs:List Int):List D:=(xs.map p1).map bN
structure Up7 (xs:List Int):Prop where
 up:xs.Pairwise (· < ·)
 few:xs.length≤7
 bd:∀ x∈xs, -1000000000≤x∧x≤1000000000
def dv (a b:Int):Int:=if b < 0 then -((Int.gcd a b:Nat):Int) else ((Int.gcd a b:Nat):Int)
def lowP (a b:Int):Int × Int:=(a.fdiv (dv a b),b.fdiv (dv a b))
def k6:Ct:=fun ds M k=>∃ a b:Int,ds=[.int a, .int b]∧b≠0∧b.natAbs < 10 ^ 1000∧k (bN (lowP a b)) M
def m7:Ct:=fun ds M k=>∃ a b:Int,ds=[.int a, .int b]∧b≠0∧b.natAbs < 10 ^ 1000∧k (bN (lowP a b)) M
def qA:Ct:=fun ds M k=>∃ x:Int,ds=[.int x] ∧ -1000000000≤x∧x≤1000000000∧k (.bl true) M
def o4:Ct:=fun ds M k=>∃ xs:List Int,ds=[.lst (xs.map .int)]∧Up7 xs∧k (.bl true) M
def aE1:Ct:=fun ds M k=>∃ (xs ys:List Int) (zs:List Str),ds=[.lst (xs.map .int), .lst (ys.map .int), .lst (zs.map .str)]∧Up7 xs∧Up7 ys∧R.Good (xs.length - 1) zs∧zs.length=ys.length - 1∧k (gF (gD xs) (gD ys) zs) M
theorem low1 (x:Int):lowP x 1=p1 x:=by
 have e:dv x 1=1:=by unfold dv; rw [if_neg (by decide),Int.gcd_one]; rfl
 unfold lowP p1
 rw [e,Int.fdiv_one]
 rfl
theorem lL (ds:List D):isD "list" (.lst ds)=true:=rfl
theorem pI (n:Nat):(List.replicate n true).all id=true:=by
 rw [List.all_eq_true]; intro b hb; rw [(List.mem_replicate.mp hb).2]; rfl
theorem zW {xs:List Int}{i:Nat} (h:i < xs.length):atI (xs.map D.int) (i:Int)=some (.int xs[i]):=cW (by rw [List.getElem?_map,List.getElem?_eq_getElem h]; rfl)
theorem pZ (xs:List Int):(gD xs).length=xs.length:=by unfold gD; rw [List.length_map,List.length_map]
theorem vK {n:Nat}{zs:List Str} (h:R.Good n zs):(zs.all fun z=>z.cps.toList.all R.sgn)=true:=List.all_eq_true.mpr fun z hz=>(h z hz).2
theorem TT.tame1 {n:Nat}{zs:List Str} (h:TT n (zs.map .str)):∀ r∈zs.map D.str,tameB 1 r=true:=fun r hr=>by
 obtain ⟨z,hz,rfl⟩:=List.mem_map.mp hr
 exact rD (tP (h.each _ hr))
theorem qB {α:Type} (l:List α) (d:α):(List.range l.length).map (fun j=>l.getD j d)=l:=by
 apply List.ext_getElem?
 intro i
 by_cases h:i < l.length
 ·rw [List.getElem?_map,List.getElem?_range h,Option.map_some,List.getD_eq_getElem?_getD,List.getElem?_eq_getElem h]; rfl
 ·rw [List.getElem?_eq_none (by simp; omega),List.getElem?_eq_none (by omega)]
theorem kX (n:Nat):(List.range n).dropLast=List.range (n - 1):=by
 cases n with
 | zero=>rfl
 | succ n=>rw [List.range_succ,List.dropLast_concat]; rfl
theorem aCF {K:List Str}{a b:Nat} (t1:R.chg K=List.range a) (t2:R.chg (R.aE K)=List.range b) (t4:R.Good (b - 1) K) (hkl:K.length=a - 1):R.bZ K=K:=by
 unfold R.bZ
 rw [t1,t2,kX,kX,← hkl]
 apply List.ext_getElem?
 intro i
 by_cases h:i < K.length
 ·rw [List.getElem?_map,List.getElem?_range h,Option.map_some,List.getD_eq_getElem?_getD,List.getElem?_eq_getElem h]
  have hl:=(t4 K[i] (List.getElem_mem h)).1
  congr 1
  apply eU
  show (List.range _).map (R.atS K[i])=K[i].cps.toList
  apply List.ext_getElem?
  intro j
  by_cases hj:j < b - 1
  ·rw [List.getElem?_map,List.getElem?_range hj,R.cA (by omega)]; rfl
  ·rw [List.getElem?_eq_none (by simp; omega),List.getElem?_eq_none (by rw [Array.length_toList]; have:K[i].cps.size=K[i].length:=rfl; omega)]
 ·rw [List.getElem?_eq_none (by simp; omega),List.getElem?_eq_none (by omega)]
theorem jP {xs:List Int} (h:xs.Pairwise (· < ·)) {i j:Nat} (hij:i≤j) (hj:j < xs.length):xs.getD i 0≤xs.getD j 0:=by
 rw [List.getD_eq_getElem?_getD,List.getD_eq_getElem?_getD,List.getElem?_eq_getElem (show i < xs.length by omega),List.getElem?_eq_getElem hj]
 by_cases e:i=j
 ·subst e; exact Int.le_refl _
 ·exact Int.le_of_lt (List.pairwise_iff_getElem.mp h i j (by omega) hj (by omega))
theorem i3 {xs:List Int} (h:xs.Pairwise (· < ·)) {i j:Nat} (hij:i < j) (hj:j < xs.length):xs.getD i 0 < xs.getD j 0:=by
 rw [List.getD_eq_getElem?_getD,List.getD_eq_getElem?_getD,List.getElem?_eq_getElem (show i < xs.length by omega),List.getElem?_eq_getElem hj]
 exact List.pairwise_iff_getElem.mp h i j (by omega) hj (by omega)
end Q
namespace L2
open PySem PySem.Spec PyProof.Rows
section
variable {X:Cx}
def Ies (x:Str):It:=⟨fun i H=>i < x.cps.size,fun i H v H'=>∃ T c,H T=none∧v = .ref T∧H'=upd H T (.tup [.int (i:Int), .str ⟨#[c]⟩])∧x.cps[i]?=some c,fun i H=>x.cps.size=i⟩
theorem sF {prog:Program}{w:World}{A:Around} (hh:A.handled=none) (it:Addr) (x:Str) (t:Tok) :
  Draws prog w A it [it] x.cps.size (fun i v=>∃ c u,x.cps[i]?=some c∧v = .str ⟨#[c]⟩ u) (fun i h=>h.IsStrIter it (strIterType x) x t i):=by
 unfold strIterType
 split
 ·first | exact Draws.strAscii hh it x t | exact Draws.strWide hh it x t
 ·first | exact Draws.strWide hh it x t | exact Draws.strAscii hh it x t
theorem yU {P:Program}{w:World}{K:PySem.W.Frag}{elts:List Expr}{kk:Nat}{tp:Pos} (x:Str) (t:Tok) (e it:Addr) (hei:e≠it) :
  Turn P w K (.Tuple elts kk tp) (Ies x) [e,it] e (fun i h=>(∃ old,IsEnum h e it (i:Nat) old)∧h.IsStrIter it (strIterType x) x t i) where
 mem:=by simp
 obj:=fun i h st b hb=>by
  obtain ⟨⟨old,he⟩,o,ho,hc,hd⟩:=st
  rcases List.mem_cons.mp hb with rfl | hb
  ·exact ⟨_,he,fun v z=>by cases z⟩
  ·rw [List.mem_singleton] at hb
   subst hb
   exact ⟨o,ho,fun v z=>by rw [hd] at z; cases z⟩
 keep:=fun i h h' st k=>by
  obtain ⟨⟨old,he⟩,o,ho,r⟩:=st
  exact ⟨⟨old,k e (by simp) _ he⟩,o,k it (by simp) o ho,r⟩
 item:=by
  intro X hP hw hK hc i pins s σ H E I hf st hg
  subst hP hw hK
  obtain ⟨⟨old,he⟩,hit⟩:=st
  have Dr:=sF (prog:=X.prog) (w:=X.w) (A:=X.A.in1) (I.ok.hd hc) it x t
  refine wpAny_pyNext_enum_itemD Dr he hit hg hei (by simpa using hei) fun y h1 tk hy ho hs1 hT hsz hk => ?_
  obtain ⟨c,u,hcu,rfl⟩:=hy
  refine ⟨_,rfl,wpAny_letOwnedTupleGo_enum ho fun h2 he2 hs2 => ?_⟩
  have hTe:s.heap.objs.size≠e:=Nat.ne_of_gt (Heap.lt_size he)
  have tup2:h2.get? s.heap.objs.size=some { cls := .type "tuple", data := .seq #[.int (i:Int) tk, .str ⟨#[c]⟩ u] }:=(hs2.2 _ hTe).trans hT
  have k2:∀ b ob,b ∉ [e,it]→s.heap.get? b=some ob→h2.get? b=some ob:=fun b ob hb q=>by
   have b1:b≠e:=fun z=>hb (by simp [z])
   have b2:b≠it:=fun z=>hb (by simp [z])
   exact (hs2.2 b b1).trans (hk b ob b1 b2 q)
  have I2:Inv X pins σ (upd H s.heap.objs.size (.tup [.int (i:Int), .str ⟨#[c]⟩])) { s with heap:=h2,toks:=tk+1 }:=I.turnedT k2 hf (Nat.le_refl _) ⟨(show 2≤sizeLine by decide),[.int (i:Int) tk, .str ⟨#[c]⟩ u], .cons ⟨tk,rfl⟩ (.cons ⟨u,rfl⟩ .nil),_,tup2,rfl,0,rfl⟩
  have hn:H s.heap.objs.size=none:=I.hok.fresh (Nat.le_refl _)
  refine ⟨.ref s.heap.objs.size,_,I2,rfl,⟨s.heap.objs.size,c,hn,rfl,rfl,hcu⟩,⟨⟨_,by simpa using he2⟩,?_⟩,fun b hb => ?_⟩
  ·obtain ⟨o,ho3,r3⟩:=hs1
   exact ⟨o,(hs2.2 it (Ne.symm hei)).trans ho3,r3⟩
  ·rw [aW (fun z => ?_)]
   ·exact (hf b hb).1
   ·rcases List.mem_cons.mp hb with y | y
    ·exact hTe (by rw [← z,y])
    ·rw [List.mem_singleton] at y
     obtain ⟨o,ho3,_⟩:=hit
     exact absurd (Heap.lt_size ho3) (by rw [← y,z]; exact Nat.lt_irrefl _)
 done:=by
  intro X hP hw hK hc i pins s σ H E I hf st hg
  subst hP hw hK
  obtain ⟨⟨old,he⟩,hit⟩:=st
  have Dr:=sF (prog:=X.prog) (w:=X.w) (A:=X.A.in1) (I.ok.hd hc) it x t
  have hn:x.cps.size=i:=hg
  subst hn
  refine wpAny_pyNext_enum_endD Dr he hit fun h2 hx=>⟨rfl,I.turnedL (t':=s.toks) (ch:=[it]) (fun b ob hb q=>hx b ob (fun z=>hb (by simp [z])) q) fun b hb=>hf b ?_⟩
  rw [List.mem_singleton] at hb
  rw [hb]; simp
 self:=fun A i s Q E st h=>by
  obtain ⟨⟨old,he⟩,_⟩:=st
  exact wpAny_pyIter_enum he h
def aIU (ta:TA):TI:=fun σ H R=>ta σ H fun vs H1=>∃ x,vs=[.str x]∧R (Ies x) H1
theorem aEM {elts:List Expr}{kk:Nat}{tp:Pos}{a:Expr}{ta:TA}{p pos:Pos} (hg:Gl X "enumerate") (hm:X.mg "enumerate" = none) (hv:bootBuiltins "enumerate" = some (.type "enumerate")) (ha:PA X [a] ta) (hs:starEach [a] X.env=[(false,eval a X.env)]:=by rfl) :
  PI X (.Tuple elts kk tp) (.Call (.Name "enumerate" p) [a] [] pos) (aIU ta):=by
 intro pins s σ H R I h
 refine Call_ (j5 I hg hm hv (PyProof.Rows.callWith_type1 (thn (ha pos pins s σ H _ I h) fun us s1 ⟨vs,H1,I1,r1,q1⟩ => ?_) hs rfl))
 obtain ⟨x,e,q⟩:=q1
 subst e
 obtain ⟨u,rfl,ru⟩:=vals1 r1
 obtain ⟨t,rfl⟩:=ru
 refine call_enumerate_str fun h' he hi hsz hk => ?_
 have I2:Inv X pins σ H1 { s1 with heap:=h' }:=I1.kept (t':=s1.toks) hk
 refine wpAny_pyIter_enum he ?_
 refine ⟨_,[s1.heap.objs.size+1,s1.heap.objs.size],_,Ies x,H1,rfl,I2,yU x t _ _ (Nat.succ_ne_self _),⟨⟨_,he⟩,hi⟩,fun c hc => ?_,q⟩
 rcases List.mem_cons.mp hc with rfl | hc
 ·exact I1.fpOk (Nat.le_succ _) (I1.hok.fresh (Nat.le_succ _))
 ·rw [List.mem_singleton] at hc
  subst hc
  exact I1.fpOk (Nat.le_refl _) (I1.hok.fresh (Nat.le_refl _))
end
end L2
namespace Z
open PySem L2
section
variable {X:Cx}{Γ:Gm}{M:Mem}{k:D→Mem→Prop}{pos:Pos}{a b:Expr}{rest:List Expr}
theorem aDL {K:Fg}{x:Str}{G0:Hp}:YD K (Ies x) (fW (strD x)) G0 where
 go:=fun i G H M sg rl h=>by
  have:(fW (strD x)).length=x.length:=by rw [show (fW (strD x)).length=(strD x).length by simp [fW],gS]
  rw [this] at h; exact h
 yld:=fun i G H M v H' sg rl h y=>by
  obtain ⟨T,c,hT,rfl,rfl,hc⟩:=y
  have st:=rl.new (o := .tup [.int (i:Int), .str ⟨#[c]⟩]) hT
  exact ⟨_, .tup [.int (i:Int), .str ⟨#[c]⟩],st,by simp [fW,strD,hc],iQ (SqT.of bB) (cJ dD (cJ f6 cQ))⟩
 stop:=fun i G H M sg rl h=>by
  have:(fW (strD x)).length=x.length:=by rw [show (fW (strD x)).length=(strD x).length by simp [fW],gS]
  rw [this] at h; exact h.symm
theorem aD3 {elts:List Expr}{kk:Nat}{tp p:Pos}{ki:List D→Mem→Prop} (hm:X.mg "enumerate" = none) (hv:bootBuiltins "enumerate" = some (.type "enumerate")) (h:GA X [a] Γ M fun ds M1=>∃ x,ds=[.str x]∧ki (fW (strD x)) M1) (hg:Gl X "enumerate" := by rfl) (hs:starEach [a] X.env=[(false,eval a X.env)]:=by rfl) :
  GI X (.Tuple elts kk tp) (.Call (.Name "enumerate" p) [a] [] pos) Γ M ki:=fun σ G H Rr en rl q=>by
 refine kZ (aEM hg hm hv pUA hs) ?_
 refine h σ G H _ en rl fun vs G1 H1 ds M1 s1 e1 ⟨x,ed,h1⟩ => ?_
 subst ed
 obtain ⟨v,rfl,dv⟩:=dens1 e1
 exact ⟨x,by rw [dv.str_],q _ _ _ _ _ s1 aDL h1⟩
end
end Z
namespace Q
open PySem L2 Z
structure Bg (p:Int × Int):Prop where
 a:p.1.natAbs < 10 ^ 400
 b:p.2.natAbs < 10 ^ 400
 c:p.2≠0
theorem big400 {i:Int} (h:i.natAbs < 10 ^ 400):i.natAbs < big:=Nat.lt_of_lt_of_le h (by unfold big; decide)
theorem uQ {p q:Int × Int} (hp:Bg p) (hq:Bg q):p.2 * q.2≠0∧(p.2 * q.2).natAbs < 10 ^ 1000:=by
 refine ⟨Int.mul_ne_zero hp.c hq.c,?_⟩
 rw [Int.natAbs_mul]
 refine Nat.lt_of_lt_of_le (Nat.mul_lt_mul'' hp.b hq.b) ?_
 rw [← Nat.pow_add]
 exact Nat.pow_le_pow_right (by decide) (by decide)
def gB (K:List Str) (bx bu:List Int):List Bool:=bu.flatMap fun u=>bx.map fun a=>R.aR K a u
def lieS (l:List Bool):Str:=if l.all id then "in" else if l.any id then "rim" else "out"
theorem zC (K:List Str) (bx bu:List Int) (h1:bx.length≤2) (h2:bu.length≤2):(gB K bx bu).length≤4:=by
 unfold gB
 match bu,h2 with
 | [],_=>simp
 | [a],_=>simp; omega
 | [a,b],_=>simp; omega
def lowG (t b:Int):Int × Int:=(t.fdiv ((Int.gcd t b:Nat):Int),b.fdiv ((Int.gcd t b:Nat):Int))
def zG:Ct:=fun ds M k=>∃ t b:Int,ds=[.int t, .int b]∧0 < b∧b < 10 ^ 60∧k (bN (lowG t b)) M
structure Spot (xs:List Int) (v:Int × Int) (cols:List Int):Prop where
 pos:0 < v.2
 sm:v.1.natAbs < 10 ^ 65∧v.2.natAbs < 10 ^ 65
 at_:(∃ k:Nat,k < xs.length∧v=p1 (xs.getD k 0)∧cols=[(k:Int) - 1,(k:Int)])∨(∃ k:Int,cols=[k]∧∀ i,i < xs.length→(xs.getD i 0 * v.2 < v.1↔(i:Int)≤k)∧xs.getD i 0 * v.2≠v.1)
theorem Spot.on {xs:List Int}{k:Nat} (hk:k < xs.length) (h9:(xs.getD k 0).natAbs≤1000000000):Spot xs (p1 (xs.getD k 0)) [(k:Int) - 1,(k:Int)] :=
 ⟨by show (0:Int) < 1; decide,⟨Nat.lt_of_le_of_lt h9 (by decide),by show (1:Int).natAbs < _; exact Nat.one_lt_pow (by decide) (by decide)⟩, .inl ⟨k,hk,rfl,rfl⟩⟩
end Q
namespace PySem
namespace F
end F
def Heap.IsRv (h:Heap) (a:Addr) (v:Value) (i:Int):Prop:=∃ o,h.get? a=some o∧o.cls = .type "reversed" ∧ o.data = .fields #[v,rawInt i]
section
variable {prog:Program}{w:World}{A:Around}{E:Value→Shared→Prop}{s:Shared}
theorem Heap.IsRv.typeIs {a:Addr}{v:Value}{i:Int} (x:s.heap.IsRv a v i):s.TypeIs (.ref a) "reversed" := let ⟨o,ho,hc,_⟩:=x; ⟨o,ho,hc⟩
end
end PySem
namespace PySem
open PyProof.Rows
section
variable {prog:Program}{w:World}{A:Around}{E:Value→Shared→Prop}{s:Shared}{I:Addr}
end
end PySem
namespace PySem
open PyProof.Rows
open Builtin Builtin.Str Builtin.Int
section
variable {prog:Program}{w:World}{A:Around}{E:Value→Shared→Prop}{s:Shared}{I:Addr}
end
end PySem
namespace L2
open PySem PySem.Spec PyProof.Rows
section
variable {X:Cx}
end
end L2
namespace Z
open PySem L2
section
variable {X:Cx}{Γ:Gm}{M:Mem}{k:D→Mem→Prop}{pos:Pos}{a b o tg:Expr}{rest:List Expr}{ki:List D→Mem→Prop}
end
end Z
namespace Q
open PySem L2 Z
theorem aGS {t b:Int} (hb:0 < b):lowP t b=lowG t b:=by
 unfold lowP lowG dv
 rw [if_neg (by omega)]
structure Tidy2 (K:List Str) (a b:Nat):Prop where
 v:(K=[]∧a=0∧b=0)∨(K≠[]∧R.chg K=List.range b∧R.chg (R.aE K)=List.range a∧R.Good (a - 1) K∧K.length+1=b∧2≤a∧2≤b)
theorem Tidy2.good {K:List Str}{a b:Nat} (h:Tidy2 K a b):R.Good (a - 1) K∧K.length=b - 1:=by
 rcases h.v with ⟨rfl,rfl,rfl⟩ | ⟨_,_,_,g,l,_,_⟩
 ·exact ⟨fun z hz=>(nomatch hz),rfl⟩
 ·exact ⟨g,by omega⟩
theorem zA {n:Nat}{zs:List Str} (g:R.Good n zs):Tidy2 (R.bZ zs) (R.chg (R.aE zs)).length (R.chg zs).length:=by
 by_cases hr:R.aQ zs=[]
 ·obtain ⟨e1,e2⟩:=R.rO (fun z hz=>(g z hz).1) hr
  refine ⟨.inl ⟨?_,?_,?_⟩⟩
  ·unfold R.bZ; rw [e1] <;> first | rfl | (rw [e2]; rfl)
  ·first | (rw [e2]; rfl) | (rw [e1]; rfl)
  ·first | (rw [e1]; rfl) | (rw [e2]; rfl)
 ·obtain ⟨t1,t2,t3,t4,t5,t6⟩:=R.yI g hr
  have hkl:(R.bZ zs).length=(R.chg zs).length - 1:=by unfold R.bZ; rw [List.length_map,List.length_dropLast]
  exact ⟨.inr ⟨t3,t1,t2,t4,by omega,t5,t6⟩⟩
structure By (w:Nat) (p:Int × Int):Prop where
 b0:0 < p.2
 b9:p.2≤9
 a20:p.1.natAbs≤20
 a0:w=3→0 < p.1
end Q
namespace U
open PySem
def inY (ws us:List Rat) (K:List Str) (x y:Rat):Bool:=R.aR K (ix ws x) (ix us y)
theorem jJ {n:Nat}{K:List Str} (h:∀ z∈K,z.length=n) {a u:Int} (ha:(n:Int)≤a):R.aR K a u=false:=by
 cases e:R.aR K a u with
 | false=>rfl
 | true =>
  obtain ⟨h1,h2,z,hz,hc⟩:=R.d9.mp e
  have:=h z (List.mem_of_getElem? hz)
  have h3:a.toNat < z.cps.toList.length:=(List.getElem?_eq_some_iff.mp hc).1
  rw [Array.length_toList] at h3
  have h4:z.cps.size=z.length:=rfl
  omega
structure Steps (f:Rat→Rat→Bool) (xs ys:List Rat):Prop where
 out:∀ x y,ix xs x = -1∨ix xs x=(xs.length:Int) - 1∨ix ys y = -1∨ix ys y=(ys.length:Int) - 1→f x y=false
 at_:∀ x y (i j:Nat) (hi:i < xs.length) (hj:j < ys.length),ix xs x=i→ix ys y=j→f x y=f xs[i] ys[j]
theorem aBN {ws us xs ys:List Rat}{K:List Str} (u:Up ws) (u':Up us) (hK:∀ z∈K,z.length=ws.length - 1) (lK:K.length=us.length - 1) (v:Up xs) (v':Up ys) (hs:∀ w∈ws,w∈xs) (hs':∀ w∈us,w∈ys):Steps (inY ws us K) xs ys where
 out x y h:=by
  unfold inY
  rcases h with h | h | h | h
  ·rw [aCL v hs h]; exact R.cS (by omega)
  ·rw [wO v hs h]
   cases ws with
   | nil=>exact R.cS (by simp)
   | cons w r=>exact jJ hK (by simp)
  ·rw [aCL v' hs' h]; exact R.c6 (by omega)
  ·rw [wO v' hs' h]
   cases us with
   | nil=>exact R.c6 (by simp)
   | cons w r=>exact R.c8 (by rw [lK]; simp)
 at_ x y i j hi hj e e':=by
  unfold inY
  rw [yE u v hs hi e,yE u' v' hs' hj e']
theorem Steps.pick {f g:Rat→Rat→Bool}{xs ys:List Rat} (hf:Steps f xs ys) (hg:Steps g xs ys) (p:Bool→Bool→Bool) (h0:p false false=false):Steps (fun x y=>p (f x y) (g x y)) xs ys :=
 ⟨fun x y h=>by rw [hf.out x y h,hg.out x y h]; exact h0,fun x y i j hi hj e e'=>by rw [hf.at_ x y i j hi hj e e',hg.at_ x y i j hi hj e e']⟩
def iG (f:Rat→Rat→Bool) (xs ys:List Rat):List Str:=ys.dropLast.map fun y=>R.ofL (xs.dropLast.map fun x=>R.sg (f x y))
theorem eV (f:Rat→Rat→Bool) (xs ys:List Rat):(iG f xs ys).length=ys.length - 1:=by unfold iG; rw [List.length_map,List.length_dropLast]
theorem dJ (f:Rat→Rat→Bool) (xs ys:List Rat):R.Good (xs.length - 1) (iG f xs ys):=fun z hz=>by
 unfold iG at hz
 obtain ⟨y,_,rfl⟩:=List.mem_map.mp hz
 refine ⟨by rw [R.eN,List.length_map,List.length_dropLast],?_⟩
 rw [List.all_eq_true]
 intro c hc
 have hc':c∈xs.dropLast.map fun x=>R.sg (f x y):=hc
 obtain ⟨q,_,rfl⟩:=List.mem_map.mp hc'
 unfold R.sg; split <;> rfl
theorem pG {f:Rat→Rat→Bool}{xs ys:List Rat}{i j:Nat} (hi:i+1 < xs.length) (hj:j+1 < ys.length):R.aR (iG f xs ys) (i:Int) (j:Int)=f xs[i] ys[j]:=by
 have hj':j < ys.dropLast.length:=by rw [List.length_dropLast]; omega
 have hi':i < xs.dropLast.length:=by rw [List.length_dropLast]; omega
 have e1:(iG f xs ys)[((j:Int)).toNat]?=some (R.ofL (xs.dropLast.map fun x=>R.sg (f x ys[j]))):=by
  rw [Int.toNat_natCast]; unfold iG
  rw [List.getElem?_map,List.getElem?_eq_getElem hj',List.getElem_dropLast]; rfl
 have e2:(R.ofL (xs.dropLast.map fun x=>R.sg (f x ys[j]))).cps.toList[((i:Int)).toNat]?=some (R.sg (f xs[i] ys[j])):=by
  rw [Int.toNat_natCast]
  show (xs.dropLast.map fun x=>R.sg (f x ys[j]))[i]?=_
  rw [List.getElem?_map,List.getElem?_eq_getElem hi',List.getElem_dropLast]; rfl
 rw [R.eB (by omega) (by omega) e1 e2]
 unfold R.sg
 cases f xs[i] ys[j] <;> rfl
theorem aF5 {f:Rat→Rat→Bool}{xs ys:List Rat} (h:Steps f xs ys) (x y:Rat):R.aR (iG f xs ys) (ix xs x) (ix ys y)=f x y:=by
 have a1:=p9 xs x
 have a2:=qI xs x
 have b1:=p9 ys y
 have b2:=qI ys y
 by_cases ha:ix xs x = -1
 ·rw [h.out x y (.inl ha),ha]; exact R.cS (by omega)
 by_cases ha':ix xs x=(xs.length:Int) - 1
 ·rw [h.out x y (.inr (.inl ha')),ha']
  exact jJ (fun z hz=>(dJ f xs ys z hz).1) (by omega)
 by_cases hb:ix ys y = -1
 ·rw [h.out x y (.inr (.inr (.inl hb))),hb]; exact R.c6 (by omega)
 by_cases hb':ix ys y=(ys.length:Int) - 1
 ·rw [h.out x y (.inr (.inr (.inr hb'))),hb']
  exact R.c8 (by rw [eV]; omega)
 obtain ⟨i,hi⟩:∃ i:Nat,ix xs x=i:=⟨(ix xs x).toNat,by omega⟩
 obtain ⟨j,hj⟩:∃ j:Nat,ix ys y=j:=⟨(ix ys y).toNat,by omega⟩
 rw [h.at_ x y i j (by omega) (by omega) hi hj,hi,hj]
 exact pG (by omega) (by omega)
theorem aHD {xs ys:List Rat}{zs:List Str} (u:Up xs) (v:Up ys) (g:R.Good (xs.length - 1) zs) (hz:zs.length=ys.length - 1) (x y:Rat) :
  inY (gE xs (R.chg (R.aE zs))) (gE ys (R.chg zs)) (R.bZ zs) x y=R.aR zs (ix xs x) (ix ys y):=by
 unfold inY
 rw [wM u (Q.eF fun z hz=>(g z hz).1),wM v (Q.eE hz),R.aGO g]
theorem u6 {n:Nat}{K:List Str} (g:R.Good n K) {j:Nat}{z:Str} (hz:K[j]?=some z):z=R.ofL ((List.range n).map fun (c:Nat)=>R.sg (R.aR K (c:Int) (j:Int))):=by
 obtain ⟨hl,hs⟩:=g z (List.mem_of_getElem? hz)
 have e:z.cps.toList=(List.range n).map fun (c:Nat)=>R.sg (R.aR K (c:Int) (j:Int)):=by
  refine List.ext_getElem? fun c => ?_
  rw [List.getElem?_map]
  by_cases hc:c < n
  ·rw [List.getElem?_range hc,R.cA (by omega)]
   have h2:=R.lH g (List.mem_of_getElem? hz) hc
   rw [Option.map_some,R.eB (z:=z) (c:=R.atS z c) (by omega) (by omega) (by rw [Int.toNat_natCast]; exact hz) (by rw [Int.toNat_natCast]; exact R.cA (by omega))]
   unfold R.sg
   rcases h2 with h2 | h2 <;> rw [h2] <;> rfl
  ·rw [List.getElem?_eq_none (by rw [Array.length_toList]; have:z.cps.size=z.length:=rfl; omega),List.getElem?_eq_none (by simpa using hc)]; rfl
 unfold R.ofL
 rw [← e]
theorem xZ {n:Nat}{K K':List Str} (g:R.Good n K) (g':R.Good n K') (hl:K.length=K'.length) (h:∀ a u:Nat,a < n→u < K.length→R.aR K (a:Int) (u:Int)=R.aR K' (a:Int) (u:Int)):K=K':=by
 refine List.ext_getElem? fun j => ?_
 by_cases hj:j < K.length
 ·have e1:K[j]?=some K[j]:=List.getElem?_eq_getElem hj
  have e2:K'[j]?=some (K'[j]'(by omega)):=List.getElem?_eq_getElem (by omega)
  rw [e1,e2,u6 g e1,u6 g' e2]
  congr 2
  refine List.map_congr_left fun c hc => ?_
  rw [h c j (List.mem_range.mp hc) hj]
 ·rw [List.getElem?_eq_none (by omega),List.getElem?_eq_none (by omega)]
theorem frow {n:Nat}{K:List Str} (g:R.Good n K) (hK:K≠[]) {j:Nat} (hj:j≤K.length+1):(R.framed K)[j]?=some (R.ofL ((List.range n).map fun (c:Nat)=>R.sg (R.aR K (c:Int) ((j:Int) - 1)))):=by
 have hw:=R.cH (fun z hz=>(g z hz).1) hK
 have hd:∀ u:Int,(∀ c:Nat,R.aR K (c:Int) u=false)→R.dots n=R.ofL ((List.range n).map fun (c:Nat)=>R.sg (R.aR K (c:Int) u)):=fun u hu=>by
  unfold R.dots
  congr 1
  refine (List.eq_replicate_iff.mpr ⟨by simp,fun b hb => ?_⟩).symm
  obtain ⟨c,_,rfl⟩:=List.mem_map.mp hb
  rw [hu c]; rfl
 rcases Nat.eq_zero_or_pos j with rfl | hp
 ·rw [R.eY,hw,← hd _ fun c=>R.c6 (by omega)]
 ·obtain ⟨k,rfl⟩:∃ k,j=k+1:=⟨j - 1,by omega⟩
  rw [show (((k+1:Nat):Int) - 1)=(k:Int) by omega]
  by_cases hk:k < K.length
  ·rw [R.cG hk,List.getElem?_eq_getElem hk,← u6 g (List.getElem?_eq_getElem hk)]
  ·have e:k=K.length:=by omega
   rw [e,R.dL,hw,← hd _ fun c=>R.c8 (by omega)]
theorem fcol {n:Nat}{K:List Str} (g:R.Good n K) (hK:K≠[]) (hn:0 < n) {i:Nat} (hi:i≤n+1):(R.framed (R.aE K))[i]?=some (R.ofL ((List.range K.length).map fun (r:Nat)=>R.sg (R.aR K ((i:Int) - 1) (r:Int)))):=by
 rw [R.gA (fun z hz=>(g z hz).1) hK hn hi]
 congr 2
 refine List.ext_getElem? fun r => ?_
 rw [List.getElem?_map,List.getElem?_map]
 by_cases hr:r < K.length
 ·rw [List.getElem?_eq_getElem hr,List.getElem?_range hr,Option.map_some,Option.map_some]
  congr 1
  have e1:K[r]?=some K[r]:=List.getElem?_eq_getElem hr
  have hl:=(g _ (List.getElem_mem hr)).1
  unfold R.pN
  split
  ·rename_i h
   rcases h with rfl | rfl
   ·rw [R.cS (by omega)]; rfl
   ·rw [jJ (fun z hz=>(g z hz).1) (by omega)]; rfl
  ·rename_i h
   have hi':i - 1 < n:=by omega
   have h2:=R.lH g (List.getElem_mem hr) hi'
   rw [show ((i:Int) - 1)=((i - 1:Nat):Int) by omega,R.eB (z:=K[r]) (c:=R.atS K[r] (i - 1)) (by omega) (by omega) (by rw [Int.toNat_natCast]; exact e1) (by rw [Int.toNat_natCast]; exact R.cA (by omega))]
   unfold R.sg
   rcases h2 with h2 | h2 <;> rw [h2] <;> rfl
 ·rw [List.getElem?_eq_none (by omega),List.getElem?_eq_none (by simpa using hr)]; rfl
theorem aCG {n:Nat}{f g:Nat→Bool} (h:some (R.ofL ((List.range n).map fun c=>R.sg (f c)))≠some (R.ofL ((List.range n).map fun c=>R.sg (g c)))):∃ c,c < n∧f c≠g c:=by
 refine Classical.byContradiction fun q=>h ?_
 congr 2
 refine List.map_congr_left fun c hc => ?_
 have:=List.mem_range.mp hc
 have e:f c=g c:=Classical.byContradiction fun z=>q ⟨c,this,z⟩
 rw [e]
theorem uZ {K:List Str}{a b:Nat} (T:Q.Tidy2 K a b) {i:Nat} (hi:i < a):∃ j:Nat,j+1 < b∧R.aR K ((i:Int) - 1) (j:Int)≠R.aR K (i:Int) (j:Int):=by
 rcases T.v with ⟨_,rfl,_⟩ | ⟨hK,t1,t2,g,l,ha,hb⟩
 ·omega
 ·have hm:i∈R.chg (R.aE K):=by rw [t2]; exact List.mem_range.mpr hi
  have lc:=R.b3 (fun z hz=>(g z hz).1) hK
  have hcn:R.aE K≠[]:=fun e=>by rw [e] at lc; simp at lc; omega
  obtain ⟨h1,h2⟩:=(R.eQ hcn).mp hm
  rw [fcol g hK (by omega) (by omega),fcol g hK (by omega) (by omega)] at h2
  obtain ⟨c,hc,hne⟩:=aCG h2
  refine ⟨c,by omega,?_⟩
  rwa [show (((i+1:Nat):Int) - 1)=(i:Int) by omega] at hne
theorem aD8 {K:List Str}{a b:Nat} (T:Q.Tidy2 K a b) {j:Nat} (hj:j < b):∃ i:Nat,i+1 < a∧R.aR K (i:Int) ((j:Int) - 1)≠R.aR K (i:Int) (j:Int):=by
 rcases T.v with ⟨_,_,rfl⟩ | ⟨hK,t1,t2,g,l,ha,hb⟩
 ·omega
 ·have hm:j∈R.chg K:=by rw [t1]; exact List.mem_range.mpr hj
  obtain ⟨h1,h2⟩:=(R.eQ hK).mp hm
  rw [frow g hK (by omega),frow g hK (by omega)] at h2
  obtain ⟨c,hc,hne⟩:=aCG h2
  refine ⟨c,by omega,?_⟩
  rwa [show (((j+1:Nat):Int) - 1)=(j:Int) by omega] at hne
def JX (f:Rat→Rat→Bool) (w:Rat):Prop:=∃ y,∀ x,x < w→∃ x',x≤x'∧x' < w∧f x' y≠f w y
theorem m6 {ws:List Rat} (u:Up ws) {i:Nat} (hi:i < ws.length) {x:Rat} (hx:x < ws[i]) (h:∀ k (hk:k < ws.length),k < i→ws[k]≤x):ix ws x=(i:Int) - 1 :=
 nU u (by omega) (by omega) fun k hk=>by
  constructor
  ·intro h1
   have:=(i3 u hk hi).mp (by grind)
   omega
  ·intro h1
   exact h k hk (by omega)
theorem before {ws:List Rat} (u:Up ws) {i:Nat} (hi:i < ws.length) {x:Rat} (hx:x < ws[i]):∃ x',x≤x'∧x' < ws[i]∧ix ws x'=(i:Int) - 1:=by
 by_cases h0:i=0
 ·subst h0
  exact ⟨x,by grind,hx,m6 u hi hx fun k _ q=>absurd q (Nat.not_lt_zero _)⟩
 ·have hp:i - 1 < ws.length:=by omega
  have hl:=(i3 u hp hi).mpr (by omega)
  have le:∀ k (hk:k < ws.length),k < i→ws[k]≤ws[i - 1]:=fun k hk q=>(jP u hk hp).mpr (by omega)
  by_cases hm:x≤ws[i - 1]
  ·exact ⟨ws[i - 1],hm,hl,m6 u hi hl le⟩
  ·exact ⟨x,by grind,hx,m6 u hi hx fun k hk q=>by have:=le k hk q; grind⟩
theorem still {ws:List Rat} (u:Up ws) {w:Rat} (hw:w ∉ ws):∃ x,x < w∧∀ x',x≤x'→x' < w→ix ws x'=ix ws w:=by
 have a:=p9 ws w
 have b:=qI ws w
 by_cases hk:ix ws w = -1
 ·refine ⟨w - 1,by grind,fun x' h1 h2 => ?_⟩
  rw [hk]
  refine nU u (by omega) (by omega) fun i hi => ?_
  constructor
  ·intro h; have:=(c9 (x:=w) u hi).mp (by grind); omega
  ·intro h; omega
 ·have hi:(ix ws w).toNat < ws.length:=by omega
  have hle:=(c9 (x:=w) u hi).mpr (by omega)
  have hne:ws[(ix ws w).toNat]≠w:=fun e=>hw (e ▸ List.getElem_mem hi)
  refine ⟨ws[(ix ws w).toNat],by grind,fun x' h1 h2 => ?_⟩
  refine nU u a b fun i hi' => ?_
  constructor
  ·intro h; exact (c9 (x:=w) u hi').mp (by grind)
  ·intro h
   have:=(jP u hi' hi).mpr (by omega)
   grind
theorem aBT {ws us:List Rat}{K:List Str} (u:Up ws) (u':Up us) (T:Q.Tidy2 K ws.length us.length) (w:Rat):w∈ws↔JX (inY ws us K) w:=by
 constructor
 ·intro hw
  obtain ⟨i,hi,rfl⟩:=List.getElem_of_mem hw
  obtain ⟨j,hj,hne⟩:=uZ T hi
  refine ⟨us[j],fun x hx => ?_⟩
  obtain ⟨x',h1,h2,h3⟩:=before u hi hx
  refine ⟨x',h1,h2,?_⟩
  unfold inY
  rw [h3,fX u hi,fX u' (by omega)]
  exact hne
 ·rintro ⟨y,h⟩
  refine Classical.byContradiction fun hw => ?_
  obtain ⟨x,hx,hs⟩:=still u hw
  obtain ⟨x',h1,h2,h3⟩:=h x hx
  unfold inY at h3
  rw [hs x' h1 h2] at h3
  exact h3 rfl
theorem aA7 {ws us:List Rat}{K:List Str} (u:Up ws) (u':Up us) (T:Q.Tidy2 K ws.length us.length) (w:Rat):w∈us↔JX (fun y x=>inY ws us K x y) w:=by
 constructor
 ·intro hw
  obtain ⟨j,hj,rfl⟩:=List.getElem_of_mem hw
  obtain ⟨i,hi,hne⟩:=aD8 T hj
  refine ⟨ws[i],fun x hx => ?_⟩
  obtain ⟨x',h1,h2,h3⟩:=before u' hj hx
  refine ⟨x',h1,h2,?_⟩
  unfold inY
  dsimp only
  rw [h3,fX u' hj,fX u (by omega)]
  exact hne
 ·rintro ⟨x,h⟩
  refine Classical.byContradiction fun hw => ?_
  obtain ⟨y,hy,hs⟩:=still u' hw
  obtain ⟨y',h1,h2,h3⟩:=h y hy
  unfold inY at h3
  dsimp only at h3
  rw [hs y' h1 h2] at h3
  exact h3 rfl
theorem aDA {ws us ws' us':List Rat}{K K':List Str} (u:Up ws) (v:Up us) (T:Q.Tidy2 K ws.length us.length) (u':Up ws') (v':Up us') (T':Q.Tidy2 K' ws'.length us'.length)
  (h:∀ x y,inY ws us K x y=inY ws' us' K' x y):ws=ws'∧us=us'∧K=K':=by
 have hf:inY ws us K=inY ws' us' K':=funext fun x=>funext fun y=>h x y
 have e1:ws=ws':=aAZ u u' fun x=>by rw [aBT u v T,aBT u' v' T',hf]
 have e2:us=us':=aAZ v v' fun x=>by rw [aA7 u v T,aA7 u' v' T',hf]
 subst e1 e2
 refine ⟨rfl,rfl,?_⟩
 obtain ⟨g,l⟩:=T.good
 obtain ⟨g',l'⟩:=T'.good
 refine xZ g g' (by omega) fun a b ha hb => ?_
 have:=h ws[a] us[b]
 unfold inY at this
 rwa [fX u (by omega),fX v (by omega)] at this
def aY:List Rat→List Rat→List Rat
 | [],ys=>ys
 | x::xs,[]=>x::xs
 | x::xs,y::ys=>if y < x then y::aY (x::xs) ys else if x=y then x::aY xs ys else x::aY xs (y::ys)
termination_by xs ys=>xs.length+ys.length
theorem nB:∀ xs,aY xs []=xs
 | []=>by rw [aY]
 | x::xs=>by rw [aY]
theorem j7 (ys:List Rat):aY [] ys=ys:=by rw [aY]
theorem bM:∀ (xs ys:List Rat) (a:Rat),a∈aY xs ys↔a∈xs∨a∈ys
 | [],ys,a=>by rw [aY]; simp
 | x::xs,[],a=>by rw [aY]; simp
 | x::xs,y::ys,a=>by
  rw [aY]
  split
  ·rw [List.mem_cons,bM (x::xs) ys a,List.mem_cons (a:=a) (b:=y)]
   constructor
   ·rintro (h | h | h)
    ·exact .inr (.inl h)
    ·exact .inl h
    ·exact .inr (.inr h)
   ·rintro (h | h | h)
    ·exact .inr (.inl h)
    ·exact .inl h
    ·exact .inr (.inr h)
  ·split
   ·rename_i h1 h2
    subst h2
    rw [List.mem_cons,bM xs ys a,List.mem_cons,List.mem_cons]
    constructor
    ·rintro (h | h | h)
     ·exact .inl (.inl h)
     ·exact .inl (.inr h)
     ·exact .inr (.inr h)
    ·rintro ((h | h) | h | h)
     ·exact .inl h
     ·exact .inr (.inl h)
     ·exact .inl h
     ·exact .inr (.inr h)
   ·rw [List.mem_cons,bM xs (y::ys) a,List.mem_cons (a:=a) (b:=x)]
    constructor
    ·rintro (h | h | h)
     ·exact .inl (.inl h)
     ·exact .inl (.inr h)
     ·exact .inr h
    ·rintro ((h | h) | h)
     ·exact .inl h
     ·exact .inr (.inl h)
     ·exact .inr (.inr h)
termination_by xs ys=>xs.length+ys.length
theorem cD:∀ {xs ys:List Rat},xs.Pairwise (· < ·)→ys.Pairwise (· < ·)→(aY xs ys).Pairwise (· < ·)
 | [],ys,_,hy=>by rw [aY]; exact hy
 | x::xs,[],hx,_=>by rw [aY]; exact hx
 | x::xs,y::ys,hx,hy=>by
  obtain ⟨x1,x2⟩:=List.pairwise_cons.mp hx
  obtain ⟨y1,y2⟩:=List.pairwise_cons.mp hy
  rw [aY]
  split
  ·rename_i h
   refine List.pairwise_cons.mpr ⟨fun a ha => ?_,cD hx y2⟩
   rcases (bM _ _ _).mp ha with h1 | h1
   ·rcases List.mem_cons.mp h1 with rfl | h1
    ·exact h
    ·have:=x1 a h1; grind
   ·exact y1 a h1
  ·split
   ·rename_i h1 h2
    subst h2
    refine List.pairwise_cons.mpr ⟨fun a ha => ?_,cD x2 y2⟩
    rcases (bM _ _ _).mp ha with h1 | h1
    ·exact x1 a h1
    ·exact y1 a h1
   ·rename_i h1 h2
    refine List.pairwise_cons.mpr ⟨fun a ha => ?_,cD x2 hy⟩
    rcases (bM _ _ _).mp ha with h3 | h3
    ·exact x1 a h3
    ·rcases List.mem_cons.mp h3 with rfl | h3
     ·grind
     ·have:=y1 a h3; grind
termination_by xs ys=>xs.length+ys.length
theorem fU:∀ (xs ys:List Rat),(aY xs ys).length≤xs.length+ys.length
 | [],ys=>by rw [aY]; simp
 | x::xs,[]=>by rw [aY]; simp
 | x::xs,y::ys=>by
  rw [aY]
  split
  ·have:=fU (x::xs) ys; simp only [List.length_cons] at *; omega
  ·split
   ·have:=fU xs ys; simp only [List.length_cons] at *; omega
   ·have:=fU xs (y::ys); simp only [List.length_cons] at *; omega
termination_by xs ys=>xs.length+ys.length
theorem lX {xs ys:List Rat}{f s:Nat} (hf:f < xs.length) (hs:s < ys.length) :
  aY (xs.drop f) (ys.drop s)=(if ys.getD s 0 < xs.getD f 0 then ys.getD s 0 else xs.getD f 0)::aY (xs.drop (f+if xs.getD f 0=(if ys.getD s 0 < xs.getD f 0 then ys.getD s 0 else xs.getD f 0) then 1 else 0)) (ys.drop (s+if ys.getD s 0=(if ys.getD s 0 < xs.getD f 0 then ys.getD s 0 else xs.getD f 0) then 1 else 0)):=by
 have ex:xs.drop f=xs.getD f 0::xs.drop (f+1):=by rw [List.drop_eq_getElem_cons hf,List.getD_eq_getElem?_getD,List.getElem?_eq_getElem hf]; rfl
 have ey:ys.drop s=ys.getD s 0::ys.drop (s+1):=by rw [List.drop_eq_getElem_cons hs,List.getD_eq_getElem?_getD,List.getElem?_eq_getElem hs]; rfl
 generalize xs.getD f 0=x at *
 generalize ys.getD s 0=y at *
 conv=>lhs; rw [ex,ey,aY]
 by_cases h:y < x
 ·rw [if_pos h,if_pos h,if_neg (show ¬ x=y by grind),if_pos rfl]
  show _=y::aY (xs.drop f) (ys.drop (s+1))
  rw [ex]
 ·rw [if_neg h,if_neg h,if_pos rfl]
  by_cases h2:x=y
  ·rw [if_pos h2,if_pos h2.symm]
  ·rw [if_neg h2,if_neg (fun e=>h2 e.symm)]
   show _=x::aY (xs.drop (f+1)) (ys.drop s)
   rw [ey]
structure Yd where
 ws:List Rat
 us:List Rat
 K:List Str
 uw:Up ws
 uu:Up us
 T:Q.Tidy2 K ws.length us.length
def Yd.has (A:Yd) (x y:Rat):Bool:=inY A.ws A.us A.K x y
theorem Yd.ext' {A B:Yd} (h:∀ x y,A.has x y=B.has x y):A=B:=by
 obtain ⟨ws,us,K,uw,uu,T⟩:=A
 obtain ⟨ws',us',K',uw',uu',T'⟩:=B
 obtain ⟨rfl,rfl,rfl⟩:=aDA uw uu T uw' uu' T' h
 rfl
theorem Yd.wide (A:Yd):(∀ z∈A.K,z.length=A.ws.length - 1)∧A.K.length=A.us.length - 1:=⟨fun z hz=>(A.T.good.1 z hz).1,A.T.good.2⟩
theorem Yd.steps (A:Yd) {xs ys:List Rat} (v:Up xs) (v':Up ys) (hs:∀ w∈A.ws,w∈xs) (hs':∀ w∈A.us,w∈ys):Steps A.has xs ys:=aBN A.uw A.uu A.wide.1 A.wide.2 v v' hs hs'
def Yd.ofG (xs ys:List Rat) (zs:List Str) (u:Up xs) (v:Up ys) (g:R.Good (xs.length - 1) zs) (hz:zs.length=ys.length - 1):Yd where
 ws:=gE xs (R.chg (R.aE zs))
 us:=gE ys (R.chg zs)
 K:=R.bZ zs
 uw:=tV u (R.b5 _) (Q.eF fun z hz=>(g z hz).1)
 uu:=tV v (R.b5 _) (Q.eE hz)
 T:=by
  have:=Q.zA g
  unfold gE
  rw [List.length_map,List.length_map]
  exact this
theorem Yd.ofG_has {xs ys:List Rat}{zs:List Str} (u:Up xs) (v:Up ys) (g:R.Good (xs.length - 1) zs) (hz:zs.length=ys.length - 1) (x y:Rat):(Yd.ofG xs ys zs u v g hz).has x y=R.aR zs (ix xs x) (ix ys y):=aHD u v g hz x y
theorem Yd.ofG_ws {xs ys:List Rat}{zs:List Str} (u:Up xs) (v:Up ys) (g:R.Good (xs.length - 1) zs) (hz:zs.length=ys.length - 1):(∀ w∈(Yd.ofG xs ys zs u v g hz).ws,w∈xs)∧∀ w∈(Yd.ofG xs ys zs u v g hz).us,w∈ys :=
 ⟨sC (Q.eF fun z hz=>(g z hz).1),sC (Q.eE hz)⟩
def Yd.ofF (f:Rat→Rat→Bool) (xs ys:List Rat) (u:Up xs) (v:Up ys):Yd:=Yd.ofG xs ys (iG f xs ys) u v (dJ f xs ys) (eV f xs ys)
theorem Yd.ofF_has {f:Rat→Rat→Bool}{xs ys:List Rat} (u:Up xs) (v:Up ys) (h:Steps f xs ys) (x y:Rat):(Yd.ofF f xs ys u v).has x y=f x y:=by
 unfold Yd.ofF
 rw [Yd.ofG_has,aF5 h]
theorem mgl {ws vs:List Rat}:∀ w∈ws,w∈aY ws vs:=fun w hw=>(bM _ _ _).mpr (.inl hw)
theorem mgr {ws vs:List Rat}:∀ w∈vs,w∈aY ws vs:=fun w hw=>(bM _ _ _).mpr (.inr hw)
def Yd.op (p:Bool→Bool→Bool) (A B:Yd):Yd:=Yd.ofF (fun x y=>p (A.has x y) (B.has x y)) (aY A.ws B.ws) (aY A.us B.us) (cD A.uw B.uw) (cD A.uu B.uu)
theorem Yd.op_has {p:Bool→Bool→Bool} (h0:p false false=false) (A B:Yd) (x y:Rat):(Yd.op p A B).has x y=p (A.has x y) (B.has x y) :=
 Yd.ofF_has _ _ ((A.steps (cD A.uw B.uw) (cD A.uu B.uu) mgl mgl).pick (B.steps (cD A.uw B.uw) (cD A.uu B.uu) mgr mgr) p h0) x y
structure On (Sx Sy:List Rat) (A:Yd):Prop where
 x:∀ w∈A.ws,w∈Sx
 y:∀ w∈A.us,w∈Sy
theorem On.op {Sx Sy:List Rat}{A B:Yd} (a:On Sx Sy A) (b:On Sx Sy B) (p:Bool→Bool→Bool):On Sx Sy (Yd.op p A B) where
 x w hw:=by
  rcases (bM _ _ _).mp ((Yd.ofG_ws (cD A.uw B.uw) (cD A.uu B.uu) (dJ _ _ _) (eV _ _ _)).1 w hw) with h | h
  ·exact a.x w h
  ·exact b.x w h
 y w hw:=by
  rcases (bM _ _ _).mp ((Yd.ofG_ws (cD A.uw B.uw) (cD A.uu B.uu) (dJ _ _ _) (eV _ _ _)).2 w hw) with h | h
  ·exact a.y w h
  ·exact b.y w h
theorem aC7 {ws:List Rat} (u:Up ws):ws.Nodup:=u.imp fun h=>by grind
theorem g8 {ws S:List Rat} (u:Up ws) (h:∀ w∈ws,w∈S):ws.length≤S.length:=(aC7 u).length_le_of_subset h
theorem Yd.void_iff (A:Yd):A.K=[]↔∀ x y,A.has x y=false:=by
 constructor
 ·intro h x y
  unfold Yd.has inY
  rw [h]
  cases e:R.aR [] (ix A.ws x) (ix A.us y) with
  | false=>rfl
  | true=>obtain ⟨_,_,z,hz,_⟩:=R.d9.mp e; cases hz
 ·intro h
  rcases A.T.v with ⟨e,_,_⟩ | ⟨hK,t1,t2,g,l,ha,hb⟩
  ·exact e
  ·exfalso
   obtain ⟨j,hj,hne⟩:=uZ A.T (i:=0) (by omega)
   have:=h (A.ws[0]'(by omega)) (A.us[j]'(by omega))
   unfold Yd.has inY at this
   rw [fX A.uw,fX A.uu] at this
   rw [R.cS (by omega)] at hne
   exact hne this.symm
def Yd.void:Yd:=⟨[],[],[], .nil, .nil,⟨.inl ⟨rfl,rfl,rfl⟩⟩⟩
theorem Yd.void_has (x y:Rat):Yd.void.has x y=false:=(Yd.void_iff _).mp rfl x y
end U
namespace Q
open PySem L2 Z
theorem aEF (p v:Int × Int):eqD (bN p) (bN v)=decide (p=v):=by
 obtain ⟨a,b⟩:=v
 obtain ⟨x,y⟩:=p
 unfold bN
 simp only [eqD,eqDs,Bool.and_true]
 by_cases h1:x=a
 ·by_cases h2:y=b
  ·rw [decide_eq_true (by rw [h1,h2])]; simp [h1,h2]
  ·rw [decide_eq_false (by intro e; injection e with e1 e2; exact h2 e2)]; simp [h2]
 ·rw [decide_eq_false (by intro e; injection e with e1 e2; exact h1 e1)]; simp [h1]
theorem l6 {α:Type} (l:List α):(cutD l (some 1) none).length=l.length - 1:=by rw [qG,List.length_drop]
end Q
namespace PySem
open Builtin
structure ZAp (z TI TO i1 i2:Addr) (fp1 fp2:List Addr):Prop where
 TIz:TI≠z
 TOz:TO≠z
 i1z:i1≠z
 i2z:i2≠z
 TOi1:TO≠i1
 TOi2:TO≠i2
 i12:i1≠i2
 f1:∀ b∈fp1,b≠z∧b≠TO∧b≠i2
 f2:∀ b∈fp2,b≠z∧b≠TO∧b≠i1
section
variable {prog:Program}{w:World}{A:Around}{E:Value→Shared→Prop}{s:Shared}{z TI TO i1 i2:Addr}{fp1 fp2:List Addr}{n1 n2 k:Nat}{P1 P2:Nat→Value→Prop}{S1 S2:Nat→Heap→Prop}{a b:Value}
theorem aAI {Q:Value→Shared→Prop} (D1:Draws prog w A i1 fp1 n1 P1 S1) (D2:Draws prog w A i2 fp2 n2 P2 S2) (ap:ZAp z TI TO i1 i2 fp1 fp2)
  (hz:IsZip s.heap z TI TO .none) (hTI:IsPair s.heap TI (.ref i1) (.ref i2)) (hTO:IsPair s.heap TO a b) (s1:S1 k s.heap) (s2:S2 k s.heap) (l1:k < n1) (l2:k < n2)
  (hQ:∀ x y h' tk,P1 k x→P2 k y→IsZip h' z TI TO (rawInt s.heap.objs.size)→IsPair h' TO x y→S1 (k+1) h'→S2 (k+1) h'→IsPair h' s.heap.objs.size x y→h'.objs.size=s.heap.objs.size+1 →
   (∀ c o,c≠z→c≠TO→c≠i1→c≠i2→s.heap.get? c=some o→h'.get? c=some o)→Q (.ref s.heap.objs.size) { s with heap:=h',toks:=tk }) :
  wpAny (model prog w) A (Builtin.«zip.__next__» ⟨[.ref z],[]⟩) (fun fin s'=>∃ v,fin = .done (.ret v)∧Q v s') E s:=by
 show wpAny _ _ (field (.ref z) 2 >>= _) _ _ _
 refine wpAny_bind (wpAny_field hz rfl (x := .bool false) rfl ?_)
 show wpAny _ _ (field (.ref z) 3 >>= _) _ _ _
 refine wpAny_bind (wpAny_field hz rfl (x := .ref TI) rfl ?_)
 refine wpAny_bind (wpAny_seqItems hTI rfl ?_)
 show wpAny _ _ (Builtin.SmallTypes.ownedTupleIsFree (.ref z) >>= _) _ _ _
 refine wpAny_bind ?_
 unfold Builtin.SmallTypes.ownedTupleIsFree
 refine wpAny_bind (wpAny_field hz rfl (x := .none) rfl (wpAny_pure ?_))
 simp only [if_true]
 refine wpAny_bind (wpAny_rule ?_)
 refine wpAny_bind (wpAny_field hz rfl (x := .ref TO) rfl ?_)
 refine wpAny_bind (wpAny_setField_rec hz (by simp) fun h1 hz1 hs1 => ?_)
 replace hz1:IsZip h1 z TI TO .ellipsis:=hz1
 refine wpAny_bind ?_
 simp only [List.zipIdx_cons,List.zipIdx_nil,List.forIn_cons,List.forIn_nil]
 have k1:∀ c o,c≠z→s.heap.get? c=some o→h1.get? c=some o:=fun c o h e=>hs1.extBut _ _ h e
 refine wpAny_bind (wpAny_bind (wpAny_onRaise ?_))
 show wpAny _ _ (Builtin.SmallTypes.nextOf (.ref i1) >>= _) _ _ _
 refine wpAny_bind (D1.item k _ _ _ l1 (D1.frame _ _ _ s1 fun c hc o e=>k1 c o (ap.f1 c hc).1 e) fun x h2 t2 px st2 hs2=>wpAny_pure ?_)
 have k2:∀ c o,c≠i1→h1.get? c=some o→h2.get? c=some o:=fun c o h e=>hs2.extBut _ _ h e
 have hTO2:IsPair h2 TO a b:=k2 _ _ ap.TOi1 (k1 _ _ ap.TOz hTO)
 refine wpAny_bind (wpAny_seqItems hTO2 rfl ?_)
 refine wpAny_bind (wpAny_updateSeq_pair hTO2 fun h3 hTO3 hs3 => ?_)
 replace hTO3:IsPair h3 TO x b:=hTO3
 have k3:∀ c o,c≠TO→h2.get? c=some o→h3.get? c=some o:=fun c o h e=>hs3.extBut _ _ h e
 refine wpAny_bind (wpAny_letGo (wpAny_pure ?_))
 refine wpAny_bind (wpAny_bind (wpAny_onRaise ?_))
 show wpAny _ _ (Builtin.SmallTypes.nextOf (.ref i2) >>= _) _ _ _
 refine wpAny_bind (D2.item k _ _ _ l2 (D2.frame _ _ _ s2 fun c hc o e=>k3 c o (ap.f2 c hc).2.1 (k2 c o (ap.f2 c hc).2.2 (k1 c o (ap.f2 c hc).1 e))) fun y h4 t4 py st4 hs4=>wpAny_pure ?_)
 have k4:∀ c o,c≠i2→h3.get? c=some o→h4.get? c=some o:=fun c o h e=>hs4.extBut _ _ h e
 have hTO4:IsPair h4 TO x b:=k4 _ _ ap.TOi2 hTO3
 refine wpAny_bind (wpAny_seqItems hTO4 rfl ?_)
 refine wpAny_bind (wpAny_updateSeq_pair hTO4 fun h5 hTO5 hs5 => ?_)
 replace hTO5:IsPair h5 TO x y:=hTO5
 have k5:∀ c o,c≠TO→h4.get? c=some o→h5.get? c=some o:=fun c o h e=>hs5.extBut _ _ h e
 refine wpAny_bind (wpAny_letGo (wpAny_pure (wpAny_pure ?_)))
 refine wpAny_bind (wpAny_seqItems hTO5 rfl ?_)
 refine wpAny_bind (wpAny_newTuple ?_)
 have hsz:h5.objs.size=s.heap.objs.size:=by rw [hs5.1,hs4.1,hs3.1,hs2.1,hs1.1]
 have hz5:IsZip h5 z TI TO .ellipsis:=k5 _ _ ap.TOz.symm (k4 _ _ ap.i2z.symm (k3 _ _ ap.TOz.symm (k2 _ _ ap.i1z.symm hz1)))
 have hzlt:z < h5.objs.size:=Heap.lt_size hz5
 show wpAny _ _ (Builtin.SmallTypes.ownedTupleHandOut (.ref z) (.ref h5.objs.size) >>= _) _ _ _
 refine wpAny_bind ?_
 unfold Builtin.SmallTypes.ownedTupleHandOut
 have hz6:IsZip (h5.push { cls := .type "tuple", data := .seq #[x,y] }) z TI TO .ellipsis:=Heap.get?_push_of_some _ hz5
 refine wpAny_bind (wpAny_setField_rec hz6 (by simp) fun h7 hz7 hs7 => ?_)
 replace hz7:IsZip h7 z TI TO (rawInt h5.objs.size):=hz7
 refine wpAny_setField_rec hz7 (by simp) fun h8 hz8 hs8 => ?_
 replace hz8:IsZip h8 z TI TO (rawInt h5.objs.size):=hz8
 have up:∀ c o,c≠z→h5.get? c=some o→h8.get? c=some o:=fun c o c1 e=>hs8.extBut _ _ c1 (hs7.extBut _ _ c1 (Heap.get?_push_of_some _ e))
 have hT8:IsPair h8 h5.objs.size x y:=hs8.extBut _ _ (Nat.ne_of_gt hzlt) (hs7.extBut _ _ (Nat.ne_of_gt hzlt) (Heap.get?_push_size _ rfl))
 have sz8:h8.objs.size=h5.objs.size+1:=by rw [hs8.1,hs7.1,Heap.size_push]
 rw [hsz] at hz8 hT8 sz8
 refine wpAny_pure ⟨_,rfl,?_⟩
 show Q (.ref h5.objs.size) _
 rw [hsz]
 refine hQ x y h8 _ px py hz8 (up _ _ ap.TOz hTO5) (D1.frame _ _ _ st2 fun c hc o e=>up c o (ap.f1 c hc).1 (k5 c o (ap.f1 c hc).2.1 (k4 c o (ap.f1 c hc).2.2 (k3 c o (ap.f1 c hc).2.1 e))))
  (D2.frame _ _ _ st4 fun c hc o e=>up c o (ap.f2 c hc).1 (k5 c o (ap.f2 c hc).2.1 e)) hT8 sz8 fun c o c1 c2 c3 c4 e=>up c o c1 (k5 c o c2 (k4 c o c4 (k3 c o c2 (k2 c o c3 (k1 c o c1 e)))))
theorem vS {Q:Option Value→Shared→Prop} (D1:Draws prog w A.in1 i1 fp1 n1 P1 S1) (D2:Draws prog w A.in1 i2 fp2 n2 P2 S2) (ap:ZAp z TI TO i1 i2 fp1 fp2)
  (hz:IsZip s.heap z TI TO .none) (hTI:IsPair s.heap TI (.ref i1) (.ref i2)) (hTO:IsPair s.heap TO a b) (s1:S1 k s.heap) (s2:S2 k s.heap) (l1:k < n1) (l2:k < n2)
  (hQ:∀ x y h' tk,P1 k x→P2 k y→IsZip h' z TI TO (rawInt s.heap.objs.size)→IsPair h' TO x y→S1 (k+1) h'→S2 (k+1) h'→IsPair h' s.heap.objs.size x y→h'.objs.size=s.heap.objs.size+1 →
   (∀ c o,c≠z→c≠TO→c≠i1→c≠i2→s.heap.get? c=some o→h'.get? c=some o)→Q (some (.ref s.heap.objs.size)) { s with heap:=h',toks:=tk }) :
  wpAny (model prog w) A (pyNext (.ref z)) Q E s:=by
 have hT:s.TypeIs (.ref z) "zip" := ⟨_,hz,rfl⟩
 unfold pyNext
 exact wpAny_bind (wpAny_attempt (wpAny_callSpecial?_slot (name:=Str.ofString "__next__") hT F.slot_zip_next
  (wpAny_call_entry F.slot_zip_next hT F.entry_zip_next
   (aAI D1 D2 ap hz hTI hTO s1 s2 l1 l2 fun x y h' tk a0 a1 a2 a3 a4 a5 a6 a7 a8=>wpAny_pure (hQ x y h' tk a0 a1 a2 a3 a4 a5 a6 a7 a8)) (F.args_zip_next_1 _))))
end
end PySem
namespace PySem
open PyProof.Rows
section
variable {prog:Program}{w:World}{A:Around}{E:Value→Shared→Prop}{s:Shared}
end
end PySem
namespace L2
open PySem PySem.Spec PyProof.Rows
section
variable {X:Cx}
theorem aF7 (n:Nat):ZAp (n+4) (n+2) (n+3) n (n+1) [n] [n+1] :=
  ⟨Nat.ne_of_lt (Nat.add_lt_add_left (by decide) n),Nat.ne_of_lt (Nat.add_lt_add_left (by decide) n),Nat.ne_of_lt (Nat.lt_add_of_pos_right (by decide)),Nat.ne_of_lt (Nat.add_lt_add_left (by decide) n),Nat.ne_of_gt (Nat.lt_add_of_pos_right (by decide)),Nat.ne_of_gt (Nat.add_lt_add_left (by decide) n),Nat.ne_of_lt (Nat.lt_add_of_pos_right (by decide)),
   fun b hb=>by rw [List.mem_singleton] at hb; subst hb; exact ⟨Nat.ne_of_lt (Nat.lt_add_of_pos_right (by decide)),Nat.ne_of_lt (Nat.lt_add_of_pos_right (by decide)),Nat.ne_of_lt (Nat.lt_add_of_pos_right (by decide))⟩,
   fun b hb=>by rw [List.mem_singleton] at hb; subst hb; exact ⟨Nat.ne_of_lt (Nat.add_lt_add_left (by decide) n),Nat.ne_of_lt (Nat.add_lt_add_left (by decide) n),Nat.ne_of_gt (Nat.lt_add_of_pos_right (by decide))⟩⟩
theorem aDN (n:Nat):n+2≠n+3∧n+2≠n∧n+2≠n+1:=⟨by omega,by omega,by omega⟩
end
end L2
namespace Z
open PySem L2
section
variable {X:Cx}{Γ:Gm}{M:Mem}{k:D→Mem→Prop}{pos:Pos}{a b:Expr}{rest:List Expr}
def zipD (xs ys:List D):List D:=(xs.zip ys).map fun p => .tup [p.1,p.2]
end
end Z
namespace L2
open PySem PySem.Spec PyProof.Rows
section
variable {X:Cx}
theorem gY {h:Heap}{a b:Addr}{its:Array Value}{o:Obj} (hl:h.IsList a its) (ho:h.get? b=some o) (hc:o.cls ≠ .type "list"):a≠b:=fun z=>by
 obtain ⟨o1,e1,c1,_⟩:=hl
 rw [z,ho] at e1; cases e1
 exact hc c1
end
end L2
namespace Z
open PySem L2
section
variable {X:Cx}{Γ:Gm}{M:Mem}{k:D→Mem→Prop}{pos:Pos}{a b:Expr}{rest:List Expr}
end
end Z
namespace Q
open PySem L2 Z
theorem dB {α:Type} (l:List α) (n:Nat) (h:n≤l.length):cutD l (some (n:Int)) none=l.drop n:=by
 unfold cutD
 rw [HT.aD6,show HT.sIx l.length 0 (some (n:Int))=min n l.length from HT.qS _ _ n,Nat.min_eq_left h]
 exact List.take_of_length_le (by rw [List.length_drop]; exact Nat.le_refl _)
end Q
namespace Z
open PySem L2
theorem mO {X:Cx}{e:Expr}{Γ:Gm}{M:Mem}{P k:D→Mem→Prop} (h:GE X e Γ M P) (hk:∀ d M1,P d M1→k d M1):GE X e Γ M k:=fun σ G H Q en rl q=>h σ G H Q en rl fun v G' H' d M' s ed hp=>q v G' H' d M' s ed (hk d M' hp)
end Z
namespace Q
open PySem L2 Z
end Q
namespace L2
open PySem PySem.Spec PyProof.Rows
def aH6 (K:PySem.W.Frag) (J:It) (cap:List Nat) (tt:TT) (te:TE) (σ:St) (H1:Hp) (Q:VK) (D:Addr):Prop:=∃ W:Nat→Nat→List V→Hp→Prop,(∃ m,W 0 m [] (upd H1 D (.lst [])))∧∀ i m ys H2,W i m ys H2 →
 H2 D=some (.lst ys)∧((J.stop i H2∧Q (.ref D) H2)∨(J.go i H2∧ys.length < sizeLine∧∀ x H3,J.yld i H2 x H3→∃ p a b,x = .ref p∧SqT K H3 p [a,b] ∧
  tt (some a::some b::cap.map fun k=>(σ[k]?).join) H3 fun c H4=>if c=true then te (some a::some b::cap.map fun k=>(σ[k]?).join) H4 fun y H5=>H5 D=some (.lst ys)∧∃ m',m' < m∧W (i+1) m' (ys++[y]) (upd H5 D (.lst (ys++[y])))
   else ∃ m',m' < m∧W (i+1) m' ys H4))
def p7 (K:PySem.W.Frag) (wi:TI) (cap:List Nat) (tt:TT) (te:TE):TE:=fun σ H Q=>wi σ H fun J H1=>∀ D,H1 D=none→aH6 K J cap tt te σ H1 Q D
theorem yK {X:Cx}{x1 x2:Str}{px1 px2 tp pos:Pos}{kk:Nat}{iter elt:Expr}{ifs:List Expr}{scope:Scope}{ns:List Str}{cap:List Nat}{wi:TI}{tt:TT}{te:TE} (hc:X.calm=true) (hkind:scope.kind = .function)
  (hnames:∀ y∈scope.names,y.2 = .local→scope.names.lookup y.1=some .local) (hx1:Loc (relabel scope X.env) x1) (hxf1:scope.names.lookup x1=some .cell∨(relabel scope X.env).names.lookup x1=some .local) (hx2:Loc (relabel scope X.env) x2) (hxf2:scope.names.lookup x2=some .cell∨(relabel scope X.env).names.lookup x2=some .local)
  (hNc:(x1::x2::ns).Nodup) (hlen:cap.length=ns.length) (hcap:∀ (j k:Nat) (nm:Str),cap[j]?=some k→ns[j]?=some nm→X.N[k]?=some nm∧(X.env.scope.names.lookup nm=some .cell∨X.env.scope.names.lookup nm=some .free))
  (hns:∀ nm∈ns,(nm,NameKind.free)∈scope.names∧(nm,NameKind.cell) ∉ scope.names) (hnsk:∀ nm∈ns,scope.names.lookup nm=some .free) (hfree:∀ y∈scope.names,y.2 = .free→X.env.scope.names.lookup y.1=some .cell∨X.env.scope.names.lookup y.1=some .free)
  (hi:PI X (.Tuple [.Name x1 px1, .Name x2 px2] kk tp) iter wi)
  (ht:∀ cs C s₀ H₀ fp,PIf (aS X scope cs C (x1::x2::ns) s₀ H₀ fp) ifs tt) (he:∀ cs C s₀ H₀ fp,PE (aS X scope cs C (x1::x2::ns) s₀ H₀ fp) elt te)
  (hs:∀ v,foldedSetIterable iter X.env v=pure v:=by intro _; rfl)
  {use:Option (Value→Sem Unit)}{Q':Value→Shared→Prop}{pins:List (Addr × Obj)}{s:Shared}{σ:St}{H:Hp}{Q:VK}{ip:Pos} (I:Inv X pins σ H s) (h:p7 X.K wi cap tt te σ H Q)
  (hfin:∀ (D C:Addr) (H':Hp) (s':Shared),Inv X pins σ H' s'→Q (.ref D) H'→(∃ m,s'.heap.Ns C m)→CFree X pins H' C→compPost (model X.prog X.w) X.A X.xe use Q' (.ref D) C (.ok .next) s') :
  wpAny (model X.prog X.w) X.A (comprehension (.ListComp elt [⟨.Tuple [.Name x1 px1, .Name x2 px2] kk tp,iter,ifs,0⟩] scope pos) scope X.env ip (newList []) false (eval iter X.env) use) Q' X.xe s:=by
 obtain ⟨cl,ecl,cl1,cl2⟩:=mI (scope:=scope) (env:=X.env) fun n hn=>I.ok.has n (hfree (n, .free) hn rfl)
 refine wpAny_comprehension_free (use:=use) rfl hs ecl hkind hnames (thn (hi pins s σ H _ I h) fun xv s1 h1=>thn h1 fun itv s2 h2 => ?_)
 obtain ⟨it,fp,tn,J,H2,rfl,I2,T,st2,f2,q⟩:=h2
 have hD:H2 s2.heap.objs.size=none:=I2.fresh
 obtain ⟨W,⟨m0,w0⟩,step⟩:=q s2.heap.objs.size hD
 refine wpAny_newObj_type ?_ (by show 0≤sizeLine; exact Nat.zero_le _)
 have I3:Inv X pins σ (upd H2 s2.heap.objs.size (.lst [])) { s2 with heap:=s2.heap.push { cls := .type "list", data := .seq ([]:List Value).toArray } } :=
  I2.laid (t':=s2.toks) (fun b u e=>Heap.get?_push_of_some _ e) (Nat.le_refl _) ⟨Nat.zero_le _,[],0, .nil,Heap.get?_push_size _ rfl⟩
 have sz3:(s2.heap.push { cls := .type "list", data := .seq ([]:List Value).toArray }).objs.size=s2.heap.objs.size+1:=Heap.size_push ..
 have hfp3:∀ b∈fp,∀ o,(upd H2 s2.heap.objs.size (.lst [])) b≠some o:=fun b hb o z=>by
  obtain ⟨ob,e,_⟩:=T.obj 0 _ st2 b hb
  rw [aW (Nat.ne_of_lt (Heap.lt_size e)),(f2 b hb).1] at z
  cases z
 revert I3 sz3 w0 step hfp3
 generalize upd H2 s2.heap.objs.size (.lst [])=H3
 generalize hs3:({ s2 with heap:=s2.heap.push { cls := .type "list", data := .seq ([]:List Value).toArray } }:Shared)=s3
 intro step w0 I3 sz3 hfp3
 have st3:tn 0 s3.heap:=T.keep 0 _ _ st2 fun b _ o e=>by rw [← hs3]; exact Heap.get?_push_of_some _ e
 have fpLt:∀ b∈fp,b < s3.heap.objs.size:=fun b hb=>by
  obtain ⟨o,e,_⟩:=T.obj 0 _ st3 b hb
  exact Heap.lt_size e
 refine o5 ?_
 have new:CellsOk (pushCells (s3.heap.push { cls := .type "dict", data := .dict #[] }) scope.names) (s3.heap.objs.size+1) (cellsFrom (s3.heap.objs.size+1) scope.names []):=by
  have ok:=cellsFrom_ok scope.names (s3.heap.push { cls := .type "dict", data := .dict #[] }) (s3.heap.objs.size+1) [] ⟨fun _ _ hm=>(nomatch hm),List.Pairwise.nil⟩ (by rw [Heap.size_push]; exact Nat.le_refl _)
  rw [Heap.size_push] at ok
  exact ok
 have keep4:∀ b o,s3.heap.get? b=some o→(pushCells (s3.heap.push { cls := .type "dict", data := .dict #[] }) scope.names).get? b=some o:=fun b o e=>pushCells_keeps _ _ b o (Heap.get?_push_of_some _ e)
 have nsC:(pushCells (s3.heap.push { cls := .type "dict", data := .dict #[] }) scope.names).Ns s3.heap.objs.size (fun _=>none):=(Heap.Ns.new s3.heap (.type "dict")).keeps (pushCells_keeps _ _)
 have lk:∀ y c,(cellsFrom (s3.heap.objs.size+1) scope.names cl).lookup y=some c→((y,c)∈cellsFrom (s3.heap.objs.size+1) scope.names []∧(y,NameKind.cell)∈scope.names)∨(cl.lookup y=some c∧X.env.cells.lookup y=some c):=fun y c e=>by
  rw [d8,eX] at e
  cases z:(cellsFrom (s3.heap.objs.size+1) scope.names []).lookup y with
  | some c' =>
   rw [z] at e
   have e':c'=c:=Option.some.inj e
   subst e'
   have hm:=PySem.mem_of_lookup z
   rcases k7 _ _ _ hm with q | q
   ·exact .inl ⟨hm,q⟩
   ·cases q
  | none=>rw [z] at e; exact .inr ⟨e,cl1 y c e⟩
 have oldLt:∀ y c,X.env.cells.lookup y=some c→c < s3.heap.objs.size:=fun y c e=>by
  obtain ⟨v,z⟩:=I3.cell y c e
  exact z.lt
 have hlk2:∀ nm∈ns,∃ c,(cellsFrom (s3.heap.objs.size+1) scope.names cl).lookup nm=some c∧X.env.cells.lookup nm=some c:=fun nm hnm=>by
  obtain ⟨h1,h2⟩:=hns nm hnm
  obtain ⟨c,e⟩:=cl2 nm h1
  refine ⟨c,?_,cl1 nm c e⟩
  rw [d8,eX]
  cases z:(cellsFrom (s3.heap.objs.size+1) scope.names []).lookup nm with
  | some c' =>
   rcases k7 _ _ _ (PySem.mem_of_lookup z) with q | q
   ·exact absurd q h2
   ·cases q
  | none=>exact e
 show codeAny (model X.prog X.w) X.A (.compStart (.ListComp elt [⟨.Tuple [.Name x1 px1, .Name x2 px2] kk tp,iter,ifs,0⟩] scope pos) 0 (.ref it) (.ref s2.heap.objs.size) (aS X scope (cellsFrom (s3.heap.objs.size+1) scope.names cl) s3.heap.objs.size (x1::x2::ns) s3 H3 fp).env) (compPost (model X.prog X.w) X.A X.xe use Q' (.ref s2.heap.objs.size) s3.heap.objs.size) { s3 with heap:=pushCells (s3.heap.push { cls := .type "dict", data := .dict #[] }) scope.names }
 have ht':=ht (cellsFrom (s3.heap.objs.size+1) scope.names cl) s3.heap.objs.size s3 H3 fp
 have he':=he (cellsFrom (s3.heap.objs.size+1) scope.names cl) s3.heap.objs.size s3 H3 fp
 have OK:(aS X scope (cellsFrom (s3.heap.objs.size+1) scope.names cl) s3.heap.objs.size (x1::x2::ns) s3 H3 fp).Ok:=by
  refine ⟨I3.ok.mod,hkind,I3.ok.glob,I3.ok.blt,Nat.le_refl _,fun y z c e1 e2 => ?_,fun y hy => ?_,fun y c hf e => ?_,fun _=>I3.ok.hd hc,I3.ok.frames, .inl rfl,fun b hb=>⟨Nat.ne_of_lt (fpLt b hb),fun y c e => ?_⟩,I3.bs,Nat.le_trans I3.ok.bsz I3.sz,fun b o e hb => ?_,fun b hb hm => ?_,I3.stack,I3.stkFree⟩
  ·rcases lk y c e1 with ⟨a1,_⟩ | ⟨a1,a2⟩ <;> rcases lk z c e2 with ⟨b1,_⟩ | ⟨b1,b2⟩
   ·exact name_of_addr new.apart a1 b1
   ·exact absurd (Nat.lt_of_lt_of_le (oldLt z c b2) (Nat.le_of_succ_le (new.empty y c a1).2)) (Nat.lt_irrefl _)
   ·exact absurd (Nat.lt_of_lt_of_le (oldLt y c a2) (Nat.le_of_succ_le (new.empty z c b1).2)) (Nat.lt_irrefl _)
   ·exact I3.ok.inj y z c a2 b2
  ·have key:scope.names.lookup y=some .cell∨scope.names.lookup y=some .free:=by
    rcases hy with hy | hy
    ·rcases cY (env:=X.env) (names:=scope.names) hy with q | ⟨q,_⟩
     ·exact .inl q
     ·exact .inr q
    ·rcases cY (env:=X.env) (names:=scope.names) hy with q | ⟨q,_⟩
     ·exact .inr q
     ·exact .inr q
   rcases key with q | q
   ·exact Option.isSome_iff_exists.mp (PySem.W.cellsFrom_some scope.names (s3.heap.objs.size+1) cl (.inl q))
   ·obtain ⟨c,e⟩:=cl2 y (PySem.mem_of_lookup q)
    exact Option.isSome_iff_exists.mp (PySem.W.cellsFrom_some scope.names (s3.heap.objs.size+1) cl (.inr (by rw [e]; rfl)))
  ·have hf':scope.names.lookup y=some .cell:=by
    have hf0:(scope.names.lookup y == some .cell)=true:=hf
    simpa using hf0
   have e':(cellsFrom (s3.heap.objs.size+1) scope.names cl).lookup y=some c:=e
   have e0:=Option.isSome_iff_exists.mp (PySem.W.cellsFrom_some scope.names (s3.heap.objs.size+1) [] (.inl hf'))
   obtain ⟨c',z⟩:=e0
   rw [d8,eX,z] at e'
   cases e'
   exact Nat.le_of_succ_le (new.empty y c (PySem.mem_of_lookup z)).2
  ·rcases lk y c e with ⟨a1,_⟩ | ⟨a1,a2⟩
   ·exact fun z=>absurd (Nat.lt_of_lt_of_le (fpLt b hb) (z ▸ Nat.le_of_succ_le (new.empty y c a1).2)) (Nat.lt_irrefl _)
   ·exact (f2 b hb).2.2.2.2.1 y c a2
  ·rcases (f2 b hb).2.2.2.1 with z | z
   ·exact I3.ok.noex b o e z
   ·exact absurd (Nat.lt_of_lt_of_le (Heap.lt_size (I3.ok.bs b o e).1) z) (Nat.lt_irrefl _)
  ·rcases List.mem_cons.mp (I3.stkSub b hm) with z | z
   ·exact (f2 b hb).2.1 z
   ·exact (f2 b hb).2.2.1 z
 have IY:Inv (aS X scope (cellsFrom (s3.heap.objs.size+1) scope.names cl) s3.heap.objs.size (x1::x2::ns) s3 H3 fp) [] (none::none::cap.map fun k=>(σ[k]?).join) H3 { s3 with heap:=pushCells (s3.heap.push { cls := .type "dict", data := .dict #[] }) scope.names }:=by
  refine ⟨OK,rfl,I3.bare,Un.kept keep4,⟨_,nsC,fun i nm v e1 e2 e3 => ?_⟩,fun y c e => ?_,I3.fresh,fun y c e => ?_,fun p hp=>absurd (show p∈([]:List (Addr × Obj)) from hp) (by simp),I3.hok.kept keep4,by simp [aS,hlen]⟩
  ·cases i with
   | zero=>cases e2
   | succ i' =>
   cases i' with
   | zero=>cases e2
   | succ j =>
    have e1':ns[j]?=some nm:=e1
    have e2':(cap.map fun k=>(σ[k]?).join)[j]?=some (some v):=e2
    rw [List.getElem?_map] at e2'
    cases hk:cap[j]? with
    | none=>rw [hk] at e2'; cases e2'
    | some k =>
     rw [hk] at e2'
     have e2'':(σ[k]?).join=some v:=Option.some.inj e2'
     have e4:σ[k]?=some (some v):=by
      cases z:σ[k]? with
      | none=>rw [z] at e2''; cases e2''
      | some o=>rw [z] at e2''; exact congrArg some e2''
     obtain ⟨hN,hcell⟩:=hcap j k nm hk e1'
     obtain ⟨m,_,hl⟩:=I3.loc
     obtain ⟨u,r,l⟩:=hl k nm v hN e4 (.inr hcell)
     refine ⟨u,r,?_⟩
     rcases l with ⟨l1,_⟩ | ⟨_,c,ec,z⟩
     ·have l1':X.env.scope.names.lookup nm=some .local:=l1
      rcases hcell with q | q <;> rw [q] at l1' <;> cases l1'
     ·obtain ⟨c',g1,g2⟩:=hlk2 nm (List.mem_of_getElem? e1')
      rw [ec] at g2
      cases g2
      refine .inr ⟨?_,c,g1,?_⟩
      ·rcases e3 with q | q
       ·rcases cY (env:=X.env) (names:=scope.names) q with w1 | ⟨_,w1⟩
        ·exfalso
         have hmem:=(hns nm (List.mem_of_getElem? e1')).1
         have:=hnames (nm, .local) (PySem.mem_of_lookup w1) rfl
         -- a name has one kind in a scope: its cell is known,so it is not local here
         exact absurd (I3.ok.has nm (hfree (nm, .free) hmem rfl)) (fun _=>by
          have hk2:=(hnsk nm (List.mem_of_getElem? e1'))
          rw [w1] at hk2; cases hk2)
        ·cases w1
       ·exact q
      ·obtain ⟨o,ho,hd⟩:=z
       exact ⟨o,keep4 c o ho,hd⟩
  ·rcases lk y c e with ⟨a1,_⟩ | ⟨a1,a2⟩
   ·exact ⟨none,(new.empty y c a1).1⟩
   ·obtain ⟨v,o,ho,hd⟩:=I3.cell y c a2
    exact ⟨v,o,keep4 c o ho,hd⟩
  ·rcases lk y c e with ⟨a1,_⟩ | ⟨a1,a2⟩
   ·exact I3.hok.fresh (Nat.le_of_succ_le (new.empty y c a1).2)
   ·exact I3.freeC y c a2
 -- what is reached at the end
 have fin:∀ {σ':St}{H':Hp}{s':Shared},Inv (aS X scope (cellsFrom (s3.heap.objs.size+1) scope.names cl) s3.heap.objs.size (x1::x2::ns) s3 H3 fp) [] σ' H' s'→Q (.ref s2.heap.objs.size) H' →
   compPost (model X.prog X.w) X.A X.xe use Q' (.ref s2.heap.objs.size) s3.heap.objs.size (.ok .next) s':=fun {σ' H' s'} J qd=>by
  obtain ⟨m',hn',_⟩:=J.loc
  have hCn:H' s3.heap.objs.size=none:=J.free
  refine hfin _ _ H' s' (I3.call' (ch:=fp) J.os J.base J.hok J.bare fun b hb=>⟨(f2 b hb).2.2.2.1,(f2 b hb).2.1,(f2 b hb).2.2.2.2.1,(f2 b hb).2.2.2.2.2⟩) qd ⟨m',hn'⟩ ⟨hCn,Nat.ne_of_gt I3.lt,I3.sz,fun y c e=>Nat.ne_of_lt (oldLt y c e),fun p hp=>Nat.ne_of_lt (Heap.lt_size (I3.pin p hp).1)⟩
 have fpY:∀ {H':Hp},(∀ b∈fp,H' b=none)→∀ b∈fp,FpOk (aS X scope (cellsFrom (s3.heap.objs.size+1) scope.names cl) s3.heap.objs.size (x1::x2::ns) s3 H3 fp) [] H' b:=fun {H'} hn b hb =>
  ⟨hn b hb,(OK.exf b hb).1,OK.exfs b hb, .inl hb,(OK.exf b hb).2,fun p hp=>absurd (show p∈([]:List (Addr × Obj)) from hp) (by simp)⟩
 have st4:tn 0 (pushCells (s3.heap.push { cls := .type "dict", data := .dict #[] }) scope.names):=T.keep 0 _ _ st3 fun b _ o e=>keep4 b o e
 have fr3:∀ b∈fp,H3 b=none:=fun b hb=>by
  cases z:H3 b with
  | none=>rfl
  | some o=>exact absurd rfl (fun _:(1:Nat)=1=>hfp3 b hb o z)
 have loop:codeAny (model X.prog X.w) X.A (.compLoop (.ListComp elt [⟨.Tuple [.Name x1 px1, .Name x2 px2] kk tp,iter,ifs,0⟩] scope pos) 0 (.ref it) (.ref s2.heap.objs.size) (aS X scope (cellsFrom (s3.heap.objs.size+1) scope.names cl) s3.heap.objs.size (x1::x2::ns) s3 H3 fp).env) (compPost (model X.prog X.w) X.A X.xe use Q' (.ref s2.heap.objs.size) s3.heap.objs.size) { s3 with heap:=pushCells (s3.heap.push { cls := .type "dict", data := .dict #[] }) scope.names }:=by
  refine mU (fun n s'=>∃ i ys o1 o2 H',Inv (aS X scope (cellsFrom (s3.heap.objs.size+1) scope.names cl) s3.heap.objs.size (x1::x2::ns) s3 H3 fp) [] (o1::o2::cap.map fun k=>(σ[k]?).join) H' s'∧tn i s'.heap∧(∀ b∈fp,H' b=none)∧W i n ys H') ?_ m0 ⟨0,[],none,none,H3,IY,st4,fr3,w0⟩
  rintro n s5 ⟨i,ys,o1,o2,H5,I5,st5,fr5,w5⟩
  obtain ⟨eD,alt⟩:=step i n ys H5 w5
  rcases alt with ⟨stop,qd⟩ | ⟨go,hz,turn⟩
  ·refine thn (T.done (aS X scope (cellsFrom (s3.heap.objs.size+1) scope.names cl) s3.heap.objs.size (x1::x2::ns) s3 H3 fp) rfl rfl rfl hc i [] s5 _ H5 (fun _ _=>False) I5 (fpY fr5) st5 stop) fun r s6 ⟨hr,I6⟩ => ?_
   subst hr
   exact fin I6 qd
  ·refine thn (T.item (aS X scope (cellsFrom (s3.heap.objs.size+1) scope.names cl) s3.heap.objs.size (x1::x2::ns) s3 H3 fp) rfl rfl rfl hc i [] s5 _ H5 (fun _ _=>False) I5 (fpY fr5) st5 go) fun r s6 ⟨u,hr,h6⟩ => ?_
   subst hr
   refine thn h6 fun _ s7 ⟨xv',H7,I7,r7,y7,st7,fr7⟩ => ?_
   have I7':=I7.pinned (fpY fr7) (T.obj _ _ st7)
   obtain ⟨pv,xa,xb,ex,sq,turn'⟩:=turn xv' _ y7
   have fnx:∀ {x:Str},(scope.names.lookup x=some .cell∨(relabel scope X.env).names.lookup x=some .local)→(aS X scope (cellsFrom (s3.heap.objs.size+1) scope.names cl) s3.heap.objs.size (x1::x2::ns) s3 H3 fp).fn x=true∨(relabel scope X.env).names.lookup x=some .local:=fun h=>h.elim (fun z => .inl (by show (scope.names.lookup _ == some .cell)=true; rw [z]; rfl)) .inr
   have hst:PG (aS X scope (cellsFrom (s3.heap.objs.size+1) scope.names cl) s3.heap.objs.size (x1::x2::ns) s3 H3 fp) (.Tuple [.Name x1 px1, .Name x2 px2] kk tp) (gTup X.K 2 (yV (lJ 0) (yV (lJ 1) gNil))):=zY hc (pD (oH hNc rfl hx1 (fnx hxf1)) (pD (oH hNc rfl hx2 (fnx hxf2)) wW rfl) rfl) rfl rfl
   refine thn (hst _ s7 _ H7 xv' u (fun σ8 H8=>σ8=(some xa::some xb::cap.map fun k=>(σ[k]?).join)∧H8=H7) I7' r7 ⟨pv,[xa,xb],ex,sq,rfl,_,_,rfl,_,_,rfl,rfl,rfl,rfl⟩) fun _ s8 ⟨σ8,H8,I8,e8,e8'⟩ => ?_
   subst e8 e8'
   have back:∀ {σ9:St}{H9:Hp}{s9:Shared},Inv (aS X scope (cellsFrom (s3.heap.objs.size+1) scope.names cl) s3.heap.objs.size (x1::x2::ns) s3 H3 fp) ([]++lF fp s7.heap) σ9 H9 s9→tn (i+1) s9.heap∧∀ b∈fp,H9 b=none:=fun {σ9 H9 s9} I9=>by
    refine ⟨T.keep _ _ _ st7 fun b hb o e=>(I9.pin (b,o) (List.mem_append_right _ (List.mem_append_right _ (fT hb e)))).1,fun b hb => ?_⟩
    obtain ⟨o,e,d⟩:=T.obj _ _ st7 b hb
    exact (I9.pin (b,o) (List.mem_append_right _ (List.mem_append_right _ (fT hb e)))).2.1
   refine thn (ht' _ s8 _ _ _ I8 turn') fun b s9 ⟨H9,I9,q9⟩ => ?_
   cases b with
   | false =>
    rw [if_neg Bool.false_ne_true] at q9 ⊢
    obtain ⟨m',hm,w9⟩:=q9
    obtain ⟨st9,fr9⟩:=back I9
    exact ⟨m',hm,i+1,ys,_,_,H9,I9.unpinned,st9,fr9,w9⟩
   | true =>
    rw [if_pos rfl] at q9 ⊢
    refine thn (he' _ s9 _ _ _ I9 q9) fun yv s10 ⟨y,H10,I10,r10,eD10,m',hm,w10⟩ => ?_
    refine thn (gZ (X:=aS X scope (cellsFrom (s3.heap.objs.size+1) scope.names cl) s3.heap.objs.size (x1::x2::ns) s3 H3 fp) _ s10 _ H10 (.ref s2.heap.objs.size) [y] (.ref s2.heap.objs.size) [yv] (fun _ H11=>H11=upd H10 s2.heap.objs.size (.lst (ys++[y]))) I10 rfl (.cons r10 .nil) ⟨_,ys,y,rfl,rfl,eD10,hz,rfl⟩) fun _ s11 ⟨_,H11,I11,_,e11⟩ => ?_
    subst e11
    obtain ⟨st11,fr11⟩:=back I11
    exact ⟨m',hm,i+1,_,_,_,_,I11.unpinned,st11,fr11,w10⟩
 exact codeAny_compStart_list loop (T.self X.A 0 _ _ _ st4 loop)
theorem aCT {X:Cx}{x1 x2:Str}{px1 px2 tp pos:Pos}{kk:Nat}{iter elt:Expr}{ifs:List Expr}{scope:Scope}{ns:List Str}{cap:List Nat}{wi:TI}{tt:TT}{te:TE} (hc:X.calm=true) (hkind:scope.kind = .function)
  (hnames:∀ y∈scope.names,y.2 = .local→scope.names.lookup y.1=some .local) (hx1:Loc (relabel scope X.env) x1) (hxf1:scope.names.lookup x1=some .cell∨(relabel scope X.env).names.lookup x1=some .local) (hx2:Loc (relabel scope X.env) x2) (hxf2:scope.names.lookup x2=some .cell∨(relabel scope X.env).names.lookup x2=some .local)
  (hNc:(x1::x2::ns).Nodup) (hlen:cap.length=ns.length) (hcap:∀ (j k:Nat) (nm:Str),cap[j]?=some k→ns[j]?=some nm→X.N[k]?=some nm∧(X.env.scope.names.lookup nm=some .cell∨X.env.scope.names.lookup nm=some .free))
  (hns:∀ nm∈ns,(nm,NameKind.free)∈scope.names∧(nm,NameKind.cell) ∉ scope.names) (hnsk:∀ nm∈ns,scope.names.lookup nm=some .free) (hfree:∀ y∈scope.names,y.2 = .free→X.env.scope.names.lookup y.1=some .cell∨X.env.scope.names.lookup y.1=some .free)
  (hi:PI X (.Tuple [.Name x1 px1, .Name x2 px2] kk tp) iter wi)
  (ht:∀ cs C s₀ H₀ fp,PIf (aS X scope cs C (x1::x2::ns) s₀ H₀ fp) ifs tt) (he:∀ cs C s₀ H₀ fp,PE (aS X scope cs C (x1::x2::ns) s₀ H₀ fp) elt te)
  (hs:∀ v,foldedSetIterable iter X.env v=pure v:=by intro _; rfl) :
  PE X (.ListComp elt [⟨.Tuple [.Name x1 px1, .Name x2 px2] kk tp,iter,ifs,0⟩] scope pos) (p7 X.K wi cap tt te):=by
 intro pins s σ H Q I h
 rw [eval_ListComp]
 refine yK hc hkind hnames hx1 hxf1 hx2 hxf2 hNc hlen hcap hns hnsk hfree hi ht he hs (use:=none) I h fun D C H' s' J q ⟨m,hn⟩ cf=>⟨m,hn,fun h' hs' => ?_⟩
 exact ⟨.ref D,H',J.turned (t':=s'.toks) (it:=C) (fun b o hb e=>(hs'.2 b hb).trans e) cf.hn cf.hL (.inr cf.h1) cf.h2 cf.h3,rfl,q⟩
def oE (sc scope:Scope) (x1 x2:Str) (ns:List Str) (cap:List Nat) (N:List Str):Bool:=g7 sc scope x1 ns cap N && g7 sc scope x2 ns cap N && decide (x1≠x2)
theorem aAR {X:Cx}{x1 x2:Str}{px1 px2 tp pos:Pos}{kk:Nat}{iter elt:Expr}{ifs:List Expr}{scope sc:Scope}{N:List Str} (ns:List Str) (cap:List Nat) {wi:TI}{tt:TT}{te:TE} (hc:X.calm=true) (hsc:X.env.scope=sc) (hN:X.N=N) (ok:oE sc scope x1 x2 ns cap N=true)
  (hi:PI X (.Tuple [.Name x1 px1, .Name x2 px2] kk tp) iter wi)
  (ht:∀ cs C s₀ H₀ fp,PIf (aS X scope cs C (x1::x2::ns) s₀ H₀ fp) ifs tt) (he:∀ cs C s₀ H₀ fp,PE (aS X scope cs C (x1::x2::ns) s₀ H₀ fp) elt te)
  (hs:∀ v,foldedSetIterable iter X.env v=pure v:=by intro _; rfl) :
  PE X (.ListComp elt [⟨.Tuple [.Name x1 px1, .Name x2 px2] kk tp,iter,ifs,0⟩] scope pos) (p7 X.K wi cap tt te):=by
 subst hsc hN
 unfold oE at ok
 simp only [Bool.and_eq_true,decide_eq_true_eq] at ok
 obtain ⟨⟨ok1,ok2⟩,hne⟩:=ok
 have k:=kF ok1
 have k2:=kF ok2
 have nd:(x1::x2::ns).Nodup:=by
  obtain ⟨a1,a2⟩:=List.nodup_cons.mp k.hNc
  obtain ⟨b1,b2⟩:=List.nodup_cons.mp k2.hNc
  refine List.nodup_cons.mpr ⟨fun h => ?_,k2.hNc⟩
  rcases List.mem_cons.mp h with h | h
  ·exact hne h
  ·exact a1 h
 have one:∀ {x:Str},(scope.names.lookup x=some .local∨scope.names.lookup x=some .cell)→Loc (relabel scope X.env) x:=fun h=>by
  rcases h with z | z
  ·exact .inl (lookup_relabel_local z)
  ·exact .inr (dS z)
 have two:∀ {x:Str},(scope.names.lookup x=some .local∨scope.names.lookup x=some .cell)→scope.names.lookup x=some .cell∨(relabel scope X.env).names.lookup x=some .local:=fun h=>by
  rcases h with z | z
  ·exact .inr (lookup_relabel_local z)
  ·exact .inl z
 exact aCT hc k.hkind k.hnames (one k.hx) (two k.hx) (one k2.hx) (two k2.hx) nd k.hlen k.hcap k.hns k.hnsk k.hfree hi ht he hs
end L2
namespace Z
open PySem L2
theorem EnvR.cap2 {K:Fg}{G:Hp}{Γ:Gm}{σ:St} (h:EnvR K G Γ σ) {d1 d2:D}{v1 v2:V} (e1:Den K G d1 v1) (e2:Den K G d2 v2) (cap:List Nat):EnvR K G (some d1::some d2::cap.map fun k=>(Γ[k]?).join) (some v1::some v2::cap.map fun k=>(σ[k]?).join):=by
 have c:=h.cap e2 cap
 refine ⟨by simp,fun i q' z => ?_⟩
 cases i with
 | zero=>simp at z; subst z; exact ⟨v1,rfl,e1⟩
 | succ i=>exact c.get i q' z
def Comp2 (X:Cx) (x1 x2:Str) (ns:List Str) (cap:List Nat) (elt:Expr) (ifs:List Expr) (scope:Scope) (Γ:Gm) (k:D→Mem→Prop) (ds:List D) (M1:Mem):Prop :=
 ds.length≤sizeLine∧(∀ d∈ds,∃ d1 d2,d = .tup [d1,d2])∧∃ I:Nat→List D→Mem→Prop,I 0 [] M1 ∧
  (∀ i d1 d2 acc M2,ds[i]?=some (.tup [d1,d2])→I i acc M2→∀ cs C s₀ H₀ fp,GIf (aS X scope cs C (x1::x2::ns) s₀ H₀ fp) ifs (some d1::some d2::cap.map fun k=>(Γ[k]?).join) M2 fun c M3 =>
   if c=true then (∀ cs C s₀ H₀ fp,GE (aS X scope cs C (x1::x2::ns) s₀ H₀ fp) elt (some d1::some d2::cap.map fun k=>(Γ[k]?).join) M3 (fun y M4=>I (i+1) (acc++[y]) M4)) else I (i+1) acc M3) ∧
  (∀ acc M2,I ds.length acc M2→∀ a,M2 a=none→k (.mt a) (updM M2 a (.lst acc)))
theorem aGI {X:Cx}{x1 x2:Str}{px1 px2 tp:Pos}{kk:Nat}{iter elt:Expr}{ifs:List Expr}{scope:Scope}{ns:List Str}{cap:List Nat}{Γ:Gm}{M:Mem}{k:D→Mem→Prop}
  (h:GI X (.Tuple [.Name x1 px1, .Name x2 px2] kk tp) iter Γ M (Comp2 X x1 x2 ns cap elt ifs scope Γ k)) {σ:St}{G H:Hp}{Q:VK} (en:EnvR X.K G Γ σ) (rl:Rel X.K G H M) (q:Cont X.K M k G H Q) :
  p7 X.K (tUI X (.Tuple [.Name x1 px1, .Name x2 px2] kk tp) iter) cap (fun σ H Q=>∀ cs C s₀ H₀ fp,tUIf (aS X scope cs C (x1::x2::ns) s₀ H₀ fp) ifs σ H Q) (fun σ H Q=>∀ cs C s₀ H₀ fp,tU (aS X scope cs C (x1::x2::ns) s₀ H₀ fp) elt σ H Q) σ H Q:=by
 refine h σ G H _ en rl fun J G1 H1 ds M1 s1 yd ⟨hlen,hpair,I,h0,hstep,hend⟩ A hA => ?_
 have hA':=s1.rel.free hA
 refine ⟨fun i m ys H2=>m=ds.length - i∧i≤ds.length∧∃ G2 M2 acc,Stp X.K G1 H1 M1 G2 H2 M2∧H2 A=some (.lst ys)∧G2 A=none∧M2 A=none∧Dens X.K G2 acc ys∧I i acc M2∧acc.length≤i,
  ⟨ds.length,by simp,Nat.zero_le _,G1,M1,[],(Stp.refl s1.rel).aside hA hA'.1 hA'.2,bB,hA'.1,hA'.2,cQ,h0,Nat.le_refl _⟩,?_⟩
 rintro i m ys H2 ⟨rfl,hi,G2,M2,acc,s2,hl,hg,hm,dn,hI,hacc⟩
 refine ⟨hl,?_⟩
 by_cases hlt:i < ds.length
 ·refine .inr ⟨yd.go i G2 H2 M2 s2.gg s2.rel hlt,by rw [← dn.len]; omega,fun x H3 y => ?_⟩
  obtain ⟨G3,d,s3,hd,ex⟩:=yd.yld i G2 H2 M2 x H3 s2.gg s2.rel hlt y
  obtain ⟨l3,g3,m3⟩:=s3.fr A _ hl hg hm
  obtain ⟨d1,d2,ed⟩:=hpair d (List.mem_of_getElem? hd)
  subst ed
  obtain ⟨p,vs,ev,sq,dn3⟩:=ex.tup_
  obtain ⟨va,vb,evs,da,db⟩:=dens2 dn3
  subst evs
  refine ⟨p,va,vb,ev,R.seqT s3.rel.same sq,?_⟩
  intro cs C s₀ H₀ fp
  have en3:=((en.up s1.gg).up (s2.trans s3).gg).cap2 da db cap
  refine hstep i d1 d2 acc M2 hd hI cs C s₀ H₀ fp _ G3 H3 _ en3 s3.rel fun c G4 H4 M4 s4 h4 => ?_
  obtain ⟨l4,g4,m4⟩:=s4.fr A _ l3 g3 m3
  cases c with
  | true =>
   rw [if_pos rfl] at h4 ⊢
   intro cs C s₀ H₀ fp
   refine h4 cs C s₀ H₀ fp _ G4 H4 _ (en3.up s4.gg) s4.rel fun y G5 H5 d5 M5 s5 e5 h5 => ?_
   obtain ⟨l5,g5,m5⟩:=s5.fr A _ l4 g4 m4
   have s25:=((s2.trans s3).trans s4).trans s5
   exact ⟨l5,ds.length - (i+1),by omega,rfl,hlt,G5,M5,acc++[d5],s25.aside hA g5 m5,bB,g5,m5,(dn.up ((s3.trans s4).trans s5).gg).append (cJ e5 cQ),h5,by rw [List.length_append,List.length_singleton]; omega⟩
  | false =>
   rw [if_neg Bool.false_ne_true] at h4 ⊢
   exact ⟨ds.length - (i+1),by omega,rfl,hlt,G4,M4,acc,(s2.trans s3).trans s4,l4,g4,m4,dn.up (s3.trans s4).gg,h4,by omega⟩
 ·have e:i=ds.length:=by omega
  subst e
  exact .inl ⟨yd.stop _ G2 H2 M2 s2.gg s2.rel rfl,q _ _ _ _ _ (s1.trans (s2.track hA hg hl dn)) p6 (hend acc M2 hI A hm)⟩
section
variable {X:Cx}{Γ:Gm}{M:Mem}{k:D→Mem→Prop}{pos:Pos}{iter:Expr}
theorem aED {x1 x2:Str}{px1 px2 tp:Pos}{kk:Nat}{elt:Expr}{ifs:List Expr}{scope sc:Scope}{N:List Str} (ns:List Str) (cap:List Nat) (h:GI X (.Tuple [.Name x1 px1, .Name x2 px2] kk tp) iter Γ M (Comp2 X x1 x2 ns cap elt ifs scope Γ k))
  (hsc:X.env.scope=sc:=by rfl) (hN:X.N=N:=by rfl) (ok:oE sc scope x1 x2 ns cap N=true:=by first | decide +kernel | kernel_rfl!) (hc:X.calm=true:=by rfl) (hs:∀ v,foldedSetIterable iter X.env v=pure v:=by intro _; rfl) :
  GE X (.ListComp elt [⟨.Tuple [.Name x1 px1, .Name x2 px2] kk tp,iter,ifs,0⟩] scope pos) Γ M k:=fun σ G H Q en rl q =>
 cL (aAR ns cap hc hsc hN ok pUI (fun cs C s₀ H₀ fp pins s σ H Q I h=>h cs C s₀ H₀ fp pins s I) (fun cs C s₀ H₀ fp pins s σ H Q I h=>h cs C s₀ H₀ fp pins s I) hs) (aGI h en rl q)
def zV (X:Cx) (x1 x2:Str) (ns:List Str) (cap:List Nat) (elt:Expr) (ifs:List Expr) (scope:Scope) (Γ:Gm) (k:D→Mem→Prop) (ds:List D) (M1:Mem):Prop :=
 ds.length≤sizeLine∧(∀ d∈ds,∃ d1 d2,d = .tup [d1,d2])∧∃ I:Nat→List D→Mem→Prop,I 0 [] M1 ∧
  (∀ i d1 d2 acc M2,ds[i]?=some (.tup [d1,d2])→I i acc M2→∀ cs C s₀ H₀ fp,GIf (aS X scope cs C (x1::x2::ns) s₀ H₀ fp) ifs (some d1::some d2::cap.map fun k=>(Γ[k]?).join) M2 fun c M3 =>
   if c=true then (∀ cs C s₀ H₀ fp,GE (aS X scope cs C (x1::x2::ns) s₀ H₀ fp) elt (some d1::some d2::cap.map fun k=>(Γ[k]?).join) M3 (fun y M4=>I (i+1) (acc++[y]) M4)) else I (i+1) acc M3) ∧
  (∀ acc M2,I ds.length acc M2→k (.lst acc) M2)
theorem aA1 {x1 x2:Str}{px1 px2 tp:Pos}{kk:Nat}{elt:Expr}{ifs:List Expr}{scope sc:Scope}{N:List Str} (ns:List Str) (cap:List Nat) (h:GI X (.Tuple [.Name x1 px1, .Name x2 px2] kk tp) iter Γ M (zV X x1 x2 ns cap elt ifs scope Γ k))
  (hsc:X.env.scope=sc:=by rfl) (hN:X.N=N:=by rfl) (ok:oE sc scope x1 x2 ns cap N=true:=by first | decide +kernel | kernel_rfl!) (hc:X.calm=true:=by rfl) (hs:∀ v,foldedSetIterable iter X.env v=pure v:=by intro _; rfl) :
  GE X (.ListComp elt [⟨.Tuple [.Name x1 px1, .Name x2 px2] kk tp,iter,ifs,0⟩] scope pos) Γ M k:=by
 refine aBD (aED ns cap ?_ hsc hN ok hc hs)
 intro σ G H Rr en rl q
 refine h σ G H Rr en rl fun J G1 H1 ds M1 s1 yd ⟨hl,hpair,I,h0,hstep,hend⟩ => ?_
 exact q J G1 H1 ds M1 s1 yd ⟨hl,hpair,I,h0,hstep,fun acc M2 hI a ha=>⟨a,acc,M2,rfl,aV,ha,(Le.refl M2).upd ha,hend acc M2 hI⟩⟩
theorem aJK {x1 x2:Str}{ns:List Str}{cap:List Nat}{elt:Expr}{ifs:List Expr}{scope:Scope}{ds:List D}{M1:Mem} (hl:ds.length≤sizeLine) (hpair:∀ d∈ds,∃ d1 d2,d = .tup [d1,d2]) (I:Nat→List D→Mem→Prop) (h0:I 0 [] M1)
  (hs:∀ i d1 d2 acc M2,ds[i]?=some (.tup [d1,d2])→I i acc M2→∀ cs C s₀ H₀ fp,GIf (aS X scope cs C (x1::x2::ns) s₀ H₀ fp) ifs (some d1::some d2::cap.map fun k=>(Γ[k]?).join) M2 fun c M3 =>
   if c=true then (∀ cs C s₀ H₀ fp,GE (aS X scope cs C (x1::x2::ns) s₀ H₀ fp) elt (some d1::some d2::cap.map fun k=>(Γ[k]?).join) M3 (fun y M4=>I (i+1) (acc++[y]) M4)) else I (i+1) acc M3)
  (hd:∀ acc M2,I ds.length acc M2→k (.lst acc) M2):zV X x1 x2 ns cap elt ifs scope Γ k ds M1:=⟨hl,hpair,I,h0,hs,hd⟩
end
end Z
namespace Q
open PySem L2 Z
theorem aDK {xs ys:List D}{d:D} (h:d∈zipD xs ys):∃ d1 d2,d = .tup [d1,d2]:=by
 unfold zipD at h
 obtain ⟨p,_,rfl⟩:=List.mem_map.mp h
 exact ⟨_,_,rfl⟩
theorem aJA {xs ys:List D}{i:Nat}{d1 d2:D} (h:(zipD xs ys)[i]?=some (.tup [d1,d2])):xs[i]?=some d1∧ys[i]?=some d2:=by
 unfold zipD at h
 rw [List.getElem?_map] at h
 obtain ⟨p,hp,e⟩:=Option.map_eq_some_iff.mp h
 injection e with e
 injection e with e1 e
 injection e with e2 _
 have:=List.getElem?_zip_eq_some.mp (show (xs.zip ys)[i]?=some (p.1,p.2) from hp)
 rw [e1,e2] at this
 exact this
end Q
namespace Q
open PySem L2 Z U
def pq (q:Rat):Int × Int:=(q.num,(q.den:Int))
def numD (q:Rat):D:=bN (pq q)
def aL (xs:List Rat):List D:=xs.map numD
theorem aT (xs:List Rat):(aL xs).length=xs.length:=List.length_map ..
structure Bq (q:Rat):Prop where
 a:q.num.natAbs < 10 ^ 400
 b:q.den < 10 ^ 400
theorem Bq.g {q:Rat} (h:Bq q):Bg (pq q):=⟨h.a,by show ((q.den:Int)).natAbs < _; rw [Int.natAbs_natCast]; exact h.b,by show (q.den:Int)≠0; have:=q.den_nz; omega⟩
def BqL (xs:List Rat):Prop:=∀ x∈xs,Bq x
theorem sU (a b:Rat):ltP (pq a) (pq b)=decide (a < b):=by
 unfold ltP pq
 rw [decide_eq_decide]
 exact (Rat.lt_iff a b).symm
theorem aIF {a b:Rat}:pq a=pq b↔a=b:=by
 constructor
 ·intro e
  unfold pq at e
  injection e with e1 e2
  exact Rat.ext e1 (by omega)
 ·intro e; rw [e]
theorem f8 (a b:Rat):eqD (numD a) (numD b)=decide (a=b):=by
 unfold numD
 rw [aEF,decide_eq_decide,aIF]
theorem nI (t b:Int) (hb:b≠0):lowP t b=pq (Rat.divInt t b):=by
 obtain ⟨h1,h2⟩:=Num.rB t b hb
 unfold pq
 rw [← h1,← h2]
 rfl
theorem hV (q:Rat):(q.den:Int)≠0:=by have:=q.den_nz; omega
theorem aF3 (a b:Rat):lowP ((pq a).1 * (pq b).2+(pq b).1 * (pq a).2) ((pq a).2 * (pq b).2)=pq (a+b):=by
 exact (nI _ _ (Int.mul_ne_zero (hV a) (hV b))).trans (congrArg pq (Num.aGE a b))
theorem aDY (a b:Rat):lowP ((pq a).1 * (pq b).2 - (pq b).1 * (pq a).2) ((pq a).2 * (pq b).2)=pq (a - b):=by
 exact (nI _ _ (Int.mul_ne_zero (hV a) (hV b))).trans (congrArg pq (Num.wF a b))
theorem aCY (a b:Rat):lowP ((pq a).1 * (pq b).1) ((pq a).2 * (pq b).2)=pq (a * b):=by
 exact (nI _ _ (Int.mul_ne_zero (hV a) (hV b))).trans (congrArg pq (Num.aE9 a b))
theorem uL (xs:List Int):gD xs=aL (xs.map fun (x:Int)=>(x:Rat)):=by
 unfold gD aL
 rw [List.map_map,List.map_map]; rfl
def nR:Ct:=fun ds M k=>∃ p q:Int × Int,ds=[bN p,bN q]∧(p.1.natAbs < 10 ^ 400∧p.2.natAbs < 10 ^ 400)∧(q.1.natAbs < 10 ^ 400∧q.2.natAbs < 10 ^ 400)∧k (.bl (ltP p q)) M
theorem Bq.p {q:Rat} (h:Bq q):(pq q).1.natAbs < 10 ^ 400∧(pq q).2.natAbs < 10 ^ 400:=⟨h.g.a,h.g.b⟩
theorem w65 {p:Int × Int} (h:p.1.natAbs < 10 ^ 65∧p.2.natAbs < 10 ^ 65):p.1.natAbs < 10 ^ 400∧p.2.natAbs < 10 ^ 400:=⟨Nat.lt_of_lt_of_le h.1 (Nat.pow_le_pow_right (by decide) (by decide)),Nat.lt_of_lt_of_le h.2 (Nat.pow_le_pow_right (by decide) (by decide))⟩
def aCR:Ct:=fun ds M k=>∃ a b:Rat,ds=[numD a,numD b]∧Bq a∧Bq b∧k (numD (a+b)) M
def xS:Ct:=fun ds M k=>∃ a b:Rat,ds=[numD a,numD b]∧Bq a∧Bq b∧k (numD (a - b)) M
def xC:Ct:=fun ds M k=>∃ a b:Rat,ds=[numD a,numD b]∧Bq a∧Bq b∧k (numD (a * b)) M
theorem dQ {ws:List Rat}{i:Nat} (h:i < ws.length):atI (aL ws) (i:Int)=some (numD (ws.getD i 0)):=cW (by
 unfold aL
 rw [List.getElem?_map,List.getD_eq_getElem?_getD,List.getElem?_eq_getElem h]; rfl)
def cntQ (ws:List Rat) (x:Rat):Nat:=(ws.filter fun w=>decide (w < x)).length
def cK (ws:List Rat) (x:Rat):List Int:=if cntQ ws x < ws.length∧ws.getD (cntQ ws x) 0=x then [(cntQ ws x:Int) - 1,(cntQ ws x:Int)] else [(cntQ ws x:Int) - 1]
theorem aE5 {ws:List Rat}{x:Rat} (h:x ∉ ws):(cntQ ws x:Int) - 1=ix ws x:=by
 unfold cntQ ix
 congr 3
 refine List.filter_congr fun w hw => ?_
 have:w≠x:=fun e=>h (e ▸ hw)
 rw [decide_eq_decide]
 grind
theorem rW {ws:List Rat}{x:Rat} (h:x ∉ ws):cK ws x=[ix ws x]:=by
 unfold cK
 rw [if_neg,aE5 h]
 rintro ⟨h1,h2⟩
 refine h ?_
 rw [List.getD_eq_getElem?_getD,List.getElem?_eq_getElem h1] at h2
 exact h2 ▸ List.getElem_mem h1
theorem pX (ws:List Rat) (x:Rat):(cK ws x).length≤2:=by unfold cK; split <;> simp
def wN:Ct:=fun ds M k=>∃ (ws:List Rat) (x:Rat),ds=[.tup (aL ws),numD x]∧BqL ws∧ws.length≤100∧Bq x∧k (.lst ((cK ws x).map .int)) M
def aDQ:Ct:=fun ds M k=>∃ xs ys:List Rat,ds=[.tup (aL xs), .tup (aL ys)]∧BqL xs∧BqL ys∧xs.length≤100∧ys.length≤100∧k (.lst (aL (aY xs ys))) M
theorem cP (xs:List Rat) (n:Nat):(aL xs).drop n=aL (xs.drop n):=by unfold aL; rw [List.map_drop]
theorem cU (xs ys:List Rat):aL xs++aL ys=aL (xs++ys):=by unfold aL; rw [List.map_append]
theorem pA {xs:List Rat}{js:List Nat} (h:∀ j∈js,j < xs.length):l8 (aL xs) js=aL (gE xs js):=by
 unfold l8 aL gE
 rw [List.map_map]
 refine List.map_congr_left fun j hj => ?_
 have:=h j hj
 rw [List.getD_eq_getElem?_getD,List.getElem?_map,List.getElem?_eq_getElem this]
 show numD xs[j]=numD (xs.getD j 0)
 rw [List.getD_eq_getElem?_getD,List.getElem?_eq_getElem this]; rfl
def yd (A:Yd):D:=mH (aL A.ws) (aL A.us) A.K
theorem wJ {xs ys:List Rat}{zs:List Str} (u:Up xs) (v:Up ys) (g:R.Good (xs.length - 1) zs) (hz:zs.length=ys.length - 1):gF (aL xs) (aL ys) zs=yd (Yd.ofG xs ys zs u v g hz):=by
 unfold gF yd
 rw [pA (eF fun z hz=>(g z hz).1),pA (eE hz)]; rfl
theorem sG (xs:List Rat):∀ x∈aL xs,okD 1 x=true:=fun x hx=>by
 obtain ⟨q,_,rfl⟩:=List.mem_map.mp hx
 rfl
theorem jQ (A:Yd):okD 3 (yd A)=true:=pJ _ (sG _) (sG _)
theorem tK:∀ (a b:List Rat),eqDs (aL a) (aL b)=decide (a=b)
 | [],[]=>rfl
 | [],b::bs=>by unfold aL; simp [eqDs]
 | a::as,[]=>by unfold aL; simp [eqDs]
 | a::as,b::bs=>by
  have ih:=tK as bs
  unfold aL at ih ⊢
  simp only [List.map_cons,eqDs]
  rw [f8,ih]
  by_cases h1:a=b <;> by_cases h2:as=bs <;> simp [h1,h2]
theorem uX:∀ (a b:List Str),eqDs (a.map D.str) (b.map D.str)=decide (a=b)
 | [],[]=>rfl
 | [],b::bs=>by simp [eqDs]
 | a::as,[]=>by simp [eqDs]
 | a::as,b::bs=>by
  have ih:=uX as bs
  simp only [List.map_cons,eqDs]
  rw [ih]
  by_cases h1:a=b <;> by_cases h2:as=bs <;> simp [h1,h2,eqD]
theorem aI5 {A B:Yd}:A=B↔A.ws=B.ws∧A.us=B.us∧A.K=B.K:=by
 constructor
 ·intro e; subst e; exact ⟨rfl,rfl,rfl⟩
 ·obtain ⟨ws,us,K,_,_,_⟩:=A
  obtain ⟨ws',us',K',_,_,_⟩:=B
  rintro ⟨rfl,rfl,rfl⟩
  rfl
noncomputable instance:DecidableEq Yd:=fun _ _=>Classical.propDecidable _
theorem aEV (A B:Yd):eqD (yd A) (yd B)=decide (A=B):=by
 unfold yd mH
 simp only [eqD,eqDs,tK,uX,Bool.and_true]
 by_cases h:A=B
 ·subst h; simp
 ·rw [decide_eq_false h]
  by_cases h1:A.ws=B.ws
  ·by_cases h2:A.us=B.us
   ·have h3:A.K≠B.K:=fun e=>h (aI5.mpr ⟨h1,h2,e⟩)
    simp [h3]
   ·simp [h2]
  ·simp [h1]
structure Bnd (S:List Rat):Prop where
 len:S.length≤90
 b:BqL S
def aEW (a b:Bool):Bool:=a && b
def aHI (a b:Bool):Bool:=a || b
def aEQ (a b:Bool):Bool:=a && !b
end Q
namespace U
open PySem
inductive Cmp (g:Rat→Rat):Rat→List Rat→List Rat→Prop
 | nil {v:Rat}{xs:List Rat} (hv:v=0) (h:∀ x∈xs,g x=0):Cmp g v xs []
 | skip {v a:Rat}{r ws:List Rat} (e:g a=v) (h:Cmp g v r ws):Cmp g v (a::r) ws
 | keep {v a:Rat}{r ws:List Rat} (h:Cmp g (g a) r ws):Cmp g v (a::r) (a::ws)
theorem cnil (a u:Int):R.aR [] a u=false:=by
 cases e:R.aR [] a u with
 | false=>rfl
 | true=>obtain ⟨_,_,z,hz,_⟩:=R.d9.mp e; cases hz
theorem Yd.big (A:Yd):A.K=[]∨(2≤A.ws.length∧2≤A.us.length):=by
 rcases A.T.v with ⟨h,_,_⟩ | ⟨_,_,_,_,_,h1,h2⟩
 ·exact .inl h
 ·exact .inr ⟨h1,h2⟩
theorem gap:∀ (S:List Rat) (x:Rat),∃ n,x < n∧∀ s∈S,x < s→n≤s
 | [],x=>⟨x+1,by grind,fun s hs=>(nomatch hs)⟩
 | a::S,x=>by
  obtain ⟨n,h1,h2⟩:=gap S x
  by_cases ha:x < a
  ·by_cases hn:a < n
   ·exact ⟨a,ha,fun s hs hx=>by
     rcases List.mem_cons.mp hs with q | q
     ·grind
     ·have:=h2 s q hx; grind⟩
   ·exact ⟨n,h1,fun s hs hx=>by
     rcases List.mem_cons.mp hs with q | q
     ·grind
     ·exact h2 s q hx⟩
  ·exact ⟨n,h1,fun s hs hx=>by
    rcases List.mem_cons.mp hs with q | q
    ·grind
    ·exact h2 s q hx⟩
end U
set_option exponentiation.threshold 500
namespace Q
open PySem L2 Z U
theorem qL (q:Rat):q * (q.den:Rat)=(q.num:Rat):=by
 have h:=Rat.num_divInt_den q
 have hd:((q.den:Int):Rat)≠0:=by
  intro e
  have:=Rat.intCast_inj.mp (e.trans (Rat.intCast_zero).symm)
  have:=q.den_nz; omega
 conv=>lhs; lhs; rw [← h,Rat.divInt_eq_div]
 rw [← Rat.intCast_natCast,Rat.div_mul_cancel hd]
structure Fr (m B:Nat) (q:Rat):Prop where
 ex:∃ k:Int,q * (m:Rat)=(k:Rat)∧k.natAbs≤B
theorem Fr.cross {m B:Nat}{q:Rat} (h:Fr m B q):∃ k:Int,q.num * (m:Int)=k * (q.den:Int)∧k.natAbs≤B:=by
 obtain ⟨k,e,hk⟩:=h.ex
 refine ⟨k,?_,hk⟩
 have h1:q * (q.den:Rat)=(q.num:Rat):=qL q
 have h2:((q.num * (m:Int):Int):Rat)=((k * (q.den:Int):Int):Rat):=by
  rw [Rat.intCast_mul,Rat.intCast_mul,Rat.intCast_natCast,Rat.intCast_natCast,← h1,← e]
  grind
 exact Rat.intCast_inj.mp h2
theorem Fr.bd {m B:Nat}{q:Rat} (h:Fr m B q) (hm:0 < m):q.num.natAbs≤B∧q.den≤m:=by
 obtain ⟨k,e,hk⟩:=h.cross
 have e':q.num.natAbs * m=k.natAbs * q.den:=by
  have:=congrArg Int.natAbs e
  rwa [Int.natAbs_mul,Int.natAbs_mul,Int.natAbs_natCast,Int.natAbs_natCast] at this
 have hd:q.den ∣ m:=by
  refine Nat.Coprime.dvd_of_dvd_mul_left (k:=q.den) (m:=q.num.natAbs) (Nat.Coprime.symm q.reduced) ?_
  rw [e']; exact Nat.dvd_mul_left _ _
 have hl:=Nat.le_of_dvd hm hd
 refine ⟨?_,hl⟩
 have:q.num.natAbs * m≤B * m:=by
  rw [e']; exact Nat.mul_le_mul hk hl
 exact Nat.le_of_mul_le_mul_right this hm
theorem Fr.bq {m B:Nat}{q:Rat} (h:Fr m B q) (hm:0 < m) (h1:m < 10 ^ 400) (h2:B < 10 ^ 400):Bq q:=⟨Nat.lt_of_le_of_lt (h.bd hm).1 h2,Nat.lt_of_le_of_lt (h.bd hm).2 h1⟩
theorem Fr.add {m B C:Nat}{a b:Rat} (h:Fr m B a) (g:Fr m C b):Fr m (B+C) (a+b):=by
 obtain ⟨k,e,hk⟩:=h.ex
 obtain ⟨l,e',hl⟩:=g.ex
 exact ⟨k+l,by rw [Rat.intCast_add,← e,← e']; grind,by omega⟩
theorem Fr.sub {m B C:Nat}{a b:Rat} (h:Fr m B a) (g:Fr m C b):Fr m (B+C) (a - b):=by
 obtain ⟨k,e,hk⟩:=h.ex
 obtain ⟨l,e',hl⟩:=g.ex
 exact ⟨k - l,by rw [Rat.intCast_sub,← e,← e']; grind,by omega⟩
theorem Fr.int {m B:Nat}{x:Int} (h:x.natAbs * m≤B):Fr m B (x:Rat):=⟨x * m,by rw [Rat.intCast_mul,Rat.intCast_natCast],by rw [Int.natAbs_mul,Int.natAbs_natCast]; exact h⟩
def FrL (m B:Nat) (ws:List Rat):Prop:=∀ w∈ws,Fr m B w
def sm:Nat:=10 ^ 60
theorem rC {ws:List Rat} (u:Up ws):dP (.tup (aL ws))=true:=by
 show ((aL ws).all numB && upP ((aL ws).map toP))=true
 rw [Bool.and_eq_true]
 constructor
 ·rw [List.all_eq_true]
  intro d hd
  obtain ⟨q,_,rfl⟩:=List.mem_map.mp hd
  refine pC.mpr ⟨_,rfl,by show (1:Int)≤(q.den:Int); have:=q.den_pos; omega,?_⟩
  have:=q.reduced
  rw [Int.gcd_eq_natAbs_gcd_natAbs]
  exact this
 ·have e:(aL ws).map toP=ws.map pq:=by
   unfold aL
   rw [List.map_map]; rfl
  rw [e]
  unfold upP
  rw [List.all_eq_true,List.length_map]
  intro i hi
  have hi':=List.mem_range.mp hi
  have a:∀ j (hj:j < ws.length),(ws.map pq).getD j (0,1)=pq ws[j]:=fun j hj=>by
   rw [List.getD_eq_getElem?_getD,List.getElem?_map,List.getElem?_eq_getElem hj]; rfl
  rw [a i (by omega),a (i+1) (by omega),sU]
  exact decide_eq_true ((U.i3 u (by omega) (by omega)).mpr (by omega))
theorem aGG (A:Yd):nW (yd A)=true:=by
 rcases A.T.v with ⟨e,e1,e2⟩ | ⟨hK,t1,t2,g,l,ha,hb⟩
 ·unfold yd
  rw [e,List.length_eq_zero_iff.mp e1,List.length_eq_zero_iff.mp e2]; exact yQ
 ·have hkl:A.K.length=A.us.length - 1:=by omega
  show yard3 (.tup (aL A.ws)) (.tup (aL A.us)) (.tup (A.K.map .str))=true
  rw [u9,rC A.uw,rC A.uu,tX,aT,aT,aB1 hkl (fun z hz=>(g z hz).1),vK g]
  have e:gF (aL A.ws) (aL A.us) A.K = .tup [.tup (aL A.ws), .tup (aL A.us), .tup (A.K.map .str)]:=by
   unfold gF
   have a1:l8 (aL A.ws) (R.chg (R.aE A.K))=aL A.ws:=by
    rw [t2,← aT]; exact qB _ _
   have a2:l8 (aL A.us) (R.chg A.K)=aL A.us:=by
    rw [t1,← aT]; exact qB _ _
   rw [a1,a2,aCF t1 t2 g hkl]; rfl
  rw [e]
  exact eqD_refl 3 _ (jQ A)
def Sml (q:Rat):Prop:=q.num.natAbs < 10 ^ 65∧q.den < 10 ^ 65
theorem aFG {A:Yd} (hx:∀ w∈A.ws,Sml w) (hy:∀ w∈A.us,Sml w) (lx:A.ws.length≤90) (ly:A.us.length≤90):tameB 3 (yd A)=true:=by
 have t1:∀ {ws:List Rat},(∀ w∈ws,Sml w)→∀ d∈aL ws,tameB 1 d=true:=fun h d hd=>by
  obtain ⟨q,hq,rfl⟩:=List.mem_map.mp hd
  obtain ⟨s1,s2⟩:=h q hq
  exact jZ (show _≤100 by simp) (two (by unfold tameB; exact decide_eq_true s1) (by unfold tameB; exact decide_eq_true (by show ((q.den:Int)).natAbs < _; rw [Int.natAbs_natCast]; exact s2)))
 refine jZ (show _≤100 by simp) fun d hd => ?_
 simp only [List.mem_cons,List.not_mem_nil,or_false] at hd
 rcases hd with rfl | rfl | rfl
 ·exact jZ (by rw [aT]; omega) (t1 hx)
 ·exact jZ (by rw [aT]; omega) (t1 hy)
 ·exact jZ (by rw [List.length_map,A.wide.2]; omega) fun x hx=>by
   obtain ⟨z,hz,rfl⟩:=List.mem_map.mp hx
   exact rD (by have:=A.wide.1 z hz; omega)
def toQ (xs:List Int):List Rat:=xs.map fun (x:Int)=>(x:Rat)
theorem iN (xs:List Int):(toQ xs).length=xs.length:=List.length_map ..
theorem nM {xs:List Int} (h:xs.Pairwise (· < ·)):Up (toQ xs):=by
 unfold toQ Up
 rw [List.pairwise_map]
 exact h.imp fun hxy=>Rat.intCast_lt_intCast.mpr hxy
def dG (xs ys:List Int) (zs:List Str) (hx:xs.Pairwise (· < ·)) (hy:ys.Pairwise (· < ·)) (g:R.Good (xs.length - 1) zs) (hz:zs.length=ys.length - 1):Yd:=Yd.ofG (toQ xs) (toQ ys) zs (nM hx) (nM hy) (by rw [iN]; exact g) (by rw [iN]; exact hz)
theorem vG {xs ys:List Int}{zs:List Str} (hx:xs.Pairwise (· < ·)) (hy:ys.Pairwise (· < ·)) (g:R.Good (xs.length - 1) zs) (hz:zs.length=ys.length - 1):gF (gD xs) (gD ys) zs=yd (dG xs ys zs hx hy g hz):=by
 rw [uL,uL]
 exact wJ _ _ _ _
end Q
namespace U
open PySem
def hit (s:Bool) (ws:List Rat) (dn up:Rat) (h:Int→Bool) (x:Rat):Prop:=∃ u,x - up≤u∧u≤x+dn∧h (ix ws u)=s
def hitP (s:Bool) (ws:List Rat) (dn up:Rat) (h:Int→Bool) (x:Rat):Prop:=∃ p:Nat,p≤ws.length∧h ((p:Int) - 1)=s∧(∀ i (hi:i < ws.length),i+1=p→ws[i] - dn≤x)∧∀ hp:p < ws.length,x < ws[p]+up
theorem lB {s:Bool}{ws:List Rat}{dn up:Rat}{h:Int→Bool}{x:Rat} (u:Up ws) (hd:0≤dn) (hu:0≤up):hit s ws dn up h x↔hitP s ws dn up h x:=by
 constructor
 ·rintro ⟨v,h1,h2,h3⟩
  have a:=p9 ws v
  have b:=qI ws v
  refine ⟨(ix ws v+1).toNat,by omega,by rw [show (((ix ws v+1).toNat:Nat):Int) - 1=ix ws v by omega]; exact h3,fun i hi e => ?_,fun hp => ?_⟩
  ·have:=(c9 (x:=v) u hi).mpr (by omega)
   grind
  ·have:¬ ws[(ix ws v+1).toNat]≤v:=fun q=>by have:=(c9 (x:=v) u hp).mp q; omega
   grind
 ·rintro ⟨p,h1,h2,h3,h4⟩
  rcases Nat.eq_zero_or_pos p with h0 | h0
  ·subst h0
   refine ⟨x - up,by grind,by grind,?_⟩
   rw [show ix ws (x - up)=((0:Nat):Int) - 1 from nU u (by omega) (by omega) fun i hi => ?_]
   ·exact h2
   ·constructor
    ·intro q
     have h5:=h4 (by omega)
     have:=(jP u (i:=0) (by omega) hi).mpr (by omega)
     grind
    ·intro q; omega
  ·have hp:p - 1 < ws.length:=by omega
   have h5:=h3 (p - 1) hp (by omega)
   have key:∀ v,ws[p - 1]≤v→(∀ hp:p < ws.length,v < ws[p])→ix ws v=(p:Int) - 1:=fun v g1 g2=>nU u (by omega) (by omega) fun i hi=>by
    constructor
    ·intro q
     by_cases hq:p < ws.length
     ·have:=(i3 u hi hq).mp (by have:=g2 hq; grind)
      omega
     ·omega
    ·intro q
     have:=(jP u hi hp).mpr (by omega)
     grind
   by_cases hc:x - up≤ws[p - 1]
   ·refine ⟨ws[p - 1],hc,by grind,?_⟩
    rw [key _ (by grind) fun hq=>(i3 u hp hq).mpr (by omega)]
    exact h2
   ·refine ⟨x - up,by grind,by grind,?_⟩
    rw [key _ (by grind) fun hq=>by have:=h4 hq; grind]
    exact h2
open Classical in
noncomputable def gro (s:Bool) (ws:List Rat) (dn up:Rat) (h:Int→Bool) (x:Rat):Bool:=if hit s ws dn up h x then s else !s
theorem gG {s:Bool}{ws:List Rat}{dn up:Rat}{h:Int→Bool}{x:Rat}:gro s ws dn up h x=s↔hit s ws dn up h x:=by
 unfold gro
 split
 ·simp [*]
 ·cases s <;> simp [*]
theorem aBK {s:Bool}{ws ws':List Rat}{dn up dn' up':Rat}{h h':Int→Bool}{x x':Rat} (e:hit s ws dn up h x↔hit s ws' dn' up' h' x'):gro s ws dn up h x=gro s ws' dn' up' h' x':=by
 have a:=gG (s:=s) (ws:=ws) (dn:=dn) (up:=up) (h:=h) (x:=x)
 have b:=gG (s:=s) (ws:=ws') (dn:=dn') (up:=up') (h:=h') (x:=x')
 by_cases q:hit s ws dn up h x
 ·rw [a.mpr q,b.mpr (e.mp q)]
 ·have a':=fun z=>q (a.mp z)
  have b':=fun z=>q (e.mpr (b.mp z))
  revert a' b'
  cases s <;> cases gro _ ws dn up h x <;> cases gro _ ws' dn' up' h' x' <;> simp
def lowQ (ws:List Rat) (dn:Rat):List Rat:=ws.map (· - dn)
def uppQ (ws:List Rat) (up:Rat):List Rat:=ws.map (· + up)
def finQ (ws:List Rat) (dn up:Rat):List Rat:=aY (lowQ ws dn) (uppQ ws up)
theorem wQ {ws:List Rat} (u:Up ws) (dn:Rat):Up (lowQ ws dn):=by unfold lowQ Up; rw [List.pairwise_map]; exact u.imp fun h=>by grind
theorem aFX {ws:List Rat} (u:Up ws) (up:Rat):Up (uppQ ws up):=by unfold uppQ Up; rw [List.pairwise_map]; exact u.imp fun h=>by grind
theorem eP {ws:List Rat} (u:Up ws) (dn up:Rat):Up (finQ ws dn up):=cD (wQ u dn) (aFX u up)
theorem kB (ws:List Rat) (dn up:Rat):(finQ ws dn up).length≤2 * ws.length:=by
 have:=fU (lowQ ws dn) (uppQ ws up)
 unfold lowQ uppQ at this
 rw [List.length_map,List.length_map] at this
 unfold finQ lowQ uppQ; omega
theorem iR {ws:List Rat}{dn up:Rat}{i:Nat} (hi:i < ws.length):ws[i] - dn∈finQ ws dn up:=(bM _ _ _).mpr (.inl (List.mem_map.mpr ⟨_,List.getElem_mem hi,rfl⟩))
theorem iS {ws:List Rat}{dn up:Rat}{i:Nat} (hi:i < ws.length):ws[i]+up∈finQ ws dn up:=(bM _ _ _).mpr (.inr (List.mem_map.mpr ⟨_,List.getElem_mem hi,rfl⟩))
theorem aGN {ws:List Rat}{dn up w:Rat} (h:w∈finQ ws dn up):∃ v∈ws,w=v - dn∨w=v+up:=by
 rcases (bM _ _ _).mp h with q | q
 ·obtain ⟨v,hv,rfl⟩:=List.mem_map.mp q; exact ⟨v,hv, .inl rfl⟩
 ·obtain ⟨v,hv,rfl⟩:=List.mem_map.mp q; exact ⟨v,hv, .inr rfl⟩
theorem nY {xs:List Rat} (v:Up xs) {w x:Rat}{i:Nat} (hw:w∈xs) (hi:i < xs.length) (e:ix xs x=i):w≤x↔w≤xs[i]:=by
 obtain ⟨j,hj,rfl⟩:=List.getElem_of_mem hw
 rw [c9 v hj,jP v hj hi,e]; omega
theorem u4 {s:Bool}{ws:List Rat}{dn up:Rat}{h:Int→Bool}{x:Rat} (u:Up ws) (hd:0≤dn) (hu:0≤up) {i:Nat} (hi:i < (finQ ws dn up).length) (e:ix (finQ ws dn up) x=i):hit s ws dn up h x↔hit s ws dn up h (finQ ws dn up)[i]:=by
 rw [lB u hd hu,lB u hd hu]
 unfold hitP
 have v:=eP u dn up
 constructor
 ·rintro ⟨p,h1,h2,h3,h4⟩
  refine ⟨p,h1,h2,fun j hj q=>(nY v (iR hj) hi e).mp (h3 j hj q),fun hp => ?_⟩
  have:=nY v (iS (dn:=dn) (up:=up) hp) hi e
  have:=h4 hp
  grind
 ·rintro ⟨p,h1,h2,h3,h4⟩
  refine ⟨p,h1,h2,fun j hj q=>(nY v (iR hj) hi e).mpr (h3 j hj q),fun hp => ?_⟩
  have:=nY v (iS (dn:=dn) (up:=up) hp) hi e
  have:=h4 hp
  grind
theorem xE {s:Bool}{ws:List Rat}{dn up:Rat}{h:Int→Bool}{x:Rat} (u:Up ws) (hd:0≤dn) (hu:0≤up) (h0:h (-1)=false) (h1:h ((ws.length:Int) - 1)=false) (e:ix (finQ ws dn up) x = -1∨ix (finQ ws dn up) x=((finQ ws dn up).length:Int) - 1):gro s ws dn up h x=false:=by
 have v:=eP u dn up
 have low:ix (finQ ws dn up) x = -1→∀ w∈finQ ws dn up,x < w:=fun e w hw=>by
  obtain ⟨j,hj,rfl⟩:=List.getElem_of_mem hw
  have:¬ (finQ ws dn up)[j]≤x:=fun q=>by have:=(c9 v hj).mp q; omega
  grind
 have high:ix (finQ ws dn up) x=((finQ ws dn up).length:Int) - 1→∀ w∈finQ ws dn up,w≤x:=fun e w hw=>by
  obtain ⟨j,hj,rfl⟩:=List.getElem_of_mem hw
  exact (c9 v hj).mpr (by omega)
 cases s with
 | true =>
  refine Bool.eq_false_iff.mpr fun q => ?_
  obtain ⟨p,g1,g2,g3,g4⟩:=(lB u hd hu).mp (gG.mp q)
  rcases e with e | e
  ·by_cases hp:p=0
   ·subst hp; rw [show (((0:Nat):Int) - 1) = -1 from rfl,h0] at g2; cases g2
   ·have a:=g3 (p - 1) (by omega) (by omega)
    have b:=low e _ (iR (up:=up) (dn:=dn) (show p - 1 < ws.length by omega))
    grind
  ·by_cases hp:p=ws.length
   ·rw [hp,h1] at g2; cases g2
   ·have a:=g4 (by omega)
    have b:=high e _ (iS (up:=up) (dn:=dn) (show p < ws.length by omega))
    grind
 | false =>
  refine gG.mpr ((lB u hd hu).mpr ?_)
  rcases e with e | e
  ·exact ⟨0,by omega,h0,fun i hi q=>by omega,fun hp=>low e _ (iS hp)⟩
  ·exact ⟨ws.length,by omega,h1,fun i hi q=>high e _ (iR hi),fun hp=>absurd hp (Nat.lt_irrefl _)⟩
noncomputable def bR (s:Bool) (ws:List Rat) (dn up:Rat) (z:Str):Str:=R.ofL ((finQ ws dn up).dropLast.map fun x=>R.sg (gro s ws dn up (fun i=>R.aR [z] i 0) x))
theorem tH {K:List Str}{r:Nat}{z:Str} (h:K[r]?=some z) (i:Int):R.aR K i (r:Int)=R.aR [z] i 0:=by
 rw [Bool.eq_iff_iff,R.d9,R.d9]
 constructor
 ·rintro ⟨h1,h2,z',hz,hc⟩
  rw [Int.toNat_natCast,h] at hz
  cases hz
  exact ⟨by omega,h2,z,rfl,hc⟩
 ·rintro ⟨h1,h2,z',hz,hc⟩
  cases hz
  exact ⟨by omega,h2,z,by rw [Int.toNat_natCast]; exact h,hc⟩
theorem aHL {s:Bool}{ws:List Rat}{dn up:Rat}{z:Str}{j:Nat} (hj:j+1 < (finQ ws dn up).length):R.aR [bR s ws dn up z] (j:Int) 0=gro s ws dn up (fun i=>R.aR [z] i 0) (finQ ws dn up)[j] :=
 pG (f:=fun x _=>gro s ws dn up (fun i=>R.aR [z] i 0) x) (xs:=finQ ws dn up) (ys:=[0,1]) (i:=j) (j:=0) hj (by decide)
theorem kT (s:Bool) (ws:List Rat) (dn up:Rat) (K:List Str):R.Good ((finQ ws dn up).length - 1) (K.map (bR s ws dn up)):=fun z hz=>by
 obtain ⟨y,_,rfl⟩:=List.mem_map.mp hz
 exact dJ (fun x _=>gro s ws dn up (fun i=>R.aR [y] i 0) x) (finQ ws dn up) [0,1] _ (by show _∈[bR s ws dn up y]; simp)
theorem j8 {s:Bool}{ws:List Rat}{dn up:Rat}{h:Int→Bool}{x:Rat} (hd:0≤dn) (hu:0≤up) (e:∀ i,h i=false):gro s ws dn up h x=false:=by
 cases s with
 | true=>exact Bool.eq_false_iff.mpr fun q=>by obtain ⟨_,_,_,g⟩:=gG.mp q; rw [e] at g; cases g
 | false=>exact gG.mpr ⟨x,by grind,by grind,e _⟩
theorem iT {ws:List Rat} (u:Up ws) (dn up:Rat):ws.length≤(finQ ws dn up).length:=by
 have:=g8 (wQ u dn) (S:=finQ ws dn up) fun w hw=>(bM _ _ _).mpr (.inl hw)
 unfold lowQ at this
 rwa [List.length_map] at this
theorem rZ {s:Bool}{ws:List Rat}{dn up:Rat}{K:List Str} (hd:0≤dn) (hu:0≤up) {j:Nat} (hj:j+1 < (finQ ws dn up).length) (r:Int):R.aR (K.map (bR s ws dn up)) (j:Int) r=gro s ws dn up (fun i=>R.aR K i r) (finQ ws dn up)[j]:=by
 by_cases h0:r < 0
 ·rw [R.c6 h0,j8 hd hu fun i=>R.c6 h0]
 by_cases h1:(K.length:Int)≤r
 ·rw [R.c8 (by rw [List.length_map]; exact h1),j8 hd hu fun i=>R.c8 h1]
 obtain ⟨k,rfl⟩:∃ k:Nat,r=k:=⟨r.toNat,by omega⟩
 have hk:k < K.length:=by omega
 have e:K[k]?=some K[k]:=List.getElem?_eq_getElem hk
 rw [tH (z:=bR s ws dn up K[k]) (by rw [List.getElem?_map,e]; rfl),aHL hj]
 congr 1
 funext i
 exact (tH e i).symm
noncomputable def groF (s:Bool) (A:Yd) (a b c d:Rat) (x y:Rat):Bool:=gro s A.us b d (fun r=>gro s A.ws a c (fun i=>R.aR A.K i r) x) y
theorem Yd.lowX (A:Yd) (r:Int):R.aR A.K (-1) r=false∧R.aR A.K ((A.ws.length:Int) - 1) r=false:=by
 refine ⟨R.cS (by omega),?_⟩
 rcases A.big with e | ⟨h1,h2⟩
 ·rw [e]; exact cnil _ _
 ·exact jJ A.wide.1 (by omega)
theorem Yd.lowY (A:Yd) (i:Int):R.aR A.K i (-1)=false∧R.aR A.K i ((A.us.length:Int) - 1)=false:=by
 refine ⟨R.c6 (by omega),?_⟩
 rcases A.big with e | ⟨h1,h2⟩
 ·rw [e]; exact cnil _ _
 ·exact R.c8 (by rw [A.wide.2]; omega)
structure Nn (a b c d:Rat):Prop where
 a:0≤a
 b:0≤b
 c:0≤c
 d:0≤d
theorem yR (s:Bool) (A:Yd) {a b c d:Rat} (n:Nn a b c d):Steps (groF s A a b c d) (finQ A.ws a c) (finQ A.us b d) where
 out x y h:=by
  unfold groF
  have hy:ix (finQ A.us b d) y = -1∨ix (finQ A.us b d) y=((finQ A.us b d).length:Int) - 1→gro s A.us b d (fun r=>gro s A.ws a c (fun i=>R.aR A.K i r) x) y=false:=fun h =>
   xE A.uu n.b n.d (j8 n.a n.c fun i=>(A.lowY i).1) (j8 n.a n.c fun i=>(A.lowY i).2) h
  have hx:ix (finQ A.ws a c) x = -1∨ix (finQ A.ws a c) x=((finQ A.ws a c).length:Int) - 1→gro s A.us b d (fun r=>gro s A.ws a c (fun i=>R.aR A.K i r) x) y=false:=fun h =>
   j8 n.b n.d fun r=>xE A.uw n.a n.c (A.lowX r).1 (A.lowX r).2 h
  rcases h with h | h | h | h
  ·exact hx (.inl h)
  ·exact hx (.inr h)
  ·exact hy (.inl h)
  ·exact hy (.inr h)
 at_ x y i j hi hj e e':=by
  unfold groF
  have h1:(fun r=>gro s A.ws a c (fun i=>R.aR A.K i r) x)=fun r=>gro s A.ws a c (fun i=>R.aR A.K i r) (finQ A.ws a c)[i]:=funext fun r=>aBK (u4 A.uw n.a n.c hi e)
  rw [h1]
  exact aBK (u4 A.uu n.b n.d hj e')
noncomputable def Yd.grow (A:Yd) (s:Bool) (a b c d:Rat):Yd:=Yd.ofF (groF s A a b c d) (finQ A.ws a c) (finQ A.us b d) (eP A.uw a c) (eP A.uu b d)
theorem Yd.grow_has (A:Yd) (s:Bool) {a b c d:Rat} (n:Nn a b c d) (x y:Rat):(A.grow s a b c d).has x y=groF s A a b c d x y:=Yd.ofF_has _ _ (yR s A n) x y
theorem Yd.back_has (A:Yd) {a b c d:Rat} (n:Nn a b c d) (x y:Rat):(A.grow true a b c d).has x y=true↔∃ u v,x - c≤u∧u≤x+a∧y - d≤v∧v≤y+b∧A.has u v=true:=by
 rw [A.grow_has true n]
 unfold groF
 rw [gG]
 constructor
 ·rintro ⟨v,h1,h2,h3⟩
  obtain ⟨u,g1,g2,g3⟩:=gG.mp h3
  exact ⟨u,v,g1,g2,h1,h2,g3⟩
 ·rintro ⟨u,v,g1,g2,h1,h2,g3⟩
  exact ⟨v,h1,h2,gG.mpr ⟨u,g1,g2,g3⟩⟩
theorem Yd.cut_has (A:Yd) {a b c d:Rat} (n:Nn a b c d) (x y:Rat):(A.grow false a b c d).has x y=true↔∀ u v,x - c≤u→u≤x+a→y - d≤v→v≤y+b→A.has u v=true:=by
 rw [A.grow_has false n]
 unfold groF
 rw [← Bool.not_eq_false,gG]
 constructor
 ·intro h u v g1 g2 h1 h2
  exact (Bool.not_eq_false _).mp fun q=>h ⟨v,h1,h2,gG.mpr ⟨u,g1,g2,q⟩⟩
 ·rintro h ⟨v,h1,h2,h3⟩
  obtain ⟨u,g1,g2,g3⟩:=gG.mp h3
  have g4:A.has u v=false:=g3
  rw [h u v g1 g2 h1 h2] at g4
  cases g4
theorem sD (s:Bool) (A:Yd) {a b c d:Rat} (n:Nn a b c d):R.aE ((R.aE (A.K.map (bR s A.ws a c))).map (bR s A.us b d))=iG (groF s A a b c d) (finQ A.ws a c) (finQ A.us b d):=by
 rcases A.T.v with ⟨hK,e1,e2⟩ | ⟨hK,t1,t2,g,l,ha,hb⟩
 ·have e2':A.us=[]:=List.length_eq_zero_iff.mp e2
  rw [hK]
  unfold iG finQ lowQ uppQ
  rw [e2',List.map_nil,List.map_nil,j7]
  rfl
 ·have f1:=iT A.uw a c
  have f2:=iT A.uu b d
  have k1:=kT s A.ws a c A.K
  have w1:∀ z∈A.K.map (bR s A.ws a c),z.length=(finQ A.ws a c).length - 1:=fun z hz=>(k1 z hz).1
  have n1:A.K.map (bR s A.ws a c)≠[]:=fun e=>hK (List.map_eq_nil_iff.mp e)
  have lc:=R.b3 w1 n1
  have k2:=kT s A.us b d (R.aE (A.K.map (bR s A.ws a c)))
  have w2:∀ z∈(R.aE (A.K.map (bR s A.ws a c))).map (bR s A.us b d),z.length=(finQ A.us b d).length - 1:=fun z hz=>(k2 z hz).1
  have n2:(R.aE (A.K.map (bR s A.ws a c))).map (bR s A.us b d)≠[]:=fun e=>by
   have:=congrArg List.length e
   rw [List.length_map,lc] at this
   simp at this; omega
  have lc2:=R.b3 w2 n2
  have g3:=R.gW k2
  rw [List.length_map,lc] at g3
  refine xZ g3 (dJ _ _ _) (by rw [lc2,eV]) fun i j hi hj => ?_
  rw [lc2] at hj
  rw [pG (by omega) (by omega),R.rY w2,rZ n.b n.d (by omega)]
  unfold groF
  congr 1
  funext r
  rw [R.rY w1,rZ n.a n.c (by omega)]
theorem Yd.grow_ws (A:Yd) (s:Bool) (a b c d:Rat):(∀ w∈(A.grow s a b c d).ws,w∈finQ A.ws a c)∧∀ w∈(A.grow s a b c d).us,w∈finQ A.us b d :=
 Yd.ofG_ws (eP A.uw a c) (eP A.uu b d) (dJ _ _ _) (eV _ _ _)
structure Bx where
 w:Rat
 s:Rat
 e:Rat
 n:Rat
structure Bx.Ok (b:Bx):Prop where
 w:0≤b.w
 s:0≤b.s
 e:0≤b.e
 n:0≤b.n
noncomputable def Yd.cut (A:Yd) (b:Bx):Yd:=A.grow false b.e b.n b.w b.s
noncomputable def Yd.back (A:Yd) (b:Bx):Yd:=A.grow true b.w b.s b.e b.n
theorem Yd.cut_iff (A:Yd) {b:Bx} (o:b.Ok) (x y:Rat):(A.cut b).has x y=true↔∀ u v,x - b.w≤u→u≤x+b.e→y - b.s≤v→v≤y+b.n→A.has u v=true:=A.cut_has ⟨o.e,o.n,o.w,o.s⟩ x y
theorem Yd.back_iff (A:Yd) {b:Bx} (o:b.Ok) (x y:Rat):(A.back b).has x y=true↔∃ u v,u - b.w≤x∧x≤u+b.e∧v - b.s≤y∧y≤v+b.n∧A.has u v=true:=by
 refine (A.back_has ⟨o.w,o.s,o.e,o.n⟩ x y).trans ?_
 constructor
 ·rintro ⟨u,v,h1,h2,h3,h4,h5⟩; exact ⟨u,v,by grind,by grind,by grind,by grind,h5⟩
 ·rintro ⟨u,v,h1,h2,h3,h4,h5⟩; exact ⟨u,v,by grind,by grind,by grind,by grind,h5⟩
def Yd.le (A B:Yd):Prop:=∀ x y,A.has x y=true→B.has x y=true
theorem Yd.le_refl (A:Yd):A.le A:=fun _ _ h=>h
theorem Yd.le_trans {A B C:Yd} (h:A.le B) (g:B.le C):A.le C:=fun x y q=>g x y (h x y q)
end U
namespace Z
open PySem L2
section
variable {X:Cx}{Γ:Gm}{M:Mem}{k:D→Mem→Prop}
def yF (K:Fg) (n:Nat):V→List V→Hp→VK→Prop:=fun x vs H Q=>∃ (c d:D) (ds:List D) (v:V) (j:Nat),vs=[v]∧okD n c=true∧okDs n ds=true∧Den K H c v∧Den K H (.lst ds) x∧ds[j]?=some d∧eqD d c=true∧(∀ m e,m < j→ds[m]?=some e→eqD e c=false)∧ds.length≤100000∧Q (.int (j:Int)) H
theorem r9 {n:Nat} (hu:X.A.units+(n+1) < cLine):MtR X "list.index" (yF X.K n):=by
 intro pins s σ H x vs v us Q I rx rv h
 obtain ⟨c,d,ds,u,j,rfl,okc,okd,dc,dx,hj,he,hno,hl,q⟩:=h
 obtain ⟨w,rfl,rw'⟩:=vals1 rv
 obtain ⟨a,its,ws,rfl,it,rs,dn⟩:=dC I dx rx
 obtain ⟨⟨cls,dd,data,sl⟩,ho,hc,nn,hd⟩:=id it
 have hc':cls = .type "list" := hc
 have hd':data = .seq its.toArray nn:=hd
 subst hc' hd'
 have le:ds.length=its.length:=by rw [dn.len,rs.length]
 have hjl:j < ds.length:=(List.getElem?_eq_some_iff.mp hj).1
 refine PySem.call_meets PySem.F.slot_list_index ⟨_,ho,rfl⟩ PySem.F.entry_list_index (PySem.F.args_list_index_2 _ _) (SeqAt.list_indexAt a its.toArray nn dd sl w (eOf ds its c) j (by simp; omega) (by omega) ?_ ?_) ⟨ho,fun y hy => ?_,?_⟩
 ·have e1:its[j]?=some (its[j]'(by omega)):=List.getElem?_eq_getElem (by omega)
  exact (vL I okd dn rs e1 hj).trans he
 ·intro m hm hlt
  have e1:its[m]?=some (its[m]'(by omega)):=List.getElem?_eq_getElem (by omega)
  have e2:ds[m]?=some (ds[m]'(by omega)):=List.getElem?_eq_getElem (by omega)
  exact (vL I okd dn rs e1 e2).trans (hno m _ hlt e2)
 ·obtain ⟨j,hj⟩:=List.getElem?_of_mem (show y∈its by simpa using hy)
  have hlt:j < ws.length:=by rw [rs.length]; exact (List.getElem?_eq_some_iff.mp hj).1
  obtain ⟨u2,e2,r1⟩:=rs.get (List.getElem?_eq_getElem hlt)
  rw [hj] at e2; cases e2
  obtain ⟨e,e2,q2⟩:=dn.get' (List.getElem?_eq_getElem hlt)
  rw [vL I okd dn rs hj e2]
  exact eqAt_D I e n c _ u y w X.A.in1 (cC okd e2) okc q2 dc r1 rw' (by show X.A.units+1+n < cLine; omega)
 ·exact ⟨.int _,H,I.tok _,⟨_,rfl⟩,q⟩
theorem rA {K:Fg}{n:Nat}{c d:D}{ds:List D}{j:Nat} (okc:okD n c=true) (okd:okDs n ds=true) (hj:ds[j]?=some d) (he:eqD d c=true) (hno:∀ m e,m < j→ds[m]?=some e→eqD e c=false) (hl:ds.length≤100000) (h:k (.int (j:Int)) M):OpM K (yF K n) (.lst ds) [c] M k:=fun G H v vs Q rl e e2 q=>by
 obtain ⟨u,rfl,du⟩:=dens1 e2
 exact ⟨c,d,ds,u,j,rfl,okc,okd,du.up rl.same,e.up rl.same,hj,he,hno,hl,q _ _ _ _ _ (Stp.refl rl) dD h⟩
end
end Z
set_option exponentiation.threshold 500
namespace Q
open PySem L2 Z U
def sgn1 (s:Bool):Str:=⟨#[R.sg s]⟩
theorem aCO:sgn1 true=("#" : Str):=by decide +kernel
theorem aHU:sgn1 false=("." : Str):=by decide +kernel
theorem aHB (l:List Nat) (b:Nat):cutS (R.ofL l) none (some (b:Int))=R.ofL (l.take b):=by
 have:=aFJ l b
 unfold cutD at this
 unfold cutS cutL R.ofL
 rw [← this]
theorem aBI (l:List Nat) (e:Nat) (h:e≤l.length):cutS (R.ofL l) (some (e:Int)) none=R.ofL (l.drop e):=by
 have:=dB l e h
 unfold cutD at this
 unfold cutS cutL R.ofL
 rw [← this]
theorem aBA (s:Bool) (n:Nat):repS (sgn1 s) n=R.ofL (List.replicate n (R.sg s)):=eU (by
 rw [i5]
 show (List.replicate n [R.sg s]).flatten=List.replicate n (R.sg s)
 induction n with
 | zero=>rfl
 | succ n ih=>rw [List.replicate_succ,List.flatten_cons,ih]; rfl)
theorem xG (a b:List Nat):R.ofL a++R.ofL b=R.ofL (a++b):=eU (by
 show ((R.ofL a).cps++(R.ofL b).cps).toList=_
 rw [Array.toList_append]; rfl)
def sW (l:List Nat) (c b e:Nat):List Nat:=l.take b++List.replicate (e - b) c++l.drop e
def xW:Ct:=fun ds M k=>∃ (l:List Nat) (s:Bool) (b e:Nat),ds=[.str (R.ofL l), .str (sgn1 s), .int (b:Int), .int (e:Int)]∧b≤e∧e≤l.length∧l.length≤1000∧k (.str (R.ofL (sW l (R.sg s) b e))) M
theorem aHP {l:List Nat}{c b e:Nat} (h1:b≤e) (h2:e≤l.length) (j:Nat):(sW l c b e)[j]?=if b≤j∧j < e then some c else l[j]?:=by
 unfold sW
 have t1:(l.take b).length=b:=by rw [List.length_take]; omega
 have t2:(l.take b++List.replicate (e - b) c).length=e:=by rw [List.length_append,t1,List.length_replicate]; omega
 by_cases hb:j < b
 ·rw [if_neg (by omega),List.append_assoc,List.getElem?_append_left (by omega),List.getElem?_take_of_lt hb]
 ·by_cases he:j < e
  ·rw [if_pos (by omega),List.getElem?_append_left (by omega),List.getElem?_append_right (by omega),t1,List.getElem?_replicate,if_pos (by omega)]
  ·rw [if_neg (by omega),List.getElem?_append_right (by omega),t2,List.getElem?_drop]
   congr 1; omega
def nZ (c:Nat) (z:Str) (bs es:List Nat) (i j:Nat):Bool:=(List.range i).any fun p=>decide (R.atS z p=c) && (decide (bs.getD p 0≤j) && decide (j < es.getD p 0))
def eZ (s:Bool) (z:Str) (bs es:List Nat) (wd i:Nat):List Nat:=(List.range wd).map fun j=>R.sg (if nZ (R.sg s) z bs es i j then s else !s)
theorem nJ (s:Bool) (z:Str) (bs es:List Nat) (wd i:Nat):(eZ s z bs es wd i).length=wd:=by unfold eZ; rw [List.length_map,List.length_range]
theorem aFW (s:Bool) (z:Str) (bs es:List Nat) (wd:Nat):eZ s z bs es wd 0=List.replicate wd (R.sg (!s)):=by
 unfold eZ
 refine List.eq_replicate_iff.mpr ⟨by simp,fun b hb => ?_⟩
 obtain ⟨j,_,rfl⟩:=List.mem_map.mp hb
 rfl
theorem pS (c:Nat) (z:Str) (bs es:List Nat) (i j:Nat):nZ c z bs es (i+1) j=(nZ c z bs es i j || (decide (R.atS z i=c) && (decide (bs.getD i 0≤j) && decide (j < es.getD i 0)))):=by
 unfold nZ
 rw [List.range_succ,List.any_append]
 simp
theorem aC9 {s:Bool}{z:Str}{bs es:List Nat}{wd i:Nat} (h:R.atS z i≠R.sg s):eZ s z bs es wd (i+1)=eZ s z bs es wd i:=by
 unfold eZ
 refine List.map_congr_left fun j _ => ?_
 rw [pS,decide_eq_false h,Bool.false_and,Bool.or_false]
theorem aAP {s:Bool}{z:Str}{bs es:List Nat}{wd i:Nat} (h:R.atS z i=R.sg s) (h1:bs.getD i 0≤es.getD i 0) (h2:es.getD i 0≤wd):sW (eZ s z bs es wd i) (R.sg s) (bs.getD i 0) (es.getD i 0)=eZ s z bs es wd (i+1):=by
 refine List.ext_getElem? fun j => ?_
 rw [aHP h1 (by rw [nJ]; exact h2)]
 unfold eZ
 rw [List.getElem?_map,List.getElem?_map]
 by_cases hj:j < wd
 ·rw [List.getElem?_range hj,Option.map_some,Option.map_some,pS,decide_eq_true h]
  by_cases hc:bs.getD i 0≤j∧j < es.getD i 0
  ·rw [if_pos hc,decide_eq_true hc.1,decide_eq_true hc.2]
   simp
  ·rw [if_neg hc]
   have:(decide (bs.getD i 0≤j) && decide (j < es.getD i 0))=false:=by
    rw [Bool.and_eq_false_iff,decide_eq_false_iff_not,decide_eq_false_iff_not]
    omega
   rw [this,Bool.and_false,Bool.or_false]
 ·rw [if_neg (by omega),List.getElem?_eq_none (by simpa using hj)]; rfl
def natI (l:List Nat):List D:=l.map fun (n:Nat)=>D.int (n:Int)
def sH:Ct:=fun ds M k=>∃ (z:Str) (s:Bool) (bs es:List Nat) (wd:Nat),ds=[.str z, .str (sgn1 s), .lst (natI bs), .lst (natI es), .int (wd:Int)]∧bs.length=z.length∧es.length=z.length∧(∀ i,i < z.length→bs.getD i 0≤es.getD i 0∧es.getD i 0≤wd)∧wd≤1000∧z.length≤1000∧k (.str (R.ofL (eZ s z bs es wd z.length))) M
theorem yB {l:List Nat}{i:Nat} (h:i < l.length):atI (natI l) (i:Int)=some (.int ((l.getD i 0:Nat):Int)):=cW (by
 unfold natI
 rw [List.getElem?_map,List.getD_eq_getElem?_getD,List.getElem?_eq_getElem h]; rfl)
theorem aJV (c:Nat) (s:Bool):decide ((⟨#[c]⟩:Str)=sgn1 s)=decide (c=R.sg s):=by
 rw [decide_eq_decide]
 constructor
 ·intro h; unfold sgn1 at h; injection h with h; simpa using h
 ·intro h; rw [h]; rfl
def posQ (xs:List Rat) (w:Rat):Nat:=(ix xs w).toNat
theorem qC {xs:List Rat} (u:Up xs) {w:Rat} (h:w∈xs):∃ hp:posQ xs w < xs.length,xs[posQ xs w]=w:=by
 obtain ⟨j,hj,rfl⟩:=List.getElem_of_mem h
 have e:posQ xs xs[j]=j:=by unfold posQ; rw [fX u hj]; rfl
 exact ⟨by rw [e]; exact hj,by simp only [e]⟩
theorem tR {xs:List Rat} (u:Up xs) {w:Rat} (h:w∈xs) {j:Nat} (hj:j < xs.length):posQ xs w≤j↔w≤xs[j]:=by
 obtain ⟨hp,e⟩:=qC u h
 have:=U.jP u hp hj
 rw [e] at this
 exact this.symm
def begL (ws:List Rat) (dn up:Rat):List Nat:=0::(lowQ ws dn).map (posQ (finQ ws dn up))
def endL (ws:List Rat) (dn up:Rat):List Nat:=(uppQ ws up).map (posQ (finQ ws dn up))++[(finQ ws dn up).length - 1]
theorem aDT (ws:List Rat) (dn up:Rat):(begL ws dn up).length=ws.length+1:=by unfold begL lowQ; simp
theorem aC0 (ws:List Rat) (dn up:Rat):(endL ws dn up).length=ws.length+1:=by unfold endL uppQ; simp
theorem aEZ (ws:List Rat) (dn up:Rat):(begL ws dn up).getD 0 0=0:=rfl
theorem zM {ws:List Rat}{dn up:Rat}{i:Nat} (h:i < ws.length):(begL ws dn up).getD (i+1) 0=posQ (finQ ws dn up) (ws[i] - dn):=by
 unfold begL lowQ
 rw [List.getD_cons_succ,List.getD_eq_getElem?_getD,List.getElem?_map,List.getElem?_map,List.getElem?_eq_getElem h]; rfl
theorem zX {ws:List Rat}{dn up:Rat}{i:Nat} (h:i < ws.length):(endL ws dn up).getD i 0=posQ (finQ ws dn up) (ws[i]+up):=by
 unfold endL uppQ
 rw [List.getD_eq_getElem?_getD,List.getElem?_append_left (by simpa using h),List.getElem?_map,List.getElem?_map,List.getElem?_eq_getElem h]; rfl
theorem uP (ws:List Rat) (dn up:Rat):(endL ws dn up).getD ws.length 0=(finQ ws dn up).length - 1:=by
 unfold endL uppQ
 rw [List.getD_eq_getElem?_getD,List.getElem?_append_right (by simp)]
 simp
def dotZ (z:Str):Str:=R.ofL (46::z.cps.toList++[46])
theorem tJ (z:Str):(dotZ z).length=z.length+2:=by
 unfold dotZ
 rw [R.eN]
 simp only [List.cons_append,List.length_cons,List.length_append,Array.length_toList,List.length_nil]
 have:z.cps.size=z.length:=rfl
 omega
theorem aFK {ws:List Rat}{dn up:Rat} (u:Up ws) (hd:0≤dn) (hu:0≤up) (h2:2≤ws.length) {i:Nat} (hi:i≤ws.length):(begL ws dn up).getD i 0≤(endL ws dn up).getD i 0∧(endL ws dn up).getD i 0≤(finQ ws dn up).length - 1:=by
 have v:=eP u dn up
 have fb:=iT u dn up
 have last:∀ w∈finQ ws dn up,posQ (finQ ws dn up) w≤(finQ ws dn up).length - 1:=fun w hw=>by obtain ⟨h,_⟩:=qC v hw; omega
 by_cases hl:i=ws.length
 ·subst hl
  rw [uP]
  refine ⟨?_,Nat.le_refl _⟩
  obtain ⟨k,hk⟩:∃ k,ws.length=k+1:=⟨ws.length - 1,by omega⟩
  rw [hk,zM (by omega)]
  exact last _ (iR (by omega))
 ·have hi':i < ws.length:=by omega
  rw [zX hi']
  refine ⟨?_,last _ (iS hi')⟩
  cases i with
  | zero=>rw [aEZ]; exact Nat.zero_le _
  | succ i =>
   rw [zM (by omega)]
   obtain ⟨hp,e⟩:=qC v (iS (dn:=dn) (up:=up) hi')
   rw [tR v (iR (by omega)) hp,e]
   have:=(U.i3 u (show i < ws.length by omega) hi').mpr (by omega)
   grind
theorem aIS {n:Nat}{z:Str} (g:R.Good n [z]) {p:Nat} (hp:p≤n+1) (s:Bool):R.atS (dotZ z) p=R.sg s↔R.aR [z] ((p:Int) - 1) 0=s:=by
 have hl:z.length=n:=(g z (by simp)).1
 have hd:(dotZ z).cps.toList=46::z.cps.toList++[46]:=rfl
 have hz:z.cps.toList.length=n:=by rw [Array.length_toList]; exact hl
 have ga:=R.cA (z:=dotZ z) (j:=p) (by rw [tJ]; omega)
 rw [hd] at ga
 have sgi:∀ b:Bool,R.sg b=R.sg s↔b=s:=fun b=>by cases b <;> cases s <;> decide
 by_cases h0:p=0
 ·subst h0
  rw [R.cS (by omega)]
  have:R.atS (dotZ z) 0=R.sg false:=(Option.some.inj ga).symm
  rw [this]; exact sgi _
 ·obtain ⟨q,rfl⟩:∃ q,p=q+1:=⟨p - 1,by omega⟩
  rw [show (((q+1:Nat):Int) - 1)=(q:Int) by omega]
  by_cases hq:q < n
  ·have e:R.atS (dotZ z) (q+1)=R.atS z q:=by
    have a2:=R.cA (z:=z) (j:=q) (by omega)
    rw [List.cons_append,List.getElem?_cons_succ,List.getElem?_append_left (by omega),a2] at ga
    exact (Option.some.inj ga).symm
   have h2:=R.lH g (List.mem_singleton.mpr rfl) hq
   rw [e,R.eB (z:=z) (c:=R.atS z q) (by omega) (by omega) rfl (by rw [Int.toNat_natCast]; exact R.cA (by omega))]
   rcases h2 with h2 | h2 <;> rw [h2] <;> cases s <;> decide
  ·have e:q=n:=by omega
   rw [jJ (fun z hz=>(g z hz).1) (by omega)]
   have:R.atS (dotZ z) (q+1)=R.sg false:=by
    rw [List.cons_append,List.getElem?_cons_succ,List.getElem?_append_right (by omega),hz,e,Nat.sub_self] at ga
    rw [e]; exact (Option.some.inj ga).symm
   rw [this]; exact sgi _
theorem aA3 {ws:List Rat}{dn up:Rat}{z:Str}{s:Bool} (u:Up ws) (hd:0≤dn) (hu:0≤up) (h2:2≤ws.length) (g:R.Good (ws.length - 1) [z]):R.ofL (eZ s (dotZ z) (begL ws dn up) (endL ws dn up) ((finQ ws dn up).length - 1) (ws.length+1))=bR s ws dn up z:=by
 have v:=eP u dn up
 unfold eZ bR
 congr 1
 refine List.ext_getElem? fun j => ?_
 rw [List.getElem?_map,List.getElem?_map]
 by_cases hj:j < (finQ ws dn up).length - 1
 ·have hj':j < (finQ ws dn up).length:=by omega
  have hjd:j < (finQ ws dn up).dropLast.length:=by rw [List.length_dropLast]; exact hj
  rw [List.getElem?_range hj,List.getElem?_eq_getElem hjd,List.getElem_dropLast,Option.map_some,Option.map_some]
  congr 2
  have key:nZ (R.sg s) (dotZ z) (begL ws dn up) (endL ws dn up) (ws.length+1) j=true↔hit s ws dn up (fun i=>R.aR [z] i 0) (finQ ws dn up)[j]:=by
   rw [lB u hd hu]
   unfold nZ hitP
   rw [List.any_eq_true]
   have conv:∀ p,p≤ws.length→((decide (R.atS (dotZ z) p=R.sg s) && (decide ((begL ws dn up).getD p 0≤j) && decide (j < (endL ws dn up).getD p 0)))=true↔(R.aR [z] ((p:Int) - 1) 0=s∧(∀ i (hi:i < ws.length),i+1=p→ws[i] - dn≤(finQ ws dn up)[j])∧∀ hp:p < ws.length,(finQ ws dn up)[j] < ws[p]+up)):=fun p hp=>by
    rw [Bool.and_eq_true,Bool.and_eq_true,decide_eq_true_iff,decide_eq_true_iff,decide_eq_true_iff,aIS g (by omega)]
    refine and_congr Iff.rfl (and_congr ?_ ?_)
    ·cases p with
     | zero=>rw [aEZ]; exact ⟨fun _ i _ q=>by omega,fun _=>Nat.zero_le _⟩
     | succ p =>
      rw [zM (by omega),tR v (iR (by omega)) hj']
      refine ⟨fun h i hi q => ?_,fun h=>h p (by omega) rfl⟩
      obtain rfl:i=p:=by omega
      exact h
    ·by_cases hl:p=ws.length
     ·subst hl
      rw [uP]
      exact ⟨fun _ q=>absurd q (Nat.lt_irrefl _),fun _=>hj⟩
     ·have hp':p < ws.length:=by omega
      have:=tR v (iS (dn:=dn) (up:=up) hp') hj'
      rw [zX hp']
      constructor
      ·intro h _; have:¬ ws[p]+up≤(finQ ws dn up)[j]:=fun q=>by have:=this.mpr q; omega
       grind
      ·intro h; have h':=h hp'
       refine Nat.lt_of_not_le fun q => ?_
       have:=this.mp q; grind
   constructor
   ·rintro ⟨p,hp,h⟩
    have hp':=List.mem_range.mp hp
    exact ⟨p,by omega,(conv p (by omega)).mp h⟩
   ·rintro ⟨p,hp,h⟩
    exact ⟨p,List.mem_range.mpr (by omega),(conv p hp).mpr h⟩
  unfold gro
  by_cases hh:hit s ws dn up (fun i=>R.aR [z] i 0) (finQ ws dn up)[j]
  ·rw [if_pos hh,key.mpr hh]; rfl
  ·rw [if_neg hh,if_neg (fun q=>hh (key.mp q))]
 ·rw [List.getElem?_eq_none (by simpa using hj),List.getElem?_eq_none (by simpa using hj)]; rfl
theorem aGF (p:Int):Rat.divInt p 1=(p:Rat):=by
 rw [Rat.divInt_eq_div]
 show (p:Rat) / (1:Rat)=p
 grind
def aD1:Ct:=fun ds M k=>∃ xs ys:List Rat,ds=[.lst (aL xs), .lst (aL ys)]∧BqL xs∧BqL ys∧xs.length≤100∧ys.length≤100∧k (.lst (aL (aY xs ys))) M
def t8:Ct:=fun ds M k=>aDQ ds M k∨aD1 ds M k
def aEY:Ct:=fun ds M k=>∃ (p:Int) (t:Rat),ds=[.int p,numD t]∧p.natAbs < 1000∧Bq t∧k (numD ((p:Rat) * t)) M
structure Gr (ws:List Rat) (dn up:Rat):Prop where
 u:Up ws
 d0:0≤dn
 u0:0≤up
 b:BqL ws
 bd:Bq dn
 bu:Bq up
 lo:BqL (lowQ ws dn)
 hi:BqL (uppQ ws up)
 len:ws.length≤90
def aBJ:Ct:=fun ds M k=>∃ (ws:List Rat) (r:D) (zs:List Str) (s:Bool) (dn up:Rat),ds=[.tup (aL ws),r, .str (sgn1 s),numD dn,numD up]∧(r = .tup (zs.map .str)∨r = .lst (zs.map .str))∧Gr ws dn up∧R.Good (ws.length - 1) zs∧(zs=[]∨2≤ws.length)∧zs.length≤300∧k (.tup [.lst (aL (finQ ws dn up)), .lst ((zs.map (bR s ws dn up)).map .str)]) M
def p8:Ct:=fun ds M k=>∃ (A:Yd) (s:Bool) (a b c d:Rat),ds=[yd A, .str (sgn1 s), .tup [numD a,numD b,numD c,numD d]]∧Gr A.ws a c∧Gr A.us b d∧k (yd (A.grow s a b c d)) M
def bxP (p q r s:Int) (t:Rat):Bx:=⟨(p:Rat) * t,(q:Rat) * t,(r:Rat) * t,(s:Rat) * t⟩
structure CutOk (A:Yd) (p q r s:Int) (t:Rat):Prop where
 hp:p.natAbs < 1000
 hq:q.natAbs < 1000
 hr:r.natAbs < 1000
 hs:s.natAbs < 1000
 ht:Bq t
 xc:Gr A.ws (bxP p q r s t).e (bxP p q r s t).w
 yc:Gr A.us (bxP p q r s t).n (bxP p q r s t).s
 xb:Gr A.ws (bxP p q r s t).w (bxP p q r s t).e
 yb:Gr A.us (bxP p q r s t).s (bxP p q r s t).n
def iY (p q r s:Int):D := .tup [.int p, .int q, .int r, .int s]
def zQ:Ct:=fun ds M k=>∃ (A:Yd) (p q r s:Int) (t:Rat),ds=[yd A,iY p q r s,numD t]∧CutOk A p q r s t∧k (yd (A.back (bxP p q r s t))) M
theorem aE6 (A:Yd) (s:Bool) {a b c d:Rat} (n:Nn a b c d):gF (aL (finQ A.ws a c)) (aL (finQ A.us b d)) (R.aE ((R.aE (A.K.map (bR s A.ws a c))).map (bR s A.us b d)))=yd (A.grow s a b c d):=by
 rw [sD s A n]
 exact wJ (eP A.uw a c) (eP A.uu b d) (dJ _ _ _) (eV _ _ _)
theorem rF {xs:List Rat} (u:Up xs) {w:Rat} (h:w∈xs):(aL xs)[posQ xs w]?=some (numD w)∧∀ m e,m < posQ xs w→(aL xs)[m]?=some e→eqD e (numD w)=false:=by
 obtain ⟨hp,e⟩:=qC u h
 unfold aL
 refine ⟨by rw [List.getElem?_map,List.getElem?_eq_getElem hp,e]; rfl,fun m d hm hd => ?_⟩
 rw [List.getElem?_map,List.getElem?_eq_getElem (by omega)] at hd
 rw [← Option.some.inj hd,f8]
 refine decide_eq_false fun q => ?_
 have:=(U.i3 u (show m < xs.length by omega) hp).mpr hm
 rw [e,q] at this
 exact Rat.lt_irrefl this
theorem o6 (xs:List Rat):okDs 1 (aL xs)=true:=by
 unfold aL
 induction xs with
 | nil=>rfl
 | cons x xs ih=>rw [List.map_cons]; simp only [okDs,Bool.and_eq_true]; exact ⟨rfl,ih⟩
end Q
set_option exponentiation.threshold 500
namespace Q
open PySem L2 Z U
theorem hB (A B:Yd) (x y:Rat):(Yd.op aEW A B).has x y=(A.has x y && B.has x y):=Yd.op_has rfl A B x y
theorem hE (A B:Yd) (x y:Rat):(Yd.op aHI A B).has x y=(A.has x y || B.has x y):=Yd.op_has rfl A B x y
theorem hL (A B:Yd) (x y:Rat):(Yd.op aEQ A B).has x y=(A.has x y && !B.has x y):=Yd.op_has rfl A B x y
theorem in1 (A B:Yd):Yd.op aEQ (Yd.op aEW A B) A=Yd.void:=Yd.ext' fun x y=>by rw [hL,hB,Yd.void_has]; cases A.has x y <;> cases B.has x y <;> rfl
structure Y8 (A:Yd):Prop where
 x:FrL 6 100000000000 A.ws
 y:FrL 6 100000000000 A.us
 lx:A.ws.length≤7
 ly:A.us.length≤7
structure S8 (S:List Rat):Prop where
 len:S.length≤30
 fr:FrL 6 100000000000 S
structure O8 (Sx Sy:List Rat) (A:Yd):Prop where
 on:On Sx Sy A
 sx:S8 Sx
 sy:S8 Sy
theorem O8.op {Sx Sy:List Rat}{A B:Yd} (a:O8 Sx Sy A) (b:O8 Sx Sy B) (p:Bool→Bool→Bool):O8 Sx Sy (Yd.op p A B):=⟨a.on.op b.on p,a.sx,a.sy⟩
theorem O8.size {Sx Sy:List Rat}{A:Yd} (a:O8 Sx Sy A):FrL 6 100000000000 A.ws∧FrL 6 100000000000 A.us∧A.ws.length≤90∧A.us.length≤90 :=
 ⟨fun w hw=>a.sx.fr w (a.on.x w hw),fun w hw=>a.sy.fr w (a.on.y w hw),Nat.le_trans (g8 A.uw a.on.x) (Nat.le_trans a.sx.len (by decide)),Nat.le_trans (g8 A.uu a.on.y) (Nat.le_trans a.sy.len (by decide))⟩
theorem aD5 {xs ys:List Int}{zs:List Str} (ux:Up7 xs) (uy:Up7 ys) (g:R.Good (xs.length - 1) zs) (hz:zs.length=ys.length - 1):(∀ w∈(dG xs ys zs ux.up uy.up g hz).ws,∃ x∈xs,w=(x:Rat))∧(∀ w∈(dG xs ys zs ux.up uy.up g hz).us,∃ x∈ys,w=(x:Rat))∧(dG xs ys zs ux.up uy.up g hz).ws.length≤7∧(dG xs ys zs ux.up uy.up g hz).us.length≤7:=by
 obtain ⟨h1,h2⟩:=Yd.ofG_ws (nM ux.up) (nM uy.up) (by rw [iN]; exact g:R.Good ((toQ xs).length - 1) zs) (by rw [iN]; exact hz)
 have fx:=ux.few
 have fy:=uy.few
 refine ⟨fun w hw => ?_,fun w hw => ?_,?_,?_⟩
 ·obtain ⟨x,hx,rfl⟩:=List.mem_map.mp (h1 w hw); exact ⟨x,hx,rfl⟩
 ·obtain ⟨x,hx,rfl⟩:=List.mem_map.mp (h2 w hw); exact ⟨x,hx,rfl⟩
 ·exact Nat.le_trans (g8 (dG xs ys zs ux.up uy.up g hz).uw h1) (by rw [iN]; exact fx)
 ·exact Nat.le_trans (g8 (dG xs ys zs ux.up uy.up g hz).uu h2) (by rw [iN]; exact fy)
end Q
set_option exponentiation.threshold 500
namespace Q
open PySem L2 Z U
theorem lV {t b:Int} (hb:0 < b):bN (lowG t b)=numD (Rat.divInt t b):=by
 rw [← aGS hb,nI _ _ (by omega)]; rfl
end Q
set_option exponentiation.threshold 500
namespace Q
open PySem L2 Z U
def PnM (M:Mem) (p:Addr) (b:Int):Prop:=∃ (ns:List Int) (st g:Int),M p=some (.lst [.fl (ns.map .int), .int st, .int g])∧0≤st∧st≤b∧0≤g
theorem PnM.mono {M:Mem}{p:Addr}{b c:Int} (h:PnM M p b) (l:b≤c):PnM M p c:=by
 obtain ⟨ns,st,g,h1,h2,h3,h4⟩:=h
 exact ⟨ns,st,g,h1,h2,by omega,h4⟩
theorem PnM.ne {M:Mem}{p a:Addr}{b:Int} (h:PnM M p b) (n:M a=none):a≠p:=fun z=>by
 obtain ⟨ns,st,g,h1,_⟩:=h
 rw [z,h1] at n; cases n
theorem PnM.new {M:Mem}{p a:Addr}{b:Int}{o:MO} (h:PnM M p b) (n:a≠p):PnM (updM M a o) p b:=by
 obtain ⟨ns,st,g,h1,h2⟩:=h
 exact ⟨ns,st,g,by rw [b8 (fun e=>n e.symm)]; exact h1,h2⟩
theorem PnM.del {M:Mem}{p a:Addr}{b:Int} (h:PnM M p b) (n:a≠p):PnM (delM M a) p b:=by
 obtain ⟨ns,st,g,h1,h2⟩:=h
 exact ⟨ns,st,g,by unfold delM; rw [if_neg (fun e=>n e.symm)]; exact h1,h2⟩
def cPen:Ct:=fun ds M k=>∃ (ns:List Int),ds=[.fl (ns.map .int)]∧∀ p M',M p=none→Le M M'→PnM M' p 0→k (.mt p) M'
def n9:Ct:=fun ds M k=>∃ (p:Addr) (n b:Int),ds=[.mt p, .int n]∧0 < n∧n < 1073741824∧PnM M p b∧b≤1000000∧∀ z M',0≤z→z < n→PnM M' p (b+1)→ButM p M M'→(∀ a,a≠p→M' a=M a)→k (.int z) M'
def xR:Ct:=fun ds M k=>∃ (p:Addr) (b gap:Int),ds=[.mt p, .int gap]∧1≤gap∧gap≤100000000∧PnM M p b∧b≤900000∧∀ xs M',Up7 xs→2≤xs.length→PnM M' p (b+20)→ButM p M M'→k (.lst (xs.map .int)) M'
def xL:Ct:=fun ds M k=>∃ (p:Addr) (b:Int) (xs ys:List Int),ds=[.mt p, .lst (xs.map .int), .lst (ys.map .int)]∧PnM M p b∧b≤900000∧2≤xs.length∧2≤ys.length∧xs.length≤20∧ys.length≤20∧∀ zs M',R.Good (xs.length - 1) zs→zs.length=ys.length - 1→PnM M' p (b+500)→ButM p M M'→k (.lst (zs.map .str)) M'
structure Pc (p:Int):Prop where
 a:1≤p
 b:p≤9
def aCP:Ct:=fun ds M k=>∃ (p:Addr) (b:Int),ds=[.mt p]∧PnM M p b∧b≤900000∧∀ e n w s M',Pc e→Pc n→Pc w→Pc s→PnM M' p (b+10)→ButM p M M'→k (iY e n w s) M'
structure Tm (t:Rat):Prop where
 p:0≤t
 n:t.num.natAbs≤1000000000000
 d:t.den≤1000000
def aET:Ct:=fun ds M k=>∃ (p:Addr) (b:Int) (xs ys:List Int) (e n w s:Int),ds=[.mt p, .lst (xs.map .int), .lst (ys.map .int),iY e n w s]∧PnM M p b∧b≤900000∧Up7 xs∧2≤xs.length∧Up7 ys∧2≤ys.length∧Pc e∧Pc n∧Pc w∧Pc s∧∀ t M',Tm t→PnM M' p (b+10)→ButM p M M'→k (numD t) M'
theorem zU {a b:Int} (hb:0 < b):Fr b.toNat a.natAbs (Rat.divInt a b):=by
 have nb:((b:Int):Rat)≠0:=fun e=>by have:=Rat.intCast_inj.mp (e.trans Rat.intCast_zero.symm); omega
 refine ⟨a,?_,Nat.le_refl _⟩
 have e:((b.toNat:Nat):Rat)=((b:Int):Rat):=by rw [← Rat.intCast_natCast,Int.toNat_of_nonneg (by omega)]
 rw [Rat.divInt_eq_div,e]
 grind
theorem tZ {a b:Int} (hb:0 < b):(Rat.divInt a b).num.natAbs≤a.natAbs∧((Rat.divInt a b).den:Int)≤b:=by
 obtain ⟨h1,h2⟩:=(zU (a:=a) hb).bd (by omega)
 exact ⟨h1,by omega⟩
theorem aBM {a b:Int} (ha:0≤a) (hb:0 < b):0≤Rat.divInt a b:=by
 rw [Rat.divInt_eq_div]
 have h1:(0:Rat) < (b:Rat):=Rat.intCast_pos.mpr hb
 have h2:(0:Rat)≤(a:Rat):=Rat.intCast_nonneg.mpr ha
 refine Rat.not_lt.mp fun q => ?_
 have:=(Rat.div_lt_iff h1).mp q
 grind
theorem vD {a b:Int} (ha:0≤a) (ha2:a≤1000000000000) (hb:0 < b) (hb2:b≤1000000):Tm (Rat.divInt a b):=by
 obtain ⟨h1,h2⟩:=tZ (a:=a) hb
 exact ⟨aBM ha hb,by omega,by omega⟩
structure Yk (m B n:Nat) (A:Yd):Prop where
 x:FrL m B A.ws
 y:FrL m B A.us
 lx:A.ws.length≤n
 ly:A.us.length≤n
structure Mk (m:Nat) (t:Rat):Prop where
 m0:0 < m
 m1:m≤100000000000000000000
 p:0≤t
 f:Fr m 100000000000000000000000000000000 t
def stp:Nat:=1000000000000000000000000000000000
theorem Mk.of {t:Rat} (h:Tm t):Mk t.den t:=⟨t.den_pos,Nat.le_trans h.d (by decide),h.p,⟨t.num,qL t,Nat.le_trans h.n (by decide)⟩⟩
theorem Mk.fr {m:Nat}{t:Rat} (h:Mk m t) {p:Int} (hp:Pc p):Fr m stp ((p:Rat) * t):=by
 obtain ⟨h1,h2⟩:=hp
 obtain ⟨k,e,hk⟩:=h.f.ex
 refine ⟨p * k,?_,?_⟩
 ·rw [Rat.mul_assoc,e,Rat.intCast_mul]
 ·rw [Int.natAbs_mul]
  exact Nat.le_trans (Nat.mul_le_mul (show p.natAbs≤9 by omega) hk) (by decide)
theorem Mk.nn {m:Nat}{t:Rat} (h:Mk m t) {p:Int} (hp:Pc p):0≤(p:Rat) * t:=Rat.mul_nonneg (Rat.intCast_nonneg.mpr (by have:=hp.a; omega)) h.p
theorem Mk.bq {m B:Nat}{t q:Rat} (h:Mk m t) (f:Fr m B q) (hB:B≤10 ^ 60):Bq q:=f.bq h.m0 (Nat.lt_of_le_of_lt h.m1 (by decide +kernel)) (Nat.lt_of_le_of_lt hB (by decide +kernel))
theorem Mk.sml {m B:Nat}{t q:Rat} (h:Mk m t) (f:Fr m B q) (hB:B≤10 ^ 60):Sml q:=by
 obtain ⟨a,b⟩:=f.bd h.m0
 exact ⟨Nat.lt_of_le_of_lt a (Nat.lt_of_le_of_lt hB (by decide +kernel)),Nat.lt_of_le_of_lt b (Nat.lt_of_le_of_lt h.m1 (by decide +kernel))⟩
theorem aBC {m B C:Nat}{ws:List Rat}{d:Rat} (h:FrL m B ws) (g:Fr m C d):FrL m (B+C) (lowQ ws d):=fun w hw=>by
 obtain ⟨v,hv,rfl⟩:=List.mem_map.mp hw
 exact (h v hv).sub g
theorem aAW {m B C:Nat}{ws:List Rat}{d:Rat} (h:FrL m B ws) (g:Fr m C d):FrL m (B+C) (uppQ ws d):=fun w hw=>by
 obtain ⟨v,hv,rfl⟩:=List.mem_map.mp hw
 exact (h v hv).add g
theorem aAC {m B C:Nat}{ws:List Rat}{d e:Rat} (h:FrL m B ws) (g:Fr m C d) (g':Fr m C e):FrL m (B+C) (finQ ws d e):=fun w hw=>by
 rcases (bM _ _ _).mp hw with q | q
 ·exact aBC h g w q
 ·exact aAW h g' w q
def far:Nat:=10 ^ 50
theorem xF {a b:Nat} (h:a≤far) (g:b≤far):a+b≤10 ^ 60:=Nat.le_trans (Nat.add_le_add h g) (by unfold far; decide +kernel)
theorem sN {m B n:Nat}{t:Rat}{ws:List Rat} (h:Mk m t) (f:FrL m B ws) (u:Up ws) (hB:B≤far) (hl:ws.length≤90) {p q:Int} (hp:Pc p) (hq:Pc q):Gr ws ((p:Rat) * t) ((q:Rat) * t) where
 u:=u
 d0:=h.nn hp
 u0:=h.nn hq
 b:=fun w hw=>h.bq (f w hw) (Nat.le_trans hB (by unfold far; decide +kernel))
 bd:=h.bq (h.fr hp) (by unfold stp; decide +kernel)
 bu:=h.bq (h.fr hq) (by unfold stp; decide +kernel)
 lo:=fun w hw=>h.bq (aBC f (h.fr hp) w hw) (xF hB (by unfold far stp; decide +kernel))
 hi:=fun w hw=>h.bq (aAW f (h.fr hq) w hw) (xF hB (by unfold far stp; decide +kernel))
 len:=hl
structure Pp (p q r s:Int):Prop where
 p:Pc p
 q:Pc q
 r:Pc r
 s:Pc s
theorem aES {m:Nat}{t:Rat} (h:Mk m t) {p q r s:Int} (o:Pp p q r s):(bxP p q r s t).Ok:=⟨h.nn o.p,h.nn o.q,h.nn o.r,h.nn o.s⟩
theorem Yk.ok {m B n:Nat}{A:Yd} (k:Yk m B n A) {t:Rat} (h:Mk m t) {p q r s:Int} (o:Pp p q r s) (hB:B≤far) (hn:n≤90):CutOk A p q r s t:=by
 have lx:=k.lx
 have ly:=k.ly
 exact ⟨by have:=o.p.a; have:=o.p.b; omega,by have:=o.q.a; have:=o.q.b; omega,by have:=o.r.a; have:=o.r.b; omega,by have:=o.s.a; have:=o.s.b; omega,
  h.bq h.f (by decide +kernel),
  sN (n:=n) h k.x A.uw hB (by omega) o.r o.p,sN (n:=n) h k.y A.uu hB (by omega) o.s o.q,sN (n:=n) h k.x A.uw hB (by omega) o.p o.r,sN (n:=n) h k.y A.uu hB (by omega) o.q o.s⟩
theorem Yk.grow {m B n:Nat}{A:Yd} (k:Yk m B n A) {a b c d:Rat} (ha:Fr m stp a) (hb:Fr m stp b) (hc:Fr m stp c) (hd:Fr m stp d) (s:Bool):Yk m (B+stp) (2 * n) (A.grow s a b c d):=by
 obtain ⟨h1,h2⟩:=A.grow_ws s a b c d
 have f1:=kB A.ws a c
 have f2:=kB A.us b d
 have l1:=g8 (A.grow s a b c d).uw h1
 have l2:=g8 (A.grow s a b c d).uu h2
 have lx:=k.lx
 have ly:=k.ly
 exact ⟨fun w hw=>aAC k.x ha hc w (h1 w hw),fun w hw=>aAC k.y hb hd w (h2 w hw),by omega,by omega⟩
theorem Yk.back {m B n:Nat}{A:Yd} (k:Yk m B n A) {t:Rat} (h:Mk m t) {p q r s:Int} (o:Pp p q r s):Yk m (B+stp) (2 * n) (A.back (bxP p q r s t)):=k.grow (h.fr o.p) (h.fr o.q) (h.fr o.r) (h.fr o.s) true
theorem Yk.tame {m B n:Nat}{A:Yd} (k:Yk m B n A) {t:Rat} (h:Mk m t) (hB:B≤far) (hn:n≤90):tameB 3 (yd A)=true:=by
 have lx:=k.lx
 have ly:=k.ly
 exact aFG (fun w hw=>h.sml (k.x w hw) (Nat.le_trans hB (by unfold far; decide +kernel))) (fun w hw=>h.sml (k.y w hw) (Nat.le_trans hB (by unfold far; decide +kernel))) (by omega) (by omega)
theorem aDW {xs ys:List Int}{zs:List Str} (ux:Up7 xs) (uy:Up7 ys) (g:R.Good (xs.length - 1) zs) (hz:zs.length=ys.length - 1) {m:Nat}{t:Rat} (h:Mk m t):Yk m 1000000000000000000000000000000 7 (dG xs ys zs ux.up uy.up g hz):=by
 obtain ⟨h1,h2,h3,h4⟩:=aD5 ux uy g hz
 have hm:=h.m1
 have key:∀ x:Int, -1000000000≤x∧x≤1000000000→Fr m 1000000000000000000000000000000 (x:Rat):=fun x hx=>Fr.int (Nat.le_trans (Nat.mul_le_mul (show x.natAbs≤1000000000 by omega) hm) (by decide))
 exact ⟨fun w hw=>by obtain ⟨x,hx,rfl⟩:=h1 w hw; exact key x (ux.bd x hx),fun w hw=>by obtain ⟨x,hx,rfl⟩:=h2 w hw; exact key x (uy.bd x hx),h3,h4⟩
theorem Yk.repr {m B n:Nat}{A:Yd} (k:Yk m B n A) {t:Rat} (h:Mk m t) (hB:B≤far) (hn:n≤90):smD (yd A)=true∧wt (yd A)≤10000000:=by
 have lx:=k.lx
 have ly:=k.ly
 obtain ⟨hw,hK⟩:=A.wide
 have g:=A.T.good.1
 have t1:∀ z∈A.K,wt (.str z)≤1000:=fun z hz=>by
  have h2:∀ c∈z.cps.toList,c < 16 ^ 8:=fun c hc=>by
   have:=(g z hz).2
   rw [List.all_eq_true] at this
   have:=this c hc
   have e:c=35∨c=46:=by simpa [R.sgn] using this
   omega
  have:=PySem.StrLaws.reprText_len z h2
  have:=hw z hz
  show (reprText z).length≤_
  omega
 have ln:∀ ws:List Rat,FrL m B ws→smDs (aL ws)=true∧wts (aL ws)≤ws.length * 141:=fun ws f=>by
  have s1:∀ d∈aL ws,smD d=true∧wt d≤139:=fun d hd=>by
   obtain ⟨q,hq,rfl⟩:=List.mem_map.mp hd
   obtain ⟨a1,a2⟩:=h.sml (f q hq) (Nat.le_trans hB (by unfold far; decide +kernel))
   refine ⟨?_,Nat.le_of_eq (by simp only [numD,bN,wt,wts])⟩
   show smD (.tup [.int q.num, .int (q.den:Int)])=true
   simp only [smD,smDs,Bool.and_true,Bool.and_eq_true,decide_eq_true_eq]
   exact ⟨a1,by rw [Int.natAbs_natCast]; exact a2⟩
  have w:=uG (B:=139) fun d hd=>(s1 d hd).2
  rw [aT] at w
  exact ⟨qV fun d hd=>(s1 d hd).1,w⟩
 obtain ⟨a1,a2⟩:=ln A.ws k.x
 obtain ⟨b1,b2⟩:=ln A.us k.y
 have c1:smDs (A.K.map D.str)=true:=qV fun d hd=>by obtain ⟨z,_,rfl⟩:=List.mem_map.mp hd; rfl
 have c2:wts (A.K.map D.str)≤A.K.length * 1002:=by
  have:=uG (B:=1000) (ds:=A.K.map D.str) fun d hd=>by obtain ⟨z,hz,rfl⟩:=List.mem_map.mp hd; exact t1 z hz
  rwa [List.length_map] at this
 unfold yd mH
 simp only [smD,smDs,wt,wts,a1,b1,c1,Bool.and_true]
 exact ⟨trivial,by omega⟩
theorem vB {A B:Yd} (e:A=B):decide ((toPy (yd A)).shown=(toPy (yd B)).shown)=true:=by subst e; exact decide_eq_true rfl
theorem aCX {z:Int} (h0:0≤z) (h1:z < 3):∃ m:Int,atI [D.int 3, .int 40, .int (10 ^ (8:Int).toNat)] z=some (.int m)∧1≤m∧m≤100000000:=by
 have:z=0∨z=1∨z=2:=by omega
 rcases this with rfl | rfl | rfl
 ·exact ⟨3,rfl,by decide,by decide⟩
 ·exact ⟨40,rfl,by decide,by decide⟩
 ·exact ⟨10 ^ (8:Int).toNat,rfl,by decide,by decide⟩
theorem aAM {z:Int} (h0:0≤z) (h1:z < 5):∃ t:Str,atI [D.str "#####.", .str "##.", .str "#.", .str "#....", .str "#"] z=some (.str t)∧1≤t.length∧t.length≤6∧t.cps.toList.all R.sgn=true:=by
 have:z=0∨z=1∨z=2∨z=3∨z=4:=by omega
 rcases this with rfl | rfl | rfl | rfl | rfl
 ·exact ⟨"#####.", rfl,by decide +kernel,by decide +kernel,by decide +kernel⟩
 ·exact ⟨"##.", rfl,by decide +kernel,by decide +kernel,by decide +kernel⟩
 ·exact ⟨"#.", rfl,by decide +kernel,by decide +kernel,by decide +kernel⟩
 ·exact ⟨"#....", rfl,by decide +kernel,by decide +kernel,by decide +kernel⟩
 ·exact ⟨"#", rfl,by decide +kernel,by decide +kernel,by decide +kernel⟩
theorem aF1 {t:Str} (h:t.cps.toList.all R.sgn=true) {j:Nat} (hj:j < t.length):R.atS t j=35∨R.atS t j=46:=by
 have e:=R.cA (z:=t) (j:=j) hj
 rw [List.all_eq_true] at h
 have:=h _ (List.mem_of_getElem? e)
 simpa [R.sgn] using this
theorem aDU {xs ys:List Int}{e n w s:Int} (ux:Up7 xs) (lx:2≤xs.length) (uy:Up7 ys) (ly:2≤ys.length) (he:Pc e) (hn:Pc n) (hw:Pc w) (hs:Pc s) {z:Int} (h0:0≤z) (h1:z < 2):∃ (ls:List Int) (a b:Int),atI [D.tup [.lst (xs.map .int), .int e, .int w], .tup [.lst (ys.map .int), .int n, .int s]] z=some (.tup [.lst (ls.map .int), .int a, .int b])∧Up7 ls∧2≤ls.length∧Pc a∧Pc b:=by
 have:z=0∨z=1:=by omega
 rcases this with rfl | rfl
 ·exact ⟨xs,e,w,rfl,ux,lx,he,hw⟩
 ·exact ⟨ys,n,s,rfl,uy,ly,hn,hs⟩
theorem qR {xs:List Int}{i:Int} (h0:0≤i) (h:i < xs.length):∃ x,xs[i.toNat]?=some x∧atI (xs.map D.int) i=some (.int x):=by
 obtain ⟨j,rfl⟩:∃ j:Nat,i=j:=⟨i.toNat,by omega⟩
 have hj:j < xs.length:=by omega
 exact ⟨xs[j],by rw [Int.toNat_natCast]; exact List.getElem?_eq_getElem hj,cW (by rw [List.getElem?_map,List.getElem?_eq_getElem hj]; rfl)⟩
theorem aG4 {xs:List Int} (u:Up7 xs) {i j:Int} (h0:0≤i) (hij:i < j) {x y:Int} (hx:xs[i.toNat]?=some x) (hy:xs[j.toNat]?=some y):0≤y - x∧y - x≤2000000000:=by
 obtain ⟨hi,rfl⟩:=List.getElem?_eq_some_iff.mp hx
 obtain ⟨hj,rfl⟩:=List.getElem?_eq_some_iff.mp hy
 have:=List.pairwise_iff_getElem.mp u.up i.toNat j.toNat hi hj (by omega)
 have a:=u.bd _ (List.getElem_mem hi)
 have b:=u.bd _ (List.getElem_mem hj)
 omega
theorem tm0:Tm 0:=⟨by decide +kernel,by decide +kernel,by decide +kernel⟩
end Q
namespace U
open PySem
def maxQ (a b:Rat):Rat:=if a < b then b else a
def minQ (a b:Rat):Rat:=if b < a then b else a
def tB (ws:List Rat) (x p q:Rat) (b:Nat):Rat :=
 if b=0 then (x - ws.getD 0 0) / p else if b < ws.length then maxQ ((x - ws.getD b 0) / p) ((ws.getD (b - 1) 0 - x) / q) else (ws.getD (b - 1) 0 - x) / q
def hRow (tx:Nat→Rat) (ty:Rat) (out:Nat→Bool):Nat→Rat→Rat
 | 0,t=>t
 | n+1,t=>if out n then minQ (hRow tx ty out n t) (maxQ (tx n) ty) else hRow tx ty out n t
def hAll (tx ty:Nat→Rat) (out:Nat→Nat→Bool) (na:Nat):Nat→Rat→Rat
 | 0,t=>t
 | m+1,t=>hRow tx (ty m) (fun a=>out a m) na (hAll tx ty out na m t)
structure Pz (p q r s:Rat):Prop where
 p:0 < p
 q:0 < q
 r:0 < r
 s:0 < s
def hgt (A:Yd) (p q r s x y:Rat):Rat:=hAll (tB A.ws x p r) (tB A.us y q s) (fun a b => !R.aR A.K ((a:Int) - 1) ((b:Int) - 1)) (A.ws.length+1) (A.us.length+1) (tB A.ws x p r 0)
structure IsH (A:Yd) (p q r s x y h:Rat):Prop where
 nn:0≤h
 i:∀ t,0 < t→(t≤h↔∀ u v,x - p * t < u→u < x+r * t→y - q * t < v→v < y+s * t→A.has u v=true)
end U
set_option exponentiation.threshold 500
namespace Q
open PySem L2 Z U
def aB3:Ct:=fun ds M k=>∃ (A:Yd) (v u:Rat),ds=[yd A,numD v,numD u]∧BqL A.ws∧BqL A.us∧A.ws.length≤100∧A.us.length≤100∧Bq v∧Bq u∧k (.str (lieS (gB A.K (cK A.ws v) (cK A.us u)))) M
structure Nm (m B:Nat):Prop where
 m0:0 < m
 m1:m≤sm
 b:B≤sm
structure Dn (m B:Nat) (q:Rat):Prop where
 n:q.num.natAbs≤2 * B
 d:q.den≤9 * m
end Q
set_option exponentiation.threshold 500
namespace Q
open PySem L2 Z U
structure Tm2 (t:Rat):Prop where
 p:0≤t
 n:t.num.natAbs≤100000000000000000000
 d:t.den≤1000000000000
def bot:Int:=200000000000000000000
structure Al (a b:Int):Prop where
 n:a.natAbs≤10 ^ 35
end Q
namespace HD
open PySem PySem.Spec PyProof.Rows L2 PySem.W
section
variable {prog:Program}{w:World}{A:Around}{E:Value→Shared→Prop}{s:Shared}
theorem zN {kvs:List (Key × Value)}{ks:List Int} (hk:kvs.map (·.1)=ks.map Sum.inl) {vs:List Value} (hl:vs.length=kvs.length) (h:∀ (j:Nat) (v:Value),vs[j]?=some v→∃ k x,kvs[j]?=some (k,x)∧(fF prog w).is k v=true):IntsAre vs ks:=by
 induction vs generalizing kvs ks with
 | nil =>
  cases kvs with
  | nil=>cases ks with
   | nil=>exact .nil
   | cons k ks=>cases hk
  | cons p r=>cases hl
 | cons v vs ih =>
  cases kvs with
  | nil=>cases hl
  | cons p r =>
   cases ks with
   | nil=>cases hk
   | cons k ks =>
    rw [List.map_cons,List.map_cons] at hk
    injection hk with h1 h2
    obtain ⟨k',x,e,hi⟩:=h 0 v rfl
    cases e
    have h1':k'=Sum.inl k:=h1
    subst h1'
    rw [yS] at hi
    have hi':Value.isInt k v=true:=hi
    have:∃ t,v=Value.int k t:=by
     cases v with
     | int i t=>exact ⟨t,by unfold Value.isInt at hi'; simp at hi'; rw [hi']⟩
     | _=>simp [Value.isInt] at hi'
    obtain ⟨t,rfl⟩:=this
    exact .cons k t (ih h2 (by simpa using hl) fun j v hj=>h (j+1) v hj)
theorem vU {d:Addr}{ks:List Int}{kvs:List (Key × Value)}{ep:Nat}{Q:Value→Shared→Prop} (hh:A.handled=none) (lo:(d == sysModules)=false) (hm:s.heap.DictAt (fF prog w) d kvs ep) (hk:kvs.map (·.1)=ks.map Sum.inl) (hn:ks.length < 64)
  (h:∀ (h1 h2:Heap) (tk:Nat) (out:Array Value) (e:Nat) (ns':List Int),(∀ b o,s.heap.get? b=some o→h1.get? b=some o)→(∀ b o,h1.get? b=some o→h2.get? b=some o)→h2.get? h1.objs.size=some (seqObj "list" out e)→IntsAre out.toList ns'→ns'.Perm ks→ns'.Pairwise (· ≤ ·)→Q (.ref h1.objs.size) { s with heap:=h2,toks:=tk }) :
  wpAny (model prog w) A (call (.builtin "sorted") [.ref d]) Q E s:=by
 have hl:kvs.length=ks.length:=by have:=congrArg List.length hk; simpa using this
 have hz:kvs.length≤sizeLine:=Nat.le_trans (by omega) (show 64≤sizeLine by decide)
 refine Calls.call_function_entry kind_sorted plain_sorted entry_sorted (args_sorted1 _) ?_
 unfold Builtin.«sorted»
 refine wpAny_bind (m:=checkCount "sorted" 1 1 _) (wpAny_pure ?_)
 refine wpAny_bind (kdu_collect (A:=A.in1) (kdl_dict (knd:=fF prog w) lo) hh hm hz fun h' tk acc hkeep hacc => ?_)
 have hal:acc.toList.length=kvs.length:=by rw [Array.length_toList]; exact hacc.1
 have hI:IntsAre acc.toList ks:=zN hk hal fun j v e=>hacc.2 j v (by rw [← Array.getElem?_toList]; exact e)
 refine wpAny_bind (wpAny_newList ?_ (by rw [hal]; exact hz))
 have hoL:(h'.push (seqObj "list" acc.toList.toArray 0)).get? h'.objs.size=some (seqObj "list" acc.toList.toArray 0):=Heap.get?_push_size _ rfl
 refine wpAny_bind (wpAny_holding (wpAny_call_entry slot_list_sort ⟨_,hoL,rfl⟩ entry_list_sort (list_sort_tree hoL hI (by omega) fun out ns' a1 a2 a3=>⟨_,rfl,?_⟩) (args_list_sort _)))
 obtain ⟨e,he⟩:=sortedHeap_at (out:=out) hoL
 refine wpAny_pure ⟨_,rfl,h h' _ tk out e ns' hkeep (fun b o hb => ?_) he a1 a2 a3⟩
 have hlt:=Heap.lt_size hb
 rw [sortedHeap_old (Nat.ne_of_lt hlt) (by rw [size_push']; exact Nat.lt_succ_of_lt hlt)]
 rw [Heap.get?_push_of_some _ hb]
end
end HD
namespace Z
open PySem L2
def kvI (ks:List Int):List (Key × V):=ks.map fun k=>(Sum.inl k,V.bl true)
def kvW (ks:List Int):List (Key × Value):=ks.map fun k=>(Sum.inl k,Value.bool true)
def kI (ks:List Int):HO := .dK (kvI ks)
def addI (ks:List Int) (k:Int):List Int:=if k∈ks then ks else ks++[k]
theorem uS (ks:List Int) (k:Int):(addI ks k).length≤ks.length+1:=by unfold addI; split <;> simp
theorem lY {ks:List Int}{k j:Int}:j∈addI ks k↔j∈ks∨j=k:=by
 unfold addI
 split
 ·constructor
  ·exact .inl
  ·rintro (h | rfl)
   ·exact h
   ·assumption
 ·simp
theorem yO:∀ {ks:List Int}{vs:List (Key × Value)},KV (kvI ks) vs→vs=kvW ks
 | [],vs,h=>by cases h; rfl
 | k::ks,vs,h=>by
  cases h with
  | cons h1 h2 =>
   rename_i q qs
   obtain ⟨a,b⟩:=h1
   have e:=yO (ks:=ks) h2
   obtain ⟨q1,q2⟩:=q
   have a':Sum.inl k=q1:=a
   have b':q2=Value.bool true:=b
   subst a' b' e
   rfl
theorem zE:∀ ks:List Int,KV (kvI ks) (kvW ks)
 | [] => .nil
 | k::ks => .cons ⟨rfl,rfl⟩ (zE ks)
theorem aCH (ks:List Int) (k:Int):stored (kvW ks) (Sum.inl k) (Value.bool true)=kvW (addI ks k):=by
 unfold stored addI
 by_cases h:k∈ks
 ·rw [if_pos h,if_pos (by rw [List.any_eq_true]; exact ⟨(Sum.inl k,Value.bool true),List.mem_map.mpr ⟨k,h,rfl⟩,by simp⟩)]
  unfold kvW
  rw [List.map_map]
  refine List.map_congr_left fun j _ => ?_
  show (if Sum.inl j=Sum.inl k then _ else _)=_
  split <;> rfl
 ·rw [if_neg h,if_neg ?_]
  ·unfold kvW; rw [List.map_append]; rfl
  ·rw [List.any_eq_true]
   rintro ⟨q,hq,e⟩
   obtain ⟨j,hj,rfl⟩:=List.mem_map.mp hq
   have:(Sum.inl j:Key)=Sum.inl k:=by simpa using e
   injection this with this
   exact h (this ▸ hj)
section
variable {K:Fg}{G H:Hp}{M:Mem}{p:Addr}
theorem Rel.newO (r:Rel K G H M) (h:H p=none) (o:HO):Stp K G H M G (upd H p o) (updM M p (.ob o)):=by
 have hG:=(r.free h).1
 refine ⟨Same.refl G,⟨fun b u q => ?_,fun a m q => ?_⟩,fun a u e1 e2 e3 => ?_⟩
 ·rw [aW (bA q hG)]; exact r.same b u q
 ·by_cases z:a=p
  ·subst z
   rw [aV] at q; cases q
   exact ⟨hG,bB⟩
  ·rw [b8 z] at q
   exact ⟨(r.mem a m q).1,(r.mem a m q).2.mv (Same.refl G) (aW z)⟩
 ·have z:a≠p:=bA e1 h
  exact ⟨by rw [aW z]; exact e1,e2,by rw [b8 z]; exact e3⟩
theorem Rel.wrO {m:MO} (r:Rel K G H M) (h:M p=some m) (o:HO):Stp K G H M G (upd H p o) (updM M p (.ob o)):=by
 have hG:=(r.mem p _ h).1
 refine ⟨Same.refl G,⟨fun b u q => ?_,fun a m q => ?_⟩,fun a u e1 e2 e3 => ?_⟩
 ·rw [aW (bA q hG)]; exact r.same b u q
 ·by_cases z:a=p
  ·subst z
   rw [aV] at q; cases q
   exact ⟨hG,bB⟩
  ·rw [b8 z] at q
   exact ⟨(r.mem a m q).1,(r.mem a m q).2.mv (Same.refl G) (aW z)⟩
 ·have z:a≠p:=fun e=>by rw [e,h] at e3; cases e3
  exact ⟨by rw [aW z]; exact e1,e2,by rw [b8 z]; exact e3⟩
end
section
variable {X:Cx}{Γ:Gm}{M:Mem}{k:D→Mem→Prop}{kg:Gm→Mem→Prop}{pos:Pos}{o:Expr}{pins:List (Addr × Obj)}{σ:St}{H:Hp}{s:Shared}
theorem aJC (I:Inv X pins σ H s):Inv X pins σ (upd H s.heap.objs.size (kI [])) { s with heap:=s.heap.push { cls := .type "dict", data := .dict #[] } }:=by
 have hb:(s.heap.objs.size == sysModules)=false:=by
  have h:mainGlobals < s.heap.objs.size:=(I.mod.glob.keeps I.bk).lt
  exact beq_eq_false_iff_ne.mpr (Ne.symm (Nat.ne_of_lt (Nat.lt_trans (by decide) h)))
 refine I.laid (a:=s.heap.objs.size) (t':=s.toks) (fun _ _ q=>Heap.get?_push_of_some _ q) (Nat.le_refl _) ?_
 exact ⟨Nat.zero_le _,hb,[],zE [],_,_,_,Heap.get?_push_size _ rfl,⟨rfl,rfl,rfl⟩,rfl,fun e he=>by simp at he, .nil, .nil⟩
theorem aD0 (h:∀ a,M a=none→k (.mt a) (updM M a (.ob (kI [])))):GE X (.Dict [] [] pos) Γ M k:=fun σ G H Q en rl q pins s I=>by
 have hf:=I.hok.fresh (Nat.le_refl s.heap.objs.size)
 refine wpAny_Dict_empty ⟨.ref s.heap.objs.size,_,aJC I,rfl,?_⟩
 exact q _ _ _ _ _ (rl.newO hf _) p6 (h _ (rl.free hf).2)
def aJQ:TSet:=fun x y v H Q=>∃ (a:Addr) (i:Int) (ks:List Int),x = .ref a∧y = .int i∧v = .bl true∧H a=some (kI ks)∧ks.length < sizeLine∧Q (upd H a (kI (addI ks i)))
theorem aIQ:PSet X aJQ:=by
 intro pins s σ H o i v ov iv u Q I ro ri rv h
 obtain ⟨a,i,ks,rfl,rfl,rfl,ha,hl,q⟩:=h
 cases (show ov=Value.ref a from ro)
 obtain ⟨t,rfl⟩:=ri
 cases (show u=Value.bool true from rv)
 obtain ⟨hz,hd,vs,kv,dd⟩:(kvI ks).length≤sizeLine∧(a == sysModules)=false∧∃ vs,KV (kvI ks) vs∧s.heap.DictOf (fF X.prog X.w) a vs:=I.hok a _ ha
 rw [yO kv] at dd
 refine wpAny_setItem_pairs (vQ _ _ i t) dd (fun h' dd' hs' => ?_) (by unfold kvW; rw [List.length_map]; omega)
 rw [aCH] at dd'
 have he:∃ q,h'.get? a=some q:=let ⟨q,_,_,hq,_⟩:=dd'; ⟨q,hq⟩
 refine ⟨_,I.write (x:=a) (e:=a) (by rw [ha]; exact True.intro) (.inl rfl) (fun b q hb z=>(hs'.2 b hb).trans z) he ?_,q⟩
 exact ⟨by unfold kvI; rw [List.length_map]; have:=uS ks i; omega,hd,kvW (addI ks i),zE _,dd'⟩
theorem aHO {i:Expr} (h:GE X o Γ M fun d1 M1=>GE X i Γ M1 fun d2 M2=>∃ a n ks,d1 = .mt a∧d2 = .int n∧M2 a=some (.ob (kI ks))∧ks.length < sizeLine∧kg Γ (updM M2 a (.ob (kI (addI ks n)))))
  (ha:∀ v,assign (.Subscript o i pos) X.env v=(do
   let ov ← holding [v] (eval o X.env)
   let iv ← holding [v,ov] (eval i X.env)
   standAt pos
   holding [v,ov,iv] (setItem ov iv v)
   release [v,ov,iv] []):=by intro _; rfl):GG X (.Subscript o i pos) (.bl true) Γ M kg:=fun σ G H v Q en rl e q=>by
 refine m8 (aAE pU pU aIQ ha) ?_
 refine h σ G H _ en rl fun v1 G1 H1 d1 M1 s1 e1 h1 => ?_
 refine h1 σ G1 H1 _ (en.up s1.gg) s1.rel fun v2 G2 H2 d2 M2 s2 e2 ⟨a,n,ks,x1,x2,hm,hl,h2⟩ => ?_
 subst x1 x2
 have s12:=s1.trans s2
 refine ⟨a,n,ks,(e1.up s2.gg).mt_,e2.int_,e.bl_,(s2.rel.mem _ _ hm).2,hl,?_⟩
 exact q _ _ _ _ _ (s12.trans (s2.rel.wrO hm _)) (en.up s12.gg) h2
def aAH:List V→Hp→VK→Prop:=fun xs H Q=>∃ (a:Addr) (ks:List Int),xs=[.ref a]∧H a=some (kI ks)∧ks.length < 64∧∀ (l:Addr) (ns:List Int),H l=none→ns.Perm ks→ns.Pairwise (· ≤ ·)→Q (.ref l) (upd H l (.lst (ns.map V.int)))
theorem jI:∀ {vs:List Value}{ns:List Int},PyProof.Rows.IntsAre vs ns→Vals (ns.map V.int) vs
 | _,_, .nil => .nil
 | _,_, .cons n t h => .cons ⟨t,rfl⟩ (jI h)
theorem vH (hh:X.A.handled=none):eW X (.builtin "sorted") aAH:=by
 intro pins s σ H xs us Q I r h
 obtain ⟨a,ks,rfl,ha,hn,q⟩:=h
 obtain ⟨u,rfl,rx⟩:=vals1 r
 cases rx
 obtain ⟨hz,hd,vs,kv,dd⟩:(kvI ks).length≤sizeLine∧(a == sysModules)=false∧∃ vs,KV (kvI ks) vs∧s.heap.DictOf (fF X.prog X.w) a vs:=I.hok a _ ha
 rw [yO kv] at dd
 obtain ⟨ob,es,ep,h1,h2,h3,h4,h5,h6⟩:=dd
 refine HD.vU (ep:=ep) hh hd ⟨ob,es,h1,h2,h3,h4,h5,h6⟩ (ks:=ks) (by unfold kvW; rw [List.map_map]; rfl) hn fun g1 g2 tk out e ns k1 k2 ho hi hp hs => ?_
 have I1:Inv X pins σ H { s with heap:=g1,toks:=tk }:=I.kept k1
 have hf:=I1.hok.fresh (Nat.le_refl g1.objs.size)
 refine ⟨.ref g1.objs.size,_,I1.laid (t':=tk) k2 (Nat.le_refl _) (show eH X.prog X.w _ g2 _ (.lst (ns.map V.int)) from ⟨?_,out.toList,e,jI hi,?_⟩),rfl,q _ ns hf hp hs⟩
 ·rw [List.length_map,hp.length_eq]; exact Nat.le_trans (by omega) (show 64≤sizeLine by decide)
 ·rw [ho]
theorem zL {K:Fg}{a:Addr}{ks:List Int} (hm:M a=some (.ob (kI ks))) (hn:ks.length < 64) (h:∀ ns:List Int,ns.Perm ks→ns.Pairwise (· ≤ ·)→k (.lst (ns.map .int)) M):OpN K aAH [.mt a] M k:=fun G H vs Q rl e q=>by
 obtain ⟨u,rfl,du⟩:=dens1 e
 rw [du.mt_]
 refine ⟨a,ks,rfl,(rl.mem _ _ hm).2,hn,fun l ns hl hp hs => ?_⟩
 have st:=rl.new (o := .lst (ns.map V.int)) hl
 exact q _ _ _ _ _ st (fD bB (Dens.of_map (fun _=>dD) ns)) (h ns hp hs)
end
end Z
set_option exponentiation.threshold 500
namespace Q
open PySem L2 Z U
theorem Yk.op {m B n l:Nat}{A B':Yd} (k:Yk m B n A) (k':Yk m B l B') (p:Bool→Bool→Bool):Yk m B (n+l) (Yd.op p A B'):=by
 have o1:On (A.ws++B'.ws) (A.us++B'.us) A:=⟨fun w hw=>List.mem_append.mpr (.inl hw),fun w hw=>List.mem_append.mpr (.inl hw)⟩
 have o2:On (A.ws++B'.ws) (A.us++B'.us) B':=⟨fun w hw=>List.mem_append.mpr (.inr hw),fun w hw=>List.mem_append.mpr (.inr hw)⟩
 have o:=o1.op o2 p
 have l1:=g8 (Yd.op p A B').uw o.x
 have l2:=g8 (Yd.op p A B').uu o.y
 rw [List.length_append] at l1 l2
 have a1:=k.lx
 have a2:=k.ly
 have b1:=k'.lx
 have b2:=k'.ly
 refine ⟨fun w hw => ?_,fun w hw => ?_,by omega,by omega⟩
 ·rcases List.mem_append.mp (o.x w hw) with h | h
  ·exact k.x w h
  ·exact k'.x w h
 ·rcases List.mem_append.mp (o.y w hw) with h | h
  ·exact k.y w h
  ·exact k'.y w h
theorem aKA {ns ks:List Int} (hp:ns.Perm ks) (hs:ns.Pairwise (· ≤ ·)) (hn:ks.Nodup):ns.Pairwise (· < ·):=by
 have hn':ns.Nodup:=hp.nodup_iff.mpr hn
 have:=List.pairwise_and_iff.mpr ⟨hs,hn'⟩
 exact this.imp fun h=>by obtain ⟨a,b⟩:=h; omega
theorem aGU {ks:List Int} (h:ks.Nodup) (k:Int):(addI ks k).Nodup:=by
 unfold addI
 split
 ·exact h
 ·rename_i hk
  rw [List.nodup_append]
  exact ⟨h,by simp,fun a ha b hb e=>by rw [List.mem_singleton] at hb; subst hb; subst e; exact hk ha⟩
theorem BSorted:bootBuiltins "sorted" = some (.builtin "sorted"):=by decide +kernel
end Q
namespace PySem
open Builtin
section
variable {prog:Program}{w:World}{A:Around}{E:Value→Shared→Prop}{s:Shared}{z TI TO i1 i2:Addr}{fp1 fp2:List Addr}{n1 n2 k:Nat}{P1 P2:Nat→Value→Prop}{S1 S2:Nat→Heap→Prop}{a b:Value}
theorem aAL {Q:Fin→Shared→Prop} (D1:Draws prog w A i1 fp1 n1 P1 S1) (D2:Draws prog w A i2 fp2 n2 P2 S2) (ap:ZAp z TI TO i1 i2 fp1 fp2)
  (hz:IsZip s.heap z TI TO .none) (hTI:IsPair s.heap TI (.ref i1) (.ref i2)) (hTO:IsPair s.heap TO a b) (s1:S1 k s.heap) (l1:k < n1) (s2:S2 n2 s.heap)
  (hE:∀ h' tk e,(∀ c o,c≠z→c≠TO→c≠i1→c≠i2→s.heap.get? c=some o→h'.get? c=some o)→(∃ o,h'.get? e=some o∧o.cls = .type "StopIteration")→E (.ref e) { s with heap:=h',toks:=tk }) :
  wpAny (model prog w) A (Builtin.«zip.__next__» ⟨[.ref z],[]⟩) Q E s:=by
 show wpAny _ _ (field (.ref z) 2 >>= _) _ _ _
 refine wpAny_bind (wpAny_field hz rfl (x := .bool false) rfl ?_)
 show wpAny _ _ (field (.ref z) 3 >>= _) _ _ _
 refine wpAny_bind (wpAny_field hz rfl (x := .ref TI) rfl ?_)
 refine wpAny_bind (wpAny_seqItems hTI rfl ?_)
 show wpAny _ _ (Builtin.SmallTypes.ownedTupleIsFree (.ref z) >>= _) _ _ _
 refine wpAny_bind ?_
 unfold Builtin.SmallTypes.ownedTupleIsFree
 refine wpAny_bind (wpAny_field hz rfl (x := .none) rfl (wpAny_pure ?_))
 simp only [if_true]
 refine wpAny_bind (wpAny_rule ?_)
 refine wpAny_bind (wpAny_field hz rfl (x := .ref TO) rfl ?_)
 refine wpAny_bind (wpAny_setField_rec hz (by simp) fun h1 hz1 hs1 => ?_)
 replace hz1:IsZip h1 z TI TO .ellipsis:=hz1
 refine wpAny_bind ?_
 simp only [List.zipIdx_cons,List.zipIdx_nil,List.forIn_cons,List.forIn_nil]
 have k1:∀ c o,c≠z→s.heap.get? c=some o→h1.get? c=some o:=fun c o h e=>hs1.extBut _ _ h e
 refine wpAny_bind (wpAny_bind (wpAny_onRaise ?_))
 show wpAny _ _ (Builtin.SmallTypes.nextOf (.ref i1) >>= _) _ _ _
 refine wpAny_bind (D1.item k _ _ _ l1 (D1.frame _ _ _ s1 fun c hc o e=>k1 c o (ap.f1 c hc).1 e) fun x h2 t2 px st2 hs2=>wpAny_pure ?_)
 have k2:∀ c o,c≠i1→h1.get? c=some o→h2.get? c=some o:=fun c o h e=>hs2.extBut _ _ h e
 have hTO2:IsPair h2 TO a b:=k2 _ _ ap.TOi1 (k1 _ _ ap.TOz hTO)
 refine wpAny_bind (wpAny_seqItems hTO2 rfl ?_)
 refine wpAny_bind (wpAny_updateSeq_pair hTO2 fun h3 hTO3 hs3 => ?_)
 replace hTO3:IsPair h3 TO x b:=hTO3
 have k3:∀ c o,c≠TO→h2.get? c=some o→h3.get? c=some o:=fun c o h e=>hs3.extBut _ _ h e
 refine wpAny_bind (wpAny_letGo (wpAny_pure ?_))
 refine wpAny_bind (wpAny_bind (wpAny_onRaise ?_))
 show wpAny _ _ (Builtin.SmallTypes.nextOf (.ref i2) >>= _) _ _ _
 refine wpAny_bind (D2.done _ _ _ (D2.frame _ _ _ s2 fun c hc o e=>k3 c o (ap.f2 c hc).2.1 (k2 c o (ap.f2 c hc).2.2 (k1 c o (ap.f2 c hc).1 e))) fun h4 e hs4 he => ?_)
 obtain ⟨oe,hoe,hce⟩:=he
 have hz4:IsZip h4 z TI TO .ellipsis:=hs4 _ _ ap.i2z.symm (k3 _ _ ap.TOz.symm (k2 _ _ ap.i1z.symm hz1))
 have hez:e≠z:=fun x=>by subst x; rw [hz4] at hoe; cases hoe; simp at hce
 refine wpAny_setField_rec hz4 (by simp) fun h5 _ hs5=>hE h5 _ e (fun c o c1 c2 c3 c4 q=>hs5.extBut _ _ c1 (hs4 _ _ c4 (k3 c o c2 (k2 c o c3 (k1 c o c1 q))))) ⟨oe,hs5.extBut _ _ hez hoe,hce⟩
theorem wA {Q:Option Value→Shared→Prop} (D1:Draws prog w A.in1 i1 fp1 n1 P1 S1) (D2:Draws prog w A.in1 i2 fp2 n2 P2 S2) (ap:ZAp z TI TO i1 i2 fp1 fp2)
  (hz:IsZip s.heap z TI TO .none) (hTI:IsPair s.heap TI (.ref i1) (.ref i2)) (hTO:IsPair s.heap TO a b) (s1:S1 k s.heap) (l1:k < n1) (s2:S2 n2 s.heap)
  (hQ:∀ h' tk,(∀ c o,c≠z→c≠TO→c≠i1→c≠i2→s.heap.get? c=some o→h'.get? c=some o)→Q none { s with heap:=h',toks:=tk }):wpAny (model prog w) A (pyNext (.ref z)) Q E s:=by
 have hT:s.TypeIs (.ref z) "zip" := ⟨_,hz,rfl⟩
 unfold pyNext
 refine wpAny_bind (wpAny_attempt (wpAny_callSpecial?_slot (name:=Str.ofString "__next__") hT F.slot_zip_next
  (wpAny_call_entry F.slot_zip_next hT F.entry_zip_next (aAL D1 D2 ap hz hTI hTO s1 l1 s2 fun h' tk e hk he => ?_) (F.args_zip_next_1 _))))
 obtain ⟨o,ho,hc⟩:=he
 refine wpAny_bind (wpAny_isInstance (T := "StopIteration") (b:=true) ⟨o,ho,hc⟩ isSubtype_stop ?_)
 exact wpAny_pure (hQ _ _ hk)
end
end PySem
namespace L2
open PySem PySem.Spec PyProof.Rows
section
variable {X:Cx}
def Izt (K:PySem.W.Frag) (a b:Addr):It:=⟨fun i H=>∃ xs ys x y,SqL K H a xs∧SqL K H b ys∧xs[i]?=some x∧ys[i]?=some y,fun i H v H'=>∃ T x y,H T=none∧v = .ref T∧H'=upd H T (.tup [x,y])∧(∀ xs,SqL K H a xs→xs[i]?=some x)∧(∀ ys,SqL K H b ys→ys[i]?=some y),fun i H=>∃ xs ys,SqL K H a xs∧SqL K H b ys∧i < xs.length∧ys.length=i⟩
theorem aCE {P:Program}{w:World}{K:PySem.W.Frag}{elts:List Expr}{kk:Nat}{tp:Pos} (a b z TI TO i1 i2:Addr) (ap0:ZAp z TI TO i1 i2 [i1] [i2]) (hTT:TI≠TO∧TI≠i1∧TI≠i2) :
  Turn P w K (.Tuple elts kk tp) (Izt K a b) [z,TI,TO,i1,i2] z (fun i h=>IsZip h z TI TO .none∧IsPair h TI (.ref i1) (.ref i2)∧(∃ a b,IsPair h TO a b)∧h.IsListIter i1 a i∧h.IsListIter i2 b i) where
 mem:=by simp
 obj:=fun i h st b hb=>by
  obtain ⟨hz,hTI,⟨a1,b1,hTO⟩,⟨o1,ho1,hc1,hd1⟩,o2,ho2,hc2,hd2⟩:=st
  simp only [List.mem_cons,List.not_mem_nil,or_false] at hb
  rcases hb with rfl | rfl | rfl | rfl | rfl
  ·exact ⟨_,hz,fun v q=>by cases q⟩
  ·exact ⟨_,hTI,fun v q=>by cases q⟩
  ·exact ⟨_,hTO,fun v q=>by cases q⟩
  ·exact ⟨o1,ho1,fun v q=>by rw [hd1] at q; cases q⟩
  ·exact ⟨o2,ho2,fun v q=>by rw [hd2] at q; cases q⟩
 keep:=fun i h h' st k=>by
  obtain ⟨hz,hTI,⟨a1,b1,hTO⟩,⟨o1,ho1,r1⟩,o2,ho2,r2⟩:=st
  exact ⟨k z (by simp) _ hz,k TI (by simp) _ hTI,⟨a1,b1,k TO (by simp) _ hTO⟩,⟨o1,k i1 (by simp) o1 ho1,r1⟩,o2,k i2 (by simp) o2 ho2,r2⟩
 item:=by
  intro X hP hw hK hc i pins s σ H E I hf st hg
  subst hP hw hK
  obtain ⟨hz,hTI,⟨a1,b1,hTO⟩,hi1,hi2⟩:=st
  obtain ⟨xs,ys,x,y,hqx,hqy,hx,hy⟩:=hg
  obtain ⟨itx,rvx,ptx,hzx⟩:=I.list hqx
  obtain ⟨ity,rvy,pty,hzy⟩:=I.list hqy
  obtain ⟨o1,ho1,hc1,hd1⟩:=id hi1
  obtain ⟨o2,ho2,hc2,hd2⟩:=id hi2
  have n1:∀ {a its},s.heap.IsList a its→a≠z∧a≠TO∧a≠i1∧a≠i2:=fun hl=>⟨gY hl hz (by simp),gY hl hTO (by simp),gY hl ho1 (by rw [hc1]; simp),gY hl ho2 (by rw [hc2]; simp)⟩
  have na:=n1 ptx.isList
  have nb:=n1 pty.isList
  have ap:ZAp z TI TO i1 i2 [i1,a] [i2,b]:=⟨ap0.TIz,ap0.TOz,ap0.i1z,ap0.i2z,ap0.TOi1,ap0.TOi2,ap0.i12,
   fun c hc=>by
    rcases List.mem_cons.mp hc with rfl | hc
    ·exact ap0.f1 _ (by simp)
    ·rw [List.mem_singleton] at hc; subst hc; exact ⟨na.1,na.2.1,na.2.2.2⟩,
   fun c hc=>by
    rcases List.mem_cons.mp hc with rfl | hc
    ·exact ap0.f2 _ (by simp)
    ·rw [List.mem_singleton] at hc; subst hc; exact ⟨nb.1,nb.2.1,nb.2.2.1⟩⟩
  have D1:=Draws.list (prog:=X.prog) (w:=X.w) (A:=X.A.in1) (I.ok.hd hc) i1 a na.2.2.1 itx.toArray
  have D2:=Draws.list (prog:=X.prog) (w:=X.w) (A:=X.A.in1) (I.ok.hd hc) i2 b nb.2.2.2 ity.toArray
  have l1:i < itx.toArray.size:=by rw [List.size_toArray,← rvx.length]; exact (List.getElem?_eq_some_iff.mp hx).1
  have l2:i < ity.toArray.size:=by rw [List.size_toArray,← rvy.length]; exact (List.getElem?_eq_some_iff.mp hy).1
  refine vS D1 D2 ap hz hTI hTO ⟨hi1,ptx.isList⟩ ⟨hi2,pty.isList⟩ l1 l2 fun p q h1 tk hp hq hz1 hTO1 hs1 hs2 hT hsz hk => ?_
  obtain ⟨u,hu,ru⟩:=rvx.get hx
  obtain ⟨v,hv,rv⟩:=rvy.get hy
  have ep:p=u:=by
   have e3:itx[i]?=some p:=by simpa using hp
   rw [hu] at e3; exact (Option.some.inj e3).symm
  have eq:q=v:=by
   have e3:ity[i]?=some q:=by simpa using hq
   rw [hv] at e3; exact (Option.some.inj e3).symm
  subst ep eq
  refine ⟨_,rfl,wpAny_letOwnedTupleGo_zip hz1 fun h2 hz2 hs => ?_⟩
  have lz:=Heap.lt_size hz
  have lTO:=Heap.lt_size hTO
  have lTI:=Heap.lt_size hTI
  have li1:=Heap.lt_size ho1
  have li2:=Heap.lt_size ho2
  have up:∀ b o,b≠z→h1.get? b=some o→h2.get? b=some o:=fun b o n e=>hs.extBut _ _ n e
  have tup2:h2.get? s.heap.objs.size=some { cls := .type "tuple", data := .seq #[p,q] }:=up _ _ (Nat.ne_of_gt lz) hT
  have k2:∀ b ob,b ∉ [z,TI,TO,i1,i2]→s.heap.get? b=some ob→h2.get? b=some ob:=fun b ob hb q=>by
   simp only [List.mem_cons,List.not_mem_nil,or_false,not_or] at hb
   exact up b ob hb.1 (hk b ob hb.1 hb.2.2.1 hb.2.2.2.1 hb.2.2.2.2 q)
  have I2:Inv X pins σ (upd H s.heap.objs.size (.tup [x,y])) { s with heap:=h2,toks:=tk }:=I.turnedT k2 hf (Nat.le_refl _) ⟨(show 2≤sizeLine by decide),[p,q], .cons ru (.cons rv .nil),_,tup2,rfl,0,rfl⟩
  have hn:H s.heap.objs.size=none:=I.hok.fresh (Nat.le_refl _)
  refine ⟨.ref s.heap.objs.size,_,I2,rfl,⟨s.heap.objs.size,x,y,hn,rfl,rfl,fun xs' q'=>by rw [I.list_inj q' hqx]; exact hx,fun ys' q'=>by rw [I.list_inj q' hqy]; exact hy⟩,⟨hz2,up _ _ ap.TIz (hk _ _ ap.TIz hTT.1 hTT.2.1 hTT.2.2 hTI),⟨_,_,up _ _ ap.TOz hTO1⟩,?_,?_⟩,fun b hb => ?_⟩
  ·obtain ⟨o,e,r⟩:=hs1.1
   exact ⟨o,up _ _ ap.i1z e,r⟩
  ·obtain ⟨o,e,r⟩:=hs2.1
   exact ⟨o,up _ _ ap.i2z e,r⟩
  ·rw [aW (fun e => ?_)]
   ·exact (hf b hb).1
   ·simp only [List.mem_cons,List.not_mem_nil,or_false] at hb
    rcases hb with y | y | y | y | y <;> rw [y] at e
    ·exact absurd e (Nat.ne_of_lt lz)
    ·exact absurd e (Nat.ne_of_lt lTI)
    ·exact absurd e (Nat.ne_of_lt lTO)
    ·exact absurd e (Nat.ne_of_lt li1)
    ·exact absurd e (Nat.ne_of_lt li2)
 done:=by
  intro X hP hw hK hc i pins s σ H E I hf st hg
  subst hP hw hK
  obtain ⟨hz,hTI,⟨a1,b1,hTO⟩,hi1,hi2⟩:=st
  obtain ⟨xs,ys,hqx,hqy,hlt,hlen⟩:=hg
  obtain ⟨itx,rvx,ptx,hzx⟩:=I.list hqx
  obtain ⟨ity,rvy,pty,hzy⟩:=I.list hqy
  obtain ⟨o1,ho1,hc1,hd1⟩:=id hi1
  obtain ⟨o2,ho2,hc2,hd2⟩:=id hi2
  have n1:∀ {a its},s.heap.IsList a its→a≠z∧a≠TO∧a≠i1∧a≠i2:=fun hl=>⟨gY hl hz (by simp),gY hl hTO (by simp),gY hl ho1 (by rw [hc1]; simp),gY hl ho2 (by rw [hc2]; simp)⟩
  have na:=n1 ptx.isList
  have nb:=n1 pty.isList
  have ap:ZAp z TI TO i1 i2 [i1,a] [i2,b]:=⟨ap0.TIz,ap0.TOz,ap0.i1z,ap0.i2z,ap0.TOi1,ap0.TOi2,ap0.i12,
   fun c hc=>by
    rcases List.mem_cons.mp hc with rfl | hc
    ·exact ap0.f1 _ (by simp)
    ·rw [List.mem_singleton] at hc; subst hc; exact ⟨na.1,na.2.1,na.2.2.2⟩,
   fun c hc=>by
    rcases List.mem_cons.mp hc with rfl | hc
    ·exact ap0.f2 _ (by simp)
    ·rw [List.mem_singleton] at hc; subst hc; exact ⟨nb.1,nb.2.1,nb.2.2.1⟩⟩
  have D1:=Draws.list (prog:=X.prog) (w:=X.w) (A:=X.A.in1) (I.ok.hd hc) i1 a na.2.2.1 itx.toArray
  have D2:=Draws.list (prog:=X.prog) (w:=X.w) (A:=X.A.in1) (I.ok.hd hc) i2 b nb.2.2.2 ity.toArray
  have l1:i < itx.toArray.size:=by rw [List.size_toArray,← rvx.length]; exact hlt
  have hn:ity.toArray.size=i:=by rw [List.size_toArray,← rvy.length]; exact hlen
  subst hn
  refine wA D1 D2 ap hz hTI hTO ⟨hi1,ptx.isList⟩ l1 ⟨hi2,pty.isList⟩ fun h2 tk hx=>⟨rfl,I.turnedL (t':=tk) (ch:=[z,TO,i1,i2]) (fun b ob hb q=>hx b ob (fun e=>hb (by simp [e])) (fun e=>hb (by simp [e])) (fun e=>hb (by simp [e])) (fun e=>hb (by simp [e])) q) fun b hb=>hf b ?_⟩
  simp only [List.mem_cons,List.not_mem_nil,or_false] at hb
  rcases hb with y | y | y | y <;> rw [y] <;> simp
 self:=fun A i s Q E st h=>wpAny_pyIter_zip st.1 h
def aKI (K:PySem.W.Frag) (ta:TA):TI:=fun σ H R=>ta σ H fun vs H1=>∃ a b xs ys,vs=[.ref a, .ref b]∧SqL K H1 a xs∧SqL K H1 b ys∧R (Izt K a b) H1
theorem aG7 {elts:List Expr}{kk:Nat}{tp:Pos}{a b:Expr}{ta:TA}{p pos:Pos} (hg:Gl X "zip") (hm:X.mg "zip" = none) (hv:bootBuiltins "zip" = some (.type "zip")) (ha:PA X [a,b] ta) (hs:starEach [a,b] X.env=[(false,eval a X.env),(false,eval b X.env)]:=by rfl) (hs2:starEach [b] X.env=[(false,eval b X.env)]:=by rfl) :
  PI X (.Tuple elts kk tp) (.Call (.Name "zip" p) [a,b] [] pos) (aKI X.K ta):=by
 intro pins s σ H R I h
 refine Call_ (j5 I hg hm hv (PyProof.Rows.callWith_type1 (thn (ha pos pins s σ H _ I h) fun us s1 ⟨vs,H1,I1,r1,q1⟩ => ?_) (by rw [hs,hs2]) (by rw [hs2]; rfl)))
 obtain ⟨c,d,xs,ys,e,hqx,hqy,q⟩:=q1
 subst e
 obtain ⟨v1,v2,rfl,ru1,ru2⟩:=vals2 r1
 cases ru1
 cases ru2
 obtain ⟨itx,rvx,ptx,hzx⟩:=I1.list hqx
 obtain ⟨ity,rvy,pty,hzy⟩:=I1.list hqy
 refine call_zip_2 ptx.isList pty.isList fun h' hz hTI hTO h1 h2 hsz hk => ?_
 have I2:Inv X pins σ H1 { s1 with heap:=h' }:=I1.kept (t':=s1.toks) hk
 refine wpAny_pyIter_zip hz ?_
 refine ⟨_,[s1.heap.objs.size+4,s1.heap.objs.size+2,s1.heap.objs.size+3,s1.heap.objs.size,s1.heap.objs.size+1],_,Izt X.K c d,H1,rfl,I2,aCE c d (s1.heap.objs.size+4) (s1.heap.objs.size+2) (s1.heap.objs.size+3) s1.heap.objs.size (s1.heap.objs.size+1) (aF7 _) (aDN _),⟨hz,hTI,⟨_,_,hTO⟩,h1,h2⟩,fun c hc => ?_,q⟩
 have hle:s1.heap.objs.size≤c:=by
  simp only [List.mem_cons,List.not_mem_nil,or_false] at hc
  rcases hc with h | h | h | h | h <;> rw [h] <;> first | exact Nat.le_refl _ | exact Nat.le_add_right _ _
 exact I1.fpOk hle (I1.hok.fresh hle)
end
end L2
namespace Z
open PySem L2
section
variable {X:Cx}{Γ:Gm}{M:Mem}{k:D→Mem→Prop}{pos:Pos}{a b:Expr}{rest:List Expr}
theorem aHE {K:Fg}{a b:Addr}{vs us:List V}{ds es:List D}{G0:Hp} (s1:SqL K G0 a vs) (d1:Dens K G0 ds vs) (s2:SqL K G0 b us) (d2:Dens K G0 es us) (hl:ds.length=es.length+1):YD K (Izt K a b) (zipD ds es) G0 where
 go:=fun i G H M sg rl h=>by
  unfold zipD at h
  rw [List.length_map,List.length_zip] at h
  have h1:=d1.len
  have h2:=d2.len
  exact ⟨vs,us,vs[i]'(by omega),us[i]'(by omega),rl.same.seq (sg.seq s1),rl.same.seq (sg.seq s2),List.getElem?_eq_getElem _,List.getElem?_eq_getElem _⟩
 yld:=fun i G H M v H' sg rl h z=>by
  obtain ⟨T,x,y,hT,rfl,rfl,hx,hy⟩:=z
  obtain ⟨c,hc,ec⟩:=d1.get' (hx vs (rl.same.seq (sg.seq s1)))
  obtain ⟨d,hd,ed⟩:=d2.get' (hy us (rl.same.seq (sg.seq s2)))
  have st:=rl.new (o := .tup [x,y]) hT
  refine ⟨_, .tup [c,d],st,?_,iQ (SqT.of bB) (cJ ((ec.up sg).up st.gg) (cJ ((ed.up sg).up st.gg) cQ))⟩
  unfold zipD
  have e:(ds.zip es)[i]?=some (c,d):=List.getElem?_zip_eq_some.mpr ⟨hc,hd⟩
  rw [List.getElem?_map,e]
  rfl
 stop:=fun i G H M sg rl h=>by
  unfold zipD at h
  rw [List.length_map,List.length_zip] at h
  have h1:=d1.len
  have h2:=d2.len
  exact ⟨vs,us,rl.same.seq (sg.seq s1),rl.same.seq (sg.seq s2),by omega,by omega⟩
theorem aFH {elts:List Expr}{kk:Nat}{tp p:Pos}{ki:List D→Mem→Prop} (hm:X.mg "zip" = none) (hv:bootBuiltins "zip" = some (.type "zip")) (h:GA X [a,b] Γ M fun ds M1=>∃ xs ys,ds=[.lst xs, .lst ys]∧xs.length=ys.length+1∧ki (zipD xs ys) M1) (hg:Gl X "zip" := by rfl)
  (hs:starEach [a,b] X.env=[(false,eval a X.env),(false,eval b X.env)]:=by rfl) (hs2:starEach [b] X.env=[(false,eval b X.env)]:=by rfl) :
  GI X (.Tuple elts kk tp) (.Call (.Name "zip" p) [a,b] [] pos) Γ M ki:=fun σ G H Rr en rl q=>by
 refine kZ (aG7 hg hm hv pUA hs hs2) ?_
 refine h σ G H _ en rl fun vs G1 H1 ds M1 s1 e1 ⟨xs,ys,ed,hl,h1⟩ => ?_
 subst ed
 obtain ⟨v,u,rfl,dv,du⟩:=dens2 e1
 obtain ⟨c,vs,ev,sv,dn⟩:=dv.lst_
 obtain ⟨d,us,eu,su,dm⟩:=du.lst_
 exact ⟨c,d,vs,us,by rw [ev,eu],SqL.of (s1.rel.same _ _ sv),SqL.of (s1.rel.same _ _ su),q _ _ _ _ _ s1 (aHE (SqL.of sv) dn (SqL.of su) dm hl) h1⟩
end
end Z
set_option exponentiation.threshold 500
namespace Q
open PySem L2 Z U
def mids:List Int→List Int
 | a::b::r=>(a+b)::mids (b::r)
 | _=>[]
theorem wU:∀ {b:Int}{r:List Int},(b::r).Pairwise (· < ·)→∀ m∈mids (b::r),2 * b < m
 | b,[],_,m,hm=>by unfold mids at hm; cases hm
 | b,c::r,h,m,hm=>by
  obtain ⟨h1,h2⟩:=List.pairwise_cons.mp h
  have hbc:=h1 c (by simp)
  rw [mids] at hm
  rcases List.mem_cons.mp hm with rfl | hm
  ·omega
  ·have:=wU h2 m hm; omega
theorem uO:∀ {l:List Int},l.Pairwise (· < ·)→∀ m∈mids l,∀ k∈l,2 * k≠m
 | [],_,m,hm,k,hk=>by cases hk
 | [a],_,m,hm,k,hk=>by unfold mids at hm; cases hm
 | a::b::r,h,m,hm,k,hk=>by
  obtain ⟨h1,h2⟩:=List.pairwise_cons.mp h
  have hab:=h1 b (by simp)
  rw [mids] at hm
  rcases List.mem_cons.mp hm with rfl | hm'
  ·rcases List.mem_cons.mp hk with rfl | hk
   ·omega
   ·rcases List.mem_cons.mp hk with rfl | hk
    ·omega
    ·have:=(List.pairwise_cons.mp h2).1 k hk; omega
  ·rcases List.mem_cons.mp hk with rfl | hk
   ·have:=wU h2 m hm'; omega
   ·exact uO h2 m hm' k hk
theorem xO {B:Int}:∀ {l:List Int},(∀ k∈l, -B≤k∧k≤B)→∀ m∈mids l, -(2 * B)≤m∧m≤2 * B
 | [],h,m,hm=>by unfold mids at hm; cases hm
 | [a],h,m,hm=>by unfold mids at hm; cases hm
 | a::b::r,h,m,hm=>by
  rw [mids] at hm
  rcases List.mem_cons.mp hm with rfl | hm
  ·have:=h a (by simp); have:=h b (by simp); omega
  ·exact xO (fun k hk=>h k (List.mem_cons_of_mem _ hk)) m hm
theorem lS:∀ l:List Int,(mids l).length=l.length - 1
 | []=>rfl
 | [a]=>rfl
 | a::b::r=>by rw [mids,List.length_cons,lS (b::r)]; simp
theorem uD:∀ {l:List Int}{i:Nat}{a b:Int},l[i]?=some a→l[i+1]?=some b→(mids l)[i]?=some (a+b)
 | [],i,a,b,h,_=>by simp at h
 | [c],i,a,b,_,h=>by simp at h
 | c::d::r,0,a,b,h,g=>by
  simp at h g
  rw [mids,h,g]; rfl
 | c::d::r,i+1,a,b,h,g=>by
  rw [mids,List.getElem?_cons_succ]
  exact uD (l:=d::r) (by simpa using h) (by simpa using g)
def ends (ns:List Int) (a b:Int):List Int:=(a - 2)::(ns++[b+2])
theorem aGV {ns:List Int} (h:ns.Pairwise (· < ·)) {a b:Int} (ha:∀ x∈ns,a≤x) (hb:∀ x∈ns,x≤b) (hab:a≤b):(ends ns a b).Pairwise (· < ·):=by
 unfold ends
 rw [List.pairwise_cons,List.pairwise_append]
 refine ⟨fun x hx => ?_,h,List.pairwise_singleton _ _,fun x hx y hy => ?_⟩
 ·rcases List.mem_append.mp hx with hx | hx
  ·have:=ha x hx; omega
  ·rw [List.mem_singleton] at hx; omega
 ·rw [List.mem_singleton] at hy; have:=hb x hx; omega
structure MidOf (xs vs:List Int) (t:Rat) (m:Int):Prop where
 off:∀ x∈xs,∀ v∈vs,2 * (x * (t.den:Int)+v * t.num)≠m
 bd : -10000000000000000≤m∧m≤10000000000000000
theorem aAJ (t:Rat):(0:Rat) < ((2 * (t.den:Int):Int):Rat):=Rat.intCast_pos.mpr (by have:=t.den_pos; omega)
theorem aDJ (t:Rat):((t.den:Int):Rat)=(t.den:Rat):=Rat.intCast_natCast _
theorem yA (t:Rat) (x v:Int):((x:Rat)+(v:Rat) * t) * ((2 * (t.den:Int):Int):Rat)=((x * (2 * (t.den:Int))+v * (2 * t.num):Int):Rat):=by
 have e:=qL t
 rw [Rat.intCast_add,Rat.intCast_mul x,Rat.intCast_mul v,Rat.intCast_mul 2 t.num,Rat.intCast_mul 2 (t.den:Int),aDJ]
 generalize (t.den:Rat)=d at *
 rw [← e]
 grind
theorem aAK {t:Rat}{m x v:Int}:Rat.divInt m (2 * (t.den:Int)) < (x:Rat)+(v:Rat) * t↔m < x * (2 * (t.den:Int))+v * (2 * t.num):=by
 rw [Rat.divInt_eq_div,Rat.div_lt_iff (aAJ t),yA,Rat.intCast_lt_intCast]
theorem aA8 {t:Rat}{m x v:Int}:(x:Rat)+(v:Rat) * t < Rat.divInt m (2 * (t.den:Int))↔x * (2 * (t.den:Int))+v * (2 * t.num) < m:=by
 rw [Rat.divInt_eq_div,Rat.lt_div_iff (aAJ t),yA,Rat.intCast_lt_intCast]
theorem pL {t:Rat}{m x v:Int} (h:2 * (x * (t.den:Int)+v * t.num)≠m):Rat.divInt m (2 * (t.den:Int))≠(x:Rat)+(v:Rat) * t:=fun e=>by
 have h1:¬ (m < x * (2 * (t.den:Int))+v * (2 * t.num)):=fun q=>by have:=aAK.mpr q; grind
 have h2:¬ (x * (2 * (t.den:Int))+v * (2 * t.num) < m):=fun q=>by have:=aA8.mpr q; grind
 have h3:x * (2 * (t.den:Int))+v * (2 * t.num)=2 * (x * (t.den:Int)+v * t.num):=by grind
 omega
theorem aCD {t:Rat} (ht:Tm t) {m:Int} (h : -10000000000000000≤m∧m≤10000000000000000):Bq (Rat.divInt m (2 * (t.den:Int))):=by
 have hd:=ht.d
 have hp:=t.den_pos
 obtain ⟨h1,h2⟩:=tZ (a:=m) (b:=2 * (t.den:Int)) (by omega)
 exact ⟨Nat.lt_of_le_of_lt (show _≤10000000000000000 by omega) (by decide +kernel),Nat.lt_of_le_of_lt (show _≤2000000 by omega) (by decide +kernel)⟩
theorem aGB {A:Yd}{x y:Rat} (hx:x ∉ A.ws) (hy:y ∉ A.us):lieS (gB A.K (cK A.ws x) (cK A.us y))=if A.has x y=true then ("in" : Str) else "out" := by
 rw [rW hx,rW hy]
 show lieS [R.aR A.K (ix A.ws x) (ix A.us y)]=_
 show _=if R.aR A.K (ix A.ws x) (ix A.us y)=true then _ else _
 cases R.aR A.K (ix A.ws x) (ix A.us y) <;> rfl
theorem aFY {xs:List Int}{i:Nat} (h:i < (toQ xs).length):(toQ xs)[i]=((xs.getD i 0:Int):Rat):=by
 unfold toQ at h ⊢
 rw [List.length_map] at h
 rw [List.getElem_map,List.getD_eq_getElem?_getD,List.getElem?_eq_getElem h]; rfl
theorem n0 {xs:List Int} (u:xs.Pairwise (· < ·)) {q:Rat}{k:Nat} (hk:k+1 < xs.length):ix (toQ xs) q=(k:Int)↔((xs.getD k 0:Int):Rat)≤q∧q < ((xs.getD (k+1) 0:Int):Rat):=by
 have uq:=nM u
 have l:=iN xs
 have a1:=c9 (x:=q) uq (i:=k) (by omega)
 have a2:=c9 (x:=q) uq (i:=k+1) (by omega)
 rw [aFY] at a1 a2
 constructor
 ·intro e
  rw [e] at a1 a2
  exact ⟨a1.mpr (by omega),Rat.not_le.mp fun z=>by have:=a2.mp z; omega⟩
 ·rintro ⟨h1,h2⟩
  have b1:=a1.mp h1
  have b2:¬ ((k+1:Nat):Int)≤ix (toQ xs) q:=fun z=>by have:=a2.mpr z; grind
  omega
theorem aBO {xs ys:List Int}{zs:List Str} (hx:xs.Pairwise (· < ·)) (hy:ys.Pairwise (· < ·)) (g:R.Good (xs.length - 1) zs) (hz:zs.length=ys.length - 1) (x y:Rat):(dG xs ys zs hx hy g hz).has x y=R.aR zs (ix (toQ xs) x) (ix (toQ ys) y):=Yd.ofG_has _ _ _ _ x y
theorem aC4 {n:Nat}{zs:List Str} (g:R.Good n zs) {a u:Int} (h:R.aR zs a u=true):0≤a∧a < n∧0≤u∧u < zs.length:=by
 obtain ⟨h1,h2,z,hz,hc⟩:=R.d9.mp h
 have q1:=(List.getElem?_eq_some_iff.mp hz).1
 have q2:=(List.getElem?_eq_some_iff.mp hc).1
 have q3:=(g z (List.mem_of_getElem? hz)).1
 rw [Array.length_toList] at q2
 have q4:z.cps.size=z.length:=rfl
 exact ⟨h2,by omega,h1,by omega⟩
theorem sB {xs ys:List Int}{zs:List Str} (hx:xs.Pairwise (· < ·)) (hy:ys.Pairwise (· < ·)) (g:R.Good (xs.length - 1) zs) (hz:zs.length=ys.length - 1) (x y:Rat):(dG xs ys zs hx hy g hz).has x y=true↔∃ j k:Nat,j+1 < ys.length∧k+1 < xs.length∧R.aR zs (k:Int) (j:Int)=true∧(((xs.getD k 0:Int):Rat)≤x∧x < ((xs.getD (k+1) 0:Int):Rat))∧((ys.getD j 0:Int):Rat)≤y∧y < ((ys.getD (j+1) 0:Int):Rat):=by
 rw [aBO]
 constructor
 ·intro h
  obtain ⟨a1,a2,a3,a4⟩:=aC4 g h
  obtain ⟨k,hk⟩:∃ k:Nat,ix (toQ xs) x=k:=⟨(ix (toQ xs) x).toNat,by omega⟩
  obtain ⟨j,hj⟩:∃ k:Nat,ix (toQ ys) y=k:=⟨(ix (toQ ys) y).toNat,by omega⟩
  rw [hk,hj] at h
  exact ⟨j,k,by omega,by omega,h,(n0 hx (by omega)).mp hk,(n0 hy (by omega)).mp hj⟩
 ·rintro ⟨j,k,hj,hk,hc,h1,h2⟩
  rw [(n0 hx hk).mpr h1,(n0 hy hj).mpr h2]
  exact hc
theorem strip {a c X W E:Rat} (hac:a < c) (hw:0≤W) (he:0≤E):(∃ u,a≤u∧u < c∧u - W≤X∧X≤u+E)↔a - W≤X∧X < c+E:=by
 constructor
 ·rintro ⟨u,h1,h2,h3,h4⟩
  exact ⟨by grind,by grind⟩
 ·rintro ⟨h1,h2⟩
  rcases Rat.le_total (a:=a) (b:=X - E) with h | h
  ·exact ⟨X - E,h,by grind,by grind,by grind⟩
  ·exact ⟨a,by grind,hac,by grind,by grind⟩
theorem n8 {xs:List Int} (u:xs.Pairwise (· < ·)) {k:Nat} (h:k+1 < xs.length):((xs.getD k 0:Int):Rat) < ((xs.getD (k+1) 0:Int):Rat):=by
 rw [Rat.intCast_lt_intCast,List.getD_eq_getElem?_getD,List.getD_eq_getElem?_getD,List.getElem?_eq_getElem h,List.getElem?_eq_getElem (by omega)]
 exact List.pairwise_iff_getElem.mp u k (k+1) (by omega) h (by omega)
theorem yJ {xs ys:List Int}{zs:List Str} (hx:xs.Pairwise (· < ·)) (hy:ys.Pairwise (· < ·)) (g:R.Good (xs.length - 1) zs) (hz:zs.length=ys.length - 1) {b:Bx} (o:b.Ok) (x y:Rat):((dG xs ys zs hx hy g hz).back b).has x y=true↔∃ j k:Nat,j+1 < ys.length∧k+1 < xs.length∧R.aR zs (k:Int) (j:Int)=true∧(((xs.getD k 0:Int):Rat) - b.w≤x∧x < ((xs.getD (k+1) 0:Int):Rat)+b.e)∧((ys.getD j 0:Int):Rat) - b.s≤y∧y < ((ys.getD (j+1) 0:Int):Rat)+b.n:=by
 rw [Yd.back_iff _ o]
 constructor
 ·rintro ⟨u,v,h1,h2,h3,h4,h5⟩
  obtain ⟨j,k,hj,hk,hc,⟨k1,k2⟩,j1,j2⟩:=(sB hx hy g hz u v).mp h5
  exact ⟨j,k,hj,hk,hc,(strip (n8 hx hk) o.w o.e).mp ⟨u,k1,k2,h1,h2⟩,(strip (n8 hy hj) o.s o.n).mp ⟨v,j1,j2,h3,h4⟩⟩
 ·rintro ⟨j,k,hj,hk,hc,hX,hY⟩
  obtain ⟨u,k1,k2,h1,h2⟩:=(strip (n8 hx hk) o.w o.e).mpr hX
  obtain ⟨v,j1,j2,h3,h4⟩:=(strip (n8 hy hj) o.s o.n).mpr hY
  exact ⟨u,v,h1,h2,h3,h4,(sB hx hy g hz u v).mpr ⟨j,k,hj,hk,hc,⟨k1,k2⟩,j1,j2⟩⟩
def HitR (xs ys:List Int) (zs:List Str) (e n w s:Int) (t:Rat) (mx my:Int) (j k:Nat):Prop:=(ys.getD j 0 * (2 * (t.den:Int)) - n * 2 * t.num < my∧my < ys.getD (j+1) 0 * (2 * (t.den:Int))+s * 2 * t.num)∧R.aR zs (k:Int) (j:Int)=true∧xs.getD k 0 * (2 * (t.den:Int)) - e * 2 * t.num < mx∧mx < xs.getD (k+1) 0 * (2 * (t.den:Int))+w * 2 * t.num
def Reached (xs ys:List Int) (zs:List Str) (e n w s:Int) (t:Rat) (mx my:Int):Prop:=∃ j k:Nat,j < zs.length∧k < xs.length - 1∧HitR xs ys zs e n w s t mx my j k
def vs28 (a b:Int):List Int:=[0,0 - a,b]
theorem fM {xs:List Int}{k:Nat} (h:k < xs.length):xs.getD k 0∈xs:=by
 rw [List.getD_eq_getElem?_getD,List.getElem?_eq_getElem h]; exact List.getElem_mem h
theorem sO {xs:List Int}{a b:Int}{t:Rat}{m:Int} (h:MidOf xs (vs28 a b) t m) {x:Int} (hx:x∈xs):x * (2 * (t.den:Int)) - a * 2 * t.num < m↔(x:Rat) - (a:Rat) * t≤Rat.divInt m (2 * (t.den:Int)):=by
 have o:=pL (h.off x hx (0 - a) (by simp [vs28]))
 have l:=aA8 (t:=t) (m:=m) (x:=x) (v:=0 - a)
 rw [show x * (2 * (t.den:Int)) - a * 2 * t.num=x * (2 * (t.den:Int))+(0 - a) * (2 * t.num) by grind,← l]
 have e:(x:Rat)+((0 - a:Int):Rat) * t=(x:Rat) - (a:Rat) * t:=by rw [Rat.intCast_sub]; grind
 rw [e] at o ⊢
 grind
theorem sP {xs:List Int}{a b:Int}{t:Rat}{m x:Int}:m < x * (2 * (t.den:Int))+b * 2 * t.num↔Rat.divInt m (2 * (t.den:Int)) < (x:Rat)+(b:Rat) * t:=by
 rw [aAK,show x * (2 * (t.den:Int))+b * 2 * t.num=x * (2 * (t.den:Int))+b * (2 * t.num) by grind]
theorem uV {xs ys:List Int}{zs:List Str} (hx:xs.Pairwise (· < ·)) (hy:ys.Pairwise (· < ·)) (g:R.Good (xs.length - 1) zs) (hz:zs.length=ys.length - 1) {e n w s:Int}{t:Rat} (o:(bxP e n w s t).Ok) {mx my:Int} (px:MidOf xs (vs28 e w) t mx) (py:MidOf ys (vs28 n s) t my):((dG xs ys zs hx hy g hz).back (bxP e n w s t)).has (Rat.divInt mx (2 * (t.den:Int))) (Rat.divInt my (2 * (t.den:Int)))=true↔Reached xs ys zs e n w s t mx my:=by
 rw [yJ hx hy g hz o]
 constructor
 ·rintro ⟨j,k,hj,hk,hc,⟨a1,a2⟩,b1,b2⟩
  exact ⟨j,k,by omega,by omega,⟨(sO py (fM (by omega))).mpr b1,(sP (xs:=ys) (a:=n)).mpr b2⟩,hc,(sO px (fM (by omega))).mpr a1,(sP (xs:=xs) (a:=e)).mpr a2⟩
 ·rintro ⟨j,k,hj,hk,⟨b1,b2⟩,hc,a1,a2⟩
  exact ⟨j,k,by omega,by omega,hc,⟨(sO px (fM (by omega))).mp a1,(sP (xs:=xs) (a:=e)).mp a2⟩,(sO py (fM (by omega))).mp b1,(sP (xs:=ys) (a:=n)).mp b2⟩
theorem zR {xs:List Int}{ws:List Rat} (hw:∀ w∈ws,w∈toQ xs) {a b:Int}{t:Rat}{m:Int} (h:MidOf xs (vs28 a b) t m) {vs:List Rat} (hv:∀ v∈vs,v∈finQ ws ((a:Rat) * t) ((b:Rat) * t)):Rat.divInt m (2 * (t.den:Int)) ∉ vs:=fun q=>by
 obtain ⟨v,hv1,hv2⟩:=aGN (hv _ q)
 obtain ⟨x,hx,rfl⟩:=List.mem_map.mp (hw v hv1)
 rcases hv2 with e | e
 ·refine pL (h.off x hx (0 - a) (by simp [vs28])) (e.trans ?_)
  rw [Rat.intCast_sub]; grind
 ·exact pL (h.off x hx b (by simp [vs28])) e
theorem aCZ {xs ys:List Int}{zs:List Str} (hx:xs.Pairwise (· < ·)) (hy:ys.Pairwise (· < ·)) (g:R.Good (xs.length - 1) zs) (hz:zs.length=ys.length - 1):(∀ w∈(dG xs ys zs hx hy g hz).ws,w∈toQ xs)∧∀ w∈(dG xs ys zs hx hy g hz).us,w∈toQ ys:=Yd.ofG_ws _ _ _ _
theorem aG8 (A:Yd) (e n w s:Int):A.back (bxP e n w s 0)=A∧A.cut (bxP e n w s 0)=A:=by
 have z:∀ p:Int,(p:Rat) * 0=0:=fun p=>by grind
 have o:(bxP e n w s 0).Ok:=by unfold bxP; simp only [z]; exact ⟨by decide,by decide,by decide,by decide⟩
 have c:∀ x y:Rat,(A.cut (bxP e n w s 0)).has x y=true↔A.has x y=true:=fun x y=>by
  rw [Yd.cut_iff A o]
  unfold bxP
  simp only [z]
  constructor
  ·intro h; exact h x y (by grind) (by grind) (by grind) (by grind)
  ·intro h u v h1 h2 h3 h4
   have:u=x:=by grind
   have:v=y:=by grind
   subst u v; exact h
 have b:∀ x y:Rat,(A.back (bxP e n w s 0)).has x y=true↔A.has x y=true:=fun x y=>by
  rw [Yd.back_iff A o]
  unfold bxP
  simp only [z]
  constructor
  ·rintro ⟨u,v,h1,h2,h3,h4,h5⟩
   have:u=x:=by grind
   have:v=y:=by grind
   subst u v; exact h5
  ·intro h; exact ⟨x,y,by grind,by grind,by grind,by grind,h⟩
 exact ⟨Yd.ext' fun x y=>Bool.eq_iff_iff.mpr (b x y),Yd.ext' fun x y=>Bool.eq_iff_iff.mpr (c x y)⟩
theorem aB4 {b:Bx} (o:b.Ok):Yd.void.back b=Yd.void∧Yd.void.cut b=Yd.void:=by
 refine ⟨Yd.ext' fun x y => ?_,Yd.ext' fun x y => ?_⟩
 ·rw [Yd.void_has]
  refine Bool.eq_false_iff.mpr fun h => ?_
  obtain ⟨u,v,_,_,_,_,h5⟩:=(Yd.back_iff _ o x y).mp h
  rw [Yd.void_has] at h5; cases h5
 ·rw [Yd.void_has]
  refine Bool.eq_false_iff.mpr fun h => ?_
  have h5:=(Yd.cut_iff _ o x y).mp h x y (by have:=o.w; grind) (by have:=o.e; grind) (by have:=o.s; grind) (by have:=o.n; grind)
  rw [Yd.void_has] at h5; cases h5
def vC (vs:Int→Int→List Int):Ct:=fun ds M k=>∃ (xs:List Int) (a b:Int) (t:Rat),ds=[.lst (xs.map .int), .int a, .int b,numD t]∧Up7 xs∧1≤xs.length∧Pc a∧Pc b∧Tm t∧∀ (ms:List Int) (M':Mem),(∀ m∈ms,MidOf xs (vs a b) t m)→ms.length≤30→Le M M'→k (.lst (ms.map .int)) M'
def uA:Ct:=fun ds M k=>∃ (xs ys:List Int) (zs:List Str) (e n w s:Int) (t:Rat) (mx my:Int),ds=[.lst (xs.map .int), .lst (ys.map .int), .lst (zs.map .str),iY e n w s, .tup [.int mx, .int my],numD t]∧Up7 xs∧Up7 ys∧R.Good (xs.length - 1) zs∧zs.length=ys.length - 1∧Pp e n w s∧Tm t∧∀ b:Bool,(b=true↔Reached xs ys zs e n w s t mx my)→k (.bl b) M
def wE:Ct:=fun ds M k=>∃ (xs ys:List Int) (zs:List Str) (e n w s:Int) (t:Rat),ds=[.lst (xs.map .int), .lst (ys.map .int), .lst (zs.map .str),iY e n w s,numD t]∧Up7 xs∧Up7 ys∧2≤xs.length∧2≤ys.length∧R.Good (xs.length - 1) zs∧zs.length=ys.length - 1∧Pp e n w s∧Tm t∧∀ M',Le M M'→k (.bl true) M'
theorem aHS {x v:Int}{t:Rat} (hx : -1000000000≤x∧x≤1000000000) (hv : -9≤v∧v≤9) (ht:Tm t) : -4000000000000000≤x * (t.den:Int)+v * t.num∧x * (t.den:Int)+v * t.num≤4000000000000000:=by
 have a1:(x * (t.den:Int)).natAbs≤1000000000 * 1000000:=by rw [Int.natAbs_mul]; exact Nat.mul_le_mul (by omega) (by have:=ht.d; omega)
 have a2:(v * t.num).natAbs≤9 * 1000000000000:=by rw [Int.natAbs_mul]; exact Nat.mul_le_mul (by omega) ht.n
 omega
theorem aGW {M M':Mem}{a:Addr}{o:MO} (h:Le M M') (ha:M a=none):Le M (updM M' a o):=fun b q hb=>by
 have:b≠a:=fun e=>by rw [e,ha] at hb; cases hb
 rw [b8 this]; exact h b q hb
theorem aHK {ns nr:List Int}{f l:Int} (up:ns.Pairwise (· < ·)) (hf:ns[(0:Int).toNat]?=some f) (hnr:ns=nr++[l]):(ends ns f l).Pairwise (· < ·):=by
 have h1:∀ x∈ns,f≤x:=by
  cases ns with
  | nil=>simp at hf
  | cons a r =>
   have e:a=f:=by simpa using hf
   subst e
   intro x hx
   rcases List.mem_cons.mp hx with rfl | hx
   ·exact Int.le_refl _
   ·exact Int.le_of_lt ((List.pairwise_cons.mp up).1 x hx)
 have h2:∀ x∈ns,x≤l:=fun x hx=>by
  rw [hnr] at up hx
  rcases List.mem_append.mp hx with hx | hx
  ·exact Int.le_of_lt ((List.pairwise_append.mp up).2.2 x hx l (by simp))
  ·rw [List.mem_singleton] at hx; omega
 exact aGV up h1 h2 (h1 l (by rw [hnr]; simp))
theorem aGJ {ns nr:List Int}{f l:Int} (hf:ns[(0:Int).toNat]?=some f) (hnr:ns=nr++[l]) (h:∀ k∈ns, -4000000000000000≤k∧k≤4000000000000000):∀ k∈ends ns f l, -5000000000000000≤k∧k≤5000000000000000:=fun k hk=>by
 have h1:=h f (List.mem_of_getElem? hf)
 have h2:=h l (by rw [hnr]; simp)
 unfold ends at hk
 rcases List.mem_cons.mp hk with rfl | hk
 ·omega
 ·rcases List.mem_append.mp hk with hk | hk
  ·have:=h k hk; omega
  ·rw [List.mem_singleton] at hk; omega
theorem aI2 {e n w s:Int} (o:Pp e n w s):∀ q∈[e,n,w,s],1≤q∧q≤9:=fun q hq=>by
 simp only [List.mem_cons,List.not_mem_nil,or_false] at hq
 rcases hq with rfl | rfl | rfl | rfl
 ·exact ⟨o.p.a,o.p.b⟩
 ·exact ⟨o.q.a,o.q.b⟩
 ·exact ⟨o.r.a,o.r.b⟩
 ·exact ⟨o.s.a,o.s.b⟩
theorem oV {xs:List Int}{k:Nat} (h:k < xs.length):atI (xs.map D.int) (k:Int)=some (.int (xs.getD k 0)):=cW (by
 rw [List.getElem?_map,List.getD_eq_getElem?_getD,List.getElem?_eq_getElem h]; rfl)
theorem aCK {zs:List Str}{j:Nat}{z:Str} (h:zs[j]?=some z):atI (zs.map D.str) (j:Int)=some (.str z):=cW (by rw [List.getElem?_map,h]; rfl)
theorem aE8 (c:Nat):decide ((⟨#[c]⟩:Str)=("#" : Str))=decide (c=35):=by
 rw [aDF,decide_eq_decide]
 constructor
 ·intro e; injection e with e; injection e with e; injection e
 ·intro e; rw [e]
theorem tm73:Tm (Rat.divInt 7 3):=vD (by decide) (by decide) (by decide) (by decide)
theorem aFV (m:Nat):Yk m 0 0 Yd.void:=⟨fun w hw=>(nomatch hw),fun w hw=>(nomatch hw),Nat.le_refl _,Nat.le_refl _⟩
theorem aKG {M M':Mem}{p:Addr}{b:Int} (h:PnM M p b) (l:Le M M'):PnM M' p b:=by
 obtain ⟨ns,st,g,h1,h2⟩:=h
 exact ⟨ns,st,g,l _ _ h1,h2⟩
theorem aCW (b:Bool):atI [D.str "out", .str "in"] (if b then 1 else 0)=some (.str (if b=true then "in" else "out")):=by cases b <;> rfl
def top (i:Nat):Stmt:=PySem.Challenge.pw_roofridges_k28_grown_back_by_cells.main.body.getD i (.Pass ⟨0,0,0,0⟩)
abbrev fR:Stmt:=top 5
abbrev dR:Stmt:=top 6
abbrev gT:Stmt:=top 7
abbrev iU:Stmt:=top 8
abbrev iD:Stmt:=top 9
abbrev pQ:Stmt:=top 10
abbrev nS:Stmt:=top 11
abbrev oM:Stmt:=top 12
abbrev jU:Stmt:=top 13
abbrev lP:Stmt:=top 14
abbrev lT:Stmt:=top 18
abbrev iA:Stmt:=top 19
abbrev mG:Stmt:=top 20
abbrev jG:Stmt:=top 21
abbrev kW:Stmt:=top 22
abbrev lU:Stmt:=top 23
abbrev iL:Stmt:=top 24
abbrev dW:Stmt:=top 25
abbrev kK:Stmt:=top 26
abbrev fI:Stmt:=top 27
abbrev eJ:Stmt:=top 28
abbrev pR:Stmt:=top 29
abbrev jT:Stmt:=top 30
abbrev jN:Stmt:=top 31
abbrev p3:Stmt:=top 32
abbrev p0:Stmt:=top 34
abbrev lM:Stmt:=top 36
abbrev iX:Stmt:=top 37
abbrev oG:Stmt:=top 38
abbrev iJ:Stmt:=top 39
abbrev mZ:Stmt:=top 40
abbrev sV:Stmt:=top 42
abbrev i7:Stmt:=top 43
abbrev oD:Stmt:=top 44
abbrev n4:Stmt:=top 45
abbrev oC:Stmt:=top 46
abbrev j9:Stmt:=top 47
abbrev pT:Stmt:=top 48
abbrev kM:Stmt:=top 49
abbrev iC:Stmt:=top 50
abbrev nX:Stmt:=top 51
abbrev n6:Stmt:=top 52
section
variable {P:Program}{w:World}{K:PySem.W.Frag}{mg:Str→Option Value}{base:Heap}
theorem vZ:FnScope ["thing"] ["thing"] (aO fR):=⟨rfl,rfl,rfl,by decide +kernel,rfl,by decide +kernel,by decide +kernel⟩
theorem vP {f:Addr}{fd:FuncData} (Df:R.Df K mg "is_whole" fR ["thing"] f fd) (T:Bt mg):FnOk P w K mg base CX0 1 f fd ["thing"] (spZ K mC):=by
 refine bF Df vZ (fun ds M k h => ?_) (fun cdv A outer s H E hr ds M k h => ?_)
 ·obtain ⟨d,rfl,_⟩:=h; rfl
 obtain ⟨d,rfl,hs,hk⟩:=h
 refine aJ (aN (lD ?_))
 refine dX (.inl rfl) T.isi T.int R.BI ?_
 refine ge_v 0 rfl ?_
 refine ⟨_, .self hs,?_⟩
 refine ⟨_,rfl,?_⟩
 rcases tS d with ⟨i,rfl⟩ | ⟨e0,e1 | ⟨e1,e2⟩⟩
 ·rw [iI]
  refine iteT (kA (aB7 ?_))
  refine dX (.inr (.inl rfl)) T.isi T.bool R.BB ?_
  refine ge_v 0 rfl ?_
  refine ⟨_, .self trivial,?_⟩
  rw [bI]
  exact ⟨_,rfl,hk⟩
 ·rw [e1]
  rw [e0] at hk
  exact iteF hk
 ·rw [e1]
  refine iteT (kA (aB7 ?_))
  refine dX (.inr (.inl rfl)) T.isi T.bool R.BB ?_
  refine ge_v 0 rfl ?_
  refine ⟨_, .self hs,?_⟩
  rw [e2]
  rw [e0] at hk
  exact ⟨_,rfl,hk⟩
theorem eG:FnScope ["one", "other", "rest"] ["one", "other"] (aO dR):=⟨rfl,rfl,rfl,by decide +kernel,rfl,by decide +kernel,by decide +kernel⟩
theorem oW {f:Addr}{fd:FuncData} (Df:R.Df K mg "common_divisor" dR ["one", "other"] f fd) (T:Bt mg):FnOk P w K mg base CX0 1 f fd ["one", "other"] (spZ K q0):=by
 refine bF Df eG (fun ds M k h => ?_) (fun cdv A outer s H E hr ds M k h => ?_)
 ·obtain ⟨a,b,rfl,_⟩:=h; rfl
 obtain ⟨a,b,rfl,hk⟩:=h
 refine aD (lN (fun m Γ' M'=>M'=M∧∃ (x y:Int) (v:Option D),Γ'=[some (.int x),some (.int y),v]∧Int.gcd x y=Int.gcd a b∧m=y.natAbs) (n:=b.natAbs) ⟨rfl,a,b,_,rfl,rfl,rfl⟩ ?_)
 rintro m Γ' M' ⟨rfl,x,y,v,rfl,hg,rfl⟩
 refine aZ l9 ?_
 refine ge_v 1 rfl ?_
 refine aC ?_
 refine pV ?_
 refine ⟨_,rfl,?_⟩
 refine ite2 (fun hb => ?_) (fun hb => ?_)
 ·have hy:y≠0:=fun z=>by subst z; simp at hb
  refine aD (aP 2 eG.nd (aH xM ?_))
  refine ge_v 0 rfl ?_
  refine ge_v 1 rfl ?_
  refine o2_C hy ?_
  refine aD (aP 0 eG.nd ?_)
  refine ge_v 1 rfl ?_
  refine aJ (aP 1 eG.nd ?_)
  refine ge_v 2 rfl ?_
  refine ⟨_,Num.xX x y hy,rfl,_,_,_,rfl,?_,rfl⟩
  rw [Num.uC]; exact hg
 ·have hy:y=0:=by simpa using hb
  subst hy
  refine aJ (aN ?_)
  refine aM j6 T.abs PyProof.Rows.boot_abs ?_
  refine aA ?_
  refine ge_v 0 rfl ?_
  refine aB ?_
  refine mQ ?_
  rw [R.aG0,hg]
  exact hk
end
end Q
namespace Q
open PySem L2 Z
open U
section
variable {P:Program}{w:World}{K:PySem.W.Frag}{mg:Str→Option Value}{base:Heap}
theorem dZ:FnScope ["_law_lines_here", "_law_one_way", "_law_other_way", "_law_time_here", "_law_head", "_law_below", "_law_some", "_law_line", "_law_way", "_law_found"] ["_law_lines_here", "_law_one_way", "_law_other_way", "_law_time_here"] (aO kM):=⟨rfl,rfl,rfl,by decide +kernel,rfl,by decide +kernel,by decide +kernel⟩
theorem yW {f:Addr}{fd:FuncData} (Df:R.Df K mg "_law_middles" kM ["_law_lines_here", "_law_one_way", "_law_other_way", "_law_time_here"] f fd) (T:Bt mg):FnOk P w K mg base CX0 2 f fd ["_law_lines_here", "_law_one_way", "_law_other_way", "_law_time_here"] (spZ K (vC vs28)):=by
 refine bF Df dZ (fun ds M k h => ?_) (fun cdv A outer s H E hr ds M k h => ?_)
 ·obtain ⟨xs,p,q,t,rfl,_⟩:=h; rfl
 obtain ⟨xs,p,q,t,rfl,ux,lx,hp,hq,ht,hk⟩:=h
 have fx:=ux.few
 have tn:=ht.n
 have td:=ht.d
 have tp:=t.den_pos
 have p1:=hp.a
 have p2:=hp.b
 have q1:=hq.a
 have q2:=hq.b
 refine aD (jB ?_)
 refine ge_v 3 rfl ?_
 refine qH rfl (cX (bT 4 dZ.nd (cX (bT 5 dZ.nd (k8 ?_)))))
 refine aD (aP 6 dZ.nd (aD0 fun a ha => ?_))
 refine aD (fN (bJ ?_))
 refine ge_v 0 rfl ?_
 refine ⟨_, .inr (.inl rfl),?_⟩
 refine ⟨fun i Γ' M'=>∃ (ks:List Int) (v7 v8:Option D),Γ'=[some (.lst (xs.map .int)),some (.int p),some (.int q),some (numD t),some (.int t.num),some (.int (t.den:Int)),some (.mt a),v7,v8,none]∧M' a=some (.ob (kI ks))∧Le M M'∧ks.Nodup∧ks.length≤3 * i∧(∀ k∈ks, -4000000000000000≤k∧k≤4000000000000000)∧(∀ x∈xs.take i,∀ v∈vs28 p q,(x * (t.den:Int)+v * t.num)∈ks),⟨[],_,_,rfl,aV,(Le.refl _).upd ha, .nil,by simp,(fun k hk=>nomatch hk),fun x hx=>by simp at hx⟩,?_,?_⟩
 ·rintro i d Γ' M' hd ⟨ks,v7,v8,rfl,hM,hL,hnd,hl,hbd,hin⟩
  obtain ⟨x,hx,rfl⟩:=bP hd
  have bx:=ux.bd x (List.mem_of_getElem? hx)
  have hi:i < xs.length:=(List.getElem?_eq_some_iff.mp hx).1
  refine bT 7 dZ.nd ?_
  refine aJ (fN (bJ ?_))
  refine cB ?_
  refine aA ?_
  refine aC ?_
  refine aA ?_
  refine aH bY ?_
  refine aC ?_
  refine ge_v 1 rfl ?_
  refine o2_0 ?_
  refine aA ?_
  refine ge_v 2 rfl ?_
  refine aB ?_
  refine ⟨(show 3≤sizeLine by decide),?_⟩
  refine ⟨(vs28 p q).map D.int, .inl rfl,?_⟩
  refine ⟨fun j Γ' M1=>∃ (ks1:List Int) (v8:Option D),Γ'=[some (.lst (xs.map .int)),some (.int p),some (.int q),some (numD t),some (.int t.num),some (.int (t.den:Int)),some (.mt a),some (.int x),v8,none]∧M1 a=some (.ob (kI ks1))∧Le M M1∧ks1.Nodup∧ks1.length≤3 * i+j∧(∀ k∈ks1, -4000000000000000≤k∧k≤4000000000000000)∧(∀ k∈ks,k∈ks1)∧(∀ v∈(vs28 p q).take j,(x * (t.den:Int)+v * t.num)∈ks1),⟨ks,_,rfl,hM,hL,hnd,by omega,hbd,fun k hk=>hk,fun v hv=>by simp at hv⟩,?_,?_⟩
  ·rintro j d Γ' M1 hd ⟨ks1,v8,rfl,hM1,hL1,hnd1,hl1,hbd1,hs1,hin1⟩
   obtain ⟨v,hv,rfl⟩:=bP hd
   have hj:j < 3:=(List.getElem?_eq_some_iff.mp hv).1
   have bv : -9≤v∧v≤9:=by
    have:=List.mem_of_getElem? hv
    simp only [vs28,List.mem_cons,List.not_mem_nil,or_false] at this
    omega
   refine bT 8 dZ.nd ?_
   refine aJ (jB ?_)
   refine c5 ?_
   refine aHO ?_
   refine ge_v 6 rfl ?_
   refine aH bK ?_
   refine aH cV ?_
   refine ge_v 7 rfl ?_
   refine ge_v 5 rfl ?_
   refine o2_C (.inl ⟨by omega,by omega⟩) ?_
   refine aH cV ?_
   refine ge_v 8 rfl ?_
   refine ge_v 4 rfl ?_
   refine o2_C (.inl ⟨by omega,by omega⟩) ?_
   refine o2_0 ?_
   have kb:=aHS bx bv ht
   refine ⟨a,_,ks1,rfl,rfl,hM1,Nat.lt_of_le_of_lt (show _≤30 by omega) (by decide),?_⟩
   have al:=uS ks1 (x * (t.den:Int)+v * t.num)
   refine ⟨addI ks1 (x * (t.den:Int)+v * t.num),_,rfl,aV,aGW hL1 ha,aGU hnd1 _,by omega,fun k hk => ?_,fun k hk=>lY.mpr (.inl (hs1 k hk)),fun u hu => ?_⟩
   ·rcases lY.mp hk with hk | rfl
    ·exact hbd1 k hk
    ·exact kb
   ·rw [List.take_add_one,hv] at hu
    rcases List.mem_append.mp hu with hu | hu
    ·exact lY.mpr (.inl (hin1 u hu))
    ·have e:u=v:=by simpa using hu
     rw [e]; exact lY.mpr (.inr rfl)
  ·rintro Γ' M1 ⟨ks1,v8,rfl,hM1,hL1,hnd1,hl1,hbd1,hs1,hin1⟩
   refine ⟨ks1,_,_,rfl,hM1,hL1,hnd1,by have:((vs28 p q).map D.int).length=3:=rfl; omega,hbd1,fun y hy v hv => ?_⟩
   rw [List.take_add_one,hx] at hy
   rcases List.mem_append.mp hy with hy | hy
   ·exact hs1 _ (hin y hy v hv)
   ·have e:y=x:=by simpa using hy
    rw [e]; exact hin1 v hv
 rintro Γ' M' ⟨ks,v7,v8,rfl,hM,hL,hnd,hl,hbd,hin⟩
 rw [List.length_map] at hl hin
 rw [List.take_length] at hin
 refine aD (aP 9 dZ.nd ?_)
 refine aM (vH hr.hd) T.sorted BSorted ?_
 refine aA ?_
 refine ge_v 6 rfl ?_
 refine aB ?_
 refine zL hM (by omega) fun ns hpm hs => ?_
 have up:=aKA hpm hs hnd
 have hnl:=hpm.length_eq
 have hne:0 < ns.length:=by
  obtain ⟨x,hx⟩:∃ x,x∈xs:=⟨xs[0]'(by omega),List.getElem_mem _⟩
  have:=hpm.mem_iff.mpr (hin x hx 0 (by simp [vs28]))
  exact List.length_pos_of_mem this
 obtain ⟨f,hf,hfa⟩:=qR (xs:=ns) (i:=0) (by omega) (by omega)
 obtain ⟨nr,l,hnr⟩:=wY (l:=ns) (fun e=>by rw [e] at hne; simp at hne)
 have hla:atI (ns.map D.int) (-1)=some (.int l):=by rw [hnr,List.map_append]; exact uM _ _
 have eu:(ends ns f l).Pairwise (· < ·):=aHK up hf hnr
 have bn:∀ k∈ends ns f l, -5000000000000000≤k∧k≤5000000000000000:=aGJ hf hnr fun k hk=>hbd k (hpm.mem_iff.mp hk)
 have el:(ends ns f l).length=ns.length+2:=by unfold ends; simp
 refine aD (aP 9 dZ.nd ?_)
 refine aH fC ?_
 refine aH fC ?_
 refine dA ?_
 refine aA ?_
 refine aH bY ?_
 refine aI aF ?_
 refine ge_v 9 rfl ?_
 refine aC ?_
 refine aK (.lst _) hfa ?_
 refine aC ?_
 refine o2_0 ?_
 refine aB ?_
 refine ⟨(show 1≤sizeLine by decide),?_⟩
 refine ge_v 9 rfl ?_
 refine fB (.lst _) (.lst _) (by rw [List.length_map]; exact R.aU (show 1+ns.length≤_ by omega)) ?_
 refine dA ?_
 refine aA ?_
 refine aH bK ?_
 refine aI aF ?_
 refine ge_v 9 rfl ?_
 refine kS i9 ?_
 refine aC ?_
 refine ⟨_,rfl,?_⟩
 refine aK (.lst _) hla ?_
 refine aC ?_
 refine o2_0 ?_
 refine aB ?_
 refine ⟨(show 1≤sizeLine by decide),?_⟩
 refine fB (.lst _) (.lst _) (by rw [List.length_append,List.length_map]; exact R.aU (show 1+ns.length+1≤_ by omega)) ?_
 rw [show [D.int (f - 2)]++ns.map D.int++[D.int (l+2)]=(ends ns f l).map D.int by unfold ends; simp]
 have zl:((ends ns f l).map D.int).length=(cutD ((ends ns f l).map D.int) (some 1) none).length+1:=by rw [l6,List.length_map]; omega
 refine aJ (aN (aA1 [] [] (aFH T.zip PyProof.Rows.boot_zip ?_)))
 refine aA ?_
 refine ge_v 9 rfl ?_
 refine aA ?_
 refine cZ f7 ?_
 refine ge_v 9 rfl ?_
 refine dM ?_
 refine aC ?_
 refine ⟨_,rfl,?_⟩
 refine dN ?_
 refine iE (.lst _) ?_
 refine aB ?_
 refine ⟨_,_,rfl,zl,?_⟩
 have hzl:(zipD ((ends ns f l).map D.int) (cutD ((ends ns f l).map D.int) (some 1) none)).length=(mids (ends ns f l)).length:=by
  unfold zipD; rw [List.length_map,List.length_zip,l6,List.length_map,lS]; omega
 refine aJK (by rw [hzl,lS]; exact R.aU (by omega)) (fun d hd=>aDK hd) (fun i acc M1=>M1=M'∧acc=((mids (ends ns f l)).take i).map D.int) ⟨rfl,rfl⟩ ?_ ?_
 ·rintro i d1 d2 acc M1 hd ⟨rfl,rfl⟩ cs' C s₀ H₀ fp
  obtain ⟨b1,b2⟩:=aJA hd
  obtain ⟨u,hu,rfl⟩:=bP b1
  rw [qG,List.getElem?_drop] at b2
  obtain ⟨v,hv,rfl⟩:=bP b2
  have hm:=uD hu (by rw [Nat.add_comm]; exact hv)
  refine bD (iteT fun cs' C s₀ H₀ fp => ?_)
  refine aH bK ?_
  refine ge_v 0 rfl ?_
  refine ge_v 1 rfl ?_
  refine o2_0 ?_
  refine ⟨rfl,?_⟩
  rw [bO hm]
 rintro acc M1 ⟨rfl,rfl⟩
 rw [hzl,List.take_length]
 refine hk _ _ (fun m hm=>⟨fun x hx v hv=>uO eu m hm _ ?_,?_⟩) (by rw [lS]; omega) hL
 ·unfold ends
  exact List.mem_cons_of_mem _ (List.mem_append.mpr (.inl (hpm.mem_iff.mpr (hin x hx v hv))))
 ·have:=xO bn m hm; omega
theorem bX:FnScope ["_law_xs", "_law_ys", "_law_signs_here", "_law_paces_here", "_law_point", "_law_time_here", "_law_x", "_law_y", "_law_twice", "_law_east", "_law_north", "_law_west", "_law_south", "_law_j", "_law_k", "_law_begin"] ["_law_xs", "_law_ys", "_law_signs_here", "_law_paces_here", "_law_point", "_law_time_here"] (aO iC):=⟨rfl,rfl,rfl,by decide +kernel,rfl,by decide +kernel,by decide +kernel⟩
theorem sL {f:Addr}{fd:FuncData} (Df:R.Df K mg "_law_is_reached" iC ["_law_xs", "_law_ys", "_law_signs_here", "_law_paces_here", "_law_point", "_law_time_here"] f fd) (T:Bt mg):FnOk P w K mg base CX0 2 f fd ["_law_xs", "_law_ys", "_law_signs_here", "_law_paces_here", "_law_point", "_law_time_here"] (spZ K uA):=by
 refine bF Df bX (fun ds M k h => ?_) (fun cdv A outer s H E hr ds M k h => ?_)
 ·obtain ⟨xs,ys,zs,e,n,w,s,t,mx,my,rfl,_⟩:=h; rfl
 obtain ⟨xs,ys,zs,e,n,w,s,t,mx,my,rfl,ux,uy,gz,hz,o,ht,hk⟩:=h
 have fx:=ux.few
 have fy:=uy.few
 have td:=ht.d
 have tp:=t.den_pos
 have hpp:∀ q∈[e,n,w,s],1≤q∧q≤9:=aI2 o
 refine aD (jB ?_)
 refine ge_v 4 rfl ?_
 refine qH rfl (cX (bT 6 bX.nd (cX (bT 7 bX.nd (k8 ?_)))))
 refine aD (aP 8 bX.nd ?_)
 refine aH cV ?_
 refine aC ?_
 refine aI aF ?_
 refine ge_v 5 rfl ?_
 refine aC ?_
 refine aK (.tup _) rfl ?_
 refine o2_C (.inl ⟨by decide,by decide⟩) ?_
 refine aD (jB (a9 ["_law_time_here"] [5] (bJ ?_)))
 refine ge_v 3 rfl ?_
 refine ⟨[e,n,w,s].map D.int, .inl rfl,?_⟩
 refine b6 (ds:=[e,n,w,s].map D.int) (by rw [List.length_map]; exact R.aU (show 4≤1000000 by decide)) (fun i acc M'=>M'=M∧acc=([e,n,w,s].take i).map fun (x:Int)=>D.int (x * 2 * t.num)) ⟨rfl,rfl⟩ ?_ ?_
 ·rintro i d acc M' hd ⟨rfl,rfl⟩ cs C s₀ H₀ fp
  obtain ⟨x,hx,rfl⟩:=bP hd
  have bx:=hpp x (List.mem_of_getElem? hx)
  refine bD (iteT fun cs C s₀ H₀ fp => ?_)
  refine aH cV ?_
  refine aH cV ?_
  refine ge_v 0 rfl ?_
  refine aC ?_
  refine o2_C (.inl ⟨by omega,by omega⟩) ?_
  refine aI aF ?_
  refine ge_v 1 rfl ?_
  refine aC ?_
  refine aK (.tup _) rfl ?_
  refine o2_C (.inl ⟨by omega,by omega⟩) ?_
  refine ⟨rfl,?_⟩
  rw [bO hx]
  rfl
 rintro acc M ⟨rfl,rfl⟩
 refine aI3 rfl (cX (bT 9 bX.nd (cX (bT 10 bX.nd (cX (bT 11 bX.nd (cX (bT 12 bX.nd (k8 ?_)))))))))
 refine aD (fN (jD T.range ?_))
 refine aA ?_
 refine aM aX T.len PySem.boot_len ?_
 refine aA ?_
 refine ge_v 2 rfl ?_
 refine aB ?_
 refine bQ (.lst _) ?_
 refine aB ?_
 rw [List.length_map]
 refine ⟨_,rfl,by omega,by omega,?_⟩
 rw [Int.toNat_natCast]
 refine ⟨fun i Γ' M'=>M'=M∧(∃ v13 v14 v15,Γ'=[some (.lst (xs.map .int)),some (.lst (ys.map .int)),some (.lst (zs.map .str)),some (iY e n w s),some (.tup [.int mx, .int my]),some (numD t),some (.int mx),some (.int my),some (.int (2 * (t.den:Int))),some (.int (e * 2 * t.num)),some (.int (n * 2 * t.num)),some (.int (w * 2 * t.num)),some (.int (s * 2 * t.num)),v13,v14,v15])∧∀ j k:Nat,j < i→k < xs.length - 1→¬ HitR xs ys zs e n w s t mx my j k,⟨rfl,⟨_,_,_,rfl⟩,fun j k hj=>absurd hj (Nat.not_lt_zero _)⟩,?_,?_⟩
 rotate_left
 ·rintro Γ' M' ⟨rfl,⟨v13,v14,v15,rfl⟩,hno⟩
  rw [b4] at hno
  refine aJ (aN ?_)
  refine c5 ?_
  exact hk false ⟨(fun q=>nomatch q),fun ⟨j,k,hj,hk',hh⟩=>absurd hh (hno j k hj hk')⟩
 rintro j d Γ' M' hd ⟨rfl,⟨v13,v14,v15,rfl⟩,hno⟩
 obtain ⟨hj,rfl⟩:=eA hd
 rw [Int.zero_add]
 obtain ⟨z,hzj⟩:∃ z,zs[j]?=some z:=⟨zs[j],List.getElem?_eq_getElem _⟩
 have hzl:=(gz z (List.mem_of_getElem? hzj)).1
 have b1:=ux.bd
 have y1:=uy.bd _ (fM (k:=j) (by omega))
 have y2:=uy.bd _ (fM (k:=j+1) (by omega))
 refine bT 13 bX.nd ?_
 refine aJ (bG (kY (P:=fun c M1=>M1=M'∧(c=true↔(ys.getD j 0 * (2 * (t.den:Int)) - n * 2 * t.num < my∧my < ys.getD (j+1) 0 * (2 * (t.den:Int))+s * 2 * t.num))) (uK eM eM ?_) ?_))
 ·refine aH bY ?_
  refine aH cV ?_
  refine aI aF ?_
  refine ge_v 1 rfl ?_
  refine ge_v 13 rfl ?_
  refine aK (.lst _) (oV (by omega)) ?_
  refine ge_v 8 rfl ?_
  refine o2_C (.inl ⟨by omega,by omega⟩) ?_
  refine ge_v 10 rfl ?_
  refine o2_0 ?_
  refine ge_v 7 rfl ?_
  refine o2_B ⟨_,rfl,?_⟩
  refine ite2 (fun h1 => ?_) (fun h1=>⟨rfl,⟨(fun q=>nomatch q),fun q=>absurd (decide_eq_true q.1) h1⟩⟩)
  refine aH bK ?_
  refine aH cV ?_
  refine aI aF ?_
  refine ge_v 1 rfl ?_
  refine aH bK ?_
  refine ge_v 13 rfl ?_
  refine aC ?_
  refine o2_0 ?_
  refine aK (.lst _) (oV (k:=j+1) (by omega)) ?_
  refine ge_v 8 rfl ?_
  refine o2_C (.inl ⟨by omega,by omega⟩) ?_
  refine ge_v 12 rfl ?_
  refine o2_0 ?_
  exact o2_B ⟨_,rfl,rfl,⟨fun q=>⟨of_decide_eq_true h1,of_decide_eq_true q⟩,fun q=>decide_eq_true q.2⟩⟩
 rintro c M1 ⟨rfl,hc⟩
 refine ite2 (fun h1 => ?_) (fun h1=>bC ⟨rfl,⟨_,_,_,rfl⟩,fun j' k hj' hk' hh => ?_⟩)
 rotate_left
 ·rcases Nat.lt_succ_iff_lt_or_eq.mp hj' with q | q
  ·exact hno j' k q hk' hh
  ·subst q; exact h1 (hc.mpr hh.1)
 have hcy:=hc.mp h1
 refine aJ (fN (jD T.range ?_))
 refine aA ?_
 refine aM aX T.len PySem.boot_len ?_
 refine aA ?_
 refine aI aF ?_
 refine ge_v 2 rfl ?_
 refine ge_v 13 rfl ?_
 refine aK (.lst _) (aCK hzj) ?_
 refine aB ?_
 refine gU (R.aU (by omega)) ?_
 refine aB ?_
 refine ⟨_,rfl,by omega,by omega,?_⟩
 rw [Int.toNat_natCast]
 refine ⟨fun i Γ' M'=>M'=M1∧(∃ v14 v15,Γ'=[some (.lst (xs.map .int)),some (.lst (ys.map .int)),some (.lst (zs.map .str)),some (iY e n w s),some (.tup [.int mx, .int my]),some (numD t),some (.int mx),some (.int my),some (.int (2 * (t.den:Int))),some (.int (e * 2 * t.num)),some (.int (n * 2 * t.num)),some (.int (w * 2 * t.num)),some (.int (s * 2 * t.num)),some (.int (j:Int)),v14,v15])∧∀ k:Nat,k < i→¬ HitR xs ys zs e n w s t mx my j k,⟨rfl,⟨_,_,rfl⟩,fun k hk=>absurd hk (Nat.not_lt_zero _)⟩,?_,?_⟩
 rotate_left
 ·rintro Γ' M' ⟨rfl,⟨v14,v15,rfl⟩,hno2⟩
  rw [b4] at hno2
  refine ⟨rfl,⟨_,_,_,rfl⟩,fun j' k hj' hk' hh => ?_⟩
  rcases Nat.lt_succ_iff_lt_or_eq.mp hj' with q | q
  ·exact hno j' k q hk' hh
  ·subst q; exact hno2 k (by omega) hh
 rintro k d Γ' M' hd ⟨rfl,⟨v14,v15,rfl⟩,hno2⟩
 obtain ⟨hk1,rfl⟩:=eA hd
 rw [Int.zero_add]
 have x1:=ux.bd _ (fM (k:=k) (by omega))
 have x2:=ux.bd _ (fM (k:=k+1) (by omega))
 have hcell:R.aR zs (k:Int) (j:Int)=decide (R.atS z k=35):=R.eB (by omega) (by omega) hzj (R.cA (by omega))
 refine bT 14 bX.nd ?_
 refine aD (aP 15 bX.nd ?_)
 refine aH bY ?_
 refine aH cV ?_
 refine aI aF ?_
 refine ge_v 0 rfl ?_
 refine ge_v 14 rfl ?_
 refine aK (.lst _) (oV (by omega)) ?_
 refine ge_v 8 rfl ?_
 refine o2_C (.inl ⟨by omega,by omega⟩) ?_
 refine ge_v 9 rfl ?_
 refine o2_0 ?_
 refine aJ (bG (kY (P:=fun c M1=>M1=M'∧(c=true↔HitR xs ys zs e n w s t mx my j k)) (gt_w (lE ?_)) ?_))
 ·refine aZ gI ?_
  refine aI aF ?_
  refine aI aF ?_
  refine ge_v 2 rfl ?_
  refine ge_v 13 rfl ?_
  refine aK (.lst _) (aCK hzj) ?_
  refine ge_v 14 rfl ?_
  refine k9 (R.aU (by omega)) (R.mS (by omega)) ?_
  refine bW ?_
  refine lA ?_
  refine ⟨_,rfl,?_⟩
  rw [aE8]
  refine ite2 (fun h2 => ?_) (fun h2=>⟨rfl,⟨(fun q=>nomatch q),fun q=>absurd (hcell.symm.trans q.2.1) h2⟩⟩)
  have hc1:R.aR zs (k:Int) (j:Int)=true:=hcell.trans h2
  refine jV (uK eM eM ?_)
  refine ge_v 15 rfl ?_
  refine ge_v 6 rfl ?_
  refine o2_B ⟨_,rfl,?_⟩
  refine ite2 (fun h3 => ?_) (fun h3=>⟨rfl,⟨(fun q=>nomatch q),fun q=>absurd (decide_eq_true q.2.2.1) h3⟩⟩)
  refine aH bK ?_
  refine aH cV ?_
  refine aI aF ?_
  refine ge_v 0 rfl ?_
  refine aH bK ?_
  refine ge_v 14 rfl ?_
  refine aC ?_
  refine o2_0 ?_
  refine aK (.lst _) (oV (k:=k+1) (by omega)) ?_
  refine ge_v 8 rfl ?_
  refine o2_C (.inl ⟨by omega,by omega⟩) ?_
  refine ge_v 11 rfl ?_
  refine o2_0 ?_
  exact o2_B ⟨_,rfl,rfl,⟨fun q=>⟨hcy,hc1,of_decide_eq_true h3,of_decide_eq_true q⟩,fun q=>decide_eq_true q.2.2.2⟩⟩
 rintro c M2 ⟨rfl,hc2⟩
 refine ite2 (fun h2 => ?_) (fun h2=>bC ⟨rfl,⟨_,_,rfl⟩,fun k' hk' hh => ?_⟩)
 ·refine aJ (aN ?_)
  refine c5 ?_
  exact hk true ⟨fun _=>⟨j,k,hj,by omega,hc2.mp h2⟩,fun _=>rfl⟩
 ·rcases Nat.lt_succ_iff_lt_or_eq.mp hk' with q | q
  ·exact hno2 k' q hh
  ·subst q; exact h2 (hc2.mpr hh)
theorem zS:FnScope ["row", "sign", "begin", "end"] ["row", "sign", "begin", "end"] (aO lM):=⟨rfl,rfl,rfl,by decide +kernel,rfl,by decide +kernel,by decide +kernel⟩
theorem aBS {f:Addr}{fd:FuncData} (Df:R.Df K mg "filled" lM ["row", "sign", "begin", "end"] f fd):FnOk P w K mg base CX0 1 f fd ["row", "sign", "begin", "end"] (spZ K xW):=by
 refine bF Df zS (fun ds M k h => ?_) (fun cdv A outer s H E hr ds M k h => ?_)
 ·obtain ⟨l,s,b,e,rfl,_⟩:=h; rfl
 obtain ⟨l,s,b,e,rfl,hb,he,hl,hk⟩:=h
 have ll:(R.ofL l).length=l.length:=R.eN l
 refine aJ (aN (aH jM (aH jM ?_)))
 refine cZ aA4 ?_
 refine ge_v 0 rfl ?_
 refine dN ?_
 refine dM ?_
 refine ge_v 2 rfl ?_
 refine ⟨_,rfl,?_⟩
 refine zT (R.aU (by omega)) ?_
 rw [aHB]
 refine aH oU ?_
 refine ge_v 1 rfl ?_
 refine aH bY ?_
 refine ge_v 3 rfl ?_
 refine ge_v 2 rfl ?_
 refine o2_0 ?_
 refine oK (by omega) (by omega) (by show 1 * _≤_; exact R.aU (by omega)) ?_
 rw [aBA,show ((e:Int) - (b:Int)).toNat=e - b by omega]
 refine oO (by rw [R.eN,R.eN,List.length_take,List.length_replicate]; exact R.aU (by omega)) ?_
 rw [xG]
 refine cZ aA4 ?_
 refine ge_v 0 rfl ?_
 refine dM ?_
 refine ge_v 3 rfl ?_
 refine ⟨_,rfl,?_⟩
 refine dN ?_
 refine zT (R.aU (by omega)) ?_
 rw [aBI _ _ he]
 refine oO (by rw [R.eN,R.eN,List.length_append,List.length_take,List.length_replicate,List.length_drop]; exact R.aU (by omega)) ?_
 rw [xG]
 exact hk
theorem fP:FnScope ["row", "sign", "begins", "ends", "wide", "told", "place", "kept"] ["row", "sign", "begins", "ends", "wide"] (aO iX):=⟨rfl,rfl,rfl,by decide +kernel,rfl,by decide +kernel,by decide +kernel⟩
theorem vM {f:Addr}{fd:FuncData}{aKK:Addr}{aKL:FuncData} (Df:R.Df K mg "grown_row" iX ["row", "sign", "begins", "ends", "wide"] f fd)
  (aKM:R.Df K mg "filled" lM ["row", "sign", "begin", "end"] aKK aKL) (aKN:FnOk P w K mg base CX0 1 aKK aKL ["row", "sign", "begin", "end"] (spZ K xW)) (T:Bt mg):FnOk P w K mg base CX0 2 f fd ["row", "sign", "begins", "ends", "wide"] (spZ K sH):=by
 refine bF Df fP (fun ds M k h => ?_) (fun cdv A outer s H E hr ds M k h => ?_)
 ·obtain ⟨z,s,bs,es,wd,rfl,_⟩:=h; rfl
 obtain ⟨z,s,bs,es,wd,rfl,lb,le,hbe,hw,hz,hk⟩:=h
 refine aD (i4 (fun Γ' M'=>M'=M∧Γ'=[some (.str z),some (.str (sgn1 s)),some (.lst (natI bs)),some (.lst (natI es)),some (.int (wd:Int)),some (.str (R.ofL (eZ s z bs es wd 0))),none,none]) (aP 5 fP.nd (aH oU ?_)) ?_)
 ·refine mO (P:=fun d M1=>M1=M∧d = .str (sgn1 (!s))) (kC ?_) ?_
  ·refine aZ gI ?_
   refine ge_v 1 rfl ?_
   refine bW ?_
   refine lA ?_
   refine ⟨_,rfl,?_⟩
   rw [← aCO,show decide (sgn1 s=sgn1 true)=s by cases s <;> decide +kernel]
   cases s with
   | true =>
    refine iteT ?_
    refine bW ?_
    exact ⟨rfl,by rw [← aHU]; rfl⟩
   | false =>
    refine iteF ?_
    refine bW ?_
    exact ⟨rfl,rfl⟩
  rintro d M1 ⟨rfl,rfl⟩
  refine ge_v 4 rfl ?_
  refine oK (by omega) (by omega) (by show 1 * _≤_; exact R.aU (by omega)) ?_
  rw [aBA,Int.toNat_natCast,aFW]
  exact ⟨rfl,rfl⟩
 rintro Γ' M' ⟨rfl,rfl⟩
 refine aD (fN (aD3 T.enumerate BEnum ?_))
 refine aA ?_
 refine ge_v 0 rfl ?_
 refine aB ?_
 refine ⟨_,rfl,?_⟩
 refine ⟨fun i Γ' M1=>M1=M'∧∃ v6 v7,Γ'=[some (.str z),some (.str (sgn1 s)),some (.lst (natI bs)),some (.lst (natI es)),some (.int (wd:Int)),some (.str (R.ofL (eZ s z bs es wd i))),v6,v7],⟨rfl,_,_,rfl⟩,?_,?_⟩
 ·rintro i d Γ' M1 hd ⟨rfl,v6,v7,rfl⟩
  obtain ⟨x,hx,rfl⟩:=aCA hd
  obtain ⟨c,hc,rfl⟩:=bP hx
  have hi:i < z.length:=by have:=(List.getElem?_eq_some_iff.mp hc).1; rw [Array.length_toList] at this; exact this
  have hca:R.atS z i=c:=by have:=R.cA hi; rw [hc] at this; exact (Option.some.inj this).symm
  obtain ⟨h1,h2⟩:=hbe i hi
  refine qH rfl (cX (bT 6 fP.nd (cX (bT 7 fP.nd (k8 ?_)))))
  refine aJ (bG ?_)
  refine aZ gI ?_
  refine ge_v 7 rfl ?_
  refine ge_v 1 rfl ?_
  refine lA ?_
  refine ⟨_,rfl,?_⟩
  rw [aJV]
  by_cases hs:c=R.sg s
  ·refine fZ (decide_eq_true hs) (aJ (aP 5 fP.nd ?_))
   refine aG aKN (hr.mono (by decide)) aKM.m aKM.F.kp aKM.b ?_
   refine aA ?_
   refine ge_v 5 rfl ?_
   refine aA ?_
   refine ge_v 1 rfl ?_
   refine aA ?_
   refine aI aF ?_
   refine ge_v 2 rfl ?_
   refine ge_v 6 rfl ?_
   refine aK (.lst _) (yB (by omega)) ?_
   refine aA ?_
   refine aI aF ?_
   refine ge_v 3 rfl ?_
   refine ge_v 6 rfl ?_
   refine aK (.lst _) (yB (by omega)) ?_
   refine aB ?_
   refine ⟨_,s,_,_,rfl,h1,by rw [nJ]; exact h2,by rw [nJ]; exact hw,?_⟩
   rw [aAP (hca.trans hs) h1 h2]
   exact ⟨rfl,_,_,rfl⟩
  ·refine fS (decide_eq_false hs) (bC ?_)
   dsimp only
   rw [aC9 (fun q=>hs (hca.symm.trans q))]
   exact ⟨rfl,_,_,rfl⟩
 ·rintro Γ' M1 ⟨rfl,v6,v7,rfl⟩
  rw [aAF,gS]
  refine aJ (aN ?_)
  refine ge_v 5 rfl ?_
  exact hk
theorem nK:FnScope ["top", "bottom", "divisor"] ["top", "bottom"] (aO gT):=⟨rfl,rfl,rfl,by decide +kernel,rfl,by decide +kernel,by decide +kernel⟩
theorem aAX {f:Addr}{fd:FuncData}{aKO:Addr}{aKP:FuncData} (Df:R.Df K mg "lowest" gT ["top", "bottom"] f fd)
  (aKQ:R.Df K mg "common_divisor" dR ["one", "other"] aKO aKP) (aKR:FnOk P w K mg base CX0 1 aKO aKP ["one", "other"] (spZ K q0)):FnOk P w K mg base CX0 2 f fd ["top", "bottom"] (spZ K k6):=by
 refine bF Df nK (fun ds M k h => ?_) (fun cdv A outer s H E hr ds M k h => ?_)
 ·obtain ⟨a,b,rfl,_⟩:=h; rfl
 obtain ⟨a,b,rfl,hb0,hbb,hk⟩:=h
 have hg:Int.gcd a b≠0:=fun e=>hb0 (Int.gcd_eq_zero_iff.mp e).2
 have hgl:Int.gcd a b≤b.natAbs:=Nat.le_of_dvd (by omega) (Int.gcd_dvd_natAbs_right a b)
 have hd:dv a b≠0∧(dv a b).natAbs < big:=by
  refine ⟨by unfold dv; split <;> omega,Nat.lt_of_lt_of_le (show (dv a b).natAbs < 10 ^ 1000 from ?_) (by unfold big; decide)⟩
  have:(dv a b).natAbs=Int.gcd a b:=by unfold dv; split <;> omega
  omega
 refine aD (aP 2 nK.nd ?_)
 refine aG aKR (hr.mono (by decide)) aKQ.m aKQ.F.kp aKQ.b ?_
 refine aA ?_
 refine ge_v 0 rfl ?_
 refine aA ?_
 refine ge_v 1 rfl ?_
 refine aB ?_
 refine ⟨a,b,rfl,?_⟩
 refine aD (i4 (fun Γ' M'=>M'=M∧Γ'=[some (.int a),some (.int b),some (.int (dv a b))]) (bG ?_) ?_)
 ·refine aZ eM ?_
  refine ge_v 1 rfl ?_
  refine aC ?_
  refine o2_B ?_
  refine ⟨_,rfl,?_⟩
  refine ite2 (fun hb => ?_) (fun hb => ?_)
  ·have:=of_decide_eq_true hb
   refine aJ (aP 2 nK.nd ?_)
   refine kS i9 ?_
   refine ge_v 2 rfl ?_
   refine ⟨_,rfl,?_⟩
   exact ⟨rfl,by unfold dv; rw [if_pos this]; rfl⟩
  ·have:¬ b < 0:=fun z=>hb (decide_eq_true z)
   exact bC ⟨rfl,by unfold dv; rw [if_neg this]; rfl⟩
 rintro Γ' M' ⟨rfl,rfl⟩
 refine aJ (aN (cB (aA (aH lZ ?_))))
 refine ge_v 0 rfl ?_
 refine ge_v 2 rfl ?_
 refine o2_C hd (aA (aH lZ ?_))
 refine ge_v 1 rfl ?_
 refine ge_v 2 rfl ?_
 refine o2_C hd (aB ⟨(show 2≤sizeLine by decide),?_⟩)
 exact hk
theorem vW:FnScope ["top", "bottom"] ["top", "bottom"] (aO iD):=⟨rfl,rfl,rfl,by decide +kernel,rfl,by decide +kernel,by decide +kernel⟩
theorem wD {f:Addr}{fd:FuncData}{aKS aKT:Addr}{aKU aKV:FuncData} (Df:R.Df K mg "fraction" iD ["top", "bottom"] f fd)
  (aKW:R.Df K mg "is_whole" fR ["thing"] aKS aKU) (aKX:FnOk P w K mg base CX0 1 aKS aKU ["thing"] (spZ K mC))
  (aKY:R.Df K mg "lowest" gT ["top", "bottom"] aKT aKV) (aKZ:FnOk P w K mg base CX0 2 aKT aKV ["top", "bottom"] (spZ K k6)):FnOk P w K mg base CX0 3 f fd ["top", "bottom"] (spZ K m7):=by
 refine bF Df vW (fun ds M k h => ?_) (fun cdv A outer s H E hr ds M k h => ?_)
 ·obtain ⟨a,b,rfl,_⟩:=h; rfl
 obtain ⟨a,b,rfl,hb0,hbb,hk⟩:=h
 refine aD (bG (gt_w (dH ?_)))
 refine bS ?_
 refine bL ?_
 refine aG aKX (hr.mono (by decide)) aKW.m aKW.F.kp aKW.b ?_
 refine aA ?_
 refine ge_v 0 rfl ?_
 refine aB ?_
 refine ⟨_,rfl,trivial,?_⟩
 refine ⟨_,rfl,?_⟩
 refine iteF (eS ?_)
 refine bS ?_
 refine bL ?_
 refine aG aKX (hr.mono (by decide)) aKW.m aKW.F.kp aKW.b ?_
 refine aA ?_
 refine ge_v 1 rfl ?_
 refine aB ?_
 refine ⟨_,rfl,trivial,?_⟩
 refine ⟨_,rfl,?_⟩
 refine iteF (bC ?_)
 refine aD (bG ?_)
 refine aZ gI ?_
 refine ge_v 1 rfl ?_
 refine aC ?_
 refine lG ?_
 refine ⟨_,rfl,?_⟩
 refine ite2 (fun hb=>absurd (of_decide_eq_true hb) (by omega)) (fun _=>bC ?_)
 refine aJ (aN ?_)
 refine aG aKZ (hr.mono (by decide)) aKY.m aKY.F.kp aKY.b ?_
 refine aA ?_
 refine ge_v 0 rfl ?_
 refine aA ?_
 refine ge_v 1 rfl ?_
 refine aB ?_
 refine ⟨a,b,rfl,hb0,hbb,?_⟩
 exact hk
theorem aGP:FnScope ["one", "other"] ["one", "other"] (aO pQ):=⟨rfl,rfl,rfl,by decide +kernel,rfl,by decide +kernel,by decide +kernel⟩
theorem aF2 {f:Addr}{fd:FuncData}{aKT:Addr}{aKV:FuncData} (Df:R.Df K mg "plus" pQ ["one", "other"] f fd)
  (aKY:R.Df K mg "lowest" gT ["top", "bottom"] aKT aKV) (aKZ:FnOk P w K mg base CX0 2 aKT aKV ["top", "bottom"] (spZ K k6)):FnOk P w K mg base CX0 3 f fd ["one", "other"] (spZ K aCR):=by
 refine bF Df aGP (fun ds M k h => ?_) (fun cdv A outer s H E hr ds M k h => ?_)
 ·obtain ⟨p,q,rfl,_⟩:=h; rfl
 obtain ⟨p,q,rfl,hp,hq,hk⟩:=h
 obtain ⟨h1,h2⟩:=uQ hp.g hq.g
 unfold numD at hk
 rw [← aF3] at hk
 refine aJ (aN (aG aKZ (hr.mono (by decide)) aKY.m aKY.F.kp aKY.b ?_))
 refine aA (aH bK (aH fH ?_))
 refine aI aF ?_
 refine ge_v 0 rfl ?_
 refine aC ?_
 refine aK (.tup _) rfl ?_
 refine aI aF ?_
 refine ge_v 1 rfl ?_
 refine aC ?_
 refine aK (.tup _) rfl ?_
 refine o2_C ⟨big400 hp.g.a,big400 hq.g.b⟩ (aH fH ?_)
 refine aI aF ?_
 refine ge_v 1 rfl ?_
 refine aC ?_
 refine aK (.tup _) rfl ?_
 refine aI aF ?_
 refine ge_v 0 rfl ?_
 refine aC ?_
 refine aK (.tup _) rfl ?_
 refine o2_C ⟨big400 hq.g.a,big400 hp.g.b⟩ (o2_0 ?_)
 refine aA (aH fH ?_)
 refine aI aF ?_
 refine ge_v 0 rfl ?_
 refine aC ?_
 refine aK (.tup _) rfl ?_
 refine aI aF ?_
 refine ge_v 1 rfl ?_
 refine aC ?_
 refine aK (.tup _) rfl ?_
 refine o2_C ⟨big400 hp.g.b,big400 hq.g.b⟩ (aB ?_)
 exact ⟨_,_,rfl,h1,h2,hk⟩
theorem aDP:FnScope ["one", "other"] ["one", "other"] (aO nS):=⟨rfl,rfl,rfl,by decide +kernel,rfl,by decide +kernel,by decide +kernel⟩
theorem aDV {f:Addr}{fd:FuncData}{aKT:Addr}{aKV:FuncData} (Df:R.Df K mg "minus" nS ["one", "other"] f fd)
  (aKY:R.Df K mg "lowest" gT ["top", "bottom"] aKT aKV) (aKZ:FnOk P w K mg base CX0 2 aKT aKV ["top", "bottom"] (spZ K k6)):FnOk P w K mg base CX0 3 f fd ["one", "other"] (spZ K xS):=by
 refine bF Df aDP (fun ds M k h => ?_) (fun cdv A outer s H E hr ds M k h => ?_)
 ·obtain ⟨p,q,rfl,_⟩:=h; rfl
 obtain ⟨p,q,rfl,hp,hq,hk⟩:=h
 obtain ⟨h1,h2⟩:=uQ hp.g hq.g
 unfold numD at hk
 rw [← aDY] at hk
 refine aJ (aN (aG aKZ (hr.mono (by decide)) aKY.m aKY.F.kp aKY.b ?_))
 refine aA (aH bY (aH fH ?_))
 refine aI aF ?_
 refine ge_v 0 rfl ?_
 refine aC ?_
 refine aK (.tup _) rfl ?_
 refine aI aF ?_
 refine ge_v 1 rfl ?_
 refine aC ?_
 refine aK (.tup _) rfl ?_
 refine o2_C ⟨big400 hp.g.a,big400 hq.g.b⟩ (aH fH ?_)
 refine aI aF ?_
 refine ge_v 1 rfl ?_
 refine aC ?_
 refine aK (.tup _) rfl ?_
 refine aI aF ?_
 refine ge_v 0 rfl ?_
 refine aC ?_
 refine aK (.tup _) rfl ?_
 refine o2_C ⟨big400 hq.g.a,big400 hp.g.b⟩ (o2_0 ?_)
 refine aA (aH fH ?_)
 refine aI aF ?_
 refine ge_v 0 rfl ?_
 refine aC ?_
 refine aK (.tup _) rfl ?_
 refine aI aF ?_
 refine ge_v 1 rfl ?_
 refine aC ?_
 refine aK (.tup _) rfl ?_
 refine o2_C ⟨big400 hp.g.b,big400 hq.g.b⟩ (aB ?_)
 exact ⟨_,_,rfl,h1,h2,hk⟩
theorem aEN:FnScope ["one", "other"] ["one", "other"] (aO oM):=⟨rfl,rfl,rfl,by decide +kernel,rfl,by decide +kernel,by decide +kernel⟩
theorem aD9 {f:Addr}{fd:FuncData}{aKT:Addr}{aKV:FuncData} (Df:R.Df K mg "times" oM ["one", "other"] f fd)
  (aKY:R.Df K mg "lowest" gT ["top", "bottom"] aKT aKV) (aKZ:FnOk P w K mg base CX0 2 aKT aKV ["top", "bottom"] (spZ K k6)):FnOk P w K mg base CX0 3 f fd ["one", "other"] (spZ K xC):=by
 refine bF Df aEN (fun ds M k h => ?_) (fun cdv A outer s H E hr ds M k h => ?_)
 ·obtain ⟨p,q,rfl,_⟩:=h; rfl
 obtain ⟨p,q,rfl,hp,hq,hk⟩:=h
 obtain ⟨h1,h2⟩:=uQ hp.g hq.g
 unfold numD at hk
 rw [← aCY] at hk
 refine aJ (aN (aG aKZ (hr.mono (by decide)) aKY.m aKY.F.kp aKY.b ?_))
 refine aA (aH fH ?_)
 refine aI aF ?_
 refine ge_v 0 rfl ?_
 refine aC ?_
 refine aK (.tup _) rfl ?_
 refine aI aF ?_
 refine ge_v 1 rfl ?_
 refine aC ?_
 refine aK (.tup _) rfl ?_
 refine o2_C ⟨big400 hp.g.a,big400 hq.g.a⟩ ?_
 refine aA (aH fH ?_)
 refine aI aF ?_
 refine ge_v 0 rfl ?_
 refine aC ?_
 refine aK (.tup _) rfl ?_
 refine aI aF ?_
 refine ge_v 1 rfl ?_
 refine aC ?_
 refine aK (.tup _) rfl ?_
 refine o2_C ⟨big400 hp.g.b,big400 hq.g.b⟩ (aB ?_)
 exact ⟨_,_,rfl,h1,h2,hk⟩
theorem aDG:FnScope ["one", "other"] ["one", "other"] (aO jU):=⟨rfl,rfl,rfl,by decide +kernel,rfl,by decide +kernel,by decide +kernel⟩
theorem aDH {f:Addr}{fd:FuncData} (Df:R.Df K mg "under" jU ["one", "other"] f fd):FnOk P w K mg base CX0 1 f fd ["one", "other"] (spZ K nR):=by
 refine bF Df aDG (fun ds M k h => ?_) (fun cdv A outer s H E hr ds M k h => ?_)
 ·obtain ⟨p,q,rfl,_⟩:=h; rfl
 obtain ⟨p,q,rfl,⟨p1,p2⟩,⟨q1,q2⟩,hk⟩:=h
 refine aJ (aN (fA eM (aH fH ?_)))
 refine aI aF ?_
 refine ge_v 0 rfl ?_
 refine aC ?_
 refine aK (.tup _) rfl ?_
 refine aI aF ?_
 refine ge_v 1 rfl ?_
 refine aC ?_
 refine aK (.tup _) rfl ?_
 refine o2_C ⟨big400 p1,big400 q2⟩ (aH fH ?_)
 refine aI aF ?_
 refine ge_v 1 rfl ?_
 refine aC ?_
 refine aK (.tup _) rfl ?_
 refine aI aF ?_
 refine ge_v 0 rfl ?_
 refine aC ?_
 refine aK (.tup _) rfl ?_
 refine o2_C ⟨big400 q1,big400 p2⟩ (o2_B ?_)
 exact hk
theorem b7:FnScope ["one", "other", "told", "first", "second", "ahead"] ["one", "other"] (aO lP):=⟨rfl,rfl,rfl,by decide +kernel,rfl,by decide +kernel,by decide +kernel⟩
theorem aAO {f:Addr}{fd:FuncData}{aK0:Addr}{aK1:FuncData} (Df:R.Df K mg "merged" lP ["one", "other"] f fd)
  (aK2:R.Df K mg "under" jU ["one", "other"] aK0 aK1) (aK3:FnOk P w K mg base CX0 1 aK0 aK1 ["one", "other"] (spZ K nR)) (T:Bt mg):FnOk P w K mg base CX0 2 f fd ["one", "other"] (spZ K t8):=by
 refine bF Df b7 (fun ds M k h => ?_) (fun cdv A outer s H E hr ds M k h => ?_)
 ·rcases h with ⟨xs,ys,rfl,_⟩ | ⟨xs,ys,rfl,_⟩ <;> rfl
 rcases h with h | h
 ·obtain ⟨xs,ys,rfl,h9,g9,lx,ly,hk⟩:=h
  have mx:=aT xs
  have my:=aT ys
  refine aD (aP 2 b7.nd (jY ?_))
  refine aB ⟨(show 0≤sizeLine by decide),fun a ha => ?_⟩
  refine aD (aP 3 b7.nd ?_)
  refine aC ?_
  refine aD (aP 4 b7.nd ?_)
  refine aC ?_
  refine aD (lN (fun m Γ' M'=>∃ (f s:Nat) (acc:List Rat) (v5:Option D),Γ'=[some (.tup (aL xs)),some (.tup (aL ys)),some (.mt a),some (.int (f:Int)),some (.int (s:Int)),v5]∧M'=updM M a (.lst (aL acc))∧f≤xs.length∧s≤ys.length∧acc++aY (xs.drop f) (ys.drop s)=aY xs ys∧m=(xs.length - f)+(ys.length - s)) (n:=xs.length+ys.length) ⟨0,0,[],_,rfl,rfl,by omega,by omega,rfl,by omega⟩ ?_)
  rintro m Γ' M' ⟨f,s,acc,v5,rfl,rfl,hf,hs,hacc,rfl⟩
  have hal:acc.length≤200:=by
   have h1:=congrArg List.length hacc
   have h2:=fU xs ys
   rw [List.length_append] at h1
   omega
  refine kY (P:=fun c M1=>M1=updM M a (.lst (aL acc))∧(c=true→f < xs.length∧s < ys.length)∧(c=false→f=xs.length∨s=ys.length)) (gt_w (lE ?_)) ?_
  ·refine aZ eM ?_
   refine ge_v 3 rfl ?_
   refine aM aX T.len PySem.boot_len ?_
   refine aA ?_
   refine ge_v 0 rfl ?_
   refine aB ?_
   refine bQ (.tup _) ?_
   refine o2_B ?_
   refine ⟨_,rfl,?_⟩
   rw [mx]
   refine ite2 (fun h1 => ?_) (fun h1=>⟨rfl,(fun z=>nomatch z),fun _ => .inl (by have:¬ (f:Int) < (xs.length:Int):=fun z=>h1 (decide_eq_true z); omega)⟩)
   have h1':(f:Int) < (xs.length:Int):=of_decide_eq_true h1
   refine jV ?_
   refine aZ eM ?_
   refine ge_v 4 rfl ?_
   refine aM aX T.len PySem.boot_len ?_
   refine aA ?_
   refine ge_v 1 rfl ?_
   refine aB ?_
   refine bQ (.tup _) ?_
   refine o2_B ?_
   refine ⟨_,rfl,?_⟩
   rw [my]
   refine ⟨rfl,fun h2=>⟨by omega,by have:=of_decide_eq_true h2; omega⟩,fun h2 => .inr (by have:=of_decide_eq_false h2; omega)⟩
  rintro c M1 ⟨rfl,ht,hfl⟩
  refine ite2 (fun hc => ?_) (fun hc => ?_)
  ·obtain ⟨h1,h2⟩:=ht hc
   have gx:xs.getD f 0∈xs:=by rw [List.getD_eq_getElem?_getD,List.getElem?_eq_getElem h1]; exact List.getElem_mem h1
   have gy:ys.getD s 0∈ys:=by rw [List.getD_eq_getElem?_getD,List.getElem?_eq_getElem h2]; exact List.getElem_mem h2
   have x1:=h9 _ gx
   have y1:=g9 _ gy
   refine aD (aP 5 b7.nd ?_)
   refine aI aF ?_
   refine ge_v 0 rfl ?_
   refine ge_v 3 rfl ?_
   refine aK (.tup _) (dQ (by omega)) ?_
   refine aD (i4 (fun Γ' M'=>M'=updM M a (.lst (aL acc))∧Γ'=[some (.tup (aL xs)),some (.tup (aL ys)),some (.mt a),some (.int (f:Int)),some (.int (s:Int)),some (numD ((if ys.getD s 0 < xs.getD f 0 then ys.getD s 0 else xs.getD f 0)))]) ?_ ?_)
   ·refine bG ?_
    refine bL ?_
    refine aG aK3 (hr.mono (by decide)) aK2.m aK2.F.kp aK2.b ?_
    refine aA ?_
    refine aI aF ?_
    refine ge_v 1 rfl ?_
    refine ge_v 4 rfl ?_
    refine aK (.tup _) (dQ (by omega)) ?_
    refine aA ?_
    refine ge_v 5 rfl ?_
    refine aB ?_
    refine ⟨pq (ys.getD s 0),pq (xs.getD f 0),rfl,y1.p,x1.p,?_⟩
    refine ⟨_,rfl,?_⟩
    rw [sU]
    by_cases hlt:ys.getD s 0 < xs.getD f 0
    ·refine fZ (decide_eq_true hlt) (aJ (aP 5 b7.nd ?_))
     refine aI aF ?_
     refine ge_v 1 rfl ?_
     refine ge_v 4 rfl ?_
     refine aK (.tup _) (dQ (by omega)) ?_
     exact ⟨rfl,by rw [if_pos hlt]; rfl⟩
    ·exact fS (decide_eq_false hlt) (bC ⟨rfl,by rw [if_neg hlt]; rfl⟩)
   rintro Γ' M1 ⟨rfl,rfl⟩
   have hst:=lX h1 h2
   have hah:(if ys.getD s 0 < xs.getD f 0 then ys.getD s 0 else xs.getD f 0)=ys.getD s 0∨(if ys.getD s 0 < xs.getD f 0 then ys.getD s 0 else xs.getD f 0)=xs.getD f 0:=by split <;> simp
   generalize (if ys.getD s 0 < xs.getD f 0 then ys.getD s 0 else xs.getD f 0)=ah at *
   refine aD (aP 3 b7.nd (aH bK ?_))
   refine ge_v 3 rfl ?_
   refine mO (P:=fun d M1=>M1=updM M a (.lst (aL acc))∧d = .int (if xs.getD f 0=ah then 1 else 0)) (kC (aZ (jH (n:=1) (R.cM hr)) ?_)) ?_
   ·refine aI aF ?_
    refine ge_v 0 rfl ?_
    refine ge_v 3 rfl ?_
    refine aK (.tup _) (dQ (by omega)) ?_
    refine ge_v 5 rfl ?_
    refine jE (e1:=numD ((xs.getD f 0))) (e2:=numD (ah)) (.tup _) (.tup _) rfl rfl ⟨_,rfl,?_⟩
    rw [f8]
    by_cases hc:xs.getD f 0=ah
    ·refine fZ (decide_eq_true hc) ?_
     refine aC ?_
     exact ⟨rfl,by rw [if_pos hc]⟩
    ·refine fS (decide_eq_false hc) ?_
     refine aC ?_
     exact ⟨rfl,by rw [if_neg hc]⟩
   rintro d M1 ⟨rfl,rfl⟩
   refine o2_0 ?_
   rw [show ((f:Int)+if xs.getD f 0=ah then 1 else 0)=((f+if xs.getD f 0=ah then 1 else 0:Nat):Int) from by split <;> rfl]
   refine aD (aP 4 b7.nd (aH bK ?_))
   refine ge_v 4 rfl ?_
   refine mO (P:=fun d M1=>M1=updM M a (.lst (aL acc))∧d = .int (if ys.getD s 0=ah then 1 else 0)) (kC (aZ (jH (n:=1) (R.cM hr)) ?_)) ?_
   ·refine aI aF ?_
    refine ge_v 1 rfl ?_
    refine ge_v 4 rfl ?_
    refine aK (.tup _) (dQ (by omega)) ?_
    refine ge_v 5 rfl ?_
    refine jE (e1:=numD ((ys.getD s 0))) (e2:=numD (ah)) (.tup _) (.tup _) rfl rfl ⟨_,rfl,?_⟩
    rw [f8]
    by_cases hc:ys.getD s 0=ah
    ·refine fZ (decide_eq_true hc) ?_
     refine aC ?_
     exact ⟨rfl,by rw [if_pos hc]⟩
    ·refine fS (decide_eq_false hc) ?_
     refine aC ?_
     exact ⟨rfl,by rw [if_neg hc]⟩
   rintro d M1 ⟨rfl,rfl⟩
   refine o2_0 ?_
   rw [show ((s:Int)+if ys.getD s 0=ah then 1 else 0)=((s+if ys.getD s 0=ah then 1 else 0:Nat):Int) from by split <;> rfl]
   refine aJ (n5 ?_)
   refine i0 PySem.F.plainAttrs_list PySem.F.slot_list_append PySem.F.type_list_append gZ ?_
   refine ge_v 2 rfl ?_
   refine ⟨⟨rfl,_,aV⟩,?_⟩
   refine aA ?_
   refine ge_v 5 rfl ?_
   refine aB ?_
   refine kJ aV (by rw [aT]; exact Nat.lt_of_le_of_lt (show _≤60000 by omega) (by decide)) ?_
   refine ⟨_,?_,_,_,acc++[ah],_,rfl,by rw [nO,← cU]; rfl,by split <;> omega,by split <;> omega,by rw [← hacc,hst,List.append_assoc]; rfl,rfl⟩
   rcases hah with e | e
   ·rw [if_pos e.symm]; split <;> omega
   ·rw [if_pos e.symm]; split <;> omega
  ·have hz:=hfl (by simpa using hc)
   have fin:acc++xs.drop f++ys.drop s=aY xs ys:=by
    rw [← hacc]
    rcases hz with h | h
    ·rw [h,List.drop_length,List.append_nil,j7]
    ·rw [h,List.drop_length,List.append_nil,nB]
   refine i6 2 rfl aV ?_
   rw [gN ha]
   refine aJ (aN ?_)
   refine aH fC ?_
   refine aH fC ?_
   refine ge_v 2 rfl ?_
   refine bU cT T.list R.BL ?_
   refine aA ?_
   refine cZ xY ?_
   refine ge_v 0 rfl ?_
   refine dM ?_
   refine ge_v 3 rfl ?_
   refine ⟨_,rfl,?_⟩
   refine dN ?_
   refine wR ?_
   refine aB ?_
   refine fY (.tup _) ?_
   refine fB (.lst _) (.lst _) (by rw [dB _ _ (by rw [mx]; exact hf),cP,aT,aT,List.length_drop]; exact R.aU (by omega)) ?_
   refine bU cT T.list R.BL ?_
   refine aA ?_
   refine cZ xY ?_
   refine ge_v 1 rfl ?_
   refine dM ?_
   refine ge_v 4 rfl ?_
   refine ⟨_,rfl,?_⟩
   refine dN ?_
   refine wR ?_
   refine aB ?_
   refine fY (.tup _) ?_
   refine fB (.lst _) (.lst _) (by rw [dB _ _ (by rw [mx]; exact hf),dB _ _ (by rw [my]; exact hs),cP,cP,cU,aT,aT,List.length_append,List.length_drop,List.length_drop]; exact R.aU (by omega)) ?_
   rw [dB _ _ (by rw [mx]; exact hf),dB _ _ (by rw [my]; exact hs),cP,cP,cU,cU,fin]
   exact hk
 ·obtain ⟨xs,ys,rfl,h9,g9,lx,ly,hk⟩:=h
  have mx:=aT xs
  have my:=aT ys
  refine aD (aP 2 b7.nd (jY ?_))
  refine aB ⟨(show 0≤sizeLine by decide),fun a ha => ?_⟩
  refine aD (aP 3 b7.nd ?_)
  refine aC ?_
  refine aD (aP 4 b7.nd ?_)
  refine aC ?_
  refine aD (lN (fun m Γ' M'=>∃ (f s:Nat) (acc:List Rat) (v5:Option D),Γ'=[some (.lst (aL xs)),some (.lst (aL ys)),some (.mt a),some (.int (f:Int)),some (.int (s:Int)),v5]∧M'=updM M a (.lst (aL acc))∧f≤xs.length∧s≤ys.length∧acc++aY (xs.drop f) (ys.drop s)=aY xs ys∧m=(xs.length - f)+(ys.length - s)) (n:=xs.length+ys.length) ⟨0,0,[],_,rfl,rfl,by omega,by omega,rfl,by omega⟩ ?_)
  rintro m Γ' M' ⟨f,s,acc,v5,rfl,rfl,hf,hs,hacc,rfl⟩
  have hal:acc.length≤200:=by
   have h1:=congrArg List.length hacc
   have h2:=fU xs ys
   rw [List.length_append] at h1
   omega
  refine kY (P:=fun c M1=>M1=updM M a (.lst (aL acc))∧(c=true→f < xs.length∧s < ys.length)∧(c=false→f=xs.length∨s=ys.length)) (gt_w (lE ?_)) ?_
  ·refine aZ eM ?_
   refine ge_v 3 rfl ?_
   refine aM aX T.len PySem.boot_len ?_
   refine aA ?_
   refine ge_v 0 rfl ?_
   refine aB ?_
   refine bQ (.lst _) ?_
   refine o2_B ?_
   refine ⟨_,rfl,?_⟩
   rw [mx]
   refine ite2 (fun h1 => ?_) (fun h1=>⟨rfl,(fun z=>nomatch z),fun _ => .inl (by have:¬ (f:Int) < (xs.length:Int):=fun z=>h1 (decide_eq_true z); omega)⟩)
   have h1':(f:Int) < (xs.length:Int):=of_decide_eq_true h1
   refine jV ?_
   refine aZ eM ?_
   refine ge_v 4 rfl ?_
   refine aM aX T.len PySem.boot_len ?_
   refine aA ?_
   refine ge_v 1 rfl ?_
   refine aB ?_
   refine bQ (.lst _) ?_
   refine o2_B ?_
   refine ⟨_,rfl,?_⟩
   rw [my]
   refine ⟨rfl,fun h2=>⟨by omega,by have:=of_decide_eq_true h2; omega⟩,fun h2 => .inr (by have:=of_decide_eq_false h2; omega)⟩
  rintro c M1 ⟨rfl,ht,hfl⟩
  refine ite2 (fun hc => ?_) (fun hc => ?_)
  ·obtain ⟨h1,h2⟩:=ht hc
   have gx:xs.getD f 0∈xs:=by rw [List.getD_eq_getElem?_getD,List.getElem?_eq_getElem h1]; exact List.getElem_mem h1
   have gy:ys.getD s 0∈ys:=by rw [List.getD_eq_getElem?_getD,List.getElem?_eq_getElem h2]; exact List.getElem_mem h2
   have x1:=h9 _ gx
   have y1:=g9 _ gy
   refine aD (aP 5 b7.nd ?_)
   refine aI aF ?_
   refine ge_v 0 rfl ?_
   refine ge_v 3 rfl ?_
   refine aK (.lst _) (dQ (by omega)) ?_
   refine aD (i4 (fun Γ' M'=>M'=updM M a (.lst (aL acc))∧Γ'=[some (.lst (aL xs)),some (.lst (aL ys)),some (.mt a),some (.int (f:Int)),some (.int (s:Int)),some (numD ((if ys.getD s 0 < xs.getD f 0 then ys.getD s 0 else xs.getD f 0)))]) ?_ ?_)
   ·refine bG ?_
    refine bL ?_
    refine aG aK3 (hr.mono (by decide)) aK2.m aK2.F.kp aK2.b ?_
    refine aA ?_
    refine aI aF ?_
    refine ge_v 1 rfl ?_
    refine ge_v 4 rfl ?_
    refine aK (.lst _) (dQ (by omega)) ?_
    refine aA ?_
    refine ge_v 5 rfl ?_
    refine aB ?_
    refine ⟨pq (ys.getD s 0),pq (xs.getD f 0),rfl,y1.p,x1.p,?_⟩
    refine ⟨_,rfl,?_⟩
    rw [sU]
    by_cases hlt:ys.getD s 0 < xs.getD f 0
    ·refine fZ (decide_eq_true hlt) (aJ (aP 5 b7.nd ?_))
     refine aI aF ?_
     refine ge_v 1 rfl ?_
     refine ge_v 4 rfl ?_
     refine aK (.lst _) (dQ (by omega)) ?_
     exact ⟨rfl,by rw [if_pos hlt]; rfl⟩
    ·exact fS (decide_eq_false hlt) (bC ⟨rfl,by rw [if_neg hlt]; rfl⟩)
   rintro Γ' M1 ⟨rfl,rfl⟩
   have hst:=lX h1 h2
   have hah:(if ys.getD s 0 < xs.getD f 0 then ys.getD s 0 else xs.getD f 0)=ys.getD s 0∨(if ys.getD s 0 < xs.getD f 0 then ys.getD s 0 else xs.getD f 0)=xs.getD f 0:=by split <;> simp
   generalize (if ys.getD s 0 < xs.getD f 0 then ys.getD s 0 else xs.getD f 0)=ah at *
   refine aD (aP 3 b7.nd (aH bK ?_))
   refine ge_v 3 rfl ?_
   refine mO (P:=fun d M1=>M1=updM M a (.lst (aL acc))∧d = .int (if xs.getD f 0=ah then 1 else 0)) (kC (aZ (jH (n:=1) (R.cM hr)) ?_)) ?_
   ·refine aI aF ?_
    refine ge_v 0 rfl ?_
    refine ge_v 3 rfl ?_
    refine aK (.lst _) (dQ (by omega)) ?_
    refine ge_v 5 rfl ?_
    refine jE (e1:=numD ((xs.getD f 0))) (e2:=numD (ah)) (.tup _) (.tup _) rfl rfl ⟨_,rfl,?_⟩
    rw [f8]
    by_cases hc:xs.getD f 0=ah
    ·refine fZ (decide_eq_true hc) ?_
     refine aC ?_
     exact ⟨rfl,by rw [if_pos hc]⟩
    ·refine fS (decide_eq_false hc) ?_
     refine aC ?_
     exact ⟨rfl,by rw [if_neg hc]⟩
   rintro d M1 ⟨rfl,rfl⟩
   refine o2_0 ?_
   rw [show ((f:Int)+if xs.getD f 0=ah then 1 else 0)=((f+if xs.getD f 0=ah then 1 else 0:Nat):Int) from by split <;> rfl]
   refine aD (aP 4 b7.nd (aH bK ?_))
   refine ge_v 4 rfl ?_
   refine mO (P:=fun d M1=>M1=updM M a (.lst (aL acc))∧d = .int (if ys.getD s 0=ah then 1 else 0)) (kC (aZ (jH (n:=1) (R.cM hr)) ?_)) ?_
   ·refine aI aF ?_
    refine ge_v 1 rfl ?_
    refine ge_v 4 rfl ?_
    refine aK (.lst _) (dQ (by omega)) ?_
    refine ge_v 5 rfl ?_
    refine jE (e1:=numD ((ys.getD s 0))) (e2:=numD (ah)) (.tup _) (.tup _) rfl rfl ⟨_,rfl,?_⟩
    rw [f8]
    by_cases hc:ys.getD s 0=ah
    ·refine fZ (decide_eq_true hc) ?_
     refine aC ?_
     exact ⟨rfl,by rw [if_pos hc]⟩
    ·refine fS (decide_eq_false hc) ?_
     refine aC ?_
     exact ⟨rfl,by rw [if_neg hc]⟩
   rintro d M1 ⟨rfl,rfl⟩
   refine o2_0 ?_
   rw [show ((s:Int)+if ys.getD s 0=ah then 1 else 0)=((s+if ys.getD s 0=ah then 1 else 0:Nat):Int) from by split <;> rfl]
   refine aJ (n5 ?_)
   refine i0 PySem.F.plainAttrs_list PySem.F.slot_list_append PySem.F.type_list_append gZ ?_
   refine ge_v 2 rfl ?_
   refine ⟨⟨rfl,_,aV⟩,?_⟩
   refine aA ?_
   refine ge_v 5 rfl ?_
   refine aB ?_
   refine kJ aV (by rw [aT]; exact Nat.lt_of_le_of_lt (show _≤60000 by omega) (by decide)) ?_
   refine ⟨_,?_,_,_,acc++[ah],_,rfl,by rw [nO,← cU]; rfl,by split <;> omega,by split <;> omega,by rw [← hacc,hst,List.append_assoc]; rfl,rfl⟩
   rcases hah with e | e
   ·rw [if_pos e.symm]; split <;> omega
   ·rw [if_pos e.symm]; split <;> omega
  ·have hz:=hfl (by simpa using hc)
   have fin:acc++xs.drop f++ys.drop s=aY xs ys:=by
    rw [← hacc]
    rcases hz with h | h
    ·rw [h,List.drop_length,List.append_nil,j7]
    ·rw [h,List.drop_length,List.append_nil,nB]
   refine i6 2 rfl aV ?_
   rw [gN ha]
   refine aJ (aN ?_)
   refine aH fC ?_
   refine aH fC ?_
   refine ge_v 2 rfl ?_
   refine bU cT T.list R.BL ?_
   refine aA ?_
   refine cZ f7 ?_
   refine ge_v 0 rfl ?_
   refine dM ?_
   refine ge_v 3 rfl ?_
   refine ⟨_,rfl,?_⟩
   refine dN ?_
   refine iE (.lst _) ?_
   refine aB ?_
   refine fY (.lst _) ?_
   refine fB (.lst _) (.lst _) (by rw [dB _ _ (by rw [mx]; exact hf),cP,aT,aT,List.length_drop]; exact R.aU (by omega)) ?_
   refine bU cT T.list R.BL ?_
   refine aA ?_
   refine cZ f7 ?_
   refine ge_v 1 rfl ?_
   refine dM ?_
   refine ge_v 4 rfl ?_
   refine ⟨_,rfl,?_⟩
   refine dN ?_
   refine iE (.lst _) ?_
   refine aB ?_
   refine fY (.lst _) ?_
   refine fB (.lst _) (.lst _) (by rw [dB _ _ (by rw [mx]; exact hf),dB _ _ (by rw [my]; exact hs),cP,cP,cU,aT,aT,List.length_append,List.length_drop,List.length_drop]; exact R.aU (by omega)) ?_
   rw [dB _ _ (by rw [mx]; exact hf),dB _ _ (by rw [my]; exact hs),cP,cP,cU,cU,fin]
   exact hk
theorem gL:FnScope ["lines", "rows", "sign", "down", "up", "lower", "upper", "finer", "begins", "ends", "wide"] ["lines", "rows", "sign", "down", "up"] (aO oG):=⟨rfl,rfl,rfl,by decide +kernel,rfl,by decide +kernel,by decide +kernel⟩
theorem aDE {f:Addr}{fd:FuncData}{aK4 aK5 aK6 aK7:Addr}{aK8 aK9 aLA aLB:FuncData} (Df:R.Df K mg "grown" oG ["lines", "rows", "sign", "down", "up"] f fd)
  (aLC:R.Df K mg "minus" nS ["one", "other"] aK4 aK8) (aLD:FnOk P w K mg base CX0 3 aK4 aK8 ["one", "other"] (spZ K xS))
  (aLE:R.Df K mg "plus" pQ ["one", "other"] aK5 aK9) (aLF:FnOk P w K mg base CX0 3 aK5 aK9 ["one", "other"] (spZ K aCR))
  (aLG:R.Df K mg "merged" lP ["one", "other"] aK6 aLA) (aLH:FnOk P w K mg base CX0 2 aK6 aLA ["one", "other"] (spZ K t8))
  (aLI:R.Df K mg "grown_row" iX ["row", "sign", "begins", "ends", "wide"] aK7 aLB) (aLJ:FnOk P w K mg base CX0 2 aK7 aLB ["row", "sign", "begins", "ends", "wide"] (spZ K sH)) (T:Bt mg):FnOk P w K mg base CX0 4 f fd ["lines", "rows", "sign", "down", "up"] (spZ K aBJ):=by
 refine bF Df gL (fun ds M k h => ?_) (fun cdv A outer s H E hr ds M k h => ?_)
 ·obtain ⟨ws,r,zs,s,dn,up,rfl,_⟩:=h; rfl
 obtain ⟨ws,r,zs,s,dn,up,rfl,hr2,gr,gz,hzw,lz,hk⟩:=h
 have lw:=gr.len
 have fu:=eP gr.u dn up
 have fl:=kB ws dn up
 have fb:=iT gr.u dn up
 have low_len:(lowQ ws dn).length=ws.length:=List.length_map ..
 have upp_len:(uppQ ws up).length=ws.length:=List.length_map ..
 refine aD (jO 5 ["down"] [3] gL.nd (bJ ?_))
 refine ge_v 0 rfl ?_
 refine ⟨_, .inl rfl,?_⟩
 refine sM (ds:=aL ws) (by rw [aT]; exact R.aU (by omega)) (fun i acc M'=>M'=M∧acc=aL ((ws.take i).map (· - dn))) ⟨rfl,rfl⟩ ?_ ?_
 ·rintro i d acc M' hd ⟨rfl,rfl⟩ cs C s₀ H₀ fp
  obtain ⟨x,hx,rfl⟩:=bP hd
  refine bD (iteT fun cs C s₀ H₀ fp => ?_)
  refine aG aLD (hr.mono (by decide)) aLC.m aLC.F.kp aLC.b ?_
  refine aA ?_
  refine ge_v 0 rfl ?_
  refine aA ?_
  refine ge_v 1 rfl ?_
  refine aB ?_
  refine ⟨_,_,rfl,gr.b x (List.mem_of_getElem? hx),gr.bd,?_⟩
  refine ⟨rfl,?_⟩
  rw [bO hx,← cU]
  rfl
 rintro acc M ⟨rfl,rfl⟩ a5 ha5
 rw [aT,List.take_length]
 refine i6 5 rfl aV ?_
 rw [gN ha5]
 refine aD (jO 6 ["up"] [4] gL.nd (bJ ?_))
 refine ge_v 0 rfl ?_
 refine ⟨_, .inl rfl,?_⟩
 refine sM (ds:=aL ws) (by rw [aT]; exact R.aU (by omega)) (fun i acc M'=>M'=M∧acc=aL ((ws.take i).map (· + up))) ⟨rfl,rfl⟩ ?_ ?_
 ·rintro i d acc M' hd ⟨rfl,rfl⟩ cs C s₀ H₀ fp
  obtain ⟨x,hx,rfl⟩:=bP hd
  refine bD (iteT fun cs C s₀ H₀ fp => ?_)
  refine aG aLF (hr.mono (by decide)) aLE.m aLE.F.kp aLE.b ?_
  refine aA ?_
  refine ge_v 0 rfl ?_
  refine aA ?_
  refine ge_v 1 rfl ?_
  refine aB ?_
  refine ⟨_,_,rfl,gr.b x (List.mem_of_getElem? hx),gr.bu,?_⟩
  refine ⟨rfl,?_⟩
  rw [bO hx,← cU]
  rfl
 rintro acc M ⟨rfl,rfl⟩ a6 ha6
 rw [aT,List.take_length]
 refine i6 6 rfl aV ?_
 rw [gN ha6]
 refine aD (aP 7 gL.nd ?_)
 refine aG aLH (hr.mono (by decide)) aLG.m aLG.F.kp aLG.b ?_
 refine aA ?_
 refine ge_v 5 rfl ?_
 refine aA ?_
 refine ge_v 6 rfl ?_
 refine aB ?_
 refine .inr ⟨lowQ ws dn,uppQ ws up,rfl,gr.lo,gr.hi,by omega,by omega,?_⟩
 rw [show aY (lowQ ws dn) (uppQ ws up)=finQ ws dn up from rfl]
 refine aD (aP 8 gL.nd (aH fC ?_))
 refine dA ?_
 refine aA ?_
 refine aC ?_
 refine aB ?_
 refine ⟨(show 1≤sizeLine by decide),?_⟩
 refine a9 ["finer"] [7] (bJ ?_)
 refine ge_v 5 rfl ?_
 refine ⟨_, .inr (.inl rfl),?_⟩
 refine b6 (ds:=aL (lowQ ws dn)) (by rw [aT,low_len]; exact R.aU (by omega)) (fun i acc M'=>M'=M∧acc=natI (((lowQ ws dn).take i).map (posQ (finQ ws dn up)))) ⟨rfl,rfl⟩ ?_ ?_
 ·rintro i d acc M' hd ⟨rfl,rfl⟩ cs C s₀ H₀ fp
  obtain ⟨x,hx,rfl⟩:=bP hd
  have hm:x∈finQ ws dn up:=(bM _ _ _).mpr (.inl (List.mem_of_getElem? hx))
  obtain ⟨p1,p2⟩:=rF fu hm
  refine bD (iteT fun cs C s₀ H₀ fp => ?_)
  refine i0 PySem.F.plainAttrs_list PySem.F.slot_list_index PySem.F.type_list_index (r9 (n:=1) (R.cM hr)) ?_
  refine ge_v 1 rfl ?_
  refine ⟨rfl,aA ?_⟩
  refine ge_v 0 rfl ?_
  refine aB (rA rfl (o6 _) p1 (by rw [f8]; exact decide_eq_true rfl) p2 (by rw [aT]; omega) ?_)
  refine ⟨rfl,?_⟩
  rw [bO hx]
  unfold natI
  rw [List.map_append]
  rfl
 rintro acc M ⟨rfl,rfl⟩
 rw [aT,List.take_length]
 refine fB (.lst _) (.lst _) (by unfold natI; rw [List.length_map,List.length_map,low_len]; exact R.aU (show 1+ws.length≤_ by omega)) ?_
 refine aD (aP 9 gL.nd (aH fC ?_))
 refine a9 ["finer"] [7] (bJ ?_)
 refine ge_v 6 rfl ?_
 refine ⟨_, .inr (.inl rfl),?_⟩
 refine b6 (ds:=aL (uppQ ws up)) (by rw [aT,upp_len]; exact R.aU (by omega)) (fun i acc M'=>M'=M∧acc=natI (((uppQ ws up).take i).map (posQ (finQ ws dn up)))) ⟨rfl,rfl⟩ ?_ ?_
 ·rintro i d acc M' hd ⟨rfl,rfl⟩ cs C s₀ H₀ fp
  obtain ⟨x,hx,rfl⟩:=bP hd
  have hm:x∈finQ ws dn up:=(bM _ _ _).mpr (.inr (List.mem_of_getElem? hx))
  obtain ⟨p1,p2⟩:=rF fu hm
  refine bD (iteT fun cs C s₀ H₀ fp => ?_)
  refine i0 PySem.F.plainAttrs_list PySem.F.slot_list_index PySem.F.type_list_index (r9 (n:=1) (R.cM hr)) ?_
  refine ge_v 1 rfl ?_
  refine ⟨rfl,aA ?_⟩
  refine ge_v 0 rfl ?_
  refine aB (rA rfl (o6 _) p1 (by rw [f8]; exact decide_eq_true rfl) p2 (by rw [aT]; omega) ?_)
  refine ⟨rfl,?_⟩
  rw [bO hx]
  unfold natI
  rw [List.map_append]
  rfl
 rintro acc M ⟨rfl,rfl⟩
 rw [aT,List.take_length]
 refine dA ?_
 refine aA ?_
 refine aH bY ?_
 refine aM aX T.len PySem.boot_len ?_
 refine aA ?_
 refine ge_v 7 rfl ?_
 refine aB ?_
 refine bQ (.lst _) ?_
 refine aC ?_
 refine o2_0 ?_
 refine aB ?_
 refine ⟨(show 1≤sizeLine by decide),?_⟩
 rw [aT]
 refine fB (.lst _) (.lst _) (by unfold natI; rw [List.length_map,List.length_map,upp_len]; exact R.aU (show ws.length+1≤_ by omega)) ?_
 refine aD (aP 10 gL.nd ?_)
 refine aH bY ?_
 refine aM aX T.len PySem.boot_len ?_
 refine aA ?_
 refine ge_v 7 rfl ?_
 refine aB ?_
 refine bQ (.lst _) ?_
 refine aC ?_
 refine o2_0 ?_
 rw [aT]
 refine aJ (aN (cB (aA ?_)))
 refine ge_v 7 rfl ?_
 refine aA (a9 ["sign", "begins", "ends", "wide"] [2,8,9,10] (bJ ?_))
 refine ge_v 1 rfl ?_
 refine ⟨zs.map .str,hr2.imp id .inl,?_⟩
 refine b6 (ds:=zs.map D.str) (by rw [List.length_map]; exact R.aU (by omega)) (fun i acc M'=>M'=M∧acc=((zs.take i).map (bR s ws dn up)).map D.str) ⟨rfl,rfl⟩ ?_ ?_
 ·rintro i d acc M' hd ⟨rfl,rfl⟩ cs C s₀ H₀ fp
  obtain ⟨z,hz,rfl⟩:=bP hd
  have hzm:=List.mem_of_getElem? hz
  have w2:2≤ws.length:=hzw.elim (fun e=>by rw [e] at hzm; cases hzm) id
  obtain ⟨zl,_⟩:=gz z hzm
  have dl:=tJ z
  have hdl:=yT z (by omega)
  refine bD (iteT fun cs C s₀ H₀ fp => ?_)
  refine aG aLJ (hr.mono (by decide)) aLI.m aLI.F.kp aLI.b ?_
  refine aA ?_
  refine aH jM ?_
  refine aH jM ?_
  refine bW ?_
  refine ge_v 0 rfl ?_
  refine oO hdl.1 ?_
  refine bW ?_
  refine oO hdl.2 ?_
  rw [show Str.ofString "." ++ z++Str.ofString "." = dotZ z from dotted z]
  refine aA ?_
  refine ge_v 1 rfl ?_
  refine aA ?_
  refine ge_v 2 rfl ?_
  refine aA ?_
  refine ge_v 3 rfl ?_
  refine aA ?_
  refine ge_v 4 rfl ?_
  refine aB ?_
  refine ⟨dotZ z,s,begL ws dn up,endL ws dn up,(finQ ws dn up).length - 1,?_,by rw [aDT]; omega,by rw [aC0]; omega,fun i hi=>aFK gr.u gr.d0 gr.u0 w2 (by omega),by omega,by omega,?_⟩
  ·unfold begL endL natI
   rw [List.map_append,List.map_cons,List.map_cons,List.map_nil,show (((finQ ws dn up).length - 1:Nat):Int)=((finQ ws dn up).length:Int) - 1 by omega]
   rfl
  rw [show (dotZ z).length=ws.length+1 by omega,aA3 gr.u gr.d0 gr.u0 w2 (fun y hy=>by rw [List.mem_singleton] at hy; rw [hy]; exact gz z hzm)]
  refine ⟨rfl,?_⟩
  rw [bO hz,List.map_append]
  rfl
 rintro acc M ⟨rfl,rfl⟩
 rw [List.length_map,List.take_length]
 exact aB ⟨(show 2≤sizeLine by decide),hk⟩
theorem aBW:FnScope ["rows", "place"] ["rows", "place"] (aO mG):=⟨rfl,rfl,rfl,by decide +kernel,rfl,by decide +kernel,by decide +kernel⟩
theorem aBL {f:Addr}{fd:FuncData} (Df:R.Df K mg "column" mG ["rows", "place"] f fd):FnOk P w K mg base CX0 1 f fd ["rows", "place"] (spZ K uU):=by
 refine bF Df aBW (fun ds M k h => ?_) (fun cdv A outer s H E hr ds M k h => ?_)
 ·obtain ⟨t,r,zs,n,j,rfl,_⟩:=h; rfl
 obtain ⟨t,r,zs,n,j,rfl,s1,hl,hn,hz,hj,hk⟩:=h
 cases t with
 | true =>
  cases s1
  refine aJ (aN ?_)
  refine i0 PySem.F.plainAttrs_str PySem.F.slot_str_join PySem.F.type_str_join oQ ?_
  refine bW ?_
  refine ⟨rfl,?_⟩
  refine aA ((a9 ["place"] [1] (bJ ?_)))
  refine ge_v 0 rfl ?_
  refine ⟨_, .inr (.inl rfl),?_⟩
  refine b6 (ds:=zs.map D.str) (by rw [List.length_map]; exact R.aU (by omega)) (fun i2 acc2 M2=>M2=M∧acc2=((zs.take i2).map fun z=>(⟨#[R.atS z j]⟩:Str)).map D.str) ⟨rfl,rfl⟩ ?_ ?_
  ·rintro i2 d2 acc2 M2 hd2 ⟨rfl,rfl⟩ cs C s₀ H₀ fp
   obtain ⟨z,hz2,rfl⟩:=bP hd2
   have hzn:=hz z (List.mem_of_getElem? hz2)
   refine bD (iteT fun cs C s₀ H₀ fp => ?_)
   refine aI aF ?_
   refine ge_v 0 rfl ?_
   refine ge_v 1 rfl ?_
   refine k9 (R.aU (by omega)) (R.mS (by omega)) ?_
   refine ⟨rfl,?_⟩
   rw [fK hz2,List.map_append,List.map_append]
   rfl
  ·rintro acc2 M2 ⟨rfl,rfl⟩
   rw [List.length_map,List.take_length]
   refine aB ?_
   refine oS (ys:=zs.map fun z=>(⟨#[R.atS z j]⟩:Str)) (.lst _) (by decide +kernel) ?_ ?_
   ·rw [nV _ (fun z hz => ?_),List.length_map]
    ·omega
    ·obtain ⟨y,_,rfl⟩:=List.mem_map.mp hz
     rfl
   ·rw [R.kH,uB]
    exact hk
 | false =>
  cases s1
  refine aJ (aN ?_)
  refine i0 PySem.F.plainAttrs_str PySem.F.slot_str_join PySem.F.type_str_join oQ ?_
  refine bW ?_
  refine ⟨rfl,?_⟩
  refine aA ((a9 ["place"] [1] (bJ ?_)))
  refine ge_v 0 rfl ?_
  refine ⟨_, .inl rfl,?_⟩
  refine b6 (ds:=zs.map D.str) (by rw [List.length_map]; exact R.aU (by omega)) (fun i2 acc2 M2=>M2=M∧acc2=((zs.take i2).map fun z=>(⟨#[R.atS z j]⟩:Str)).map D.str) ⟨rfl,rfl⟩ ?_ ?_
  ·rintro i2 d2 acc2 M2 hd2 ⟨rfl,rfl⟩ cs C s₀ H₀ fp
   obtain ⟨z,hz2,rfl⟩:=bP hd2
   have hzn:=hz z (List.mem_of_getElem? hz2)
   refine bD (iteT fun cs C s₀ H₀ fp => ?_)
   refine aI aF ?_
   refine ge_v 0 rfl ?_
   refine ge_v 1 rfl ?_
   refine k9 (R.aU (by omega)) (R.mS (by omega)) ?_
   refine ⟨rfl,?_⟩
   rw [fK hz2,List.map_append,List.map_append]
   rfl
  ·rintro acc2 M2 ⟨rfl,rfl⟩
   rw [List.length_map,List.take_length]
   refine aB ?_
   refine oS (ys:=zs.map fun z=>(⟨#[R.atS z j]⟩:Str)) (.lst _) (by decide +kernel) ?_ ?_
   ·rw [nV _ (fun z hz => ?_),List.length_map]
    ·omega
    ·obtain ⟨y,_,rfl⟩:=List.mem_map.mp hz
     rfl
   ·rw [R.kH,uB]
    exact hk
theorem l7:FnScope ["rows", "wide"] ["rows"] (aO jG):=⟨rfl,rfl,rfl,by decide +kernel,rfl,by decide +kernel,by decide +kernel⟩
theorem yM {f:Addr}{fd:FuncData}{aLK:Addr}{aLL:FuncData} (Df:R.Df K mg "columns" jG ["rows"] f fd)
  (aLM:R.Df K mg "column" mG ["rows", "place"] aLK aLL) (aLN:FnOk P w K mg base CX0 1 aLK aLL ["rows", "place"] (spZ K uU)) (T:Bt mg):FnOk P w K mg base CX0 2 f fd ["rows"] (spZ K mV):=by
 refine bF Df l7 (fun ds M k h => ?_) (fun cdv A outer s H E hr ds M k h => ?_)
 ·obtain ⟨t,r,zs,n,rfl,_⟩:=h; rfl
 obtain ⟨t,r,zs,n,rfl,s1,hl,hn,hz,hk⟩:=h
 cases t with
 | true =>
  cases s1
  refine aD (i4 (fun Γ' M'=>M'=M∧Γ'=[some (.lst (zs.map D.str)),some (.int (((zs.head?.map (·.length)).getD 0:Nat):Int))]) (aP 1 l7.nd (kC ?_)) ?_)
  ·refine lI ?_
   refine ge_v 0 rfl ?_
   refine ⟨_, .seq (.lst _),?_⟩
   refine ite2 (fun hb => ?_) (fun hb => ?_)
   ·cases zs with
    | nil=>cases hb
    | cons z zr =>
     have hzl:=hz z (by simp)
     refine aM aX T.len PySem.boot_len ?_
     refine aA ?_
     refine aI aF ?_
     refine ge_v 0 rfl ?_
     refine aC ?_
     refine aK (.lst _) (oR z zr) ?_
     refine aB ?_
     refine gU (R.aU (by omega)) ?_
     exact ⟨rfl,rfl⟩
   ·cases zs with
    | nil =>
     refine aC ?_
     exact ⟨rfl,rfl⟩
    | cons z zr=>exact absurd rfl hb
  rintro Γ' M' ⟨rfl,rfl⟩
  have hw:(zs.head?.map (·.length)).getD 0≤n:=by
   cases zs with
   | nil=>exact Nat.zero_le _
   | cons z zr=>exact Nat.le_of_eq (hz z (by simp))
  refine aJ (aN ((a9 ["rows"] [0] (jD T.range ?_))))
  refine aA ?_
  refine ge_v 1 rfl ?_
  refine aB ?_
  refine ⟨_,rfl,by omega,by omega,?_⟩
  rw [Int.toNat_natCast]
  refine b6 (by rw [b4]; exact R.aU (by omega)) (fun i acc M1=>M1=M'∧acc=((List.range i).map fun j=>R.ofL (zs.map (R.atS · j))).map D.str) ⟨rfl,rfl⟩ ?_ ?_
  ·rintro i d acc M1 hd ⟨rfl,rfl⟩ cs C s₀ H₀ fp
   obtain ⟨hi,rfl⟩:=eA hd
   rw [Int.zero_add]
   refine bD (iteT fun cs C s₀ H₀ fp => ?_)
   refine aG aLN (hr.mono (by decide)) aLM.m aLM.F.kp aLM.b ?_
   refine aA ?_
   refine ge_v 1 rfl ?_
   refine aA ?_
   refine ge_v 0 rfl ?_
   refine aB ?_
   refine ⟨true,_,zs,n,i,rfl,rfl,hl,hn,hz,by omega,?_⟩
   refine ⟨rfl,?_⟩
   rw [List.range_succ,List.map_append,List.map_append]
   rfl
  ·rintro acc M1 ⟨rfl,rfl⟩
   rw [b4]
   exact hk
 | false =>
  cases s1
  refine aD (i4 (fun Γ' M'=>M'=M∧Γ'=[some (.tup (zs.map D.str)),some (.int (((zs.head?.map (·.length)).getD 0:Nat):Int))]) (aP 1 l7.nd (kC ?_)) ?_)
  ·refine lI ?_
   refine ge_v 0 rfl ?_
   refine ⟨_, .seq (.tup _),?_⟩
   refine ite2 (fun hb => ?_) (fun hb => ?_)
   ·cases zs with
    | nil=>cases hb
    | cons z zr =>
     have hzl:=hz z (by simp)
     refine aM aX T.len PySem.boot_len ?_
     refine aA ?_
     refine aI aF ?_
     refine ge_v 0 rfl ?_
     refine aC ?_
     refine aK (.tup _) (oR z zr) ?_
     refine aB ?_
     refine gU (R.aU (by omega)) ?_
     exact ⟨rfl,rfl⟩
   ·cases zs with
    | nil =>
     refine aC ?_
     exact ⟨rfl,rfl⟩
    | cons z zr=>exact absurd rfl hb
  rintro Γ' M' ⟨rfl,rfl⟩
  have hw:(zs.head?.map (·.length)).getD 0≤n:=by
   cases zs with
   | nil=>exact Nat.zero_le _
   | cons z zr=>exact Nat.le_of_eq (hz z (by simp))
  refine aJ (aN ((a9 ["rows"] [0] (jD T.range ?_))))
  refine aA ?_
  refine ge_v 1 rfl ?_
  refine aB ?_
  refine ⟨_,rfl,by omega,by omega,?_⟩
  rw [Int.toNat_natCast]
  refine b6 (by rw [b4]; exact R.aU (by omega)) (fun i acc M1=>M1=M'∧acc=((List.range i).map fun j=>R.ofL (zs.map (R.atS · j))).map D.str) ⟨rfl,rfl⟩ ?_ ?_
  ·rintro i d acc M1 hd ⟨rfl,rfl⟩ cs C s₀ H₀ fp
   obtain ⟨hi,rfl⟩:=eA hd
   rw [Int.zero_add]
   refine bD (iteT fun cs C s₀ H₀ fp => ?_)
   refine aG aLN (hr.mono (by decide)) aLM.m aLM.F.kp aLM.b ?_
   refine aA ?_
   refine ge_v 1 rfl ?_
   refine aA ?_
   refine ge_v 0 rfl ?_
   refine aB ?_
   refine ⟨false,_,zs,n,i,rfl,rfl,hl,hn,hz,by omega,?_⟩
   refine ⟨rfl,?_⟩
   rw [List.range_succ,List.map_append,List.map_append]
   rfl
  ·rintro acc M1 ⟨rfl,rfl⟩
   rw [b4]
   exact hk
theorem iB:FnScope ["bands", "outside", "framed"] ["bands"] (aO kW):=⟨rfl,rfl,rfl,by decide +kernel,rfl,by decide +kernel,by decide +kernel⟩
theorem yP {f:Addr}{fd:FuncData} (Df:R.Df K mg "changes" kW ["bands"] f fd) (T:Bt mg):FnOk P w K mg base CX0 1 f fd ["bands"] (spZ K rJ):=by
 refine bF Df iB (fun ds M k h => ?_) (fun cdv A outer s H E hr ds M k h => ?_)
 ·obtain ⟨t,r,zs,n,rfl,_⟩:=h; rfl
 obtain ⟨t,r,zs,n,rfl,s1,hl,hn,hz,hk⟩:=h
 cases t with
 | true =>
  cases s1
  refine aD (bG ?_)
  refine bS ?_
  refine lI ?_
  refine ge_v 0 rfl ?_
  refine ⟨_, .seq (.lst _),?_⟩
  refine ite2 (fun hb => ?_) (fun hb => ?_)
  ·have e:zs=[]:=by
    cases zs with
    | nil=>rfl
    | cons z zr=>exact absurd hb (by simp)
   subst e
   refine aJ (aN ?_)
   refine dA ?_
   refine aB ?_
   refine ⟨(show 0≤sizeLine by decide),?_⟩
   exact hk
  have hne:zs≠[]:=fun e=>by subst e; exact hb rfl
  obtain ⟨z0,zr,rfl⟩:∃ z0 zr,zs=z0::zr:=by
   cases zs with
   | nil=>exact absurd rfl hne
   | cons z zr=>exact ⟨z,zr,rfl⟩
  have l0:=hz z0 (by simp)
  refine bC ?_
  refine aD (aP 1 iB.nd ?_)
  refine aH oU ?_
  refine bW ?_
  refine aM aX T.len PySem.boot_len ?_
  refine aA ?_
  refine aI aF ?_
  refine ge_v 0 rfl ?_
  refine aC ?_
  refine aK (.lst _) (oR z0 zr) ?_
  refine aB ?_
  refine gU (R.aU (by omega)) ?_
  refine oK (by omega) (by omega) (tE (by omega)) ?_
  rw [Int.toNat_natCast,R.rL]
  refine aD (aP 2 iB.nd ?_)
  refine aH fC ?_
  refine aH fC ?_
  refine dA ?_
  refine aA ?_
  refine ge_v 1 rfl ?_
  refine aB ?_
  refine ⟨(show 1≤sizeLine by decide),?_⟩
  refine bU cT T.list R.BL ?_
  refine aA ?_
  refine ge_v 0 rfl ?_
  refine aB ?_
  refine fY (.lst _) ?_
  refine fB (.lst _) (.lst _) (by rw [List.length_map]; exact R.aU (by simp only [List.length_cons,List.length_nil] at hl ⊢; omega)) ?_
  refine dA ?_
  refine aA ?_
  refine ge_v 1 rfl ?_
  refine aB ?_
  refine ⟨(show 1≤sizeLine by decide),?_⟩
  refine fB (.lst _) (.lst _) (by simp only [List.length_append,List.length_map,List.length_cons,List.length_nil] at hl ⊢; exact R.aU (by omega)) ?_
  rw [show [D.str (R.dots z0.length)]++(z0::zr).map D.str++[D.str (R.dots z0.length)]=(R.framed (z0::zr)).map D.str from by simp [R.framed]]
  generalize hzz:z0::zr=zs at *
  refine aJ (aN ((a9 ["framed"] [2] (jD T.range ?_))))
  refine aA ?_
  refine aH bY ?_
  refine aM aX T.len PySem.boot_len ?_
  refine aA ?_
  refine ge_v 2 rfl ?_
  refine aB ?_
  refine bQ (.lst _) ?_
  refine aC ?_
  refine o2_0 ?_
  refine aB ?_
  rw [List.length_map,R.jR]
  refine ⟨_,rfl,by omega,by omega,?_⟩
  rw [show (((zs.length+2:Nat):Int) - 1).toNat=zs.length+1 by omega]
  refine b6 (by rw [b4]; exact R.aU (by omega)) (fun i acc M'=>M'=M∧acc=((List.range i).filter fun i => !decide ((R.framed zs)[i]?=(R.framed zs)[i+1]?)).map fun (j:Nat)=>D.int (j:Int)) ⟨rfl,rfl⟩ ?_ ?_
  ·rintro i d acc M' hd ⟨rfl,rfl⟩ cs C s₀ H₀ fp
   obtain ⟨hi,rfl⟩:=eA hd
   obtain ⟨u,hu⟩:=jS (zs:=zs) (i:=i) (by omega)
   obtain ⟨v,hv⟩:=jS (zs:=zs) (i:=i+1) (by omega)
   refine qP ?_
   refine aZ l9 ?_
   refine aI aF ?_
   refine ge_v 1 rfl ?_
   refine ge_v 0 rfl ?_
   refine aK (.lst _) (oJ hu) ?_
   refine aI aF ?_
   refine ge_v 1 rfl ?_
   refine aH bK ?_
   refine ge_v 0 rfl ?_
   refine aC ?_
   refine o2_0 ?_
   refine aK (.lst _) (uI hv) ?_
   refine uT ?_
   refine ⟨_,rfl,?_⟩
   have ed:(!decide ((R.framed zs)[i]?=(R.framed zs)[i+1]?))=(!decide (u=v)):=by rw [hu,hv]; congr 1; simp
   refine ite2 (fun hb=>fun cs C s₀ H₀ fp => ?_) (fun hb => ?_)
   ·refine ge_v 0 rfl ?_
    refine ⟨rfl,?_⟩
    rw [iZ,if_pos (by rw [ed]; exact hb),List.map_append,Int.zero_add]
    rfl
   ·refine ⟨rfl,?_⟩
    rw [iZ,if_neg (by rw [ed]; exact hb)]
  rintro acc M' ⟨rfl,rfl⟩
  rw [b4,aAN]
  exact hk
 | false =>
  cases s1
  refine aD (bG ?_)
  refine bS ?_
  refine lI ?_
  refine ge_v 0 rfl ?_
  refine ⟨_, .seq (.tup _),?_⟩
  refine ite2 (fun hb => ?_) (fun hb => ?_)
  ·have e:zs=[]:=by
    cases zs with
    | nil=>rfl
    | cons z zr=>exact absurd hb (by simp)
   subst e
   refine aJ (aN ?_)
   refine dA ?_
   refine aB ?_
   refine ⟨(show 0≤sizeLine by decide),?_⟩
   exact hk
  have hne:zs≠[]:=fun e=>by subst e; exact hb rfl
  obtain ⟨z0,zr,rfl⟩:∃ z0 zr,zs=z0::zr:=by
   cases zs with
   | nil=>exact absurd rfl hne
   | cons z zr=>exact ⟨z,zr,rfl⟩
  have l0:=hz z0 (by simp)
  refine bC ?_
  refine aD (aP 1 iB.nd ?_)
  refine aH oU ?_
  refine bW ?_
  refine aM aX T.len PySem.boot_len ?_
  refine aA ?_
  refine aI aF ?_
  refine ge_v 0 rfl ?_
  refine aC ?_
  refine aK (.tup _) (oR z0 zr) ?_
  refine aB ?_
  refine gU (R.aU (by omega)) ?_
  refine oK (by omega) (by omega) (tE (by omega)) ?_
  rw [Int.toNat_natCast,R.rL]
  refine aD (aP 2 iB.nd ?_)
  refine aH fC ?_
  refine aH fC ?_
  refine dA ?_
  refine aA ?_
  refine ge_v 1 rfl ?_
  refine aB ?_
  refine ⟨(show 1≤sizeLine by decide),?_⟩
  refine bU cT T.list R.BL ?_
  refine aA ?_
  refine ge_v 0 rfl ?_
  refine aB ?_
  refine fY (.tup _) ?_
  refine fB (.lst _) (.lst _) (by rw [List.length_map]; exact R.aU (by simp only [List.length_cons,List.length_nil] at hl ⊢; omega)) ?_
  refine dA ?_
  refine aA ?_
  refine ge_v 1 rfl ?_
  refine aB ?_
  refine ⟨(show 1≤sizeLine by decide),?_⟩
  refine fB (.lst _) (.lst _) (by simp only [List.length_append,List.length_map,List.length_cons,List.length_nil] at hl ⊢; exact R.aU (by omega)) ?_
  rw [show [D.str (R.dots z0.length)]++(z0::zr).map D.str++[D.str (R.dots z0.length)]=(R.framed (z0::zr)).map D.str from by simp [R.framed]]
  generalize hzz:z0::zr=zs at *
  refine aJ (aN ((a9 ["framed"] [2] (jD T.range ?_))))
  refine aA ?_
  refine aH bY ?_
  refine aM aX T.len PySem.boot_len ?_
  refine aA ?_
  refine ge_v 2 rfl ?_
  refine aB ?_
  refine bQ (.lst _) ?_
  refine aC ?_
  refine o2_0 ?_
  refine aB ?_
  rw [List.length_map,R.jR]
  refine ⟨_,rfl,by omega,by omega,?_⟩
  rw [show (((zs.length+2:Nat):Int) - 1).toNat=zs.length+1 by omega]
  refine b6 (by rw [b4]; exact R.aU (by omega)) (fun i acc M'=>M'=M∧acc=((List.range i).filter fun i => !decide ((R.framed zs)[i]?=(R.framed zs)[i+1]?)).map fun (j:Nat)=>D.int (j:Int)) ⟨rfl,rfl⟩ ?_ ?_
  ·rintro i d acc M' hd ⟨rfl,rfl⟩ cs C s₀ H₀ fp
   obtain ⟨hi,rfl⟩:=eA hd
   obtain ⟨u,hu⟩:=jS (zs:=zs) (i:=i) (by omega)
   obtain ⟨v,hv⟩:=jS (zs:=zs) (i:=i+1) (by omega)
   refine qP ?_
   refine aZ l9 ?_
   refine aI aF ?_
   refine ge_v 1 rfl ?_
   refine ge_v 0 rfl ?_
   refine aK (.lst _) (oJ hu) ?_
   refine aI aF ?_
   refine ge_v 1 rfl ?_
   refine aH bK ?_
   refine ge_v 0 rfl ?_
   refine aC ?_
   refine o2_0 ?_
   refine aK (.lst _) (uI hv) ?_
   refine uT ?_
   refine ⟨_,rfl,?_⟩
   have ed:(!decide ((R.framed zs)[i]?=(R.framed zs)[i+1]?))=(!decide (u=v)):=by rw [hu,hv]; congr 1; simp
   refine ite2 (fun hb=>fun cs C s₀ H₀ fp => ?_) (fun hb => ?_)
   ·refine ge_v 0 rfl ?_
    refine ⟨rfl,?_⟩
    rw [iZ,if_pos (by rw [ed]; exact hb),List.map_append,Int.zero_add]
    rfl
   ·refine ⟨rfl,?_⟩
    rw [iZ,if_neg (by rw [ed]; exact hb)]
  rintro acc M' ⟨rfl,rfl⟩
  rw [b4,aAN]
  exact hk
theorem aCQ:FnScope ["row", "places"] ["row", "places"] (aO lU):=⟨rfl,rfl,rfl,by decide +kernel,rfl,by decide +kernel,by decide +kernel⟩
theorem aAA {f:Addr}{fd:FuncData} (Df:R.Df K mg "picked" lU ["row", "places"] f fd):FnOk P w K mg base CX0 1 f fd ["row", "places"] (spZ K xV):=by
 refine bF Df aCQ (fun ds M k h => ?_) (fun cdv A outer s H E hr ds M k h => ?_)
 ·obtain ⟨z,js,rfl,_⟩:=h; rfl
 obtain ⟨z,js,rfl,hz,hl,hj,hk⟩:=h
 refine aJ (aN ?_)
 refine i0 PySem.F.plainAttrs_str PySem.F.slot_str_join PySem.F.type_str_join oQ ?_
 refine bW ?_
 refine ⟨rfl,?_⟩
 refine aA ((a9 ["row"] [0] (bJ ?_)))
 refine ge_v 1 rfl ?_
 refine ⟨_, .inr (.inl rfl),?_⟩
 refine b6 (ds:=natD js) (by rw [cR]; exact R.aU (by omega)) (fun i2 acc2 M2=>M2=M∧acc2=((js.take i2).map fun j=>(⟨#[R.atS z j]⟩:Str)).map D.str) ⟨rfl,rfl⟩ ?_ ?_
 ·rintro i2 d2 acc2 M2 hd2 ⟨rfl,rfl⟩ cs C s₀ H₀ fp
  obtain ⟨j,hj2,rfl⟩:=gP hd2
  have hjl:=hj j (List.mem_of_getElem? hj2)
  refine bD (iteT fun cs C s₀ H₀ fp => ?_)
  refine aI aF ?_
  refine ge_v 1 rfl ?_
  refine ge_v 0 rfl ?_
  refine k9 (R.aU (by omega)) (R.mS hjl) ?_
  refine ⟨rfl,?_⟩
  rw [fK hj2,List.map_append,List.map_append]
  rfl
 ·rintro acc2 M2 ⟨rfl,rfl⟩
  rw [cR,List.take_length]
  refine aB ?_
  refine oS (ys:=js.map fun j=>(⟨#[R.atS z j]⟩:Str)) (.lst _) (by decide +kernel) ?_ ?_
  ·rw [nV _ (fun z hz => ?_),List.length_map]
   ·omega
   ·obtain ⟨y,_,rfl⟩:=List.mem_map.mp hz
    rfl
  ·rw [R.kH,yX]
   exact hk
theorem fJ:FnScope ["xs", "ys", "rows", "at_xs", "at_ys", "kept"] ["xs", "ys", "rows"] (aO iL):=⟨rfl,rfl,rfl,by decide +kernel,rfl,by decide +kernel,by decide +kernel⟩
theorem aAY {f:Addr}{fd:FuncData}{aLO aLP aLQ:Addr}{aLR aLS aLT:FuncData} (Df:R.Df K mg "tidied" iL ["xs", "ys", "rows"] f fd)
  (aLU:R.Df K mg "changes" kW ["bands"] aLO aLR) (aLV:FnOk P w K mg base CX0 1 aLO aLR ["bands"] (spZ K rJ))
  (aLW:R.Df K mg "columns" jG ["rows"] aLP aLS) (aLX:FnOk P w K mg base CX0 2 aLP aLS ["rows"] (spZ K mV))
  (aLY:R.Df K mg "picked" lU ["row", "places"] aLQ aLT) (aLZ:FnOk P w K mg base CX0 1 aLQ aLT ["row", "places"] (spZ K xV)) (T:Bt mg):FnOk P w K mg base CX0 3 f fd ["xs", "ys", "rows"] (spZ K lR):=by
 refine bF Df fJ (fun ds M k h => ?_) (fun cdv A outer s H E hr ds M k h => ?_)
 ·obtain ⟨t,dx,dy,dr,xs,ys,zs,n,rfl,_⟩:=h; rfl
 obtain ⟨t,dx,dy,dr,xs,ys,zs,n,rfl,s1,s2,s3,hl,hn,hz,hx,hy,hk⟩:=h
 have cl:=R.j4 hz
 have kx:=R.wX (R.aE zs)
 have ky:=R.wX zs
 cases t with
 | true =>
  cases s1
  cases s2
  cases s3
  refine aD (aP 3 fJ.nd ?_)
  refine aG aLV (hr.mono (by decide)) aLU.m aLU.F.kp aLU.b ?_
  refine aA ?_
  refine aG aLX (hr.mono (by decide)) aLW.m aLW.F.kp aLW.b ?_
  refine aA ?_
  refine ge_v 2 rfl ?_
  refine aB ?_
  refine ⟨true,_,zs,n,rfl,rfl,by omega,by omega,hz,?_⟩
  refine aB ?_
  refine ⟨true,_,R.aE zs,zs.length,rfl,rfl,by omega,by omega,fun z hz=>R.fL z hz,?_⟩
  refine aD (aP 4 fJ.nd ?_)
  refine aG aLV (hr.mono (by decide)) aLU.m aLU.F.kp aLU.b ?_
  refine aA ?_
  refine ge_v 2 rfl ?_
  refine aB ?_
  refine ⟨true,_,zs,n,rfl,rfl,by omega,by omega,hz,?_⟩
  have hjx:∀ j∈(R.chg (R.aE zs)).dropLast,j < n:=fun j hj=>by
   have:=R.iM (R.b5 _) (R.dY _) j hj
   omega
  refine aD (jO 5 ["rows", "at_xs"] [2,3] fJ.nd (bJ ?_))
  refine cZ f7 ?_
  refine ge_v 4 rfl ?_
  refine dN ?_
  refine dM ?_
  refine kS i9 ?_
  refine aC ?_
  refine ⟨_,rfl,?_⟩
  refine ⟨_,rfl,?_⟩
  refine iE (.lst _) ?_
  rw [show cutD (natD (R.chg zs)) none (some (-1))=natD (R.chg zs).dropLast from (kP _).trans (gH _)]
  refine ⟨_, .inr (.inl rfl),?_⟩
  refine sM (ds:=natD (R.chg zs).dropLast) (by rw [cR,List.length_dropLast]; exact R.aU (by omega)) (fun i acc M2=>M2=M∧acc=(((R.chg zs).dropLast.take i).map fun i=>R.ofL ((R.chg (R.aE zs)).dropLast.map (R.atS (zs.getD i Str.empty)))).map D.str) ⟨rfl,rfl⟩ ?_ ?_
  ·rintro i d acc M2 hd ⟨rfl,rfl⟩ cs C s₀ H₀ fp
   obtain ⟨j,hj,rfl⟩:=gP hd
   have hjl:=R.iM (R.b5 zs) (R.dY zs) j (List.mem_of_getElem? hj)
   have hzj:zs[j]?=some (zs.getD j Str.empty):=by rw [List.getD_eq_getElem?_getD,List.getElem?_eq_getElem hjl]; rfl
   have hzm:=List.mem_of_getElem? hzj
   refine bD (iteT fun cs C s₀ H₀ fp => ?_)
   refine aG aLZ (hr.mono (by decide)) aLY.m aLY.F.kp aLY.b ?_
   refine aA ?_
   refine aI aF ?_
   refine ge_v 1 rfl ?_
   refine ge_v 0 rfl ?_
   refine aK (.lst _) (by have:=oJ hzj; rw [Int.zero_add] at this; exact this) ?_
   refine aA ?_
   refine cZ f7 ?_
   refine ge_v 2 rfl ?_
   refine dN ?_
   refine dM ?_
   refine kS i9 ?_
   refine aC ?_
   refine ⟨_,rfl,?_⟩
   refine ⟨_,rfl,?_⟩
   refine iE (.lst _) ?_
   refine aB ?_
   rw [show cutD (natD (R.chg (R.aE zs))) none (some (-1))=natD (R.chg (R.aE zs)).dropLast from (kP _).trans (gH _)]
   refine ⟨_,(R.chg (R.aE zs)).dropLast,rfl,by rw [hz _ hzm]; omega,by rw [List.length_dropLast]; omega,fun j hj=>by rw [hz _ hzm]; exact hjx j hj,?_⟩
   refine ⟨rfl,?_⟩
   rw [bO hj,List.map_append]
   rfl
  rintro acc M2 ⟨rfl,rfl⟩ a ha
  rw [cR,List.take_length]
  refine i6 5 rfl aV ?_
  rw [gN ha]
  refine aJ (aN (cB (aA ?_)))
  refine bU dE T.tuple R.BT (aA (a9 ["xs"] [0] (bJ ?_)))
  refine ge_v 3 rfl ?_
  refine ⟨_, .inr (.inl rfl),?_⟩
  refine b6 (ds:=natD (R.chg (R.aE zs))) (by rw [cR]; exact R.aU (by omega)) (fun i acc M1=>M1=M2∧acc=((R.chg (R.aE zs)).take i).map fun j=>xs.getD j .non) ⟨rfl,rfl⟩ ?_ ?_
  ·rintro i d acc M1 hd ⟨rfl,rfl⟩ cs C s₀ H₀ fp
   obtain ⟨j,hj,rfl⟩:=gP hd
   refine bD (iteT fun cs C s₀ H₀ fp => ?_)
   refine aI aF ?_
   refine ge_v 1 rfl ?_
   refine ge_v 0 rfl ?_
   refine aK (.lst _) (at_D (hx j (List.mem_of_getElem? hj))) ?_
   exact ⟨rfl,(bO hj).symm⟩
  rintro acc M1 ⟨rfl,rfl⟩
  rw [cR,List.take_length]
  refine aB (gQ (.lst _) ?_)
  refine aA ?_
  refine bU dE T.tuple R.BT (aA (a9 ["ys"] [1] (bJ ?_)))
  refine ge_v 4 rfl ?_
  refine ⟨_, .inr (.inl rfl),?_⟩
  refine b6 (ds:=natD (R.chg zs)) (by rw [cR]; exact R.aU (by omega)) (fun i acc M2=>M2=M1∧acc=((R.chg zs).take i).map fun j=>ys.getD j .non) ⟨rfl,rfl⟩ ?_ ?_
  ·rintro i d acc M2 hd ⟨rfl,rfl⟩ cs C s₀ H₀ fp
   obtain ⟨j,hj,rfl⟩:=gP hd
   refine bD (iteT fun cs C s₀ H₀ fp => ?_)
   refine aI aF ?_
   refine ge_v 1 rfl ?_
   refine ge_v 0 rfl ?_
   refine aK (.lst _) (at_D (hy j (List.mem_of_getElem? hj))) ?_
   exact ⟨rfl,(bO hj).symm⟩
  rintro acc M2 ⟨rfl,rfl⟩
  rw [cR,List.take_length]
  refine aB (gQ (.lst _) ?_)
  refine aA ?_
  refine bU dE T.tuple R.BT ?_
  refine aA ?_
  refine ge_v 5 rfl ?_
  refine aB ?_
  refine gQ (.lst _) ?_
  refine aB ⟨(show 3≤sizeLine by decide),?_⟩
  exact hk
 | false =>
  cases s1
  cases s2
  cases s3
  refine aD (aP 3 fJ.nd ?_)
  refine aG aLV (hr.mono (by decide)) aLU.m aLU.F.kp aLU.b ?_
  refine aA ?_
  refine aG aLX (hr.mono (by decide)) aLW.m aLW.F.kp aLW.b ?_
  refine aA ?_
  refine ge_v 2 rfl ?_
  refine aB ?_
  refine ⟨false,_,zs,n,rfl,rfl,by omega,by omega,hz,?_⟩
  refine aB ?_
  refine ⟨true,_,R.aE zs,zs.length,rfl,rfl,by omega,by omega,fun z hz=>R.fL z hz,?_⟩
  refine aD (aP 4 fJ.nd ?_)
  refine aG aLV (hr.mono (by decide)) aLU.m aLU.F.kp aLU.b ?_
  refine aA ?_
  refine ge_v 2 rfl ?_
  refine aB ?_
  refine ⟨false,_,zs,n,rfl,rfl,by omega,by omega,hz,?_⟩
  have hjx:∀ j∈(R.chg (R.aE zs)).dropLast,j < n:=fun j hj=>by
   have:=R.iM (R.b5 _) (R.dY _) j hj
   omega
  refine aD (jO 5 ["rows", "at_xs"] [2,3] fJ.nd (bJ ?_))
  refine cZ f7 ?_
  refine ge_v 4 rfl ?_
  refine dN ?_
  refine dM ?_
  refine kS i9 ?_
  refine aC ?_
  refine ⟨_,rfl,?_⟩
  refine ⟨_,rfl,?_⟩
  refine iE (.lst _) ?_
  rw [show cutD (natD (R.chg zs)) none (some (-1))=natD (R.chg zs).dropLast from (kP _).trans (gH _)]
  refine ⟨_, .inr (.inl rfl),?_⟩
  refine sM (ds:=natD (R.chg zs).dropLast) (by rw [cR,List.length_dropLast]; exact R.aU (by omega)) (fun i acc M2=>M2=M∧acc=(((R.chg zs).dropLast.take i).map fun i=>R.ofL ((R.chg (R.aE zs)).dropLast.map (R.atS (zs.getD i Str.empty)))).map D.str) ⟨rfl,rfl⟩ ?_ ?_
  ·rintro i d acc M2 hd ⟨rfl,rfl⟩ cs C s₀ H₀ fp
   obtain ⟨j,hj,rfl⟩:=gP hd
   have hjl:=R.iM (R.b5 zs) (R.dY zs) j (List.mem_of_getElem? hj)
   have hzj:zs[j]?=some (zs.getD j Str.empty):=by rw [List.getD_eq_getElem?_getD,List.getElem?_eq_getElem hjl]; rfl
   have hzm:=List.mem_of_getElem? hzj
   refine bD (iteT fun cs C s₀ H₀ fp => ?_)
   refine aG aLZ (hr.mono (by decide)) aLY.m aLY.F.kp aLY.b ?_
   refine aA ?_
   refine aI aF ?_
   refine ge_v 1 rfl ?_
   refine ge_v 0 rfl ?_
   refine aK (.tup _) (by have:=oJ hzj; rw [Int.zero_add] at this; exact this) ?_
   refine aA ?_
   refine cZ f7 ?_
   refine ge_v 2 rfl ?_
   refine dN ?_
   refine dM ?_
   refine kS i9 ?_
   refine aC ?_
   refine ⟨_,rfl,?_⟩
   refine ⟨_,rfl,?_⟩
   refine iE (.lst _) ?_
   refine aB ?_
   rw [show cutD (natD (R.chg (R.aE zs))) none (some (-1))=natD (R.chg (R.aE zs)).dropLast from (kP _).trans (gH _)]
   refine ⟨_,(R.chg (R.aE zs)).dropLast,rfl,by rw [hz _ hzm]; omega,by rw [List.length_dropLast]; omega,fun j hj=>by rw [hz _ hzm]; exact hjx j hj,?_⟩
   refine ⟨rfl,?_⟩
   rw [bO hj,List.map_append]
   rfl
  rintro acc M2 ⟨rfl,rfl⟩ a ha
  rw [cR,List.take_length]
  refine i6 5 rfl aV ?_
  rw [gN ha]
  refine aJ (aN (cB (aA ?_)))
  refine bU dE T.tuple R.BT (aA (a9 ["xs"] [0] (bJ ?_)))
  refine ge_v 3 rfl ?_
  refine ⟨_, .inr (.inl rfl),?_⟩
  refine b6 (ds:=natD (R.chg (R.aE zs))) (by rw [cR]; exact R.aU (by omega)) (fun i acc M1=>M1=M2∧acc=((R.chg (R.aE zs)).take i).map fun j=>xs.getD j .non) ⟨rfl,rfl⟩ ?_ ?_
  ·rintro i d acc M1 hd ⟨rfl,rfl⟩ cs C s₀ H₀ fp
   obtain ⟨j,hj,rfl⟩:=gP hd
   refine bD (iteT fun cs C s₀ H₀ fp => ?_)
   refine aI aF ?_
   refine ge_v 1 rfl ?_
   refine ge_v 0 rfl ?_
   refine aK (.tup _) (at_D (hx j (List.mem_of_getElem? hj))) ?_
   exact ⟨rfl,(bO hj).symm⟩
  rintro acc M1 ⟨rfl,rfl⟩
  rw [cR,List.take_length]
  refine aB (gQ (.lst _) ?_)
  refine aA ?_
  refine bU dE T.tuple R.BT (aA (a9 ["ys"] [1] (bJ ?_)))
  refine ge_v 4 rfl ?_
  refine ⟨_, .inr (.inl rfl),?_⟩
  refine b6 (ds:=natD (R.chg zs)) (by rw [cR]; exact R.aU (by omega)) (fun i acc M2=>M2=M1∧acc=((R.chg zs).take i).map fun j=>ys.getD j .non) ⟨rfl,rfl⟩ ?_ ?_
  ·rintro i d acc M2 hd ⟨rfl,rfl⟩ cs C s₀ H₀ fp
   obtain ⟨j,hj,rfl⟩:=gP hd
   refine bD (iteT fun cs C s₀ H₀ fp => ?_)
   refine aI aF ?_
   refine ge_v 1 rfl ?_
   refine ge_v 0 rfl ?_
   refine aK (.tup _) (at_D (hy j (List.mem_of_getElem? hj))) ?_
   exact ⟨rfl,(bO hj).symm⟩
  rintro acc M2 ⟨rfl,rfl⟩
  rw [cR,List.take_length]
  refine aB (gQ (.lst _) ?_)
  refine aA ?_
  refine bU dE T.tuple R.BT ?_
  refine aA ?_
  refine ge_v 5 rfl ?_
  refine aB ?_
  refine gQ (.lst _) ?_
  refine aB ⟨(show 3≤sizeLine by decide),?_⟩
  exact hk
theorem jK:FnScope ["yard", "sign", "reaches", "across", "up"] ["yard", "sign", "reaches"] (aO iJ):=⟨rfl,rfl,rfl,by decide +kernel,rfl,by decide +kernel,by decide +kernel⟩
theorem sJ {f:Addr}{fd:FuncData}{aL0 aLP aL1:Addr}{aL2 aLS aL3:FuncData} (Df:R.Df K mg "grown_yard" iJ ["yard", "sign", "reaches"] f fd)
  (aL4:R.Df K mg "grown" oG ["lines", "rows", "sign", "down", "up"] aL0 aL2) (aL5:FnOk P w K mg base CX0 4 aL0 aL2 ["lines", "rows", "sign", "down", "up"] (spZ K aBJ))
  (aLW:R.Df K mg "columns" jG ["rows"] aLP aLS) (aLX:FnOk P w K mg base CX0 2 aLP aLS ["rows"] (spZ K mV))
  (aL6:R.Df K mg "tidied" iL ["xs", "ys", "rows"] aL1 aL3) (aL7:FnOk P w K mg base CX0 3 aL1 aL3 ["xs", "ys", "rows"] (spZ K lR)):FnOk P w K mg base CX0 5 f fd ["yard", "sign", "reaches"] (spZ K p8):=by
 refine bF Df jK (fun ds M k h => ?_) (fun cdv A outer s H E hr ds M k h => ?_)
 ·obtain ⟨A,s,a,b,c,d,rfl,_⟩:=h; rfl
 obtain ⟨A,s,a,b,c,d,rfl,gx,gy,hk⟩:=h
 have n:Nn a b c d:=⟨gx.d0,gy.d0,gx.u0,gy.u0⟩
 rw [← aE6 A s n] at hk
 have lx:=gx.len
 have ly:=gy.len
 have fx:=kB A.ws a c
 have fy:=kB A.us b d
 have fbx:=iT A.uw a c
 have fby:=iT A.uu b d
 obtain ⟨hw,hK⟩:=A.wide
 have k1:=kT s A.ws a c A.K
 have w1:∀ z∈A.K.map (bR s A.ws a c),z.length=(finQ A.ws a c).length - 1:=fun z hz=>(k1 z hz).1
 have c1:=(R.j4 w1).1
 have gc:=R.gW k1
 rw [List.length_map] at gc
 have k2:=kT s A.us b d (R.aE (A.K.map (bR s A.ws a c)))
 have w2:∀ z∈(R.aE (A.K.map (bR s A.ws a c))).map (bR s A.us b d),z.length=(finQ A.us b d).length - 1:=fun z hz=>(k2 z hz).1
 have c2:=(R.j4 w2).1
 have gg:=sD s A n
 have lg:(R.aE ((R.aE (A.K.map (bR s A.ws a c))).map (bR s A.us b d))).length=(finQ A.us b d).length - 1:=by rw [gg,eV]
 have wg:∀ z∈R.aE ((R.aE (A.K.map (bR s A.ws a c))).map (bR s A.us b d)),z.length=(finQ A.ws a c).length - 1:=by rw [gg]; exact fun z hz=>(dJ _ _ _ z hz).1
 have void2:R.aE (A.K.map (bR s A.ws a c))=[]∨2≤A.us.length:=by
  rcases A.big with e | e
  ·left; rw [e]; rfl
  ·exact .inr e.2
 refine aD (aP 3 jK.nd ?_)
 refine aG aL5 (hr.mono (by decide)) aL4.m aL4.F.kp aL4.b ?_
 refine aA ?_
 refine aI aF ?_
 refine ge_v 0 rfl ?_
 refine aC ?_
 refine aK (.tup _) rfl ?_
 refine aA ?_
 refine aI aF ?_
 refine ge_v 0 rfl ?_
 refine aC ?_
 refine aK (.tup _) rfl ?_
 refine aA ?_
 refine ge_v 1 rfl ?_
 refine aA ?_
 refine aI aF ?_
 refine ge_v 2 rfl ?_
 refine aC ?_
 refine aK (.tup _) rfl ?_
 refine aA ?_
 refine aI aF ?_
 refine ge_v 2 rfl ?_
 refine aC ?_
 refine aK (.tup _) rfl ?_
 refine aB ?_
 refine ⟨A.ws,_,A.K,s,a,c,rfl, .inl rfl,gx,A.T.good.1,A.big.imp id (·.1),by omega,?_⟩
 refine aD (aP 4 jK.nd ?_)
 refine aG aL5 (hr.mono (by decide)) aL4.m aL4.F.kp aL4.b ?_
 refine aA ?_
 refine aI aF ?_
 refine ge_v 0 rfl ?_
 refine aC ?_
 refine aK (.tup _) rfl ?_
 refine aA ?_
 refine aG aLX (hr.mono (by decide)) aLW.m aLW.F.kp aLW.b ?_
 refine aA ?_
 refine aI aF ?_
 refine ge_v 3 rfl ?_
 refine aC ?_
 refine aK (.tup _) rfl ?_
 refine aB ?_
 refine ⟨true,_,A.K.map (bR s A.ws a c),(finQ A.ws a c).length - 1,rfl,rfl,by rw [List.length_map]; omega,by omega,w1,?_⟩
 refine aA ?_
 refine ge_v 1 rfl ?_
 refine aA ?_
 refine aI aF ?_
 refine ge_v 2 rfl ?_
 refine aC ?_
 refine aK (.tup _) rfl ?_
 refine aA ?_
 refine aI aF ?_
 refine ge_v 2 rfl ?_
 refine aC ?_
 refine aK (.tup _) rfl ?_
 refine aB ?_
 refine ⟨A.us,_,R.aE (A.K.map (bR s A.ws a c)),s,b,d,rfl, .inr rfl,gy,by rw [← hK]; exact gc,void2,by omega,?_⟩
 refine aJ (aN ?_)
 refine aG aL7 (hr.mono (by decide)) aL6.m aL6.F.kp aL6.b ?_
 refine aA ?_
 refine aI aF ?_
 refine ge_v 3 rfl ?_
 refine aC ?_
 refine aK (.tup _) rfl ?_
 refine aA ?_
 refine aI aF ?_
 refine ge_v 4 rfl ?_
 refine aC ?_
 refine aK (.tup _) rfl ?_
 refine aA ?_
 refine aG aLX (hr.mono (by decide)) aLW.m aLW.F.kp aLW.b ?_
 refine aA ?_
 refine aI aF ?_
 refine ge_v 4 rfl ?_
 refine aC ?_
 refine aK (.tup _) rfl ?_
 refine aB ?_
 refine ⟨true,_,(R.aE (A.K.map (bR s A.ws a c))).map (bR s A.us b d),(finQ A.us b d).length - 1,rfl,rfl,by rw [List.length_map]; omega,by omega,w2,?_⟩
 refine aB ?_
 refine ⟨true,_,_,_,aL (finQ A.ws a c),aL (finQ A.us b d),_,(finQ A.ws a c).length - 1,rfl,rfl,rfl,rfl,by omega,by omega,wg,by rw [aT]; exact eF wg,by rw [aT]; exact eE lg,?_⟩
 exact hk
theorem aG9:FnScope ["pace", "time"] ["pace", "time"] (aO p0):=⟨rfl,rfl,rfl,by decide +kernel,rfl,by decide +kernel,by decide +kernel⟩
theorem aHF {f:Addr}{fd:FuncData}{aL8 aL9:Addr}{aMA aMB:FuncData} (Df:R.Df K mg "gone" p0 ["pace", "time"] f fd)
  (aMC:R.Df K mg "times" oM ["one", "other"] aL8 aMA) (aMD:FnOk P w K mg base CX0 3 aL8 aMA ["one", "other"] (spZ K xC))
  (aME:R.Df K mg "fraction" iD ["top", "bottom"] aL9 aMB) (aMF:FnOk P w K mg base CX0 3 aL9 aMB ["top", "bottom"] (spZ K m7)):FnOk P w K mg base CX0 5 f fd ["pace", "time"] (spZ K aEY):=by
 refine bF Df aG9 (fun ds M k h => ?_) (fun cdv A outer s H E hr ds M k h => ?_)
 ·obtain ⟨p,t,rfl,_⟩:=h; rfl
 obtain ⟨p,t,rfl,hp,ht,hk⟩:=h
 have hpq:Bq (p:Rat):=⟨Nat.lt_of_lt_of_le hp (by decide +kernel),by show 1 < _; exact Nat.one_lt_pow (by decide) (by decide)⟩
 refine aJ (aN ?_)
 refine aG aMD (hr.mono (by decide)) aMC.m aMC.F.kp aMC.b ?_
 refine aA ?_
 refine aG aMF (hr.mono (by decide)) aME.m aME.F.kp aME.b ?_
 refine aA ?_
 refine ge_v 0 rfl ?_
 refine aA ?_
 refine aC ?_
 refine aB ?_
 refine ⟨p,1,rfl,by decide,Nat.one_lt_pow (by decide) (by decide),?_⟩
 rw [nI p 1 (by decide),aGF]
 refine aA ?_
 refine ge_v 1 rfl ?_
 refine aB ?_
 refine ⟨_,_,rfl,hpq,ht,?_⟩
 exact hk
theorem aHH:FnScope ["yard", "paces", "height"] ["yard", "paces", "height"] (aO mZ):=⟨rfl,rfl,rfl,by decide +kernel,rfl,by decide +kernel,by decide +kernel⟩
theorem aHJ {f:Addr}{fd:FuncData}{aMG aMH:Addr}{aMI aMJ:FuncData} (Df:R.Df K mg "back" mZ ["yard", "paces", "height"] f fd)
  (aMK:R.Df K mg "gone" p0 ["pace", "time"] aMG aMI) (aML:FnOk P w K mg base CX0 5 aMG aMI ["pace", "time"] (spZ K aEY))
  (aMM:R.Df K mg "grown_yard" iJ ["yard", "sign", "reaches"] aMH aMJ) (aMN:FnOk P w K mg base CX0 5 aMH aMJ ["yard", "sign", "reaches"] (spZ K p8)) (T:Bt mg):FnOk P w K mg base CX0 6 f fd ["yard", "paces", "height"] (spZ K zQ):=by
 refine bF Df aHH (fun ds M k h => ?_) (fun cdv A outer s H E hr ds M k h => ?_)
 ·obtain ⟨A,p,q,r,s,t,rfl,_⟩:=h; rfl
 obtain ⟨A,p,q,r,s,t,rfl,o,hk⟩:=h
 have hall:∀ x∈[p,q,r,s],x.natAbs < 1000:=fun x hx=>by
  simp only [List.mem_cons,List.not_mem_nil,or_false] at hx
  rcases hx with rfl | rfl | rfl | rfl
  ·exact o.hp
  ·exact o.hq
  ·exact o.hr
  ·exact o.hs
 refine aJ (aN (aG aMN (hr.mono (by decide)) aMM.m aMM.F.kp aMM.b ?_))
 refine aA ?_
 refine ge_v 0 rfl ?_
 refine aA ?_
 refine bW ?_
 refine aA (bU dE T.tuple R.BT (aA (a9 ["height"] [2] (bJ ?_))))
 refine ge_v 1 rfl ?_
 refine ⟨[p,q,r,s].map D.int, .inl rfl,?_⟩
 refine b6 (ds:=[p,q,r,s].map D.int) (by rw [List.length_map]; exact R.aU (show 4≤1000000 by decide)) (fun i acc M'=>M'=M∧acc=(([p,q,r,s].take i).map fun (x:Int)=>numD ((x:Rat) * t))) ⟨rfl,rfl⟩ ?_ ?_
 ·rintro i d acc M' hd ⟨rfl,rfl⟩ cs C s₀ H₀ fp
  obtain ⟨x,hx,rfl⟩:=bP hd
  refine bD (iteT fun cs C s₀ H₀ fp => ?_)
  refine aG aML (hr.mono (by decide)) aMK.m aMK.F.kp aMK.b ?_
  refine aA ?_
  refine ge_v 0 rfl ?_
  refine aA ?_
  refine ge_v 1 rfl ?_
  refine aB ?_
  refine ⟨x,t,rfl,hall x (List.mem_of_getElem? hx),o.ht,?_⟩
  refine ⟨rfl,?_⟩
  rw [bO hx]
 rintro acc M ⟨rfl,rfl⟩
 refine aB (gQ (.lst _) (aB ?_))
 refine ⟨A,true,_,_,_,_,by rw [aCO]; rfl,o.xb,o.yb,?_⟩
 exact hk
theorem uJ:FnScope ["thing"] ["thing"] (aO iU):=⟨rfl,rfl,rfl,by decide +kernel,rfl,by decide +kernel,by decide +kernel⟩
theorem t9 {f:Addr}{fd:FuncData}{aKS aKO:Addr}{aKU aKP:FuncData} (Df:R.Df K mg "is_number" iU ["thing"] f fd)
  (aKW:R.Df K mg "is_whole" fR ["thing"] aKS aKU) (aKX:FnOk P w K mg base CX0 1 aKS aKU ["thing"] (spZ K mC))
  (aKQ:R.Df K mg "common_divisor" dR ["one", "other"] aKO aKP) (aKR:FnOk P w K mg base CX0 1 aKO aKP ["one", "other"] (spZ K q0)) (T:Bt mg):FnOk P w K mg base CX0 2 f fd ["thing"] (spZ K sA):=by
 refine bF Df uJ (fun ds M k h => ?_) (fun cdv A outer s H E hr ds M k h => ?_)
 ·obtain ⟨d,n,rfl,_⟩:=h; rfl
 obtain ⟨d,n,rfl,ht,hk⟩:=h
 rcases p4 d with ⟨ls,rfl⟩ | ⟨e0,e1⟩
 ·obtain ⟨hl,m,rfl,hm⟩:=gJ ht
  refine aD (bG (gt_w (dH ?_)))
  refine bS ?_
  refine bL ?_
  refine dX (.inr (.inr (.inr (.inl rfl)))) T.isi T.tuple R.BT ?_
  refine ge_v 0 rfl ?_
  refine ⟨_, .self trivial,?_⟩
  refine ⟨_,rfl,?_⟩
  rw [tT]
  refine iteF (eS ?_)
  refine aZ l9 ?_
  refine aM aX T.len PySem.boot_len ?_
  refine aA ?_
  refine ge_v 0 rfl ?_
  refine aB ?_
  refine bQ (.tup _) ?_
  refine aC ?_
  refine pV ?_
  refine ⟨_,rfl,?_⟩
  by_cases h2:ls.length=2
  ·rw [decide_eq_true (by omega)]
   refine iteF (bC ?_)
   obtain ⟨a,b,rfl⟩:∃ a b,ls=[a,b]:=by
    match ls,h2 with
    | [a,b],_=>exact ⟨a,b,rfl⟩
   have sa:=gO (hm a (by simp))
   have sb:=gO (hm b (by simp))
   refine aD (bG (gt_w (dH ?_)))
   refine bS ?_
   refine bL ?_
   refine aG aKX (hr.mono (by decide)) aKW.m aKW.F.kp aKW.b ?_
   refine aA ?_
   refine aI aF ?_
   refine ge_v 0 rfl ?_
   refine aC ?_
   refine aK (.tup _) rfl ?_
   refine aB ?_
   refine ⟨a,rfl,sa,?_⟩
   refine ⟨_,rfl,?_⟩
   rcases tS a with ⟨i,rfl⟩ | ⟨e0,_⟩
   ·refine iteF (eS ?_)
    refine bS ?_
    refine bL ?_
    refine aG aKX (hr.mono (by decide)) aKW.m aKW.F.kp aKW.b ?_
    refine aA ?_
    refine aI aF ?_
    refine ge_v 0 rfl ?_
    refine aC ?_
    refine aK (.tup _) rfl ?_
    refine aB ?_
    refine ⟨b,rfl,sb,?_⟩
    refine ⟨_,rfl,?_⟩
    rcases tS b with ⟨j,rfl⟩ | ⟨e0,_⟩
    ·refine iteF (bC ?_)
     refine aJ (aN (lD ?_))
     refine fA sR ?_
     refine aI aF ?_
     refine ge_v 0 rfl ?_
     refine aC ?_
     refine aK (.tup _) rfl ?_
     refine aC ?_
     refine o2_B ?_
     refine ⟨_,rfl,?_⟩
     have hk':k (.bl (decide (1≤j) && decide (Int.gcd i j=1))) M:=hk
     by_cases h1:1≤j
     ·rw [decide_eq_true h1] at hk'
      refine fZ (decide_eq_true h1) (kA ?_)
      refine fA gI ?_
      refine aG aKR (hr.mono (by decide)) aKQ.m aKQ.F.kp aKQ.b ?_
      refine aA ?_
      refine aI aF ?_
      refine ge_v 0 rfl ?_
      refine aC ?_
      refine aK (.tup _) rfl ?_
      refine aA ?_
      refine aI aF ?_
      refine ge_v 0 rfl ?_
      refine aC ?_
      refine aK (.tup _) rfl ?_
      refine aB ?_
      refine ⟨i,j,rfl,?_⟩
      refine aC ?_
      refine lG ?_
      rw [Bool.true_and] at hk'
      rw [show decide (((Int.gcd i j:Nat):Int)=1)=decide (Int.gcd i j=1) from by congr 1; exact propext (by omega)]
      exact hk'
     ·rw [decide_eq_false h1] at hk'
      exact fS (decide_eq_false h1) hk'
    ·rw [e0]
     rw [oN (fun _ _ z=>by injection z with z; injection z with _ z; injection z with z; rw [z] at e0; cases e0)] at hk
     refine iteT (aJ (aN ?_))
     refine c5 ?_
     exact hk
   ·rw [e0]
    rw [oN (fun _ _ z=>by injection z with z; injection z with z; rw [z] at e0; cases e0)] at hk
    refine iteT (iteT (aJ (aN ?_)))
    refine c5 ?_
    exact hk
  ·rw [decide_eq_false (by omega)]
   rw [oN (fun _ _ z=>by injection z with z; rw [z] at h2; exact h2 rfl)] at hk
   refine iteT (aJ (aN ?_))
   refine c5 ?_
   exact hk
 ·rw [oN (fun _ _=>e1 _)] at hk
  refine aD (bG (gt_w (dH ?_)))
  refine bS ?_
  refine bL ?_
  refine dX (.inr (.inr (.inr (.inl rfl)))) T.isi T.tuple R.BT ?_
  refine ge_v 0 rfl ?_
  refine ⟨_, .self (gO ht),?_⟩
  refine ⟨_,rfl,?_⟩
  rw [e0]
  refine iteT (iteT (aJ (aN ?_)))
  refine c5 ?_
  exact hk
theorem mL:FnScope ["thing"] ["thing"] (aO dW):=⟨rfl,rfl,rfl,by decide +kernel,rfl,by decide +kernel,by decide +kernel⟩
theorem mJ {f:Addr}{fd:FuncData}{aMO aK0:Addr}{aMP aK1:FuncData} (Df:R.Df K mg "are_number_lines" dW ["thing"] f fd)
  (aMQ:R.Df K mg "is_number" iU ["thing"] aMO aMP) (aMR:FnOk P w K mg base CX0 2 aMO aMP ["thing"] (spZ K sA))
  (aK2:R.Df K mg "under" jU ["one", "other"] aK0 aK1) (aK3:FnOk P w K mg base CX0 1 aK0 aK1 ["one", "other"] (spZ K nR)) (T:Bt mg):FnOk P w K mg base CX0 3 f fd ["thing"] (spZ K wG):=by
 refine bF Df mL (fun ds M k h => ?_) (fun cdv A outer s H E hr ds M k h => ?_)
 ·obtain ⟨d,n,rfl,_⟩:=h; rfl
 obtain ⟨d,n,rfl,ht,hk⟩:=h
 rcases p4 d with ⟨ls,rfl⟩ | ⟨e0,e1⟩
 ·obtain ⟨hl,m,rfl,hm⟩:=gJ ht
  refine aD (bG (gt_w (dH ?_)))
  refine bS ?_
  refine bL ?_
  refine dX (.inr (.inr (.inr (.inl rfl)))) T.isi T.tuple R.BT ?_
  refine ge_v 0 rfl ?_
  refine ⟨_, .self trivial,?_⟩
  refine ⟨_,rfl,?_⟩
  rw [tT]
  refine iteF (eS (bS (bL ?_)))
  refine aM (fQ rfl) T.all R.BAll (aA (a9 [] [] (bJ ?_)))
  refine ge_v 0 rfl ?_
  refine ⟨_, .inl rfl,?_⟩
  refine b6 (ds:=ls) (R.aU (by omega)) (fun i acc M'=>M'=M∧acc=((ls.take i).map numB).map D.bl) ⟨rfl,rfl⟩ ?_ ?_
  ·rintro i d acc M' hd ⟨rfl,rfl⟩ cs C s₀ H₀ fp
   refine bD (iteT fun cs C s₀ H₀ fp => ?_)
   refine aG aMR (hr.mono (by decide)) aMQ.m aMQ.F.kp aMQ.b ?_
   refine aA ?_
   refine ge_v 0 rfl ?_
   refine aB ?_
   refine ⟨d,m,rfl,hm d (List.mem_of_getElem? hd),?_⟩
   refine ⟨rfl,?_⟩
   rw [bO hd,List.map_append]
   rfl
  rintro acc M' ⟨rfl,rfl⟩
  rw [List.take_length]
  refine aB (iF (.lst _) ⟨_,rfl,?_⟩)
  rw [nL]
  cases ha:ls.all numB with
  | false =>
   refine iteT (aJ (aN ?_))
   refine c5 ?_
   rw [show dP (.tup ls)=false from by show (ls.all numB && _)=false; rw [ha]; rfl] at hk
   exact hk
  | true =>
   obtain ⟨ps,rfl,hps⟩:=nH ha
   have hb:∀ p∈ps,p.1.natAbs < 10 ^ 65∧p.2.natAbs < 10 ^ 65:=fun p hp=>by
    obtain ⟨_,m',rfl,hm'⟩:=gJ (hm _ (List.mem_map.mpr ⟨p,hp,rfl⟩))
    exact ⟨vJ (hm' _ (by simp)),vJ (hm' _ (by simp))⟩
   rw [show dP (.tup (ps.map bN))=upP ps from by show (_ && upP _)=_; rw [ha,rS]; rfl] at hk
   rw [List.length_map] at hl
   refine iteF (bC (aJ (aN ?_)))
   refine aM (fQ rfl) T.all R.BAll (aA (a9 ["thing"] [0] (xD T.range ?_)))
   refine aA ?_
   refine aC ?_
   refine aA ?_
   refine aM aX T.len PySem.boot_len ?_
   refine aA ?_
   refine ge_v 0 rfl ?_
   refine aB ?_
   refine bQ (.tup _) ?_
   refine aB ?_
   rw [List.length_map]
   refine ⟨_,_,rfl,⟨by omega,by omega,by omega,by omega⟩,?_⟩
   rw [show (((ps.length:Nat):Int) - 1).toNat=ps.length - 1 by omega]
   refine b6 (by rw [b4]; exact R.aU (by omega)) (fun i acc M1=>M1=M'∧acc=((List.range i).map fun i=>ltP (ps.getD i (0,1)) (ps.getD (i+1) (0,1))).map D.bl) ⟨rfl,rfl⟩ ?_ ?_
   ·rintro i d acc M1 hd ⟨rfl,rfl⟩ cs C s₀ H₀ fp
    obtain ⟨hi,rfl⟩:=eA hd
    obtain ⟨a1,b1⟩:=xH (ps:=ps) (i:=i) (by omega)
    obtain ⟨a2,b2⟩:=xH (ps:=ps) (i:=i+1) (by omega)
    refine bD (iteT fun cs C s₀ H₀ fp => ?_)
    refine aG aK3 (hr.mono (by decide)) aK2.m aK2.F.kp aK2.b ?_
    refine aA ?_
    refine aI aF ?_
    refine ge_v 1 rfl ?_
    refine aH bY ?_
    refine ge_v 0 rfl ?_
    refine aC ?_
    refine o2_0 ?_
    refine aK (.tup _) (by rw [show (1:Int)+(i:Int) - 1=((i:Nat):Int) by omega]; exact a1) ?_
    refine aA ?_
    refine aI aF ?_
    refine ge_v 1 rfl ?_
    refine ge_v 0 rfl ?_
    refine aK (.tup _) (by rw [show (1:Int)+(i:Int)=((i+1:Nat):Int) by omega]; exact a2) ?_
    refine aB ?_
    refine ⟨_,_,rfl,w65 (hb _ b1),w65 (hb _ b2),?_⟩
    refine ⟨rfl,?_⟩
    rw [List.range_succ,List.map_append,List.map_append]
    rfl
   rintro acc M1 ⟨rfl,rfl⟩
   rw [b4]
   refine aB (iF (.lst _) ?_)
   rw [nL]
   exact hk
 ·rw [aD7 e1] at hk
  refine aD (bG (gt_w (dH ?_)))
  refine bS ?_
  refine bL ?_
  refine dX (.inr (.inr (.inr (.inl rfl)))) T.isi T.tuple R.BT ?_
  refine ge_v 0 rfl ?_
  refine ⟨_, .self (gO ht),?_⟩
  refine ⟨_,rfl,?_⟩
  rw [e0]
  refine iteT (iteT (aJ (aN ?_)))
  refine c5 ?_
  exact hk
theorem aCN:FnScope ["thing", "wide"] ["thing", "wide"] (aO lT):=⟨rfl,rfl,rfl,by decide +kernel,rfl,by decide +kernel,by decide +kernel⟩
theorem aBR {f:Addr}{fd:FuncData} (Df:R.Df K mg "is_row" lT ["thing", "wide"] f fd) (T:Bt mg):FnOk P w K mg base CX0 1 f fd ["thing", "wide"] (spZ K aCM):=by
 refine bF Df aCN (fun ds M k h => ?_) (fun cdv A outer s H E hr ds M k h => ?_)
 ·obtain ⟨d,n,w,rfl,_⟩:=h; rfl
 obtain ⟨d,n,w,rfl,ht,hk⟩:=h
 rcases aH7 d with ⟨z,rfl⟩ | ⟨e0,e1⟩
 ·have hz:=tP ht
  refine aD (bG (gt_w (dH ?_)))
  refine bS ?_
  refine bL ?_
  refine dX (.inr (.inr (.inl rfl))) T.isi T.str R.BS ?_
  refine ge_v 0 rfl ?_
  refine ⟨_, .self trivial,?_⟩
  refine ⟨_,rfl,?_⟩
  rw [sS]
  refine iteF (eS ?_)
  refine aZ l9 ?_
  refine aM aX T.len PySem.boot_len ?_
  refine aA ?_
  refine ge_v 0 rfl ?_
  refine aB ?_
  refine gU (R.aU (by omega)) ?_
  refine ge_v 1 rfl ?_
  refine pV ?_
  refine ⟨_,rfl,?_⟩
  by_cases h2:z.length=w
  ·rw [decide_eq_true (by omega)]
   refine iteF (bC (aJ (aN ?_)))
   refine aM (fQ rfl) T.all R.BAll (aA (a9 [] [] (aI1 ?_)))
   refine ge_v 0 rfl ?_
   refine ⟨_,rfl,?_⟩
   refine b6 (ds:=strD z) (by rw [gS]; exact R.aU (by omega)) (fun i acc M'=>M'=M∧acc=((z.cps.toList.take i).map fun c=>c == 35 || c == 46).map D.bl) ⟨rfl,rfl⟩ ?_ ?_
   ·rintro i d acc M' hd ⟨rfl,rfl⟩ cs C s₀ H₀ fp
    obtain ⟨c,hc,rfl⟩:=bP hd
    refine bD (iteT fun cs C s₀ H₀ fp => ?_)
    refine fA aBV ?_
    refine ge_v 0 rfl ?_
    refine bW ?_
    refine aEB ?_
    rw [R.aDX]
    refine ⟨rfl,?_⟩
    rw [bO hc,List.map_append]
    rfl
   rintro acc M' ⟨rfl,rfl⟩
   rw [gS,show z.length=z.cps.toList.length from (Array.length_toList ..).symm,List.take_length]
   refine aB (iF (.lst _) ?_)
   rw [nL]
   rw [show rowB w (.str z)=z.cps.toList.all (fun c=>c == 35 || c == 46) from by show (decide (z.length=w) && _)=_; rw [decide_eq_true h2]; rfl] at hk
   exact hk
  ·rw [decide_eq_false (by omega)]
   rw [show rowB w (.str z)=false from by show (decide (z.length=w) && _)=_; rw [decide_eq_false h2]; rfl] at hk
   refine iteT (aJ (aN ?_))
   refine c5 ?_
   exact hk
 ·rw [aIW e1] at hk
  refine aD (bG (gt_w (dH ?_)))
  refine bS ?_
  refine bL ?_
  refine dX (.inr (.inr (.inl rfl))) T.isi T.str R.BS ?_
  refine ge_v 0 rfl ?_
  refine ⟨_, .self (gO ht),?_⟩
  refine ⟨_,rfl,?_⟩
  rw [e0]
  refine iteT (iteT (aJ (aN ?_)))
  refine c5 ?_
  exact hk
theorem f9:FnScope ["rows", "xs", "ys", "wide", "high"] ["rows", "xs", "ys"] (aO iA):=⟨rfl,rfl,rfl,by decide +kernel,rfl,by decide +kernel,by decide +kernel⟩
theorem vN {f:Addr}{fd:FuncData}{aMS:Addr}{aMT:FuncData} (Df:R.Df K mg "rows_fit" iA ["rows", "xs", "ys"] f fd)
  (aMU:R.Df K mg "is_row" lT ["thing", "wide"] aMS aMT) (aMV:FnOk P w K mg base CX0 1 aMS aMT ["thing", "wide"] (spZ K aCM)) (T:Bt mg):FnOk P w K mg base CX0 2 f fd ["rows", "xs", "ys"] (spZ K yG):=by
 refine bF Df f9 (fun ds M k h => ?_) (fun cdv A outer s H E hr ds M k h => ?_)
 ·obtain ⟨t,dr,dx,dy,rs,xs,ys,n,rfl,_⟩:=h; rfl
 obtain ⟨t,dr,dx,dy,rs,xs,ys,n,rfl,s1,s2,s3,ht,l1,l2,l3,hk⟩:=h
 cases t with
 | true =>
  cases s1
  cases s2
  cases s3
  refine aD (aP 3 f9.nd ?_)
  refine aM (kO rfl) T.max R.BMax ?_
  refine aA ?_
  refine aH bY ?_
  refine aM aX T.len PySem.boot_len ?_
  refine aA ?_
  refine ge_v 1 rfl ?_
  refine aB ?_
  refine bQ (.lst _) ?_
  refine aC ?_
  refine o2_0 ?_
  refine aA ?_
  refine aC ?_
  refine aB ?_
  refine pP ?_
  rw [maxz0]
  refine aD (aP 4 f9.nd ?_)
  refine aM (kO rfl) T.max R.BMax ?_
  refine aA ?_
  refine aH bY ?_
  refine aM aX T.len PySem.boot_len ?_
  refine aA ?_
  refine ge_v 2 rfl ?_
  refine aB ?_
  refine bQ (.lst _) ?_
  refine aC ?_
  refine o2_0 ?_
  refine aA ?_
  refine aC ?_
  refine aB ?_
  refine pP ?_
  rw [maxz0]
  refine aJ (aN (lD ?_))
  refine fA gI ?_
  refine aM aX T.len PySem.boot_len ?_
  refine aA ?_
  refine ge_v 0 rfl ?_
  refine aB ?_
  refine bQ (.lst _) ?_
  refine ge_v 4 rfl ?_
  refine lG ?_
  refine ⟨_,rfl,?_⟩
  by_cases h1:rs.length=ys.length - 1
  ·refine fZ (decide_eq_true (by omega)) (kA ?_)
   refine aM (fQ rfl) T.all R.BAll (aA (a9 ["wide"] [3] (bJ ?_)))
   refine ge_v 0 rfl ?_
   refine ⟨_, .inr (.inl rfl),?_⟩
   refine b6 (ds:=rs) (R.aU (by omega)) (fun i acc M'=>M'=M∧acc=((rs.take i).map (rowB (xs.length - 1))).map D.bl) ⟨rfl,rfl⟩ ?_ ?_
   ·rintro i d acc M' hd ⟨rfl,rfl⟩ cs C s₀ H₀ fp
    refine bD (iteT fun cs C s₀ H₀ fp => ?_)
    refine aG aMV (hr.mono (by decide)) aMU.m aMU.F.kp aMU.b ?_
    refine aA ?_
    refine ge_v 0 rfl ?_
    refine aA ?_
    refine ge_v 1 rfl ?_
    refine aB ?_
    refine ⟨d,n,_,rfl,ht d (List.mem_of_getElem? hd),?_⟩
    refine ⟨rfl,?_⟩
    rw [bO hd,List.map_append]
    rfl
   rintro acc M' ⟨rfl,rfl⟩
   rw [List.take_length]
   refine aB (iF (.lst _) ?_)
   rw [nL]
   rw [show fitB rs xs.length ys.length=rs.all (rowB (xs.length - 1)) from by unfold fitB; rw [decide_eq_true h1]; rfl] at hk
   exact hk
  ·rw [show fitB rs xs.length ys.length=false from by unfold fitB; rw [decide_eq_false h1]; rfl] at hk
   exact fS (decide_eq_false (by omega)) hk
 | false =>
  cases s1
  cases s2
  cases s3
  refine aD (aP 3 f9.nd ?_)
  refine aM (kO rfl) T.max R.BMax ?_
  refine aA ?_
  refine aH bY ?_
  refine aM aX T.len PySem.boot_len ?_
  refine aA ?_
  refine ge_v 1 rfl ?_
  refine aB ?_
  refine bQ (.tup _) ?_
  refine aC ?_
  refine o2_0 ?_
  refine aA ?_
  refine aC ?_
  refine aB ?_
  refine pP ?_
  rw [maxz0]
  refine aD (aP 4 f9.nd ?_)
  refine aM (kO rfl) T.max R.BMax ?_
  refine aA ?_
  refine aH bY ?_
  refine aM aX T.len PySem.boot_len ?_
  refine aA ?_
  refine ge_v 2 rfl ?_
  refine aB ?_
  refine bQ (.tup _) ?_
  refine aC ?_
  refine o2_0 ?_
  refine aA ?_
  refine aC ?_
  refine aB ?_
  refine pP ?_
  rw [maxz0]
  refine aJ (aN (lD ?_))
  refine fA gI ?_
  refine aM aX T.len PySem.boot_len ?_
  refine aA ?_
  refine ge_v 0 rfl ?_
  refine aB ?_
  refine bQ (.tup _) ?_
  refine ge_v 4 rfl ?_
  refine lG ?_
  refine ⟨_,rfl,?_⟩
  by_cases h1:rs.length=ys.length - 1
  ·refine fZ (decide_eq_true (by omega)) (kA ?_)
   refine aM (fQ rfl) T.all R.BAll (aA (a9 ["wide"] [3] (bJ ?_)))
   refine ge_v 0 rfl ?_
   refine ⟨_, .inl rfl,?_⟩
   refine b6 (ds:=rs) (R.aU (by omega)) (fun i acc M'=>M'=M∧acc=((rs.take i).map (rowB (xs.length - 1))).map D.bl) ⟨rfl,rfl⟩ ?_ ?_
   ·rintro i d acc M' hd ⟨rfl,rfl⟩ cs C s₀ H₀ fp
    refine bD (iteT fun cs C s₀ H₀ fp => ?_)
    refine aG aMV (hr.mono (by decide)) aMU.m aMU.F.kp aMU.b ?_
    refine aA ?_
    refine ge_v 0 rfl ?_
    refine aA ?_
    refine ge_v 1 rfl ?_
    refine aB ?_
    refine ⟨d,n,_,rfl,ht d (List.mem_of_getElem? hd),?_⟩
    refine ⟨rfl,?_⟩
    rw [bO hd,List.map_append]
    rfl
   rintro acc M' ⟨rfl,rfl⟩
   rw [List.take_length]
   refine aB (iF (.lst _) ?_)
   rw [nL]
   rw [show fitB rs xs.length ys.length=rs.all (rowB (xs.length - 1)) from by unfold fitB; rw [decide_eq_true h1]; rfl] at hk
   exact hk
  ·rw [show fitB rs xs.length ys.length=false from by unfold fitB; rw [decide_eq_false h1]; rfl] at hk
   exact fS (decide_eq_false (by omega)) hk
theorem zB:FnScope ["thing"] ["thing"] (aO kK):=⟨rfl,rfl,rfl,by decide +kernel,rfl,by decide +kernel,by decide +kernel⟩
theorem yL {f:Addr}{fd:FuncData}{aMW aMX aL1:Addr}{aMY aMZ aL3:FuncData} (Df:R.Df K mg "is_yard" kK ["thing"] f fd)
  (aM0:R.Df K mg "are_number_lines" dW ["thing"] aMW aMY) (aM1:FnOk P w K mg base CX0 3 aMW aMY ["thing"] (spZ K wG))
  (aM2:R.Df K mg "rows_fit" iA ["rows", "xs", "ys"] aMX aMZ) (aM3:FnOk P w K mg base CX0 2 aMX aMZ ["rows", "xs", "ys"] (spZ K yG))
  (aL6:R.Df K mg "tidied" iL ["xs", "ys", "rows"] aL1 aL3) (aL7:FnOk P w K mg base CX0 3 aL1 aL3 ["xs", "ys", "rows"] (spZ K lR)) (T:Bt mg):FnOk P w K mg base CX0 4 f fd ["thing"] (spZ K xU):=by
 refine bF Df zB (fun ds M k h => ?_) (fun cdv A outer s H E hr ds M k h => ?_)
 ·obtain ⟨d,n,rfl,_⟩:=h; rfl
 obtain ⟨d,n,rfl,ht,hn,hk⟩:=h
 rcases p4 d with ⟨ls,rfl⟩ | ⟨e0,e1⟩
 rotate_left
 ·rw [wT (fun _ _ _=>e1 _)] at hk
  refine aD (bG (gt_w (dH ?_)))
  refine bS ?_
  refine bL ?_
  refine dX (.inr (.inr (.inr (.inl rfl)))) T.isi T.tuple R.BT ?_
  refine ge_v 0 rfl ?_
  refine ⟨_, .self (gO ht),?_⟩
  refine ⟨_,rfl,?_⟩
  rw [e0]
  refine iteT (iteT (aJ (aN ?_)))
  refine c5 ?_
  exact hk
 obtain ⟨hl,m,rfl,hm⟩:=gJ ht
 refine aD (bG (gt_w (dH ?_)))
 refine bS ?_
 refine bL ?_
 refine dX (.inr (.inr (.inr (.inl rfl)))) T.isi T.tuple R.BT ?_
 refine ge_v 0 rfl ?_
 refine ⟨_, .self trivial,?_⟩
 refine ⟨_,rfl,?_⟩
 rw [tT]
 refine iteF (eS ?_)
 refine aZ l9 ?_
 refine aM aX T.len PySem.boot_len ?_
 refine aA ?_
 refine ge_v 0 rfl ?_
 refine aB ?_
 refine bQ (.tup _) ?_
 refine aC ?_
 refine pV ?_
 refine ⟨_,rfl,?_⟩
 by_cases h2:ls.length=3
 rotate_left
 ·rw [decide_eq_false (by omega)]
  rw [wT (fun _ _ _ z=>by injection z with z; rw [z] at h2; exact h2 rfl)] at hk
  refine iteT (aJ (aN ?_))
  refine c5 ?_
  exact hk
 rw [decide_eq_true (by omega)]
 refine iteF (bC ?_)
 obtain ⟨x,y,r,rfl⟩:∃ x y r,ls=[x,y,r]:=by
  match ls,h2 with
  | [a,b,c],_=>exact ⟨a,b,c,rfl⟩
 have tx:=hm x (by simp)
 have ty:=hm y (by simp)
 have tr:=hm r (by simp)
 rw [show nW (.tup [x,y,r])=yard3 x y r from rfl] at hk
 refine aD (bG (gt_w (dH ?_)))
 refine bS ?_
 refine bL ?_
 refine aG aM1 (hr.mono (by decide)) aM0.m aM0.F.kp aM0.b ?_
 refine aA ?_
 refine aI aF ?_
 refine ge_v 0 rfl ?_
 refine aC ?_
 refine aK (.tup _) rfl ?_
 refine aB ?_
 refine ⟨x,m,rfl,tx,?_⟩
 refine ⟨_,rfl,?_⟩
 rcases tf (dP x) with hx | hx
 ·rw [hx]
  rw [aC5 hx] at hk
  refine iteT (iteT (aJ (aN ?_)))
  refine c5 ?_
  exact hk
 rw [hx]
 refine iteF (eS ?_)
 refine bS ?_
 refine bL ?_
 refine aG aM1 (hr.mono (by decide)) aM0.m aM0.F.kp aM0.b ?_
 refine aA ?_
 refine aI aF ?_
 refine ge_v 0 rfl ?_
 refine aC ?_
 refine aK (.tup _) rfl ?_
 refine aB ?_
 refine ⟨y,m,rfl,ty,?_⟩
 refine ⟨_,rfl,?_⟩
 rcases tf (dP y) with hy | hy
 ·rw [hy]
  rw [aCV hy] at hk
  refine iteT (aJ (aN ?_))
  refine c5 ?_
  exact hk
 rw [hy]
 refine iteF (bC ?_)
 obtain ⟨ps,rfl,_⟩:=rE hx
 obtain ⟨qs,rfl,_⟩:=rE hy
 have lx:=(gJ tx).1
 have ly:=(gJ ty).1
 refine aD (bG (gt_w (dH ?_)))
 refine bS ?_
 refine bL ?_
 refine dX (.inr (.inr (.inr (.inl rfl)))) T.isi T.tuple R.BT ?_
 refine aI aF ?_
 refine ge_v 0 rfl ?_
 refine aC ?_
 refine aK (.tup _) rfl ?_
 refine ⟨_, .self (gO tr),?_⟩
 refine ⟨_,rfl,?_⟩
 rcases p4 r with ⟨rs,rfl⟩ | ⟨e0,e1⟩
 rotate_left
 ·rw [e0]
  rw [aFQ e1] at hk
  refine iteT (iteT (aJ (aN ?_)))
  refine c5 ?_
  exact hk
 rw [tT]
 obtain ⟨lr,mr,emr,mmr⟩:=gJ tr
 refine iteF (eS ?_)
 refine bS ?_
 refine bL ?_
 refine aG aM3 (hr.mono (by decide)) aM2.m aM2.F.kp aM2.b ?_
 refine aA ?_
 refine aI aF ?_
 refine ge_v 0 rfl ?_
 refine aC ?_
 refine aK (.tup _) rfl ?_
 refine aA ?_
 refine aI aF ?_
 refine ge_v 0 rfl ?_
 refine aC ?_
 refine aK (.tup _) rfl ?_
 refine aA ?_
 refine aI aF ?_
 refine ge_v 0 rfl ?_
 refine aC ?_
 refine aK (.tup _) rfl ?_
 refine aB ?_
 refine ⟨false,_,_,_,rs,ps.map bN,qs.map bN,mr,rfl,rfl,rfl,rfl,mmr,lr,lx,ly,?_⟩
 refine ⟨_,rfl,?_⟩
 rw [u9,hx,hy] at hk
 rcases tf (fitB rs (ps.map bN).length (qs.map bN).length) with hf | hf
 ·rw [hf] at hk ⊢
  refine iteT (aJ (aN ?_))
  refine c5 ?_
  exact hk
 rw [hf] at hk ⊢
 refine iteF (bC (aJ (aN ?_)))
 obtain ⟨hf1,hf2⟩:=aGK hf
 obtain ⟨zs,rfl,hzs⟩:=mD hf2
 rw [tX] at hk
 have hf3:=hf1
 rw [List.length_map] at hf3 lr
 refine fA (jH (n:=3) (R.cM hr)) ?_
 refine aG aL7 (hr.mono (by decide)) aL6.m aL6.F.kp aL6.b ?_
 refine aA ?_
 refine aI aF ?_
 refine ge_v 0 rfl ?_
 refine aC ?_
 refine aK (.tup _) rfl ?_
 refine aA ?_
 refine aI aF ?_
 refine ge_v 0 rfl ?_
 refine aC ?_
 refine aK (.tup _) rfl ?_
 refine aA ?_
 refine aI aF ?_
 refine ge_v 0 rfl ?_
 refine aC ?_
 refine aK (.tup _) rfl ?_
 refine aB ?_
 refine ⟨false,_,_,_,ps.map bN,qs.map bN,zs,(ps.map bN).length - 1,rfl,rfl,rfl,rfl,by omega,by omega,fun z hz=>(hzs z hz).1,eF fun z hz=>(hzs z hz).1,eE hf3,?_⟩
 refine ge_v 0 rfl ?_
 refine jE (.tup _) (.tup _) (aC3 ps qs zs) (aHN ps qs zs) ?_
 exact hk
theorem pF:FnScope ["thing"] ["thing"] (aO fI):=⟨rfl,rfl,rfl,by decide +kernel,rfl,by decide +kernel,by decide +kernel⟩
theorem pK {f:Addr}{fd:FuncData}{aKS:Addr}{aKU:FuncData} (Df:R.Df K mg "is_whole_line" fI ["thing"] f fd)
  (aKW:R.Df K mg "is_whole" fR ["thing"] aKS aKU) (aKX:FnOk P w K mg base CX0 1 aKS aKU ["thing"] (spZ K mC)) {tF:Tok} (CF:mg "FARTHEST" = some (.int 1000000000 tF)):FnOk P w K mg base CX0 2 f fd ["thing"] (spZ K qA):=by
 refine bF Df pF (fun ds M k h => ?_) (fun cdv A outer s H E hr ds M k h => ?_)
 ·obtain ⟨x,rfl,_⟩:=h; rfl
 obtain ⟨x,rfl,h1,h2,hk⟩:=h
 refine aJ (aN (lD ?_))
 refine aG aKX (hr.mono (by decide)) aKW.m aKW.F.kp aKW.b ?_
 refine aA ?_
 refine ge_v 0 rfl ?_
 refine aB ?_
 refine ⟨_,rfl,trivial,?_⟩
 refine ⟨_,rfl,iteT (kA (aDR aE0 aE0 (kS i9 (pE CF ⟨_,rfl,?_⟩))))⟩
 refine ge_v 0 rfl ?_
 refine o2_B ⟨_,rfl,fZ (decide_eq_true (by omega)) (pE CF (o2_B ?_))⟩
 rw [decide_eq_true h2]
 exact hk
theorem nN:FnScope ["thing"] ["thing"] (aO eJ):=⟨rfl,rfl,rfl,by decide +kernel,rfl,by decide +kernel,by decide +kernel⟩
theorem mX {f:Addr}{fd:FuncData}{aM4:Addr}{aM5:FuncData} (Df:R.Df K mg "are_whole_lines" eJ ["thing"] f fd)
  (aM6:R.Df K mg "is_whole_line" fI ["thing"] aM4 aM5) (aM7:FnOk P w K mg base CX0 2 aM4 aM5 ["thing"] (spZ K qA)) (T:Bt mg) {tM:Tok} (CM:mg "MOST_LINES" = some (.int 7 tM)):FnOk P w K mg base CX0 3 f fd ["thing"] (spZ K o4):=by
 refine bF Df nN (fun ds M k h => ?_) (fun cdv A outer s H E hr ds M k h => ?_)
 ·obtain ⟨xs,rfl,_⟩:=h; rfl
 obtain ⟨xs,rfl,u7,hk⟩:=h
 have few:=u7.few
 have ml:(xs.map D.int).length=xs.length:=List.length_map ..
 refine aD (bG (gt_w (dH ?_)))
 refine bS ?_
 refine bL ?_
 refine dX (.inr (.inr (.inr (.inr rfl)))) T.isi T.list R.BL ?_
 refine ge_v 0 rfl ?_
 refine ⟨_, .self trivial,?_⟩
 refine ⟨_,rfl,?_⟩
 rw [lL]
 refine iteF (eS (aZ qE ?_))
 refine aM aX T.len PySem.boot_len ?_
 refine aA ?_
 refine ge_v 0 rfl ?_
 refine aB ?_
 refine bQ (.lst _) ?_
 refine pE CM (o2_B ⟨_,rfl,?_⟩)
 refine fS (decide_eq_false (by omega)) (bC ?_)
 refine aD (bG (bS (bL ?_)))
 refine aM (fQ rfl) T.all R.BAll (aA (a9 [] [] (bJ ?_)))
 refine ge_v 0 rfl ?_
 refine ⟨_, .inr (.inl rfl),?_⟩
 refine b6 (ds:=xs.map D.int) (by rw [ml]; exact R.aU (by omega)) (fun i acc M'=>M'=M∧acc=(List.replicate i true).map D.bl) ⟨rfl,rfl⟩ ?_ ?_
 ·rintro i d acc M' hd ⟨rfl,rfl⟩ cs C s₀ H₀ fp
  obtain ⟨x,hx,rfl⟩:=bP hd
  have hb:=u7.bd x (List.mem_of_getElem? hx)
  refine bD (iteT fun cs C s₀ H₀ fp => ?_)
  refine aG aM7 (hr.mono (by decide)) aM6.m aM6.F.kp aM6.b ?_
  refine aA ?_
  refine ge_v 0 rfl ?_
  refine aB ?_
  refine ⟨x,rfl,hb.1,hb.2,?_⟩
  refine ⟨rfl,?_⟩
  rw [List.replicate_succ',List.map_append]
  rfl
 rintro acc M' ⟨rfl,rfl⟩
 refine aB (iF (.lst _) ⟨_,rfl,?_⟩)
 rw [pI]
 refine iteF (bC (aJ (aN ?_)))
 refine aM (fQ rfl) T.all R.BAll (aA (a9 ["thing"] [0] (xD T.range ?_)))
 refine aA ?_
 refine aC ?_
 refine aA ?_
 refine aM aX T.len PySem.boot_len ?_
 refine aA ?_
 refine ge_v 0 rfl ?_
 refine aB ?_
 refine bQ (.lst _) ?_
 refine aB ?_
 rw [ml]
 refine ⟨_,_,rfl,⟨by omega,by omega,by omega,by omega⟩,?_⟩
 rw [show (((xs.length:Nat):Int) - 1).toNat=xs.length - 1 by omega]
 refine b6 (by rw [b4]; exact R.aU (by omega)) (fun i acc M1=>M1=M'∧acc=(List.replicate i true).map D.bl) ⟨rfl,rfl⟩ ?_ ?_
 ·rintro i d acc M1 hd ⟨rfl,rfl⟩ cs C s₀ H₀ fp
  obtain ⟨hi,rfl⟩:=eA hd
  have lt:=List.pairwise_iff_getElem.mp u7.up i (i+1) (by omega) (by omega) (by omega)
  refine bD (iteT fun cs C s₀ H₀ fp => ?_)
  refine fA eM ?_
  refine aI aF ?_
  refine ge_v 1 rfl ?_
  refine aH bY ?_
  refine ge_v 0 rfl ?_
  refine aC ?_
  refine o2_0 ?_
  refine aK (.lst _) (by rw [show (1:Int)+(i:Int) - 1=((i:Nat):Int) by omega]; exact zW (by omega)) ?_
  refine aI aF ?_
  refine ge_v 1 rfl ?_
  refine ge_v 0 rfl ?_
  refine aK (.lst _) (by rw [show (1:Int)+(i:Int)=((i+1:Nat):Int) by omega]; exact zW (by omega)) ?_
  refine o2_B ?_
  rw [decide_eq_true lt]
  refine ⟨rfl,?_⟩
  rw [List.replicate_succ',List.map_append]
  rfl
 rintro acc M1 ⟨rfl,rfl⟩
 refine aB (iF (.lst _) ?_)
 rw [pI]
 exact hk
theorem aFO:FnScope ["xs", "ys", "rows"] ["xs", "ys", "rows"] (aO pR):=⟨rfl,rfl,rfl,by decide +kernel,rfl,by decide +kernel,by decide +kernel⟩
theorem aF8 {f:Addr}{fd:FuncData}{aM8 aMX aL1 aL9:Addr}{aM9 aMZ aL3 aMB:FuncData} (Df:R.Df K mg "made" pR ["xs", "ys", "rows"] f fd)
  (aNA:R.Df K mg "are_whole_lines" eJ ["thing"] aM8 aM9) (aNB:FnOk P w K mg base CX0 3 aM8 aM9 ["thing"] (spZ K o4))
  (aM2:R.Df K mg "rows_fit" iA ["rows", "xs", "ys"] aMX aMZ) (aM3:FnOk P w K mg base CX0 2 aMX aMZ ["rows", "xs", "ys"] (spZ K yG))
  (aL6:R.Df K mg "tidied" iL ["xs", "ys", "rows"] aL1 aL3) (aL7:FnOk P w K mg base CX0 3 aL1 aL3 ["xs", "ys", "rows"] (spZ K lR))
  (aME:R.Df K mg "fraction" iD ["top", "bottom"] aL9 aMB) (aMF:FnOk P w K mg base CX0 3 aL9 aMB ["top", "bottom"] (spZ K m7)) (T:Bt mg):FnOk P w K mg base CX0 5 f fd ["xs", "ys", "rows"] (spZ K aE1):=by
 refine bF Df aFO (fun ds M k h => ?_) (fun cdv A outer s H E hr ds M k h => ?_)
 ·obtain ⟨xs,ys,zs,rfl,_⟩:=h; rfl
 obtain ⟨xs,ys,zs,rfl,ux,uy,gz,hz,hk⟩:=h
 have fx:=ux.few
 have fy:=uy.few
 have mx:(xs.map D.int).length=xs.length:=List.length_map ..
 have my:(ys.map D.int).length=ys.length:=List.length_map ..
 refine aD (bG (gt_w (dH ?_)))
 refine bS ?_
 refine bL ?_
 refine aG aNB (hr.mono (by decide)) aNA.m aNA.F.kp aNA.b ?_
 refine aA ?_
 refine ge_v 0 rfl ?_
 refine aB ?_
 refine ⟨xs,rfl,ux,?_⟩
 refine ⟨_,rfl,?_⟩
 refine iteF (eS ?_)
 refine bS ?_
 refine bL ?_
 refine aG aNB (hr.mono (by decide)) aNA.m aNA.F.kp aNA.b ?_
 refine aA ?_
 refine ge_v 1 rfl ?_
 refine aB ?_
 refine ⟨ys,rfl,uy,?_⟩
 refine ⟨_,rfl,?_⟩
 refine iteF (bC ?_)
 refine aD (bG (gt_w (dH ?_)))
 refine bS ?_
 refine bL ?_
 refine dX (.inr (.inr (.inr (.inr rfl)))) T.isi T.list R.BL ?_
 refine ge_v 2 rfl ?_
 refine ⟨_, .self trivial,?_⟩
 refine ⟨_,rfl,?_⟩
 rw [lL]
 refine iteF (eS ?_)
 refine bS ?_
 refine bL ?_
 refine aG aM3 (hr.mono (by decide)) aM2.m aM2.F.kp aM2.b ?_
 refine aA ?_
 refine ge_v 2 rfl ?_
 refine aA ?_
 refine ge_v 0 rfl ?_
 refine aA ?_
 refine ge_v 1 rfl ?_
 refine aB ?_
 refine ⟨true,_,_,_,zs.map .str,xs.map .int,ys.map .int,1,rfl,rfl,rfl,rfl,fun r hr=>(aF9 (n:=50) (fun z hz=>Nat.le_trans (Nat.le_of_eq (gz z hz).1) (show _≤1000 by omega)) (by omega)).tame1 r hr,by rw [List.length_map]; omega,by omega,by omega,?_⟩
 refine ⟨_,rfl,?_⟩
 rw [mx,my,aB1 hz (fun z hz=>(gz z hz).1),vK gz]
 refine iteF (bC (aJ (aN ?_)))
 refine aG aL7 (hr.mono (by decide)) aL6.m aL6.F.kp aL6.b ?_
 refine aA (a9 [] [] (bJ ?_))
 refine ge_v 0 rfl ?_
 refine ⟨_, .inr (.inl rfl),?_⟩
 refine b6 (ds:=xs.map D.int) (by rw [List.length_map]; exact R.aU (by omega)) (fun i acc M1=>M1=M∧acc=((xs.take i).map p1).map bN) ⟨rfl,rfl⟩ ?_ ?_
 ·rintro i d acc M1 hd ⟨rfl,rfl⟩ cs C s₀ H₀ fp
  obtain ⟨x,hx,rfl⟩:=bP hd
  refine bD (iteT fun cs C s₀ H₀ fp => ?_)
  refine aG aMF (hr.mono (by decide)) aME.m aME.F.kp aME.b ?_
  refine aA ?_
  refine ge_v 0 rfl ?_
  refine aA ?_
  refine aC ?_
  refine aB ?_
  refine ⟨x,1,rfl,by decide,Nat.one_lt_pow (by decide) (by decide),?_⟩
  rw [low1]
  refine ⟨rfl,?_⟩
  rw [bO hx,List.map_append]
  rfl
 rintro acc M ⟨rfl,rfl⟩
 rw [List.length_map,List.take_length]
 refine aA (a9 [] [] (bJ ?_))
 refine ge_v 1 rfl ?_
 refine ⟨_, .inr (.inl rfl),?_⟩
 refine b6 (ds:=ys.map D.int) (by rw [List.length_map]; exact R.aU (by omega)) (fun i acc M1=>M1=M∧acc=((ys.take i).map p1).map bN) ⟨rfl,rfl⟩ ?_ ?_
 ·rintro i d acc M1 hd ⟨rfl,rfl⟩ cs C s₀ H₀ fp
  obtain ⟨x,hx,rfl⟩:=bP hd
  refine bD (iteT fun cs C s₀ H₀ fp => ?_)
  refine aG aMF (hr.mono (by decide)) aME.m aME.F.kp aME.b ?_
  refine aA ?_
  refine ge_v 0 rfl ?_
  refine aA ?_
  refine aC ?_
  refine aB ?_
  refine ⟨x,1,rfl,by decide,Nat.one_lt_pow (by decide) (by decide),?_⟩
  rw [low1]
  refine ⟨rfl,?_⟩
  rw [bO hx,List.map_append]
  rfl
 rintro acc M ⟨rfl,rfl⟩
 rw [List.length_map,List.take_length]
 refine aA ?_
 refine ge_v 2 rfl ?_
 refine aB ?_
 exact ⟨true,_,_,_,gD xs,gD ys,zs,xs.length - 1,rfl,rfl,rfl,rfl,by omega,by omega,fun z hz=>(gz z hz).1,by rw [pZ]; exact eF fun z hz=>(gz z hz).1,by rw [pZ]; exact eE hz,hk⟩
theorem oZ:FnScope ["lines", "where", "below"] ["lines", "where"] (aO jT):=⟨rfl,rfl,rfl,by decide +kernel,rfl,by decide +kernel,by decide +kernel⟩
theorem vY {f:Addr}{fd:FuncData}{aK0:Addr}{aK1:FuncData} (Df:R.Df K mg "bands_at" jT ["lines", "where"] f fd)
  (aK2:R.Df K mg "under" jU ["one", "other"] aK0 aK1) (aK3:FnOk P w K mg base CX0 1 aK0 aK1 ["one", "other"] (spZ K nR)) (T:Bt mg):FnOk P w K mg base CX0 2 f fd ["lines", "where"] (spZ K wN):=by
 refine bF Df oZ (fun ds M k h => ?_) (fun cdv A outer s H E hr ds M k h => ?_)
 ·obtain ⟨ws,v,rfl,_⟩:=h; rfl
 obtain ⟨ws,v,rfl,h9,hl,hv,hk⟩:=h
 have ml:=aT ws
 refine aD (aP 2 oZ.nd ?_)
 refine aM aX T.len PySem.boot_len (aA (a9 ["where"] [1] (bJ ?_)))
 refine ge_v 0 rfl ?_
 refine ⟨_, .inl rfl,?_⟩
 refine b6 (ds:=aL ws) (by rw [ml]; exact R.aU (by omega)) (fun i acc M'=>M'=M∧acc=aL ((ws.take i).filter fun x=>decide (x < v))) ⟨rfl,rfl⟩ ?_ ?_
 ·rintro i d acc M' hd ⟨rfl,rfl⟩ cs C s₀ H₀ fp
  obtain ⟨x,hx,rfl⟩:=bP hd
  refine qP (bL ?_)
  refine aG aK3 (hr.mono (by decide)) aK2.m aK2.F.kp aK2.b ?_
  refine aA ?_
  refine ge_v 0 rfl ?_
  refine aA ?_
  refine ge_v 1 rfl ?_
  refine aB ?_
  refine ⟨pq x,pq v,rfl,(h9 x (List.mem_of_getElem? hx)).p,hv.p,?_⟩
  rw [sU]
  refine ⟨_,rfl,?_⟩
  refine ite2 (fun hb=>fun cs C s₀ H₀ fp => ?_) (fun hb => ?_)
  ·refine ge_v 0 rfl ?_
   refine ⟨rfl,?_⟩
   rw [fK hx,List.filter_append,List.filter_cons_of_pos (p:=fun x=>decide (x < v)) hb,List.filter_nil,← cU]
   rfl
  ·refine ⟨rfl,?_⟩
   rw [fK hx,List.filter_append,List.filter_cons_of_neg (p:=fun x=>decide (x < v)) hb,List.filter_nil,List.append_nil]
 rintro acc M' ⟨rfl,rfl⟩
 rw [ml,List.take_length]
 refine aB (bQ (.lst _) ?_)
 rw [aT,show (ws.filter fun x=>decide (x < v)).length=cntQ ws v from rfl]
 have hcl:cntQ ws v≤ws.length:=List.length_filter_le _ _
 refine aD (bG (gt_w (lE ?_)))
 refine aZ eM ?_
 refine ge_v 2 rfl ?_
 refine aM aX T.len PySem.boot_len ?_
 refine aA ?_
 refine ge_v 0 rfl ?_
 refine aB ?_
 refine bQ (.tup _) ?_
 refine o2_B ?_
 refine ⟨_,rfl,?_⟩
 rw [ml]
 unfold cK at hk
 by_cases h1:cntQ ws v < ws.length
 rotate_left
 ·rw [if_neg (fun z=>h1 z.1)] at hk
  refine fS (decide_eq_false (by omega)) (iteF (bC (aJ (aN ?_))))
  refine dA ?_
  refine aA ?_
  refine aH bY ?_
  refine ge_v 2 rfl ?_
  refine aC ?_
  refine o2_0 ?_
  refine aB ?_
  refine ⟨(show 1≤sizeLine by decide),?_⟩
  exact hk
 refine fZ (decide_eq_true (by omega)) (jV ?_)
 refine aZ (jH (n:=1) (R.cM hr)) ?_
 refine aI aF ?_
 refine ge_v 0 rfl ?_
 refine ge_v 2 rfl ?_
 refine aK (.tup _) (dQ h1) ?_
 refine ge_v 1 rfl ?_
 refine jE (e1:=numD (ws.getD (cntQ ws v) 0)) (e2:=numD v) (.tup _) (.tup _) rfl rfl ⟨_,rfl,?_⟩
 rw [f8]
 by_cases h2:ws.getD (cntQ ws v) 0=v
 ·rw [if_pos ⟨h1,h2⟩] at hk
  refine fZ (decide_eq_true h2) (aJ (aN ?_))
  refine dA ?_
  refine aA ?_
  refine aH bY ?_
  refine ge_v 2 rfl ?_
  refine aC ?_
  refine o2_0 ?_
  refine aA ?_
  refine ge_v 2 rfl ?_
  refine aB ?_
  refine ⟨(show 2≤sizeLine by decide),?_⟩
  exact hk
 ·rw [if_neg (fun z=>h2 z.2)] at hk
  refine fS (decide_eq_false h2) (bC (aJ (aN ?_)))
  refine dA ?_
  refine aA ?_
  refine aH bY ?_
  refine ge_v 2 rfl ?_
  refine aC ?_
  refine o2_0 ?_
  refine aB ?_
  refine ⟨(show 1≤sizeLine by decide),?_⟩
  exact hk
theorem o0:FnScope ["yard", "across", "up", "rows"] ["yard", "across", "up"] (aO jN):=⟨rfl,rfl,rfl,by decide +kernel,rfl,by decide +kernel,by decide +kernel⟩
theorem wB {f:Addr}{fd:FuncData} (Df:R.Df K mg "has_cell" jN ["yard", "across", "up"] f fd) (T:Bt mg):FnOk P w K mg base CX0 1 f fd ["yard", "across", "up"] (spZ K cHas):=by
 refine bF Df o0 (fun ds M k h => ?_) (fun cdv A outer s H E hr ds M k h => ?_)
 ·obtain ⟨x,y,zs,a,u,rfl,_⟩:=h; rfl
 obtain ⟨x,y,zs,a,u,rfl,hz,hk⟩:=h
 have kf:R.aR zs a u=false→k (.bl false) M:=fun e=>by rw [e] at hk; exact hk
 refine aD (aP 3 o0.nd ?_)
 refine aI aF ?_
 refine ge_v 0 rfl ?_
 refine aC ?_
 refine aK (.tup _) rfl ?_
 refine aD (bG ?_)
 refine gt_w ?_
 refine dH ?_
 refine aZ eM ?_
 refine ge_v 2 rfl ?_
 refine aC ?_
 refine o2_B ?_
 refine ⟨_,rfl,?_⟩
 refine ite2 (fun h1=>iteT (aJ (aN (c5 (kf (R.c6 (of_decide_eq_true h1))))))) (fun h1 => ?_)
 refine dH ?_
 refine aZ sR ?_
 refine ge_v 2 rfl ?_
 refine aM aX T.len PySem.boot_len ?_
 refine aA ?_
 refine ge_v 3 rfl ?_
 refine aB ?_
 refine bQ (.tup _) ?_
 refine o2_B ?_
 refine ⟨_,rfl,?_⟩
 refine ite2 (fun h2=>iteT (aJ (aN (c5 (kf (R.c8 (by have:=of_decide_eq_true h2; rw [List.length_map] at this; exact this))))))) (fun h2 => ?_)
 refine dH ?_
 refine aZ eM ?_
 refine ge_v 1 rfl ?_
 refine aC ?_
 refine o2_B ?_
 refine ⟨_,rfl,?_⟩
 refine ite2 (fun h3=>iteT (aJ (aN (c5 (kf (R.cS (of_decide_eq_true h3))))))) (fun h3 => ?_)
 obtain ⟨hu,ha,z,ez,ei⟩:=aG1 h1 h2 h3
 refine eS ?_
 refine aZ sR ?_
 refine ge_v 1 rfl ?_
 refine aM aX T.len PySem.boot_len ?_
 refine aA ?_
 refine aI aF ?_
 refine ge_v 3 rfl ?_
 refine ge_v 2 rfl ?_
 refine aK (.tup _) ei ?_
 refine aB ?_
 refine gU (R.aU (by have:=hz z (List.mem_of_getElem? ez); omega)) ?_
 refine o2_B ?_
 refine ⟨_,rfl,?_⟩
 have hzl:=hz z (List.mem_of_getElem? ez)
 refine ite2 (fun h4=>aJ (aN (c5 (kf (R.iW ez (of_decide_eq_true h4)))))) (fun h4=>bC ?_)
 obtain ⟨c,ec,ec2⟩:=aFL ha (fun q=>h4 (decide_eq_true q))
 refine aJ (aN ?_)
 refine fA gI ?_
 refine aI aF ?_
 refine aI aF ?_
 refine ge_v 3 rfl ?_
 refine ge_v 2 rfl ?_
 refine aK (.tup _) ei ?_
 refine ge_v 1 rfl ?_
 refine k9 (R.aU (by omega)) ec2 ?_
 refine bW ?_
 refine lA ?_
 rw [aAV,← R.eB hu ha ez ec]
 exact hk
theorem nQ:FnScope ["yard", "x", "y", "cells", "up", "across"] ["yard", "x", "y"] (aO p3):=⟨rfl,rfl,rfl,by decide +kernel,rfl,by decide +kernel,by decide +kernel⟩
theorem aGL {f:Addr}{fd:FuncData}{aNC aND:Addr}{aNE aNF:FuncData} (Df:R.Df K mg "lies" p3 ["yard", "x", "y"] f fd)
  (aNG:R.Df K mg "bands_at" jT ["lines", "where"] aNC aNE) (aNH:FnOk P w K mg base CX0 2 aNC aNE ["lines", "where"] (spZ K wN))
  (aNI:R.Df K mg "has_cell" jN ["yard", "across", "up"] aND aNF) (aNJ:FnOk P w K mg base CX0 1 aND aNF ["yard", "across", "up"] (spZ K cHas)) (T:Bt mg):FnOk P w K mg base CX0 3 f fd ["yard", "x", "y"] (spZ K aB3):=by
 refine bF Df nQ (fun ds M k h => ?_) (fun cdv A outer s H E hr ds M k h => ?_)
 ·obtain ⟨A,v,u,rfl,_⟩:=h; rfl
 obtain ⟨A,v,u,rfl,h9,g9,hl,gl,hv,hu,hk⟩:=h
 have hw:∀ z∈A.K,z.length≤1000:=fun z hz=>by have:=A.wide.1 z hz; omega
 have l1:=pX A.ws v
 have l2:=pX A.us u
 refine aD (aP 3 nQ.nd (jY ?_))
 refine aB ⟨(show 0≤sizeLine by decide),fun a ha => ?_⟩
 refine aD (fN (bJ ?_))
 refine aG aNH (hr.mono (by decide)) aNG.m aNG.F.kp aNG.b ?_
 refine aA ?_
 refine aI aF ?_
 refine ge_v 0 rfl ?_
 refine aC ?_
 refine aK (.tup _) rfl ?_
 refine aA ?_
 refine ge_v 2 rfl ?_
 refine aB ?_
 refine ⟨A.us,u,rfl,g9,gl,hu,?_⟩
 refine ⟨_, .inr (.inl rfl),?_⟩
 refine ⟨fun i Γ' M'=>M'=updM M a (.lst ((gB A.K (cK A.ws v) ((cK A.us u).take i)).map .bl))∧∃ v4 v5,Γ'=[some (yd A),some (numD v),some (numD u),some (.mt a),v4,v5],⟨rfl,_,_,rfl⟩,?_,?_⟩
 ·rintro i d Γ' M' hd ⟨rfl,v4,v5,rfl⟩
  obtain ⟨up,hup,rfl⟩:=bP hd
  have cl:=zC A.K (cK A.ws v) ((cK A.us u).take i) l1 (by rw [List.length_take]; omega)
  refine bT 4 nQ.nd ?_
  refine aJ (fN (bJ ?_))
  refine aG aNH (hr.mono (by decide)) aNG.m aNG.F.kp aNG.b ?_
  refine aA ?_
  refine aI aF ?_
  refine ge_v 0 rfl ?_
  refine aC ?_
  refine aK (.tup _) rfl ?_
  refine aA ?_
  refine ge_v 1 rfl ?_
  refine aB ?_
  refine ⟨A.ws,v,rfl,h9,hl,hv,?_⟩
  refine ⟨_, .inr (.inl rfl),?_⟩
  refine ⟨fun j Γ' M'=>M'=updM M a (.lst ((gB A.K (cK A.ws v) ((cK A.us u).take i)++((cK A.ws v).take j).map fun c=>R.aR A.K c up).map .bl))∧∃ v5,Γ'=[some (yd A),some (numD v),some (numD u),some (.mt a),some (.int up),v5],⟨by simp,_,rfl⟩,?_,?_⟩
  ·rintro j d Γ' M' hd ⟨rfl,w5,rfl⟩
   obtain ⟨ac,hac,rfl⟩:=bP hd
   refine bT 5 nQ.nd ?_
   refine aJ (n5 ?_)
   refine i0 PySem.F.plainAttrs_list PySem.F.slot_list_append PySem.F.type_list_append gZ ?_
   refine ge_v 3 rfl ?_
   refine ⟨⟨rfl,_,aV⟩,?_⟩
   refine aA ?_
   refine aG aNJ (hr.mono (by decide)) aNI.m aNI.F.kp aNI.b ?_
   refine aA ?_
   refine ge_v 0 rfl ?_
   refine aA ?_
   refine ge_v 5 rfl ?_
   refine aA ?_
   refine ge_v 4 rfl ?_
   refine aB ?_
   refine ⟨_,_,A.K,_,_,rfl,hw,?_⟩
   refine aB ?_
   refine kJ aV (by rw [List.length_map,List.length_append,List.length_map,List.length_take]; exact Nat.lt_of_le_of_lt (show _≤60000 by omega) (by decide)) ?_
   refine ⟨?_,_,rfl⟩
   rw [nO,bO hac,← List.append_assoc,List.map_append (l₁:=_++_)]
   rfl
  ·rintro Γ' M' ⟨rfl,w5,rfl⟩
   rw [List.length_map,List.take_length]
   refine ⟨?_,_,_,rfl⟩
   rw [fK hup]
   unfold gB
   rw [List.flatMap_append,List.flatMap_singleton]
 ·rintro Γ' M' ⟨rfl,v4,v5,rfl⟩
  rw [List.length_map,List.take_length]
  refine i6 3 rfl aV ?_
  rw [gN ha]
  unfold lieS at hk
  refine aD (bG ?_)
  refine bL ?_
  refine aM (fQ rfl) T.all R.BAll ?_
  refine aA ?_
  refine ge_v 3 rfl ?_
  refine aB ?_
  refine iF (.lst _) ?_
  refine ⟨_,rfl,?_⟩
  rcases tf ((gB A.K (cK A.ws v) (cK A.us u)).all id) with e1 | e1
  ·rw [e1] at hk ⊢
   rw [if_neg Bool.false_ne_true] at hk
   refine iteF (bC ?_)
   refine aD (bG ?_)
   refine bL ?_
   refine aM (aDC rfl) T.any R.BAny ?_
   refine aA ?_
   refine ge_v 3 rfl ?_
   refine aB ?_
   refine iF (.lst _) ?_
   refine ⟨_,rfl,?_⟩
   rcases tf ((gB A.K (cK A.ws v) (cK A.us u)).any id) with e2 | e2
   ·rw [e2] at hk ⊢
    rw [if_neg Bool.false_ne_true] at hk
    refine iteF (bC (aJ (aN ?_)))
    refine bW ?_
    exact hk
   ·rw [e2] at hk ⊢
    rw [if_pos rfl] at hk
    refine iteT (aJ (aN ?_))
    refine bW ?_
    exact hk
  ·rw [e1] at hk ⊢
   rw [if_pos rfl] at hk
   refine iteT (aJ (aN ?_))
   refine bW ?_
   exact hk
theorem kR:FnScope ["_law_upper", "_law_bottom", "_law_one", "_law_other"] ["_law_upper", "_law_bottom"] (aO j9):=⟨rfl,rfl,rfl,by decide +kernel,rfl,by decide +kernel,by decide +kernel⟩
theorem aAG {f:Addr}{fd:FuncData} (Df:R.Df K mg "_law_number" j9 ["_law_upper", "_law_bottom"] f fd) (T:Bt mg):FnOk P w K mg base CX0 1 f fd ["_law_upper", "_law_bottom"] (spZ K zG):=by
 refine bF Df kR (fun ds M k h => ?_) (fun cdv A outer s H E hr ds M k h => ?_)
 ·obtain ⟨t,b,rfl,_⟩:=h; rfl
 obtain ⟨t,b,rfl,hb,hb2,hk⟩:=h
 have hg:Int.gcd t b≠0:=fun e=>by have:=(Int.gcd_eq_zero_iff.mp e).2; omega
 have hgl:Int.gcd t b≤b.natAbs:=Nat.le_of_dvd (by omega) (Int.gcd_dvd_natAbs_right t b)
 have hd:((Int.gcd t b:Nat):Int)≠0∧((Int.gcd t b:Nat):Int).natAbs < big:=⟨by omega,Nat.lt_of_lt_of_le (show _ < 10 ^ 60 by omega) (by unfold big; decide)⟩
 refine aD (aP 2 kR.nd ?_)
 refine aM j6 T.abs PyProof.Rows.boot_abs ?_
 refine aA ?_
 refine ge_v 0 rfl ?_
 refine aB ?_
 refine mQ ?_
 refine aD (aP 3 kR.nd ?_)
 refine ge_v 1 rfl ?_
 refine aD (lN (fun m Γ' M'=>M'=M∧∃ x y:Int,Γ'=[some (.int t),some (.int b),some (.int x),some (.int y)]∧0≤x∧0≤y∧Int.gcd x y=Int.gcd t b∧m=y.natAbs) (n:=b.natAbs) ⟨rfl,_,b,rfl,by split <;> omega,by omega,by split <;> simp [Int.gcd_neg,Int.neg_gcd],rfl⟩ ?_)
 rintro m Γ' M' ⟨rfl,x,y,rfl,hx,hy,hgx,rfl⟩
 refine aZ qE ?_
 refine ge_v 3 rfl ?_
 refine aC ?_
 refine o2_B ?_
 refine ⟨_,rfl,?_⟩
 refine ite2 (fun hb1 => ?_) (fun hb1 => ?_)
 ·have hy0:=of_decide_eq_true hb1
  refine aJ (aIA 2 3 kR.nd (by decide) ?_)
  refine aA ?_
  refine ge_v 3 rfl ?_
  refine aA (aH xM ?_)
  refine ge_v 2 rfl ?_
  refine ge_v 3 rfl ?_
  refine o2_C (show y≠0 by omega) (aB ?_)
  refine ⟨_,_,rfl,_,Num.xX x y (by omega),rfl,_,_,rfl,by omega,?_,?_,rfl⟩
  ·rw [Int.fmod_eq_emod_of_nonneg _ (by omega)]; exact Int.emod_nonneg _ (by omega)
  ·rw [Num.uC]; exact hgx
 ·have hy0:y=0:=by
   have:¬ 0 < y:=fun z=>hb1 (decide_eq_true z)
   omega
  subst hy0
  rw [Int.gcd_zero_right] at hgx
  have ex:x=((Int.gcd t b:Nat):Int):=by omega
  rw [ex]
  refine aJ (aN (cB (aA (aH lZ ?_))))
  refine ge_v 0 rfl ?_
  refine ge_v 2 rfl ?_
  refine o2_C hd (aA (aH lZ ?_))
  refine ge_v 1 rfl ?_
  refine ge_v 2 rfl ?_
  refine o2_C hd (aB ⟨(show 2≤sizeLine by decide),?_⟩)
  exact hk
theorem iP:FnScope ["_law_xs", "_law_ys", "_law_signs_here", "_law_paces_here", "_law_time_here", "_law_yard", "_law_told", "_law_y", "_law_x", "_law_due"] ["_law_xs", "_law_ys", "_law_signs_here", "_law_paces_here", "_law_time_here"] (aO nX):=⟨rfl,rfl,rfl,by decide +kernel,rfl,by decide +kernel,by decide +kernel⟩
theorem aCS {f:Addr}{fd:FuncData}{aNK aNL aNM aNN aNO aNP aNQ:Addr}{aNR aNS aNT aNU aNV aNW aNX:FuncData} (Df:R.Df K mg "_law_right" nX ["_law_xs", "_law_ys", "_law_signs_here", "_law_paces_here", "_law_time_here"] f fd)
  (aNY:R.Df K mg "made" pR ["xs", "ys", "rows"] aNK aNR) (aNZ:FnOk P w K mg base CX0 5 aNK aNR ["xs", "ys", "rows"] (spZ K aE1))
  (aN0:R.Df K mg "back" mZ ["yard", "paces", "height"] aNL aNS) (aN1:FnOk P w K mg base CX0 6 aNL aNS ["yard", "paces", "height"] (spZ K zQ))
  (aN2:R.Df K mg "is_yard" kK ["thing"] aNM aNT) (aN3:FnOk P w K mg base CX0 4 aNM aNT ["thing"] (spZ K xU))
  (aN4:R.Df K mg "_law_middles" kM ["_law_lines_here", "_law_one_way", "_law_other_way", "_law_time_here"] aNN aNU) (aN5:FnOk P w K mg base CX0 2 aNN aNU ["_law_lines_here", "_law_one_way", "_law_other_way", "_law_time_here"] (spZ K (vC vs28)))
  (aN6:R.Df K mg "_law_is_reached" iC ["_law_xs", "_law_ys", "_law_signs_here", "_law_paces_here", "_law_point", "_law_time_here"] aNO aNV) (aN7:FnOk P w K mg base CX0 2 aNO aNV ["_law_xs", "_law_ys", "_law_signs_here", "_law_paces_here", "_law_point", "_law_time_here"] (spZ K uA))
  (aN8:R.Df K mg "lies" p3 ["yard", "x", "y"] aNP aNW) (aN9:FnOk P w K mg base CX0 3 aNP aNW ["yard", "x", "y"] (spZ K aB3))
  (aOA:R.Df K mg "_law_number" j9 ["_law_upper", "_law_bottom"] aNQ aNX) (aOB:FnOk P w K mg base CX0 1 aNQ aNX ["_law_upper", "_law_bottom"] (spZ K zG)) (T:Bt mg):FnOk P w K mg base CX0 9 f fd ["_law_xs", "_law_ys", "_law_signs_here", "_law_paces_here", "_law_time_here"] (spZ K wE):=by
 refine bF Df iP (fun ds M k h => ?_) (fun cdv A outer s H E hr ds M k h => ?_)
 ·obtain ⟨xs,ys,zs,e,n,w,s,t,rfl,_⟩:=h; rfl
 obtain ⟨xs,ys,zs,e,n,w,s,t,rfl,ux,uy,lx,ly,gz,hz,o,ht,hk⟩:=h
 have m:=Mk.of ht
 have k0:=aDW ux uy gz hz m
 have bo:=aES m o
 have k1:=k0.back m o
 have r1:=k1.repr m (by unfold far stp; decide +kernel) (by decide)
 have r0:=k0.repr m (by unfold far; decide +kernel) (by decide)
 have td:=ht.d
 have tp:=t.den_pos
 have l1:=k1.lx
 have l2:=k1.ly
 have dw:=aCZ ux.up uy.up gz hz
 have br:=fun {mx my:Int} (px:MidOf xs (vs28 e w) t mx) (py:MidOf ys (vs28 n s) t my)=>uV ux.up uy.up gz hz bo px py
 have gw:=(dG xs ys zs ux.up uy.up gz hz).grow_ws true (bxP e n w s t).w (bxP e n w s t).s (bxP e n w s t).e (bxP e n w s t).n
 refine aD (aP 5 iP.nd ?_)
 refine aG aNZ (hr.mono (by decide)) aNY.m aNY.F.kp aNY.b ?_
 refine aA ?_
 refine bU cT T.list R.BL ?_
 refine aA ?_
 refine ge_v 0 rfl ?_
 refine aB ?_
 refine fY (.lst _) ?_
 refine aA ?_
 refine bU cT T.list R.BL ?_
 refine aA ?_
 refine ge_v 1 rfl ?_
 refine aB ?_
 refine fY (.lst _) ?_
 refine aA ?_
 refine bU cT T.list R.BL ?_
 refine aA ?_
 refine ge_v 2 rfl ?_
 refine aB ?_
 refine fY (.lst _) ?_
 refine aB ?_
 refine ⟨xs,ys,zs,rfl,ux,uy,gz,hz,?_⟩
 rw [vG ux.up uy.up gz hz]
 have hmk:=vG ux.up uy.up gz hz
 generalize dG xs ys zs ux.up uy.up gz hz=A at *
 refine aD (aP 6 iP.nd ?_)
 refine aG aN1 (hr.mono (by decide)) aN0.m aN0.F.kp aN0.b ?_
 refine aA ?_
 refine ge_v 5 rfl ?_
 refine aA ?_
 refine ge_v 3 rfl ?_
 refine aA ?_
 refine ge_v 4 rfl ?_
 refine aB ?_
 refine ⟨_,e,n,w,s,t,rfl,k0.ok m o (by unfold far; decide +kernel) (by decide),?_⟩
 refine aD (bG (gt_w (dH ?_)))
 refine bS ?_
 refine bL ?_
 refine aG aN3 (hr.mono (by decide)) aN2.m aN2.F.kp aN2.b ?_
 refine aA ?_
 refine ge_v 6 rfl ?_
 refine aB ?_
 refine ⟨_,3,rfl,k1.tame m (by unfold far stp; decide +kernel) (by decide),by decide,?_⟩
 rw [aGG]
 refine ⟨_,rfl,?_⟩
 refine iteF (eS (kY (P:=fun c M1=>M1=M∧c=false) (gt_w (lE (aZ (jH (n:=1) (R.cM hr)) ?_))) ?_))
 ·refine ge_v 4 rfl ?_
  refine cB ?_
  refine aA ?_
  refine aC ?_
  refine aA ?_
  refine aC ?_
  refine aB ?_
  refine ⟨(show 2≤sizeLine by decide),?_⟩
  refine jE (e1:=numD t) (e2:=numD 0) (.tup _) (.tup _) rfl rfl ?_
  rw [f8]
  refine ⟨_,rfl,?_⟩
  refine ite2 (fun h1=>jV (aZ (aHR (n:=3) (R.cM hr)) ?_)) (fun h1=>⟨rfl,rfl⟩)
  refine ge_v 6 rfl ?_
  refine ge_v 5 rfl ?_
  refine aJE (e1:=yd _) (e2:=yd _) (.tup _) (.tup _) (jQ _) (jQ _) ?_
  rw [aEV,of_decide_eq_true h1,decide_eq_true (aG8 A e n w s).1]
  exact ⟨_,rfl,rfl,rfl⟩
 rintro c M1 ⟨rfl,rfl⟩
 refine iteF (bC ?_)
 refine aD (fN (bJ ?_))
 refine aG aN5 (hr.mono (by decide)) aN4.m aN4.F.kp aN4.b ?_
 refine aA ?_
 refine ge_v 1 rfl ?_
 refine aA ?_
 refine aI aF ?_
 refine ge_v 3 rfl ?_
 refine aC ?_
 refine aK (.tup _) rfl ?_
 refine aA ?_
 refine aI aF ?_
 refine ge_v 3 rfl ?_
 refine aC ?_
 refine aK (.tup _) rfl ?_
 refine aA ?_
 refine ge_v 4 rfl ?_
 refine aB ?_
 refine ⟨ys,n,s,t,rfl,uy,by omega,o.q,o.s,ht,fun ms M2 hms lms hL2 => ?_⟩
 refine ⟨_, .inr (.inl rfl),?_⟩
 refine ⟨fun i Γ' M'=>(∃ v7 v8 v9,Γ'=[some (.lst (xs.map .int)),some (.lst (ys.map .int)),some (.lst (zs.map .str)),some (iY e n w s),some (numD t),some (yd A),some (yd (A.back (bxP e n w s t))),v7,v8,v9])∧Le M1 M',⟨⟨_,_,_,rfl⟩,hL2⟩,?_,?_⟩
 ·rintro i d Γ' M' hd ⟨⟨v7,v8,v9,rfl⟩,hL⟩
  obtain ⟨my,hmy,rfl⟩:=bP hd
  have py:=hms my (List.mem_of_getElem? hmy)
  refine bT 7 iP.nd ?_
  refine aJ (fN (bJ ?_))
  refine aG aN5 (hr.mono (by decide)) aN4.m aN4.F.kp aN4.b ?_
  refine aA ?_
  refine ge_v 0 rfl ?_
  refine aA ?_
  refine aI aF ?_
  refine ge_v 3 rfl ?_
  refine aC ?_
  refine aK (.tup _) rfl ?_
  refine aA ?_
  refine aI aF ?_
  refine ge_v 3 rfl ?_
  refine aC ?_
  refine aK (.tup _) rfl ?_
  refine aA ?_
  refine ge_v 4 rfl ?_
  refine aB ?_
  refine ⟨xs,e,w,t,rfl,ux,by omega,o.p,o.r,ht,fun ns M3 hns lns hL3 => ?_⟩
  refine ⟨_, .inr (.inl rfl),?_⟩
  refine ⟨fun i Γ' M'=>(∃ v8 v9,Γ'=[some (.lst (xs.map .int)),some (.lst (ys.map .int)),some (.lst (zs.map .str)),some (iY e n w s),some (numD t),some (yd A),some (yd (A.back (bxP e n w s t))),some (.int my),v8,v9])∧Le M1 M',⟨⟨_,_,rfl⟩,hL.trans hL3⟩,?_,?_⟩
  ·rintro i d Γ' M' hd ⟨⟨v8,v9,rfl⟩,hL⟩
   obtain ⟨mx,hmx,rfl⟩:=bP hd
   have px:=hns mx (List.mem_of_getElem? hmx)
   refine bT 8 iP.nd ?_
   refine aD (aP 9 iP.nd ?_)
   refine aI aF ?_
   refine dA ?_
   refine aA ?_
   refine bW ?_
   refine aA ?_
   refine bW ?_
   refine aB ?_
   refine ⟨(show 2≤sizeLine by decide),?_⟩
   refine bU aBG T.int R.BI ?_
   refine aA ?_
   refine aG aN7 (hr.mono (by decide)) aN6.m aN6.F.kp aN6.b ?_
   refine aA ?_
   refine ge_v 0 rfl ?_
   refine aA ?_
   refine ge_v 1 rfl ?_
   refine aA ?_
   refine ge_v 2 rfl ?_
   refine aA ?_
   refine ge_v 3 rfl ?_
   refine aA ?_
   refine cB ?_
   refine aA ?_
   refine ge_v 8 rfl ?_
   refine aA ?_
   refine ge_v 7 rfl ?_
   refine aB ?_
   refine ⟨(show 2≤sizeLine by decide),?_⟩
   refine aA ?_
   refine ge_v 4 rfl ?_
   refine aB ?_
   refine ⟨xs,ys,zs,e,n,w,s,t,mx,my,rfl,ux,uy,gz,hz,o,ht,fun b hb => ?_⟩
   refine aB ?_
   refine aGQ (aK (.lst _) (aCW b) ?_)
   refine aJ (bG ?_)
   refine aZ l9 ?_
   refine aG aN9 (hr.mono (by decide)) aN8.m aN8.F.kp aN8.b ?_
   refine aA ?_
   refine ge_v 6 rfl ?_
   refine aA ?_
   refine aG aOB (hr.mono (by decide)) aOA.m aOA.F.kp aOA.b ?_
   refine aA ?_
   refine ge_v 8 rfl ?_
   refine aA ?_
   refine aH cV ?_
   refine aC ?_
   refine aI aF ?_
   refine ge_v 4 rfl ?_
   refine aC ?_
   refine aK (.tup _) rfl ?_
   refine o2_C (.inl ⟨by decide,by decide⟩) ?_
   refine aB ?_
   refine ⟨mx,2 * (t.den:Int),rfl,by omega,Int.lt_of_le_of_lt (show _≤(2000000:Int) by omega) (by decide +kernel),?_⟩
   rw [lV (show 0 < 2 * (t.den:Int) by omega)]
   refine aA ?_
   refine aG aOB (hr.mono (by decide)) aOA.m aOA.F.kp aOA.b ?_
   refine aA ?_
   refine ge_v 7 rfl ?_
   refine aA ?_
   refine aH cV ?_
   refine aC ?_
   refine aI aF ?_
   refine ge_v 4 rfl ?_
   refine aC ?_
   refine aK (.tup _) rfl ?_
   refine o2_C (.inl ⟨by decide,by decide⟩) ?_
   refine aB ?_
   refine ⟨my,2 * (t.den:Int),rfl,by omega,Int.lt_of_le_of_lt (show _≤(2000000:Int) by omega) (by decide +kernel),?_⟩
   rw [lV (show 0 < 2 * (t.den:Int) by omega)]
   refine aB ?_
   refine ⟨A.back (bxP e n w s t),_,_,rfl,fun q hq=>m.bq (k1.x q hq) (by unfold stp; decide +kernel),fun q hq=>m.bq (k1.y q hq) (by unfold stp; decide +kernel),by omega,by omega,aCD ht px.bd,aCD ht py.bd,?_⟩
   refine ge_v 9 rfl ?_
   refine uT ?_
   refine ⟨_,rfl,?_⟩
   rw [aGB (A:=A.back (bxP e n w s t)) (zR dw.1 px gw.1) (zR dw.2 py gw.2)]
   have hbb:b=(A.back (bxP e n w s t)).has (Rat.divInt mx (2 * (t.den:Int))) (Rat.divInt my (2 * (t.den:Int))):=Bool.eq_iff_iff.mpr (hb.trans (br px py).symm)
   rw [← hbb,decide_eq_true rfl]
   exact iteF (bC ⟨⟨_,_,rfl⟩,hL⟩)
  ·rintro Γ' M' ⟨⟨v8,v9,rfl⟩,hL⟩
   exact ⟨⟨_,_,_,rfl⟩,hL⟩
 rintro Γ' M' ⟨⟨v7,v8,v9,rfl⟩,hL⟩
 refine aJ (aN (lD (fA gI ?_)))
 refine aM (kL (n:=3) (R.cM hr) hr.gd) T.repr BRepr ?_
 refine aA ?_
 refine aG aN1 (hr.mono (by decide)) aN0.m aN0.F.kp aN0.b ?_
 refine aA ?_
 refine ge_v 5 rfl ?_
 refine aA ?_
 refine ge_v 3 rfl ?_
 refine aA ?_
 refine ge_v 4 rfl ?_
 refine aB ?_
 refine ⟨_,e,n,w,s,t,rfl,k0.ok m o (by unfold far; decide +kernel) (by decide),?_⟩
 refine aB ?_
 refine mE (e:=yd (A.back (bxP e n w s t))) (.tup _) (jQ _) r1.1 r1.2 ?_
 refine aM (kL (n:=3) (R.cM hr) hr.gd) T.repr BRepr ?_
 refine aA ?_
 refine ge_v 6 rfl ?_
 refine aB ?_
 refine mE (e:=yd (A.back (bxP e n w s t))) (.tup _) (jQ _) r1.1 r1.2 ?_
 refine lA ?_
 rw [vB rfl]
 refine ⟨_,rfl,iteT (kA (fA gI ?_))⟩
 refine aM (kL (n:=3) (R.cM hr) hr.gd) T.repr BRepr ?_
 refine aA ?_
 refine ge_v 5 rfl ?_
 refine aB ?_
 refine mE (e:=yd (A)) (.tup _) (jQ _) r0.1 r0.2 ?_
 refine aM (kL (n:=3) (R.cM hr) hr.gd) T.repr BRepr ?_
 refine aA ?_
 refine aG aNZ (hr.mono (by decide)) aNY.m aNY.F.kp aNY.b ?_
 refine aA ?_
 refine ge_v 0 rfl ?_
 refine aA ?_
 refine ge_v 1 rfl ?_
 refine aA ?_
 refine ge_v 2 rfl ?_
 refine aB ?_
 refine ⟨xs,ys,zs,rfl,ux,uy,gz,hz,?_⟩
 rw [hmk]
 refine aB ?_
 refine mE (e:=yd (A)) (.tup _) (jQ _) r0.1 r0.2 ?_
 refine lA ?_
 rw [vB rfl]
 exact hk _ hL
theorem aIT:FnScope ["_law_script"] ["_law_script"] (aO sV):=⟨rfl,rfl,rfl,by decide +kernel,rfl,by decide +kernel,by decide +kernel⟩
theorem aIB {f:Addr}{fd:FuncData} (Df:R.Df K mg "_law_pen" sV ["_law_script"] f fd):FnOk P w K mg base CX0 1 f fd ["_law_script"] (spZ K cPen):=by
 refine bF Df aIT (fun ds M k h => ?_) (fun cdv A outer s H E hr ds M k h => ?_)
 ·obtain ⟨ns,rfl,_⟩:=h; rfl
 obtain ⟨ns,rfl,hk⟩:=h
 refine aJ (aN (jY ?_))
 refine aA ?_
 refine ge_v 0 rfl ?_
 refine aA ?_
 refine aC ?_
 refine aA ?_
 refine aC ?_
 refine aB ?_
 refine ⟨(show 3≤sizeLine by decide),fun p hp => ?_⟩
 exact hk p _ hp ((Le.refl _).upd hp) ⟨ns,0,0,aV,by omega,by omega,by omega⟩
theorem iK:FnScope ["_law_pen_here", "_law_many", "_law_digit", "_law_place", "_law_cell", "_law_mixed"] ["_law_pen_here", "_law_many"] (aO i7):=⟨rfl,rfl,rfl,by decide +kernel,rfl,by decide +kernel,by decide +kernel⟩
theorem aHG {f:Addr}{fd:FuncData} (Df:R.Df K mg "_law_draw" i7 ["_law_pen_here", "_law_many"] f fd) (T:Bt mg):FnOk P w K mg base CX0 1 f fd ["_law_pen_here", "_law_many"] (spZ K n9):=by
 refine bF Df iK (fun ds M k h => ?_) (fun cdv A outer s H E hr ds M k h => ?_)
 ·obtain ⟨p,n,b,rfl,_⟩:=h; rfl
 obtain ⟨p,n,b,rfl,hn,hn2,⟨ns,st,g,hM,hs,hs2,hg⟩,hb,hk⟩:=h
 refine aD (bG ?_)
 refine aZ qE ?_
 refine aI aF ?_
 refine ge_v 0 rfl ?_
 refine aC ?_
 refine aK (.mt hM) rfl ?_
 refine aC ?_
 refine o2_B ?_
 refine ⟨_,rfl,?_⟩
 refine ite2 (fun hgt => ?_) (fun hgt=>bC ?_)
 ·refine aD (aP 2 iK.nd ?_)
  refine aH jC ?_
  refine aI aF ?_
  refine ge_v 0 rfl ?_
  refine aC ?_
  refine aK (.mt hM) rfl ?_
  refine ge_v 1 rfl ?_
  refine o2_C (show (0:Int) < _ by first | decide | omega) ?_
  refine aD (jB ?_)
  refine aH qT ?_
  refine aI aF ?_
  refine ge_v 0 rfl ?_
  refine aC ?_
  refine aK (.mt hM) rfl ?_
  refine ge_v 1 rfl ?_
  refine o2_C ⟨hn,hn2⟩ ?_
  refine vF ?_
  refine ge_v 0 rfl ?_
  refine aC ?_
  refine ⟨p,2,2,_,rfl,rfl,hM,rfl,?_⟩
  refine aJ (aN ?_)
  refine ge_v 2 rfl ?_
  exact hk _ _ (Int.emod_nonneg _ (by omega)) (Int.emod_lt_of_pos _ hn) ⟨ns,st,_,aV,hs,by omega,Int.ediv_nonneg hg (by omega)⟩ (ButM.refl p M).upd (fun a ha=>b8 ha)
 refine aD (aP 3 iK.nd ?_)
 refine aI aF ?_
 refine ge_v 0 rfl ?_
 refine aC ?_
 refine aK (.mt hM) rfl ?_
 refine aD (jB ?_)
 refine aH bK ?_
 refine ge_v 3 rfl ?_
 refine aC ?_
 refine o2_0 ?_
 refine vF ?_
 refine ge_v 0 rfl ?_
 refine aC ?_
 refine ⟨p,1,1,_,rfl,rfl,hM,rfl,?_⟩
 refine aD (aP 4 iK.nd ?_)
 refine aC ?_
 refine aD (i4 (fun Γ' M'=>M'=updM M p (.lst [.fl (ns.map .int), .int (st+1), .int g])∧∃ c:Int,Γ'=[some (.mt p),some (.int n),none,some (.int st),some (.int c),none]) ?_ ?_)
 ·refine bG ?_
  refine aZ qE ?_
  refine aM aX T.len PySem.boot_len ?_
  refine aA ?_
  refine aI aF ?_
  refine ge_v 0 rfl ?_
  refine aC ?_
  refine aK (.mt aV) rfl ?_
  refine aB ?_
  refine bQ (.fl _) ?_
  refine aC ?_
  refine o2_B ?_
  refine ⟨_,rfl,?_⟩
  refine ite2 (fun hb1 => ?_) (fun hb1=>bC ⟨rfl,_,rfl⟩)
  have hb':=of_decide_eq_true hb1
  have hb2:(0:Int) < (ns.length:Int):=by rw [List.length_map] at hb'; exact hb'
  obtain ⟨z,hz⟩:=aEC (ns:=ns) (k:=st % (ns.length:Int)) (Int.emod_nonneg _ (by omega)) (Int.emod_lt_of_pos _ hb2)
  refine aJ (aP 4 iK.nd ?_)
  refine aI aF ?_
  refine aI aF ?_
  refine ge_v 0 rfl ?_
  refine aC ?_
  refine aK (.mt aV) rfl ?_
  refine aH jC ?_
  refine ge_v 3 rfl ?_
  refine aM aX T.len PySem.boot_len ?_
  refine aA ?_
  refine aI aF ?_
  refine ge_v 0 rfl ?_
  refine aC ?_
  refine aK (.mt aV) rfl ?_
  refine aB ?_
  refine bQ (.fl _) ?_
  refine o2_C hb' ?_
  refine aK (.fl _) (by rw [List.length_map]; exact hz) ?_
  exact ⟨rfl,_,rfl⟩
 rintro Γ' M' ⟨rfl,c,rfl⟩
 refine aD (bG (kY (P:=fun _ M1=>M1=updM M p (.lst [.fl (ns.map .int), .int (st+1), .int g])) (gt_w (lE ?_)) ?_))
 ·refine aZ eM ?_
  refine ge_v 3 rfl ?_
  refine aM aX T.len PySem.boot_len ?_
  refine aA ?_
  refine aI aF ?_
  refine ge_v 0 rfl ?_
  refine aC ?_
  refine aK (.mt aV) rfl ?_
  refine aB ?_
  refine bQ (.fl _) ?_
  refine o2_B ?_
  refine ⟨_,rfl,?_⟩
  refine ite2 (fun h1=>jV ?_) (fun h1=>rfl)
  refine aZ sR ?_
  refine aM j6 T.abs PyProof.Rows.boot_abs ?_
  refine aA ?_
  refine ge_v 4 rfl ?_
  refine aB ?_
  refine mQ ?_
  refine aH pW ?_
  refine aC ?_
  refine aC ?_
  refine o2_C ⟨by decide,by decide,by decide⟩ ?_
  refine o2_B ?_
  refine ⟨_,rfl,?_⟩
  rfl
 rintro c2 M1 rfl
 refine ite2 (fun hgt => ?_) (fun hgt=>bC ?_)
 ·refine aD (jB ?_)
  refine aH qT ?_
  refine aM j6 T.abs PyProof.Rows.boot_abs ?_
  refine aA ?_
  refine ge_v 4 rfl ?_
  refine aB ?_
  refine mQ ?_
  refine ge_v 1 rfl ?_
  refine o2_C ⟨hn,hn2⟩ ?_
  refine vF ?_
  refine ge_v 0 rfl ?_
  refine aC ?_
  refine ⟨p,2,2,_,rfl,rfl,aV,rfl,?_⟩
  refine aJ (aN ?_)
  refine aH jC ?_
  refine aM j6 T.abs PyProof.Rows.boot_abs ?_
  refine aA ?_
  refine ge_v 4 rfl ?_
  refine aB ?_
  refine mQ ?_
  refine ge_v 1 rfl ?_
  refine o2_C hn ?_
  exact hk _ _ (Int.emod_nonneg _ (by omega)) (Int.emod_lt_of_pos _ hn) ⟨ns,st+1,_,aV,by omega,by omega,Int.ediv_nonneg (by split <;> omega) (by omega)⟩ (ButM.refl p M).upd.upd (fun a ha=>(b8 ha).trans (b8 ha))
 refine aD (aP 5 iK.nd ?_)
 refine aH jC ?_
 refine aH cV ?_
 refine aH bK ?_
 refine aH bK ?_
 refine aH jC ?_
 refine ge_v 4 rfl ?_
 refine aC ?_
 refine o2_C (show (0:Int) < _ by first | decide | omega) ?_
 refine aH cV ?_
 refine aC ?_
 refine ge_v 3 rfl ?_
 refine o2_C (.inl ⟨by decide,by decide⟩) ?_
 refine o2_0 ?_
 refine aC ?_
 refine o2_0 ?_
 refine aC ?_
 refine o2_C (.inr ⟨by decide,by decide⟩) ?_
 refine aC ?_
 refine o2_C (show (0:Int) < _ by first | decide | omega) ?_
 refine aD (aP 5 iK.nd ?_)
 refine aH jC ?_
 refine aH cV ?_
 refine ge_v 5 rfl ?_
 refine aH bK ?_
 refine aH bK ?_
 refine aH jC ?_
 refine ge_v 5 rfl ?_
 refine aC ?_
 refine o2_C (show (0:Int) < _ by first | decide | omega) ?_
 refine aH cV ?_
 refine aC ?_
 refine ge_v 3 rfl ?_
 refine o2_C (.inl ⟨by decide,by decide⟩) ?_
 refine o2_0 ?_
 refine aC ?_
 refine o2_0 ?_
 refine o2_C (.inl (R.aBY _ (by decide) (by decide))) ?_
 refine aC ?_
 refine o2_C (show (0:Int) < _ by first | decide | omega) ?_
 refine aJ (aN ?_)
 refine aH jC ?_
 refine aH qT ?_
 refine ge_v 5 rfl ?_
 refine aC ?_
 refine o2_C ⟨by decide,by decide⟩ ?_
 refine ge_v 1 rfl ?_
 refine o2_C hn ?_
 exact hk _ _ (Int.emod_nonneg _ (by omega)) (Int.emod_lt_of_pos _ hn) ⟨ns,st+1,g,aV,by omega,by omega,hg⟩ (ButM.refl p M).upd (fun a ha=>b8 ha)
theorem lQ:FnScope ["_law_pen_here", "_law_gap", "_law_lines_here", "_law_k"] ["_law_pen_here", "_law_gap"] (aO oD):=⟨rfl,rfl,rfl,by decide +kernel,rfl,by decide +kernel,by decide +kernel⟩
theorem aEE {f:Addr}{fd:FuncData}{aOC:Addr}{aOD:FuncData} (Df:R.Df K mg "_law_lines" oD ["_law_pen_here", "_law_gap"] f fd)
  (aOE:R.Df K mg "_law_draw" i7 ["_law_pen_here", "_law_many"] aOC aOD) (aOF:FnOk P w K mg base CX0 1 aOC aOD ["_law_pen_here", "_law_many"] (spZ K n9)) (T:Bt mg):FnOk P w K mg base CX0 2 f fd ["_law_pen_here", "_law_gap"] (spZ K xR):=by
 refine bF Df lQ (fun ds M k h => ?_) (fun cdv A outer s H E hr ds M k h => ?_)
 ·obtain ⟨p,b,gap,rfl,_⟩:=h; rfl
 obtain ⟨p,b,gap,rfl,hg1,hg2,hF0,hb,hk⟩:=h
 refine aD (aP 2 lQ.nd (jY ?_))
 refine aA ?_
 refine aH bY ?_
 refine aG aOF (hr.mono (by decide)) aOE.m aOE.F.kp aOE.b ?_
 refine aA ?_
 refine ge_v 0 rfl ?_
 refine aA ?_
 refine aC ?_
 refine aB ?_
 refine ⟨p,_,_,rfl,by decide,by decide,hF0,by omega,fun z1 M1 z10 z11 hF1 hB1 hE1 => ?_⟩
 refine aC ?_
 refine o2_0 ?_
 refine aB ?_
 refine ⟨(show 1≤sizeLine by decide),fun a0 ha0 => ?_⟩
 have hap0:a0≠p:=hF1.ne ha0
 have haM0:M a0=none:=hB1.none_of ha0 hap0
 refine aD (i4 (fun Γ' M'=>∃ (a:Addr) (x0:Int),Γ'=[some (.mt p),some (.int gap),some (.mt a),none]∧M' a=some (.lst [.int x0])∧a≠p∧M a=none ∧ -100000000≤x0∧x0≤100000000∧PnM M' p (b+2)∧ButM p M M') ?_ ?_)
 ·refine bG ?_
  refine aZ qE ?_
  refine ge_v 1 rfl ?_
  refine aC ?_
  refine o2_B ?_
  refine ⟨_,rfl,?_⟩
  refine ite2 (fun h1 => ?_) (fun h1=>bC ⟨a0,_,rfl,aV,hap0,haM0,by omega,by omega,(hF1.new hap0).mono (by omega),hB1.new haM0⟩)
  refine aJ (aP 2 lQ.nd (jY ?_))
  refine aA ?_
  refine aH bY ?_
  refine aG aOF (hr.mono (by decide)) aOE.m aOE.F.kp aOE.b ?_
  refine aA ?_
  refine ge_v 0 rfl ?_
  refine aA ?_
  refine aH cV ?_
  refine aC ?_
  refine aH pW ?_
  refine aC ?_
  refine aC ?_
  refine o2_C ⟨by decide,by decide,by decide⟩ ?_
  refine o2_C (.inl ⟨by decide,by decide⟩) ?_
  refine aB ?_
  refine ⟨p,_,_,rfl,by decide,by decide,(hF1.new hap0),by omega,fun z2 M2 z20 z21 hF2 hB2 hE2 => ?_⟩
  refine aH pW ?_
  refine aC ?_
  refine aC ?_
  refine o2_C ⟨by decide,by decide,by decide⟩ ?_
  refine o2_0 ?_
  refine aB ?_
  refine ⟨(show 1≤sizeLine by decide),fun a ha => ?_⟩
  have hap:a≠p:=hF2.ne ha
  have hB12:=(hB1.new (o := .lst [.int (z1 - 20)]) haM0).trans hB2
  have haM:M a=none:=hB12.none_of ha hap
  have z21':z2 < 200000000:=z21
  exact ⟨a,z2 - 100000000,rfl,aV,hap,haM,by omega,by omega,(hF2.new hap).mono (by omega),hB12.new haM⟩
 rintro Γ' M2 ⟨a,x0,rfl,hM2,hap,haM,x00,x01,hF2,hB12⟩
 refine aD (fN (jD T.range ?_))
 refine aA ?_
 refine aH bK ?_
 refine aC ?_
 refine aG aOF (hr.mono (by decide)) aOE.m aOE.F.kp aOE.b ?_
 refine aA ?_
 refine ge_v 0 rfl ?_
 refine aA ?_
 refine aC ?_
 refine aB ?_
 refine ⟨p,_,_,rfl,by decide,by decide,hF2,by omega,fun z3 M3 z30 z31 hF3 hB3 hE3 => ?_⟩
 refine o2_0 ?_
 refine aB ?_
 refine ⟨_,rfl,by omega,by omega,?_⟩
 obtain ⟨n3,hn3⟩:∃ n3:Nat,1+z3=(n3:Int):=⟨(1+z3).toNat,by omega⟩
 rw [hn3,Int.toNat_natCast]
 refine ⟨fun i Γ' M'=>∃ (xs:List Int) (v3:Option D),Γ'=[some (.mt p),some (.int gap),some (.mt a),v3]∧M' a=some (.lst (xs.map .int))∧PnM M' p (b+3+i)∧ButM p M M'∧xs.length=i+1∧xs.Pairwise (· < ·)∧∀ x∈xs, -100000000≤x∧x≤100000000+100000001 * i,
  ⟨[x0],_,rfl,(hE3 a hap).trans hM2,hF3.mono (by omega),hB12.trans hB3,rfl,List.pairwise_singleton _ _,fun x hx=>by rw [List.mem_singleton] at hx; omega⟩,?_,?_⟩
 ·rintro i d Γ' M' hd ⟨xs,v3,rfl,hM,hF,hB,hl,hp,hbd⟩
  obtain ⟨hi,rfl⟩:=eA hd
  obtain ⟨xr,xl,rfl⟩:=wY (l:=xs) (fun e=>by rw [e] at hl; simp at hl)
  have hxl:=hbd xl (by simp)
  refine bT 3 lQ.nd ?_
  refine aJ (n5 ?_)
  refine i0 PySem.F.plainAttrs_list PySem.F.slot_list_append PySem.F.type_list_append gZ ?_
  refine ge_v 2 rfl ?_
  refine ⟨⟨rfl,_,hM⟩,?_⟩
  refine aA ?_
  refine aH bK ?_
  refine aH bK ?_
  refine aI aF ?_
  refine ge_v 2 rfl ?_
  refine kS i9 ?_
  refine aC ?_
  refine ⟨_,rfl,?_⟩
  refine aK (.mt hM) (by rw [List.map_append]; exact uM _ _) ?_
  refine aC ?_
  refine o2_0 ?_
  refine aG aOF (hr.mono (by decide)) aOE.m aOE.F.kp aOE.b ?_
  refine aA ?_
  refine ge_v 0 rfl ?_
  refine aA ?_
  refine ge_v 1 rfl ?_
  refine aB ?_
  refine ⟨p,gap,_,rfl,by omega,by omega,hF,by omega,fun z4 M4 z40 z41 hF4 hB4 hE4 => ?_⟩
  refine o2_0 ?_
  refine aB ?_
  refine kJ ((hE4 a hap).trans hM) (by rw [List.length_map,hl]; exact Nat.lt_of_le_of_lt (show i+1≤20 by omega) (by decide)) ?_
  refine ⟨xr++[xl]++[xl+1+z4],_,rfl,by rw [aV]; simp,(hF4.new hap).mono (by omega),(hB.trans hB4).new haM,by rw [List.length_append,hl]; rfl,?_,fun x hx => ?_⟩
  ·rw [List.pairwise_append]
   refine ⟨hp,List.pairwise_singleton _ _,fun x hx y hy => ?_⟩
   rw [List.mem_singleton] at hy
   have hx2:x≤xl:=by
    rcases List.mem_append.mp hx with hx | hx
    ·exact Int.le_of_lt ((List.pairwise_append.mp hp).2.2 x hx xl (by simp))
    ·rw [List.mem_singleton] at hx; omega
   omega
  ·rcases List.mem_append.mp hx with hx | hx
   ·have:=hbd x hx; omega
   ·rw [List.mem_singleton] at hx; omega
 ·rintro Γ' M' ⟨xs,v3,rfl,hM,hF,hB,hl,hp,hbd⟩
  rw [b4] at hl hF hbd
  refine i6 2 rfl hM ?_
  refine aJ (aN ?_)
  refine ge_v 2 rfl ?_
  exact hk xs _ ⟨hp,by omega,fun x hx=>by have:=hbd x hx; omega⟩ (by omega) ((hF.del hap).mono (by omega)) (hB.del haM)
theorem uR:FnScope ["_law_pen_here", "_law_xs", "_law_ys", "_law_menu"] ["_law_pen_here", "_law_xs", "_law_ys"] (aO n4):=⟨rfl,rfl,rfl,by decide +kernel,rfl,by decide +kernel,by decide +kernel⟩
theorem aEH {f:Addr}{fd:FuncData}{aOC:Addr}{aOD:FuncData} (Df:R.Df K mg "_law_signs" n4 ["_law_pen_here", "_law_xs", "_law_ys"] f fd)
  (aOE:R.Df K mg "_law_draw" i7 ["_law_pen_here", "_law_many"] aOC aOD) (aOF:FnOk P w K mg base CX0 1 aOC aOD ["_law_pen_here", "_law_many"] (spZ K n9)) (T:Bt mg):FnOk P w K mg base CX0 2 f fd ["_law_pen_here", "_law_xs", "_law_ys"] (spZ K xL):=by
 refine bF Df uR (fun ds M k h => ?_) (fun cdv A outer s H E hr ds M k h => ?_)
 ·obtain ⟨p,b,xs,ys,rfl,_⟩:=h; rfl
 obtain ⟨p,b,xs,ys,rfl,hF0,hb,l2x,l2y,fx,fy,hk⟩:=h
 refine aD (aP 3 uR.nd ?_)
 refine aI aF ?_
 refine dA ?_
 refine aA ?_
 refine bW ?_
 refine aA ?_
 refine bW ?_
 refine aA ?_
 refine bW ?_
 refine aA ?_
 refine bW ?_
 refine aA ?_
 refine bW ?_
 refine aB ?_
 refine ⟨(show 5≤sizeLine by decide),?_⟩
 refine aG aOF (hr.mono (by decide)) aOE.m aOE.F.kp aOE.b ?_
 refine aA ?_
 refine ge_v 0 rfl ?_
 refine aA ?_
 refine aC ?_
 refine aB ?_
 refine ⟨p,_,_,rfl,by decide,by decide,hF0,by omega,fun z1 M1 z10 z11 hF1 hB1 hE1 => ?_⟩
 obtain ⟨mn,hmn,mn1,mn2,mn3⟩:=aAM z10 z11
 refine aK (.lst _) hmn ?_
 have lx:(cutD (xs.map D.int) (some 1) none).length=xs.length - 1:=by rw [l6,List.length_map]
 have ly:(cutD (ys.map D.int) (some 1) none).length=ys.length - 1:=by rw [l6,List.length_map]
 refine aJ (aN (a9 ["_law_pen_here", "_law_xs", "_law_menu"] [0,1,3] (bJ ?_)))
 refine cZ f7 ?_
 refine ge_v 2 rfl ?_
 refine dM ?_
 refine aC ?_
 refine ⟨_,rfl,?_⟩
 refine dN ?_
 refine iE (.lst _) ?_
 refine ⟨_, .inr (.inl rfl),?_⟩
 refine b6 (by rw [ly]; exact R.aU (by omega)) (fun i acc M'=>∃ zs:List Str,acc=zs.map D.str∧PnM M' p (b+1+20 * i)∧ButM p M M'∧zs.length=i∧R.Good (xs.length - 1) zs) ⟨[],rfl,hF1.mono (by omega),hB1,rfl,fun z hz=>(nomatch hz)⟩ ?_ ?_
 ·rintro i d acc M' hd ⟨zs,rfl,hF,hB,hl,hgd⟩ cs C s₀ H₀ fp
  have hi:i < ys.length - 1:=by rw [← ly]; exact (List.getElem?_eq_some_iff.mp hd).1
  refine bD (iteT fun cs C s₀ H₀ fp => ?_)
  refine i0 PySem.F.plainAttrs_str PySem.F.slot_str_join PySem.F.type_str_join oQ (bW ⟨rfl,aA (a9 ["_law_pen_here", "_law_menu"] [1,3] (bJ ?_))⟩)
  refine cZ f7 ?_
  refine ge_v 2 rfl ?_
  refine dM ?_
  refine aC ?_
  refine ⟨_,rfl,?_⟩
  refine dN ?_
  refine iE (.lst _) ?_
  refine ⟨_, .inr (.inl rfl),?_⟩
  refine b6 (by rw [lx]; exact R.aU (by omega)) (fun i2 acc M2=>∃ cs:List Nat,acc=(cs.map fun c=>(⟨#[c]⟩:Str)).map D.str∧(∀ c∈cs,c=35∨c=46)∧cs.length=i2∧PnM M2 p (b+1+20 * i+i2)∧ButM p M M2)
   ⟨[],rfl,fun c hc=>(nomatch hc),rfl,hF.mono (by omega),hB⟩ ?_ ?_
  ·rintro i2 d2 acc M2 hd2 ⟨cs,rfl,hcs,hl2,hF2,hB2⟩ cs' C s₀ H₀ fp
   have hi2:i2 < xs.length - 1:=by rw [← lx]; exact (List.getElem?_eq_some_iff.mp hd2).1
   refine bD (iteT fun cs' C s₀ H₀ fp => ?_)
   refine aI aF ?_
   refine ge_v 2 rfl ?_
   refine aG aOF (hr.mono (by decide)) aOE.m aOE.F.kp aOE.b ?_
   refine aA ?_
   refine ge_v 1 rfl ?_
   refine aA ?_
   refine aM aX T.len PySem.boot_len ?_
   refine aA ?_
   refine ge_v 2 rfl ?_
   refine aB ?_
   refine gU (R.aU (by omega)) ?_
   refine aB ?_
   refine ⟨p,_,_,rfl,by omega,by omega,hF2,by omega,fun z3 M3 z30 z31 hF3 hB3 hE3 => ?_⟩
   obtain ⟨j3,rfl⟩:∃ j3:Nat,z3=j3:=⟨z3.toNat,by omega⟩
   refine k9 (R.aU (by omega)) (R.mS (by omega)) ?_
   refine ⟨cs++[_],by rw [List.map_append,List.map_append]; rfl,fun q hq => ?_,by rw [List.length_append,hl2]; rfl,hF3.mono (by omega),hB2.trans hB3⟩
   rcases List.mem_append.mp hq with hq | hq
   ·exact hcs q hq
   ·rw [List.mem_singleton] at hq
    rw [hq]
    exact aF1 mn3 (by omega)
  ·rintro acc M2 ⟨cs,rfl,hcs,hl2,hF2,hB2⟩
   rw [lx] at hl2 hF2
   refine aB (oS (.lst _) (by decide +kernel) (by rw [aGT,List.length_map]; omega) ?_)
   rw [R.kH,R.qU]
   exact ⟨zs++[R.ofL cs],by rw [List.map_append]; rfl,hF2.mono (by omega),hB2,by rw [List.length_append,hl]; rfl,aBB hgd hl2 hcs⟩
 rintro acc M2 ⟨zs,rfl,hF,hB,hl,hgd⟩
 rw [ly] at hl hF
 exact hk zs _ hgd hl (hF.mono (by omega)) hB
theorem tG:FnScope ["_law_pen_here", "_law_one"] ["_law_pen_here"] (aO oC):=⟨rfl,rfl,rfl,by decide +kernel,rfl,by decide +kernel,by decide +kernel⟩
theorem aDD {f:Addr}{fd:FuncData}{aOC:Addr}{aOD:FuncData} (Df:R.Df K mg "_law_paces" oC ["_law_pen_here"] f fd)
  (aOE:R.Df K mg "_law_draw" i7 ["_law_pen_here", "_law_many"] aOC aOD) (aOF:FnOk P w K mg base CX0 1 aOC aOD ["_law_pen_here", "_law_many"] (spZ K n9)):FnOk P w K mg base CX0 2 f fd ["_law_pen_here"] (spZ K aCP):=by
 refine bF Df tG (fun ds M k h => ?_) (fun cdv A outer s H E hr ds M k h => ?_)
 ·obtain ⟨p,b,rfl,_⟩:=h; rfl
 obtain ⟨p,b,rfl,hF0,hb,hk⟩:=h
 refine aD (aP 1 tG.nd ?_)
 refine aH bK ?_
 refine aC ?_
 refine aG aOF (hr.mono (by decide)) aOE.m aOE.F.kp aOE.b ?_
 refine aA ?_
 refine ge_v 0 rfl ?_
 refine aA ?_
 refine aC ?_
 refine aB ?_
 refine ⟨p,_,_,rfl,by decide,by decide,hF0,by omega,fun z1 M1 z10 z11 hF1 hB1 hE1 => ?_⟩
 refine o2_0 ?_
 refine aD (bG ?_)
 refine aZ gI ?_
 refine aG aOF (hr.mono (by decide)) aOE.m aOE.F.kp aOE.b ?_
 refine aA ?_
 refine ge_v 0 rfl ?_
 refine aA ?_
 refine aC ?_
 refine aB ?_
 refine ⟨p,_,_,rfl,by decide,by decide,hF1,by omega,fun z2 M2 z20 z21 hF2 hB2 hE2 => ?_⟩
 refine aC ?_
 refine lG ?_
 refine ⟨_,rfl,?_⟩
 refine ite2 (fun h1 => ?_) (fun h1=>bC ?_)
 ·refine aJ (aN ?_)
  refine cB ?_
  refine aA ?_
  refine ge_v 1 rfl ?_
  refine aA ?_
  refine ge_v 1 rfl ?_
  refine aA ?_
  refine ge_v 1 rfl ?_
  refine aA ?_
  refine ge_v 1 rfl ?_
  refine aB ?_
  refine ⟨(show 4≤sizeLine by decide),?_⟩
  exact hk _ _ _ _ _ ⟨by omega,by omega⟩ ⟨by omega,by omega⟩ ⟨by omega,by omega⟩ ⟨by omega,by omega⟩ (hF2.mono (by omega)) (hB1.trans hB2)
 refine aJ (aN ?_)
 refine cB ?_
 refine aA ?_
 refine ge_v 1 rfl ?_
 refine aA ?_
 refine aH bK ?_
 refine aC ?_
 refine aG aOF (hr.mono (by decide)) aOE.m aOE.F.kp aOE.b ?_
 refine aA ?_
 refine ge_v 0 rfl ?_
 refine aA ?_
 refine aC ?_
 refine aB ?_
 refine ⟨p,_,_,rfl,by decide,by decide,hF2,by omega,fun z3 M3 z30 z31 hF3 hB3 hE3 => ?_⟩
 refine o2_0 ?_
 refine aA ?_
 refine aH bK ?_
 refine aC ?_
 refine aG aOF (hr.mono (by decide)) aOE.m aOE.F.kp aOE.b ?_
 refine aA ?_
 refine ge_v 0 rfl ?_
 refine aA ?_
 refine aC ?_
 refine aB ?_
 refine ⟨p,_,_,rfl,by decide,by decide,hF3,by omega,fun z4 M4 z40 z41 hF4 hB4 hE4 => ?_⟩
 refine o2_0 ?_
 refine aA ?_
 refine aH bK ?_
 refine aC ?_
 refine aG aOF (hr.mono (by decide)) aOE.m aOE.F.kp aOE.b ?_
 refine aA ?_
 refine ge_v 0 rfl ?_
 refine aA ?_
 refine aC ?_
 refine aB ?_
 refine ⟨p,_,_,rfl,by decide,by decide,hF4,by omega,fun z5 M5 z50 z51 hF5 hB5 hE5 => ?_⟩
 refine o2_0 ?_
 refine aB ?_
 refine ⟨(show 4≤sizeLine by decide),?_⟩
 exact hk _ _ _ _ _ ⟨by omega,by omega⟩ ⟨by omega,by omega⟩ ⟨by omega,by omega⟩ ⟨by omega,by omega⟩ (hF5.mono (by omega)) ((((hB1.trans hB2).trans hB3).trans hB4).trans hB5)
theorem gX:FnScope ["_law_pen_here", "_law_xs", "_law_ys", "_law_paces_here", "_law_lines_here", "_law_one", "_law_other", "_law_first", "_law_last", "_law_meeting", "_law_way"] ["_law_pen_here", "_law_xs", "_law_ys", "_law_paces_here"] (aO pT):=⟨rfl,rfl,rfl,by decide +kernel,rfl,by decide +kernel,by decide +kernel⟩
theorem aGH {f:Addr}{fd:FuncData}{aOC aNQ:Addr}{aOD aNX:FuncData} (Df:R.Df K mg "_law_time" pT ["_law_pen_here", "_law_xs", "_law_ys", "_law_paces_here"] f fd)
  (aOE:R.Df K mg "_law_draw" i7 ["_law_pen_here", "_law_many"] aOC aOD) (aOF:FnOk P w K mg base CX0 1 aOC aOD ["_law_pen_here", "_law_many"] (spZ K n9))
  (aOA:R.Df K mg "_law_number" j9 ["_law_upper", "_law_bottom"] aNQ aNX) (aOB:FnOk P w K mg base CX0 1 aNQ aNX ["_law_upper", "_law_bottom"] (spZ K zG)) (T:Bt mg):FnOk P w K mg base CX0 3 f fd ["_law_pen_here", "_law_xs", "_law_ys", "_law_paces_here"] (spZ K aET):=by
 refine bF Df gX (fun ds M k h => ?_) (fun cdv A outer s H E hr ds M k h => ?_)
 ·obtain ⟨p,b,xs,ys,e,n,w,s,rfl,_⟩:=h; rfl
 obtain ⟨p,b,xs,ys,e,n,w,s,rfl,hF0,hb,ux,lx,uy,ly,he,hn,hw,hs,hk⟩:=h
 refine aD (jB ?_)
 refine aI aF ?_
 refine dA ?_
 refine aA ?_
 refine cB ?_
 refine aA ?_
 refine ge_v 1 rfl ?_
 refine aA ?_
 refine aI aF ?_
 refine ge_v 3 rfl ?_
 refine aC ?_
 refine aK (.tup _) rfl ?_
 refine aA ?_
 refine aI aF ?_
 refine ge_v 3 rfl ?_
 refine aC ?_
 refine aK (.tup _) rfl ?_
 refine aB ?_
 refine ⟨(show 3≤sizeLine by decide),?_⟩
 refine aA ?_
 refine cB ?_
 refine aA ?_
 refine ge_v 2 rfl ?_
 refine aA ?_
 refine aI aF ?_
 refine ge_v 3 rfl ?_
 refine aC ?_
 refine aK (.tup _) rfl ?_
 refine aA ?_
 refine aI aF ?_
 refine ge_v 3 rfl ?_
 refine aC ?_
 refine aK (.tup _) rfl ?_
 refine aB ?_
 refine ⟨(show 3≤sizeLine by decide),?_⟩
 refine aB ?_
 refine ⟨(show 2≤sizeLine by decide),?_⟩
 refine aG aOF (hr.mono (by decide)) aOE.m aOE.F.kp aOE.b ?_
 refine aA ?_
 refine ge_v 0 rfl ?_
 refine aA ?_
 refine aC ?_
 refine aB ?_
 refine ⟨p,_,_,rfl,by decide,by decide,hF0,by omega,fun z1 M1 z10 z11 hF1 hB1 hE1 => ?_⟩
 obtain ⟨ls,o1,o2,hat,ul,ll,ho1,ho2⟩:=aDU ux lx uy ly he hn hw hs z10 z11
 refine aK (.lst _) hat ?_
 have fl:=ul.few
 obtain ⟨a1,a2⟩:=ho1
 obtain ⟨b1,b2⟩:=ho2
 refine qH rfl (cX (bT 4 gX.nd (cX (bT 5 gX.nd (cX (bT 6 gX.nd (k8 ?_)))))))
 refine aD (aP 7 gX.nd ?_)
 refine aG aOF (hr.mono (by decide)) aOE.m aOE.F.kp aOE.b ?_
 refine aA ?_
 refine ge_v 0 rfl ?_
 refine aA ?_
 refine aH bY ?_
 refine aM aX T.len PySem.boot_len ?_
 refine aA ?_
 refine ge_v 4 rfl ?_
 refine aB ?_
 refine bQ (.lst _) ?_
 refine aC ?_
 refine o2_0 ?_
 refine aB ?_
 refine ⟨p,_,_,rfl,by rw [List.length_map]; omega,by rw [List.length_map]; omega,hF1,by omega,fun z2 M2 z20 z21 hF2 hB2 hE2 => ?_⟩
 rw [List.length_map] at z21
 refine aD (aP 8 gX.nd ?_)
 refine aH bK ?_
 refine aH bK ?_
 refine ge_v 7 rfl ?_
 refine aC ?_
 refine o2_0 ?_
 refine aG aOF (hr.mono (by decide)) aOE.m aOE.F.kp aOE.b ?_
 refine aA ?_
 refine ge_v 0 rfl ?_
 refine aA ?_
 refine aH bY ?_
 refine aH bY ?_
 refine aM aX T.len PySem.boot_len ?_
 refine aA ?_
 refine ge_v 4 rfl ?_
 refine aB ?_
 refine bQ (.lst _) ?_
 refine aC ?_
 refine o2_0 ?_
 refine ge_v 7 rfl ?_
 refine o2_0 ?_
 refine aB ?_
 refine ⟨p,_,_,rfl,by rw [List.length_map]; omega,by rw [List.length_map]; omega,hF2,by omega,fun z3 M3 z30 z31 hF3 hB3 hE3 => ?_⟩
 refine o2_0 ?_
 rw [List.length_map] at z31
 obtain ⟨x,hx,hxa⟩:=qR (xs:=ls) (i:=z2) z20 (by omega)
 obtain ⟨y,hy,hya⟩:=qR (xs:=ls) (i:=z2+1+z3) (by omega) (by omega)
 obtain ⟨d0,d1⟩:=aG4 ul z20 (by omega) hx hy
 refine aD (aP 9 gX.nd ?_)
 refine aG aOB (hr.mono (by decide)) aOA.m aOA.F.kp aOA.b ?_
 refine aA ?_
 refine aH bY ?_
 refine aI aF ?_
 refine ge_v 4 rfl ?_
 refine ge_v 8 rfl ?_
 refine aK (.lst _) hya ?_
 refine aI aF ?_
 refine ge_v 4 rfl ?_
 refine ge_v 7 rfl ?_
 refine aK (.lst _) hxa ?_
 refine o2_0 ?_
 refine aA ?_
 refine aH bK ?_
 refine ge_v 5 rfl ?_
 refine ge_v 6 rfl ?_
 refine o2_0 ?_
 refine aB ?_
 refine ⟨_,_,rfl,by omega,Int.lt_of_lt_of_le (show _ < (20:Int) by omega) (by decide),?_⟩
 rw [lV (by omega)]
 obtain ⟨q1,q2⟩:=tZ (a:=y - x) (b:=o1+o2) (by omega)
 have q3:=aBM (a:=y - x) (b:=o1+o2) d0 (by omega)
 have tq:=vD (a:=y - x) (b:=o1+o2) d0 (by omega) (by omega) (by omega)
 generalize Rat.divInt (y - x) (o1+o2)=q at *
 have q4:0≤q.num:=Rat.num_nonneg.mpr q3
 have q5:0 < (q.den:Int):=by have:=q.den_pos; omega
 have hB123:=(hB1.trans hB2).trans hB3
 refine aD (aP 10 gX.nd ?_)
 refine aG aOF (hr.mono (by decide)) aOE.m aOE.F.kp aOE.b ?_
 refine aA ?_
 refine ge_v 0 rfl ?_
 refine aA ?_
 refine aC ?_
 refine aB ?_
 refine ⟨p,_,_,rfl,by decide,by decide,hF3,by omega,fun z4 M4 z40 z41 hF4 hB4 hE4 => ?_⟩
 have hB1234:=hB123.trans hB4
 refine aD (bG ?_)
 refine aZ gI ?_
 refine ge_v 10 rfl ?_
 refine aC ?_
 refine lG ?_
 refine ⟨_,rfl,?_⟩
 refine ite2 (fun h1 => ?_) (fun h1=>bC ?_)
 ·refine aJ (aN ?_)
  refine cB ?_
  refine aA ?_
  refine aC ?_
  refine aA ?_
  refine aC ?_
  refine aB ?_
  refine ⟨(show 2≤sizeLine by decide),?_⟩
  exact hk 0 _ tm0 (hF4.mono (by omega)) hB1234
 refine aD (bG ?_)
 refine aZ eM ?_
 refine ge_v 10 rfl ?_
 refine aC ?_
 refine o2_B ?_
 refine ⟨_,rfl,?_⟩
 refine ite2 (fun h2 => ?_) (fun h2=>bC ?_)
 ·refine aJ (aN ?_)
  refine ge_v 9 rfl ?_
  exact hk q _ tq (hF4.mono (by omega)) hB1234
 refine aJ (aN ?_)
 refine aG aOB (hr.mono (by decide)) aOA.m aOA.F.kp aOA.b (aA (aH cV ?_))
 refine aI aF ?_
 refine ge_v 9 rfl ?_
 refine aC ?_
 refine aK (.tup _) rfl ?_
 refine aH bK ?_
 refine aC ?_
 refine aG aOF (hr.mono (by decide)) aOE.m aOE.F.kp aOE.b ?_
 refine aA ?_
 refine ge_v 0 rfl ?_
 refine aA ?_
 refine aC ?_
 refine aB ?_
 refine ⟨p,_,_,rfl,by decide,by decide,hF4,by omega,fun z5 M5 z50 z51 hF5 hB5 hE5 => ?_⟩
 refine o2_0 ?_
 refine o2_C (.inr ⟨by omega,by omega⟩) (aA (aH cV ?_))
 refine aI aF ?_
 refine ge_v 9 rfl ?_
 refine aC ?_
 refine aK (.tup _) rfl ?_
 refine aH bK ?_
 refine aC ?_
 refine aH cV ?_
 refine aG aOF (hr.mono (by decide)) aOE.m aOE.F.kp aOE.b ?_
 refine aA ?_
 refine ge_v 0 rfl ?_
 refine aA ?_
 refine aC ?_
 refine aB ?_
 refine ⟨p,_,_,rfl,by decide,by decide,hF5,by omega,fun z6 M6 z60 z61 hF6 hB6 hE6 => ?_⟩
 refine ge_v 10 rfl ?_
 refine o2_C (.inl ⟨by omega,by omega⟩) ?_
 refine o2_0 ?_
 refine o2_C (.inl ⟨by show _ < (q.den:Int); omega,by show (q.den:Int) < _; omega⟩) (aB ?_)
 have w1:0≤z6 * z4:=Int.mul_nonneg z60 z40
 have w2:z6 * z4≤50 * 5:=Int.le_trans (Int.mul_le_mul_of_nonneg_right (show z6≤50 by omega) z40) (Int.mul_le_mul_of_nonneg_left (show z4≤5 by omega) (by decide))
 have w3:0 < (q.den:Int) * (12+z6 * z4):=Int.mul_pos q5 (by omega)
 have w4:(q.den:Int) * (12+z6 * z4)≤18 * 300:=Int.le_trans (Int.mul_le_mul_of_nonneg_right (show (q.den:Int)≤18 by omega) (by omega)) (Int.mul_le_mul_of_nonneg_left (by omega) (by decide))
 have w5:0≤q.num * (1+z5):=Int.mul_nonneg q4 (by omega)
 have w6:q.num * (1+z5)≤2000000000 * 23:=Int.le_trans (Int.mul_le_mul_of_nonneg_right (show q.num≤2000000000 by omega) (by omega)) (Int.mul_le_mul_of_nonneg_left (by omega) (by decide))
 refine ⟨_,_,rfl,w3,Int.lt_of_le_of_lt w4 (by decide),?_⟩
 rw [show bN (lowG ((pq q).1 * (1+z5)) ((pq q).2 * (12+z6 * z4)))=numD (Rat.divInt (q.num * (1+z5)) ((q.den:Int) * (12+z6 * z4))) from lV w3]
 exact hk _ _ (vD w5 (Int.le_trans w6 (by decide)) w3 (Int.le_trans w4 (by decide))) (hF6.mono (by omega)) ((hB1234.trans hB5).trans hB6)
theorem jF:FnScope ["_law_script", "_law_pen_here", "_law_gap", "_law_xs", "_law_ys", "_law_signs_here", "_law_paces_here", "_law_k"] ["_law_script"] (aO n6):=⟨rfl,rfl,rfl,by decide +kernel,rfl,by decide +kernel,by decide +kernel⟩
theorem aI4 {f:Addr}{fd:FuncData}{aOG aOC aOH aOI aOJ aOK aOL aNL:Addr}{aOM aOD aON aOO aOP aOQ aOR aNS:FuncData} (Df:R.Df K mg "law" n6 ["_law_script"] f fd)
  (aOS:R.Df K mg "_law_pen" sV ["_law_script"] aOG aOM) (aOT:FnOk P w K mg base CX0 1 aOG aOM ["_law_script"] (spZ K cPen))
  (aOE:R.Df K mg "_law_draw" i7 ["_law_pen_here", "_law_many"] aOC aOD) (aOF:FnOk P w K mg base CX0 1 aOC aOD ["_law_pen_here", "_law_many"] (spZ K n9))
  (aOU:R.Df K mg "_law_lines" oD ["_law_pen_here", "_law_gap"] aOH aON) (aOV:FnOk P w K mg base CX0 2 aOH aON ["_law_pen_here", "_law_gap"] (spZ K xR))
  (aOW:R.Df K mg "_law_signs" n4 ["_law_pen_here", "_law_xs", "_law_ys"] aOI aOO) (aOX:FnOk P w K mg base CX0 2 aOI aOO ["_law_pen_here", "_law_xs", "_law_ys"] (spZ K xL))
  (aOY:R.Df K mg "_law_paces" oC ["_law_pen_here"] aOJ aOP) (aOZ:FnOk P w K mg base CX0 2 aOJ aOP ["_law_pen_here"] (spZ K aCP))
  (aO0:R.Df K mg "_law_time" pT ["_law_pen_here", "_law_xs", "_law_ys", "_law_paces_here"] aOK aOQ) (aO1:FnOk P w K mg base CX0 3 aOK aOQ ["_law_pen_here", "_law_xs", "_law_ys", "_law_paces_here"] (spZ K aET))
  (aO2:R.Df K mg "_law_right" nX ["_law_xs", "_law_ys", "_law_signs_here", "_law_paces_here", "_law_time_here"] aOL aOR) (aO3:FnOk P w K mg base CX0 9 aOL aOR ["_law_xs", "_law_ys", "_law_signs_here", "_law_paces_here", "_law_time_here"] (spZ K wE))
  (aN0:R.Df K mg "back" mZ ["yard", "paces", "height"] aNL aNS) (aN1:FnOk P w K mg base CX0 6 aNL aNS ["yard", "paces", "height"] (spZ K zQ)) (T:Bt mg):FnOk P w K mg base CX0 10 f fd ["_law_script"] (spZ K cLaw):=by
 refine bF Df jF (fun ds M k h => ?_) (fun cdv A outer s H E hr ds M k h => ?_)
 ·obtain ⟨ns,rfl,_⟩:=h; rfl
 obtain ⟨ns,rfl,hns,hk⟩:=h
 refine aD (aP 1 jF.nd ?_)
 refine aG aOT (hr.mono (by decide)) aOS.m aOS.F.kp aOS.b ?_
 refine aA ?_
 refine ge_v 0 rfl ?_
 refine aB ?_
 refine ⟨ns,rfl,fun p M0 hp hL hF0 => ?_⟩
 refine aD (aP 2 jF.nd ?_)
 refine aI aF ?_
 refine dA ?_
 refine aA ?_
 refine aC ?_
 refine aA ?_
 refine aC ?_
 refine aA ?_
 refine aH pW ?_
 refine aC ?_
 refine aC ?_
 refine o2_C ⟨by decide,by decide,by decide⟩ ?_
 refine aB ?_
 refine ⟨(show 3≤sizeLine by decide),?_⟩
 refine aG aOF (hr.mono (by decide)) aOE.m aOE.F.kp aOE.b ?_
 refine aA ?_
 refine ge_v 1 rfl ?_
 refine aA ?_
 refine aC ?_
 refine aB ?_
 refine ⟨p,_,_,rfl,by decide,by decide,hF0,by omega,fun z1 M1 z10 z11 hF1 hB1 hE1 => ?_⟩
 obtain ⟨gap,hga,hga1,hga2⟩:=aCX z10 z11
 refine aK (.lst _) hga ?_
 refine aD (aP 3 jF.nd ?_)
 refine aG aOV (hr.mono (by decide)) aOU.m aOU.F.kp aOU.b ?_
 refine aA ?_
 refine ge_v 1 rfl ?_
 refine aA ?_
 refine ge_v 2 rfl ?_
 refine aB ?_
 refine ⟨p,_,gap,rfl,hga1,hga2,hF1,by omega,fun xs M2 ux l2x hF2 hB2 => ?_⟩
 refine aD (aP 4 jF.nd ?_)
 refine aG aOV (hr.mono (by decide)) aOU.m aOU.F.kp aOU.b ?_
 refine aA ?_
 refine ge_v 1 rfl ?_
 refine aA ?_
 refine ge_v 2 rfl ?_
 refine aB ?_
 refine ⟨p,_,gap,rfl,hga1,hga2,hF2,by omega,fun ys M3 uy l2y hF3 hB3 => ?_⟩
 have fx:=ux.few
 have fy:=uy.few
 refine aD (aP 5 jF.nd ?_)
 refine aG aOX (hr.mono (by decide)) aOW.m aOW.F.kp aOW.b ?_
 refine aA ?_
 refine ge_v 1 rfl ?_
 refine aA ?_
 refine ge_v 3 rfl ?_
 refine aA ?_
 refine ge_v 4 rfl ?_
 refine aB ?_
 refine ⟨p,_,xs,ys,rfl,hF3,by omega,l2x,l2y,by omega,by omega,fun zs M4 gz hz hF4 hB4 => ?_⟩
 refine aD (aP 6 jF.nd ?_)
 refine aG aOZ (hr.mono (by decide)) aOY.m aOY.F.kp aOY.b ?_
 refine aA ?_
 refine ge_v 1 rfl ?_
 refine aB ?_
 refine ⟨p,_,rfl,hF4,by omega,fun e n w s M5 he hn hw hs hF5 hB5 => ?_⟩
 have o:Pp e n w s:=⟨he,hn,hw,hs⟩
 refine aD (fN (jD T.range ?_))
 refine aA ?_
 refine aC ?_
 refine aB ?_
 refine ⟨_,rfl,by decide,by decide,?_⟩
 refine ⟨fun i Γ' M'=>∃ v7,Γ'=[some (.fl (ns.map .int)),some (.mt p),some (.int gap),some (.lst (xs.map .int)),some (.lst (ys.map .int)),some (.lst (zs.map .str)),some (iY e n w s),v7]∧PnM M' p (1000+20 * i),⟨_,rfl,hF5.mono (by omega)⟩,?_,?_⟩
 rotate_left
 ·rintro Γ' M1 ⟨v7,rfl,_⟩
  have vm:=Mk.of tm73
  have vo:=aES vm o
  refine aJ (aN (fA (jH (n:=3) (R.cM hr)) ?_))
  refine aG aN1 (hr.mono (by decide)) aN0.m aN0.F.kp aN0.b ?_
  refine aA ?_
  refine cB ?_
  refine aA ?_
  refine cB ?_
  refine aB ?_
  refine ⟨(show 0≤sizeLine by decide),?_⟩
  refine aA ?_
  refine cB ?_
  refine aB ?_
  refine ⟨(show 0≤sizeLine by decide),?_⟩
  refine aA ?_
  refine cB ?_
  refine aB ?_
  refine ⟨(show 0≤sizeLine by decide),?_⟩
  refine aB ?_
  refine ⟨(show 3≤sizeLine by decide),?_⟩
  refine aA ?_
  refine ge_v 6 rfl ?_
  refine aA ?_
  refine cB ?_
  refine aA ?_
  refine aC ?_
  refine aA ?_
  refine aC ?_
  refine aB ?_
  refine ⟨(show 2≤sizeLine by decide),?_⟩
  refine aB ?_
  refine ⟨Yd.void,e,n,w,s,Rat.divInt 7 3,rfl,(aFV _).ok vm o (by decide) (by decide),?_⟩
  refine cB ?_
  refine aA ?_
  refine cB ?_
  refine aB ?_
  refine ⟨(show 0≤sizeLine by decide),?_⟩
  refine aA ?_
  refine cB ?_
  refine aB ?_
  refine ⟨(show 0≤sizeLine by decide),?_⟩
  refine aA ?_
  refine cB ?_
  refine aB ?_
  refine ⟨(show 0≤sizeLine by decide),?_⟩
  refine aB ?_
  refine ⟨(show 3≤sizeLine by decide),?_⟩
  rw [(aB4 vo).1]
  refine jE (e1:=yd Yd.void) (e2:=yd Yd.void) (.tup _) (.tup _) (jQ _) (jQ _) ?_
  rw [aEV,decide_eq_true rfl]
  exact hk _
 rintro i d Γ' M' hd ⟨v7,rfl,hF⟩
 obtain ⟨hi,rfl⟩:=eA hd
 have hi3:i < 2:=hi
 refine bT 7 jF.nd ?_
 refine aJ (bG ?_)
 refine bS ?_
 refine bL ?_
 refine aG aO3 (hr.mono (by decide)) aO2.m aO2.F.kp aO2.b ?_
 refine aA ?_
 refine ge_v 3 rfl ?_
 refine aA ?_
 refine ge_v 4 rfl ?_
 refine aA ?_
 refine ge_v 5 rfl ?_
 refine aA ?_
 refine ge_v 6 rfl ?_
 refine aA ?_
 refine aG aO1 (hr.mono (by decide)) aO0.m aO0.F.kp aO0.b ?_
 refine aA ?_
 refine ge_v 1 rfl ?_
 refine aA ?_
 refine ge_v 3 rfl ?_
 refine aA ?_
 refine ge_v 4 rfl ?_
 refine aA ?_
 refine ge_v 6 rfl ?_
 refine aB ?_
 refine ⟨p,_,xs,ys,e,n,w,s,rfl,hF,by omega,ux,l2x,uy,l2y,he,hn,hw,hs,fun t M7 ht hF7 hB7 => ?_⟩
 refine aB ?_
 refine ⟨xs,ys,zs,e,n,w,s,t,rfl,ux,uy,l2x,l2y,gz,hz,o,ht,fun M8 hL8 => ?_⟩
 refine ⟨_,rfl,?_⟩
 exact iteF (bC ⟨_,rfl,(aKG hF7 hL8).mono (by omega)⟩)
end
end Q
namespace HB
open PySem PySem.W
abbrev S (x:String) (k:Nat):Value := .str (Str.ofString x) k
abbrev R (a:Nat):Value := .ref a
abbrev I (a:Int):Value := .int a 0
abbrev J (a:Int) (k:Nat):Value := .int a k
abbrev E (P:Params) (x:String) (k:Nat) (v:Value):DictEntry:=⟨PyData.keyHash P (Str.ofString x), .str (Str.ofString x) k,v⟩
abbrev tO (l:List Value):Obj:=⟨.type "tuple", none, .seq l.toArray 0,#[]⟩
abbrev vO (l:List Value):Obj:=⟨.none,none, .fields l.toArray,#[]⟩
abbrev dO (l:List DictEntry) (n:Nat):Obj:=⟨.type "dict", none, .dict l.toArray n,#[]⟩
abbrev fO (n:String) (s:Stmt) (pm:Value) (cd:Nat):Obj:=⟨.type "function", none, .func { name:=Str.ofString n,qualname:=Str.ofString n,params:=L2.fV s,body := .stmts (L2.eO s),scope:=L2.aO s,globals:=3,closure:=[],defaults := .none,kwdefaults := .none,doc := .none,pyModule:=pm,annotations:=none,code := .ref cd,closureTuple := .none,builtins:=0 },#[]⟩
abbrev pO (n:String) (s:Stmt):Obj:=⟨.none,none, .func { name:=Str.ofString n,qualname:=Str.ofString n,params:=L2.fV s,body := .stmts (L2.eO s),scope:=L2.aO s,globals:=0,closure:=[],defaults := .none,kwdefaults := .none,doc := .none,pyModule := .none,annotations:=none,code := .none,closureTuple := .none,builtins:=0 },#[]⟩
abbrev cO (n f:String) (t1 t2 t3 l1 c1 c2 c3 c4 a1 a2 a3 a4 a5 t4 l2 t5:Nat) (b:Bool) (k:Nat):Obj:=⟨.type "code", none, .fields #[S n t1,S n t2,S f t3,I l1,I c1,I c2,I c3,I c4,R a1, .bool b,I k,R a2, .none,R a3,R a4,R a5,I t4,I l2,S f t5],#[]⟩
def fl:String := "/claim/cut.py"
def vs:Nat→List String→List Value
 | _,[]=>[]
 | k,x::xs => .str (Str.ofString x) k::vs (k+1) xs
def D7 (s:Stmt) (n:String) (b t l c:Nat) (ns:List String) (pm:Value):List Obj :=
 [tO [],vO [],tO (vs (t+3) ns),tO [],pO n s,cO n "/claim/cut.py" t (t+1) (t+2) l c 0 0 3 b (b+1) (b+2) (b+3) (b+4) (t+3+ns.length) l (t+4+ns.length) true 181,fO n s pm (b+5)]
def ov {a:Type}:List (Nat × a)→List a→List a
 | [],l=>l
 | (i,x)::r,l=>ov r (l.set i x)
def ev {a:Type}:Nat→List a→List a
 | 0,_=>[]
 | _+1,[]=>[]
 | _+1,[x]=>[x]
 | n+1,x::_::r=>x::ev n r
def bt:Nat→List Obj→BT
 | 0,_ => .nil
 | _+1,[] => .nil
 | n+1,x::r => .node x (bt n (ev (2 ^ n) r)) (bt n (ev (2 ^ n) r.tail))
abbrev sh (h:Heap) (k:Nat) (os:OsState):Shared:=⟨h,Array.mk [],{},k,os⟩
abbrev sT (t:BT) (n k:Nat) (os:OsState):SharedT:=⟨t,n,{},Array.mk [],{},k,os⟩
abbrev ps (a b c d:Nat):Pos:=⟨a,b,c,d⟩
abbrev z:Pos:=⟨0,0,0,0⟩
abbrev B:List Frame:=[topFrame z]
theorem eRun:segRunT treeTable=PySem.W.Fast.tw10110043849684766642 PySem.W.Fast.tw14364793385576792824:=by rw [PySem.W.Fast.te10110043849684766642,PySem.W.Fast.te14364793385576792824]
theorem eGo:topGo treeTable=PySem.W.Fast.tw15667345088766844465 PySem.W.Fast.tw14364793385576792824:=by rw [PySem.W.Fast.te15667345088766844465,PySem.W.Fast.te14364793385576792824]
theorem eSeg:segRun treeTable=PySem.W.Fast.tw14374325043358763698 PySem.W.Fast.tw14364793385576792824:=by rw [PySem.W.Fast.te14374325043358763698,PySem.W.Fast.te14364793385576792824]
theorem eTop:topRun treeTable=PySem.W.Fast.tw14082659384304107361 PySem.W.Fast.tw14364793385576792824:=by rw [PySem.W.Fast.te14082659384304107361,PySem.W.Fast.te14364793385576792824]
end HB
namespace HB
open PySem PySem.W L2
theorem mkD {K:PySem.W.Frag}{mg:Str→Option Value}{h:Heap} (X:K.In h) (G:h.Ns mainGlobals mg) (n:String) (st:Stmt) (ps:List Str) (f cd:Addr) (pm:Value)
  (a:nsIn K mainGlobals (Str.ofString n)=some (some (.ref f))) (l:K.lookup f=some (fO n st pm cd)) (c:codeIn K (.ref cd) (Str.ofString n)=true) (k:keepIn K (.ref f)=true)
  (b:∀ (kV doc pm:Value) (an:Option Addr) (cdv ct:Value) (us:List Value),us.length=ps.length→bindArgs (PySem.W.fnOf (Str.ofString n) (Str.ofString n) (fV st) (eO st) (aO st) .none kV doc pm an cdv ct) ⟨us,[]⟩=pure (ps.zip us)) :
  R.Df K mg (Str.ofString n) st ps f (PySem.W.fnOf (Str.ofString n) (Str.ofString n) (fV st) (eO st) (aO st) .none .none .none pm none (.ref cd) .none) :=
 have F:Fun K (Str.ofString n) (Str.ofString n) st f _:=aIG l c k
 ⟨F,F.binds b,mg_of X G a⟩
def btNs:List Str:=["len", "abs", "int", "min", "max", "range", "list", "tuple", "repr", "all", "any", "enumerate", "isinstance", "bool", "str", "zip", "reversed", "sorted", "dict"]
theorem mkB {K:PySem.W.Frag}{mg:Str→Option Value}{h:Heap} (X:K.In h) (G:h.Ns mainGlobals mg) (e:(btNs.all fun n=>nsIn K mainGlobals n == some none)=true):Q.Bt mg :=
 have z:∀ n∈btNs,mg n=none:=fun n hn=>mg_none_of X G (eq_of_beq (List.all_eq_true.mp e n hn))
 ⟨z _ (by simp [btNs]),z _ (by simp [btNs]),z _ (by simp [btNs]),z _ (by simp [btNs]),z _ (by simp [btNs]),z _ (by simp [btNs]),z _ (by simp [btNs]),z _ (by simp [btNs]),z _ (by simp [btNs]),z _ (by simp [btNs]),z _ (by simp [btNs]),z _ (by simp [btNs]),z _ (by simp [btNs]),z _ (by simp [btNs]),z _ (by simp [btNs]),z _ (by simp [btNs]),z _ (by simp [btNs]),z _ (by simp [btNs]),z _ (by simp [btNs])⟩
end HB
namespace HD
open PySem PySem.W HB Q
noncomputable section
def es3 (P:Params):List DictEntry:=[E P "__name__" 165 (S "law_roofridges_k28_grown_back_by_cells" 492),E P "__doc__" 166 .none,E P "__package__" 167 .none,E P "__loader__" 168 (.builtin "__main__.__loader__#opaque"),E P "__spec__" 169 .none,E P "__annotations__" 170 (R 6),E P "__builtins__" 171 (R 4),E P "__file__" 173 (S "/claim/cut.py" 172),E P "__cached__" 174 .none,E P "RoofError" 206 (R 24),E P "NoNumber" 222 (R 37),E P "NoYard" 238 (R 49),E P "is_whole" 247 (R 58),E P "common_divisor" 256 (R 65),E P "lowest" 265 (R 72),E P "is_number" 272 (R 79),E P "fraction" 280 (R 86),E P "plus" 288 (R 93),E P "minus" 296 (R 100),E P "times" 304 (R 107),E P "under" 312 (R 114),E P "merged" 324 (R 121),E P "MOST_LINES" 328 (J 7 327),E P "FARTHEST" 330 (J 1000000000 329),E P "is_row" 336 (R 126),E P "rows_fit" 342 (R 131),E P "column" 348 (R 136),E P "columns" 354 (R 141),E P "changes" 360 (R 146),E P "picked" 366 (R 151),E P "tidied" 372 (R 156),E P "are_number_lines" 378 (R 161),E P "is_yard" 385 (R 168),E P "is_whole_line" 392 (R 175),E P "are_whole_lines" 398 (R 180),E P "made" 404 (R 185),E P "bands_at" 410 (R 190),E P "has_cell" 420 (R 197),E P "lies" 432 (R 204),E P "gone" 442 (R 211),E P "filled" 454 (R 218),E P "grown_row" 468 (R 225),E P "grown" 474 (R 230),E P "grown_yard" 485 (R 237),E P "back" 491 (R 242),E P "_law_pen" 500 (R 249),E P "_law_draw" 512 (R 256),E P "_law_lines" 522 (R 263),E P "_law_signs" 528 (R 268),E P "_law_paces" 536 (R 275),E P "_law_number" 546 (R 282),E P "_law_time" 563 (R 289),E P "_law_middles" 569 (R 294),E P "_law_is_reached" 575 (R 299),E P "_law_right" 591 (R 306),E P "law" 605 (R 313)]
def es12:List Value:=[(I 2),(I 0),(R 20),(I 4),(I 0),(R 33),(I 6),(I 0),(R 45),(I 9),(I 0),(R 57),(I 11),(I 0),(R 64),(I 17),(I 0),(R 71),(I 22),(I 0),(R 78),(I 28),(I 0),(R 85),(I 34),(I 0),(R 92),(I 36),(I 0),(R 99),(I 38),(I 0),(R 106),(I 40),(I 0),(R 113),(I 42),(I 0),(R 120),(I 57),(I 0),(R 125),(I 61),(I 0),(R 130),(I 65),(I 0),(R 135),(I 67),(I 0),(R 140),(I 70),(I 0),(R 145),(I 76),(I 0),(R 150),(I 78),(I 0),(R 155),(I 83),(I 0),(R 160),(I 87),(I 0),(R 167),(I 95),(I 0),(R 174),(I 97),(I 0),(R 179),(I 103),(I 0),(R 184),(I 109),(I 0),(R 189),(I 114),(I 0),(R 196),(I 119),(I 0),(R 203),(I 130),(I 0),(R 210),(I 133),(I 0),(R 217),(I 135),(I 0),(R 224),(I 141),(I 0),(R 229),(I 149),(I 0),(R 236),(I 153),(I 0),(R 241),(I 156),(I 0),(R 248),(I 158),(I 0),(R 255),(I 174),(I 0),(R 262),(I 181),(I 0),(R 267),(I 184),(I 0),(R 274),(I 189),(I 0),(R 281),(I 195),(I 0),(R 288),(I 206),(I 0),(R 293),(I 215),(I 0),(R 298),(I 226),(I 0),(R 305),(I 237),(I 0),(R 312)]
def hl0 (P:Params):List Obj:=[boot_o_0 P]++[boot_o_1 P]++[boot_o_2 P]++[dO (es3 P) 56]++[boot_o_4 P]++[boot_o_5 P]++[boot_o_6 P]++[boot_o_7 P]++[boot_o_8 P]++[boot_o_9 P]++[boot_o_10 P]++[tO []]
def hl1 (P:Params):List Obj:=[vO es12]++[⟨.type "code", none, .fields #[(S "<module>" 182),(S "<module>" 183),(S "/claim/cut.py" 184),(I 1),(I 0),(I 0),(I 0),(I 0),(R 11),(.bool false),(I 181),(R 12), .none, .none, .none, .none,(I 185),(I 1),(S "/claim/cut.py" 186)],#[]⟩]++[⟨(.type "frame"),none, .plain,#[some (R 13),some (R 3),some (R 3),none,some (S "__main__" 164),none,some (R 0)]⟩]++[tO [(.type "ValueError")]]++[⟨(.type "builtin_function_or_method"),none, .fields #[(.builtin "type.__prepare__"),(.type "type")],#[]⟩]++[dO [E P "__module__" 196 (S "roofridges.errors" 187),E P "__qualname__" 198 (S "RoofError" 197),E P "__firstlineno__" 200 (J 2 199),E P "__static_attributes__" 201 (R 22)] 4]++[tO []]++[vO []]++[⟨.type "code", none, .fields #[(S "RoofError" 191),(S "RoofError" 192),(S "/claim/cut.py" 193),(I 2),(I 0),(I 0),(I 0),(I 0),(R 18),(.bool false),(I 181),(R 19), .none, .none, .none, .none,(I 194),(I 2),(S "/claim/cut.py" 195)],#[]⟩]++[⟨(.type "frame"),none, .plain,#[some (R 20),some (R 3),some (R 17),none,some (S "roofridges.errors" 187),none,some (R 0)]⟩]++[tO []]++[dO [E P "__module__" 196 (S "roofridges.errors" 187),E P "__firstlineno__" 200 (J 2 199),E P "__static_attributes__" 201 (R 22),E P "__weakref__" 203 (R 25),E P "__doc__" 204 .none] 3]
def hl2 (P:Params):List Obj:=[⟨(.type "type"),none, .cls { name := "RoofError", bases:=[(.type "ValueError")],mro:=[(R 24),(.type "ValueError"),(.type "Exception"),(.type "BaseException"),(.type "object")],ns:=23,qualname := "RoofError", hasDict:=true,slotNames:=[],subclasses:=[(R 37),(R 49)],abstract:=false,collection:=none,hasDel:=false },#[some (R 15),none,some (S "RoofError" 189),some (S "RoofError" 197),some (.builtin "ValueError.__new__"),some (.bool true)]⟩]++[⟨(.type "getset_descriptor"),none, .fields #[(S "__weakref__" 202),(R 24),(.builtin "ExceptionGroup.__weakref__"), .none],#[]⟩]++[⟨(.type "super"),none, .fields #[(R 24),(R 24),(R 24)],#[]⟩]++[⟨(.type "builtin_function_or_method"),none, .fields #[(.builtin "object.__init_subclass__"),(R 24)],#[]⟩]++[tO [(R 24)]]++[⟨(.type "builtin_function_or_method"),none, .fields #[(.builtin "type.__prepare__"),(.type "type")],#[]⟩]++[dO [E P "__module__" 214 (S "roofridges.errors" 187),E P "__qualname__" 216 (S "NoNumber" 215),E P "__firstlineno__" 218 (J 4 217),E P "__static_attributes__" 219 (R 35)] 4]++[tO []]++[vO []]++[⟨.type "code", none, .fields #[(S "NoNumber" 209),(S "NoNumber" 210),(S "/claim/cut.py" 211),(I 4),(I 0),(I 0),(I 0),(I 0),(R 31),(.bool false),(I 181),(R 32), .none, .none, .none, .none,(I 212),(I 4),(S "/claim/cut.py" 213)],#[]⟩]++[⟨(.type "frame"),none, .plain,#[some (R 33),some (R 3),some (R 30),none,some (S "roofridges.errors" 187),none,some (R 0)]⟩]++[tO []]
def hl3 (P:Params):List Obj:=[dO [E P "__module__" 214 (S "roofridges.errors" 187),E P "__firstlineno__" 218 (J 4 217),E P "__static_attributes__" 219 (R 35),E P "__doc__" 220 .none] 2]++[⟨(.type "type"),none, .cls { name := "NoNumber", bases:=[(R 24)],mro:=[(R 37),(R 24),(.type "ValueError"),(.type "Exception"),(.type "BaseException"),(.type "object")],ns:=36,qualname := "NoNumber", hasDict:=true,slotNames:=[],subclasses:=[],abstract:=false,collection:=none,hasDel:=false },#[some (R 28),none,some (S "NoNumber" 207),some (S "NoNumber" 215),some (.builtin "ValueError.__new__"),some (.bool true)]⟩]++[⟨(.type "super"),none, .fields #[(R 37),(R 37),(R 37)],#[]⟩]++[⟨(.type "builtin_function_or_method"),none, .fields #[(.builtin "object.__init_subclass__"),(R 37)],#[]⟩]++[tO [(R 24)]]++[⟨(.type "builtin_function_or_method"),none, .fields #[(.builtin "type.__prepare__"),(.type "type")],#[]⟩]++[dO [E P "__module__" 230 (S "roofridges.errors" 187),E P "__qualname__" 232 (S "NoYard" 231),E P "__firstlineno__" 234 (J 6 233),E P "__static_attributes__" 235 (R 47)] 4]++[tO []]++[vO []]++[⟨.type "code", none, .fields #[(S "NoYard" 225),(S "NoYard" 226),(S "/claim/cut.py" 227),(I 6),(I 0),(I 0),(I 0),(I 0),(R 43),(.bool false),(I 181),(R 44), .none, .none, .none, .none,(I 228),(I 6),(S "/claim/cut.py" 229)],#[]⟩]++[⟨(.type "frame"),none, .plain,#[some (R 45),some (R 3),some (R 42),none,some (S "roofridges.errors" 187),none,some (R 0)]⟩]++[tO []]
def hl4 (P:Params):List Obj:=[dO [E P "__module__" 230 (S "roofridges.errors" 187),E P "__firstlineno__" 234 (J 6 233),E P "__static_attributes__" 235 (R 47),E P "__doc__" 236 .none] 2]++[⟨(.type "type"),none, .cls { name := "NoYard", bases:=[(R 24)],mro:=[(R 49),(R 24),(.type "ValueError"),(.type "Exception"),(.type "BaseException"),(.type "object")],ns:=48,qualname := "NoYard", hasDict:=true,slotNames:=[],subclasses:=[],abstract:=false,collection:=none,hasDel:=false },#[some (R 40),none,some (S "NoYard" 223),some (S "NoYard" 231),some (.builtin "ValueError.__new__"),some (.bool true)]⟩]++[⟨(.type "super"),none, .fields #[(R 49),(R 49),(R 49)],#[]⟩]++[⟨(.type "builtin_function_or_method"),none, .fields #[(.builtin "object.__init_subclass__"),(R 49)],#[]⟩]++D7 (Q.top 5) "is_whole" 52 241 9 1 ["thing"] (S "roofridges.fractions" 239)++D7 (Q.top 6) "common_divisor" 59 248 11 2 ["one", "other", "rest"] (S "roofridges.fractions" 239)++D7 (Q.top 7) "lowest" 66 257 17 2 ["top", "bottom", "divisor"] (S "roofridges.fractions" 239)++D7 (Q.top 8) "is_number" 73 266 22 1 ["thing"] (S "roofridges.fractions" 239)++D7 (Q.top 9) "fraction" 80 273 28 2 ["top", "bottom"] (S "roofridges.fractions" 239)++D7 (Q.top 10) "plus" 87 281 34 2 ["one", "other"] (S "roofridges.fractions" 239)++D7 (Q.top 11) "minus" 94 289 36 2 ["one", "other"] (S "roofridges.fractions" 239)++D7 (Q.top 12) "times" 101 297 38 2 ["one", "other"] (S "roofridges.fractions" 239)
def hl5 (P:Params):List Obj:=D7 (Q.top 13) "under" 108 305 40 2 ["one", "other"] (S "roofridges.fractions" 239)++D7 (Q.top 14) "merged" 115 313 42 2 ["one", "other", "told", "first", "second", "ahead"] (S "roofridges.fractions" 239)++[tO []]++[vO []]++[pO "is_row" (Q.top 18)]++[⟨.type "code", none, .fields #[(S "is_row" 331),(S "is_row" 332),(S "/claim/cut.py" 333),(I 57),(I 2),(I 0),(I 0),(I 3),(R 122),(.bool true),(I 181),(R 123), .none, .none, .none,(R 124),(I 334),(I 57),(S "/claim/cut.py" 335)],#[]⟩]++[fO "is_row" (Q.top 18) (S "roofridges.yards" 325) 125]++[tO []]++[vO []]++[pO "rows_fit" (Q.top 19)]++[⟨.type "code", none, .fields #[(S "rows_fit" 337),(S "rows_fit" 338),(S "/claim/cut.py" 339),(I 61),(I 3),(I 0),(I 0),(I 3),(R 127),(.bool true),(I 181),(R 128), .none, .none, .none,(R 129),(I 340),(I 61),(S "/claim/cut.py" 341)],#[]⟩]++[fO "rows_fit" (Q.top 19) (S "roofridges.yards" 325) 130]
def hl6 (P:Params):List Obj:=[tO []]++[vO []]++[pO "column" (Q.top 20)]++[⟨.type "code", none, .fields #[(S "column" 343),(S "column" 344),(S "/claim/cut.py" 345),(I 65),(I 2),(I 0),(I 0),(I 3),(R 132),(.bool true),(I 181),(R 133), .none, .none, .none,(R 134),(I 346),(I 65),(S "/claim/cut.py" 347)],#[]⟩]++[fO "column" (Q.top 20) (S "roofridges.yards" 325) 135]++[tO []]++[vO []]++[pO "columns" (Q.top 21)]++[⟨.type "code", none, .fields #[(S "columns" 349),(S "columns" 350),(S "/claim/cut.py" 351),(I 67),(I 1),(I 0),(I 0),(I 3),(R 137),(.bool true),(I 181),(R 138), .none, .none, .none,(R 139),(I 352),(I 67),(S "/claim/cut.py" 353)],#[]⟩]++[fO "columns" (Q.top 21) (S "roofridges.yards" 325) 140]++[tO []]++[vO []]
def hl7 (P:Params):List Obj:=[pO "changes" (Q.top 22)]++[⟨.type "code", none, .fields #[(S "changes" 355),(S "changes" 356),(S "/claim/cut.py" 357),(I 70),(I 1),(I 0),(I 0),(I 3),(R 142),(.bool true),(I 181),(R 143), .none, .none, .none,(R 144),(I 358),(I 70),(S "/claim/cut.py" 359)],#[]⟩]++[fO "changes" (Q.top 22) (S "roofridges.yards" 325) 145]++[tO []]++[vO []]++[pO "picked" (Q.top 23)]++[⟨.type "code", none, .fields #[(S "picked" 361),(S "picked" 362),(S "/claim/cut.py" 363),(I 76),(I 2),(I 0),(I 0),(I 3),(R 147),(.bool true),(I 181),(R 148), .none, .none, .none,(R 149),(I 364),(I 76),(S "/claim/cut.py" 365)],#[]⟩]++[fO "picked" (Q.top 23) (S "roofridges.yards" 325) 150]++[tO []]++[vO []]++[pO "tidied" (Q.top 24)]++[⟨.type "code", none, .fields #[(S "tidied" 367),(S "tidied" 368),(S "/claim/cut.py" 369),(I 78),(I 3),(I 0),(I 0),(I 3),(R 152),(.bool true),(I 181),(R 153), .none, .none, .none,(R 154),(I 370),(I 78),(S "/claim/cut.py" 371)],#[]⟩]
def hl8 (P:Params):List Obj:=[fO "tidied" (Q.top 24) (S "roofridges.yards" 325) 155]++[tO []]++[vO []]++[pO "are_number_lines" (Q.top 25)]++[⟨.type "code", none, .fields #[(S "are_number_lines" 373),(S "are_number_lines" 374),(S "/claim/cut.py" 375),(I 83),(I 1),(I 0),(I 0),(I 3),(R 157),(.bool true),(I 181),(R 158), .none, .none, .none,(R 159),(I 376),(I 83),(S "/claim/cut.py" 377)],#[]⟩]++[fO "are_number_lines" (Q.top 25) (S "roofridges.yards" 325) 160]++D7 (Q.top 26) "is_yard" 162 379 87 1 ["thing"] (S "roofridges.yards" 325)++D7 (Q.top 27) "is_whole_line" 169 386 95 1 ["thing"] (S "roofridges.yards" 325)++[tO []]++[vO []]++[pO "are_whole_lines" (Q.top 28)]++[⟨.type "code", none, .fields #[(S "are_whole_lines" 393),(S "are_whole_lines" 394),(S "/claim/cut.py" 395),(I 97),(I 1),(I 0),(I 0),(I 3),(R 176),(.bool true),(I 181),(R 177), .none, .none, .none,(R 178),(I 396),(I 97),(S "/claim/cut.py" 397)],#[]⟩]
def hl9 (P:Params):List Obj:=[fO "are_whole_lines" (Q.top 28) (S "roofridges.yards" 325) 179]++[tO []]++[vO []]++[pO "made" (Q.top 29)]++[⟨.type "code", none, .fields #[(S "made" 399),(S "made" 400),(S "/claim/cut.py" 401),(I 103),(I 3),(I 0),(I 0),(I 3),(R 181),(.bool true),(I 181),(R 182), .none, .none, .none,(R 183),(I 402),(I 103),(S "/claim/cut.py" 403)],#[]⟩]++[fO "made" (Q.top 29) (S "roofridges.yards" 325) 184]++[tO []]++[vO []]++[pO "bands_at" (Q.top 30)]++[⟨.type "code", none, .fields #[(S "bands_at" 405),(S "bands_at" 406),(S "/claim/cut.py" 407),(I 109),(I 2),(I 0),(I 0),(I 3),(R 186),(.bool true),(I 181),(R 187), .none, .none, .none,(R 188),(I 408),(I 109),(S "/claim/cut.py" 409)],#[]⟩]++[fO "bands_at" (Q.top 30) (S "roofridges.yards" 325) 189]++D7 (Q.top 31) "has_cell" 191 411 114 3 ["yard", "across", "up", "rows"] (S "roofridges.yards" 325)
def hl10 (P:Params):List Obj:=D7 (Q.top 32) "lies" 198 421 119 3 ["yard", "x", "y", "cells", "up", "across"] (S "roofridges.yards" 325)++D7 (Q.top 34) "gone" 205 435 130 2 ["pace", "time"] (S "roofridges.heights" 433)++D7 (Q.top 36) "filled" 212 445 133 4 ["row", "sign", "begin", "end"] (S "roofridges.cuts" 443)++D7 (Q.top 37) "grown_row" 219 455 135 5 ["row", "sign", "begins", "ends", "wide", "told", "place", "kept"] (S "roofridges.cuts" 443)++[tO []]++[vO []]++[pO "grown" (Q.top 38)]++[⟨.type "code", none, .fields #[(S "grown" 469),(S "grown" 470),(S "/claim/cut.py" 471),(I 141),(I 5),(I 0),(I 0),(I 3),(R 226),(.bool true),(I 181),(R 227), .none, .none, .none,(R 228),(I 472),(I 141),(S "/claim/cut.py" 473)],#[]⟩]++[fO "grown" (Q.top 38) (S "roofridges.cuts" 443) 229]++D7 (Q.top 39) "grown_yard" 231 475 149 3 ["yard", "sign", "reaches", "across", "up"] (S "roofridges.cuts" 443)++[tO []]++[vO []]
def hl11 (P:Params):List Obj:=[pO "back" (Q.top 40)]++[⟨.type "code", none, .fields #[(S "back" 486),(S "back" 487),(S "/claim/cut.py" 488),(I 153),(I 3),(I 0),(I 0),(I 3),(R 238),(.bool true),(I 181),(R 239), .none, .none, .none,(R 240),(I 489),(I 153),(S "/claim/cut.py" 490)],#[]⟩]++[fO "back" (Q.top 40) (S "roofridges.cuts" 443) 241]++D7 (Q.top 42) "_law_pen" 243 494 156 1 ["_law_script"] (S "law_roofridges_k28_grown_back_by_cells" 492)++D7 (Q.top 43) "_law_draw" 250 501 158 2 ["_law_pen_here", "_law_many", "_law_digit", "_law_place", "_law_cell", "_law_mixed"] (S "law_roofridges_k28_grown_back_by_cells" 492)++D7 (Q.top 44) "_law_lines" 257 513 174 2 ["_law_pen_here", "_law_gap", "_law_lines_here", "_law_k"] (S "law_roofridges_k28_grown_back_by_cells" 492)++[tO []]++[vO []]++[pO "_law_signs" (Q.top 45)]++[⟨.type "code", none, .fields #[(S "_law_signs" 523),(S "_law_signs" 524),(S "/claim/cut.py" 525),(I 181),(I 3),(I 0),(I 0),(I 3),(R 264),(.bool true),(I 181),(R 265), .none, .none, .none,(R 266),(I 526),(I 181),(S "/claim/cut.py" 527)],#[]⟩]++[fO "_law_signs" (Q.top 45) (S "law_roofridges_k28_grown_back_by_cells" 492) 267]++D7 (Q.top 46) "_law_paces" 269 529 184 1 ["_law_pen_here", "_law_one"] (S "law_roofridges_k28_grown_back_by_cells" 492)
def hl12 (P:Params):List Obj:=D7 (Q.top 47) "_law_number" 276 537 189 2 ["_law_upper", "_law_bottom", "_law_one", "_law_other"] (S "law_roofridges_k28_grown_back_by_cells" 492)++D7 (Q.top 48) "_law_time" 283 547 195 4 ["_law_pen_here", "_law_xs", "_law_ys", "_law_paces_here", "_law_lines_here", "_law_one", "_law_other", "_law_first", "_law_last", "_law_meeting", "_law_way"] (S "law_roofridges_k28_grown_back_by_cells" 492)++[tO []]++[vO []]++[pO "_law_middles" (Q.top 49)]++[⟨.type "code", none, .fields #[(S "_law_middles" 564),(S "_law_middles" 565),(S "/claim/cut.py" 566),(I 206),(I 4),(I 0),(I 0),(I 3),(R 290),(.bool true),(I 181),(R 291), .none, .none, .none,(R 292),(I 567),(I 206),(S "/claim/cut.py" 568)],#[]⟩]++[fO "_law_middles" (Q.top 49) (S "law_roofridges_k28_grown_back_by_cells" 492) 293]++[tO []]++[vO []]++[pO "_law_is_reached" (Q.top 50)]++[⟨.type "code", none, .fields #[(S "_law_is_reached" 570),(S "_law_is_reached" 571),(S "/claim/cut.py" 572),(I 215),(I 6),(I 0),(I 0),(I 3),(R 295),(.bool true),(I 181),(R 296), .none, .none, .none,(R 297),(I 573),(I 215),(S "/claim/cut.py" 574)],#[]⟩]++[fO "_law_is_reached" (Q.top 50) (S "law_roofridges_k28_grown_back_by_cells" 492) 298]
def hl13 (P:Params):List Obj:=D7 (Q.top 51) "_law_right" 300 576 226 5 ["_law_xs", "_law_ys", "_law_signs_here", "_law_paces_here", "_law_time_here", "_law_yard", "_law_told", "_law_y", "_law_x", "_law_due"] (S "law_roofridges_k28_grown_back_by_cells" 492)++D7 (Q.top 52) "law" 307 592 237 1 ["_law_script", "_law_pen_here", "_law_gap", "_law_xs", "_law_ys", "_law_signs_here", "_law_paces_here", "_law_k"] (S "law_roofridges_k28_grown_back_by_cells" 492)
def hl (P:Params):List Obj:=hl0 P++hl1 P++hl2 P++hl3 P++hl4 P++hl5 P++hl6 P++hl7 P++hl8 P++hl9 P++hl10 P++hl11 P++hl12 P++hl13 P
def hA (P:Params):Heap:=⟨Array.mk (ov [(3,boot_o_3 P),(12,vO (es12.take 0))] ((hl P).take 15)),{}⟩
def env:Env:={ scope:=PySem.Challenge.pw_roofridges_k28_grown_back_by_cells.main.scope,locals:=mainNs,globals:=mainNs,cells:=[],code:=(R 13),frame:=some 14 }
abbrev p:Program:=PySem.Challenge.rw_roofridges_k28_grown_back_by_cells.row.toRowW.1
abbrev bE:List Stmt:=behindTheImports p
abbrev cE:Code := .body bE env
theorem pre (w:World) (os:OsState):topGo treeTable p w 11 (some (R 6)) 12 ⟨boot_heap w.params,Array.mk [],boot_drawn,boot_toks,os⟩ (topStub p)=some (sh (hA w.params) 187 os,⟨denote treeTable cE,cE,(ps 0 0 0 0),B⟩):=by rw [eGo,PySem.W.Fast.te11892475500146522536,PySem.W.Fast.te14364793385576792824]; kernel_rfl!
def t0 (P:Params):BT:=bt 14 (ov [(3,boot_o_3 P),(12,vO (es12.take 0))] ((hl P).take 15))
theorem block (w:World) (os:OsState):segRun treeTable p w 11 (some (R 6)) 1 1 (sh (hA w.params) 187 os) (blockOf bE env cE (ps 0 0 0 0) B)=some (.next,(sT (t0 w.params) 15 187 os).abs,cE,(ps 0 0 0 0)):=by rw [eSeg]; kernel_rfl!
def t1 (P:Params):BT:=bt 14 (ov [(3,dO (ov [(0,E P "__name__" 165 (S "roofridges.errors" 187))] ((es3 P).take 10)) 10),(12,vO (es12.take 3)),(24,⟨(.type "type"),none, .cls { name := "RoofError", bases:=[(.type "ValueError")],mro:=[(R 24),(.type "ValueError"),(.type "Exception"),(.type "BaseException"),(.type "object")],ns:=23,qualname := "RoofError", hasDict:=true,slotNames:=[],subclasses:=[],abstract:=false,collection:=none,hasDel:=false },#[some (R 15),none,some (S "RoofError" 189),some (S "RoofError" 197),some (.builtin "ValueError.__new__"),some (.bool true)]⟩)] ((hl P).take 28))
def g1:List Stmt:=[Q.top 0,Q.top 1]
theorem r1 (w:World) (os:OsState):segRunT treeTable p w 11 (some (R 6)) 1 196 (sT (t0 w.params) 15 187 os) (piecesOf g1 env cE (ps 0 0 0 0) B)=some (.next,sT (t1 w.params) 28 207 os,cE,(ps 2 0 3 8)):=by rw [eRun]; kernel_rfl!
def t2 (P:Params):BT:=bt 14 (ov [(3,dO (ov [(0,E P "__name__" 165 (S "roofridges.errors" 187))] ((es3 P).take 11)) 11),(12,vO (es12.take 6)),(24,⟨(.type "type"),none, .cls { name := "RoofError", bases:=[(.type "ValueError")],mro:=[(R 24),(.type "ValueError"),(.type "Exception"),(.type "BaseException"),(.type "object")],ns:=23,qualname := "RoofError", hasDict:=true,slotNames:=[],subclasses:=[(R 37)],abstract:=false,collection:=none,hasDel:=false },#[some (R 15),none,some (S "RoofError" 189),some (S "RoofError" 197),some (.builtin "ValueError.__new__"),some (.bool true)]⟩)] ((hl P).take 40))
def g2:List Stmt:=[Q.top 2]
theorem r2 (w:World) (os:OsState):segRunT treeTable p w 11 (some (R 6)) 1 214 (sT (t1 w.params) 28 207 os) (piecesOf g2 env cE (ps 2 0 3 8) B)=some (.next,sT (t2 w.params) 40 223 os,cE,(ps 4 0 5 8)):=by rw [eRun]; kernel_rfl!
def t3 (P:Params):BT:=bt 14 (ov [(3,dO (ov [(0,E P "__name__" 165 (S "roofridges.fractions" 239))] ((es3 P).take 17)) 17),(12,vO (es12.take 24))] ((hl P).take 87))
def g3:List Stmt:=[Q.top 3,Q.top 4,Q.top 5,Q.top 6,Q.top 7,Q.top 8,Q.top 9]
theorem r3 (w:World) (os:OsState):segRunT treeTable p w 11 (some (R 6)) 1 373 (sT (t2 w.params) 40 223 os) (piecesOf g3 env cE (ps 4 0 5 8) B)=some (.next,sT (t3 w.params) 87 281 os,cE,(ps 28 0 33 30)):=by rw [eRun]; kernel_rfl!
def t4 (P:Params):BT:=bt 14 (ov [(3,dO (ov [(0,E P "__name__" 165 (S "roofridges.yards" 325))] ((es3 P).take 32)) 32),(12,vO (es12.take 63))] ((hl P).take 162))
def g4:List Stmt:=[Q.top 10,Q.top 11,Q.top 12,Q.top 13,Q.top 14,Q.top 15,Q.top 16,Q.top 17,Q.top 18,Q.top 19,Q.top 20,Q.top 21,Q.top 22,Q.top 23,Q.top 24,Q.top 25]
theorem r4 (w:World) (os:OsState):segRunT treeTable p w 11 (some (R 6)) 1 390 (sT (t3 w.params) 87 281 os) (piecesOf g4 env cE (ps 28 0 33 30) B)=some (.next,sT (t4 w.params) 162 379 os,cE,(ps 83 0 86 89)):=by rw [eRun]; kernel_rfl!
def t5 (P:Params):BT:=bt 14 (ov [(3,dO (ov [(0,E P "__name__" 165 (S "roofridges.cuts" 443))] ((es3 P).take 44)) 44),(12,vO (es12.take 99))] ((hl P).take 238))
def g5:List Stmt:=[Q.top 26,Q.top 27,Q.top 28,Q.top 29,Q.top 30,Q.top 31,Q.top 32,Q.top 33,Q.top 34,Q.top 35,Q.top 36,Q.top 37,Q.top 38,Q.top 39]
theorem r5 (w:World) (os:OsState):segRunT treeTable p w 11 (some (R 6)) 1 378 (sT (t4 w.params) 162 379 os) (piecesOf g5 env cE (ps 83 0 86 89) B)=some (.next,sT (t5 w.params) 238 486 os,cE,(ps 149 0 152 51)):=by rw [eRun]; kernel_rfl!
def t6 (P:Params):BT:=bt 14 (ov [] ((hl P).take 314))
def g6:List Stmt:=[Q.top 40,Q.top 41,Q.top 42,Q.top 43,Q.top 44,Q.top 45,Q.top 46,Q.top 47,Q.top 48,Q.top 49,Q.top 50,Q.top 51,Q.top 52]
theorem r6 (w:World) (os:OsState):segRunT treeTable p w 11 (some (R 6)) 1 384 (sT (t5 w.params) 238 486 os) (piecesOf g6 env cE (ps 149 0 152 51) B)=some (.next,sT (t6 w.params) 314 606 os,cE,(ps 237 0 247 70)):=by rw [eRun]; kernel_rfl!
def hZ (P:Params):Heap:=⟨Array.mk (hl P),{}⟩
theorem fin (w:World) (os:OsState):topRun treeTable p w 11 (some (R 6)) 2 (sT (t6 w.params) 314 606 os).abs ⟨doneF .next,cE,(ps 237 0 247 70),B⟩=some (sh (hZ w.params) 606 os):=by rw [eTop]; kernel_rfl!
theorem body:bE=g1++(g2++(g3++(g4++(g5++(g6++([])))))):=by kernel_rfl!
theorem chain (w:World) (os:OsState):topRun treeTable p w 11 (some (R 6)) (196+(214+(373+(390+(378+(384+(2))))))) (sT (t0 w.params) 15 187 os).abs (restOf (g1++(g2++(g3++(g4++(g5++(g6++([]))))))) env cE (ps 0 0 0 0) B)=some (sh (hZ w.params) 606 os):=piece_app (segRun_of (r1 w os)) (piece_app (segRun_of (r2 w os)) (piece_app (segRun_of (r3 w os)) (piece_app (segRun_of (r4 w os)) (piece_app (segRun_of (r5 w os)) (piece_app (segRun_of (r6 w os)) (fin w os))))))
theorem run (w:World) (os:OsState):topRun treeTable p w 11 (some (R 6)) (12+(1+(196+(214+(373+(390+(378+(384+(2))))))))) ⟨boot_heap w.params,Array.mk [],boot_drawn,boot_toks,os⟩ (topStub p)=some (sh (hZ w.params) 606 os):=go_top (pre w os) (piece_block (block w os) (by have h:=chain w os; rw [← body] at h; exact h))
def view:Program:={ p with main:={ p.main with body:=[Q.top 1,Q.top 2,Q.top 3,Q.top 5,Q.top 6,Q.top 7,Q.top 8,Q.top 9,Q.top 10,Q.top 11,Q.top 12,Q.top 13,Q.top 14,Q.top 16,Q.top 17,Q.top 18,Q.top 19,Q.top 20,Q.top 21,Q.top 22,Q.top 23,Q.top 24,Q.top 25,Q.top 26,Q.top 27,Q.top 28,Q.top 29,Q.top 30,Q.top 31,Q.top 32,Q.top 34,Q.top 36,Q.top 37,Q.top 38,Q.top 39,Q.top 40,Q.top 42,Q.top 43,Q.top 44,Q.top 45,Q.top 46,Q.top 47,Q.top 48,Q.top 49,Q.top 50,Q.top 51,Q.top 52] } }
def ob (P:Params) (i:Nat):Obj:=(hl P).getD i default
def K (P:Params):Frag:=[(nat_lit 2,ob P 2),(nat_lit 3,ob P 3),(nat_lit 15,ob P 15),(nat_lit 22,ob P 22),(nat_lit 23,ob P 23),(nat_lit 24,ob P 24),(nat_lit 25,ob P 25),(nat_lit 28,ob P 28),(nat_lit 35,ob P 35),(nat_lit 36,ob P 36),(nat_lit 37,ob P 37),(nat_lit 40,ob P 40),(nat_lit 47,ob P 47),(nat_lit 48,ob P 48),(nat_lit 49,ob P 49),(nat_lit 52,ob P 52),(nat_lit 54,ob P 54),(nat_lit 55,ob P 55),(nat_lit 57,ob P 57),(nat_lit 58,fO "is_whole" (Q.top 5) (S "roofridges.fractions" 239) 57),(nat_lit 59,ob P 59),(nat_lit 61,ob P 61),(nat_lit 62,ob P 62),(nat_lit 64,ob P 64),(nat_lit 65,fO "common_divisor" (Q.top 6) (S "roofridges.fractions" 239) 64),(nat_lit 66,ob P 66),(nat_lit 68,ob P 68),(nat_lit 69,ob P 69),(nat_lit 71,ob P 71),(nat_lit 72,fO "lowest" (Q.top 7) (S "roofridges.fractions" 239) 71),(nat_lit 73,ob P 73),(nat_lit 75,ob P 75),(nat_lit 76,ob P 76),(nat_lit 78,ob P 78),(nat_lit 79,fO "is_number" (Q.top 8) (S "roofridges.fractions" 239) 78),(nat_lit 80,ob P 80),(nat_lit 82,ob P 82),(nat_lit 83,ob P 83),(nat_lit 85,ob P 85),(nat_lit 86,fO "fraction" (Q.top 9) (S "roofridges.fractions" 239) 85),(nat_lit 87,ob P 87),(nat_lit 89,ob P 89),(nat_lit 90,ob P 90),(nat_lit 92,ob P 92),(nat_lit 93,fO "plus" (Q.top 10) (S "roofridges.fractions" 239) 92),(nat_lit 94,ob P 94),(nat_lit 96,ob P 96),(nat_lit 97,ob P 97),(nat_lit 99,ob P 99),(nat_lit 100,fO "minus" (Q.top 11) (S "roofridges.fractions" 239) 99),(nat_lit 101,ob P 101),(nat_lit 103,ob P 103),(nat_lit 104,ob P 104),(nat_lit 106,ob P 106),(nat_lit 107,fO "times" (Q.top 12) (S "roofridges.fractions" 239) 106),(nat_lit 108,ob P 108),(nat_lit 110,ob P 110),(nat_lit 111,ob P 111),(nat_lit 113,ob P 113),(nat_lit 114,fO "under" (Q.top 13) (S "roofridges.fractions" 239) 113),(nat_lit 115,ob P 115),(nat_lit 117,ob P 117),(nat_lit 118,ob P 118),(nat_lit 120,ob P 120),(nat_lit 121,fO "merged" (Q.top 14) (S "roofridges.fractions" 239) 120),(nat_lit 122,ob P 122),(nat_lit 125,ob P 125),(nat_lit 126,fO "is_row" (Q.top 18) (S "roofridges.yards" 325) 125),(nat_lit 127,ob P 127),(nat_lit 130,ob P 130),(nat_lit 131,fO "rows_fit" (Q.top 19) (S "roofridges.yards" 325) 130),(nat_lit 132,ob P 132),(nat_lit 135,ob P 135),(nat_lit 136,fO "column" (Q.top 20) (S "roofridges.yards" 325) 135),(nat_lit 137,ob P 137),(nat_lit 140,ob P 140),(nat_lit 141,fO "columns" (Q.top 21) (S "roofridges.yards" 325) 140),(nat_lit 142,ob P 142),(nat_lit 145,ob P 145),(nat_lit 146,fO "changes" (Q.top 22) (S "roofridges.yards" 325) 145),(nat_lit 147,ob P 147),(nat_lit 150,ob P 150),(nat_lit 151,fO "picked" (Q.top 23) (S "roofridges.yards" 325) 150),(nat_lit 152,ob P 152),(nat_lit 155,ob P 155),(nat_lit 156,fO "tidied" (Q.top 24) (S "roofridges.yards" 325) 155),(nat_lit 157,ob P 157),(nat_lit 160,ob P 160),(nat_lit 161,fO "are_number_lines" (Q.top 25) (S "roofridges.yards" 325) 160),(nat_lit 162,ob P 162),(nat_lit 164,ob P 164),(nat_lit 165,ob P 165),(nat_lit 167,ob P 167),(nat_lit 168,fO "is_yard" (Q.top 26) (S "roofridges.yards" 325) 167),(nat_lit 169,ob P 169),(nat_lit 171,ob P 171),(nat_lit 172,ob P 172),(nat_lit 174,ob P 174),(nat_lit 175,fO "is_whole_line" (Q.top 27) (S "roofridges.yards" 325) 174),(nat_lit 176,ob P 176),(nat_lit 179,ob P 179),(nat_lit 180,fO "are_whole_lines" (Q.top 28) (S "roofridges.yards" 325) 179),(nat_lit 181,ob P 181),(nat_lit 184,ob P 184),(nat_lit 185,fO "made" (Q.top 29) (S "roofridges.yards" 325) 184),(nat_lit 186,ob P 186),(nat_lit 189,ob P 189),(nat_lit 190,fO "bands_at" (Q.top 30) (S "roofridges.yards" 325) 189),(nat_lit 191,ob P 191),(nat_lit 193,ob P 193),(nat_lit 194,ob P 194),(nat_lit 196,ob P 196),(nat_lit 197,fO "has_cell" (Q.top 31) (S "roofridges.yards" 325) 196),(nat_lit 198,ob P 198),(nat_lit 200,ob P 200),(nat_lit 201,ob P 201),(nat_lit 203,ob P 203),(nat_lit 204,fO "lies" (Q.top 32) (S "roofridges.yards" 325) 203),(nat_lit 205,ob P 205),(nat_lit 207,ob P 207),(nat_lit 208,ob P 208),(nat_lit 210,ob P 210),(nat_lit 211,fO "gone" (Q.top 34) (S "roofridges.heights" 433) 210),(nat_lit 212,ob P 212),(nat_lit 214,ob P 214),(nat_lit 215,ob P 215),(nat_lit 217,ob P 217),(nat_lit 218,fO "filled" (Q.top 36) (S "roofridges.cuts" 443) 217),(nat_lit 219,ob P 219),(nat_lit 221,ob P 221),(nat_lit 222,ob P 222),(nat_lit 224,ob P 224),(nat_lit 225,fO "grown_row" (Q.top 37) (S "roofridges.cuts" 443) 224),(nat_lit 226,ob P 226),(nat_lit 229,ob P 229),(nat_lit 230,fO "grown" (Q.top 38) (S "roofridges.cuts" 443) 229),(nat_lit 231,ob P 231),(nat_lit 233,ob P 233),(nat_lit 234,ob P 234),(nat_lit 236,ob P 236),(nat_lit 237,fO "grown_yard" (Q.top 39) (S "roofridges.cuts" 443) 236),(nat_lit 238,ob P 238),(nat_lit 241,ob P 241),(nat_lit 242,fO "back" (Q.top 40) (S "roofridges.cuts" 443) 241),(nat_lit 243,ob P 243),(nat_lit 245,ob P 245),(nat_lit 246,ob P 246),(nat_lit 248,ob P 248),(nat_lit 249,fO "_law_pen" (Q.top 42) (S "law_roofridges_k28_grown_back_by_cells" 492) 248),(nat_lit 250,ob P 250),(nat_lit 252,ob P 252),(nat_lit 253,ob P 253),(nat_lit 255,ob P 255),(nat_lit 256,fO "_law_draw" (Q.top 43) (S "law_roofridges_k28_grown_back_by_cells" 492) 255),(nat_lit 257,ob P 257),(nat_lit 259,ob P 259),(nat_lit 260,ob P 260),(nat_lit 262,ob P 262),(nat_lit 263,fO "_law_lines" (Q.top 44) (S "law_roofridges_k28_grown_back_by_cells" 492) 262),(nat_lit 264,ob P 264),(nat_lit 267,ob P 267),(nat_lit 268,fO "_law_signs" (Q.top 45) (S "law_roofridges_k28_grown_back_by_cells" 492) 267),(nat_lit 269,ob P 269),(nat_lit 271,ob P 271),(nat_lit 272,ob P 272),(nat_lit 274,ob P 274),(nat_lit 275,fO "_law_paces" (Q.top 46) (S "law_roofridges_k28_grown_back_by_cells" 492) 274),(nat_lit 276,ob P 276),(nat_lit 278,ob P 278),(nat_lit 279,ob P 279),(nat_lit 281,ob P 281),(nat_lit 282,fO "_law_number" (Q.top 47) (S "law_roofridges_k28_grown_back_by_cells" 492) 281),(nat_lit 283,ob P 283),(nat_lit 285,ob P 285),(nat_lit 286,ob P 286),(nat_lit 288,ob P 288),(nat_lit 289,fO "_law_time" (Q.top 48) (S "law_roofridges_k28_grown_back_by_cells" 492) 288),(nat_lit 290,ob P 290),(nat_lit 293,ob P 293),(nat_lit 294,fO "_law_middles" (Q.top 49) (S "law_roofridges_k28_grown_back_by_cells" 492) 293),(nat_lit 295,ob P 295),(nat_lit 298,ob P 298),(nat_lit 299,fO "_law_is_reached" (Q.top 50) (S "law_roofridges_k28_grown_back_by_cells" 492) 298),(nat_lit 300,ob P 300),(nat_lit 302,ob P 302),(nat_lit 303,ob P 303),(nat_lit 305,ob P 305),(nat_lit 306,fO "_law_right" (Q.top 51) (S "law_roofridges_k28_grown_back_by_cells" 492) 305),(nat_lit 307,ob P 307),(nat_lit 309,ob P 309),(nat_lit 310,ob P 310),(nat_lit 312,ob P 312),(nat_lit 313,fO "law" (Q.top 52) (S "law_roofridges_k28_grown_back_by_cells" 492) 312)]
def as:List Addr:=[nat_lit 2,nat_lit 3,nat_lit 15,nat_lit 22,nat_lit 23,nat_lit 24,nat_lit 25,nat_lit 28,nat_lit 35,nat_lit 36,nat_lit 37,nat_lit 40,nat_lit 47,nat_lit 48,nat_lit 49,nat_lit 52,nat_lit 54,nat_lit 55,nat_lit 57,nat_lit 58,nat_lit 59,nat_lit 61,nat_lit 62,nat_lit 64,nat_lit 65,nat_lit 66,nat_lit 68,nat_lit 69,nat_lit 71,nat_lit 72,nat_lit 73,nat_lit 75,nat_lit 76,nat_lit 78,nat_lit 79,nat_lit 80,nat_lit 82,nat_lit 83,nat_lit 85,nat_lit 86,nat_lit 87,nat_lit 89,nat_lit 90,nat_lit 92,nat_lit 93,nat_lit 94,nat_lit 96,nat_lit 97,nat_lit 99,nat_lit 100,nat_lit 101,nat_lit 103,nat_lit 104,nat_lit 106,nat_lit 107,nat_lit 108,nat_lit 110,nat_lit 111,nat_lit 113,nat_lit 114,nat_lit 115,nat_lit 117,nat_lit 118,nat_lit 120,nat_lit 121,nat_lit 122,nat_lit 125,nat_lit 126,nat_lit 127,nat_lit 130,nat_lit 131,nat_lit 132,nat_lit 135,nat_lit 136,nat_lit 137,nat_lit 140,nat_lit 141,nat_lit 142,nat_lit 145,nat_lit 146,nat_lit 147,nat_lit 150,nat_lit 151,nat_lit 152,nat_lit 155,nat_lit 156,nat_lit 157,nat_lit 160,nat_lit 161,nat_lit 162,nat_lit 164,nat_lit 165,nat_lit 167,nat_lit 168,nat_lit 169,nat_lit 171,nat_lit 172,nat_lit 174,nat_lit 175,nat_lit 176,nat_lit 179,nat_lit 180,nat_lit 181,nat_lit 184,nat_lit 185,nat_lit 186,nat_lit 189,nat_lit 190,nat_lit 191,nat_lit 193,nat_lit 194,nat_lit 196,nat_lit 197,nat_lit 198,nat_lit 200,nat_lit 201,nat_lit 203,nat_lit 204,nat_lit 205,nat_lit 207,nat_lit 208,nat_lit 210,nat_lit 211,nat_lit 212,nat_lit 214,nat_lit 215,nat_lit 217,nat_lit 218,nat_lit 219,nat_lit 221,nat_lit 222,nat_lit 224,nat_lit 225,nat_lit 226,nat_lit 229,nat_lit 230,nat_lit 231,nat_lit 233,nat_lit 234,nat_lit 236,nat_lit 237,nat_lit 238,nat_lit 241,nat_lit 242,nat_lit 243,nat_lit 245,nat_lit 246,nat_lit 248,nat_lit 249,nat_lit 250,nat_lit 252,nat_lit 253,nat_lit 255,nat_lit 256,nat_lit 257,nat_lit 259,nat_lit 260,nat_lit 262,nat_lit 263,nat_lit 264,nat_lit 267,nat_lit 268,nat_lit 269,nat_lit 271,nat_lit 272,nat_lit 274,nat_lit 275,nat_lit 276,nat_lit 278,nat_lit 279,nat_lit 281,nat_lit 282,nat_lit 283,nat_lit 285,nat_lit 286,nat_lit 288,nat_lit 289,nat_lit 290,nat_lit 293,nat_lit 294,nat_lit 295,nat_lit 298,nat_lit 299,nat_lit 300,nat_lit 302,nat_lit 303,nat_lit 305,nat_lit 306,nat_lit 307,nat_lit 309,nat_lit 310,nat_lit 312,nat_lit 313]
abbrev Hk:Hook:=kHook K as (fun _=>by kernel_rfl!)
theorem opens:∀ w:World,(fencedOpening treeTable p w 3984).map (fun s=>(s.heap,s.gens,s.drawn,s.toks))=some (boot_heap w.params,Array.mk [],boot_drawn,boot_toks):=boot_open (by kernel_rfl!) (by kernel_rfl!) (fun _=>by kernel_rfl!)
abbrev Xt:Shared→Bool:=fun s=>xlAt view [] s && recOk (RowW.records PySem.Challenge.rw_roofridges_k28_grown_back_by_cells.row.toRowW) s
theorem size (w:World):((boot_heap w.params).isNs mainGlobals && (Array.mk ([]:List GenState)).size == 0,(boot_heap w.params).objs.size,(boot_heap w.params).nsMap mainGlobals "__annotations__")=(true,11,(some (R 6))):=by kernel_rfl!
theorem look1 (w:World) (os:OsState):(staticsOk (importedModules p.main.body) (boot_heap w.params) (hZ w.params) && namesBound p (hZ w.params) && gensDone (sh (hZ w.params) 606 os) && laidKept (boot_heap w.params) (hZ w.params))=true:=by kernel_rfl!
theorem look2 (w:World) (os:OsState):openSeen view [] (importedModules p.main.body) Xt true (sh (hZ w.params) 606 os)=openGood view []:=by rw [PySem.W.Fast.te4187177175401517315]; kernel_rfl!
theorem look3 (w:World) (os:OsState):Hk.obs (sh (hZ w.params) 606 os)=Hk.val w:=by kernel_rfl!
theorem left:LeftO p view [] Xt Hk.obs Hk.val 3984 true:=LeftO.of_pieces opens size run (by kernel_rfl!) (fun w=>funext fun os=>by rw [look1,look2,look3])
theorem said:PySem.Challenge.rw_roofridges_k28_grown_back_by_cells.wellSaid=true:=by rw [PySem.W.Fast.te9446332074065402090]; kernel_rfl!
end
end HD
namespace Q
open PySem L2 Z
theorem xP {K:Fg}{G:Hp}:∀ ns:List Int,Dens K G (ns.map D.int) (ns.map V.int)
 | []=>by simp only [List.map,Dens]
 | n::ns=>by simp only [List.map,Dens]; exact ⟨_,_,rfl,by simp only [Den],xP ns⟩
open HB in
theorem aII {l:PySem.W.OpenLaw}{w:World}{h:Heap}{mg:Str→Option Value}{fa:Addr} (X:(HD.K w.params).In h) (G:h.Ns mainGlobals mg) (hfa:mg "law" = some (.ref fa)) :
  ∃ fd:FuncData,(∀ (s:Shared) (v:Value),BindsTo s fd ⟨[v],[]⟩ [("_law_script", v)])∧∀ base:Heap,(HD.K w.params).In base→base.Ns mainGlobals mg→FnOk l.prog w (HD.K w.params) mg base CX0 10 fa fd ["_law_script"] (spZ (HD.K w.params) cLaw):=by
 have T:Bt mg:=mkB X G (by kernel_rfl!)
 have C_FARTHEST:=PySem.W.mg_of X G (by kernel_rfl!:PySem.W.nsIn (HD.K w.params) mainGlobals "FARTHEST" = some (some (J 1000000000 329)))
 have C_MOST_LINES:=PySem.W.mg_of X G (by kernel_rfl!:PySem.W.nsIn (HD.K w.params) mainGlobals "MOST_LINES" = some (some (J 7 327)))
 have D1:=mkD X G "is_whole" fR ["thing"] 58 57 (S "roofridges.fractions" 239) (by kernel_rfl!) (by kernel_rfl!) (by kernel_rfl!) (by kernel_rfl!) (fun _ _ _ _ _ _ us hl=>match us,hl with | [_],_=>rfl)
 have D2:=mkD X G "common_divisor" dR ["one", "other"] 65 64 (S "roofridges.fractions" 239) (by kernel_rfl!) (by kernel_rfl!) (by kernel_rfl!) (by kernel_rfl!) (fun _ _ _ _ _ _ us hl=>match us,hl with | [_,_],_=>rfl)
 have D3:=mkD X G "under" jU ["one", "other"] 114 113 (S "roofridges.fractions" 239) (by kernel_rfl!) (by kernel_rfl!) (by kernel_rfl!) (by kernel_rfl!) (fun _ _ _ _ _ _ us hl=>match us,hl with | [_,_],_=>rfl)
 have D4:=mkD X G "merged" lP ["one", "other"] 121 120 (S "roofridges.fractions" 239) (by kernel_rfl!) (by kernel_rfl!) (by kernel_rfl!) (by kernel_rfl!) (fun _ _ _ _ _ _ us hl=>match us,hl with | [_,_],_=>rfl)
 have D5:=mkD X G "bands_at" jT ["lines", "where"] 190 189 (S "roofridges.yards" 325) (by kernel_rfl!) (by kernel_rfl!) (by kernel_rfl!) (by kernel_rfl!) (fun _ _ _ _ _ _ us hl=>match us,hl with | [_,_],_=>rfl)
 have D6:=mkD X G "has_cell" jN ["yard", "across", "up"] 197 196 (S "roofridges.yards" 325) (by kernel_rfl!) (by kernel_rfl!) (by kernel_rfl!) (by kernel_rfl!) (fun _ _ _ _ _ _ us hl=>match us,hl with | [_,_,_],_=>rfl)
 have D7:=mkD X G "column" mG ["rows", "place"] 136 135 (S "roofridges.yards" 325) (by kernel_rfl!) (by kernel_rfl!) (by kernel_rfl!) (by kernel_rfl!) (fun _ _ _ _ _ _ us hl=>match us,hl with | [_,_],_=>rfl)
 have D8:=mkD X G "columns" jG ["rows"] 141 140 (S "roofridges.yards" 325) (by kernel_rfl!) (by kernel_rfl!) (by kernel_rfl!) (by kernel_rfl!) (fun _ _ _ _ _ _ us hl=>match us,hl with | [_],_=>rfl)
 have D9:=mkD X G "changes" kW ["bands"] 146 145 (S "roofridges.yards" 325) (by kernel_rfl!) (by kernel_rfl!) (by kernel_rfl!) (by kernel_rfl!) (fun _ _ _ _ _ _ us hl=>match us,hl with | [_],_=>rfl)
 have D10:=mkD X G "picked" lU ["row", "places"] 151 150 (S "roofridges.yards" 325) (by kernel_rfl!) (by kernel_rfl!) (by kernel_rfl!) (by kernel_rfl!) (fun _ _ _ _ _ _ us hl=>match us,hl with | [_,_],_=>rfl)
 have D11:=mkD X G "tidied" iL ["xs", "ys", "rows"] 156 155 (S "roofridges.yards" 325) (by kernel_rfl!) (by kernel_rfl!) (by kernel_rfl!) (by kernel_rfl!) (fun _ _ _ _ _ _ us hl=>match us,hl with | [_,_,_],_=>rfl)
 have D12:=mkD X G "lowest" gT ["top", "bottom"] 72 71 (S "roofridges.fractions" 239) (by kernel_rfl!) (by kernel_rfl!) (by kernel_rfl!) (by kernel_rfl!) (fun _ _ _ _ _ _ us hl=>match us,hl with | [_,_],_=>rfl)
 have D13:=mkD X G "fraction" iD ["top", "bottom"] 86 85 (S "roofridges.fractions" 239) (by kernel_rfl!) (by kernel_rfl!) (by kernel_rfl!) (by kernel_rfl!) (fun _ _ _ _ _ _ us hl=>match us,hl with | [_,_],_=>rfl)
 have D14:=mkD X G "plus" pQ ["one", "other"] 93 92 (S "roofridges.fractions" 239) (by kernel_rfl!) (by kernel_rfl!) (by kernel_rfl!) (by kernel_rfl!) (fun _ _ _ _ _ _ us hl=>match us,hl with | [_,_],_=>rfl)
 have D15:=mkD X G "minus" nS ["one", "other"] 100 99 (S "roofridges.fractions" 239) (by kernel_rfl!) (by kernel_rfl!) (by kernel_rfl!) (by kernel_rfl!) (fun _ _ _ _ _ _ us hl=>match us,hl with | [_,_],_=>rfl)
 have D16:=mkD X G "times" oM ["one", "other"] 107 106 (S "roofridges.fractions" 239) (by kernel_rfl!) (by kernel_rfl!) (by kernel_rfl!) (by kernel_rfl!) (fun _ _ _ _ _ _ us hl=>match us,hl with | [_,_],_=>rfl)
 have D17:=mkD X G "gone" p0 ["pace", "time"] 211 210 (S "roofridges.heights" 433) (by kernel_rfl!) (by kernel_rfl!) (by kernel_rfl!) (by kernel_rfl!) (fun _ _ _ _ _ _ us hl=>match us,hl with | [_,_],_=>rfl)
 have D18:=mkD X G "filled" lM ["row", "sign", "begin", "end"] 218 217 (S "roofridges.cuts" 443) (by kernel_rfl!) (by kernel_rfl!) (by kernel_rfl!) (by kernel_rfl!) (fun _ _ _ _ _ _ us hl=>match us,hl with | [_,_,_,_],_=>rfl)
 have D19:=mkD X G "grown_row" iX ["row", "sign", "begins", "ends", "wide"] 225 224 (S "roofridges.cuts" 443) (by kernel_rfl!) (by kernel_rfl!) (by kernel_rfl!) (by kernel_rfl!) (fun _ _ _ _ _ _ us hl=>match us,hl with | [_,_,_,_,_],_=>rfl)
 have D20:=mkD X G "grown" oG ["lines", "rows", "sign", "down", "up"] 230 229 (S "roofridges.cuts" 443) (by kernel_rfl!) (by kernel_rfl!) (by kernel_rfl!) (by kernel_rfl!) (fun _ _ _ _ _ _ us hl=>match us,hl with | [_,_,_,_,_],_=>rfl)
 have D21:=mkD X G "grown_yard" iJ ["yard", "sign", "reaches"] 237 236 (S "roofridges.cuts" 443) (by kernel_rfl!) (by kernel_rfl!) (by kernel_rfl!) (by kernel_rfl!) (fun _ _ _ _ _ _ us hl=>match us,hl with | [_,_,_],_=>rfl)
 have D22:=mkD X G "back" mZ ["yard", "paces", "height"] 242 241 (S "roofridges.cuts" 443) (by kernel_rfl!) (by kernel_rfl!) (by kernel_rfl!) (by kernel_rfl!) (fun _ _ _ _ _ _ us hl=>match us,hl with | [_,_,_],_=>rfl)
 have D23:=mkD X G "is_row" lT ["thing", "wide"] 126 125 (S "roofridges.yards" 325) (by kernel_rfl!) (by kernel_rfl!) (by kernel_rfl!) (by kernel_rfl!) (fun _ _ _ _ _ _ us hl=>match us,hl with | [_,_],_=>rfl)
 have D24:=mkD X G "rows_fit" iA ["rows", "xs", "ys"] 131 130 (S "roofridges.yards" 325) (by kernel_rfl!) (by kernel_rfl!) (by kernel_rfl!) (by kernel_rfl!) (fun _ _ _ _ _ _ us hl=>match us,hl with | [_,_,_],_=>rfl)
 have D25:=mkD X G "is_whole_line" fI ["thing"] 175 174 (S "roofridges.yards" 325) (by kernel_rfl!) (by kernel_rfl!) (by kernel_rfl!) (by kernel_rfl!) (fun _ _ _ _ _ _ us hl=>match us,hl with | [_],_=>rfl)
 have D26:=mkD X G "are_whole_lines" eJ ["thing"] 180 179 (S "roofridges.yards" 325) (by kernel_rfl!) (by kernel_rfl!) (by kernel_rfl!) (by kernel_rfl!) (fun _ _ _ _ _ _ us hl=>match us,hl with | [_],_=>rfl)
 have D27:=mkD X G "made" pR ["xs", "ys", "rows"] 185 184 (S "roofridges.yards" 325) (by kernel_rfl!) (by kernel_rfl!) (by kernel_rfl!) (by kernel_rfl!) (fun _ _ _ _ _ _ us hl=>match us,hl with | [_,_,_],_=>rfl)
 have D28:=mkD X G "is_number" iU ["thing"] 79 78 (S "roofridges.fractions" 239) (by kernel_rfl!) (by kernel_rfl!) (by kernel_rfl!) (by kernel_rfl!) (fun _ _ _ _ _ _ us hl=>match us,hl with | [_],_=>rfl)
 have D29:=mkD X G "are_number_lines" dW ["thing"] 161 160 (S "roofridges.yards" 325) (by kernel_rfl!) (by kernel_rfl!) (by kernel_rfl!) (by kernel_rfl!) (fun _ _ _ _ _ _ us hl=>match us,hl with | [_],_=>rfl)
 have D30:=mkD X G "is_yard" kK ["thing"] 168 167 (S "roofridges.yards" 325) (by kernel_rfl!) (by kernel_rfl!) (by kernel_rfl!) (by kernel_rfl!) (fun _ _ _ _ _ _ us hl=>match us,hl with | [_],_=>rfl)
 have D31:=mkD X G "lies" p3 ["yard", "x", "y"] 204 203 (S "roofridges.yards" 325) (by kernel_rfl!) (by kernel_rfl!) (by kernel_rfl!) (by kernel_rfl!) (fun _ _ _ _ _ _ us hl=>match us,hl with | [_,_,_],_=>rfl)
 have D32:=mkD X G "_law_pen" sV ["_law_script"] 249 248 (S "law_roofridges_k28_grown_back_by_cells" 492) (by kernel_rfl!) (by kernel_rfl!) (by kernel_rfl!) (by kernel_rfl!) (fun _ _ _ _ _ _ us hl=>match us,hl with | [_],_=>rfl)
 have D33:=mkD X G "_law_draw" i7 ["_law_pen_here", "_law_many"] 256 255 (S "law_roofridges_k28_grown_back_by_cells" 492) (by kernel_rfl!) (by kernel_rfl!) (by kernel_rfl!) (by kernel_rfl!) (fun _ _ _ _ _ _ us hl=>match us,hl with | [_,_],_=>rfl)
 have D34:=mkD X G "_law_lines" oD ["_law_pen_here", "_law_gap"] 263 262 (S "law_roofridges_k28_grown_back_by_cells" 492) (by kernel_rfl!) (by kernel_rfl!) (by kernel_rfl!) (by kernel_rfl!) (fun _ _ _ _ _ _ us hl=>match us,hl with | [_,_],_=>rfl)
 have D35:=mkD X G "_law_signs" n4 ["_law_pen_here", "_law_xs", "_law_ys"] 268 267 (S "law_roofridges_k28_grown_back_by_cells" 492) (by kernel_rfl!) (by kernel_rfl!) (by kernel_rfl!) (by kernel_rfl!) (fun _ _ _ _ _ _ us hl=>match us,hl with | [_,_,_],_=>rfl)
 have D36:=mkD X G "_law_paces" oC ["_law_pen_here"] 275 274 (S "law_roofridges_k28_grown_back_by_cells" 492) (by kernel_rfl!) (by kernel_rfl!) (by kernel_rfl!) (by kernel_rfl!) (fun _ _ _ _ _ _ us hl=>match us,hl with | [_],_=>rfl)
 have D37:=mkD X G "_law_number" j9 ["_law_upper", "_law_bottom"] 282 281 (S "law_roofridges_k28_grown_back_by_cells" 492) (by kernel_rfl!) (by kernel_rfl!) (by kernel_rfl!) (by kernel_rfl!) (fun _ _ _ _ _ _ us hl=>match us,hl with | [_,_],_=>rfl)
 have D38:=mkD X G "_law_time" pT ["_law_pen_here", "_law_xs", "_law_ys", "_law_paces_here"] 289 288 (S "law_roofridges_k28_grown_back_by_cells" 492) (by kernel_rfl!) (by kernel_rfl!) (by kernel_rfl!) (by kernel_rfl!) (fun _ _ _ _ _ _ us hl=>match us,hl with | [_,_,_,_],_=>rfl)
 have D39:=mkD X G "_law_middles" kM ["_law_lines_here", "_law_one_way", "_law_other_way", "_law_time_here"] 294 293 (S "law_roofridges_k28_grown_back_by_cells" 492) (by kernel_rfl!) (by kernel_rfl!) (by kernel_rfl!) (by kernel_rfl!) (fun _ _ _ _ _ _ us hl=>match us,hl with | [_,_,_,_],_=>rfl)
 have D40:=mkD X G "_law_is_reached" iC ["_law_xs", "_law_ys", "_law_signs_here", "_law_paces_here", "_law_point", "_law_time_here"] 299 298 (S "law_roofridges_k28_grown_back_by_cells" 492) (by kernel_rfl!) (by kernel_rfl!) (by kernel_rfl!) (by kernel_rfl!) (fun _ _ _ _ _ _ us hl=>match us,hl with | [_,_,_,_,_,_],_=>rfl)
 have D41:=mkD X G "_law_right" nX ["_law_xs", "_law_ys", "_law_signs_here", "_law_paces_here", "_law_time_here"] 306 305 (S "law_roofridges_k28_grown_back_by_cells" 492) (by kernel_rfl!) (by kernel_rfl!) (by kernel_rfl!) (by kernel_rfl!) (fun _ _ _ _ _ _ us hl=>match us,hl with | [_,_,_,_,_],_=>rfl)
 have D42:=mkD X G "law" n6 ["_law_script"] 313 312 (S "law_roofridges_k28_grown_back_by_cells" 492) (by kernel_rfl!) (by kernel_rfl!) (by kernel_rfl!) (by kernel_rfl!) (fun _ _ _ _ _ _ us hl=>match us,hl with | [_],_=>rfl)
 cases hfa.symm.trans D42.m
 refine ⟨PySem.W.fnOf "law" "law" (fV n6) (eO n6) (aO n6) .none .none .none (S "law_roofridges_k28_grown_back_by_cells" 492) none (.ref 312) .none,fun s v => .of_eq rfl,fun base _ _ => ?_⟩
 have G1:=vP (P:=l.prog) (w:=w) (base:=base) D1 T
 have G2:=oW (P:=l.prog) (w:=w) (base:=base) D2 T
 have G3:=aDH (P:=l.prog) (w:=w) (base:=base) D3
 have G4:=aAO (P:=l.prog) (w:=w) (base:=base) D4 D3 G3 T
 have G5:=vY (P:=l.prog) (w:=w) (base:=base) D5 D3 G3 T
 have G6:=wB (P:=l.prog) (w:=w) (base:=base) D6 T
 have G7:=aBL (P:=l.prog) (w:=w) (base:=base) D7
 have G8:=yM (P:=l.prog) (w:=w) (base:=base) D8 D7 G7 T
 have G9:=yP (P:=l.prog) (w:=w) (base:=base) D9 T
 have G10:=aAA (P:=l.prog) (w:=w) (base:=base) D10
 have G11:=aAY (P:=l.prog) (w:=w) (base:=base) D11 D9 G9 D8 G8 D10 G10 T
 have G12:=aAX (P:=l.prog) (w:=w) (base:=base) D12 D2 G2
 have G13:=wD (P:=l.prog) (w:=w) (base:=base) D13 D1 G1 D12 G12
 have G14:=aF2 (P:=l.prog) (w:=w) (base:=base) D14 D12 G12
 have G15:=aDV (P:=l.prog) (w:=w) (base:=base) D15 D12 G12
 have G16:=aD9 (P:=l.prog) (w:=w) (base:=base) D16 D12 G12
 have G17:=aHF (P:=l.prog) (w:=w) (base:=base) D17 D16 G16 D13 G13
 have G18:=aBS (P:=l.prog) (w:=w) (base:=base) D18
 have G19:=vM (P:=l.prog) (w:=w) (base:=base) D19 D18 G18 T
 have G20:=aDE (P:=l.prog) (w:=w) (base:=base) D20 D15 G15 D14 G14 D4 G4 D19 G19 T
 have G21:=sJ (P:=l.prog) (w:=w) (base:=base) D21 D20 G20 D8 G8 D11 G11
 have G22:=aHJ (P:=l.prog) (w:=w) (base:=base) D22 D17 G17 D21 G21 T
 have G23:=aBR (P:=l.prog) (w:=w) (base:=base) D23 T
 have G24:=vN (P:=l.prog) (w:=w) (base:=base) D24 D23 G23 T
 have G25:=pK (P:=l.prog) (w:=w) (base:=base) D25 D1 G1 C_FARTHEST
 have G26:=mX (P:=l.prog) (w:=w) (base:=base) D26 D25 G25 T C_MOST_LINES
 have G27:=aF8 (P:=l.prog) (w:=w) (base:=base) D27 D26 G26 D24 G24 D11 G11 D13 G13 T
 have G28:=t9 (P:=l.prog) (w:=w) (base:=base) D28 D1 G1 D2 G2 T
 have G29:=mJ (P:=l.prog) (w:=w) (base:=base) D29 D28 G28 D3 G3 T
 have G30:=yL (P:=l.prog) (w:=w) (base:=base) D30 D29 G29 D24 G24 D11 G11 T
 have G31:=aGL (P:=l.prog) (w:=w) (base:=base) D31 D5 G5 D6 G6 T
 have G32:=aIB (P:=l.prog) (w:=w) (base:=base) D32
 have G33:=aHG (P:=l.prog) (w:=w) (base:=base) D33 T
 have G34:=aEE (P:=l.prog) (w:=w) (base:=base) D34 D33 G33 T
 have G35:=aEH (P:=l.prog) (w:=w) (base:=base) D35 D33 G33 T
 have G36:=aDD (P:=l.prog) (w:=w) (base:=base) D36 D33 G33
 have G37:=aAG (P:=l.prog) (w:=w) (base:=base) D37 T
 have G38:=aGH (P:=l.prog) (w:=w) (base:=base) D38 D33 G33 D37 G37 T
 have G39:=yW (P:=l.prog) (w:=w) (base:=base) D39 T
 have G40:=sL (P:=l.prog) (w:=w) (base:=base) D40 T
 have G41:=aCS (P:=l.prog) (w:=w) (base:=base) D41 D27 G27 D22 G22 D30 G30 D39 G39 D40 G40 D31 G31 D37 G37 T
 have G42:=aI4 (P:=l.prog) (w:=w) (base:=base) D42 D32 G32 D33 G33 D34 G34 D35 G35 D36 G36 D38 G38 D41 G41 D22 G22 T
 exact G42
theorem walk {l:PySem.W.OpenLaw}{q:Program}{loose:List Str}{XP:(Str→Option Value)→Heap→Prop}{YP:World→Heap→Prop}{d:DefRec}{K:Params→PySem.W.Frag} (hn:l.most=some 63) (hdf:d.params.defaults=[])
  (hY:∀ (w:World) (h:Heap),YP w h→(K w.params).In h)
  (F:∀ (w:World) (mg:Str→Option Value) (fa:Addr) (h:Heap),(K w.params).In h→h.Ns mainGlobals mg→mg d.name=some (.ref fa) →
   ∃ fd:FuncData,(∀ (s:Shared) (u:Value),BindsTo s fd ⟨[u],[]⟩ [("_law_script", u)])∧∀ base:Heap,(K w.params).In base→base.Ns mainGlobals mg→FnOk l.prog w (K w.params) mg base CX0 10 fa fd ["_law_script"] (spZ (K w.params) cLaw)) :
  PySem.W.WalkO q loose XP YP l.row.toRowW d [] (fun f vs=>PySem.call f vs) :=
 L2.aF6 (n:=63) (k:=10) (x := "_law_script") (CX:=fun _=>CX0) (sp:=fun w=>spZ (K w.params) cLaw) hn (by decide) hdf ⟨rfl,by decide,by decide,rfl⟩ hY F
  (fun w H a ns hl _ hS=>⟨H,fun _=>none,[.fl (ns.map .int)],fun d _=>d = .bl true,⟨Same.refl H,nofun⟩,⟨_,_,rfl,aIY hS (xP ns),by simp only [Dens]⟩,⟨ns,rfl,hl,fun _=>rfl⟩,fun v G' H' d M' _ hd e=>by subst e; simpa only [Den] using hd⟩) fun _ _ _ _ _ z=>z
end Q
open PySem PySem.W PyProof.Rows
set_option maxRecDepth 100000 in
set_option maxHeartbeats 0 in
theorem PySem.Challenge.cw_roofridges_k28_grown_back_by_cells_holds : PySem.Challenge.rw_roofridges_k28_grown_back_by_cells.Holds := by
 w_on
 refine holds_law HD.said fun said => ?_
 refine holds_open (q:=HD.view) (loose:=[]) (Xt:=HD.Xt) (XP:=XL HD.view []) (Yf:=HD.Hk.obs) (Ya:=HD.Hk.val) (YP:=HD.Hk.says) HD.left (Hook.of HD.Hk) (Hook.keeps HD.Hk) (fun s e=>xl_of s (Bool.and_eq_true_iff.mp e).1) XL.keeps (by rfl) (by rfl) (by rfl) (fun s e=>recFacts_of (Bool.and_eq_true_iff.mp e).2) (by rfl) (by first | assumption | decide +kernel) (by decide +kernel) ⟨rfl,rfl,rfl,rfl,rfl,by decide +kernel⟩ ?hw ?hc
 case hw=>w_witness2
 exact Q.walk (l:=PySem.Challenge.rw_roofridges_k28_grown_back_by_cells) (K:=HD.K) rfl rfl (fun w h Y=>PySem.W.kIn_of Y) fun w mg fa h KX G hmg=>Q.aII KX G hmg
