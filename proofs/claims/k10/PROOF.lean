import PyProof.Rows.All
import Wide.All
import OpenK.AllK
import Wide.FinOn
import Lean
import PyProof.EqAt
import PyProof.EqKinds
import PyProof.NeKinds
import PyProof.TupleCall
import KE.KRevIter
import PySem.Challenge.RW_roofridges_k10_whole_turns_go_round
set_option Elab.async false
set_option linter.all false
set_option maxRecDepth 100000
set_option maxHeartbeats 4000000
namespace L2
open PySem PySem.Spec PyProof.Rows
abbrev Key := Sum Int Str
def keyIs : Key → Value → Bool
 | .inl k, v => Value.isInt k v
 | .inr x, v => Value.isStrOf x v
def keyH (w : World) : Key → Int
 | .inl k => hashInt k
 | .inr x => hashStr w x
theorem cP : ∀ {k : Key} {v : Value}, keyIs k v = true → (∃ i t, k = Sum.inl i ∧ v = Value.int i t) ∨ (∃ x t, k = Sum.inr x ∧ v = Value.str x t)
 | .inl i, v, h => by
  obtain ⟨t, e⟩ := Value.isInt_shape (k := i) (v := v) h
  exact .inl ⟨i, t, rfl, e⟩
 | .inr x, v, h => by
  obtain ⟨t, e⟩ := Value.isStrOf_shape (x := x) (v := v) h
  exact .inr ⟨x, t, rfl, e⟩
theorem key_ll (a b : Int) : decide ((Sum.inl a : Key) = Sum.inl b) = (a == b) := by
 by_cases e : a = b
 ·subst e; simp
 ·have h : ¬ (Sum.inl a : Key) = Sum.inl b := fun q => e (Sum.inl.inj q)
  rw [decide_eq_false h]
  exact (beq_eq_false_iff_ne.mpr e).symm
theorem key_rr (a b : Str) : decide ((Sum.inr a : Key) = Sum.inr b) = decide (a = b) := by
 by_cases e : a = b
 ·subst e; simp
 ·have h : ¬ (Sum.inr a : Key) = Sum.inr b := fun q => e (Sum.inr.inj q)
  rw [decide_eq_false h, decide_eq_false e]
theorem key_lr (a : Int) (b : Str) : decide ((Sum.inl a : Key) = Sum.inr b) = false := decide_eq_false (fun q => nomatch q)
theorem key_rl (a : Str) (b : Int) : decide ((Sum.inr a : Key) = Sum.inl b) = false := decide_eq_false (fun q => nomatch q)
def p5 (prog : Program) (w : World) : PySem.KeyKind prog w Key where
 is := keyIs
 hash := keyH w
 inj := fun v a b ha hb => by
  rcases cP ha with ⟨i, t, rfl, rfl⟩ | ⟨x, t, rfl, rfl⟩
  ·rcases cP hb with ⟨j, u, rfl, e⟩ | ⟨y, u, rfl, e⟩
   ·injection e with e1 _; rw [e1]
   ·exact nomatch e
  ·rcases cP hb with ⟨j, u, rfl, e⟩ | ⟨y, u, rfl, e⟩
   ·exact nomatch e
   ·injection e with e1 _; rw [e1]
 byValue := fun k v h => by
  rcases cP h with ⟨i, t, rfl, rfl⟩ | ⟨x, t, rfl, rfl⟩ <;> rfl
 pyHash := fun hv h => by
  rcases cP hv with ⟨i, t, rfl, rfl⟩ | ⟨x, t, rfl, rfl⟩
  ·exact wpAny_pyHash_int h
  ·exact wpAny_pyHash_str h
 eqBool := fun hu hv h => by
  rcases cP hu with ⟨i, t, rfl, rfl⟩ | ⟨x, t, rfl, rfl⟩
  ·rcases cP hv with ⟨j, u, rfl, rfl⟩ | ⟨y, u, rfl, rfl⟩
   ·rw [key_ll] at h; exact wpAny_eqBool_int h
   ·rw [key_lr] at h; exact SeqAt.EqAt.int_str i t y u _ _ _ _ h
  ·rcases cP hv with ⟨j, u, rfl, rfl⟩ | ⟨y, u, rfl, rfl⟩
   ·rw [key_rl] at h; exact SeqAt.EqAt.str_int x t j u _ _ _ _ h
   ·rw [key_rr] at h; exact wpAny_eqBool_str h
 «strs» := fun k x t v h => by
  rcases cP h with ⟨i, u, rfl, e⟩ | ⟨y, u, rfl, e⟩
  ·exact nomatch e
  ·injection e with e1 _
   subst e1
   cases v <;> rfl
end L2
namespace L2
open PySem PySem.Spec PyProof.Rows
inductive V where
 | non | bl (b : Bool) | int (i : Int) | str (x : Str) | byt (b : Array UInt8) | flt (b : UInt64) | ref (a : Addr) | ty (n : String)
 deriving DecidableEq
def RelV : V → Value → Prop
 | .non, u => u = Value.none
 | .bl b, u => u = Value.bool b
 | .int i, u => ∃ t, u = Value.int i t
 | .str x, u => ∃ t, u = Value.str x t
 | .byt b, u => ∃ t, u = Value.bytes b t
 | .flt b, u => ∃ t, u = Value.float b t
 | .ref a, u => u = Value.ref a
 | .ty n, u => u = Value.type n
abbrev Vals : List V → List Value → Prop := Paired RelV
theorem Vals.length {xs : List V} {us : List Value} (r : Vals xs us) : xs.length = us.length := Paired.length r
theorem Vals.get : ∀ {xs : List V} {us : List Value} {i : Nat} {x : V}, Vals xs us → xs[i]? = some x → ∃ u, us[i]? = some u ∧ RelV x u
 | _, _, _, _, .nil, e => by simp at e
 | _, _, 0, _, .cons r _, e => by simp at e; subst e; exact ⟨_, rfl, r⟩
 | _, _, i + 1, x, .cons _ t, e => by
  obtain ⟨u, h1, h2⟩ := Vals.get (i := i) (x := x) t (by simpa using e)
  exact ⟨u, by simpa using h1, h2⟩
theorem Vals.set {x : V} {u : Value} (r : RelV x u) : ∀ {xs : List V} {us : List Value} (i : Nat), Vals xs us → Vals (xs.set i x) (us.set i u)
 | _, _, _, .nil => .nil
 | _, _, 0, .cons _ t => .cons r t
 | _, _, i + 1, .cons q t => .cons q (Vals.set r i t)
theorem Vals.append : ∀ {xs ys : List V} {us ws : List Value}, Vals xs us → Vals ys ws → Vals (xs ++ ys) (us ++ ws)
 | _, _, _, _, .nil, s => s
 | _, _, _, _, .cons r t, s => .cons r (Vals.append t s)
theorem Vals.take : ∀ {xs : List V} {us : List Value} (n : Nat), Vals xs us → Vals (xs.take n) (us.take n)
 | _, _, 0, _ => .nil
 | _, _, _ + 1, .nil => .nil
 | _, _, n + 1, .cons r t => .cons r (Vals.take n t)
theorem Vals.drop : ∀ {xs : List V} {us : List Value} (n : Nat), Vals xs us → Vals (xs.drop n) (us.drop n)
 | _, _, 0, r => r
 | _, _, _ + 1, .nil => .nil
 | _, _, n + 1, .cons _ t => Vals.drop n t
def RelO : Option V → Option Value → Prop
 | some v, some u => RelV v u
 | none, none => True
 | _, _ => False
def KV {κ : Type} : List (κ × V) → List (κ × Value) → Prop := Paired fun (p : κ × V) (q : κ × Value) => p.1 = q.1 ∧ RelV p.2 q.2
def kV : Key → V
 | .inl i => .int i
 | .inr x => .str x
inductive HO where
 /-- a list -/
 | lst (xs : List V)
 /-- a tuple (never changes) -/
 | tup (xs : List V)
 /-- a dict whose keys are ints and texts; one whose keys are tuples of ints and texts (the empty one is both) -/
 | dK (kvs : List (Key × V)) | dT (kvs : List (List Key × V))
 /-- a set of ints: its members, its size -/
 | set (S : Int → Bool) (n : Nat)
 /-- an instance of the class at C, its dict at dx, its attributes -/
 | ins (C dx : Addr) (fs : List (Str × V))
 /-- the dict of the instance at x -/
 | own (x : Addr)
 /-- the dict of an exception -/
 | xd (fs : List (Str × V))
 /-- a bound method, f of x -/
 | met (f x : Addr)
 /-- a range object lo, lo + 1, .. below hi -/
 | rng (lo hi : Int)
 /-- a thing that is known to the object (the script; a dict while a loop walks it): read, never written while it is so -/
 | frz (o : Obj) (u : HO)
 /-- a code object's table -/
 | tbl (ps : Array Value)
 /-- any other thing, by what is true of its one object (a def of one's own: SetO a S n := HO.ext fun h => ..) -/
 | ext (φ : Heap → Prop)
abbrev Hp := Addr → Option HO
def upd (H : Hp) (a : Addr) (o : HO) : Hp := fun b => if b = a then some o else H b
theorem bG {H : Hp} {a : Addr} {o : HO} : upd H a o a = some o := by unfold upd; rw [if_pos rfl]
theorem aW {H : Hp} {a b : Addr} {o : HO} (h : b ≠ a) : upd H a o b = H b := by unfold upd; rw [if_neg h]
theorem bH {H : Hp} {a b : Addr} {o : HO} (h : H a = some o) (h' : H b = none) : a ≠ b := by
 intro e; subst e; rw [h] at h'; cases h'
section
variable (P : Program) (w : World)
def eG (H : Hp) (h : Heap) (a : Addr) : HO → Prop
 | .lst xs => xs.length ≤ sizeLine ∧ ∃ (its : List Value) (n : Nat), Vals xs its ∧ h.get? a = some { cls := .type "list", data := .seq its.toArray n }
 | .tup xs => xs.length ≤ sizeLine ∧ ∃ its : List Value, Vals xs its ∧ IsTup h a its.toArray
 | .dK kvs => kvs.length ≤ sizeLine ∧ (a == sysModules) = false ∧ ∃ vs, KV kvs vs ∧ h.DictOf (p5 P w) a vs
 | .dT kvs => kvs.length ≤ sizeLine ∧ (a == sysModules) = false ∧ ∃ xs : List (List Key × Addr × Value),
   Paired (fun (p : List Key × V) (q : List Key × Addr × Value) => p.1 = q.1 ∧ H q.2.1 = some (.tup (p.1.map kV)) ∧ RelV p.2 q.2.2) kvs xs ∧
   ∃ o es ep, h.get? a = some o ∧ o.ExactDict ∧ o.data = .dict es ep ∧ es.toList = xs.map (entryOfKey (tupleKind (p5 P w))) ∧ (xs.map (·.1)).Nodup
 | .set S n => h.SetOf (intKind P w) a S n
 | .ins C dx fs => H dx = some (.own a) ∧ fs.length ≤ 1000 ∧ dx ≠ a ∧ h.get? a = some (PySem.W.instObj C dx) ∧
   ∃ mA, h.Ns1 dx mA ∧ (∀ f, RelO (fs.lookup f) (mA f)) ∧ PySem.Within mA (fs.map (·.1))
 | .own _ => ∃ o, h.get? a = some o
 | .xd fs => ∃ mA, h.Ns1 a mA ∧ ∀ f, RelO (fs.lookup f) (mA f)
 | .rng lo hi => ∃ t u v, h.get? a = some { cls := .type "range", data := .fields #[.int lo t, .int hi u, .int 1 v] }
 | .frz o u => h.get? a = some o ∧ eG H h a u
 | .tbl ps => h.get? a = some { cls := .none, data := .fields ps }
 | .met f x => h.get? a = some (PySem.W.methodObj (.ref f) (.ref x))
 | .ext φ => φ h ∧ (∃ o, h.get? a = some o) ∧ ∀ h1 h2 : Heap, φ h1 → (∀ o, h1.get? a = some o → h2.get? a = some o) → φ h2
def HOk (H : Hp) (h : Heap) : Prop := ∀ a o, H a = some o → eG P w H h a o
end
section
variable {P : Program} {w : World} {H H' : Hp} {h h' : Heap} {a : Addr} {o : HO}
theorem eG.lt (x : eG P w H h a o) : a < h.objs.size := by
 cases o with
 | lst xs => obtain ⟨_, _, _, _, e⟩ := x; exact Heap.lt_size e
 | tup xs => obtain ⟨_, _, _, p⟩ := x; exact p.lt
 | dK kvs => obtain ⟨_, _, _, _, o, _, _, e, _⟩ := x; exact Heap.lt_size e
 | dT kvs => obtain ⟨_, _, _, _, o, _, _, e, _⟩ := x; exact Heap.lt_size e
 | set S n => obtain ⟨o, _, _, _, e, _⟩ := x; exact Heap.lt_size e
 | ins C dx fs => obtain ⟨_, _, _, e, _⟩ := x; exact Heap.lt_size e
 | own y => obtain ⟨_, e⟩ := x; exact Heap.lt_size e
 | xd fs => obtain ⟨_, ⟨_, _, _, e, _⟩, _⟩ := x; exact Heap.lt_size e
 | rng lo hi => obtain ⟨_, _, _, e⟩ := x; exact Heap.lt_size e
 | frz ob u => obtain ⟨e, _⟩ := x; exact Heap.lt_size e
 | tbl ps => exact Heap.lt_size (show h.get? a = some _ from x)
 | met f y => exact Heap.lt_size (show h.get? a = some _ from x)
 | ext φ => obtain ⟨_, ⟨_, e⟩, _⟩ := x; exact Heap.lt_size e
theorem Paired.mapP {α β : Type} {F G : α → β → Prop} : ∀ {l₁ : List α} {l₂ : List β}, Paired F l₁ l₂ → (∀ a b, F a b → G a b) → Paired G l₁ l₂
 | _, _, .nil, _ => .nil
 | _, _, .cons r t, f => .cons (f _ _ r) (Paired.mapP t f)
theorem eG.stay (x : eG P w H h a o) (k : ∀ b u, (b = a ∨ H b = some (.own a)) → h.get? b = some u → h'.get? b = some u)
  (ho : ∀ b, H b = some (.own a) → H' b = some (.own a)) (ht : ∀ b xs, H b = some (.tup xs) → H' b = some (.tup xs)) : eG P w H' h' a o := by
 induction o with
 | lst xs => obtain ⟨z, its, n, r, e⟩ := x; exact ⟨z, its, n, r, k _ _ (.inl rfl) e⟩
 | tup xs => obtain ⟨z, its, r, ob, e, c⟩ := x; exact ⟨z, its, r, ob, k _ _ (.inl rfl) e, c⟩
 | dK kvs => obtain ⟨z, y, vs, r, ob, es, ep, e, c⟩ := x; exact ⟨z, y, vs, r, ob, es, ep, k _ _ (.inl rfl) e, c⟩
 | dT kvs =>
  obtain ⟨z, y, xs, r, ob, es, ep, e, c⟩ := x
  exact ⟨z, y, xs, Paired.mapP r fun p q z => ⟨z.1, ht _ _ z.2.1, z.2.2⟩, ob, es, ep, k _ _ (.inl rfl) e, c⟩
 | set S n => obtain ⟨ob, es, ep, t, e, c⟩ := x; exact ⟨ob, es, ep, t, k _ _ (.inl rfl) e, c⟩
 | ins C dx fs =>
  obtain ⟨d, z, ne, e, mA, ⟨od, es, ep, e2, c⟩, r⟩ := x
  exact ⟨ho _ d, z, ne, k _ _ (.inl rfl) e, mA, ⟨od, es, ep, k _ _ (.inr d) e2, c⟩, r⟩
 | own y => obtain ⟨ob, e⟩ := x; exact ⟨ob, k _ _ (.inl rfl) e⟩
 | xd fs => obtain ⟨mA, ⟨od, es, ep, e, c⟩, r⟩ := x; exact ⟨mA, ⟨od, es, ep, k _ _ (.inl rfl) e, c⟩, r⟩
 | rng lo hi => obtain ⟨t, u, v, e⟩ := x; exact ⟨t, u, v, k _ _ (.inl rfl) e⟩
 | frz ob u ih => obtain ⟨e, q⟩ := x; exact ⟨k _ _ (.inl rfl) e, ih q⟩
 | tbl ps =>
  have e : h.get? a = some { cls := .none, data := .fields ps } := x
  show h'.get? a = some { cls := .none, data := .fields ps }
  exact k a _ (.inl rfl) e
 | met f y =>
  have e : h.get? a = some (PySem.W.methodObj (.ref f) (.ref y)) := x
  show h'.get? a = some (PySem.W.methodObj (.ref f) (.ref y))
  exact k a _ (.inl rfl) e
 | ext φ => obtain ⟨p, ⟨o, e⟩, st⟩ := x; exact ⟨st _ _ p fun o q => k _ _ (.inl rfl) q, ⟨o, k _ _ (.inl rfl) e⟩, st⟩
theorem HOk.lt (x : HOk P w H h) (e : H a = some o) : a < h.objs.size := (x a o e).lt
theorem HOk.fresh (x : HOk P w H h) (e : h.objs.size ≤ a) : H a = none := by
 cases q : H a with
 | none => rfl
 | some u => exact absurd (Nat.lt_of_lt_of_le (x.lt q) e) (Nat.lt_irrefl _)
theorem HOk.kept (x : HOk P w H h) (k : ∀ b u, h.get? b = some u → h'.get? b = some u) : HOk P w H h' := fun a o e =>
 (x a o e).stay (fun b u _ q => k b u q) (fun _ q => q) fun _ _ q => q
theorem HOk.laid (x : HOk P w H h) (k : ∀ b u, h.get? b = some u → h'.get? b = some u) (hp : h.objs.size ≤ a) (new : eG P w (upd H a o) h' a o) : HOk P w (upd H a o) h' := fun b u e => by
 have hn := x.fresh hp
 by_cases hb : b = a
 ·subst hb; rw [bG] at e; cases e; exact new
 ·rw [aW hb] at e
  exact (x b u e).stay (fun c v _ q => k c v q) (fun c q => by rw [aW (bH q hn)]; exact q) fun c xs q => by rw [aW (bH q hn)]; exact q
end
def Rd (H : Hp) (a : Addr) (u : HO) : Prop := H a = some u ∨ ∃ o, H a = some (.frz o u)
theorem Rd.ok {P : Program} {w : World} {H : Hp} {h : Heap} {a : Addr} {u : HO} (r : Rd H a u) (x : HOk P w H h) : eG P w H h a u := by
 rcases r with r | ⟨o, r⟩
 ·exact x a u r
 ·obtain ⟨_, q⟩ := x a _ r
  exact q
def Mut : Option HO → Prop
 | some (.lst _) => True
 | some (.dK _) => True
 | some (.dT _) => True
 | some (.set _ _) => True
 | some (.ins _ _ _) => True
 | some (.ext _) => True
 | _ => False
section
variable {P : Program} {w : World} {H : Hp} {h h' : Heap} {x e : Addr} {o' : HO}
theorem HOk.write (ok : HOk P w H h) (mu : Mut (H x)) (he : e = x ∨ H e = some (.own x)) (k : ∀ b u, b ≠ e → h.get? b = some u → h'.get? b = some u) (heo : ∃ u, h'.get? e = some u)
  (new : eG P w (upd H x o') h' x o') : HOk P w (upd H x o') h' := fun b u q => by
 have nown : ∀ c y, H c = some (.own y) → c ≠ x := fun c y r z => by subst z; rw [r] at mu; exact mu
 have ntup : ∀ c xs, H c = some (.tup xs) → c ≠ x := fun c xs r z => by subst z; rw [r] at mu; exact mu
 by_cases hb : b = x
 ·subst hb; rw [bG] at q; cases q; exact new
 ·rw [aW hb] at q
  by_cases hbe : b = e
  ·have q' : H b = some (.own x) := by
    rcases he with z | z
    ·exact absurd (hbe.trans z) hb
    ·rw [hbe]; exact z
   rw [q] at q'; cases q'
   obtain ⟨v, hv⟩ := heo
   exact ⟨v, by rw [hbe]; exact hv⟩
  ·refine (ok b u q).stay (fun c v hc r => k c v ?_ r) (fun c r => by rw [aW (nown c b r)]; exact r) fun c xs r => by rw [aW (ntup c xs r)]; exact r
   rcases hc with rfl | hc
   ·exact hbe
   ·rintro rfl
    rcases he with z | z
    ·exact nown c b hc z
    ·rw [hc] at z; cases z; exact hb rfl
end
structure Un (fs ex : List Addr) (H H' : Hp) (h h' : Heap) : Prop where
 keep : ∀ b o, h.get? b = some o → H b = none → b ∉ fs → b ∉ ex → h'.get? b = some o
 slot : ∀ b o, h.get? b = some o → H b = none → b ∈ fs → b ∉ ex → ∃ sl, h'.get? b = some { o with slots := sl }
 free : ∀ b o, h.get? b = some o → H b = none → b ∉ ex → H' b = none
 there : ∀ b o, h.get? b = some o → b ∉ ex → ∃ o', h'.get? b = some o'
 tups : ∀ b xs, H b = some (.tup xs) → H' b = some (.tup xs)
 frzs : ∀ b o u, H b = some (.frz o u) → H' b = some (.frz o u)
 tbls : ∀ b ps, H b = some (.tbl ps) → ∃ more, H' b = some (.tbl (ps ++ more))
section
variable {fs fs' ex ex' : List Addr} {H H1 H2 : Hp} {h h1 h2 h' : Heap} {a x e : Addr} {o : HO}
theorem Un.any (u : Un fs ex H H1 h h1) {b : Addr} {ob : Obj} (q : h.get? b = some ob) (n : H b = none) (hx : b ∉ ex) : ∃ sl, h1.get? b = some { ob with slots := sl } := by
 by_cases hb : b ∈ fs
 ·exact u.slot b ob q n hb hx
 ·exact ⟨ob.slots, u.keep b ob q n hb hx⟩
theorem Un.kept (k : ∀ b u, h.get? b = some u → h'.get? b = some u) : Un fs ex H H h h' :=
 ⟨fun b ob q _ _ _ => k b ob q, fun b ob q _ _ _ => ⟨ob.slots, k b ob q⟩, fun _ _ _ n _ => n, fun b ob q _ => ⟨ob, k b ob q⟩, fun _ _ q => q, fun _ _ _ q => q, fun _ ps q => ⟨#[], by rw [q]; simp⟩⟩
theorem Un.refl : Un fs ex H H h h := Un.kept fun _ _ q => q
theorem Un.laid (k : ∀ b u, h.get? b = some u → h'.get? b = some u) (hp : h.objs.size ≤ a) (hn : H a = none) : Un fs ex H (upd H a o) h h' where
 keep := fun b u q _ _ _ => k b u q
 slot := fun b u q _ _ _ => ⟨u.slots, k b u q⟩
 free := fun b u q n _ => by rw [aW (Nat.ne_of_lt (Nat.lt_of_lt_of_le (Heap.lt_size q) hp))]; exact n
 there := fun b u q _ => ⟨u, k b u q⟩
 tups := fun b xs q => by rw [aW (bH q hn)]; exact q
 frzs := fun b u xs q => by rw [aW (bH q hn)]; exact q
 tbls := fun b ps q => ⟨#[], by rw [aW (bH q hn), q]; simp⟩
theorem Un.write (mu : Mut (H x)) (he : e = x ∨ H e = some (.own x)) (k : ∀ b u, b ≠ e → h.get? b = some u → h'.get? b = some u) (heo : ∃ u, h'.get? e = some u) : Un fs ex H (upd H x o) h h' := by
 have hx : ∀ b, H b = none → b ≠ x := fun b n z => by subst z; rw [n] at mu; exact mu
 have hb : ∀ b, H b = none → b ≠ e := fun b n z => by
  subst z
  rcases he with r | r
  ·exact hx b n r
  ·rw [n] at r; cases r
 have hm : ∀ b u, H b = some u → ¬ Mut (some u) → b ≠ x := fun b u q nm z => by subst z; rw [q] at mu; exact nm mu
 refine ⟨fun b u q n _ _ => k b u (hb b n) q, fun b u q n _ _ => ⟨u.slots, k b u (hb b n) q⟩, fun b u q n _ => by rw [aW (hx b n)]; exact n, fun b u q _ => ?_,
  fun b xs q => by rw [aW (hm b _ q fun z => z)]; exact q, fun b u xs q => by rw [aW (hm b _ q fun z => z)]; exact q, fun b ps q => ⟨#[], by rw [aW (hm b _ q fun z => z), q]; simp⟩⟩
 by_cases hbe : b = e
 ·subst hbe; exact heo
 ·exact ⟨u, k b u hbe q⟩
end
def trk (h : Heap) (H : Hp) : List Addr := (List.range h.objs.size).filter fun a => (H a).isSome
def hidT (h : Heap) (H : Hp) : Heap := PySem.W.hideAll h (trk h H)
theorem hidT_size (h : Heap) (H : Hp) : (hidT h H).objs.size = h.objs.size := PySem.W.hideAll_size _ _
theorem hidT_get {h : Heap} {H : Hp} {b : Addr} {o : Obj} (e : h.get? b = some o) (n : H b = none) : (hidT h H).get? b = some o :=
 PySem.W.hideAll_get _ e fun hm => by
  have q : (H b).isSome = true := (List.mem_filter.mp hm).2
  rw [n] at q; simp at q
theorem of_hidT {h : Heap} {H : Hp} {b : Addr} {o : Obj} (e : (hidT h H).get? b = some o) : h.get? b = some o ∧ H b = none := by
 have e' : h.get? b = some o := PySem.W.of_hideAll (trk h H) e
 refine ⟨e', ?_⟩
 cases q : H b with
 | none => rfl
 | some x =>
  have hm : b ∈ trk h H := List.mem_filter.mpr ⟨List.mem_range.mpr (Heap.lt_size e'), by simp [q]⟩
  have z : (hidT h H).get? b = none := PySem.W.hideAll_none (trk h H) hm
  rw [z] at e; cases e
def allNews (g h : Heap) (L : Addr) : List (Addr × Obj) := (List.range h.objs.size).filterMap fun a => if a = L ∨ (g.get? a).isSome = true then none else (h.get? a).map fun o => (a, o)
def rest (g h : Heap) (L d : Addr) : List (Addr × Obj) := (allNews g h L).filter fun p => decide (p.1 ≠ d)
end L2
namespace L2
open PySem PySem.Spec PyProof.Rows
structure Mod (K : PySem.W.Frag) (mg : Str → Option Value) (base : Heap) : Prop where
 kin : K.In base
 glob : base.Ns mainGlobals mg
 blt : ∃ mb, base.Ns builtinsNs mb ∧ ∀ x : Str, x ≠ "__name__" → mb x = bootBuiltins x
 nolimit : base.NoLimit
/-- the context: a def's body (or a comprehension's block) running. base: fixed through the whole law; s₀, H₀: the entry; outer: the frames whose slots others may change (a def's callers); stack: all frames that run;
   ex: iterators that were made ahead of the entry and are walked here (a comprehension's); fn: the names whose cells were made at the entry (a def: all; a comprehension's block: its own); calm: not within an except suite; pn: pins that every state bears; xe: what is wanted of an exception that leaves the code -/
structure Cx where
 prog : Program
 w : World
 K : PySem.W.Frag
 mg : Str → Option Value
 base : Heap
 A : Around
 N : List Str
 s₀ : Shared
 H₀ : Hp
 env : Env
 outer : List Env
 stack : List Env
 ex : List Addr
 fn : Str → Bool
 calm : Bool
 pn : List (Addr × Obj)
 xe : Value → Shared → Prop
def frs (l : List Env) : List Addr := l.filterMap (·.frame)
abbrev Cx.fs (X : Cx) : List Addr := frs X.outer
def Vis (sc : Scope) (x : Str) : Prop := sc.names.lookup x = some .local ∨ sc.names.lookup x = some .cell ∨ sc.names.lookup x = some .free
def Loc (sc : Scope) (x : Str) : Prop := sc.names.lookup x = some .local ∨ sc.names.lookup x = some .cell
def Look (env : Env) (h : Heap) (m : Str → Option Value) (x : Str) (u : Value) : Prop :=
 (env.kindOf x = some .local ∧ m x = some u) ∨ ((env.kindOf x = some .cell ∨ env.kindOf x = some .free) ∧ ∃ c, env.cells.lookup x = some c ∧ h.IsCell c (some u))
structure Cx.Ok (X : Cx) : Prop where
 mod : Mod X.K X.mg X.base
 kind : X.env.scope.kind = .function
 glob : X.env.globals = mainGlobals
 blt : X.env.builtins = builtinsNs
 above : X.s₀.heap.objs.size ≤ X.env.locals
 inj : ∀ x y c, X.env.cells.lookup x = some c → X.env.cells.lookup y = some c → x = y
 has : ∀ x, (X.env.kindOf x = some .cell ∨ X.env.kindOf x = some .free) → ∃ c, X.env.cells.lookup x = some c
 cab : ∀ x c, X.fn x = true → X.env.cells.lookup x = some c → X.s₀.heap.objs.size ≤ c
 hd : X.calm = true → X.A.handled = none
 frames : X.A.frames = some X.stack
 stk : X.stack = X.outer ∨ (X.stack = X.env :: X.outer ∧ X.env.frame = some X.env.locals)
 exf : ∀ b ∈ X.ex, b ≠ X.env.locals ∧ ∀ x c, X.env.cells.lookup x = some c → c ≠ b
 bs : ∀ b o, X.base.get? b = some o → X.s₀.heap.get? b = some o ∧ X.H₀ b = none
 bsz : X.base.objs.size ≤ X.s₀.heap.objs.size
 noex : ∀ b o, X.base.get? b = some o → b ∉ X.ex
 exfs : ∀ b ∈ X.ex, b ∉ X.fs
 funs : X.s₀.heap.FunFrames X.base X.outer
 frf : ∀ b ∈ X.fs, X.H₀ b = none
structure Inv (X : Cx) (pins : List (Addr × Obj)) (σ : List (Option V)) (H : Hp) (s : Shared) : Prop where
 ok : X.Ok
 os : s.os = X.s₀.os
 bare : AllBare s.gens
 base : Un X.fs X.ex X.H₀ H X.s₀.heap s.heap
 loc : ∃ m, s.heap.Ns X.env.locals m ∧ ∀ (i : Nat) (x : Str) (v : V), X.N[i]? = some x → σ[i]? = some (some v) → Vis X.env.scope x → ∃ u, RelV v u ∧ Look X.env s.heap m x u
 cell : ∀ x c, X.env.cells.lookup x = some c → ∃ v, s.heap.IsCell c v
 free : H X.env.locals = none
 freeC : ∀ x c, X.env.cells.lookup x = some c → H c = none
 pin : ∀ p ∈ X.pn ++ pins, s.heap.get? p.1 = some p.2 ∧ H p.1 = none ∧ p.1 ≠ X.env.locals ∧ p.1 ∉ X.fs ∧ ∀ v, p.2.data ≠ .cell v
 hok : HOk X.prog X.w H s.heap
 len : σ.length = X.N.length
section
variable {X : Cx} {pins : List (Addr × Obj)} {σ : List (Option V)} {H H' : Hp} {s : Shared} {h' : Heap}
theorem Cx.Ok.nofr (ok : X.Ok) {b : Addr} {o : Obj} (e : X.base.get? b = some o) : b ∉ X.fs := fun hb => by
 have := (ok.funs.mem hb).1
 rw [e] at this; cases this
theorem Inv.bs (I : Inv X pins σ H s) : ∀ b o, X.base.get? b = some o → s.heap.get? b = some o ∧ H b = none := fun b o e =>
 ⟨I.base.keep b o (I.ok.bs b o e).1 (I.ok.bs b o e).2 (I.ok.nofr e) (I.ok.noex b o e), I.base.free b o (I.ok.bs b o e).1 (I.ok.bs b o e).2 (I.ok.noex b o e)⟩
theorem Inv.bk (I : Inv X pins σ H s) : ∀ b o, X.base.get? b = some o → s.heap.get? b = some o := fun b o e => (I.bs b o e).1
theorem Inv.mod (I : Inv X pins σ H s) : Mod X.K X.mg X.base := I.ok.mod
theorem Inv.kIn (I : Inv X pins σ H s) : X.K.In s.heap := I.ok.mod.kin.keeps I.bk
theorem Inv.lt (I : Inv X pins σ H s) : X.env.locals < s.heap.objs.size := let ⟨_, hn, _⟩ := I.loc; hn.lt
theorem Inv.sz (I : Inv X pins σ H s) : X.s₀.heap.objs.size ≤ s.heap.objs.size := Nat.le_trans I.ok.above (Nat.le_of_lt I.lt)
theorem Inv.nofs (I : Inv X pins σ H s) {a : Addr} (h : s.heap.objs.size ≤ a) : a ∉ X.fs := fun hb => by
 obtain ⟨_, o, ho, _⟩ := I.ok.funs.mem hb
 exact absurd (Nat.lt_of_lt_of_le (Heap.lt_size ho) (Nat.le_trans I.sz h)) (Nat.lt_irrefl _)
theorem Inv.cne (I : Inv X pins σ H s) : ∀ x c, X.env.cells.lookup x = some c → c ≠ X.env.locals := fun x c e z => by
 obtain ⟨v, o, ho, hd⟩ := I.cell x c e
 obtain ⟨m, ⟨o', es, ep, ho', hd', _⟩, _⟩ := I.loc
 rw [z, ho'] at ho; cases ho; rw [hd'] at hd; cases hd
theorem Inv.funs (I : Inv X pins σ H s) : s.heap.FunFrames X.base X.outer := by
 have all : ∀ (l : List Env), (∀ b ∈ frs l, b ∈ X.fs) → X.s₀.heap.FunFrames X.base l → s.heap.FunFrames X.base l := by
  intro l
  induction l with
  | nil => intro _ _; trivial
  | cons env r ih =>
   intro hs hl
   obtain ⟨hk, ⟨L, o, hf, hn, ho, hd⟩, hr⟩ := hl
   have hL : L ∈ X.fs := hs L (by unfold frs; rw [List.filterMap_cons, hf]; exact List.mem_cons_self)
   obtain ⟨sl, e⟩ := I.base.slot L o ho (I.ok.frf L hL) hL fun z => I.ok.exfs L z hL
   exact ⟨hk, ⟨L, _, hf, hn, e, hd⟩, ih (fun b hb => hs b (by unfold frs; rw [List.filterMap_cons, hf]; exact List.mem_cons_of_mem _ hb)) hr⟩
 exact all X.outer (fun _ hb => hb) I.ok.funs
theorem Inv.stack (I : Inv X pins σ H s) : s.heap.FunFrames X.base X.stack := by
 rcases I.ok.stk with e | ⟨e, hf⟩
 ·rw [e]; exact I.funs
 ·rw [e]
  obtain ⟨m, hn, _⟩ := I.loc
  refine .cons (by rw [I.ok.kind]; decide) hf hn ?_ I.funs
  exact Heap.get?_none_of_le (Nat.le_trans I.ok.bsz I.ok.above)
theorem Inv.stkSub (I : Inv X pins σ H s) : ∀ b ∈ frs X.stack, b ∈ X.env.locals :: X.fs := fun b hb => by
 rcases I.ok.stk with e | ⟨e, hf⟩
 ·rw [e] at hb; exact List.mem_cons_of_mem _ hb
 ·rw [e] at hb
  unfold frs at hb
  rw [List.filterMap_cons, hf] at hb
  exact hb
theorem Inv.stkFree (I : Inv X pins σ H s) : ∀ b ∈ frs X.stack, H b = none := fun b hb => by
 rcases List.mem_cons.mp (I.stkSub b hb) with e | hb
 ·rw [e]; exact I.free
 ·obtain ⟨_, o, ho, _⟩ := I.ok.funs.mem hb
  exact I.base.free b o ho (I.ok.frf b hb) fun z => I.ok.exfs b z hb
theorem Inv.step {g' : Array GenState} {t' : Nat} {d' : Drawn} {ch : List Addr} (I : Inv X pins σ H s)
  (hch : ∀ b ∈ ch, (b ∈ X.ex ∨ X.s₀.heap.objs.size ≤ b) ∧ b ≠ X.env.locals ∧ (∀ x c, X.env.cells.lookup x = some c → c ≠ b) ∧ ∀ p ∈ X.pn ++ pins, p.1 ≠ b)
  (keep : ∀ b o, b ≠ X.env.locals → b ∉ X.fs → b ∉ ch → s.heap.get? b = some o → H b = none → h'.get? b = some o)
  (slot : ∀ b o, b ≠ X.env.locals → b ∈ X.fs → b ∉ ch → s.heap.get? b = some o → H b = none → ∃ sl, h'.get? b = some { o with slots := sl }) (free : ∀ b o, b ∉ ch → s.heap.get? b = some o → H b = none → H' b = none)
  (there : ∀ b o, b ∉ ch → s.heap.get? b = some o → ∃ o', h'.get? b = some o')
  (tups : ∀ b xs, H b = some (.tup xs) → H' b = some (.tup xs)) (frzs : ∀ b o u, H b = some (.frz o u) → H' b = some (.frz o u)) (tbls : ∀ b ps, H b = some (.tbl ps) → ∃ more, H' b = some (.tbl (ps ++ more)))
  (ns : ∀ m, s.heap.Ns X.env.locals m → h'.Ns X.env.locals m) (hok : HOk X.prog X.w H' h') (hg : AllBare g') :
  Inv X pins σ H' { s with heap := h', gens := g', drawn := d', toks := t' } := by
 have neL : ∀ b o, X.s₀.heap.get? b = some o → b ≠ X.env.locals := fun b o e => Nat.ne_of_lt (Nat.lt_of_lt_of_le (Heap.lt_size e) I.ok.above)
 have neC : ∀ b o, X.s₀.heap.get? b = some o → b ∉ X.ex → b ∉ ch := fun b o e hx hb => by
  rcases (hch b hb).1 with z | z
  ·exact hx z
  ·exact absurd (Nat.lt_of_lt_of_le (Heap.lt_size e) z) (Nat.lt_irrefl _)
 have cellK : ∀ x c, X.env.cells.lookup x = some c → ∀ v, s.heap.IsCell c v → h'.IsCell c v := fun x c e v ⟨o, ho, hd⟩ => by
  have nch : c ∉ ch := fun z => (hch c z).2.2.1 x c e rfl
  by_cases hc : c ∈ X.fs
  ·obtain ⟨sl, q⟩ := slot c o (I.cne x c e) hc nch ho (I.freeC x c e)
   exact ⟨_, q, hd⟩
  ·exact ⟨o, keep c o (I.cne x c e) hc nch ho (I.freeC x c e), hd⟩
 refine ⟨I.ok, I.os, hg, ⟨fun b o e n hb hx => ?_, fun b o e n hb hx => ?_, fun b o e n hx => ?_, fun b o e hx => ?_, fun b xs e => tups b xs (I.base.tups b xs e), fun b o xs e => frzs b o xs (I.base.frzs b o xs e), fun b ps e => ?_⟩, ?_, fun x c e => ?_, ?_, fun x c e => ?_, fun p hp => ?_, hok, I.len⟩
 ·exact keep b o (neL b o e) hb (neC b o e hx) (I.base.keep b o e n hb hx) (I.base.free b o e n hx)
 ·obtain ⟨sl, e1⟩ := I.base.slot b o e n hb hx
  obtain ⟨sl', e2⟩ := slot b _ (neL b o e) hb (neC b o e hx) e1 (I.base.free b o e n hx)
  exact ⟨sl', e2⟩
 ·obtain ⟨o', e1⟩ := I.base.there b o e hx
  exact free b o' (neC b o e hx) e1 (I.base.free b o e n hx)
 ·obtain ⟨o', e1⟩ := I.base.there b o e hx
  exact there b o' (neC b o e hx) e1
 ·obtain ⟨m1, e1⟩ := I.base.tbls b ps e
  obtain ⟨m2, e2⟩ := tbls b _ e1
  exact ⟨m1 ++ m2, by rw [e2, Array.append_assoc]⟩
 ·obtain ⟨m, hn, hl⟩ := I.loc
  refine ⟨m, ns m hn, fun i x v e1 e2 e3 => ?_⟩
  obtain ⟨u, r, l⟩ := hl i x v e1 e2 e3
  refine ⟨u, r, ?_⟩
  rcases l with l | ⟨k, c, e, z⟩
  ·exact .inl l
  ·exact .inr ⟨k, c, e, cellK x c e _ z⟩
 ·obtain ⟨v, z⟩ := I.cell x c e
  exact ⟨v, cellK x c e v z⟩
 ·obtain ⟨m, ⟨o, _, _, ho, _⟩, _⟩ := I.loc
  exact free _ o (fun z => (hch _ z).2.1 rfl) ho I.free
 ·obtain ⟨v, o, ho, hd⟩ := I.cell x c e
  exact free c o (fun z => (hch c z).2.2.1 x c e rfl) ho (I.freeC x c e)
 ·obtain ⟨e, n, ne, nf, d⟩ := I.pin p hp
  have nch : p.1 ∉ ch := fun z => (hch p.1 z).2.2.2 p hp rfl
  exact ⟨keep p.1 p.2 ne nf nch e n, free p.1 p.2 nch e n, ne, nf, d⟩
theorem Inv.un {t' : Nat} (I : Inv X pins σ H s) (u : Un X.fs [] H H' s.heap h') (hok : HOk X.prog X.w H' h') : Inv X pins σ H' { s with heap := h', toks := t' } := by
 obtain ⟨m, ⟨o, es, ep, ho, r⟩, _⟩ := id I.loc
 obtain ⟨sl, hL⟩ := u.any ho I.free (by simp)
 exact I.step (g' := s.gens) (d' := s.drawn) (ch := []) (fun _ z => nomatch z) (fun b o _ hb _ e n => u.keep b o e n hb (by simp)) (fun b o _ hb _ e n => u.slot b o e n hb (by simp)) (fun b o _ e n => u.free b o e n (by simp)) (fun b o _ e => u.there b o e (by simp)) u.tups u.frzs u.tbls (fun m' hm => by
  obtain ⟨o', es', ep', ho', r'⟩ := hm
  rw [ho] at ho'; cases ho'
  exact ⟨_, es', ep', hL, r'⟩) hok I.bare
theorem Inv.call {g' : Array GenState} {t' : Nat} {d' : Drawn} {ch : List Addr} (I : Inv X pins σ H s) (u : Un (frs X.stack) ch H H' s.heap h') (hok : HOk X.prog X.w H' h') (hg : AllBare g')
  (hch : ∀ b ∈ ch, (b ∈ X.ex ∨ X.s₀.heap.objs.size ≤ b) ∧ b ≠ X.env.locals ∧ (∀ x c, X.env.cells.lookup x = some c → c ≠ b) ∧ ∀ p ∈ X.pn ++ pins, p.1 ≠ b) :
  Inv X pins σ H' { s with heap := h', gens := g', drawn := d', toks := t' } := by
 obtain ⟨m, ⟨o, es, ep, ho, r⟩, _⟩ := id I.loc
 obtain ⟨sl, hL⟩ := u.any ho I.free fun z => (hch _ z).2.1 rfl
 exact I.step (ch := ch) hch (fun b o hL hb hc e n => u.keep b o e n (fun z => (List.mem_cons.mp (I.stkSub b z)).elim hL hb) hc) (fun b o _ _ hc e n => u.any e n hc) (fun b o hc e n => u.free b o e n hc) (fun b o hc e => u.there b o e hc) u.tups u.frzs u.tbls (fun m' hm => by
  obtain ⟨o', es', ep', ho', r'⟩ := hm
  rw [ho] at ho'; cases ho'
  exact ⟨_, es', ep', hL, r'⟩) hok hg
theorem Inv.turned {t' : Nat} {it : Addr} (I : Inv X pins σ H s) (k : ∀ b o, b ≠ it → s.heap.get? b = some o → h'.get? b = some o) (hn : H it = none) (hL : it ≠ X.env.locals)
  (h1 : it ∈ X.ex ∨ X.s₀.heap.objs.size ≤ it) (h2 : ∀ x c, X.env.cells.lookup x = some c → c ≠ it) (h3 : ∀ p ∈ X.pn ++ pins, p.1 ≠ it) : Inv X pins σ H { s with heap := h', toks := t' } := by
 have nit : ∀ b u, H b = some u → b ≠ it := fun b u e z => by rw [z, hn] at e; cases e
 refine I.step (g' := s.gens) (d' := s.drawn) (ch := [it]) (fun b hb => ?_) (fun b o _ _ hc e _ => k b o (fun z => hc (by simp [z])) e) (fun b o _ _ hc e _ => ⟨o.slots, k b o (fun z => hc (by simp [z])) e⟩) (fun _ _ _ _ n => n)
  (fun b o hc e => ⟨o, k b o (fun z => hc (by simp [z])) e⟩) (fun _ _ e => e) (fun _ _ _ e => e) (fun b ps e => ⟨#[], by rw [e]; simp⟩) (fun m hm => ?_) (fun b u e => ?_) I.bare
 ·have e : b = it := by simpa using hb
  subst e
  exact ⟨h1, hL, h2, h3⟩
 ·obtain ⟨o, es, ep, ho, r⟩ := hm
  exact ⟨o, es, ep, k _ o (Ne.symm hL) ho, r⟩
 ·refine (I.hok b u e).stay (fun c v hc q => k c v ?_ q) (fun _ q => q) fun _ _ q => q
  rcases hc with z | z
  ·rw [z]; exact nit b u e
  ·exact nit c _ z
theorem Inv.tok (I : Inv X pins σ H s) (t : Nat) : Inv X pins σ H { s with toks := t } := I.un (h' := s.heap) (t' := t) Un.refl I.hok
theorem Inv.kept {t' : Nat} (I : Inv X pins σ H s) (k : ∀ b u, s.heap.get? b = some u → h'.get? b = some u) : Inv X pins σ H { s with heap := h', toks := t' } := I.un (Un.kept k) (I.hok.kept k)
theorem Inv.laid {a : Addr} {o : HO} {t' : Nat} (I : Inv X pins σ H s) (k : ∀ b u, s.heap.get? b = some u → h'.get? b = some u) (hp : s.heap.objs.size ≤ a) (new : eG X.prog X.w (upd H a o) h' a o) :
  Inv X pins σ (upd H a o) { s with heap := h', toks := t' } := I.un (Un.laid k hp (I.hok.fresh hp)) (I.hok.laid k hp new)
theorem Inv.write {x e : Addr} {o : HO} {t' : Nat} (I : Inv X pins σ H s) (mu : Mut (H x)) (he : e = x ∨ H e = some (.own x)) (k : ∀ b u, b ≠ e → s.heap.get? b = some u → h'.get? b = some u) (heo : ∃ u, h'.get? e = some u)
  (new : eG X.prog X.w (upd H x o) h' x o) : Inv X pins σ (upd H x o) { s with heap := h', toks := t' } := I.un (Un.write mu he k heo) (I.hok.write mu he k heo new)
theorem Inv.pins_of {pins' : List (Addr × Obj)} (I : Inv X pins σ H s) (h : ∀ p ∈ pins', s.heap.get? p.1 = some p.2 ∧ H p.1 = none ∧ p.1 ≠ X.env.locals ∧ p.1 ∉ X.fs ∧ ∀ v, p.2.data ≠ .cell v) : Inv X pins' σ H s :=
 ⟨I.ok, I.os, I.bare, I.base, I.loc, I.cell, I.free, I.freeC, fun p hp => (List.mem_append.mp hp).elim (fun z => I.pin p (List.mem_append_left _ z)) (h p), I.hok, I.len⟩
theorem rW {N : List Str} (hN : N.Nodup) {i j : Nat} {x : Str} (a : N[i]? = some x) (b : N[j]? = some x) : i = j := by
 obtain ⟨h1, e1⟩ := List.getElem?_eq_some_iff.mp a
 obtain ⟨h2, e2⟩ := List.getElem?_eq_some_iff.mp b
 exact (List.getElem_inj hN).mp (e1.trans e2.symm)
theorem qY {M : Model} {A : Around} {E : Value → Shared → Prop} {i : Nat} {x : Str} {v : V} {u : Value} {Q : Unit → Shared → Prop} (I : Inv X pins σ H s) (hN : X.N.Nodup) (hi : X.N[i]? = some x) (hx : Loc X.env.scope x) (r : RelV v u)
  (h : ∀ s', Inv X pins (σ.set i (some v)) H s' → (∃ a, Heap.SameBut a s.heap s'.heap ∧ (a = X.env.locals ∨ X.env.cells.lookup x = some a)) → Q () s') (hf : X.fn x = true ∨ X.env.scope.names.lookup x = some .local := by first | exact .inl rfl | exact .inr rfl | assumption) : wpAny M A (storeName X.env x u) Q E s := by
 obtain ⟨m, hn, hl⟩ := id I.loc
 have hcls : (X.env.scope.kind == .class || (X.env.scope.kind == .module && X.env.locals != X.env.globals)) = false := by rw [I.ok.kind]; rfl
 have hiσ : i < σ.length := by rw [I.len]; exact (List.getElem?_eq_some_iff.mp hi).1
 have cne := I.cne
 have tracked : ∀ {a : Addr} {h' : Heap}, (∃ o, s.heap.get? a = some o ∧ H a = none) → Heap.SameBut a s.heap h' → HOk X.prog X.w H h' := fun {a h'} ha hs b ob e => by
  obtain ⟨_, _, hfree⟩ := ha
  refine (I.hok b ob e).stay (fun c w' hc q => (hs.2 c ?_).trans q) (fun _ q => q) fun _ _ q => q
  rintro rfl
  rcases hc with rfl | hc
  ·rw [hfree] at e; cases e
  ·rw [hfree] at hc; cases hc
 rcases hx with hk | hk
 ·refine wpAny_storeName_local hk hn (fun h' hn' hs => ?_) hcls
  obtain ⟨oL, _, _, hoL, _⟩ := id hn
  refine h _ ⟨I.ok, I.os, I.bare, ⟨fun b o e n hb hx => ?_, fun b o e n hb hx => ?_, I.base.free, fun b o e hx => ?_, I.base.tups, I.base.frzs, I.base.tbls⟩, ⟨_, hn', fun j y v' e1 e2 e3 => ?_⟩, fun y c e => ?_, I.free, I.freeC, fun p hp => ?_, tracked ⟨oL, hoL, I.free⟩ hs, by simpa using I.len⟩ ⟨_, hs, .inl rfl⟩
  ·exact (hs.2 b (Nat.ne_of_lt (Nat.lt_of_lt_of_le (Heap.lt_size e) I.ok.above))).trans (I.base.keep b o e n hb hx)
  ·obtain ⟨sl, e1⟩ := I.base.slot b o e n hb hx
   exact ⟨sl, (hs.2 b (Nat.ne_of_lt (Nat.lt_of_lt_of_le (Heap.lt_size e) I.ok.above))).trans e1⟩
  ·obtain ⟨o', e1⟩ := I.base.there b o e hx
   exact ⟨o', (hs.2 b (Nat.ne_of_lt (Nat.lt_of_lt_of_le (Heap.lt_size e) I.ok.above))).trans e1⟩
  ·by_cases hj : j = i
   ·subst hj
    rw [hi] at e1; cases e1
    rw [List.getElem?_set_self hiσ] at e2
    cases e2
    exact ⟨u, r, .inl ⟨hk, by simp⟩⟩
   ·rw [List.getElem?_set_ne (Ne.symm hj)] at e2
    obtain ⟨u', r', q⟩ := hl j y v' e1 e2 e3
    refine ⟨u', r', ?_⟩
    rcases q with ⟨k, e⟩ | ⟨k, c, e, z⟩
    ·refine .inl ⟨k, ?_⟩
     have : y ≠ x := fun e => hj (rW hN e1 (e ▸ hi))
     simp [this, e]
    ·exact .inr ⟨k, c, e, z.sameBut hs (cne y c e)⟩
  ·obtain ⟨w', z⟩ := I.cell y c e
   exact ⟨w', z.sameBut hs (cne y c e)⟩
  ·obtain ⟨e, n, ne, nf, d⟩ := I.pin p hp
   exact ⟨(hs.2 p.1 ne).trans e, n, ne, nf, d⟩
 ·have hfn : X.fn x = true := by
   rcases hf with z | z
   ·exact z
   ·rw [z] at hk; cases hk
  obtain ⟨c, hc⟩ := I.ok.has x (.inl hk)
  obtain ⟨w', z⟩ := I.cell x c hc
  refine wpAny_storeName_cell I.ok.kind hk hc z (fun h' hc' hs => ?_)
  obtain ⟨oc, hoc, hocd⟩ := id z
  refine h { s with heap := h' } ⟨I.ok, I.os, I.bare, ⟨fun b o e n hb hx => ?_, fun b o e n hb hx => ?_, I.base.free, fun b o e hx => ?_, I.base.tups, I.base.frzs, I.base.tbls⟩, ⟨m, hn.sameBut hs (Ne.symm (cne x c hc)), fun j y v' e1 e2 e3 => ?_⟩, fun y c' e => ?_, I.free, I.freeC, fun p hp => ?_, tracked ⟨oc, hoc, I.freeC x c hc⟩ hs, by simpa using I.len⟩ ⟨c, hs, .inr hc⟩
  ·exact (hs.2 b (Nat.ne_of_lt (Nat.lt_of_lt_of_le (Heap.lt_size e) (I.ok.cab x c hfn hc)))).trans (I.base.keep b o e n hb hx)
  ·obtain ⟨sl, e1⟩ := I.base.slot b o e n hb hx
   exact ⟨sl, (hs.2 b (Nat.ne_of_lt (Nat.lt_of_lt_of_le (Heap.lt_size e) (I.ok.cab x c hfn hc)))).trans e1⟩
  ·obtain ⟨o', e1⟩ := I.base.there b o e hx
   exact ⟨o', (hs.2 b (Nat.ne_of_lt (Nat.lt_of_lt_of_le (Heap.lt_size e) (I.ok.cab x c hfn hc)))).trans e1⟩
  ·by_cases hj : j = i
   ·subst hj
    rw [hi] at e1; cases e1
    rw [List.getElem?_set_self hiσ] at e2
    cases e2
    exact ⟨u, r, .inr ⟨.inl hk, c, hc, hc'⟩⟩
   ·rw [List.getElem?_set_ne (Ne.symm hj)] at e2
    obtain ⟨u', r', q⟩ := hl j y v' e1 e2 e3
    refine ⟨u', r', ?_⟩
    rcases q with q | ⟨k, c', e, z'⟩
    ·exact .inl q
    ·refine .inr ⟨k, c', e, z'.sameBut hs ?_⟩
     rintro rfl
     exact hj (rW hN e1 (I.ok.inj _ _ _ e hc ▸ hi))
  ·by_cases hcc : c' = c
   ·subst hcc; exact ⟨_, hc'⟩
   ·obtain ⟨w2, z2⟩ := I.cell y c' e
    exact ⟨w2, z2.sameBut hs hcc⟩
  ·obtain ⟨e, n, ne, nf, d⟩ := I.pin p hp
   refine ⟨(hs.2 p.1 ?_).trans e, n, ne, nf, d⟩
   intro q
   rw [q, hoc] at e
   have q' : oc = p.2 := Option.some.inj e
   exact d w' (by rw [← q']; exact hocd)
theorem lJ {M : Model} {A : Around} {E : Value → Shared → Prop} {i : Nat} {x : Str} {v : V} {u : Value} {Q : Unit → Shared → Prop} (I : Inv X pins σ H s) (hN : X.N.Nodup) (hi : X.N[i]? = some x) (hx : Loc X.env.scope x) (r : RelV v u)
  (h : ∀ s', Inv X pins (σ.set i (some v)) H s' → Q () s') (hf : X.fn x = true ∨ X.env.scope.names.lookup x = some .local := by first | exact .inl rfl | exact .inr rfl | assumption) : wpAny M A (storeName X.env x u) Q E s :=
 qY I hN hi hx r (fun s' I' _ => h s' I') hf
theorem Inv.call' {s' : Shared} {ch : List Addr} (I : Inv X pins σ H s) (ho : s'.os = s.os) (u : Un (frs X.stack) ch H H' s.heap s'.heap) (hok : HOk X.prog X.w H' s'.heap) (hg : AllBare s'.gens)
  (hch : ∀ b ∈ ch, (b ∈ X.ex ∨ X.s₀.heap.objs.size ≤ b) ∧ b ≠ X.env.locals ∧ (∀ x c, X.env.cells.lookup x = some c → c ≠ b) ∧ ∀ p ∈ X.pn ++ pins, p.1 ≠ b) : Inv X pins σ H' s' := by
 obtain ⟨h', g', d', t', o'⟩ := s'
 have e : o' = s.os := ho
 subst e
 exact I.call (g' := g') (t' := t') (d' := d') u hok hg hch
end
abbrev XK := Value → Option Addr → Hp → Prop
abbrev St := List (Option V)
abbrev VK := V → Hp → Prop
abbrev TE := St → Hp → VK → Prop
abbrev TT := St → Hp → (Bool → Hp → Prop) → Prop
abbrev TA := St → Hp → (List V → Hp → Prop) → Prop
structure Ends where
 nx : St → Hp → Prop
 rt : VK
 bk : St → Hp → Prop := fun _ _ => False
 ct : St → Hp → Prop := fun _ _ => False
abbrev TS := Ends → St → Hp → Prop
def EP (X : Cx) (pins : List (Addr × Obj)) (σ : St) (Q : VK) (u : Value) (s' : Shared) : Prop := ∃ v H', Inv X pins σ H' s' ∧ RelV v u ∧ Q v H'
def TP (X : Cx) (pins : List (Addr × Obj)) (σ : St) (Q : Bool → Hp → Prop) (b : Bool) (s' : Shared) : Prop := ∃ H', Inv X pins σ H' s' ∧ Q b H'
def AP (X : Cx) (pins : List (Addr × Obj)) (σ : St) (Q : List V → Hp → Prop) (us : List Value) (s' : Shared) : Prop := ∃ vs H', Inv X pins σ H' s' ∧ Vals vs us ∧ Q vs H'
def SP (X : Cx) (pins : List (Addr × Obj)) (D : Ends) (f : Flow) (s' : Shared) : Prop :=
 match f with
 | .next => ∃ σ' H', Inv X pins σ' H' s' ∧ D.nx σ' H'
 | .brk => ∃ σ' H', Inv X pins σ' H' s' ∧ D.bk σ' H'
 | .cont => ∃ σ' H', Inv X pins σ' H' s' ∧ D.ct σ' H'
 | .ret u => ∃ v σ' H', Inv X pins σ' H' s' ∧ RelV v u ∧ D.rt v H'
def PE (X : Cx) (e : Expr) (t : TE) : Prop :=
 ∀ (pins : List (Addr × Obj)) (s : Shared) (σ : St) (H : Hp) (Q : VK), Inv X pins σ H s → t σ H Q → wpAny (model X.prog X.w) X.A (eval e X.env) (EP X pins σ Q) X.xe s
def PT (X : Cx) (e : Expr) (t : TT) : Prop :=
 ∀ (pins : List (Addr × Obj)) (s : Shared) (σ : St) (H : Hp) (Q : Bool → Hp → Prop), Inv X pins σ H s → t σ H Q → wpAny (model X.prog X.w) X.A (isTrue e X.env (eval e X.env)) (TP X pins σ Q) X.xe s
def PW (X : Cx) (e : Expr) (t : TT) : Prop :=
 ∀ (whole : Sem Value) (pins : List (Addr × Obj)) (s : Shared) (σ : St) (H : Hp) (Q : Bool → Hp → Prop), Inv X pins σ H s → t σ H Q → wpAny (model X.prog X.w) X.A (isTrue e X.env whole) (TP X pins σ Q) X.xe s
def PA (X : Cx) (es : List Expr) (t : TA) : Prop :=
 ∀ (pos : Pos) (pins : List (Addr × Obj)) (s : Shared) (σ : St) (H : Hp) (Q : List V → Hp → Prop), Inv X pins σ H s → t σ H Q → wpAny (model X.prog X.w) X.A (spliced (backTo pos (starEach es X.env))) (AP X pins σ Q) X.xe s
def PS (X : Cx) (st : Stmt) (t : TS) : Prop :=
 ∀ (pins : List (Addr × Obj)) (s : Shared) (σ : St) (H : Hp) (D : Ends), Inv X pins σ H s → t D σ H → wpAny (model X.prog X.w) X.A (exec st X.env) (SP X pins D) X.xe s
def PSs (X : Cx) (st : List Stmt) (t : TS) : Prop :=
 ∀ (pins : List (Addr × Obj)) (s : Shared) (σ : St) (H : Hp) (D : Ends), Inv X pins σ H s → t D σ H → wpAny (model X.prog X.w) X.A (execs st X.env) (SP X pins D) X.xe s
theorem thn {α : Type} {t : Sem α} {Q Q' : α → Shared → Prop} {M : Model} {A : Around} {E : Value → Shared → Prop} {s : Shared} (h : wpAny M A t Q E s) (hQ : ∀ a s, Q a s → Q' a s) : wpAny M A t Q' E s := wpAny_mono h hQ fun _ _ x => x
end L2
namespace L2
open PySem PySem.Spec PyProof.Rows
section
variable {X : Cx}
def tVar (i : Nat) : TE := fun σ H Q => ∃ v, σ[i]? = some (some v) ∧ Q v H
def tC (v : V) : TE := fun _ H Q => Q v H
theorem pe_var {i : Nat} {x : Str} {pos : Pos} (hN : X.N[i]? = some x) (hv : Vis X.env.scope x) (hd : (x == ("__debug__" : Str)) = false := by decide) (hcd : (x == ("__classdict__" : Str)) = false := by decide) : PE X (.Name x pos) (tVar i) := by
 intro pins s σ H Q I h
 obtain ⟨v, e, h⟩ := h
 obtain ⟨m, hn, hl⟩ := I.loc
 obtain ⟨u, r, l⟩ := hl i x v hN e hv
 have fin : EP X pins σ Q u s := ⟨v, H, I, r, h⟩
 rcases l with ⟨hk, hm⟩ | ⟨hk, c, hc, hcell⟩
 ·exact wpAny_Name (wpAny_loadName_local I.ok.kind hk hn hm fin) hd
 ·rcases hk with hk | hk
  ·exact wpAny_Name (wpAny_loadName_cell I.ok.kind hk hc hcell fin) hd
  ·exact wpAny_Name (wpAny_loadName_free I.ok.kind hk hc hcell fin hcd) hd
theorem pe_int {i j pos} : PE X (.Constant (.int i) j pos) (tC (.int i)) := fun _ _ _ H _ I h => wpAny_Constant_int ⟨.int i, H, I.tok _, ⟨_, rfl⟩, h⟩
theorem pe_bl {b j pos} : PE X (.Constant (.bool b) j pos) (tC (.bl b)) := fun _ _ _ H _ I h => Constant_bool ⟨.bl b, H, I, rfl, h⟩
theorem pe_str {x j pos} : PE X (.Constant (.str x) j pos) (tC (.str x)) := fun _ _ _ H _ I h => Calls.Constant_str ⟨.str x, H, I.tok _, ⟨_, rfl⟩, h⟩
def Gl (X : Cx) (x : Str) : Prop := X.env.kindOf x = some .globalImplicit
theorem ld_glob {E : Value → Shared → Prop} {pins : List (Addr × Obj)} {s : Shared} {σ : St} {H : Hp} {x : Str} {u : Value} {pos : Pos} {Q : Value → Shared → Prop} (I : Inv X pins σ H s) (hg : Gl X x) (hm : X.mg x = some u) (h : Q u s)
  (hd : (x == ("__debug__" : Str)) = false := by decide) : wpAny (model X.prog X.w) X.A (eval (.Name x pos) X.env) Q E s :=
 Calls.Name_function_global I.ok.kind hg (Calls.loadGlobal_global (by rw [I.ok.glob]; exact I.mod.glob.keeps I.bk) hm h) hd
theorem gN {E : Value → Shared → Prop} {pins : List (Addr × Obj)} {s : Shared} {σ : St} {H : Hp} {x : Str} {u : Value} {pos : Pos} {Q : Value → Shared → Prop} (I : Inv X pins σ H s) (hg : Gl X x) (hm : X.mg x = none) (hv : bootBuiltins x = some u) (h : Q u s)
  (hn : x ≠ "__name__" := by decide) (hd : (x == ("__debug__" : Str)) = false := by decide) : wpAny (model X.prog X.w) X.A (eval (.Name x pos) X.env) Q E s := by
 obtain ⟨mb, h1, h2⟩ := I.mod.blt
 exact Calls.Name_function_global I.ok.kind hg (Calls.loadGlobal_builtin (by rw [I.ok.glob]; exact I.mod.glob.keeps I.bk) hm (by rw [I.ok.blt]; exact h1.keeps I.bk) ((h2 x hn).trans hv) h) hd
theorem pe_glob {x : Str} {v : V} {u : Value} {pos : Pos} (hg : Gl X x) (hm : X.mg x = some u) (r : RelV v u) (hd : (x == ("__debug__" : Str)) = false := by decide) : PE X (.Name x pos) (tC v) :=
 fun _ _ _ H _ I h => ld_glob I hg hm ⟨v, H, I, r, h⟩ hd
theorem pe_bltn {x : Str} {v : V} {u : Value} {pos : Pos} (hg : Gl X x) (hm : X.mg x = none) (hv : bootBuiltins x = some u) (r : RelV v u) (hn : x ≠ "__name__" := by decide) (hd : (x == ("__debug__" : Str)) = false := by decide) : PE X (.Name x pos) (tC v) :=
 fun _ _ _ H _ I h => gN I hg hm hv ⟨v, H, I, r, h⟩ hn hd
variable {a b : Expr} {ta tb : TE} {pos : Pos}
def tB (t : TE) : TT := fun σ H Q => t σ H fun x H1 => ∃ c, x = .bl c ∧ Q c H1
theorem pt_val {e : Expr} {t : TE} (h : PE X e t) (he : ∀ whole, isTrue e X.env whole = (do let v ← whole; standAt e.pos; holding [v] (truthy v)) := by intro _; rfl) : PT X e (tB t) := by
 intro pins s σ H Q I hw
 refine isTrue_plain (thn (h pins s σ H _ I hw) fun v s1 ⟨x, H1, I1, r1, q1⟩ => ?_) (he _)
 obtain ⟨d, rfl, q⟩ := q1
 cases r1
 exact wpAny_truthy_bool ⟨H1, I1, q⟩
variable {tA tB' : TT} {rest : List Expr}
def tAnd (t u : TT) : TT := fun σ H Q => t σ H fun c H1 => if c = true then u σ H1 Q else Q false H1
def tOr (t u : TT) : TT := fun σ H Q => t σ H fun c H1 => if c = true then Q true H1 else u σ H1 Q
def tNot (t : TT) : TT := fun σ H Q => t σ H fun c H1 => Q (!c) H1
theorem pw_and1 (ha : PT X a tA) : PW X (.BoolOp .And [a] pos) tA := by
 intro wh pins s σ H Q I h
 refine isTrue_and (thn (ha pins s σ H Q I h) fun c s1 e => ?_)
 cases c with
 | true => exact isTrue_and_nil e
 | false => exact e
theorem pw_or1 (ha : PT X a tA) : PW X (.BoolOp .Or [a] pos) tA := by
 intro wh pins s σ H Q I h
 refine isTrue_or (thn (ha pins s σ H Q I h) fun c s1 e => ?_)
 cases c with
 | false => exact isTrue_or_nil e
 | true => exact e
theorem pw_and (ha : PT X a tA) (hb : PW X (.BoolOp .And (b :: rest) pos) tB') : PW X (.BoolOp .And (a :: b :: rest) pos) (tAnd tA tB') := by
 intro wh pins s σ H Q I h
 refine isTrue_and (thn (ha pins s σ H _ I h) fun c s1 ⟨H1, I1, q1⟩ => ?_)
 cases c with
 | true => exact hb wh pins s1 σ H1 Q I1 q1
 | false => exact ⟨H1, I1, q1⟩
theorem pw_or (ha : PT X a tA) (hb : PW X (.BoolOp .Or (b :: rest) pos) tB') : PW X (.BoolOp .Or (a :: b :: rest) pos) (tOr tA tB') := by
 intro wh pins s σ H Q I h
 refine isTrue_or (thn (ha pins s σ H _ I h) fun c s1 ⟨H1, I1, q1⟩ => ?_)
 cases c with
 | true => exact ⟨H1, I1, q1⟩
 | false => exact hb wh pins s1 σ H1 Q I1 q1
theorem pt_not (ha : PT X a tA) : PT X (.UnaryOp .Not a pos) (tNot tA) := by
 intro pins s σ H Q I h
 exact isTrue_not (ha pins s σ H (fun c H1 => Q (!c) H1) I h)
def tAndV (ta tb : TE) : TE := fun σ H Q => ta σ H fun x H1 => ∃ c, x = .bl c ∧ if c = true then tb σ H1 Q else Q (.bl false) H1
def tOrV (ta tb : TE) : TE := fun σ H Q => ta σ H fun x H1 => ∃ c, x = .bl c ∧ if c = true then Q (.bl true) H1 else tb σ H1 Q
def tNotV (ta : TE) : TE := fun σ H Q => ta σ H fun x H1 => ∃ c, x = .bl c ∧ Q (.bl (!c)) H1
theorem pe_one {op} {t : TE} (h : PE X a t) : PE X (.BoolOp op [a] pos) t := fun pins s σ H Q I hw => BoolOp_one (h pins s σ H Q I hw)
theorem pe_and (ha : PE X a ta) (hb : PE X (.BoolOp .And (b :: rest) pos) tb) : PE X (.BoolOp .And (a :: b :: rest) pos) (tAndV ta tb) := by
 intro pins s σ H Q I h
 refine BoolOp_and (thn (ha pins s σ H _ I h) fun v s1 ⟨x, H1, I1, r1, q1⟩ => ?_)
 obtain ⟨c, rfl, q1⟩ := q1
 cases r1
 refine wpAny_truthy_bool ?_
 cases c with
 | true => exact hb pins s1 σ H1 Q I1 q1
 | false => exact ⟨.bl false, H1, I1, rfl, q1⟩
theorem pe_or (ha : PE X a ta) (hb : PE X (.BoolOp .Or (b :: rest) pos) tb) : PE X (.BoolOp .Or (a :: b :: rest) pos) (tOrV ta tb) := by
 intro pins s σ H Q I h
 refine BoolOp_or (thn (ha pins s σ H _ I h) fun v s1 ⟨x, H1, I1, r1, q1⟩ => ?_)
 obtain ⟨c, rfl, q1⟩ := q1
 cases r1
 refine wpAny_truthy_bool ?_
 cases c with
 | false => exact hb pins s1 σ H1 Q I1 q1
 | true => exact ⟨.bl true, H1, I1, rfl, q1⟩
theorem pe_not (ha : PE X a ta) : PE X (.UnaryOp .Not a pos) (tNotV ta) := by
 intro pins s σ H Q I h
 refine UnaryOp_ (thn (ha pins s σ H _ I h) fun v s1 ⟨x, H1, I1, r1, q1⟩ => ?_)
 obtain ⟨c, rfl, q1⟩ := q1
 cases r1
 exact not_of (wpAny_truthy_bool ⟨.bl (!c), H1, I1, rfl, q1⟩)
def tIf (t : TT) (ta tb : TE) : TE := fun σ H Q => t σ H fun c H1 => if c = true then ta σ H1 Q else tb σ H1 Q
theorem pe_ifExp {c : Expr} (hc : PT X c tA) (ha : PE X a ta) (hb : PE X b tb) : PE X (.IfExp c a b pos) (tIf tA ta tb) := by
 intro pins s σ H Q I h
 refine wpAny_IfExp (thn (hc pins s σ H _ I h) fun d s1 ⟨H1, I1, q1⟩ => ?_)
 cases d with
 | true => exact ha pins s1 σ H1 Q I1 q1
 | false => exact hb pins s1 σ H1 Q I1 q1
end
end L2
namespace L2
open PySem PySem.Spec PyProof.Rows
def SqL (K : PySem.W.Frag) (H : Hp) (a : Addr) (xs : List V) : Prop :=
 Rd H a (.lst xs) ∨
  ∃ (o : Obj) (its : Array Value) (n : Nat), K.lookup a = some o ∧ o.cls = .type "list" ∧ o.dict = none ∧ o.data = .seq its n ∧ its.size ≤ sizeLine ∧ Vals xs its.toList
def SqT (K : PySem.W.Frag) (H : Hp) (a : Addr) (xs : List V) : Prop :=
 Rd H a (.tup xs) ∨
  ∃ (o : Obj) (its : Array Value) (n : Nat), K.lookup a = some o ∧ o.cls = .type "tuple" ∧ o.data = .seq its n ∧ its.size ≤ sizeLine ∧ Vals xs its.toList
def absV : Value → Option V
 | .none => some .non
 | .bool b => some (.bl b)
 | .int i _ => some (.int i)
 | .str x _ => some (.str x)
 | .bytes b _ => some (.byt b)
 | .float b _ => some (.flt b)
 | .ref a => some (.ref a)
 | .type n => some (.ty n)
 | _ => none
theorem RelV.abs {x : V} {u : Value} (r : RelV x u) : absV u = some x := by
 cases x with
 | non => cases r; rfl
 | bl _ => cases r; rfl
 | int _ => obtain ⟨t, rfl⟩ := r; rfl
 | str _ => obtain ⟨t, rfl⟩ := r; rfl
 | byt _ => obtain ⟨t, rfl⟩ := r; rfl
 | flt _ => obtain ⟨t, rfl⟩ := r; rfl
 | ref _ => cases r; rfl
 | ty _ => cases r; rfl
theorem RelV.inj {x y : V} {u : Value} (r : RelV x u) (q : RelV y u) : x = y := Option.some.inj (r.abs.symm.trans q.abs)
theorem Vals.inj : ∀ {xs ys : List V} {us : List Value}, Vals xs us → Vals ys us → xs = ys
 | _, _, _, .nil, .nil => rfl
 | _, _, _, .cons r t, .cons r' t' => by rw [r.inj r', Vals.inj t t']
section
variable {X : Cx} {pins : List (Addr × Obj)} {σ : St} {H : Hp} {s : Shared} {a : Addr} {xs ys : List V}
theorem SqL.of {K : PySem.W.Frag} (h : H a = some (.lst xs)) : SqL K H a xs := .inl (.inl h)
theorem SqT.of {K : PySem.W.Frag} (h : H a = some (.tup xs)) : SqT K H a xs := .inl (.inl h)
theorem Inv.list (I : Inv X pins σ H s) (h : SqL X.K H a xs) : ∃ its : List Value, Vals xs its ∧ PlainL s.heap a its.toArray ∧ xs.length ≤ sizeLine := by
 rcases h with h | ⟨o, its, n, hk, hc, hd, hs, hz, r⟩
 ·obtain ⟨z, its, n, r, e⟩ := h.ok I.hok
  exact ⟨its, r, ⟨_, n, e, rfl, rfl, rfl⟩, z⟩
 ·refine ⟨its.toList, r, ⟨o, n, I.kIn a o hk, hc, hd, by simpa using hs⟩, ?_⟩
  have e := r.length
  simp only [Array.length_toList] at e
  omega
theorem Inv.tuple (I : Inv X pins σ H s) (h : SqT X.K H a xs) : ∃ its : List Value, Vals xs its ∧ IsTup s.heap a its.toArray ∧ xs.length ≤ sizeLine := by
 rcases h with h | ⟨o, its, n, hk, hc, hs, hz, r⟩
 ·obtain ⟨z, its, r, p⟩ := h.ok I.hok
  exact ⟨its, r, p, z⟩
 ·refine ⟨its.toList, r, ⟨o, I.kIn a o hk, hc, n, by simpa using hs⟩, ?_⟩
  have e := r.length
  simp only [Array.length_toList] at e
  omega
theorem Inv.list_inj (I : Inv X pins σ H s) (h : SqL X.K H a xs) (h' : SqL X.K H a ys) : xs = ys := by
 obtain ⟨its, r, ⟨o, n, e, _, _, d⟩, _⟩ := I.list h
 obtain ⟨its', r', ⟨o', n', e', _, _, d'⟩, _⟩ := I.list h'
 rw [e] at e'; cases e'
 rw [d] at d'
 injection d' with d1 _
 have : its = its' := by simpa using congrArg Array.toList d1
 subst this
 exact r.inj r'
theorem Inv.tuple_inj (I : Inv X pins σ H s) (h : SqT X.K H a xs) (h' : SqT X.K H a ys) : xs = ys := by
 obtain ⟨its, r, ⟨o, e, _, n, d⟩, _⟩ := I.tuple h
 obtain ⟨its', r', ⟨o', e', _, n', d'⟩, _⟩ := I.tuple h'
 rw [e] at e'; cases e'
 rw [d] at d'
 injection d' with d1 _
 have : its = its' := by simpa using congrArg Array.toList d1
 subst this
 exact r.inj r'
end
abbrev Cx.wish (X : Cx) (E : Value → Shared → Prop) : Cx := { X with xe := E }
abbrev Cx.nox (X : Cx) : Cx := X.wish fun _ _ => False
theorem Cx.Ok.wish {X : Cx} (ok : X.Ok) (E : Value → Shared → Prop) : (X.wish E).Ok :=
 ⟨ok.mod, ok.kind, ok.glob, ok.blt, ok.above, ok.inj, ok.has, ok.cab, ok.hd, ok.frames, ok.stk, ok.exf, ok.bs, ok.bsz, ok.noex, ok.exfs, ok.funs, ok.frf⟩
theorem Cx.Ok.unwish {X : Cx} {E : Value → Shared → Prop} (ok : (X.wish E).Ok) : X.Ok :=
 ⟨ok.mod, ok.kind, ok.glob, ok.blt, ok.above, ok.inj, ok.has, ok.cab, ok.hd, ok.frames, ok.stk, ok.exf, ok.bs, ok.bsz, ok.noex, ok.exfs, ok.funs, ok.frf⟩
section
variable {X : Cx} {pins : List (Addr × Obj)} {σ : St} {H : Hp} {s : Shared} {E : Value → Shared → Prop}
theorem Inv.wish (I : Inv X pins σ H s) (E : Value → Shared → Prop) : Inv (X.wish E) pins σ H s := ⟨I.ok.wish E, I.os, I.bare, I.base, I.loc, I.cell, I.free, I.freeC, I.pin, I.hok, I.len⟩
theorem Inv.unwish (I : Inv (X.wish E) pins σ H s) : Inv X pins σ H s := ⟨I.ok.unwish, I.os, I.bare, I.base, I.loc, I.cell, I.free, I.freeC, I.pin, I.hok, I.len⟩
theorem SP.unwish {D : Ends} {f : Flow} {s' : Shared} (h : SP (X.wish E) pins D f s') : SP X pins D f s' := by
 cases f with
 | next => obtain ⟨σ', H', I, q⟩ := h; exact ⟨σ', H', I.unwish, q⟩
 | brk => obtain ⟨σ', H', I, q⟩ := h; exact ⟨σ', H', I.unwish, q⟩
 | cont => obtain ⟨σ', H', I, q⟩ := h; exact ⟨σ', H', I.unwish, q⟩
 | ret u => obtain ⟨v, σ', H', I, r, q⟩ := h; exact ⟨v, σ', H', I.unwish, r, q⟩
theorem PSs.nox {st : List Stmt} {t : TS} (h : PSs X.nox st t) : PSs X st t := fun pins s σ H D I hw =>
 wpAny_mono (h pins s σ H D (I.wish _) hw) (fun _ _ q => q.unwish) fun _ _ z => False.elim z
end
section
variable {X : Cx} {st : Stmt} {rest : List Stmt} {t u : TS} {e : Expr} {te : TE} {pos : Pos}
def tNext : TS := fun D σ H => D.nx σ H
def tSeq (t u : TS) : TS := fun D σ H => t { D with nx := u D } σ H
theorem pss_nil : PSs X [] tNext := fun _ _ σ H _ I h => wpAny_execs_nil ⟨σ, H, I, h⟩
theorem pss_cons (h1 : PS X st t) (h2 : PSs X rest u) : PSs X (st :: rest) (tSeq t u) := by
 intro pins s σ H D I h
 refine wpAny_execs_cons (thn (h1 pins s σ H { D with nx := u D } I h) fun f s1 q => ?_)
 cases f with
 | next =>
  obtain ⟨σ', H', I', q⟩ := q
  exact h2 pins s1 σ' H' D I' q
 | ret v => exact q
 | brk => exact q
 | cont => exact q
theorem pss_one (h1 : PS X st t) : PSs X [st] t := by
 intro pins s σ H D I h
 refine wpAny_execs_cons (thn (h1 pins s σ H D I h) fun f s1 q => ?_)
 cases f with
 | next => exact wpAny_execs_nil q
 | ret v => exact q
 | brk => exact q
 | cont => exact q
theorem Inv.quiet {pins : List (Addr × Obj)} {σ : St} {H : Hp} {s : Shared} (I : Inv X pins σ H s) : interactive X.env = false := by simp [interactive, I.ok.kind]
def tDrop (te : TE) : TS := fun D σ H => te σ H fun _ H1 => D.nx σ H1
theorem ps_expr (he : PE X e te) (hs : swapsWith e none pos.line X.env = pure false := by rfl) : PS X (.Expr e pos) (tDrop te) := by
 intro pins s σ H D I h
 exact wpAny_Expr_any (thn (he pins s σ H _ I h) fun v s1 ⟨x, H1, I1, r1, q1⟩ => ⟨σ, H1, I1, q1⟩) I.quiet hs
def tRet (te : TE) : TS := fun D σ H => te σ H D.rt
theorem ps_ret (he : PE X e te) : PS X (.Return (some e) pos) (tRet te) := by
 intro pins s σ H D I h
 exact wpAny_Return_some (thn (he pins s σ H _ I h) fun v s1 ⟨x, H1, I1, r1, q1⟩ => ⟨x, σ, H1, I1, r1, q1⟩)
def tIfS (c : TT) (t u : TS) : TS := fun D σ H => c σ H fun b H1 => if b = true then t D σ H1 else u D σ H1
theorem ps_if {c : Expr} {a b : List Stmt} {tc : TT} (hc : PT X c tc) (ha : PSs X a t) (hb : PSs X b u) : PS X (.If c a b pos) (tIfS tc t u) := by
 intro pins s σ H D I h
 refine wpAny_If (thn (hc pins s σ H _ I h) fun d s1 ⟨H1, I1, q1⟩ => ?_)
 cases d with
 | true => exact ha pins s1 σ H1 D I1 q1
 | false => exact hb pins s1 σ H1 D I1 q1
end
abbrev TG := V → St → Hp → (St → Hp → Prop) → Prop
abbrev TGs := List V → St → Hp → (St → Hp → Prop) → Prop
def PG (X : Cx) (target : Expr) (t : TG) : Prop :=
 ∀ (pins : List (Addr × Obj)) (s : Shared) (σ : St) (H : Hp) (v : V) (u : Value) (Q : St → Hp → Prop), Inv X pins σ H s → RelV v u → t v σ H Q →
  wpAny (model X.prog X.w) X.A (assign target X.env u) (fun _ s' => ∃ σ' H', Inv X pins σ' H' s' ∧ Q σ' H') X.xe s
def PGs (X : Cx) (ts : List Expr) (t : TGs) : Prop :=
 ∀ (pins : List (Addr × Obj)) (s : Shared) (σ : St) (H : Hp) (vs : List V) (us : List Value) (Q : St → Hp → Prop), Inv X pins σ H s → Vals vs us → t vs σ H Q →
  wpAny (model X.prog X.w) X.A (assignInOrder ((assignEach ts X.env).map (·.2)) us) (fun _ s' => ∃ σ' H', Inv X pins σ' H' s' ∧ Q σ' H') X.xe s
abbrev TSet := V → V → V → Hp → (Hp → Prop) → Prop
def PSet (X : Cx) (t : TSet) : Prop :=
 ∀ (pins : List (Addr × Obj)) (s : Shared) (σ : St) (H : Hp) (o i v : V) (ov iv u : Value) (Q : Hp → Prop), Inv X pins σ H s → RelV o ov → RelV i iv → RelV v u → t o i v H Q →
  wpAny (model X.prog X.w) X.A (setItem ov iv u) (fun _ s' => ∃ H', Inv X pins σ H' s' ∧ Q H') X.xe s
section
variable {X : Cx} {pos : Pos}
def lN (i : Nat) : TG := fun v σ H Q => Q (σ.set i (some v)) H
theorem nB {i : Nat} {x : Str} (hN : X.N.Nodup) (hi : X.N[i]? = some x) (hx : Loc X.env.scope x) (hf : X.fn x = true ∨ X.env.scope.names.lookup x = some .local := by first | exact .inl rfl | exact .inr rfl | assumption) : PG X (.Name x pos) (lN i) := by
 intro pins s σ H v u Q I r h
 exact wpAny_assign_Name (lJ I hN hi hx r (fun s' I' => ⟨_, H, I', h⟩) hf)
def gNil : TGs := fun vs σ H Q => vs = [] ∧ Q σ H
def gCons (t : TG) (u : TGs) : TGs := fun vs σ H Q => ∃ v r, vs = v :: r ∧ t v σ H fun σ' H' => u r σ' H' Q
theorem pgs_nil : PGs X [] gNil := by
 intro pins s σ H vs us Q I r h
 obtain ⟨e, h⟩ := h
 subst e
 cases r
 exact assignInOrder_nil ⟨σ, H, I, h⟩
theorem oE {e : Expr} {es : List Expr} {t : TG} {u : TGs} (h1 : PG X e t) (h2 : PGs X es u)
  (hs : (assignEach (e :: es) X.env).map (·.2) = assign e X.env :: (assignEach es X.env).map (·.2) := by rfl) : PGs X (e :: es) (gCons t u) := by
 intro pins s σ H vs us Q I r h
 obtain ⟨v, vr, e1, h⟩ := h
 subst e1
 cases r with
 | cons r rr =>
  rw [hs]
  refine assignInOrder_cons (thn (h1 pins s σ H _ _ _ I r h) fun _ s1 ⟨σ1, H1, I1, q1⟩ => ?_)
  exact h2 pins s1 σ1 H1 _ _ Q I1 rr q1
def gTup (K : PySem.W.Frag) (n : Nat) (t : TGs) : TG := fun v σ H Q => ∃ a xs, v = .ref a ∧ SqT K H a xs ∧ xs.length = n ∧ t xs σ H Q
theorem pg_tup {es : List Expr} {k : Nat} {t : TGs} {n : Nat} (hc : X.calm = true) (h : PGs X es t)
  (hn : (assignEach es X.env).length = n := by rfl) (hst : (assignEach es X.env).findIdx? (·.1) = none := by rfl) : PG X (.Tuple es k pos) (gTup X.K n t) := by
 intro pins s σ H v u Q I r hw
 obtain ⟨a, xs, e1, hq, hl, hw⟩ := hw
 subst e1
 cases r
 obtain ⟨its, rv, ht, hz⟩ := I.tuple hq
 refine assign_Tuple_tuple (I.ok.hd hc) ht (by simp [hn, ← hl, rv.length]) hst fun h' hx => ?_
 have I1 : Inv X pins σ H { s with heap := h' } := I.kept (t' := s.toks) fun b o e => hx b o (Nat.ne_of_lt (Heap.lt_size e)) e
 exact h pins _ σ H xs _ Q I1 (by simpa using rv) hw
def gSub (to ti : TE) (t : TSet) : TG := fun v σ H Q => to σ H fun o H1 => ti σ H1 fun i H2 => t o i v H2 fun H3 => Q σ H3
theorem pg_sub {o i : Expr} {to ti : TE} {t : TSet} (ho : PE X o to) (hi : PE X i ti) (hs : PSet X t)
  (ha : ∀ v, assign (.Subscript o i pos) X.env v = (do
   let ov ← holding [v] (eval o X.env)
   let iv ← holding [v, ov] (eval i X.env)
   standAt pos
   holding [v, ov, iv] (setItem ov iv v)
   release [v, ov, iv] []) := by intro _; rfl) : PG X (.Subscript o i pos) (gSub to ti t) := by
 intro pins s σ H v u Q I r h
 rw [ha]
 refine wpAny_bind (wpAny_holding (thn (ho pins s σ H _ I h) fun ov s1 ⟨x, H1, I1, r1, q1⟩ => ?_))
 refine wpAny_bind (wpAny_holding (thn (hi pins s1 σ H1 _ I1 q1) fun iv s2 ⟨y, H2, I2, r2, q2⟩ => ?_))
 refine wpAny_bind (wpAny_standAt (wpAny_bind (wpAny_holding (thn (hs pins s2 σ H2 x y v ov iv u _ I2 r1 r2 r q2) fun _ s3 ⟨H3, I3, q3⟩ => ?_))))
 exact wpAny_release ⟨σ, H3, I3, q3⟩
def tAsg (te : TE) (g : TG) : TS := fun D σ H => te σ H fun x H1 => g x σ H1 D.nx
theorem ps_asg {tg e : Expr} {te : TE} {g : TG} (he : PE X e te) (hg : PG X tg g) (hs : swapsWithSole [tg] e pos.line X.env = pure false := by rfl) (hw : swappedStores [tg] e X.env = pure none := by rfl)
  (h1 : (assignEach [tg] X.env).map (·.2) = [assign tg X.env] := by rfl) : PS X (.Assign [tg] e pos) (tAsg te g) := by
 intro pins s σ H D I h
 refine wpAny_Assign_stores (thn (he pins s σ H _ I h) fun v s1 ⟨x, H1, I1, r1, q1⟩ => ?_) hs hw
 rw [h1]
 exact thn (hg pins s1 σ H1 x v _ I1 r1 q1) fun _ s2 q => q
theorem ps_set {i : Nat} {x : Str} {e : Expr} {te : TE} {pos' : Pos} (hN : X.N.Nodup) (hi : X.N[i]? = some x) (hx : Loc X.env.scope x) (he : PE X e te) (hs : swapsWith e (some (.Name x pos')) pos.line X.env = pure false := by rfl) (hf : X.fn x = true ∨ X.env.scope.names.lookup x = some .local := by first | exact .inl rfl | exact .inr rfl | assumption) :
  PS X (.Assign [.Name x pos'] e pos) (tAsg te (lN i)) := by
 intro pins s σ H D I h
 refine wpAny_Assign_Name (thn (he pins s σ H _ I h) fun v s1 ⟨y, H1, I1, r1, q1⟩ => ?_) hs
 exact lJ I1 hN hi hx r1 (fun s2 I2 => ⟨_, H1, I2, q1⟩) hf
def tPar (i j : Nat) (ta : TA) : TS := fun D σ H => ta σ H fun vs H1 => ∃ v w, vs = [v, w] ∧ D.nx ((σ.set i (some v)).set j (some w)) H1
theorem ps_par {i j : Nat} {x y : Str} {a b : Expr} {ta : TA} {px py pt : Pos} {kt k2 pt2} (hc : X.calm = true) (hN : X.N.Nodup) (hi : X.N[i]? = some x) (hj : X.N[j]? = some y) (hij : i ≠ j)
  (hx : X.env.scope.names.lookup x = some .local) (hy : X.env.scope.names.lookup y = some .local) (ha : PA X [a, b] ta)
  (hw : swappedStores [.Tuple [.Name x px, .Name y py] kt pt] (.Tuple [a, b] k2 pt2) X.env = pure (some [x, y]))
  (hs : swapsWithSole [.Tuple [.Name x px, .Name y py] kt pt] (.Tuple [a, b] k2 pt2) pos.line X.env = pure false := by rfl) :
  PS X (.Assign [.Tuple [.Name x px, .Name y py] kt pt] (.Tuple [a, b] k2 pt2) pos) (tPar i j ta) := by
 intro pins s σ H D I h
 rw [exec_Assign_arm]
 refine wpAny_bind (wpAny_standAt ?_)
 rw [hs]
 refine wpAny_bind (wpAny_pure ?_)
 rw [if_neg (by decide)]
 refine wpAny_bind (Tuple_ (thn (ha _ pins s σ H _ I h) fun us s1 ⟨vs, H1, I1, r1, q1⟩ => ?_))
 obtain ⟨v, w, e1, q1⟩ := q1
 subst e1
 obtain ⟨u1, u2, rfl, rv, rw'⟩ : ∃ u1 u2, us = [u1, u2] ∧ RelV v u1 ∧ RelV w u2 := by
  cases r1 with
  | cons p q =>
   cases q with
   | cons p' q' =>
    cases q'
    exact ⟨_, _, rfl, p, p'⟩
 refine wpAny_newObj_type ?_ (by show 2 ≤ sizeLine; decide)
 have I2 : Inv X pins σ H1 { s1 with heap := s1.heap.push { cls := .type "tuple", data := .seq [u1, u2].toArray } } := I1.kept (t' := s1.toks) fun b o e => Heap.get?_push_of_some _ e
 rw [hw]
 refine wpAny_bind (wpAny_pure ?_)
 show wpAny (model X.prog X.w) X.A (do rule "assign.swapped-stores"; let items ← unpackItems (.ref s1.heap.objs.size) 2 none; assignInOrder [fun v => bindName X.env y v, fun v => bindName X.env x v] items.reverse; pure Flow.next) _ _ _
 refine wpAny_bind (wpAny_rule (wpAny_bind (unpackItems_tuple (items := #[u1, u2]) (I.ok.hd hc) (IsTup.new s1.heap _) fun h' hx' => ?_)))
 have I3 := I2.kept (h' := h') (t' := s1.toks) fun b o e => hx' b o (Nat.ne_of_lt (Heap.lt_size e)) e
 show wpAny _ _ (assignInOrder [fun v => bindName X.env y v, fun v => bindName X.env x v] [u2, u1] >>= fun _ => pure Flow.next) _ _ _
 refine wpAny_bind (assignInOrder_cons (wpAny_bindName (lJ I3 hN hj (.inl hy) rw' (fun s2 I4 => ?_) (.inr hy))))
 refine assignInOrder_cons (wpAny_bindName (lJ I4 hN hi (.inl hx) rv (fun s3 I5 => assignInOrder_nil (wpAny_pure ?_)) (.inr hx)))
 rw [List.set_comm _ _ (Ne.symm hij)] at I5
 exact ⟨_, H1, I5, q1⟩
end
section
variable {X : Cx} {pos : Pos}
def tWhile (c : TT) (tb : TS) : TS := fun D σ H => ∃ W : Nat → St → Hp → Prop, (∃ m, W m σ H) ∧ ∀ m σ H, W m σ H →
 c σ H fun b H1 => if b = true then ∃ N : St → Hp → Prop, (∀ σ' H', N σ' H' → ∃ m', m' < m ∧ W m' σ' H') ∧ tb { D with nx := N, ct := N, bk := D.nx } σ H1 else D.nx σ H1
theorem ps_while {c : Expr} {body : List Stmt} {tc : TT} {tb : TS} (hp : PassesOwn (model X.prog X.w) X.A X.env X.xe) (hc : PT X c tc) (hb : PSs X body tb) : PS X (.While c body [] pos) (tWhile tc tb) := by
 intro pins s σ H D I h
 obtain ⟨W, ⟨m0, w0⟩, turn⟩ := h
 refine wpAny_While (codeAny_whileLoop (fun n s' => ∃ σ' H', Inv X pins σ' H' s' ∧ W n σ' H') ?_ m0 ⟨σ, H, I, w0⟩)
 rintro n s1 ⟨σ1, H1, I1, w1⟩
 refine wpAny_passesOwn hp (thn (hc pins s1 σ1 H1 _ I1 (turn n σ1 H1 w1)) fun b s2 ⟨H2, I2, q2⟩ => ?_)
 cases b with
 | true =>
  obtain ⟨N, hN, q2⟩ := q2
  rw [if_pos rfl]
  refine wpAny_passesOwn hp (thn (hb pins s2 σ1 H2 _ I2 q2) fun f s3 q3 => ?_)
  cases f with
  | next =>
   obtain ⟨σ3, H3, I3, n3⟩ := q3
   obtain ⟨m', hm, w3⟩ := hN σ3 H3 n3
   exact ⟨m', hm, σ3, H3, I3, w3⟩
  | cont =>
   obtain ⟨σ3, H3, I3, n3⟩ := q3
   obtain ⟨m', hm, w3⟩ := hN σ3 H3 n3
   exact ⟨m', hm, σ3, H3, I3, w3⟩
  | brk => exact q3
  | ret v => exact q3
 | false =>
  rw [if_neg Bool.false_ne_true]
  exact wpAny_execs_nil ⟨σ1, H2, I2, q2⟩
end
structure It where
 go : Nat → Hp → Prop
 yld : Nat → Hp → V → Hp → Prop
 stop : Nat → Hp → Prop
def FpOk (X : Cx) (pins : List (Addr × Obj)) (H : Hp) (b : Addr) : Prop :=
 H b = none ∧ b ≠ X.env.locals ∧ b ∉ X.fs ∧ (b ∈ X.ex ∨ X.s₀.heap.objs.size ≤ b) ∧ (∀ x c, X.env.cells.lookup x = some c → c ≠ b) ∧ ∀ p ∈ X.pn ++ pins, p.1 ≠ b
theorem Inv.fpOk {X : Cx} {pins : List (Addr × Obj)} {σ : St} {H H' : Hp} {s : Shared} {b : Addr} (I : Inv X pins σ H s) (hb : s.heap.objs.size ≤ b) (hn : H' b = none) : FpOk X pins H' b := by
 refine ⟨hn, Nat.ne_of_gt (Nat.lt_of_lt_of_le I.lt hb), I.nofs hb, .inr (Nat.le_trans I.sz hb), fun x c e z => ?_, fun p hp z => ?_⟩
 ·obtain ⟨v, q⟩ := I.cell x c e
  exact absurd (Nat.lt_of_lt_of_le q.lt (by rw [z]; exact hb)) (Nat.lt_irrefl _)
 ·exact absurd (Nat.lt_of_lt_of_le (Heap.lt_size (I.pin p hp).1) (by rw [z]; exact hb)) (Nat.lt_irrefl _)
structure Turn (P : Program) (w : World) (K : PySem.W.Frag) (tg : Expr) (J : It) (fp : List Addr) (it : Addr) (tn : Nat → Heap → Prop) : Prop where
 mem : it ∈ fp
 obj : ∀ i h, tn i h → ∀ b ∈ fp, ∃ o, h.get? b = some o ∧ ∀ v, o.data ≠ .cell v
 keep : ∀ i h h', tn i h → (∀ b ∈ fp, ∀ o, h.get? b = some o → h'.get? b = some o) → tn i h'
 item : ∀ (X : Cx), X.prog = P → X.w = w → X.K = K → X.calm = true → ∀ (i : Nat) (pins : List (Addr × Obj)) (s : Shared) (σ : St) (H : Hp) (E : Value → Shared → Prop), Inv X pins σ H s → (∀ b ∈ fp, FpOk X pins H b) → tn i s.heap → J.go i H →
  wpAny (model P w) X.A (pyNext (.ref it)) (fun r s1 => ∃ u, r = some u ∧
   wpAny (model P w) X.A (letOwnedTupleGo tg (.ref it) u) (fun _ s2 => ∃ x H', Inv X pins σ H' s2 ∧ RelV x u ∧ J.yld i H x H' ∧ tn (i + 1) s2.heap ∧ ∀ b ∈ fp, H' b = none) E s1) E s
 done : ∀ (X : Cx), X.prog = P → X.w = w → X.K = K → X.calm = true → ∀ (i : Nat) (pins : List (Addr × Obj)) (s : Shared) (σ : St) (H : Hp) (E : Value → Shared → Prop), Inv X pins σ H s → (∀ b ∈ fp, FpOk X pins H b) → tn i s.heap → J.stop i H →
  wpAny (model P w) X.A (pyNext (.ref it)) (fun r s1 => r = none ∧ Inv X pins σ H s1) E s
 self : ∀ (A : Around) (i : Nat) (s : Shared) (Q : Value → Shared → Prop) (E : Value → Shared → Prop), tn i s.heap → Q (.ref it) s → wpAny (model P w) A (pyIter (.ref it)) Q E s
abbrev TI := St → Hp → (It → Hp → Prop) → Prop
def PIE (X : Cx) (pins : List (Addr × Obj)) (σ : St) (tg : Expr) (R : It → Hp → Prop) (itv : Value) (s2 : Shared) : Prop :=
 ∃ (it : Addr) (fp : List Addr) (tn : Nat → Heap → Prop) (J : It) (H' : Hp), itv = .ref it ∧ Inv X pins σ H' s2 ∧ Turn X.prog X.w X.K tg J fp it tn ∧ tn 0 s2.heap ∧ (∀ b ∈ fp, FpOk X pins H' b) ∧ R J H'
def PI (X : Cx) (tg iter : Expr) (wi : TI) : Prop :=
 ∀ (pins : List (Addr × Obj)) (s : Shared) (σ : St) (H : Hp) (R : It → Hp → Prop), Inv X pins σ H s → wi σ H R →
  wpAny (model X.prog X.w) X.A (eval iter X.env) (fun v s1 => wpAny (model X.prog X.w) X.A (pyIter v) (PIE X pins σ tg R) X.xe s1) X.xe s
theorem mZ {M : Model} {A : Around} {E : Value → Shared → Prop} {s : Shared} {tg : Expr} {it : Addr} {u : Value} {o : Obj} {n : String} {vs : Array Value} {Q : Unit → Shared → Prop} (ho : s.heap.get? it = some o) (hc : o.cls = .type n) (hd : o.data = .fields vs)
    (hn : ["enumerate", "zip", "dict_itemiterator", "dict_reverseitemiterator", "odict_iterator", "itertools.zip_longest", "itertools.pairwise"].contains n = false) (hQ : Q () s) : wpAny M A (letOwnedTupleGo tg (.ref it) u) Q E s := by
  unfold letOwnedTupleGo
  cases tg <;> first
    | exact wpAny_pure hQ
    | (cases u <;> first
        | exact wpAny_pure hQ
        | (refine wpAny_bind (wpAny_load ho ?_)
           rw [hc, hd]
           show wpAny M A (if (["enumerate", "zip", "dict_itemiterator", "dict_reverseitemiterator", "odict_iterator", "itertools.zip_longest", "itertools.pairwise"].contains n && vs[0]? == some (rawInt _)) = true then _ else _) Q E s
           rw [if_neg (by intro h; rw [hn, Bool.false_and] at h; cases h)]
           exact wpAny_pure hQ))
def Itl (K : PySem.W.Frag) (a : Addr) : It :=
 ⟨fun i H => ∃ xs x, SqL K H a xs ∧ xs[i]? = some x, fun i H x H' => H' = H ∧ ∀ xs, SqL K H a xs → xs[i]? = some x, fun i H => ∃ xs, SqL K H a xs ∧ xs.length ≤ i⟩
def Itt (K : PySem.W.Frag) (a : Addr) : It :=
 ⟨fun i H => ∃ xs x, SqT K H a xs ∧ xs[i]? = some x, fun i H x H' => H' = H ∧ ∀ xs, SqT K H a xs → xs[i]? = some x, fun i H => ∃ xs, SqT K H a xs ∧ xs.length ≤ i⟩
def Itr (lo : Int) (n : Nat) : It := ⟨fun i _ => i < n, fun i H x H' => H' = H ∧ x = .int (lo + i), fun i _ => n ≤ i⟩
theorem turn_list {P : Program} {w : World} {K : PySem.W.Frag} {tg : Expr} (a it : Addr) : Turn P w K tg (Itl K a) [it] it (fun i h => h.IsListIter it a i) where
 mem := by simp
 obj := fun i h st b hb => by
  have e : b = it := by simpa using hb
  subst e
  obtain ⟨o, e, c, d⟩ := st
  exact ⟨o, e, fun v z => by rw [d] at z; cases z⟩
 keep := fun i h h' st k => st.at fun o e => k it (by simp) o e
 item := by
  intro X hP hw hK hc i pins s σ H E I hf st hg
  subst hP hw hK
  obtain ⟨xs, x, hq, hx⟩ := hg
  obtain ⟨its, rv, p, hz⟩ := I.list hq
  obtain ⟨u, hu, ru⟩ := rv.get hx
  obtain ⟨f0, f1, f2, f3, f4, f5⟩ := hf it (by simp)
  refine wpAny_pyNext_list_item st p.isList (x := u) (by simpa using hu) fun h' st' sb => ?_
  have I1 : Inv X pins σ H { s with heap := h' } := I.turned (t' := s.toks) (fun b o hb e => (sb.2 b hb).trans e) f0 f1 f3 f4 f5
  obtain ⟨o, e, c, d⟩ := id st'
  exact ⟨u, rfl, mZ (s := { s with heap := h' }) e c d (by decide) ⟨x, H, I1, ru, ⟨rfl, fun ys hy => by rw [I.list_inj hy hq]; exact hx⟩, st', fun b hb => (hf b hb).1⟩⟩
 done := by
  intro X hP hw hK hc i pins s σ H E I hf st hg
  subst hP hw hK
  obtain ⟨xs, hq, hx⟩ := hg
  obtain ⟨its, rv, p, hz⟩ := I.list hq
  obtain ⟨f0, f1, f2, f3, f4, f5⟩ := hf it (by simp)
  have hl := rv.length
  exact wpAny_pyNext_list_end (I.ok.hd hc) st p.isList (by simp; omega) fun h' eb => ⟨rfl, I.turned (t' := s.toks) (fun b o hb e => eb b o hb e) f0 f1 f3 f4 f5⟩
 self := fun _ _ _ _ _ st h => wpAny_pyIter_listiter st h
theorem uS {P : Program} {w : World} {K : PySem.W.Frag} {tg : Expr} (a it : Addr) : Turn P w K tg (Itt K a) [it] it (fun i h => h.IsTupleIter it a i) where
 mem := by simp
 obj := fun i h st b hb => by
  have e : b = it := by simpa using hb
  subst e
  obtain ⟨o, e, c, d⟩ := st
  exact ⟨o, e, fun v z => by rw [d] at z; cases z⟩
 keep := fun i h h' st k => st.at fun o e => k it (by simp) o e
 item := by
  intro X hP hw hK hc i pins s σ H E I hf st hg
  subst hP hw hK
  obtain ⟨xs, x, hq, hx⟩ := hg
  obtain ⟨its, rv, p, hz⟩ := I.tuple hq
  obtain ⟨u, hu, ru⟩ := rv.get hx
  obtain ⟨f0, f1, f2, f3, f4, f5⟩ := hf it (by simp)
  refine wpAny_pyNext_tuple_item st (show s.heap.IsTuple a its.toArray from p) (x := u) (by simpa using hu) fun h' st' sb => ?_
  have I1 : Inv X pins σ H { s with heap := h' } := I.turned (t' := s.toks) (fun b o hb e => (sb.2 b hb).trans e) f0 f1 f3 f4 f5
  obtain ⟨o, e, c, d⟩ := id st'
  exact ⟨u, rfl, mZ (s := { s with heap := h' }) e c d (by decide) ⟨x, H, I1, ru, ⟨rfl, fun ys hy => by rw [I.tuple_inj hy hq]; exact hx⟩, st', fun b hb => (hf b hb).1⟩⟩
 done := by
  intro X hP hw hK hc i pins s σ H E I hf st hg
  subst hP hw hK
  obtain ⟨xs, hq, hx⟩ := hg
  obtain ⟨its, rv, p, hz⟩ := I.tuple hq
  obtain ⟨f0, f1, f2, f3, f4, f5⟩ := hf it (by simp)
  have hl := rv.length
  exact wpAny_pyNext_tuple_end (I.ok.hd hc) st (show s.heap.IsTuple a its.toArray from p) (by simp; omega) fun h' eb => ⟨rfl, I.turned (t' := s.toks) (fun b o hb e => eb b o hb e) f0 f1 f3 f4 f5⟩
 self := fun _ _ _ _ _ st h => wpAny_pyIter_tupleiter st h
theorem uV {P : Program} {w : World} {K : PySem.W.Frag} {tg : Expr} (it : Addr) (lo : Int) (n : Nat) : Turn P w K tg (Itr lo n) [it] it (fun i h => IsRangeIter h it (lo + (i : Nat) * 1) ((n : Int) - (i : Nat)) 1) where
 mem := by simp
 obj := fun i h st b hb => by
  have e : b = it := by simpa using hb
  subst e
  exact ⟨_, st, fun v z => by
   have z' : Data.fields _ = Data.cell v := z
   cases z'⟩
 keep := fun i h h' st k => k it (by simp) _ st
 item := by
  intro X hP hw hK hc i pins s σ H E I hf st hg
  subst hP hw hK
  obtain ⟨f0, f1, f2, f3, f4, f5⟩ := hf it (by simp)
  have W := Walks.range (prog := X.prog) (w := X.w) (I.ok.hd hc) it lo 1 n
  refine W.item i s _ _ hg st fun v h' tk hv st' kk => ?_
  obtain ⟨t, rfl⟩ := hv
  have I1 : Inv X pins σ H { s with heap := h', toks := tk } := I.turned (fun b o hb e => kk b o (by simpa using hb) e) f0 f1 f3 f4 f5
  refine ⟨_, rfl, mZ (s := { s with heap := h', toks := tk }) (n := "range_iterator") st' rfl rfl (by decide) ⟨.int (lo + i), H, I1, ⟨t, ?_⟩, ⟨rfl, rfl⟩, st', fun b hb => (hf b hb).1⟩⟩
  rw [Int.mul_one]
 done := by
  intro X hP hw hK hc i pins s σ H E I hf st hg
  subst hP hw hK
  obtain ⟨f0, f1, f2, f3, f4, f5⟩ := hf it (by simp)
  exact wpAny_pyNext_range_end (I.ok.hd hc) st (by have : n ≤ i := hg; omega) fun h' eb => ⟨rfl, I.turned (t' := s.toks) (fun b o hb e => eb b o hb e) f0 f1 f3 f4 f5⟩
 self := fun _ _ _ _ _ st h => wpAny_pyIter_rangeiter st h
end L2
namespace L2
open PySem PySem.Spec PyProof.Rows
section
variable {X : Cx} {tg : Expr}
theorem rL {pins : List (Addr × Obj)} {σ : St} {H : Hp} {s : Shared} {R : It → Hp → Prop} {E : Value → Shared → Prop} {lo hi : Int} {t u v : Tok} {tk : Nat} (I : Inv X pins σ H s) (h1 : -(2 ^ 62) ≤ lo) (h2 : lo < 2 ^ 62) (h3 : -(2 ^ 62) ≤ hi) (h4 : hi < 2 ^ 62)
  (q : R (Itr lo (hi - lo).toNat) H) : wpAny (model X.prog X.w) X.A (pyIter (.ref s.heap.objs.size)) (PIE X pins σ tg R) E { s with heap := s.heap.push { cls := .type "range", data := .fields #[.int lo t, .int hi u, .int 1 v] }, toks := tk } := by
 refine wpAny_pyIter_range (IsRange.new ..) (small_one h1 h2 h3 h4) ?_
 have I1 : Inv X pins σ H { s with heap := s.heap.push { cls := .type "range", data := .fields #[.int lo t, .int hi u, .int 1 v] }, toks := tk } := I.kept fun b o e => Heap.get?_push_of_some _ e
 refine ⟨(s.heap.push { cls := .type "range", data := .fields #[.int lo t, .int hi u, .int 1 v] }).objs.size, [(s.heap.push { cls := .type "range", data := .fields #[.int lo t, .int hi u, .int 1 v] }).objs.size], _, _, H, rfl,
  I1.kept (t' := tk) fun b o e => Heap.get?_push_of_some _ e, uV _ lo (hi - lo).toNat, ?_, fun b hb => ?_, q⟩
 ·have e1 : lo + ((0 : Nat) : Int) * 1 = lo := by simp
  have e2 : (((hi - lo).toNat : Nat) : Int) - ((0 : Nat) : Int) = Builtin.Range.rangeSize lo hi 1 := by rw [rangeSize_one]; split <;> omega
  show IsRangeIter _ _ (lo + ((0 : Nat) : Int) * 1) ((((hi - lo).toNat : Nat) : Int) - ((0 : Nat) : Int)) 1
  rw [e1, e2]
  exact Heap.get?_push_size _ rfl
 ·have e : b = (s.heap.push { cls := .type "range", data := .fields #[.int lo t, .int hi u, .int 1 v] }).objs.size := by simpa using hb
  subst e
  exact I1.fpOk (Nat.le_refl _) (I1.hok.fresh (Nat.le_refl _))
def iRng1 (ta : TA) : TI := fun σ H R => ta σ H fun vs H1 => ∃ j : Int, vs = [.int j] ∧ -(2 ^ 62) ≤ j ∧ j < 2 ^ 62 ∧ R (Itr 0 j.toNat) H1
def iRng2 (ta : TA) : TI := fun σ H R => ta σ H fun vs H1 => ∃ i j : Int, vs = [.int i, .int j] ∧ (-(2 ^ 62) ≤ i ∧ i < 2 ^ 62 ∧ -(2 ^ 62) ≤ j ∧ j < 2 ^ 62) ∧ R (Itr i (j - i).toNat) H1
theorem pi_range1 {a : Expr} {ta : TA} {p pos : Pos} (hg : Gl X "range") (hm : X.mg "range" = none) (ha : PA X [a] ta) (hs : starEach [a] X.env = [(false, eval a X.env)] := by rfl) : PI X tg (.Call (.Name "range" p) [a] [] pos) (iRng1 ta) := by
 intro pins s σ H R I h
 refine Call_ (gN I hg hm boot_range (PyProof.Rows.callWith_type1 (thn (ha pos pins s σ H _ I h) fun us s1 ⟨vs, H1, I1, r1, q1⟩ => ?_) hs rfl))
 obtain ⟨j, e, q1, q2, q⟩ := q1
 subst e
 cases r1 with
 | cons r rr =>
  cases rr
  obtain ⟨t, rfl⟩ := r
  exact call_range_1 (rL I1 (by omega) (by omega) q1 q2 (by simpa using q))
theorem pi_range2 {a b : Expr} {ta : TA} {p pos : Pos} (hg : Gl X "range") (hm : X.mg "range" = none) (ha : PA X [a, b] ta) (hs : starEach [a, b] X.env = [(false, eval a X.env), (false, eval b X.env)] := by rfl) (hs2 : starEach [b] X.env = [(false, eval b X.env)] := by rfl) :
  PI X tg (.Call (.Name "range" p) [a, b] [] pos) (iRng2 ta) := by
 intro pins s σ H R I h
 refine Call_ (gN I hg hm boot_range (PyProof.Rows.callWith_type1 (thn (ha pos pins s σ H _ I h) fun us s1 ⟨vs, H1, I1, r1, q1⟩ => ?_) (by rw [hs, hs2]) (by rw [hs2]; rfl)))
 obtain ⟨i, j, e, ⟨q1, q2, q3, q4⟩, q⟩ := q1
 subst e
 cases r1 with
 | cons r rr =>
  cases rr with
  | cons r' rr =>
   cases rr
   obtain ⟨t, rfl⟩ := r
   obtain ⟨t', rfl⟩ := r'
   exact call_range_2 (rL I1 q1 q2 q3 q4 q)
def tFor (wi : TI) (g : TG) (tb : TS) : TS := fun D σ H => wi σ H fun J H1 => ∃ W : Nat → Nat → St → Hp → Prop, (∃ m, W 0 m σ H1) ∧ ∀ i m σ H, W i m σ H →
 (J.stop i H ∧ D.nx σ H) ∨ (J.go i H ∧ ∃ N : St → Hp → Prop, (∀ σ' H', N σ' H' → ∃ m', m' < m ∧ W (i + 1) m' σ' H') ∧ ∀ x H', J.yld i H x H' → g x σ H' fun σ2 H2 => tb { D with nx := N, ct := N, bk := D.nx } σ2 H2)
def kA (fp : List Addr) (h : Heap) : List (Addr × Obj) := fp.filterMap fun b => (h.get? b).map fun o => (b, o)
theorem fK {fp : List Addr} {h : Heap} {b : Addr} {o : Obj} (hb : b ∈ fp) (e : h.get? b = some o) : (b, o) ∈ kA fp h := List.mem_filterMap.mpr ⟨b, hb, by rw [e]; rfl⟩
theorem of_pinsAt {fp : List Addr} {h : Heap} {p : Addr × Obj} (hp : p ∈ kA fp h) : p.1 ∈ fp ∧ h.get? p.1 = some p.2 := by
 obtain ⟨b, hb, e⟩ := List.mem_filterMap.mp hp
 cases q : h.get? b with
 | none => rw [q] at e; cases e
 | some o =>
  rw [q] at e
  have e' : (b, o) = p := Option.some.inj e
  subst e'
  exact ⟨hb, q⟩
theorem Inv.pinned {pins : List (Addr × Obj)} {σ : St} {H : Hp} {s : Shared} {fp : List Addr} (I : Inv X pins σ H s) (hf : ∀ b ∈ fp, FpOk X pins H b) (ho : ∀ b ∈ fp, ∃ o, s.heap.get? b = some o ∧ ∀ v, o.data ≠ .cell v) : Inv X (pins ++ kA fp s.heap) σ H s :=
 I.pins_of fun p hp => (List.mem_append.mp hp).elim (fun z => I.pin p (List.mem_append_right _ z)) fun z => by
  obtain ⟨hb, e⟩ := of_pinsAt z
  obtain ⟨f0, f1, f2, _⟩ := hf p.1 hb
  obtain ⟨o, e', d⟩ := ho p.1 hb
  rw [e] at e'; cases e'
  exact ⟨e, f0, f1, f2, d⟩
theorem Inv.unpinned {pins pl : List (Addr × Obj)} {σ : St} {H : Hp} {s : Shared} (I : Inv X (pins ++ pl) σ H s) : Inv X pins σ H s := I.pins_of fun p hp => I.pin p (List.mem_append_right _ (List.mem_append_left _ hp))
theorem ps_for {iter : Expr} {body : List Stmt} {wi : TI} {g : TG} {tb : TS} {pos : Pos} (hp : PassesOwn (model X.prog X.w) X.A X.env X.xe) (hc : X.calm = true) (hi : PI X tg iter wi) (hg : PG X tg g) (hb : PSs X body tb)
  (hs : ∀ x, foldedSetIterable iter X.env x = pure x := by intro _; rfl) : PS X (.For tg iter body [] pos) (tFor wi g tb) := by
 intro pins s σ H D I h
 refine wpAny_For (thn (hi pins s σ H _ I h) fun v s1 h1 => thn h1 fun itv s2 h2 => ?_) hs
 obtain ⟨it, fp, tn, J, H2, e, I2, T, st2, f2, W, ⟨m0, w0⟩, turn⟩ := h2
 subst e
 -- what stays true of the iterator's objects through the loop
 have stat : ∀ {H' : Hp}, (∀ b ∈ fp, H' b = none) → ∀ b ∈ fp, FpOk X pins H' b := fun hn b hb => ⟨hn b hb, (f2 b hb).2⟩
 refine codeAny_forLoop_any (fun n s' => ∃ i σ' H', Inv X pins σ' H' s' ∧ tn i s'.heap ∧ (∀ b ∈ fp, H' b = none) ∧ W i n σ' H') ?_ m0 ⟨0, σ, H2, I2, st2, fun b hb => (f2 b hb).1, w0⟩
 rintro n s3 ⟨i, σ3, H3, I3, st3, fr3, w3⟩
 rcases turn i n σ3 H3 w3 with ⟨stop, qn⟩ | ⟨go, N, hN, step⟩
 ·refine wpAny_passesOwn hp (thn (T.done X rfl rfl rfl hc i pins s3 σ3 H3 X.xe I3 (stat fr3) st3 stop) fun r s4 ⟨hr, I4⟩ => ?_)
  subst hr
  exact wpAny_execs_nil ⟨σ3, H3, I4, qn⟩
 ·refine wpAny_passesOwn hp (thn (T.item X rfl rfl rfl hc i pins s3 σ3 H3 X.xe I3 (stat fr3) st3 go) fun r s4 ⟨u, hr, h4⟩ => ?_)
  subst hr
  refine wpAny_passesOwn hp (thn h4 fun _ s5 ⟨x, H5, I5, r5, y5, st5, fr5⟩ => ?_)
  have I5' := I5.pinned (stat fr5) (T.obj _ _ st5)
  refine wpAny_passesOwn hp (thn (hg _ s5 σ3 H5 x u _ I5' r5 (step x H5 y5)) fun _ s6 ⟨σ6, H6, I6, q6⟩ => ?_)
  refine wpAny_passesOwn hp (thn (hb _ s6 σ6 H6 _ I6 q6) fun f s7 q7 => ?_)
  have again : ∀ {σ7 : St} {H7 : Hp}, Inv X (pins ++ kA fp s5.heap) σ7 H7 s7 → N σ7 H7 → ∃ m, m < n ∧ ∃ i σ' H', Inv X pins σ' H' s7 ∧ tn i s7.heap ∧ (∀ b ∈ fp, H' b = none) ∧ W i m σ' H' := fun {σ7 H7} I7 n7 => by
   obtain ⟨m', hm, w7⟩ := hN σ7 H7 n7
   refine ⟨m', hm, i + 1, σ7, H7, I7.unpinned, T.keep _ _ _ st5 fun b hb o e => (I7.pin (b, o) (List.mem_append_right _ (List.mem_append_right _ (fK hb e)))).1, fun b hb => ?_, w7⟩
   obtain ⟨o, e, d⟩ := T.obj _ _ st5 b hb
   exact (I7.pin (b, o) (List.mem_append_right _ (List.mem_append_right _ (fK hb e)))).2.1
  cases f with
  | next => obtain ⟨σ7, H7, I7, n7⟩ := q7; exact again I7 n7
  | cont => obtain ⟨σ7, H7, I7, n7⟩ := q7; exact again I7 n7
  | brk => obtain ⟨σ7, H7, I7, q7⟩ := q7; exact ⟨σ7, H7, I7.unpinned, q7⟩
  | ret v => obtain ⟨x7, σ7, H7, I7, r7, q7⟩ := q7; exact ⟨x7, σ7, H7, I7.unpinned, r7, q7⟩
end
end L2
namespace L2
open PySem PySem.Spec PyProof.Rows
abbrev R2 := V → V → Hp → VK → Prop
def OpR (X : Cx) (f : Value → Value → Sem Value) (r : R2) : Prop :=
 ∀ (pins : List (Addr × Obj)) (s : Shared) (σ : St) (H : Hp) (x y : V) (v u : Value) (Q : VK), Inv X pins σ H s → RelV x v → RelV y u → r x y H Q →
  wpAny (model X.prog X.w) X.A (f v u) (EP X pins σ Q) X.xe s
def UnR (X : Cx) (f : Value → Sem Value) (r : V → Hp → VK → Prop) : Prop :=
 ∀ (pins : List (Addr × Obj)) (s : Shared) (σ : St) (H : Hp) (x : V) (v : Value) (Q : VK), Inv X pins σ H s → RelV x v → r x H Q →
  wpAny (model X.prog X.w) X.A (f v) (EP X pins σ Q) X.xe s
def fL (X : Cx) (f : Value) (r : List V → Hp → VK → Prop) : Prop :=
 ∀ (pins : List (Addr × Obj)) (s : Shared) (σ : St) (H : Hp) (xs : List V) (us : List Value) (Q : VK), Inv X pins σ H s → Vals xs us → r xs H Q →
  wpAny (model X.prog X.w) X.A (call f us) (EP X pins σ Q) X.xe s
def TruR (X : Cx) (r : V → Hp → (Bool → Hp → Prop) → Prop) : Prop :=
 ∀ (pins : List (Addr × Obj)) (s : Shared) (σ : St) (H : Hp) (x : V) (v : Value) (Q : Bool → Hp → Prop), Inv X pins σ H s → RelV x v → r x H Q →
  wpAny (model X.prog X.w) X.A (truthy v) (TP X pins σ Q) X.xe s
def tOp (r : R2) (ta tb : TE) : TE := fun σ H Q => ta σ H fun x H1 => tb σ H1 fun y H2 => r x y H2 Q
def tUn (r : V → Hp → VK → Prop) (ta : TE) : TE := fun σ H Q => ta σ H fun x H1 => r x H1 Q
def rI (C : Int → Int → Prop) (g : Int → Int → V) : R2 := fun x y H Q => ∃ i j, x = .int i ∧ y = .int j ∧ C i j ∧ Q (g i j) H
def rI0 (g : Int → Int → V) : R2 := fun x y H Q => ∃ i j, x = .int i ∧ y = .int j ∧ Q (g i j) H
def rU (g : Int → V) : V → Hp → VK → Prop := fun x H Q => ∃ i, x = .int i ∧ Q (g i) H
section
variable {X : Cx} {a b c : Expr} {ta tb tc : TE} {pos : Pos}
theorem binT (ha : PE X a ta) (hb : PE X b tb) {pins : List (Addr × Obj)} {s : Shared} {σ : St} {H : Hp} {R : V → V → Hp → Prop} (I : Inv X pins σ H s)
  (h : ta σ H fun x H1 => tb σ H1 fun y H2 => R x y H2) {Q : Value → Shared → Prop} {f : Value → Value → Sem Value}
  (hf : ∀ v u s2 x y H2, Inv X pins σ H2 s2 → RelV x v → RelV y u → R x y H2 → wpAny (model X.prog X.w) X.A (f v u) Q X.xe s2) :
  wpAny (model X.prog X.w) X.A (eval a X.env) (fun v s₁ => wpAny (model X.prog X.w) X.A (eval b X.env) (fun u s₂ => wpAny (model X.prog X.w) X.A (f v u) Q X.xe s₂) X.xe s₁) X.xe s := by
 refine thn (ha pins s σ H _ I h) fun v s1 ⟨x, H1, I1, r1, q1⟩ => ?_
 refine thn (hb pins s1 σ H1 _ I1 q1) fun u s2 ⟨y, H2, I2, r2, q2⟩ => ?_
 exact hf v u s2 x y H2 I2 r1 r2 q2
theorem pe_op {op : Operator} {r : R2} (ho : OpR X (binaryOp op) r) (ha : PE X a ta) (hb : PE X b tb) : PE X (.BinOp a op b pos) (tOp r ta tb) := by
 intro pins s σ H Q I h
 exact wpAny_BinOp (binT ha hb I h fun v u s2 x y H2 I2 rx ry q => ho pins s2 σ H2 x y v u Q I2 rx ry q)
theorem pe_un {op : UnaryOp} {r : V → Hp → VK → Prop} (ho : UnR X (unaryOp op) r) (ha : PE X a ta) : PE X (.UnaryOp op a pos) (tUn r ta) := by
 intro pins s σ H Q I h
 exact UnaryOp_ (thn (ha pins s σ H _ I h) fun v s1 ⟨x, H1, I1, r1, q1⟩ => ho pins s1 σ H1 x v Q I1 r1 q1)
theorem opI {f : Value → Value → Sem Value} {C : Int → Int → Prop} {g : Int → Int → Int}
  (rule : ∀ (i j : Int) (t u : Tok) (s : Shared) (Q : Value → Shared → Prop) (E : Value → Shared → Prop), C i j → Q (.int (g i j) s.toks) { s with toks := s.toks + 1 } → wpAny (model X.prog X.w) X.A (f (.int i t) (.int j u)) Q E s) :
  OpR X f (rI C fun i j => .int (g i j)) := by
 intro pins s σ H x y v u Q I rx ry h
 obtain ⟨i, j, rfl, rfl, hc, q⟩ := h
 obtain ⟨t, rfl⟩ := rx
 obtain ⟨t', rfl⟩ := ry
 exact rule i j t t' s _ _ hc ⟨.int (g i j), H, I.tok _, ⟨_, rfl⟩, q⟩
theorem opI0 {f : Value → Value → Sem Value} {g : Int → Int → Int}
  (rule : ∀ (i j : Int) (t u : Tok) (s : Shared) (Q : Value → Shared → Prop) (E : Value → Shared → Prop), Q (.int (g i j) s.toks) { s with toks := s.toks + 1 } → wpAny (model X.prog X.w) X.A (f (.int i t) (.int j u)) Q E s) :
  OpR X f (rI0 fun i j => .int (g i j)) := by
 intro pins s σ H x y v u Q I rx ry h
 obtain ⟨i, j, rfl, rfl, q⟩ := h
 obtain ⟨t, rfl⟩ := rx
 obtain ⟨t', rfl⟩ := ry
 exact rule i j t t' s _ _ ⟨.int (g i j), H, I.tok _, ⟨_, rfl⟩, q⟩
theorem opB0 {f : Value → Value → Sem Value} {g : Int → Int → Bool}
  (rule : ∀ (i j : Int) (t u : Tok) (s : Shared) (Q : Value → Shared → Prop) (E : Value → Shared → Prop), Q (.bool (g i j)) s → wpAny (model X.prog X.w) X.A (f (.int i t) (.int j u)) Q E s) :
  OpR X f (rI0 fun i j => .bl (g i j)) := by
 intro pins s σ H x y v u Q I rx ry h
 obtain ⟨i, j, rfl, rfl, q⟩ := h
 obtain ⟨t, rfl⟩ := rx
 obtain ⟨t', rfl⟩ := ry
 exact rule i j t t' s _ _ ⟨.bl (g i j), H, I, rfl, q⟩
def CDiv (i j : Int) : Prop := 0 < j ∧ j < 1073741824
def CPow (i j : Int) : Prop := 0 ≤ j ∧ j ≤ 1000000 ∧ i.natAbs < 2 ^ 64
def CMul (i j : Int) : Prop := (-(2 ^ 64) < i ∧ i < 2 ^ 64) ∨ (-(2 ^ 64) < j ∧ j < 2 ^ 64)
theorem CMul.ok {i j : Int} (h : CMul i j) : IntMulOk i j := by
 rcases h with ⟨h1, h2⟩ | ⟨h1, h2⟩
 ·exact .of_left (intBits_le_64 h1 h2)
 ·exact .of_right (intBits_le_64 h1 h2)
theorem b6 : OpR X (binaryOp .Add) (rI0 fun i j => .int (i + j)) := opI0 fun _ _ _ _ _ _ _ q => add_int q
theorem dY : OpR X (binaryOp .Sub) (rI0 fun i j => .int (i - j)) := opI0 fun _ _ _ _ _ _ _ q => sub_int q
theorem fY : OpR X (binaryOp .Mult) (rI CMul fun i j => .int (i * j)) := opI fun _ _ _ _ _ _ _ hc q => mul_int q hc.ok
theorem op_fdiv : OpR X (binaryOp .FloorDiv) (rI CDiv fun i j => .int (i / j)) := opI fun i j _ _ _ _ _ hc q => by
 have h1 : (0 : Int) < j := hc.1
 have h2 : j < 1073741824 := hc.2
 exact floordiv_int (by omega) (by rw [Int.fdiv_eq_ediv_of_nonneg i (by omega)]; exact q) (.inl (PyProof.noPylong_small (by omega)))
theorem jO : OpR X (binaryOp .Mod) (rI (fun _ j => 0 < j) fun i j => .int (i % j)) := opI fun i j _ _ _ _ _ hc q => by
 have h1 : (0 : Int) < j := hc
 exact mod_int' (by omega) (by rw [Int.fmod_eq_emod_of_nonneg i (by omega)]; exact q)
theorem op_modN : OpR X (binaryOp .Mod) (rI (fun _ j => j ≠ 0) fun i j => .int (i.fmod j)) := opI fun _ _ _ _ _ _ _ hc q => mod_int' hc q
theorem op_pow : OpR X (binaryOp .Pow) (rI CPow fun i j => .int (i ^ j.toNat)) := opI fun _ _ _ _ _ _ _ hc q => pow_int_small hc.1 hc.2.1 hc.2.2 q
theorem unI {f : Value → Sem Value} {g : Int → Int}
  (rule : ∀ (i : Int) (t : Tok) (s : Shared) (Q : Value → Shared → Prop) (E : Value → Shared → Prop), Q (.int (g i) s.toks) { s with toks := s.toks + 1 } → wpAny (model X.prog X.w) X.A (f (.int i t)) Q E s) :
  UnR X f (rU fun i => .int (g i)) := by
 intro pins s σ H x v Q I rx h
 obtain ⟨i, rfl, q⟩ := h
 obtain ⟨t, rfl⟩ := rx
 exact rule i t s _ _ ⟨.int (g i), H, I.tok _, ⟨_, rfl⟩, q⟩
theorem eX : UnR X (unaryOp .USub) (rU fun i => .int (-i)) := unI fun _ _ _ _ _ q => neg_int q
end
def scal : V → V → Bool
 | .non, .non => true | .non, .int _ => true | .int _, .non => true | .non, .bl _ => true | .bl _, .non => true | .non, .str _ => true | .str _, .non => true
 | .int _, .int _ => true | .bl _, .bl _ => true | .str _, .str _ => true | .byt _, .byt _ => true
 | .int _, .str _ => true | .str _, .int _ => true | .bl _, .str _ => true | .str _, .bl _ => true
 | _, _ => false
def rEq : R2 := fun x y H Q => scal x y = true ∧ Q (.bl (decide (x = y))) H
def rNe : R2 := fun x y H Q => scal x y = true ∧ Q (.bl (!decide (x = y))) H
theorem dec_int {i j : Int} : decide (V.int i = V.int j) = (i == j) := by
 rw [Bool.eq_iff_iff]
 simp
theorem dec_bl {i j : Bool} : decide (V.bl i = V.bl j) = (i == j) := by
 rw [Bool.eq_iff_iff]
 simp
theorem dec_str {i j : Str} : decide (V.str i = V.str j) = (i == j) := by
 rw [Bool.eq_iff_iff]
 simp
theorem dec_byt {i j : Array UInt8} : decide (V.byt i = V.byt j) = (i.toList == j.toList) := by
 rw [Bool.eq_iff_iff]
 cases i
 cases j
 simp
section
variable {X : Cx} {a b c : Expr} {ta tb tc : TE} {pos : Pos}
theorem bN {pins : List (Addr × Obj)} {σ : St} {H : Hp} {s : Shared} {Q : VK} {k k' : Bool} (I : Inv X pins σ H s) (q : Q (.bl k) H) (e : k = k') : EP X pins σ Q (.bool k') s := by
 subst e
 exact ⟨.bl k, H, I, rfl, q⟩
theorem dS : OpR X (compareOp .Eq) rEq := by
 intro pins s σ H x y v u Q I rx ry h
 obtain ⟨hs, q⟩ := h
 cases x with
 | non =>
  cases rx
  cases y with
  | non => cases ry; exact PySem.EqNone.eq_none_none (bN I q (by simp))
  | bl j => cases ry; exact PySem.EqNone.eq_none_bool (bN I q (by simp))
  | int j => obtain ⟨t', rfl⟩ := ry; exact PySem.EqNone.eq_none_int (bN I q (by simp))
  | str j => obtain ⟨t', rfl⟩ := ry; exact PySem.EqNone.eq_none_str (bN I q (by simp))
  | _ => exact absurd (show false = true from hs) Bool.false_ne_true
 | bl i =>
  cases rx
  cases y with
  | non => cases ry; exact PySem.EqNone.eq_bool_none (bN I q (by simp))
  | bl j => cases ry; exact eq_bool (bN I q dec_bl)
  | str j => obtain ⟨t', rfl⟩ := ry; exact PySem.EqMixed.eq_bool_str (bN I q (by simp))
  | _ => exact absurd (show false = true from hs) Bool.false_ne_true
 | int i =>
  obtain ⟨t, rfl⟩ := rx
  cases y with
  | non => cases ry; exact PySem.EqNone.eq_int_none (bN I q (by simp))
  | int j => obtain ⟨t', rfl⟩ := ry; exact eq_int (bN I q dec_int)
  | str j => obtain ⟨t', rfl⟩ := ry; exact PySem.EqMixed.eq_int_str (bN I q (by simp))
  | _ => exact absurd (show false = true from hs) Bool.false_ne_true
 | str i =>
  obtain ⟨t, rfl⟩ := rx
  cases y with
  | non => cases ry; exact PySem.EqNone.eq_str_none (bN I q (by simp))
  | bl j => cases ry; exact PySem.EqMixed.eq_str_bool (bN I q (by simp))
  | int j => obtain ⟨t', rfl⟩ := ry; exact PySem.EqMixed.eq_str_int (bN I q (by simp))
  | str j => obtain ⟨t', rfl⟩ := ry; exact eq_str (bN I q dec_str)
  | _ => exact absurd (show false = true from hs) Bool.false_ne_true
 | byt i =>
  obtain ⟨t, rfl⟩ := rx
  cases y with
  | byt j => obtain ⟨t', rfl⟩ := ry; exact PySem.W.eq_bytes (bN I q dec_byt)
  | _ => exact absurd (show false = true from hs) Bool.false_ne_true
 | _ => cases y <;> exact absurd (show false = true from hs) Bool.false_ne_true
theorem op_ne : OpR X (compareOp .NotEq) rNe := by
 intro pins s σ H x y v u Q I rx ry h
 obtain ⟨hs, q⟩ := h
 cases x with
 | non =>
  cases rx
  cases y with
  | non => cases ry; exact PySem.EqNone.ne_none_none (bN I q (by simp))
  | bl j => cases ry; exact PySem.EqNone.ne_none_bool (bN I q (by simp))
  | int j => obtain ⟨t', rfl⟩ := ry; exact PySem.EqNone.ne_none_int (bN I q (by simp))
  | str j => obtain ⟨t', rfl⟩ := ry; exact PySem.EqNone.ne_none_str (bN I q (by simp))
  | _ => exact absurd (show false = true from hs) Bool.false_ne_true
 | bl i =>
  cases rx
  cases y with
  | non => cases ry; exact PySem.EqNone.ne_bool_none (bN I q (by simp))
  | bl j => cases ry; exact ne_bool (bN I q (congrArg not dec_bl))
  | str j => obtain ⟨t', rfl⟩ := ry; exact PySem.EqMixed.ne_bool_str (bN I q (by simp))
  | _ => exact absurd (show false = true from hs) Bool.false_ne_true
 | int i =>
  obtain ⟨t, rfl⟩ := rx
  cases y with
  | non => cases ry; exact PySem.EqNone.ne_int_none (bN I q (by simp))
  | int j => obtain ⟨t', rfl⟩ := ry; exact ne_int (bN I q (congrArg not dec_int))
  | str j => obtain ⟨t', rfl⟩ := ry; exact PySem.EqMixed.ne_int_str (bN I q (by simp))
  | _ => exact absurd (show false = true from hs) Bool.false_ne_true
 | str i =>
  obtain ⟨t, rfl⟩ := rx
  cases y with
  | non => cases ry; exact PySem.EqNone.ne_str_none (bN I q (by simp))
  | bl j => cases ry; exact PySem.EqMixed.ne_str_bool (bN I q (by simp))
  | int j => obtain ⟨t', rfl⟩ := ry; exact PySem.EqMixed.ne_str_int (bN I q (by simp))
  | str j => obtain ⟨t', rfl⟩ := ry; exact ne_str (bN I q (congrArg not dec_str))
  | _ => exact absurd (show false = true from hs) Bool.false_ne_true
 | byt i =>
  obtain ⟨t, rfl⟩ := rx
  cases y with
  | byt j => obtain ⟨t', rfl⟩ := ry; exact PySem.W.ne_bytes (bN I q (congrArg not dec_byt))
  | _ => exact absurd (show false = true from hs) Bool.false_ne_true
 | _ => cases y <;> exact absurd (show false = true from hs) Bool.false_ne_true
theorem iH : OpR X (compareOp .Lt) (rI0 fun i j => .bl (decide (i < j))) := opB0 fun _ _ _ _ _ _ _ q => lt_int q
theorem op_le : OpR X (compareOp .LtE) (rI0 fun i j => .bl (decide (i ≤ j))) := opB0 fun _ _ _ _ _ _ _ q => le_int q
theorem op_gt : OpR X (compareOp .Gt) (rI0 fun i j => .bl (decide (j < i))) := opB0 fun _ _ _ _ _ _ _ q => gt_int q
theorem op_ge : OpR X (compareOp .GtE) (rI0 fun i j => .bl (decide (j ≤ i))) := opB0 fun _ _ _ _ _ _ _ q => ge_int q
theorem op_in_str : OpR X (compareOp .In) (fun x y H Q => ∃ i j, x = .str i ∧ y = .str j ∧ Q (.bl (!(Builtin.Str.occurrences j i 0 j.length 1).isEmpty)) H) := by
 intro pins s σ H x y v u Q I rx ry h
 obtain ⟨i, j, rfl, rfl, q⟩ := h
 obtain ⟨t, rfl⟩ := rx
 obtain ⟨t', rfl⟩ := ry
 exact in_str (bN I q rfl)
theorem nomark (b : Expr) {op : CmpOp} (h : op ≠ .In := by decide) (h2 : op ≠ .NotIn := by decide) : behindInMarks op b = false := by
 have e1 : (op == CmpOp.In) = false := by cases op <;> first | rfl | exact absurd rfl h
 have e2 : (op == CmpOp.NotIn) = false := by cases op <;> first | rfl | exact absurd rfl h2
 cases b <;> simp [behindInMarks, e1, e2]
theorem pe_cmpR {op : CmpOp} {r : R2} (ho : OpR X (compareOp op) r) (ha : PE X a ta) (hb : PE X b tb) (hm : behindInMarks op b = false) : PE X (.Compare a [op] [b] pos) (tOp r ta tb) := by
 intro pins s σ H Q I h
 exact wpAny_Compare1 (binT ha hb I h fun v u s2 x y H2 I2 rx ry q => ho pins s2 σ H2 x y v u Q I2 rx ry q) hm
def tTest (t : TE) : TT := fun σ H Q => t σ H fun x H' => ∃ k, x = .bl k ∧ Q k H'
theorem pt_cmpR {op : CmpOp} {r : R2} (ho : OpR X (compareOp op) r) (ha : PE X a ta) (hb : PE X b tb) (hm : behindInMarks op b = false) : PT X (.Compare a [op] [b] pos) (tTest (tOp r ta tb)) := by
 intro pins s σ H Q I h
 refine wpAny_isTrue_Compare1 (thn (ha pins s σ H _ I h) fun v s1 ⟨x, H1, I1, r1, q1⟩ => thn (hb pins s1 σ H1 _ I1 q1) fun u s2 ⟨y, H2, I2, r2, q2⟩ =>
  thn (ho pins s2 σ H2 x y v u _ I2 r1 r2 q2) fun c s3 ⟨z, H3, I3, r3, k, e, q3⟩ => ?_) hm
 subst e
 cases r3
 exact wpAny_truthy_bool ⟨H3, I3, q3⟩
def tChain (r r' : R2) (ta tb tc : TE) : TE := fun σ H Q => ta σ H fun x H1 => tb σ H1 fun y H2 => r x y H2 fun z H3 => ∃ k, z = .bl k ∧
 (if k = true then tc σ H3 fun w' H4 => r' y w' H4 Q else Q (.bl false) H3)
theorem pe_chain {op op' : CmpOp} {r r' : R2} (ho : OpR X (compareOp op) r) (ho' : OpR X (compareOp op') r') (ha : PE X a ta) (hb : PE X b tb) (hc : PE X c tc)
  (hm : lastMarks [op, op'] [b, c] = false := by with_unfolding_all rfl) : PE X (.Compare a [op, op'] [b, c] pos) (tChain r r' ta tb tc) := by
 intro pins s σ H Q I h
 refine Compare_chain (thn (ha pins s σ H _ I h) fun v s1 ⟨x, H1, I1, r1, q1⟩ => chain_link (thn (hb pins s1 σ H1 _ I1 q1) fun u s2 ⟨y, H2, I2, r2, q2⟩ =>
  thn (ho pins s2 σ H2 x y v u _ I2 r1 r2 q2) fun d s3 ⟨z, H3, I3, r3, k, e, q3⟩ => ?_)) hm
 subst e
 cases r3
 refine wpAny_truthy_bool ?_
 cases k with
 | false => exact ite_ff ⟨.bl false, H3, I3, rfl, q3⟩
 | true => exact ite_tt (chain_last (thn (hc pins s3 σ H3 _ I3 q3) fun w' s4 ⟨z', H4, I4, r4, q4⟩ => ho' pins s4 σ H4 y z' u w' Q I4 r2 r4 q4))
def TruV (K : PySem.W.Frag) (x : V) (H : Hp) (k : Bool) : Prop :=
 match x with
 | .non => k = false
 | .bl b => k = b
 | .int i => k = (i != 0)
 | .str y => y.length ≤ sizeLine ∧ k = ((y.length : Int) != 0)
 | .byt y => y.size ≤ sizeLine ∧ k = ((y.size : Int) != 0)
 | .ref p => (∃ xs, SqL K H p xs ∧ k = !xs.isEmpty) ∨ (∃ xs, SqT K H p xs ∧ k = !xs.isEmpty) ∨ ∃ kvs, H p = some (.dK kvs) ∧ k = !kvs.isEmpty
 | _ => False
theorem uK {κ : Type} {kvs : List (κ × V)} {vs : List (κ × Value)} (r : KV kvs vs) : (!vs.isEmpty) = !kvs.isEmpty := by
 cases r <;> rfl
theorem oS {xs : List V} {its : List Value} (r : Vals xs its) : (!its.toArray.isEmpty) = !xs.isEmpty := by
 cases r <;> simp
theorem line63 : (sizeLine : Nat) < 2 ^ 63 := by rw [sizeLine_eq]; decide
theorem tru_ok : TruR X (fun x H Q => ∃ k, TruV X.K x H k ∧ Q k H) := by
 intro pins s σ H x v Q I rx h
 obtain ⟨k, e, q⟩ := h
 have hl := line63
 have hs : sizeLine = 16777216 := sizeLine_eq
 cases x with
 | non =>
  cases rx
  have e' : k = false := e
  subst e'
  exact truthy_none ⟨H, I, q⟩
 | bl b =>
  cases rx
  have e' : k = b := e
  subst e'
  exact wpAny_truthy_bool ⟨H, I, q⟩
 | int i =>
  obtain ⟨t, rfl⟩ := rx
  have e' : k = (i != 0) := e
  subst e'
  exact PySem.P.truthy_int ⟨H, I, q⟩
 | str y =>
  obtain ⟨t, rfl⟩ := rx
  obtain ⟨hy, e'⟩ : y.length ≤ sizeLine ∧ k = ((y.length : Int) != 0) := e
  subst e'
  exact PySem.P.truthy_str (by omega) ⟨H, I.tok _, q⟩
 | byt y =>
  obtain ⟨t, rfl⟩ := rx
  obtain ⟨hy, e'⟩ : y.size ≤ sizeLine ∧ k = ((y.size : Int) != 0) := e
  subst e'
  exact PySem.W.truthy_bytes (by omega) ⟨H, I.tok _, q⟩
 | ref p =>
  cases rx
  have e' : (∃ xs, SqL X.K H p xs ∧ k = !xs.isEmpty) ∨ (∃ xs, SqT X.K H p xs ∧ k = !xs.isEmpty) ∨ ∃ kvs, H p = some (.dK kvs) ∧ k = !kvs.isEmpty := e
  rcases e' with ⟨xs, hx, e'⟩ | ⟨xs, hx, e'⟩ | ⟨kvs, hx, e'⟩
  ·subst e'
   obtain ⟨its, r, pl, hz⟩ := I.list hx
   have hlen := r.length
   exact wpAny_truthy_list pl.isList (by simp only [List.size_toArray]; omega) ⟨H, I.tok _, by rw [oS r]; exact q⟩
  ·subst e'
   obtain ⟨its, r, pl, hz⟩ := I.tuple hx
   have hlen := r.length
   exact truthy_tuple pl (by simp only [List.size_toArray]; omega) ⟨H, I.tok _, by rw [oS r]; exact q⟩
  ·subst e'
   obtain ⟨hz, hS, vs, r, m⟩ : kvs.length ≤ sizeLine ∧ (p == sysModules) = false ∧ ∃ vs, KV kvs vs ∧ s.heap.DictOf (p5 X.prog X.w) p vs := I.hok p _ hx
   have hlen : kvs.length = vs.length := Paired.length r
   exact wpAny_truthy_dict hS m (by omega) ⟨H, I.tok _, by rw [uK r]; exact q⟩
 | _ => exact (show False from e).elim
theorem pt_truth (ha : PE X a ta) (he : ∀ whole, isTrue a X.env whole = (do let v ← whole; standAt a.pos; holding [v] (truthy v))) :
  PT X a (fun σ H Q => ta σ H fun x H' => ∃ k, TruV X.K x H' k ∧ Q k H') := by
 intro pins s σ H Q I h
 exact isTrue_plain (thn (ha pins s σ H _ I h) fun v s1 ⟨x, H1, I1, r1, q1⟩ => tru_ok pins s1 σ H1 x v Q I1 r1 q1) (he _)
theorem uX : OpR X (binaryOp .Add) (fun x y H Q => ∃ i j, x = .str i ∧ y = .str j ∧ i.length + j.length ≤ sizeLine ∧ Q (.str (i ++ j)) H) := by
 intro pins s σ H x y v u Q I rx ry h
 obtain ⟨i, j, rfl, rfl, hz, q⟩ := h
 obtain ⟨t, rfl⟩ := rx
 obtain ⟨t', rfl⟩ := ry
 exact add_str (fun t' tk => ⟨.str (i ++ j), H, I.tok _, ⟨_, rfl⟩, q⟩) hz
theorem vals1 {x : V} {us : List Value} (r : Vals [x] us) : ∃ u, us = [u] ∧ RelV x u := by
 cases r with
 | cons r1 r2 => cases r2; exact ⟨_, rfl, r1⟩
theorem vals2 {x y : V} {us : List Value} (r : Vals [x, y] us) : ∃ u w', us = [u, w'] ∧ RelV x u ∧ RelV y w' := by
 cases r with
 | cons r1 r2 =>
  cases r2 with
  | cons r3 r4 => cases r4; exact ⟨_, _, rfl, r1, r3⟩
theorem oF : fL X (.builtin "abs") (fun xs H Q => ∃ i, xs = [.int i] ∧ Q (.int (if i < 0 then -i else i)) H) := by
 intro pins s σ H xs us Q I r h
 obtain ⟨i, rfl, q⟩ := h
 obtain ⟨u, rfl, t, rfl⟩ := vals1 r
 exact call_abs_int fun u tk => ⟨.int (if i < 0 then -i else i), H, I.tok _, ⟨_, rfl⟩, q⟩
theorem jY (hc : X.calm = true) : fL X (.builtin "max") (fun xs H Q => ∃ i j, xs = [.int i, .int j] ∧ Q (.int (if j > i then j else i)) H) := by
 intro pins s σ H xs us Q I r h
 obtain ⟨i, j, rfl, q⟩ := h
 obtain ⟨u, w', rfl, ⟨t, rfl⟩, ⟨t', rfl⟩⟩ := vals2 r
 refine max_two_ints (I.ok.hd hc) fun h' tk k => ⟨_, H, I.kept k, ?_, q⟩
 by_cases hj : j > i
 ·rw [if_pos hj, if_pos hj]; exact ⟨_, rfl⟩
 ·rw [if_neg hj, if_neg hj]; exact ⟨_, rfl⟩
theorem call_min2 (hc : X.calm = true) : fL X (.builtin "min") (fun xs H Q => ∃ i j, xs = [.int i, .int j] ∧ Q (.int (if j < i then j else i)) H) := by
 intro pins s σ H xs us Q I r h
 obtain ⟨i, j, rfl, q⟩ := h
 obtain ⟨u, w', rfl, ⟨t, rfl⟩, ⟨t', rfl⟩⟩ := vals2 r
 refine min_two_ints (I.ok.hd hc) fun h' tk k => ⟨_, H, I.kept k, ?_, q⟩
 by_cases hj : j < i
 ·rw [if_pos hj, if_pos hj]; exact ⟨_, rfl⟩
 ·rw [if_neg hj, if_neg hj]; exact ⟨_, rfl⟩
theorem call_int1 : fL X (.type "int") (fun xs H Q => (∃ i, xs = [.int i] ∧ Q (.int i) H) ∨ ∃ k, xs = [.bl k] ∧ Q (.int (if k then 1 else 0)) H) := by
 intro pins s σ H xs us Q I r h
 rcases h with ⟨i, rfl, q⟩ | ⟨k, rfl, q⟩
 ·obtain ⟨u, rfl, t, rfl⟩ := vals1 r
  exact call_int_int ⟨.int i, H, I, ⟨_, rfl⟩, q⟩
 ·obtain ⟨u, rfl, r1⟩ := vals1 r
  cases r1
  exact call_int_bool ⟨.int (if k then 1 else 0), H, I.tok _, ⟨_, rfl⟩, q⟩
def LenV (K : PySem.W.Frag) (x : V) (H : Hp) (n : Nat) : Prop :=
 match x with
 | .str y => y.length ≤ sizeLine ∧ n = y.length
 | .byt y => y.size ≤ sizeLine ∧ n = y.size
 | .ref p => (∃ xs, SqL K H p xs ∧ n = xs.length) ∨ ∃ xs, SqT K H p xs ∧ n = xs.length
 | _ => False
theorem bM : fL X (.builtin "len") (fun xs H Q => ∃ x n, xs = [x] ∧ LenV X.K x H n ∧ Q (.int n) H) := by
 intro pins s σ H xs us Q I r h
 obtain ⟨x, n, rfl, e, q⟩ := h
 obtain ⟨u, rfl, rx⟩ := vals1 r
 have hl := line63
 have hs : sizeLine = 16777216 := sizeLine_eq
 cases x with
 | str y =>
  obtain ⟨t, rfl⟩ := rx
  obtain ⟨hy, e'⟩ : y.length ≤ sizeLine ∧ n = y.length := e
  subst e'
  exact len_str (by omega) ⟨.int _, H, I.tok _, ⟨_, rfl⟩, q⟩
 | byt y =>
  obtain ⟨t, rfl⟩ := rx
  obtain ⟨hy, e'⟩ : y.size ≤ sizeLine ∧ n = y.size := e
  subst e'
  exact PySem.W.len_bytes (by omega) ⟨.int _, H, I.tok _, ⟨_, rfl⟩, q⟩
 | ref p =>
  cases rx
  have e' : (∃ xs, SqL X.K H p xs ∧ n = xs.length) ∨ ∃ xs, SqT X.K H p xs ∧ n = xs.length := e
  rcases e' with ⟨xs, hx, e'⟩ | ⟨xs, hx, e'⟩
  ·subst e'
   obtain ⟨its, r', pl, hz⟩ := I.list hx
   have hlen := r'.length
   exact Calls.call_len_list pl.isList (by simp only [List.size_toArray]; omega) ⟨.int xs.length, H, I.tok _, ⟨_, by simp only [List.size_toArray]; rw [hlen]⟩, q⟩
  ·subst e'
   obtain ⟨its, r', pl, hz⟩ := I.tuple hx
   have hlen := r'.length
   exact len_tuple pl (by simp only [List.size_toArray]; omega) ⟨.int xs.length, H, I.tok _, ⟨_, by simp only [List.size_toArray]; rw [hlen]⟩, q⟩
 | _ => exact (show False from e).elim
end
end L2
namespace L2
open PySem PySem.Spec PyProof.Rows
structure ObjM (h : Heap) (x dx C : Addr) (mA : Str → Option Value) : Prop where
 obj : h.get? x = some (PySem.W.instObj C dx)
 ns : h.Ns1 dx mA
 ne : dx ≠ x
section
variable {prog : Program} {w : World} {A : Around} {E : Value → Shared → Prop} {s : Shared} {K : PySem.W.Frag} {x dx C f : Addr} {mA : Str → Option Value} {name : Str} {v : Value}
end
section
variable {P : Program} {w : World} {H H' : Hp} {h h' : Heap} {a C dx : Addr} {fs fs' : List (Str × V)}
end
structure Cls (K : PySem.W.Frag) (C : Addr) : Prop where
 pg : PySem.W.plainGet K C Str.empty = true
 hd : PySem.W.hasDictIn K C = true
 po : PySem.W.plainOver K C = true
 sa : PySem.W.findIn K (.ref C) "__setattr__" = some (some (.builtin "object.__setattr__"))
structure Con (K : PySem.W.Frag) (C : Addr) (f : Str) (v : V) (u : Value) : Prop where
 at_ : PySem.W.findIn K (.ref C) f = some (some u)
 rel : RelV v u
 get : PySem.W.specialIn K u "__get__" = some none
 cp : PySem.W.copiedNames.contains f = false
structure Meth (K : PySem.W.Frag) (C : Addr) (m : Str) (f : Addr) : Prop where
 at_ : PySem.W.findIn K (.ref C) m = some (some (.ref f))
 fn : PySem.W.isFn K (.ref f) = true
 kp : PySem.W.keepIn K (.ref f) = true
section
variable {X : Cx} {pins : List (Addr × Obj)} {σ : St} {H : Hp} {s : Shared} {a C dx : Addr} {fs : List (Str × V)} {f : Str} {v : V} {A : Around} {E : Value → Shared → Prop}
end
section
variable {X : Cx} {o e value : Expr} {f : Str} {pos pos' tpos : Pos} {ta tv : TE}
end
section
variable {X : Cx} {pins : List (Addr × Obj)} {σ : St} {H : Hp} {s : Shared} {A : Around} {E : Value → Shared → Prop} {Q : Value → Shared → Prop} {c : Value} {b : Bool}
inductive TyOf (K : PySem.W.Frag) (H : Hp) : V → Value → Prop where
 | non : TyOf K H .non (.type "NoneType")
 | bl (x : Bool) : TyOf K H (.bl x) (.type "bool")
 | int (i : Int) : TyOf K H (.int i) (.type "int")
 | str (x : Str) : TyOf K H (.str x) (.type "str")
 | flt (x : UInt64) : TyOf K H (.flt x) (.type "float")
 | lst {a : Addr} {xs : List V} (e : H a = some (.lst xs)) : TyOf K H (.ref a) (.type "list")
 | frz {a : Addr} {o : Obj} {xs : List V} (e : H a = some (.frz o (.lst xs))) : TyOf K H (.ref a) (.type "list")
 | tup {a : Addr} {xs : List V} (e : H a = some (.tup xs)) : TyOf K H (.ref a) (.type "tuple")
 | dK {a : Addr} {kvs : List (Key × V)} (e : H a = some (.dK kvs)) : TyOf K H (.ref a) (.type "dict")
 | dT {a : Addr} {kvs : List (List Key × V)} (e : H a = some (.dT kvs)) : TyOf K H (.ref a) (.type "dict")
 | ins {a C dx : Addr} {fs : List (Str × V)} (e : H a = some (.ins C dx fs)) (cl : Cls K C) (ha : PySem.W.findIn K (.ref C) "__class__" = some (some (.builtin "object.__class__")))
   (hn : PySem.W.specialIn K (.builtin "object.__class__") "__get__" = some (some (.builtin "getset_descriptor.__get__"))) (htk : PySem.W.takesIn K (.builtin "object.__class__") = some true)
   (hm : PySem.W.mroIn K C (.type "object") = some true) : TyOf K H (.ref a) (.ref C)
end
end L2
namespace L2
open PySem PySem.Spec PyProof.Rows
structure Room (k : Nat) (A : Around) : Prop where
 hd : A.handled = none
 dp : A.depth + 3 * k + 5 < recursionLimit
 un : A.units + 16 * k + 200 < cLine
 gd : A.guards = some []
theorem Room.mono {j k : Nat} {A : Around} (r : Room k A) (h : j ≤ k) : Room j A := ⟨r.hd, by have := r.dp; omega, by have := r.un; omega, r.gd⟩
theorem Room.deeper {k : Nat} {A : Around} (r : Room (k + 1) A) (env : Env) : Room k (A.deeper env) :=
 ⟨r.hd, by have := r.dp; show A.depth + 1 + 3 * k + 5 < _; omega, by have := r.un; show A.units + 3 + 16 * k + 200 < _; omega, r.gd⟩
theorem Room.depth {k : Nat} {A : Around} (r : Room k A) : A.depth < recursionLimit := by have := r.dp; omega
theorem Room.units {k : Nat} {A : Around} (r : Room k A) : A.units + 64 < cLine := by have := r.un; omega
def tNil : TA := fun _ H Q => Q [] H
def tCons (ta : TE) (tr : TA) : TA := fun σ H Q => ta σ H fun x H1 => tr σ H1 fun xs H2 => Q (x :: xs) H2
section
variable {X : Cx} {e : Expr} {es : List Expr} {te : TE} {t : TA} {pos : Pos}
theorem pa_nil : PA X [] tNil := fun _ _ _ _ H Q I h => Calls.spliced_nil ⟨[], H, I, .nil, h⟩
theorem pR (ha : PE X e te) (hr : PA X es t) (hs : starEach (e :: es) X.env = (false, eval e X.env) :: starEach es X.env := by rfl) : PA X (e :: es) (tCons te t) := by
 intro pos pins s σ H Q I h
 rw [hs]
 show wpAny _ _ (spliced ((false, eval e X.env) :: backTo pos (starEach es X.env))) _ _ s
 refine Calls.spliced_cons (thn (ha pins s σ H _ I h) fun u s1 ⟨x, H1, I1, r1, q1⟩ => ?_)
 exact thn (hr pos pins s1 σ H1 _ I1 q1) fun us s2 ⟨xs, H2, I2, r2, q2⟩ => ⟨x :: xs, H2, I2, .cons r1 r2, q2⟩
def tTup (t : TA) : TE := fun σ H Q => t σ H fun xs H1 => xs.length ≤ sizeLine ∧ ∀ p, H1 p = none → Q (.ref p) (upd H1 p (.tup xs))
def tLst (t : TA) : TE := fun σ H Q => t σ H fun xs H1 => xs.length ≤ sizeLine ∧ ∀ p, H1 p = none → Q (.ref p) (upd H1 p (.lst xs))
theorem pe_tup {x1} (h : PA X es t) : PE X (.Tuple es x1 pos) (tTup t) := by
 intro pins s σ H Q I hq
 refine wpAny_Tuple_spliced (thn (h pos pins s σ H _ I hq) fun us s1 ⟨xs, H1, I1, r, z, q⟩ => ⟨by rw [← r.length]; exact z, ?_⟩)
 have hf : H1 s1.heap.objs.size = none := I1.hok.fresh (Nat.le_refl _)
 refine ⟨.ref s1.heap.objs.size, upd H1 s1.heap.objs.size (.tup xs), I1.laid (t' := s1.toks) (fun b u e => Heap.get?_push_of_some _ e) (Nat.le_refl _) ?_, rfl, q _ hf⟩
 exact ⟨z, us, r, ⟨_, Heap.get?_push_size _ rfl, rfl, _, rfl⟩⟩
theorem pe_lst (h : PA X es t) : PE X (.List es pos) (tLst t) := by
 intro pins s σ H Q I hq
 refine wpAny_List_spliced (thn (h pos pins s σ H _ I hq) fun us s1 ⟨xs, H1, I1, r, z, q⟩ => ⟨by rw [← r.length]; exact z, ?_⟩)
 have hf : H1 s1.heap.objs.size = none := I1.hok.fresh (Nat.le_refl _)
 refine ⟨.ref s1.heap.objs.size, upd H1 s1.heap.objs.size (.lst xs), I1.laid (t' := s1.toks) (fun b u e => Heap.get?_push_of_some _ e) (Nat.le_refl _) ?_, rfl, q _ hf⟩
 exact ⟨z, us, 0, r, Heap.get?_push_size _ rfl⟩
end
abbrev Sp := List V → Hp → VK → XK → Prop
abbrev CXT := List Env → Hp → Shared → XK → Value → Shared → Prop
structure Env0 (P : Program) (w : World) (K : PySem.W.Frag) (mg : Str → Option Value) (base : Heap) (A : Around) (outer : List Env) (s : Shared) (H : Hp) : Prop where
 frames : A.frames = some outer
 mod : Mod K mg base
 bs : ∀ b o, base.get? b = some o → s.heap.get? b = some o ∧ H b = none
 bsz : base.objs.size ≤ s.heap.objs.size
 funs : s.heap.FunFrames base outer
 frf : ∀ b ∈ frs outer, H b = none
 hok : HOk P w H s.heap
 bare : AllBare s.gens
def CE (outer : List Env) (P : Program) (w : World) (H : Hp) (s : Shared) (Q : VK) (u : Value) (s' : Shared) : Prop :=
 ∃ v H', s'.os = s.os ∧ AllBare s'.gens ∧ Un (frs outer) [] H H' s.heap s'.heap ∧ HOk P w H' s'.heap ∧ RelV v u ∧ Q v H'
def CR (CX : CXT) (outer : List Env) (P : Program) (w : World) (H : Hp) (s : Shared) (Q : VK) (E : XK) (r : Result) (s' : Shared) : Prop :=
 match r with
 | .ok (.ret u) => CE outer P w H s Q u s'
 | .ok _ => False
 | .error e => CX outer H s E e s'
structure FnOk (P : Program) (w : World) (K : PySem.W.Frag) (mg : Str → Option Value) (base : Heap) (CX : CXT) (k : Nat) (f : Addr) (fd : FuncData) (ps : List Str) (sp : Sp) : Prop where
 len : ∀ vs H Q E, sp vs H Q E → vs.length = ps.length
 run : ∀ (A : Around) (outer : List Env) (s : Shared) (H : Hp) (args : Args) (us : List Value) (vs : List V) (Q : VK) (E : XK), Room k A → Env0 P w K mg base A outer s H → BindsTo s fd args (ps.zip us) → Vals vs us → sp vs H Q E →
  codeAny (model P w) A (.call (.ref f) args) (CR CX outer P w H s Q E) s
section
variable {X : Cx} {pins : List (Addr × Obj)} {σ : St} {H : Hp} {s s' : Shared}
theorem Inv.env0 (I : Inv X pins σ H s) : Env0 X.prog X.w X.K X.mg X.base X.A X.stack s H :=
 ⟨I.ok.frames, I.ok.mod, I.bs, Nat.le_trans I.ok.bsz I.sz, I.stack, I.stkFree, I.hok, I.bare⟩
theorem Inv.after {Q : VK} {u : Value} (I : Inv X pins σ H s) (h : CE X.stack X.prog X.w H s Q u s') : EP X pins σ Q u s' := by
 obtain ⟨v, H', os, bare, un, hok, r, q⟩ := h
 obtain ⟨hh, g, d, t, os'⟩ := s'
 obtain rfl : os' = s.os := os
 exact ⟨v, H', I.call (h' := hh) (g' := g) (d' := d) (t' := t) (ch := []) un hok bare (fun b z => absurd z (by simp)), r, q⟩
end
def tCall (sp : Sp) (dvs : List V) (E : XK) (t : TA) : TE := fun σ H Q => t σ H fun vs H1 => sp (vs ++ dvs) H1 Q E
def Binds (K : PySem.W.Frag) (fd : FuncData) (ps : List Str) (ds : List Value) : Prop :=
 ∀ (s : Shared) (us : List Value), K.In s.heap → (us ++ ds).length = ps.length → BindsTo s fd ⟨us, []⟩ (ps.zip (us ++ ds))
theorem Binds.all {K : PySem.W.Frag} {fd : FuncData} {ps : List Str} (h : ∀ us : List Value, us.length = ps.length → bindArgs fd ⟨us, []⟩ = pure (ps.zip us)) : Binds K fd ps [] := fun s us _ hl => by
 rw [List.append_nil] at hl ⊢
 exact .of_eq (h us hl)
def Passes (CX : CXT) (X : Cx) (E : XK) : Prop := ∀ (pins : List (Addr × Obj)) (σ : St) (H : Hp) (s : Shared) (e : Value) (s' : Shared), Inv X pins σ H s → CX X.stack H s E e s' → X.xe e s'
section
variable {X : Cx} {CX : CXT} {k : Nat} {f C : Addr} {fd : FuncData} {ps : List Str} {sp : Sp} {dvs : List V} {ds : List Value} {E : XK} {x m : Str} {p pos apos : Pos} {e o : Expr} {es : List Expr} {ta : TE} {t : TA}
theorem run_fn {pins : List (Addr × Obj)} {σ : St} {H : Hp} {s : Shared} {Q : VK} {us : List Value} {vs : List V} (F : FnOk X.prog X.w X.K X.mg X.base CX k f fd ps sp) (hr : Room k X.A) (hb : Binds X.K fd ps ds) (hd : Vals dvs ds) (hx : Passes CX X E)
  (I : Inv X pins σ H s) (r : Vals vs us) (h : sp (vs ++ dvs) H Q E) : wpAny (model X.prog X.w) X.A (call (.ref f) us) (EP X pins σ Q) X.xe s := by
 have r2 : Vals (vs ++ dvs) (us ++ ds) := r.append hd
 have hl : (us ++ ds).length = ps.length := by rw [← r2.length]; exact F.len _ _ _ _ h
 refine wpAny_call (codeAny_mono (F.run X.A X.stack s H ⟨us, []⟩ (us ++ ds) (vs ++ dvs) Q E hr I.env0 (hb s us I.kIn hl) r2 h) fun r s' hq => ?_)
 cases r with
 | error e => exact hx pins σ H s e s' I hq
 | ok fl =>
  cases fl with
  | ret u => exact I.after hq
  | next => exact False.elim hq
  | brk => exact False.elim hq
  | cont => exact False.elim hq
theorem pe_call (F : FnOk X.prog X.w X.K X.mg X.base CX k f fd ps sp) (hr : Room k X.A) (hg : Gl X x) (hm : X.mg x = some (.ref f)) (hk : PySem.W.keepIn X.K (.ref f) = true) (hb : Binds X.K fd ps ds) (hd : Vals dvs ds) (hx : Passes CX X E)
  (ha : PA X (e :: es) t) (hdb : (x == ("__debug__" : Str)) = false := by decide) (he : starEach (e :: es) X.env = (false, eval e X.env) :: starEach es X.env := by rfl) (hpl : (backTo pos (starEach es X.env)).any (·.1) = false := by rfl) :
  PE X (.Call (.Name x p) (e :: es) [] pos) (tCall sp dvs E t) := by
 intro pins s σ H Q I h
 refine wpAny_Call_Name_kw (ld_glob I hg hm ?_ hdb)
 refine PySem.W.callWith_K (h₀ := X.base) I.ok.mod.kin hk (thn (ha pos pins s σ H _ I h) fun us s1 ⟨vs, H1, I1, r, q⟩ => ⟨I1.kIn, ?_⟩) he hpl
 exact run_fn F hr hb hd hx I1 r q
structure Mk (K : PySem.W.Frag) (C f : Addr) : Prop where
 makes : PySem.W.makesIn K C = true
 init : PySem.W.findIn K (.ref C) "__init__" = some (some (.ref f))
 fn : PySem.W.isFn K (.ref f) = true
 kp : PySem.W.keepIn K (.ref C) = true
end
section
variable {X : Cx} {CX : CXT} {k : Nat} {f C : Addr} {fd : FuncData} {ps ks : List Str} {sp : Sp} {E : XK} {x m : Str} {p pos apos kpos : Pos} {e o : Expr} {es : List Expr} {kws : List Keyword} {te ta : TE} {t tk : TA} {nm : Option Str}
structure KBinds (K : PySem.W.Frag) (fd : FuncData) (ps ks : List Str) (g : List Value → List Value → List Value) (gV : List V → List V → List V) : Prop where
 to : ∀ (s : Shared) (us ws : List Value), K.In s.heap → (g us ws).length = ps.length → BindsTo s fd ⟨us, ks.zip ws⟩ (ps.zip (g us ws))
 rel : ∀ {vs : List V} {us : List Value} {zs : List V} {ws : List Value}, Vals vs us → Vals zs ws → Vals (gV vs zs) (g us ws)
variable {g : List Value → List Value → List Value} {gV : List V → List V → List V}
end
structure FnScope (N P : List Str) (sc : Scope) : Prop where
 kind : sc.kind = .function
 co : sc.isCoroutine = false
 gen : sc.isGenerator = false
 nd : N.Nodup
 pre : N.take P.length = P
 par : ∀ x ∈ P, sc.names.lookup x = some .local ∨ sc.names.lookup x = some .cell
 nofree : ∀ y ∈ sc.names, y.2 ≠ .free
theorem qQ {kindOf : Str → Option NameKind} {x : Str} : ∀ {binds : List (Str × Value)} {m : Str → Option Value}, (∀ v, (x, v) ∉ binds) → bindL kindOf binds m x = m x
 | [], _, _ => rfl
 | (n, v) :: r, m, h => by
  unfold bindL
  rw [qQ fun w hw => h w (List.mem_cons_of_mem _ hw)]
  split
  ·have : x ≠ n := by rintro rfl; exact h v List.mem_cons_self
   simp [this]
  ·rfl
theorem qF {kindOf : Str → Option NameKind} {x : Str} : ∀ {binds : List (Str × Value)} {m : Str → Option Value}, (∀ v, (x, v) ∉ binds) → bindC kindOf binds m x = m x
 | [], _, _ => rfl
 | (n, v) :: r, m, h => by
  unfold bindC
  rw [qF fun w hw => h w (List.mem_cons_of_mem _ hw)]
  split
  ·rfl
  ·have : x ≠ n := by rintro rfl; exact h v List.mem_cons_self
   simp [this]
theorem qJ {kindOf : Str → Option NameKind} {x : Str} {v : Value} : ∀ {P : List Str} {vs : List Value} {i : Nat} {m : Str → Option Value}, P.Nodup → P[i]? = some x → vs[i]? = some v → kindOf x = some .local →
  bindL kindOf (P.zip vs) m x = some v
 | [], _, _, _, _, h, _, _ => by simp at h
 | _ :: _, [], _, _, _, _, h, _ => by simp at h
 | p :: P, w :: vs, 0, m, nd, h1, h2, hk => by
  simp at h1 h2; subst h1; subst h2
  show bindL kindOf ((p, w) :: P.zip vs) m p = _
  unfold bindL
  rw [qQ fun v hv => (List.nodup_cons.mp nd).1 (List.of_mem_zip hv).1, if_pos hk]
  simp
 | p :: P, w :: vs, i + 1, m, nd, h1, h2, hk => by
  show bindL kindOf ((p, w) :: P.zip vs) m x = _
  unfold bindL
  exact qJ (i := i) (List.nodup_cons.mp nd).2 (by simpa using h1) (by simpa using h2) hk
theorem qC {kindOf : Str → Option NameKind} {x : Str} {v : Value} : ∀ {P : List Str} {vs : List Value} {i : Nat} {m : Str → Option Value}, P.Nodup → P[i]? = some x → vs[i]? = some v → kindOf x ≠ some .local →
  bindC kindOf (P.zip vs) m x = some v
 | [], _, _, _, _, h, _, _ => by simp at h
 | _ :: _, [], _, _, _, _, h, _ => by simp at h
 | p :: P, w :: vs, 0, m, nd, h1, h2, hk => by
  simp at h1 h2; subst h1; subst h2
  show bindC kindOf ((p, w) :: P.zip vs) m p = _
  unfold bindC
  rw [qF fun v hv => (List.nodup_cons.mp nd).1 (List.of_mem_zip hv).1, if_neg hk]
  simp
 | p :: P, w :: vs, i + 1, m, nd, h1, h2, hk => by
  show bindC kindOf ((p, w) :: P.zip vs) m x = _
  unfold bindC
  exact qC (i := i) (List.nodup_cons.mp nd).2 (by simpa using h1) (by simpa using h2) hk
def start (N : List Str) (vs : List V) : St := vs.map some ++ List.replicate (N.length - vs.length) none
def cxOf (CX : CXT) (P : Program) (w : World) (K : PySem.W.Frag) (mg : Str → Option Value) (base : Heap) (N : List Str) (qual : Str) (scope : Scope) (f : Addr) (cd : Value) (A : Around) (outer : List Env) (s : Shared) (H : Hp) (E : XK) : Cx where
 prog := P
 w := w
 K := K
 mg := mg
 base := base
 A := A.deeper (envOfC qual scope s.heap.objs.size f cd)
 N := N
 s₀ := s
 H₀ := H
 env := envOfC qual scope s.heap.objs.size f cd
 outer := outer
 stack := envOfC qual scope s.heap.objs.size f cd :: outer
 ex := []
 calm := true
 fn := fun _ => true
 pn := []
 xe := fun e s' => wpAny (model P w) (A.deeper (envOfC qual scope s.heap.objs.size f cd)) (leaving (envOfC qual scope s.heap.objs.size f cd) e) (fun _ s'' => CX outer H s E e s'') (fun e' s'' => CX outer H s E e' s'') s'
theorem sQ {sc : Scope} {n : Nat} {x : Str} (h : sc.names.lookup x = some .cell) : ∃ c, (cellsFrom n sc.names []).lookup x = some c := by
 have q := PySem.W.cellsFrom_some sc.names n [] (.inl h)
 exact Option.isSome_iff_exists.mp q
theorem inv_start {CX : CXT} {P : Program} {w : World} {K : PySem.W.Frag} {mg : Str → Option Value} {base : Heap} {N ps : List Str} {qual : Str} {scope : Scope} {f : Addr} {cd : Value} {A : Around} {outer : List Env} {s s1 : Shared} {H : Hp} {E : XK} {us : List Value} {vs : List V}
  (S : FnScope N ps scope) (hd : A.handled = none) (e0 : Env0 P w K mg base A outer s H) (hl : vs.length = ps.length) (r : Vals vs us)
  (x : InCallC s s.heap.objs.size (bindL (envOfC qual scope s.heap.objs.size f cd).kindOf (ps.zip us) fun _ => none) (cellsFrom (s.heap.objs.size + 1) scope.names []) (bindC (envOfC qual scope s.heap.objs.size f cd).kindOf (ps.zip us) fun _ => none) s1) :
  Inv (cxOf CX P w K mg base N qual scope f cd A outer s H E) [] (start N vs) H s1 := by
 have hpl : ps.length ≤ N.length := by have := congrArg List.length S.pre; rw [List.length_take] at this; omega
 obtain ⟨h1, tk, rfl, hk⟩ := x.done
 have noA : ∀ b : Addr, b ∉ (cxOf CX P w K mg base N qual scope f cd A outer s H E).ex := fun b z => absurd (show b ∈ ([] : List Addr) from z) (by simp)
 refine ⟨⟨e0.mod, S.kind, rfl, rfl, Nat.le_refl _, fun y z c h1 h2 => ?_, fun y hy => ?_, fun y c _ h => ?_, fun _ => hd, Around.frames_deeper e0.frames, .inr ⟨rfl, rfl⟩, fun b z => absurd z (noA b), e0.bs, e0.bsz, fun b _ _ => noA b, fun b z => absurd z (noA b), e0.funs, e0.frf⟩,
  rfl, e0.bare, Un.kept hk, ⟨_, x.toInCall.ns, fun i y v h1 h2 h3 => ?_⟩, fun y c h => ⟨_, x.cell y c h⟩, e0.hok.fresh (Nat.le_refl _), fun y c h => ?_, fun p hp => absurd (show p ∈ ([] : List (Addr × Obj)) from hp) (by simp), e0.hok.kept hk, ?_⟩
 ·exact name_of_addr x.apart (PySem.mem_of_lookup h1) (PySem.mem_of_lookup h2)
 ·have hy : scope.names.lookup y = some .cell ∨ scope.names.lookup y = some .free := hy
  rcases hy with hy | hy
  ·exact sQ hy
  ·exact absurd rfl (S.nofree _ (PySem.mem_of_lookup hy))
 ·exact Nat.le_of_lt (x.above y c (PySem.mem_of_lookup h))
 ·have hi : i < vs.length := by
   unfold start at h2
   by_cases hi : i < vs.length
   ·exact hi
   ·rw [List.getElem?_append_right (by simpa using hi)] at h2
    rw [List.getElem?_replicate] at h2
    split at h2 <;> cases h2
  have ha : vs[i]? = some v := by
   unfold start at h2
   rw [List.getElem?_append_left (by simpa using hi), List.getElem?_map] at h2
   cases e : vs[i]? with
   | none => rw [e] at h2; cases h2
   | some a => rw [e] at h2; cases h2; rfl
  obtain ⟨u, hu, rv⟩ := r.get ha
  have hp : ps[i]? = some y := by
   rw [← S.pre, List.getElem?_take_of_lt (by omega)]; exact h1
  have ndP : ps.Nodup := by rw [← S.pre]; exact S.nd.sublist (List.take_sublist _ _)
  refine ⟨u, rv, ?_⟩
  rcases S.par y (List.mem_of_getElem? hp) with k | k
  ·exact .inl ⟨k, qJ ndP hp hu k⟩
  ·obtain ⟨c, e⟩ := sQ (n := s.heap.objs.size + 1) k
   refine .inr ⟨.inl k, c, e, ?_⟩
   have q := x.cell y c e
   rw [qC ndP hp hu (by show scope.names.lookup y ≠ _; rw [k]; decide)] at q
   exact q
 ·exact e0.hok.fresh (Nat.le_of_lt (x.above y c (PySem.mem_of_lookup h)))
 ·unfold start
  show _ = N.length
  rw [List.length_append, List.length_map, List.length_replicate]
  omega
theorem fn_of {CX : CXT} {P : Program} {w : World} {K : PySem.W.Frag} {mg : Str → Option Value} {base : Heap} {k : Nat} {f : Addr} {name qual : Str} {params : Arguments} {body : List Stmt} {scope : Scope} {dV kV doc pm cdv ct oc : Value} {an od : Option Addr}
  {osl : Array (Option Value)} {N ps : List Str} {sp : Sp} (lk : K.lookup f = some ⟨oc, od, .func (PySem.W.fnOf name qual params body scope dV kV doc pm an cdv ct), osl⟩) (hcd : PySem.W.codeIn K cdv qual = true) (S : FnScope N ps scope)
  (len : ∀ vs H Q E, sp vs H Q E → vs.length = ps.length)
  (hbody : ∀ (A : Around) (outer : List Env) (s : Shared) (H : Hp) (vs : List V) (Q : VK) (E : XK), Room k (A.deeper (envOfC qual scope s.heap.objs.size f cdv)) → sp vs H Q E →
   ∃ t, PSs (cxOf CX P w K mg base N qual scope f cdv A outer s H E) body t ∧ t { nx := fun _ H' => Q .non H', rt := Q } (start N vs) H) :
  FnOk P w K mg base CX (k + 1) f (PySem.W.fnOf name qual params body scope dV kV doc pm an cdv ct) ps sp := by
 refine ⟨len, fun A outer s H args us vs Q E hr e0 hb r hsp => ?_⟩
 have hl := len _ _ _ _ hsp
 have KX : K.In s.heap := e0.mod.kin.keeps fun b o e => (e0.bs b o e).1
 have lim : s.heap.NoLimit := e0.mod.nolimit.keeps fun b o e => (e0.bs b o e).1
 have hkind : ∀ y ∈ ps.zip us, scope.names.lookup y.1 = some .local ∨ (scope.names.lookup y.1 = some .cell ∧ ((cellsFrom (s.heap.objs.size + 1) scope.names []).lookup y.1).isSome = true) := fun ⟨n, v⟩ hy => by
  rcases S.par n (List.of_mem_zip hy).1 with q | q
  ·exact .inl q
  ·exact .inr ⟨q, PySem.W.cellsFrom_some _ _ _ (.inl q)⟩
 refine codeAny_call_function hr.depth (KX _ _ lk) rfl S.co S.gen rfl (PySem.W.codeRec_of KX hcd) (hb _ _ _ _ ?_)
 refine wpAny_newFunctionEnv_cells S.kind hkind fun env he s1 x => ?_
 subst he
 refine ⟨lim.keeps x.toInCall.keep, codeAny_func ?_⟩
 obtain ⟨t, ht, hq⟩ := hbody A outer s H vs Q E (hr.deeper _) hsp
 have I : Inv (cxOf CX P w K mg base N qual scope f cdv A outer s H E) [] (start N vs) H s1 := inv_start S hr.hd e0 hl r x
 refine wpAny_mono (ht [] s1 (start N vs) H _ I hq) (fun fl s' hs => ?_) fun e s' hs => hs
 have fin : ∀ {σ' : St} {H' : Hp} {v : V} {u : Value}, Inv (cxOf CX P w K mg base N qual scope f cdv A outer s H E) [] σ' H' s' → RelV v u → Q v H' → CE outer P w H s Q u s' :=
  fun {σ' H' v u} J rv q => ⟨v, H', J.os, J.bare, J.base, J.hok, rv, q⟩
 cases fl with
 | ret u =>
  obtain ⟨v, σ', H', J, rv, q⟩ := hs
  exact fin J rv q
 | next =>
  obtain ⟨σ', H', J, q⟩ := hs
  exact fin (v := V.non) (u := Value.none) J rfl q
 | brk =>
  obtain ⟨_, _, _, q⟩ := hs
  exact False.elim q
 | cont =>
  obtain ⟨_, _, _, q⟩ := hs
  exact False.elim q
end L2
namespace L2
open PySem PySem.Spec PyProof.Rows
section
variable {X : Cx} {x : Str} {p pos : Pos} {e : Expr} {es : List Expr} {t : TA} {id T : String} {r : List V → Hp → VK → Prop}
def tCB (r : List V → Hp → VK → Prop) (t : TA) : TE := fun σ H Q => t σ H fun vs H1 => r vs H1 Q
theorem sA (hc : fL X (.builtin id) r) (hg : Gl X x) (hm : X.mg x = none) (hv : bootBuiltins x = some (.builtin id)) (ha : PA X (e :: es) t) (hn : x ≠ "__name__" := by decide) (hdb : (x == ("__debug__" : Str)) = false := by decide)
  (he : starEach (e :: es) X.env = (false, eval e X.env) :: starEach es X.env := by rfl) (hpl : (backTo pos (starEach es X.env)).any (·.1) = false := by rfl) : PE X (.Call (.Name x p) (e :: es) [] pos) (tCB r t) := by
 intro pins s σ H Q I h
 refine wpAny_Call_Name_kw (gN I hg hm hv ?_ hn hdb)
 exact PyProof.Rows.callWith_builtin1 (thn (ha pos pins s σ H _ I h) fun us s1 ⟨vs, H1, I1, r1, q1⟩ => hc pins s1 σ H1 vs us Q I1 r1 q1) he hpl
theorem pe_callTy (hc : fL X (.type T) r) (hg : Gl X x) (hm : X.mg x = none) (hv : bootBuiltins x = some (.type T)) (ha : PA X (e :: es) t) (hn : x ≠ "__name__" := by decide) (hdb : (x == ("__debug__" : Str)) = false := by decide)
  (he : starEach (e :: es) X.env = (false, eval e X.env) :: starEach es X.env := by rfl) (hpl : (backTo pos (starEach es X.env)).any (·.1) = false := by rfl) : PE X (.Call (.Name x p) (e :: es) [] pos) (tCB r t) := by
 intro pins s σ H Q I h
 refine wpAny_Call_Name_kw (gN I hg hm hv ?_ hn hdb)
 exact PyProof.Rows.callWith_type1 (thn (ha pos pins s σ H _ I h) fun us s1 ⟨vs, H1, I1, r1, q1⟩ => hc pins s1 σ H1 vs us Q I1 r1 q1) he hpl
end
end L2
namespace HT
open PySem PyProof.Rows
section
open PySem.SeqAt
open PySem.AutoSeq1 (wpAny_loadPart')
open PySem.MeetsSeq PySem.MeetsSeq2 PySem.MeetsSeq3
end
section
variable {prog : Program} {w : World} {A : Around} {E : Value → Shared → Prop} {s : Shared}
def sIx (n d : Nat) : Option Int → Nat
 | none => d
 | some v => if v < 0 then (v + (n : Int)).toNat else min v.toNat n
theorem sIx_none (n d : Nat) : sIx n d none = d := rfl
theorem sIx_nat (n d k : Nat) : sIx n d (some (k : Int)) = min k n := by
 show (if (k : Int) < 0 then ((k : Int) + (n : Int)).toNat else min (k : Int).toNat n) = min k n
 rw [if_neg (by omega), Int.toNat_natCast]
theorem sIx_le (n d : Nat) (hd : d ≤ n) (o : Option Int) : sIx n d o ≤ n := by
 cases o with
 | none => exact hd
 | some v =>
  show (if v < 0 then (v + (n : Int)).toNat else min v.toNat n) ≤ n
  by_cases hv : v < 0
  ·rw [if_pos hv]; omega
  ·rw [if_neg hv]; exact Nat.min_le_right _ _
theorem clip_eq (v : Int) (n d : Nat) : (if v < 0 then max (v + (n : Int)) 0 else min v (n : Int)) = ((sIx n d (some v) : Nat) : Int) := by
 show (if v < 0 then max (v + (n : Int)) 0 else min v (n : Int)) = (((if v < 0 then (v + (n : Int)).toNat else min v.toNat n) : Nat) : Int)
 by_cases hv : v < 0
 ·simp only [if_pos hv]; omega
 ·simp only [if_neg hv]; omega
theorem uM (lo hi : Option Int) (n : Nat) : Builtin.Slice.sliceAdjust lo hi 1 (n : Int) = (((sIx n 0 lo : Nat) : Int), ((sIx n n hi : Nat) : Int)) := by
 have h1 : ¬ ((1 : Int) < 0) := by omega
 unfold Builtin.Slice.sliceAdjust
 simp only [h1, if_false]
 refine Prod.ext ?_ ?_
 ·cases lo with
  | none => rfl
  | some v => exact clip_eq v n 0
 ·cases hi with
  | none => rfl
  | some v => exact clip_eq v n n
theorem uZ (i j : Nat) : Builtin.Slice.slicePlaces (i : Int) (j : Int) 1 = j - i := by
 unfold Builtin.Slice.slicePlaces
 have h1 : (1 : Int) > 0 := by omega
 simp only [h1, if_true, Int.ediv_one]
 split <;> omega
theorem o8 {v : Value} {o : Option Int} {Q : Option Int → Shared → Prop} (p : IsPart v o) (h : Q o s) : wpAny (model prog w) A (Builtin.Slice.slicePartIndex v) Q E s := by
 cases p with
 | none => exact slicePart_none h
 | int i t => exact slicePart_int h
theorem jS {sl : Addr} {vl vu : Value} {lo hi : Option Int} {n : Nat} {Q : Int × Int × Nat → Shared → Prop} (hs : s.heap.IsSliceOf sl vl vu .none) (pl : IsPart vl lo) (pu : IsPart vu hi)
  (h : Q (((sIx n 0 lo : Nat) : Int), 1, sIx n n hi - sIx n 0 lo) s) : wpAny (model prog w) A (Builtin.Slice.sliceApplied (.ref sl) (pure (n : Int))) Q E s := by
 obtain ⟨os, hos, hcs, hds⟩ := id hs
 unfold Builtin.Slice.sliceApplied Builtin.Slice.sliceFields
 refine wpAny_bind (wpAny_bind (wpAny_field hos hds (x := vl) rfl (wpAny_bind (wpAny_field hos hds (x := vu) rfl (wpAny_bind (wpAny_field hos hds (x := .none) rfl (wpAny_pure ?_)))))))
 refine wpAny_bind (slicePart_none ?_)
 show wpAny _ _ (if ((1 : Int) == 0) = true then _ else _) _ _ s
 rw [if_neg (by decide)]
 refine wpAny_bind (o8 pl (wpAny_bind (o8 pu (wpAny_bind (wpAny_pure ?_)))))
 show wpAny _ _ (match Builtin.Slice.sliceAdjust lo hi 1 (n : Int) with | (lo, hi) => pure (lo, (1 : Int), Builtin.Slice.slicePlaces lo hi 1)) _ _ s
 rw [uM lo hi n]
 show wpAny _ _ (pure (((sIx n 0 lo : Nat) : Int), (1 : Int), Builtin.Slice.slicePlaces ((sIx n 0 lo : Nat) : Int) ((sIx n n hi : Nat) : Int) 1)) _ _ s
 rw [uZ]
 exact wpAny_pure h
theorem pick_gen (xs : Array Value) (i k : Nat) : ((List.range k).filterMap fun (m : Nat) => xs[((i : Int) + (m : Int) * 1).toNat]?).toArray = ((xs.toList.drop i).take k).toArray := by
 have e : (fun (m : Nat) => xs[((i : Int) + (m : Int) * 1).toNat]?) = fun m => xs[i + m]? := by
  funext m
  have : ((i : Int) + (m : Int) * 1).toNat = i + m := by omega
  rw [this]
 rw [e]
 have := pick_run xs i k
 rw [List.filterMap_map] at this
 have e2 : ((fun x => xs[x]?) ∘ fun x => i + x) = fun m => xs[i + m]? := rfl
 rw [e2] at this
 rw [this]
theorem nI {t sl : Addr} {items : Array Value} {vl vu : Value} {lo hi : Option Int} {Q : Value → Shared → Prop} (ht : IsTup s.heap t items) (hs : s.heap.IsSliceOf sl vl vu .none) (pl : IsPart vl lo) (pu : IsPart vu hi)
  (hw : ¬ (sIx items.size 0 lo = 0 ∧ sIx items.size items.size hi = items.size))
  (h : Q (.ref s.heap.objs.size) { s with heap := s.heap.push { cls := .type "tuple", data := .seq ((items.toList.drop (sIx items.size 0 lo)).take (sIx items.size items.size hi - sIx items.size 0 lo)).toArray } })
  (hsz : items.size ≤ sizeLine) : wpAny (model prog w) A (getItem (.ref t) (.ref sl)) Q E s := by
 have htake : sizeOk (.seq ((items.toList.drop (sIx items.size 0 lo)).take (sIx items.size items.size hi - sIx items.size 0 lo)).toArray) := by
  show ((items.toList.drop (sIx items.size 0 lo)).take (sIx items.size items.size hi - sIx items.size 0 lo)).toArray.size ≤ sizeLine
  rw [List.size_toArray, List.length_take, List.length_drop, Array.length_toList]
  omega
 have hj : sIx items.size items.size hi ≤ items.size := sIx_le _ _ (Nat.le_refl _) hi
 obtain ⟨os, hos, hcs, hds⟩ := id hs
 have hTs : s.TypeIs (.ref sl) "slice" := ⟨os, hos, hcs⟩
 unfold getItem
 try with_reducible refine wpAny_holding ?_
 first | refine wpAny_bind (wpAny_pure ?_) | skip
 refine wpAny_bind (wpAny_sequenceKey ht.typeIs (by decide) ?_)
 refine wpAny_bind (wpAny_callSpecial?_slot (name := Str.ofString "__getitem__") ht.typeIs PyProof.Rows.slot_tuple_getitem
  (wpAny_call_entry PyProof.Rows.slot_tuple_getitem ht.typeIs entry_tuple_getitem ?_ (args_tuple_getitem _ _)))
 show wpAny _ _ (Builtin.Tuple.tupleItemsOf (.ref t) >>= _) _ _ s
 refine wpAny_bind (tupleItemsOf_ ht ?_)
 refine wpAny_bind (wpAny_typeOf hTs ?_)
 rw [if_pos (by decide)]
 refine wpAny_bind (jS hs pl pu ?_)
 have hno : ¬ ((((sIx items.size 0 lo : Nat) : Int) == 0 && (1 : Int) == 1 && (sIx items.size items.size hi - sIx items.size 0 lo) == items.size) = true) := by
  intro q
  rw [Bool.and_eq_true, Bool.and_eq_true] at q
  have q1 : ((sIx items.size 0 lo : Nat) : Int) = 0 := eq_of_beq q.1.1
  have q2 : sIx items.size items.size hi - sIx items.size 0 lo = items.size := eq_of_beq q.2
  exact hw ⟨by omega, by omega⟩
 show wpAny _ _ (if (((sIx items.size 0 lo : Nat) : Int) == 0 && (1 : Int) == 1 && (sIx items.size items.size hi - sIx items.size 0 lo) == items.size) = true then _ else _) _ _ s
 rw [if_neg hno, pick_gen]
 first
  | exact wpAny_bind (m := Builtin.Tuple.tupleExact _) (wpAny_newObj_type (wpAny_pure ⟨_, rfl, wpAny_pure h⟩) htake)
  | exact wpAny_bind (m := Builtin.Tuple.tupleExact _) (wpAny_newObj_type (wpAny_bind (wpAny_pure (wpAny_pure ⟨_, rfl, wpAny_pure h⟩))) htake)
  | exact wpAny_bind (wpAny_bind (m := Builtin.Tuple.tupleExact _) (wpAny_newObj_type (wpAny_pure (wpAny_pure ⟨_, rfl, wpAny_pure h⟩)) htake))
  | exact wpAny_bind (wpAny_bind (m := Builtin.Tuple.tupleExact _) (wpAny_newObj_type (wpAny_pure ⟨_, rfl, wpAny_pure h⟩) htake))
end
end HT
namespace L2
open PySem PySem.Spec PyProof.Rows
abbrev TO := St → Hp → (Option Int → Hp → Prop) → Prop
def PO (X : Cx) (e : Option Expr) (t : TO) : Prop :=
 ∀ (pins : List (Addr × Obj)) (s : Shared) (σ : St) (H : Hp) (Q : Option Int → Hp → Prop), Inv X pins σ H s → t σ H Q →
  wpAny (model X.prog X.w) X.A (evalPart e X.env) (fun u s' => ∃ o H', Inv X pins σ H' s' ∧ IsPart u o ∧ Q o H') X.xe s
def tNoPart : TO := fun _ H Q => Q none H
def tPart (t : TE) : TO := fun σ H Q => t σ H fun x H1 => ∃ i, x = .int i ∧ Q (some i) H1
section
variable {X : Cx} {e : Expr} {te : TE} {lo hi : Option Expr} {tl th : TO} {pos p2 : Pos}
theorem po_none : PO X none tNoPart := by
 intro pins s σ H Q I h
 rw [evalPart_none]
 exact wpAny_pure ⟨none, H, I, .none, h⟩
theorem po_some (h : PE X e te) : PO X (some e) (tPart te) := by
 intro pins s σ H Q I hw
 rw [evalPart_some]
 refine thn (h pins s σ H _ I hw) fun u s1 ⟨x, H1, I1, r1, q1⟩ => ?_
 obtain ⟨i, rfl, q⟩ := q1
 obtain ⟨t, rfl⟩ := r1
 exact ⟨some i, H1, I1, .int i t, q⟩
def SlR (X : Cx) (r : V → Option Int → Option Int → Hp → VK → Prop) : Prop :=
 ∀ (pins : List (Addr × Obj)) (s : Shared) (σ : St) (H : Hp) (x : V) (v vl vu : Value) (lo hi : Option Int) (sl : Addr) (Q : VK), Inv X pins σ H s → RelV x v → s.heap.IsSliceOf sl vl vu .none → IsPart vl lo → IsPart vu hi → r x lo hi H Q →
  ∃ T id, typeLookup (.type T) "__getitem__" = pure (some (.builtin id)) ∧ s.TypeIs v T ∧ wpAny (model X.prog X.w) X.A (getItem v (.ref sl)) (EP X pins σ Q) X.xe s
def tSl (r : V → Option Int → Option Int → Hp → VK → Prop) (te : TE) (tl th : TO) : TE := fun σ H Q => te σ H fun x H1 => tl σ H1 fun l H2 => th σ H2 fun u H3 => r x l u H3 Q
theorem pe_slice {r : V → Option Int → Option Int → Hp → VK → Prop} (hr : SlR X r) (he : PE X e te) (hl : PO X lo tl) (hu : PO X hi th) : PE X (.Subscript e (.Slice lo hi none p2) pos) (tSl r te tl th) := by
 intro pins s σ H Q I h
 refine Subscript_ (thn (he pins s σ H _ I h) fun v s1 ⟨x, H1, I1, r1, q1⟩ => ?_)
 refine wpAny_Slice (thn (hl pins s1 σ H1 _ I1 q1) fun vl s2 ⟨l, H2, I2, pl, q2⟩ => thn (hu pins s2 σ H2 _ I2 q2) fun vu s3 ⟨u, H3, I3, pu, q3⟩ => ?_)
 rw [evalPart_none]
 refine wpAny_pure ?_
 have I4 : Inv X pins σ H3 { s3 with heap := s3.heap.push { cls := .type "slice", data := .fields #[vl, vu, .none] } } := I3.kept (t' := s3.toks) fun b ob q => Heap.get?_push_of_some _ q
 obtain ⟨T, id, hT, ht, hg⟩ := hr pins { s3 with heap := s3.heap.push { cls := .type "slice", data := .fields #[vl, vu, .none] } } σ H3 x v vl vu l u s3.heap.objs.size Q I4 r1 (Heap.IsSliceOf.new ..) pl pu q3
 show wpAny (model X.prog X.w) X.A (subscriptTail e (.Slice lo hi none p2) v (.ref s3.heap.objs.size)) (EP X pins σ Q) X.xe { s3 with heap := s3.heap.push { cls := .type "slice", data := .fields #[vl, vu, .none] } }
 exact tail_any (ops := [.ref s3.heap.objs.size, v]) ht hT hg (by with_unfolding_all rfl)
def cutV (xs : List V) (lo hi : Option Int) : List V := (xs.drop (HT.sIx xs.length 0 lo)).take (HT.sIx xs.length xs.length hi - HT.sIx xs.length 0 lo)
theorem nW (xs : List V) (lo hi : Option Int) : (cutV xs lo hi).length ≤ xs.length := by
 unfold cutV
 rw [List.length_take, List.length_drop]
 omega
def rSlT (K : PySem.W.Frag) : V → Option Int → Option Int → Hp → VK → Prop := fun x lo hi H Q => ∃ a xs, x = .ref a ∧ SqT K H a xs ∧
 ¬ (HT.sIx xs.length 0 lo = 0 ∧ HT.sIx xs.length xs.length hi = xs.length) ∧ ∀ p, H p = none → Q (.ref p) (upd H p (.tup (cutV xs lo hi)))
theorem sl_tup : SlR X (rSlT X.K) := by
 intro pins s σ H x v vl vu lo hi sl Q I rx hs pl pu h
 obtain ⟨a, xs, rfl, hx, hw, q⟩ := h
 cases rx
 obtain ⟨its, r, ht, hz⟩ := I.tuple hx
 have hlen : its.toArray.size = xs.length := by rw [List.size_toArray]; exact r.length.symm
 refine ⟨"tuple", _, PyProof.Rows.slot_tuple_getitem.lookup, ht.typeIs, ?_⟩
 refine HT.nI ht hs pl pu (by rw [hlen]; exact hw) ?_ (by rw [hlen]; exact hz)
 rw [hlen]
 refine ⟨.ref s.heap.objs.size, _, I.laid (t' := s.toks) (o := .tup (cutV xs lo hi)) (fun b ob q => Heap.get?_push_of_some _ q) (Nat.le_refl _) ?_, rfl, q _ (I.hok.fresh (Nat.le_refl _))⟩
 exact ⟨Nat.le_trans (nW xs lo hi) hz, _, (r.drop (HT.sIx xs.length 0 lo)).take (HT.sIx xs.length xs.length hi - HT.sIx xs.length 0 lo), IsTup.new _ _⟩
end
end L2
namespace L2
open PySem PySem.Spec PyProof.Rows
def ixN (n : Nat) (i : Int) : Option Nat := if 0 ≤ i then (if i < n then some i.toNat else none) else if -(n : Int) ≤ i then some (i + n).toNat else none
def atI {α : Type} (xs : List α) (i : Int) : Option α := (ixN xs.length i).bind fun j => xs[j]?
theorem ixN_seq {n : Nat} {i : Int} {j : Nat} (h : ixN n i = some j) : seqIndex? i n = some j ∧ j < n ∧ -(n : Int) ≤ i ∧ i < n := by
 unfold ixN at h
 by_cases h0 : 0 ≤ i
 ·rw [if_pos h0] at h
  by_cases h1 : i < n
  ·rw [if_pos h1] at h
   have e : i.toNat = j := Option.some.inj h
   exact ⟨by rw [seqIndex_of h0 h1, e], by omega, by omega, h1⟩
  ·rw [if_neg h1] at h; cases h
 ·rw [if_neg h0] at h
  by_cases h1 : -(n : Int) ≤ i
  ·rw [if_pos h1] at h
   have e : (i + n).toNat = j := Option.some.inj h
   exact ⟨by rw [seqIndex_neg (by omega) h1, e], by omega, h1, by omega⟩
  ·rw [if_neg h1] at h; cases h
theorem pP {α : Type} {xs : List α} {i : Int} {v : α} (h : atI xs i = some v) : ∃ j, seqIndex? i xs.length = some j ∧ xs[j]? = some v ∧ j < xs.length ∧ -(xs.length : Int) ≤ i ∧ i < xs.length := by
 unfold atI at h
 cases e : ixN xs.length i with
 | none => rw [e] at h; cases h
 | some j =>
  rw [e] at h
  obtain ⟨h1, h2, h3, h4⟩ := ixN_seq e
  exact ⟨j, h1, h, h2, h3, h4⟩
theorem eN {α : Type} {xs : List α} {j : Nat} {v : α} (h : xs[j]? = some v) : atI xs (j : Int) = some v := by
 have hj : j < xs.length := (List.getElem?_eq_some_iff.mp h).1
 have e : ixN xs.length (j : Int) = some j := by
  unfold ixN
  rw [if_pos (by omega), if_pos (by omega)]; simp
 unfold atI; rw [e]; exact h
theorem n8 {α : Type} (xs : List α) (v : α) : atI (xs ++ [v]) (-1) = some v := by
 have hl : (xs ++ [v]).length = xs.length + 1 := by simp
 have e : ixN (xs ++ [v]).length (-1) = some xs.length := by
  unfold ixN
  rw [hl, if_neg (by decide), if_pos (by omega)]
  congr 1
  omega
 unfold atI
 rw [e]
 show (xs ++ [v])[xs.length]? = some v
 simp
def PlainIx (b : Expr) : Prop := ∀ o i, subscripted b false o i = operate [o, i] (getItem o i)
def IxR (X : Cx) (r : R2) : Prop :=
 ∀ (value slice : Expr) (pins : List (Addr × Obj)) (s : Shared) (σ : St) (H : Hp) (x y : V) (v u : Value) (Q : VK), Inv X pins σ H s → RelV x v → RelV y u → r x y H Q →
  subscripted slice false v u = operate [v, u] (getItem v u) → wpAny (model X.prog X.w) X.A (subscriptTail value slice v u) (EP X pins σ Q) X.xe s
def MtR (X : Cx) (id : String) (r : V → List V → Hp → VK → Prop) : Prop :=
 ∀ (pins : List (Addr × Obj)) (s : Shared) (σ : St) (H : Hp) (x : V) (xs : List V) (v : Value) (us : List Value) (Q : VK), Inv X pins σ H s → RelV x v → Vals xs us → r x xs H Q →
  wpAny (model X.prog X.w) X.A (call (.builtin id) (v :: us)) (EP X pins σ Q) X.xe s
section
variable {X : Cx} {a b : Expr} {ta tb : TE} {pos : Pos}
theorem IxR.or {r r' : R2} (h : IxR X r) (h' : IxR X r') : IxR X (fun x y H Q => r x y H Q ∨ r' x y H Q) := by
 intro value slice pins s σ H x y v u Q I rx ry q hs
 rcases q with q | q
 ·exact h value slice pins s σ H x y v u Q I rx ry q hs
 ·exact h' value slice pins s σ H x y v u Q I rx ry q hs
theorem pe_ix {r : R2} (hr : IxR X r) (ha : PE X a ta) (hb : PE X b tb) (hs : PlainIx b) : PE X (.Subscript a b pos) (tOp r ta tb) := by
 intro pins s σ H Q I h
 exact Subscript_ (binT ha hb I h fun v u s2 x y H2 I2 rx ry q => hr a b pins s2 σ H2 x y v u Q I2 rx ry q (hs _ _))
def rIxL (K : PySem.W.Frag) : R2 := fun x y H Q => ∃ p xs i v, x = .ref p ∧ y = .int i ∧ SqL K H p xs ∧ atI xs i = some v ∧ Q v H
def rIxT (K : PySem.W.Frag) : R2 := fun x y H Q => ∃ p xs i v, x = .ref p ∧ y = .int i ∧ SqT K H p xs ∧ atI xs i = some v ∧ Q v H
def rIxS : R2 := fun x y H Q => ∃ z i c, x = .str z ∧ y = .int i ∧ z.length ≤ sizeLine ∧ atI z.cps.toList i = some c ∧ Q (.str ⟨#[c]⟩) H
theorem ix_list : IxR X (rIxL X.K) := by
 intro value slice pins s σ H x y v u Q I rx ry h hs
 obtain ⟨p, xs, i, z, rfl, rfl, hq, he, q⟩ := h
 cases rx
 obtain ⟨t, rfl⟩ := ry
 obtain ⟨its, r, pl, hz⟩ := I.list hq
 obtain ⟨j, h1, h2, h3, h4, h5⟩ := pP he
 obtain ⟨w, ew, rw'⟩ := r.get h2
 have hl := r.length
 have hn := line63
 have fin : EP X pins σ Q w s := ⟨z, H, I, rw', q⟩
 by_cases h0 : 0 ≤ i
 ·have hj : i.toNat = j := by
   rw [seqIndex_of h0 h5] at h1
   exact Option.some.inj h1
  exact item_listR pl.isList h0 (by omega) (by rw [hj]; simpa using ew) fin hs
 ·have hj : (i + (its.toArray.size : Int)).toNat = j := by
   rw [seqIndex_neg (by omega) h4] at h1
   rw [List.size_toArray, ← hl]
   exact Option.some.inj h1
  exact subscriptTail_builtinR (x := w) pl.isList.typeIs slot_list_getitem.lookup
   (wpAny_getItem_list_neg (Q := fun r s' => r = w ∧ EP X pins σ Q r s') pl.isList (by omega) (by rw [List.size_toArray] <;> omega) (by omega) (by rw [hj]; simpa using ew) ⟨rfl, fin⟩) hs
theorem ix_tup : IxR X (rIxT X.K) := by
 intro value slice pins s σ H x y v u Q I rx ry h hs
 obtain ⟨p, xs, i, z, rfl, rfl, hq, he, q⟩ := h
 cases rx
 obtain ⟨t, rfl⟩ := ry
 obtain ⟨its, r, pl, hz⟩ := I.tuple hq
 obtain ⟨j, h1, h2, h3, h4, h5⟩ := pP he
 obtain ⟨w, ew, rw'⟩ := r.get h2
 have hl := r.length
 have hn := line63
 have fin : EP X pins σ Q w s := ⟨z, H, I, rw', q⟩
 exact subscriptTail_builtinR (x := w) pl.typeIs slot_tuple_getitem.lookup
  (getItem_tuple (j := j) (Q := fun r s' => r = w ∧ EP X pins σ Q r s') pl (by omega) (by omega) (by rw [List.size_toArray, ← hl]; exact h1) (by simpa using ew) ⟨rfl, fin⟩) hs
theorem ix_str : IxR X rIxS := by
 intro value slice pins s σ H x y v u Q I rx ry h hs
 obtain ⟨z, i, c, rfl, rfl, hz, he, q⟩ := h
 obtain ⟨t, rfl⟩ := rx
 obtain ⟨t', rfl⟩ := ry
 obtain ⟨j, h1, h2, h3, h4, h5⟩ := pP he
 have hl : z.cps.toList.length = z.length := by simp [Str.length]
 rw [hl] at h1 h4 h5
 have hn := line63
 exact tail_any (typeIs_str s z t) slot_str_getitem.lookup (getItem_str (c := c) (by
  have e1 : decide (i < -(2 ^ 63 : Int)) = false := decide_eq_false (by omega)
  have e2 : decide (i ≥ 2 ^ 63) = false := decide_eq_false (by omega)
  rw [e1, e2, Bool.or_false]) (by rw [h1]; simpa using h2) ⟨.str ⟨#[c]⟩, H, I.tok _, ⟨_, rfl⟩, q⟩) hs
def rIx (K : PySem.W.Frag) : R2 := fun x y H Q => rIxL K x y H Q ∨ rIxT K x y H Q ∨ rIxS x y H Q
theorem aG : IxR X (rIx X.K) := ix_list.or (ix_tup.or ix_str)
theorem uI (its : List Value) (n j : Nat) (u : Value) : Obj.mapSeq (·.setIfInBounds j u) { cls := .type "list", data := .seq its.toArray n } = { cls := .type "list", data := .seq (its.set j u).toArray n } := by
 simp [Obj.mapSeq]
theorem Inv.lst {pins : List (Addr × Obj)} {σ : St} {H : Hp} {s : Shared} {p : Addr} {xs : List V} (I : Inv X pins σ H s) (h : H p = some (.lst xs)) :
  ∃ (its : List Value) (n : Nat), Vals xs its ∧ s.heap.get? p = some { cls := .type "list", data := .seq its.toArray n } ∧ xs.length ≤ sizeLine := by
 obtain ⟨z, its, n, r, e⟩ := I.hok p _ h
 exact ⟨its, n, r, e, z⟩
theorem Inv.lstUpd {pins : List (Addr × Obj)} {σ : St} {H : Hp} {s : Shared} {p : Addr} {xs ys : List V} {its its' : List Value} {n n' : Nat} {f : Obj → Obj} (I : Inv X pins σ H s) (h : H p = some (.lst xs))
  (ho : s.heap.get? p = some { cls := .type "list", data := .seq its.toArray n }) (hf : f { cls := .type "list", data := .seq its.toArray n } = { cls := .type "list", data := .seq its'.toArray n' }) (r : Vals ys its') (hz : ys.length ≤ sizeLine) (t : Nat) :
  Inv X pins σ (upd H p (.lst ys)) { s with heap := s.heap.update p f, toks := t } := by
 have e : (s.heap.update p f).get? p = some { cls := .type "list", data := .seq its'.toArray n' } := by
  rw [Heap.get?_update_self f ho (by rw [hf] <;> rfl), hf]
 refine I.write (x := p) (e := p) (by rw [h]; trivial) (.inl rfl) (fun b u hb q => (Heap.get?_update_other _ _ (Ne.symm hb)).trans q) ⟨_, e⟩ ?_
 exact ⟨hz, its', n', r, e⟩
def rSetL : V → V → V → Hp → (Hp → Prop) → Prop := fun o i v H Q => ∃ p xs k j, o = .ref p ∧ i = .int k ∧ H p = some (.lst xs) ∧ ixN xs.length k = some j ∧ Q (upd H p (.lst (xs.set j v)))
theorem set_list : PSet X rSetL := by
 intro pins s σ H o i v ov iv u Q I ro ri rv h
 obtain ⟨p, xs, k, j, rfl, rfl, hp, hj, q⟩ := h
 cases ro
 obtain ⟨t, rfl⟩ := ri
 obtain ⟨its, n, r, ho, hz⟩ := I.lst hp
 obtain ⟨h1, h2, h3, h4⟩ := ixN_seq hj
 have hl := r.length
 have hn := line63
 have I' : Inv X pins σ (upd H p (.lst (xs.set j v))) { s with heap := s.heap.update p (Obj.mapSeq (·.setIfInBounds j u)) } :=
  I.lstUpd hp ho (uI its n j u) (r.set rv j) (by rw [List.length_set]; exact hz) s.toks
 by_cases h0 : 0 ≤ k
 ·have hk : k.toNat = j := by
   rw [seqIndex_of h0 h4] at h1
   exact Option.some.inj h1
  exact PySem.W.ki_setAt ho h0 (by omega) (by rw [List.size_toArray, ← hl]; exact h4) (by rw [hk]; exact ⟨_, I', q⟩)
 ·have hk : (k + (its.toArray.size : Int)).toNat = j := by
   rw [seqIndex_neg (by omega) h3] at h1
   rw [List.size_toArray, ← hl]
   exact Option.some.inj h1
  exact PySem.W.ki_setBack ho (by omega) (by rw [List.size_toArray, ← hl]; exact h3) (by omega) (by rw [hk]; exact ⟨_, I', q⟩)
theorem sE (lo hi : Option Int) (n : Nat) : (sliceBounds lo hi none n).1 = ((HT.sIx n 0 lo : Nat) : Int) ∧ (sliceBounds lo hi none n).2.1 = ((HT.sIx n n hi : Nat) : Int) ∧ (sliceBounds lo hi none n).2.2 = 1 := by
 refine ⟨?_, ?_, rfl⟩
 ·cases lo with
  | none => simp [sliceBounds, HT.sIx]
  | some i =>
   simp only [sliceBounds, HT.sIx, Option.getD_none, show (1 : Int) > 0 by decide, if_true]
   by_cases h : i < 0
   ·simp only [h, if_true] <;> omega
   ·simp only [h, if_false] <;> omega
 ·cases hi with
  | none => simp [sliceBounds, HT.sIx]
  | some i =>
   simp only [sliceBounds, HT.sIx, Option.getD_none, show (1 : Int) > 0 by decide, if_true]
   by_cases h : i < 0
   ·simp only [h, if_true] <;> omega
   ·simp only [h, if_false] <;> omega
theorem q8 (its : List Value) (lo hi : Option Int) : slicePick its.toArray lo hi none = ((its.drop (HT.sIx its.length 0 lo)).take (HT.sIx its.length its.length hi - HT.sIx its.length 0 lo)).toArray := by
 obtain ⟨h1, h2, h3⟩ := sE lo hi its.toArray.size
 unfold slicePick
 rw [h1, h2, h3]
 simp only [sliceRange_one, pick_run, List.size_toArray] <;> rfl
def rSlL (K : PySem.W.Frag) : V → Option Int → Option Int → Hp → VK → Prop := fun x lo hi H Q => ∃ a xs, x = .ref a ∧ SqL K H a xs ∧ ∀ p, H p = none → Q (.ref p) (upd H p (.lst (cutV xs lo hi)))
theorem dU : SlR X (rSlL X.K) := by
 intro pins s σ H x v vl vu lo hi sl Q I rx hs pl pu h
 obtain ⟨a, xs, rfl, hx, q⟩ := h
 cases rx
 obtain ⟨its, r, ht, hz⟩ := I.list hx
 have hlen := r.length
 refine ⟨"list", _, slot_list_getitem.lookup, ht.isList.typeIs, ?_⟩
 refine wpAny_getItem_list_slice ht.isList hs pl pu .none (by simp) ?_ (by rw [List.size_toArray] <;> omega)
 rw [q8, ← hlen]
 refine ⟨.ref s.heap.objs.size, _, I.laid (t' := s.toks) (o := .lst (cutV xs lo hi)) (fun b ob q => Heap.get?_push_of_some _ q) (Nat.le_refl _) ?_, rfl, q _ (I.hok.fresh (Nat.le_refl _))⟩
 exact ⟨Nat.le_trans (nW xs lo hi) hz, _, 0, (r.drop (HT.sIx xs.length 0 lo)).take (HT.sIx xs.length xs.length hi - HT.sIx xs.length 0 lo), Heap.get?_push_size _ rfl⟩
theorem cS : fL X (.type "list") (fun xs H Q => ∃ p ys, xs = [.ref p] ∧ (SqL X.K H p ys ∨ SqT X.K H p ys) ∧ ∀ l, H l = none → Q (.ref l) (upd H l (.lst ys))) := by
 intro pins s σ H xs us Q I r h
 obtain ⟨p, ys, rfl, hq, q⟩ := h
 obtain ⟨u, rfl, rx⟩ := vals1 r
 cases rx
 have fin : ∀ (its : List Value), Vals ys its → ys.length ≤ sizeLine → ∀ (h' : Heap) (c' : Nat), (∀ b o', s.heap.get? b = some o' → h'.get? b = some o') →
   h'.get? s.heap.objs.size = some { cls := .type "list", dict := none, data := .seq its.toArray c', slots := #[] } → EP X pins σ Q (.ref s.heap.objs.size) { s with heap := h' } := fun its r' hz h' c' kp e =>
  ⟨.ref s.heap.objs.size, _, I.laid (t' := s.toks) kp (Nat.le_refl _) (show eG X.prog X.w _ h' _ (.lst ys) from ⟨hz, its, c', r', e⟩), rfl, q _ (I.hok.fresh (Nat.le_refl _))⟩
 rcases hq with hq | hq
 ·obtain ⟨its, r', pl, hz⟩ := I.list hq
  have hlen := r'.length
  obtain ⟨o, ho, hc, n, hd⟩ := pl.isList
  exact call_list_seq p (.inl rfl) ho hc hd (fun h' c' kp e => fin its r' hz h' c' kp e) (by simp only [List.size_toArray] <;> omega)
 ·obtain ⟨its, r', pl, hz⟩ := I.tuple hq
  have hlen := r'.length
  obtain ⟨o, ho, hc, n, hd⟩ := pl
  exact call_list_seq p (.inr rfl) ho hc hd (fun h' c' kp e => fin its r' hz h' c' kp e) (by simp only [List.size_toArray] <;> omega)
theorem bL : fL X (.type "tuple") (fun xs H Q => ∃ p ys, xs = [.ref p] ∧ ((SqL X.K H p ys ∧ ∀ l, H l = none → Q (.ref l) (upd H l (.tup ys))) ∨ (SqT X.K H p ys ∧ Q (.ref p) H))) := by
 intro pins s σ H xs us Q I r h
 obtain ⟨p, ys, rfl, h⟩ := h
 obtain ⟨u, rfl, rx⟩ := vals1 r
 cases rx
 rcases h with ⟨hq, q⟩ | ⟨hq, q⟩
 ·obtain ⟨its, r', pl, hz⟩ := I.list hq
  have hlen := r'.length
  refine call_tuple_list pl.isList (fun h' kp => ?_) (by simp only [List.size_toArray] <;> omega)
  have I1 : Inv X pins σ H { s with heap := h' } := I.kept (t' := s.toks) kp
  have I2 : Inv X pins σ (upd H h'.objs.size (.tup ys)) { s with heap := h'.push { cls := .type "tuple", data := .seq its.toArray } } :=
   I1.laid (t' := s.toks) (fun b o e => Heap.get?_push_of_some _ e) (Nat.le_refl _) (show eG X.prog X.w _ _ _ (.tup ys) from ⟨hz, its, r', IsTup.new _ _⟩)
  exact ⟨.ref h'.objs.size, _, I2, rfl, q _ (I1.hok.fresh (Nat.le_refl _))⟩
 ·obtain ⟨its, r', pl, hz⟩ := I.tuple hq
  exact call_tuple_same pl ⟨.ref p, H, I, rfl, q⟩
def tyV (K : PySem.W.Frag) (T : String) (x : V) (H : Hp) : Prop := match x with
 | .str _ => T = "str"
 | .int _ => T = "int"
 | .ref p => (T = "list" ∧ ∃ xs, SqL K H p xs) ∨ (T = "tuple" ∧ ∃ o, K.lookup p = some o ∧ o.cls = .type "tuple" ∧ o.dict = none) ∨
   (T = "dict" ∧ ((∃ kvs, H p = some (.dK kvs)) ∨ ∃ kvs, H p = some (.dT kvs))) ∨ (T = "set" ∧ ∃ S n, H p = some (.set S n))
 | _ => False
theorem tyV_is {pins : List (Addr × Obj)} {σ : St} {H : Hp} {s : Shared} {T : String} {x : V} {v : Value} (I : Inv X pins σ H s) (r : RelV x v) (ty : tyV X.K T x H) :
  s.TypeIs v T ∧ ∀ a, v = .ref a → ∃ ob, s.heap.get? a = some ob ∧ ob.dict = none := by
 cases x with
 | str z =>
  obtain ⟨t, rfl⟩ := r
  cases (show T = "str" from ty)
  exact ⟨typeIs_str s z t, fun _ e => nomatch e⟩
 | int i =>
  obtain ⟨t, rfl⟩ := r
  cases (show T = "int" from ty)
  exact ⟨typeIs_int s i t, fun _ e => nomatch e⟩
 | ref p =>
  cases r
  rcases ty with ⟨rfl, xs, hq⟩ | ⟨rfl, o, hk, hc, hd⟩ | ⟨rfl, hk⟩ | ⟨rfl, S, n, hk⟩
  ·obtain ⟨its, _, pl, _⟩ := I.list hq
   refine ⟨pl.isList.typeIs, fun a e => ?_⟩
   cases e
   obtain ⟨o, n, e, c, hd, _⟩ := pl
   exact ⟨o, e, hd⟩
  ·refine ⟨⟨o, I.kIn p o hk, hc⟩, fun a e => ?_⟩
   cases e
   exact ⟨o, I.kIn _ o hk, hd⟩
  ·have z : ∃ o, s.heap.get? p = some o ∧ o.ExactDict := by
    rcases hk with ⟨kvs, hk⟩ | ⟨kvs, hk⟩
    ·obtain ⟨_, _, _, _, o, _, _, e, ex, _⟩ := I.hok p _ hk
     exact ⟨o, e, ex⟩
    ·obtain ⟨_, _, _, _, o, _, _, e, ex, _⟩ := I.hok p _ hk
     exact ⟨o, e, ex⟩
   obtain ⟨o, e, ex⟩ := z
   refine ⟨⟨o, e, ex.1⟩, fun a e2 => ?_⟩
   cases e2
   exact ⟨o, e, ex.2.1⟩
  ·obtain ⟨o, _, _, _, e, ex, _⟩ := I.hok p _ hk
   refine ⟨⟨o, e, ex.1⟩, fun a e2 => ?_⟩
   cases e2
   exact ⟨o, e, ex.2.1⟩
 | _ => exact False.elim ty
def tBM (K : PySem.W.Frag) (T : String) (r : V → List V → Hp → VK → Prop) (to : TE) (t : TA) : TE := fun σ H Q => to σ H fun x H1 => tyV K T x H1 ∧ t σ H1 fun xs H2 => r x xs H2 Q
variable {o e : Expr} {es : List Expr} {to : TE} {t : TA} {name : Str} {apos cpos : Pos} {T id : String} {r : V → List V → Hp → VK → Prop}
theorem pe_bm (pa : PlainAttrs T) (slot : Slot T name id) (hty : typeOf (.builtin id) = pure (.type "method_descriptor")) (hm : MtR X id r) (ho : PE X o to) (ha : PA X (e :: es) t)
  (hbase : attributeBase o name X.env (eval o X.env) = eval o X.env := by rfl)
  (hfew : ((backTo cpos (starEach (e :: es) X.env)).all (fun x => !x.1) && (backToKw cpos (keywordEach [] X.env)).all (fun x => x.1.isSome)
   && decide ((e :: es).length + ([] : List Keyword).length + (if ([] : List Keyword).isEmpty then 0 else 1) < 30)) = true := by rfl)
  (hline : (apos.endLine == cpos.line) = true := by rfl) (hs : starEach (e :: es) X.env = (false, eval e X.env) :: starEach es X.env := by rfl) (hplain : (backTo cpos (starEach es X.env)).any (·.1) = false := by rfl) :
  PE X (.Call (.Attribute o name apos) (e :: es) [] cpos) (tBM X.K T r to t) := by
 intro pins s σ H Q I h
 refine wpAny_Call_method_late hbase hfew hline rfl (thn (ho pins s σ H _ I h) fun v s1 ⟨x, H1, I1, r1, ty, q1⟩ => ?_)
 obtain ⟨h1, h2⟩ := tyV_is I1 r1 ty
 refine ⟨T, id, pa, slot, hty, h1, h2, ?_⟩
 have hA := ha cpos pins s1 σ H1 _ I1 q1
 rw [hs] at hA ⊢
 refine Calls.callWith_builtin (by show (false || (backTo cpos (starEach es X.env)).any (·.1)) = false; rw [hplain] <;> rfl) (Calls.evalArgs_plain ?_)
 exact thn hA fun us s2 ⟨vs, H2, I2, r2, q2⟩ => hm pins s2 σ H2 x vs v us Q I2 r1 r2 q2
/- xs.append(e), list.index on a module's tuple .. are MtR facts of 06m -/
end
end L2
namespace L2
open PySem PySem.Spec PyProof.Rows
def MtM (X : Cx) (id : String) (r : V → List V → Hp → VK → Prop) : Prop :=
 ∀ (pins : List (Addr × Obj)) (s : Shared) (σ : St) (H : Hp) (x : V) (xs : List V) (v : Value) (us : List Value) (Q : VK), Inv X pins σ H s → RelV x v → Vals xs us → r x xs H Q →
  wpAny (model X.prog X.w) X.A (call (.builtin id) (v :: us)) (EP X pins σ Q) X.xe s
theorem Vals.one : ∀ {x : V} {us : List Value}, Vals [x] us → ∃ u, us = [u] ∧ RelV x u
 | _, _, .cons r .nil => ⟨_, rfl, r⟩
section
variable {X : Cx} {pins : List (Addr × Obj)} {σ : St} {H : Hp} {s : Shared} {l b : Addr} {xs ys zs : List V}
theorem Inv.lset {its its' : List Value} {n : Nat} {f : Array Value → Array Value} {t' : Nat} (I : Inv X pins σ H s) (hH : H l = some (.lst xs))
  (e : s.heap.get? l = some { cls := .type "list", data := .seq its.toArray n }) (hf : f its.toArray = its'.toArray) (hv : Vals ys its') (hz : ys.length ≤ sizeLine) :
  Inv X pins σ (upd H l (.lst ys)) { s with heap := s.heap.update l (Obj.mapSeq f), toks := t' } := by
 have q := PySem.IsL.update e f
 rw [hf] at q
 refine I.write (x := l) (e := l) (by rw [hH]; exact trivial) (.inl rfl) (fun b' u hb hu => (Heap.get?_update_other s.heap (Obj.mapSeq f) (Ne.symm hb)).trans hu) ⟨_, q⟩ ?_
 exact ⟨hz, its', _, hv, q⟩
theorem Inv.lnew {its : List Value} {t' : Nat} (I : Inv X pins σ H s) (hv : Vals ys its) (hz : ys.length ≤ sizeLine) :
  Inv X pins σ (upd H s.heap.objs.size (.lst ys)) { s with heap := s.heap.push { cls := .type "list", data := .seq its.toArray }, toks := t' } :=
 I.laid (fun _ _ q => Heap.get?_push_of_some _ q) (Nat.le_refl _) ⟨hz, its, 0, hv, Heap.get?_push_size _ rfl⟩
theorem Inv.fresh (I : Inv X pins σ H s) : H s.heap.objs.size = none := I.hok.fresh (Nat.le_refl _)
theorem Inv.lstM (I : Inv X pins σ H s) (hH : H l = some (.lst xs)) : xs.length ≤ sizeLine ∧ ∃ (its : List Value) (n : Nat), Vals xs its ∧ xs.length = its.length ∧ s.heap.get? l = some { cls := .type "list", data := .seq its.toArray n } := by
 obtain ⟨z, its, n, r, e⟩ := I.hok l _ hH
 exact ⟨z, its, n, r, r.length, e⟩
theorem notLongL {n : Nat} (h : n ≤ sizeLine) : Builtin.List.listTooLong n = false := by
 unfold Builtin.List.listTooLong
 exact decide_eq_false (by omega)
end
section
variable {X : Cx}
def rAppend : V → List V → Hp → VK → Prop := fun x vs H Q => ∃ l xs y, x = .ref l ∧ vs = [y] ∧ H l = some (.lst xs) ∧ xs.length < sizeLine ∧ Q .non (upd H l (.lst (xs ++ [y])))
theorem iN : MtM X "list.append" rAppend := by
 intro pins s σ H x vs v us Q I rx rv h
 obtain ⟨l, xs, y, rfl, rfl, hH, hz, q⟩ := h
 cases rx
 obtain ⟨u, rfl, ru⟩ := rv.one
 obtain ⟨z, its, n, r, hl, e⟩ := I.lstM hH
 refine call_meets F.slot_list_append ⟨_, e, rfl⟩ F.entry_list_append (F.args_list_append_2 _ _) (PySem.list_append l its.toArray n u (by rw [List.size_toArray]; omega)) ⟨e, ?_⟩
 refine ⟨.non, _, I.lset (its' := its ++ [u]) hH e (by simp) (r.append (.cons ru .nil)) ?_, rfl, q⟩
 rw [List.length_append, List.length_singleton]
 omega
def rCat : R2 := fun x y H Q => ∃ l b xs zs, x = .ref l ∧ y = .ref b ∧ H l = some (.lst xs) ∧ H b = some (.lst zs) ∧ xs.length + zs.length ≤ sizeLine ∧ ∀ p, H p = none → Q (.ref p) (upd H p (.lst (xs ++ zs)))
theorem jN : OpR X (binaryOp .Add) rCat := by
 intro pins s σ H x y v u Q I rx ry h
 obtain ⟨l, b, xs, zs, rfl, rfl, hH, hB, hz, q⟩ := h
 cases rx
 cases ry
 obtain ⟨z, its, n, r, hl, e⟩ := I.lstM hH
 obtain ⟨z2, its2, n2, r2, hl2, e2⟩ := I.lstM hB
 refine PySem.P.add_list e e2 ?_ (by rw [List.size_toArray, List.size_toArray]; omega)
 have ea : its.toArray ++ its2.toArray = (its ++ its2).toArray := by simp
 rw [ea]
 exact ⟨.ref _, _, I.lnew (t' := s.toks) (r.append r2) (by rw [List.length_append]; omega), rfl, q _ I.fresh⟩
end
section
variable {prog : Program} {w : World} {A : Around} {E : Value → Shared → Prop} {s : Shared}
set_option maxRecDepth 100000 in
end
section
variable {X : Cx}
end
end L2
namespace Att
open PySem PySem.W PySem.Calls PyProof.Rows
theorem pD {P : Params} {h : Heap} : ∀ (ns : List Int) (vs : List Value), WellAll P h vs (ns.map WData.int) → IntsAre vs ns := by
 intro ns
 induction ns with
 | nil =>
  intro vs w
  rw [List.map_nil] at w
  cases w
  exact .nil
 | cons n ns ih =>
  intro vs w
  rw [List.map_cons] at w
  cases w with
  | cons a b =>
   cases a
   exact .cons _ _ (ih _ b)
theorem script_of {l : OpenLaw} {n : Nat} (hn : l.most = some n) {P : Params} {h : Heap} {args : List WData} {vals : List Value}
  (hpre : l.row.toRowW.claim.pre args = true) (hwl : WellAll P h vals args) :
  ∃ a vs ns, vals = [Value.ref a] ∧ args = [WData.list (ns.map WData.int)] ∧ h.get? a = some { cls := .type "list", data := .seq vs.toArray } ∧ IntsAre vs ns ∧ ns.length ≤ n := by
 have hsh : WShape.hasAll [] args [.list .int] = true := (pre_splitW hpre).1
 have hc : l.pre.holds [] { args := args } = true := (pre_splitW hpre).2
 obtain ⟨d, r, rfl, h1, h2⟩ := hasAllW_cons hsh
 obtain rfl := hasAllW_nil h2
 obtain ⟨xs, rfl, h3⟩ := hasW_list h1
 obtain ⟨ns, rfl⟩ := items_int h3
 have hlen : ns.length ≤ n := by
  unfold OpenLaw.pre at hc
  have h4 : (WTm.not (.lt (.lit (.int (n : Int))) (.len (.arg 0)))).holds [] { args := [.list (ns.map .int)] } = true := by
   have h4 := (holds_andW hc).1
   rw [hn] at h4
   exact h4
  have h5 := condW_of h4 (w_not (w_lt w_lit (w_len_list (w_arg rfl))))
  rw [List.length_map] at h5
  refine Nat.le_of_not_lt fun q => ?_
  have q' : (n : Int) < ((ns.length : Nat) : Int) := by omega
  first
   | (rw [decide_eq_true q'] at h5; exact absurd h5 (by decide))
   | (simp at h5; omega)
 cases hwl with
 | cons w1 w2 =>
  cases w2
  cases w1 with
  | list ho hall => exact ⟨_, _, ns, rfl, rfl, ho, pD ns _ hall, hlen⟩
theorem post_true (l : OpenLaw) (args : List WData) : l.row.toRowW.claim.post args (.bool true) args = true :=
 postW_of (r := l.row.toRowW) (X := (true == true))
  (show WShape.has [] (.bool true) .bool = true by first | rfl | decide | simp [WShape.has, WShape.arms, WShape.armsAll])
  (show (WTm.eq .res (.lit (.bool true))).value [] { args := args, res := some (.bool true), after := args } = some (.bool (true == true)) from w_eq_bool (w_res rfl) w_lit) rfl
theorem tP {l : OpenLaw} {n : Nat} {q : Program} {loose : List Str} {XP : (Str → Option Value) → Heap → Prop} {YP : World → Heap → Prop} {d : DefRec}
  (hn : l.most = some n) (hdf : d.params.defaults = [])
  (call : ∀ (w : World) (s₀ s₁ : Shared) (mg mb : Str → Option Value) (fa : Addr) (o : Obj) (pm cd doc : Value) (a : Addr) (vs : List Value) (ns : List Int),
   Ground q loose [] XP w s₀ mg mb s₁.heap → YP w s₁.heap →
   s₁.heap.get? fa = some o → o.data = .func (docDef d.name d.params d.body d.scope pm cd doc) → s₁.heap.CodeRec cd d.name → mg d.name = some (.ref fa) →
   s₁.heap.get? a = some { cls := .type "list", data := .seq vs.toArray } → IntsAre vs ns → ns.length ≤ n → s₁.gens = #[] →
   codeAny (model l.prog w) callerA (.call (.ref fa) ⟨[.ref a], []⟩) (fun r s' => r = .ok (.ret (.bool true)) ∧ OldK s₁.heap s'.heap ∧ s'.os = s₁.os ∧ AllBare s'.gens) s₁) :
  WalkO q loose XP YP l.row.toRowW d [] (fun f vs => PySem.call f vs) := by
 intro w s₀ s₁ mg mb G Y fa o pm cd doc dV kV ho hd hcd hD hmg hg args vals as hpre hlay hrd hwl hlo
 obtain rfl : dV = .none := Dflts.none hD hdf
 obtain rfl : kV = .none := Dflts.noKw hD
 obtain ⟨a, vs, ns, rfl, rfl, hobj, hints, hlen⟩ := script_of hn hpre hwl
 refine enter_call (codeAny_mono (call w s₀ s₁ mg mb fa o pm cd doc a vs ns G Y ho (fd_plain hd) hcd hmg hobj hints hlen hg) fun r s' hq => ?_)
 obtain ⟨rfl, h2, h3, h4⟩ := hq
 exact ⟨.inl ⟨.bool true, .bool true, [], rfl, fun _ => rfl, .bool true, post_true l _, fun _ => ⟨List.Pairwise.nil, fun _ hm => (nomatch hm)⟩⟩, h2, h3, h4⟩
section
variable {prog : Program} {w : World} {A : Around} {E : Value → Shared → Prop} {s : Shared} {K : Frag}
end
end Att
namespace L2
open PySem PySem.Spec PyProof.Rows
theorem qG : ∀ {vs : List Value} {ns : List Int}, IntsAre vs ns → Vals (ns.map V.int) vs
 | _, _, .nil => .nil
 | _, _, .cons n t h => .cons ⟨t, rfl⟩ (qG h)
def Only (H : Hp) : Prop := ∀ b, H b = none ∨ ∃ o xs, H b = some (.frz o (.lst xs))
theorem law_call {P : Program} {w : World} {K : PySem.W.Frag} {mg mb : Str → Option Value} {CX : CXT} {k : Nat} {fa a : Addr} {fd : FuncData} {x : Str} {sp : Sp} {s₁ : Shared} {vs : List Value} {ns : List Int}
  (KX : K.In s₁.heap) (hns : s₁.heap.Ns mainGlobals mg) (hb : s₁.heap.Ns builtinsNs mb) (hbb : ∀ x : Str, x ≠ "__name__" → mb x = bootBuiltins x) (hlim : s₁.heap.NoLimit) (hg : s₁.gens = #[])
  (ha : s₁.heap.get? a = some { cls := .type "list", data := .seq vs.toArray }) (hi : IntsAre vs ns) (hl : ns.length ≤ sizeLine) (hr : Room k callerA)
  (F : ∀ base : Heap, K.In base → base.Ns mainGlobals mg → FnOk P w K mg base CX k fa fd [x] sp) (hbind : ∀ (s : Shared) (u : Value), BindsTo s fd ⟨[u], []⟩ [(x, u)])
  (hsp : ∀ H : Hp, Only H → SqL K H a (ns.map V.int) → sp [.ref a] H (fun v _ => v = .bl true) fun _ _ _ => False)
  (hCX : ∀ H e s', CX [] H s₁ (fun _ _ _ => False) e s' → False) :
  codeAny (model P w) callerA (.call (.ref fa) ⟨[.ref a], []⟩) (fun r s' => r = .ok (.ret (.bool true)) ∧ OldK s₁.heap s'.heap ∧ s'.os = s₁.os ∧ AllBare s'.gens) s₁ := by
 have rv := qG hi
 have lenV := hi.length
 -- from an abstract heap in which nothing but the script may be tracked
 have core : ∀ H : Hp, Only H → SqL K H a (ns.map V.int) → HOk P w H s₁.heap → (∀ b, H b ≠ none → b = a) → (H a ≠ none → K.lookup a = none) →
   codeAny (model P w) callerA (.call (.ref fa) ⟨[.ref a], []⟩) (fun r s' => r = .ok (.ret (.bool true)) ∧ OldK s₁.heap s'.heap ∧ s'.os = s₁.os ∧ AllBare s'.gens) s₁ := by
  intro H hO hS hok hA hK
  have base_of : ∀ {b : Addr} {o : Obj}, s₁.heap.get? b = some o → H b = none → (hidT s₁.heap H).get? b = some o := fun e n => hidT_get e n
  have noA : ∀ {b : Addr} {o : Obj} {es : Array DictEntry} {ep : Nat}, s₁.heap.get? b = some o → o.data = .dict es ep → H b = none := fun {b o es ep} e d => by
   cases q : H b with
   | none => rfl
   | some u =>
    have e' : b = a := hA b (by rw [q]; simp)
    subst e'
    rw [ha] at e; cases e
    have d' : Data.seq vs.toArray _ = Data.dict es ep := d
    cases d'
  have nsK : ∀ {b : Addr} {m : Str → Option Value}, s₁.heap.Ns b m → (hidT s₁.heap H).Ns b m := fun {b m} ⟨o, es, ep, e, d, r⟩ => ⟨o, es, ep, base_of e (noA e d), d, r⟩
  have hKb : K.In (hidT s₁.heap H) := fun b o e => base_of (KX b o e) (by
   cases q : H b with
   | none => rfl
   | some u =>
    have e' : b = a := hA b (by rw [q]; simp)
    subst e'
    rw [hK (by rw [q]; simp)] at e; cases e)
  have hM : Mod K mg (hidT s₁.heap H) := ⟨hKb, nsK hns, ⟨mb, nsK hb, hbb⟩, let ⟨mc, h1, h2⟩ := hlim; ⟨mc, nsK h1, h2⟩⟩
  have e0 : Env0 P w K mg (hidT s₁.heap H) callerA [] s₁ H := ⟨rfl, hM, fun b o e => of_hidT e, Nat.le_of_eq (hidT_size _ _), trivial, fun b hb => absurd (show b ∈ ([] : List Addr) from hb) (by simp), hok, .of_eq hg⟩
  refine codeAny_mono ((F _ hKb (nsK hns)).run callerA [] s₁ H ⟨[.ref a], []⟩ [.ref a] [.ref a] _ _ hr e0 (hbind s₁ (.ref a)) (.cons rfl .nil) (hsp H hO hS)) fun r s' h => ?_
  cases r with
  | error e => exact (hCX H e s' h).elim
  | ok fl =>
   cases fl with
   | next => exact False.elim h
   | brk => exact False.elim h
   | cont => exact False.elim h
   | ret u =>
    obtain ⟨v, H', os, bare, un, hok', r', q⟩ := h
    have q' : v = .bl true := q
    subst q'
    obtain rfl : u = Value.bool true := r'
    refine ⟨rfl, OldK.of_keep fun b o e => ?_, os, bare⟩
    cases q : H b with
    | none => exact un.keep b o e q (by intro z; exact absurd (show b ∈ ([] : List Addr) from z) (by simp)) (by simp)
    | some u =>
     rcases hO b with z | ⟨ob, xs, z⟩
     ·rw [q] at z; cases z
     ·have z2 := un.frzs b ob _ z
      obtain ⟨e1, _⟩ := hok b _ z
      obtain ⟨e2, _⟩ := hok' b _ z2
      rw [e] at e1; cases e1
      exact e2
 cases hk : K.lookup a with
 | some o =>
  -- the script is one of the module's own objects
  have e := KX a o hk
  rw [ha] at e
  cases e
  refine core (fun _ => none) (fun _ => .inl rfl) (.inr ⟨_, vs.toArray, _, hk, rfl, rfl, rfl, by rw [List.size_toArray, lenV]; exact hl, by simpa using rv⟩) (fun b u z => by have z' : (none : Option HO) = some u := z; cases z') (fun b z => absurd rfl z) fun z => absurd rfl z
 | none =>
  refine core (fun b => if b = a then some (.frz { cls := .type "list", data := .seq vs.toArray } (.lst (ns.map V.int))) else none) (fun b => ?_) (.inl (.inr ⟨{ cls := .type "list", data := .seq vs.toArray }, if_pos rfl⟩)) (fun b u z => ?_) (fun b z => ?_) fun _ => hk
  ·by_cases hb : b = a
   ·exact .inr ⟨_, _, if_pos hb⟩
   ·exact .inl (if_neg hb)
  ·by_cases hb : b = a
   ·have z' := (if_pos hb).symm.trans z
    cases z'
    subst hb
    exact ⟨ha, by rw [List.length_map]; exact hl, vs, _, rv, ha⟩
   ·have z' := (if_neg hb).symm.trans z
    cases z'
  ·by_cases hb : b = a
   ·exact hb
   ·exact absurd (if_neg hb) z
end L2
namespace L2
open PySem PySem.Spec PyProof.Rows
theorem walk_of {l : PySem.W.OpenLaw} {n k : Nat} {q : Program} {loose : List Str} {XP : (Str → Option Value) → Heap → Prop} {YP : World → Heap → Prop} {d : DefRec} {K : Params → PySem.W.Frag} {CX : World → CXT} {sp : World → Sp} {x : Str}
  (hn : l.most = some n) (hn2 : n ≤ sizeLine) (hdf : d.params.defaults = []) (hr : Room k callerA)
  (hY : ∀ (w : World) (h : Heap), YP w h → (K w.params).In h)
  (F : ∀ (w : World) (mg : Str → Option Value) (fa : Addr) (h : Heap), (K w.params).In h → h.Ns mainGlobals mg → mg d.name = some (.ref fa) →
   ∃ fd : FuncData, (∀ (s : Shared) (u : Value), BindsTo s fd ⟨[u], []⟩ [(x, u)]) ∧
    ∀ base : Heap, (K w.params).In base → base.Ns mainGlobals mg → FnOk l.prog w (K w.params) mg base (CX w) k fa fd [x] (sp w))
  (hsp : ∀ (w : World) (H : Hp) (a : Addr) (ns : List Int), ns.length ≤ n → Only H → SqL (K w.params) H a (ns.map V.int) → sp w [.ref a] H (fun v _ => v = .bl true) fun _ _ _ => False)
  (hCX : ∀ (w : World) (H : Hp) (s : Shared) (e : Value) (s' : Shared), CX w [] H s (fun _ _ _ => False) e s' → False) :
  PySem.W.WalkO q loose XP YP l.row.toRowW d [] (fun f vs => PySem.call f vs) := by
 refine Att.tP hn hdf fun w s₀ s₁ mg mb fa o pm cd doc a vs ns G Y ho hd hcd hmg hobj hints hlen hg => ?_
 have KX := hY w _ Y
 obtain ⟨fd, hb, hF⟩ := F w mg fa _ KX G.T.g hmg
 exact law_call KX G.T.g G.T.b G.T.builtins G.T.nolimit hg hobj hints (Nat.le_trans hlen hn2) hr hF hb (fun H hO hS => hsp w H a ns hlen hO hS) fun H e s' => hCX w H s₁ e s'
end L2
namespace L2
open PySem PySem.Spec PyProof.Rows
def fQ (s : Stmt) : Arguments := match s with
 | .FunctionDef _ a _ _ _ _ _ _ _ _ => a
 | _ => { posonlyargs := [], args := [], vararg := none, kwonlyargs := [], kw_defaults := [], kwarg := none, defaults := [] }
def dW (s : Stmt) : List Stmt := match s with
 | .FunctionDef _ _ b _ _ _ _ _ _ _ => b
 | _ => []
def aH (s : Stmt) : Scope := match s with
 | .FunctionDef _ _ _ _ _ _ sc _ _ _ => sc
 | _ => { kind := .function, names := [], isGenerator := false, isCoroutine := false }
abbrev CX0 : CXT := fun _ _ _ _ _ _ => False
abbrev E0 : XK := fun _ _ _ => False
theorem pass0 {X : Cx} : Passes CX0 X E0 := fun _ _ _ _ _ _ _ h => h.elim
structure Fun (K : PySem.W.Frag) (x qual : Str) (st : Stmt) (f : Addr) (fd : FuncData) : Prop where
 ex : ∃ (oc : Value) (od : Option Addr) (kV doc pm : Value) (an : Option Addr) (cdv ct : Value) (osl : Array (Option Value)),
  fd = PySem.W.fnOf x qual (fQ st) (dW st) (aH st) .none kV doc pm an cdv ct ∧ K.lookup f = some ⟨oc, od, .func fd, osl⟩ ∧ PySem.W.codeIn K cdv qual = true
 kp : PySem.W.keepIn K (.ref f) = true
section
variable {P : Program} {w : World} {K : PySem.W.Frag} {mg : Str → Option Value} {base : Heap}
theorem Fun.ok {x qual : Str} {st : Stmt} {f : Addr} {fd : FuncData} {N ps : List Str} {k : Nat} {sp : Sp} (F : Fun K x qual st f fd) (S : FnScope N ps (aH st)) (len : ∀ vs H Q E, sp vs H Q E → vs.length = ps.length)
  (hbody : ∀ (cdv : Value) (A : Around) (outer : List Env) (s : Shared) (H : Hp) (vs : List V) (Q : VK) (E : XK), Room k (A.deeper (envOfC qual (aH st) s.heap.objs.size f cdv)) → sp vs H Q E →
   ∃ t, PSs (cxOf CX0 P w K mg base N qual (aH st) f cdv A outer s H E).nox (dW st) t ∧ t { nx := fun _ H' => Q .non H', rt := Q } (start N vs) H) : FnOk P w K mg base CX0 (k + 1) f fd ps sp := by
 obtain ⟨oc, od, kV, doc, pm, an, cdv, ct, osl, rfl, lk, hcd⟩ := F.ex
 refine fn_of lk hcd S len fun A outer s H vs Q E hr hsp => ?_
 obtain ⟨t, h, q⟩ := hbody cdv A outer s H vs Q E hr hsp
 exact ⟨t, h.nox, q⟩
theorem Fun.binds {x qual : Str} {st : Stmt} {f : Addr} {fd : FuncData} {ps : List Str} (F : Fun K x qual st f fd)
  (h : ∀ (kV doc pm : Value) (an : Option Addr) (cdv ct : Value) (us : List Value), us.length = ps.length → bindArgs (PySem.W.fnOf x qual (fQ st) (dW st) (aH st) .none kV doc pm an cdv ct) ⟨us, []⟩ = pure (ps.zip us)) : Binds K fd ps [] := by
 obtain ⟨oc, od, kV, doc, pm, an, cdv, ct, osl, rfl, lk, hcd⟩ := F.ex
 exact .all (h kV doc pm an cdv ct)
theorem fun_mk {x qual : Str} {st : Stmt} {f : Addr} {oc : Value} {od an : Option Addr} {osl : Array (Option Value)} {kV doc pm cdv ct : Value} (l : K.lookup f = some ⟨oc, od, .func (PySem.W.fnOf x qual (fQ st) (dW st) (aH st) .none kV doc pm an cdv ct), osl⟩)
  (c : PySem.W.codeIn K cdv qual = true) (k : PySem.W.keepIn K (.ref f) = true) : Fun K x qual st f (PySem.W.fnOf x qual (fQ st) (dW st) (aH st) .none kV doc pm an cdv ct) := ⟨⟨oc, od, kV, doc, pm, an, cdv, ct, osl, rfl, l, c⟩, k⟩
end
section
variable {X : Cx}
theorem pv (i : Nat) {x : Str} {pos : Pos} (hN : X.N[i]? = some x := by rfl) (hv : Vis X.env.scope x := by first | exact Or.inl rfl | exact Or.inr (Or.inl rfl) | exact Or.inr (Or.inr rfl)) (hd : (x == ("__debug__" : Str)) = false := by decide)
  (hcd : (x == ("__classdict__" : Str)) = false := by decide) : PE X (.Name x pos) (tVar i) := pe_var hN hv hd hcd
end
theorem iteF {A B : Prop} (h : B) : if false = true then A else B := by
 rw [if_neg Bool.false_ne_true]
 exact h
theorem iteT {A B : Prop} (h : A) : if true = true then A else B := by
 rw [if_pos rfl]
 exact h
theorem ite2 {c A B : Prop} [Decidable c] (h1 : c → A) (h2 : ¬ c → B) : if c then A else B := by
 by_cases h : c
 ·rw [if_pos h]
  exact h1 h
 ·rw [if_neg h]
  exact h2 h
def Same (H H' : Hp) : Prop := ∀ b o, H b = some o → H' b = some o
theorem Same.refl (H : Hp) : Same H H := fun _ _ h => h
theorem Same.trans {H H1 H2 : Hp} (a : Same H H1) (b : Same H1 H2) : Same H H2 := fun c o h => b c o (a c o h)
theorem Same.free {H H' : Hp} (e : Same H H') {l : Addr} (h : H' l = Option.none) : H l = Option.none := by
 cases q : H l with
 | none => rfl
 | some o =>
  rw [e l o q] at h
  cases h
theorem Same.seq {K : PySem.W.Frag} {H H' : Hp} {a : Addr} {xs : List V} (e : Same H H') (h : SqL K H a xs) : SqL K H' a xs := by
 rcases h with (h | ⟨o, h⟩) | h
 ·exact .inl (.inl (e _ _ h))
 ·exact .inl (.inr ⟨o, e _ _ h⟩)
 ·exact .inr h
end L2
namespace L2
open PySem PySem.Spec PyProof.Rows
def big : Nat := 2 ^ 8000
def CDivB (_ j : Int) : Prop := j ≠ 0 ∧ j.natAbs < big
def CMulB (i j : Int) : Prop := i.natAbs < big ∧ j.natAbs < big
theorem log2_big {n : Nat} (h : n < big) : n.log2 < 9000 := by
 by_cases h0 : n = 0
 ·subst h0; decide
 ·exact Nat.lt_of_lt_of_le ((Nat.log2_lt h0).mpr h) (by decide)
section
variable {X : Cx}
theorem lH : OpR X (binaryOp .FloorDiv) (rI CDivB fun i j => .int (i.fdiv j)) :=
 opI fun _ _ _ _ _ _ _ hc q => floordiv_int hc.1 q (.inl (PyProof.noPylong_of_log2 (log2_big hc.2)))
theorem dF : OpR X (binaryOp .Mult) (rI CMulB fun i j => .int (i * j)) :=
 opI fun _ _ _ _ _ _ _ hc q => mul_int q (IntMulOk.of_le (m := 8000) (n := 8000) (intBits_le_iff.mpr hc.1) (intBits_le_iff.mpr hc.2) (by decide))
end
theorem kit_tt {K : PySem.W.Frag} {S T : String} {b : Bool} (h1 : (Value.type S == Value.type T) = false) (h2 : PySem.W.kitMeta T = true) (h3 : (fastBuiltinMro S).map (·.contains (.type T)) = some b) :
  PySem.W.kitOne K (.type S) (.type T) = some b := by
 unfold PySem.W.kitOne PySem.W.kitCls
 rw [if_neg (by rw [h1]; exact Bool.false_ne_true)]
 show (if PySem.W.kitMeta T = true then _ else _) = _
 rw [if_pos h2]
 exact h3
theorem kit_same {K : PySem.W.Frag} {t : Value} (h : (t == t) = true := by first | rfl | simp) : PySem.W.kitOne K t t = some true := by
 unfold PySem.W.kitOne; rw [if_pos h]
section
variable {X : Cx}
end
end L2
namespace L2
open PySem PySem.Spec PyProof.Rows
structure ExcK (K : PySem.W.Frag) (C : Addr) : Prop where
 cd : (PySem.W.clsIn K C).isSome = true
 ga : PySem.W.findIn K (.ref C) "__getattribute__" = some (some (.builtin "BaseException.__getattribute__"))
 gt : PySem.W.findIn K (.ref C) "__getattr__" = some none
 cl : PySem.W.findIn K (.ref C) "__class__" = some (some (.builtin "object.__class__"))
 be : PySem.W.mroIn K C (.type "BaseException") = some true
 ob : PySem.W.mroIn K C (.type "object") = some true
section
variable {prog : Program} {w : World} {A : Around} {E : Value → Shared → Prop} {h : Heap} {g : Array GenState} {d : Drawn} {t : Nat} {os : OsState} {a C : Addr} {K : PySem.W.Frag}
end
section
variable {X : Cx}
end
end L2
namespace L2
open PySem PySem.Spec PyProof.Rows
structure Thrown (h₀ : Heap) (H' : Hp) (e T : Addr) (cls : Value) (h : Heap) : Prop where
 ne : h₀.get? e = none
 nT : h₀.get? T = none
 He : H' e = none
 HT : H' T = none
 ob : ∃ oe vs oT ts a0, h.get? e = some oe ∧ (oe.cls = cls ∧ vs[0]? = some a0) ∧ oe.data = .fields vs ∧ vs[1]? = some (.ref T) ∧ T ≠ e ∧ h.get? T = some oT ∧ oT.data = .fields ts ∧ ts[3]? = some .none
section
variable {X : Cx} {pins : List (Addr × Obj)} {σ : St} {H : Hp} {s : Shared}
end
end L2
namespace L2
open PySem PySem.Spec PyProof.Rows
def bmV : List Value := [.type "ValueError", .type "Exception", .type "BaseException", .type "object"]
section
variable {X : Cx} {E : XK} {C : Addr} {x : Str} {np cpos pos : Pos} {e₀ : Expr} {rest : List Expr} {ta : TA}
end
structure ThrownX (X : Cx) (pins : List (Addr × Obj)) (H' : Hp) (e T : Addr) (cls : Value) (h : Heap) : Prop where
 e0 : X.s₀.heap.get? e = none
 T0 : X.s₀.heap.get? T = none
 He : H' e = none
 HT : H' T = none
 eL : e ≠ X.env.locals
 TL : T ≠ X.env.locals
 ce : ∀ x c, X.env.cells.lookup x = some c → c ≠ e ∧ c ≠ T
 pe : ∀ p ∈ X.pn ++ pins, p.1 ≠ e ∧ p.1 ≠ T
 ob : ∃ oe vs oT ts a0, h.get? e = some oe ∧ (oe.cls = cls ∧ vs[0]? = some a0) ∧ oe.data = .fields vs ∧ vs[1]? = some (.ref T) ∧ T ≠ e ∧ h.get? T = some oT ∧ oT.data = .fields ts ∧ ts[3]? = some .none
def XP (X : Cx) (pins : List (Addr × Obj)) (σ : St) (E : XK) (v : Value) (s' : Shared) : Prop := ∃ e T cls H', v = .ref e ∧ Inv X pins σ H' s' ∧ ThrownX X pins H' e T cls s'.heap ∧ E cls none H'
section
variable {X : Cx} {pins : List (Addr × Obj)} {σ : St} {H : Hp} {s s' : Shared}
end
end L2
namespace L2
open PySem PySem.Spec PyProof.Rows
section
variable {X : Cx} {pins : List (Addr × Obj)} {σ : St} {H : Hp} {s : Shared}
end
end L2
namespace Num
theorem rX (a b : Int) : Int.gcd b (a.fmod b) = Int.gcd a b := by
 rw [Int.fmod_def, Int.gcd_comm a b]
 exact Int.gcd_sub_mul_left_right _ _ _
theorem fmod_lt (a b : Int) (hb : b ≠ 0) : (a.fmod b).natAbs < b.natAbs := by
 rcases Int.lt_or_gt_of_ne hb with h | h
 ·have h0 : 0 < -b := by omega
  have e : a.fmod b = -((-a).fmod (-b)) := by rw [Int.neg_fmod_neg]; omega
  have h1 := Int.fmod_nonneg_of_pos (-a) h0
  have h2 := Int.fmod_lt_of_pos (-a) h0
  omega
 ·have h1 := Int.fmod_nonneg_of_pos a h
  have h2 := Int.fmod_lt_of_pos a h
  omega
def div (t b : Int) : Int := if b < 0 then -((Int.gcd t b : Nat) : Int) else ((Int.gcd t b : Nat) : Int)
def top (t b : Int) : Int := t.fdiv (div t b)
def bot (t b : Int) : Int := b.fdiv (div t b)
theorem p9 {t b : Int} (h : b ≠ 0) : 0 < Int.gcd t b := Int.gcd_pos_of_ne_zero_right t h
theorem div_ne {t b : Int} (h : b ≠ 0) : div t b ≠ 0 := by
 have := p9 (t := t) h
 unfold div; split <;> omega
theorem div_abs (t b : Int) : (div t b).natAbs = Int.gcd t b := by
 unfold div; split <;> omega
theorem div_top (t b : Int) : div t b ∣ t := by
 unfold div; split
 ·exact Int.neg_dvd.mpr (Int.gcd_dvd_left ..)
 ·exact Int.gcd_dvd_left ..
theorem div_bot (t b : Int) : div t b ∣ b := by
 unfold div; split
 ·exact Int.neg_dvd.mpr (Int.gcd_dvd_right ..)
 ·exact Int.gcd_dvd_right ..
theorem top_mul (t b : Int) : top t b * div t b = t := Int.fdiv_mul_cancel (div_top t b)
theorem pM (t b : Int) : bot t b * div t b = b := Int.fdiv_mul_cancel (div_bot t b)
theorem bot_pos {t b : Int} (h : b ≠ 0) : 0 < bot t b := by
 have e := pM t b
 have g := p9 (t := t) h
 by_cases hb : b < 0
 ·have hd : div t b < 0 := by unfold div; rw [if_pos hb]; omega
  rcases Int.lt_trichotomy (bot t b) 0 with c | c | c
  ·have := Int.mul_pos_of_neg_of_neg c hd; omega
  ·rw [c, Int.zero_mul] at e; omega
  ·exact c
 ·have hd : 0 < div t b := by unfold div; rw [if_neg hb]; omega
  rcases Int.lt_trichotomy (bot t b) 0 with c | c | c
  ·have := Int.mul_neg_of_neg_of_pos c hd; omega
  ·rw [c, Int.zero_mul] at e; omega
  ·exact c
theorem low (t b : Int) (h : b ≠ 0) : Int.gcd (top t b) (bot t b) = 1 := by
 have g := p9 (t := t) h
 have e : Int.gcd (top t b * div t b) (bot t b * div t b) = Int.gcd (top t b) (bot t b) * (div t b).natAbs := Int.gcd_mul_right ..
 rw [top_mul, pM, div_abs] at e
 have e' : 1 * Int.gcd t b = Int.gcd (top t b) (bot t b) * Int.gcd t b := by rw [Nat.one_mul]; exact e
 exact (Nat.eq_of_mul_eq_mul_right g e').symm
theorem cross (t b : Int) (h : b ≠ 0) : top t b * b = t * bot t b := by
 have e1 := top_mul t b
 have e2 := pM t b
 have d := div_ne (t := t) h
 have : top t b * (bot t b * div t b) = top t b * div t b * bot t b := by
  rw [Int.mul_assoc, Int.mul_comm (bot t b)]
 rw [e1, e2] at this
 exact this
theorem o7 {k n m : Int} (h : k ∣ n * m) (g : Int.gcd k n = 1) : k ∣ m := by
 have := Int.dvd_gcd_mul_iff_dvd_mul.mpr h
 rw [g] at this
 simpa using this
theorem uniq {p q r s : Int} (hq : 0 < q) (hs : 0 < s) (g : Int.gcd p q = 1) (g' : Int.gcd r s = 1) (e : p * s = r * q) : p = r ∧ q = s := by
 have d1 : q ∣ s := by
  have : q ∣ p * s := ⟨r, by rw [e, Int.mul_comm]⟩
  have h := o7 this (by rw [Int.gcd_comm]; exact g)
  exact h
 have d2 : s ∣ q := by
  have : s ∣ r * q := ⟨p, by rw [← e, Int.mul_comm]⟩
  exact o7 this (by rw [Int.gcd_comm]; exact g')
 have h1 := Int.le_of_dvd hs d1
 have h2 := Int.le_of_dvd hq d2
 have hqs : q = s := by omega
 subst hqs
 exact ⟨Int.eq_of_mul_eq_mul_right (by omega) e, rfl⟩
end Num
namespace R
open PySem L2
theorem BI : bootBuiltins "int" = some (.type "int") := by decide +kernel
theorem BB : bootBuiltins "bool" = some (.type "bool") := by decide +kernel
theorem BT : bootBuiltins "tuple" = some (.type "tuple") := by decide +kernel
structure Df (K : PySem.W.Frag) (mg : Str → Option Value) (x : Str) (st : Stmt) (ps : List Str) (f : Addr) (fd : FuncData) : Prop where
 F : Fun K x x st f fd
 b : Binds K fd ps []
 m : mg x = some (.ref f)
structure Bn (mg : Str → Option Value) : Prop where
 isi : mg "isinstance" = none
 int : mg "int" = none
 bool : mg "bool" = none
 tuple : mg "tuple" = none
 len : mg "len" = none
 abs : mg "abs" = none
 range : mg "range" = none
 min : mg "min" = none
inductive Kn (K : PySem.W.Frag) (H : Hp) : V → Prop
 | non : Kn K H .non
 | bl (b : Bool) : Kn K H (.bl b)
 | int (i : Int) : Kn K H (.int i)
 | str (x : Str) : Kn K H (.str x)
 | lst {a : Addr} {xs : List V} (e : H a = some (.lst xs)) : Kn K H (.ref a)
 | tup {a : Addr} {xs : List V} (e : H a = some (.tup xs)) : Kn K H (.ref a)
section
variable {P : Program} {w : World} {K : PySem.W.Frag} {mg : Str → Option Value} {base : Heap}
theorem abs_gcd (a : Int) : (if a < 0 then -a else a) = ((Int.gcd a 0 : Nat) : Int) := by
 rw [Int.gcd_zero_right]; split <;> omega
def second : St → Nat
 | [_, some (.int b)] => b.natAbs
 | [_, some (.int b), _] => b.natAbs
 | _ => 0
def num (t b : Int) : HO := .tup [.int (Num.top t b), .int (Num.bot t b)]
end
end R
namespace R
open PySem L2
section
variable {P : Program} {w : World} {K : PySem.W.Frag} {mg : Str → Option Value} {base : Heap}
structure Kn2 (K : PySem.W.Frag) (H : Hp) (v : V) : Prop where
 kn : Kn K H v
 two : ∀ a x y, v = .ref a → H a = some (.tup [x, y]) → Kn K H x ∧ Kn K H y
end
end R
namespace L2
open PySem PySem.Spec PyProof.Rows
end L2
namespace R
open PySem L2
structure Fd (H : Hp) (p : Addr) (b : Int) : Prop where
 ex : ∃ g m st : Int, H p = some (.lst [.int g, .int m, .int st]) ∧ 0 ≤ g ∧ 0 ≤ m ∧ m < 2147483399 ∧ 0 ≤ st ∧ st ≤ b
section
variable {P : Program} {w : World} {K : PySem.W.Frag} {mg : Str → Option Value} {base : Heap}
theorem qI (x : Int) {m : Int} (h0 : 0 < m) (h1 : m < 2 ^ 64) : -(2 ^ 64) < x % m ∧ x % m < 2 ^ 64 := by
 have := Int.emod_nonneg x (show m ≠ 0 by omega)
 have := Int.emod_lt_of_pos x h0
 omega
end
end R
namespace R
open PySem L2
section
variable {P : Program} {w : World} {K : PySem.W.Frag} {mg : Str → Option Value} {base : Heap}
end
end R
namespace R
open PySem L2
section
variable {P : Program} {w : World} {K : PySem.W.Frag} {mg : Str → Option Value} {base : Heap}
end
end R
namespace R
open PySem L2
structure Ex (K : PySem.W.Frag) (mg : Str → Option Value) (CR CN CY CP CT CW CM : Addr) : Prop where
 mR : mg "RoofError" = some (.ref CR)
 mN : mg "NoNumber" = some (.ref CN)
 mY : mg "NoYard" = some (.ref CY)
 mP : mg "NoPoint" = some (.ref CP)
 mT : mg "NoText" = some (.ref CT)
 mW : mg "NoRow" = some (.ref CW)
 mM : mg "NoName" = some (.ref CM)
 vE : mg "ValueError" = none
 xN : PySem.W.excIn K CN bmV "ValueError.__new__" = true
 kN : ExcK K CN
 cN : PySem.W.exmOne K (.ref CN) (.ref CR) = some true
 iV : PySem.W.kitOne K (.ref CN) (.type "ValueError") = some true
 iO : PySem.W.kitAny K (.ref CN) [.ref CM, .ref CP, .ref CW, .ref CT, .ref CY] = some false
section
variable {P : Program} {w : World} {K : PySem.W.Frag} {mg : Str → Option Value} {base : Heap} {CR CN CY CP CT CW CM : Addr}
end
end R
namespace R
open PySem L2
section
variable {P : Program} {w : World} {K : PySem.W.Frag} {mg : Str → Option Value} {base : Heap}
end
end R
namespace R
open PySem L2
section
variable {P : Program} {w : World} {K : PySem.W.Frag} {mg : Str → Option Value} {base : Heap}
end
end R
namespace R
open PySem L2
end R
namespace L2
open PySem PySem.Spec PyProof.Rows
section
variable {prog : Program} {w : World} {A : Around} {E : Value → Shared → Prop} {s : Shared}
theorem lM {h : Heap} {a : Addr} {its : Array Value} (x : PlainL h a its) : h.IsList a its := let ⟨o, n, e, c, _, d⟩ := x; ⟨o, e, c, n, d⟩
theorem rS {it l : Addr} {items : Array Value} (hne : l ≠ it) : ∀ (n i : Nat) (s : Shared) (Q : List Value → Shared → Prop), s.heap.IsListIter it l i → PlainL s.heap l items → i + n ≤ items.size →
  (∀ h', h'.IsListIter it l (i + n) → Heap.ExtBut it s.heap h' → Q ((items.toList.drop i).take n) { s with heap := h' }) → wpAny (model prog w) A (draw (.ref it) n) Q E s
 | 0, i, s, Q, hit, _, _, hQ => by
  show wpAny _ _ (pure []) Q E s
  exact wpAny_pure (by simpa using hQ s.heap hit (fun _ _ _ e => e))
 | n + 1, i, s, Q, hit, ht, hle, hQ => by
  have hlt : i < items.size := by omega
  show wpAny _ _ (pyNext (.ref it) >>= _) Q E s
  refine wpAny_bind (wpAny_pyNext_list_item hit (lM ht) (x := items[i]) (by simp [hlt]) fun h1 hit1 hs1 => ?_)
  refine wpAny_bind (wpAny_holding (rS hne n (i + 1) _ _ hit1 (ht.extBut hs1.extBut hne) (by omega) fun h2 hit2 hs2 => wpAny_pure ?_))
  have hd : items.toList.drop i = items[i] :: items.toList.drop (i + 1) := by simp [List.drop_eq_getElem_cons, hlt]
  have z := hQ h2 (by rw [show i + (n + 1) = i + 1 + n by omega]; exact hit2) (fun b o hb e => hs2 b o hb (hs1.extBut b o hb e))
  rw [hd, List.take_succ_cons] at z
  exact z
theorem u5 {t : Addr} {items : Array Value} {targets : List (Bool × (Value → Sem Unit))} {Q : Unit → Shared → Prop} (hh : A.handled = none) (ht : PlainL s.heap t items)
  (hn : targets.length = items.size) (hstar : targets.findIdx? (·.1) = none)
  (h : ∀ h', Heap.ExtBut s.heap.objs.size s.heap h' → wpAny (model prog w) A (assignInOrder (targets.map (·.2)) items.toList) Q E { s with heap := h' }) :
  wpAny (model prog w) A (unpack (.ref t) targets) Q E s := by
 have hlt : t ≠ s.heap.objs.size := by obtain ⟨o, _, ho, _⟩ := ht; exact Nat.ne_of_lt (Heap.lt_size ho)
 unfold unpack
 rw [hn, hstar]
 refine wpAny_bind (wpAny_holding ?_)
 unfold unpackItems
 refine wpAny_bind ?_
 unfold notIterableAtAll
 refine wpAny_bind (wpAny_specialOf (lM ht).typeIs slot_list_iter.lookup ?_)
 refine wpAny_pure ?_
 simp only [Bool.false_eq_true, if_false]
 refine wpAny_bind (wpAny_holding (wpAny_pyIter_list (lM ht) ?_))
 refine wpAny_bind (wpAny_holding (rS hlt items.size 0 _ _ ⟨_, Heap.get?_push_size _ rfl, rfl, rfl⟩ (ht.keeps fun b o e => Heap.get?_push_of_some _ e) (by omega) fun h1 hit1 hs1 => ?_))
 have hall : List.take items.size (List.drop 0 items.toList) = items.toList := by
  rw [List.drop_zero]; exact List.take_of_length_le (by simp)
 rw [hall]
 rw [if_neg (by simp)]
 have ht1 : PlainL h1 t items := PlainL.extBut (ht.keeps fun b o e => Heap.get?_push_of_some _ e) hs1 hlt
 refine wpAny_bind (wpAny_holding (wpAny_pyNext_list_end hh hit1 (lM ht1) (by simp) fun h2 he2 => ?_))
 simp only [Option.isSome_none, Bool.false_eq_true, if_false]
 exact wpAny_pure (h h2 fun b o hb e => he2 b o hb (hs1 b o hb (Heap.get?_push_of_some _ e)))
end
section
variable {X : Cx} {pos : Pos}
def gLst (K : PySem.W.Frag) (n : Nat) (t : TGs) : TG := fun v σ H Q => ∃ a xs, v = .ref a ∧ SqL K H a xs ∧ xs.length = n ∧ t xs σ H Q
theorem pg_lst {es : List Expr} {k : Nat} {t : TGs} {n : Nat} (hc : X.calm = true) (h : PGs X es t)
  (hn : (assignEach es X.env).length = n := by rfl) (hst : (assignEach es X.env).findIdx? (·.1) = none := by rfl) : PG X (.Tuple es k pos) (gLst X.K n t) := by
 intro pins s σ H v u Q I r hw
 obtain ⟨a, xs, e1, hq, hl, hw⟩ := hw
 subst e1
 cases r
 obtain ⟨its, rv, ht, hz⟩ := I.list hq
 rw [assign_Tuple]
 refine wpAny_bind (wpAny_standAt (u5 (I.ok.hd hc) ht (by simp [hn, ← hl, rv.length]) hst fun h' hx => ?_))
 have I1 : Inv X pins σ H { s with heap := h' } := I.kept (t' := s.toks) fun b o e => hx b o (Nat.ne_of_lt (Heap.lt_size e)) e
 exact h pins _ σ H xs _ Q I1 (by simpa using rv) hw
end
end L2
namespace Num
theorem of_divInt (t b : Int) (hb : b ≠ 0) : top t b = (Rat.divInt t b).num ∧ bot t b = ((Rat.divInt t b).den : Int) := by
 have hd : ((Rat.divInt t b).den : Int) ≠ 0 := by have := (Rat.divInt t b).den_nz; omega
 have e : (Rat.divInt t b).num * b = t * ((Rat.divInt t b).den : Int) := by
  have := Rat.num_divInt_den (Rat.divInt t b)
  exact (Rat.divInt_eq_divInt_iff hd hb).mp this
 have g : Int.gcd (Rat.divInt t b).num ((Rat.divInt t b).den : Int) = 1 := by
  have := (Rat.divInt t b).reduced
  rw [Int.gcd_eq_natAbs_gcd_natAbs]
  exact this
 refine uniq (bot_pos hb) (by have := (Rat.divInt t b).den_pos; omega) (low t b hb) g ?_
 have c := cross t b hb
 have h1 : top t b * ((Rat.divInt t b).den : Int) * b = (Rat.divInt t b).num * bot t b * b := by
  rw [Int.mul_right_comm, c, Int.mul_right_comm, ← e, Int.mul_right_comm]
 exact Int.eq_of_mul_eq_mul_right hb h1
theorem add_rat (x y : Rat) : Rat.divInt (x.num * (y.den : Int) + y.num * (x.den : Int)) ((x.den : Int) * (y.den : Int)) = x + y := by
 have h1 : (x.den : Int) ≠ 0 := by have := x.den_nz; omega
 have h2 : (y.den : Int) ≠ 0 := by have := y.den_nz; omega
 rw [← Rat.divInt_add_divInt _ _ h1 h2, Rat.num_divInt_den, Rat.num_divInt_den]
theorem sub_rat (x y : Rat) : Rat.divInt (x.num * (y.den : Int) - y.num * (x.den : Int)) ((x.den : Int) * (y.den : Int)) = x - y := by
 have h1 : (x.den : Int) ≠ 0 := by have := x.den_nz; omega
 have h2 : (y.den : Int) ≠ 0 := by have := y.den_nz; omega
 rw [← Rat.divInt_sub_divInt _ _ h1 h2, Rat.num_divInt_den, Rat.num_divInt_den]
theorem mul_rat (x y : Rat) : Rat.divInt (x.num * y.num) ((x.den : Int) * (y.den : Int)) = x * y := by
 rw [← Rat.divInt_mul_divInt, Rat.num_divInt_den, Rat.num_divInt_den]
theorem div_rat (x y : Rat) : Rat.divInt (x.num * (y.den : Int)) ((x.den : Int) * y.num) = x / y := by
 rw [← Rat.divInt_mul_divInt, Rat.num_divInt_den, Rat.div_def, Rat.inv_def]
end Num
namespace R
open PySem L2
structure Sz (k : Nat) (x : Rat) : Prop where
 n : x.num.natAbs < 2 ^ k
 d : x.den < 2 ^ k
theorem hU (x : Rat) : ((x.den : Nat) : Int) ≠ 0 := by have := x.den_nz; omega
end R
namespace L2
open PySem PySem.Spec PyProof.Rows
theorem dN : ∀ (names : List (Str × NameKind)) (n : Nat) (acc : List (Str × Addr)), cellsFrom n names acc = cellsFrom n names [] ++ acc
 | [], _, _ => rfl
 | (name, kind) :: r, n, acc => by
  unfold cellsFrom
  split
  ·rw [dN r (n + 1) ((name, n) :: acc), dN r (n + 1) [(name, n)], List.append_assoc]; rfl
  ·exact dN r n acc
theorem kE : ∀ (names : List (Str × NameKind)) (n : Nat) (acc : List (Str × Addr)) {y : Str} {c : Addr}, (y, c) ∈ cellsFrom n names acc → (y, NameKind.cell) ∈ names ∨ (y, c) ∈ acc
 | [], _, _, _, _, h => .inr h
 | (name, kind) :: r, n, acc, y, c, h => by
  unfold cellsFrom at h
  split at h
  ·rename_i hk
   rcases kE r (n + 1) _ h with q | q
   ·exact .inl (List.mem_cons_of_mem _ q)
   ·rcases List.mem_cons.mp q with q | q
    ·cases q
     have : kind = .cell := by simpa using hk
     exact .inl (by rw [this]; exact List.mem_cons_self)
    ·exact .inr q
  ·rcases kE r n _ h with q | q
   ·exact .inl (List.mem_cons_of_mem _ q)
   ·exact .inr q
theorem eF {y : Str} : ∀ {l m : List (Str × Addr)}, (l ++ m).lookup y = match l.lookup y with | some c => some c | none => m.lookup y
 | [], _ => rfl
 | (n, c) :: l, m => by
  rw [List.cons_append, List.lookup_cons, List.lookup_cons]
  cases y == n with
  | true => rfl
  | false => exact eF (l := l) (m := m)
theorem k9 {scope : Scope} {env : Env} : ∀ (names : List (Str × NameKind)) (acc : List (Str × Addr)),
  (∀ n, (n, NameKind.free) ∈ names → ∃ c, env.cells.lookup n = some c) → (∀ n c, acc.lookup n = some c → env.cells.lookup n = some c) →
  ∃ cl, (forIn names acc fun x cs => (if x.2 == NameKind.free then (do let c ← cellOf env x.1; pure (ForInStep.yield ((x.1, c) :: cs))) else pure (ForInStep.yield cs)) : Sem (List (Str × Addr))) = pure cl ∧
   (∀ n c, cl.lookup n = some c → env.cells.lookup n = some c) ∧ (∀ n, (n, NameKind.free) ∈ names → ∃ c, cl.lookup n = some c) ∧ ∀ n c, acc.lookup n = some c → ∃ c', cl.lookup n = some c'
 | [], acc, _, h2 => ⟨acc, rfl, h2, (fun _ h => nomatch h), fun n c e => ⟨c, e⟩⟩
 | (name, kind) :: r, acc, h1, h2 => by
  have h1' : ∀ n, (n, NameKind.free) ∈ r → ∃ c, env.cells.lookup n = some c := fun n hn => h1 n (List.mem_cons_of_mem _ hn)
  by_cases hk : kind = .free
  ·subst hk
   obtain ⟨c, hc⟩ := h1 name List.mem_cons_self
   obtain ⟨cl, e, q1, q2, q3⟩ := k9 (scope := scope) (env := env) r ((name, c) :: acc) h1' (fun n c' hn => by
    rw [List.lookup_cons] at hn
    cases hb : n == name with
    | true =>
     rw [hb] at hn
     have : n = name := by simpa using hb
     subst this
     cases hn; exact hc
    | false => rw [hb] at hn; exact h2 n c' hn)
   refine ⟨cl, ?_, q1, fun n hn => ?_, fun n c' hn => ?_⟩
   ·rw [List.forIn_cons]
    simp only [beq_self_eq_true, if_true]
    have e0 : cellOf env name = pure c := by unfold cellOf; rw [hc]
    rw [e0]
    exact e
   ·rcases List.mem_cons.mp hn with z | z
    ·cases z
     exact q3 _ c (by rw [List.lookup_cons, beq_self_eq_true])
    ·exact q2 n z
   ·cases hb : n == name with
    | true => exact q3 n c (by rw [List.lookup_cons, hb])
    | false => exact q3 n c' (by rw [List.lookup_cons, hb]; exact hn)
  ·obtain ⟨cl, e, q1, q2, q3⟩ := k9 (scope := scope) (env := env) r acc h1' h2
   refine ⟨cl, ?_, q1, fun n hn => ?_, q3⟩
   ·rw [List.forIn_cons]
    have hb : (kind == NameKind.free) = false := by simpa using hk
    simp only [hb, Bool.false_eq_true, if_false]
    exact e
   ·rcases List.mem_cons.mp hn with z | z
    ·cases z; exact absurd rfl hk
    ·exact q2 n z
theorem lP {scope : Scope} {env : Env} (h : ∀ n, (n, NameKind.free) ∈ scope.names → ∃ c, env.cells.lookup n = some c) :
  ∃ cl, closureFor scope env = pure cl ∧ (∀ n c, cl.lookup n = some c → env.cells.lookup n = some c) ∧ (∀ n, (n, NameKind.free) ∈ scope.names → ∃ c, cl.lookup n = some c) := by
 obtain ⟨cl, e, q1, q2, _⟩ := k9 (scope := scope) (env := env) scope.names [] h (fun n c e => by cases e)
 refine ⟨cl, ?_, q1, q2⟩
 show ((forIn scope.names [] fun x cs => (if x.2 == NameKind.free then (do let c ← cellOf env x.1; pure (ForInStep.yield ((x.1, c) :: cs))) else pure (ForInStep.yield cs)) : Sem (List (Str × Addr))) >>= fun cs => pure cs) = pure cl
 rw [e]
 rfl
theorem nV {M : Model} {A : Around} {E : Value → Shared → Prop} {s : Shared} {scope : Scope} {globals : Addr} {cl : List (Str × Addr)} {qual : Str} {code : Value} {env : Env} {Q : Env → Shared → Prop}
  (h : Q (newEnv scope s.heap.objs.size globals (cellsFrom (s.heap.objs.size + 1) scope.names cl) qual none code (some env) builtinsNs) { s with heap := pushCells (s.heap.push { cls := .type "dict", data := .dict #[] }) scope.names }) :
  wpAny M A (newFunctionEnv scope globals cl [] qual none code (some env)) Q E s := by
 simp only [newFunctionEnv, Option.isSome_some, if_true]
 refine wpAny_bind (wpAny_alloc ?_)
 refine wpAny_bind (wpAny_layCells _ (fun name kind cells => by cases hkc : kind == NameKind.cell <;> simp [hkc]) _ _ _ _ ?_)
 rw [show ({ s with heap := s.heap.push { cls := .type "dict", data := .dict #[] } } : Shared).heap.objs.size = s.heap.objs.size + 1 from Heap.size_push ..]
 exact wpAny_bind (wpAny_pure (wpAny_pure h))
end L2
namespace L2
open PySem PySem.Spec PyProof.Rows
def aR (X : Cx) (scope : Scope) (cs : List (Str × Addr)) (C : Addr) (Nc : List Str) (s₀ : Shared) (H₀ : Hp) (fp : List Addr) : Cx :=
 { X with N := Nc, s₀ := s₀, H₀ := H₀, env := compEnvC scope cs C X.env, outer := X.stack, ex := fp, fn := fun y => scope.names.lookup y == some .cell, pn := [], xe := fun _ _ => False }
theorem cL {env : Env} {y : Str} {k : NameKind} : ∀ {names : List (Str × NameKind)},
  (names.map fun (n, k) => if (k == NameKind.free && env.scope.kind == .function && env.kindOf n == some .cell) then (n, NameKind.cell) else (n, k)).lookup y = some k →
  names.lookup y = some k ∨ (names.lookup y = some .free ∧ k = .cell)
 | [], h => by cases h
 | (n, k') :: r, h => by
  have ih := @cL env y k r
  rw [List.map_cons] at h
  cases hy : y == n with
  | true =>
   rw [List.lookup_cons, hy]
   by_cases hc : (k' == NameKind.free && env.scope.kind == .function && env.kindOf n == some .cell) = true
   ·dsimp only at h
    rw [if_pos hc, List.lookup_cons, hy] at h
    cases h
    have : k' = .free := by
     rw [Bool.and_eq_true, Bool.and_eq_true] at hc
     simpa using hc.1.1
    exact .inr ⟨by rw [this], rfl⟩
   ·dsimp only at h
    rw [if_neg hc, List.lookup_cons, hy] at h
    exact .inl h
  | false =>
   rw [List.lookup_cons, hy]
   by_cases hc : (k' == NameKind.free && env.scope.kind == .function && env.kindOf n == some .cell) = true
   ·dsimp only at h
    rw [if_pos hc, List.lookup_cons, hy] at h
    exact ih h
   ·dsimp only at h
    rw [if_neg hc, List.lookup_cons, hy] at h
    exact ih h
def PIf (Y : Cx) (ifs : List Expr) (tt : TT) : Prop :=
 ∀ (pins : List (Addr × Obj)) (s : Shared) (σ : St) (H : Hp) (Q : Bool → Hp → Prop), Inv Y pins σ H s → tt σ H Q →
  wpAny (model Y.prog Y.w) Y.A (forIn ifs true fun c r => if r = true then do let ok ← isTrue c Y.env (eval c Y.env); pure (ForInStep.yield ok) else pure (ForInStep.yield r)) (TP Y pins σ Q) Y.xe s
def tNoIf : TT := fun _ H Q => Q true H
theorem pif_nil {Y : Cx} : PIf Y [] tNoIf := fun pins s σ H Q I h => by
 rw [List.forIn_nil]
 exact wpAny_pure ⟨H, I, h⟩
theorem pif_one {Y : Cx} {c : Expr} {tt : TT} (h : PT Y c tt) : PIf Y [c] tt := fun pins s σ H Q I q => wpAny_tests_one (h pins s σ H Q I q)
theorem mJ {prog : Program} {w : World} {A : Around} {R : Result → Shared → Prop} {s : Shared} {elt target iter : Expr} {ifs : List Expr} {scope : Scope} {pos : Pos} {it acc : Value} {env : Env} (I : Nat → Shared → Prop)
  (turn : ∀ n s, I n s → wpAny (model prog w) A (pyNext it) (fun r s₁ => match r with
   | none => R (.ok .next) s₁
   | some v => wpAny (model prog w) A (letOwnedTupleGo target it v) (fun _ s₁' => wpAny (model prog w) A (assign target env v) (fun _ s₂ =>
     wpAny (model prog w) A (forIn ifs true fun c r => if r = true then do let ok ← isTrue c env (eval c env); pure (ForInStep.yield ok) else pure (ForInStep.yield r)) (fun ok s₃ =>
      if ok = true then wpAny (model prog w) A (eval elt env) (fun x s₄ =>
       wpAny (model prog w) A (call (.builtin "list.append") [acc, x]) (fun _ s₅ => ∃ m, m < n ∧ I m s₅) (fun _ _ => False) s₄) (fun _ _ => False) s₃
      else ∃ m, m < n ∧ I m s₃) (fun _ _ => False) s₂) (fun _ _ => False) s₁') (fun _ _ => False) s₁) (fun _ _ => False) s)
  (n : Nat) (h : I n s) :
  codeAny (model prog w) A (.compLoop (.ListComp elt [⟨target, iter, ifs, 0⟩] scope pos) 0 it acc env) R s := by
 refine codeAny_loop rfl I (fun n s hI => ?_) n h
 show wpAny _ A ((compTurn (.ListComp elt [⟨target, iter, ifs, 0⟩] scope pos) 0 it acc env).onRaise (fun x => do noteFrame x env; theTreesLotGoes x)) _ _ s
 refine wpAny_noted ?_
 rw [compTurn_list]
 refine wpAny_bind (wpAny_standAt (wpAny_bind (wpAny_mono (turn n s hI) (fun r s₁ h₁ => ?_) fun _ _ h' => h'.elim)))
 cases r with
 | none => exact wpAny_pure h₁
 | some v =>
  refine wpAny_bind (wpAny_mono h₁ (fun _ s₁' h₁' => ?_) fun _ _ h' => h'.elim)
  refine wpAny_bind (wpAny_mono h₁' (fun _ s₂ h₂ => wpAny_bind (wpAny_mono h₂ (fun ok s₃ h₃ => ?_) fun _ _ h' => h'.elim)) fun _ _ h' => h'.elim)
  cases ok with
  | false => exact wpAny_pure ⟨rfl, h₃⟩
  | true =>
   exact wpAny_bind (wpAny_bind (wpAny_mono h₃ (fun x s₄ h₄ => wpAny_bind (wpAny_mono h₄ (fun _ s₅ h₅ => wpAny_pure (wpAny_pure ⟨rfl, h₅⟩)) fun _ _ h' => h'.elim)) fun _ _ h' => h'.elim))
def CompW (J : It) (cap : List Nat) (tt : TT) (te : TE) (σ : St) (H1 : Hp) (Q : VK) (D : Addr) : Prop := ∃ W : Nat → Nat → List V → Hp → Prop, (∃ m, W 0 m [] (upd H1 D (.lst []))) ∧ ∀ i m ys H2, W i m ys H2 →
 H2 D = some (.lst ys) ∧ ((J.stop i H2 ∧ Q (.ref D) H2) ∨ (J.go i H2 ∧ ys.length < sizeLine ∧ ∀ x H3, J.yld i H2 x H3 →
  tt (some x :: cap.map fun k => (σ[k]?).join) H3 fun b H4 => if b = true then te (some x :: cap.map fun k => (σ[k]?).join) H4 fun y H5 => H5 D = some (.lst ys) ∧ ∃ m', m' < m ∧ W (i + 1) m' (ys ++ [y]) (upd H5 D (.lst (ys ++ [y])))
   else ∃ m', m' < m ∧ W (i + 1) m' ys H4))
def m9 (wi : TI) (cap : List Nat) (tt : TT) (te : TE) : TE := fun σ H Q => wi σ H fun J H1 => ∀ D, H1 D = none → CompW J cap tt te σ H1 Q D
structure CFree (X : Cx) (pins : List (Addr × Obj)) (H' : Hp) (C : Addr) : Prop where
 hn : H' C = none
 hL : C ≠ X.env.locals
 h1 : X.s₀.heap.objs.size ≤ C
 h2 : ∀ x c, X.env.cells.lookup x = some c → c ≠ C
 h3 : ∀ p ∈ X.pn ++ pins, p.1 ≠ C
theorem qX {X : Cx} {x : Str} {px pos : Pos} {iter elt : Expr} {ifs : List Expr} {scope : Scope} {ns : List Str} {cap : List Nat} {wi : TI} {tt : TT} {te : TE} (hc : X.calm = true) (hkind : scope.kind = .function)
  (hnames : ∀ y ∈ scope.names, y.2 = .local → scope.names.lookup y.1 = some .local) (hx : Loc (relabel scope X.env) x) (hxf : scope.names.lookup x = some .cell ∨ (relabel scope X.env).names.lookup x = some .local)
  (hNc : (x :: ns).Nodup) (hlen : cap.length = ns.length) (hcap : ∀ (j k : Nat) (nm : Str), cap[j]? = some k → ns[j]? = some nm → X.N[k]? = some nm ∧ (X.env.scope.names.lookup nm = some .cell ∨ X.env.scope.names.lookup nm = some .free))
  (hns : ∀ nm ∈ ns, (nm, NameKind.free) ∈ scope.names ∧ (nm, NameKind.cell) ∉ scope.names) (hnsk : ∀ nm ∈ ns, scope.names.lookup nm = some .free) (hfree : ∀ y ∈ scope.names, y.2 = .free → X.env.scope.names.lookup y.1 = some .cell ∨ X.env.scope.names.lookup y.1 = some .free)
  (hi : PI X (.Name x px) iter wi)
  (ht : ∀ cs C s₀ H₀ fp, PIf (aR X scope cs C (x :: ns) s₀ H₀ fp) ifs tt) (he : ∀ cs C s₀ H₀ fp, PE (aR X scope cs C (x :: ns) s₀ H₀ fp) elt te)
  (hs : ∀ v, foldedSetIterable iter X.env v = pure v := by intro _; rfl)
  {use : Option (Value → Sem Unit)} {Q' : Value → Shared → Prop} {pins : List (Addr × Obj)} {s : Shared} {σ : St} {H : Hp} {Q : VK} {ip : Pos} (I : Inv X pins σ H s) (h : m9 wi cap tt te σ H Q)
  (hfin : ∀ (D C : Addr) (H' : Hp) (s' : Shared), Inv X pins σ H' s' → Q (.ref D) H' → (∃ m, s'.heap.Ns C m) → CFree X pins H' C → compPost (model X.prog X.w) X.A X.xe use Q' (.ref D) C (.ok .next) s') :
  wpAny (model X.prog X.w) X.A (comprehension (.ListComp elt [⟨.Name x px, iter, ifs, 0⟩] scope pos) scope X.env ip (newList []) false (eval iter X.env) use) Q' X.xe s := by
 obtain ⟨cl, ecl, cl1, cl2⟩ := lP (scope := scope) (env := X.env) fun n hn => I.ok.has n (hfree (n, .free) hn rfl)
 refine wpAny_comprehension_free (use := use) rfl hs ecl hkind hnames (thn (hi pins s σ H _ I h) fun xv s1 h1 => thn h1 fun itv s2 h2 => ?_)
 obtain ⟨it, fp, tn, J, H2, rfl, I2, T, st2, f2, q⟩ := h2
 have hD : H2 s2.heap.objs.size = none := I2.fresh
 obtain ⟨W, ⟨m0, w0⟩, step⟩ := q s2.heap.objs.size hD
 refine wpAny_newObj_type ?_ (by show 0 ≤ sizeLine; exact Nat.zero_le _)
 have I3 : Inv X pins σ (upd H2 s2.heap.objs.size (.lst [])) { s2 with heap := s2.heap.push { cls := .type "list", data := .seq ([] : List Value).toArray } } :=
  I2.laid (t' := s2.toks) (fun b u e => Heap.get?_push_of_some _ e) (Nat.le_refl _) ⟨Nat.zero_le _, [], 0, .nil, Heap.get?_push_size _ rfl⟩
 have sz3 : (s2.heap.push { cls := .type "list", data := .seq ([] : List Value).toArray }).objs.size = s2.heap.objs.size + 1 := Heap.size_push ..
 have hfp3 : ∀ b ∈ fp, ∀ o, (upd H2 s2.heap.objs.size (.lst [])) b ≠ some o := fun b hb o z => by
  obtain ⟨ob, e, _⟩ := T.obj 0 _ st2 b hb
  rw [aW (Nat.ne_of_lt (Heap.lt_size e)), (f2 b hb).1] at z
  cases z
 revert I3 sz3 w0 step hfp3
 generalize upd H2 s2.heap.objs.size (.lst []) = H3
 generalize hs3 : ({ s2 with heap := s2.heap.push { cls := .type "list", data := .seq ([] : List Value).toArray } } : Shared) = s3
 intro step w0 I3 sz3 hfp3
 have st3 : tn 0 s3.heap := T.keep 0 _ _ st2 fun b _ o e => by rw [← hs3]; exact Heap.get?_push_of_some _ e
 have fpLt : ∀ b ∈ fp, b < s3.heap.objs.size := fun b hb => by
  obtain ⟨o, e, _⟩ := T.obj 0 _ st3 b hb
  exact Heap.lt_size e
 refine nV ?_
 have new : CellsOk (pushCells (s3.heap.push { cls := .type "dict", data := .dict #[] }) scope.names) (s3.heap.objs.size + 1) (cellsFrom (s3.heap.objs.size + 1) scope.names []) := by
  have ok := cellsFrom_ok scope.names (s3.heap.push { cls := .type "dict", data := .dict #[] }) (s3.heap.objs.size + 1) [] ⟨fun _ _ hm => (nomatch hm), List.Pairwise.nil⟩ (by rw [Heap.size_push]; exact Nat.le_refl _)
  rw [Heap.size_push] at ok
  exact ok
 have keep4 : ∀ b o, s3.heap.get? b = some o → (pushCells (s3.heap.push { cls := .type "dict", data := .dict #[] }) scope.names).get? b = some o := fun b o e => pushCells_keeps _ _ b o (Heap.get?_push_of_some _ e)
 have nsC : (pushCells (s3.heap.push { cls := .type "dict", data := .dict #[] }) scope.names).Ns s3.heap.objs.size (fun _ => none) := (Heap.Ns.new s3.heap (.type "dict")).keeps (pushCells_keeps _ _)
 have lk : ∀ y c, (cellsFrom (s3.heap.objs.size + 1) scope.names cl).lookup y = some c → ((y, c) ∈ cellsFrom (s3.heap.objs.size + 1) scope.names [] ∧ (y, NameKind.cell) ∈ scope.names) ∨ (cl.lookup y = some c ∧ X.env.cells.lookup y = some c) := fun y c e => by
  rw [dN, eF] at e
  cases z : (cellsFrom (s3.heap.objs.size + 1) scope.names []).lookup y with
  | some c' =>
   rw [z] at e
   have e' : c' = c := Option.some.inj e
   subst e'
   have hm := PySem.mem_of_lookup z
   rcases kE _ _ _ hm with q | q
   ·exact .inl ⟨hm, q⟩
   ·cases q
  | none => rw [z] at e; exact .inr ⟨e, cl1 y c e⟩
 have oldLt : ∀ y c, X.env.cells.lookup y = some c → c < s3.heap.objs.size := fun y c e => by
  obtain ⟨v, z⟩ := I3.cell y c e
  exact z.lt
 have hlk2 : ∀ nm ∈ ns, ∃ c, (cellsFrom (s3.heap.objs.size + 1) scope.names cl).lookup nm = some c ∧ X.env.cells.lookup nm = some c := fun nm hnm => by
  obtain ⟨h1, h2⟩ := hns nm hnm
  obtain ⟨c, e⟩ := cl2 nm h1
  refine ⟨c, ?_, cl1 nm c e⟩
  rw [dN, eF]
  cases z : (cellsFrom (s3.heap.objs.size + 1) scope.names []).lookup nm with
  | some c' =>
   rcases kE _ _ _ (PySem.mem_of_lookup z) with q | q
   ·exact absurd q h2
   ·cases q
  | none => exact e
 show codeAny (model X.prog X.w) X.A (.compStart (.ListComp elt [⟨.Name x px, iter, ifs, 0⟩] scope pos) 0 (.ref it) (.ref s2.heap.objs.size) (aR X scope (cellsFrom (s3.heap.objs.size + 1) scope.names cl) s3.heap.objs.size (x :: ns) s3 H3 fp).env) (compPost (model X.prog X.w) X.A X.xe use Q' (.ref s2.heap.objs.size) s3.heap.objs.size) { s3 with heap := pushCells (s3.heap.push { cls := .type "dict", data := .dict #[] }) scope.names }
 have ht' := ht (cellsFrom (s3.heap.objs.size + 1) scope.names cl) s3.heap.objs.size s3 H3 fp
 have he' := he (cellsFrom (s3.heap.objs.size + 1) scope.names cl) s3.heap.objs.size s3 H3 fp
 have OK : (aR X scope (cellsFrom (s3.heap.objs.size + 1) scope.names cl) s3.heap.objs.size (x :: ns) s3 H3 fp).Ok := by
  refine ⟨I3.ok.mod, hkind, I3.ok.glob, I3.ok.blt, Nat.le_refl _, fun y z c e1 e2 => ?_, fun y hy => ?_, fun y c hf e => ?_, fun _ => I3.ok.hd hc, I3.ok.frames, .inl rfl, fun b hb => ⟨Nat.ne_of_lt (fpLt b hb), fun y c e => ?_⟩, I3.bs, Nat.le_trans I3.ok.bsz I3.sz, fun b o e hb => ?_, fun b hb hm => ?_, I3.stack, I3.stkFree⟩
  ·rcases lk y c e1 with ⟨a1, _⟩ | ⟨a1, a2⟩ <;> rcases lk z c e2 with ⟨b1, _⟩ | ⟨b1, b2⟩
   ·exact name_of_addr new.apart a1 b1
   ·exact absurd (Nat.lt_of_lt_of_le (oldLt z c b2) (Nat.le_of_succ_le (new.empty y c a1).2)) (Nat.lt_irrefl _)
   ·exact absurd (Nat.lt_of_lt_of_le (oldLt y c a2) (Nat.le_of_succ_le (new.empty z c b1).2)) (Nat.lt_irrefl _)
   ·exact I3.ok.inj y z c a2 b2
  ·have key : scope.names.lookup y = some .cell ∨ scope.names.lookup y = some .free := by
    rcases hy with hy | hy
    ·rcases cL (env := X.env) (names := scope.names) hy with q | ⟨q, _⟩
     ·exact .inl q
     ·exact .inr q
    ·rcases cL (env := X.env) (names := scope.names) hy with q | ⟨q, _⟩
     ·exact .inr q
     ·exact .inr q
   rcases key with q | q
   ·exact Option.isSome_iff_exists.mp (PySem.W.cellsFrom_some scope.names (s3.heap.objs.size + 1) cl (.inl q))
   ·obtain ⟨c, e⟩ := cl2 y (PySem.mem_of_lookup q)
    exact Option.isSome_iff_exists.mp (PySem.W.cellsFrom_some scope.names (s3.heap.objs.size + 1) cl (.inr (by rw [e]; rfl)))
  ·have hf' : scope.names.lookup y = some .cell := by
    have hf0 : (scope.names.lookup y == some .cell) = true := hf
    simpa using hf0
   have e' : (cellsFrom (s3.heap.objs.size + 1) scope.names cl).lookup y = some c := e
   have e0 := Option.isSome_iff_exists.mp (PySem.W.cellsFrom_some scope.names (s3.heap.objs.size + 1) [] (.inl hf'))
   obtain ⟨c', z⟩ := e0
   rw [dN, eF, z] at e'
   cases e'
   exact Nat.le_of_succ_le (new.empty y c (PySem.mem_of_lookup z)).2
  ·rcases lk y c e with ⟨a1, _⟩ | ⟨a1, a2⟩
   ·exact fun z => absurd (Nat.lt_of_lt_of_le (fpLt b hb) (z ▸ Nat.le_of_succ_le (new.empty y c a1).2)) (Nat.lt_irrefl _)
   ·exact (f2 b hb).2.2.2.2.1 y c a2
  ·rcases (f2 b hb).2.2.2.1 with z | z
   ·exact I3.ok.noex b o e z
   ·exact absurd (Nat.lt_of_lt_of_le (Heap.lt_size (I3.ok.bs b o e).1) z) (Nat.lt_irrefl _)
  ·rcases List.mem_cons.mp (I3.stkSub b hm) with z | z
   ·exact (f2 b hb).2.1 z
   ·exact (f2 b hb).2.2.1 z
 have IY : Inv (aR X scope (cellsFrom (s3.heap.objs.size + 1) scope.names cl) s3.heap.objs.size (x :: ns) s3 H3 fp) [] (none :: cap.map fun k => (σ[k]?).join) H3 { s3 with heap := pushCells (s3.heap.push { cls := .type "dict", data := .dict #[] }) scope.names } := by
  refine ⟨OK, rfl, I3.bare, Un.kept keep4, ⟨_, nsC, fun i nm v e1 e2 e3 => ?_⟩, fun y c e => ?_, I3.fresh, fun y c e => ?_, fun p hp => absurd (show p ∈ ([] : List (Addr × Obj)) from hp) (by simp), I3.hok.kept keep4, by simp [aR, hlen]⟩
  ·cases i with
   | zero => cases e2
   | succ j =>
    have e1' : ns[j]? = some nm := e1
    have e2' : (cap.map fun k => (σ[k]?).join)[j]? = some (some v) := e2
    rw [List.getElem?_map] at e2'
    cases hk : cap[j]? with
    | none => rw [hk] at e2'; cases e2'
    | some k =>
     rw [hk] at e2'
     have e2'' : (σ[k]?).join = some v := Option.some.inj e2'
     have e4 : σ[k]? = some (some v) := by
      cases z : σ[k]? with
      | none => rw [z] at e2''; cases e2''
      | some o => rw [z] at e2''; exact congrArg some e2''
     obtain ⟨hN, hcell⟩ := hcap j k nm hk e1'
     obtain ⟨m, _, hl⟩ := I3.loc
     obtain ⟨u, r, l⟩ := hl k nm v hN e4 (.inr hcell)
     refine ⟨u, r, ?_⟩
     rcases l with ⟨l1, _⟩ | ⟨_, c, ec, z⟩
     ·have l1' : X.env.scope.names.lookup nm = some .local := l1
      rcases hcell with q | q <;> rw [q] at l1' <;> cases l1'
     ·obtain ⟨c', g1, g2⟩ := hlk2 nm (List.mem_of_getElem? e1')
      rw [ec] at g2
      cases g2
      refine .inr ⟨?_, c, g1, ?_⟩
      ·rcases e3 with q | q
       ·rcases cL (env := X.env) (names := scope.names) q with w1 | ⟨_, w1⟩
        ·exfalso
         have hmem := (hns nm (List.mem_of_getElem? e1')).1
         have := hnames (nm, .local) (PySem.mem_of_lookup w1) rfl
         -- a name has one kind in a scope: its cell is known, so it is not local here
         exact absurd (I3.ok.has nm (hfree (nm, .free) hmem rfl)) (fun _ => by
          have hk2 := (hnsk nm (List.mem_of_getElem? e1'))
          rw [w1] at hk2; cases hk2)
        ·cases w1
       ·exact q
      ·obtain ⟨o, ho, hd⟩ := z
       exact ⟨o, keep4 c o ho, hd⟩
  ·rcases lk y c e with ⟨a1, _⟩ | ⟨a1, a2⟩
   ·exact ⟨none, (new.empty y c a1).1⟩
   ·obtain ⟨v, o, ho, hd⟩ := I3.cell y c a2
    exact ⟨v, o, keep4 c o ho, hd⟩
  ·rcases lk y c e with ⟨a1, _⟩ | ⟨a1, a2⟩
   ·exact I3.hok.fresh (Nat.le_of_succ_le (new.empty y c a1).2)
   ·exact I3.freeC y c a2
 -- what is reached at the end
 have fin : ∀ {σ' : St} {H' : Hp} {s' : Shared}, Inv (aR X scope (cellsFrom (s3.heap.objs.size + 1) scope.names cl) s3.heap.objs.size (x :: ns) s3 H3 fp) [] σ' H' s' → Q (.ref s2.heap.objs.size) H' →
   compPost (model X.prog X.w) X.A X.xe use Q' (.ref s2.heap.objs.size) s3.heap.objs.size (.ok .next) s' := fun {σ' H' s'} J qd => by
  obtain ⟨m', hn', _⟩ := J.loc
  have hCn : H' s3.heap.objs.size = none := J.free
  refine hfin _ _ H' s' (I3.call' (ch := fp) J.os J.base J.hok J.bare fun b hb => ⟨(f2 b hb).2.2.2.1, (f2 b hb).2.1, (f2 b hb).2.2.2.2.1, (f2 b hb).2.2.2.2.2⟩) qd ⟨m', hn'⟩ ⟨hCn, Nat.ne_of_gt I3.lt, I3.sz, fun y c e => Nat.ne_of_lt (oldLt y c e), fun p hp => Nat.ne_of_lt (Heap.lt_size (I3.pin p hp).1)⟩
 have fpY : ∀ {H' : Hp}, (∀ b ∈ fp, H' b = none) → ∀ b ∈ fp, FpOk (aR X scope (cellsFrom (s3.heap.objs.size + 1) scope.names cl) s3.heap.objs.size (x :: ns) s3 H3 fp) [] H' b := fun {H'} hn b hb =>
  ⟨hn b hb, (OK.exf b hb).1, OK.exfs b hb, .inl hb, (OK.exf b hb).2, fun p hp => absurd (show p ∈ ([] : List (Addr × Obj)) from hp) (by simp)⟩
 have st4 : tn 0 (pushCells (s3.heap.push { cls := .type "dict", data := .dict #[] }) scope.names) := T.keep 0 _ _ st3 fun b _ o e => keep4 b o e
 have fr3 : ∀ b ∈ fp, H3 b = none := fun b hb => by
  cases z : H3 b with
  | none => rfl
  | some o => exact absurd rfl (fun _ : (1 : Nat) = 1 => hfp3 b hb o z)
 have loop : codeAny (model X.prog X.w) X.A (.compLoop (.ListComp elt [⟨.Name x px, iter, ifs, 0⟩] scope pos) 0 (.ref it) (.ref s2.heap.objs.size) (aR X scope (cellsFrom (s3.heap.objs.size + 1) scope.names cl) s3.heap.objs.size (x :: ns) s3 H3 fp).env) (compPost (model X.prog X.w) X.A X.xe use Q' (.ref s2.heap.objs.size) s3.heap.objs.size) { s3 with heap := pushCells (s3.heap.push { cls := .type "dict", data := .dict #[] }) scope.names } := by
  refine mJ (fun n s' => ∃ i ys o H', Inv (aR X scope (cellsFrom (s3.heap.objs.size + 1) scope.names cl) s3.heap.objs.size (x :: ns) s3 H3 fp) [] (o :: cap.map fun k => (σ[k]?).join) H' s' ∧ tn i s'.heap ∧ (∀ b ∈ fp, H' b = none) ∧ W i n ys H') ?_ m0 ⟨0, [], none, H3, IY, st4, fr3, w0⟩
  rintro n s5 ⟨i, ys, o, H5, I5, st5, fr5, w5⟩
  obtain ⟨eD, alt⟩ := step i n ys H5 w5
  rcases alt with ⟨stop, qd⟩ | ⟨go, hz, turn⟩
  ·refine thn (T.done (aR X scope (cellsFrom (s3.heap.objs.size + 1) scope.names cl) s3.heap.objs.size (x :: ns) s3 H3 fp) rfl rfl rfl hc i [] s5 _ H5 (fun _ _ => False) I5 (fpY fr5) st5 stop) fun r s6 ⟨hr, I6⟩ => ?_
   subst hr
   exact fin I6 qd
  ·refine thn (T.item (aR X scope (cellsFrom (s3.heap.objs.size + 1) scope.names cl) s3.heap.objs.size (x :: ns) s3 H3 fp) rfl rfl rfl hc i [] s5 _ H5 (fun _ _ => False) I5 (fpY fr5) st5 go) fun r s6 ⟨u, hr, h6⟩ => ?_
   subst hr
   refine thn h6 fun _ s7 ⟨xv', H7, I7, r7, y7, st7, fr7⟩ => ?_
   have I7' := I7.pinned (fpY fr7) (T.obj _ _ st7)
   have hst : PG (aR X scope (cellsFrom (s3.heap.objs.size + 1) scope.names cl) s3.heap.objs.size (x :: ns) s3 H3 fp) (.Name x px) (lN 0) := nB hNc rfl hx (hxf.elim (fun z => .inl (by show (scope.names.lookup x == some .cell) = true; rw [z]; rfl)) .inr)
   refine thn (hst _ s7 _ H7 xv' u (fun σ8 H8 => σ8 = (some xv' :: cap.map fun k => (σ[k]?).join) ∧ H8 = H7) I7' r7 ⟨rfl, rfl⟩) fun _ s8 ⟨σ8, H8, I8, e8, e8'⟩ => ?_
   subst e8 e8'
   have back : ∀ {σ9 : St} {H9 : Hp} {s9 : Shared}, Inv (aR X scope (cellsFrom (s3.heap.objs.size + 1) scope.names cl) s3.heap.objs.size (x :: ns) s3 H3 fp) ([] ++ kA fp s7.heap) σ9 H9 s9 → tn (i + 1) s9.heap ∧ ∀ b ∈ fp, H9 b = none := fun {σ9 H9 s9} I9 => by
    refine ⟨T.keep _ _ _ st7 fun b hb o e => (I9.pin (b, o) (List.mem_append_right _ (List.mem_append_right _ (fK hb e)))).1, fun b hb => ?_⟩
    obtain ⟨o, e, d⟩ := T.obj _ _ st7 b hb
    exact (I9.pin (b, o) (List.mem_append_right _ (List.mem_append_right _ (fK hb e)))).2.1
   refine thn (ht' _ s8 _ _ _ I8 (turn xv' _ y7)) fun b s9 ⟨H9, I9, q9⟩ => ?_
   cases b with
   | false =>
    rw [if_neg Bool.false_ne_true] at q9 ⊢
    obtain ⟨m', hm, w9⟩ := q9
    obtain ⟨st9, fr9⟩ := back I9
    exact ⟨m', hm, i + 1, ys, _, H9, I9.unpinned, st9, fr9, w9⟩
   | true =>
    rw [if_pos rfl] at q9 ⊢
    refine thn (he' _ s9 _ _ _ I9 q9) fun yv s10 ⟨y, H10, I10, r10, eD10, m', hm, w10⟩ => ?_
    refine thn (iN (X := aR X scope (cellsFrom (s3.heap.objs.size + 1) scope.names cl) s3.heap.objs.size (x :: ns) s3 H3 fp) _ s10 _ H10 (.ref s2.heap.objs.size) [y] (.ref s2.heap.objs.size) [yv] (fun _ H11 => H11 = upd H10 s2.heap.objs.size (.lst (ys ++ [y]))) I10 rfl (.cons r10 .nil) ⟨_, ys, y, rfl, rfl, eD10, hz, rfl⟩) fun _ s11 ⟨_, H11, I11, _, e11⟩ => ?_
    subst e11
    obtain ⟨st11, fr11⟩ := back I11
    exact ⟨m', hm, i + 1, _, _, _, I11.unpinned, st11, fr11, w10⟩
 exact codeAny_compStart_list loop (T.self X.A 0 _ _ _ st4 loop)
theorem pe_comp {X : Cx} {x : Str} {px pos : Pos} {iter elt : Expr} {ifs : List Expr} {scope : Scope} {ns : List Str} {cap : List Nat} {wi : TI} {tt : TT} {te : TE} (hc : X.calm = true) (hkind : scope.kind = .function)
  (hnames : ∀ y ∈ scope.names, y.2 = .local → scope.names.lookup y.1 = some .local) (hx : Loc (relabel scope X.env) x) (hxf : scope.names.lookup x = some .cell ∨ (relabel scope X.env).names.lookup x = some .local)
  (hNc : (x :: ns).Nodup) (hlen : cap.length = ns.length) (hcap : ∀ (j k : Nat) (nm : Str), cap[j]? = some k → ns[j]? = some nm → X.N[k]? = some nm ∧ (X.env.scope.names.lookup nm = some .cell ∨ X.env.scope.names.lookup nm = some .free))
  (hns : ∀ nm ∈ ns, (nm, NameKind.free) ∈ scope.names ∧ (nm, NameKind.cell) ∉ scope.names) (hnsk : ∀ nm ∈ ns, scope.names.lookup nm = some .free) (hfree : ∀ y ∈ scope.names, y.2 = .free → X.env.scope.names.lookup y.1 = some .cell ∨ X.env.scope.names.lookup y.1 = some .free)
  (hi : PI X (.Name x px) iter wi)
  (ht : ∀ cs C s₀ H₀ fp, PIf (aR X scope cs C (x :: ns) s₀ H₀ fp) ifs tt) (he : ∀ cs C s₀ H₀ fp, PE (aR X scope cs C (x :: ns) s₀ H₀ fp) elt te)
  (hs : ∀ v, foldedSetIterable iter X.env v = pure v := by intro _; rfl) :
  PE X (.ListComp elt [⟨.Name x px, iter, ifs, 0⟩] scope pos) (m9 wi cap tt te) := by
 intro pins s σ H Q I h
 rw [eval_ListComp]
 refine qX hc hkind hnames hx hxf hNc hlen hcap hns hnsk hfree hi ht he hs (use := none) I h fun D C H' s' J q ⟨m, hn⟩ cf => ⟨m, hn, fun h' hs' => ?_⟩
 exact ⟨.ref D, H', J.turned (t' := s'.toks) (it := C) (fun b o hb e => (hs'.2 b hb).trans e) cf.hn cf.hL (.inr cf.h1) cf.h2 cf.h3, rfl, q⟩
theorem uG {y : Str} {py spos : Pos} {iy : Nat} {X : Cx} {x : Str} {px pos : Pos} {iter elt : Expr} {ifs : List Expr} {scope : Scope} {ns : List Str} {cap : List Nat} {wi : TI} {tt : TT} {te : TE} (hN : X.N.Nodup) (hiy : X.N[iy]? = some y) (hyl : X.env.scope.names.lookup y = some .local) (hc : X.calm = true) (hkind : scope.kind = .function)
  (hnames : ∀ y ∈ scope.names, y.2 = .local → scope.names.lookup y.1 = some .local) (hx : Loc (relabel scope X.env) x) (hxf : scope.names.lookup x = some .cell ∨ (relabel scope X.env).names.lookup x = some .local)
  (hNc : (x :: ns).Nodup) (hlen : cap.length = ns.length) (hcap : ∀ (j k : Nat) (nm : Str), cap[j]? = some k → ns[j]? = some nm → X.N[k]? = some nm ∧ (X.env.scope.names.lookup nm = some .cell ∨ X.env.scope.names.lookup nm = some .free))
  (hns : ∀ nm ∈ ns, (nm, NameKind.free) ∈ scope.names ∧ (nm, NameKind.cell) ∉ scope.names) (hnsk : ∀ nm ∈ ns, scope.names.lookup nm = some .free) (hfree : ∀ y ∈ scope.names, y.2 = .free → X.env.scope.names.lookup y.1 = some .cell ∨ X.env.scope.names.lookup y.1 = some .free)
  (hi : PI X (.Name x px) iter wi)
  (ht : ∀ cs C s₀ H₀ fp, PIf (aR X scope cs C (x :: ns) s₀ H₀ fp) ifs tt) (he : ∀ cs C s₀ H₀ fp, PE (aR X scope cs C (x :: ns) s₀ H₀ fp) elt te)
  (hs : ∀ v, foldedSetIterable iter X.env v = pure v := by intro _; rfl)
  (hsw : swapsWith (.ListComp elt [⟨.Name x px, iter, ifs, 0⟩] scope pos) (some (.Name y py)) spos.line X.env = pure true := by rfl) :
  PS X (.Assign [.Name y py] (.ListComp elt [⟨.Name x px, iter, ifs, 0⟩] scope pos) spos) (tAsg (m9 wi cap tt te) (lN iy)) := by
 intro pins s σ H D I h
 rw [exec_Assign_Name_used _ _ _ _ hsw]
 refine wpAny_bind (wpAny_standAt (wpAny_bind ?_))
 show wpAny _ X.A (do let _ ← comprehension (.ListComp elt [⟨.Name x px, iter, ifs, 0⟩] scope pos) scope X.env _ (newList []) false (eval iter X.env) (some (assign (.Name y py) X.env))) _ _ s
 refine wpAny_bind (wpAny_mono (qX hc hkind hnames hx hxf hNc hlen hcap hns hnsk hfree hi ht he hs (use := some (assign (.Name y py) X.env)) (Q' := fun _ s' => SP X pins D .next s') I h fun L C H' s' J q ⟨m, hn⟩ cf => ?_) (fun _ s' hq => wpAny_pure (wpAny_pure hq)) fun _ _ e => e)
 refine wpAny_assign_Name (qY J hN hiy (.inl hyl) (v := .ref L) rfl (fun s2 J2 ⟨a, sb, ha⟩ => ?_) (.inr hyl))
 have hCa : C ≠ a := by
  rcases ha with rfl | ha
  ·exact cf.hL
  ·exact Ne.symm (cf.h2 y a ha)
 refine ⟨m, hn.sameBut sb hCa, fun h' hs' => ?_⟩
 exact ⟨_, H', J2.turned (t' := s2.toks) (it := C) (fun b o hb e => (hs'.2 b hb).trans e) cf.hn cf.hL (.inr cf.h1) cf.h2 cf.h3, q⟩
end L2
namespace L2
open PySem PySem.Spec PyProof.Rows
def Its (x : Str) : It := ⟨fun i _ => i < x.cps.size, fun i H v H' => H' = H ∧ ∃ c, x.cps[i]? = some c ∧ v = .str ⟨#[c]⟩, fun i _ => x.cps.size ≤ i⟩
theorem sD {P : Program} {w : World} {K : PySem.W.Frag} {tg : Expr} (x : Str) (t : Tok) (it : Addr) (b : Bool) : Turn P w K tg (Its x) [it] it (fun i h => h.IsStrIter it (if b then "str_ascii_iterator" else "str_iterator") x t i) where
 mem := by simp
 obj := fun i h st b hb => by
  have e : b = it := by simpa using hb
  subst e
  obtain ⟨o, e, c, d⟩ := st
  exact ⟨o, e, fun v z => by rw [d] at z; cases z⟩
 keep := fun i h h' st k => by
  obtain ⟨o, e, r⟩ := st
  exact ⟨o, k it (by simp) o e, r⟩
 item := by
  intro X hP hw hK hc i pins s σ H E I hf st hg
  subst hP hw hK
  obtain ⟨f0, f1, f2, f3, f4, f5⟩ := hf it (by simp)
  have hg' : i < x.cps.size := hg
  cases b with
  | true =>
   refine wpAny_pyNext_ascii_item st (c := x.cps[i]) (by simp [hg']) fun h' st' sb => ?_
   have I1 : Inv X pins σ H { s with heap := h', toks := s.toks + 1 } := I.turned (t' := s.toks + 1) (fun b o hb e => (sb.2 b hb).trans e) f0 f1 f3 f4 f5
   obtain ⟨o, e, c, d⟩ := id st'
   exact ⟨_, rfl, mZ (s := { s with heap := h', toks := s.toks + 1 }) e c d (by decide) ⟨.str ⟨#[x.cps[i]]⟩, H, I1, ⟨s.toks, rfl⟩, ⟨rfl, _, by simp [hg'], rfl⟩, st', fun b hb => (hf b hb).1⟩⟩
  | false =>
   refine wpAny_pyNext_wide_item st (c := x.cps[i]) (by simp [hg']) fun h' st' sb => ?_
   have I1 : Inv X pins σ H { s with heap := h', toks := s.toks + 1 } := I.turned (t' := s.toks + 1) (fun b o hb e => (sb.2 b hb).trans e) f0 f1 f3 f4 f5
   obtain ⟨o, e, c, d⟩ := id st'
   exact ⟨_, rfl, mZ (s := { s with heap := h', toks := s.toks + 1 }) e c d (by decide) ⟨.str ⟨#[x.cps[i]]⟩, H, I1, ⟨s.toks, rfl⟩, ⟨rfl, _, by simp [hg'], rfl⟩, st', fun b hb => (hf b hb).1⟩⟩
 done := by
  intro X hP hw hK hc i pins s σ H E I hf st hg
  subst hP hw hK
  obtain ⟨f0, f1, f2, f3, f4, f5⟩ := hf it (by simp)
  have hg' : x.cps.size ≤ i := hg
  cases b with
  | true => exact wpAny_pyNext_ascii_end (I.ok.hd hc) st (by simp [hg']) fun h' eb => ⟨rfl, I.turned (t' := s.toks) (fun b o hb e => eb b o hb e) f0 f1 f3 f4 f5⟩
  | false => exact wpAny_pyNext_wide_end (I.ok.hd hc) st (by simp [hg']) fun h' eb => ⟨rfl, I.turned (t' := s.toks) (fun b o hb e => eb b o hb e) f0 f1 f3 f4 f5⟩
 self := fun _ _ _ _ _ st h => by
  cases b with
  | true => exact wpAny_pyIter_striter_ascii st h
  | false => exact wpAny_pyIter_striter_wide st h
def iStr (tl : TE) : TI := fun σ H R => tl σ H fun x H1 => ∃ z, x = .str z ∧ R (Its z) H1
theorem pi_str {X : Cx} {tg l : Expr} {tl : TE} (hl : PE X l tl) : PI X tg l (iStr tl) := by
 intro pins s σ H R I h
 refine thn (hl pins s σ H _ I h) fun v s1 ⟨x, H1, I1, r1, q1⟩ => ?_
 obtain ⟨z, e, q⟩ := q1
 subst e
 obtain ⟨t, rfl⟩ := r1
 have fp : ∀ b ∈ [s1.heap.objs.size], FpOk X pins H1 b := fun b hb => by
  have e : b = s1.heap.objs.size := by simpa using hb
  subst e
  exact I1.fpOk (Nat.le_refl _) (I1.hok.fresh (Nat.le_refl _))
 cases ha : z.cps.all (· < 128)
 ·exact wpAny_pyIter_wide ha ⟨s1.heap.objs.size, [s1.heap.objs.size], _, _, H1, rfl, I1.kept (t' := s1.toks) fun b o e => Heap.get?_push_of_some _ e, sD z t _ false, ⟨_, Heap.get?_push_size _ rfl, rfl, rfl⟩, fp, q⟩
 ·exact wpAny_pyIter_ascii ha ⟨s1.heap.objs.size, [s1.heap.objs.size], _, _, H1, rfl, I1.kept (t' := s1.toks) fun b o e => Heap.get?_push_of_some _ e, sD z t _ true, ⟨_, Heap.get?_push_size _ rfl, rfl, rfl⟩, fp, q⟩
structure Yields (J : It) (xs : List V) (Kp : Hp → Prop) : Prop where
 go : ∀ i H, Kp H → i < xs.length → J.go i H
 yld : ∀ i H x H', Kp H → J.yld i H x H' → i < xs.length → H' = H ∧ xs[i]? = some x
 stop : ∀ i H, Kp H → xs.length ≤ i → J.stop i H
theorem pX {K : PySem.W.Frag} {a : Addr} {xs : List V} : Yields (Itl K a) xs (fun H => SqL K H a xs) where
 go := fun i H k h => ⟨xs, xs[i], k, by simp [h]⟩
 yld := fun i H x H' k y _ => ⟨y.1, y.2 xs k⟩
 stop := fun i H k h => ⟨xs, k, h⟩
theorem yl_tup {K : PySem.W.Frag} {a : Addr} {xs : List V} : Yields (Itt K a) xs (fun H => SqT K H a xs) where
 go := fun i H k h => ⟨xs, xs[i], k, by simp [h]⟩
 yld := fun i H x H' k y _ => ⟨y.1, y.2 xs k⟩
 stop := fun i H k h => ⟨xs, k, h⟩
def Butd (D : Addr) (H H' : Hp) : Prop := ∀ b o, b ≠ D → H b = some o → H' b = some o
theorem Butd.upd {D : Addr} {H : Hp} {o : HO} : Butd D H (upd H D o) := fun b u n e => by rw [aW n]; exact e
theorem Same.but {D : Addr} {H1 H H' : Hp} (s : Same H1 H) (n : H1 D = none) (b : Butd D H H') : Same H1 H' := fun c o e => b c o (bH e n) (s c o e)
theorem qH {D : Addr} {H : Hp} {o : HO} (n : H D = none) : Same H (upd H D o) := (Same.refl H).but n Butd.upd
theorem gG {α : Type} {xs : List α} {i : Nat} {x : α} (h : xs[i]? = some x) : xs.take (i + 1) = xs.take i ++ [x] := by
 rw [List.take_succ, h]; rfl
end L2
namespace L2
open PySem PySem.Spec PyProof.Rows
section
variable {X : Cx}
theorem qN {bs : List Bool} {its : List Value} (r : Vals (bs.map V.bl) its) {i : Nat} {v : Value} (e : its.toArray[i]? = some v) : v = .bool (bs.getD i false) := by
 have e' : its[i]? = some v := by simpa using e
 have hl := r.length
 rw [List.length_map] at hl
 have hi : i < bs.length := by
  have := (List.getElem?_eq_some_iff.mp e').1
  omega
 have hx : (bs.map V.bl)[i]? = some (.bl bs[i]) := by simp [hi]
 obtain ⟨u, hu, ru⟩ := r.get hx
 rw [e'] at hu
 cases hu
 have : v = .bool bs[i] := ru
 rw [this]
 simp [List.getD, hi]
theorem qB (bs : List Bool) : ((List.range bs.length).all fun i => bs.getD i false) = bs.all id := by
 induction bs with
 | nil => rfl
 | cons b r ih =>
  rw [List.length_cons, List.range_succ_eq_map, List.all_cons, List.all_map, List.all_cons]
  rw [← ih]
  rfl
def rAll (K : PySem.W.Frag) (g : List Bool → Bool) : List V → Hp → VK → Prop := fun xs H Q => ∃ p bs, xs = [.ref p] ∧ (SqL K H p (bs.map V.bl) ∨ SqT K H p (bs.map V.bl)) ∧ Q (.bl (g bs)) H
theorem jH (hc : X.calm = true) : fL X (.builtin "all") (rAll X.K fun bs => bs.all id) := by
 intro pins s σ H xs us Q I r h
 obtain ⟨p, bs, rfl, hq, q⟩ := h
 obtain ⟨u, rfl, rx⟩ := vals1 r
 cases rx
 refine call_all_walk ?_
 rcases hq with hq | hq
 ·obtain ⟨its, r', pl, hz⟩ := I.list hq
  have hlen := r'.length
  rw [List.length_map] at hlen
  refine wpAny_pyIter_list pl.isList ?_
  have hne : p ≠ s.heap.objs.size := Nat.ne_of_lt (Heap.lt_size pl.isList.choose_spec.1)
  refine ⟨_, _, _, _, _, _, fun i => bs.getD i false, rfl, Walks.list (show X.A.in1.handled = none from I.ok.hd hc) s.heap.objs.size p hne its.toArray, ⟨⟨_, Heap.get?_push_size _ rfl, rfl, rfl⟩, ?_⟩, ?_, ?_⟩
  ·obtain ⟨o, e, z⟩ := pl.isList
   exact ⟨o, Heap.get?_push_of_some _ e, z⟩
  ·intro i v s' Q' E' hv hQ'
   rw [qN r' hv]
   exact wpAny_truthy_bool hQ'
  ·intro h' tk k
   refine ⟨.bl (bs.all id), H, ?_, ?_, q⟩
   ·exact I.kept (t' := tk) fun b o e => k b o (by simp; exact Nat.ne_of_lt (Heap.lt_size e)) (Heap.get?_push_of_some _ e)
   ·show Value.bool _ = Value.bool _
    rw [← qB bs, List.size_toArray, ← hlen]
 ·obtain ⟨its, r', pl, hz⟩ := I.tuple hq
  have hlen := r'.length
  rw [List.length_map] at hlen
  have pl' : s.heap.IsTuple p its.toArray := pl
  refine wpAny_pyIter_tuple pl' ?_
  have hne : p ≠ s.heap.objs.size := Nat.ne_of_lt (Heap.lt_size pl'.choose_spec.1)
  refine ⟨_, _, _, _, _, _, fun i => bs.getD i false, rfl, Walks.tuple (show X.A.in1.handled = none from I.ok.hd hc) s.heap.objs.size p hne its.toArray, ⟨⟨_, Heap.get?_push_size _ rfl, rfl, rfl⟩, ?_⟩, ?_, ?_⟩
  ·obtain ⟨o, e, z⟩ := pl'
   exact ⟨o, Heap.get?_push_of_some _ e, z⟩
  ·intro i v s' Q' E' hv hQ'
   rw [qN r' hv]
   exact wpAny_truthy_bool hQ'
  ·intro h' tk k
   refine ⟨.bl (bs.all id), H, ?_, ?_, q⟩
   ·exact I.kept (t' := tk) fun b o e => k b o (by simp; exact Nat.ne_of_lt (Heap.lt_size e)) (Heap.get?_push_of_some _ e)
   ·show Value.bool _ = Value.bool _
    rw [← qB bs, List.size_toArray, ← hlen]
theorem pS : ∀ {ys : List Str} {its : List Value}, Vals (ys.map V.str) its → StrsAre its ys
 | [], _, r => by cases r; exact .nil
 | y :: ys, _, r => by
  cases r with
  | cons a b =>
   obtain ⟨t, rfl⟩ := a
   exact .cons y t (pS b)
def rJoin (K : PySem.W.Frag) : V → List V → Hp → VK → Prop := fun x vs H Q => ∃ sep p ys, x = .str sep ∧ vs = [.ref p] ∧ (SqL K H p (ys.map V.str) ∨ SqT K H p (ys.map V.str)) ∧ sep.length ≤ 16 ∧ (ys.map (·.length)).sum + ys.length ≤ 1048576 ∧ Q (.str (Txt.join sep ys)) H
theorem jE : MtR X "str.join" (rJoin X.K) := by
 intro pins s σ H x vs u us Q I rx rv h
 obtain ⟨sep, p, ys, rfl, rfl, hq, h1, h2, q⟩ := h
 obtain ⟨v, rfl, ry⟩ := vals1 rv
 cases ry
 obtain ⟨t, rfl⟩ := rx
 rcases hq with hq | hq
 ·obtain ⟨its, r', pl, hz⟩ := I.list hq
  exact join_listW pl.isList (pS r') h1 h2 fun t' k => ⟨.str _, H, I.tok k, ⟨t', rfl⟩, q⟩
 ·obtain ⟨its, r', pl, hz⟩ := I.tuple hq
  exact join_tupleW pl (pS r') h1 h2 fun t' k => ⟨.str _, H, I.tok k, ⟨t', rfl⟩, q⟩
def repS (x : Str) (n : Nat) : Str := ⟨(List.replicate n x.cps).foldl (· ++ ·) #[]⟩
theorem rQ (a : Array Nat) : ∀ (n : Nat) (acc : Array Nat), ((List.replicate n a).foldl (· ++ ·) acc).toList = acc.toList ++ (List.replicate n a.toList).flatten
 | 0, acc => by simp
 | n + 1, acc => by
  rw [List.replicate_succ, List.foldl_cons, rQ a n, List.replicate_succ, List.flatten_cons]
  simp
theorem j4 (x : Str) (n : Nat) : (repS x n).cps.toList = (List.replicate n x.cps.toList).flatten := by
 unfold repS
 rw [rQ]; rfl
theorem repS_len (x : Str) (n : Nat) : (repS x n).length = x.length * n := by
 show (repS x n).cps.size = x.cps.size * n
 rw [← Array.length_toList, j4, ← Array.length_toList]
 generalize x.cps.toList = l
 induction n with
 | zero => simp
 | succ n ih => rw [List.replicate_succ, List.flatten_cons, List.length_append, ih, Nat.mul_succ, Nat.add_comm]
theorem gH {x y : Str} (h : x.cps.toList = y.cps.toList) : x = y := by
 cases x; cases y
 simp only [Str.mk.injEq]
 exact Array.toList_inj.mp h
theorem repS_one (x : Str) : repS x 1 = x := gH (by rw [j4]; simp)
theorem repS_nil (x : Str) (n : Nat) (h : x.length = 0) : repS x n = x := by
 have hx : x.cps.toList = [] := List.eq_nil_of_length_eq_zero (by rw [Array.length_toList]; exact h)
 apply gH
 rw [j4, hx]
 induction n with
 | zero => rfl
 | succ n ih => rw [List.replicate_succ, List.flatten_cons, ih]; rfl
def rRepS : R2 := fun x y H Q => ∃ z n, x = .str z ∧ y = .int n ∧ -(2 ^ 40) ≤ n ∧ n < 2 ^ 40 ∧ z.length * n.toNat ≤ sizeLine ∧ Q (.str (repS z n.toNat)) H
theorem op_repS : OpR X (binaryOp .Mult) rRepS := by
 intro pins s σ H x y u v Q I rx ry h
 obtain ⟨z, n, rfl, rfl, h1, h2, h3, q⟩ := h
 obtain ⟨t, rfl⟩ := rx
 obtain ⟨t', rfl⟩ := ry
 refine P.mul_str (by rw [decide_eq_false (by omega), decide_eq_false (by omega)]; rfl) (fun a b => ?_) (fun a b => ?_) ?_
 ·have : (n.toNat : Int) = n := by omega
  have h4 : ((z.length : Int)) * n ≤ (sizeLine : Nat) := by rw [← this]; exact_mod_cast h3
  intro c
  have hn : 0 < n := by omega
  have := (Int.ediv_lt_iff_lt_mul hn).mp c
  have h5 : ((sizeLine : Nat) : Int) < 2 ^ 62 := by decide
  omega
 ·exact notLongL h3
 ·by_cases c1 : n < 1
  ·rw [if_pos c1]
   rw [show n.toNat = 0 by omega] at q
   exact ⟨by decide, .str _, H, I.tok _, ⟨_, rfl⟩, q⟩
  ·rw [if_neg c1]
   by_cases c2 : (n == 1 || z.length == 0) = true
   ·rw [if_pos c2]
    refine ⟨.str z, H, I, ⟨_, rfl⟩, ?_⟩
    have e : repS z n.toNat = z := by
     rw [Bool.or_eq_true, beq_iff_eq, beq_iff_eq] at c2
     rcases c2 with c | c
     ·rw [c]; exact repS_one z
     ·exact repS_nil z _ c
    rw [e] at q; exact q
   ·rw [if_neg c2]
    refine ⟨?_, .str _, H, I.tok _, ⟨_, rfl⟩, q⟩
    show (repS z n.toNat).length ≤ sizeLine
    rw [repS_len]; exact h3
end
end L2
namespace L2
open PySem PySem.Spec PyProof.Rows
def gW (sc scope : Scope) (x : Str) (ns : List Str) (cap : List Nat) (N : List Str) : Bool :=
 decide (scope.kind = .function) && scope.names.all (fun y => decide (y.2 ≠ .local) || decide (scope.names.lookup y.1 = some .local)) && (decide (scope.names.lookup x = some .local) || decide (scope.names.lookup x = some .cell)) &&
 decide ((x :: ns).Nodup) && decide (cap.length = ns.length) &&
 (List.range cap.length).all (fun j => match cap[j]?, ns[j]? with
  | some k, some nm => decide (N[k]? = some nm) && (decide (sc.names.lookup nm = some .cell) || decide (sc.names.lookup nm = some .free))
  | _, _ => true) &&
 ns.all (fun nm => decide ((nm, NameKind.free) ∈ scope.names) && decide ((nm, NameKind.cell) ∉ scope.names) && decide (scope.names.lookup nm = some .free)) &&
 scope.names.all (fun y => decide (y.2 ≠ .free) || (decide (sc.names.lookup y.1 = some .cell) || decide (sc.names.lookup y.1 = some .free)))
theorem dB {env : Env} : ∀ {names : List (Str × NameKind)} {x : Str}, names.lookup x = some .cell →
  (names.map fun (n, k) => if (k == NameKind.free && env.scope.kind == .function && env.kindOf n == some .cell) then (n, NameKind.cell) else (n, k)).lookup x = some .cell
 | [], _, h => by simp at h
 | (n, k) :: r, x, h => by
  have ih := @dB env r x
  show List.lookup x ((if (k == NameKind.free && env.scope.kind == .function && env.kindOf n == some .cell) = true then (n, NameKind.cell) else (n, k)) :: _) = _
  rw [List.lookup_cons] at h
  split
  ·rw [List.lookup_cons]
   cases hx : x == n with
   | true => rfl
   | false => rw [hx] at h; exact ih h
  ·rw [List.lookup_cons]
   cases hx : x == n with
   | true => rw [hx] at h; exact h
   | false => rw [hx] at h; exact ih h
structure CompOk (sc scope : Scope) (x : Str) (ns : List Str) (cap : List Nat) (N : List Str) : Prop where
 hkind : scope.kind = .function
 hnames : ∀ y ∈ scope.names, y.2 = .local → scope.names.lookup y.1 = some .local
 hx : scope.names.lookup x = some .local ∨ scope.names.lookup x = some .cell
 hNc : (x :: ns).Nodup
 hlen : cap.length = ns.length
 hcap : ∀ (j k : Nat) (nm : Str), cap[j]? = some k → ns[j]? = some nm → N[k]? = some nm ∧ (sc.names.lookup nm = some .cell ∨ sc.names.lookup nm = some .free)
 hns : ∀ nm ∈ ns, (nm, NameKind.free) ∈ scope.names ∧ (nm, NameKind.cell) ∉ scope.names
 hnsk : ∀ nm ∈ ns, scope.names.lookup nm = some .free
 hfree : ∀ y ∈ scope.names, y.2 = .free → sc.names.lookup y.1 = some .cell ∨ sc.names.lookup y.1 = some .free
theorem j7 {sc scope : Scope} {x : Str} {ns : List Str} {cap : List Nat} {N : List Str} (h : gW sc scope x ns cap N = true) : CompOk sc scope x ns cap N := by
 unfold gW at h
 simp only [Bool.and_eq_true, Bool.or_eq_true, decide_eq_true_eq, List.all_eq_true] at h
 obtain ⟨⟨⟨⟨⟨⟨⟨h1, h2⟩, h3⟩, h4⟩, h5⟩, h6⟩, h7⟩, h8⟩ := h
 refine ⟨h1, fun y hy e => (h2 y hy).resolve_left (fun z => z e), h3, h4, h5, fun j k nm e1 e2 => ?_, fun nm hm => (h7 nm hm).1, fun nm hm => (h7 nm hm).2, fun y hy e => (h8 y hy).resolve_left (fun z => z e)⟩
 have hj : j < cap.length := (List.getElem?_eq_some_iff.mp e1).1
 have := h6 j (List.mem_range.mpr hj)
 rw [e1, e2] at this
 simpa using this
theorem pe_compA {X : Cx} {x : Str} {px pos : Pos} {iter elt : Expr} {ifs : List Expr} {scope sc : Scope} {N : List Str} (ns : List Str) (cap : List Nat) {wi : TI} {tt : TT} {te : TE} (hc : X.calm = true) (hsc : X.env.scope = sc) (hN : X.N = N) (ok : gW sc scope x ns cap N = true)
  (hi : PI X (.Name x px) iter wi)
  (ht : ∀ cs C s₀ H₀ fp, PIf (aR X scope cs C (x :: ns) s₀ H₀ fp) ifs tt) (he : ∀ cs C s₀ H₀ fp, PE (aR X scope cs C (x :: ns) s₀ H₀ fp) elt te)
  (hs : ∀ v, foldedSetIterable iter X.env v = pure v := by intro _; rfl) :
  PE X (.ListComp elt [⟨.Name x px, iter, ifs, 0⟩] scope pos) (m9 wi cap tt te) := by
 subst hsc hN
 have k := j7 ok
 refine pe_comp hc k.hkind k.hnames ?_ ?_ k.hNc k.hlen k.hcap k.hns k.hnsk k.hfree hi ht he hs
 ·rcases k.hx with z | z
  ·exact .inl (lookup_relabel_local z)
  ·exact .inr (dB z)
 ·rcases k.hx with z | z
  ·exact .inr (lookup_relabel_local z)
  ·exact .inl z
theorem tL {y : Str} {py spos : Pos} (iy : Nat) {X : Cx} {x : Str} {px pos : Pos} {iter elt : Expr} {ifs : List Expr} {scope sc : Scope} {N : List Str} (ns : List Str) (cap : List Nat) {wi : TI} {tt : TT} {te : TE} (hNd : N.Nodup) (hiy : N[iy]? = some y) (hyl : sc.names.lookup y = some .local) (hc : X.calm = true) (hsc : X.env.scope = sc) (hN : X.N = N) (ok : gW sc scope x ns cap N = true)
  (hi : PI X (.Name x px) iter wi)
  (ht : ∀ cs C s₀ H₀ fp, PIf (aR X scope cs C (x :: ns) s₀ H₀ fp) ifs tt) (he : ∀ cs C s₀ H₀ fp, PE (aR X scope cs C (x :: ns) s₀ H₀ fp) elt te)
  (hs : ∀ v, foldedSetIterable iter X.env v = pure v := by intro _; rfl)
  (hsw : swapsWith (.ListComp elt [⟨.Name x px, iter, ifs, 0⟩] scope pos) (some (.Name y py)) spos.line X.env = pure true := by rfl) :
  PS X (.Assign [.Name y py] (.ListComp elt [⟨.Name x px, iter, ifs, 0⟩] scope pos) spos) (tAsg (m9 wi cap tt te) (lN iy)) := by
 subst hsc hN
 have k := j7 ok
 refine uG hNd hiy hyl hc k.hkind k.hnames ?_ ?_ k.hNc k.hlen k.hcap k.hns k.hnsk k.hfree hi ht he hs hsw
 ·rcases k.hx with z | z
  ·exact .inl (lookup_relabel_local z)
  ·exact .inr (dB z)
 ·rcases k.hx with z | z
  ·exact .inr (lookup_relabel_local z)
  ·exact .inl z
end L2
namespace R
open PySem L2
theorem BS : bootBuiltins "str" = some (.type "str") := by decide +kernel
theorem BL : bootBuiltins "list" = some (.type "list") := by decide +kernel
theorem BAll : bootBuiltins "all" = some (.builtin "all") := by decide +kernel
theorem BMax : bootBuiltins "max" = some (.builtin "max") := by decide +kernel
structure Bn2 (mg : Str → Option Value) : Prop where
 str : mg "str" = none
 list : mg "list" = none
 all : mg "all" = none
 any : mg "any" = none
 max : mg "max" = none
 enum : mg "enumerate" = none
theorem occ_sign (c : Nat) : (!(Builtin.Str.occurrences ("#." : Str) ⟨#[c]⟩ 0 ("#." : Str).length 1).isEmpty) = (c == 35 || c == 46) := by
 by_cases h1 : c = 35
 ·subst h1; decide +kernel
 by_cases h2 : c = 46
 ·subst h2; decide +kernel
 have e : ("#." : Str) = ⟨#[35, 46]⟩ := by decide +kernel
 rw [e]
 have a0 : Builtin.Str.subAt (⟨#[35, 46]⟩ : Str) ⟨#[c]⟩ 0 = false := by
  simp [Builtin.Str.subAt, Str.length]
  omega
 have a1 : Builtin.Str.subAt (⟨#[35, 46]⟩ : Str) ⟨#[c]⟩ 1 = false := by
  simp [Builtin.Str.subAt, Str.length]
  omega
 simp [Builtin.Str.occurrences, Str.length, Std.Legacy.Range.forIn_eq_forIn_range', Std.Legacy.Range.size, List.range', a0, a1, h1, h2]
def sgn (c : Nat) : Bool := c == 35 || c == 46
def rowB (wide : Int) : V → Bool
 | .str z => decide ((z.length : Int) = wide) && z.cps.toList.all sgn
 | _ => false
theorem aU {n : Nat} (h : n ≤ 1000000) : n ≤ sizeLine := Nat.le_trans h (by decide)
abbrev Sq (K : PySem.W.Frag) (H : Hp) (a : Addr) (xs : List V) : Prop := SqL K H a xs ∨ SqT K H a xs
theorem rd_same {H H' : Hp} {a : Addr} {u : HO} (s : Same H H') (h : Rd H a u) : Rd H' a u := by
 rcases h with h | ⟨o, h⟩
 ·exact .inl (s _ _ h)
 ·exact .inr ⟨o, s _ _ h⟩
theorem seqT {K : PySem.W.Frag} {H H' : Hp} {a : Addr} {xs : List V} (s : Same H H') (h : SqT K H a xs) : SqT K H' a xs := h.imp (rd_same s) id
def fitB (us : List V) (na nb : Nat) : Bool := decide (us.length = nb - 1) && us.all (rowB ((na - 1 : Nat) : Int))
def ofL (l : List Nat) : Str := ⟨l.toArray⟩
def atS (z : Str) (j : Nat) : Nat := z.cps.getD j 0
theorem qO : ∀ (ps : List Str) (acc : Array Nat), (ps.foldl (fun acc p => acc ++ (Str.empty).cps ++ p.cps) acc).toList = acc.toList ++ (ps.map (·.cps.toList)).flatten
 | [], acc => by simp
 | p :: ps, acc => by
  rw [List.foldl_cons, qO ps]
  simp [Str.empty]
theorem join_list (ps : List Str) : (Txt.join Str.empty ps).cps.toList = (ps.map (·.cps.toList)).flatten := by
 cases ps with
 | nil => rfl
 | cons p ps =>
  show (((p :: ps).drop 1).foldl (fun acc p => acc ++ (Str.empty).cps ++ p.cps) ((p :: ps).headD Str.empty).cps).toList = _
  rw [qO]
  simp
theorem i8 (l : List Nat) : Txt.join Str.empty (l.map fun c => (⟨#[c]⟩ : Str)) = ofL l := by
 apply gH
 rw [join_list]
 simp only [ofL, List.map_map]
 induction l with
 | nil => rfl
 | cons a l ih => rw [List.map_cons, List.flatten_cons, ih]; rfl
theorem kO (l : List Nat) : (ofL l).length = l.length := by simp [ofL, Str.length]
theorem at_str {z : Str} {j : Nat} (h : j < z.length) : atI z.cps.toList (j : Int) = some (atS z j) := by
 have h' : j < z.cps.size := h
 refine eN ?_
 simp [atS, h', Array.getD]
def aF (zs : List Str) : List Str := (List.range ((zs.head?.map (·.length)).getD 0)).map fun j => ofL (zs.map (atS · j))
theorem ix_of {K : PySem.W.Frag} {H : Hp} {p : Addr} {xs : List V} {i : Int} {v : V} {Q : VK} (h : Sq K H p xs) (e : atI xs i = some v) (q : Q v H) : rIx K (.ref p) (.int i) H Q := by
 rcases h with h | h
 ·exact .inl ⟨p, xs, i, v, rfl, rfl, h, e, q⟩
 ·exact .inr (.inl ⟨p, xs, i, v, rfl, rfl, h, e, q⟩)
theorem fB : ("" : Str) = Str.empty := by decide +kernel
def dots (n : Nat) : Str := ofL (List.replicate n 46)
theorem qS (n : Nat) : repS "." n = dots n := by
 apply gH
 rw [j4]
 have e : ("." : Str).cps.toList = [46] := by decide +kernel
 rw [e]
 show _ = (List.replicate n 46)
 induction n with
 | zero => rfl
 | succ n ih => rw [List.replicate_succ, List.flatten_cons, ih, List.replicate_succ]; rfl
def framed (zs : List Str) : List Str := [dots ((zs.head?.map (·.length)).getD 0)] ++ zs ++ [dots ((zs.head?.map (·.length)).getD 0)]
def chg (zs : List Str) : List Nat := if zs.isEmpty then [] else (List.range (zs.length + 1)).filter fun i => !decide ((framed zs)[i]? = (framed zs)[i + 1]?)
theorem fJ (zs : List Str) : (framed zs).length = zs.length + 2 := by simp [framed]
theorem dI (zs : List Str) : ∀ i ∈ chg zs, i ≤ zs.length := fun i hi => by
 unfold chg at hi
 split at hi
 ·cases hi
 ·have := List.mem_range.mp (List.mem_filter.mp hi).1
  omega
theorem bV (zs : List Str) : (chg zs).Pairwise (· < ·) := by
 unfold chg
 split
 ·exact List.Pairwise.nil
 ·exact List.Pairwise.filter _ List.pairwise_lt_range
theorem chg_len (zs : List Str) : (chg zs).length ≤ zs.length + 1 := by
 unfold chg
 split
 ·simp
 ·exact Nat.le_trans (List.length_filter_le _ _) (by simp)
theorem iB {l : List Nat} {n : Nat} (h : l.Pairwise (· < ·)) (b : ∀ i ∈ l, i ≤ n) : ∀ i ∈ l.dropLast, i < n := fun i hi => by
 have hne : l ≠ [] := fun e => by rw [e] at hi; cases hi
 have e := List.dropLast_concat_getLast hne
 rw [← e] at h
 have h1 := (List.pairwise_append.mp h).2.2 i hi (l.getLast hne) (by simp)
 have h2 := b _ (List.getLast_mem hne)
 omega
theorem nF (zs : List Str) (h : chg zs ≠ []) : zs ≠ [] := fun e => h (by rw [e]; rfl)
def bX (zs : List Str) : List Str := (chg zs).dropLast.map fun i => ofL ((chg (aF zs)).dropLast.map (atS (zs.getD i Str.empty)))
theorem lA {zs : List Str} {n : Nat} (h : ∀ z ∈ zs, z.length = n) : (aF zs).length ≤ n ∧ (zs ≠ [] → (aF zs).length = n) := by
 unfold aF
 rw [List.length_map, List.length_range]
 cases zs with
 | nil => exact ⟨Nat.zero_le _, fun e => absurd rfl e⟩
 | cons z zr =>
  have := h z (by simp)
  exact ⟨by show z.length ≤ n; omega, fun _ => this⟩
theorem cJ {zs : List Str} : ∀ z ∈ aF zs, z.length = zs.length := fun z hz => by
 obtain ⟨j, _, rfl⟩ := List.mem_map.mp hz
 rw [kO, List.length_map]
structure KnL (K : PySem.W.Frag) (H : Hp) (v : V) : Prop where
 kn : Kn K H v
 each : ∀ a xs, v = .ref a → H a = some (.lst xs) → ∀ x ∈ xs, Kn K H x
end R
namespace L2
open PySem PySem.Spec PyProof.Rows
section
variable {X : Cx}
end
end L2
namespace L2
open PySem PySem.Spec PyProof.Rows
section
variable {X : Cx}
end
end L2
namespace L2
open PySem PySem.Spec PyProof.Rows
def selfV : V → Bool
 | .ref _ => true
 | .non => true
 | .bl _ => true
 | .int _ => true
 | .str _ => true
 | _ => false
theorem pV {xs : List V} {us : List Value} (r : Vals xs us) {j : Nat} (h : j < us.toArray.size) : ∃ x, xs[j]? = some x ∧ RelV x us.toArray[j] := by
 have l := r.length
 rw [List.size_toArray] at h
 have g : xs[j]? = some (xs[j]'(by omega)) := by simp
 obtain ⟨u, eu, ru⟩ := r.get g
 refine ⟨_, g, ?_⟩
 have : us.toArray[j] = u := by
  rw [List.getElem?_eq_getElem h] at eu
  simpa using eu
 rw [this]
 exact ru
theorem n6 (n : Nat) : ((List.range n).all fun _ => true) = true := List.all_eq_true.mpr fun _ _ => rfl
inductive Alike (K : PySem.W.Frag) (H : Hp) : V → V → Prop
 | one {v : V} (h : selfV v = true) : Alike K H v v
 | lists {a b : Addr} {xs : List V} (ha : SqL K H a xs) (hb : SqL K H b xs) (h : xs.all selfV = true) : Alike K H (.ref a) (.ref b)
section
variable {X : Cx}
end
end L2
namespace L2
open PySem PySem.Spec PyProof.Rows
section
variable {X : Cx} {o e : Expr} {es : List Expr} {to : TE} {t : TA} {name : Str} {apos cpos : Pos} {T id : String} {r : V → List V → Hp → VK → Prop}
end
end L2
namespace Z
open PySem L2
inductive D where
 | non | bl (b : Bool) | int (i : Int) | str (x : Str) | mt (a : Addr) | tup (ds : List D) | lst (ds : List D) | fl (ds : List D) | st (ks : List (List Int))
abbrev Fg := PySem.W.Frag
def hashT (k : List Int) : Int := reduceHash (Builtin.Tuple.tupleHashOf (k.map hashInt))
def entS (p : List Int × Addr) : DictEntry := { hash := hashT p.1, key := .ref p.2, val := .bool true }
def DSt (a : Addr) (xs : List (List Int × Addr)) (ep : Nat) (h : Heap) : Prop := (a == sysModules) = false ∧ ∃ o, h.get? a = some o ∧ o.ExactDict ∧ o.data = .dict (xs.map entS).toArray ep
structure StO (K : Fg) (G : Hp) (o : Option HO) (a : Addr) (ks : List (List Int)) (xs : List (List Int × Addr)) (ep : Nat) : Prop where
 nd : ks.Nodup
 len : ks.length ≤ sizeLine
 keys : xs.map (·.1) = ks
 at_ : ∀ p ∈ xs, SqT K G p.2 (p.1.map V.int)
 ob : o = some (.ext (DSt a xs ep))
theorem StO.mv {K : Fg} {G G' : Hp} {o o' : Option HO} {a : Addr} {ks : List (List Int)} {xs : List (List Int × Addr)} {ep : Nat} (h : StO K G o a ks xs ep) (s : Same G G') (e : o' = o) : StO K G' o' a ks xs ep :=
 ⟨h.nd, h.len, h.keys, fun p hp => R.seqT s (h.at_ p hp), e.trans h.ob⟩
mutual
def Den (K : Fg) (G : Hp) : D → V → Prop
 | .non, v => v = .non
 | .bl b, v => v = .bl b
 | .int i, v => v = .int i
 | .str x, v => v = .str x
 | .mt a, v => v = .ref a
 | .tup ds, v => ∃ a vs, v = .ref a ∧ SqT K G a vs ∧ Dens K G ds vs
 | .lst ds, v => ∃ a vs, v = .ref a ∧ G a = some (.lst vs) ∧ Dens K G ds vs
 | .fl ds, v => ∃ a vs, v = .ref a ∧ SqL K G a vs ∧ Dens K G ds vs
 | .st ks, v => ∃ a xs ep, v = .ref a ∧ StO K G (G a) a ks xs ep
def Dens (K : Fg) (G : Hp) : List D → List V → Prop
 | [], vs => vs = []
 | d :: ds, vs => ∃ v r, vs = v :: r ∧ Den K G d v ∧ Dens K G ds r
end
mutual
theorem Den.mono {K : Fg} {G G' : Hp} (s : Same G G') : ∀ (d : D) {v : V}, Den K G d v → Den K G' d v
 | .non, _, h => by simp only [Den] at h ⊢; exact h
 | .bl _, _, h => by simp only [Den] at h ⊢; exact h
 | .int _, _, h => by simp only [Den] at h ⊢; exact h
 | .str _, _, h => by simp only [Den] at h ⊢; exact h
 | .mt _, _, h => by simp only [Den] at h ⊢; exact h
 | .tup ds, _, h => by
  simp only [Den] at h ⊢
  obtain ⟨a, vs, e, q, r⟩ := h
  exact ⟨a, vs, e, R.seqT s q, Dens.mono s ds r⟩
 | .lst ds, _, h => by
  simp only [Den] at h ⊢
  obtain ⟨a, vs, e, q, r⟩ := h
  exact ⟨a, vs, e, s _ _ q, Dens.mono s ds r⟩
 | .fl ds, _, h => by
  simp only [Den] at h ⊢
  obtain ⟨a, vs, e, q, r⟩ := h
  exact ⟨a, vs, e, s.seq q, Dens.mono s ds r⟩
 | .st ks, _, h => by
  simp only [Den] at h ⊢
  obtain ⟨a, xs, ep, e, q⟩ := h
  exact ⟨a, xs, ep, e, q.mv s ((s _ _ q.ob).trans q.ob.symm)⟩
theorem Dens.mono {K : Fg} {G G' : Hp} (s : Same G G') : ∀ (ds : List D) {vs : List V}, Dens K G ds vs → Dens K G' ds vs
 | [], _, h => by simp only [Dens] at h ⊢; exact h
 | d :: ds, _, h => by
  simp only [Dens] at h ⊢
  obtain ⟨v, r, e, h1, h2⟩ := h
  exact ⟨v, r, e, Den.mono s d h1, Dens.mono s ds h2⟩
end
theorem Den.up {K : Fg} {G G' : Hp} {d : D} {v : V} (h : Den K G d v) (s : Same G G') : Den K G' d v := Den.mono s d h
theorem Dens.up {K : Fg} {G G' : Hp} {ds : List D} {vs : List V} (h : Dens K G ds vs) (s : Same G G') : Dens K G' ds vs := Dens.mono s ds h
theorem cF {K : Fg} {G : Hp} : Dens K G [] [] := by simp only [Dens]
theorem bZ {K : Fg} {G : Hp} {d : D} {v : V} {ds : List D} {vs : List V} (h : Den K G d v) (r : Dens K G ds vs) : Dens K G (d :: ds) (v :: vs) := by
 simp only [Dens]; exact ⟨v, vs, rfl, h, r⟩
theorem bU {K : Fg} {G : Hp} {d : D} {ds : List D} {vs : List V} (h : Dens K G (d :: ds) vs) : ∃ v r, vs = v :: r ∧ Den K G d v ∧ Dens K G ds r := by simp only [Dens] at h; exact h
theorem b8 {K : Fg} {G : Hp} {vs : List V} (h : Dens K G [] vs) : vs = [] := by simp only [Dens] at h; exact h
theorem Dens.len {K : Fg} {G : Hp} : ∀ {ds : List D} {vs : List V}, Dens K G ds vs → ds.length = vs.length
 | [], _, h => by rw [b8 h]; rfl
 | d :: ds, _, h => by
  obtain ⟨v, r, rfl, _, h2⟩ := bU h
  rw [List.length_cons, List.length_cons, Dens.len h2]
theorem Dens.get {K : Fg} {G : Hp} : ∀ {ds : List D} {vs : List V} {i : Nat} {d : D}, Dens K G ds vs → ds[i]? = some d → ∃ v, vs[i]? = some v ∧ Den K G d v
 | [], _, _, _, _, e => by simp at e
 | d0 :: ds, _, 0, d, h, e => by
  obtain ⟨v, r, rfl, h1, _⟩ := bU h
  simp at e; subst e
  exact ⟨v, rfl, h1⟩
 | d0 :: ds, _, i + 1, d, h, e => by
  obtain ⟨v, r, rfl, _, h2⟩ := bU h
  obtain ⟨u, a, b⟩ := Dens.get (i := i) h2 (by simpa using e)
  exact ⟨u, by simpa using a, b⟩
theorem Dens.get' {K : Fg} {G : Hp} : ∀ {ds : List D} {vs : List V} {i : Nat} {v : V}, Dens K G ds vs → vs[i]? = some v → ∃ d, ds[i]? = some d ∧ Den K G d v := fun {ds vs i v} h e => by
 have hi : i < vs.length := (List.getElem?_eq_some_iff.mp e).1
 rw [← h.len] at hi
 have e2 : ds[i]? = some ds[i] := by simp [hi]
 obtain ⟨u, a, b⟩ := h.get e2
 rw [e] at a; cases a
 exact ⟨_, e2, b⟩
theorem Dens.append {K : Fg} {G : Hp} : ∀ {ds es : List D} {vs ws : List V}, Dens K G ds vs → Dens K G es ws → Dens K G (ds ++ es) (vs ++ ws)
 | [], _, _, _, h, r => by rw [b8 h]; exact r
 | d :: ds, _, _, _, h, r => by
  obtain ⟨v, t, rfl, h1, h2⟩ := bU h
  exact bZ h1 (Dens.append h2 r)
theorem Dens.take {K : Fg} {G : Hp} : ∀ {ds : List D} {vs : List V} (n : Nat), Dens K G ds vs → Dens K G (ds.take n) (vs.take n)
 | _, _, 0, _ => by simp only [List.take_zero]; exact cF
 | [], _, n + 1, h => by rw [b8 h]; exact cF
 | d :: ds, _, n + 1, h => by
  obtain ⟨v, t, rfl, h1, h2⟩ := bU h
  exact bZ h1 (Dens.take n h2)
theorem Dens.drop {K : Fg} {G : Hp} : ∀ {ds : List D} {vs : List V} (n : Nat), Dens K G ds vs → Dens K G (ds.drop n) (vs.drop n)
 | _, _, 0, h => h
 | [], _, n + 1, h => by rw [b8 h]; exact cF
 | d :: ds, _, n + 1, h => by
  obtain ⟨v, t, rfl, h1, h2⟩ := bU h
  exact Dens.drop n h2
theorem Dens.reverse {K : Fg} {G : Hp} : ∀ {ds : List D} {vs : List V}, Dens K G ds vs → Dens K G ds.reverse vs.reverse
 | [], _, h => by rw [b8 h]; exact cF
 | d :: ds, _, h => by
  obtain ⟨v, t, rfl, h1, h2⟩ := bU h
  rw [List.reverse_cons, List.reverse_cons]
  exact (Dens.reverse h2).append (bZ h1 cF)
theorem Dens.set {K : Fg} {G : Hp} {d : D} {v : V} (e : Den K G d v) : ∀ {ds : List D} {vs : List V} (i : Nat), Dens K G ds vs → Dens K G (ds.set i d) (vs.set i v)
 | [], _, _, h => by rw [b8 h]; exact cF
 | d0 :: ds, _, 0, h => by
  obtain ⟨u, t, rfl, h1, h2⟩ := bU h
  exact bZ e h2
 | d0 :: ds, _, i + 1, h => by
  obtain ⟨u, t, rfl, h1, h2⟩ := bU h
  exact bZ h1 (Dens.set e i h2)
theorem Dens.atI {K : Fg} {G : Hp} {ds : List D} {vs : List V} {i : Int} {d : D} (h : Dens K G ds vs) (e : atI ds i = some d) : ∃ v, L2.atI vs i = some v ∧ Den K G d v := by
 unfold L2.atI at e ⊢
 rw [← h.len]
 cases hj : ixN ds.length i with
 | none => rw [hj] at e; cases e
 | some j =>
  rw [hj] at e
  exact h.get e
inductive MO where
 | lst (ds : List D)
 | st (ks : List (List Int))
abbrev Mem := Addr → Option MO
def updM (M : Mem) (a : Addr) (o : MO) : Mem := fun b => if b = a then some o else M b
def delM (M : Mem) (a : Addr) : Mem := fun b => if b = a then none else M b
theorem bK {M : Mem} {a : Addr} {o : MO} : updM M a o a = some o := by unfold updM; rw [if_pos rfl]
theorem dE {M : Mem} {a b : Addr} {o : MO} (h : b ≠ a) : updM M a o b = M b := by unfold updM; rw [if_neg h]
theorem updM_updM {M : Mem} {a : Addr} {o u : MO} : updM (updM M a o) a u = updM M a u := by
 funext b; unfold updM; split <;> rfl
theorem delM_same {M : Mem} {a : Addr} : delM M a a = none := by unfold delM; rw [if_pos rfl]
theorem kI {M : Mem} {a b : Addr} (h : b ≠ a) : delM M a b = M b := by unfold delM; rw [if_neg h]
def Le (M M' : Mem) : Prop := ∀ a o, M a = some o → M' a = some o
theorem Le.refl (M : Mem) : Le M M := fun _ _ h => h
theorem Le.upd {M M' : Mem} {a : Addr} {o : MO} (h : Le M M') (n : M a = none) : Le M (updM M' a o) := fun b u e => by
 rw [dE (fun z => by rw [z, n] at e; cases e)]; exact h b u e
def MOk (K : Fg) (G H : Hp) (a : Addr) : MO → Prop
 | .lst ds => ∃ vs, H a = some (.lst vs) ∧ Dens K G ds vs
 | .st ks => ∃ xs ep, StO K G (H a) a ks xs ep
theorem MOk.mv {K : Fg} {G G' H H' : Hp} {a : Addr} {m : MO} (h : MOk K G H a m) (s : Same G G') (e : H' a = H a) : MOk K G' H' a m := by
 cases m with
 | lst ds => obtain ⟨vs, e1, e2⟩ := h; exact ⟨vs, e.trans e1, e2.up s⟩
 | st ks => obtain ⟨xs, ep, q⟩ := h; exact ⟨xs, ep, q.mv s e⟩
structure Rel (K : Fg) (G H : Hp) (M : Mem) : Prop where
 same : Same G H
 mem : ∀ a o, M a = some o → G a = none ∧ MOk K G H a o
structure Stp (K : Fg) (G H : Hp) (M : Mem) (G' H' : Hp) (M' : Mem) : Prop where
 gg : Same G G'
 rel : Rel K G' H' M'
 fr : ∀ a o, H a = some o → G a = none → M a = none → H' a = some o ∧ G' a = none ∧ M' a = none
theorem Stp.refl {K : Fg} {G H : Hp} {M : Mem} (r : Rel K G H M) : Stp K G H M G H M := ⟨Same.refl G, r, fun _ _ h h1 h2 => ⟨h, h1, h2⟩⟩
theorem Stp.trans {K : Fg} {G H G1 H1 G2 H2 : Hp} {M M1 M2 : Mem} (a : Stp K G H M G1 H1 M1) (b : Stp K G1 H1 M1 G2 H2 M2) : Stp K G H M G2 H2 M2 :=
 ⟨a.gg.trans b.gg, b.rel, fun c o h h1 h2 => let ⟨x, y, z⟩ := a.fr c o h h1 h2; b.fr c o x y z⟩
theorem Rel.le {K : Fg} {G H : Hp} {M M' : Mem} (r : Rel K G H M) (l : Le M' M) : Rel K G H M' := ⟨r.same, fun a o h => r.mem a o (l a o h)⟩
theorem Rel.got {K : Fg} {G H : Hp} {M : Mem} {a : Addr} {o : MO} (r : Rel K G H M) (h : M a = some o) : ∃ u, H a = some u := by
 cases o with
 | lst ds => obtain ⟨_, vs, e, _⟩ := r.mem a _ h; exact ⟨_, e⟩
 | st ks => obtain ⟨_, xs, ep, q⟩ := r.mem a _ h; exact ⟨_, q.ob⟩
theorem Rel.free {K : Fg} {G H : Hp} {M : Mem} {p : Addr} (r : Rel K G H M) (h : H p = none) : G p = none ∧ M p = none := by
 refine ⟨r.same.free h, ?_⟩
 cases e : M p with
 | none => rfl
 | some o => obtain ⟨u, q⟩ := r.got e; rw [h] at q; cases q
theorem Rel.new {K : Fg} {G H : Hp} {M : Mem} {p : Addr} {o : HO} (r : Rel K G H M) (h : H p = none) : Stp K G H M (upd G p o) (upd H p o) M := by
 have hG := (r.free h).1
 have s1 : Same G (upd G p o) := qH hG
 refine ⟨s1, ⟨fun b u e => ?_, fun a m e => ?_⟩, fun a u e1 e2 e3 => ?_⟩
 ·by_cases z : b = p
  ·subst z; rw [bG] at e ⊢; exact e
  ·rw [aW z] at e ⊢; exact r.same b u e
 ·obtain ⟨u, q⟩ := r.got e
  have z : a ≠ p := bH q h
  refine ⟨by rw [aW z]; exact (r.mem a m e).1, ?_⟩
  exact (r.mem a m e).2.mv s1 (aW z)
 ·have z : a ≠ p := bH e1 h
  exact ⟨by rw [aW z]; exact e1, by rw [aW z]; exact e2, e3⟩
theorem Rel.newM {K : Fg} {G H : Hp} {M : Mem} {p : Addr} {vs : List V} {ds : List D} (r : Rel K G H M) (h : H p = none) (e : Dens K G ds vs) : Stp K G H M G (upd H p (.lst vs)) (updM M p (.lst ds)) := by
 have hG := (r.free h).1
 refine ⟨Same.refl G, ⟨fun b u q => ?_, fun a m q => ?_⟩, fun a u e1 e2 e3 => ?_⟩
 ·rw [aW (bH q hG)]; exact r.same b u q
 ·by_cases z : a = p
  ·subst z
   rw [bK] at q; cases q
   exact ⟨hG, vs, bG, e⟩
  ·rw [dE z] at q
   refine ⟨(r.mem a m q).1, ?_⟩
   exact (r.mem a m q).2.mv (Same.refl G) (aW z)
 ·have z : a ≠ p := bH e1 h
  exact ⟨by rw [aW z]; exact e1, e2, by rw [dE z]; exact e3⟩
theorem Rel.wr {K : Fg} {G H : Hp} {M : Mem} {p : Addr} {vs : List V} {ds : List D} {o : MO} (r : Rel K G H M) (h : M p = some o) (e : Dens K G ds vs) : Stp K G H M G (upd H p (.lst vs)) (updM M p (.lst ds)) := by
 have hG := (r.mem p _ h).1
 refine ⟨Same.refl G, ⟨fun b u q => ?_, fun a m q => ?_⟩, fun a u e1 e2 e3 => ?_⟩
 ·rw [aW (bH q hG)]; exact r.same b u q
 ·by_cases z : a = p
  ·subst z
   rw [bK] at q; cases q
   exact ⟨hG, vs, bG, e⟩
  ·rw [dE z] at q
   refine ⟨(r.mem a m q).1, ?_⟩
   exact (r.mem a m q).2.mv (Same.refl G) (aW z)
 ·have z : a ≠ p := fun z => by rw [z, h] at e3; cases e3
  exact ⟨by rw [aW z]; exact e1, e2, by rw [dE z]; exact e3⟩
theorem Rel.frz {K : Fg} {G H : Hp} {M : Mem} {a : Addr} {ds : List D} (r : Rel K G H M) (h : M a = some (.lst ds)) : ∃ vs, H a = some (.lst vs) ∧ Dens K G ds vs ∧ Stp K G H M (upd G a (.lst vs)) H (delM M a) := by
 obtain ⟨hG, vs, e, q⟩ := r.mem a _ h
 have s1 : Same G (upd G a (.lst vs)) := qH hG
 refine ⟨vs, e, q, s1, ⟨fun b u z => ?_, fun b m z => ?_⟩, fun b u e1 e2 e3 => ?_⟩
 ·by_cases y : b = a
  ·subst y; rw [bG] at z; cases z; exact e
  ·rw [aW y] at z; exact r.same b u z
 ·by_cases y : b = a
  ·subst y; rw [delM_same] at z; cases z
  ·rw [kI y] at z
   refine ⟨by rw [aW y]; exact (r.mem b m z).1, ?_⟩
   exact (r.mem b m z).2.mv s1 rfl
 ·have y : b ≠ a := fun y => by rw [y, h] at e3; cases e3
  exact ⟨e1, by rw [aW y]; exact e2, by rw [kI y]; exact e3⟩
theorem Rel.drop {K : Fg} {G H : Hp} {M M' : Mem} (r : Rel K G H M) (l : Le M' M) : Stp K G H M G H M' :=
 ⟨Same.refl G, r.le l, fun a o h1 h2 h3 => ⟨h1, h2, by
  cases e : M' a with
  | none => rfl
  | some u => rw [l a u e] at h3; cases h3⟩⟩
abbrev Gm := List (Option D)
structure EnvR (K : Fg) (G : Hp) (Γ : Gm) (σ : St) : Prop where
 len : Γ.length = σ.length
 get : ∀ (i : Nat) (d : D), Γ[i]? = some (some d) → ∃ v, σ[i]? = some (some v) ∧ Den K G d v
theorem EnvR.up {K : Fg} {G G' : Hp} {Γ : Gm} {σ : St} (h : EnvR K G Γ σ) (s : Same G G') : EnvR K G' Γ σ :=
 ⟨h.len, fun i d e => let ⟨v, a, b⟩ := h.get i d e; ⟨v, a, b.up s⟩⟩
theorem EnvR.set {K : Fg} {G : Hp} {Γ : Gm} {σ : St} (h : EnvR K G Γ σ) {d : D} {v : V} (e : Den K G d v) (i : Nat) : EnvR K G (Γ.set i (some d)) (σ.set i (some v)) := by
 refine ⟨by rw [List.length_set, List.length_set, h.len], fun j c q => ?_⟩
 rw [List.getElem?_set] at q ⊢
 by_cases z : i = j
 ·rw [if_pos z] at q ⊢
  split at q
  ·rename_i hl
   rw [if_pos (by rw [← h.len]; exact hl)]
   cases q
   exact ⟨v, rfl, e⟩
  ·cases q
 ·rw [if_neg z] at q ⊢
  exact h.get j c q
theorem EnvR.start {K : Fg} {G : Hp} {ds : List D} {vs : List V} (h : Dens K G ds vs) (n : Nat) : EnvR K G (ds.map some ++ List.replicate (n - ds.length) none) (vs.map some ++ List.replicate (n - vs.length) none) := by
 have hl := h.len
 refine ⟨by simp [hl], fun i d e => ?_⟩
 by_cases hi : i < ds.length
 ·rw [List.getElem?_append_left (by simpa using hi), List.getElem?_map] at e
  rw [List.getElem?_append_left (by simp; omega), List.getElem?_map]
  cases q : ds[i]? with
  | none => rw [q] at e; cases e
  | some c =>
   rw [q] at e; cases e
   obtain ⟨v, a, b⟩ := h.get q
   exact ⟨v, by rw [a]; rfl, b⟩
 ·rw [List.getElem?_append_right (by simpa using hi), List.getElem?_replicate] at e
  split at e <;> cases e
def tU (X : Cx) (e : Expr) : TE := fun σ H Q => ∀ pins s, Inv X pins σ H s → wpAny (model X.prog X.w) X.A (eval e X.env) (EP X pins σ Q) X.xe s
theorem pU {X : Cx} {e : Expr} : PE X e (tU X e) := fun pins s σ H Q I h => h pins s I
theorem bW {X : Cx} {e : Expr} {t : TE} (p : PE X e t) {σ : St} {H : Hp} {Q : VK} (h : t σ H Q) : tU X e σ H Q := fun pins s I => p pins s σ H Q I h
def tUT (X : Cx) (e : Expr) : TT := fun σ H Q => ∀ pins s, Inv X pins σ H s → wpAny (model X.prog X.w) X.A (isTrue e X.env (eval e X.env)) (TP X pins σ Q) X.xe s
theorem pUT {X : Cx} {e : Expr} : PT X e (tUT X e) := fun pins s σ H Q I h => h pins s I
theorem oR {X : Cx} {e : Expr} {t : TT} (p : PT X e t) {σ : St} {H : Hp} {Q : Bool → Hp → Prop} (h : t σ H Q) : tUT X e σ H Q := fun pins s I => p pins s σ H Q I h
def tUW (X : Cx) (e : Expr) : TT := fun σ H Q => ∀ whole pins s, Inv X pins σ H s → wpAny (model X.prog X.w) X.A (isTrue e X.env whole) (TP X pins σ Q) X.xe s
theorem pUW {X : Cx} {e : Expr} : PW X e (tUW X e) := fun whole pins s σ H Q I h => h whole pins s I
theorem oP {X : Cx} {e : Expr} {t : TT} (p : PW X e t) {σ : St} {H : Hp} {Q : Bool → Hp → Prop} (h : t σ H Q) : tUW X e σ H Q := fun whole pins s I => p whole pins s σ H Q I h
def tUA (X : Cx) (es : List Expr) : TA := fun σ H Q => ∀ pos pins s, Inv X pins σ H s → wpAny (model X.prog X.w) X.A (spliced (backTo pos (starEach es X.env))) (AP X pins σ Q) X.xe s
theorem pUA {X : Cx} {es : List Expr} : PA X es (tUA X es) := fun pos pins s σ H Q I h => h pos pins s I
theorem tUA_of {X : Cx} {es : List Expr} {t : TA} (p : PA X es t) {σ : St} {H : Hp} {Q : List V → Hp → Prop} (h : t σ H Q) : tUA X es σ H Q := fun pos pins s I => p pos pins s σ H Q I h
def tUS (X : Cx) (st : Stmt) : TS := fun E σ H => ∀ pins s, Inv X pins σ H s → wpAny (model X.prog X.w) X.A (exec st X.env) (SP X pins E) X.xe s
theorem pUS {X : Cx} {st : Stmt} : PS X st (tUS X st) := fun pins s σ H E I h => h pins s I
theorem gU {X : Cx} {st : Stmt} {t : TS} (p : PS X st t) {σ : St} {H : Hp} {E : Ends} (h : t E σ H) : tUS X st E σ H := fun pins s I => p pins s σ H E I h
def tUSs (X : Cx) (st : List Stmt) : TS := fun E σ H => ∀ pins s, Inv X pins σ H s → wpAny (model X.prog X.w) X.A (execs st X.env) (SP X pins E) X.xe s
theorem pUSs {X : Cx} {st : List Stmt} : PSs X st (tUSs X st) := fun pins s σ H E I h => h pins s I
theorem pT {X : Cx} {st : List Stmt} {t : TS} (p : PSs X st t) {σ : St} {H : Hp} {E : Ends} (h : t E σ H) : tUSs X st E σ H := fun pins s I => p pins s σ H E I h
def tUG (X : Cx) (tg : Expr) : TG := fun v σ H Q => ∀ pins s u, Inv X pins σ H s → RelV v u → wpAny (model X.prog X.w) X.A (assign tg X.env u) (fun _ s' => ∃ σ' H', Inv X pins σ' H' s' ∧ Q σ' H') X.xe s
theorem pUG {X : Cx} {tg : Expr} : PG X tg (tUG X tg) := fun pins s σ H v u Q I r h => h pins s u I r
theorem tUG_of {X : Cx} {tg : Expr} {t : TG} (p : PG X tg t) {v : V} {σ : St} {H : Hp} {Q : St → Hp → Prop} (h : t v σ H Q) : tUG X tg v σ H Q := fun pins s u I r => p pins s σ H v u Q I r h
def tUGs (X : Cx) (tg : List Expr) : TGs := fun vs σ H Q => ∀ pins s us, Inv X pins σ H s → Vals vs us → wpAny (model X.prog X.w) X.A (assignInOrder ((assignEach tg X.env).map (·.2)) us) (fun _ s' => ∃ σ' H', Inv X pins σ' H' s' ∧ Q σ' H') X.xe s
theorem pUGs {X : Cx} {tg : List Expr} : PGs X tg (tUGs X tg) := fun pins s σ H vs us Q I r h => h pins s us I r
theorem tUGs_of {X : Cx} {tg : List Expr} {t : TGs} (p : PGs X tg t) {vs : List V} {σ : St} {H : Hp} {Q : St → Hp → Prop} (h : t vs σ H Q) : tUGs X tg vs σ H Q := fun pins s us I r => p pins s σ H vs us Q I r h
def tUI (X : Cx) (tg iter : Expr) : TI := fun σ H R => ∀ pins s, Inv X pins σ H s → wpAny (model X.prog X.w) X.A (eval iter X.env) (fun v s1 => wpAny (model X.prog X.w) X.A (pyIter v) (PIE X pins σ tg R) X.xe s1) X.xe s
theorem pUI {X : Cx} {tg iter : Expr} : PI X tg iter (tUI X tg iter) := fun pins s σ H R I h => h pins s I
theorem jK {X : Cx} {tg iter : Expr} {t : TI} (p : PI X tg iter t) {σ : St} {H : Hp} {R : It → Hp → Prop} (h : t σ H R) : tUI X tg iter σ H R := fun pins s I => p pins s σ H R I h
def Cont (K : Fg) (M : Mem) (k : D → Mem → Prop) (G H : Hp) (Q : VK) : Prop := ∀ v G' H' d M', Stp K G H M G' H' M' → Den K G' d v → k d M' → Q v H'
def GE (X : Cx) (e : Expr) (Γ : Gm) (M : Mem) (k : D → Mem → Prop) : Prop :=
 ∀ σ G H Q, EnvR X.K G Γ σ → Rel X.K G H M → Cont X.K M k G H Q → tU X e σ H Q
def m6 (K : Fg) (M : Mem) (k : Bool → Mem → Prop) (G H : Hp) (Q : Bool → Hp → Prop) : Prop := ∀ b G' H' M', Stp K G H M G' H' M' → k b M' → Q b H'
def GT (X : Cx) (e : Expr) (Γ : Gm) (M : Mem) (k : Bool → Mem → Prop) : Prop :=
 ∀ σ G H Q, EnvR X.K G Γ σ → Rel X.K G H M → m6 X.K M k G H Q → tUT X e σ H Q
def GW (X : Cx) (e : Expr) (Γ : Gm) (M : Mem) (k : Bool → Mem → Prop) : Prop :=
 ∀ σ G H Q, EnvR X.K G Γ σ → Rel X.K G H M → m6 X.K M k G H Q → tUW X e σ H Q
def GA (X : Cx) (es : List Expr) (Γ : Gm) (M : Mem) (k : List D → Mem → Prop) : Prop :=
 ∀ σ G H Q, EnvR X.K G Γ σ → Rel X.K G H M → (∀ vs G' H' ds M', Stp X.K G H M G' H' M' → Dens X.K G' ds vs → k ds M' → Q vs H') → tUA X es σ H Q
def j5 (K : Fg) (M : Mem) (k : Gm → Mem → Prop) (G H : Hp) (Q : St → Hp → Prop) : Prop := ∀ σ' G' H' Γ' M', Stp K G H M G' H' M' → EnvR K G' Γ' σ' → k Γ' M' → Q σ' H'
def GG (X : Cx) (tg : Expr) (d : D) (Γ : Gm) (M : Mem) (k : Gm → Mem → Prop) : Prop :=
 ∀ σ G H v Q, EnvR X.K G Γ σ → Rel X.K G H M → Den X.K G d v → j5 X.K M k G H Q → tUG X tg v σ H Q
def GGs (X : Cx) (tgs : List Expr) (ds : List D) (Γ : Gm) (M : Mem) (k : Gm → Mem → Prop) : Prop :=
 ∀ σ G H vs Q, EnvR X.K G Γ σ → Rel X.K G H M → Dens X.K G ds vs → j5 X.K M k G H Q → tUGs X tgs vs σ H Q
structure Fin where
 nx : Gm → Mem → Prop
 rt : D → Mem → Prop
 bk : Gm → Mem → Prop := fun _ _ => False
 ct : Gm → Mem → Prop := fun _ _ => False
structure EndsOk (K : Fg) (G H : Hp) (M : Mem) (F : Fin) (E : Ends) : Prop where
 nx : j5 K M F.nx G H E.nx
 rt : Cont K M F.rt G H E.rt
 bk : j5 K M F.bk G H E.bk
 ct : j5 K M F.ct G H E.ct
theorem Cont.up {K : Fg} {M M1 : Mem} {k : D → Mem → Prop} {G H G1 H1 : Hp} {Q : VK} (c : Cont K M k G H Q) (s : Stp K G H M G1 H1 M1) : Cont K M1 k G1 H1 Q := fun v G' H' d M' s' => c v G' H' d M' (s.trans s')
theorem j5.up {K : Fg} {M M1 : Mem} {k : Gm → Mem → Prop} {G H G1 H1 : Hp} {Q : St → Hp → Prop} (c : j5 K M k G H Q) (s : Stp K G H M G1 H1 M1) : j5 K M1 k G1 H1 Q := fun v G' H' d M' s' => c v G' H' d M' (s.trans s')
theorem m6.up {K : Fg} {M M1 : Mem} {k : Bool → Mem → Prop} {G H G1 H1 : Hp} {Q : Bool → Hp → Prop} (c : m6 K M k G H Q) (s : Stp K G H M G1 H1 M1) : m6 K M1 k G1 H1 Q := fun v G' H' M' s' => c v G' H' M' (s.trans s')
theorem EndsOk.up {K : Fg} {M M1 : Mem} {F : Fin} {E : Ends} {G H G1 H1 : Hp} (c : EndsOk K G H M F E) (s : Stp K G H M G1 H1 M1) : EndsOk K G1 H1 M1 F E := ⟨c.nx.up s, c.rt.up s, c.bk.up s, c.ct.up s⟩
def GS (X : Cx) (ss : List Stmt) (Γ : Gm) (M : Mem) (F : Fin) : Prop :=
 ∀ σ G H E, EnvR X.K G Γ σ → Rel X.K G H M → EndsOk X.K G H M F E → tUSs X ss E σ H
def G1 (X : Cx) (st : Stmt) (Γ : Gm) (M : Mem) (F : Fin) : Prop :=
 ∀ σ G H E, EnvR X.K G Γ σ → Rel X.K G H M → EndsOk X.K G H M F E → tUS X st E σ H
end Z
namespace Z
open PySem L2
section
variable {K : Fg} {G H : Hp} {M : Mem}
theorem cU {i : Int} : Den K G (.int i) (.int i) := by simp only [Den]
theorem cT {i : Bool} : Den K G (.bl i) (.bl i) := by simp only [Den]
theorem fM {i : Str} : Den K G (.str i) (.str i) := by simp only [Den]
theorem den_non : Den K G .non .non := by simp only [Den]
theorem den_mt {a : Addr} : Den K G (.mt a) (.ref a) := by simp only [Den]
theorem gF {a : Addr} {vs : List V} {ds : List D} (h : SqT K G a vs) (r : Dens K G ds vs) : Den K G (.tup ds) (.ref a) := by simp only [Den]; exact ⟨a, vs, rfl, h, r⟩
theorem gE {a : Addr} {vs : List V} {ds : List D} (h : G a = some (.lst vs)) (r : Dens K G ds vs) : Den K G (.lst ds) (.ref a) := by simp only [Den]; exact ⟨a, vs, rfl, h, r⟩
theorem den_fl {a : Addr} {vs : List V} {ds : List D} (h : SqL K G a vs) (r : Dens K G ds vs) : Den K G (.fl ds) (.ref a) := by simp only [Den]; exact ⟨a, vs, rfl, h, r⟩
theorem Den.int_ {i : Int} {v : V} (h : Den K G (.int i) v) : v = .int i := by simp only [Den] at h; exact h
theorem Den.bl_ {i : Bool} {v : V} (h : Den K G (.bl i) v) : v = .bl i := by simp only [Den] at h; exact h
theorem Den.str_ {i : Str} {v : V} (h : Den K G (.str i) v) : v = .str i := by simp only [Den] at h; exact h
theorem Den.non_ {v : V} (h : Den K G .non v) : v = .non := by simp only [Den] at h; exact h
theorem Den.mt_ {a : Addr} {v : V} (h : Den K G (.mt a) v) : v = .ref a := by simp only [Den] at h; exact h
theorem Den.tup_ {ds : List D} {v : V} (h : Den K G (.tup ds) v) : ∃ a vs, v = .ref a ∧ SqT K G a vs ∧ Dens K G ds vs := by simp only [Den] at h; exact h
theorem Den.lst_ {ds : List D} {v : V} (h : Den K G (.lst ds) v) : ∃ a vs, v = .ref a ∧ G a = some (.lst vs) ∧ Dens K G ds vs := by simp only [Den] at h; exact h
theorem Den.fl_ {ds : List D} {v : V} (h : Den K G (.fl ds) v) : ∃ a vs, v = .ref a ∧ SqL K G a vs ∧ Dens K G ds vs := by simp only [Den] at h; exact h
theorem Den.st_ {ks : List (List Int)} {v : V} (h : Den K G (.st ks) v) : ∃ a xs ep, v = .ref a ∧ StO K G (G a) a ks xs ep := by simp only [Den] at h; exact h
inductive Seq (M : Mem) : D → Bool → List D → Prop
 | tup (ds : List D) : Seq M (.tup ds) false ds
 | lst (ds : List D) : Seq M (.lst ds) true ds
 | fl (ds : List D) : Seq M (.fl ds) true ds
 | mt {a : Addr} {ds : List D} (h : M a = some (.lst ds)) : Seq M (.mt a) true ds
theorem Seq.sq {d : D} {t : Bool} {ds : List D} {v : V} (q : Seq M d t ds) (r : Rel K G H M) (h : Den K G d v) : ∃ a vs, v = .ref a ∧ (if t = true then SqL K H a vs else SqT K H a vs) ∧ Dens K G ds vs := by
 cases q with
 | tup ds => obtain ⟨a, vs, e, s, d⟩ := h.tup_; exact ⟨a, vs, e, R.seqT r.same s, d⟩
 | lst ds => obtain ⟨a, vs, e, s, d⟩ := h.lst_; exact ⟨a, vs, e, SqL.of (r.same _ _ s), d⟩
 | fl ds => obtain ⟨a, vs, e, s, d⟩ := h.fl_; exact ⟨a, vs, e, r.same.seq s, d⟩
 | mt hm => obtain ⟨_, vs, e, d⟩ := r.mem _ _ hm; exact ⟨_, vs, h.mt_, SqL.of e, d⟩
theorem Seq.sq2 {d : D} {t : Bool} {ds : List D} {v : V} (q : Seq M d t ds) (r : Rel K G H M) (h : Den K G d v) : ∃ a vs, v = .ref a ∧ (SqL K H a vs ∨ SqT K H a vs) ∧ Dens K G ds vs := by
 obtain ⟨a, vs, e, s, d⟩ := q.sq r h
 refine ⟨a, vs, e, ?_, d⟩
 cases t with
 | true => exact .inl s
 | false => exact .inr s
inductive Lst (M : Mem) : D → List D → Prop
 | lst (ds : List D) : Lst M (.lst ds) ds
 | mt {a : Addr} {ds : List D} (h : M a = some (.lst ds)) : Lst M (.mt a) ds
theorem Lst.sq {d : D} {ds : List D} {v : V} (q : Lst M d ds) (r : Rel K G H M) (h : Den K G d v) : ∃ a vs, v = .ref a ∧ H a = some (.lst vs) ∧ Dens K G ds vs := by
 cases q with
 | lst ds => obtain ⟨a, vs, e, s, d⟩ := h.lst_; exact ⟨a, vs, e, r.same _ _ s, d⟩
 | mt hm => obtain ⟨_, vs, e, d⟩ := r.mem _ _ hm; exact ⟨_, vs, h.mt_, e, d⟩
end
section
variable {X : Cx} {Γ : Gm} {M : Mem} {k : D → Mem → Prop} {kb : Bool → Mem → Prop} {pos : Pos} {a b c e : Expr} {es rest : List Expr}
theorem ge_v (i : Nat) {x : Str} {d : D} (hΓ : Γ[i]? = some (some d)) (h : k d M) (hN : X.N[i]? = some x := by rfl) (hv : Vis X.env.scope x := by first | exact Or.inl rfl | exact Or.inr (Or.inl rfl) | exact Or.inr (Or.inr rfl))
  (hd : (x == ("__debug__" : Str)) = false := by decide) (hcd : (x == ("__classdict__" : Str)) = false := by decide) : GE X (.Name x pos) Γ M k :=
 fun σ G H Q en rl q => bW (pe_var hN hv hd hcd) (let ⟨v, e, dv⟩ := en.get i d hΓ; ⟨v, e, q v G H d M (Stp.refl rl) dv h⟩)
theorem aC {i : Int} {j : Nat} (h : k (.int i) M) : GE X (.Constant (.int i) j pos) Γ M k := fun σ G H Q en rl q => bW pe_int (q _ G H _ M (Stp.refl rl) cU h)
theorem jV {i : Bool} {j : Nat} (h : k (.bl i) M) : GE X (.Constant (.bool i) j pos) Γ M k := fun σ G H Q en rl q => bW pe_bl (q _ G H _ M (Stp.refl rl) cT h)
theorem cB {x : Str} {j : Nat} (h : k (.str x) M) : GE X (.Constant (.str x) j pos) Γ M k := fun σ G H Q en rl q => bW pe_str (q _ G H _ M (Stp.refl rl) fM h)
theorem ge_frz (h : GE X e Γ M fun d M1 => ∃ a ds M2, d = .mt a ∧ M1 a = some (.lst ds) ∧ M2 a = none ∧ Le M2 M1 ∧ k (.lst ds) M2) : GE X e Γ M k := fun σ G H Q en rl q =>
 h σ G H Q en rl fun v G1 H1 d M1 s1 e1 ⟨a, ds, M2, ed, h1, h2, h3, h4⟩ => by
  subst ed
  obtain ⟨vs, x1, x2, st⟩ := s1.rel.frz h1
  have l : Le M2 (delM M1 a) := fun b o z => by rw [kI (fun y => by rw [y, h2] at z; cases z)]; exact h3 b o z
  have st2 := st.trans (st.rel.drop l)
  exact q v _ _ (.lst ds) M2 (s1.trans st2) (by rw [e1.mt_]; exact gE bG (x2.up st.gg)) h4
def Op2 (K : Fg) (r : R2) (d1 d2 : D) (M : Mem) (k : D → Mem → Prop) : Prop := ∀ G H v1 v2 Q, Rel K G H M → Den K G d1 v1 → Den K G d2 v2 → Cont K M k G H Q → r v1 v2 H Q
theorem two {r : R2} (h : GE X a Γ M fun d1 M1 => GE X b Γ M1 fun d2 M2 => Op2 X.K r d1 d2 M2 k) {σ : St} {G H : Hp} {Q : VK} (en : EnvR X.K G Γ σ) (rl : Rel X.K G H M) (q : Cont X.K M k G H Q) : tOp r (tU X a) (tU X b) σ H Q := by
 refine h σ G H _ en rl fun v1 G1 H1 d1 M1 s1 e1 h1 => ?_
 refine h1 σ G1 H1 _ (en.up s1.gg) s1.rel fun v2 G2 H2 d2 M2 s2 e2 h2 => ?_
 exact h2 G2 H2 v1 v2 Q s2.rel (e1.up s2.gg) e2 (q.up (s1.trans s2))
theorem aM {op : Operator} {r : R2} (ho : OpR X (binaryOp op) r) (h : GE X a Γ M fun d1 M1 => GE X b Γ M1 fun d2 M2 => Op2 X.K r d1 d2 M2 k) : GE X (.BinOp a op b pos) Γ M k :=
 fun σ G H Q en rl q => bW (pe_op ho pU pU) (two h en rl q)
theorem dZ {op : CmpOp} {r : R2} (ho : OpR X (compareOp op) r) (h : GE X a Γ M fun d1 M1 => GE X b Γ M1 fun d2 M2 => Op2 X.K r d1 d2 M2 k) (hm : behindInMarks op b = false := by first | exact nomark _ | rfl) : GE X (.Compare a [op] [b] pos) Γ M k :=
 fun σ G H Q en rl q => bW (pe_cmpR ho pU pU hm) (two h en rl q)
theorem aV {op : CmpOp} {r : R2} (ho : OpR X (compareOp op) r) (h : GE X a Γ M fun d1 M1 => GE X b Γ M1 fun d2 M2 => Op2 X.K r d1 d2 M2 fun d M3 => ∃ c, d = .bl c ∧ kb c M3) (hm : behindInMarks op b = false := by first | exact nomark _ | rfl) : GT X (.Compare a [op] [b] pos) Γ M kb :=
 fun σ G H Q en rl q => oR (pt_cmpR ho pU pU hm) (two (k := fun d M3 => ∃ c, d = .bl c ∧ kb c M3) h en rl fun v G' H' d M' s e ⟨c, ed, hk⟩ => by subst ed; exact ⟨c, e.bl_, q c G' H' M' s hk⟩)
theorem aJ {r : R2} (hr : IxR X r) (h : GE X a Γ M fun d1 M1 => GE X b Γ M1 fun d2 M2 => Op2 X.K r d1 d2 M2 k) (hs : PlainIx b := by intro _ _; rfl) : GE X (.Subscript a b pos) Γ M k :=
 fun σ G H Q en rl q => bW (pe_ix hr pU pU hs) (two h en rl q)
theorem gT {op : UnaryOp} {g : Int → Int} (ho : UnR X (unaryOp op) (rU fun i => .int (g i))) (h : GE X a Γ M fun d M1 => ∃ i, d = .int i ∧ k (.int (g i)) M1) : GE X (.UnaryOp op a pos) Γ M k := fun σ G H Q en rl q => by
 refine bW (pe_un ho pU) ?_
 refine h σ G H _ en rl fun v G1 H1 d M1 s1 e1 ⟨i, ed, h1⟩ => ?_
 subst ed
 exact ⟨i, e1.int_, q _ _ _ _ _ s1 cU h1⟩
end
section
variable {K : Fg} {M : Mem} {k : D → Mem → Prop} {i j : Int} {x y : Str}
theorem o2_0 {g : Int → Int → Int} (h : k (.int (g i j)) M) : Op2 K (rI0 fun i j => .int (g i j)) (.int i) (.int j) M k := fun G H v1 v2 Q rl e1 e2 q => ⟨i, j, e1.int_, e2.int_, q _ G H _ M (Stp.refl rl) cU h⟩
theorem o2_C {C : Int → Int → Prop} {g : Int → Int → Int} (hc : C i j) (h : k (.int (g i j)) M) : Op2 K (rI C fun i j => .int (g i j)) (.int i) (.int j) M k := fun G H v1 v2 Q rl e1 e2 q => ⟨i, j, e1.int_, e2.int_, hc, q _ G H _ M (Stp.refl rl) cU h⟩
theorem o2_B {g : Int → Int → Bool} (h : k (.bl (g i j)) M) : Op2 K (rI0 fun i j => .bl (g i j)) (.int i) (.int j) M k := fun G H v1 v2 Q rl e1 e2 q => ⟨i, j, e1.int_, e2.int_, q _ G H _ M (Stp.refl rl) cT h⟩
theorem dJ (h : k (.bl (decide (i = j))) M) : Op2 K rEq (.int i) (.int j) M k := fun G H v1 v2 Q rl e1 e2 q => by
 rw [e1.int_, e2.int_]
 exact ⟨rfl, by rw [show decide (V.int i = V.int j) = decide (i = j) from by simp]; exact q _ G H _ M (Stp.refl rl) cT h⟩
theorem o2_neI (h : k (.bl (!decide (i = j))) M) : Op2 K rNe (.int i) (.int j) M k := fun G H v1 v2 Q rl e1 e2 q => by
 rw [e1.int_, e2.int_]
 exact ⟨rfl, by rw [show decide (V.int i = V.int j) = decide (i = j) from by simp]; exact q _ G H _ M (Stp.refl rl) cT h⟩
theorem o2_eqS (h : k (.bl (decide (x = y))) M) : Op2 K rEq (.str x) (.str y) M k := fun G H v1 v2 Q rl e1 e2 q => by
 rw [e1.str_, e2.str_]
 exact ⟨rfl, by rw [show decide (V.str x = V.str y) = decide (x = y) from by simp]; exact q _ G H _ M (Stp.refl rl) cT h⟩
theorem o2_neS (h : k (.bl (!decide (x = y))) M) : Op2 K rNe (.str x) (.str y) M k := fun G H v1 v2 Q rl e1 e2 q => by
 rw [e1.str_, e2.str_]
 exact ⟨rfl, by rw [show decide (V.str x = V.str y) = decide (x = y) from by simp]; exact q _ G H _ M (Stp.refl rl) cT h⟩
theorem o2_eqB {x y : Bool} (h : k (.bl (decide (x = y))) M) : Op2 K rEq (.bl x) (.bl y) M k := fun G H v1 v2 Q rl e1 e2 q => by
 rw [e1.bl_, e2.bl_]
 exact ⟨rfl, by rw [show decide (V.bl x = V.bl y) = decide (x = y) from by simp]; exact q _ G H _ M (Stp.refl rl) cT h⟩
theorem aK {d1 d : D} {t : Bool} {ds : List D} (q1 : Seq M d1 t ds) (e : atI ds i = some d) (h : k d M) : Op2 K (rIx K) d1 (.int i) M k := fun G H v1 v2 Q rl e1 e2 q => by
 obtain ⟨a, vs, ev, s, dn⟩ := q1.sq2 rl e1
 obtain ⟨v, ei, dv⟩ := dn.atI e
 rw [ev, e2.int_]
 exact R.ix_of s ei (q v G H d M (Stp.refl rl) dv h)
theorem lS {z : Str} {c : Nat} (hz : z.length ≤ sizeLine) (e : atI z.cps.toList i = some c) (h : k (.str ⟨#[c]⟩) M) : Op2 K (rIx K) (.str z) (.int i) M k := fun G H v1 v2 Q rl e1 e2 q =>
 .inr (.inr ⟨z, i, c, e1.str_, e2.int_, hz, e, q _ G H _ M (Stp.refl rl) fM h⟩)
theorem o2_catS (hz : x.length + y.length ≤ sizeLine) (h : k (.str (x ++ y)) M) : Op2 K (fun x y H Q => ∃ i j, x = .str i ∧ y = .str j ∧ i.length + j.length ≤ sizeLine ∧ Q (.str (i ++ j)) H) (.str x) (.str y) M k :=
 fun G H v1 v2 Q rl e1 e2 q => ⟨x, y, e1.str_, e2.str_, hz, q _ G H _ M (Stp.refl rl) fM h⟩
theorem o2_repS (h1 : -(2 ^ 40) ≤ i) (h2 : i < 2 ^ 40) (h3 : x.length * i.toNat ≤ sizeLine) (h : k (.str (repS x i.toNat)) M) : Op2 K rRepS (.str x) (.int i) M k :=
 fun G H v1 v2 Q rl e1 e2 q => ⟨x, i, e1.str_, e2.int_, h1, h2, h3, q _ G H _ M (Stp.refl rl) fM h⟩
theorem jL {d1 d2 : D} {xs ys : List D} (q1 : Lst M d1 xs) (q2 : Lst M d2 ys) (hl : xs.length + ys.length ≤ sizeLine) (h : k (.lst (xs ++ ys)) M) : Op2 K rCat d1 d2 M k := fun G H v1 v2 Q rl e1 e2 q => by
 obtain ⟨a, vs, ev, s, dn⟩ := q1.sq rl e1
 obtain ⟨b, ws, ew, s2, dn2⟩ := q2.sq rl e2
 refine ⟨a, b, vs, ws, ev, ew, s, s2, by rw [← dn.len, ← dn2.len]; exact hl, fun p hp => ?_⟩
 have st := rl.new (o := .lst (vs ++ ws)) hp
 exact q _ _ _ _ _ st (gE bG ((dn.append dn2).up st.gg)) h
end
end Z
namespace Z
open PySem L2
section
variable {X : Cx} {Γ : Gm} {M : Mem} {k : D → Mem → Prop} {kb : Bool → Mem → Prop} {pos : Pos} {a b c e o : Expr} {es rest : List Expr}
theorem cQ (h : GE X e Γ M fun d M1 => ∃ c, d = .bl c ∧ kb c M1) (he : ∀ whole, isTrue e X.env whole = (do let v ← whole; standAt e.pos; holding [v] (truthy v)) := by intro _; rfl) : GT X e Γ M kb := fun σ G H Q en rl q => by
 refine oR (pt_val pU he) ?_
 exact h σ G H _ en rl fun v G1 H1 d M1 s1 e1 ⟨c, ed, h1⟩ => by subst ed; exact ⟨c, e1.bl_, q _ _ _ _ s1 h1⟩
inductive Tru (M : Mem) : D → Bool → Prop
 | seq {d : D} {t : Bool} {ds : List D} (q : Seq M d t ds) : Tru M d (!ds.isEmpty)
 | str (x : Str) (h : x.length ≤ sizeLine) : Tru M (.str x) ((x.length : Int) != 0)
 | bl (b : Bool) : Tru M (.bl b) b
 | int (i : Int) : Tru M (.int i) (i != 0)
 | non : Tru M .non false
theorem sB {K : Fg} {G : Hp} {ds : List D} {vs : List V} (h : Dens K G ds vs) : ds.isEmpty = vs.isEmpty := by
 cases ds with
 | nil => rw [b8 h]; rfl
 | cons d ds => obtain ⟨v, r, rfl, _⟩ := bU h; rfl
theorem kY (h : GE X e Γ M fun d M1 => ∃ c, Tru M1 d c ∧ kb c M1) (he : ∀ whole, isTrue e X.env whole = (do let v ← whole; standAt e.pos; holding [v] (truthy v)) := by intro _; rfl) : GT X e Γ M kb := fun σ G H Q en rl q => by
 refine oR (pt_truth pU he) ?_
 refine h σ G H _ en rl fun v G1 H1 d M1 s1 e1 ⟨c, tr, h1⟩ => ⟨c, ?_, q _ _ _ _ s1 h1⟩
 cases tr with
 | seq sq =>
  obtain ⟨a, vs, ev, s, dn⟩ := sq.sq2 s1.rel e1
  subst ev
  rw [sB dn]
  rcases s with s | s
  ·exact .inl ⟨vs, s, rfl⟩
  ·exact .inr (.inl ⟨vs, s, rfl⟩)
 | str x hx => rw [e1.str_]; exact ⟨hx, rfl⟩
 | bl b => rw [e1.bl_]; rfl
 | int i => rw [e1.int_]; rfl
 | non => rw [e1.non_]; rfl
theorem cY (h : GT X a Γ M fun c M1 => kb (!c) M1) : GT X (.UnaryOp .Not a pos) Γ M kb := fun σ G H Q en rl q => by
 refine oR (pt_not pUT) ?_
 exact h σ G H _ en rl fun c G1 H1 M1 s1 h1 => q _ _ _ _ s1 h1
theorem gt_w (h : GW X e Γ M kb) : GT X e Γ M kb := fun σ G H Q en rl q pins s I => h σ G H Q en rl q (eval e X.env) pins s I
theorem gw_and1 (h : GT X a Γ M kb) : GW X (.BoolOp .And [a] pos) Γ M kb := fun σ G H Q en rl q => oP (pw_and1 pUT) (h σ G H _ en rl q)
theorem iP (h : GT X a Γ M kb) : GW X (.BoolOp .Or [a] pos) Γ M kb := fun σ G H Q en rl q => oP (pw_or1 pUT) (h σ G H _ en rl q)
theorem gw_and (h : GT X a Γ M fun c M1 => if c = true then GW X (.BoolOp .And (b :: rest) pos) Γ M1 kb else kb false M1) : GW X (.BoolOp .And (a :: b :: rest) pos) Γ M kb := fun σ G H Q en rl q => by
 refine oP (pw_and pUT pUW) ?_
 refine h σ G H _ en rl fun c G1 H1 M1 s1 h1 => ?_
 cases c with
 | true => rw [if_pos rfl] at h1 ⊢; exact h1 σ G1 H1 _ (en.up s1.gg) s1.rel (q.up s1)
 | false => rw [if_neg Bool.false_ne_true] at h1 ⊢; exact q _ _ _ _ s1 h1
theorem fZ (h : GT X a Γ M fun c M1 => if c = true then kb true M1 else GW X (.BoolOp .Or (b :: rest) pos) Γ M1 kb) : GW X (.BoolOp .Or (a :: b :: rest) pos) Γ M kb := fun σ G H Q en rl q => by
 refine oP (pw_or pUT pUW) ?_
 refine h σ G H _ en rl fun c G1 H1 M1 s1 h1 => ?_
 cases c with
 | true => rw [if_pos rfl] at h1 ⊢; exact q _ _ _ _ s1 h1
 | false => rw [if_neg Bool.false_ne_true] at h1 ⊢; exact h1 σ G1 H1 _ (en.up s1.gg) s1.rel (q.up s1)
theorem kC {op : BoolOp} (h : GE X a Γ M k) : GE X (.BoolOp op [a] pos) Γ M k := fun σ G H Q en rl q => bW (pe_one pU) (h σ G H _ en rl q)
theorem o6 (h : GE X a Γ M fun d M1 => ∃ c, d = .bl c ∧ if c = true then GE X (.BoolOp .And (b :: rest) pos) Γ M1 k else k (.bl false) M1) : GE X (.BoolOp .And (a :: b :: rest) pos) Γ M k := fun σ G H Q en rl q => by
 refine bW (pe_and pU pU) ?_
 refine h σ G H _ en rl fun v G1 H1 d M1 s1 e1 ⟨c, ed, h1⟩ => ?_
 subst ed
 refine ⟨c, e1.bl_, ?_⟩
 cases c with
 | true => rw [if_pos rfl] at h1 ⊢; exact h1 σ G1 H1 _ (en.up s1.gg) s1.rel (q.up s1)
 | false => rw [if_neg Bool.false_ne_true] at h1 ⊢; exact q _ _ _ _ _ s1 cT h1
theorem ge_or (h : GE X a Γ M fun d M1 => ∃ c, d = .bl c ∧ if c = true then k (.bl true) M1 else GE X (.BoolOp .Or (b :: rest) pos) Γ M1 k) : GE X (.BoolOp .Or (a :: b :: rest) pos) Γ M k := fun σ G H Q en rl q => by
 refine bW (pe_or pU pU) ?_
 refine h σ G H _ en rl fun v G1 H1 d M1 s1 e1 ⟨c, ed, h1⟩ => ?_
 subst ed
 refine ⟨c, e1.bl_, ?_⟩
 cases c with
 | true => rw [if_pos rfl] at h1 ⊢; exact q _ _ _ _ _ s1 cT h1
 | false => rw [if_neg Bool.false_ne_true] at h1 ⊢; exact h1 σ G1 H1 _ (en.up s1.gg) s1.rel (q.up s1)
theorem ge_not (h : GE X a Γ M fun d M1 => ∃ c, d = .bl c ∧ k (.bl (!c)) M1) : GE X (.UnaryOp .Not a pos) Γ M k := fun σ G H Q en rl q => by
 refine bW (pe_not pU) ?_
 exact h σ G H _ en rl fun v G1 H1 d M1 s1 e1 ⟨c, ed, h1⟩ => by subst ed; exact ⟨c, e1.bl_, q _ _ _ _ _ s1 cT h1⟩
theorem kJ (h : GT X c Γ M fun t M1 => if t = true then GE X a Γ M1 k else GE X b Γ M1 k) : GE X (.IfExp c a b pos) Γ M k := fun σ G H Q en rl q => by
 refine bW (pe_ifExp pUT pU pU) ?_
 refine h σ G H _ en rl fun t G1 H1 M1 s1 h1 => ?_
 cases t with
 | true => rw [if_pos rfl] at h1 ⊢; exact h1 σ G1 H1 _ (en.up s1.gg) s1.rel (q.up s1)
 | false => rw [if_neg Bool.false_ne_true] at h1 ⊢; exact h1 σ G1 H1 _ (en.up s1.gg) s1.rel (q.up s1)
variable {ka : List D → Mem → Prop}
theorem aB (h : ka [] M) : GA X [] Γ M ka := fun σ G H Q en rl q => tUA_of pa_nil (q _ _ _ _ _ (Stp.refl rl) cF h)
theorem aA (h : GE X e Γ M fun d M1 => GA X es Γ M1 fun ds M2 => ka (d :: ds) M2) (hs : starEach (e :: es) X.env = (false, eval e X.env) :: starEach es X.env := by rfl) : GA X (e :: es) Γ M ka := fun σ G H Q en rl q => by
 refine tUA_of (pR pU pUA hs) ?_
 refine h σ G H _ en rl fun v G1 H1 d M1 s1 e1 h1 => ?_
 exact h1 σ G1 H1 _ (en.up s1.gg) s1.rel fun vs G2 H2 ds M2 s2 e2 h2 => q _ _ _ _ _ (s1.trans s2) (bZ (e1.up s2.gg) e2) h2
theorem cG {x1} (h : GA X es Γ M fun ds M1 => ds.length ≤ sizeLine ∧ k (.tup ds) M1) : GE X (.Tuple es x1 pos) Γ M k := fun σ G H Q en rl q => by
 refine bW (pe_tup pUA) ?_
 refine h σ G H _ en rl fun vs G1 H1 ds M1 s1 e1 ⟨hl, h1⟩ => ⟨by rw [← e1.len]; exact hl, fun p hp => ?_⟩
 have st := s1.rel.new (o := .tup vs) hp
 exact q _ _ _ _ _ (s1.trans st) (gF (SqT.of bG) (e1.up st.gg)) h1
theorem eW (h : GA X es Γ M fun ds M1 => ds.length ≤ sizeLine ∧ k (.lst ds) M1) : GE X (.List es pos) Γ M k := fun σ G H Q en rl q => by
 refine bW (pe_lst pUA) ?_
 refine h σ G H _ en rl fun vs G1 H1 ds M1 s1 e1 ⟨hl, h1⟩ => ⟨by rw [← e1.len]; exact hl, fun p hp => ?_⟩
 have st := s1.rel.new (o := .lst vs) hp
 exact q _ _ _ _ _ (s1.trans st) (gE bG (e1.up st.gg)) h1
theorem m7 (h : GA X es Γ M fun ds M1 => ds.length ≤ sizeLine ∧ ∀ a, M1 a = none → k (.mt a) (updM M1 a (.lst ds))) : GE X (.List es pos) Γ M k := fun σ G H Q en rl q => by
 refine bW (pe_lst pUA) ?_
 refine h σ G H _ en rl fun vs G1 H1 ds M1 s1 e1 ⟨hl, h1⟩ => ⟨by rw [← e1.len]; exact hl, fun p hp => ?_⟩
 exact q _ _ _ _ _ (s1.trans (s1.rel.newM hp e1)) den_mt (h1 p (s1.rel.free hp).2)
abbrev Ct := List D → Mem → (D → Mem → Prop) → Prop
def spZ (K : Fg) (F : Ct) : Sp := fun vs H Q _ => ∃ G M ds k, Rel K G H M ∧ Dens K G ds vs ∧ F ds M k ∧ Cont K M k G H Q
theorem aD {n : Nat} {f : Addr} {fd : FuncData} {ps : List Str} {x : Str} {p : Pos} {F : Ct} (Fk : FnOk X.prog X.w X.K X.mg X.base CX0 n f fd ps (spZ X.K F)) (hr : Room n X.A) (hm : X.mg x = some (.ref f)) (hk : PySem.W.keepIn X.K (.ref f) = true) (hb : Binds X.K fd ps [])
  (h : GA X (e :: es) Γ M fun ds M1 => F ds M1 k) (hg : Gl X x := by rfl) (hdb : (x == ("__debug__" : Str)) = false := by decide) (he : starEach (e :: es) X.env = (false, eval e X.env) :: starEach es X.env := by rfl) (hpl : (backTo pos (starEach es X.env)).any (·.1) = false := by rfl) :
  GE X (.Call (.Name x p) (e :: es) [] pos) Γ M k := fun σ G H Q en rl q => by
 refine bW (pe_call Fk hr hg hm hk hb .nil pass0 pUA hdb he hpl) ?_
 refine h σ G H _ en rl fun vs G1 H1 ds M1 s1 e1 h1 => ?_
 show spZ X.K F (vs ++ []) H1 Q E0
 rw [List.append_nil]
 exact ⟨G1, M1, ds, k, s1.rel, e1, h1, q.up s1⟩
def OpN (K : Fg) (r : List V → Hp → VK → Prop) (ds : List D) (M : Mem) (k : D → Mem → Prop) : Prop := ∀ G H vs Q, Rel K G H M → Dens K G ds vs → Cont K M k G H Q → r vs H Q
theorem aT {x : Str} {p : Pos} {id : String} {r : List V → Hp → VK → Prop} (hc : fL X (.builtin id) r) (hm : X.mg x = none) (hv : bootBuiltins x = some (.builtin id))
  (h : GA X (e :: es) Γ M fun ds M1 => OpN X.K r ds M1 k) (hg : Gl X x := by rfl) (hn : x ≠ "__name__" := by decide) (hdb : (x == ("__debug__" : Str)) = false := by decide)
  (he : starEach (e :: es) X.env = (false, eval e X.env) :: starEach es X.env := by rfl) (hpl : (backTo pos (starEach es X.env)).any (·.1) = false := by rfl) : GE X (.Call (.Name x p) (e :: es) [] pos) Γ M k := fun σ G H Q en rl q => by
 refine bW (sA hc hg hm hv pUA hn hdb he hpl) ?_
 exact h σ G H _ en rl fun vs G1 H1 ds M1 s1 e1 h1 => h1 G1 H1 vs Q s1.rel e1 (q.up s1)
theorem bD {x : Str} {p : Pos} {T : String} {r : List V → Hp → VK → Prop} (hc : fL X (.type T) r) (hm : X.mg x = none) (hv : bootBuiltins x = some (.type T))
  (h : GA X (e :: es) Γ M fun ds M1 => OpN X.K r ds M1 k) (hg : Gl X x := by rfl) (hn : x ≠ "__name__" := by decide) (hdb : (x == ("__debug__" : Str)) = false := by decide)
  (he : starEach (e :: es) X.env = (false, eval e X.env) :: starEach es X.env := by rfl) (hpl : (backTo pos (starEach es X.env)).any (·.1) = false := by rfl) : GE X (.Call (.Name x p) (e :: es) [] pos) Γ M k := fun σ G H Q en rl q => by
 refine bW (pe_callTy hc hg hm hv pUA hn hdb he hpl) ?_
 exact h σ G H _ en rl fun vs G1 H1 ds M1 s1 e1 h1 => h1 G1 H1 vs Q s1.rel e1 (q.up s1)
theorem dens1 {K : Fg} {G : Hp} {d : D} {vs : List V} (h : Dens K G [d] vs) : ∃ v, vs = [v] ∧ Den K G d v := by
 obtain ⟨v, r, rfl, h1, h2⟩ := bU h
 rw [b8 h2]; exact ⟨v, rfl, h1⟩
theorem dens2 {K : Fg} {G : Hp} {d c : D} {vs : List V} (h : Dens K G [d, c] vs) : ∃ v u, vs = [v, u] ∧ Den K G d v ∧ Den K G c u := by
 obtain ⟨v, r, rfl, h1, h2⟩ := bU h
 obtain ⟨u, rfl, h3⟩ := dens1 h2
 exact ⟨v, u, rfl, h1, h3⟩
theorem cR {K : Fg} {d : D} {t : Bool} {ds : List D} (q1 : Seq M d t ds) (h : k (.int (ds.length : Int)) M) : OpN K (fun xs H Q => ∃ x n, xs = [x] ∧ LenV K x H n ∧ Q (.int n) H) [d] M k := fun G H vs Q rl e q => by
 obtain ⟨v, rfl, dv⟩ := dens1 e
 obtain ⟨a, ws, ev, s, dn⟩ := q1.sq2 rl dv
 subst ev
 refine ⟨_, ds.length, rfl, ?_, q _ _ _ _ _ (Stp.refl rl) cU h⟩
 rcases s with s | s
 ·exact .inl ⟨ws, s, dn.len⟩
 ·exact .inr ⟨ws, s, dn.len⟩
theorem jC {K : Fg} {x : Str} (hz : x.length ≤ sizeLine) (h : k (.int (x.length : Int)) M) : OpN K (fun xs H Q => ∃ x n, xs = [x] ∧ LenV K x H n ∧ Q (.int n) H) [.str x] M k := fun G H vs Q rl e q => by
 obtain ⟨v, rfl, dv⟩ := dens1 e
 rw [dv.str_]
 exact ⟨_, x.length, rfl, ⟨hz, rfl⟩, q _ _ _ _ _ (Stp.refl rl) cU h⟩
theorem on_abs {K : Fg} {i : Int} (h : k (.int (if i < 0 then -i else i)) M) : OpN K (fun xs H Q => ∃ i, xs = [.int i] ∧ Q (.int (if i < 0 then -i else i)) H) [.int i] M k := fun G H vs Q rl e q => by
 obtain ⟨v, rfl, dv⟩ := dens1 e
 rw [dv.int_]
 exact ⟨i, rfl, q _ _ _ _ _ (Stp.refl rl) cU h⟩
theorem on_intB {K : Fg} {c : Bool} (h : k (.int (if c then 1 else 0)) M) : OpN K (fun xs H Q => (∃ i, xs = [.int i] ∧ Q (.int i) H) ∨ ∃ k, xs = [.bl k] ∧ Q (.int (if k then 1 else 0)) H) [.bl c] M k := fun G H vs Q rl e q => by
 obtain ⟨v, rfl, dv⟩ := dens1 e
 rw [dv.bl_]
 exact .inr ⟨c, rfl, q _ _ _ _ _ (Stp.refl rl) cU h⟩
theorem oK {K : Fg} {i j : Int} (h : k (.int (if j > i then j else i)) M) : OpN K (fun xs H Q => ∃ i j, xs = [.int i, .int j] ∧ Q (.int (if j > i then j else i)) H) [.int i, .int j] M k := fun G H vs Q rl e q => by
 obtain ⟨v, u, rfl, dv, du⟩ := dens2 e
 rw [dv.int_, du.int_]
 exact ⟨i, j, rfl, q _ _ _ _ _ (Stp.refl rl) cU h⟩
theorem on_min {K : Fg} {i j : Int} (h : k (.int (if j < i then j else i)) M) : OpN K (fun xs H Q => ∃ i j, xs = [.int i, .int j] ∧ Q (.int (if j < i then j else i)) H) [.int i, .int j] M k := fun G H vs Q rl e q => by
 obtain ⟨v, u, rfl, dv, du⟩ := dens2 e
 rw [dv.int_, du.int_]
 exact ⟨i, j, rfl, q _ _ _ _ _ (Stp.refl rl) cU h⟩
theorem gD {K : Fg} {d : D} {t : Bool} {ds : List D} (q1 : Seq M d t ds) (h : k (.lst ds) M) : OpN K (fun xs H Q => ∃ p ys, xs = [.ref p] ∧ (SqL K H p ys ∨ SqT K H p ys) ∧ ∀ l, H l = none → Q (.ref l) (upd H l (.lst ys))) [d] M k := fun G H vs Q rl e q => by
 obtain ⟨v, rfl, dv⟩ := dens1 e
 obtain ⟨a, ws, ev, s, dn⟩ := q1.sq2 rl dv
 subst ev
 refine ⟨a, ws, rfl, s, fun l hl => ?_⟩
 have st := rl.new (o := .lst ws) hl
 exact q _ _ _ _ _ st (gE bG (dn.up st.gg)) h
theorem cI {K : Fg} {d : D} {t : Bool} {ds : List D} (q1 : Seq M d t ds) (h : k (.tup ds) M) : OpN K (fun xs H Q => ∃ p ys, xs = [.ref p] ∧ ((SqL K H p ys ∧ ∀ l, H l = none → Q (.ref l) (upd H l (.tup ys))) ∨ (SqT K H p ys ∧ Q (.ref p) H))) [d] M k := fun G H vs Q rl e q => by
 obtain ⟨v, rfl, dv⟩ := dens1 e
 cases q1 with
 | tup ds =>
  obtain ⟨a, ws, ev, s, dn⟩ := dv.tup_
  subst ev
  exact ⟨a, ws, rfl, .inr ⟨R.seqT rl.same s, q _ _ _ _ _ (Stp.refl rl) dv h⟩⟩
 | lst ds =>
  obtain ⟨a, ws, ev, s, dn⟩ := (Seq.lst ds).sq rl dv
  subst ev
  refine ⟨a, ws, rfl, .inl ⟨s, fun l hl => ?_⟩⟩
  have st := rl.new (o := .tup ws) hl
  exact q _ _ _ _ _ st (gF (SqT.of bG) (dn.up st.gg)) h
 | fl ds =>
  obtain ⟨a, ws, ev, s, dn⟩ := (Seq.fl ds).sq rl dv
  subst ev
  refine ⟨a, ws, rfl, .inl ⟨s, fun l hl => ?_⟩⟩
  have st := rl.new (o := .tup ws) hl
  exact q _ _ _ _ _ st (gF (SqT.of bG) (dn.up st.gg)) h
 | mt hm =>
  obtain ⟨a, ws, ev, s, dn⟩ := (Seq.mt hm).sq rl dv
  subst ev
  refine ⟨a, ws, rfl, .inl ⟨s, fun l hl => ?_⟩⟩
  have st := rl.new (o := .tup ws) hl
  exact q _ _ _ _ _ st (gF (SqT.of bG) (dn.up st.gg)) h
theorem dens_bl {K : Fg} {G : Hp} : ∀ {bs : List Bool} {vs : List V}, Dens K G (bs.map D.bl) vs → vs = bs.map V.bl
 | [], _, h => b8 h
 | b :: bs, _, h => by
  obtain ⟨v, r, rfl, h1, h2⟩ := bU h
  rw [h1.bl_, dens_bl h2]; rfl
theorem rK {K : Fg} {G : Hp} : ∀ {bs : List Str} {vs : List V}, Dens K G (bs.map D.str) vs → vs = bs.map V.str
 | [], _, h => b8 h
 | b :: bs, _, h => by
  obtain ⟨v, r, rfl, h1, h2⟩ := bU h
  rw [h1.str_, rK h2]; rfl
theorem mF {K : Fg} {d : D} {t : Bool} {bs : List Bool} {g : List Bool → Bool} (q1 : Seq M d t (bs.map D.bl)) (h : k (.bl (g bs)) M) : OpN K (rAll K g) [d] M k := fun G H vs Q rl e q => by
 obtain ⟨v, rfl, dv⟩ := dens1 e
 obtain ⟨a, ws, ev, s, dn⟩ := q1.sq2 rl dv
 subst ev
 rw [dens_bl dn] at s
 exact ⟨a, bs, rfl, s, q _ _ _ _ _ (Stp.refl rl) cT h⟩
def TyD (T : String) (d : D) (M : Mem) : Prop := match d with
 | .str _ => T = "str"
 | .lst _ => T = "list"
 | .mt a => T = "list" ∧ ∃ ds, M a = some (.lst ds)
 | _ => False
theorem TyD.ok {K : Fg} {G H : Hp} {T : String} {d : D} {v : V} (h : TyD T d M) (rl : Rel K G H M) (e : Den K G d v) : tyV K T v H := by
 cases d with
 | str x => rw [e.str_]; exact h
 | lst ds => obtain ⟨a, vs, ev, s, _⟩ := e.lst_; rw [ev]; exact .inl ⟨h, vs, SqL.of (rl.same _ _ s)⟩
 | mt a =>
  obtain ⟨h1, ds, h2⟩ := h
  obtain ⟨_, vs, s, _⟩ := rl.mem _ _ h2
  rw [e.mt_]; exact .inl ⟨h1, vs, SqL.of s⟩
 | _ => exact False.elim h
def OpM (K : Fg) (r : V → List V → Hp → VK → Prop) (d : D) (ds : List D) (M : Mem) (k : D → Mem → Prop) : Prop := ∀ G H v vs Q, Rel K G H M → Den K G d v → Dens K G ds vs → Cont K M k G H Q → r v vs H Q
theorem i0 {T id : String} {name : Str} {apos cpos : Pos} {r : V → List V → Hp → VK → Prop} (pa : PlainAttrs T) (slot : Slot T name id) (hty : typeOf (.builtin id) = pure (.type "method_descriptor")) (hm : MtR X id r)
  (h : GE X o Γ M fun d M1 => TyD T d M1 ∧ GA X (e :: es) Γ M1 fun ds M2 => OpM X.K r d ds M2 k)
  (hbase : attributeBase o name X.env (eval o X.env) = eval o X.env := by rfl)
  (hfew : ((backTo cpos (starEach (e :: es) X.env)).all (fun x => !x.1) && (backToKw cpos (keywordEach [] X.env)).all (fun x => x.1.isSome)
   && decide ((e :: es).length + ([] : List Keyword).length + (if ([] : List Keyword).isEmpty then 0 else 1) < 30)) = true := by rfl)
  (hline : (apos.endLine == cpos.line) = true := by rfl) (hs : starEach (e :: es) X.env = (false, eval e X.env) :: starEach es X.env := by rfl) (hplain : (backTo cpos (starEach es X.env)).any (·.1) = false := by rfl) :
  GE X (.Call (.Attribute o name apos) (e :: es) [] cpos) Γ M k := fun σ G H Q en rl q => by
 refine bW (pe_bm pa slot hty hm pU pUA hbase hfew hline hs hplain) ?_
 refine h σ G H _ en rl fun v G1 H1 d M1 s1 e1 ⟨ty, h1⟩ => ⟨ty.ok s1.rel e1, ?_⟩
 exact h1 σ G1 H1 _ (en.up s1.gg) s1.rel fun vs G2 H2 ds M2 s2 e2 h2 => h2 G2 H2 v vs Q s2.rel (e1.up s2.gg) e2 (q.up (s1.trans s2))
theorem mK {K : Fg} {a : Addr} {ds : List D} {d : D} (hm : M a = some (.lst ds)) (hl : ds.length < sizeLine) (h : k .non (updM M a (.lst (ds ++ [d])))) : OpM K rAppend (.mt a) [d] M k := fun G H v vs Q rl e e2 q => by
 obtain ⟨u, rfl, du⟩ := dens1 e2
 obtain ⟨_, ws, s, dn⟩ := rl.mem _ _ hm
 exact ⟨a, ws, u, e.mt_, rfl, s, by rw [← dn.len]; exact hl, q _ _ _ _ _ (rl.wr hm (dn.append (bZ du cF))) den_non h⟩
theorem i6 {K : Fg} {sep : Str} {d : D} {t : Bool} {ys : List Str} (q1 : Seq M d t (ys.map D.str)) (h1 : sep.length ≤ 16) (h2 : (ys.map (·.length)).sum + ys.length ≤ 1048576) (h : k (.str (PySem.Txt.join sep ys)) M) : OpM K (rJoin K) (.str sep) [d] M k := fun G H v vs Q rl e e2 q => by
 obtain ⟨u, rfl, du⟩ := dens1 e2
 obtain ⟨a, ws, ev, s, dn⟩ := q1.sq2 rl du
 subst ev
 rw [rK dn] at s
 exact ⟨sep, a, ys, e.str_, rfl, s, h1, h2, q _ _ _ _ _ (Stp.refl rl) fM h⟩
end
end Z
namespace Z
open PySem L2
section
variable {X : Cx} {Γ : Gm} {M : Mem} {k : D → Mem → Prop} {kb : Bool → Mem → Prop} {pos : Pos} {a b c e o : Expr} {es rest : List Expr} {lo hi : Option Expr} {ko : Option Int → Mem → Prop}
def tUO (X : Cx) (e : Option Expr) : TO := fun σ H Q => ∀ pins s, Inv X pins σ H s → wpAny (model X.prog X.w) X.A (evalPart e X.env) (fun u s' => ∃ o H', Inv X pins σ H' s' ∧ IsPart u o ∧ Q o H') X.xe s
theorem pUO {e : Option Expr} : PO X e (tUO X e) := fun pins s σ H Q I h => h pins s I
theorem tUO_of {e : Option Expr} {t : TO} (p : PO X e t) {σ : St} {H : Hp} {Q : Option Int → Hp → Prop} (h : t σ H Q) : tUO X e σ H Q := fun pins s I => p pins s σ H Q I h
def GO (X : Cx) (e : Option Expr) (Γ : Gm) (M : Mem) (ko : Option Int → Mem → Prop) : Prop :=
 ∀ σ G H Q, EnvR X.K G Γ σ → Rel X.K G H M → (∀ o G' H' M', Stp X.K G H M G' H' M' → ko o M' → Q o H') → tUO X e σ H Q
theorem c9 (h : ko none M) : GO X none Γ M ko := fun σ G H Q en rl q => tUO_of po_none (q _ _ _ _ (Stp.refl rl) h)
theorem c7 (h : GE X e Γ M fun d M1 => ∃ i, d = .int i ∧ ko (some i) M1) : GO X (some e) Γ M ko := fun σ G H Q en rl q => tUO_of (po_some pU) (h σ G H _ en rl fun v G1 H1 d M1 s1 e1 ⟨i, ed, h1⟩ => by subst ed; exact ⟨i, e1.int_, q _ _ _ _ s1 h1⟩)
abbrev R3 := V → Option Int → Option Int → Hp → VK → Prop
def Op3 (K : Fg) (r : R3) (d : D) (l u : Option Int) (M : Mem) (k : D → Mem → Prop) : Prop := ∀ G H v Q, Rel K G H M → Den K G d v → Cont K M k G H Q → r v l u H Q
theorem cK {r : R3} {p2 : Pos} (hr : SlR X r) (h : GE X e Γ M fun d M1 => GO X lo Γ M1 fun l M2 => GO X hi Γ M2 fun u M3 => Op3 X.K r d l u M3 k) : GE X (.Subscript e (.Slice lo hi none p2) pos) Γ M k := fun σ G H Q en rl q => by
 refine bW (pe_slice hr pU pUO pUO) ?_
 refine h σ G H _ en rl fun v G1 H1 d M1 s1 e1 h1 => ?_
 refine h1 σ G1 H1 _ (en.up s1.gg) s1.rel fun l G2 H2 M2 s2 h2 => ?_
 refine h2 σ G2 H2 _ (en.up (s1.trans s2).gg) s2.rel fun u G3 H3 M3 s3 h3 => ?_
 exact h3 G3 H3 v Q s3.rel (e1.up (s2.trans s3).gg) (q.up ((s1.trans s2).trans s3))
def cutD {α : Type} (xs : List α) (lo hi : Option Int) : List α := (xs.drop (HT.sIx xs.length 0 lo)).take (HT.sIx xs.length xs.length hi - HT.sIx xs.length 0 lo)
theorem Dens.cut {K : Fg} {G : Hp} {ds : List D} {vs : List V} (h : Dens K G ds vs) (l u : Option Int) : Dens K G (cutD ds l u) (cutV vs l u) := by
 unfold cutD cutV
 rw [← h.len]
 exact (h.drop _).take _
theorem fD {K : Fg} {d : D} {ds : List D} {l u : Option Int} (q1 : Seq M d true ds) (h : k (.lst (cutD ds l u)) M) : Op3 K (rSlL K) d l u M k := fun G H v Q rl e q => by
 obtain ⟨a, vs, ev, s, dn⟩ := q1.sq rl e
 refine ⟨a, vs, ev, s, fun p hp => ?_⟩
 have st := rl.new (o := .lst (cutV vs l u)) hp
 exact q _ _ _ _ _ st (gE bG ((dn.cut l u).up st.gg)) h
structure YD (K : Fg) (J : It) (ds : List D) (G0 : Hp) : Prop where
 go : ∀ i G H M, Same G0 G → Rel K G H M → i < ds.length → J.go i H
 yld : ∀ i G H M x H', Same G0 G → Rel K G H M → i < ds.length → J.yld i H x H' → ∃ G' d, Stp K G H M G' H' M ∧ ds[i]? = some d ∧ Den K G' d x
 stop : ∀ i G H M, Same G0 G → Rel K G H M → i = ds.length → J.stop i H
theorem yd_list {K : Fg} {a : Addr} {vs : List V} {ds : List D} {G0 : Hp} (s : SqL K G0 a vs) (dn : Dens K G0 ds vs) : YD K (Itl K a) ds G0 where
 go := fun i G H M sg rl h => pX.go i H (rl.same.seq (sg.seq s)) (by rw [← dn.len]; exact h)
 yld := fun i G H M x H' sg rl h y => by
  obtain ⟨e, hx⟩ := pX.yld i H x H' (rl.same.seq (sg.seq s)) y (by rw [← dn.len]; exact h)
  subst e
  obtain ⟨d, hd, e⟩ := dn.get' hx
  exact ⟨G, d, Stp.refl rl, hd, e.up sg⟩
 stop := fun i G H M sg rl h => pX.stop i H (rl.same.seq (sg.seq s)) (by rw [← dn.len]; exact Nat.le_of_eq h.symm)
theorem yd_tup {K : Fg} {a : Addr} {vs : List V} {ds : List D} {G0 : Hp} (s : SqT K G0 a vs) (dn : Dens K G0 ds vs) : YD K (Itt K a) ds G0 where
 go := fun i G H M sg rl h => yl_tup.go i H (R.seqT rl.same (R.seqT sg s)) (by rw [← dn.len]; exact h)
 yld := fun i G H M x H' sg rl h y => by
  obtain ⟨e, hx⟩ := yl_tup.yld i H x H' (R.seqT rl.same (R.seqT sg s)) y (by rw [← dn.len]; exact h)
  subst e
  obtain ⟨d, hd, e⟩ := dn.get' hx
  exact ⟨G, d, Stp.refl rl, hd, e.up sg⟩
 stop := fun i G H M sg rl h => yl_tup.stop i H (R.seqT rl.same (R.seqT sg s)) (by rw [← dn.len]; exact Nat.le_of_eq h.symm)
def rngD (lo : Int) (n : Nat) : List D := (List.range n).map fun i => D.int (lo + (i : Nat))
theorem bQ (lo : Int) (n : Nat) : (rngD lo n).length = n := by simp [rngD]
theorem cW {lo : Int} {n i : Nat} {d : D} (h : (rngD lo n)[i]? = some d) : i < n ∧ d = .int (lo + (i : Nat)) := by
 have hi : i < n := by rw [← bQ lo n]; exact (List.getElem?_eq_some_iff.mp h).1
 simp [rngD, hi] at h
 exact ⟨hi, h.symm⟩
theorem yd_rng {K : Fg} {lo : Int} {n : Nat} {G0 : Hp} : YD K (Itr lo n) (rngD lo n) G0 where
 go := fun i G H M sg rl h => by rw [bQ] at h; exact h
 yld := fun i G H M x H' sg rl h y => by
  obtain ⟨e, hx⟩ := y
  subst e hx
  rw [bQ] at h
  exact ⟨G, _, Stp.refl rl, by simp [rngD, h], cU⟩
 stop := fun i G H M sg rl h => by rw [bQ] at h; exact Nat.le_of_eq h.symm
def strD (x : Str) : List D := x.cps.toList.map fun c => D.str ⟨#[c]⟩
theorem dP (x : Str) : (strD x).length = x.length := by simp [strD, Str.length]
theorem yd_str {K : Fg} {x : Str} {G0 : Hp} : YD K (Its x) (strD x) G0 where
 go := fun i G H M sg rl h => by rw [dP] at h; exact h
 yld := fun i G H M v H' sg rl h y => by
  obtain ⟨e, c, hc, ev⟩ := y
  subst e ev
  exact ⟨G, .str ⟨#[c]⟩, Stp.refl rl, by simp only [strD, List.getElem?_map, Array.getElem?_toList, hc, Option.map_some], fM⟩
 stop := fun i G H M sg rl h => by rw [dP] at h; exact Nat.le_of_eq h.symm
variable {tg iter : Expr} {ki : List D → Mem → Prop}
def GI (X : Cx) (tg iter : Expr) (Γ : Gm) (M : Mem) (ki : List D → Mem → Prop) : Prop :=
 ∀ σ G H R, EnvR X.K G Γ σ → Rel X.K G H M → (∀ J G' H' ds M', Stp X.K G H M G' H' M' → YD X.K J ds G' → ki ds M' → R J H') → tUI X tg iter σ H R
def iAny (K : Fg) (tl : TE) : TI := fun σ H R => tl σ H fun x H1 => ∃ a, x = .ref a ∧ (((∃ xs, SqL K H1 a xs) ∧ R (Itl K a) H1) ∨ ((∃ xs, SqT K H1 a xs) ∧ R (Itt K a) H1))
theorem pi_any {l : Expr} {tl : TE} (hl : PE X l tl) : PI X tg l (iAny X.K tl) := by
 intro pins s σ H R I h
 refine thn (hl pins s σ H _ I h) fun v s1 ⟨x, H1, I1, r1, q1⟩ => ?_
 obtain ⟨a, e, q⟩ := q1
 subst e
 cases r1
 have fp : ∀ b ∈ [s1.heap.objs.size], FpOk X pins H1 b := fun b hb => by
  have e : b = s1.heap.objs.size := by simpa using hb
  subst e
  exact I1.fpOk (Nat.le_refl _) (I1.hok.fresh (Nat.le_refl _))
 rcases q with ⟨⟨xs, hq⟩, q⟩ | ⟨⟨xs, hq⟩, q⟩
 ·obtain ⟨its, r', pl, hz⟩ := I1.list hq
  refine wpAny_pyIter_list pl.isList ?_
  exact ⟨s1.heap.objs.size, [s1.heap.objs.size], _, Itl X.K a, H1, rfl, I1.kept (t' := s1.toks) fun b o e => Heap.get?_push_of_some _ e, turn_list a _, ⟨_, Heap.get?_push_size _ rfl, rfl, rfl⟩, fp, q⟩
 ·obtain ⟨its, r', pl, hz⟩ := I1.tuple hq
  refine wpAny_pyIter_tuple pl ?_
  exact ⟨s1.heap.objs.size, [s1.heap.objs.size], _, Itt X.K a, H1, rfl, I1.kept (t' := s1.toks) fun b o e => Heap.get?_push_of_some _ e, uS a _, ⟨_, Heap.get?_push_size _ rfl, rfl, rfl⟩, fp, q⟩
theorem bR (h : GE X iter Γ M fun d M1 => ∃ ds, (d = .tup ds ∨ d = .lst ds ∨ d = .fl ds) ∧ ki ds M1) : GI X tg iter Γ M ki := fun σ G H Rr en rl q => by
 refine jK (pi_any pU) ?_
 refine h σ G H _ en rl fun v G1 H1 d M1 s1 e1 ⟨ds, ed, h1⟩ => ?_
 rcases ed with rfl | rfl | rfl
 ·obtain ⟨a, vs, ev, s, dn⟩ := e1.tup_
  exact ⟨a, ev, .inr ⟨⟨vs, R.seqT s1.rel.same s⟩, q _ _ _ _ _ s1 (yd_tup s dn) h1⟩⟩
 ·obtain ⟨a, vs, ev, s, dn⟩ := e1.lst_
  exact ⟨a, ev, .inl ⟨⟨vs, SqL.of (s1.rel.same _ _ s)⟩, q _ _ _ _ _ s1 (yd_list (SqL.of s) dn) h1⟩⟩
 ·obtain ⟨a, vs, ev, s, dn⟩ := e1.fl_
  exact ⟨a, ev, .inl ⟨⟨vs, s1.rel.same.seq s⟩, q _ _ _ _ _ s1 (yd_list s dn) h1⟩⟩
theorem eZ {p : Pos} (hm : X.mg "range" = none) (h : GA X [a] Γ M fun ds M1 => ∃ j : Int, ds = [.int j] ∧ -(2 ^ 62) ≤ j ∧ j < 2 ^ 62 ∧ ki (rngD 0 j.toNat) M1) (hg : Gl X "range" := by rfl) (hs : starEach [a] X.env = [(false, eval a X.env)] := by rfl) : GI X tg (.Call (.Name "range" p) [a] [] pos) Γ M ki := fun σ G H R en rl q => by
 refine jK (pi_range1 hg hm pUA hs) ?_
 refine h σ G H _ en rl fun vs G1 H1 ds M1 s1 e1 ⟨j, ed, h1, h2, h3⟩ => ?_
 subst ed
 obtain ⟨v, rfl, dv⟩ := dens1 e1
 rw [dv.int_]
 exact ⟨j, rfl, h1, h2, q _ _ _ _ _ s1 yd_rng h3⟩
theorem gi_rng2 {p : Pos} (hm : X.mg "range" = none) (h : GA X [a, b] Γ M fun ds M1 => ∃ i j : Int, ds = [.int i, .int j] ∧ (-(2 ^ 62) ≤ i ∧ i < 2 ^ 62 ∧ -(2 ^ 62) ≤ j ∧ j < 2 ^ 62) ∧ ki (rngD i (j - i).toNat) M1) (hg : Gl X "range" := by rfl)
  (hs : starEach [a, b] X.env = [(false, eval a X.env), (false, eval b X.env)] := by rfl) (hs2 : starEach [b] X.env = [(false, eval b X.env)] := by rfl) : GI X tg (.Call (.Name "range" p) [a, b] [] pos) Γ M ki := fun σ G H R en rl q => by
 refine jK (pi_range2 hg hm pUA hs hs2) ?_
 refine h σ G H _ en rl fun vs G1 H1 ds M1 s1 e1 ⟨i, j, ed, h1, h3⟩ => ?_
 subst ed
 obtain ⟨v, u, rfl, dv, du⟩ := dens2 e1
 rw [dv.int_, du.int_]
 exact ⟨i, j, rfl, h1, q _ _ _ _ _ s1 yd_rng h3⟩
theorem gi_str (h : GE X iter Γ M fun d M1 => ∃ x, d = .str x ∧ ki (strD x) M1) : GI X tg iter Γ M ki := fun σ G H R en rl q => by
 refine jK (pi_str pU) ?_
 exact h σ G H _ en rl fun v G1 H1 d M1 s1 e1 ⟨x, ed, h1⟩ => by subst ed; exact ⟨x, e1.str_, q _ _ _ _ _ s1 yd_str h1⟩
end
section
variable {K : Fg} {G H : Hp} {M : Mem} {Γ : Gm} {σ : St}
theorem join_some {α : Type} {o : Option (Option α)} {x : α} (h : o.join = some x) : o = some (some x) := by
 cases o with
 | none => cases h
 | some y => cases y with
  | none => cases h
  | some z => cases h; rfl
theorem EnvR.cap (h : EnvR K G Γ σ) {d : D} {v : V} (e : Den K G d v) (cap : List Nat) : EnvR K G (some d :: cap.map fun k => (Γ[k]?).join) (some v :: cap.map fun k => (σ[k]?).join) := by
 refine ⟨by simp, fun i c q => ?_⟩
 cases i with
 | zero => simp at q; subst q; exact ⟨v, rfl, e⟩
 | succ i =>
  rw [List.getElem?_cons_succ, List.getElem?_map] at q ⊢
  cases hc : cap[i]? with
  | none => rw [hc] at q; cases q
  | some j =>
   rw [hc, Option.map_some] at q
   have q' : (Γ[j]?).join = some c := by injection q
   obtain ⟨u, a, b⟩ := h.get j c (join_some q')
   exact ⟨u, by rw [Option.map_some, a]; rfl, b⟩
theorem Stp.aside {G0 H0 : Hp} {M0 : Mem} {p : Addr} {o : HO} (s : Stp K G0 H0 M0 G H M) (h0 : H0 p = none) (hg : G p = none) (hm : M p = none) : Stp K G0 H0 M0 G (upd H p o) M := by
 refine ⟨s.gg, ⟨fun b u e => ?_, fun a m e => ?_⟩, fun a u e1 e2 e3 => ?_⟩
 ·rw [aW (bH e hg)]; exact s.rel.same b u e
 ·have z : a ≠ p := fun z => by rw [z, hm] at e; cases e
  exact ⟨(s.rel.mem a m e).1, (s.rel.mem a m e).2.mv (Same.refl G) (aW z)⟩
 ·obtain ⟨x, y, z⟩ := s.fr a u e1 e2 e3
  exact ⟨by rw [aW (bH e1 h0)]; exact x, y, z⟩
theorem Stp.track {G0 H0 : Hp} {M0 : Mem} {p : Addr} {vs : List V} {ds : List D} (s : Stp K G0 H0 M0 G H M) (h0 : H0 p = none) (hg : G p = none) (hp : H p = some (.lst vs)) (dn : Dens K G ds vs) : Stp K G0 H0 M0 G H (updM M p (.lst ds)) := by
 refine ⟨s.gg, ⟨s.rel.same, fun a m e => ?_⟩, fun a u e1 e2 e3 => ?_⟩
 ·by_cases z : a = p
  ·subst z
   rw [bK] at e; cases e
   exact ⟨hg, vs, hp, dn⟩
  ·rw [dE z] at e; exact s.rel.mem a m e
 ·obtain ⟨x, y, z⟩ := s.fr a u e1 e2 e3
  exact ⟨x, y, by rw [dE (bH e1 h0)]; exact z⟩
end
def tUIf (Y : Cx) (ifs : List Expr) : TT := fun σ H Q => ∀ pins s, Inv Y pins σ H s →
  wpAny (model Y.prog Y.w) Y.A (forIn ifs true fun c r => if r = true then do let ok ← isTrue c Y.env (eval c Y.env); pure (ForInStep.yield ok) else pure (ForInStep.yield r)) (TP Y pins σ Q) Y.xe s
def GIf (Y : Cx) (ifs : List Expr) (Γ : Gm) (M : Mem) (kb : Bool → Mem → Prop) : Prop :=
 ∀ σ G H Q, EnvR Y.K G Γ σ → Rel Y.K G H M → m6 Y.K M kb G H Q → tUIf Y ifs σ H Q
theorem aZ {Y : Cx} {Γ : Gm} {M : Mem} {kb : Bool → Mem → Prop} (h : kb true M) : GIf Y [] Γ M kb := fun σ G H Q en rl q pins s I => pif_nil pins s σ H Q I (q _ _ _ _ (Stp.refl rl) h)
theorem pQ {Y : Cx} {c : Expr} {Γ : Gm} {M : Mem} {kb : Bool → Mem → Prop} (h : GT Y c Γ M kb) : GIf Y [c] Γ M kb := fun σ G H Q en rl q pins s I => pif_one pUT pins s σ H Q I (h σ G H Q en rl q)
def Comp (X : Cx) (x : Str) (ns : List Str) (cap : List Nat) (elt : Expr) (ifs : List Expr) (scope : Scope) (Γ : Gm) (k : D → Mem → Prop) (ds : List D) (M1 : Mem) : Prop :=
 ds.length ≤ sizeLine ∧ ∃ I : Nat → List D → Mem → Prop, I 0 [] M1 ∧
  (∀ i d acc M2, ds[i]? = some d → I i acc M2 → ∀ cs C s₀ H₀ fp, GIf (aR X scope cs C (x :: ns) s₀ H₀ fp) ifs (some d :: cap.map fun k => (Γ[k]?).join) M2 fun c M3 =>
   if c = true then (∀ cs C s₀ H₀ fp, GE (aR X scope cs C (x :: ns) s₀ H₀ fp) elt (some d :: cap.map fun k => (Γ[k]?).join) M3 (fun y M4 => I (i + 1) (acc ++ [y]) M4)) else I (i + 1) acc M3) ∧
  (∀ acc M2, I ds.length acc M2 → ∀ a, M2 a = none → k (.mt a) (updM M2 a (.lst acc)))
theorem comp_z {X : Cx} {x : Str} {px : Pos} {iter elt : Expr} {ifs : List Expr} {scope : Scope} {ns : List Str} {cap : List Nat} {Γ : Gm} {M : Mem} {k : D → Mem → Prop}
  (h : GI X (.Name x px) iter Γ M (Comp X x ns cap elt ifs scope Γ k)) {σ : St} {G H : Hp} {Q : VK} (en : EnvR X.K G Γ σ) (rl : Rel X.K G H M) (q : Cont X.K M k G H Q) :
  m9 (tUI X (.Name x px) iter) cap (fun σ H Q => ∀ cs C s₀ H₀ fp, tUIf (aR X scope cs C (x :: ns) s₀ H₀ fp) ifs σ H Q) (fun σ H Q => ∀ cs C s₀ H₀ fp, tU (aR X scope cs C (x :: ns) s₀ H₀ fp) elt σ H Q) σ H Q := by
 refine h σ G H _ en rl fun J G1 H1 ds M1 s1 yd ⟨hlen, I, h0, hstep, hend⟩ A hA => ?_
 have hA' := s1.rel.free hA
 refine ⟨fun i m ys H2 => m = ds.length - i ∧ i ≤ ds.length ∧ ∃ G2 M2 acc, Stp X.K G1 H1 M1 G2 H2 M2 ∧ H2 A = some (.lst ys) ∧ G2 A = none ∧ M2 A = none ∧ Dens X.K G2 acc ys ∧ I i acc M2 ∧ acc.length ≤ i,
  ⟨ds.length, by simp, Nat.zero_le _, G1, M1, [], (Stp.refl s1.rel).aside hA hA'.1 hA'.2, bG, hA'.1, hA'.2, cF, h0, Nat.le_refl _⟩, ?_⟩
 rintro i m ys H2 ⟨rfl, hi, G2, M2, acc, s2, hl, hg, hm, dn, hI, hacc⟩
 refine ⟨hl, ?_⟩
 by_cases hlt : i < ds.length
 ·refine .inr ⟨yd.go i G2 H2 M2 s2.gg s2.rel hlt, by rw [← dn.len]; omega, fun x H3 y => ?_⟩
  obtain ⟨G3, d, s3, hd, ex⟩ := yd.yld i G2 H2 M2 x H3 s2.gg s2.rel hlt y
  obtain ⟨l3, g3, m3⟩ := s3.fr A _ hl hg hm
  intro cs C s₀ H₀ fp
  have en3 := ((en.up s1.gg).up (s2.trans s3).gg).cap ex cap
  refine hstep i d acc M2 hd hI cs C s₀ H₀ fp _ G3 H3 _ en3 s3.rel fun c G4 H4 M4 s4 h4 => ?_
  obtain ⟨l4, g4, m4⟩ := s4.fr A _ l3 g3 m3
  cases c with
  | true =>
   rw [if_pos rfl] at h4 ⊢
   intro cs C s₀ H₀ fp
   refine h4 cs C s₀ H₀ fp _ G4 H4 _ (en3.up s4.gg) s4.rel fun y G5 H5 d5 M5 s5 e5 h5 => ?_
   obtain ⟨l5, g5, m5⟩ := s5.fr A _ l4 g4 m4
   have s25 := ((s2.trans s3).trans s4).trans s5
   exact ⟨l5, ds.length - (i + 1), by omega, rfl, hlt, G5, M5, acc ++ [d5], s25.aside hA g5 m5, bG, g5, m5, (dn.up ((s3.trans s4).trans s5).gg).append (bZ e5 cF), h5, by rw [List.length_append, List.length_singleton]; omega⟩
  | false =>
   rw [if_neg Bool.false_ne_true] at h4 ⊢
   exact ⟨ds.length - (i + 1), by omega, rfl, hlt, G4, M4, acc, (s2.trans s3).trans s4, l4, g4, m4, dn.up (s3.trans s4).gg, h4, by omega⟩
 ·have e : i = ds.length := by omega
  subst e
  exact .inl ⟨yd.stop _ G2 H2 M2 s2.gg s2.rel rfl, q _ _ _ _ _ (s1.trans (s2.track hA hg hl dn)) den_mt (hend acc M2 hI A hm)⟩
end Z
namespace Z
open PySem L2
section
variable {X : Cx} {Γ : Gm} {M : Mem} {k : D → Mem → Prop} {F : Fin} {pos : Pos} {a b c e o tg iter : Expr} {st : Stmt} {ss body : List Stmt}
theorem ge_comp {x : Str} {px : Pos} {elt : Expr} {ifs : List Expr} {scope sc : Scope} {N : List Str} (ns : List Str) (cap : List Nat) (h : GI X (.Name x px) iter Γ M (Comp X x ns cap elt ifs scope Γ k))
  (hsc : X.env.scope = sc := by rfl) (hN : X.N = N := by rfl) (ok : gW sc scope x ns cap N = true := by first | decide +kernel | kernel_rfl!) (hc : X.calm = true := by rfl) (hs : ∀ v, foldedSetIterable iter X.env v = pure v := by intro _; rfl) :
  GE X (.ListComp elt [⟨.Name x px, iter, ifs, 0⟩] scope pos) Γ M k := fun σ G H Q en rl q =>
 bW (pe_compA ns cap hc hsc hN ok pUI (fun cs C s₀ H₀ fp pins s σ H Q I h => h cs C s₀ H₀ fp pins s I) (fun cs C s₀ H₀ fp pins s σ H Q I h => h cs C s₀ H₀ fp pins s I) hs) (comp_z h en rl q)
def CompF (X : Cx) (x : Str) (ns : List Str) (cap : List Nat) (elt : Expr) (ifs : List Expr) (scope : Scope) (Γ : Gm) (k : D → Mem → Prop) (ds : List D) (M1 : Mem) : Prop :=
 ds.length ≤ sizeLine ∧ ∃ I : Nat → List D → Mem → Prop, I 0 [] M1 ∧
  (∀ i d acc M2, ds[i]? = some d → I i acc M2 → ∀ cs C s₀ H₀ fp, GIf (aR X scope cs C (x :: ns) s₀ H₀ fp) ifs (some d :: cap.map fun k => (Γ[k]?).join) M2 fun c M3 =>
   if c = true then (∀ cs C s₀ H₀ fp, GE (aR X scope cs C (x :: ns) s₀ H₀ fp) elt (some d :: cap.map fun k => (Γ[k]?).join) M3 (fun y M4 => I (i + 1) (acc ++ [y]) M4)) else I (i + 1) acc M3) ∧
  (∀ acc M2, I ds.length acc M2 → k (.lst acc) M2)
theorem aX {x : Str} {px : Pos} {elt : Expr} {ifs : List Expr} {scope sc : Scope} {N : List Str} (ns : List Str) (cap : List Nat) (h : GI X (.Name x px) iter Γ M (CompF X x ns cap elt ifs scope Γ k))
  (hsc : X.env.scope = sc := by rfl) (hN : X.N = N := by rfl) (ok : gW sc scope x ns cap N = true := by first | decide +kernel | kernel_rfl!) (hc : X.calm = true := by rfl) (hs : ∀ v, foldedSetIterable iter X.env v = pure v := by intro _; rfl) :
  GE X (.ListComp elt [⟨.Name x px, iter, ifs, 0⟩] scope pos) Γ M k := by
 refine ge_frz (ge_comp ns cap ?_ hsc hN ok hc hs)
 intro σ G H Rr en rl q
 refine h σ G H Rr en rl fun J G1 H1 ds M1 s1 yd ⟨hl, I, h0, hstep, hend⟩ => ?_
 exact q J G1 H1 ds M1 s1 yd ⟨hl, I, h0, hstep, fun acc M2 hI a ha => ⟨a, acc, M2, rfl, bK, ha, (Le.refl M2).upd ha, hend acc M2 hI⟩⟩
theorem bT {x : Str} {ns : List Str} {cap : List Nat} {elt : Expr} {ifs : List Expr} {scope : Scope} {ds : List D} {M1 : Mem} (hl : ds.length ≤ sizeLine) (I : Nat → List D → Mem → Prop) (h0 : I 0 [] M1)
  (hs : ∀ i d acc M2, ds[i]? = some d → I i acc M2 → ∀ cs C s₀ H₀ fp, GIf (aR X scope cs C (x :: ns) s₀ H₀ fp) ifs (some d :: cap.map fun k => (Γ[k]?).join) M2 fun c M3 =>
   if c = true then (∀ cs C s₀ H₀ fp, GE (aR X scope cs C (x :: ns) s₀ H₀ fp) elt (some d :: cap.map fun k => (Γ[k]?).join) M3 (fun y M4 => I (i + 1) (acc ++ [y]) M4)) else I (i + 1) acc M3)
  (hd : ∀ acc M2, I ds.length acc M2 → k (.lst acc) M2) : CompF X x ns cap elt ifs scope Γ k ds M1 := ⟨hl, I, h0, hs, hd⟩
theorem bC (h : F.nx Γ M) : GS X [] Γ M F := fun σ G H E en rl q => pT pss_nil (q.nx σ G H Γ M (Stp.refl rl) en h)
theorem aE (h : G1 X st Γ M { F with nx := fun Γ' M' => GS X ss Γ' M' F }) : GS X (st :: ss) Γ M F := fun σ G H E en rl q => by
 refine pT (pss_cons pUS pUSs) ?_
 refine h σ G H _ en rl ⟨fun σ' G' H' Γ' M' s' en' h' => ?_, q.rt, q.bk, q.ct⟩
 exact h' σ' G' H' E en' s'.rel (q.up s')
theorem aI (h : G1 X st Γ M F) : GS X [st] Γ M F := fun σ G H E en rl q => pT (pss_one pUS) (h σ G H E en rl q)
theorem iK (i : Nat) {a : Addr} {ds : List D} (hΓ : Γ[i]? = some (some (.mt a))) (hM : M a = some (.lst ds)) (h : GS X ss (Γ.set i (some (.lst ds))) (delM M a) F) : GS X ss Γ M F := fun σ G H E en rl q => by
 obtain ⟨vs, x1, x2, s1⟩ := rl.frz hM
 obtain ⟨v, ev, dv⟩ := en.get i _ hΓ
 have dl : Den X.K (upd G a (.lst vs)) (.lst ds) v := by rw [dv.mt_]; exact gE bG (x2.up s1.gg)
 have en' := (en.up s1.gg).set dl i
 have es : σ.set i (some v) = σ := by
  apply List.ext_getElem?
  intro j
  rw [List.getElem?_set]
  by_cases z : i = j
  ·subst z
   rw [if_pos rfl, if_pos (List.getElem?_eq_some_iff.mp ev).1, ev]
  ·rw [if_neg z]
 rw [es] at en'
 exact h σ _ H E en' s1.rel (q.up s1)
theorem aO (i : Nat) {x : Str} {pos' : Pos} (hN : X.N.Nodup) (h : GE X e Γ M fun d M1 => F.nx (Γ.set i (some d)) M1) (hi : X.N[i]? = some x := by rfl) (hx : Loc X.env.scope x := by first | exact Or.inl rfl | exact Or.inr rfl)
  (hs : swapsWith e (some (.Name x pos')) pos.line X.env = pure false := by rfl) (hf : X.fn x = true ∨ X.env.scope.names.lookup x = some .local := by first | exact .inl rfl | exact .inr rfl) : G1 X (.Assign [.Name x pos'] e pos) Γ M F := fun σ G H E en rl q => by
 refine gU (ps_set hN hi hx pU hs hf) ?_
 exact h σ G H _ en rl fun v G1 H1 d M1 s1 e1 h1 => q.nx _ _ _ _ _ s1 ((en.up s1.gg).set e1 i) h1
theorem gJ (iy : Nat) {x y : Str} {px py spos : Pos} {elt : Expr} {ifs : List Expr} {scope sc : Scope} {N : List Str} (ns : List Str) (cap : List Nat) (hNd : N.Nodup) (h : GI X (.Name x px) iter Γ M (Comp X x ns cap elt ifs scope Γ fun d M1 => F.nx (Γ.set iy (some d)) M1))
  (hsc : X.env.scope = sc := by rfl) (hN : X.N = N := by rfl) (ok : gW sc scope x ns cap N = true := by first | decide +kernel | kernel_rfl!) (hiy : N[iy]? = some y := by rfl) (hyl : sc.names.lookup y = some .local := by rfl) (hc : X.calm = true := by rfl) (hs : ∀ v, foldedSetIterable iter X.env v = pure v := by intro _; rfl)
  (hsw : swapsWith (.ListComp elt [⟨.Name x px, iter, ifs, 0⟩] scope pos) (some (.Name y py)) spos.line X.env = pure true := by rfl) :
  G1 X (.Assign [.Name y py] (.ListComp elt [⟨.Name x px, iter, ifs, 0⟩] scope pos) spos) Γ M F := fun σ G H E en rl q => by
 refine gU (tL (tt := fun σ H Q => ∀ cs C s₀ H₀ fp, tUIf (aR X scope cs C (x :: ns) s₀ H₀ fp) ifs σ H Q) (te := fun σ H Q => ∀ cs C s₀ H₀ fp, tU (aR X scope cs C (x :: ns) s₀ H₀ fp) elt σ H Q) iy ns cap hNd hiy hyl hc hsc hN ok pUI (fun cs C s₀ H₀ fp pins s σ H Q I h => h cs C s₀ H₀ fp pins s I) (fun cs C s₀ H₀ fp pins s σ H Q I h => h cs C s₀ H₀ fp pins s I) hs hsw) ?_
 exact comp_z h en rl fun v G1 H1 d M1 s1 e1 h1 => q.nx _ _ _ _ _ s1 ((en.up s1.gg).set e1 iy) h1
theorem compM {x : Str} {ns : List Str} {cap : List Nat} {elt : Expr} {ifs : List Expr} {scope : Scope} {ds : List D} {M1 : Mem} (hl : ds.length ≤ sizeLine) (I : Nat → List D → Mem → Prop) (h0 : I 0 [] M1)
  (hs : ∀ i d acc M2, ds[i]? = some d → I i acc M2 → ∀ cs C s₀ H₀ fp, GIf (aR X scope cs C (x :: ns) s₀ H₀ fp) ifs (some d :: cap.map fun k => (Γ[k]?).join) M2 fun c M3 =>
   if c = true then (∀ cs C s₀ H₀ fp, GE (aR X scope cs C (x :: ns) s₀ H₀ fp) elt (some d :: cap.map fun k => (Γ[k]?).join) M3 (fun y M4 => I (i + 1) (acc ++ [y]) M4)) else I (i + 1) acc M3)
  (hd : ∀ acc M2, I ds.length acc M2 → ∀ a, M2 a = none → k (.mt a) (updM M2 a (.lst acc))) : Comp X x ns cap elt ifs scope Γ k ds M1 :=
 ⟨hl, I, h0, hs, hd⟩
theorem pJ (h : GE X e Γ M fun d M1 => GG X tg d Γ M1 F.nx) (hs : swapsWithSole [tg] e pos.line X.env = pure false := by rfl) (hw : swappedStores [tg] e X.env = pure none := by rfl)
  (h1 : (assignEach [tg] X.env).map (·.2) = [assign tg X.env] := by rfl) : G1 X (.Assign [tg] e pos) Γ M F := fun σ G H E en rl q => by
 refine gU (ps_asg pU pUG hs hw h1) ?_
 exact h σ G H _ en rl fun v G1 H1 d M1 s1 e1 h1 => h1 σ G1 H1 v _ (en.up s1.gg) s1.rel e1 (q.nx.up s1)
theorem g1_par (i j : Nat) {x y : Str} {px py pt : Pos} {kt k2 pt2} (hN : X.N.Nodup) (hij : i ≠ j) (h : GA X [a, b] Γ M fun ds M1 => ∃ d1 d2, ds = [d1, d2] ∧ F.nx ((Γ.set i (some d1)).set j (some d2)) M1) (hi : X.N[i]? = some x := by rfl) (hj : X.N[j]? = some y := by rfl)
  (hx : X.env.scope.names.lookup x = some .local := by rfl) (hy : X.env.scope.names.lookup y = some .local := by rfl) (hc : X.calm = true := by rfl)
  (hw : swappedStores [.Tuple [.Name x px, .Name y py] kt pt] (.Tuple [a, b] k2 pt2) X.env = pure (some [x, y]) := by rfl)
  (hs : swapsWithSole [.Tuple [.Name x px, .Name y py] kt pt] (.Tuple [a, b] k2 pt2) pos.line X.env = pure false := by rfl) :
  G1 X (.Assign [.Tuple [.Name x px, .Name y py] kt pt] (.Tuple [a, b] k2 pt2) pos) Γ M F := fun σ G H E en rl q => by
 refine gU (ps_par hc hN hi hj hij hx hy pUA hw hs) ?_
 refine h σ G H _ en rl fun vs G1 H1 ds M1 s1 e1 ⟨d1, d2, ed, h1⟩ => ?_
 subst ed
 obtain ⟨v, u, rfl, dv, du⟩ := dens2 e1
 exact ⟨v, u, rfl, q.nx _ _ _ _ _ s1 (((en.up s1.gg).set dv i).set du j) h1⟩
variable {kg : Gm → Mem → Prop} {d : D}
theorem c8 (i : Nat) {x : Str} (hN : X.N.Nodup) (h : kg (Γ.set i (some d)) M) (hi : X.N[i]? = some x := by rfl) (hx : Loc X.env.scope x := by first | exact Or.inl rfl | exact Or.inr rfl)
  (hf : X.fn x = true ∨ X.env.scope.names.lookup x = some .local := by first | exact .inl rfl | exact .inr rfl) : GG X (.Name x pos) d Γ M kg := fun σ G H v Q en rl e q =>
 tUG_of (nB hN hi hx hf) (q _ _ _ _ _ (Stp.refl rl) (en.set e i) h)
theorem ggs_nil (h : kg Γ M) : GGs X [] [] Γ M kg := fun σ G H vs Q en rl e q => tUGs_of pgs_nil ⟨b8 e, q _ _ _ _ _ (Stp.refl rl) en h⟩
theorem fE {tgs : List Expr} {ds : List D} (h : GG X tg d Γ M fun Γ1 M1 => GGs X tgs ds Γ1 M1 kg) (hs : (assignEach (tg :: tgs) X.env).map (·.2) = assign tg X.env :: (assignEach tgs X.env).map (·.2) := by rfl) : GGs X (tg :: tgs) (d :: ds) Γ M kg := fun σ G H vs Q en rl e q => by
 refine tUGs_of (oE pUG pUGs hs) ?_
 obtain ⟨v, r, ev, e1, e2⟩ := bU e
 refine ⟨v, r, ev, h σ G H v _ en rl e1 fun σ1 G1 H1 Γ1 M1 s1 en1 h1 => ?_⟩
 exact h1 σ1 G1 H1 r Q en1 s1.rel (e2.up s1.gg) (q.up s1)
theorem gg_lst {tgs : List Expr} {kk : Nat} {n : Nat} {ds : List D} (hl : ds.length = n) (h : GGs X tgs ds Γ M kg) (hc : X.calm = true := by rfl) (hn : (assignEach tgs X.env).length = n := by rfl) (hst : (assignEach tgs X.env).findIdx? (·.1) = none := by rfl) :
  GG X (.Tuple tgs kk pos) (.lst ds) Γ M kg := fun σ G H v Q en rl e q => by
 refine tUG_of (pg_lst hc pUGs hn hst) ?_
 obtain ⟨a, vs, ev, s, dn⟩ := e.lst_
 exact ⟨a, vs, ev, SqL.of (rl.same _ _ s), by rw [← dn.len]; exact hl, h σ G H vs Q en rl dn q⟩
theorem gg_sub {i : Expr} (h : GE X o Γ M fun d1 M1 => GE X i Γ M1 fun d2 M2 => ∃ a n j ds, d1 = .mt a ∧ d2 = .int n ∧ M2 a = some (.lst ds) ∧ ixN ds.length n = some j ∧ kg Γ (updM M2 a (.lst (ds.set j d))))
  (ha : ∀ v, assign (.Subscript o i pos) X.env v = (do
   let ov ← holding [v] (eval o X.env)
   let iv ← holding [v, ov] (eval i X.env)
   standAt pos
   holding [v, ov, iv] (setItem ov iv v)
   release [v, ov, iv] []) := by intro _; rfl) : GG X (.Subscript o i pos) d Γ M kg := fun σ G H v Q en rl e q => by
 refine tUG_of (pg_sub pU pU set_list ha) ?_
 refine h σ G H _ en rl fun v1 G1 H1 d1 M1 s1 e1 h1 => ?_
 refine h1 σ G1 H1 _ (en.up s1.gg) s1.rel fun v2 G2 H2 d2 M2 s2 e2 ⟨a, n, j, ds, x1, x2, hm, hj, h2⟩ => ?_
 subst x1 x2
 obtain ⟨_, vs, es, dn⟩ := s2.rel.mem _ _ hm
 have s12 := s1.trans s2
 exact ⟨a, vs, n, j, (e1.up s2.gg).mt_, e2.int_, es, by rw [← dn.len]; exact hj, q _ _ _ _ _ (s12.trans (s2.rel.wr hm (dn.set (e.up s12.gg) j))) (en.up s12.gg) h2⟩
theorem p7 (h : GE X e Γ M fun _ M1 => F.nx Γ M1) (hs : swapsWith e none pos.line X.env = pure false := by rfl) : G1 X (.Expr e pos) Γ M F := fun σ G H E en rl q =>
 gU (ps_expr pU hs) (h σ G H _ en rl fun v G1 H1 d M1 s1 e1 h1 => q.nx _ _ _ _ _ s1 (en.up s1.gg) h1)
theorem aQ (h : GE X e Γ M F.rt) : G1 X (.Return (some e) pos) Γ M F := fun σ G H E en rl q => gU (ps_ret pU) (h σ G H _ en rl q.rt)
theorem bF {ss1 ss2 : List Stmt} (h : GT X c Γ M fun t M1 => if t = true then GS X ss1 Γ M1 F else GS X ss2 Γ M1 F) : G1 X (.If c ss1 ss2 pos) Γ M F := fun σ G H E en rl q => by
 refine gU (ps_if pUT pUSs pUSs) ?_
 refine h σ G H _ en rl fun t G1 H1 M1 s1 h1 => ?_
 cases t with
 | true => rw [if_pos rfl] at h1 ⊢; exact h1 σ G1 H1 E (en.up s1.gg) s1.rel (q.up s1)
 | false => rw [if_neg Bool.false_ne_true] at h1 ⊢; exact h1 σ G1 H1 E (en.up s1.gg) s1.rel (q.up s1)
theorem jG (P : Gm → Mem → Prop) (h : G1 X st Γ M { F with nx := P }) (h2 : ∀ Γ' M', P Γ' M' → F.nx Γ' M') : G1 X st Γ M F := fun σ G H E en rl q => h σ G H E en rl ⟨fun σ' G' H' Γ' M' s' en' h' => q.nx σ' G' H' Γ' M' s' en' (h2 _ _ h'), q.rt, q.bk, q.ct⟩
def Loop (X : Cx) (tg : Expr) (body : List Stmt) (Γ : Gm) (F : Fin) (ds : List D) (M : Mem) : Prop := ∃ I : Nat → Gm → Mem → Prop, I 0 Γ M ∧
 (∀ i d Γ' M', ds[i]? = some d → I i Γ' M' → GG X tg d Γ' M' fun Γ2 M2 => GS X body Γ2 M2 { F with nx := I (i + 1), ct := I (i + 1), bk := F.nx }) ∧ ∀ Γ' M', I ds.length Γ' M' → F.nx Γ' M'
theorem lR (h : GI X tg iter Γ M (Loop X tg body Γ F)) (hp : PassesOwn (model X.prog X.w) X.A X.env X.xe := by exact PassesOwn.never) (hc : X.calm = true := by rfl) (hs : ∀ x, foldedSetIterable iter X.env x = pure x := by intro _; rfl) : G1 X (.For tg iter body [] pos) Γ M F := fun σ G H E en rl q => by
 refine gU (ps_for hp hc pUI pUG pUSs hs) ?_
 refine h σ G H _ en rl fun J G1 H1 ds M1 s1 yd ⟨I, h0, hstep, hend⟩ => ?_
 refine ⟨fun i m σ' H' => m = ds.length - i ∧ i ≤ ds.length ∧ ∃ G' Γ' M', Stp X.K G1 H1 M1 G' H' M' ∧ EnvR X.K G' Γ' σ' ∧ I i Γ' M', ⟨ds.length, by simp, Nat.zero_le _, G1, Γ, M1, Stp.refl s1.rel, en.up s1.gg, h0⟩, ?_⟩
 rintro i m σ2 H2 ⟨rfl, hi, G2, Γ2, M2, s2, en2, hI⟩
 by_cases hlt : i < ds.length
 ·refine .inr ⟨yd.go i G2 H2 M2 s2.gg s2.rel hlt, fun σ' H' => ∃ G' Γ' M', Stp X.K G1 H1 M1 G' H' M' ∧ EnvR X.K G' Γ' σ' ∧ I (i + 1) Γ' M', fun σ' H' z => ⟨ds.length - (i + 1), by omega, rfl, hlt, z⟩, fun x H3 y => ?_⟩
  obtain ⟨G3, d, s3, hd, ex⟩ := yd.yld i G2 H2 M2 x H3 s2.gg s2.rel hlt y
  have s13 := s2.trans s3
  refine hstep i d Γ2 M2 hd hI σ2 G3 H3 x _ (en2.up s3.gg) s3.rel ex fun σ4 G4 H4 Γ4 M4 s4 en4 h4 => ?_
  have s14 := s13.trans s4
  refine h4 σ4 G4 H4 _ en4 s4.rel ⟨fun σ5 G5 H5 Γ5 M5 s5 en5 h5 => ⟨G5, Γ5, M5, s14.trans s5, en5, h5⟩, q.rt.up (s1.trans s14), q.nx.up (s1.trans s14), fun σ5 G5 H5 Γ5 M5 s5 en5 h5 => ⟨G5, Γ5, M5, s14.trans s5, en5, h5⟩⟩
 ·have e : i = ds.length := by omega
  subst e
  exact .inl ⟨yd.stop _ G2 H2 M2 s2.gg s2.rel rfl, q.nx _ _ _ _ _ (s1.trans s2) en2 (hend _ _ hI)⟩
theorem n9 (I : Nat → Gm → Mem → Prop) {n : Nat} (h0 : I n Γ M)
  (hs : ∀ m Γ' M', I m Γ' M' → GT X c Γ' M' fun t M1 => if t = true then GS X body Γ' M1 { F with nx := fun Γ2 M2 => ∃ m', m' < m ∧ I m' Γ2 M2, ct := fun Γ2 M2 => ∃ m', m' < m ∧ I m' Γ2 M2, bk := F.nx } else F.nx Γ' M1)
  (hp : PassesOwn (model X.prog X.w) X.A X.env X.xe := by exact PassesOwn.never) : G1 X (.While c body [] pos) Γ M F := fun σ G H E en rl q => by
 refine gU (ps_while hp pUT pUSs) ?_
 refine ⟨fun m σ' H' => ∃ G' Γ' M', Stp X.K G H M G' H' M' ∧ EnvR X.K G' Γ' σ' ∧ I m Γ' M', ⟨n, G, Γ, M, Stp.refl rl, en, h0⟩, ?_⟩
 rintro m σ2 H2 ⟨G2, Γ2, M2, s2, en2, hI⟩
 refine hs m Γ2 M2 hI σ2 G2 H2 _ en2 s2.rel fun t G3 H3 M3 s3 h3 => ?_
 have s13 := s2.trans s3
 cases t with
 | true =>
  rw [if_pos rfl] at h3 ⊢
  refine ⟨fun σ' H' => ∃ m', m' < m ∧ ∃ G' Γ' M', Stp X.K G H M G' H' M' ∧ EnvR X.K G' Γ' σ' ∧ I m' Γ' M', fun σ' H' z => z, ?_⟩
  refine h3 σ2 G3 H3 _ (en2.up s3.gg) s3.rel ⟨fun σ5 G5 H5 Γ5 M5 s5 en5 ⟨m', hm, h5⟩ => ⟨m', hm, G5, Γ5, M5, s13.trans s5, en5, h5⟩, q.rt.up s13, q.nx.up s13, fun σ5 G5 H5 Γ5 M5 s5 en5 ⟨m', hm, h5⟩ => ⟨m', hm, G5, Γ5, M5, s13.trans s5, en5, h5⟩⟩
 | false =>
  rw [if_neg Bool.false_ne_true] at h3 ⊢
  exact q.nx _ _ _ _ _ s13 (en2.up s3.gg) h3
end
section
variable {P : Program} {w : World} {K : Fg} {mg : Str → Option Value} {base : Heap}
abbrev cxF (P : Program) (w : World) (K : Fg) (mg : Str → Option Value) (base : Heap) (N : List Str) (x : Str) (st : Stmt) (f : Addr) (cdv : Value) (A : Around) (outer : List Env) (s : Shared) (H : Hp) (E : XK) : Cx :=
 (cxOf CX0 P w K mg base N x (aH st) f cdv A outer s H E).nox
theorem bB {x : Str} {st : Stmt} {ps N : List Str} {f : Addr} {fd : FuncData} {n : Nat} {F : Ct} (Df : R.Df K mg x st ps f fd) (S : FnScope N ps (aH st)) (len : ∀ ds M k, F ds M k → ds.length = ps.length)
  (h : ∀ cdv A outer s H E, Room n (cxF P w K mg base N x st f cdv A outer s H E).A → ∀ ds M k, F ds M k →
   GS (cxF P w K mg base N x st f cdv A outer s H E) (dW st) (ds.map some ++ List.replicate (N.length - ds.length) none) M { nx := fun _ M' => k .non M', rt := k }) : FnOk P w K mg base CX0 (n + 1) f fd ps (spZ K F) := by
 refine Df.F.ok S (fun vs H Q E h => ?_) (fun cdv A outer s H vs Q E hr hsp => ?_)
 ·obtain ⟨G, M, ds, k, rl, dn, hF, _⟩ := h
  rw [← dn.len]; exact len _ _ _ hF
 ·obtain ⟨G, M, ds, k, rl, dn, hF, q⟩ := hsp
  refine ⟨_, pUSs, ?_⟩
  refine h cdv A outer s H E hr ds M k hF (start N vs) G H _ (EnvR.start dn N.length) rl ⟨fun σ' G' H' Γ' M' s' en' h' => q _ _ _ _ _ s' den_non h', q, fun _ _ _ _ _ _ _ h' => h'.elim, fun _ _ _ _ _ _ _ h' => h'.elim⟩
end
end Z
namespace Z
open PySem L2
mutual
def eqD : D → D → Bool
 | .non, .non => true
 | .bl a, .bl b => a == b
 | .int a, .int b => a == b
 | .bl a, .int b => (if a then 1 else 0) == b
 | .int a, .bl b => a == (if b then 1 else 0)
 | .str a, .str b => a == b
 | .tup xs, .tup ys => eqDs xs ys
 | .lst xs, .lst ys => eqDs xs ys
 | _, _ => false
def eqDs : List D → List D → Bool
 | [], [] => true
 | x :: xs, y :: ys => eqD x y && eqDs xs ys
 | _, _ => false
end
mutual
def okD : Nat → D → Bool
 | _, .non | _, .bl _ | _, .int _ | _, .str _ => true
 | n + 1, .tup ds => okDs n ds
 | n + 1, .lst ds => okDs n ds
 | _, _ => false
def okDs : Nat → List D → Bool
 | _, [] => true
 | n, d :: ds => okD n d && okDs n ds
end
mutual
theorem eqD_refl : ∀ (n : Nat) (d : D), okD n d = true → eqD d d = true
 | _, .non, _ => by simp only [eqD]
 | _, .bl _, _ => by simp only [eqD, beq_self_eq_true]
 | _, .int _, _ => by simp only [eqD, beq_self_eq_true]
 | _, .str _, _ => by simp only [eqD, beq_self_eq_true]
 | n + 1, .tup ds, h => by simp only [okD] at h; simp only [eqD]; exact eqDs_refl n ds h
 | n + 1, .lst ds, h => by simp only [okD] at h; simp only [eqD]; exact eqDs_refl n ds h
 | 0, .tup _, h => by simp [okD] at h
 | 0, .lst _, h => by simp [okD] at h
 | _, .mt _, h => by simp [okD] at h
 | _, .fl _, h => by simp [okD] at h
theorem eqDs_refl : ∀ (n : Nat) (ds : List D), okDs n ds = true → eqDs ds ds = true
 | _, [], _ => by simp only [eqDs]
 | n, d :: ds, h => by
  simp only [okDs, Bool.and_eq_true] at h
  simp only [eqDs, eqD_refl n d h.1, eqDs_refl n ds h.2, Bool.and_true]
end
def eqJ (xs ys : List D) (j : Nat) : Bool := match xs[j]?, ys[j]? with
 | some x, some y => eqD x y
 | _, _ => true
theorem eT : ∀ (xs ys : List D), ((List.range (min xs.length ys.length)).all (eqJ xs ys) && xs.length == ys.length) = eqDs xs ys
 | [], [] => by simp [eqDs]
 | [], _ :: _ => by simp [eqDs]
 | _ :: _, [] => by simp [eqDs]
 | x :: xs, y :: ys => by
  have ih := eT xs ys
  simp only [eqDs, ← ih, List.length_cons]
  rw [show min (xs.length + 1) (ys.length + 1) = min xs.length ys.length + 1 by omega, List.range_succ_eq_map, List.all_cons, List.all_map]
  have e1 : eqJ (x :: xs) (y :: ys) 0 = eqD x y := rfl
  have e2 : (eqJ (x :: xs) (y :: ys)) ∘ Nat.succ = eqJ xs ys := by funext j; rfl
  rw [e1, e2, Bool.and_assoc]
  congr 2
  by_cases h : xs.length = ys.length
  ·rw [h]; simp
  ·rw [beq_eq_false_iff_ne.mpr h, beq_eq_false_iff_ne.mpr (by omega)]
section
variable {X : Cx} {pins : List (Addr × Obj)} {σ : St} {H : Hp} {s : Shared}
mutual
theorem den_inj (I : Inv X pins σ H s) : ∀ (n : Nat) (d e : D) (v : V), okD n d = true → okD n e = true → Den X.K H d v → Den X.K H e v → d = e
 | n, .non, e, v, h1, h2, x, y => by
  rw [x.non_] at y
  cases e with
  | non => rfl
  | bl b => have := y.bl_; cases this
  | int b => have := y.int_; cases this
  | str b => have := y.str_; cases this
  | mt b => have := y.mt_; cases this
  | tup b => obtain ⟨_, _, q, _⟩ := y.tup_; cases q
  | lst b => obtain ⟨_, _, q, _⟩ := y.lst_; cases q
  | fl b => obtain ⟨_, _, q, _⟩ := y.fl_; cases q
  | st b => obtain ⟨_, _, _, q, _⟩ := y.st_; cases q
 | n, .bl b, e, v, h1, h2, x, y => by
  rw [x.bl_] at y
  cases e with
  | non => have := y.non_; cases this
  | bl b => have := y.bl_; cases this; rfl
  | int b => have := y.int_; cases this
  | str b => have := y.str_; cases this
  | mt b => have := y.mt_; cases this
  | tup b => obtain ⟨_, _, q, _⟩ := y.tup_; cases q
  | lst b => obtain ⟨_, _, q, _⟩ := y.lst_; cases q
  | fl b => obtain ⟨_, _, q, _⟩ := y.fl_; cases q
  | st b => obtain ⟨_, _, _, q, _⟩ := y.st_; cases q
 | n, .int b, e, v, h1, h2, x, y => by
  rw [x.int_] at y
  cases e with
  | non => have := y.non_; cases this
  | bl b => have := y.bl_; cases this
  | int b => have := y.int_; cases this; rfl
  | str b => have := y.str_; cases this
  | mt b => have := y.mt_; cases this
  | tup b => obtain ⟨_, _, q, _⟩ := y.tup_; cases q
  | lst b => obtain ⟨_, _, q, _⟩ := y.lst_; cases q
  | fl b => obtain ⟨_, _, q, _⟩ := y.fl_; cases q
  | st b => obtain ⟨_, _, _, q, _⟩ := y.st_; cases q
 | n, .str b, e, v, h1, h2, x, y => by
  rw [x.str_] at y
  cases e with
  | non => have := y.non_; cases this
  | bl b => have := y.bl_; cases this
  | int b => have := y.int_; cases this
  | str b => have := y.str_; cases this; rfl
  | mt b => have := y.mt_; cases this
  | tup b => obtain ⟨_, _, q, _⟩ := y.tup_; cases q
  | lst b => obtain ⟨_, _, q, _⟩ := y.lst_; cases q
  | fl b => obtain ⟨_, _, q, _⟩ := y.fl_; cases q
  | st b => obtain ⟨_, _, _, q, _⟩ := y.st_; cases q
 | n, .mt _, _, _, h1, _, _, _ => by simp [okD] at h1
 | n, .fl _, _, _, h1, _, _, _ => by simp [okD] at h1
 | 0, .tup _, _, _, h1, _, _, _ => by simp [okD] at h1
 | 0, .lst _, _, _, h1, _, _, _ => by simp [okD] at h1
 | n + 1, .tup ds, e, v, h1, h2, x, y => by
  obtain ⟨a, vs, rfl, sq, dn⟩ := x.tup_
  cases e with
  | non => have := y.non_; cases this
  | bl b => have := y.bl_; cases this
  | int b => have := y.int_; cases this
  | str b => have := y.str_; cases this
  | mt b => simp [okD] at h2
  | fl b => simp [okD] at h2
  | st b => simp [okD] at h2
  | tup es =>
   obtain ⟨b, ws, q, sq2, dn2⟩ := y.tup_
   cases q
   rw [← I.tuple_inj sq sq2] at dn2
   simp only [okD] at h1 h2
   rw [dens_inj I n ds es vs h1 h2 dn dn2]
  | lst es =>
   obtain ⟨b, ws, q, sq2, dn2⟩ := y.lst_
   cases q
   exfalso
   obtain ⟨its, _, pt, _⟩ := I.tuple sq
   obtain ⟨jts, _, pl, _⟩ := I.list (SqL.of sq2)
   obtain ⟨o, e1, c1, _⟩ := pt
   obtain ⟨o2, n2, e2, c2, _⟩ := pl
   rw [e1] at e2; cases e2
   rw [c1] at c2; exact absurd c2 (by simp)
 | n + 1, .lst ds, e, v, h1, h2, x, y => by
  obtain ⟨a, vs, rfl, sq, dn⟩ := x.lst_
  cases e with
  | non => have := y.non_; cases this
  | bl b => have := y.bl_; cases this
  | int b => have := y.int_; cases this
  | str b => have := y.str_; cases this
  | mt b => simp [okD] at h2
  | fl b => simp [okD] at h2
  | st b => simp [okD] at h2
  | lst es =>
   obtain ⟨b, ws, q, sq2, dn2⟩ := y.lst_
   cases q
   rw [sq] at sq2; cases sq2
   simp only [okD] at h1 h2
   rw [dens_inj I n ds es vs h1 h2 dn dn2]
  | tup es =>
   obtain ⟨b, ws, q, sq2, dn2⟩ := y.tup_
   cases q
   exfalso
   obtain ⟨its, _, pt, _⟩ := I.tuple sq2
   obtain ⟨jts, _, pl, _⟩ := I.list (SqL.of sq)
   obtain ⟨o, e1, c1, _⟩ := pt
   obtain ⟨o2, n2, e2, c2, _⟩ := pl
   rw [e1] at e2; cases e2
   rw [c1] at c2; exact absurd c2 (by simp)
theorem dens_inj (I : Inv X pins σ H s) : ∀ (n : Nat) (ds es : List D) (vs : List V), okDs n ds = true → okDs n es = true → Dens X.K H ds vs → Dens X.K H es vs → ds = es
 | _, [], es, vs, _, _, x, y => by
  rw [b8 x] at y
  cases es with
  | nil => rfl
  | cons e es => obtain ⟨_, _, q, _⟩ := bU y; cases q
 | n, d :: ds, es, vs, h1, h2, x, y => by
  obtain ⟨v, r, rfl, a, b⟩ := bU x
  cases es with
  | nil => have := b8 y; cases this
  | cons e es =>
   obtain ⟨_, _, q, a2, b2⟩ := bU y
   cases q
   simp only [okDs, Bool.and_eq_true] at h1 h2
   rw [den_inj I n d e v h1.1 h2.1 a a2, dens_inj I n ds es r h1.2 h2.2 b b2]
end
end
end Z
namespace Z
open PySem L2
section
variable {X : Cx} {pins : List (Addr × Obj)} {σ : St} {H : Hp} {s : Shared}
theorem cZ (I : Inv X pins σ H s) {ds : List D} {v : V} {u : Value} (h : Den X.K H (.tup ds) v) (r : RelV v u) : ∃ a its vs, u = .ref a ∧ s.heap.IsTuple a (List.toArray its) ∧ Vals vs its ∧ Dens X.K H ds vs := by
 obtain ⟨a, vs, rfl, sq, dn⟩ := h.tup_
 obtain ⟨its, rv, pt, _⟩ := I.tuple sq
 exact ⟨a, its, vs, r, pt, rv, dn⟩
theorem cX (I : Inv X pins σ H s) {ds : List D} {v : V} {u : Value} (h : Den X.K H (.lst ds) v) (r : RelV v u) : ∃ a its vs, u = .ref a ∧ s.heap.IsList a (List.toArray its) ∧ Vals vs its ∧ Dens X.K H ds vs := by
 obtain ⟨a, vs, rfl, sq, dn⟩ := h.lst_
 obtain ⟨its, rv, pt, _⟩ := I.list (SqL.of sq)
 exact ⟨a, its, vs, r, pt.isList, rv, dn⟩
theorem bY : ∀ {n : Nat} {ds : List D} {j : Nat} {d : D}, okDs n ds = true → ds[j]? = some d → okD n d = true
 | _, [], _, _, _, e => by simp at e
 | n, d0 :: ds, 0, d, h, e => by simp at e; subst e; simp only [okDs, Bool.and_eq_true] at h; exact h.1
 | n, d0 :: ds, j + 1, d, h, e => by simp only [okDs, Bool.and_eq_true] at h; exact bY (j := j) h.2 (by simpa using e)
theorem dD {ds : List D} {vs : List V} {its : List Value} (dn : Dens X.K H ds vs) (rv : Vals vs its) {j : Nat} (h : j < its.toArray.size) : ∃ d v, ds[j]? = some d ∧ Den X.K H d v ∧ RelV v its.toArray[j] := by
 obtain ⟨v, e1, r1⟩ := pV rv h
 obtain ⟨d, e2, q⟩ := dn.get' e1
 exact ⟨d, v, e2, q, r1⟩
mutual
theorem eqAt_D (I : Inv X pins σ H s) : ∀ (d : D) (n : Nat) (e : D) (v u : V) (v' u' : Value) (A : Around), okD n d = true → okD n e = true → Den X.K H d v → Den X.K H e u → RelV v v' → RelV u u' → A.units + n < cLine → SeqAt.EqAt A s v' u' (eqD d e)
 | .non, n, e, v, u, v', u', A, h1, h2, x, y, rx, ry, hu => by
  rw [x.non_] at rx; cases (show v' = Value.none from rx)
  cases e with
  | non => rw [y.non_] at ry; cases (show u' = Value.none from ry); simp only [eqD]; exact SeqAt.EqAt.same _
  | bl b => rw [y.bl_] at ry; cases (show u' = Value.bool b from ry); simp only [eqD]; exact SeqAt.EqAt.none_bool b
  | int b => rw [y.int_] at ry; obtain ⟨t, rfl⟩ := ry; simp only [eqD]; exact SeqAt.EqAt.none_int b t
  | str b => rw [y.str_] at ry; obtain ⟨t, rfl⟩ := ry; simp only [eqD]; exact SeqAt.EqAt.none_str b t
  | mt b => simp [okD] at h2
  | fl b => simp [okD] at h2
  | st b => simp [okD] at h2
  | tup es => obtain ⟨a, its, vs, rfl, it, _⟩ := cZ I y ry; simp only [eqD]; exact SeqAt.EqAt.none_tuple it (by omega)
  | lst es => obtain ⟨a, its, vs, rfl, it, _⟩ := cX I y ry; simp only [eqD]; exact SeqAt.EqAt.none_list it (by omega)
 | .bl c, n, e, v, u, v', u', A, h1, h2, x, y, rx, ry, hu => by
  rw [x.bl_] at rx; cases (show v' = Value.bool c from rx)
  cases e with
  | non => rw [y.non_] at ry; cases (show u' = Value.none from ry); simp only [eqD]; exact SeqAt.EqAt.bool_none c
  | bl b => rw [y.bl_] at ry; cases (show u' = Value.bool b from ry); simp only [eqD]; exact SeqAt.EqAt.bool_bool c b
  | int b => rw [y.int_] at ry; obtain ⟨t, rfl⟩ := ry; simp only [eqD]; exact SeqAt.EqAt.bool_int c b t
  | str b => rw [y.str_] at ry; obtain ⟨t, rfl⟩ := ry; simp only [eqD]; exact SeqAt.EqAt.bool_str c b t
  | mt b => simp [okD] at h2
  | fl b => simp [okD] at h2
  | st b => simp [okD] at h2
  | tup es => obtain ⟨a, its, vs, rfl, it, _⟩ := cZ I y ry; simp only [eqD]; exact SeqAt.EqAt.bool_tuple c it (by omega)
  | lst es => obtain ⟨a, its, vs, rfl, it, _⟩ := cX I y ry; simp only [eqD]; exact SeqAt.EqAt.bool_list c it (by omega)
 | .int c, n, e, v, u, v', u', A, h1, h2, x, y, rx, ry, hu => by
  rw [x.int_] at rx; obtain ⟨t0, rfl⟩ := rx
  cases e with
  | non => rw [y.non_] at ry; cases (show u' = Value.none from ry); simp only [eqD]; exact SeqAt.EqAt.int_none c t0
  | bl b => rw [y.bl_] at ry; cases (show u' = Value.bool b from ry); simp only [eqD]; exact SeqAt.EqAt.int_bool c t0 b
  | int b => rw [y.int_] at ry; obtain ⟨t, rfl⟩ := ry; simp only [eqD]; exact SeqAt.EqAt.int_int c t0 b t
  | str b => rw [y.str_] at ry; obtain ⟨t, rfl⟩ := ry; simp only [eqD]; exact SeqAt.EqAt.int_str c t0 b t
  | mt b => simp [okD] at h2
  | fl b => simp [okD] at h2
  | st b => simp [okD] at h2
  | tup es => obtain ⟨a, its, vs, rfl, it, _⟩ := cZ I y ry; simp only [eqD]; exact SeqAt.EqAt.int_tuple c t0 it (by omega)
  | lst es => obtain ⟨a, its, vs, rfl, it, _⟩ := cX I y ry; simp only [eqD]; exact SeqAt.EqAt.int_list c t0 it (by omega)
 | .str c, n, e, v, u, v', u', A, h1, h2, x, y, rx, ry, hu => by
  rw [x.str_] at rx; obtain ⟨t0, rfl⟩ := rx
  cases e with
  | non => rw [y.non_] at ry; cases (show u' = Value.none from ry); simp only [eqD]; exact SeqAt.EqAt.str_none c t0
  | bl b => rw [y.bl_] at ry; cases (show u' = Value.bool b from ry); simp only [eqD]; exact SeqAt.EqAt.str_bool c t0 b
  | int b => rw [y.int_] at ry; obtain ⟨t, rfl⟩ := ry; simp only [eqD]; exact SeqAt.EqAt.str_int c t0 b t
  | str b => rw [y.str_] at ry; obtain ⟨t, rfl⟩ := ry; simp only [eqD]; exact SeqAt.EqAt.str_str c t0 b t
  | mt b => simp [okD] at h2
  | fl b => simp [okD] at h2
  | st b => simp [okD] at h2
  | tup es => obtain ⟨a, its, vs, rfl, it, _⟩ := cZ I y ry; simp only [eqD]; exact SeqAt.EqAt.str_tuple c t0 it (by omega)
  | lst es => obtain ⟨a, its, vs, rfl, it, _⟩ := cX I y ry; simp only [eqD]; exact SeqAt.EqAt.str_list c t0 it (by omega)
 | .mt _, n, _, _, _, _, _, _, h1, _, _, _, _, _, _ => by simp [okD] at h1
 | .fl _, n, _, _, _, _, _, _, h1, _, _, _, _, _, _ => by simp [okD] at h1
 | .st _, n, _, _, _, _, _, _, h1, _, _, _, _, _, _ => by simp [okD] at h1
 | .tup ds, 0, _, _, _, _, _, _, h1, _, _, _, _, _, _ => by simp [okD] at h1
 | .lst ds, 0, _, _, _, _, _, _, h1, _, _, _, _, _, _ => by simp [okD] at h1
 | .tup ds, n + 1, e, v, u, v', u', A, h1, h2, x, y, rx, ry, hu => by
  obtain ⟨a, its, vs, rfl, it, rv, dn⟩ := cZ I x rx
  cases e with
  | non => rw [y.non_] at ry; cases (show u' = Value.none from ry); simp only [eqD]; exact SeqAt.EqAt.tuple_none it (by omega)
  | bl b => rw [y.bl_] at ry; cases (show u' = Value.bool b from ry); simp only [eqD]; exact SeqAt.EqAt.tuple_bool b it (by omega)
  | int b => rw [y.int_] at ry; obtain ⟨t, rfl⟩ := ry; simp only [eqD]; exact SeqAt.EqAt.tuple_int b t it (by omega)
  | str b => rw [y.str_] at ry; obtain ⟨t, rfl⟩ := ry; simp only [eqD]; exact SeqAt.EqAt.tuple_str b t it (by omega)
  | mt b => simp [okD] at h2
  | fl b => simp [okD] at h2
  | st b => simp [okD] at h2
  | lst es => obtain ⟨b, its2, vs2, rfl, it2, _⟩ := cX I y ry; simp only [eqD]; exact SeqAt.EqAt.tuple_list it it2 (by omega)
  | tup es =>
   obtain ⟨b, its2, vs2, rfl, it2, rv2, dn2⟩ := cZ I y ry
   have k1 : okDs n ds = true := by simpa only [okD] using h1
   have k2 : okDs n es = true := by simpa only [okD] using h2
   by_cases hab : a = b
   ·subst hab
    have e0 : D.tup ds = D.tup es := den_inj I (n + 1) _ _ v h1 h2 x (by
     have : v = u := by
      obtain ⟨_, _, e3, _⟩ := x.tup_
      obtain ⟨_, _, e4, _⟩ := y.tup_
      rw [e3] at rx; rw [e4] at ry
      cases rx; cases ry; rw [e3, e4]
     rw [this]; exact y)
    rw [← e0, eqD_refl (n + 1) _ h1]
    exact SeqAt.EqAt.same _
   ·have := SeqAt.RcAt.tuples (A := A) (s := s) (e := eqJ ds es) it it2 (by omega) (fun j g1 g2 => by
     obtain ⟨c, v1, e1, q1, r1⟩ := dD dn rv g1
     obtain ⟨c2, v2, e2, q2, r2⟩ := dD dn2 rv2 g2
     have := eqAts_D I ds n j c e1 c2 v1 v2 _ _ A.in1 (bY k1 e1) (bY k2 e2) q1 q2 r1 r2 (by show A.units + 1 + n < cLine; omega)
     unfold eqJ; rw [e1, e2]; exact this)
    rw [List.size_toArray, List.size_toArray, ← rv.length, ← rv2.length, ← dn.len, ← dn2.len, eT] at this
    simp only [eqD]
    exact SeqAt.EqAt.of_refs hab this
 | .lst ds, n + 1, e, v, u, v', u', A, h1, h2, x, y, rx, ry, hu => by
  obtain ⟨a, its, vs, rfl, it, rv, dn⟩ := cX I x rx
  cases e with
  | non => rw [y.non_] at ry; cases (show u' = Value.none from ry); simp only [eqD]; exact SeqAt.EqAt.list_none it (by omega)
  | bl b => rw [y.bl_] at ry; cases (show u' = Value.bool b from ry); simp only [eqD]; exact SeqAt.EqAt.list_bool b it (by omega)
  | int b => rw [y.int_] at ry; obtain ⟨t, rfl⟩ := ry; simp only [eqD]; exact SeqAt.EqAt.list_int b t it (by omega)
  | str b => rw [y.str_] at ry; obtain ⟨t, rfl⟩ := ry; simp only [eqD]; exact SeqAt.EqAt.list_str b t it (by omega)
  | mt b => simp [okD] at h2
  | fl b => simp [okD] at h2
  | st b => simp [okD] at h2
  | tup es => obtain ⟨b, its2, vs2, rfl, it2, _⟩ := cZ I y ry; simp only [eqD]; exact SeqAt.EqAt.list_tuple it it2 (by omega)
  | lst es =>
   obtain ⟨b, its2, vs2, rfl, it2, rv2, dn2⟩ := cX I y ry
   have k1 : okDs n ds = true := by simpa only [okD] using h1
   have k2 : okDs n es = true := by simpa only [okD] using h2
   by_cases hab : a = b
   ·subst hab
    have e0 : D.lst ds = D.lst es := den_inj I (n + 1) _ _ v h1 h2 x (by
     have : v = u := by
      obtain ⟨_, _, e3, _⟩ := x.lst_
      obtain ⟨_, _, e4, _⟩ := y.lst_
      rw [e3] at rx; rw [e4] at ry
      cases rx; cases ry; rw [e3, e4]
     rw [this]; exact y)
    rw [← e0, eqD_refl (n + 1) _ h1]
    exact SeqAt.EqAt.same _
   ·simp only [eqD]
    refine SeqAt.EqAt.of_refs hab ?_
    by_cases hl : ds.length = es.length
    ·have hsz : its.toArray.size = its2.toArray.size := by rw [List.size_toArray, List.size_toArray, ← rv.length, ← rv2.length, ← dn.len, ← dn2.len, hl]
     have := SeqAt.RcAt.lists (A := A) (s := s) (e := eqJ ds es) it it2 hsz (by omega) (fun j g1 g2 => by
      obtain ⟨c, v1, e1, q1, r1⟩ := dD dn rv g1
      obtain ⟨c2, v2, e2, q2, r2⟩ := dD dn2 rv2 g2
      have := eqAts_D I ds n j c e1 c2 v1 v2 _ _ A.in1 (bY k1 e1) (bY k2 e2) q1 q2 r1 r2 (by show A.units + 1 + n < cLine; omega)
      unfold eqJ; rw [e1, e2]; exact this)
     have e3 := eT ds es
     rw [← hl, Nat.min_self, beq_self_eq_true, Bool.and_true] at e3
     rw [List.size_toArray, ← rv.length, ← dn.len, e3] at this
     exact this
    ·have hsz : (its.toArray.size != its2.toArray.size) = true := by rw [bne_iff_ne, List.size_toArray, List.size_toArray, ← rv.length, ← rv2.length, ← dn.len, ← dn2.len]; exact hl
     have e3 := eT ds es
     rw [beq_eq_false_iff_ne.mpr hl, Bool.and_false] at e3
     rw [← e3]
     exact SeqAt.RcAt.lists_lengths it it2 hsz (by omega)
theorem eqAts_D (I : Inv X pins σ H s) : ∀ (ds : List D) (n j : Nat) (d : D), ds[j]? = some d → ∀ (e : D) (v u : V) (v' u' : Value) (A : Around), okD n d = true → okD n e = true → Den X.K H d v → Den X.K H e u → RelV v v' → RelV u u' → A.units + n < cLine → SeqAt.EqAt A s v' u' (eqD d e)
 | [], _, _, _, q => by simp at q
 | d0 :: ds, n, 0, d, q => by
  simp at q; subst q
  exact fun e v u v' u' A => eqAt_D I d0 n e v u v' u' A
 | d0 :: ds, n, j + 1, d, q => eqAts_D I ds n j d (by simpa using q)
end
inductive Disp : D → Prop
 | tup (ds : List D) : Disp (.tup ds)
 | lst (ds : List D) : Disp (.lst ds)
inductive Rs (M : Mem) : D → D → Prop
 | tup (ds : List D) : Rs M (.tup ds) (.tup ds)
 | lst (ds : List D) : Rs M (.lst ds) (.lst ds)
 | mt {a : Addr} {ds : List D} (h : M a = some (.lst ds)) : Rs M (.mt a) (.lst ds)
theorem Rs.disp {M : Mem} {d e : D} (h : Rs M d e) : Disp e := by cases h <;> constructor
theorem Rs.den {K : Fg} {G H : Hp} {M : Mem} {d e : D} {v : V} (h : Rs M d e) (rl : Rel K G H M) (q : Den K G d v) : Den K H e v := by
 cases h with
 | tup ds => exact q.up rl.same
 | lst ds => exact q.up rl.same
 | mt hm =>
  obtain ⟨_, vs, e1, dn⟩ := rl.mem _ _ hm
  rw [q.mt_]; exact gE e1 (dn.up rl.same)
def rEqD (K : Fg) (n : Nat) (neg : Bool) : R2 := fun x y H Q => ∃ d e, Disp d ∧ Disp e ∧ okD n d = true ∧ okD n e = true ∧ Den K H d x ∧ Den K H e y ∧ Q (.bl (if neg then !eqD d e else eqD d e)) H
theorem rc_D (I : Inv X pins σ H s) {n : Nat} {d e : D} {v u : V} {v' u' : Value} (A : Around) (g1 : Disp d) (g2 : Disp e) (h1 : okD n d = true) (h2 : okD n e = true) (x : Den X.K H d v) (y : Den X.K H e u) (rx : RelV v v') (ry : RelV u u') (hu : A.units + n < cLine) : SeqAt.RcAt A s v' u' (eqD d e) := by
 cases g1 with
 | tup ds =>
  obtain ⟨a, its, vs, rfl, it, rv, dn⟩ := cZ I x rx
  cases g2 with
  | lst es => obtain ⟨b, its2, vs2, rfl, it2, _⟩ := cX I y ry; simp only [eqD]; exact SeqAt.RcAt.tuple_list it it2 (by omega)
  | tup es =>
   obtain ⟨b, its2, vs2, rfl, it2, rv2, dn2⟩ := cZ I y ry
   cases n with
   | zero => simp [okD] at h1
   | succ n =>
    have k1 : okDs n ds = true := by simpa only [okD] using h1
    have k2 : okDs n es = true := by simpa only [okD] using h2
    have := SeqAt.RcAt.tuples (A := A) (s := s) (e := eqJ ds es) it it2 (by omega) (fun j g1 g2 => by
     obtain ⟨c, v1, e1, q1, r1⟩ := dD dn rv g1
     obtain ⟨c2, v2, e2, q2, r2⟩ := dD dn2 rv2 g2
     have := eqAt_D I c n c2 v1 v2 _ _ A.in1 (bY k1 e1) (bY k2 e2) q1 q2 r1 r2 (by show A.units + 1 + n < cLine; omega)
     unfold eqJ; rw [e1, e2]; exact this)
    rw [List.size_toArray, List.size_toArray, ← rv.length, ← rv2.length, ← dn.len, ← dn2.len, eT] at this
    simp only [eqD]; exact this
 | lst ds =>
  obtain ⟨a, its, vs, rfl, it, rv, dn⟩ := cX I x rx
  cases g2 with
  | tup es => obtain ⟨b, its2, vs2, rfl, it2, _⟩ := cZ I y ry; simp only [eqD]; exact SeqAt.RcAt.list_tuple it it2 (by omega)
  | lst es =>
   obtain ⟨b, its2, vs2, rfl, it2, rv2, dn2⟩ := cX I y ry
   cases n with
   | zero => simp [okD] at h1
   | succ n =>
    have k1 : okDs n ds = true := by simpa only [okD] using h1
    have k2 : okDs n es = true := by simpa only [okD] using h2
    simp only [eqD]
    by_cases hl : ds.length = es.length
    ·have hsz : its.toArray.size = its2.toArray.size := by rw [List.size_toArray, List.size_toArray, ← rv.length, ← rv2.length, ← dn.len, ← dn2.len, hl]
     have := SeqAt.RcAt.lists (A := A) (s := s) (e := eqJ ds es) it it2 hsz (by omega) (fun j g1 g2 => by
      obtain ⟨c, v1, e1, q1, r1⟩ := dD dn rv g1
      obtain ⟨c2, v2, e2, q2, r2⟩ := dD dn2 rv2 g2
      have := eqAt_D I c n c2 v1 v2 _ _ A.in1 (bY k1 e1) (bY k2 e2) q1 q2 r1 r2 (by show A.units + 1 + n < cLine; omega)
      unfold eqJ; rw [e1, e2]; exact this)
     have e3 := eT ds es
     rw [← hl, Nat.min_self, beq_self_eq_true, Bool.and_true] at e3
     rw [List.size_toArray, ← rv.length, ← dn.len, e3] at this
     exact this
    ·have hsz : (its.toArray.size != its2.toArray.size) = true := by rw [bne_iff_ne, List.size_toArray, List.size_toArray, ← rv.length, ← rv2.length, ← dn.len, ← dn2.len]; exact hl
     have e3 := eT ds es
     rw [beq_eq_false_iff_ne.mpr hl, Bool.and_false] at e3
     rw [← e3]
     exact SeqAt.RcAt.lists_lengths it it2 hsz (by omega)
end
section
variable {X : Cx}
theorem iS {n : Nat} (hu : X.A.units + n < cLine) : OpR X (compareOp .Eq) (rEqD X.K n false) := by
 intro pins s σ H x y v u Q I rx ry h
 obtain ⟨d, e, g1, g2, h1, h2, dx, dy, q⟩ := h
 exact rc_D I X.A g1 g2 h1 h2 dx dy rx ry hu X.prog X.w X.xe _ ⟨.bl (eqD d e), H, I, rfl, q⟩
theorem kQ {K : Fg} {n : Nat} {M : Mem} {k : D → Mem → Prop} {d1 d2 e1 e2 : D} (r1 : Rs M d1 e1) (r2 : Rs M d2 e2) (h1 : okD n e1 = true) (h2 : okD n e2 = true) (h : k (.bl (eqD e1 e2)) M) : Op2 K (rEqD K n false) d1 d2 M k := fun G H v1 v2 Q rl x y q =>
 ⟨e1, e2, r1.disp, r2.disp, h1, h2, r1.den rl x, r2.den rl y, q _ _ _ _ _ (Stp.refl rl) cT h⟩
end
end Z
namespace Z
open PySem L2
mutual
def toPy : D → PyData
 | .non => .none
 | .bl b => .bool b
 | .int i => .int i
 | .str x => .str x
 | .tup ds => .tuple (toPys ds)
 | .lst ds => .list (toPys ds)
 | .mt _ => .none
 | .fl _ => .none
 | .st _ => .none
def toPys : List D → List PyData
 | [] => []
 | d :: ds => toPy d :: toPys ds
end
mutual
theorem depth_le : ∀ (d : D) (n : Nat), okD n d = true → (toPy d).depth ≤ n
 | .non, _, _ => by simp [toPy, PyData.depth]
 | .bl _, _, _ => by simp [toPy, PyData.depth]
 | .int _, _, _ => by simp [toPy, PyData.depth]
 | .str _, _, _ => by simp [toPy, PyData.depth]
 | .mt _, n, h => by simp [okD] at h
 | .fl _, n, h => by simp [okD] at h
 | .st _, n, h => by simp [okD] at h
 | .tup ds, 0, h => by simp [okD] at h
 | .lst ds, 0, h => by simp [okD] at h
 | .tup ds, n + 1, h => by
  simp only [toPy, PyData.depth]
  have := depths_le ds n (by simpa only [okD] using h)
  omega
 | .lst ds, n + 1, h => by
  simp only [toPy, PyData.depth]
  have := depths_le ds n (by simpa only [okD] using h)
  omega
theorem depths_le : ∀ (ds : List D) (n : Nat), okDs n ds = true → PyData.depthAll (toPys ds) ≤ n
 | [], _, _ => by simp [toPys, PyData.depthAll]
 | d :: ds, n, h => by
  simp only [okDs, Bool.and_eq_true] at h
  simp only [toPys, PyData.depthAll]
  have h1 := depth_le d n h.1
  have h2 := depths_le ds n h.2
  omega
end
mutual
theorem noDict : ∀ (d : D), (toPy d).hasDict = false
 | .non => by simp only [toPy, PyData.hasDict]
 | .bl _ => by simp only [toPy, PyData.hasDict]
 | .int _ => by simp only [toPy, PyData.hasDict]
 | .str _ => by simp only [toPy, PyData.hasDict]
 | .mt _ => by simp only [toPy, PyData.hasDict]
 | .fl _ => by simp only [toPy, PyData.hasDict]
 | .st _ => by simp only [toPy, PyData.hasDict]
 | .tup ds => by simp only [toPy, PyData.hasDict]; exact noDicts ds
 | .lst ds => by simp only [toPy, PyData.hasDict]; exact noDicts ds
theorem noDicts : ∀ (ds : List D), PyData.hasDictAll (toPys ds) = false
 | [] => by simp only [toPys, PyData.hasDictAll]
 | d :: ds => by simp only [toPys, PyData.hasDictAll, noDict d, noDicts ds, Bool.or_false]
end
section
variable {X : Cx} {pins : List (Addr × Obj)} {σ : St} {H : Hp} {s : Shared}
mutual
theorem reads_D (I : Inv X pins σ H s) : ∀ (d : D) (n : Nat) (v : V) (u : Value), okD n d = true → Den X.K H d v → RelV v u → ∃ as, Reads s.heap u (toPy d) as
 | .non, _, v, u, _, x, r => by rw [x.non_] at r; cases (show u = Value.none from r); exact ⟨_, by simp only [toPy]; exact .none⟩
 | .bl b, _, v, u, _, x, r => by rw [x.bl_] at r; cases (show u = Value.bool b from r); exact ⟨_, by simp only [toPy]; exact .bool b⟩
 | .int b, _, v, u, _, x, r => by rw [x.int_] at r; obtain ⟨t, rfl⟩ := r; exact ⟨_, by simp only [toPy]; exact .int b t⟩
 | .str b, _, v, u, _, x, r => by rw [x.str_] at r; obtain ⟨t, rfl⟩ := r; exact ⟨_, by simp only [toPy]; exact .str b t⟩
 | .mt _, n, _, _, h, _, _ => by simp [okD] at h
 | .fl _, n, _, _, h, _, _ => by simp [okD] at h
 | .st _, n, _, _, h, _, _ => by simp [okD] at h
 | .tup ds, 0, _, _, h, _, _ => by simp [okD] at h
 | .lst ds, 0, _, _, h, _, _ => by simp [okD] at h
 | .tup ds, n + 1, v, u, h, x, r => by
  obtain ⟨a, its, vs, rfl, ⟨o, e1, e2, m, e3⟩, rv, dn⟩ := cZ I x r
  obtain ⟨as, q⟩ := readss_D I ds n vs its (by simpa only [okD] using h) dn rv
  exact ⟨as, by simp only [toPy]; exact .tuple e1 e2 e3 (by simpa using q)⟩
 | .lst ds, n + 1, v, u, h, x, r => by
  obtain ⟨a, its, vs, rfl, ⟨o, e1, e2, m, e3⟩, rv, dn⟩ := cX I x r
  obtain ⟨as, q⟩ := readss_D I ds n vs its (by simpa only [okD] using h) dn rv
  exact ⟨a :: as, by simp only [toPy]; exact .list e1 e2 e3 (by simpa using q)⟩
theorem readss_D (I : Inv X pins σ H s) : ∀ (ds : List D) (n : Nat) (vs : List V) (us : List Value), okDs n ds = true → Dens X.K H ds vs → Vals vs us → ∃ as, ReadsAll s.heap us (toPys ds) as
 | [], _, vs, us, _, x, r => by
  rw [b8 x] at r
  cases r
  exact ⟨[], by simp only [toPys]; exact .nil⟩
 | d :: ds, n, vs, us, h, x, r => by
  obtain ⟨v, t, rfl, a, b⟩ := bU x
  cases r with
  | cons r1 r2 =>
   simp only [okDs, Bool.and_eq_true] at h
   obtain ⟨as, q⟩ := reads_D I d n v _ h.1 a r1
   obtain ⟨bs, q2⟩ := readss_D I ds n t _ h.2 b r2
   exact ⟨as ++ bs, by simp only [toPys]; exact .cons q q2⟩
end
end
section
variable {X : Cx}
theorem beq_val {x y : Value} (h : (x == y) = true) : x = y := eq_of_beq h
def eOf (ds : List D) (its : List Value) (c : D) (y : Value) : Bool := match (its.zip ds).find? (fun p => p.1 == y) with
 | some p => eqD p.2 c
 | none => false
theorem oU {pins : List (Addr × Obj)} {σ : St} {H : Hp} {s : Shared} (I : Inv X pins σ H s) {n : Nat} {ds : List D} {vs : List V} {its : List Value} (ok : okDs n ds = true) (dn : Dens X.K H ds vs) (rv : Vals vs its) {c : D} {j : Nat} {y : Value} {d : D}
  (hy : its[j]? = some y) (hd : ds[j]? = some d) : eOf ds its c y = eqD d c := by
 unfold eOf
 have hl : its.length = ds.length := by rw [dn.len, rv.length]
 have hz : (its.zip ds)[j]? = some (y, d) := by rw [List.getElem?_zip_eq_some]; exact ⟨hy, hd⟩
 cases hf : (its.zip ds).find? (fun p => p.1 == y) with
 | none =>
  have := List.find?_eq_none.mp hf (y, d) (List.mem_of_getElem? hz)
  exact absurd (by simp) this
 | some p =>
  have h1 := List.find?_some hf
  have h2 := List.mem_of_find?_eq_some hf
  obtain ⟨i, hi⟩ := List.getElem?_of_mem h2
  obtain ⟨a1, a2⟩ := List.getElem?_zip_eq_some.mp (show (its.zip ds)[i]? = some (p.1, p.2) from hi)
  have ey : p.1 = y := beq_val h1
  rw [ey] at a1
  obtain ⟨v1, w1, q1⟩ := dn.get a2
  obtain ⟨v2, w2, q2⟩ := dn.get hd
  obtain ⟨u1, x1, r1⟩ := rv.get w1
  obtain ⟨u2, x2, r2⟩ := rv.get w2
  rw [a1] at x1; cases x1
  rw [hy] at x2; cases x2
  have : v1 = v2 := r1.inj r2
  subst this
  show eqD p.2 c = eqD d c
  rw [den_inj I n p.2 d v1 (bY ok a2) (bY ok hd) q1 q2]
theorem any_eOf {pins : List (Addr × Obj)} {σ : St} {H : Hp} {s : Shared} (I : Inv X pins σ H s) {n : Nat} {ds : List D} {vs : List V} {its : List Value} (ok : okDs n ds = true) (dn : Dens X.K H ds vs) (rv : Vals vs its) (c : D) : its.toArray.any (eOf ds its c) = ds.any fun d => eqD d c := by
 have hl : its.length = ds.length := by rw [dn.len, rv.length]
 rw [List.any_toArray]
 rw [Bool.eq_iff_iff, List.any_eq_true, List.any_eq_true]
 constructor
 ·rintro ⟨y, hy, e⟩
  obtain ⟨j, hj⟩ := List.getElem?_of_mem hy
  have hlt : j < ds.length := by rw [← hl]; exact (List.getElem?_eq_some_iff.mp hj).1
  rw [oU I ok dn rv hj (List.getElem?_eq_getElem hlt)] at e
  exact ⟨_, List.getElem_mem hlt, e⟩
 ·rintro ⟨d, hd, e⟩
  obtain ⟨j, hj⟩ := List.getElem?_of_mem hd
  have hlt : j < its.length := by rw [hl]; exact (List.getElem?_eq_some_iff.mp hj).1
  refine ⟨its[j], List.getElem_mem hlt, ?_⟩
  rw [oU I ok dn rv (List.getElem?_eq_getElem hlt) hj]
  exact e
def rInD (K : Fg) (n : Nat) (neg : Bool) : R2 := fun x y H Q => ∃ c d ds, (d = .tup ds ∨ d = .lst ds) ∧ okD n c = true ∧ okDs n ds = true ∧ Den K H c x ∧ Den K H d y ∧ Q (.bl (if neg then !(ds.any fun e => eqD e c) else ds.any fun e => eqD e c)) H
theorem op_inD {n : Nat} (hu : X.A.units + (n + 1) < cLine) : OpR X (compareOp .In) (rInD X.K n false) := by
 intro pins s σ H x y v u Q I rx ry h
 obtain ⟨c, d, ds, hd, okc, okd, dx, dy, q⟩ := h
 rcases hd with rfl | rfl
 ·obtain ⟨a, its, vs, rfl, it, rv, dn⟩ := cZ I dy ry
  refine SeqAt.in_tupleAt (eOf ds its c) it (fun y hy => ?_) ?_
  ·obtain ⟨j, hj⟩ := List.getElem?_of_mem (show y ∈ its by simpa using hy)
   obtain ⟨w1, e1, r1⟩ : ∃ w, vs[j]? = some w ∧ RelV w y := by
    obtain ⟨w, e1, r1⟩ := pV rv (j := j) (by rw [List.size_toArray]; exact (List.getElem?_eq_some_iff.mp hj).1)
    refine ⟨w, e1, ?_⟩
    have : its.toArray[j]'(by rw [List.size_toArray]; exact (List.getElem?_eq_some_iff.mp hj).1) = y := by
     have := (List.getElem?_eq_some_iff.mp hj).2
     simpa using this
    rw [← this]; exact r1
   obtain ⟨e, e2, q2⟩ := dn.get' e1
   rw [oU I okd dn rv hj e2]
   exact eqAt_D I e n c w1 x y v X.A.in1 (bY okd e2) okc q2 dx r1 rx (by show X.A.units + 1 + n < cLine; omega)
  ·rw [any_eOf I okd dn rv]
   exact ⟨.bl _, H, I, rfl, q⟩
 ·obtain ⟨a, its, vs, rfl, it, rv, dn⟩ := cX I dy ry
  refine SeqAt.in_listAt (eOf ds its c) it (fun y hy => ?_) ?_
  ·obtain ⟨j, hj⟩ := List.getElem?_of_mem (show y ∈ its by simpa using hy)
   obtain ⟨w1, e1, r1⟩ : ∃ w, vs[j]? = some w ∧ RelV w y := by
    obtain ⟨w, e1, r1⟩ := pV rv (j := j) (by rw [List.size_toArray]; exact (List.getElem?_eq_some_iff.mp hj).1)
    refine ⟨w, e1, ?_⟩
    have : its.toArray[j]'(by rw [List.size_toArray]; exact (List.getElem?_eq_some_iff.mp hj).1) = y := by
     have := (List.getElem?_eq_some_iff.mp hj).2
     simpa using this
    rw [← this]; exact r1
   obtain ⟨e, e2, q2⟩ := dn.get' e1
   rw [oU I okd dn rv hj e2]
   exact eqAt_D I e n c w1 x y v X.A.in1 (bY okd e2) okc q2 dx r1 rx (by show X.A.units + 1 + n < cLine; omega)
  ·rw [any_eOf I okd dn rv]
   exact ⟨.bl _, H, I, rfl, q⟩
end
end Z
namespace R
open PySem L2
theorem cV {z : Str} {j : Nat} (h : j < z.length) : z.cps.toList[j]? = some (atS z j) := by
 have h' : j < z.cps.size := h
 simp [atS, Array.getD, h']
theorem jD {l : List Nat} {j : Nat} : atS (ofL l) j = l.getD j 0 := by
 unfold atS ofL
 rw [Array.getD_eq_getD_getElem?, List.getElem?_toArray, List.getD_eq_getElem?_getD]
def Good (n : Nat) (zs : List Str) : Prop := ∀ z ∈ zs, z.length = n ∧ z.cps.toList.all sgn = true
theorem nG {n : Nat} {zs : List Str} (h : Good n zs) {z : Str} (hz : z ∈ zs) {j : Nat} (hj : j < n) : atS z j = 35 ∨ atS z j = 46 := by
 obtain ⟨h1, h2⟩ := h z hz
 have e := cV (z := z) (j := j) (by omega)
 have := List.all_eq_true.mp h2 _ (List.mem_of_getElem? e)
 unfold sgn at this
 rw [Bool.or_eq_true, beq_iff_eq, beq_iff_eq] at this
 exact this
theorem oH (n : Nat) : (dots n).length = n := by unfold dots; rw [kO, List.length_replicate]
theorem eq_dots {n : Nat} {z : Str} (hl : z.length = n) (h : ∀ j, j < n → atS z j = 46) : z = dots n := by
 apply gH
 show z.cps.toList = List.replicate n 46
 apply List.ext_getElem?
 intro j
 by_cases hj : j < n
 ·rw [cV (by omega), h j hj, List.getElem?_replicate, if_pos hj]
 ·rw [List.getElem?_eq_none (by rw [Array.length_toList]; have : z.cps.size = n := hl; omega), List.getElem?_eq_none (by simp; omega)]
theorem i9 {n j : Nat} : atS (dots n) j = if j < n then 46 else 0 := by
 unfold dots
 rw [jD, List.getD_eq_getElem?_getD, List.getElem?_replicate]
 split <;> rfl
theorem iU {α : Type} (f : Nat → α) : ∀ p, f p ≠ f 0 → ∃ k, k < p ∧ f k ≠ f (k + 1)
 | 0, h => absurd rfl h
 | p + 1, h => by
  by_cases e : f p = f 0
  ·exact ⟨p, by omega, by rw [e]; exact Ne.symm h⟩
  ·obtain ⟨k, h1, h2⟩ := iU f p e
   exact ⟨k, by omega, h2⟩
theorem gO {α : Type} (f : Nat → α) : ∀ m p, f p ≠ f (p + m) → ∃ k, p ≤ k ∧ k < p + m ∧ f k ≠ f (k + 1)
 | 0, p, h => absurd rfl h
 | m + 1, p, h => by
  by_cases e : f p = f (p + m)
  ·exact ⟨p + m, by omega, by omega, by rw [← e]; exact h⟩
  ·obtain ⟨k, h1, h2, h3⟩ := gO f m p e
   exact ⟨k, h1, by omega, h3⟩
theorem cA {zs : List Str} {i : Nat} (h : i < zs.length) : (framed zs)[i + 1]? = zs[i]? := by
 unfold framed
 rw [List.append_assoc, List.singleton_append, List.getElem?_cons_succ, List.getElem?_append_left h]
theorem eE (zs : List Str) : (framed zs)[0]? = some (dots ((zs.head?.map (·.length)).getD 0)) := by simp [framed]
theorem c6 (zs : List Str) : (framed zs)[zs.length + 1]? = some (dots ((zs.head?.map (·.length)).getD 0)) := by
 unfold framed
 rw [List.append_assoc, List.singleton_append, List.getElem?_cons_succ, List.getElem?_append_right (Nat.le_refl _)]
 simp
theorem dG {zs : List Str} {i : Nat} (hz : zs ≠ []) : i ∈ chg zs ↔ i ≤ zs.length ∧ (framed zs)[i]? ≠ (framed zs)[i + 1]? := by
 unfold chg
 have : zs.isEmpty = false := by cases zs with
  | nil => exact absurd rfl hz
  | cons _ _ => rfl
 rw [this]
 simp only [Bool.false_eq_true, if_false, List.mem_filter, List.mem_range, Bool.not_eq_true', decide_eq_false_iff_not]
 exact ⟨fun ⟨a, b⟩ => ⟨by omega, b⟩, fun ⟨a, b⟩ => ⟨by omega, b⟩⟩
theorem b7 {n : Nat} {zs : List Str} (h : ∀ z ∈ zs, z.length = n) (hz : zs ≠ []) : (zs.head?.map (·.length)).getD 0 = n := by
 cases zs with
 | nil => exact absurd rfl hz
 | cons z zr => exact h z (by simp)
theorem chg_two {n : Nat} {zs : List Str} (h : ∀ z ∈ zs, z.length = n) {i : Nat} {z : Str} (hi : zs[i]? = some z) (hz : z ≠ dots n) : 2 ≤ (chg zs).length := by
 have hlt : i < zs.length := (List.getElem?_eq_some_iff.mp hi).1
 have hne : zs ≠ [] := fun e => by rw [e] at hlt; simp at hlt
 have hw := b7 h hne
 have f0 : (framed zs)[0]? = some (dots n) := by rw [eE, hw]
 have fl : (framed zs)[zs.length + 1]? = some (dots n) := by rw [c6, hw]
 have fp : (framed zs)[i + 1]? = some z := by rw [cA hlt, hi]
 obtain ⟨k1, a1, b1⟩ := iU (fun k => (framed zs)[k]?) (i + 1) (by show (framed zs)[i + 1]? ≠ (framed zs)[0]?; rw [fp, f0]; exact fun e => hz (Option.some.inj e))
 obtain ⟨k2, a2, a3, b2⟩ := gO (fun k => (framed zs)[k]?) (zs.length - i) (i + 1) (by
  show (framed zs)[i + 1]? ≠ (framed zs)[i + 1 + (zs.length - i)]?
  rw [show i + 1 + (zs.length - i) = zs.length + 1 by omega, fp, fl]; exact fun e => hz (Option.some.inj e))
 have m1 : k1 ∈ chg zs := (dG hne).mpr ⟨by omega, b1⟩
 have m2 : k2 ∈ chg zs := (dG hne).mpr ⟨by omega, b2⟩
 match hc : chg zs, m1, m2 with
 | [], m1, _ => cases m1
 | [x], m1, m2 =>
  simp at m1 m2
  omega
 | _ :: _ :: _, _, _ => simp
def aL (zs : List Str) : List Str := (chg zs).dropLast.map fun i => zs.getD i Str.empty
theorem iM {zs : List Str} : ∀ z ∈ aL zs, z ∈ zs := fun z hz => by
 obtain ⟨i, hi, rfl⟩ := List.mem_map.mp hz
 have := iB (bV zs) (dI zs) i hi
 rw [List.getD_eq_getElem?_getD, List.getElem?_eq_getElem this]
 exact List.getElem_mem _
theorem g8 {n : Nat} {zs : List Str} (h : Good n zs) : Good n (aL zs) := fun z hz => h z (iM z hz)
theorem dM (zs : List Str) : (aL zs).length = (chg zs).length - 1 := by unfold aL; rw [List.length_map, List.length_dropLast]
theorem nZ {n : Nat} {zs : List Str} (h : ∀ z ∈ zs, z.length = n) (hr : aL zs ≠ []) : ∃ z ∈ aL zs, z ≠ dots n := by
 have h2 : 2 ≤ (chg zs).length := by
  have := List.length_pos_iff.mpr hr
  rw [dM] at this
  omega
 have hne : zs ≠ [] := fun e => by rw [e] at h2; simp [chg] at h2
 match hc : chg zs, h2 with
 | k0 :: k1 :: r, _ =>
  have m0 : k0 ∈ chg zs := by rw [hc]; simp
  have s := bV zs
  rw [hc] at s
  have hk1 : k1 ≤ zs.length := dI zs k1 (by rw [hc]; simp)
  have hk : k0 < k1 := (List.pairwise_cons.mp s).1 k1 (by simp)
  have hk0 : k0 < zs.length := by omega
  obtain ⟨_, b0⟩ := (dG hne).mp m0
  have same : ∀ j, j ≤ k0 → (framed zs)[j]? = (framed zs)[0]? := fun j hj => Classical.byContradiction fun q => by
   obtain ⟨k, a1, b1⟩ := iU (fun k => (framed zs)[k]?) j q
   have : k ∈ chg zs := (dG hne).mpr ⟨by omega, b1⟩
   rw [hc] at this
   rcases List.mem_cons.mp this with rfl | this
   ·omega
   ·have := (List.pairwise_cons.mp s).1 k this
    omega
  refine ⟨zs.getD k0 Str.empty, ?_, fun q => b0 ?_⟩
  ·unfold aL
   rw [hc]
   simp
  ·rw [same k0 (Nat.le_refl _), eE, b7 h hne, cA hk0, ← q, List.getD_eq_getElem?_getD, List.getElem?_eq_getElem hk0]
   rfl
theorem dH {zs : List Str} {n j : Nat} (h : ∀ z ∈ zs, z.length = n) (hz : zs ≠ []) (hj : j < n) : (aF zs)[j]? = some (ofL (zs.map (atS · j))) := by
 unfold aF
 rw [b7 h hz, List.getElem?_map, List.getElem?_range hj]
 rfl
theorem iR {n : Nat} {zs : List Str} (h : Good n zs) : Good zs.length (aF zs) := fun z hz => by
 refine ⟨cJ z hz, ?_⟩
 obtain ⟨j, hj, rfl⟩ := List.mem_map.mp hz
 rw [List.mem_range] at hj
 show (zs.map (atS · j)).all sgn = true
 rw [List.all_eq_true]
 intro c hc
 obtain ⟨z, hz, rfl⟩ := List.mem_map.mp hc
 have hne : zs ≠ [] := fun e => by rw [e] at hz; cases hz
 rw [b7 (fun z hz => (h z hz).1) hne] at hj
 rcases nG h hz hj with e | e <;> rw [e] <;> rfl
structure Wf (nx ny : Nat) (zs : List Str) : Prop where
 rows : zs.length + 1 = ny ∨ (nx = 0 ∧ ny = 0 ∧ zs = [])
 good : Good (nx - 1) zs
 wide : 0 < nx ∨ (nx = 0 ∧ ny = 0 ∧ zs = [])
theorem sW {n : Nat} {zs : List Str} (h : Good n zs) {z : Str} (hz : z ∈ zs) (hd : z ≠ dots n) : ∃ j, j < n ∧ atS z j = 35 := by
 refine Classical.byContradiction fun q => hd (eq_dots (h z hz).1 fun j hj => ?_)
 rcases nG h hz hj with e | e
 ·exact absurd ⟨j, hj, e⟩ q
 ·exact e
theorem tidy_wf {n : Nat} {zs : List Str} (h : Good n zs) (hr : aL zs ≠ []) :
  2 ≤ (chg (aF (aL zs))).length ∧ Wf (chg (aF (aL zs))).length (chg zs).length (aF (aL (aF (aL zs)))) ∧ (aF (aL (aF (aL zs)))).length = (aL zs).length := by
 have g1 := g8 h
 obtain ⟨z, hz, hd⟩ := nZ (fun z hz => (h z hz).1) hr
 obtain ⟨j, hj, e35⟩ := sW g1 hz hd
 have gc := iR g1
 have hc := dH (fun z hz => (g1 z hz).1) hr hj
 have hnd : ofL ((aL zs).map (atS · j)) ≠ dots (aL zs).length := fun q => by
  obtain ⟨i, hi, ez⟩ := List.getElem_of_mem hz
  have e1 : atS (ofL ((aL zs).map (atS · j))) i = 35 := by
   rw [jD, List.getD_eq_getElem?_getD, List.getElem?_map, List.getElem?_eq_getElem hi, ez]
   exact e35
  rw [q, i9, if_pos hi] at e1
  cases e1
 have c2 := chg_two (fun z hz => (gc z hz).1) hc hnd
 have hk : aL (aF (aL zs)) ≠ [] := fun q => by
  have := dM (aF (aL zs))
  rw [q] at this
  simp at this
  omega
 have g2 := g8 gc
 have l2 := (lA (fun z hz => (g2 z hz).1)).2 hk
 have zl := dM zs
 have pos := List.length_pos_iff.mpr hr
 refine ⟨c2, ⟨.inl (by rw [l2]; omega), ?_, .inl (by omega)⟩, l2⟩
 have g3 := iR g2
 rw [dM] at g3
 exact g3
end R
namespace R
open PySem L2
def aY (zs : List Str) (a u : Int) : Bool := decide (0 ≤ u) && decide (0 ≤ a) && ((zs[u.toNat]?).bind fun z => z.cps.toList[a.toNat]?) == some 35
theorem eH {zs : List Str} {a u : Int} (h : u < 0) : aY zs a u = false := by
 unfold aY; rw [decide_eq_false (by omega)]; rfl
theorem c5 {zs : List Str} {a u : Int} (h : a < 0) : aY zs a u = false := by
 unfold aY; rw [decide_eq_false (show ¬ (0 : Int) ≤ a by omega), Bool.and_false]; rfl
theorem eS {zs : List Str} {a u : Int} (h : (zs.length : Int) ≤ u) : aY zs a u = false := by
 unfold aY
 rw [List.getElem?_eq_none (by omega)]
 simp
theorem iD {zs : List Str} {a u : Int} {z : Str} (e : zs[u.toNat]? = some z) (h : (z.length : Int) ≤ a) : aY zs a u = false := by
 unfold aY
 rw [e]
 have : z.cps.toList[a.toNat]? = none := List.getElem?_eq_none (by rw [Array.length_toList]; have : z.cps.size = z.length := rfl; omega)
 rw [Option.bind_some, this]
 cases decide (0 ≤ u) <;> cases decide (0 ≤ a) <;> rfl
theorem fI {zs : List Str} {a u : Int} {z : Str} {c : Nat} (hu : 0 ≤ u) (ha : 0 ≤ a) (e : zs[u.toNat]? = some z) (ec : z.cps.toList[a.toNat]? = some c) : aY zs a u = decide (c = 35) := by
 unfold aY
 rw [decide_eq_true hu, decide_eq_true ha, e]
 simp only [Option.bind_some, ec, Bool.and_true, Bool.true_and]
 by_cases h : c = 35
 ·subst h; rfl
 ·rw [decide_eq_false h]; simp [h]
def sg (b : Bool) : Nat := if b then 35 else 46
end R
namespace Q
open PySem L2 Z
theorem BMin : bootBuiltins "min" = some (.builtin "min") := by decide +kernel
structure Bt (mg : Str → Option Value) : Prop where
 len : mg "len" = none
 abs : mg "abs" = none
 int : mg "int" = none
 min : mg "min" = none
 max : mg "max" = none
 range : mg "range" = none
 list : mg "list" = none
 tuple : mg "tuple" = none
 repr : mg "repr" = none
 all : mg "all" = none
 any : mg "any" = none
 enumerate : mg "enumerate" = none
 isi : mg "isinstance" = none
 bool : mg "bool" = none
 str : mg "str" = none
 zip : mg "zip" = none
 reversed : mg "reversed" = none
 sorted : mg "sorted" = none
 dict : mg "dict" = none
def FdM (M : Mem) (p : Addr) (b : Int) : Prop := ∃ g m st : Int, M p = some (.lst [.int g, .int m, .int st]) ∧ 0 ≤ g ∧ 0 ≤ m ∧ m < 2147483399 ∧ 0 ≤ st ∧ st ≤ b
def ButM (p : Addr) (M M' : Mem) : Prop := ∀ a o, a ≠ p → M a = some o → M' a = some o
theorem ButM.refl (p : Addr) (M : Mem) : ButM p M M := fun _ _ _ h => h
theorem ButM.trans {p : Addr} {M M1 M2 : Mem} (a : ButM p M M1) (b : ButM p M1 M2) : ButM p M M2 := fun c o n h => b c o n (a c o n h)
theorem ButM.upd {p : Addr} {M M' : Mem} {o : MO} (h : ButM p M M') : ButM p M (updM M' p o) := fun a u n e => by rw [dE n]; exact h a u n e
theorem ButM.new {p a : Addr} {M M' : Mem} {o : MO} (h : ButM p M M') (n : M a = none) : ButM p M (updM M' a o) := fun b u nb e => by
 rw [dE (fun z => by rw [z, n] at e; cases e)]; exact h b u nb e
theorem FdM.mono {M : Mem} {p : Addr} {b c : Int} (h : FdM M p b) (l : b ≤ c) : FdM M p c := by
 obtain ⟨g, m, st, e, h1, h2, h3, h4, h5⟩ := h
 exact ⟨g, m, st, e, h1, h2, h3, h4, by omega⟩
theorem FdM.ne {M : Mem} {p a : Addr} {b : Int} (h : FdM M p b) (n : M a = none) : a ≠ p := fun z => by
 obtain ⟨g, m, st, e, _⟩ := h
 rw [← z, n] at e; cases e
theorem FdM.new {M : Mem} {p a : Addr} {b : Int} {o : MO} (h : FdM M p b) (n : a ≠ p) : FdM (updM M a o) p b := by
 obtain ⟨g, m, st, e, r⟩ := h
 exact ⟨g, m, st, by rw [dE (Ne.symm n)]; exact e, r⟩
def cFeed : Ct := fun ds M k => ∃ (ns : List Int) (i : Int), ds = [.fl (ns.map .int), .int i] ∧ 0 ≤ i ∧ i < 2 ^ 40 ∧ ∀ p M', M p = none → Le M M' → FdM M' p 0 → k (.mt p) M'
def cNext : Ct := fun ds M k => ∃ (p : Addr) (n b : Int), ds = [.mt p, .int n] ∧ 0 < n ∧ n < 1073741824 ∧ FdM M p b ∧ b ≤ 1000000 ∧ ∀ z M', 0 ≤ z → z < n → FdM M' p (b + 1) → ButM p M M' → (∀ a, a ≠ p → M' a = M a) → k (.int z) M'
def cShared : Ct := fun ds M k => ∃ a b : Int, ds = [.int a, .int b] ∧ k (.int ((Int.gcd a b : Nat) : Int)) M
theorem at_intsD {ns : List Int} {k : Int} (h0 : 0 ≤ k) (h : k < ns.length) : ∃ z : Int, atI (ns.map D.int) k = some (.int z) := by
 obtain ⟨j, rfl⟩ : ∃ j : Nat, k = (j : Int) := ⟨k.toNat, by omega⟩
 have hj : j < ns.length := by omega
 exact ⟨ns[j], eN (by simp [hj])⟩
theorem iA {M : Mem} {a : Addr} {o : MO} (h : M a = none) : delM (updM M a o) a = M := by
 funext b
 unfold delM updM
 by_cases e : b = a
 ·rw [if_pos e, e, h]
 ·rw [if_neg e, if_neg e]
def lineD (bt at_ : Int) : D := .tup [.int (at_ / ((Int.gcd at_ bt : Nat) : Int)), .int (bt / ((Int.gcd at_ bt : Nat) : Int))]
structure Ats (bt : Int) (ats : List Int) : Prop where
 bt : bt = 1 ∨ bt = 2 ∨ bt = 9
 up : ats.Pairwise (· < ·)
 bd : ∀ a ∈ ats, -20 ≤ a ∧ a ≤ 10 ^ 10
def pickD (xs : List D) (js : List Nat) : List D := js.map fun j => xs.getD j .non
def yardD (xs ys : List D) (zs : List Str) : D := .tup [.tup xs, .tup ys, .tup (zs.map .str)]
structure YardOk (xs ys : List D) (zs : List Str) : Prop where
 lx : ∃ bt ats, xs = ats.map (lineD bt) ∧ Ats bt ats
 ly : ∃ bt ats, ys = ats.map (lineD bt) ∧ Ats bt ats
 wf : R.Wf xs.length ys.length zs
 few : xs.length ≤ 21 ∧ ys.length ≤ 21
 full : zs = [] → xs = [] ∧ ys = []
end Q
namespace Q
open PySem L2 Z
theorem bS {α β : Type} {f : α → β} {l : List α} {i : Nat} {y : β} (h : (l.map f)[i]? = some y) : ∃ x, l[i]? = some x ∧ y = f x := by
 rw [List.getElem?_map] at h
 cases e : l[i]? with
 | none => rw [e] at h; cases h
 | some x => rw [e] at h; exact ⟨x, rfl, (Option.some.inj h).symm⟩
end Q
namespace PySem
open Sem (wp)
open AutoSeq1 (wpAny_loadPart')
section
variable {prog : Program} {w : World} {A : Around} {E : Value → Shared → Prop} {s : Shared}
end
section
variable {prog : Program} {w : World} {A : Around} {E : Value → Shared → Prop} {s : Shared}
end
end PySem
namespace L2
open PySem PySem.Spec PyProof.Rows
section
variable {X : Cx} {pins : List (Addr × Obj)} {σ : St} {H : Hp} {s : Shared} {h' : Heap}
theorem Inv.turnedT {t' : Nat} {ch : List Addr} {T : Addr} {o : HO} (I : Inv X pins σ H s) (k : ∀ b ob, b ∉ ch → s.heap.get? b = some ob → h'.get? b = some ob) (hf : ∀ b ∈ ch, FpOk X pins H b) (hT : s.heap.objs.size ≤ T)
  (new : eG X.prog X.w (upd H T o) h' T o) : Inv X pins σ (upd H T o) { s with heap := h', toks := t' } := by
 have hn : H T = none := I.hok.fresh hT
 have nit : ∀ b u, H b = some u → b ∉ ch := fun b u e z => by rw [(hf b z).1] at e; cases e
 have ne : ∀ b u, s.heap.get? b = some u → b ≠ T := fun b u e => Nat.ne_of_lt (Nat.lt_of_lt_of_le (Heap.lt_size e) hT)
 refine I.step (g' := s.gens) (d' := s.drawn) (ch := ch) (fun b hb => ?_) (fun b ob _ _ hc e _ => k b ob hc e) (fun b ob _ _ hc e _ => ⟨ob.slots, k b ob hc e⟩) (fun b ob _ e n => by rw [aW (ne b ob e)]; exact n)
  (fun b ob hc e => ⟨ob, k b ob hc e⟩) (fun b xs e => by rw [aW (bH e hn)]; exact e) (fun b ob u e => by rw [aW (bH e hn)]; exact e) (fun b ps e => ⟨#[], by rw [aW (bH e hn), e]; simp⟩) (fun m hm => ?_) (fun b u e => ?_) I.bare
 ·obtain ⟨f0, f1, f2, f3, f4, f5⟩ := hf b hb
  exact ⟨f3, f1, f4, f5⟩
 ·obtain ⟨ob, es, ep, ho, r⟩ := hm
  exact ⟨ob, es, ep, k _ ob (fun z => (hf _ z).2.1 rfl) ho, r⟩
 ·by_cases z : b = T
  ·subst z; rw [bG] at e; cases e; exact new
  ·rw [aW z] at e
   refine (I.hok b u e).stay (fun c v hc q => k c v ?_ q) (fun c q => by rw [aW (bH q hn)]; exact q) fun c xs q => by rw [aW (bH q hn)]; exact q
   rcases hc with y | y
   ·rw [y]; exact nit b u e
   ·exact nit c _ y
theorem Inv.turnedL {t' : Nat} {ch : List Addr} (I : Inv X pins σ H s) (k : ∀ b ob, b ∉ ch → s.heap.get? b = some ob → h'.get? b = some ob) (hf : ∀ b ∈ ch, FpOk X pins H b) : Inv X pins σ H { s with heap := h', toks := t' } := by
 have nit : ∀ b u, H b = some u → b ∉ ch := fun b u e z => by rw [(hf b z).1] at e; cases e
 refine I.step (g' := s.gens) (d' := s.drawn) (ch := ch) (fun b hb => ?_) (fun b ob _ _ hc e _ => k b ob hc e) (fun b ob _ _ hc e _ => ⟨ob.slots, k b ob hc e⟩) (fun _ _ _ _ n => n)
  (fun b ob hc e => ⟨ob, k b ob hc e⟩) (fun _ _ e => e) (fun _ _ _ e => e) (fun b ps e => ⟨#[], by rw [e]; simp⟩) (fun m hm => ?_) (fun b u e => ?_) I.bare
 ·obtain ⟨f0, f1, f2, f3, f4, f5⟩ := hf b hb
  exact ⟨f3, f1, f4, f5⟩
 ·obtain ⟨ob, es, ep, ho, r⟩ := hm
  exact ⟨ob, es, ep, k _ ob (fun z => (hf _ z).2.1 rfl) ho, r⟩
 ·refine (I.hok b u e).stay (fun c v hc q => k c v ?_ q) (fun _ q => q) fun _ _ q => q
  rcases hc with y | y
  ·rw [y]; exact nit b u e
  ·exact nit c _ y
end
end L2
namespace Z
open PySem L2
section
variable {X : Cx} {Γ : Gm} {M : Mem} {k : D → Mem → Prop} {pos : Pos} {a b : Expr} {rest : List Expr}
end
end Z
namespace R
open PySem L2
theorem nY {α : Type} (f : Nat → α) : ∀ p, f p ≠ f 0 → ∃ k, k < p ∧ f k ≠ f (k + 1) ∧ f (k + 1) = f p
 | 0, h => absurd rfl h
 | p + 1, h => by
  by_cases e : f p = f (p + 1)
  ·obtain ⟨k, h1, h2, h3⟩ := nY f p (by rw [e]; exact h)
   exact ⟨k, by omega, h2, h3.trans e⟩
  ·exact ⟨p, by omega, e, rfl⟩
theorem sK {l : List Nat} (s : l.Pairwise (· < ·)) {a b : Nat} (ha : a ∈ l) (hb : b ∈ l) (h : a < b) : a ∈ l.dropLast := by
 have hne : l ≠ [] := fun e => by rw [e] at ha; cases ha
 have e := List.dropLast_concat_getLast hne
 rw [← e] at ha hb s
 rw [List.pairwise_append] at s
 rcases List.mem_append.mp ha with ha | ha
 ·exact ha
 ·rw [List.mem_singleton] at ha
  rcases List.mem_append.mp hb with hb | hb
  ·have := s.2.2 b hb _ (List.mem_singleton_self _)
   omega
  ·rw [List.mem_singleton] at hb
   omega
theorem rE {n : Nat} {zs : List Str} (h : ∀ z ∈ zs, z.length = n) {z : Str} (hz : z ∈ zs) : z = dots n ∨ z ∈ aL zs := by
 by_cases hd : z = dots n
 ·exact .inl hd
 refine .inr ?_
 obtain ⟨p, hp, ez⟩ := List.getElem_of_mem hz
 have hne : zs ≠ [] := fun e => by rw [e] at hz; cases hz
 have hw := b7 h hne
 have f0 : (framed zs)[0]? = some (dots n) := by rw [eE, hw]
 have fl : (framed zs)[zs.length + 1]? = some (dots n) := by rw [c6, hw]
 have fp : (framed zs)[p + 1]? = some z := by rw [cA hp, List.getElem?_eq_getElem hp, ez]
 have ne : ∀ {o : Option Str}, o = some (dots n) → (framed zs)[p + 1]? ≠ o := fun e q => hd (by rw [fp, e] at q; injection q)
 obtain ⟨k, k1, k2, k3⟩ := nY (fun i => (framed zs)[i]?) (p + 1) (ne f0)
 obtain ⟨j, j1, j2, j3⟩ := gO (fun i => (framed zs)[i]?) (zs.length - p) (p + 1) (by
  show (framed zs)[p + 1]? ≠ (framed zs)[p + 1 + (zs.length - p)]?
  rw [show p + 1 + (zs.length - p) = zs.length + 1 by omega]; exact ne fl)
 have mk : k ∈ chg zs := (dG hne).mpr ⟨by omega, k2⟩
 have mj : j ∈ chg zs := (dG hne).mpr ⟨by omega, j3⟩
 have := sK (bV zs) mk mj (by omega)
 refine List.mem_map.mpr ⟨k, this, ?_⟩
 have e : (framed zs)[k + 1]? = some z := k3.trans fp
 rw [cA (by omega)] at e
 rw [List.getD_eq_getElem?_getD, e]; rfl
theorem sU {n : Nat} {zs : List Str} (h : ∀ z ∈ zs, z = dots n) : chg zs = [] := by
 by_cases hne : zs = []
 ·rw [hne]; simp [chg]
 have hl : ∀ z ∈ zs, z.length = n := fun z hz => by rw [h z hz, oH]
 have hw := b7 hl hne
 have all : ∀ i, i ≤ zs.length + 1 → (framed zs)[i]? = some (dots n) := fun i hi => by
  rcases Nat.eq_zero_or_pos i with rfl | hp
  ·rw [eE, hw]
  ·obtain ⟨j, rfl⟩ : ∃ j, i = j + 1 := ⟨i - 1, by omega⟩
   by_cases hj : j < zs.length
   ·rw [cA hj, List.getElem?_eq_getElem hj, h _ (List.getElem_mem hj)]
   ·rw [show j = zs.length by omega, c6, hw]
 refine List.eq_nil_iff_forall_not_mem.mpr fun i hi => ?_
 obtain ⟨a, b⟩ := (dG hne).mp hi
 exact b (by rw [all i (by omega), all (i + 1) (by omega)])
theorem qW {n : Nat} {zs : List Str} (h : ∀ z ∈ zs, z.length = n) (hr : aL zs = []) : chg zs = [] ∧ chg (aF zs) = [] := by
 have hd : ∀ z ∈ zs, z = dots n := fun z hz => (rE h hz).elim id fun q => by rw [hr] at q; cases q
 refine ⟨sU hd, sU (n := zs.length) fun c hc => ?_⟩
 obtain ⟨j, hj, rfl⟩ := List.mem_map.mp hc
 rw [List.mem_range] at hj
 by_cases hne : zs = []
 ·rw [hne] at hj; simp at hj
 rw [b7 h hne] at hj
 unfold dots ofL
 congr 2
 refine List.eq_replicate_iff.mpr ⟨by simp, fun b hb => ?_⟩
 obtain ⟨z, hz, rfl⟩ := List.mem_map.mp hb
 rw [hd z hz, i9, if_pos hj]
def cellF (n i : Nat) (z : Str) : Nat := if i = 0 ∨ i = n + 1 then 46 else atS z (i - 1)
theorem bO {n : Nat} {zs : List Str} (h : ∀ z ∈ zs, z.length = n) (hz : zs ≠ []) : (aF zs).length = n := by
 unfold aF; rw [b7 h hz]; simp
theorem fW {n i : Nat} {zs : List Str} (h : ∀ z ∈ zs, z.length = n) (hz : zs ≠ []) (hn : 0 < n) (hi : i ≤ n + 1) : (framed (aF zs))[i]? = some (ofL (zs.map (cellF n i))) := by
 have hc := bO h hz
 have hne : aF zs ≠ [] := fun e => by rw [e] at hc; simp at hc; omega
 have hw : ((aF zs).head?.map (·.length)).getD 0 = zs.length := b7 (fun c hc => cJ c hc) hne
 have hd : dots zs.length = ofL (zs.map fun _ => 46) := by
  unfold dots; rw [List.map_const']
 rcases Nat.eq_zero_or_pos i with rfl | hp
 ·rw [eE, hw, hd]; rfl
 ·obtain ⟨j, rfl⟩ : ∃ j, i = j + 1 := ⟨i - 1, by omega⟩
  by_cases hj : j < n
  ·rw [cA (by omega), dH h hz hj]
   congr 2
   apply List.map_congr_left
   intro z _
   unfold cellF
   rw [if_neg (by omega)]; rfl
  ·have e : j = (aF zs).length := by omega
   rw [e, c6, hw, hd]
   congr 2
   apply List.map_congr_left
   intro z _
   unfold cellF
   rw [if_pos (by omega)]
theorem p3 {zs : List Str} {f g : Str → Nat} : (some (ofL (zs.map f)) = some (ofL (zs.map g))) ↔ ∀ z ∈ zs, f z = g z := by
 constructor
 ·intro e
  injection e with e
  unfold ofL at e
  injection e with e
  have e : zs.map f = zs.map g := by injection e
  exact fun z hz => (List.map_inj_left.mp e) z hz
 ·intro e
  rw [List.map_congr_left e]
theorem mE {n : Nat} {zs : List Str} (h : ∀ z ∈ zs, z.length = n) (hr : aL zs ≠ []) : chg (aF (aL zs)) = chg (aF zs) := by
 have hz : zs ≠ [] := fun e => by subst e; exact hr (by simp [aL, chg])
 have hk : ∀ z ∈ aL zs, z.length = n := fun z q => h z (iM z q)
 rcases Nat.eq_zero_or_pos n with rfl | hn
 ·have e1 : aF zs = [] := List.length_eq_zero_iff.mp (bO h hz)
  have e2 : aF (aL zs) = [] := List.length_eq_zero_iff.mp (bO hk hr)
  rw [e1, e2]
 ·have l1 := bO h hz
  have l2 := bO hk hr
  have n1 : (aF zs).isEmpty = false := by cases hc : aF zs with
   | nil => rw [hc] at l1; simp at l1; omega
   | cons _ _ => rfl
  have n2 : (aF (aL zs)).isEmpty = false := by cases hc : aF (aL zs) with
   | nil => rw [hc] at l2; simp at l2; omega
   | cons _ _ => rfl
  unfold chg
  rw [n1, n2, l1, l2, if_neg Bool.false_ne_true, if_neg Bool.false_ne_true]
  apply List.filter_congr
  intro i hi
  rw [List.mem_range] at hi
  rw [fW h hz hn (by omega), fW h hz hn (by omega), fW hk hr hn (by omega), fW hk hr hn (by omega)]
  congr 1
  apply decide_eq_decide.mpr
  rw [p3, p3]
  constructor
  ·intro q z hz
   rcases rE h hz with rfl | hz
   ·unfold cellF
    rw [i9, i9]
    split <;> split <;> (try split) <;> (try split) <;> first | rfl | omega
   ·exact q z hz
  ·exact fun q z hz => q z (iM z hz)
theorem l7 {n : Nat} {zs : List Str} (h : Good n zs) (hr : aL zs ≠ []) : aF (aL (aF (aL zs))) = bX zs := by
 have g1 := g8 h
 have hl : ∀ z ∈ aL zs, z.length = n := fun z hz => (g1 z hz).1
 obtain ⟨c2, wf, le⟩ := tidy_wf h hr
 have hJ := mE (fun z hz => (h z hz).1) hr
 have lt : ∀ j ∈ (chg (aF (aL zs))).dropLast, j < n := fun j hj => by
  have := iB (bV _) (dI _) j hj
  rw [bO hl hr] at this
  exact this
 have e1 : aL (aF (aL zs)) = (chg (aF (aL zs))).dropLast.map fun j => ofL ((aL zs).map (atS · j)) := by
  show List.map _ _ = _
  apply List.map_congr_left
  intro j hj
  rw [List.getD_eq_getElem?_getD, dH hl hr (lt j hj)]; rfl
 have hk : aL (aF (aL zs)) ≠ [] := fun q => by
  have := dM (aF (aL zs))
  rw [q] at this
  simp at this
  omega
 have hw : ((aL (aF (aL zs))).head?.map (·.length)).getD 0 = (aL zs).length := b7 (fun z hz => cJ z (iM z hz)) hk
 have ek : bX zs = (aL zs).map fun z => ofL ((chg (aF (aL zs))).dropLast.map (atS z)) := by
  rw [hJ]; unfold aL bX; rw [List.map_map]; rfl
 rw [ek]
 show (List.range (((aL (aF (aL zs))).head?.map (·.length)).getD 0)).map (fun j => ofL ((aL (aF (aL zs))).map (atS · j))) = _
 rw [hw, e1]
 apply List.ext_getElem
 ·simp
 ·intro r hr1 hr2
  rw [List.length_map, List.length_range] at hr1
  rw [List.getElem_map, List.getElem_map, List.getElem_range, List.map_map]
  congr 1
  apply List.map_congr_left
  intro j _
  show atS (ofL ((aL zs).map (atS · j))) r = _
  rw [jD, List.getD_eq_getElem?_getD, List.getElem?_map, List.getElem?_eq_getElem hr1]; rfl
abbrev Cell := List Int
def kF (zs : List Str) (inside : Bool) (nx ny : Nat) : List Cell := (List.range (ny + 1)).flatMap fun (u : Nat) => (List.range (nx + 1)).filterMap fun (a : Nat) => if aY zs ((a : Int) - 1) ((u : Int) - 1) = inside then some [(a : Int) - 1, (u : Int) - 1] else none
inductive Rch (cells : List Cell) (st : List (Int × Int)) (s : Cell) : Cell → Prop
 | refl : Rch cells st s s
 | step {x y : Int} {d : Int × Int} : Rch cells st s [x, y] → d ∈ st → [x + d.1, y + d.2] ∈ cells → Rch cells st s [x + d.1, y + d.2]
open Classical in
noncomputable def starts (cells : List Cell) (st : List (Int × Int)) : Nat → List Cell
 | 0 => []
 | i + 1 => match cells[i]? with
  | some c => if ∃ s ∈ starts cells st i, Rch cells st s c then starts cells st i else starts cells st i ++ [c]
  | none => starts cells st i
def rowsOf (f : Int → Int → Bool) (w h : Nat) : List Str := (List.range h).map fun (u : Nat) => ofL ((List.range w).map fun (a : Nat) => sg (f (a : Int) (u : Int)))
end R
namespace R
open PySem L2
theorem still {zs : List Str} (hz : zs ≠ []) {a b : Nat} (hab : a ≤ b) (hb : b ≤ zs.length + 1) (hn : ∀ c ∈ chg zs, ¬ (a ≤ c ∧ c < b)) : (framed zs)[a]? = (framed zs)[b]? := by
 refine Classical.byContradiction fun q => ?_
 obtain ⟨k, h1, h2, h3⟩ := gO (fun i => (framed zs)[i]?) (b - a) a (by rw [show a + (b - a) = b by omega]; exact q)
 exact hn k ((dG hz).mpr ⟨by omega, h3⟩) ⟨h1, by omega⟩
theorem lT {zs : List Str} {i j : Nat} {c d : Nat} (hi : (chg zs)[i]? = some c) (hj : (chg zs)[j]? = some d) (h : i < j) : c < d := by
 obtain ⟨h1, e1⟩ := List.getElem?_eq_some_iff.mp hi
 obtain ⟨h2, e2⟩ := List.getElem?_eq_some_iff.mp hj
 have := List.pairwise_iff_getElem.mp (bV zs) i j h1 h2 h
 rw [e1, e2] at this; exact this
theorem rY {zs : List Str} {i : Nat} {c d e : Nat} (hi : (chg zs)[i]? = some c) (hj : (chg zs)[i + 1]? = some d) (he : e ∈ chg zs) (h : c < e) : d ≤ e := by
 obtain ⟨k, hk, ek⟩ := List.getElem_of_mem he
 have ek' : (chg zs)[k]? = some e := by rw [List.getElem?_eq_getElem hk, ek]
 by_cases h1 : k ≤ i
 ·by_cases h2 : k = i
  ·subst h2; rw [hi] at ek'; cases ek'; omega
  ·have := lT ek' hi (by omega); omega
 ·by_cases h2 : k = i + 1
  ·subst h2; rw [hj] at ek'; cases ek'; omega
  ·have := lT hj ek' (by omega); omega
theorem qM {zs : List Str} {c e : Nat} (hi : (chg zs)[0]? = some c) (he : e ∈ chg zs) : c ≤ e := by
 obtain ⟨k, hk, ek⟩ := List.getElem_of_mem he
 have ek' : (chg zs)[k]? = some e := by rw [List.getElem?_eq_getElem hk, ek]
 by_cases h : k = 0
 ·subst h; rw [hi] at ek'; cases ek'; omega
 ·have := lT hi ek' (by omega); omega
theorem chg_final {zs : List Str} {c e : Nat} (hi : (chg zs)[(chg zs).length - 1]? = some c) (he : e ∈ chg zs) : e ≤ c := by
 obtain ⟨k, hk, ek⟩ := List.getElem_of_mem he
 have ek' : (chg zs)[k]? = some e := by rw [List.getElem?_eq_getElem hk, ek]
 by_cases h : k = (chg zs).length - 1
 ·subst h; rw [hi] at ek'; cases ek'; omega
 ·have := lT ek' hi (by omega); omega
theorem sN {zs : List Str} {i c : Nat} (hi : (chg zs)[i]? = some c) (h : i + 1 < (chg zs).length) : (aL zs)[i]? = zs[c]? ∧ c < zs.length := by
 have hd : (chg zs).dropLast[i]? = some c := by rw [List.getElem?_dropLast, if_pos (by omega)]; exact hi
 have hl := iB (bV zs) (dI zs) c (List.mem_of_getElem? hd)
 unfold aL
 rw [List.getElem?_map, hd, Option.map_some, List.getD_eq_getElem?_getD, List.getElem?_eq_getElem hl]
 exact ⟨rfl, hl⟩
theorem r8 {n : Nat} {zs : List Str} (h : ∀ z ∈ zs, z.length = n) (hr : aL zs ≠ []) : chg (aL zs) = List.range (chg zs).length := by
 have hc : chg zs ≠ [] := fun e => hr (by unfold aL; rw [e]; rfl)
 have hz : zs ≠ [] := nF zs hc
 have hkl := dM zs
 have hk1 : 1 ≤ (aL zs).length := List.length_pos_iff.mpr hr
 have hK : ∀ z ∈ aL zs, z.length = n := fun z hz => h z (iM z hz)
 have w1 := b7 h hz
 have w2 := b7 hK hr
 have f0 := eE zs
 have fl := c6 zs
 have g0 := eE (aL zs)
 have gl := c6 (aL zs)
 rw [w1] at f0 fl
 rw [w2] at g0 gl
 have A : ∀ i c, (chg zs)[i]? = some c → (framed (aL zs))[i]? = (framed zs)[c]? := fun i c hi => by
  have hil := (List.getElem?_eq_some_iff.mp hi).1
  have hcl := dI zs c (List.mem_of_getElem? hi)
  cases i with
  | zero =>
   rw [g0, ← f0]
   exact still hz (Nat.zero_le _) (by omega) fun e he z => by have := qM hi he; omega
  | succ i =>
   obtain ⟨b, hb⟩ : ∃ b, (chg zs)[i]? = some b := ⟨(chg zs)[i], List.getElem?_eq_getElem (by omega)⟩
   obtain ⟨k1, k2⟩ := sN hb (by omega)
   have lt := lT hb hi (Nat.lt_succ_self i)
   rw [cA (by omega), k1, ← cA k2]
   exact still hz (by omega) (by omega) fun e he z => by have := rY hb hi he (by omega); omega
 have B : ∀ i c, (chg zs)[i]? = some c → (framed (aL zs))[i + 1]? = (framed zs)[c + 1]? := fun i c hi => by
  have hil := (List.getElem?_eq_some_iff.mp hi).1
  have hcl := dI zs c (List.mem_of_getElem? hi)
  by_cases hlast : i + 1 < (chg zs).length
  ·obtain ⟨k1, k2⟩ := sN hi hlast
   rw [cA (by omega), k1, ← cA k2]
  ·have ei : i = (chg zs).length - 1 := by omega
   rw [show i + 1 = (aL zs).length + 1 by omega, gl, ← fl]
   exact (still hz (by omega) (Nat.le_refl _) fun e he z => by have := chg_final (ei ▸ hi) he; omega).symm
 have : chg (aL zs) = (List.range ((aL zs).length + 1)).filter fun i => !decide ((framed (aL zs))[i]? = (framed (aL zs))[i + 1]?) := by
  unfold chg
  rw [if_neg (by rw [List.isEmpty_iff]; exact hr)]
 rw [this, show (aL zs).length + 1 = (chg zs).length by omega]
 refine List.filter_eq_self.mpr fun i hi => ?_
 have hil := List.mem_range.mp hi
 have hi' : (chg zs)[i]? = some (chg zs)[i] := List.getElem?_eq_getElem hil
 have hne := ((dG hz).mp (List.mem_of_getElem? hi')).2
 rw [← A i _ hi', ← B i _ hi'] at hne
 rw [decide_eq_false hne]; rfl
theorem jT {n : Nat} {zs : List Str} (h : ∀ z ∈ zs, z.length = n) (hz : zs ≠ []) (hn : 0 < n) : aF (aF zs) = zs := by
 have hc : (aF zs).length = n := bO h hz
 have hcn : aF zs ≠ [] := fun e => by rw [e] at hc; simp at hc; omega
 have hce : ∀ z ∈ aF zs, z.length = zs.length := fun z hz => cJ z hz
 have hzl : 0 < zs.length := List.length_pos_iff.mpr hz
 have hcc := bO hce hcn
 apply List.ext_getElem?
 intro i
 by_cases hi : i < zs.length
 ·rw [dH hce hcn hi, List.getElem?_eq_getElem hi]
  congr 1
  apply gH
  show (aF zs).map (atS · i) = zs[i].cps.toList
  apply List.ext_getElem?
  intro j
  have hl := h zs[i] (List.getElem_mem hi)
  by_cases hj : j < n
  ·rw [List.getElem?_map, dH h hz hj, Option.map_some, cV (by omega), jD, List.getD_eq_getElem?_getD, List.getElem?_map, List.getElem?_eq_getElem hi]
   rfl
  ·rw [List.getElem?_eq_none (by rw [List.length_map]; omega), List.getElem?_eq_none (by rw [Array.length_toList]; have : zs[i].cps.size = zs[i].length := rfl; omega)]
 ·rw [List.getElem?_eq_none (by omega), List.getElem?_eq_none (by omega)]
theorem u4 {n : Nat} {zs : List Str} (h : Good n zs) (hr : aL zs ≠ []) :
  chg (bX zs) = List.range (chg zs).length ∧ chg (aF (bX zs)) = List.range (chg (aF zs)).length ∧ bX zs ≠ [] ∧ Good ((chg (aF zs)).length - 1) (bX zs) ∧ 2 ≤ (chg (aF zs)).length ∧ 2 ≤ (chg zs).length := by
 have hl : ∀ z ∈ zs, z.length = n := fun z hz => (h z hz).1
 have gR := g8 h
 have hR : ∀ z ∈ aL zs, z.length = n := fun z hz => (gR z hz).1
 obtain ⟨z0, hz0, hd0⟩ := nZ hl hr
 obtain ⟨j0, hj0, _⟩ := sW gR hz0 hd0
 have hn : 0 < n := by omega
 have eR := r8 hl hr
 have eC := mE hl hr
 have gC := iR gR
 have hC : ∀ z ∈ aF (aL zs), z.length = (aL zs).length := fun z hz => (gC z hz).1
 have cne : aF (aL zs) ≠ [] := fun e => by have := bO hR hr; rw [e] at this; simp at this; omega
 have kne : aL (aF (aL zs)) ≠ [] := fun e => by
  have h1 := (qW hC e).2
  rw [jT hR hr hn, eR] at h1
  have h2 : (chg zs).length = 0 := by simpa using congrArg List.length h1
  have := dM zs
  exact hr (List.length_eq_zero_iff.mp (by omega))
 have eK := r8 hC kne
 have gK := g8 gC
 have hK : ∀ z ∈ aL (aF (aL zs)), z.length = (aL zs).length := fun z hz => (gK z hz).1
 have rl : 0 < (aL zs).length := List.length_pos_iff.mpr hr
 have e1 := mE hC kne
 rw [jT hR hr hn, eR, l7 h hr] at e1
 have e2 : aF (bX zs) = aL (aF (aL zs)) := by rw [← l7 h hr]; exact jT hK kne rl
 have kl := dM (aF (aL zs))
 have kp : 0 < (aL (aF (aL zs))).length := List.length_pos_iff.mpr kne
 have kz := dM zs
 rw [eC] at kl
 refine ⟨e1, by rw [e2, eK, eC], fun e => ?_, ?_, by omega, by omega⟩
 ·rw [e] at e1
  have h2 := congrArg List.length e1
  rw [List.length_range, show (chg ([] : List Str)).length = 0 from rfl] at h2
  omega
 ·rw [← l7 h hr]
  have := iR gK
  rw [kl] at this
  exact this
theorem band_in {zs : List Str} {r j c d : Nat} (hj : j < zs.length) (h1 : (chg zs)[r]? = some c) (h2 : (chg zs)[r + 1]? = some d) (hc : c ≤ j) (hd : j < d) : zs[j]? = zs[c]? := by
 have hz : zs ≠ [] := fun e => by rw [e] at hj; simp at hj
 rw [← cA hj, ← cA (show c < zs.length by omega)]
 exact (still hz (by omega) (by omega) fun e he z => by have := rY h1 h2 he (by omega); omega).symm
theorem sJ {n : Nat} {zs : List Str} (h : ∀ z ∈ zs, z.length = n) {j : Nat} (hj : j < zs.length) (hn : ∀ r c d, (chg zs)[r]? = some c → (chg zs)[r + 1]? = some d → ¬ (c ≤ j ∧ j < d)) : zs[j]? = some (dots n) := by
 have hz : zs ≠ [] := fun e => by rw [e] at hj; simp at hj
 have w := b7 h hz
 have f0 := eE zs
 have fl := c6 zs
 rw [w] at f0 fl
 rw [← cA hj]
 by_cases hall : ∀ e ∈ chg zs, j < e
 ·rw [← f0]
  exact (still hz (Nat.zero_le _) (by omega) fun e he z => by have := hall e he; omega).symm
 ·have h0 : ∀ (r c : Nat), (chg zs)[r]? = some c → c ≤ j := fun r => by
   induction r with
   | zero =>
    intro c hc
    refine Classical.byContradiction fun q => hall fun e he => ?_
    have := qM hc he; omega
   | succ r ih =>
    intro d hd
    have hr := (List.getElem?_eq_some_iff.mp hd).1
    have hc : (chg zs)[r]? = some (chg zs)[r] := List.getElem?_eq_getElem (by omega)
    have := hn r _ d hc hd
    have := ih _ hc
    omega
  rw [← fl]
  refine still hz (by omega) (Nat.le_refl _) fun e he z => ?_
  obtain ⟨k, hk, ek⟩ := List.getElem_of_mem he
  have := h0 k e (by rw [List.getElem?_eq_getElem hk, ek])
  omega
theorem kept_at {zs : List Str} {r c i j : Nat} (hr : (chg zs)[r]? = some i) (hr1 : r + 1 < (chg zs).length) (hc : (chg (aF zs))[c]? = some j) (hc1 : c + 1 < (chg (aF zs)).length) {z : Str} (hz : zs[i]? = some z) : ∃ y, (bX zs)[r]? = some y ∧ atS y c = atS z j := by
 have d1 : (chg zs).dropLast[r]? = some i := by rw [List.getElem?_dropLast, if_pos (by omega)]; exact hr
 have d2 : (chg (aF zs)).dropLast[c]? = some j := by rw [List.getElem?_dropLast, if_pos (by omega)]; exact hc
 unfold bX
 rw [List.getElem?_map, d1]
 refine ⟨_, rfl, ?_⟩
 rw [jD, List.getD_eq_getElem?_getD, List.getElem?_map, d2, List.getD_eq_getElem?_getD, hz]
 rfl
theorem col_in {n : Nat} {zs : List Str} (h : ∀ z ∈ zs, z.length = n) {c k i d : Nat} (hk : k < n) (h1 : (chg (aF zs))[c]? = some i) (h2 : (chg (aF zs))[c + 1]? = some d) (hc : i ≤ k) (hd : k < d) : ∀ z ∈ zs, atS z k = atS z i := fun z hz => by
 have hne : zs ≠ [] := fun e => by rw [e] at hz; cases hz
 have hl := bO h hne
 have := band_in (zs := aF zs) (by omega) h1 h2 hc hd
 rw [dH h hne hk, dH h hne (by omega)] at this
 exact p3.mp this z hz
theorem col_out {n : Nat} {zs : List Str} (h : ∀ z ∈ zs, z.length = n) {k : Nat} (hk : k < n) (hn : ∀ r c d, (chg (aF zs))[r]? = some c → (chg (aF zs))[r + 1]? = some d → ¬ (c ≤ k ∧ k < d)) : ∀ z ∈ zs, atS z k = 46 := fun z hz => by
 have hne : zs ≠ [] := fun e => by rw [e] at hz; cases hz
 have hl := bO h hne
 have := sJ (zs := aF zs) (fun z hz => cJ z hz) (j := k) (by omega) hn
 rw [dH h hne hk] at this
 have e : ofL (zs.map (atS · k)) = dots zs.length := by injection this
 obtain ⟨i, hi, rfl⟩ := List.getElem_of_mem hz
 have e2 := congrArg (fun s => atS s i) e
 simp only [jD, i9, if_pos hi] at e2
 rw [List.getD_eq_getElem?_getD, List.getElem?_map, List.getElem?_eq_getElem hi] at e2
 exact e2
end R
namespace R
open PySem L2
def cM (C : List Nat) (k : Int) : Nat := (C.filter fun (i : Nat) => decide ((i : Int) ≤ k)).length
def bd (C : List Nat) (k : Int) : Int := (cM C k : Int) - 1
theorem pL {k : Int} : ∀ {C : List Nat}, C.Pairwise (· < ·) → ∀ {i c : Nat}, C[i]? = some c → ((c : Int) ≤ k ↔ i < cM C k)
 | [], _, i, c, h => by simp at h
 | a :: l, hs, i, c, h => by
  obtain ⟨h1, h2⟩ := List.pairwise_cons.mp hs
  unfold cM
  by_cases ha : (a : Int) ≤ k
  ·rw [List.filter_cons_of_pos (by simpa using ha), List.length_cons]
   cases i with
   | zero => simp at h; subst h; exact ⟨fun _ => by omega, fun _ => ha⟩
   | succ i =>
    have := pL (k := k) h2 (i := i) (c := c) (by simpa using h)
    unfold cM at this
    rw [this]; omega
  ·rw [List.filter_cons_of_neg (by simpa using ha)]
   have e : l.filter (fun (i : Nat) => decide ((i : Int) ≤ k)) = [] := List.filter_eq_nil_iff.mpr fun x hx => by have := h1 x hx; simp; omega
   rw [e]
   cases i with
   | zero => simp at h; subst h; exact ⟨fun z => absurd z ha, fun z => by simp at z⟩
   | succ i =>
    have := h1 c (List.mem_of_getElem? (i := i) (by simpa using h))
    exact ⟨fun z => by omega, fun z => by simp at z⟩
theorem cnt_le (C : List Nat) (k : Int) : cM C k ≤ C.length := List.length_filter_le _ _
theorem cell_bd {n : Nat} {zs : List Str} (g : Good n zs) (k j : Int) : aY (bX zs) (bd (chg (aF zs)) k) (bd (chg zs) j) = aY zs k j := by
 have h : ∀ z ∈ zs, z.length = n := fun z hz => (g z hz).1
 have kl : (bX zs).length = (chg zs).length - 1 := by unfold bX; rw [List.length_map, List.length_dropLast]
 have kw : ∀ z ∈ bX zs, z.length = (chg (aF zs)).length - 1 := fun z hz => by
  unfold bX at hz
  obtain ⟨i, _, rfl⟩ := List.mem_map.mp hz
  rw [kO, List.length_map, List.length_dropLast]
 have c1 := cnt_le (chg zs) j
 have c2 := cnt_le (chg (aF zs)) k
 have key1 := fun {i c} => pL (k := j) (bV zs) (i := i) (c := c)
 have key2 := fun {i c} => pL (k := k) (bV (aF zs)) (i := i) (c := c)
 unfold bd
 -- the row is none: both are out
 by_cases hr : 0 < cM (chg zs) j ∧ cM (chg zs) j < (chg zs).length
 rotate_left
 ·have lhs : aY (bX zs) ((cM (chg (aF zs)) k : Int) - 1) ((cM (chg zs) j : Int) - 1) = false := by
   by_cases h0 : cM (chg zs) j = 0
   ·exact eH (by omega)
   ·exact eS (by omega)
  rw [lhs]
  symm
  by_cases hj0 : j < 0
  ·exact eH hj0
  by_cases hj1 : (zs.length : Int) ≤ j
  ·exact eS hj1
  obtain ⟨m, rfl⟩ : ∃ m : Nat, j = (m : Int) := ⟨j.toNat, by omega⟩
  have hd := sJ h (j := m) (by omega) fun r c d h1 h2 h3 => by
   have a1 := key1 h1
   have a2 := key1 h2
   have hl2 := (List.getElem?_eq_some_iff.mp h2).1
   omega
  by_cases hk0 : k < 0
  ·exact c5 hk0
  obtain ⟨q, rfl⟩ : ∃ q : Nat, k = (q : Int) := ⟨k.toNat, by omega⟩
  by_cases hk1 : n ≤ q
  ·exact iD (z := dots n) (by rw [Int.toNat_natCast]; exact hd) (by rw [oH]; omega)
  ·rw [fI (z := dots n) (c := 46) (by omega) (by omega) (by rw [Int.toNat_natCast]; exact hd) (by rw [Int.toNat_natCast, cV (by rw [oH]; omega), i9, if_pos (by omega)])]
   rfl
 obtain ⟨r, hr0⟩ : ∃ r, cM (chg zs) j = r + 1 := ⟨cM (chg zs) j - 1, by omega⟩
 have er : (((cM (chg zs) j : Nat) : Int) - 1) = (r : Int) := by omega
 have g1 : (chg zs)[r]? = some (chg zs)[r] := List.getElem?_eq_getElem (by omega)
 have g2 : (chg zs)[r + 1]? = some (chg zs)[r + 1] := List.getElem?_eq_getElem (by omega)
 have b1 := (key1 g1).mpr (by omega)
 have b2 := key1 g2
 have hd2 := dI _ _ (List.mem_of_getElem? g2)
 obtain ⟨m, rfl⟩ : ∃ m : Nat, j = (m : Int) := ⟨j.toNat, by omega⟩
 have hm : m < zs.length := by omega
 have eb := band_in hm g1 g2 (by omega) (by omega)
 obtain ⟨z, hz⟩ : ∃ z, zs[m]? = some z := ⟨zs[m], List.getElem?_eq_getElem hm⟩
 rw [hz] at eb
 have hzm := List.mem_of_getElem? hz
 have hkr : r < (bX zs).length := by omega
 have hky : (bX zs)[r]? = some (bX zs)[r] := List.getElem?_eq_getElem hkr
 have hyl := kw _ (List.getElem_mem hkr)
 rw [er]
 by_cases hc : 0 < cM (chg (aF zs)) k ∧ cM (chg (aF zs)) k < (chg (aF zs)).length
 rotate_left
 ·have lhs : aY (bX zs) ((cM (chg (aF zs)) k : Int) - 1) (r : Int) = false := by
   by_cases h0 : cM (chg (aF zs)) k = 0
   ·exact c5 (by omega)
   ·exact iD (z := (bX zs)[r]) (by rw [Int.toNat_natCast]; exact hky) (by omega)
  rw [lhs]
  symm
  by_cases hk0 : k < 0
  ·exact c5 hk0
  obtain ⟨q, rfl⟩ : ∃ q : Nat, k = (q : Int) := ⟨k.toNat, by omega⟩
  by_cases hk1 : n ≤ q
  ·exact iD (z := z) (by rw [Int.toNat_natCast]; exact hz) (by rw [h z hzm]; omega)
  ·have := col_out h (k := q) (by omega) (fun r c d h1 h2 h3 => by
    have a1 := key2 h1
    have a2 := key2 h2
    have hl2 := (List.getElem?_eq_some_iff.mp h2).1
    omega) z hzm
   rw [fI (z := z) (c := 46) (by omega) (by omega) (by rw [Int.toNat_natCast]; exact hz) (by rw [Int.toNat_natCast, cV (by rw [h z hzm]; omega), this])]
   rfl
 obtain ⟨c, hc0⟩ : ∃ c, cM (chg (aF zs)) k = c + 1 := ⟨cM (chg (aF zs)) k - 1, by omega⟩
 have ec : (((cM (chg (aF zs)) k : Nat) : Int) - 1) = (c : Int) := by omega
 have f1 : (chg (aF zs))[c]? = some (chg (aF zs))[c] := List.getElem?_eq_getElem (by omega)
 have f2 : (chg (aF zs))[c + 1]? = some (chg (aF zs))[c + 1] := List.getElem?_eq_getElem (by omega)
 have d1 := (key2 f1).mpr (by omega)
 have d2 := key2 f2
 have hne : zs ≠ [] := fun e => by rw [e] at hm; simp at hm
 have hcl := bO h hne
 have hd3 := dI _ _ (List.mem_of_getElem? f2)
 obtain ⟨q, rfl⟩ : ∃ q : Nat, k = (q : Int) := ⟨k.toNat, by omega⟩
 have hq : q < n := by omega
 obtain ⟨y, hy, ey⟩ := kept_at g1 (by omega) f1 (by omega) eb.symm
 have ecol := col_in h (k := q) hq f1 f2 (by omega) (by omega) z hzm
 have hyl2 := kw y (List.mem_of_getElem? hy)
 rw [ec, fI (z := y) (c := atS y c) (by omega) (by omega) (by rw [Int.toNat_natCast]; exact hy) (by rw [Int.toNat_natCast]; exact cV (by omega)),
  fI (z := z) (c := atS z q) (by omega) (by omega) (by rw [Int.toNat_natCast]; exact hz) (by rw [Int.toNat_natCast]; exact cV (by rw [h z hzm]; exact hq)), ey, ecol]
end R
namespace R
open PySem L2
def revS (z : Str) : Str := ofL z.cps.toList.reverse
theorem d6 (z : Str) : (revS z).cps.toList = z.cps.toList.reverse := rfl
theorem k8 (z : Str) : (revS z).length = z.length := by
 show (z.cps.toList.reverse.toArray).size = z.cps.size
 simp
theorem revS_inj {a b : Str} (h : revS a = revS b) : a = b := by
 apply gH
 have : (revS a).cps.toList = (revS b).cps.toList := by rw [h]
 rw [d6, d6] at this
 exact List.reverse_inj.mp this
theorem atS_rev {z : Str} {j : Nat} (h : j < z.length) : atS (revS z) j = atS z (z.length - 1 - j) := by
 have h' : j < z.cps.toList.length := by rw [Array.length_toList]; exact h
 have e := cV (z := revS z) (j := j) (by rw [k8]; exact h)
 have e2 := cV (z := z) (j := z.length - 1 - j) (by omega)
 rw [d6, List.getElem?_reverse h', Array.length_toList] at e
 have : z.cps.size = z.length := rfl
 rw [this, e2] at e
 exact (Option.some.inj e).symm
theorem rev_dots (n : Nat) : revS (dots n) = dots n := by
 apply gH
 rw [d6]
 show (List.replicate n 46).reverse = List.replicate n 46
 exact List.reverse_replicate
theorem sI {n : Nat} {K : List Str} (g : Good n K) : Good n (K.map revS) := fun z hz => by
 obtain ⟨y, hy, rfl⟩ := List.mem_map.mp hz
 obtain ⟨h1, h2⟩ := g y hy
 refine ⟨(k8 y).trans h1, ?_⟩
 rw [d6, List.all_reverse]; exact h2
theorem jU {n : Nat} {K : List Str} (h : ∀ z ∈ K, z.length = n) (hK : K ≠ []) : framed K = [dots n] ++ K ++ [dots n] := by unfold framed; rw [b7 h hK]
theorem k6 {K : List Str} (hK : K ≠ []) : chg K = List.range (K.length + 1) ↔ ∀ i, i ≤ K.length → (framed K)[i]? ≠ (framed K)[i + 1]? := by
 constructor
 ·intro e i hi
  exact ((dG hK).mp (by rw [e]; exact List.mem_range.mpr (by omega))).2
 ·intro h
  unfold chg
  rw [if_neg (by rw [List.isEmpty_iff]; exact hK)]
  refine List.filter_eq_self.mpr fun i hi => ?_
  rw [decide_eq_false (h i (by have := List.mem_range.mp hi; omega))]; rfl
theorem pC {n : Nat} {K : List Str} (h : ∀ z ∈ K, z.length = n) (hK : K ≠ []) (e : chg K = List.range (K.length + 1)) : chg (K.map revS) = List.range ((K.map revS).length + 1) := by
 have hK' : K.map revS ≠ [] := by simpa using hK
 have h' : ∀ z ∈ K.map revS, z.length = n := fun z hz => by obtain ⟨y, hy, rfl⟩ := List.mem_map.mp hz; rw [k8]; exact h y hy
 rw [k6 hK']
 rw [k6 hK] at e
 have ef : framed (K.map revS) = (framed K).map revS := by
  rw [jU h' hK', jU h hK, List.map_append, List.map_append, List.map_singleton, rev_dots]
 intro i hi
 rw [List.length_map] at hi
 rw [ef, List.getElem?_map, List.getElem?_map]
 intro q
 have hl := fJ K
 have a1 : (framed K)[i]? = some (framed K)[i] := List.getElem?_eq_getElem (by omega)
 have a2 : (framed K)[i + 1]? = some (framed K)[i + 1] := List.getElem?_eq_getElem (by omega)
 refine e i hi ?_
 rw [a1, a2] at q ⊢
 rw [Option.map_some, Option.map_some] at q
 exact congrArg some (revS_inj (Option.some.inj q))
theorem nQ {n : Nat} {K : List Str} (h : ∀ z ∈ K, z.length = n) (hK : K ≠ []) (e : chg K = List.range (K.length + 1)) : chg K.reverse = List.range (K.reverse.length + 1) := by
 have hK' : K.reverse ≠ [] := by simpa using hK
 have h' : ∀ z ∈ K.reverse, z.length = n := fun z hz => h z (List.mem_reverse.mp hz)
 rw [k6 hK']
 rw [k6 hK] at e
 have ef : framed K.reverse = (framed K).reverse := by
  rw [jU h' hK', jU h hK, List.reverse_append, List.reverse_append]; simp
 intro i hi
 rw [List.length_reverse] at hi
 have hl := fJ K
 rw [ef, List.getElem?_reverse (by omega), List.getElem?_reverse (by omega), hl]
 intro q
 have := e (K.length - i) (by omega)
 rw [show K.length + 2 - 1 - i = K.length - i + 1 by omega, show K.length + 2 - 1 - (i + 1) = K.length - i by omega] at q
 exact this q.symm
theorem nS {n : Nat} {K : List Str} (h : ∀ z ∈ K, z.length = n) (hK : K ≠ []) : aF (K.map revS) = (aF K).reverse := by
 have hK' : K.map revS ≠ [] := by simpa using hK
 have h' : ∀ z ∈ K.map revS, z.length = n := fun z hz => by obtain ⟨y, hy, rfl⟩ := List.mem_map.mp hz; rw [k8]; exact h y hy
 have l1 := bO h hK
 have l2 := bO h' hK'
 apply List.ext_getElem?
 intro j
 by_cases hj : j < n
 ·rw [dH h' hK' hj, List.getElem?_reverse (by omega), l1, dH h hK (by omega), List.map_map]
  congr 2
  refine List.map_congr_left fun z hz => ?_
  show atS (revS z) j = _
  rw [atS_rev (by rw [h z hz]; exact hj), h z hz]
 ·rw [List.getElem?_eq_none (by omega), List.getElem?_eq_none (by rw [List.length_reverse]; omega)]
theorem cols_turn {n : Nat} {K : List Str} (h : ∀ z ∈ K, z.length = n) (hK : K ≠ []) (hn : 0 < n) : aF ((aF K).map revS) = K.reverse := by
 have hc : (aF K).length = n := bO h hK
 have hcn : aF K ≠ [] := fun e => by rw [e] at hc; simp at hc; omega
 rw [nS (n := K.length) (fun z hz => cJ z hz) hcn, jT h hK hn]
theorem eI {K : List Str} {a u : Int} : aY K a u = true ↔ 0 ≤ u ∧ 0 ≤ a ∧ ∃ z, K[u.toNat]? = some z ∧ z.cps.toList[a.toNat]? = some 35 := by
 unfold aY
 rw [Bool.and_eq_true, Bool.and_eq_true, decide_eq_true_eq, decide_eq_true_eq, beq_iff_eq]
 constructor
 ·rintro ⟨⟨h1, h2⟩, h3⟩
  obtain ⟨z, hz, e⟩ := Option.bind_eq_some_iff.mp h3
  exact ⟨h1, h2, z, hz, e⟩
 ·rintro ⟨h1, h2, z, hz, e⟩
  exact ⟨⟨h1, h2⟩, Option.bind_eq_some_iff.mpr ⟨z, hz, e⟩⟩
theorem tH {n : Nat} {K : List Str} (h : ∀ z ∈ K, z.length = n) (a u : Int) : aY (K.map revS) a u = aY K ((n : Int) - 1 - a) u := by
 rw [Bool.eq_iff_iff, eI, eI]
 constructor
 ·rintro ⟨h1, h2, z, hz, e⟩
  obtain ⟨y, hy, rfl⟩ := map_get' hz
  have hl := h y (List.mem_of_getElem? hy)
  have hlt := (List.getElem?_eq_some_iff.mp e).1
  rw [d6, List.length_reverse, Array.length_toList] at hlt
  have hs : y.cps.size = y.length := rfl
  rw [d6, List.getElem?_reverse (by rw [Array.length_toList]; omega), Array.length_toList] at e
  refine ⟨h1, by omega, y, hy, ?_⟩
  rw [show ((n : Int) - 1 - a).toNat = y.cps.size - 1 - a.toNat by omega]; exact e
 ·rintro ⟨h1, h2, z, hz, e⟩
  have hl := h z (List.mem_of_getElem? hz)
  have hlt := (List.getElem?_eq_some_iff.mp e).1
  rw [Array.length_toList] at hlt
  have hs : z.cps.size = z.length := rfl
  have h0 : 0 ≤ a := by
   refine Classical.byContradiction fun q => ?_
   omega
  refine ⟨h1, h0, revS z, by rw [List.getElem?_map, hz]; rfl, ?_⟩
  rw [d6, List.getElem?_reverse (by rw [Array.length_toList]; omega), Array.length_toList, show z.cps.size - 1 - a.toNat = ((n : Int) - 1 - a).toNat by omega]; exact e
where
 map_get' {K : List Str} {i : Nat} {z : Str} (h : (K.map revS)[i]? = some z) : ∃ y, K[i]? = some y ∧ z = revS y := by
  rw [List.getElem?_map] at h
  obtain ⟨y, hy, e⟩ := Option.map_eq_some_iff.mp h
  exact ⟨y, hy, e.symm⟩
theorem cell_cols {n : Nat} {K : List Str} (h : ∀ z ∈ K, z.length = n) (a u : Int) : aY (aF K) a u = aY K u a := by
 by_cases hK : K = []
 ·subst hK
  rw [Bool.eq_iff_iff, eI, eI]
  constructor
  ·rintro ⟨_, _, z, hz, _⟩; cases hz
  ·rintro ⟨_, _, z, hz, _⟩; cases hz
 rw [Bool.eq_iff_iff, eI, eI]
 have l1 := bO h hK
 constructor
 ·rintro ⟨h1, h2, z, hz, e⟩
  have hu := (List.getElem?_eq_some_iff.mp hz).1
  rw [l1] at hu
  rw [dH h hK hu] at hz
  have ez := (Option.some.inj hz).symm
  subst ez
  have e' : (K.map (atS · u.toNat))[a.toNat]? = some 35 := e
  rw [List.getElem?_map] at e'
  obtain ⟨y, hy, ey⟩ := Option.map_eq_some_iff.mp e'
  refine ⟨h2, h1, y, hy, ?_⟩
  rw [cV (by rw [h y (List.mem_of_getElem? hy)]; exact hu)]
  exact congrArg some ey
 ·rintro ⟨h1, h2, z, hz, e⟩
  have hlt := (List.getElem?_eq_some_iff.mp e).1
  rw [Array.length_toList] at hlt
  have hs : z.cps.size = z.length := rfl
  have hl := h z (List.mem_of_getElem? hz)
  refine ⟨h2, h1, _, dH h hK (show u.toNat < n by omega), ?_⟩
  show (K.map (atS · u.toNat))[a.toNat]? = some 35
  rw [List.getElem?_map, hz, Option.map_some]
  rw [cV (by omega)] at e
  exact e
end R
namespace R
open PySem L2
def iJ : List Int → List Int → List Int
 | [], ys => ys
 | x :: xs, [] => x :: xs
 | x :: xs, y :: ys => if y < x then y :: iJ (x :: xs) ys else if x = y then x :: iJ xs ys else x :: iJ xs (y :: ys)
termination_by xs ys => xs.length + ys.length
theorem oM {xs ys : List Int} {f s : Nat} (hf : f < xs.length) (hs : s < ys.length) :
  iJ (xs.drop f) (ys.drop s) = (if ys.getD s 0 < xs.getD f 0 then ys.getD s 0 else xs.getD f 0) :: iJ (xs.drop (f + if xs.getD f 0 = (if ys.getD s 0 < xs.getD f 0 then ys.getD s 0 else xs.getD f 0) then 1 else 0)) (ys.drop (s + if ys.getD s 0 = (if ys.getD s 0 < xs.getD f 0 then ys.getD s 0 else xs.getD f 0) then 1 else 0)) := by
 have ex : xs.drop f = xs.getD f 0 :: xs.drop (f + 1) := by rw [List.drop_eq_getElem_cons hf, List.getD_eq_getElem?_getD, List.getElem?_eq_getElem hf]; rfl
 have ey : ys.drop s = ys.getD s 0 :: ys.drop (s + 1) := by rw [List.drop_eq_getElem_cons hs, List.getD_eq_getElem?_getD, List.getElem?_eq_getElem hs]; rfl
 generalize xs.getD f 0 = x at *
 generalize ys.getD s 0 = y at *
 conv => lhs; rw [ex, ey, iJ]
 by_cases h : y < x
 ·rw [if_pos h, if_pos h, if_neg (by omega), if_pos rfl]
  show _ = y :: iJ (xs.drop f) (ys.drop (s + 1))
  rw [ex]
 ·rw [if_neg h, if_neg h, if_pos rfl]
  by_cases h2 : x = y
  ·rw [if_pos h2, if_pos h2.symm]
  ·rw [if_neg h2, if_neg (fun e => h2 e.symm)]
   show _ = x :: iJ (xs.drop (f + 1)) (ys.drop s)
   rw [ey]
end R
namespace U
open PySem
abbrev Up (ws : List Rat) : Prop := ws.Pairwise (· < ·)
def ix (ws : List Rat) (x : Rat) : Int := ((ws.filter fun w => decide (w ≤ x)).length : Int) - 1
theorem ix_ge (ws : List Rat) (x : Rat) : -1 ≤ ix ws x := by unfold ix; omega
theorem ix_lt (ws : List Rat) (x : Rat) : ix ws x < ws.length := by
 unfold ix
 have := List.length_filter_le (fun w => decide (w ≤ x)) ws
 omega
theorem fS {x : Rat} : ∀ {ws : List Rat}, Up ws → ∀ {i : Nat} (h : i < ws.length), ws[i] ≤ x ↔ (i : Int) ≤ ix ws x
 | [], _, i, h => absurd h (Nat.not_lt_zero _)
 | w :: r, u, i, h => by
  obtain ⟨u1, u2⟩ := List.pairwise_cons.mp u
  unfold ix
  by_cases hw : w ≤ x
  ·rw [List.filter_cons_of_pos (by simpa using hw), List.length_cons]
   cases i with
   | zero => exact ⟨fun _ => by omega, fun _ => hw⟩
   | succ i =>
    have := fS (x := x) u2 (i := i) (by simpa using h)
    unfold ix at this
    simp only [List.getElem_cons_succ]
    rw [this]
    omega
  ·rw [List.filter_cons_of_neg (by simpa using hw)]
   have e : r.filter (fun w => decide (w ≤ x)) = [] := List.filter_eq_nil_iff.mpr fun a ha => by
    have := u1 a ha
    simp only [decide_eq_true_eq]
    grind
   rw [e]
   have h1 : ¬ (w :: r)[i] ≤ x := by
    cases i with
    | zero => simpa using hw
    | succ i =>
     have := u1 _ (List.getElem_mem (by simpa using h : i < r.length))
     simp only [List.getElem_cons_succ]
     grind
   exact ⟨fun z => absurd z h1, fun z => by simp at z; omega⟩
theorem ix_eq {ws : List Rat} {x : Rat} {k : Int} (u : Up ws) (h0 : -1 ≤ k) (h1 : k < ws.length) (h : ∀ (i : Nat) (hi : i < ws.length), ws[i] ≤ x ↔ (i : Int) ≤ k) : ix ws x = k := by
 have a := ix_ge ws x
 have b := ix_lt ws x
 apply Int.le_antisymm
 ·by_cases hk : 0 ≤ ix ws x
  ·have q := (h (ix ws x).toNat (by omega)).mp ((fS u (by omega)).mpr (by omega))
   omega
  ·omega
 ·by_cases hk : 0 ≤ k
  ·have q := (fS (x := x) u (i := k.toNat) (by omega)).mp ((h k.toNat (by omega)).mpr (by omega))
   omega
  ·omega
theorem up_lt {ws : List Rat} (u : Up ws) {i j : Nat} (hi : i < ws.length) (hj : j < ws.length) : ws[i] < ws[j] ↔ i < j := by
 have p := List.pairwise_iff_getElem.mp u
 constructor
 ·intro h
  rcases Nat.lt_trichotomy i j with q | q | q
  ·exact q
  ·subst q; grind
  ·have := p j i hj hi q; grind
 ·exact p i j hi hj
theorem up_le {ws : List Rat} (u : Up ws) {i j : Nat} (hi : i < ws.length) (hj : j < ws.length) : ws[i] ≤ ws[j] ↔ i ≤ j := by
 have := up_lt u hj hi
 constructor
 ·intro h; refine Nat.le_of_not_lt fun q => ?_
  have := this.mpr q; grind
 ·intro h
  have : ¬ ws[j] < ws[i] := fun q => by have := this.mp q; omega
  grind
theorem eP {ws : List Rat} (u : Up ws) {i : Nat} (hi : i < ws.length) : ix ws ws[i] = i :=
 ix_eq u (by omega) (by omega) fun j hj => by rw [up_le u hj hi]; omega
theorem up_ext {ws vs : List Rat} (u : Up ws) (v : Up vs) (h : ∀ x, x ∈ ws ↔ x ∈ vs) : ws = vs := by
 induction ws generalizing vs with
 | nil =>
  cases vs with
  | nil => rfl
  | cons a r => exact absurd ((h a).mpr (.head _)) (by simp)
 | cons w ws ih =>
  cases vs with
  | nil => exact absurd ((h w).mp (.head _)) (by simp)
  | cons a r =>
   obtain ⟨u1, u2⟩ := List.pairwise_cons.mp u
   obtain ⟨v1, v2⟩ := List.pairwise_cons.mp v
   have e : w = a := by
    rcases List.mem_cons.mp ((h w).mp (.head _)) with q | q
    ·exact q
    ·rcases List.mem_cons.mp ((h a).mpr (.head _)) with z | z
     ·exact z.symm
     ·have := v1 w q; have := u1 a z; grind
   subst e
   rw [ih u2 v2 fun x => ?_]
   constructor
   ·intro hx
    rcases List.mem_cons.mp ((h x).mp (.tail _ hx)) with q | q
    ·subst q; have := u1 x hx; grind
    ·exact q
   ·intro hx
    rcases List.mem_cons.mp ((h x).mpr (.tail _ hx)) with q | q
    ·subst q; have := v1 x hx; grind
    ·exact q
theorem ix_fine {ws xs : List Rat} (u : Up ws) (v : Up xs) (hs : ∀ w ∈ ws, w ∈ xs) {x : Rat} {i : Nat} (hi : i < xs.length) (e : ix xs x = i) : ix ws x = ix ws xs[i] := by
 unfold ix
 refine congrArg (fun l : List Rat => (l.length : Int) - 1) (List.filter_congr fun w hw => ?_)
 obtain ⟨j, hj, rfl⟩ := List.getElem_of_mem (hs w hw)
 have h1 := fS (x := x) v hj
 have h2 := up_le v hj hi
 rw [decide_eq_decide, h1, h2, e]
 omega
theorem ix_low {ws xs : List Rat} (v : Up xs) (hs : ∀ w ∈ ws, w ∈ xs) {x : Rat} (e : ix xs x = -1) : ix ws x = -1 := by
 unfold ix
 rw [List.filter_eq_nil_iff.mpr fun w hw => ?_]
 ·rfl
 ·obtain ⟨j, hj, rfl⟩ := List.getElem_of_mem (hs w hw)
  have h1 := fS (x := x) v hj
  rw [decide_eq_true_eq, h1, e]
  omega
theorem ix_high {ws xs : List Rat} (v : Up xs) (hs : ∀ w ∈ ws, w ∈ xs) {x : Rat} (e : ix xs x = (xs.length : Int) - 1) : ix ws x = (ws.length : Int) - 1 := by
 unfold ix
 rw [List.filter_eq_self.mpr fun w hw => ?_]
 obtain ⟨j, hj, rfl⟩ := List.getElem_of_mem (hs w hw)
 have h1 := fS (x := x) v hj
 rw [decide_eq_true_eq, h1, e]
 omega
def f7 (xs : List Rat) (js : List Nat) : List Rat := js.map fun j => xs.getD j 0
theorem tD {xs : List Rat} (u : Up xs) {js : List Nat} (hs : js.Pairwise (· < ·)) (h : ∀ j ∈ js, j < xs.length) : Up (f7 xs js) := by
 unfold f7 Up
 rw [List.pairwise_map]
 refine List.Pairwise.imp_of_mem ?_ hs
 intro a b ha hb hab
 have h1 := h a ha
 have h2 := h b hb
 rw [List.getD_eq_getElem?_getD, List.getD_eq_getElem?_getD, List.getElem?_eq_getElem h1, List.getElem?_eq_getElem h2]
 exact (up_lt u h1 h2).mpr hab
theorem qL {xs : List Rat} {js : List Nat} (h : ∀ j ∈ js, j < xs.length) : ∀ x ∈ f7 xs js, x ∈ xs := fun x hx => by
 obtain ⟨j, hj, rfl⟩ := List.mem_map.mp hx
 rw [List.getD_eq_getElem?_getD, List.getElem?_eq_getElem (h j hj)]
 exact List.getElem_mem _
theorem ix_pick {xs : List Rat} (u : Up xs) {js : List Nat} (h : ∀ j ∈ js, j < xs.length) (x : Rat) : ix (f7 xs js) x = R.bd js (ix xs x) := by
 unfold ix f7 R.bd R.cM
 rw [List.filter_map, List.length_map]
 congr 2
 congr 1
 refine List.filter_congr fun j hj => ?_
 have h1 := h j hj
 have := fS (x := x) u h1
 show decide (xs.getD j 0 ≤ x) = _
 rw [List.getD_eq_getElem?_getD, List.getElem?_eq_getElem h1, decide_eq_decide]
 exact this
end U
namespace Z
open PySem L2
end Z
namespace Q
open PySem L2 Z
theorem sY {n : Nat} (h : n ≤ 1000) : ("." : Str).length * ((n : Int)).toNat ≤ sizeLine := by
 have e : ("." : Str).length = 1 := by decide +kernel
 rw [e, Int.toNat_natCast, Nat.one_mul]
 exact R.aU (by omega)
theorem i4 {zs : List Str} {i : Nat} (h : i < zs.length + 2) : ∃ u, (R.framed zs)[i]? = some u := ⟨(R.framed zs)[i]'(by rw [R.fJ]; exact h), by simp [R.fJ, h]⟩
theorem mX {zs : List Str} {i : Nat} {z : Str} (h : zs[i]? = some z) : atI (zs.map D.str) (0 + (i : Int)) = some (.str z) := by
 rw [Int.zero_add]; exact eN (by rw [List.getElem?_map, h]; rfl)
theorem sG {zs : List Str} {i : Nat} {z : Str} (h : zs[i + 1]? = some z) : atI (zs.map D.str) (0 + (i : Int) + 1) = some (.str z) := by
 rw [Int.zero_add]; exact eN (j := i + 1) (by rw [List.getElem?_map, h]; rfl)
def natD (l : List Nat) : List D := l.map fun (i : Nat) => D.int (i : Int)
theorem f8 {l : List Nat} {i : Nat} {d : D} (h : (natD l)[i]? = some d) : ∃ j, l[i]? = some j ∧ d = .int (j : Int) := bS h
theorem cH (l : List Nat) : (natD l).length = l.length := by simp [natD]
theorem chg_eq {zs : List Str} : (List.range (zs.length + 1)).filter (fun i => !decide ((R.framed zs)[i]? = (R.framed zs)[i + 1]?)) = R.chg zs := by
 unfold R.chg
 cases zs with
 | nil => rfl
 | cons z zr => rfl
theorem iF {p : Nat → Bool} {n : Nat} : (List.range (n + 1)).filter p = if p n = true then (List.range n).filter p ++ [n] else (List.range n).filter p := by
 rw [List.range_succ, List.filter_append]
 by_cases h : p n = true
 ·rw [if_pos h, List.filter_cons_of_pos h]; rfl
 ·rw [if_neg h, List.filter_cons_of_neg h, List.filter_nil, List.append_nil]
theorem gB {α : Type} (l : List α) : cutD l none (some (-1)) = l.dropLast := by
 unfold cutD
 have e1 : HT.sIx l.length 0 none = 0 := rfl
 have e2 : HT.sIx l.length l.length (some (-1)) = l.length - 1 := by
  show (if (-1 : Int) < 0 then ((-1 : Int) + (l.length : Int)).toNat else min (-1 : Int).toNat l.length) = l.length - 1
  rw [if_pos (by decide)]; omega
 rw [e1, e2, List.drop_zero, Nat.sub_zero, List.dropLast_eq_take]
theorem f6 (l : List Nat) : (natD l).dropLast = natD l.dropLast := by simp [natD, List.map_dropLast]
theorem bJ {α β : Type} {f : α → β} {l : List α} {i : Nat} {x : α} (h : l[i]? = some x) : (l.take (i + 1)).map f = (l.take i).map f ++ [f x] := by
 rw [gG h, List.map_append]; rfl
theorem at_D {xs : List D} {j : Nat} (h : j < xs.length) : atI xs (j : Int) = some (xs.getD j .non) := eN (by simp [h])
theorem nD (l : List Str) (h : ∀ z ∈ l, z.length = 1) : (l.map (·.length)).sum = l.length := by
 induction l with
 | nil => rfl
 | cons a l ih =>
  rw [List.map_cons, List.sum_cons, ih fun z hz => h z (by simp [hz]), h a (by simp), List.length_cons, Nat.add_comm]
theorem sV (zs : List Str) (j : Nat) : PySem.Txt.join Str.empty (zs.map fun z => (⟨#[R.atS z j]⟩ : Str)) = R.ofL (zs.map (R.atS · j)) := by
 have := R.i8 (zs.map (R.atS · j))
 rw [List.map_map] at this
 exact this
end Q
namespace Q
open PySem L2 Z
theorem map_nil {α β : Type} {f : α → β} {l : List α} (h : decide (l.map f = []) = true) : l = [] := by
 have := of_decide_eq_true h
 cases l with
 | nil => rfl
 | cons a l => cases this
end Q
namespace R
open PySem L2
theorem bP {A : Around} {k n : Nat} (hr : Room k A) (h : n ≤ 64 := by decide) : A.units + n < cLine := by have := hr.units; omega
end R
namespace Q
open PySem L2 Z
theorem FdM.del {M : Mem} {p a : Addr} {b : Int} (h : FdM M p b) (n : a ≠ p) : FdM (delM M a) p b := by
 obtain ⟨g, m, st, e, r⟩ := h
 exact ⟨g, m, st, by rw [kI (Ne.symm n)]; exact e, r⟩
theorem ButM.del {p a : Addr} {M M' : Mem} (h : ButM p M M') (n : M a = none) : ButM p M (delM M' a) := fun b u nb e => by
 rw [kI (fun z => by rw [z, n] at e; cases e)]; exact h b u nb e
theorem ButM.none_of {p a : Addr} {M M' : Mem} (h : ButM p M M') (n : M' a = none) (np : a ≠ p) : M a = none := by
 cases e : M a with
 | none => rfl
 | some o => rw [h a o np e] at n; cases n
theorem good_snoc {n : Nat} {zs : List Str} (h : R.Good n zs) {cs : List Nat} (hl : cs.length = n) (hs : ∀ c ∈ cs, c = 35 ∨ c = 46) : R.Good n (zs ++ [R.ofL cs]) := fun z hz => by
 rcases List.mem_append.mp hz with hz | hz
 ·exact h z hz
 ·rw [List.mem_singleton] at hz
  subst hz
  refine ⟨by rw [R.kO]; exact hl, ?_⟩
  show cs.all R.sgn = true
  rw [List.all_eq_true]
  intro c hc
  rcases hs c hc with rfl | rfl <;> rfl
theorem p4 (l : List Nat) : ((l.map fun c => (⟨#[c]⟩ : Str)).map (·.length)).sum = l.length := by
 rw [nD _ fun z hz => by obtain ⟨c, _, rfl⟩ := List.mem_map.mp hz; rfl, List.length_map]
end Q
namespace Z
open PySem L2
section
variable {K : Fg} {M : Mem} {k : D → Mem → Prop}
end
end Z
namespace L2
open PySem PySem.Spec PyProof.Rows
section
variable {X : Cx}
end
end L2
namespace Z
open PySem L2
section
variable {K : Fg} {M : Mem} {k : D → Mem → Prop}
end
end Z
namespace Q
open PySem L2 Z
def cHas : Ct := fun ds M k => ∃ (x y : D) (zs : List Str) (a u : Int), ds = [.tup [x, y, .tup (zs.map .str)], .int a, .int u] ∧ (∀ z ∈ zs, z.length ≤ 1000) ∧ k (.bl (R.aY zs a u)) M
theorem hash_sign {c : Nat} : decide ((⟨#[c]⟩ : Str) = ("#" : Str)) = decide (c = 35) := by
 have e : ("#" : Str) = ⟨#[35]⟩ := by decide +kernel
 rw [e]
 by_cases h : c = 35
 ·rw [h]; simp
 ·rw [decide_eq_false h]
  exact decide_eq_false fun z => h (by injection z with z; simpa using z)
end Q
namespace Q
open PySem L2 Z
theorem cell_in {zs : List Str} {a u : Int} (h1 : ¬ decide (u < 0) = true) (h2 : ¬ decide (((zs.map D.str).length : Int) ≤ u) = true) (h3 : ¬ decide (a < 0) = true) : 0 ≤ u ∧ 0 ≤ a ∧ ∃ z, zs[u.toNat]? = some z ∧ atI (zs.map D.str) u = some (.str z) := by
 have h1' : ¬ u < 0 := fun z => h1 (decide_eq_true z)
 have h2' : ¬ ((zs.length : Nat) : Int) ≤ u := fun z => h2 (decide_eq_true (by rw [List.length_map]; exact z))
 have h3' : ¬ a < 0 := fun z => h3 (decide_eq_true z)
 obtain ⟨j, rfl⟩ : ∃ j : Nat, u = (j : Int) := ⟨u.toNat, by omega⟩
 have hj : j < zs.length := by omega
 refine ⟨by omega, by omega, zs[j], by simp [hj], eN (by simp [hj])⟩
theorem sign_in {z : Str} {a : Int} (ha : 0 ≤ a) (h : ¬ ((z.length : Nat) : Int) ≤ a) : ∃ c, z.cps.toList[a.toNat]? = some c ∧ atI z.cps.toList a = some c := by
 obtain ⟨j, rfl⟩ : ∃ j : Nat, a = (j : Int) := ⟨a.toNat, by omega⟩
 have hj : j < z.cps.toList.length := by rw [Array.length_toList]; have : z.cps.size = z.length := rfl; omega
 exact ⟨z.cps.toList[j], by simp, eN (List.getElem?_eq_getElem hj)⟩
end Q
namespace HT
open PySem PySem.Spec PyProof.Rows
section
variable {prog : Program} {w : World} {A : Around} {E : Value → Shared → Prop} {s : Shared}
end
end HT
namespace L2
open PySem PySem.Spec PyProof.Rows
section
variable {X : Cx}
end
end L2
namespace Z
open PySem L2
section
variable {X : Cx} {Γ : Gm} {M : Mem} {k : D → Mem → Prop} {e : Expr}
theorem o2_inD {K : Fg} {n : Nat} {c d e : D} {ds : List D} (r : Rs M d e) (he : e = .tup ds ∨ e = .lst ds) (hc : okD n c = true) (hd : okDs n ds = true) (h : k (.bl (ds.any fun x => eqD x c)) M) : Op2 K (rInD K n false) c d M k := fun G H v1 v2 Q rl e1 e2 q =>
 ⟨c, e, ds, he, hc, hd, e1.up rl.same, r.den rl e2, q _ _ _ _ _ (Stp.refl rl) cT h⟩
end
end Z
namespace Q
open PySem L2 Z
end Q
namespace Z
open PySem L2
theorem slen (a b : Str) : (a ++ b).length = a.length + b.length := by
 show (a.cps ++ b.cps).size = _
 rw [Array.size_append]; rfl
theorem nU : ∀ (ts : List Str) (k : Nat) (acc : Str), (textFrom k acc ts).length ≤ acc.length + (ts.map (·.length)).sum + 2 * ts.length
 | [], k, acc => by simp [textFrom]
 | t :: ts, k, acc => by
  have ih := nU ts (k + 1) (acc ++ (if k > 0 then ", " else "" : String) ++ t)
  have e : (acc ++ ((if k > 0 then ", " else "" : String) : Str) ++ t).length ≤ acc.length + 2 + t.length := by
   rw [slen, slen]
   split
   ·have : ((", " : String) : Str).length = 2 := by decide +kernel
    omega
   ·have : (("" : String) : Str).length = 0 := by decide +kernel
    omega
  show (textFrom (k + 1) (acc ++ (if k > 0 then ", " else "" : String) ++ t) ts).length ≤ _
  rw [List.map_cons, List.sum_cons, List.length_cons]
  omega
theorem t9 (ts : List Str) : (listText ts).length ≤ (ts.map (·.length)).sum + 2 * ts.length + 2 := by
 unfold listText
 rw [slen]
 have h := nU ts 0 "["
 have e1 : ("[" : Str).length = 1 := by decide +kernel
 have e2 : ("]" : Str).length = 1 := by decide +kernel
 omega
theorem join_le : ∀ ts : List Str, (Str.join ", " ts).length ≤ (ts.map (·.length)).sum + 2 * ts.length
 | [] => by show (Str.empty).length ≤ _; exact Nat.zero_le _
 | [x] => by show x.length ≤ _; simp
 | x :: y :: r => by
  have ih := join_le (y :: r)
  show (x ++ ", " ++ Str.join ", " (y :: r)).length ≤ _
  rw [slen, slen]
  have e2 : ((", " : String) : Str).length = 2 := by decide +kernel
  rw [List.map_cons, List.sum_cons, List.length_cons]
  omega
theorem rV (ts : List Str) : (tupleText ts).length ≤ (ts.map (·.length)).sum + 2 * ts.length + 3 := by
 unfold tupleText
 rw [slen, slen]
 have h := join_le ts
 have e1 : ("(" : Str).length = 1 := by decide +kernel
 have e2 : (((if ts.length == 1 then ",)" else ")" : String)) : Str).length ≤ 2 := by split <;> decide +kernel
 omega
mutual
def smD : D → Bool
 | .non | .bl _ | .str _ => true
 | .int i => decide (i.natAbs < 10 ^ 65)
 | .tup ds => smDs ds
 | .lst ds => smDs ds
 | .mt _ | .fl _ | .st _ => false
def smDs : List D → Bool
 | [] => true
 | d :: ds => smD d && smDs ds
end
mutual
def wt : D → Nat
 | .non => 4
 | .bl _ => 5
 | .int _ => 66
 | .str x => (reprText x).length
 | .tup ds => wts ds + 3
 | .lst ds => wts ds + 2
 | .mt _ | .fl _ | .st _ => 0
def wts : List D → Nat
 | [] => 0
 | d :: ds => wt d + 2 + wts ds
end
mutual
theorem shown_le : ∀ d : D, smD d = true → (toPy d).showable = true ∧ (toPy d).shown.length ≤ wt d
 | .non, _ => by simp only [toPy, PyData.showable, PyData.shown, wt]; exact ⟨trivial, by decide +kernel⟩
 | .bl b, _ => by simp only [toPy, PyData.showable, PyData.shown, wt]; exact ⟨trivial, by cases b <;> decide +kernel⟩
 | .str x, _ => by simp only [toPy, PyData.showable, PyData.shown, wt]; exact ⟨trivial, Nat.le_refl _⟩
 | .int i, h => by
  simp only [smD, decide_eq_true_eq] at h
  simp only [toPy, PyData.showable, PyData.shown, wt, decide_eq_true_eq]
  refine ⟨?_, ?_⟩
  ·have h2 : i.natAbs < 2 ^ 1920 := Nat.lt_of_lt_of_le h (by decide)
   by_cases h0 : i.natAbs = 0
   ·rw [h0]; decide
   ·exact (Nat.log2_lt h0).mpr h2
  ·have := int_text_length_le10 (a := i) (k := 65) (by decide) h
   show (Str.ofString (toString i)).length ≤ 66
   rw [ofString_length]; exact this
 | .mt _, h => by simp [smD] at h
 | .fl _, h => by simp [smD] at h
 | .st _, h => by simp [smD] at h
 | .tup ds, h => by
  simp only [smD] at h
  obtain ⟨h1, h2⟩ := showns_le ds h
  simp only [toPy, PyData.showable, PyData.shown, wt]
  exact ⟨h1, Nat.le_trans (rV _) (by omega)⟩
 | .lst ds, h => by
  simp only [smD] at h
  obtain ⟨h1, h2⟩ := showns_le ds h
  simp only [toPy, PyData.showable, PyData.shown, wt]
  exact ⟨h1, Nat.le_trans (t9 _) (by omega)⟩
theorem showns_le : ∀ ds : List D, smDs ds = true → PyData.showableAll (toPys ds) = true ∧ ((PyData.shownAll (toPys ds)).map (·.length)).sum + 2 * (PyData.shownAll (toPys ds)).length ≤ wts ds
 | [], _ => by simp [toPys, PyData.showableAll, PyData.shownAll, wts]
 | d :: ds, h => by
  simp only [smDs, Bool.and_eq_true] at h
  obtain ⟨a1, a2⟩ := shown_le d h.1
  obtain ⟨b1, b2⟩ := showns_le ds h.2
  simp only [toPys, PyData.showableAll, PyData.shownAll, wts, List.map_cons, List.sum_cons, List.length_cons]
  exact ⟨by rw [a1, b1]; rfl, by omega⟩
end
theorem kP {n : Nat} : ∀ {ds : List D}, (∀ d ∈ ds, okD n d = true) → okDs n ds = true
 | [], _ => by simp only [okDs]
 | d :: ds, h => by
  have ih := kP (ds := ds) fun e he => h e (List.mem_cons_of_mem _ he)
  simp only [okDs, h d (by simp), ih, Bool.and_true]
end Z
namespace Q
open PySem L2 Z
def dL (p : Int × Int) : D := .tup [.int p.1, .int p.2]
def cLaw : Ct := fun ds M k => ∃ ns : List Int, ds = [.fl (ns.map .int)] ∧ ns.length ≤ 63 ∧ ∀ M', k (.bl true) M'
end Q
namespace L2
open PySem PySem.Spec PyProof.Rows
section
variable {X : Cx}
end
end L2
namespace Z
open PySem L2
section
variable {X : Cx} {Γ : Gm} {M : Mem} {k : D → Mem → Prop} {pos : Pos} {a b : Expr} {rest : List Expr}
end
section
variable {X : Cx} {pins : List (Addr × Obj)} {σ : St} {H : Hp} {s : Shared}
theorem rcNe_D (I : Inv X pins σ H s) {n : Nat} {d e : D} {v u : V} {v' u' : Value} (A : Around) (g1 : Disp d) (g2 : Disp e) (h1 : okD n d = true) (h2 : okD n e = true) (x : Den X.K H d v) (y : Den X.K H e u) (rx : RelV v v') (ry : RelV u u') (hu : A.units + n < cLine) : SeqAt.RcNeAt A s v' u' (!eqD d e) := by
 cases g1 with
 | tup ds =>
  obtain ⟨a, its, vs, rfl, it, rv, dn⟩ := cZ I x rx
  cases g2 with
  | lst es => obtain ⟨b, its2, vs2, rfl, it2, _⟩ := cX I y ry; simp only [eqD]; exact SeqAt.RcNeAt.tuple_list it it2 (by omega)
  | tup es =>
   obtain ⟨b, its2, vs2, rfl, it2, rv2, dn2⟩ := cZ I y ry
   cases n with
   | zero => simp [okD] at h1
   | succ n =>
    have k1 : okDs n ds = true := by simpa only [okD] using h1
    have k2 : okDs n es = true := by simpa only [okD] using h2
    have := SeqAt.RcNeAt.tuples (A := A) (s := s) (e := eqJ ds es) it it2 (by omega) (fun j g1 g2 => by
     obtain ⟨c, v1, e1, q1, r1⟩ := dD dn rv g1
     obtain ⟨c2, v2, e2, q2, r2⟩ := dD dn2 rv2 g2
     have := eqAt_D I c n c2 v1 v2 _ _ A.in1 (bY k1 e1) (bY k2 e2) q1 q2 r1 r2 (by show A.units + 1 + n < cLine; omega)
     unfold eqJ; rw [e1, e2]; exact this)
    rw [List.size_toArray, List.size_toArray, ← rv.length, ← rv2.length, ← dn.len, ← dn2.len, eT] at this
    simp only [eqD]; exact this
 | lst ds =>
  obtain ⟨a, its, vs, rfl, it, rv, dn⟩ := cX I x rx
  cases g2 with
  | tup es => obtain ⟨b, its2, vs2, rfl, it2, _⟩ := cZ I y ry; simp only [eqD]; exact SeqAt.RcNeAt.list_tuple it it2 (by omega)
  | lst es =>
   obtain ⟨b, its2, vs2, rfl, it2, rv2, dn2⟩ := cX I y ry
   cases n with
   | zero => simp [okD] at h1
   | succ n =>
    have k1 : okDs n ds = true := by simpa only [okD] using h1
    have k2 : okDs n es = true := by simpa only [okD] using h2
    simp only [eqD]
    by_cases hl : ds.length = es.length
    ·have hsz : its.toArray.size = its2.toArray.size := by rw [List.size_toArray, List.size_toArray, ← rv.length, ← rv2.length, ← dn.len, ← dn2.len, hl]
     have := SeqAt.RcNeAt.lists (A := A) (s := s) (e := eqJ ds es) it it2 hsz (by omega) (fun j g1 g2 => by
      obtain ⟨c, v1, e1, q1, r1⟩ := dD dn rv g1
      obtain ⟨c2, v2, e2, q2, r2⟩ := dD dn2 rv2 g2
      have := eqAt_D I c n c2 v1 v2 _ _ A.in1 (bY k1 e1) (bY k2 e2) q1 q2 r1 r2 (by show A.units + 1 + n < cLine; omega)
      unfold eqJ; rw [e1, e2]; exact this)
     have e3 := eT ds es
     rw [← hl, Nat.min_self, beq_self_eq_true, Bool.and_true] at e3
     rw [List.size_toArray, ← rv.length, ← dn.len, e3] at this
     exact this
    ·have hsz : (its.toArray.size != its2.toArray.size) = true := by rw [bne_iff_ne, List.size_toArray, List.size_toArray, ← rv.length, ← rv2.length, ← dn.len, ← dn2.len]; exact hl
     have e3 := eT ds es
     rw [beq_eq_false_iff_ne.mpr hl, Bool.and_false] at e3
     rw [← e3]
     exact SeqAt.RcNeAt.lists_lengths it it2 hsz (by omega)
end
section
variable {X : Cx}
theorem eM {n : Nat} (hu : X.A.units + n < cLine) : OpR X (compareOp .NotEq) (rEqD X.K n true) := by
 intro pins s σ H x y v u Q I rx ry h
 obtain ⟨d, e, g1, g2, h1, h2, dx, dy, q⟩ := h
 exact rcNe_D I X.A g1 g2 h1 h2 dx dy rx ry hu X.prog X.w X.xe _ ⟨.bl (!eqD d e), H, I, rfl, q⟩
theorem o2_neD {K : Fg} {n : Nat} {M : Mem} {k : D → Mem → Prop} {d1 d2 e1 e2 : D} (r1 : Rs M d1 e1) (r2 : Rs M d2 e2) (h1 : okD n e1 = true) (h2 : okD n e2 = true) (h : k (.bl (!eqD e1 e2)) M) : Op2 K (rEqD K n true) d1 d2 M k := fun G H v1 v2 Q rl x y q =>
 ⟨e1, e2, r1.disp, r2.disp, h1, h2, r1.den rl x, r2.den rl y, q _ _ _ _ _ (Stp.refl rl) cT h⟩
end
section
variable {X : Cx} {M : Mem} {k : D → Mem → Prop} {K : Fg}
end
end Z
namespace Z
open PySem L2 PySem.Spec PyProof.Rows
def tyN : D → String
 | .non => "NoneType"
 | .bl _ => "bool"
 | .int _ => "int"
 | .str _ => "str"
 | .tup _ => "tuple"
 | .lst _ | .fl _ | .mt _ | .st _ => "list"
def isN (T S : String) : Bool := S == T || (S == "bool" && T == "int")
def isD (T : String) (d : D) : Bool := isN T (tyN d)
def Plain5 (T : String) : Prop := T = "int" ∨ T = "bool" ∨ T = "str" ∨ T = "tuple" ∨ T = "list"
theorem kit_S {K : Fg} {T S : String} (h : Plain5 T) (h2 : S = "NoneType" ∨ Plain5 S) : PySem.W.kitOne K (.type S) (.type T) = some (isN T S) := by
 rcases h with rfl | rfl | rfl | rfl | rfl <;> rcases h2 with rfl | rfl | rfl | rfl | rfl | rfl <;> first
  | exact kit_tt (by decide +kernel) (by decide +kernel) (by decide +kernel)
  | (rw [kit_same (by decide +kernel)]; decide +kernel)
theorem tyN_in (d : D) : tyN d = "NoneType" ∨ Plain5 (tyN d) := by
 cases d with
 | non => exact .inl rfl
 | bl b => exact .inr (.inr (.inl rfl))
 | int b => exact .inr (.inl rfl)
 | str b => exact .inr (.inr (.inr (.inl rfl)))
 | tup b => exact .inr (.inr (.inr (.inr (.inl rfl))))
 | lst b => exact .inr (.inr (.inr (.inr (.inr rfl))))
 | fl b => exact .inr (.inr (.inr (.inr (.inr rfl))))
 | mt b => exact .inr (.inr (.inr (.inr (.inr rfl))))
 | st b => exact .inr (.inr (.inr (.inr (.inr rfl))))
theorem kit_D {K : Fg} {T : String} (h : Plain5 T) (d : D) : PySem.W.kitOne K (.type (tyN d)) (.type T) = some (isD T d) := kit_S h (tyN_in d)
def Slv : D → Prop
 | .mt _ | .st _ => False
 | _ => True
theorem call_isiD {X : Cx} {T : String} (hT : Plain5 T) : fL X (.builtin "isinstance") (fun xs H Q => ∃ x d, xs = [x, .ty T] ∧ Slv d ∧ Den X.K H d x ∧ Q (.bl (isD T d)) H) := by
 intro pins s σ H xs us Q I r h
 obtain ⟨x, d, rfl, nm, dx, q⟩ := h
 obtain ⟨u, w', rfl, rx, r2⟩ := vals2 r
 cases (show w' = Value.type T from r2)
 have e := kit_D (K := X.K) hT d
 have fin : ∀ tk, ∃ v H', Inv X pins σ H' { s with toks := tk } ∧ RelV v (Value.bool (isD T d)) ∧ Q v H' := fun tk => ⟨.bl (isD T d), H, I.tok tk, rfl, q⟩
 cases d with
 | non => rw [dx.non_] at rx; cases (show u = Value.none from rx); exact PySem.W.kia_one PySem.W.kitx_none I.kIn True.intro e (fun z => nomatch z) fin
 | bl y => rw [dx.bl_] at rx; cases (show u = Value.bool y from rx); exact PySem.W.kia_one PySem.W.kitx_bool I.kIn True.intro e (fun z => nomatch z) fin
 | int i => rw [dx.int_] at rx; obtain ⟨t, q2⟩ := (show ∃ t, u = Value.int i t from rx); cases q2; exact PySem.W.kia_one PySem.W.kitx_int I.kIn True.intro e (fun z => nomatch z) fin
 | str y => rw [dx.str_] at rx; obtain ⟨t, q2⟩ := (show ∃ t, u = Value.str y t from rx); cases q2; exact PySem.W.kia_one PySem.W.kitx_str I.kIn True.intro e (fun z => nomatch z) fin
 | mt a => exact nm.elim
 | st a => exact nm.elim
 | tup ds =>
  obtain ⟨a, its, vs, rfl, ⟨o, h1, h2, _⟩, _⟩ := cZ I dx rx
  exact PySem.W.kia_one PySem.W.kitx_tuple I.kIn ⟨o, h1, h2⟩ e (fun z => nomatch z) fin
 | lst ds =>
  obtain ⟨a, its, vs, rfl, ⟨o, h1, h2, _⟩, _⟩ := cX I dx rx
  exact PySem.W.kia_one PySem.W.kitx_list I.kIn ⟨o, h1, h2⟩ e (fun z => nomatch z) fin
 | fl ds =>
  obtain ⟨a, vs, rfl, sq, dn⟩ := dx.fl_
  cases (show u = Value.ref a from rx)
  obtain ⟨its, rv, pt, _⟩ := I.list sq
  obtain ⟨o, h1, h2, _⟩ := pt.isList
  exact PySem.W.kia_one PySem.W.kitx_list I.kIn ⟨o, h1, h2⟩ e (fun z => nomatch z) fin
inductive Rz (M : Mem) : D → D → Prop
 | self {d : D} (h : Slv d) : Rz M d d
 | mt {a : Addr} {ds : List D} (h : M a = some (.lst ds)) : Rz M (.mt a) (.lst ds)
section
variable {X : Cx} {Γ : Gm} {M : Mem} {k : D → Mem → Prop} {pos p1 p2 : Pos} {e : Expr}
theorem jI {C : Str} {T : String} (hT : Plain5 T) (hm : X.mg "isinstance" = none) (hmT : X.mg C = none) (hvT : bootBuiltins C = some (.type T)) (h : GE X e Γ M fun d M1 => ∃ d', Rz M1 d d' ∧ k (.bl (isD T d')) M1) (hg : Gl X "isinstance" := by rfl) (hgT : Gl X C := by rfl)
  (hn : C ≠ "__name__" := by decide) (hdb : (C == ("__debug__" : Str)) = false := by decide)
  (he : starEach [e, .Name C p2] X.env = (false, eval e X.env) :: starEach [.Name C p2] X.env := by rfl) (hpl : (backTo pos (starEach [.Name C p2] X.env)).any (·.1) = false := by rfl) : GE X (.Call (.Name "isinstance" p1) [e, .Name C p2] [] pos) Γ M k := fun σ G H Q en rl q => by
 refine bW (sA (call_isiD hT) hg hm PyProof.Rows.boot_isinstance (pR (hs := he) pU (pR (pe_bltn (v := .ty T) hgT hmT hvT rfl hn hdb) pa_nil)) (by decide) (by decide) he hpl) ?_
 refine h σ G H _ en rl fun v G1 H1 d M1 s1 e1 ⟨d', rz, h1⟩ => ?_
 refine ⟨v, d', rfl, ?_, ?_, q _ _ _ _ _ s1 cT h1⟩
 ·cases rz with
  | self h => exact h
  | mt h => exact True.intro
 ·cases rz with
  | self h => exact e1.up s1.rel.same
  | mt hm =>
   obtain ⟨_, vs, e2, dn⟩ := s1.rel.mem _ _ hm
   rw [e1.mt_]; exact gE e2 (dn.up s1.rel.same)
end
end Z
namespace HD
open PySem PySem.Spec PyProof.Rows
section
variable {prog : Program} {w : World} {A : Around} {E : Value → Shared → Prop} {s : Shared} {d it : Addr} {o : Obj} {es : Array DictEntry} {ep : Nat}
end
end HD
namespace HD
open PySem PySem.Spec PyProof.Rows
section
variable {prog : Program} {w : World} {K : Type} [DecidableEq K] {knd : HeapKind prog w K} {A : Around} {E : Value → Shared → Prop} {s : Shared} {d a : Addr} {xs : List (K × Addr × Value)} {k : K} {v : Value}
end
end HD
namespace HD
open PySem PySem.Spec PyProof.Rows
section
variable {prog : Program} {w : World} {K : Type} [DecidableEq K] {knd : HeapKind prog w K} {A : Around} {E : Value → Shared → Prop} {s : Shared} {d o : Addr} {xs ys : List (K × Addr × Value)}
end
end HD
namespace HD
open PySem PySem.Spec PyProof.Rows
section
variable {prog : Program} {w : World} {K : Type} [DecidableEq K] {knd : HeapKind prog w K} {A : Around} {E : Value → Shared → Prop} {s : Shared} {d o : Addr} {xs ys : List (K × Addr × Value)}
end
end HD
namespace Z
open PySem PySem.Spec PyProof.Rows L2
end Z
namespace Z
open PySem PySem.Spec PyProof.Rows L2
section
variable {X : Cx} {pins : List (Addr × Obj)} {σ : L2.St} {H : Hp} {s : Shared} {a b : Addr} {k : List Int} {ks : List (List Int)} {xs : List (List Int × Addr)} {ep : Nat}
theorem qR {P : Program} {w : World} : ∀ {ks : List Int} {us : List Value}, Vals (ks.map V.int) us → ItemsAre (intKind P w) ks us
 | [], _, r => by rw [List.map_nil] at r; cases r; exact .nil
 | k :: ks, _, r => by
  rw [List.map_cons] at r
  cases r with
  | @cons x y l m h t =>
   obtain ⟨tk, rfl⟩ := (show ∃ t, y = Value.int k t from h)
   exact .cons (by show Value.isInt k (Value.int k tk) = true; simp [Value.isInt]) (qR t)
end
end Z
namespace Z
open PySem L2
inductive Stt (M : Mem) : D → List (List Int) → Prop
 | st (ks : List (List Int)) : Stt M (.st ks) ks
 | mt {a : Addr} {ks : List (List Int)} (h : M a = some (.st ks)) : Stt M (.mt a) ks
section
variable {K : Fg} {G H : Hp} {M : Mem} {k : D → Mem → Prop}
end
section
variable {X : Cx} {Γ : Gm} {M : Mem} {k : D → Mem → Prop} {kg : Gm → Mem → Prop} {F : Fin} {pos : Pos} {a b c e o tg iter : Expr} {ss : List Stmt}
end
end Z
namespace Z
open PySem L2
section
variable {X : Cx} {Γ : Gm} {M : Mem} {tg iter : Expr} {ki : List D → Mem → Prop}
end
end Z
namespace R
structure Gth (cells : List Cell) (st : List (Int × Int)) (s : Cell) (ks ws : List Cell) (busy : Option (Int × Int × List (Int × Int))) : Prop where
 s0 : s ∈ ks
 all : ∀ c ∈ ks, Rch cells st s c
 sub : ∀ c ∈ ks, c ∈ cells
 nd : ks.Nodup
 ww : ∀ c ∈ ws, c ∈ ks
 cl : ∀ x y, [x, y] ∈ ks → [x, y] ∈ ws ∨ (∃ dn, busy = some (x, y, dn)) ∨ ∀ d ∈ st, [x + d.1, y + d.2] ∈ cells → [x + d.1, y + d.2] ∈ ks
 bz : ∀ x y dn, busy = some (x, y, dn) → [x, y] ∈ ks ∧ ∀ d ∈ dn, [x + d.1, y + d.2] ∈ cells → [x + d.1, y + d.2] ∈ ks
section
variable {cells : List Cell} {st : List (Int × Int)} {s : Cell} {ks ws : List Cell} {x y : Int} {dn : List (Int × Int)} {d : Int × Int}
end
end R
namespace Q
open PySem L2 Z
end Q
namespace R
open PySem L2
abbrev RS := List (Nat × Nat) × Option Nat
structure RInv (bs : List Bool) (n : Nat) (q : RS) : Prop where
 bd : ∀ p ∈ q.1, p.1 < p.2 ∧ p.2 < n
 bg : ∀ b, q.2 = some b → b < n
 len : q.1.length ≤ n
 any : (q.1 ≠ [] ∨ q.2 ≠ none) ↔ ∃ i, i < n ∧ bs.getD i false = true
end R
namespace Q
open PySem L2 Z
end Q
namespace Q
open PySem L2 Z
end Q
namespace R
open PySem L2
end R
namespace Q
open PySem L2 Z
end Q
namespace Q
open PySem L2 Z
end Q
namespace Q
open PySem L2 Z
theorem nE (z : Str) (zr : List Str) : atI ((z :: zr).map D.str) 0 = some (.str z) := eN (j := 0) rfl
theorem uH (z : Str) (js : List Nat) : PySem.Txt.join Str.empty (js.map fun j => (⟨#[R.atS z j]⟩ : Str)) = R.ofL (js.map (R.atS z)) := by
 have := R.i8 (js.map (R.atS z))
 rw [List.map_map] at this
 exact this
def cPicked : Ct := fun ds M k => ∃ (z : Str) (js : List Nat), ds = [.str z, .lst (natD js)] ∧ z.length ≤ 1000 ∧ js.length ≤ 1000 ∧ (∀ j ∈ js, j < z.length) ∧ k (.str (R.ofL (js.map (R.atS z)))) M
def lC (xs ys : List D) (zs : List Str) : D := yardD (pickD xs (R.chg (R.aF zs))) (pickD ys (R.chg zs)) (R.bX zs)
structure Grp (cells : List R.Cell) (st : List (Int × Int)) (n : Nat) (gs : List (List R.Cell)) : Prop where
 len : gs.length = (R.starts cells st n).length
 at_ : ∀ (j : Nat) s, (R.starts cells st n)[j]? = some s → ∃ ks, gs[j]? = some ks ∧ ∀ c, c ∈ ks ↔ R.Rch cells st s c
noncomputable def rowsR (cells : List R.Cell) (st : List (Int × Int)) (s : R.Cell) (w h : Nat) : List Str := R.rowsOf (fun a u => @decide (R.Rch cells st s [a, u]) (Classical.propDecidable _)) w h
noncomputable def piecesD (xs ys : List D) (cells : List R.Cell) (st : List (Int × Int)) (ss : List R.Cell) : List D := ss.map fun s => lC xs ys (rowsR cells st s (xs.length - 1) (ys.length - 1))
def straight : List (Int × Int) := [(1, 0), (0, 1), (-1, 0), (0, -1)]
def rR : List (Int × Int) := [(1, 0), (1, 1), (0, 1), (-1, 1), (-1, 0), (-1, -1), (0, -1), (1, -1)]
noncomputable def pcs (xs ys : List D) (zs : List Str) : List D := piecesD xs ys (R.kF zs true xs.length ys.length) straight (R.starts (R.kF zs true xs.length ys.length) straight (R.kF zs true xs.length ys.length).length)
end Q
namespace Q
open PySem L2 Z
theorem r9 : ("#" : Str) = ⟨#[35]⟩ := by decide +kernel
theorem tI (l : List Nat) : PySem.Txt.join Str.empty (l.map fun c => (⟨#[c]⟩ : Str)) = R.ofL l := R.i8 l
theorem ge_glob {X : Cx} {Γ : Gm} {M : Mem} {k : D → Mem → Prop} {pos : Pos} {x : Str} {a : Addr} {d : D} (hm : X.mg x = some (.ref a)) (hd : ∀ G, Den X.K G d (.ref a)) (h : k d M) (hg : Gl X x := by rfl) (hb : (x == ("__debug__" : Str)) = false := by decide) : GE X (.Name x pos) Γ M k :=
 fun σ G H Q en rl q => bW (pe_glob (v := .ref a) hg hm rfl hb) (q _ G H d M (Stp.refl rl) (hd G) h)
def al9 (all : Bool) (r u : Int) : Bool := all || r * u == 0
def st9 (all : Bool) : List (Int × Int) := [(-1, -1), (-1, 0), (-1, 1), (0, -1), (0, 0), (0, 1), (1, -1), (1, 0), (1, 1)].filter fun d => al9 all d.1 d.2
end Q
namespace Q
open PySem L2 Z
def l3 : List Int := [-1, 0, 1]
end Q
namespace Q
open PySem L2 Z
theorem den_pr {K : Fg} {G : Hp} {a : Addr} {i j : Int} {ti tj n : Nat} {od : Option Addr} {sl : Array (Option Value)} (h : K.lookup a = some ⟨.type "tuple", od, .seq #[.int i ti, .int j tj] n, sl⟩) : Den K G (dL (i, j)) (.ref a) :=
 gF (vs := [.int i, .int j]) (.inr ⟨_, _, _, h, rfl, rfl, (by show (2 : Nat) ≤ sizeLine; decide), .cons ⟨ti, rfl⟩ (.cons ⟨tj, rfl⟩ .nil)⟩) (bZ cU (bZ cU cF))
end Q
namespace Q
open PySem L2 Z
noncomputable def hls (xs ys : List D) (zs : List Str) : List D := piecesD xs ys (R.kF zs false xs.length ys.length) rR ((R.starts (R.kF zs false xs.length ys.length) rR (R.kF zs false xs.length ys.length).length).drop 1)
end Q
namespace HT
open PySem PySem.Spec PyProof.Rows
section
variable {prog : Program} {w : World} {A : Around} {E : Value → Shared → Prop} {s : Shared}
theorem lQ {t sl : Addr} {items : Array Value} {vl vu : Value} {lo hi : Option Int} {Q : Value → Shared → Prop} (ht : IsTup s.heap t items) (hs : s.heap.IsSliceOf sl vl vu .none) (pl : IsPart vl lo) (pu : IsPart vu hi)
  (hw : sIx items.size 0 lo = 0 ∧ sIx items.size items.size hi = items.size) (h : Q (.ref t) s) : wpAny (model prog w) A (getItem (.ref t) (.ref sl)) Q E s := by
 obtain ⟨os, hos, hcs, hds⟩ := id hs
 have hTs : s.TypeIs (.ref sl) "slice" := ⟨os, hos, hcs⟩
 unfold getItem
 try with_reducible refine wpAny_holding ?_
 first | refine wpAny_bind (wpAny_pure ?_) | skip
 refine wpAny_bind (wpAny_sequenceKey ht.typeIs (by decide) ?_)
 refine wpAny_bind (wpAny_callSpecial?_slot (name := Str.ofString "__getitem__") ht.typeIs PyProof.Rows.slot_tuple_getitem
  (wpAny_call_entry PyProof.Rows.slot_tuple_getitem ht.typeIs entry_tuple_getitem ?_ (args_tuple_getitem _ _)))
 show wpAny _ _ (Builtin.Tuple.tupleItemsOf (.ref t) >>= _) _ _ s
 refine wpAny_bind (tupleItemsOf_ ht ?_)
 refine wpAny_bind (wpAny_typeOf hTs ?_)
 rw [if_pos (by decide)]
 refine wpAny_bind (jS hs pl pu ?_)
 have hyes : (((sIx items.size 0 lo : Nat) : Int) == 0 && (1 : Int) == 1 && (sIx items.size items.size hi - sIx items.size 0 lo) == items.size) = true := by
  rw [hw.1, hw.2]; simp
 show wpAny _ _ (if (((sIx items.size 0 lo : Nat) : Int) == 0 && (1 : Int) == 1 && (sIx items.size items.size hi - sIx items.size 0 lo) == items.size) = true then _ else _) _ _ s
 rw [if_pos hyes]
 refine wpAny_bind ?_
 unfold Builtin.Tuple.tupleIsExact
 refine wpAny_bind (wpAny_typeOf ht.typeIs (wpAny_pure ?_))
 rw [if_pos (by rfl)]
 refine wpAny_bind (wpAny_rule ?_)
 exact wpAny_pure ⟨_, rfl, wpAny_pure h⟩
end
end HT
namespace L2
open PySem PySem.Spec PyProof.Rows
section
variable {X : Cx}
def rSlA (K : PySem.W.Frag) : V → Option Int → Option Int → Hp → VK → Prop := fun x lo hi H Q => ∃ a xs, x = .ref a ∧ SqT K H a xs ∧
 ((HT.sIx xs.length 0 lo = 0 ∧ HT.sIx xs.length xs.length hi = xs.length) → Q (.ref a) H) ∧ (¬ (HT.sIx xs.length 0 lo = 0 ∧ HT.sIx xs.length xs.length hi = xs.length) → ∀ p, H p = none → Q (.ref p) (upd H p (.tup (cutV xs lo hi))))
theorem sl_tupA : SlR X (rSlA X.K) := by
 intro pins s σ H x v vl vu lo hi sl Q I rx hs pl pu h
 obtain ⟨a, xs, e, hx, q1, q2⟩ := h
 by_cases hw : HT.sIx xs.length 0 lo = 0 ∧ HT.sIx xs.length xs.length hi = xs.length
 ·subst e
  cases rx
  obtain ⟨its, r, ht, hz⟩ := I.tuple hx
  have hlen : its.toArray.size = xs.length := by rw [List.size_toArray]; exact r.length.symm
  refine ⟨"tuple", _, PyProof.Rows.slot_tuple_getitem.lookup, ht.typeIs, ?_⟩
  exact HT.lQ ht hs pl pu (by rw [hlen]; exact hw) ⟨.ref a, H, I, rfl, q1 hw⟩
 ·exact sl_tup pins s σ H x v vl vu lo hi sl Q I rx hs pl pu ⟨a, xs, e, hx, hw, q2 hw⟩
end
end L2
namespace Z
open PySem L2
theorem o3_tupA {K : Fg} {M : Mem} {k : D → Mem → Prop} {ds : List D} {l u : Option Int} (h : k (.tup (cutD ds l u)) M) : Op3 K (rSlA K) (.tup ds) l u M k := fun G H v Q rl e q => by
 obtain ⟨a, vs, ev, s, dn⟩ := (Seq.tup ds).sq rl e
 refine ⟨a, vs, ev, s, fun hw => ?_, fun hw p hp => ?_⟩
 ·have ec : cutD ds l u = ds := by
   rw [← dn.len] at hw
   unfold cutD
   rw [hw.1, hw.2, List.drop_zero, Nat.sub_zero, List.take_length]
  rw [ec] at h
  exact q _ _ _ _ _ (Stp.refl rl) (by rw [← ev]; exact e) h
 ·have st := rl.new (o := .tup (cutV vs l u)) hp
  exact q _ _ _ _ _ st (gF (SqT.of bG) ((dn.cut l u).up st.gg)) h
theorem u3 {α : Type} (l : List α) : cutD l (some 1) none = l.drop 1 := by
 unfold cutD
 have e1 : HT.sIx l.length 0 (some 1) = min 1 l.length := HT.sIx_nat l.length 0 1
 have e2 : HT.sIx l.length l.length none = l.length := rfl
 rw [e1, e2]
 by_cases h : 1 ≤ l.length
 ·rw [Nat.min_eq_left h, List.take_of_length_le (by rw [List.length_drop]; exact Nat.le_refl _)]
 ·have : l = [] := List.length_eq_zero_iff.mp (by omega)
  subst this; rfl
end Z
namespace Q
open PySem L2 Z
end Q
namespace Q
open PySem L2 Z
mutual
def tameB : Nat → D → Bool
 | _, .non | _, .bl _ => true
 | _, .int i => decide (i.natAbs < 10 ^ 65)
 | _, .str z => decide (z.length ≤ 1000)
 | n + 1, .tup ds => decide (ds.length ≤ 100) && tamesB n ds
 | n + 1, .lst ds => decide (ds.length ≤ 100) && tamesB n ds
 | _, _ => false
def tamesB : Nat → List D → Bool
 | _, [] => true
 | n, d :: ds => tameB n d && tamesB n ds
end
mutual
theorem tame_ok : ∀ (n : Nat) (d : D), tameB n d = true → okD n d = true
 | _, .non, _ => by simp only [okD]
 | _, .bl _, _ => by simp only [okD]
 | _, .int _, _ => by simp only [okD]
 | _, .str _, _ => by simp only [okD]
 | n + 1, .tup ds, h => by
  simp only [tameB, Bool.and_eq_true] at h
  simp only [okD]; exact tames_ok n ds h.2
 | n + 1, .lst ds, h => by
  simp only [tameB, Bool.and_eq_true] at h
  simp only [okD]; exact tames_ok n ds h.2
 | 0, .tup _, h => by simp [tameB] at h
 | 0, .lst _, h => by simp [tameB] at h
 | _, .mt _, h => by simp [tameB] at h
 | _, .fl _, h => by simp [tameB] at h
 | _, .st _, h => by simp [tameB] at h
theorem tames_ok : ∀ (n : Nat) (ds : List D), tamesB n ds = true → okDs n ds = true
 | _, [], _ => by simp only [okDs]
 | n, d :: ds, h => by
  simp only [tamesB, Bool.and_eq_true] at h
  simp only [okDs, tame_ok n d h.1, tames_ok n ds h.2, Bool.and_true]
end
theorem tame_slv {n : Nat} {d : D} (h : tameB n d = true) : Slv d := by
 cases d <;> first | exact trivial | (exfalso; simp [tameB] at h)
theorem sH {n : Nat} {z : Str} (h : tameB n (.str z) = true) : z.length ≤ 1000 := by simpa [tameB] using h
mutual
theorem tame_up : ∀ (n : Nat) (d : D), tameB n d = true → tameB (n + 1) d = true
 | _, .non, _ => by simp only [tameB]
 | _, .bl _, _ => by simp only [tameB]
 | _, .int _, h => by simpa only [tameB] using h
 | _, .str _, h => by simpa only [tameB] using h
 | n + 1, .tup ds, h => by
  simp only [tameB, Bool.and_eq_true] at h ⊢
  exact ⟨h.1, tames_up n ds h.2⟩
 | n + 1, .lst ds, h => by
  simp only [tameB, Bool.and_eq_true] at h ⊢
  exact ⟨h.1, tames_up n ds h.2⟩
 | 0, .tup _, h => by simp [tameB] at h
 | 0, .lst _, h => by simp [tameB] at h
 | _, .mt _, h => by simp [tameB] at h
 | _, .fl _, h => by simp [tameB] at h
 | _, .st _, h => by simp [tameB] at h
theorem tames_up : ∀ (n : Nat) (ds : List D), tamesB n ds = true → tamesB (n + 1) ds = true
 | _, [], _ => by simp only [tamesB]
 | n, d :: ds, h => by
  simp only [tamesB, Bool.and_eq_true] at h ⊢
  exact ⟨tame_up n d h.1, tames_up n ds h.2⟩
end
theorem sS (z : Str) : isD "str" (.str z) = true := rfl
theorem iI (i : Int) : isD "int" (.int i) = true := rfl
theorem bI (i : Int) : isD "bool" (.int i) = false := rfl
theorem str_or (d : D) : (∃ z, d = .str z) ∨ (isD "str" d = false ∧ ∀ z, d ≠ .str z) := by
 cases d with
 | str ls => exact .inl ⟨ls, rfl⟩
 | _ => exact .inr ⟨rfl, fun _ h => nomatch h⟩
def isW : D → Bool
 | .int _ => true
 | _ => false
theorem isW_or (d : D) : (∃ i, d = .int i) ∨ (isW d = false ∧ (isD "int" d = false ∨ isD "int" d = true ∧ isD "bool" d = true)) := by
 cases d with
 | int i => exact .inl ⟨i, rfl⟩
 | bl b => exact .inr ⟨rfl, .inr ⟨rfl, rfl⟩⟩
 | _ => exact .inr ⟨rfl, .inl rfl⟩
def ltP (p q : Int × Int) : Bool := decide (p.1 * q.2 < q.1 * p.2)
def rowB (w : Nat) : D → Bool
 | .str z => decide (z.length = w) && z.cps.toList.all fun c => c == 35 || c == 46
 | _ => false
theorem row_no {w : Nat} {d : D} (h : ∀ z, d ≠ .str z) : rowB w d = false := by
 cases d with
 | str z => exact absurd rfl (h z)
 | _ => rfl
def fitB (rs : List D) (nx ny : Nat) : Bool := decide (rs.length = ny - 1) && rs.all (rowB (nx - 1))
def toS : D → Str
 | .str z => z
 | _ => Str.empty
def Sq2 (t : Bool) (d : D) (ds : List D) : Prop := d = if t = true then .lst ds else .tup ds
def oG : Ct := fun ds M k => ∃ d, ds = [d] ∧ Slv d ∧ k (.bl (isW d)) M
def cIsRow : Ct := fun ds M k => ∃ d n w, ds = [d, .int ((w : Nat) : Int)] ∧ tameB n d = true ∧ k (.bl (rowB w d)) M
def cFitB : Ct := fun ds M k => ∃ t dr dx dy rs xs ys n, ds = [dr, dx, dy] ∧ Sq2 t dr rs ∧ Sq2 t dx xs ∧ Sq2 t dy ys ∧ (∀ r ∈ rs, tameB n r = true) ∧ rs.length ≤ 100 ∧ xs.length ≤ 100 ∧ ys.length ≤ 100 ∧ k (.bl (fitB rs xs.length ys.length)) M
def rZ : Ct := fun ds M k => ∃ (t : Bool) (r : D) (zs : List Str) (n j : Nat), ds = [r, .int (j : Int)] ∧ Sq2 t r (zs.map .str) ∧ zs.length ≤ 1000 ∧ n ≤ 1000 ∧ (∀ z ∈ zs, z.length = n) ∧ j < n ∧ k (.str (R.ofL (zs.map (R.atS · j)))) M
def mG : Ct := fun ds M k => ∃ (t : Bool) (r : D) (zs : List Str) (n : Nat), ds = [r] ∧ Sq2 t r (zs.map .str) ∧ zs.length ≤ 1000 ∧ n ≤ 1000 ∧ (∀ z ∈ zs, z.length = n) ∧ k (.lst ((R.aF zs).map .str)) M
def qU : Ct := fun ds M k => ∃ (t : Bool) (r : D) (zs : List Str) (n : Nat), ds = [r] ∧ Sq2 t r (zs.map .str) ∧ zs.length ≤ 1000 ∧ n ≤ 1000 ∧ (∀ z ∈ zs, z.length = n) ∧ k (.lst (natD (R.chg zs))) M
def oI : Ct := fun ds M k => ∃ (t : Bool) (dx dy dr : D) (xs ys : List D) (zs : List Str) (n : Nat), ds = [dx, dy, dr] ∧ Sq2 t dx xs ∧ Sq2 t dy ys ∧ Sq2 t dr (zs.map .str) ∧ zs.length ≤ 900 ∧ n ≤ 900 ∧ (∀ z ∈ zs, z.length = n) ∧ (∀ j ∈ R.chg (R.aF zs), j < xs.length) ∧ (∀ j ∈ R.chg zs, j < ys.length) ∧ k (lC xs ys zs) M
theorem maxz0 (n : Nat) : (if 0 > (n : Int) - 1 then 0 else (n : Int) - 1) = ((n - 1 : Nat) : Int) := by split <;> omega
theorem all_id {α : Type} (f : α → Bool) (l : List α) : (l.map f).all id = l.all f := by rw [List.all_map]; rfl
theorem o2_inStr {K : Fg} {M : Mem} {k : D → Mem → Prop} {x y : Str} (h : k (.bl (!(Builtin.Str.occurrences y x 0 y.length 1).isEmpty)) M) : Op2 K (fun x y H Q => ∃ i j, x = .str i ∧ y = .str j ∧ Q (.bl (!(Builtin.Str.occurrences j i 0 j.length 1).isEmpty)) H) (.str x) (.str y) M k := fun G H v1 v2 Q rl e1 e2 q =>
 ⟨x, y, e1.str_, e2.str_, q _ _ _ _ _ (Stp.refl rl) cT h⟩
theorem gL {b : Bool} {P Q : Prop} (h : b = true) (p : P) : if b = true then P else Q := by rw [if_pos h]; exact p
theorem eA {b : Bool} {P Q : Prop} (h : b = false) (p : Q) : if b = true then P else Q := by rw [if_neg (by rw [h]; exact Bool.false_ne_true)]; exact p
theorem nF : R.chg [] = [] := by decide +kernel
theorem eQ {zs : List Str} {ny : Nat} (h : zs.length = ny - 1) : ∀ j ∈ R.chg zs, j < ny := fun j hj => by
 have := R.dI zs j hj
 cases zs with
 | nil => rw [nF] at hj; cases hj
 | cons z zr => rw [List.length_cons] at h this; omega
theorem eO {zs : List Str} {nx : Nat} (h : ∀ z ∈ zs, z.length = nx - 1) : ∀ j ∈ R.chg (R.aF zs), j < nx := fun j hj => by
 have h1 := (R.lA h).1
 have := R.dI _ j hj
 cases hc : R.aF zs with
 | nil => rw [hc, nF] at hj; cases hj
 | cons z zr => rw [hc] at h1 this; rw [List.length_cons] at h1 this; omega
theorem ok_yardG {xs ys : List D} (zs : List Str) (hx : ∀ x ∈ xs, okD 1 x = true) (hy : ∀ y ∈ ys, okD 1 y = true) : okD 3 (yardD xs ys zs) = true := by
 have o1 := kP hx
 have o2 := kP hy
 have o3 : okDs 1 (zs.map D.str) = true := kP fun d hd => by obtain ⟨z, _, rfl⟩ := List.mem_map.mp hd; rfl
 simp only [yardD, okD, okDs, o1, o2, o3, Bool.and_true]
end Q
namespace Z
open PySem L2 PySem.Spec PyProof.Rows
section
variable {K : Fg} {M : Mem} {k : D → Mem → Prop} {ds es : List D}
end
end Z
namespace Q
open PySem L2 Z
theorem gt_mid {X : Cx} {e : Expr} {Γ : Gm} {M : Mem} {P kb : Bool → Mem → Prop} (h : GT X e Γ M P) (hk : ∀ c M1, P c M1 → kb c M1) : GT X e Γ M kb := fun σ G H Q en rl q => h σ G H Q en rl fun b G' H' M' s hp => q b G' H' M' s (hk _ _ hp)
theorem hash_dot (c : Bool) : atI ("#." : Str).cps.toList (if c = true then 1 else 0) = some (if c = true then 46 else 35) := by cases c <;> decide +kernel
theorem snoc_of {α : Type} {l : List α} (h : l ≠ []) : ∃ r x, l = r ++ [x] := by
 rcases List.eq_nil_or_concat l with e | ⟨r, x, e⟩
 ·exact absurd e h
 ·exact ⟨r, x, by simpa using e⟩
structure TT (n : Nat) (xs : List D) : Prop where
 len : xs.length ≤ n
 each : ∀ x ∈ xs, tameB 2 x = true
theorem tt_strs {n : Nat} {zs : List Str} (hz : ∀ z ∈ zs, z.length ≤ 1000) (hl : zs.length ≤ n) : TT n (zs.map .str) := ⟨by rw [List.length_map]; exact hl, fun x hx => by
 obtain ⟨z, hz', rfl⟩ := List.mem_map.mp hx
 simp only [tameB, decide_eq_true_eq]
 exact hz z hz'⟩
theorem tame_strc {n : Nat} {z : Str} (h : z.length ≤ 1000) : tameB n (.str z) = true := by cases n <;> simpa only [tameB, decide_eq_true_eq] using h
theorem two {n : Nat} {x y : D} (hx : tameB n x = true) (hy : tameB n y = true) : ∀ d ∈ [x, y], tameB n d = true := fun d hd => by
 simp only [List.mem_cons, List.not_mem_nil, or_false] at hd
 rcases hd with rfl | rfl <;> assumption
end Q
namespace Z
open PySem L2
end Z
namespace Q
open PySem L2 Z
theorem fit_eq {zs : List Str} {nx ny : Nat} (h : zs.length = ny - 1) (hz : ∀ z ∈ zs, z.length = nx - 1) : fitB (zs.map .str) nx ny = zs.all fun z => z.cps.toList.all R.sgn := by
 unfold fitB
 rw [List.length_map, decide_eq_true h, Bool.true_and, List.all_map]
 rw [Bool.eq_iff_iff, List.all_eq_true, List.all_eq_true]
 constructor
 ·intro a z hz'
  have := a z hz'
  simp only [Function.comp, rowB, Bool.and_eq_true] at this
  exact this.2
 ·intro a z hz'
  simp only [Function.comp, rowB, Bool.and_eq_true]
  exact ⟨decide_eq_true (hz z hz'), a z hz'⟩
def sc (c : Nat) (l : List Nat) : Int := (l.map fun n => if decide (n = c) = true then (1 : Int) else 0).sum
end Q
namespace HD
open PySem PySem.Spec PyProof.Rows
section
variable {prog : Program} {w : World} {K : Type} [DecidableEq K] {knd : HeapKind prog w K} {A : Around} {E : Value → Shared → Prop} {s : Shared} {d a : Addr} {xs : List (K × Addr × Value)} {k : K}
end
end HD
namespace HD
open PySem PySem.Spec PyProof.Rows
section
variable {prog : Program} {w : World} {K : Type} [DecidableEq K] {knd : HeapKind prog w K} {A : Around} {E : Value → Shared → Prop} {s : Shared} {o : Addr} {ys : List (K × Addr × Value)}
end
end HD
namespace HD
open PySem PySem.Spec PyProof.Rows
section
variable {prog : Program} {w : World} {A : Around} {E : Value → Shared → Prop} {s : Shared} {d o : Addr} {od oo : Obj} {es eo : Array DictEntry} {ep e2 : Nat}
end
end HD
namespace Z
open PySem L2
section
variable {X : Cx} {Γ : Gm} {M : Mem} {k : D → Mem → Prop} {e o : Expr}
end
end Z
namespace Z
open PySem L2
end Z
namespace HD
open PySem PySem.Spec PyProof.Rows
end HD
namespace Z
open PySem L2
end Z
namespace HT
open PySem PyProof.Rows
section
open PySem.SeqAt
open PySem.AutoSeq1 (wpAny_loadPart')
open PySem.MeetsSeq PySem.MeetsSeq2 PySem.MeetsSeq3
end
end HT
namespace Z
open PySem L2
section
variable {X : Cx} {Γ : Gm} {M : Mem} {F : Fin} {tg iter : Expr} {body : List Stmt} {pos : Pos}
end
end Z
namespace Z
open PySem L2
def tk (M : Mem) (b : Addr) : Bool := match M b with
 | some (.lst _) => true
 | _ => false
def loanG (G H : Hp) (M : Mem) : Hp := fun b => if tk M b = true then H b else G b
def lU (G1 : Hp) (M : Mem) : Hp := fun b => if tk M b = true then none else G1 b
mutual
def noL : D → Bool
 | .non | .bl _ | .int _ | .str _ => true
 | .tup ds => noLs ds
 | _ => false
def noLs : List D → Bool
 | [] => true
 | d :: ds => noL d && noLs ds
end
section
variable {K : Fg} {G H G1 H1 : Hp} {M M1 : Mem}
theorem uT {a : Addr} {vs : List V} (hl : ∀ b, tk M b = true → ∃ ws, G1 b = some (.lst ws)) (h : SqT K G1 a vs) : SqT K (lU G1 M) a vs := by
 rcases h with h | h
 ·refine .inl ?_
  have ne : ¬ tk M a = true := fun t => by
   obtain ⟨ws, e⟩ := hl a t
   rcases h with h | ⟨o, h⟩ <;> rw [e] at h <;> cases h
  have e : lU G1 M a = G1 a := by unfold lU; rw [if_neg ne]
  rcases h with h | ⟨o, h⟩
  ·exact .inl (e.trans h)
  ·exact .inr ⟨o, e.trans h⟩
 ·exact .inr h
mutual
theorem den_strip (hl : ∀ b, tk M b = true → ∃ ws, G1 b = some (.lst ws)) : ∀ (d : D) {v : V}, noL d = true → Den K G1 d v → Den K (lU G1 M) d v
 | .non, _, _, h => by simp only [Den] at h ⊢; exact h
 | .bl _, _, _, h => by simp only [Den] at h ⊢; exact h
 | .int _, _, _, h => by simp only [Den] at h ⊢; exact h
 | .str _, _, _, h => by simp only [Den] at h ⊢; exact h
 | .tup ds, _, n, h => by
  simp only [noL] at n
  simp only [Den] at h ⊢
  obtain ⟨a, vs, e, q, r⟩ := h
  exact ⟨a, vs, e, uT hl q, dens_strip hl ds n r⟩
 | .mt _, _, n, _ => by simp [noL] at n
 | .lst _, _, n, _ => by simp [noL] at n
 | .fl _, _, n, _ => by simp [noL] at n
 | .st _, _, n, _ => by simp [noL] at n
theorem dens_strip (hl : ∀ b, tk M b = true → ∃ ws, G1 b = some (.lst ws)) : ∀ (ds : List D) {vs : List V}, noLs ds = true → Dens K G1 ds vs → Dens K (lU G1 M) ds vs
 | [], _, _, h => by simp only [Dens] at h ⊢; exact h
 | d :: ds, _, n, h => by
  simp only [noLs, Bool.and_eq_true] at n
  simp only [Dens] at h ⊢
  obtain ⟨v, r, e, h1, h2⟩ := h
  exact ⟨v, r, e, den_strip hl d n.1 h1, dens_strip hl ds n.2 h2⟩
end
end
def Ln (M : Mem) (d d' : D) : Prop := ∀ K G H v, Rel K G H M → Den K G d v → Den K (loanG G H M) d' v
inductive LnE (M : Mem) : Gm → Gm → Prop
 | n : LnE M [] []
 | s {o : Option D} {Γ Γ' : Gm} (r : LnE M Γ Γ') : LnE M (o :: Γ) (none :: Γ')
 | c {d d' : D} {Γ Γ' : Gm} (h : Ln M d d') (r : LnE M Γ Γ') : LnE M (some d :: Γ) (some d' :: Γ')
section
variable {X : Cx} {Γ Γ' : Gm} {M : Mem} {k : D → Mem → Prop} {kb : Bool → Mem → Prop} {e : Expr} {d0 : D} {b0 : Bool}
end
end Z
namespace Z
open PySem L2
section
variable {X : Cx} {Γ : Gm} {M : Mem} {k : D → Mem → Prop} {kb : Bool → Mem → Prop} {pos : Pos} {a b c : Expr}
theorem n5 {x : Str} {n : Int} {t : Tok} (hm : X.mg x = some (.int n t)) (h : k (.int n) M) (hg : Gl X x := by rfl) (hb : (x == ("__debug__" : Str)) = false := by decide) : GE X (.Name x pos) Γ M k :=
 fun σ G H Q en rl q => bW (pe_glob (v := .int n) hg hm ⟨t, rfl⟩ hb) (q _ G H _ M (Stp.refl rl) cU h)
theorem ge_chain {op op' : CmpOp} {r r' : R2} (ho : OpR X (compareOp op) r) (ho' : OpR X (compareOp op') r')
  (h : GE X a Γ M fun d1 M1 => GE X b Γ M1 fun d2 M2 => Op2 X.K r d1 d2 M2 fun e M3 => ∃ t, e = .bl t ∧ if t = true then GE X c Γ M3 fun d3 M4 => Op2 X.K r' d2 d3 M4 k else k (.bl false) M3)
  (hm : lastMarks [op, op'] [b, c] = false := by with_unfolding_all rfl) : GE X (.Compare a [op, op'] [b, c] pos) Γ M k := fun σ G H Q en rl q => by
 refine bW (pe_chain ho ho' pU pU pU hm) ?_
 refine h σ G H _ en rl fun v1 G1 H1 d1 M1 s1 e1 h1 => ?_
 refine h1 σ G1 H1 _ (en.up s1.gg) s1.rel fun v2 G2 H2 d2 M2 s2 e2 h2 => ?_
 refine h2 G2 H2 v1 v2 _ s2.rel (e1.up s2.gg) e2 fun z G3 H3 d3 M3 s3 e3 ⟨t, ed, h3⟩ => ?_
 subst ed
 have s13 := (s1.trans s2).trans s3
 refine ⟨t, e3.bl_, ?_⟩
 cases t with
 | true =>
  rw [if_pos rfl] at h3 ⊢
  refine h3 σ G3 H3 _ (en.up s13.gg) s3.rel fun w G4 H4 d4 M4 s4 e4 h4 => ?_
  exact h4 G4 H4 v2 w Q s4.rel (e2.up (s3.trans s4).gg) e4 (q.up (s13.trans s4))
 | false =>
  rw [if_neg Bool.false_ne_true] at h3 ⊢
  exact q _ _ _ _ _ s13 cT h3
end
end Z
namespace Q
open PySem L2 Z
def p1 (x : Int) : Int × Int := (x, 1)
def fR (xs : List Int) : List D := (xs.map p1).map dL
structure Up7 (xs : List Int) : Prop where
 up : xs.Pairwise (· < ·)
 few : xs.length ≤ 7
 bd : ∀ x ∈ xs, -1000000000 ≤ x ∧ x ≤ 1000000000
def dv (a b : Int) : Int := if b < 0 then -((Int.gcd a b : Nat) : Int) else ((Int.gcd a b : Nat) : Int)
def lowP (a b : Int) : Int × Int := (a.fdiv (dv a b), b.fdiv (dv a b))
def jA : Ct := fun ds M k => ∃ a b : Int, ds = [.int a, .int b] ∧ b ≠ 0 ∧ b.natAbs < 10 ^ 1000 ∧ k (dL (lowP a b)) M
def qV : Ct := fun ds M k => ∃ a b : Int, ds = [.int a, .int b] ∧ b ≠ 0 ∧ b.natAbs < 10 ^ 1000 ∧ k (dL (lowP a b)) M
def oN : Ct := fun ds M k => ∃ x : Int, ds = [.int x] ∧ -1000000000 ≤ x ∧ x ≤ 1000000000 ∧ k (.bl true) M
def nM : Ct := fun ds M k => ∃ xs : List Int, ds = [.lst (xs.map .int)] ∧ Up7 xs ∧ k (.bl true) M
def cMade : Ct := fun ds M k => ∃ (xs ys : List Int) (zs : List Str), ds = [.lst (xs.map .int), .lst (ys.map .int), .lst (zs.map .str)] ∧ Up7 xs ∧ Up7 ys ∧ R.Good (xs.length - 1) zs ∧ zs.length = ys.length - 1 ∧ k (lC (fR xs) (fR ys) zs) M
theorem low1 (x : Int) : lowP x 1 = p1 x := by
 have e : dv x 1 = 1 := by unfold dv; rw [if_neg (by decide), Int.gcd_one]; rfl
 unfold lowP p1
 rw [e, Int.fdiv_one]
 rfl
theorem pick_m5 {z : Int} (h0 : 0 ≤ z) (h1 : z < 3) : ∃ m : Int, atI [D.int 1, .int 5, .int (10 ^ (8 : Int).toNat)] z = some (.int m) ∧ 1 ≤ m ∧ m ≤ 100000000 := by
 have : z = 0 ∨ z = 1 ∨ z = 2 := by omega
 rcases this with rfl | rfl | rfl
 ·exact ⟨1, rfl, by decide, by decide⟩
 ·exact ⟨5, rfl, by decide, by decide⟩
 ·exact ⟨_, rfl, by decide, by decide⟩
theorem lL (ds : List D) : isD "list" (.lst ds) = true := rfl
theorem n6 (n : Nat) : (List.replicate n true).all id = true := by
 rw [List.all_eq_true]; intro b hb; rw [(List.mem_replicate.mp hb).2]; rfl
theorem int_at {xs : List Int} {i : Nat} (h : i < xs.length) : atI (xs.map D.int) (i : Int) = some (.int xs[i]) := eN (by rw [List.getElem?_map, List.getElem?_eq_getElem h]; rfl)
theorem pB (xs : List Int) : (fR xs).length = xs.length := by unfold fR; rw [List.length_map, List.length_map]
theorem good_all {n : Nat} {zs : List Str} (h : R.Good n zs) : (zs.all fun z => z.cps.toList.all R.sgn) = true := List.all_eq_true.mpr fun z hz => (h z hz).2
theorem TT.tame1 {n : Nat} {zs : List Str} (h : TT n (zs.map .str)) : ∀ r ∈ zs.map D.str, tameB 1 r = true := fun r hr => by
 obtain ⟨z, hz, rfl⟩ := List.mem_map.mp hr
 exact tame_strc (sH (h.each _ hr))
theorem up_le {xs : List Int} (h : xs.Pairwise (· < ·)) {i j : Nat} (hij : i ≤ j) (hj : j < xs.length) : xs.getD i 0 ≤ xs.getD j 0 := by
 rw [List.getD_eq_getElem?_getD, List.getD_eq_getElem?_getD, List.getElem?_eq_getElem (show i < xs.length by omega), List.getElem?_eq_getElem hj]
 by_cases e : i = j
 ·subst e; exact Int.le_refl _
 ·exact Int.le_of_lt (List.pairwise_iff_getElem.mp h i j (by omega) hj (by omega))
theorem up_lt {xs : List Int} (h : xs.Pairwise (· < ·)) {i j : Nat} (hij : i < j) (hj : j < xs.length) : xs.getD i 0 < xs.getD j 0 := by
 rw [List.getD_eq_getElem?_getD, List.getD_eq_getElem?_getD, List.getElem?_eq_getElem (show i < xs.length by omega), List.getElem?_eq_getElem hj]
 exact List.pairwise_iff_getElem.mp h i j (by omega) hj (by omega)
end Q
namespace Q
open PySem L2 Z
end Q
namespace L2
open PySem PySem.Spec PyProof.Rows
section
variable {X : Cx}
theorem lW {prog : Program} {w : World} {A : Around} (hh : A.handled = none) (it : Addr) (x : Str) (t : Tok) :
  Draws prog w A it [it] x.cps.size (fun i v => ∃ c u, x.cps[i]? = some c ∧ v = .str ⟨#[c]⟩ u) (fun i h => h.IsStrIter it (strIterType x) x t i) := by
 unfold strIterType
 split
 ·first | exact Draws.strAscii hh it x t | exact Draws.strWide hh it x t
 ·first | exact Draws.strWide hh it x t | exact Draws.strAscii hh it x t
end
end L2
namespace Z
open PySem L2
section
variable {X : Cx} {Γ : Gm} {M : Mem} {k : D → Mem → Prop} {pos : Pos} {a b : Expr} {rest : List Expr}
end
end Z
namespace Q
open PySem L2 Z
structure Bg (p : Int × Int) : Prop where
 a : p.1.natAbs < 10 ^ 400
 b : p.2.natAbs < 10 ^ 400
 c : p.2 ≠ 0
theorem big400 {i : Int} (h : i.natAbs < 10 ^ 400) : i.natAbs < big := Nat.lt_of_lt_of_le h (by unfold big; decide)
theorem bot_ok {p q : Int × Int} (hp : Bg p) (hq : Bg q) : p.2 * q.2 ≠ 0 ∧ (p.2 * q.2).natAbs < 10 ^ 1000 := by
 refine ⟨Int.mul_ne_zero hp.c hq.c, ?_⟩
 rw [Int.natAbs_mul]
 refine Nat.lt_of_lt_of_le (Nat.mul_lt_mul'' hp.b hq.b) ?_
 rw [← Nat.pow_add]
 exact Nat.pow_le_pow_right (by decide) (by decide)
def tG : Ct := fun ds M k => ∃ (p : Addr) (b : Int), ds = [.mt p] ∧ FdM M p b ∧ b ≤ 900000 ∧ ∀ xs M', Up7 xs → 2 ≤ xs.length → FdM M' p (b + 20) → ButM p M M' → k (.lst (xs.map .int)) M'
def lowG (t b : Int) : Int × Int := (t.fdiv ((Int.gcd t b : Nat) : Int), b.fdiv ((Int.gcd t b : Nat) : Int))
def cLow6 : Ct := fun ds M k => ∃ t b : Int, ds = [.int t, .int b] ∧ 0 < b ∧ b < 10 ^ 60 ∧ k (dL (lowG t b)) M
structure Spot (xs : List Int) (v : Int × Int) (cols : List Int) : Prop where
 pos : 0 < v.2
 sm : v.1.natAbs < 10 ^ 65 ∧ v.2.natAbs < 10 ^ 65
 at_ : (∃ k : Nat, k < xs.length ∧ v = p1 (xs.getD k 0) ∧ cols = [(k : Int) - 1, (k : Int)]) ∨ (∃ k : Int, cols = [k] ∧ ∀ i, i < xs.length → (xs.getD i 0 * v.2 < v.1 ↔ (i : Int) ≤ k) ∧ xs.getD i 0 * v.2 ≠ v.1)
end Q
namespace Q
open PySem L2 Z
end Q
namespace PySem
namespace F
theorem oD : Manifest.owners.lookup (String.ofList ['d', 'e', 's', 'r', 'e', 'v', 'e', 'r'].reverse) = some Manifest.sig_reversed := by kernel_rfl
theorem fC : Slot "reversed" "__next__" "reversed.__next__" :=
 .of (owner := "reversed") (n := "__next__") (by rw [typeLookup_type, builtinLookup_eq_fast]; kernel_rfl) (by decide +kernel) (by decide +kernel) (by decide +kernel)
  (by first | exact .inl (by decide +kernel) | exact .inr (by decide +kernel)) (by rw [isSubtype_type]; kernel_rfl)
theorem lO : entryFor table "reversed.__next__" = some Builtin.«reversed.__next__» := entryFor_of_tree (by kernel_rfl)
theorem kM (a : Value) : argsOk "reversed.__next__" ⟨[a], []⟩ := by
 unfold argsOk; rw [signature?_of (id := "reversed.__next__") (n := ['_', '_', 't', 'x', 'e', 'n', '_', '_']) (o := ['d', 'e', 's', 'r', 'e', 'v', 'e', 'r']) (by kernel_rfl) oD]; kernel_rfl
theorem mI : Slot "reversed" "__iter__" "reversed.__iter__" :=
 .of (owner := "reversed") (n := "__iter__") (by rw [typeLookup_type, builtinLookup_eq_fast]; kernel_rfl) (by decide +kernel) (by decide +kernel) (by decide +kernel)
  (by first | exact .inl (by decide +kernel) | exact .inr (by decide +kernel)) (by rw [isSubtype_type]; kernel_rfl)
theorem p6 (a : Value) : argsOk "reversed.__iter__" ⟨[a], []⟩ := by
 unfold argsOk; rw [signature?_of (id := "reversed.__iter__") (n := ['_', '_', 'r', 'e', 't', 'i', '_', '_']) (o := ['d', 'e', 's', 'r', 'e', 'v', 'e', 'r']) (by kernel_rfl) oD]; kernel_rfl
theorem q0 : entryFor table "reversed.__iter__" = some Builtin.«dict_keyiterator.__iter__» :=
 entryFor_alias (id' := "dict_keyiterator.__iter__") (by kernel_rfl) (by first | rfl | decide +kernel | (unfold String.splitOn; simp +decide [String.splitOnAux])) (by decide +kernel) (by kernel_rfl)
theorem sP : Slot "reversed" "__init__" "object.__init__" :=
 .of (owner := "object") (n := "__init__") (by rw [typeLookup_type, builtinLookup_eq_fast]; kernel_rfl) (by decide +kernel) (by decide +kernel) (by decide +kernel)
  (by first | exact .inl (by decide +kernel) | exact .inr (by decide +kernel)) (by rw [isSubtype_type]; kernel_rfl)
theorem oY : TypeCalled "reversed" "reversed.__new__" "object.__init__" :=
 ⟨by decide +kernel, by decide +kernel, ⟨_, _, mro_reversed⟩, made_reversed, by decide +kernel, by rw [isSubtype_type]; kernel_rfl, sP⟩
theorem tK : typeLookup (.type "tuple") "__reversed__" = pure none := by rw [typeLookup_type, builtinLookup_eq_fast]; kernel_rfl
theorem norev_str : typeLookup (.type "str") "__reversed__" = pure none := by rw [typeLookup_type, builtinLookup_eq_fast]; kernel_rfl
theorem nolen_rv : typeLookup (.type "reversed") "__len__" = pure none := by rw [typeLookup_type, builtinLookup_eq_fast]; kernel_rfl
theorem hint_rv : typeLookup (.type "reversed") "__length_hint__" = pure (some (.builtin "reversed.__length_hint__")) := by rw [typeLookup_type, builtinLookup_eq_fast]; kernel_rfl
theorem lV : Slot "reversed" "__length_hint__" "reversed.__length_hint__" :=
 .of (owner := "reversed") (n := "__length_hint__") (by rw [typeLookup_type, builtinLookup_eq_fast]; kernel_rfl) (by decide +kernel) (by decide +kernel) (by decide +kernel)
  (by first | exact .inl (by decide +kernel) | exact .inr (by decide +kernel)) (by rw [isSubtype_type]; kernel_rfl)
theorem rB : entryFor table "reversed.__length_hint__" = some Builtin.«reversed.__length_hint__» := entryFor_of_tree (by kernel_rfl)
theorem p0 (a : Value) : argsOk "reversed.__length_hint__" ⟨[a], []⟩ := by
 unfold argsOk; rw [signature?_of (id := "reversed.__length_hint__") (n := ['_', '_', 't', 'n', 'i', 'h', '_', 'h', 't', 'g', 'n', 'e', 'l', '_', '_']) (o := ['d', 'e', 's', 'r', 'e', 'v', 'e', 'r']) (by kernel_rfl) oD]; kernel_rfl
end F
def rvObj (v : Value) (i : Int) : Obj := { cls := .type "reversed", data := .fields #[v, rawInt i] }
def Heap.IsRv (h : Heap) (a : Addr) (v : Value) (i : Int) : Prop := ∃ o, h.get? a = some o ∧ o.cls = .type "reversed" ∧ o.data = .fields #[v, rawInt i]
section
variable {prog : Program} {w : World} {A : Around} {E : Value → Shared → Prop} {s : Shared}
theorem Heap.IsRv.typeIs {a : Addr} {v : Value} {i : Int} (x : s.heap.IsRv a v i) : s.TypeIs (.ref a) "reversed" := let ⟨o, ho, hc, _⟩ := x; ⟨o, ho, hc⟩
theorem mL {v : Value} {T gid : String} {n : Int} (hrev : typeLookup (.type T) "__reversed__" = pure none) (hdict : isSubtype (.type T) (.type "dict") = pure false)
  (hgi : typeLookup (.type T) "__getitem__" = pure (some (.builtin gid))) (hin : ["tuple.__getitem__", "str.__getitem__", "bytes.__getitem__", "bytearray.__getitem__", "memoryview.__getitem__", "numpy.ndarray.__getitem__", "sqlite3.Row.__getitem__"].contains gid = true) :
  Meets (Builtin.«reversed.__new__» ⟨[.type "reversed", v], []⟩) (fun A R s => s.TypeIs v T ∧
   (∀ (prog : Program) (w : World) (Q : Value → Shared → Prop) (E : Value → Shared → Prop), Q (.int n (s.toks + 1)) { s with toks := s.toks + 1 + 1 } → wpAny (model prog w) A.in1 (call (.builtin "len") [v]) Q E s) ∧
   R (.ok (.ret (.ref s.heap.objs.size))) { s with heap := s.heap.push (rvObj v (n - 1)), toks := s.toks + 1 + 1 }) :=
 .of_wp fun prog w A R s ⟨hT, hlen, h⟩ => by
  unfold Builtin.«reversed.__new__»
  refine wpAny_bind (wpAny_of_eq (newClass_reversed _) ?_)
  try dsimp only
  refine wpAny_bind (wpAny_of_eq (a := ()) (by first | rfl | kernel_rfl) ?_)
  refine wpAny_bind (wpAny_of_eq (a := ()) (by first | rfl | kernel_rfl) ?_)
  try dsimp only
  refine wpAny_bind (wpAny_specialOf hT hrev ?_)
  try dsimp only
  refine wpAny_bind ?_
  refine wpAny_bind (wpAny_isInstance hT hdict ?_)
  rw [if_neg Bool.false_ne_true]
  refine wpAny_bind (wpAny_specialOf hT hgi ?_)
  dsimp only
  rw [if_pos hin]
  refine wpAny_pure ?_
  rw [if_neg (show ¬ ((!true) = true) from Bool.false_ne_true)]
  refine wpAny_bind (hlen _ _ _ _ ?_)
  refine wpAny_bind (m := asInt? (.int n (s.toks + 1))) (wpAny_pure ?_)
  dsimp only
  refine wpAny_bind (m := Builtin.SmallTypes.newRecord (Value.type "reversed") [v, rawInt (n - 1)]) ?_
  show wpAny _ _ (newObj (Value.type "reversed") (.fields #[v, rawInt (n - 1)])) _ _ _
  exact wpAny_newObj_type (wpAny_pure ⟨_, rfl, h⟩)
theorem jJ {v : Value} {T gid : String} {n : Int} {Q : Value → Shared → Prop} (hrev : typeLookup (.type T) "__reversed__" = pure none) (hdict : isSubtype (.type T) (.type "dict") = pure false)
  (hgi : typeLookup (.type T) "__getitem__" = pure (some (.builtin gid))) (hin : ["tuple.__getitem__", "str.__getitem__", "bytes.__getitem__", "bytearray.__getitem__", "memoryview.__getitem__", "numpy.ndarray.__getitem__", "sqlite3.Row.__getitem__"].contains gid = true)
  (hT : s.TypeIs v T) (hlen : ∀ (A : Around) (prog : Program) (w : World) (Q : Value → Shared → Prop) (E : Value → Shared → Prop), Q (.int n (s.toks + 1)) { s with toks := s.toks + 1 + 1 } → wpAny (model prog w) A (call (.builtin "len") [v]) Q E s)
  (h : Q (.ref s.heap.objs.size) { s with heap := s.heap.push (rvObj v (n - 1)), toks := s.toks + 1 + 1 }) : wpAny (model prog w) A (call (.type "reversed") [v]) Q E s := by
 refine callType_new F.oY (by decide) (F.typeCall_reversed_1 _) (F.newCall_reversed_1 _) (fun obj => F.args_object_init_2 obj _) F.entry_reversed_new (mL (n := n) hrev hdict hgi hin) ?_
 exact ⟨hT, fun _ _ _ _ => hlen _ _ _ _ _, ⟨_, Heap.get?_push_size _ rfl, rfl⟩, h⟩
theorem gX {it : Addr} {v : Value} {T gid : String} {i : Nat} {P : Value → Prop} {Q : Option Value → Shared → Prop} (hit : s.heap.IsRv it v (i : Int)) (hT : s.TypeIs v T) (hgi : typeLookup (.type T) "__getitem__" = pure (some (.builtin gid)))
  (hget : ∀ (A : Around) (u tk : Tok) (Q : Value → Shared → Prop) (E : Value → Shared → Prop), (∀ x tk', P x → Q x { s with toks := tk' }) → wpAny (model prog w) A (getItem v (.int (i : Int) u)) Q E { s with toks := tk })
  (hQ : ∀ x h' tk, P x → h'.IsRv it v ((i : Int) - 1) → Heap.SameBut it s.heap h' → Q (some x) { s with heap := h', toks := tk }) : wpAny (model prog w) A (pyNext (.ref it)) Q E s := by
 obtain ⟨o, ho, hc, hd⟩ := id hit
 unfold pyNext
 refine wpAny_bind (wpAny_attempt (wpAny_callSpecial?_slot (name := Str.ofString "__next__") hit.typeIs F.fC
  (wpAny_call_entry F.fC hit.typeIs F.lO ?_ (F.kM _))))
 unfold Builtin.«reversed.__next__»
 refine wpAny_bind (wpAny_of_eq (a := (Value.ref it, [])) rfl ?_)
 try dsimp only
 refine wpAny_bind (wpAny_field ho hd (x := v) rfl ?_)
 refine wpAny_bind (wpAny_field ho hd (x := rawInt (i : Int)) rfl ?_)
 show wpAny _ _ (if (i : Int) < 0 then _ else _) _ _ s
 rw [if_neg (by omega)]
 refine wpAny_bind (wpAny_specialOf hT hgi ?_)
 rw [if_neg (show ¬ (Option.isNone (some (Value.builtin gid)) = true) from Bool.false_ne_true)]
 refine wpAny_bind (wpAny_mkInt ?_)
 refine wpAny_bind (wpAny_attempt (hget _ _ _ _ _ fun x tk' px => ?_))
 try dsimp only
 refine wpAny_bind (wpAny_field (s := { s with toks := tk' }) ho hd (x := rawInt (i : Int)) rfl ?_)
 show wpAny _ _ (setField (.ref it) 1 (rawInt ((i : Int) - 1)) >>= _) _ _ _
 refine wpAny_bind (wpAny_setField (s := { s with toks := tk' }) ho hd (by simp) ?_)
 refine wpAny_pure ⟨x, rfl, wpAny_pure (hQ x _ tk' px ?_ (Heap.SameBut.update ..))⟩
 exact ⟨_, Heap.get?_update_self _ ho (Obj.isFreed_of_fields (Obj.data_mapFields hd _)), (Obj.cls_mapFields ..).trans hc, by
  rw [Obj.data_mapFields hd]; simp⟩
theorem hV {it : Addr} {v : Value} {Q : Option Value → Shared → Prop} (hh : A.handled = none) (hit : s.heap.IsRv it v (-1))
  (hQ : ∀ h', Heap.ExtBut it s.heap h' → Q none { s with heap := h' }) : wpAny (model prog w) A (pyNext (.ref it)) Q E s := by
 obtain ⟨o, ho, hc, hd⟩ := id hit
 unfold pyNext
 refine wpAny_bind (wpAny_attempt (wpAny_callSpecial?_slot (name := Str.ofString "__next__") hit.typeIs F.fC
  (wpAny_call_entry F.fC hit.typeIs F.lO ?_ (F.kM _))))
 unfold Builtin.«reversed.__next__»
 refine wpAny_bind (wpAny_of_eq (a := (Value.ref it, [])) rfl ?_)
 try dsimp only
 refine wpAny_bind (wpAny_field ho hd (x := v) rfl ?_)
 refine wpAny_bind (wpAny_field ho hd (x := rawInt (-1)) rfl ?_)
 show wpAny _ _ (if (-1 : Int) < 0 then _ else _) _ _ s
 rw [if_pos (by decide)]
 refine wpAny_bind (wpAny_rule ?_)
 refine wpAny_bind ?_
 refine wpAny_bind (wpAny_setField ho hd (by simp) ?_)
 refine wpAny_setField (Heap.get?_update_self _ ho (Obj.isFreed_of_fields (Obj.data_mapFields hd _))) (Obj.data_mapFields hd _) (by simp) ?_
 first
 | show wpAny _ _ (newExc (.type "StopIteration") [] >>= _) _ _ _
 | (refine wpAny_bind ?_; show wpAny _ _ (newExc (.type "StopIteration") [] >>= _) _ _ _)
 refine wpAny_bind ?_
 simp only [newExc, newTuple]
 refine wpAny_bind (wpAny_newObj_type ?_ (by size_fits))
 refine wpAny_bind (m := firstArgMember _ _) (wpAny_of_eq (a := Value.none) (by first | rfl | (simp only [firstArgMember]; rfl)) ?_)
 refine wpAny_newObj_type ?_ (by size_fits)
 simp only [raiseNew]
 refine wpAny_bind (wpAny_handled ?_)
 first | rw [show A.in1.handled = none from hh] | rw [hh]
 refine wpAny_bind (wpAny_pure (wpAny_throw ?_))
 refine wpAny_bind (wpAny_isInstance (T := "StopIteration") (b := true) ⟨_, Heap.get?_push_size _ rfl, rfl⟩ isSubtype_stop ?_)
 refine wpAny_pure (hQ _ ?_)
 exact fun b o hb e => Heap.get?_push_of_some _ (Heap.get?_push_of_some _ (((Heap.SameBut.update ..).2 b hb).trans (((Heap.SameBut.update ..).2 b hb).trans e)))
theorem eV {it : Addr} {v : Value} {i : Int} {Q : Value → Shared → Prop} (hit : s.heap.IsRv it v i) (h : Q (.ref it) s) : wpAny (model prog w) A (pyIter (.ref it)) Q E s := by
 refine wpAny_pyIter_slot hit.typeIs F.mI (wpAny_call_entry F.mI hit.typeIs F.q0 ?_ (F.p6 _))
 show wpAny _ _ (ret (.ref it)) _ _ s
 exact wpAny_pure ⟨_, rfl, "reversed", _, hit.typeIs, F.fC.lookup, h⟩
end
end PySem
namespace PySem
open PyProof.Rows
theorem Walks.revStr {prog : Program} {w : World} {A : Around} (hh : A.handled = none) (I : Addr) (x : Str) (t : Tok) (hx : x.cps.size ≤ sizeLine) :
  Walks prog w A I [I] [I] x.cps.size (fun i v => ∃ c u, x.cps[x.cps.size - 1 - i]? = some c ∧ v = .str ⟨#[c]⟩ u) (fun i h => i ≤ x.cps.size ∧ h.IsRv I (.str x t) ((x.cps.size : Int) - 1 - (i : Int))) where
 sub := fun b hb => hb
 frame := fun _ _ _ st hk => ⟨st.1, let ⟨o, ho, r⟩ := st.2; ⟨o, hk I (by simp) o ho, r⟩⟩
 item := fun i s Q E hi st hQ => by
  have e : (x.cps.size : Int) - 1 - (i : Int) = ((x.cps.size - 1 - i : Nat) : Int) := by omega
  have hit := st.2
  rw [e] at hit
  have hs : sizeLine = 16777216 := sizeLine_eq
  have hlt : x.cps.size - 1 - i < x.cps.size := by omega
  refine gX (P := fun v => ∃ c u, x.cps[x.cps.size - 1 - i]? = some c ∧ v = .str ⟨#[c]⟩ u) hit (typeIs_str s x t) F.slot_str_getitem.lookup (fun A u tk Q E q => ?_) fun v h' tk pv hit' hs' => ?_
  ·refine getItem_str (s := { s with toks := tk }) (c := x.cps[x.cps.size - 1 - i]) (by rw [Bool.or_eq_false_iff, decide_eq_false_iff_not, decide_eq_false_iff_not]; omega) ?_ (q _ _ ⟨_, _, by rw [Array.getElem?_eq_getElem hlt], rfl⟩)
   have e1 : seqIndex? ((x.cps.size - 1 - i : Nat) : Int) x.length = some (x.cps.size - 1 - i) := by
    unfold seqIndex?
    have : x.length = x.cps.size := rfl
    simp; omega
   rw [e1, Option.bind_some, Array.getElem?_eq_getElem hlt]
  ·have e2 : ((x.cps.size - 1 - i : Nat) : Int) - 1 = (x.cps.size : Int) - 1 - ((i + 1 : Nat) : Int) := by omega
   rw [e2] at hit'
   exact hQ _ h' tk pv ⟨hi, hit'⟩ fun b o hb eo => hs'.extBut b o (fun h => hb (by simp [h])) eo
 done := fun s Q E st hQ => by
  have hit := st.2
  rw [show (x.cps.size : Int) - 1 - (x.cps.size : Int) = -1 by omega] at hit
  exact hV hh hit fun h' he' => hQ h' s.toks fun b o hb eo => he' b o (fun h => hb (by simp [h])) eo
 self := fun _ _ _ _ st hQ => eV st.2 hQ
section
variable {prog : Program} {w : World} {A : Around} {E : Value → Shared → Prop} {s : Shared} {I : Addr}
theorem rC {x : Str} {t : Tok} {i : Int} {Q : Value → Shared → Prop} (hx : x.cps.size ≤ sizeLine) (hit : s.heap.IsRv I (.str x t) i) (hi : i + 1 ≤ x.cps.size)
  (hQ : ∀ u tk, s.toks ≤ tk → Q (.int (i + 1) u) { s with toks := tk }) : wpAny (model prog w) A (call (.builtin "reversed.__length_hint__") [.ref I]) Q E s := by
 obtain ⟨o, ho, hc, hd⟩ := id hit
 have hs : sizeLine = 16777216 := sizeLine_eq
 refine wpAny_call_entry F.lV hit.typeIs F.rB ?_ (F.p0 _)
 unfold Builtin.«reversed.__length_hint__»
 refine wpAny_bind (wpAny_of_eq (a := Value.ref I) rfl ?_)
 refine wpAny_bind (wpAny_field ho hd (x := .str x t) rfl ?_)
 rw [if_neg (show ¬ ((Value.str x t == Value.none) = true) from Bool.false_ne_true)]
 have hl : x.length = x.cps.size := rfl
 refine wpAny_bind (len_str (by omega) ?_)
 refine wpAny_bind (m := asInt? _) (wpAny_pure ?_)
 try dsimp only
 refine wpAny_bind (wpAny_field (s := { s with toks := _ }) ho hd (x := rawInt i) rfl ?_)
 show wpAny _ _ (if (x.length : Int) < i + 1 then _ else _) _ _ _
 rw [if_neg (by omega)]
 exact wpAny_bind (wpAny_mkInt (wpAny_pure ⟨_, rfl, hQ _ _ (by show s.toks ≤ s.toks + 1 + 1 + 1; omega)⟩))
end
end PySem
namespace PySem
open PyProof.Rows
section
variable {prog : Program} {w : World} {A : Around} {E : Value → Shared → Prop} {s : Shared} {I : Addr}
theorem n0 {x : Str} {t : Tok} {Q : List Value → Shared → Prop} (hh : A.handled = none) (hn : x.cps.size ≤ sizeLine) (hit : s.heap.IsRv I (.str x t) ((x.cps.size : Int) - 1))
  (hQ : ∀ s' acc, Moved [I] (fun a b => b = a) s s' → ItemsOf (fun i v => ∃ c u, x.cps[x.cps.size - 1 - i]? = some c ∧ v = .str ⟨#[c]⟩ u) acc x.cps.size → Q acc.toList s') : wpAny (model prog w) A (collect (.ref I)) Q E s := by
 have W := (Walks.revStr (prog := prog) (w := w) (A := A.in1) hh I x t hn).toS
 have hst : 0 ≤ x.cps.size ∧ s.heap.IsRv I (.str x t) ((x.cps.size : Int) - 1 - ((0 : Nat) : Int)) := ⟨Nat.zero_le _, by rw [show (x.cps.size : Int) - 1 - ((0 : Nat) : Int) = (x.cps.size : Int) - 1 by omega]; exact hit⟩
 have hlt : I < s.heap.objs.size := by obtain ⟨o, ho, _⟩ := hit; exact Heap.lt_size ho
 have hSI : s.heap.objs.size ≠ I := Nat.ne_of_gt hlt
 have hSf : s.heap.objs.size ∉ [I] := fun h => hSI (List.mem_singleton.mp h)
 unfold collect
 refine wpAny_bind (wpAny_runValue (codeAny_builtin F.entry_proto_collect ?_))
 rw [Around.under_plainId F.plain_proto_collect _]
 show wpAny _ A.in1 (newList [] >>= fun l => again (.builtin "list.__iadd__" ⟨[l, .ref I], []⟩)) _ _ s
 refine wpAny_bind (wpAny_newObj_type ?_)
 refine wpAny_pure ⟨plainId_quiet F.plain_list_iadd _, codeAny_builtin F.entry_list_iadd ?_⟩
 rw [Around.under_plainId F.plain_list_iadd _]
 have hst₁ := W.frame 0 s (s.heap.push { cls := .type "list", data := .seq ([] : List Value).toArray }) s.toks hst (Nat.le_refl _) fun b _ o e => Heap.get?_push_of_some _ e
 have hS₁ : (s.heap.push { cls := .type "list", data := .seq ([] : List Value).toArray }).get? s.heap.objs.size = some { cls := .type "list", data := .seq ([] : List Value).toArray } := Heap.get?_push_size _ rfl
 have h1 : Builtin.List.listSameRef (.ref s.heap.objs.size) (.ref I) = false := by simp [Builtin.List.listSameRef, hSI]
 show wpAny _ A.in1 (Builtin.List.listExtendWith (.ref s.heap.objs.size) (.ref I) (.ref s.heap.objs.size)) _ _ _
 unfold Builtin.List.listExtendWith
 refine wpAny_bind (wpAny_typeOf hst₁.2.typeIs ?_)
 rw [if_neg (by rw [h1]; decide)]
 refine wpAny_bind (W.self 0 _ _ _ hst₁ ?_)
 refine wpAny_bind (wpAny_holding ?_)
 unfold Builtin.List.listLengthHint
 refine wpAny_bind (wpAny_specialOf hst₁.2.typeIs F.nolen_rv ?_)
 show wpAny _ A.in1 (specialOf (Value.ref I) (Str.ofString "__length_hint__") >>= _) _ _ _
 refine wpAny_bind (wpAny_specialOf hst₁.2.typeIs F.hint_rv ?_)
 (generalize hid : ("reversed.__length_hint__" : String) = id0; (fail_if_success (clear hid id0)); wp_delta; rw [show splitId id0 = some ("reversed", "__length_hint__") from by subst hid; decide +kernel]; subst hid)
 refine wpAny_bind (wpAny_isInstance (b := true) hst₁.2.typeIs (by rw [isSubtype_type]; kernel_rfl) ?_)
 rw [if_neg (show ¬ ((!true) = true) from Bool.false_ne_true)]
 rw [if_neg (show ¬ (_ = true) from by first | decide +kernel | (intro h; revert h; decide +kernel))]
 refine wpAny_bind (wpAny_rule ?_)
 refine wpAny_bind (wpAny_of_eq (F.lV.bind _) ?_)
 dsimp only
 refine wpAny_bind (wpAny_attempt (rC hn hst₁.2 (by omega) fun u tk htk => ?_))
 have en : (x.cps.size : Int) - 1 - ((0 : Nat) : Int) + 1 = (x.cps.size : Int) := by omega
 rw [en]
 have hsl : sizeLine = 16777216 := sizeLine_eq
 have hfit : Builtin.List.listFitsIndex (x.cps.size : Int) = true := by
  unfold Builtin.List.listFitsIndex
  rw [Bool.and_eq_true, decide_eq_true_eq, decide_eq_true_eq]
  omega
 have hlong : ¬ (Builtin.List.listTooLong ((x.cps.size : Int)).toNat = true) := by
  unfold Builtin.List.listTooLong
  rw [decide_eq_true_eq]; omega
 have hneg : ¬ ((x.cps.size : Int) < 0) := by omega
 generalize hN : (x.cps.size : Int) = N at hfit hlong hneg ⊢
 show wpAny _ _ (asInt? (.int N u) >>= _) _ _ _
 refine wpAny_bind (wpAny_of_eq (a := some N) rfl ?_)
 dsimp only
 rw [hfit, if_neg (show ¬ ((!true) = true) from Bool.false_ne_true), if_neg hneg, if_neg hlong]
 refine wpAny_pure ?_
 have hst₂ := W.frame 0 _ _ tk hst₁ htk fun b _ o e => e
 by_cases h0 : x.cps.size = 0
 ·rw [show ((N != 0) = false) from by rw [← hN, h0]; rfl]
  rw [if_neg (by decide)]
  refine wpAny_pure ⟨plainId_quiet F.plain_extend_loop _, codeAny_extend_loopS W hn _ hSf _ x.cps.size 0 _ _ _ rfl (Nat.zero_le _) hst₂ hS₁ (ItemsOf.nil _) fun s' acc' c' hm hS' hacc => ?_⟩
  show wpAny _ A (load s.heap.objs.size >>= _) _ _ s'
  refine wpAny_bind (wpAny_load hS' ?_)
  exact wpAny_pure (hQ s' acc' (Moved.drop_new (o := { cls := .type "list", data := .seq ([] : List Value).toArray }) (tk := tk) hm htk) hacc)
 ·rw [show ((N != 0) = true) from by rw [bne_iff_ne]; omega]
  show wpAny _ A.in1 (rule "list.extend.makes-room" >>= fun _ => Builtin.List.listTouch (.ref s.heap.objs.size) >>= fun _ =>
   again (.builtin "list.extend.loop" ⟨[.ref s.heap.objs.size, .ref I, .ref s.heap.objs.size], []⟩)) _ _ _
  refine wpAny_bind (wpAny_rule ?_)
  refine wpAny_bind ?_
  show wpAny _ A.in1 (updateSeq s.heap.objs.size (·.push .none) >>= fun _ => updateSeq s.heap.objs.size (·.pop)) _ _ _
  refine wpAny_bind (wpAny_updateSeq hS₁ rfl ?_)
  have hS₂ := Heap.get?_update_self (Obj.mapSeq (·.push Value.none)) hS₁ rfl
  refine wpAny_updateSeq hS₂ rfl ?_
  have hS₃ := Heap.get?_update_self (Obj.mapSeq (·.pop)) hS₂ rfl
  have oth : ∀ b o, b ≠ s.heap.objs.size → (s.heap.push { cls := .type "list", data := .seq ([] : List Value).toArray }).get? b = some o →
    (((s.heap.push { cls := .type "list", data := .seq ([] : List Value).toArray }).update s.heap.objs.size (Obj.mapSeq (·.push Value.none))).update s.heap.objs.size (Obj.mapSeq (·.pop))).get? b = some o :=
   fun b o hb e => (Heap.get?_update_other _ _ (Ne.symm hb)).trans ((Heap.get?_update_other _ _ (Ne.symm hb)).trans e)
  refine wpAny_pure ⟨plainId_quiet F.plain_extend_loop _, codeAny_extend_loopS W hn _ hSf _ x.cps.size 0 _ _ _ rfl (Nat.zero_le _)
   (W.frame 0 ({ s with heap := s.heap.push { cls := .type "list", data := .seq ([] : List Value).toArray } } : Shared) _ tk hst₁ htk fun b hb o e => oth b o (fun h => hSf (h ▸ hb)) e) hS₃ (ItemsOf.nil _) fun s' acc' c' hm hS' hacc => ?_⟩
  show wpAny _ A (load s.heap.objs.size >>= _) _ _ s'
  refine wpAny_bind (wpAny_load hS' ?_)
  exact wpAny_pure (hQ s' acc' (Moved.drop_new (o := { cls := .type "list", data := .seq ([] : List Value).toArray }) (tk := tk) (Moved.trans W.gtrans (show Moved (s.heap.objs.size :: [I]) (fun a b => b = a) ({ s with heap := s.heap.push { cls := .type "list", data := .seq ([] : List Value).toArray }, toks := tk } : Shared) ({ s with heap := ((s.heap.push { cls := .type "list", data := .seq ([] : List Value).toArray }).update s.heap.objs.size (Obj.mapSeq (·.push Value.none))).update s.heap.objs.size (Obj.mapSeq (·.pop)), toks := tk } : Shared) from ⟨fun b o hb e => oth b o (fun h => hb (h ▸ List.mem_cons_self)) e, rfl, rfl, rfl, Nat.le_refl _⟩) hm) htk) hacc)
end
end PySem
namespace PySem
open PyProof.Rows
open Builtin Builtin.Str Builtin.Int
def revL (x : Str) : List Str := x.cps.toList.reverse.map fun c => (⟨#[c]⟩ : Str)
theorem rM (x : Str) : (revL x).length = x.cps.size := by simp [revL]
theorem sC {y : Str} {l : List (Str × Tok)} (h : ItemsOf (fun i v => ∃ c u, y.cps[y.cps.size - 1 - i]? = some c ∧ v = .str ⟨#[c]⟩ u) (strValues l).toArray y.cps.size) : l.map (·.1) = revL y := by
 have hsz : l.length = y.cps.size := by simpa [strValues] using h.1
 apply List.ext_getElem?
 intro j
 by_cases hj : j < l.length
 ·obtain ⟨c, u, hc, hv⟩ := h.2 j (.str l[j].1 l[j].2) (by simp [strValues, List.getElem?_eq_getElem hj])
  injection hv with h1 _
  have hc2 : y.cps.toList.reverse[j]? = some c := by
   rw [List.getElem?_reverse (by rw [Array.length_toList]; omega), Array.length_toList, Array.getElem?_toList]; exact hc
  unfold revL
  rw [List.getElem?_map, List.getElem?_map, hc2, List.getElem?_eq_getElem hj, Option.map_some, Option.map_some, h1]
 ·rw [List.getElem?_eq_none (by simpa using Nat.le_of_not_lt hj), List.getElem?_eq_none (by rw [rM]; omega)]
section
variable {prog : Program} {w : World} {A : Around} {E : Value → Shared → Prop} {s : Shared} {I : Addr}
theorem join_rv {sep x : Str} {ts t : Tok} {Q : Value → Shared → Prop} (hh : A.handled = none) (hsep : sep.length ≤ 16) (hx : x.cps.size ≤ 1000) (hit : s.heap.IsRv I (.str x t) ((x.cps.size : Int) - 1))
  (hq : ∀ s' t' k, Moved [I] (fun a b => b = a) s s' → Q (.str (Txt.join sep (revL x)) t') { s' with toks := k }) : wpAny (model prog w) A (call (.builtin "str.join") [.str sep ts, .ref I]) Q E s := by
 have hs : sizeLine = 16777216 := sizeLine_eq
 refine wpAny_call (codeAny_call_builtin F.slot_str_join.plain F.entry_str_join (F.slot_str_join.check _ _ _ _ _ _ _ _ (typeIs_str _ _ _) (F.args_str_join_2 _ _) ?_))
 rw [join_tree_other]
 refine wpAny_bind (wpAny_typeOf hit.typeIs ?_)
 show wpAny _ A.in1 ((pyIter (.ref I)).tryCatch _ >>= fun it => collect it >>= fun items => joinTail sep items) _ _ s
 refine wpAny_bind (wpAny_tryCatch (eV hit ?_))
 refine wpAny_bind (n0 hh (by omega) hit fun s' acc hm hacc => ?_)
 obtain ⟨l, hl⟩ := exists_strValues acc.toList fun v hv => by
  obtain ⟨j, hj, rfl⟩ := Array.mem_iff_getElem.mp (Array.mem_toList_iff.mp hv)
  obtain ⟨c, u, _, e⟩ := hacc.2 j _ (Array.getElem?_eq_getElem hj)
  exact ⟨_, u, e⟩
 rw [← hl]
 have hacc' := hacc
 rw [show acc = (strValues l).toArray from by rw [hl]] at hacc'
 have el := sC hacc'
 have hok : JoinOk sep (l.map (·.1)) = true := by
  rw [el]
  refine joinOk_of_weight ?_ hsep
  rw [rM]
  unfold revL
  rw [signLens_sum, List.length_reverse, Array.length_toList]
  omega
 unfold JoinOk at hok
 rw [Bool.not_eq_true'] at hok
 have g : Gives (joinTail sep (strValues l)) (joinMade sep l) := by
  have g0 := gives_joinTail sep l hok
  cases l with
  | nil => exact g0
  | cons p r => cases r with
   | nil => exact g0
   | cons q r' => exact g0
 exact g prog w A (wants Q E) s' (post_join l ⟨joinFit_length hok, fun t' k => by rw [el]; exact hq s' t' k hm⟩)
end
end PySem
namespace L2
open PySem PySem.Spec PyProof.Rows
section
variable {X : Cx}
def Irt (K : PySem.W.Frag) (a : Addr) (n : Nat) : It :=
 ⟨fun i H => ∃ xs x, SqT K H a xs ∧ xs.length = n ∧ xs.reverse[i]? = some x, fun i H x H' => H' = H ∧ ∀ xs, SqT K H a xs → xs.reverse[i]? = some x, fun i H => i = n⟩
theorem turn_revT {P : Program} {w : World} {K : PySem.W.Frag} {tg : Expr} (a it : Addr) (n : Nat) (hn : n ≤ sizeLine) : Turn P w K tg (Irt K a n) [it] it (fun i h => h.IsRv it (.ref a) ((n : Int) - 1 - (i : Int))) where
 mem := by simp
 obj := fun i h st b hb => by
  have e : b = it := by simpa using hb
  subst e
  obtain ⟨o, e, c, d⟩ := st
  exact ⟨o, e, fun v z => by rw [d] at z; cases z⟩
 keep := fun i h h' st k => let ⟨o, e, r⟩ := st; ⟨o, k it (by simp) o e, r⟩
 item := by
  intro X hP hw hK hc i pins s σ H E I hf st hg
  subst hP hw hK
  obtain ⟨xs, x, hq, hxl, hx⟩ := hg
  obtain ⟨its, rv, p, hz⟩ := I.tuple hq
  have hil : i < xs.length := by have := (List.getElem?_eq_some_iff.mp hx).1; rwa [List.length_reverse] at this
  have hx2 : xs[n - 1 - i]? = some x := by rw [List.getElem?_reverse hil, hxl] at hx; exact hx
  obtain ⟨u, hu, ru⟩ := rv.get hx2
  obtain ⟨f0, f1, f2, f3, f4, f5⟩ := hf it (by simp)
  have hl := rv.length
  have hs : sizeLine = 16777216 := sizeLine_eq
  have e : (n : Int) - 1 - (i : Int) = ((n - 1 - i : Nat) : Int) := by omega
  rw [e] at st
  refine gX (P := fun v => v = u) st (show s.TypeIs (.ref a) "tuple" from p.typeIs) F.slot_tuple_getitem.lookup (fun A uu tk Q E q => ?_) fun v h' tk pv st' sb => ?_
  ·refine getItem_tuple (s := { s with toks := tk }) (items := its.toArray) (j := n - 1 - i) (x := u) p (by omega) (by omega) ?_ (by simpa using hu) (q u tk rfl)
   unfold seqIndex?
   simp; omega
  ·subst pv
   have I1 : Inv X pins σ H { s with heap := h', toks := tk } := I.turned (t' := tk) (fun b o hb e => (sb.2 b hb).trans e) f0 f1 f3 f4 f5
   have st2 : h'.IsRv it (.ref a) ((n : Int) - 1 - ((i + 1 : Nat) : Int)) := by rw [show (n : Int) - 1 - ((i + 1 : Nat) : Int) = ((n - 1 - i : Nat) : Int) - 1 by omega]; exact st'
   obtain ⟨o, e, c, d⟩ := id st2
   exact ⟨v, rfl, mZ (s := { s with heap := h', toks := tk }) e c d (by decide) ⟨x, H, I1, ru, ⟨rfl, fun ys hy => by rw [I.tuple_inj hy hq]; exact hx⟩, st2, fun b hb => (hf b hb).1⟩⟩
 done := by
  intro X hP hw hK hc i pins s σ H E I hf st hg
  subst hP hw hK
  have hg' : i = n := hg
  subst hg'
  obtain ⟨f0, f1, f2, f3, f4, f5⟩ := hf it (by simp)
  rw [show (i : Int) - 1 - (i : Int) = -1 by omega] at st
  exact hV (I.ok.hd hc) st fun h' eb => ⟨rfl, I.turned (t' := s.toks) (fun b o hb e => eb b o hb e) f0 f1 f3 f4 f5⟩
 self := fun _ _ _ _ _ st h => eV st h
def iRevT (K : PySem.W.Frag) (ta : TA) : TI := fun σ H R => ta σ H fun vs H1 => ∃ a xs, vs = [.ref a] ∧ SqT K H1 a xs ∧ R (Irt K a xs.length) H1
theorem pi_revT {tg a : Expr} {ta : TA} {p pos : Pos} (hg : Gl X "reversed") (hm : X.mg "reversed" = none) (hv : bootBuiltins "reversed" = some (.type "reversed")) (ha : PA X [a] ta) (hs : starEach [a] X.env = [(false, eval a X.env)] := by rfl) :
  PI X tg (.Call (.Name "reversed" p) [a] [] pos) (iRevT X.K ta) := by
 intro pins s σ H R I h
 refine Call_ (gN I hg hm hv (PyProof.Rows.callWith_type1 (thn (ha pos pins s σ H _ I h) fun us s1 ⟨vs, H1, I1, r1, q1⟩ => ?_) hs rfl))
 obtain ⟨b, xs, e, hq, q⟩ := q1
 subst e
 obtain ⟨u, rfl, ru⟩ := vals1 r1
 cases ru
 obtain ⟨its, rv, pt, hz⟩ := I1.tuple hq
 have hl := rv.length
 have hs : sizeLine = 16777216 := sizeLine_eq
 have hll := line63
 refine jJ (n := (xs.length : Int)) F.tK F.sub_tuple_dict F.slot_tuple_getitem.lookup (by decide) (show s1.TypeIs (.ref b) "tuple" from pt.typeIs) (fun A prog w Q E q => len_tuple pt (by simp only [List.size_toArray]; omega) (by simp only [List.size_toArray]; rw [← hl]; exact q)) ?_
 have hit : (s1.heap.push (rvObj (.ref b) ((xs.length : Int) - 1))).IsRv s1.heap.objs.size (.ref b) ((xs.length : Int) - 1 - ((0 : Nat) : Int)) := ⟨_, Heap.get?_push_size _ rfl, rfl, by rw [show (xs.length : Int) - 1 - ((0 : Nat) : Int) = (xs.length : Int) - 1 by omega]; rfl⟩
 have I2 := I1.kept (h' := s1.heap.push (rvObj (.ref b) ((xs.length : Int) - 1))) (t' := s1.toks + 1 + 1) fun b o e => Heap.get?_push_of_some _ e
 refine eV (s := { s1 with heap := _, toks := _ }) hit ?_
 refine ⟨_, [s1.heap.objs.size], _, Irt X.K b xs.length, H1, rfl, I2, turn_revT b _ xs.length (by omega), hit, fun c hc => ?_, q⟩
 rw [List.mem_singleton] at hc
 subst hc
 exact I1.fpOk (Nat.le_refl _) (I1.hok.fresh (Nat.le_refl _))
def tJoinRev (to : TE) (ta : TA) : TE := fun σ H Q => to σ H fun x H1 => ∃ sep, x = .str sep ∧ sep.length ≤ 16 ∧ ta σ H1 fun vs H2 => ∃ y, vs = [.str y] ∧ y.cps.size ≤ 1000 ∧ Q (.str (Txt.join sep (revL y))) H2
theorem u0 {o a : Expr} {to : TE} {ta : TA} {p pos apos cpos : Pos} (hc : X.calm = true) (hg : Gl X "reversed") (hm : X.mg "reversed" = none) (hv : bootBuiltins "reversed" = some (.type "reversed")) (ho : PE X o to) (ha : PA X [a] ta)
  (hbase : attributeBase o "join" X.env (eval o X.env) = eval o X.env := by rfl)
  (hfew : ((backTo cpos (starEach [.Call (.Name "reversed" p) [a] [] pos] X.env)).all (fun x => !x.1) && (backToKw cpos (keywordEach [] X.env)).all (fun x => x.1.isSome)
   && decide ([Expr.Call (.Name "reversed" p) [a] [] pos].length + ([] : List Keyword).length + (if ([] : List Keyword).isEmpty then 0 else 1) < 30)) = true := by rfl)
  (hline : (apos.endLine == cpos.line) = true := by rfl) (hs1 : starEach [.Call (.Name "reversed" p) [a] [] pos] X.env = [(false, eval (.Call (.Name "reversed" p) [a] [] pos) X.env)] := by rfl) (hs : starEach [a] X.env = [(false, eval a X.env)] := by rfl) :
  PE X (.Call (.Attribute o "join" apos) [.Call (.Name "reversed" p) [a] [] pos] [] cpos) (tJoinRev to ta) := by
 intro pins s σ H Q I h
 refine wpAny_Call_method_late hbase hfew hline rfl (thn (ho pins s σ H _ I h) fun v s1 ⟨x, H1, I1, r1, sep, ex, hsep, q1⟩ => ?_)
 subst ex
 obtain ⟨ts, rfl⟩ := r1
 refine ⟨"str", "str.join", F.plainAttrs_str, F.slot_str_join, F.type_str_join, typeIs_str _ _ _, fun a e => (nomatch e), ?_⟩
 rw [hs1]
 refine Calls.callWith_builtin rfl (Calls.evalArgs_plain ?_)
 show wpAny _ _ (spliced ((false, eval (.Call (.Name "reversed" p) [a] [] pos) X.env) :: [])) _ _ s1
 refine Calls.spliced_cons ?_
 refine Call_ (gN I1 hg hm hv (PyProof.Rows.callWith_type1 (thn (ha pos pins s1 σ H1 _ I1 q1) fun us s2 ⟨vs, H2, I2, r2, q2⟩ => ?_) hs rfl))
 obtain ⟨y, e, hy, q⟩ := q2
 subst e
 obtain ⟨u, rfl, ru⟩ := vals1 r2
 obtain ⟨t, rfl⟩ := ru
 have hly : y.length = y.cps.size := rfl
 refine jJ (n := (y.cps.size : Int)) F.norev_str F.sub_str_dict F.slot_str_getitem.lookup (by decide) (typeIs_str _ _ _) (fun A prog w Q E q => len_str (by omega) q) ?_
 refine Calls.spliced_nil ?_
 refine join_rv (s := { s2 with heap := _, toks := _ }) (I.ok.hd hc) hsep hy (⟨_, Heap.get?_push_size _ rfl, rfl, rfl⟩) fun s' t' k hm => ?_
 have I3 : Inv X pins σ H2 { s2 with heap := s'.heap, toks := k } := I2.kept (t' := k) fun b o e => hm.heap b o (fun hb => by rw [List.mem_singleton] at hb; exact absurd hb (Nat.ne_of_lt (Heap.lt_size e))) (Heap.get?_push_of_some _ e)
 have es : ({ s' with toks := k } : Shared) = { s2 with heap := s'.heap, toks := k } := by
  obtain ⟨h', g', d', k', o'⟩ := s'
  have e1 := hm.gens
  have e2 := hm.drawn
  have e3 := hm.os
  simp only at e1 e2 e3
  rw [e1, e2, e3]
 rw [es]
 exact ⟨.str _, H2, I3, ⟨t', rfl⟩, q⟩
end
end L2
namespace Z
open PySem L2
section
variable {X : Cx} {Γ : Gm} {M : Mem} {k : D → Mem → Prop} {pos : Pos} {a b o tg : Expr} {rest : List Expr} {ki : List D → Mem → Prop}
theorem yd_revT {K : Fg} {G0 : Hp} {a : Addr} {vs : List V} {ds : List D} (s : SqT K G0 a vs) (dn : Dens K G0 ds vs) : YD K (Irt K a vs.length) ds.reverse G0 where
 go := fun i G H M sg rl h => by
  have hl := dn.len
  rw [List.length_reverse] at h
  exact ⟨vs, vs.reverse[i]'(by rw [List.length_reverse]; omega), R.seqT rl.same (R.seqT sg s), rfl, List.getElem?_eq_getElem _⟩
 yld := fun i G H M v H' sg rl h y => by
  obtain ⟨rfl, hy⟩ := y
  have hl := dn.len
  rw [List.length_reverse] at h
  have e := hy vs (R.seqT rl.same (R.seqT sg s))
  obtain ⟨d, hd, dd⟩ := dn.reverse.get' e
  exact ⟨G, d, Stp.refl rl, hd, dd.up sg⟩
 stop := fun i G H M sg rl h => by
  rw [List.length_reverse, dn.len] at h
  exact h
theorem gi_revT {p : Pos} (hm : X.mg "reversed" = none) (hv : bootBuiltins "reversed" = some (.type "reversed")) (h : GA X [a] Γ M fun ds M1 => ∃ es, ds = [.tup es] ∧ ki es.reverse M1) (hg : Gl X "reversed" := by rfl) (hs : starEach [a] X.env = [(false, eval a X.env)] := by rfl) :
  GI X tg (.Call (.Name "reversed" p) [a] [] pos) Γ M ki := fun σ G H Rr en rl q => by
 refine jK (pi_revT hg hm hv pUA hs) ?_
 refine h σ G H _ en rl fun vs G1 H1 ds M1 s1 e1 ⟨es, ed, h1⟩ => ?_
 subst ed
 obtain ⟨v, rfl, dv⟩ := dens1 e1
 obtain ⟨b, ws, ev, s, dn⟩ := dv.tup_
 exact ⟨b, ws, by rw [ev], R.seqT s1.rel.same s, q _ _ _ _ _ s1 (yd_revT s dn) h1⟩
theorem uJ {p apos cpos : Pos} (hm : X.mg "reversed" = none) (hv : bootBuiltins "reversed" = some (.type "reversed"))
  (h : GE X o Γ M fun d M1 => ∃ sep, d = .str sep ∧ sep.length ≤ 16 ∧ GA X [a] Γ M1 fun ds M2 => ∃ y, ds = [.str y] ∧ y.cps.size ≤ 1000 ∧ k (.str (Txt.join sep (revL y))) M2)
  (hc : X.calm = true := by rfl) (hg : Gl X "reversed" := by rfl)
  (hbase : attributeBase o "join" X.env (eval o X.env) = eval o X.env := by rfl)
  (hfew : ((backTo cpos (starEach [.Call (.Name "reversed" p) [a] [] pos] X.env)).all (fun x => !x.1) && (backToKw cpos (keywordEach [] X.env)).all (fun x => x.1.isSome)
   && decide ([Expr.Call (.Name "reversed" p) [a] [] pos].length + ([] : List Keyword).length + (if ([] : List Keyword).isEmpty then 0 else 1) < 30)) = true := by rfl)
  (hline : (apos.endLine == cpos.line) = true := by rfl) (hs1 : starEach [.Call (.Name "reversed" p) [a] [] pos] X.env = [(false, eval (.Call (.Name "reversed" p) [a] [] pos) X.env)] := by rfl) (hs : starEach [a] X.env = [(false, eval a X.env)] := by rfl) :
  GE X (.Call (.Attribute o "join" apos) [.Call (.Name "reversed" p) [a] [] pos] [] cpos) Γ M k := fun σ G H Q en rl q => by
 refine bW (u0 hc hg hm hv pU pUA hbase hfew hline hs1 hs) ?_
 refine h σ G H _ en rl fun v G1 H1 d M1 s1 e1 ⟨sep, ed, hsep, h1⟩ => ?_
 subst ed
 refine ⟨sep, e1.str_, hsep, ?_⟩
 refine h1 σ G1 H1 _ (en.up s1.gg) s1.rel fun vs G2 H2 ds M2 s2 e2 ⟨y, ed, hy, h2⟩ => ?_
 subst ed
 obtain ⟨u, rfl, du⟩ := dens1 e2
 exact ⟨y, by rw [du.str_], hy, q _ _ _ _ _ (s1.trans s2) fM h2⟩
end
end Z
namespace Q
open PySem L2 Z
theorem lowP_eq {t b : Int} (hb : 0 < b) : lowP t b = lowG t b := by
 unfold lowP lowG dv
 rw [if_neg (by omega)]
end Q
namespace Q
open PySem L2 Z
structure Tidy2 (K : List Str) (a b : Nat) : Prop where
 v : (K = [] ∧ a = 0 ∧ b = 0) ∨ (K ≠ [] ∧ R.chg K = List.range b ∧ R.chg (R.aF K) = List.range a ∧ R.Good (a - 1) K ∧ K.length + 1 = b ∧ 2 ≤ a ∧ 2 ≤ b)
theorem Tidy2.good {K : List Str} {a b : Nat} (h : Tidy2 K a b) : R.Good (a - 1) K ∧ K.length = b - 1 := by
 rcases h.v with ⟨rfl, rfl, rfl⟩ | ⟨_, _, _, g, l, _, _⟩
 ·exact ⟨fun z hz => (nomatch hz), rfl⟩
 ·exact ⟨g, by omega⟩
theorem uN {n : Nat} {zs : List Str} (g : R.Good n zs) : Tidy2 (R.bX zs) (R.chg (R.aF zs)).length (R.chg zs).length := by
 by_cases hr : R.aL zs = []
 ·obtain ⟨e1, e2⟩ := R.qW (fun z hz => (g z hz).1) hr
  refine ⟨.inl ⟨?_, ?_, ?_⟩⟩
  ·unfold R.bX; rw [e1] <;> first | rfl | (rw [e2]; rfl)
  ·first | (rw [e2]; rfl) | (rw [e1]; rfl)
  ·first | (rw [e1]; rfl) | (rw [e2]; rfl)
 ·obtain ⟨t1, t2, t3, t4, t5, t6⟩ := R.u4 g hr
  have hkl : (R.bX zs).length = (R.chg zs).length - 1 := by unfold R.bX; rw [List.length_map, List.length_dropLast]
  exact ⟨.inr ⟨t3, t1, t2, t4, by omega, t5, t6⟩⟩
theorem rG {K : List Str} {a b : Nat} (h : Tidy2 K a b) : Tidy2 (K.map R.revS) a b := by
 rcases h.v with ⟨rfl, rfl, rfl⟩ | ⟨hK, t1, t2, g, l, ha, hb⟩
 ·exact ⟨.inl ⟨rfl, rfl, rfl⟩⟩
 ·have hl : ∀ z ∈ K, z.length = a - 1 := fun z hz => (g z hz).1
  have lc := R.bO hl hK
  have hcn : R.aF K ≠ [] := fun e => by rw [e] at lc; simp at lc; omega
  refine ⟨.inr ⟨by simpa using hK, ?_, ?_, R.sI g, by rw [List.length_map]; exact l, ha, hb⟩⟩
  ·have := R.pC hl hK (by rw [t1, l])
   rw [this, List.length_map, l]
  ·rw [R.nS hl hK]
   have := R.nQ (n := K.length) (fun z hz => R.cJ z hz) hcn (by rw [t2, lc, show a - 1 + 1 = a by omega])
   rw [this, List.length_reverse, lc, show a - 1 + 1 = a by omega]
theorem uY {K : List Str} {a b : Nat} (h : Tidy2 K a b) : Tidy2 ((R.aF K).map R.revS) b a := by
 rcases h.v with ⟨rfl, rfl, rfl⟩ | ⟨hK, t1, t2, g, l, ha, hb⟩
 ·exact ⟨.inl ⟨rfl, rfl, rfl⟩⟩
 ·have hl : ∀ z ∈ K, z.length = a - 1 := fun z hz => (g z hz).1
  have lc := R.bO hl hK
  have hcn : R.aF K ≠ [] := fun e => by rw [e] at lc; simp at lc; omega
  have gc := R.iR g
  refine ⟨.inr ⟨by simpa using hcn, ?_, ?_, ?_, by rw [List.length_map, lc]; omega, hb, ha⟩⟩
  ·have := R.pC (n := K.length) (fun z hz => R.cJ z hz) hcn (by rw [t2, lc, show a - 1 + 1 = a by omega])
   rw [this, List.length_map, lc, show a - 1 + 1 = a by omega]
  ·rw [R.cols_turn hl hK (by omega)]
   have := R.nQ hl hK (by rw [t1, l])
   rw [this, List.length_reverse, l]
  ·rw [show b - 1 = K.length by omega]; exact R.sI gc
structure By (w : Nat) (p : Int × Int) : Prop where
 b0 : 0 < p.2
 b9 : p.2 ≤ 9
 a20 : p.1.natAbs ≤ 20
 a0 : w = 3 → 0 < p.1
end Q
namespace U
open PySem
def inY (ws us : List Rat) (K : List Str) (x y : Rat) : Bool := R.aY K (ix ws x) (ix us y)
theorem mD {n : Nat} {K : List Str} (h : ∀ z ∈ K, z.length = n) {a u : Int} (ha : (n : Int) ≤ a) : R.aY K a u = false := by
 cases e : R.aY K a u with
 | false => rfl
 | true =>
  obtain ⟨h1, h2, z, hz, hc⟩ := R.eI.mp e
  have := h z (List.mem_of_getElem? hz)
  have h3 : a.toNat < z.cps.toList.length := (List.getElem?_eq_some_iff.mp hc).1
  rw [Array.length_toList] at h3
  have h4 : z.cps.size = z.length := rfl
  omega
structure Steps (f : Rat → Rat → Bool) (xs ys : List Rat) : Prop where
 out : ∀ x y, ix xs x = -1 ∨ ix xs x = (xs.length : Int) - 1 ∨ ix ys y = -1 ∨ ix ys y = (ys.length : Int) - 1 → f x y = false
 at_ : ∀ x y (i j : Nat) (hi : i < xs.length) (hj : j < ys.length), ix xs x = i → ix ys y = j → f x y = f xs[i] ys[j]
theorem inY_steps {ws us xs ys : List Rat} {K : List Str} (u : Up ws) (u' : Up us) (hK : ∀ z ∈ K, z.length = ws.length - 1) (lK : K.length = us.length - 1) (v : Up xs) (v' : Up ys) (hs : ∀ w ∈ ws, w ∈ xs) (hs' : ∀ w ∈ us, w ∈ ys) : Steps (inY ws us K) xs ys where
 out x y h := by
  unfold inY
  rcases h with h | h | h | h
  ·rw [ix_low v hs h]; exact R.c5 (by omega)
  ·rw [ix_high v hs h]
   cases ws with
   | nil => exact R.c5 (by simp)
   | cons w r => exact mD hK (by simp)
  ·rw [ix_low v' hs' h]; exact R.eH (by omega)
  ·rw [ix_high v' hs' h]
   cases us with
   | nil => exact R.eH (by simp)
   | cons w r => exact R.eS (by rw [lK]; simp)
 at_ x y i j hi hj e e' := by
  unfold inY
  rw [ix_fine u v hs hi e, ix_fine u' v' hs' hj e']
theorem Steps.pick {f g : Rat → Rat → Bool} {xs ys : List Rat} (hf : Steps f xs ys) (hg : Steps g xs ys) (p : Bool → Bool → Bool) (h0 : p false false = false) : Steps (fun x y => p (f x y) (g x y)) xs ys :=
 ⟨fun x y h => by rw [hf.out x y h, hg.out x y h]; exact h0, fun x y i j hi hj e e' => by rw [hf.at_ x y i j hi hj e e', hg.at_ x y i j hi hj e e']⟩
def dC (f : Rat → Rat → Bool) (xs ys : List Rat) : List Str := ys.dropLast.map fun y => R.ofL (xs.dropLast.map fun x => R.sg (f x y))
theorem fH (f : Rat → Rat → Bool) (xs ys : List Rat) : (dC f xs ys).length = ys.length - 1 := by unfold dC; rw [List.length_map, List.length_dropLast]
theorem d9 (f : Rat → Rat → Bool) (xs ys : List Rat) : R.Good (xs.length - 1) (dC f xs ys) := fun z hz => by
 unfold dC at hz
 obtain ⟨y, _, rfl⟩ := List.mem_map.mp hz
 refine ⟨by rw [R.kO, List.length_map, List.length_dropLast], ?_⟩
 rw [List.all_eq_true]
 intro c hc
 have hc' : c ∈ xs.dropLast.map fun x => R.sg (f x y) := hc
 obtain ⟨q, _, rfl⟩ := List.mem_map.mp hc'
 unfold R.sg; split <;> rfl
theorem gridF_at {f : Rat → Rat → Bool} {xs ys : List Rat} {i j : Nat} (hi : i + 1 < xs.length) (hj : j + 1 < ys.length) : R.aY (dC f xs ys) (i : Int) (j : Int) = f xs[i] ys[j] := by
 have hj' : j < ys.dropLast.length := by rw [List.length_dropLast]; omega
 have hi' : i < xs.dropLast.length := by rw [List.length_dropLast]; omega
 have e1 : (dC f xs ys)[((j : Int)).toNat]? = some (R.ofL (xs.dropLast.map fun x => R.sg (f x ys[j]))) := by
  rw [Int.toNat_natCast]; unfold dC
  rw [List.getElem?_map, List.getElem?_eq_getElem hj', List.getElem_dropLast]; rfl
 have e2 : (R.ofL (xs.dropLast.map fun x => R.sg (f x ys[j]))).cps.toList[((i : Int)).toNat]? = some (R.sg (f xs[i] ys[j])) := by
  rw [Int.toNat_natCast]
  show (xs.dropLast.map fun x => R.sg (f x ys[j]))[i]? = _
  rw [List.getElem?_map, List.getElem?_eq_getElem hi', List.getElem_dropLast]; rfl
 rw [R.fI (by omega) (by omega) e1 e2]
 unfold R.sg
 cases f xs[i] ys[j] <;> rfl
theorem grid_in {f : Rat → Rat → Bool} {xs ys : List Rat} (h : Steps f xs ys) (x y : Rat) : R.aY (dC f xs ys) (ix xs x) (ix ys y) = f x y := by
 have a1 := ix_ge xs x
 have a2 := ix_lt xs x
 have b1 := ix_ge ys y
 have b2 := ix_lt ys y
 by_cases ha : ix xs x = -1
 ·rw [h.out x y (.inl ha), ha]; exact R.c5 (by omega)
 by_cases ha' : ix xs x = (xs.length : Int) - 1
 ·rw [h.out x y (.inr (.inl ha')), ha']
  exact mD (fun z hz => (d9 f xs ys z hz).1) (by omega)
 by_cases hb : ix ys y = -1
 ·rw [h.out x y (.inr (.inr (.inl hb))), hb]; exact R.eH (by omega)
 by_cases hb' : ix ys y = (ys.length : Int) - 1
 ·rw [h.out x y (.inr (.inr (.inr hb'))), hb']
  exact R.eS (by rw [fH]; omega)
 obtain ⟨i, hi⟩ : ∃ i : Nat, ix xs x = i := ⟨(ix xs x).toNat, by omega⟩
 obtain ⟨j, hj⟩ : ∃ j : Nat, ix ys y = j := ⟨(ix ys y).toNat, by omega⟩
 rw [h.at_ x y i j (by omega) (by omega) hi hj, hi, hj]
 exact gridF_at (by omega) (by omega)
theorem tidy_in {xs ys : List Rat} {zs : List Str} (u : Up xs) (v : Up ys) (g : R.Good (xs.length - 1) zs) (hz : zs.length = ys.length - 1) (x y : Rat) :
  inY (f7 xs (R.chg (R.aF zs))) (f7 ys (R.chg zs)) (R.bX zs) x y = R.aY zs (ix xs x) (ix ys y) := by
 unfold inY
 rw [ix_pick u (Q.eO fun z hz => (g z hz).1), ix_pick v (Q.eQ hz), R.cell_bd g]
theorem row_sg {n : Nat} {K : List Str} (g : R.Good n K) {j : Nat} {z : Str} (hz : K[j]? = some z) : z = R.ofL ((List.range n).map fun (c : Nat) => R.sg (R.aY K (c : Int) (j : Int))) := by
 obtain ⟨hl, hs⟩ := g z (List.mem_of_getElem? hz)
 have e : z.cps.toList = (List.range n).map fun (c : Nat) => R.sg (R.aY K (c : Int) (j : Int)) := by
  refine List.ext_getElem? fun c => ?_
  rw [List.getElem?_map]
  by_cases hc : c < n
  ·rw [List.getElem?_range hc, R.cV (by omega)]
   have h2 := R.nG g (List.mem_of_getElem? hz) hc
   rw [Option.map_some, R.fI (z := z) (c := R.atS z c) (by omega) (by omega) (by rw [Int.toNat_natCast]; exact hz) (by rw [Int.toNat_natCast]; exact R.cV (by omega))]
   unfold R.sg
   rcases h2 with h2 | h2 <;> rw [h2] <;> rfl
  ·rw [List.getElem?_eq_none (by rw [Array.length_toList]; have : z.cps.size = z.length := rfl; omega), List.getElem?_eq_none (by simpa using hc)]; rfl
 unfold R.ofL
 rw [← e]
theorem rows_eq {n : Nat} {K K' : List Str} (g : R.Good n K) (g' : R.Good n K') (hl : K.length = K'.length) (h : ∀ a u : Nat, a < n → u < K.length → R.aY K (a : Int) (u : Int) = R.aY K' (a : Int) (u : Int)) : K = K' := by
 refine List.ext_getElem? fun j => ?_
 by_cases hj : j < K.length
 ·have e1 : K[j]? = some K[j] := List.getElem?_eq_getElem hj
  have e2 : K'[j]? = some (K'[j]'(by omega)) := List.getElem?_eq_getElem (by omega)
  rw [e1, e2, row_sg g e1, row_sg g' e2]
  congr 2
  refine List.map_congr_left fun c hc => ?_
  rw [h c j (List.mem_range.mp hc) hj]
 ·rw [List.getElem?_eq_none (by omega), List.getElem?_eq_none (by omega)]
theorem frow {n : Nat} {K : List Str} (g : R.Good n K) (hK : K ≠ []) {j : Nat} (hj : j ≤ K.length + 1) : (R.framed K)[j]? = some (R.ofL ((List.range n).map fun (c : Nat) => R.sg (R.aY K (c : Int) ((j : Int) - 1)))) := by
 have hw := R.b7 (fun z hz => (g z hz).1) hK
 have hd : ∀ u : Int, (∀ c : Nat, R.aY K (c : Int) u = false) → R.dots n = R.ofL ((List.range n).map fun (c : Nat) => R.sg (R.aY K (c : Int) u)) := fun u hu => by
  unfold R.dots
  congr 1
  refine (List.eq_replicate_iff.mpr ⟨by simp, fun b hb => ?_⟩).symm
  obtain ⟨c, _, rfl⟩ := List.mem_map.mp hb
  rw [hu c]; rfl
 rcases Nat.eq_zero_or_pos j with rfl | hp
 ·rw [R.eE, hw, ← hd _ fun c => R.eH (by omega)]
 ·obtain ⟨k, rfl⟩ : ∃ k, j = k + 1 := ⟨j - 1, by omega⟩
  rw [show (((k + 1 : Nat) : Int) - 1) = (k : Int) by omega]
  by_cases hk : k < K.length
  ·rw [R.cA hk, List.getElem?_eq_getElem hk, ← row_sg g (List.getElem?_eq_getElem hk)]
  ·have e : k = K.length := by omega
   rw [e, R.c6, hw, ← hd _ fun c => R.eS (by omega)]
theorem fcol {n : Nat} {K : List Str} (g : R.Good n K) (hK : K ≠ []) (hn : 0 < n) {i : Nat} (hi : i ≤ n + 1) : (R.framed (R.aF K))[i]? = some (R.ofL ((List.range K.length).map fun (r : Nat) => R.sg (R.aY K ((i : Int) - 1) (r : Int)))) := by
 rw [R.fW (fun z hz => (g z hz).1) hK hn hi]
 congr 2
 refine List.ext_getElem? fun r => ?_
 rw [List.getElem?_map, List.getElem?_map]
 by_cases hr : r < K.length
 ·rw [List.getElem?_eq_getElem hr, List.getElem?_range hr, Option.map_some, Option.map_some]
  congr 1
  have e1 : K[r]? = some K[r] := List.getElem?_eq_getElem hr
  have hl := (g _ (List.getElem_mem hr)).1
  unfold R.cellF
  split
  ·rename_i h
   rcases h with rfl | rfl
   ·rw [R.c5 (by omega)]; rfl
   ·rw [mD (fun z hz => (g z hz).1) (by omega)]; rfl
  ·rename_i h
   have hi' : i - 1 < n := by omega
   have h2 := R.nG g (List.getElem_mem hr) hi'
   rw [show ((i : Int) - 1) = ((i - 1 : Nat) : Int) by omega, R.fI (z := K[r]) (c := R.atS K[r] (i - 1)) (by omega) (by omega) (by rw [Int.toNat_natCast]; exact e1) (by rw [Int.toNat_natCast]; exact R.cV (by omega))]
   unfold R.sg
   rcases h2 with h2 | h2 <;> rw [h2] <;> rfl
 ·rw [List.getElem?_eq_none (by omega), List.getElem?_eq_none (by simpa using hr)]; rfl
theorem ofL_ne {n : Nat} {f g : Nat → Bool} (h : some (R.ofL ((List.range n).map fun c => R.sg (f c))) ≠ some (R.ofL ((List.range n).map fun c => R.sg (g c)))) : ∃ c, c < n ∧ f c ≠ g c := by
 refine Classical.byContradiction fun q => h ?_
 congr 2
 refine List.map_congr_left fun c hc => ?_
 have := List.mem_range.mp hc
 have e : f c = g c := Classical.byContradiction fun z => q ⟨c, this, z⟩
 rw [e]
theorem sF {K : List Str} {a b : Nat} (T : Q.Tidy2 K a b) {i : Nat} (hi : i < a) : ∃ j : Nat, j + 1 < b ∧ R.aY K ((i : Int) - 1) (j : Int) ≠ R.aY K (i : Int) (j : Int) := by
 rcases T.v with ⟨_, rfl, _⟩ | ⟨hK, t1, t2, g, l, ha, hb⟩
 ·omega
 ·have hm : i ∈ R.chg (R.aF K) := by rw [t2]; exact List.mem_range.mpr hi
  have lc := R.bO (fun z hz => (g z hz).1) hK
  have hcn : R.aF K ≠ [] := fun e => by rw [e] at lc; simp at lc; omega
  obtain ⟨h1, h2⟩ := (R.dG hcn).mp hm
  rw [fcol g hK (by omega) (by omega), fcol g hK (by omega) (by omega)] at h2
  obtain ⟨c, hc, hne⟩ := ofL_ne h2
  refine ⟨c, by omega, ?_⟩
  rwa [show (((i + 1 : Nat) : Int) - 1) = (i : Int) by omega] at hne
theorem jump_row {K : List Str} {a b : Nat} (T : Q.Tidy2 K a b) {j : Nat} (hj : j < b) : ∃ i : Nat, i + 1 < a ∧ R.aY K (i : Int) ((j : Int) - 1) ≠ R.aY K (i : Int) (j : Int) := by
 rcases T.v with ⟨_, _, rfl⟩ | ⟨hK, t1, t2, g, l, ha, hb⟩
 ·omega
 ·have hm : j ∈ R.chg K := by rw [t1]; exact List.mem_range.mpr hj
  obtain ⟨h1, h2⟩ := (R.dG hK).mp hm
  rw [frow g hK (by omega), frow g hK (by omega)] at h2
  obtain ⟨c, hc, hne⟩ := ofL_ne h2
  refine ⟨c, by omega, ?_⟩
  rwa [show (((j + 1 : Nat) : Int) - 1) = (j : Int) by omega] at hne
def JX (f : Rat → Rat → Bool) (w : Rat) : Prop := ∃ y, ∀ x, x < w → ∃ x', x ≤ x' ∧ x' < w ∧ f x' y ≠ f w y
theorem mB {ws : List Rat} (u : Up ws) {i : Nat} (hi : i < ws.length) {x : Rat} (hx : x < ws[i]) (h : ∀ k (hk : k < ws.length), k < i → ws[k] ≤ x) : ix ws x = (i : Int) - 1 :=
 ix_eq u (by omega) (by omega) fun k hk => by
  constructor
  ·intro h1
   have := (up_lt u hk hi).mp (by grind)
   omega
  ·intro h1
   exact h k hk (by omega)
theorem before {ws : List Rat} (u : Up ws) {i : Nat} (hi : i < ws.length) {x : Rat} (hx : x < ws[i]) : ∃ x', x ≤ x' ∧ x' < ws[i] ∧ ix ws x' = (i : Int) - 1 := by
 by_cases h0 : i = 0
 ·subst h0
  exact ⟨x, by grind, hx, mB u hi hx fun k _ q => absurd q (Nat.not_lt_zero _)⟩
 ·have hp : i - 1 < ws.length := by omega
  have hl := (up_lt u hp hi).mpr (by omega)
  have le : ∀ k (hk : k < ws.length), k < i → ws[k] ≤ ws[i - 1] := fun k hk q => (up_le u hk hp).mpr (by omega)
  by_cases hm : x ≤ ws[i - 1]
  ·exact ⟨ws[i - 1], hm, hl, mB u hi hl le⟩
  ·exact ⟨x, by grind, hx, mB u hi hx fun k hk q => by have := le k hk q; grind⟩
theorem still {ws : List Rat} (u : Up ws) {w : Rat} (hw : w ∉ ws) : ∃ x, x < w ∧ ∀ x', x ≤ x' → x' < w → ix ws x' = ix ws w := by
 have a := ix_ge ws w
 have b := ix_lt ws w
 by_cases hk : ix ws w = -1
 ·refine ⟨w - 1, by grind, fun x' h1 h2 => ?_⟩
  rw [hk]
  refine ix_eq u (by omega) (by omega) fun i hi => ?_
  constructor
  ·intro h; have := (fS (x := w) u hi).mp (by grind); omega
  ·intro h; omega
 ·have hi : (ix ws w).toNat < ws.length := by omega
  have hle := (fS (x := w) u hi).mpr (by omega)
  have hne : ws[(ix ws w).toNat] ≠ w := fun e => hw (e ▸ List.getElem_mem hi)
  refine ⟨ws[(ix ws w).toNat], by grind, fun x' h1 h2 => ?_⟩
  refine ix_eq u a b fun i hi' => ?_
  constructor
  ·intro h; exact (fS (x := w) u hi').mp (by grind)
  ·intro h
   have := (up_le u hi' hi).mpr (by omega)
   grind
theorem line_x {ws us : List Rat} {K : List Str} (u : Up ws) (u' : Up us) (T : Q.Tidy2 K ws.length us.length) (w : Rat) : w ∈ ws ↔ JX (inY ws us K) w := by
 constructor
 ·intro hw
  obtain ⟨i, hi, rfl⟩ := List.getElem_of_mem hw
  obtain ⟨j, hj, hne⟩ := sF T hi
  refine ⟨us[j], fun x hx => ?_⟩
  obtain ⟨x', h1, h2, h3⟩ := before u hi hx
  refine ⟨x', h1, h2, ?_⟩
  unfold inY
  rw [h3, eP u hi, eP u' (by omega)]
  exact hne
 ·rintro ⟨y, h⟩
  refine Classical.byContradiction fun hw => ?_
  obtain ⟨x, hx, hs⟩ := still u hw
  obtain ⟨x', h1, h2, h3⟩ := h x hx
  unfold inY at h3
  rw [hs x' h1 h2] at h3
  exact h3 rfl
theorem line_y {ws us : List Rat} {K : List Str} (u : Up ws) (u' : Up us) (T : Q.Tidy2 K ws.length us.length) (w : Rat) : w ∈ us ↔ JX (fun y x => inY ws us K x y) w := by
 constructor
 ·intro hw
  obtain ⟨j, hj, rfl⟩ := List.getElem_of_mem hw
  obtain ⟨i, hi, hne⟩ := jump_row T hj
  refine ⟨ws[i], fun x hx => ?_⟩
  obtain ⟨x', h1, h2, h3⟩ := before u' hj hx
  refine ⟨x', h1, h2, ?_⟩
  unfold inY
  dsimp only
  rw [h3, eP u' hj, eP u (by omega)]
  exact hne
 ·rintro ⟨x, h⟩
  refine Classical.byContradiction fun hw => ?_
  obtain ⟨y, hy, hs⟩ := still u' hw
  obtain ⟨y', h1, h2, h3⟩ := h y hy
  unfold inY at h3
  dsimp only at h3
  rw [hs y' h1 h2] at h3
  exact h3 rfl
theorem yard_ext {ws us ws' us' : List Rat} {K K' : List Str} (u : Up ws) (v : Up us) (T : Q.Tidy2 K ws.length us.length) (u' : Up ws') (v' : Up us') (T' : Q.Tidy2 K' ws'.length us'.length)
  (h : ∀ x y, inY ws us K x y = inY ws' us' K' x y) : ws = ws' ∧ us = us' ∧ K = K' := by
 have hf : inY ws us K = inY ws' us' K' := funext fun x => funext fun y => h x y
 have e1 : ws = ws' := up_ext u u' fun x => by rw [line_x u v T, line_x u' v' T', hf]
 have e2 : us = us' := up_ext v v' fun x => by rw [line_y u v T, line_y u' v' T', hf]
 subst e1 e2
 refine ⟨rfl, rfl, ?_⟩
 obtain ⟨g, l⟩ := T.good
 obtain ⟨g', l'⟩ := T'.good
 refine rows_eq g g' (by omega) fun a b ha hb => ?_
 have := h ws[a] us[b]
 unfold inY at this
 rwa [eP u (by omega), eP v (by omega)] at this
end U
namespace U
open PySem
def aS : List Rat → List Rat → List Rat
 | [], ys => ys
 | x :: xs, [] => x :: xs
 | x :: xs, y :: ys => if y < x then y :: aS (x :: xs) ys else if x = y then x :: aS xs ys else x :: aS xs (y :: ys)
termination_by xs ys => xs.length + ys.length
theorem sL : ∀ xs, aS xs [] = xs
 | [] => by rw [aS]
 | x :: xs => by rw [aS]
theorem sO (ys : List Rat) : aS [] ys = ys := by rw [aS]
theorem cD : ∀ (xs ys : List Rat) (a : Rat), a ∈ aS xs ys ↔ a ∈ xs ∨ a ∈ ys
 | [], ys, a => by rw [aS]; simp
 | x :: xs, [], a => by rw [aS]; simp
 | x :: xs, y :: ys, a => by
  rw [aS]
  split
  ·rw [List.mem_cons, cD (x :: xs) ys a, List.mem_cons (a := a) (b := y)]
   constructor
   ·rintro (h | h | h)
    ·exact .inr (.inl h)
    ·exact .inl h
    ·exact .inr (.inr h)
   ·rintro (h | h | h)
    ·exact .inr (.inl h)
    ·exact .inl h
    ·exact .inr (.inr h)
  ·split
   ·rename_i h1 h2
    subst h2
    rw [List.mem_cons, cD xs ys a, List.mem_cons, List.mem_cons]
    constructor
    ·rintro (h | h | h)
     ·exact .inl (.inl h)
     ·exact .inl (.inr h)
     ·exact .inr (.inr h)
    ·rintro ((h | h) | h | h)
     ·exact .inl h
     ·exact .inr (.inl h)
     ·exact .inl h
     ·exact .inr (.inr h)
   ·rw [List.mem_cons, cD xs (y :: ys) a, List.mem_cons (a := a) (b := x)]
    constructor
    ·rintro (h | h | h)
     ·exact .inl (.inl h)
     ·exact .inl (.inr h)
     ·exact .inr h
    ·rintro ((h | h) | h)
     ·exact .inl h
     ·exact .inr (.inl h)
     ·exact .inr (.inr h)
termination_by xs ys => xs.length + ys.length
theorem b5 : ∀ {xs ys : List Rat}, xs.Pairwise (· < ·) → ys.Pairwise (· < ·) → (aS xs ys).Pairwise (· < ·)
 | [], ys, _, hy => by rw [aS]; exact hy
 | x :: xs, [], hx, _ => by rw [aS]; exact hx
 | x :: xs, y :: ys, hx, hy => by
  obtain ⟨x1, x2⟩ := List.pairwise_cons.mp hx
  obtain ⟨y1, y2⟩ := List.pairwise_cons.mp hy
  rw [aS]
  split
  ·rename_i h
   refine List.pairwise_cons.mpr ⟨fun a ha => ?_, b5 hx y2⟩
   rcases (cD _ _ _).mp ha with h1 | h1
   ·rcases List.mem_cons.mp h1 with rfl | h1
    ·exact h
    ·have := x1 a h1; grind
   ·exact y1 a h1
  ·split
   ·rename_i h1 h2
    subst h2
    refine List.pairwise_cons.mpr ⟨fun a ha => ?_, b5 x2 y2⟩
    rcases (cD _ _ _).mp ha with h1 | h1
    ·exact x1 a h1
    ·exact y1 a h1
   ·rename_i h1 h2
    refine List.pairwise_cons.mpr ⟨fun a ha => ?_, b5 x2 hy⟩
    rcases (cD _ _ _).mp ha with h3 | h3
    ·exact x1 a h3
    ·rcases List.mem_cons.mp h3 with rfl | h3
     ·grind
     ·have := y1 a h3; grind
termination_by xs ys => xs.length + ys.length
theorem fP : ∀ (xs ys : List Rat), (aS xs ys).length ≤ xs.length + ys.length
 | [], ys => by rw [aS]; simp
 | x :: xs, [] => by rw [aS]; simp
 | x :: xs, y :: ys => by
  rw [aS]
  split
  ·have := fP (x :: xs) ys; simp only [List.length_cons] at *; omega
  ·split
   ·have := fP xs ys; simp only [List.length_cons] at *; omega
   ·have := fP xs (y :: ys); simp only [List.length_cons] at *; omega
termination_by xs ys => xs.length + ys.length
theorem oM {xs ys : List Rat} {f s : Nat} (hf : f < xs.length) (hs : s < ys.length) :
  aS (xs.drop f) (ys.drop s) = (if ys.getD s 0 < xs.getD f 0 then ys.getD s 0 else xs.getD f 0) :: aS (xs.drop (f + if xs.getD f 0 = (if ys.getD s 0 < xs.getD f 0 then ys.getD s 0 else xs.getD f 0) then 1 else 0)) (ys.drop (s + if ys.getD s 0 = (if ys.getD s 0 < xs.getD f 0 then ys.getD s 0 else xs.getD f 0) then 1 else 0)) := by
 have ex : xs.drop f = xs.getD f 0 :: xs.drop (f + 1) := by rw [List.drop_eq_getElem_cons hf, List.getD_eq_getElem?_getD, List.getElem?_eq_getElem hf]; rfl
 have ey : ys.drop s = ys.getD s 0 :: ys.drop (s + 1) := by rw [List.drop_eq_getElem_cons hs, List.getD_eq_getElem?_getD, List.getElem?_eq_getElem hs]; rfl
 generalize xs.getD f 0 = x at *
 generalize ys.getD s 0 = y at *
 conv => lhs; rw [ex, ey, aS]
 by_cases h : y < x
 ·rw [if_pos h, if_pos h, if_neg (show ¬ x = y by grind), if_pos rfl]
  show _ = y :: aS (xs.drop f) (ys.drop (s + 1))
  rw [ex]
 ·rw [if_neg h, if_neg h, if_pos rfl]
  by_cases h2 : x = y
  ·rw [if_pos h2, if_pos h2.symm]
  ·rw [if_neg h2, if_neg (fun e => h2 e.symm)]
   show _ = x :: aS (xs.drop (f + 1)) (ys.drop s)
   rw [ey]
structure Yd where
 ws : List Rat
 us : List Rat
 K : List Str
 uw : Up ws
 uu : Up us
 T : Q.Tidy2 K ws.length us.length
def Yd.has (A : Yd) (x y : Rat) : Bool := inY A.ws A.us A.K x y
theorem Yd.ext' {A B : Yd} (h : ∀ x y, A.has x y = B.has x y) : A = B := by
 obtain ⟨ws, us, K, uw, uu, T⟩ := A
 obtain ⟨ws', us', K', uw', uu', T'⟩ := B
 obtain ⟨rfl, rfl, rfl⟩ := yard_ext uw uu T uw' uu' T' h
 rfl
theorem Yd.ext_iff' {A B : Yd} : A = B ↔ ∀ x y, A.has x y = B.has x y := ⟨fun e => by subst e; intros; rfl, Yd.ext'⟩
theorem Yd.wide (A : Yd) : (∀ z ∈ A.K, z.length = A.ws.length - 1) ∧ A.K.length = A.us.length - 1 := ⟨fun z hz => (A.T.good.1 z hz).1, A.T.good.2⟩
theorem Yd.steps (A : Yd) {xs ys : List Rat} (v : Up xs) (v' : Up ys) (hs : ∀ w ∈ A.ws, w ∈ xs) (hs' : ∀ w ∈ A.us, w ∈ ys) : Steps A.has xs ys := inY_steps A.uw A.uu A.wide.1 A.wide.2 v v' hs hs'
def Yd.ofG (xs ys : List Rat) (zs : List Str) (u : Up xs) (v : Up ys) (g : R.Good (xs.length - 1) zs) (hz : zs.length = ys.length - 1) : Yd where
 ws := f7 xs (R.chg (R.aF zs))
 us := f7 ys (R.chg zs)
 K := R.bX zs
 uw := tD u (R.bV _) (Q.eO fun z hz => (g z hz).1)
 uu := tD v (R.bV _) (Q.eQ hz)
 T := by
  have := Q.uN g
  unfold f7
  rw [List.length_map, List.length_map]
  exact this
theorem Yd.ofG_has {xs ys : List Rat} {zs : List Str} (u : Up xs) (v : Up ys) (g : R.Good (xs.length - 1) zs) (hz : zs.length = ys.length - 1) (x y : Rat) : (Yd.ofG xs ys zs u v g hz).has x y = R.aY zs (ix xs x) (ix ys y) := tidy_in u v g hz x y
theorem Yd.ofG_ws {xs ys : List Rat} {zs : List Str} (u : Up xs) (v : Up ys) (g : R.Good (xs.length - 1) zs) (hz : zs.length = ys.length - 1) : (∀ w ∈ (Yd.ofG xs ys zs u v g hz).ws, w ∈ xs) ∧ ∀ w ∈ (Yd.ofG xs ys zs u v g hz).us, w ∈ ys :=
 ⟨qL (Q.eO fun z hz => (g z hz).1), qL (Q.eQ hz)⟩
def Yd.ofF (f : Rat → Rat → Bool) (xs ys : List Rat) (u : Up xs) (v : Up ys) : Yd := Yd.ofG xs ys (dC f xs ys) u v (d9 f xs ys) (fH f xs ys)
theorem Yd.ofF_has {f : Rat → Rat → Bool} {xs ys : List Rat} (u : Up xs) (v : Up ys) (h : Steps f xs ys) (x y : Rat) : (Yd.ofF f xs ys u v).has x y = f x y := by
 unfold Yd.ofF
 rw [Yd.ofG_has, grid_in h]
theorem mgl {ws vs : List Rat} : ∀ w ∈ ws, w ∈ aS ws vs := fun w hw => (cD _ _ _).mpr (.inl hw)
theorem mgr {ws vs : List Rat} : ∀ w ∈ vs, w ∈ aS ws vs := fun w hw => (cD _ _ _).mpr (.inr hw)
def Yd.op (p : Bool → Bool → Bool) (A B : Yd) : Yd := Yd.ofF (fun x y => p (A.has x y) (B.has x y)) (aS A.ws B.ws) (aS A.us B.us) (b5 A.uw B.uw) (b5 A.uu B.uu)
theorem Yd.op_has {p : Bool → Bool → Bool} (h0 : p false false = false) (A B : Yd) (x y : Rat) : (Yd.op p A B).has x y = p (A.has x y) (B.has x y) :=
 Yd.ofF_has _ _ ((A.steps (b5 A.uw B.uw) (b5 A.uu B.uu) mgl mgl).pick (B.steps (b5 A.uw B.uw) (b5 A.uu B.uu) mgr mgr) p h0) x y
structure On (Sx Sy : List Rat) (A : Yd) : Prop where
 x : ∀ w ∈ A.ws, w ∈ Sx
 y : ∀ w ∈ A.us, w ∈ Sy
theorem On.op {Sx Sy : List Rat} {A B : Yd} (a : On Sx Sy A) (b : On Sx Sy B) (p : Bool → Bool → Bool) : On Sx Sy (Yd.op p A B) where
 x w hw := by
  rcases (cD _ _ _).mp ((Yd.ofG_ws (b5 A.uw B.uw) (b5 A.uu B.uu) (d9 _ _ _) (fH _ _ _)).1 w hw) with h | h
  ·exact a.x w h
  ·exact b.x w h
 y w hw := by
  rcases (cD _ _ _).mp ((Yd.ofG_ws (b5 A.uw B.uw) (b5 A.uu B.uu) (d9 _ _ _) (fH _ _ _)).2 w hw) with h | h
  ·exact a.y w h
  ·exact b.y w h
theorem up_nodup {ws : List Rat} (u : Up ws) : ws.Nodup := u.imp fun h => by grind
theorem kH {ws S : List Rat} (u : Up ws) (h : ∀ w ∈ ws, w ∈ S) : ws.length ≤ S.length := (up_nodup u).length_le_of_subset h
theorem Yd.void_iff (A : Yd) : A.K = [] ↔ ∀ x y, A.has x y = false := by
 constructor
 ·intro h x y
  unfold Yd.has inY
  rw [h]
  cases e : R.aY [] (ix A.ws x) (ix A.us y) with
  | false => rfl
  | true => obtain ⟨_, _, z, hz, _⟩ := R.eI.mp e; cases hz
 ·intro h
  rcases A.T.v with ⟨e, _, _⟩ | ⟨hK, t1, t2, g, l, ha, hb⟩
  ·exact e
  ·exfalso
   obtain ⟨j, hj, hne⟩ := sF A.T (i := 0) (by omega)
   have := h (A.ws[0]'(by omega)) (A.us[j]'(by omega))
   unfold Yd.has inY at this
   rw [eP A.uw, eP A.uu] at this
   rw [R.c5 (by omega)] at hne
   exact hne this.symm
def Yd.void : Yd := ⟨[], [], [], .nil, .nil, ⟨.inl ⟨rfl, rfl, rfl⟩⟩⟩
theorem Yd.void_has (x y : Rat) : Yd.void.has x y = false := (Yd.void_iff _).mp rfl x y
end U
namespace Q
open PySem L2 Z
theorem pair_eqP (p v : Int × Int) : eqD (dL p) (dL v) = decide (p = v) := by
 obtain ⟨a, b⟩ := v
 obtain ⟨x, y⟩ := p
 unfold dL
 simp only [eqD, eqDs, Bool.and_true]
 by_cases h1 : x = a
 ·by_cases h2 : y = b
  ·rw [decide_eq_true (by rw [h1, h2])]; simp [h1, h2]
  ·rw [decide_eq_false (by intro e; injection e with e1 e2; exact h2 e2)]; simp [h2]
 ·rw [decide_eq_false (by intro e; injection e with e1 e2; exact h1 e1)]; simp [h1]
def l9 : Ct := fun ds M k => ∃ z : Str, ds = [.str z] ∧ z.length ≤ 1000 ∧ k (.str (R.revS z)) M
def cTPaces : Ct := fun ds M k => ∃ a b c d : Int, ds = [.tup [.int a, .int b, .int c, .int d]] ∧ k (.tup [.int d, .int a, .int b, .int c]) M
def cMPaces : Ct := fun ds M k => ∃ a b c d : Int, ds = [.tup [.int a, .int b, .int c, .int d]] ∧ k (.tup [.int c, .int b, .int a, .int d]) M
theorem join_rev (z : Str) : PySem.Txt.join Str.empty (revL z) = R.revS z := tI z.cps.toList.reverse
end Q
namespace Q
open PySem L2 Z
end Q
namespace Q
open PySem L2 Z
theorem rT {α : Type} (l : List α) : (cutD l (some 1) none).length = l.length - 1 := by rw [u3, List.length_drop]
theorem pN {α : Type} {l : List α} (h : l.length = 4) : ∃ a b c d, l = [a, b, c, d] := match l, h with | [a, b, c, d], _ => ⟨a, b, c, d, rfl⟩
end Q
namespace Q
open PySem L2 Z
end Q
namespace PySem
open Builtin
structure ZAp (z TI TO i1 i2 : Addr) (fp1 fp2 : List Addr) : Prop where
 TIz : TI ≠ z
 TOz : TO ≠ z
 i1z : i1 ≠ z
 i2z : i2 ≠ z
 TOi1 : TO ≠ i1
 TOi2 : TO ≠ i2
 i12 : i1 ≠ i2
 f1 : ∀ b ∈ fp1, b ≠ z ∧ b ≠ TO ∧ b ≠ i2
 f2 : ∀ b ∈ fp2, b ≠ z ∧ b ≠ TO ∧ b ≠ i1
section
variable {prog : Program} {w : World} {A : Around} {E : Value → Shared → Prop} {s : Shared} {z TI TO i1 i2 : Addr} {fp1 fp2 : List Addr} {n1 n2 k : Nat} {P1 P2 : Nat → Value → Prop} {S1 S2 : Nat → Heap → Prop} {a b : Value}
theorem zipD_item {Q : Value → Shared → Prop} (D1 : Draws prog w A i1 fp1 n1 P1 S1) (D2 : Draws prog w A i2 fp2 n2 P2 S2) (ap : ZAp z TI TO i1 i2 fp1 fp2)
  (hz : IsZip s.heap z TI TO .none) (hTI : IsPair s.heap TI (.ref i1) (.ref i2)) (hTO : IsPair s.heap TO a b) (s1 : S1 k s.heap) (s2 : S2 k s.heap) (l1 : k < n1) (l2 : k < n2)
  (hQ : ∀ x y h' tk, P1 k x → P2 k y → IsZip h' z TI TO (rawInt s.heap.objs.size) → IsPair h' TO x y → S1 (k + 1) h' → S2 (k + 1) h' → IsPair h' s.heap.objs.size x y → h'.objs.size = s.heap.objs.size + 1 →
   (∀ c o, c ≠ z → c ≠ TO → c ≠ i1 → c ≠ i2 → s.heap.get? c = some o → h'.get? c = some o) → Q (.ref s.heap.objs.size) { s with heap := h', toks := tk }) :
  wpAny (model prog w) A (Builtin.«zip.__next__» ⟨[.ref z], []⟩) (fun fin s' => ∃ v, fin = .done (.ret v) ∧ Q v s') E s := by
 show wpAny _ _ (field (.ref z) 2 >>= _) _ _ _
 refine wpAny_bind (wpAny_field hz rfl (x := .bool false) rfl ?_)
 show wpAny _ _ (field (.ref z) 3 >>= _) _ _ _
 refine wpAny_bind (wpAny_field hz rfl (x := .ref TI) rfl ?_)
 refine wpAny_bind (wpAny_seqItems hTI rfl ?_)
 show wpAny _ _ (Builtin.SmallTypes.ownedTupleIsFree (.ref z) >>= _) _ _ _
 refine wpAny_bind ?_
 unfold Builtin.SmallTypes.ownedTupleIsFree
 refine wpAny_bind (wpAny_field hz rfl (x := .none) rfl (wpAny_pure ?_))
 simp only [if_true]
 refine wpAny_bind (wpAny_rule ?_)
 refine wpAny_bind (wpAny_field hz rfl (x := .ref TO) rfl ?_)
 refine wpAny_bind (wpAny_setField_rec hz (by simp) fun h1 hz1 hs1 => ?_)
 replace hz1 : IsZip h1 z TI TO .ellipsis := hz1
 refine wpAny_bind ?_
 simp only [List.zipIdx_cons, List.zipIdx_nil, List.forIn_cons, List.forIn_nil]
 have k1 : ∀ c o, c ≠ z → s.heap.get? c = some o → h1.get? c = some o := fun c o h e => hs1.extBut _ _ h e
 refine wpAny_bind (wpAny_bind (wpAny_onRaise ?_))
 show wpAny _ _ (Builtin.SmallTypes.nextOf (.ref i1) >>= _) _ _ _
 refine wpAny_bind (D1.item k _ _ _ l1 (D1.frame _ _ _ s1 fun c hc o e => k1 c o (ap.f1 c hc).1 e) fun x h2 t2 px st2 hs2 => wpAny_pure ?_)
 have k2 : ∀ c o, c ≠ i1 → h1.get? c = some o → h2.get? c = some o := fun c o h e => hs2.extBut _ _ h e
 have hTO2 : IsPair h2 TO a b := k2 _ _ ap.TOi1 (k1 _ _ ap.TOz hTO)
 refine wpAny_bind (wpAny_seqItems hTO2 rfl ?_)
 refine wpAny_bind (wpAny_updateSeq_pair hTO2 fun h3 hTO3 hs3 => ?_)
 replace hTO3 : IsPair h3 TO x b := hTO3
 have k3 : ∀ c o, c ≠ TO → h2.get? c = some o → h3.get? c = some o := fun c o h e => hs3.extBut _ _ h e
 refine wpAny_bind (wpAny_letGo (wpAny_pure ?_))
 refine wpAny_bind (wpAny_bind (wpAny_onRaise ?_))
 show wpAny _ _ (Builtin.SmallTypes.nextOf (.ref i2) >>= _) _ _ _
 refine wpAny_bind (D2.item k _ _ _ l2 (D2.frame _ _ _ s2 fun c hc o e => k3 c o (ap.f2 c hc).2.1 (k2 c o (ap.f2 c hc).2.2 (k1 c o (ap.f2 c hc).1 e))) fun y h4 t4 py st4 hs4 => wpAny_pure ?_)
 have k4 : ∀ c o, c ≠ i2 → h3.get? c = some o → h4.get? c = some o := fun c o h e => hs4.extBut _ _ h e
 have hTO4 : IsPair h4 TO x b := k4 _ _ ap.TOi2 hTO3
 refine wpAny_bind (wpAny_seqItems hTO4 rfl ?_)
 refine wpAny_bind (wpAny_updateSeq_pair hTO4 fun h5 hTO5 hs5 => ?_)
 replace hTO5 : IsPair h5 TO x y := hTO5
 have k5 : ∀ c o, c ≠ TO → h4.get? c = some o → h5.get? c = some o := fun c o h e => hs5.extBut _ _ h e
 refine wpAny_bind (wpAny_letGo (wpAny_pure (wpAny_pure ?_)))
 refine wpAny_bind (wpAny_seqItems hTO5 rfl ?_)
 refine wpAny_bind (wpAny_newTuple ?_)
 have hsz : h5.objs.size = s.heap.objs.size := by rw [hs5.1, hs4.1, hs3.1, hs2.1, hs1.1]
 have hz5 : IsZip h5 z TI TO .ellipsis := k5 _ _ ap.TOz.symm (k4 _ _ ap.i2z.symm (k3 _ _ ap.TOz.symm (k2 _ _ ap.i1z.symm hz1)))
 have hzlt : z < h5.objs.size := Heap.lt_size hz5
 show wpAny _ _ (Builtin.SmallTypes.ownedTupleHandOut (.ref z) (.ref h5.objs.size) >>= _) _ _ _
 refine wpAny_bind ?_
 unfold Builtin.SmallTypes.ownedTupleHandOut
 have hz6 : IsZip (h5.push { cls := .type "tuple", data := .seq #[x, y] }) z TI TO .ellipsis := Heap.get?_push_of_some _ hz5
 refine wpAny_bind (wpAny_setField_rec hz6 (by simp) fun h7 hz7 hs7 => ?_)
 replace hz7 : IsZip h7 z TI TO (rawInt h5.objs.size) := hz7
 refine wpAny_setField_rec hz7 (by simp) fun h8 hz8 hs8 => ?_
 replace hz8 : IsZip h8 z TI TO (rawInt h5.objs.size) := hz8
 have up : ∀ c o, c ≠ z → h5.get? c = some o → h8.get? c = some o := fun c o c1 e => hs8.extBut _ _ c1 (hs7.extBut _ _ c1 (Heap.get?_push_of_some _ e))
 have hT8 : IsPair h8 h5.objs.size x y := hs8.extBut _ _ (Nat.ne_of_gt hzlt) (hs7.extBut _ _ (Nat.ne_of_gt hzlt) (Heap.get?_push_size _ rfl))
 have sz8 : h8.objs.size = h5.objs.size + 1 := by rw [hs8.1, hs7.1, Heap.size_push]
 rw [hsz] at hz8 hT8 sz8
 refine wpAny_pure ⟨_, rfl, ?_⟩
 show Q (.ref h5.objs.size) _
 rw [hsz]
 refine hQ x y h8 _ px py hz8 (up _ _ ap.TOz hTO5) (D1.frame _ _ _ st2 fun c hc o e => up c o (ap.f1 c hc).1 (k5 c o (ap.f1 c hc).2.1 (k4 c o (ap.f1 c hc).2.2 (k3 c o (ap.f1 c hc).2.1 e))))
  (D2.frame _ _ _ st4 fun c hc o e => up c o (ap.f2 c hc).1 (k5 c o (ap.f2 c hc).2.1 e)) hT8 sz8 fun c o c1 c2 c3 c4 e => up c o c1 (k5 c o c2 (k4 c o c4 (k3 c o c2 (k2 c o c3 (k1 c o c1 e)))))
theorem zipD_end {Q : Fin → Shared → Prop} (D1 : Draws prog w A i1 fp1 n1 P1 S1) (ap : ZAp z TI TO i1 i2 fp1 fp2)
  (hz : IsZip s.heap z TI TO .none) (hTI : IsPair s.heap TI (.ref i1) (.ref i2)) (s1 : S1 n1 s.heap)
  (hE : ∀ h' e, (∀ c o, c ≠ z → c ≠ i1 → s.heap.get? c = some o → h'.get? c = some o) → (∃ o, h'.get? e = some o ∧ o.cls = .type "StopIteration") → E (.ref e) { s with heap := h' }) :
  wpAny (model prog w) A (Builtin.«zip.__next__» ⟨[.ref z], []⟩) Q E s := by
 show wpAny _ _ (field (.ref z) 2 >>= _) _ _ _
 refine wpAny_bind (wpAny_field hz rfl (x := .bool false) rfl ?_)
 show wpAny _ _ (field (.ref z) 3 >>= _) _ _ _
 refine wpAny_bind (wpAny_field hz rfl (x := .ref TI) rfl ?_)
 refine wpAny_bind (wpAny_seqItems hTI rfl ?_)
 show wpAny _ _ (Builtin.SmallTypes.ownedTupleIsFree (.ref z) >>= _) _ _ _
 refine wpAny_bind ?_
 unfold Builtin.SmallTypes.ownedTupleIsFree
 refine wpAny_bind (wpAny_field hz rfl (x := .none) rfl (wpAny_pure ?_))
 simp only [if_true]
 refine wpAny_bind (wpAny_rule ?_)
 refine wpAny_bind (wpAny_field hz rfl (x := .ref TO) rfl ?_)
 refine wpAny_bind (wpAny_setField_rec hz (by simp) fun h1 hz1 hs1 => ?_)
 replace hz1 : IsZip h1 z TI TO .ellipsis := hz1
 refine wpAny_bind ?_
 simp only [List.zipIdx_cons, List.zipIdx_nil, List.forIn_cons, List.forIn_nil]
 refine wpAny_bind (wpAny_bind (wpAny_onRaise ?_))
 show wpAny _ _ (Builtin.SmallTypes.nextOf (.ref i1) >>= _) _ _ _
 refine wpAny_bind (D1.done _ _ _ (D1.frame _ _ _ s1 fun c hc o e => hs1.extBut _ _ (ap.f1 c hc).1 e) fun h2 e hs2 he => ?_)
 obtain ⟨oe, hoe, hce⟩ := he
 have hz2 : IsZip h2 z TI TO .ellipsis := hs2 _ _ ap.i1z.symm hz1
 have hez : e ≠ z := fun x => by subst x; rw [hz2] at hoe; cases hoe; simp at hce
 refine wpAny_setField_rec hz2 (by simp) fun h3 _ hs3 => hE h3 e (fun c o c1 c3 x => hs3.extBut _ _ c1 (hs2 _ _ c3 (hs1.extBut _ _ c1 x))) ⟨oe, hs3.extBut _ _ hez hoe, hce⟩
theorem nX {Q : Option Value → Shared → Prop} (D1 : Draws prog w A.in1 i1 fp1 n1 P1 S1) (D2 : Draws prog w A.in1 i2 fp2 n2 P2 S2) (ap : ZAp z TI TO i1 i2 fp1 fp2)
  (hz : IsZip s.heap z TI TO .none) (hTI : IsPair s.heap TI (.ref i1) (.ref i2)) (hTO : IsPair s.heap TO a b) (s1 : S1 k s.heap) (s2 : S2 k s.heap) (l1 : k < n1) (l2 : k < n2)
  (hQ : ∀ x y h' tk, P1 k x → P2 k y → IsZip h' z TI TO (rawInt s.heap.objs.size) → IsPair h' TO x y → S1 (k + 1) h' → S2 (k + 1) h' → IsPair h' s.heap.objs.size x y → h'.objs.size = s.heap.objs.size + 1 →
   (∀ c o, c ≠ z → c ≠ TO → c ≠ i1 → c ≠ i2 → s.heap.get? c = some o → h'.get? c = some o) → Q (some (.ref s.heap.objs.size)) { s with heap := h', toks := tk }) :
  wpAny (model prog w) A (pyNext (.ref z)) Q E s := by
 have hT : s.TypeIs (.ref z) "zip" := ⟨_, hz, rfl⟩
 unfold pyNext
 exact wpAny_bind (wpAny_attempt (wpAny_callSpecial?_slot (name := Str.ofString "__next__") hT F.slot_zip_next
  (wpAny_call_entry F.slot_zip_next hT F.entry_zip_next
   (zipD_item D1 D2 ap hz hTI hTO s1 s2 l1 l2 fun x y h' tk a0 a1 a2 a3 a4 a5 a6 a7 a8 => wpAny_pure (hQ x y h' tk a0 a1 a2 a3 a4 a5 a6 a7 a8)) (F.args_zip_next_1 _))))
theorem o9 {Q : Option Value → Shared → Prop} (D1 : Draws prog w A.in1 i1 fp1 n1 P1 S1) (ap : ZAp z TI TO i1 i2 fp1 fp2)
  (hz : IsZip s.heap z TI TO .none) (hTI : IsPair s.heap TI (.ref i1) (.ref i2)) (s1 : S1 n1 s.heap)
  (hQ : ∀ h', (∀ c o, c ≠ z → c ≠ i1 → s.heap.get? c = some o → h'.get? c = some o) → Q none { s with heap := h' }) : wpAny (model prog w) A (pyNext (.ref z)) Q E s := by
 have hT : s.TypeIs (.ref z) "zip" := ⟨_, hz, rfl⟩
 unfold pyNext
 refine wpAny_bind (wpAny_attempt (wpAny_callSpecial?_slot (name := Str.ofString "__next__") hT F.slot_zip_next
  (wpAny_call_entry F.slot_zip_next hT F.entry_zip_next (zipD_end D1 ap hz hTI s1 fun h' e hk he => ?_) (F.args_zip_next_1 _))))
 obtain ⟨o, ho, hc⟩ := he
 refine wpAny_bind (wpAny_isInstance (T := "StopIteration") (b := true) ⟨o, ho, hc⟩ isSubtype_stop ?_)
 exact wpAny_pure (hQ _ hk)
end
end PySem
namespace PySem
open PyProof.Rows
abbrev zsH1 (h : Heap) (x : Str) (t : Tok) : Heap := h.push { cls := .type (strIterType x), data := .fields #[.str x t, .int 0 0] }
abbrev zsH2 (h : Heap) (x y : Str) (t u : Tok) : Heap := (zsH1 h x t).push { cls := .type (strIterType y), data := .fields #[.str y u, .int 0 0] }
abbrev zsH3 (h : Heap) (x y : Str) (t u : Tok) : Heap := (zsH2 h x y t u).push { cls := .type "tuple", data := .seq #[.ref h.objs.size, .ref (zsH1 h x t).objs.size] }
abbrev zsH4 (h : Heap) (x y : Str) (t u : Tok) : Heap := (zsH3 h x y t u).push { cls := .type "tuple", data := .seq #[.none, .none] }
abbrev zsH5 (h : Heap) (x y : Str) (t u : Tok) : Heap := (zsH4 h x y t u).push { cls := .type "zip", data := .fields #[.none, .bool false, .bool false, .ref (zsH2 h x y t u).objs.size, .ref (zsH3 h x y t u).objs.size] }
theorem pY (x y : Str) (t u : Tok) :
  Meets (Builtin.«zip.__new__» ⟨[.type "zip", .str x t, .str y u], []⟩) (fun _ R s => R (.ok (.ret (.ref (zsH4 s.heap x y t u).objs.size))) { s with heap := zsH5 s.heap x y t u }) :=
 .of_wp fun prog w A R s h => by
  obtain ⟨hp, g, d, tk, os⟩ := s
  have hsub := sub_zip
  wp_walk using wpAny_pyIter_strU, wpAny_pyIter_strU
  exact ⟨_, rfl, h⟩
section
variable {prog : Program} {w : World} {A : Around} {E : Value → Shared → Prop} {s : Shared}
theorem sR {x y : Str} {t u : Tok} {Q : Value → Shared → Prop}
  (h : ∀ h', IsZip h' (s.heap.objs.size + 4) (s.heap.objs.size + 2) (s.heap.objs.size + 3) .none → IsPair h' (s.heap.objs.size + 2) (.ref s.heap.objs.size) (.ref (s.heap.objs.size + 1)) →
   IsPair h' (s.heap.objs.size + 3) .none .none → h'.IsStrIter s.heap.objs.size (strIterType x) x t 0 → h'.IsStrIter (s.heap.objs.size + 1) (strIterType y) y u 0 → h'.objs.size = s.heap.objs.size + 5 →
   (∀ c o, s.heap.get? c = some o → h'.get? c = some o) → Q (.ref (s.heap.objs.size + 4)) { s with heap := h' }) :
  wpAny (model prog w) A (call (.type "zip") [.str x t, .str y u]) Q E s := by
 refine callType_new F.called_zip (by decide) (F.typeCall_zip_2 _ _) (F.newCall_zip_2 _ _) (fun obj => F.args_object_init_3 obj _ _) F.entry_zip_new (pY x y t u) ?_
 have z1 : (zsH1 s.heap x t).objs.size = s.heap.objs.size + 1 := Heap.size_push ..
 have z2 : (zsH2 s.heap x y t u).objs.size = s.heap.objs.size + 2 := by rw [Heap.size_push, z1]
 have z3 : (zsH3 s.heap x y t u).objs.size = s.heap.objs.size + 3 := by rw [Heap.size_push, z2]
 have z4 : (zsH4 s.heap x y t u).objs.size = s.heap.objs.size + 4 := by rw [Heap.size_push, z3]
 have z5 : (zsH5 s.heap x y t u).objs.size = s.heap.objs.size + 5 := by rw [Heap.size_push, z4]
 have g5 : (zsH5 s.heap x y t u).get? (zsH4 s.heap x y t u).objs.size = some _ := Heap.get?_push_size _ rfl
 have g4 : (zsH5 s.heap x y t u).get? (zsH3 s.heap x y t u).objs.size = some _ := Heap.get?_push_of_some _ (Heap.get?_push_size _ rfl)
 have g3 : (zsH5 s.heap x y t u).get? (zsH2 s.heap x y t u).objs.size = some _ := Heap.get?_push_of_some _ (Heap.get?_push_of_some _ (Heap.get?_push_size _ rfl))
 have g2 : (zsH5 s.heap x y t u).get? (zsH1 s.heap x t).objs.size = some _ := Heap.get?_push_of_some _ (Heap.get?_push_of_some _ (Heap.get?_push_of_some _ (Heap.get?_push_size _ rfl)))
 have g1 : (zsH5 s.heap x y t u).get? s.heap.objs.size = some _ := Heap.get?_push_of_some _ (Heap.get?_push_of_some _ (Heap.get?_push_of_some _ (Heap.get?_push_of_some _ (Heap.get?_push_size _ rfl))))
 show _ ∧ _
 rw [z2, z3, z4] at g5
 rw [z1, z2] at g3
 rw [z3] at g4
 rw [z1] at g2
 rw [z4]
 exact ⟨⟨_, g5, rfl⟩, h _ g5 g3 g4 ⟨_, g1, rfl, rfl⟩ ⟨_, g2, rfl, rfl⟩ z5 fun c o e => Heap.get?_push_of_some _ (Heap.get?_push_of_some _ (Heap.get?_push_of_some _ (Heap.get?_push_of_some _ (Heap.get?_push_of_some _ e))))⟩
end
end PySem
namespace L2
open PySem PySem.Spec PyProof.Rows
section
variable {X : Cx}
def Izs (x y : Str) : It := ⟨fun i H => i < x.cps.size ∧ i < y.cps.size, fun i H v H' => ∃ T c d, H T = none ∧ v = .ref T ∧ H' = upd H T (.tup [.str ⟨#[c]⟩, .str ⟨#[d]⟩]) ∧ x.cps[i]? = some c ∧ y.cps[i]? = some d, fun i H => x.cps.size = i⟩
theorem turn_zipS {P : Program} {w : World} {K : PySem.W.Frag} {elts : List Expr} {kk : Nat} {tp : Pos} (x y : Str) (t u : Tok) (z TI TO i1 i2 : Addr) (ap : ZAp z TI TO i1 i2 [i1] [i2]) (hTT : TI ≠ TO ∧ TI ≠ i1 ∧ TI ≠ i2) :
  Turn P w K (.Tuple elts kk tp) (Izs x y) [z, TI, TO, i1, i2] z (fun i h => IsZip h z TI TO .none ∧ IsPair h TI (.ref i1) (.ref i2) ∧ (∃ a b, IsPair h TO a b) ∧ h.IsStrIter i1 (strIterType x) x t i ∧ h.IsStrIter i2 (strIterType y) y u i) where
 mem := by simp
 obj := fun i h st b hb => by
  obtain ⟨hz, hTI, ⟨a1, b1, hTO⟩, ⟨o1, ho1, hc1, hd1⟩, o2, ho2, hc2, hd2⟩ := st
  simp only [List.mem_cons, List.not_mem_nil, or_false] at hb
  rcases hb with rfl | rfl | rfl | rfl | rfl
  ·exact ⟨_, hz, fun v q => by cases q⟩
  ·exact ⟨_, hTI, fun v q => by cases q⟩
  ·exact ⟨_, hTO, fun v q => by cases q⟩
  ·exact ⟨o1, ho1, fun v q => by rw [hd1] at q; cases q⟩
  ·exact ⟨o2, ho2, fun v q => by rw [hd2] at q; cases q⟩
 keep := fun i h h' st k => by
  obtain ⟨hz, hTI, ⟨a1, b1, hTO⟩, ⟨o1, ho1, r1⟩, o2, ho2, r2⟩ := st
  exact ⟨k z (by simp) _ hz, k TI (by simp) _ hTI, ⟨a1, b1, k TO (by simp) _ hTO⟩, ⟨o1, k i1 (by simp) o1 ho1, r1⟩, o2, k i2 (by simp) o2 ho2, r2⟩
 item := by
  intro X hP hw hK hc i pins s σ H E I hf st hg
  subst hP hw hK
  obtain ⟨hz, hTI, ⟨a1, b1, hTO⟩, hi1, hi2⟩ := st
  have D1 := lW (prog := X.prog) (w := X.w) (A := X.A.in1) (I.ok.hd hc) i1 x t
  have D2 := lW (prog := X.prog) (w := X.w) (A := X.A.in1) (I.ok.hd hc) i2 y u
  refine nX D1 D2 ap hz hTI hTO hi1 hi2 hg.1 hg.2 fun p q h1 tk hp hq hz1 hTO1 hs1 hs2 hT hsz hk => ?_
  obtain ⟨c, tc, hcx, rfl⟩ := hp
  obtain ⟨d, td, hdy, rfl⟩ := hq
  refine ⟨_, rfl, wpAny_letOwnedTupleGo_zip hz1 fun h2 hz2 hs => ?_⟩
  have lz := Heap.lt_size hz
  have lTO := Heap.lt_size hTO
  have lTI := Heap.lt_size hTI
  have l1 : i1 < s.heap.objs.size := by obtain ⟨o, e, _⟩ := hi1; exact Heap.lt_size e
  have l2 : i2 < s.heap.objs.size := by obtain ⟨o, e, _⟩ := hi2; exact Heap.lt_size e
  have up : ∀ b o, b ≠ z → h1.get? b = some o → h2.get? b = some o := fun b o n e => hs.extBut _ _ n e
  have tup2 : h2.get? s.heap.objs.size = some { cls := .type "tuple", data := .seq #[.str ⟨#[c]⟩ tc, .str ⟨#[d]⟩ td] } := up _ _ (Nat.ne_of_gt lz) hT
  have k2 : ∀ b ob, b ∉ [z, TI, TO, i1, i2] → s.heap.get? b = some ob → h2.get? b = some ob := fun b ob hb q => by
   simp only [List.mem_cons, List.not_mem_nil, or_false, not_or] at hb
   exact up b ob hb.1 (hk b ob hb.1 hb.2.2.1 hb.2.2.2.1 hb.2.2.2.2 q)
  have I2 : Inv X pins σ (upd H s.heap.objs.size (.tup [.str ⟨#[c]⟩, .str ⟨#[d]⟩])) { s with heap := h2, toks := tk } := I.turnedT k2 hf (Nat.le_refl _) ⟨(show 2 ≤ sizeLine by decide), [.str ⟨#[c]⟩ tc, .str ⟨#[d]⟩ td], .cons ⟨tc, rfl⟩ (.cons ⟨td, rfl⟩ .nil), _, tup2, rfl, 0, rfl⟩
  have hn : H s.heap.objs.size = none := I.hok.fresh (Nat.le_refl _)
  refine ⟨.ref s.heap.objs.size, _, I2, rfl, ⟨s.heap.objs.size, c, d, hn, rfl, rfl, hcx, hdy⟩, ⟨hz2, up _ _ ap.TIz (hk _ _ ap.TIz hTT.1 hTT.2.1 hTT.2.2 hTI), ⟨_, _, up _ _ ap.TOz hTO1⟩, ?_, ?_⟩, fun b hb => ?_⟩
  ·obtain ⟨o, e, r⟩ := hs1
   exact ⟨o, up _ _ ap.i1z e, r⟩
  ·obtain ⟨o, e, r⟩ := hs2
   exact ⟨o, up _ _ ap.i2z e, r⟩
  ·rw [aW (fun e => ?_)]
   ·exact (hf b hb).1
   ·simp only [List.mem_cons, List.not_mem_nil, or_false] at hb
    rcases hb with y | y | y | y | y <;> rw [y] at e
    ·exact absurd e (Nat.ne_of_lt lz)
    ·exact absurd e (Nat.ne_of_lt lTI)
    ·exact absurd e (Nat.ne_of_lt lTO)
    ·exact absurd e (Nat.ne_of_lt l1)
    ·exact absurd e (Nat.ne_of_lt l2)
 done := by
  intro X hP hw hK hc i pins s σ H E I hf st hg
  subst hP hw hK
  obtain ⟨hz, hTI, ⟨a1, b1, hTO⟩, hi1, hi2⟩ := st
  have D1 := lW (prog := X.prog) (w := X.w) (A := X.A.in1) (I.ok.hd hc) i1 x t
  have hn : x.cps.size = i := hg
  subst hn
  refine o9 D1 ap hz hTI hi1 fun h2 hx => ⟨rfl, I.turnedL (t' := s.toks) (ch := [z, i1]) (fun b ob hb q => hx b ob (fun e => hb (by simp [e])) (fun e => hb (by simp [e])) q) fun b hb => hf b ?_⟩
  simp only [List.mem_cons, List.not_mem_nil, or_false] at hb
  rcases hb with y | y <;> rw [y] <;> simp
 self := fun A i s Q E st h => wpAny_pyIter_zip st.1 h
theorem zap_new (n : Nat) : ZAp (n + 4) (n + 2) (n + 3) n (n + 1) [n] [n + 1] :=
  ⟨Nat.ne_of_lt (Nat.add_lt_add_left (by decide) n), Nat.ne_of_lt (Nat.add_lt_add_left (by decide) n), Nat.ne_of_lt (Nat.lt_add_of_pos_right (by decide)), Nat.ne_of_lt (Nat.add_lt_add_left (by decide) n), Nat.ne_of_gt (Nat.lt_add_of_pos_right (by decide)), Nat.ne_of_gt (Nat.add_lt_add_left (by decide) n), Nat.ne_of_lt (Nat.lt_add_of_pos_right (by decide)),
   fun b hb => by rw [List.mem_singleton] at hb; subst hb; exact ⟨Nat.ne_of_lt (Nat.lt_add_of_pos_right (by decide)), Nat.ne_of_lt (Nat.lt_add_of_pos_right (by decide)), Nat.ne_of_lt (Nat.lt_add_of_pos_right (by decide))⟩,
   fun b hb => by rw [List.mem_singleton] at hb; subst hb; exact ⟨Nat.ne_of_lt (Nat.add_lt_add_left (by decide) n), Nat.ne_of_lt (Nat.add_lt_add_left (by decide) n), Nat.ne_of_gt (Nat.lt_add_of_pos_right (by decide))⟩⟩
theorem sM (n : Nat) : n + 2 ≠ n + 3 ∧ n + 2 ≠ n ∧ n + 2 ≠ n + 1 := ⟨by omega, by omega, by omega⟩
def iZipS (ta : TA) : TI := fun σ H R => ta σ H fun vs H1 => ∃ x y, vs = [.str x, .str y] ∧ R (Izs x y) H1
theorem pi_zipS {elts : List Expr} {kk : Nat} {tp : Pos} {a b : Expr} {ta : TA} {p pos : Pos} (hg : Gl X "zip") (hm : X.mg "zip" = none) (hv : bootBuiltins "zip" = some (.type "zip")) (ha : PA X [a, b] ta) (hs : starEach [a, b] X.env = [(false, eval a X.env), (false, eval b X.env)] := by rfl) (hs2 : starEach [b] X.env = [(false, eval b X.env)] := by rfl) :
  PI X (.Tuple elts kk tp) (.Call (.Name "zip" p) [a, b] [] pos) (iZipS ta) := by
 intro pins s σ H R I h
 refine Call_ (gN I hg hm hv (PyProof.Rows.callWith_type1 (thn (ha pos pins s σ H _ I h) fun us s1 ⟨vs, H1, I1, r1, q1⟩ => ?_) (by rw [hs, hs2]) (by rw [hs2]; rfl)))
 obtain ⟨x, y, e, q⟩ := q1
 subst e
 obtain ⟨v1, v2, rfl, ru1, ru2⟩ := vals2 r1
 obtain ⟨t, rfl⟩ := ru1
 obtain ⟨u, rfl⟩ := ru2
 refine sR fun h' hz hTI hTO h1 h2 hsz hk => ?_
 have I2 : Inv X pins σ H1 { s1 with heap := h' } := I1.kept (t' := s1.toks) hk
 refine wpAny_pyIter_zip hz ?_
 refine ⟨_, [s1.heap.objs.size + 4, s1.heap.objs.size + 2, s1.heap.objs.size + 3, s1.heap.objs.size, s1.heap.objs.size + 1], _, Izs x y, H1, rfl, I2, turn_zipS x y t u (s1.heap.objs.size + 4) (s1.heap.objs.size + 2) (s1.heap.objs.size + 3) s1.heap.objs.size (s1.heap.objs.size + 1) (zap_new _) (sM _), ⟨hz, hTI, ⟨_, _, hTO⟩, h1, h2⟩, fun c hc => ?_, q⟩
 have hle : s1.heap.objs.size ≤ c := by
  simp only [List.mem_cons, List.not_mem_nil, or_false] at hc
  rcases hc with h | h | h | h | h <;> rw [h] <;> first | exact Nat.le_refl _ | exact Nat.le_add_right _ _
 exact I1.fpOk hle (I1.hok.fresh hle)
end
end L2
namespace Z
open PySem L2
section
variable {X : Cx} {Γ : Gm} {M : Mem} {k : D → Mem → Prop} {pos : Pos} {a b : Expr} {rest : List Expr}
def zipD (xs ys : List D) : List D := (xs.zip ys).map fun p => .tup [p.1, p.2]
theorem yd_zipS {K : Fg} {x y : Str} (hl : x.cps.size = y.cps.size) {G0 : Hp} : YD K (Izs x y) (zipD (strD x) (strD y)) G0 where
 go := fun i G H M sg rl h => by
  unfold zipD at h
  rw [List.length_map, List.length_zip, dP, dP] at h
  exact ⟨by show i < x.length; omega, by show i < y.length; omega⟩
 yld := fun i G H M v H' sg rl h z => by
  obtain ⟨T, c, d, hT, rfl, rfl, hc, hd⟩ := z
  have st := rl.new (o := .tup [.str ⟨#[c]⟩, .str ⟨#[d]⟩]) hT
  refine ⟨_, .tup [.str ⟨#[c]⟩, .str ⟨#[d]⟩], st, ?_, gF (SqT.of bG) (bZ fM (bZ fM cF))⟩
  unfold zipD
  have e : ((strD x).zip (strD y))[i]? = some (.str ⟨#[c]⟩, .str ⟨#[d]⟩) := List.getElem?_zip_eq_some.mpr ⟨by simp [strD, hc], by simp [strD, hd]⟩
  rw [List.getElem?_map, e]
  rfl
 stop := fun i G H M sg rl h => by
  unfold zipD at h
  rw [List.length_map, List.length_zip, dP, dP] at h
  show x.cps.size = i
  have : x.length = x.cps.size := rfl
  have : y.length = y.cps.size := rfl
  omega
theorem gi_zipS {elts : List Expr} {kk : Nat} {tp p : Pos} {ki : List D → Mem → Prop} (hm : X.mg "zip" = none) (hv : bootBuiltins "zip" = some (.type "zip")) (h : GA X [a, b] Γ M fun ds M1 => ∃ x y : Str, ds = [.str x, .str y] ∧ x.cps.size = y.cps.size ∧ ki (zipD (strD x) (strD y)) M1) (hg : Gl X "zip" := by rfl)
  (hs : starEach [a, b] X.env = [(false, eval a X.env), (false, eval b X.env)] := by rfl) (hs2 : starEach [b] X.env = [(false, eval b X.env)] := by rfl) :
  GI X (.Tuple elts kk tp) (.Call (.Name "zip" p) [a, b] [] pos) Γ M ki := fun σ G H Rr en rl q => by
 refine jK (pi_zipS hg hm hv pUA hs hs2) ?_
 refine h σ G H _ en rl fun vs G1 H1 ds M1 s1 e1 ⟨x, y, ed, hl, h1⟩ => ?_
 subst ed
 obtain ⟨v, u, rfl, dv, du⟩ := dens2 e1
 exact ⟨x, y, by rw [dv.str_, du.str_], q _ _ _ _ _ s1 (yd_zipS hl) h1⟩
end
end Z
namespace L2
open PySem PySem.Spec PyProof.Rows
section
variable {X : Cx}
theorem gA {h : Heap} {a b : Addr} {its : Array Value} {o : Obj} (hl : h.IsList a its) (ho : h.get? b = some o) (hc : o.cls ≠ .type "list") : a ≠ b := fun z => by
 obtain ⟨o1, e1, c1, _⟩ := hl
 rw [z, ho] at e1; cases e1
 exact hc c1
def Izl (K : PySem.W.Frag) (a b : Addr) : It := ⟨fun i H => ∃ xs ys x y, SqL K H a xs ∧ SqL K H b ys ∧ xs[i]? = some x ∧ ys[i]? = some y, fun i H v H' => ∃ T x y, H T = none ∧ v = .ref T ∧ H' = upd H T (.tup [x, y]) ∧ (∀ xs, SqL K H a xs → xs[i]? = some x) ∧ (∀ ys, SqL K H b ys → ys[i]? = some y), fun i H => ∃ xs, SqL K H a xs ∧ xs.length = i⟩
theorem turn_zipL {P : Program} {w : World} {K : PySem.W.Frag} {elts : List Expr} {kk : Nat} {tp : Pos} (a b z TI TO i1 i2 : Addr) (ap0 : ZAp z TI TO i1 i2 [i1] [i2]) (hTT : TI ≠ TO ∧ TI ≠ i1 ∧ TI ≠ i2) :
  Turn P w K (.Tuple elts kk tp) (Izl K a b) [z, TI, TO, i1, i2] z (fun i h => IsZip h z TI TO .none ∧ IsPair h TI (.ref i1) (.ref i2) ∧ (∃ a b, IsPair h TO a b) ∧ h.IsListIter i1 a i ∧ h.IsListIter i2 b i) where
 mem := by simp
 obj := fun i h st b hb => by
  obtain ⟨hz, hTI, ⟨a1, b1, hTO⟩, ⟨o1, ho1, hc1, hd1⟩, o2, ho2, hc2, hd2⟩ := st
  simp only [List.mem_cons, List.not_mem_nil, or_false] at hb
  rcases hb with rfl | rfl | rfl | rfl | rfl
  ·exact ⟨_, hz, fun v q => by cases q⟩
  ·exact ⟨_, hTI, fun v q => by cases q⟩
  ·exact ⟨_, hTO, fun v q => by cases q⟩
  ·exact ⟨o1, ho1, fun v q => by rw [hd1] at q; cases q⟩
  ·exact ⟨o2, ho2, fun v q => by rw [hd2] at q; cases q⟩
 keep := fun i h h' st k => by
  obtain ⟨hz, hTI, ⟨a1, b1, hTO⟩, ⟨o1, ho1, r1⟩, o2, ho2, r2⟩ := st
  exact ⟨k z (by simp) _ hz, k TI (by simp) _ hTI, ⟨a1, b1, k TO (by simp) _ hTO⟩, ⟨o1, k i1 (by simp) o1 ho1, r1⟩, o2, k i2 (by simp) o2 ho2, r2⟩
 item := by
  intro X hP hw hK hc i pins s σ H E I hf st hg
  subst hP hw hK
  obtain ⟨hz, hTI, ⟨a1, b1, hTO⟩, hi1, hi2⟩ := st
  obtain ⟨xs, ys, x, y, hqx, hqy, hx, hy⟩ := hg
  obtain ⟨itx, rvx, ptx, hzx⟩ := I.list hqx
  obtain ⟨ity, rvy, pty, hzy⟩ := I.list hqy
  obtain ⟨o1, ho1, hc1, hd1⟩ := id hi1
  obtain ⟨o2, ho2, hc2, hd2⟩ := id hi2
  have n1 : ∀ {a its}, s.heap.IsList a its → a ≠ z ∧ a ≠ TO ∧ a ≠ i1 ∧ a ≠ i2 := fun hl => ⟨gA hl hz (by simp), gA hl hTO (by simp), gA hl ho1 (by rw [hc1]; simp), gA hl ho2 (by rw [hc2]; simp)⟩
  have na := n1 ptx.isList
  have nb := n1 pty.isList
  have ap : ZAp z TI TO i1 i2 [i1, a] [i2, b] := ⟨ap0.TIz, ap0.TOz, ap0.i1z, ap0.i2z, ap0.TOi1, ap0.TOi2, ap0.i12,
   fun c hc => by
    rcases List.mem_cons.mp hc with rfl | hc
    ·exact ap0.f1 _ (by simp)
    ·rw [List.mem_singleton] at hc; subst hc; exact ⟨na.1, na.2.1, na.2.2.2⟩,
   fun c hc => by
    rcases List.mem_cons.mp hc with rfl | hc
    ·exact ap0.f2 _ (by simp)
    ·rw [List.mem_singleton] at hc; subst hc; exact ⟨nb.1, nb.2.1, nb.2.2.1⟩⟩
  have D1 := Draws.list (prog := X.prog) (w := X.w) (A := X.A.in1) (I.ok.hd hc) i1 a na.2.2.1 itx.toArray
  have D2 := Draws.list (prog := X.prog) (w := X.w) (A := X.A.in1) (I.ok.hd hc) i2 b nb.2.2.2 ity.toArray
  have l1 : i < itx.toArray.size := by rw [List.size_toArray, ← rvx.length]; exact (List.getElem?_eq_some_iff.mp hx).1
  have l2 : i < ity.toArray.size := by rw [List.size_toArray, ← rvy.length]; exact (List.getElem?_eq_some_iff.mp hy).1
  refine nX D1 D2 ap hz hTI hTO ⟨hi1, ptx.isList⟩ ⟨hi2, pty.isList⟩ l1 l2 fun p q h1 tk hp hq hz1 hTO1 hs1 hs2 hT hsz hk => ?_
  obtain ⟨u, hu, ru⟩ := rvx.get hx
  obtain ⟨v, hv, rv⟩ := rvy.get hy
  have ep : p = u := by
   have e3 : itx[i]? = some p := by simpa using hp
   rw [hu] at e3; exact (Option.some.inj e3).symm
  have eq : q = v := by
   have e3 : ity[i]? = some q := by simpa using hq
   rw [hv] at e3; exact (Option.some.inj e3).symm
  subst ep eq
  refine ⟨_, rfl, wpAny_letOwnedTupleGo_zip hz1 fun h2 hz2 hs => ?_⟩
  have lz := Heap.lt_size hz
  have lTO := Heap.lt_size hTO
  have lTI := Heap.lt_size hTI
  have li1 := Heap.lt_size ho1
  have li2 := Heap.lt_size ho2
  have up : ∀ b o, b ≠ z → h1.get? b = some o → h2.get? b = some o := fun b o n e => hs.extBut _ _ n e
  have tup2 : h2.get? s.heap.objs.size = some { cls := .type "tuple", data := .seq #[p, q] } := up _ _ (Nat.ne_of_gt lz) hT
  have k2 : ∀ b ob, b ∉ [z, TI, TO, i1, i2] → s.heap.get? b = some ob → h2.get? b = some ob := fun b ob hb q => by
   simp only [List.mem_cons, List.not_mem_nil, or_false, not_or] at hb
   exact up b ob hb.1 (hk b ob hb.1 hb.2.2.1 hb.2.2.2.1 hb.2.2.2.2 q)
  have I2 : Inv X pins σ (upd H s.heap.objs.size (.tup [x, y])) { s with heap := h2, toks := tk } := I.turnedT k2 hf (Nat.le_refl _) ⟨(show 2 ≤ sizeLine by decide), [p, q], .cons ru (.cons rv .nil), _, tup2, rfl, 0, rfl⟩
  have hn : H s.heap.objs.size = none := I.hok.fresh (Nat.le_refl _)
  refine ⟨.ref s.heap.objs.size, _, I2, rfl, ⟨s.heap.objs.size, x, y, hn, rfl, rfl, fun xs' q' => by rw [I.list_inj q' hqx]; exact hx, fun ys' q' => by rw [I.list_inj q' hqy]; exact hy⟩, ⟨hz2, up _ _ ap.TIz (hk _ _ ap.TIz hTT.1 hTT.2.1 hTT.2.2 hTI), ⟨_, _, up _ _ ap.TOz hTO1⟩, ?_, ?_⟩, fun b hb => ?_⟩
  ·obtain ⟨o, e, r⟩ := hs1.1
   exact ⟨o, up _ _ ap.i1z e, r⟩
  ·obtain ⟨o, e, r⟩ := hs2.1
   exact ⟨o, up _ _ ap.i2z e, r⟩
  ·rw [aW (fun e => ?_)]
   ·exact (hf b hb).1
   ·simp only [List.mem_cons, List.not_mem_nil, or_false] at hb
    rcases hb with y | y | y | y | y <;> rw [y] at e
    ·exact absurd e (Nat.ne_of_lt lz)
    ·exact absurd e (Nat.ne_of_lt lTI)
    ·exact absurd e (Nat.ne_of_lt lTO)
    ·exact absurd e (Nat.ne_of_lt li1)
    ·exact absurd e (Nat.ne_of_lt li2)
 done := by
  intro X hP hw hK hc i pins s σ H E I hf st hg
  subst hP hw hK
  obtain ⟨hz, hTI, ⟨a1, b1, hTO⟩, hi1, hi2⟩ := st
  obtain ⟨xs, hqx, hlen⟩ := hg
  obtain ⟨itx, rvx, ptx, hzx⟩ := I.list hqx
  obtain ⟨o1, ho1, hc1, hd1⟩ := id hi1
  have na : a ≠ i1 := gA ptx.isList ho1 (by rw [hc1]; simp)
  have naz : a ≠ z := gA ptx.isList hz (by simp)
  have naT : a ≠ TO := gA ptx.isList hTO (by simp)
  obtain ⟨o2, ho2, hc2, hd2⟩ := id hi2
  have na2 : a ≠ i2 := gA ptx.isList ho2 (by rw [hc2]; simp)
  have ap : ZAp z TI TO i1 i2 [i1, a] [i2] := ⟨ap0.TIz, ap0.TOz, ap0.i1z, ap0.i2z, ap0.TOi1, ap0.TOi2, ap0.i12,
   fun c hc => by
    rcases List.mem_cons.mp hc with rfl | hc
    ·exact ap0.f1 _ (by simp)
    ·rw [List.mem_singleton] at hc; subst hc; exact ⟨naz, naT, na2⟩, ap0.f2⟩
  have D1 := Draws.list (prog := X.prog) (w := X.w) (A := X.A.in1) (I.ok.hd hc) i1 a na itx.toArray
  have hn : itx.toArray.size = i := by rw [List.size_toArray, ← rvx.length]; exact hlen
  subst hn
  refine o9 D1 ap hz hTI ⟨hi1, ptx.isList⟩ fun h2 hx => ⟨rfl, I.turnedL (t' := s.toks) (ch := [z, i1]) (fun b ob hb q => hx b ob (fun e => hb (by simp [e])) (fun e => hb (by simp [e])) q) fun b hb => hf b ?_⟩
  simp only [List.mem_cons, List.not_mem_nil, or_false] at hb
  rcases hb with y | y <;> rw [y] <;> simp
 self := fun A i s Q E st h => wpAny_pyIter_zip st.1 h
def iZipL (K : PySem.W.Frag) (ta : TA) : TI := fun σ H R => ta σ H fun vs H1 => ∃ a b xs ys, vs = [.ref a, .ref b] ∧ SqL K H1 a xs ∧ SqL K H1 b ys ∧ R (Izl K a b) H1
theorem pi_zipL {elts : List Expr} {kk : Nat} {tp : Pos} {a b : Expr} {ta : TA} {p pos : Pos} (hg : Gl X "zip") (hm : X.mg "zip" = none) (hv : bootBuiltins "zip" = some (.type "zip")) (ha : PA X [a, b] ta) (hs : starEach [a, b] X.env = [(false, eval a X.env), (false, eval b X.env)] := by rfl) (hs2 : starEach [b] X.env = [(false, eval b X.env)] := by rfl) :
  PI X (.Tuple elts kk tp) (.Call (.Name "zip" p) [a, b] [] pos) (iZipL X.K ta) := by
 intro pins s σ H R I h
 refine Call_ (gN I hg hm hv (PyProof.Rows.callWith_type1 (thn (ha pos pins s σ H _ I h) fun us s1 ⟨vs, H1, I1, r1, q1⟩ => ?_) (by rw [hs, hs2]) (by rw [hs2]; rfl)))
 obtain ⟨c, d, xs, ys, e, hqx, hqy, q⟩ := q1
 subst e
 obtain ⟨v1, v2, rfl, ru1, ru2⟩ := vals2 r1
 cases ru1
 cases ru2
 obtain ⟨itx, rvx, ptx, hzx⟩ := I1.list hqx
 obtain ⟨ity, rvy, pty, hzy⟩ := I1.list hqy
 refine call_zip_2 ptx.isList pty.isList fun h' hz hTI hTO h1 h2 hsz hk => ?_
 have I2 : Inv X pins σ H1 { s1 with heap := h' } := I1.kept (t' := s1.toks) hk
 refine wpAny_pyIter_zip hz ?_
 refine ⟨_, [s1.heap.objs.size + 4, s1.heap.objs.size + 2, s1.heap.objs.size + 3, s1.heap.objs.size, s1.heap.objs.size + 1], _, Izl X.K c d, H1, rfl, I2, turn_zipL c d (s1.heap.objs.size + 4) (s1.heap.objs.size + 2) (s1.heap.objs.size + 3) s1.heap.objs.size (s1.heap.objs.size + 1) (zap_new _) (sM _), ⟨hz, hTI, ⟨_, _, hTO⟩, h1, h2⟩, fun c hc => ?_, q⟩
 have hle : s1.heap.objs.size ≤ c := by
  simp only [List.mem_cons, List.not_mem_nil, or_false] at hc
  rcases hc with h | h | h | h | h <;> rw [h] <;> first | exact Nat.le_refl _ | exact Nat.le_add_right _ _
 exact I1.fpOk hle (I1.hok.fresh hle)
end
end L2
namespace Z
open PySem L2
section
variable {X : Cx} {Γ : Gm} {M : Mem} {k : D → Mem → Prop} {pos : Pos} {a b : Expr} {rest : List Expr}
theorem yd_zipL {K : Fg} {a b : Addr} {vs us : List V} {ds es : List D} {G0 : Hp} (s1 : SqL K G0 a vs) (d1 : Dens K G0 ds vs) (s2 : SqL K G0 b us) (d2 : Dens K G0 es us) (hl : ds.length = es.length) : YD K (Izl K a b) (zipD ds es) G0 where
 go := fun i G H M sg rl h => by
  unfold zipD at h
  rw [List.length_map, List.length_zip] at h
  have h1 := d1.len
  have h2 := d2.len
  exact ⟨vs, us, vs[i]'(by omega), us[i]'(by omega), rl.same.seq (sg.seq s1), rl.same.seq (sg.seq s2), List.getElem?_eq_getElem _, List.getElem?_eq_getElem _⟩
 yld := fun i G H M v H' sg rl h z => by
  obtain ⟨T, x, y, hT, rfl, rfl, hx, hy⟩ := z
  obtain ⟨c, hc, ec⟩ := d1.get' (hx vs (rl.same.seq (sg.seq s1)))
  obtain ⟨d, hd, ed⟩ := d2.get' (hy us (rl.same.seq (sg.seq s2)))
  have st := rl.new (o := .tup [x, y]) hT
  refine ⟨_, .tup [c, d], st, ?_, gF (SqT.of bG) (bZ ((ec.up sg).up st.gg) (bZ ((ed.up sg).up st.gg) cF))⟩
  unfold zipD
  have e : (ds.zip es)[i]? = some (c, d) := List.getElem?_zip_eq_some.mpr ⟨hc, hd⟩
  rw [List.getElem?_map, e]
  rfl
 stop := fun i G H M sg rl h => by
  unfold zipD at h
  rw [List.length_map, List.length_zip] at h
  have h1 := d1.len
  exact ⟨vs, rl.same.seq (sg.seq s1), by omega⟩
theorem gi_zipL {elts : List Expr} {kk : Nat} {tp p : Pos} {ki : List D → Mem → Prop} (hm : X.mg "zip" = none) (hv : bootBuiltins "zip" = some (.type "zip")) (h : GA X [a, b] Γ M fun ds M1 => ∃ xs ys, ds = [.lst xs, .lst ys] ∧ xs.length = ys.length ∧ ki (zipD xs ys) M1) (hg : Gl X "zip" := by rfl)
  (hs : starEach [a, b] X.env = [(false, eval a X.env), (false, eval b X.env)] := by rfl) (hs2 : starEach [b] X.env = [(false, eval b X.env)] := by rfl) :
  GI X (.Tuple elts kk tp) (.Call (.Name "zip" p) [a, b] [] pos) Γ M ki := fun σ G H Rr en rl q => by
 refine jK (pi_zipL hg hm hv pUA hs hs2) ?_
 refine h σ G H _ en rl fun vs G1 H1 ds M1 s1 e1 ⟨xs, ys, ed, hl, h1⟩ => ?_
 subst ed
 obtain ⟨v, u, rfl, dv, du⟩ := dens2 e1
 obtain ⟨c, vs, ev, sv, dn⟩ := dv.lst_
 obtain ⟨d, us, eu, su, dm⟩ := du.lst_
 exact ⟨c, d, vs, us, by rw [ev, eu], SqL.of (s1.rel.same _ _ sv), SqL.of (s1.rel.same _ _ su), q _ _ _ _ _ s1 (yd_zipL (SqL.of sv) dn (SqL.of su) dm hl) h1⟩
end
end Z
namespace Q
open PySem L2 Z
theorem iT {α : Type} (l : List α) (n : Nat) (h : n ≤ l.length) : cutD l (some (n : Int)) none = l.drop n := by
 unfold cutD
 rw [HT.sIx_none, show HT.sIx l.length 0 (some (n : Int)) = min n l.length from HT.sIx_nat _ _ n, Nat.min_eq_left h]
 exact List.take_of_length_le (by rw [List.length_drop]; exact Nat.le_refl _)
end Q
namespace Z
open PySem L2
theorem ge_mid {X : Cx} {e : Expr} {Γ : Gm} {M : Mem} {P k : D → Mem → Prop} (h : GE X e Γ M P) (hk : ∀ d M1, P d M1 → k d M1) : GE X e Γ M k := fun σ G H Q en rl q => h σ G H Q en rl fun v G' H' d M' s ed hp => q v G' H' d M' s ed (hk d M' hp)
end Z
namespace Q
open PySem L2 Z
def fineS (K : List Str) (cs : List Int) (u : Int) : Str := R.ofL (cs.map fun c => R.sg (R.aY K c u))
def qK : Ct := fun ds M k => ∃ (x y : D) (K : List Str) (cs : List Int) (u : Int), ds = [.tup [x, y, .tup (K.map .str)], .lst (cs.map .int), .int u] ∧ (∀ z ∈ K, z.length ≤ 1000) ∧ cs.length ≤ 300 ∧ k (.str (fineS K cs u)) M
def kW (ps : List Str) (p : Nat × Nat) : Bool := ps.any fun q => decide (q = (⟨#[p.1, p.2]⟩ : Str))
def combS (ps : List Str) (a b : Str) : Str := R.ofL ((a.cps.toList.zip b.cps.toList).map fun p => R.sg (kW ps p))
def o0 : Ct := fun ds M k => ∃ (a b : Str) (ps : List Str), ds = [.str a, .str b, .tup (ps.map .str)] ∧ a.length = b.length ∧ a.length ≤ 900 ∧ ps.length ≤ 10 ∧ k (.str (combS ps a b)) M
theorem any_strs (ps : List Str) (q : Str) : ((ps.map D.str).any fun x => eqD x (.str q)) = ps.any fun p => decide (p = q) := by
 rw [List.any_map]
 congr 1
end Q
namespace L2
open PySem PySem.Spec PyProof.Rows
def CompW2 (K : PySem.W.Frag) (J : It) (cap : List Nat) (tt : TT) (te : TE) (σ : St) (H1 : Hp) (Q : VK) (D : Addr) : Prop := ∃ W : Nat → Nat → List V → Hp → Prop, (∃ m, W 0 m [] (upd H1 D (.lst []))) ∧ ∀ i m ys H2, W i m ys H2 →
 H2 D = some (.lst ys) ∧ ((J.stop i H2 ∧ Q (.ref D) H2) ∨ (J.go i H2 ∧ ys.length < sizeLine ∧ ∀ x H3, J.yld i H2 x H3 → ∃ p a b, x = .ref p ∧ SqT K H3 p [a, b] ∧
  tt (some a :: some b :: cap.map fun k => (σ[k]?).join) H3 fun c H4 => if c = true then te (some a :: some b :: cap.map fun k => (σ[k]?).join) H4 fun y H5 => H5 D = some (.lst ys) ∧ ∃ m', m' < m ∧ W (i + 1) m' (ys ++ [y]) (upd H5 D (.lst (ys ++ [y])))
   else ∃ m', m' < m ∧ W (i + 1) m' ys H4))
def oV (K : PySem.W.Frag) (wi : TI) (cap : List Nat) (tt : TT) (te : TE) : TE := fun σ H Q => wi σ H fun J H1 => ∀ D, H1 D = none → CompW2 K J cap tt te σ H1 Q D
theorem uP {X : Cx} {x1 x2 : Str} {px1 px2 tp pos : Pos} {kk : Nat} {iter elt : Expr} {ifs : List Expr} {scope : Scope} {ns : List Str} {cap : List Nat} {wi : TI} {tt : TT} {te : TE} (hc : X.calm = true) (hkind : scope.kind = .function)
  (hnames : ∀ y ∈ scope.names, y.2 = .local → scope.names.lookup y.1 = some .local) (hx1 : Loc (relabel scope X.env) x1) (hxf1 : scope.names.lookup x1 = some .cell ∨ (relabel scope X.env).names.lookup x1 = some .local) (hx2 : Loc (relabel scope X.env) x2) (hxf2 : scope.names.lookup x2 = some .cell ∨ (relabel scope X.env).names.lookup x2 = some .local)
  (hNc : (x1 :: x2 :: ns).Nodup) (hlen : cap.length = ns.length) (hcap : ∀ (j k : Nat) (nm : Str), cap[j]? = some k → ns[j]? = some nm → X.N[k]? = some nm ∧ (X.env.scope.names.lookup nm = some .cell ∨ X.env.scope.names.lookup nm = some .free))
  (hns : ∀ nm ∈ ns, (nm, NameKind.free) ∈ scope.names ∧ (nm, NameKind.cell) ∉ scope.names) (hnsk : ∀ nm ∈ ns, scope.names.lookup nm = some .free) (hfree : ∀ y ∈ scope.names, y.2 = .free → X.env.scope.names.lookup y.1 = some .cell ∨ X.env.scope.names.lookup y.1 = some .free)
  (hi : PI X (.Tuple [.Name x1 px1, .Name x2 px2] kk tp) iter wi)
  (ht : ∀ cs C s₀ H₀ fp, PIf (aR X scope cs C (x1 :: x2 :: ns) s₀ H₀ fp) ifs tt) (he : ∀ cs C s₀ H₀ fp, PE (aR X scope cs C (x1 :: x2 :: ns) s₀ H₀ fp) elt te)
  (hs : ∀ v, foldedSetIterable iter X.env v = pure v := by intro _; rfl)
  {use : Option (Value → Sem Unit)} {Q' : Value → Shared → Prop} {pins : List (Addr × Obj)} {s : Shared} {σ : St} {H : Hp} {Q : VK} {ip : Pos} (I : Inv X pins σ H s) (h : oV X.K wi cap tt te σ H Q)
  (hfin : ∀ (D C : Addr) (H' : Hp) (s' : Shared), Inv X pins σ H' s' → Q (.ref D) H' → (∃ m, s'.heap.Ns C m) → CFree X pins H' C → compPost (model X.prog X.w) X.A X.xe use Q' (.ref D) C (.ok .next) s') :
  wpAny (model X.prog X.w) X.A (comprehension (.ListComp elt [⟨.Tuple [.Name x1 px1, .Name x2 px2] kk tp, iter, ifs, 0⟩] scope pos) scope X.env ip (newList []) false (eval iter X.env) use) Q' X.xe s := by
 obtain ⟨cl, ecl, cl1, cl2⟩ := lP (scope := scope) (env := X.env) fun n hn => I.ok.has n (hfree (n, .free) hn rfl)
 refine wpAny_comprehension_free (use := use) rfl hs ecl hkind hnames (thn (hi pins s σ H _ I h) fun xv s1 h1 => thn h1 fun itv s2 h2 => ?_)
 obtain ⟨it, fp, tn, J, H2, rfl, I2, T, st2, f2, q⟩ := h2
 have hD : H2 s2.heap.objs.size = none := I2.fresh
 obtain ⟨W, ⟨m0, w0⟩, step⟩ := q s2.heap.objs.size hD
 refine wpAny_newObj_type ?_ (by show 0 ≤ sizeLine; exact Nat.zero_le _)
 have I3 : Inv X pins σ (upd H2 s2.heap.objs.size (.lst [])) { s2 with heap := s2.heap.push { cls := .type "list", data := .seq ([] : List Value).toArray } } :=
  I2.laid (t' := s2.toks) (fun b u e => Heap.get?_push_of_some _ e) (Nat.le_refl _) ⟨Nat.zero_le _, [], 0, .nil, Heap.get?_push_size _ rfl⟩
 have sz3 : (s2.heap.push { cls := .type "list", data := .seq ([] : List Value).toArray }).objs.size = s2.heap.objs.size + 1 := Heap.size_push ..
 have hfp3 : ∀ b ∈ fp, ∀ o, (upd H2 s2.heap.objs.size (.lst [])) b ≠ some o := fun b hb o z => by
  obtain ⟨ob, e, _⟩ := T.obj 0 _ st2 b hb
  rw [aW (Nat.ne_of_lt (Heap.lt_size e)), (f2 b hb).1] at z
  cases z
 revert I3 sz3 w0 step hfp3
 generalize upd H2 s2.heap.objs.size (.lst []) = H3
 generalize hs3 : ({ s2 with heap := s2.heap.push { cls := .type "list", data := .seq ([] : List Value).toArray } } : Shared) = s3
 intro step w0 I3 sz3 hfp3
 have st3 : tn 0 s3.heap := T.keep 0 _ _ st2 fun b _ o e => by rw [← hs3]; exact Heap.get?_push_of_some _ e
 have fpLt : ∀ b ∈ fp, b < s3.heap.objs.size := fun b hb => by
  obtain ⟨o, e, _⟩ := T.obj 0 _ st3 b hb
  exact Heap.lt_size e
 refine nV ?_
 have new : CellsOk (pushCells (s3.heap.push { cls := .type "dict", data := .dict #[] }) scope.names) (s3.heap.objs.size + 1) (cellsFrom (s3.heap.objs.size + 1) scope.names []) := by
  have ok := cellsFrom_ok scope.names (s3.heap.push { cls := .type "dict", data := .dict #[] }) (s3.heap.objs.size + 1) [] ⟨fun _ _ hm => (nomatch hm), List.Pairwise.nil⟩ (by rw [Heap.size_push]; exact Nat.le_refl _)
  rw [Heap.size_push] at ok
  exact ok
 have keep4 : ∀ b o, s3.heap.get? b = some o → (pushCells (s3.heap.push { cls := .type "dict", data := .dict #[] }) scope.names).get? b = some o := fun b o e => pushCells_keeps _ _ b o (Heap.get?_push_of_some _ e)
 have nsC : (pushCells (s3.heap.push { cls := .type "dict", data := .dict #[] }) scope.names).Ns s3.heap.objs.size (fun _ => none) := (Heap.Ns.new s3.heap (.type "dict")).keeps (pushCells_keeps _ _)
 have lk : ∀ y c, (cellsFrom (s3.heap.objs.size + 1) scope.names cl).lookup y = some c → ((y, c) ∈ cellsFrom (s3.heap.objs.size + 1) scope.names [] ∧ (y, NameKind.cell) ∈ scope.names) ∨ (cl.lookup y = some c ∧ X.env.cells.lookup y = some c) := fun y c e => by
  rw [dN, eF] at e
  cases z : (cellsFrom (s3.heap.objs.size + 1) scope.names []).lookup y with
  | some c' =>
   rw [z] at e
   have e' : c' = c := Option.some.inj e
   subst e'
   have hm := PySem.mem_of_lookup z
   rcases kE _ _ _ hm with q | q
   ·exact .inl ⟨hm, q⟩
   ·cases q
  | none => rw [z] at e; exact .inr ⟨e, cl1 y c e⟩
 have oldLt : ∀ y c, X.env.cells.lookup y = some c → c < s3.heap.objs.size := fun y c e => by
  obtain ⟨v, z⟩ := I3.cell y c e
  exact z.lt
 have hlk2 : ∀ nm ∈ ns, ∃ c, (cellsFrom (s3.heap.objs.size + 1) scope.names cl).lookup nm = some c ∧ X.env.cells.lookup nm = some c := fun nm hnm => by
  obtain ⟨h1, h2⟩ := hns nm hnm
  obtain ⟨c, e⟩ := cl2 nm h1
  refine ⟨c, ?_, cl1 nm c e⟩
  rw [dN, eF]
  cases z : (cellsFrom (s3.heap.objs.size + 1) scope.names []).lookup nm with
  | some c' =>
   rcases kE _ _ _ (PySem.mem_of_lookup z) with q | q
   ·exact absurd q h2
   ·cases q
  | none => exact e
 show codeAny (model X.prog X.w) X.A (.compStart (.ListComp elt [⟨.Tuple [.Name x1 px1, .Name x2 px2] kk tp, iter, ifs, 0⟩] scope pos) 0 (.ref it) (.ref s2.heap.objs.size) (aR X scope (cellsFrom (s3.heap.objs.size + 1) scope.names cl) s3.heap.objs.size (x1 :: x2 :: ns) s3 H3 fp).env) (compPost (model X.prog X.w) X.A X.xe use Q' (.ref s2.heap.objs.size) s3.heap.objs.size) { s3 with heap := pushCells (s3.heap.push { cls := .type "dict", data := .dict #[] }) scope.names }
 have ht' := ht (cellsFrom (s3.heap.objs.size + 1) scope.names cl) s3.heap.objs.size s3 H3 fp
 have he' := he (cellsFrom (s3.heap.objs.size + 1) scope.names cl) s3.heap.objs.size s3 H3 fp
 have OK : (aR X scope (cellsFrom (s3.heap.objs.size + 1) scope.names cl) s3.heap.objs.size (x1 :: x2 :: ns) s3 H3 fp).Ok := by
  refine ⟨I3.ok.mod, hkind, I3.ok.glob, I3.ok.blt, Nat.le_refl _, fun y z c e1 e2 => ?_, fun y hy => ?_, fun y c hf e => ?_, fun _ => I3.ok.hd hc, I3.ok.frames, .inl rfl, fun b hb => ⟨Nat.ne_of_lt (fpLt b hb), fun y c e => ?_⟩, I3.bs, Nat.le_trans I3.ok.bsz I3.sz, fun b o e hb => ?_, fun b hb hm => ?_, I3.stack, I3.stkFree⟩
  ·rcases lk y c e1 with ⟨a1, _⟩ | ⟨a1, a2⟩ <;> rcases lk z c e2 with ⟨b1, _⟩ | ⟨b1, b2⟩
   ·exact name_of_addr new.apart a1 b1
   ·exact absurd (Nat.lt_of_lt_of_le (oldLt z c b2) (Nat.le_of_succ_le (new.empty y c a1).2)) (Nat.lt_irrefl _)
   ·exact absurd (Nat.lt_of_lt_of_le (oldLt y c a2) (Nat.le_of_succ_le (new.empty z c b1).2)) (Nat.lt_irrefl _)
   ·exact I3.ok.inj y z c a2 b2
  ·have key : scope.names.lookup y = some .cell ∨ scope.names.lookup y = some .free := by
    rcases hy with hy | hy
    ·rcases cL (env := X.env) (names := scope.names) hy with q | ⟨q, _⟩
     ·exact .inl q
     ·exact .inr q
    ·rcases cL (env := X.env) (names := scope.names) hy with q | ⟨q, _⟩
     ·exact .inr q
     ·exact .inr q
   rcases key with q | q
   ·exact Option.isSome_iff_exists.mp (PySem.W.cellsFrom_some scope.names (s3.heap.objs.size + 1) cl (.inl q))
   ·obtain ⟨c, e⟩ := cl2 y (PySem.mem_of_lookup q)
    exact Option.isSome_iff_exists.mp (PySem.W.cellsFrom_some scope.names (s3.heap.objs.size + 1) cl (.inr (by rw [e]; rfl)))
  ·have hf' : scope.names.lookup y = some .cell := by
    have hf0 : (scope.names.lookup y == some .cell) = true := hf
    simpa using hf0
   have e' : (cellsFrom (s3.heap.objs.size + 1) scope.names cl).lookup y = some c := e
   have e0 := Option.isSome_iff_exists.mp (PySem.W.cellsFrom_some scope.names (s3.heap.objs.size + 1) [] (.inl hf'))
   obtain ⟨c', z⟩ := e0
   rw [dN, eF, z] at e'
   cases e'
   exact Nat.le_of_succ_le (new.empty y c (PySem.mem_of_lookup z)).2
  ·rcases lk y c e with ⟨a1, _⟩ | ⟨a1, a2⟩
   ·exact fun z => absurd (Nat.lt_of_lt_of_le (fpLt b hb) (z ▸ Nat.le_of_succ_le (new.empty y c a1).2)) (Nat.lt_irrefl _)
   ·exact (f2 b hb).2.2.2.2.1 y c a2
  ·rcases (f2 b hb).2.2.2.1 with z | z
   ·exact I3.ok.noex b o e z
   ·exact absurd (Nat.lt_of_lt_of_le (Heap.lt_size (I3.ok.bs b o e).1) z) (Nat.lt_irrefl _)
  ·rcases List.mem_cons.mp (I3.stkSub b hm) with z | z
   ·exact (f2 b hb).2.1 z
   ·exact (f2 b hb).2.2.1 z
 have IY : Inv (aR X scope (cellsFrom (s3.heap.objs.size + 1) scope.names cl) s3.heap.objs.size (x1 :: x2 :: ns) s3 H3 fp) [] (none :: none :: cap.map fun k => (σ[k]?).join) H3 { s3 with heap := pushCells (s3.heap.push { cls := .type "dict", data := .dict #[] }) scope.names } := by
  refine ⟨OK, rfl, I3.bare, Un.kept keep4, ⟨_, nsC, fun i nm v e1 e2 e3 => ?_⟩, fun y c e => ?_, I3.fresh, fun y c e => ?_, fun p hp => absurd (show p ∈ ([] : List (Addr × Obj)) from hp) (by simp), I3.hok.kept keep4, by simp [aR, hlen]⟩
  ·cases i with
   | zero => cases e2
   | succ i' =>
   cases i' with
   | zero => cases e2
   | succ j =>
    have e1' : ns[j]? = some nm := e1
    have e2' : (cap.map fun k => (σ[k]?).join)[j]? = some (some v) := e2
    rw [List.getElem?_map] at e2'
    cases hk : cap[j]? with
    | none => rw [hk] at e2'; cases e2'
    | some k =>
     rw [hk] at e2'
     have e2'' : (σ[k]?).join = some v := Option.some.inj e2'
     have e4 : σ[k]? = some (some v) := by
      cases z : σ[k]? with
      | none => rw [z] at e2''; cases e2''
      | some o => rw [z] at e2''; exact congrArg some e2''
     obtain ⟨hN, hcell⟩ := hcap j k nm hk e1'
     obtain ⟨m, _, hl⟩ := I3.loc
     obtain ⟨u, r, l⟩ := hl k nm v hN e4 (.inr hcell)
     refine ⟨u, r, ?_⟩
     rcases l with ⟨l1, _⟩ | ⟨_, c, ec, z⟩
     ·have l1' : X.env.scope.names.lookup nm = some .local := l1
      rcases hcell with q | q <;> rw [q] at l1' <;> cases l1'
     ·obtain ⟨c', g1, g2⟩ := hlk2 nm (List.mem_of_getElem? e1')
      rw [ec] at g2
      cases g2
      refine .inr ⟨?_, c, g1, ?_⟩
      ·rcases e3 with q | q
       ·rcases cL (env := X.env) (names := scope.names) q with w1 | ⟨_, w1⟩
        ·exfalso
         have hmem := (hns nm (List.mem_of_getElem? e1')).1
         have := hnames (nm, .local) (PySem.mem_of_lookup w1) rfl
         -- a name has one kind in a scope: its cell is known, so it is not local here
         exact absurd (I3.ok.has nm (hfree (nm, .free) hmem rfl)) (fun _ => by
          have hk2 := (hnsk nm (List.mem_of_getElem? e1'))
          rw [w1] at hk2; cases hk2)
        ·cases w1
       ·exact q
      ·obtain ⟨o, ho, hd⟩ := z
       exact ⟨o, keep4 c o ho, hd⟩
  ·rcases lk y c e with ⟨a1, _⟩ | ⟨a1, a2⟩
   ·exact ⟨none, (new.empty y c a1).1⟩
   ·obtain ⟨v, o, ho, hd⟩ := I3.cell y c a2
    exact ⟨v, o, keep4 c o ho, hd⟩
  ·rcases lk y c e with ⟨a1, _⟩ | ⟨a1, a2⟩
   ·exact I3.hok.fresh (Nat.le_of_succ_le (new.empty y c a1).2)
   ·exact I3.freeC y c a2
 -- what is reached at the end
 have fin : ∀ {σ' : St} {H' : Hp} {s' : Shared}, Inv (aR X scope (cellsFrom (s3.heap.objs.size + 1) scope.names cl) s3.heap.objs.size (x1 :: x2 :: ns) s3 H3 fp) [] σ' H' s' → Q (.ref s2.heap.objs.size) H' →
   compPost (model X.prog X.w) X.A X.xe use Q' (.ref s2.heap.objs.size) s3.heap.objs.size (.ok .next) s' := fun {σ' H' s'} J qd => by
  obtain ⟨m', hn', _⟩ := J.loc
  have hCn : H' s3.heap.objs.size = none := J.free
  refine hfin _ _ H' s' (I3.call' (ch := fp) J.os J.base J.hok J.bare fun b hb => ⟨(f2 b hb).2.2.2.1, (f2 b hb).2.1, (f2 b hb).2.2.2.2.1, (f2 b hb).2.2.2.2.2⟩) qd ⟨m', hn'⟩ ⟨hCn, Nat.ne_of_gt I3.lt, I3.sz, fun y c e => Nat.ne_of_lt (oldLt y c e), fun p hp => Nat.ne_of_lt (Heap.lt_size (I3.pin p hp).1)⟩
 have fpY : ∀ {H' : Hp}, (∀ b ∈ fp, H' b = none) → ∀ b ∈ fp, FpOk (aR X scope (cellsFrom (s3.heap.objs.size + 1) scope.names cl) s3.heap.objs.size (x1 :: x2 :: ns) s3 H3 fp) [] H' b := fun {H'} hn b hb =>
  ⟨hn b hb, (OK.exf b hb).1, OK.exfs b hb, .inl hb, (OK.exf b hb).2, fun p hp => absurd (show p ∈ ([] : List (Addr × Obj)) from hp) (by simp)⟩
 have st4 : tn 0 (pushCells (s3.heap.push { cls := .type "dict", data := .dict #[] }) scope.names) := T.keep 0 _ _ st3 fun b _ o e => keep4 b o e
 have fr3 : ∀ b ∈ fp, H3 b = none := fun b hb => by
  cases z : H3 b with
  | none => rfl
  | some o => exact absurd rfl (fun _ : (1 : Nat) = 1 => hfp3 b hb o z)
 have loop : codeAny (model X.prog X.w) X.A (.compLoop (.ListComp elt [⟨.Tuple [.Name x1 px1, .Name x2 px2] kk tp, iter, ifs, 0⟩] scope pos) 0 (.ref it) (.ref s2.heap.objs.size) (aR X scope (cellsFrom (s3.heap.objs.size + 1) scope.names cl) s3.heap.objs.size (x1 :: x2 :: ns) s3 H3 fp).env) (compPost (model X.prog X.w) X.A X.xe use Q' (.ref s2.heap.objs.size) s3.heap.objs.size) { s3 with heap := pushCells (s3.heap.push { cls := .type "dict", data := .dict #[] }) scope.names } := by
  refine mJ (fun n s' => ∃ i ys o1 o2 H', Inv (aR X scope (cellsFrom (s3.heap.objs.size + 1) scope.names cl) s3.heap.objs.size (x1 :: x2 :: ns) s3 H3 fp) [] (o1 :: o2 :: cap.map fun k => (σ[k]?).join) H' s' ∧ tn i s'.heap ∧ (∀ b ∈ fp, H' b = none) ∧ W i n ys H') ?_ m0 ⟨0, [], none, none, H3, IY, st4, fr3, w0⟩
  rintro n s5 ⟨i, ys, o1, o2, H5, I5, st5, fr5, w5⟩
  obtain ⟨eD, alt⟩ := step i n ys H5 w5
  rcases alt with ⟨stop, qd⟩ | ⟨go, hz, turn⟩
  ·refine thn (T.done (aR X scope (cellsFrom (s3.heap.objs.size + 1) scope.names cl) s3.heap.objs.size (x1 :: x2 :: ns) s3 H3 fp) rfl rfl rfl hc i [] s5 _ H5 (fun _ _ => False) I5 (fpY fr5) st5 stop) fun r s6 ⟨hr, I6⟩ => ?_
   subst hr
   exact fin I6 qd
  ·refine thn (T.item (aR X scope (cellsFrom (s3.heap.objs.size + 1) scope.names cl) s3.heap.objs.size (x1 :: x2 :: ns) s3 H3 fp) rfl rfl rfl hc i [] s5 _ H5 (fun _ _ => False) I5 (fpY fr5) st5 go) fun r s6 ⟨u, hr, h6⟩ => ?_
   subst hr
   refine thn h6 fun _ s7 ⟨xv', H7, I7, r7, y7, st7, fr7⟩ => ?_
   have I7' := I7.pinned (fpY fr7) (T.obj _ _ st7)
   obtain ⟨pv, xa, xb, ex, sq, turn'⟩ := turn xv' _ y7
   have fnx : ∀ {x : Str}, (scope.names.lookup x = some .cell ∨ (relabel scope X.env).names.lookup x = some .local) → (aR X scope (cellsFrom (s3.heap.objs.size + 1) scope.names cl) s3.heap.objs.size (x1 :: x2 :: ns) s3 H3 fp).fn x = true ∨ (relabel scope X.env).names.lookup x = some .local := fun h => h.elim (fun z => .inl (by show (scope.names.lookup _ == some .cell) = true; rw [z]; rfl)) .inr
   have hst : PG (aR X scope (cellsFrom (s3.heap.objs.size + 1) scope.names cl) s3.heap.objs.size (x1 :: x2 :: ns) s3 H3 fp) (.Tuple [.Name x1 px1, .Name x2 px2] kk tp) (gTup X.K 2 (gCons (lN 0) (gCons (lN 1) gNil))) := pg_tup hc (oE (nB hNc rfl hx1 (fnx hxf1)) (oE (nB hNc rfl hx2 (fnx hxf2)) pgs_nil rfl) rfl) rfl rfl
   refine thn (hst _ s7 _ H7 xv' u (fun σ8 H8 => σ8 = (some xa :: some xb :: cap.map fun k => (σ[k]?).join) ∧ H8 = H7) I7' r7 ⟨pv, [xa, xb], ex, sq, rfl, _, _, rfl, _, _, rfl, rfl, rfl, rfl⟩) fun _ s8 ⟨σ8, H8, I8, e8, e8'⟩ => ?_
   subst e8 e8'
   have back : ∀ {σ9 : St} {H9 : Hp} {s9 : Shared}, Inv (aR X scope (cellsFrom (s3.heap.objs.size + 1) scope.names cl) s3.heap.objs.size (x1 :: x2 :: ns) s3 H3 fp) ([] ++ kA fp s7.heap) σ9 H9 s9 → tn (i + 1) s9.heap ∧ ∀ b ∈ fp, H9 b = none := fun {σ9 H9 s9} I9 => by
    refine ⟨T.keep _ _ _ st7 fun b hb o e => (I9.pin (b, o) (List.mem_append_right _ (List.mem_append_right _ (fK hb e)))).1, fun b hb => ?_⟩
    obtain ⟨o, e, d⟩ := T.obj _ _ st7 b hb
    exact (I9.pin (b, o) (List.mem_append_right _ (List.mem_append_right _ (fK hb e)))).2.1
   refine thn (ht' _ s8 _ _ _ I8 turn') fun b s9 ⟨H9, I9, q9⟩ => ?_
   cases b with
   | false =>
    rw [if_neg Bool.false_ne_true] at q9 ⊢
    obtain ⟨m', hm, w9⟩ := q9
    obtain ⟨st9, fr9⟩ := back I9
    exact ⟨m', hm, i + 1, ys, _, _, H9, I9.unpinned, st9, fr9, w9⟩
   | true =>
    rw [if_pos rfl] at q9 ⊢
    refine thn (he' _ s9 _ _ _ I9 q9) fun yv s10 ⟨y, H10, I10, r10, eD10, m', hm, w10⟩ => ?_
    refine thn (iN (X := aR X scope (cellsFrom (s3.heap.objs.size + 1) scope.names cl) s3.heap.objs.size (x1 :: x2 :: ns) s3 H3 fp) _ s10 _ H10 (.ref s2.heap.objs.size) [y] (.ref s2.heap.objs.size) [yv] (fun _ H11 => H11 = upd H10 s2.heap.objs.size (.lst (ys ++ [y]))) I10 rfl (.cons r10 .nil) ⟨_, ys, y, rfl, rfl, eD10, hz, rfl⟩) fun _ s11 ⟨_, H11, I11, _, e11⟩ => ?_
    subst e11
    obtain ⟨st11, fr11⟩ := back I11
    exact ⟨m', hm, i + 1, _, _, _, _, I11.unpinned, st11, fr11, w10⟩
 exact codeAny_compStart_list loop (T.self X.A 0 _ _ _ st4 loop)
theorem pe_comp2 {X : Cx} {x1 x2 : Str} {px1 px2 tp pos : Pos} {kk : Nat} {iter elt : Expr} {ifs : List Expr} {scope : Scope} {ns : List Str} {cap : List Nat} {wi : TI} {tt : TT} {te : TE} (hc : X.calm = true) (hkind : scope.kind = .function)
  (hnames : ∀ y ∈ scope.names, y.2 = .local → scope.names.lookup y.1 = some .local) (hx1 : Loc (relabel scope X.env) x1) (hxf1 : scope.names.lookup x1 = some .cell ∨ (relabel scope X.env).names.lookup x1 = some .local) (hx2 : Loc (relabel scope X.env) x2) (hxf2 : scope.names.lookup x2 = some .cell ∨ (relabel scope X.env).names.lookup x2 = some .local)
  (hNc : (x1 :: x2 :: ns).Nodup) (hlen : cap.length = ns.length) (hcap : ∀ (j k : Nat) (nm : Str), cap[j]? = some k → ns[j]? = some nm → X.N[k]? = some nm ∧ (X.env.scope.names.lookup nm = some .cell ∨ X.env.scope.names.lookup nm = some .free))
  (hns : ∀ nm ∈ ns, (nm, NameKind.free) ∈ scope.names ∧ (nm, NameKind.cell) ∉ scope.names) (hnsk : ∀ nm ∈ ns, scope.names.lookup nm = some .free) (hfree : ∀ y ∈ scope.names, y.2 = .free → X.env.scope.names.lookup y.1 = some .cell ∨ X.env.scope.names.lookup y.1 = some .free)
  (hi : PI X (.Tuple [.Name x1 px1, .Name x2 px2] kk tp) iter wi)
  (ht : ∀ cs C s₀ H₀ fp, PIf (aR X scope cs C (x1 :: x2 :: ns) s₀ H₀ fp) ifs tt) (he : ∀ cs C s₀ H₀ fp, PE (aR X scope cs C (x1 :: x2 :: ns) s₀ H₀ fp) elt te)
  (hs : ∀ v, foldedSetIterable iter X.env v = pure v := by intro _; rfl) :
  PE X (.ListComp elt [⟨.Tuple [.Name x1 px1, .Name x2 px2] kk tp, iter, ifs, 0⟩] scope pos) (oV X.K wi cap tt te) := by
 intro pins s σ H Q I h
 rw [eval_ListComp]
 refine uP hc hkind hnames hx1 hxf1 hx2 hxf2 hNc hlen hcap hns hnsk hfree hi ht he hs (use := none) I h fun D C H' s' J q ⟨m, hn⟩ cf => ⟨m, hn, fun h' hs' => ?_⟩
 exact ⟨.ref D, H', J.turned (t' := s'.toks) (it := C) (fun b o hb e => (hs'.2 b hb).trans e) cf.hn cf.hL (.inr cf.h1) cf.h2 cf.h3, rfl, q⟩
end L2
namespace L2
open PySem PySem.Spec PyProof.Rows
def mS (sc scope : Scope) (x1 x2 : Str) (ns : List Str) (cap : List Nat) (N : List Str) : Bool := gW sc scope x1 ns cap N && gW sc scope x2 ns cap N && decide (x1 ≠ x2)
theorem pe_compA2 {X : Cx} {x1 x2 : Str} {px1 px2 tp pos : Pos} {kk : Nat} {iter elt : Expr} {ifs : List Expr} {scope sc : Scope} {N : List Str} (ns : List Str) (cap : List Nat) {wi : TI} {tt : TT} {te : TE} (hc : X.calm = true) (hsc : X.env.scope = sc) (hN : X.N = N) (ok : mS sc scope x1 x2 ns cap N = true)
  (hi : PI X (.Tuple [.Name x1 px1, .Name x2 px2] kk tp) iter wi)
  (ht : ∀ cs C s₀ H₀ fp, PIf (aR X scope cs C (x1 :: x2 :: ns) s₀ H₀ fp) ifs tt) (he : ∀ cs C s₀ H₀ fp, PE (aR X scope cs C (x1 :: x2 :: ns) s₀ H₀ fp) elt te)
  (hs : ∀ v, foldedSetIterable iter X.env v = pure v := by intro _; rfl) :
  PE X (.ListComp elt [⟨.Tuple [.Name x1 px1, .Name x2 px2] kk tp, iter, ifs, 0⟩] scope pos) (oV X.K wi cap tt te) := by
 subst hsc hN
 unfold mS at ok
 simp only [Bool.and_eq_true, decide_eq_true_eq] at ok
 obtain ⟨⟨ok1, ok2⟩, hne⟩ := ok
 have k := j7 ok1
 have k2 := j7 ok2
 have nd : (x1 :: x2 :: ns).Nodup := by
  obtain ⟨a1, a2⟩ := List.nodup_cons.mp k.hNc
  obtain ⟨b1, b2⟩ := List.nodup_cons.mp k2.hNc
  refine List.nodup_cons.mpr ⟨fun h => ?_, k2.hNc⟩
  rcases List.mem_cons.mp h with h | h
  ·exact hne h
  ·exact a1 h
 have one : ∀ {x : Str}, (scope.names.lookup x = some .local ∨ scope.names.lookup x = some .cell) → Loc (relabel scope X.env) x := fun h => by
  rcases h with z | z
  ·exact .inl (lookup_relabel_local z)
  ·exact .inr (dB z)
 have two : ∀ {x : Str}, (scope.names.lookup x = some .local ∨ scope.names.lookup x = some .cell) → scope.names.lookup x = some .cell ∨ (relabel scope X.env).names.lookup x = some .local := fun h => by
  rcases h with z | z
  ·exact .inr (lookup_relabel_local z)
  ·exact .inl z
 exact pe_comp2 hc k.hkind k.hnames (one k.hx) (two k.hx) (one k2.hx) (two k2.hx) nd k.hlen k.hcap k.hns k.hnsk k.hfree hi ht he hs
end L2
namespace Z
open PySem L2
theorem EnvR.cap2 {K : Fg} {G : Hp} {Γ : Gm} {σ : St} (h : EnvR K G Γ σ) {d1 d2 : D} {v1 v2 : V} (e1 : Den K G d1 v1) (e2 : Den K G d2 v2) (cap : List Nat) : EnvR K G (some d1 :: some d2 :: cap.map fun k => (Γ[k]?).join) (some v1 :: some v2 :: cap.map fun k => (σ[k]?).join) := by
 have c := h.cap e2 cap
 refine ⟨by simp, fun i q' z => ?_⟩
 cases i with
 | zero => simp at z; subst z; exact ⟨v1, rfl, e1⟩
 | succ i => exact c.get i q' z
def Comp2 (X : Cx) (x1 x2 : Str) (ns : List Str) (cap : List Nat) (elt : Expr) (ifs : List Expr) (scope : Scope) (Γ : Gm) (k : D → Mem → Prop) (ds : List D) (M1 : Mem) : Prop :=
 ds.length ≤ sizeLine ∧ (∀ d ∈ ds, ∃ d1 d2, d = .tup [d1, d2]) ∧ ∃ I : Nat → List D → Mem → Prop, I 0 [] M1 ∧
  (∀ i d1 d2 acc M2, ds[i]? = some (.tup [d1, d2]) → I i acc M2 → ∀ cs C s₀ H₀ fp, GIf (aR X scope cs C (x1 :: x2 :: ns) s₀ H₀ fp) ifs (some d1 :: some d2 :: cap.map fun k => (Γ[k]?).join) M2 fun c M3 =>
   if c = true then (∀ cs C s₀ H₀ fp, GE (aR X scope cs C (x1 :: x2 :: ns) s₀ H₀ fp) elt (some d1 :: some d2 :: cap.map fun k => (Γ[k]?).join) M3 (fun y M4 => I (i + 1) (acc ++ [y]) M4)) else I (i + 1) acc M3) ∧
  (∀ acc M2, I ds.length acc M2 → ∀ a, M2 a = none → k (.mt a) (updM M2 a (.lst acc)))
theorem comp_z2 {X : Cx} {x1 x2 : Str} {px1 px2 tp : Pos} {kk : Nat} {iter elt : Expr} {ifs : List Expr} {scope : Scope} {ns : List Str} {cap : List Nat} {Γ : Gm} {M : Mem} {k : D → Mem → Prop}
  (h : GI X (.Tuple [.Name x1 px1, .Name x2 px2] kk tp) iter Γ M (Comp2 X x1 x2 ns cap elt ifs scope Γ k)) {σ : St} {G H : Hp} {Q : VK} (en : EnvR X.K G Γ σ) (rl : Rel X.K G H M) (q : Cont X.K M k G H Q) :
  oV X.K (tUI X (.Tuple [.Name x1 px1, .Name x2 px2] kk tp) iter) cap (fun σ H Q => ∀ cs C s₀ H₀ fp, tUIf (aR X scope cs C (x1 :: x2 :: ns) s₀ H₀ fp) ifs σ H Q) (fun σ H Q => ∀ cs C s₀ H₀ fp, tU (aR X scope cs C (x1 :: x2 :: ns) s₀ H₀ fp) elt σ H Q) σ H Q := by
 refine h σ G H _ en rl fun J G1 H1 ds M1 s1 yd ⟨hlen, hpair, I, h0, hstep, hend⟩ A hA => ?_
 have hA' := s1.rel.free hA
 refine ⟨fun i m ys H2 => m = ds.length - i ∧ i ≤ ds.length ∧ ∃ G2 M2 acc, Stp X.K G1 H1 M1 G2 H2 M2 ∧ H2 A = some (.lst ys) ∧ G2 A = none ∧ M2 A = none ∧ Dens X.K G2 acc ys ∧ I i acc M2 ∧ acc.length ≤ i,
  ⟨ds.length, by simp, Nat.zero_le _, G1, M1, [], (Stp.refl s1.rel).aside hA hA'.1 hA'.2, bG, hA'.1, hA'.2, cF, h0, Nat.le_refl _⟩, ?_⟩
 rintro i m ys H2 ⟨rfl, hi, G2, M2, acc, s2, hl, hg, hm, dn, hI, hacc⟩
 refine ⟨hl, ?_⟩
 by_cases hlt : i < ds.length
 ·refine .inr ⟨yd.go i G2 H2 M2 s2.gg s2.rel hlt, by rw [← dn.len]; omega, fun x H3 y => ?_⟩
  obtain ⟨G3, d, s3, hd, ex⟩ := yd.yld i G2 H2 M2 x H3 s2.gg s2.rel hlt y
  obtain ⟨l3, g3, m3⟩ := s3.fr A _ hl hg hm
  obtain ⟨d1, d2, ed⟩ := hpair d (List.mem_of_getElem? hd)
  subst ed
  obtain ⟨p, vs, ev, sq, dn3⟩ := ex.tup_
  obtain ⟨va, vb, evs, da, db⟩ := dens2 dn3
  subst evs
  refine ⟨p, va, vb, ev, R.seqT s3.rel.same sq, ?_⟩
  intro cs C s₀ H₀ fp
  have en3 := ((en.up s1.gg).up (s2.trans s3).gg).cap2 da db cap
  refine hstep i d1 d2 acc M2 hd hI cs C s₀ H₀ fp _ G3 H3 _ en3 s3.rel fun c G4 H4 M4 s4 h4 => ?_
  obtain ⟨l4, g4, m4⟩ := s4.fr A _ l3 g3 m3
  cases c with
  | true =>
   rw [if_pos rfl] at h4 ⊢
   intro cs C s₀ H₀ fp
   refine h4 cs C s₀ H₀ fp _ G4 H4 _ (en3.up s4.gg) s4.rel fun y G5 H5 d5 M5 s5 e5 h5 => ?_
   obtain ⟨l5, g5, m5⟩ := s5.fr A _ l4 g4 m4
   have s25 := ((s2.trans s3).trans s4).trans s5
   exact ⟨l5, ds.length - (i + 1), by omega, rfl, hlt, G5, M5, acc ++ [d5], s25.aside hA g5 m5, bG, g5, m5, (dn.up ((s3.trans s4).trans s5).gg).append (bZ e5 cF), h5, by rw [List.length_append, List.length_singleton]; omega⟩
  | false =>
   rw [if_neg Bool.false_ne_true] at h4 ⊢
   exact ⟨ds.length - (i + 1), by omega, rfl, hlt, G4, M4, acc, (s2.trans s3).trans s4, l4, g4, m4, dn.up (s3.trans s4).gg, h4, by omega⟩
 ·have e : i = ds.length := by omega
  subst e
  exact .inl ⟨yd.stop _ G2 H2 M2 s2.gg s2.rel rfl, q _ _ _ _ _ (s1.trans (s2.track hA hg hl dn)) den_mt (hend acc M2 hI A hm)⟩
section
variable {X : Cx} {Γ : Gm} {M : Mem} {k : D → Mem → Prop} {pos : Pos} {iter : Expr}
theorem ge_comp2 {x1 x2 : Str} {px1 px2 tp : Pos} {kk : Nat} {elt : Expr} {ifs : List Expr} {scope sc : Scope} {N : List Str} (ns : List Str) (cap : List Nat) (h : GI X (.Tuple [.Name x1 px1, .Name x2 px2] kk tp) iter Γ M (Comp2 X x1 x2 ns cap elt ifs scope Γ k))
  (hsc : X.env.scope = sc := by rfl) (hN : X.N = N := by rfl) (ok : mS sc scope x1 x2 ns cap N = true := by first | decide +kernel | kernel_rfl!) (hc : X.calm = true := by rfl) (hs : ∀ v, foldedSetIterable iter X.env v = pure v := by intro _; rfl) :
  GE X (.ListComp elt [⟨.Tuple [.Name x1 px1, .Name x2 px2] kk tp, iter, ifs, 0⟩] scope pos) Γ M k := fun σ G H Q en rl q =>
 bW (pe_compA2 ns cap hc hsc hN ok pUI (fun cs C s₀ H₀ fp pins s σ H Q I h => h cs C s₀ H₀ fp pins s I) (fun cs C s₀ H₀ fp pins s σ H Q I h => h cs C s₀ H₀ fp pins s I) hs) (comp_z2 h en rl q)
def CompF2 (X : Cx) (x1 x2 : Str) (ns : List Str) (cap : List Nat) (elt : Expr) (ifs : List Expr) (scope : Scope) (Γ : Gm) (k : D → Mem → Prop) (ds : List D) (M1 : Mem) : Prop :=
 ds.length ≤ sizeLine ∧ (∀ d ∈ ds, ∃ d1 d2, d = .tup [d1, d2]) ∧ ∃ I : Nat → List D → Mem → Prop, I 0 [] M1 ∧
  (∀ i d1 d2 acc M2, ds[i]? = some (.tup [d1, d2]) → I i acc M2 → ∀ cs C s₀ H₀ fp, GIf (aR X scope cs C (x1 :: x2 :: ns) s₀ H₀ fp) ifs (some d1 :: some d2 :: cap.map fun k => (Γ[k]?).join) M2 fun c M3 =>
   if c = true then (∀ cs C s₀ H₀ fp, GE (aR X scope cs C (x1 :: x2 :: ns) s₀ H₀ fp) elt (some d1 :: some d2 :: cap.map fun k => (Γ[k]?).join) M3 (fun y M4 => I (i + 1) (acc ++ [y]) M4)) else I (i + 1) acc M3) ∧
  (∀ acc M2, I ds.length acc M2 → k (.lst acc) M2)
theorem qE {x1 x2 : Str} {px1 px2 tp : Pos} {kk : Nat} {elt : Expr} {ifs : List Expr} {scope sc : Scope} {N : List Str} (ns : List Str) (cap : List Nat) (h : GI X (.Tuple [.Name x1 px1, .Name x2 px2] kk tp) iter Γ M (CompF2 X x1 x2 ns cap elt ifs scope Γ k))
  (hsc : X.env.scope = sc := by rfl) (hN : X.N = N := by rfl) (ok : mS sc scope x1 x2 ns cap N = true := by first | decide +kernel | kernel_rfl!) (hc : X.calm = true := by rfl) (hs : ∀ v, foldedSetIterable iter X.env v = pure v := by intro _; rfl) :
  GE X (.ListComp elt [⟨.Tuple [.Name x1 px1, .Name x2 px2] kk tp, iter, ifs, 0⟩] scope pos) Γ M k := by
 refine ge_frz (ge_comp2 ns cap ?_ hsc hN ok hc hs)
 intro σ G H Rr en rl q
 refine h σ G H Rr en rl fun J G1 H1 ds M1 s1 yd ⟨hl, hpair, I, h0, hstep, hend⟩ => ?_
 exact q J G1 H1 ds M1 s1 yd ⟨hl, hpair, I, h0, hstep, fun acc M2 hI a ha => ⟨a, acc, M2, rfl, bK, ha, (Le.refl M2).upd ha, hend acc M2 hI⟩⟩
theorem compF2 {x1 x2 : Str} {ns : List Str} {cap : List Nat} {elt : Expr} {ifs : List Expr} {scope : Scope} {ds : List D} {M1 : Mem} (hl : ds.length ≤ sizeLine) (hpair : ∀ d ∈ ds, ∃ d1 d2, d = .tup [d1, d2]) (I : Nat → List D → Mem → Prop) (h0 : I 0 [] M1)
  (hs : ∀ i d1 d2 acc M2, ds[i]? = some (.tup [d1, d2]) → I i acc M2 → ∀ cs C s₀ H₀ fp, GIf (aR X scope cs C (x1 :: x2 :: ns) s₀ H₀ fp) ifs (some d1 :: some d2 :: cap.map fun k => (Γ[k]?).join) M2 fun c M3 =>
   if c = true then (∀ cs C s₀ H₀ fp, GE (aR X scope cs C (x1 :: x2 :: ns) s₀ H₀ fp) elt (some d1 :: some d2 :: cap.map fun k => (Γ[k]?).join) M3 (fun y M4 => I (i + 1) (acc ++ [y]) M4)) else I (i + 1) acc M3)
  (hd : ∀ acc M2, I ds.length acc M2 → k (.lst acc) M2) : CompF2 X x1 x2 ns cap elt ifs scope Γ k ds M1 := ⟨hl, hpair, I, h0, hs, hd⟩
end
end Z
namespace Q
open PySem L2 Z
theorem rN {xs ys : List D} {d : D} (h : d ∈ zipD xs ys) : ∃ d1 d2, d = .tup [d1, d2] := by
 unfold zipD at h
 obtain ⟨p, _, rfl⟩ := List.mem_map.mp h
 exact ⟨_, _, rfl⟩
theorem zip_at {xs ys : List D} {i : Nat} {d1 d2 : D} (h : (zipD xs ys)[i]? = some (.tup [d1, d2])) : xs[i]? = some d1 ∧ ys[i]? = some d2 := by
 unfold zipD at h
 rw [List.getElem?_map] at h
 obtain ⟨p, hp, e⟩ := Option.map_eq_some_iff.mp h
 injection e with e
 injection e with e1 e
 injection e with e2 _
 have := List.getElem?_zip_eq_some.mp (show (xs.zip ys)[i]? = some (p.1, p.2) from hp)
 rw [e1, e2] at this
 exact this
theorem zip_strs {a b : Str} {i : Nat} {d1 d2 : D} (h : (zipD (strD a) (strD b))[i]? = some (.tup [d1, d2])) : ∃ c e, (a.cps.toList.zip b.cps.toList)[i]? = some (c, e) ∧ d1 = .str ⟨#[c]⟩ ∧ d2 = .str ⟨#[e]⟩ := by
 obtain ⟨h1, h2⟩ := zip_at h
 unfold strD at h1 h2
 rw [List.getElem?_map] at h1 h2
 obtain ⟨c, hc, e1⟩ := Option.map_eq_some_iff.mp h1
 obtain ⟨e, he, e2⟩ := Option.map_eq_some_iff.mp h2
 exact ⟨c, e, List.getElem?_zip_eq_some.mpr ⟨hc, he⟩, e1.symm, e2.symm⟩
theorem ok_strs0 (l : List Str) : okDs 0 (l.map D.str) = true := kP fun d hd => by obtain ⟨z, _, rfl⟩ := List.mem_map.mp hd; rfl
end Q
namespace Q
open PySem L2 Z U
def pq (q : Rat) : Int × Int := (q.num, (q.den : Int))
def numD (q : Rat) : D := dL (pq q)
def aP (xs : List Rat) : List D := xs.map numD
theorem bA (xs : List Rat) : (aP xs).length = xs.length := List.length_map ..
structure Bq (q : Rat) : Prop where
 a : q.num.natAbs < 10 ^ 400
 b : q.den < 10 ^ 400
theorem Bq.g {q : Rat} (h : Bq q) : Bg (pq q) := ⟨h.a, by show ((q.den : Int)).natAbs < _; rw [Int.natAbs_natCast]; exact h.b, by show (q.den : Int) ≠ 0; have := q.den_nz; omega⟩
def BqL (xs : List Rat) : Prop := ∀ x ∈ xs, Bq x
theorem lt_pq (a b : Rat) : ltP (pq a) (pq b) = decide (a < b) := by
 unfold ltP pq
 rw [decide_eq_decide]
 exact (Rat.lt_iff a b).symm
theorem pq_inj {a b : Rat} : pq a = pq b ↔ a = b := by
 constructor
 ·intro e
  unfold pq at e
  injection e with e1 e2
  exact Rat.ext e1 (by omega)
 ·intro e; rw [e]
theorem mC (a b : Rat) : eqD (numD a) (numD b) = decide (a = b) := by
 unfold numD
 rw [pair_eqP, decide_eq_decide, pq_inj]
theorem l8 (t b : Int) (hb : b ≠ 0) : lowP t b = pq (Rat.divInt t b) := by
 obtain ⟨h1, h2⟩ := Num.of_divInt t b hb
 unfold pq
 rw [← h1, ← h2]
 rfl
theorem hU (q : Rat) : (q.den : Int) ≠ 0 := by have := q.den_nz; omega
theorem plus_pq (a b : Rat) : lowP ((pq a).1 * (pq b).2 + (pq b).1 * (pq a).2) ((pq a).2 * (pq b).2) = pq (a + b) := by
 exact (l8 _ _ (Int.mul_ne_zero (hU a) (hU b))).trans (congrArg pq (Num.add_rat a b))
theorem minus_pq (a b : Rat) : lowP ((pq a).1 * (pq b).2 - (pq b).1 * (pq a).2) ((pq a).2 * (pq b).2) = pq (a - b) := by
 exact (l8 _ _ (Int.mul_ne_zero (hU a) (hU b))).trans (congrArg pq (Num.sub_rat a b))
theorem times_pq (a b : Rat) : lowP ((pq a).1 * (pq b).1) ((pq a).2 * (pq b).2) = pq (a * b) := by
 exact (l8 _ _ (Int.mul_ne_zero (hU a) (hU b))).trans (congrArg pq (Num.mul_rat a b))
theorem sX (xs : List Int) : fR xs = aP (xs.map fun (x : Int) => (x : Rat)) := by
 unfold fR aP
 rw [List.map_map, List.map_map]; rfl
def pW : Ct := fun ds M k => ∃ p q : Int × Int, ds = [dL p, dL q] ∧ (p.1.natAbs < 10 ^ 400 ∧ p.2.natAbs < 10 ^ 400) ∧ (q.1.natAbs < 10 ^ 400 ∧ q.2.natAbs < 10 ^ 400) ∧ k (.bl (ltP p q)) M
theorem Bq.p {q : Rat} (h : Bq q) : (pq q).1.natAbs < 10 ^ 400 ∧ (pq q).2.natAbs < 10 ^ 400 := ⟨h.g.a, h.g.b⟩
def cPlusQ : Ct := fun ds M k => ∃ a b : Rat, ds = [numD a, numD b] ∧ Bq a ∧ Bq b ∧ k (numD (a + b)) M
def pK : Ct := fun ds M k => ∃ a b : Rat, ds = [numD a, numD b] ∧ Bq a ∧ Bq b ∧ k (numD (a - b)) M
def pZ : Ct := fun ds M k => ∃ a b : Rat, ds = [numD a, numD b] ∧ Bq a ∧ Bq b ∧ k (numD (a * b)) M
theorem hX {ws : List Rat} {i : Nat} (h : i < ws.length) : atI (aP ws) (i : Int) = some (numD (ws.getD i 0)) := eN (by
 unfold aP
 rw [List.getElem?_map, List.getD_eq_getElem?_getD, List.getElem?_eq_getElem h]; rfl)
def cntQ (ws : List Rat) (x : Rat) : Nat := (ws.filter fun w => decide (w < x)).length
def jM (ws : List Rat) (x : Rat) : List Int := if cntQ ws x < ws.length ∧ ws.getD (cntQ ws x) 0 = x then [(cntQ ws x : Int) - 1, (cntQ ws x : Int)] else [(cntQ ws x : Int) - 1]
theorem cnt_off {ws : List Rat} {x : Rat} (h : x ∉ ws) : (cntQ ws x : Int) - 1 = ix ws x := by
 unfold cntQ ix
 congr 3
 refine List.filter_congr fun w hw => ?_
 have : w ≠ x := fun e => h (e ▸ hw)
 rw [decide_eq_decide]
 grind
theorem cnt_on {ws : List Rat} (u : Up ws) {i : Nat} (h : i < ws.length) : cntQ ws ws[i] = i := by
 have e : ix ws ws[i] = i := eP u h
 have : (ws.filter fun w => decide (w ≤ ws[i])).length = cntQ ws ws[i] + 1 := by
  unfold cntQ
  clear e
  revert i
  induction ws with
  | nil => intro i h; exact absurd h (Nat.not_lt_zero _)
  | cons a r ih =>
   intro i h
   obtain ⟨u1, u2⟩ := List.pairwise_cons.mp u
   cases i with
   | zero =>
    have e1 : r.filter (fun w => decide (w ≤ a)) = [] := List.filter_eq_nil_iff.mpr fun b hb => by have := u1 b hb; simp only [decide_eq_true_eq]; grind
    have e2 : r.filter (fun w => decide (w < a)) = [] := List.filter_eq_nil_iff.mpr fun b hb => by have := u1 b hb; simp only [decide_eq_true_eq]; grind
    show ((a :: r).filter fun w => decide (w ≤ a)).length = ((a :: r).filter fun w => decide (w < a)).length + 1
    rw [List.filter_cons_of_pos (by simp only [decide_eq_true_eq]; grind), List.filter_cons_of_neg (by simp only [decide_eq_true_eq]; grind), e1, e2]; rfl
   | succ i =>
    have hi : i < r.length := by simpa using h
    have := u1 _ (List.getElem_mem hi)
    show ((a :: r).filter fun w => decide (w ≤ r[i])).length = ((a :: r).filter fun w => decide (w < r[i])).length + 1
    rw [List.filter_cons_of_pos (by simp only [decide_eq_true_eq]; grind), List.filter_cons_of_pos (by simp only [decide_eq_true_eq]; grind), List.length_cons, List.length_cons, ih u2 hi]
 unfold ix at e
 omega
theorem bands_off {ws : List Rat} {x : Rat} (h : x ∉ ws) : jM ws x = [ix ws x] := by
 unfold jM
 rw [if_neg, cnt_off h]
 rintro ⟨h1, h2⟩
 refine h ?_
 rw [List.getD_eq_getElem?_getD, List.getElem?_eq_getElem h1] at h2
 exact h2 ▸ List.getElem_mem h1
theorem bands_on {ws : List Rat} (u : Up ws) {i : Nat} (h : i < ws.length) : jM ws ws[i] = [(i : Int) - 1, (i : Int)] := by
 unfold jM
 rw [cnt_on u h, if_pos ⟨h, by rw [List.getD_eq_getElem?_getD, List.getElem?_eq_getElem h]; rfl⟩]
theorem oO {ws : List Rat} (u : Up ws) (x : Rat) : atI ((jM ws x).map D.int) (-1) = some (.int (ix ws x)) := by
 by_cases h : x ∈ ws
 ·obtain ⟨i, hi, rfl⟩ := List.getElem_of_mem h
  rw [bands_on u hi, eP u hi]
  exact n8 [D.int _] (D.int _)
 ·rw [bands_off h]; exact n8 [] (D.int _)
def cBandsQ : Ct := fun ds M k => ∃ (ws : List Rat) (x : Rat), ds = [.tup (aP ws), numD x] ∧ BqL ws ∧ ws.length ≤ 100 ∧ Bq x ∧ k (.lst ((jM ws x).map .int)) M
def rJ : Ct := fun ds M k => ∃ xs ys : List Rat, ds = [.tup (aP xs), .tup (aP ys)] ∧ BqL xs ∧ BqL ys ∧ xs.length ≤ 100 ∧ ys.length ≤ 100 ∧ k (.lst (aP (aS xs ys))) M
theorem fT (xs : List Rat) (n : Nat) : (aP xs).drop n = aP (xs.drop n) := by unfold aP; rw [List.map_drop]
theorem cC (xs ys : List Rat) : aP xs ++ aP ys = aP (xs ++ ys) := by unfold aP; rw [List.map_append]
theorem qP (xs : List Rat) : (aP xs).dropLast = aP xs.dropLast := by unfold aP; rw [List.map_dropLast]
theorem nR {xs : List Rat} {js : List Nat} (h : ∀ j ∈ js, j < xs.length) : pickD (aP xs) js = aP (f7 xs js) := by
 unfold pickD aP f7
 rw [List.map_map]
 refine List.map_congr_left fun j hj => ?_
 have := h j hj
 rw [List.getD_eq_getElem?_getD, List.getElem?_map, List.getElem?_eq_getElem this]
 show numD xs[j] = numD (xs.getD j 0)
 rw [List.getD_eq_getElem?_getD, List.getElem?_eq_getElem this]; rfl
def yd (A : Yd) : D := yardD (aP A.ws) (aP A.us) A.K
theorem tidy_yd {xs ys : List Rat} {zs : List Str} (u : Up xs) (v : Up ys) (g : R.Good (xs.length - 1) zs) (hz : zs.length = ys.length - 1) : lC (aP xs) (aP ys) zs = yd (Yd.ofG xs ys zs u v g hz) := by
 unfold lC yd
 rw [nR (eO fun z hz => (g z hz).1), nR (eQ hz)]; rfl
theorem qA (xs : List Rat) : ∀ x ∈ aP xs, okD 1 x = true := fun x hx => by
 obtain ⟨q, _, rfl⟩ := List.mem_map.mp hx
 rfl
theorem ok_yd (A : Yd) : okD 3 (yd A) = true := ok_yardG _ (qA _) (qA _)
theorem tE : ∀ (a b : List Rat), eqDs (aP a) (aP b) = decide (a = b)
 | [], [] => rfl
 | [], b :: bs => by unfold aP; simp [eqDs]
 | a :: as, [] => by unfold aP; simp [eqDs]
 | a :: as, b :: bs => by
  have ih := tE as bs
  unfold aP at ih ⊢
  simp only [List.map_cons, eqDs]
  rw [mC, ih]
  by_cases h1 : a = b <;> by_cases h2 : as = bs <;> simp [h1, h2]
theorem sZ : ∀ (a b : List Str), eqDs (a.map D.str) (b.map D.str) = decide (a = b)
 | [], [] => rfl
 | [], b :: bs => by simp [eqDs]
 | a :: as, [] => by simp [eqDs]
 | a :: as, b :: bs => by
  have ih := sZ as bs
  simp only [List.map_cons, eqDs]
  rw [ih]
  by_cases h1 : a = b <;> by_cases h2 : as = bs <;> simp [h1, h2, eqD]
theorem yd_inj {A B : Yd} : A = B ↔ A.ws = B.ws ∧ A.us = B.us ∧ A.K = B.K := by
 constructor
 ·intro e; subst e; exact ⟨rfl, rfl, rfl⟩
 ·obtain ⟨ws, us, K, _, _, _⟩ := A
  obtain ⟨ws', us', K', _, _, _⟩ := B
  rintro ⟨rfl, rfl, rfl⟩
  rfl
noncomputable instance : DecidableEq Yd := fun _ _ => Classical.propDecidable _
theorem eq_yd (A B : Yd) : eqD (yd A) (yd B) = decide (A = B) := by
 unfold yd yardD
 simp only [eqD, eqDs, tE, sZ, Bool.and_true]
 by_cases h : A = B
 ·subst h; simp
 ·rw [decide_eq_false h]
  by_cases h1 : A.ws = B.ws
  ·by_cases h2 : A.us = B.us
   ·have h3 : A.K ≠ B.K := fun e => h (yd_inj.mpr ⟨h1, h2, e⟩)
    simp [h3]
   ·simp [h2]
  ·simp [h1]
structure Bnd (S : List Rat) : Prop where
 len : S.length ≤ 90
 b : BqL S
theorem onB {Sx Sy : List Rat} {A : Yd} (o : On Sx Sy A) (hx : Bnd Sx) (hy : Bnd Sy) : BqL A.ws ∧ BqL A.us ∧ A.ws.length ≤ 90 ∧ A.us.length ≤ 90 :=
 ⟨fun w hw => hx.b w (o.x w hw), fun w hw => hy.b w (o.y w hw), Nat.le_trans (kH A.uw o.x) hx.len, Nat.le_trans (kH A.uu o.y) hy.len⟩
def nP : Ct := fun ds M k => ∃ (A : Yd) (xs ys : List Rat), ds = [yd A, .lst (aP xs), .lst (aP ys)] ∧ BqL A.ws ∧ BqL A.us ∧ BqL xs ∧ BqL ys ∧ A.ws.length ≤ 90 ∧ A.us.length ≤ 90 ∧ xs.length ≤ 300 ∧ ys.length ≤ 300 ∧ k (.lst ((dC A.has xs ys).map .str)) M
def jX (ps : List Str) (a b : Bool) : Bool := kW ps (R.sg a, R.sg b)
def kS : Ct := fun ds M k => ∃ (A B : Yd) (Sx Sy : List Rat) (ps : List Str), ds = [yd A, yd B, .tup (ps.map .str)] ∧ Bnd Sx ∧ Bnd Sy ∧ On Sx Sy A ∧ On Sx Sy B ∧ ps.length ≤ 10 ∧ k (yd (Yd.op (jX ps) A B)) M
def nH (p : Bool → Bool → Bool) : Ct := fun ds M k => ∃ (A B : Yd) (Sx Sy : List Rat), ds = [yd A, yd B] ∧ Bnd Sx ∧ Bnd Sy ∧ On Sx Sy A ∧ On Sx Sy B ∧ k (yd (Yd.op p A B)) M
def mO (a b : Bool) : Bool := a && b
def kG (a b : Bool) : Bool := a || b
def mU (a b : Bool) : Bool := a && !b
theorem pick_both : jX ["##"] = mO := by funext a b; cases a <;> cases b <;> decide +kernel
theorem tV : jX ["##", "#.", ".#"] = kG := by funext a b; cases a <;> cases b <;> decide +kernel
theorem pick_less : jX ["#."] = mU := by funext a b; cases a <;> cases b <;> decide +kernel
theorem comb_grid (ps : List Str) (f g : Rat → Rat → Bool) (xs ys : List Rat) : (((dC f xs ys).zip (dC g xs ys)).map fun p => combS ps p.1 p.2) = dC (fun x y => jX ps (f x y) (g x y)) xs ys := by
 unfold dC
 rw [List.zip_map', List.map_map]
 refine List.map_congr_left fun y _ => ?_
 show combS ps (R.ofL _) (R.ofL _) = _
 unfold combS
 show R.ofL (((xs.dropLast.map fun x => R.sg (f x y)).zip (xs.dropLast.map fun x => R.sg (g x y))).map fun p => R.sg (kW ps p)) = _
 rw [List.zip_map', List.map_map]
 rfl
theorem fine_has (A : Yd) (xs : List Rat) (y : Rat) : fineS A.K (xs.dropLast.map (ix A.ws)) (ix A.us y) = R.ofL (xs.dropLast.map fun x => R.sg (A.has x y)) := by
 unfold fineS
 rw [List.map_map]; rfl
end Q
namespace U
open PySem
inductive Cmp (g : Rat → Rat) : Rat → List Rat → List Rat → Prop
 | nil {v : Rat} {xs : List Rat} (hv : v = 0) (h : ∀ x ∈ xs, g x = 0) : Cmp g v xs []
 | skip {v a : Rat} {r ws : List Rat} (e : g a = v) (h : Cmp g v r ws) : Cmp g v (a :: r) ws
 | keep {v a : Rat} {r ws : List Rat} (h : Cmp g (g a) r ws) : Cmp g v (a :: r) (a :: ws)
end U
namespace U
open PySem
def Yd.shift (A : Yd) (a b : Rat) : Yd where
 ws := A.ws.map (· + a)
 us := A.us.map (· + b)
 K := A.K
 uw := by unfold Up; rw [List.pairwise_map]; exact A.uw.imp fun h => by grind
 uu := by unfold Up; rw [List.pairwise_map]; exact A.uu.imp fun h => by grind
 T := by rw [List.length_map, List.length_map]; exact A.T
theorem pA {f : Rat → Rat} {x y : Rat} (h : ∀ w, f w ≤ x ↔ w ≤ y) (ws : List Rat) : ix (ws.map f) x = ix ws y := by
 unfold ix
 rw [List.filter_map, List.length_map]
 refine congrArg (fun l : List Rat => (l.length : Int) - 1) (List.filter_congr fun w _ => ?_)
 show decide (f w ≤ x) = decide (w ≤ y)
 rw [decide_eq_decide]; exact h w
theorem Yd.shift_has (A : Yd) (a b x y : Rat) : (A.shift a b).has x y = A.has (x - a) (y - b) := by
 unfold Yd.has inY Yd.shift
 dsimp only
 rw [pA (y := x - a) (fun w => by grind), pA (y := y - b) (fun w => by grind)]
def Yd.scale (A : Yd) (a b : Rat) (ha : 0 < a) (hb : 0 < b) : Yd where
 ws := A.ws.map (· * a)
 us := A.us.map (· * b)
 K := A.K
 uw := by unfold Up; rw [List.pairwise_map]; exact A.uw.imp fun h => Rat.mul_lt_mul_of_pos_right h ha
 uu := by unfold Up; rw [List.pairwise_map]; exact A.uu.imp fun h => Rat.mul_lt_mul_of_pos_right h hb
 T := by rw [List.length_map, List.length_map]; exact A.T
theorem le_div {a w x : Rat} (ha : 0 < a) : w * a ≤ x ↔ w ≤ x / a := by
 have := Rat.div_lt_iff (a := x) (c := w) ha
 constructor
 ·intro h; refine Rat.not_lt.mp fun q => ?_; have := this.mp q; grind
 ·intro h; refine Rat.not_lt.mp fun q => ?_; have := this.mpr q; grind
theorem Yd.scale_has (A : Yd) {a b : Rat} (ha : 0 < a) (hb : 0 < b) (x y : Rat) : (A.scale a b ha hb).has x y = A.has (x / a) (y / b) := by
 unfold Yd.has inY Yd.scale
 dsimp only
 rw [pA (y := x / a) (fun w => le_div ha), pA (y := y / b) (fun w => le_div hb)]
def negL (ws : List Rat) : List Rat := ws.reverse.map fun x => 0 - x
theorem kZ (ws : List Rat) : (negL ws).length = ws.length := by unfold negL; rw [List.length_map, List.length_reverse]
theorem negL_up {ws : List Rat} (u : Up ws) : Up (negL ws) := by
 unfold negL Up
 rw [List.pairwise_map, List.pairwise_reverse]
 exact u.imp fun h => by grind
theorem dA {ws : List Rat} {x : Rat} : x ∈ negL ws ↔ 0 - x ∈ ws := by
 unfold negL
 rw [List.mem_map]
 constructor
 ·rintro ⟨w, hw, rfl⟩
  rw [show (0 : Rat) - (0 - w) = w by grind]
  exact List.mem_reverse.mp hw
 ·intro h
  exact ⟨0 - x, List.mem_reverse.mpr h, by grind⟩
theorem lZ {α : Type} (p : α → Bool) : ∀ l : List α, (l.filter p).length + (l.filter fun a => !p a).length = l.length
 | [] => rfl
 | a :: l => by
  have := lZ p l
  cases h : p a with
  | true => rw [List.filter_cons_of_pos h, List.filter_cons_of_neg (by simp [h])]; simp only [List.length_cons]; omega
  | false => rw [List.filter_cons_of_neg (by simp [h]), List.filter_cons_of_pos (by simp [h])]; simp only [List.length_cons]; omega
theorem ix_neg {ws : List Rat} {x : Rat} (h : 0 - x ∉ ws) : ix (negL ws) x = (ws.length : Int) - 2 - ix ws (0 - x) := by
 have c := lZ (fun w => decide (w ≤ 0 - x)) ws
 have e : ((negL ws).filter fun w => decide (w ≤ x)).length = (ws.filter fun w => !decide (w ≤ 0 - x)).length := by
  unfold negL
  rw [List.filter_map, List.length_map, List.filter_reverse, List.length_reverse]
  refine congrArg List.length (List.filter_congr fun w hw => ?_)
  have : w ≠ 0 - x := fun e => h (e ▸ hw)
  show decide (0 - w ≤ x) = !decide (w ≤ 0 - x)
  rw [← decide_not, decide_eq_decide]
  grind
 unfold ix
 rw [e]
 omega
theorem cnil (a u : Int) : R.aY [] a u = false := by
 cases e : R.aY [] a u with
 | false => rfl
 | true => obtain ⟨_, _, z, hz, _⟩ := R.eI.mp e; cases hz
def Yd.mirror (A : Yd) : Yd where
 ws := negL A.ws
 us := A.us
 K := A.K.map R.revS
 uw := negL_up A.uw
 uu := A.uu
 T := by rw [kZ]; exact Q.rG A.T
def Yd.turn (A : Yd) : Yd where
 ws := negL A.us
 us := A.ws
 K := (R.aF A.K).map R.revS
 uw := negL_up A.uu
 uu := A.uw
 T := by rw [kZ]; exact Q.uY A.T
theorem Yd.big (A : Yd) : A.K = [] ∨ (2 ≤ A.ws.length ∧ 2 ≤ A.us.length) := by
 rcases A.T.v with ⟨h, _, _⟩ | ⟨_, _, _, _, _, h1, h2⟩
 ·exact .inl h
 ·exact .inr ⟨h1, h2⟩
theorem Yd.mirror_has (A : Yd) {x : Rat} (h : 0 - x ∉ A.ws) (y : Rat) : A.mirror.has x y = A.has (0 - x) y := by
 unfold Yd.has inY Yd.mirror
 dsimp only
 rw [ix_neg h]
 rcases A.big with e | ⟨h1, h2⟩
 ·rw [e]; exact (cnil _ _).trans (cnil _ _).symm
 ·rw [R.tH A.wide.1]; congr 1; omega
theorem Yd.turn_has (A : Yd) {x : Rat} (h : 0 - x ∉ A.us) (y : Rat) : A.turn.has x y = A.has y (0 - x) := by
 unfold Yd.has inY Yd.turn
 dsimp only
 rw [ix_neg h]
 rcases A.big with e | ⟨h1, h2⟩
 ·rw [e]; exact (cnil _ _).trans (cnil _ _).symm
 ·rw [R.tH (n := A.K.length) (fun z hz => R.cJ z hz), R.cell_cols A.wide.1, A.wide.2]; congr 1; omega
theorem gap : ∀ (S : List Rat) (x : Rat), ∃ n, x < n ∧ ∀ s ∈ S, x < s → n ≤ s
 | [], x => ⟨x + 1, by grind, fun s hs => (nomatch hs)⟩
 | a :: S, x => by
  obtain ⟨n, h1, h2⟩ := gap S x
  by_cases ha : x < a
  ·by_cases hn : a < n
   ·exact ⟨a, ha, fun s hs hx => by
     rcases List.mem_cons.mp hs with q | q
     ·grind
     ·have := h2 s q hx; grind⟩
   ·exact ⟨n, h1, fun s hs hx => by
     rcases List.mem_cons.mp hs with q | q
     ·grind
     ·exact h2 s q hx⟩
  ·exact ⟨n, h1, fun s hs hx => by
    rcases List.mem_cons.mp hs with q | q
    ·grind
    ·exact h2 s q hx⟩
theorem beside (S : List Rat) (x : Rat) : ∃ x', x' ∉ S ∧ ∀ ws, (∀ w ∈ ws, w ∈ S) → ix ws x' = ix ws x := by
 obtain ⟨n, h1, h2⟩ := gap S x
 refine ⟨(x + n) / 2, fun h => ?_, fun ws hs => ?_⟩
 ·have := h2 _ h (by grind); grind
 ·unfold ix
  refine congrArg (fun l : List Rat => (l.length : Int) - 1) (List.filter_congr fun w hw => ?_)
  rw [decide_eq_decide]
  by_cases hx : x < w
  ·have := h2 w (hs w hw) hx; grind
  ·grind
theorem Yd.ext_off {A B : Yd} (S : List Rat) (h : ∀ x y, x ∉ S → y ∉ S → A.has x y = B.has x y) : A = B := Yd.ext' fun x y => by
 obtain ⟨x', h1, h2⟩ := beside (S ++ (A.ws ++ B.ws)) x
 obtain ⟨y', g1, g2⟩ := beside (S ++ (A.us ++ B.us)) y
 have := h x' y' (fun q => h1 (List.mem_append.mpr (.inl q))) (fun q => g1 (List.mem_append.mpr (.inl q)))
 unfold Yd.has inY at this ⊢
 rwa [h2 A.ws (fun w hw => by simp [hw]), h2 B.ws (fun w hw => by simp [hw]), g2 A.us (fun w hw => by simp [hw]), g2 B.us (fun w hw => by simp [hw])] at this
end U
set_option exponentiation.threshold 500
namespace Q
open PySem L2 Z U
theorem mul_den (q : Rat) : q * (q.den : Rat) = (q.num : Rat) := by
 have h := Rat.num_divInt_den q
 have hd : ((q.den : Int) : Rat) ≠ 0 := by
  intro e
  have := Rat.intCast_inj.mp (e.trans (Rat.intCast_zero).symm)
  have := q.den_nz; omega
 conv => lhs; lhs; rw [← h, Rat.divInt_eq_div]
 rw [← Rat.intCast_natCast, Rat.div_mul_cancel hd]
structure Fr (m B : Nat) (q : Rat) : Prop where
 ex : ∃ k : Int, q * (m : Rat) = (k : Rat) ∧ k.natAbs ≤ B
theorem Fr.cross {m B : Nat} {q : Rat} (h : Fr m B q) : ∃ k : Int, q.num * (m : Int) = k * (q.den : Int) ∧ k.natAbs ≤ B := by
 obtain ⟨k, e, hk⟩ := h.ex
 refine ⟨k, ?_, hk⟩
 have h1 : q * (q.den : Rat) = (q.num : Rat) := mul_den q
 have h2 : ((q.num * (m : Int) : Int) : Rat) = ((k * (q.den : Int) : Int) : Rat) := by
  rw [Rat.intCast_mul, Rat.intCast_mul, Rat.intCast_natCast, Rat.intCast_natCast, ← h1, ← e]
  grind
 exact Rat.intCast_inj.mp h2
theorem Fr.bd {m B : Nat} {q : Rat} (h : Fr m B q) (hm : 0 < m) : q.num.natAbs ≤ B ∧ q.den ≤ m := by
 obtain ⟨k, e, hk⟩ := h.cross
 have e' : q.num.natAbs * m = k.natAbs * q.den := by
  have := congrArg Int.natAbs e
  rwa [Int.natAbs_mul, Int.natAbs_mul, Int.natAbs_natCast, Int.natAbs_natCast] at this
 have hd : q.den ∣ m := by
  refine Nat.Coprime.dvd_of_dvd_mul_left (k := q.den) (m := q.num.natAbs) (Nat.Coprime.symm q.reduced) ?_
  rw [e']; exact Nat.dvd_mul_left _ _
 have hl := Nat.le_of_dvd hm hd
 refine ⟨?_, hl⟩
 have : q.num.natAbs * m ≤ B * m := by
  rw [e']; exact Nat.mul_le_mul hk hl
 exact Nat.le_of_mul_le_mul_right this hm
theorem Fr.bq {m B : Nat} {q : Rat} (h : Fr m B q) (hm : 0 < m) (h1 : m < 10 ^ 400) (h2 : B < 10 ^ 400) : Bq q := ⟨Nat.lt_of_le_of_lt (h.bd hm).1 h2, Nat.lt_of_le_of_lt (h.bd hm).2 h1⟩
theorem Fr.mono {m B B' : Nat} {q : Rat} (h : Fr m B q) (hB : B ≤ B') : Fr m B' q := let ⟨k, e, hk⟩ := h.ex; ⟨k, e, by omega⟩
theorem Fr.zero (m B : Nat) : Fr m B 0 := ⟨0, by rw [Rat.zero_mul]; rfl, by simp⟩
theorem Fr.add {m B C : Nat} {a b : Rat} (h : Fr m B a) (g : Fr m C b) : Fr m (B + C) (a + b) := by
 obtain ⟨k, e, hk⟩ := h.ex
 obtain ⟨l, e', hl⟩ := g.ex
 exact ⟨k + l, by rw [Rat.intCast_add, ← e, ← e']; grind, by omega⟩
theorem Fr.sub {m B C : Nat} {a b : Rat} (h : Fr m B a) (g : Fr m C b) : Fr m (B + C) (a - b) := by
 obtain ⟨k, e, hk⟩ := h.ex
 obtain ⟨l, e', hl⟩ := g.ex
 exact ⟨k - l, by rw [Rat.intCast_sub, ← e, ← e']; grind, by omega⟩
theorem Fr.mul {m n B C : Nat} {a b : Rat} (h : Fr m B a) (g : Fr n C b) : Fr (m * n) (B * C) (a * b) := by
 obtain ⟨k, e, hk⟩ := h.ex
 obtain ⟨l, e', hl⟩ := g.ex
 exact ⟨k * l, by rw [Rat.intCast_mul, ← e, ← e', Rat.natCast_mul]; grind, by rw [Int.natAbs_mul]; exact Nat.mul_le_mul hk hl⟩
theorem Fr.int {m B : Nat} {x : Int} (h : x.natAbs * m ≤ B) : Fr m B (x : Rat) := ⟨x * m, by rw [Rat.intCast_mul, Rat.intCast_natCast], by rw [Int.natAbs_mul, Int.natAbs_natCast]; exact h⟩
def FrL (m B : Nat) (ws : List Rat) : Prop := ∀ w ∈ ws, Fr m B w
def sm : Nat := 10 ^ 60
def toQ (xs : List Int) : List Rat := xs.map fun (x : Int) => (x : Rat)
theorem jB (xs : List Int) : (toQ xs).length = xs.length := List.length_map ..
theorem pF {xs : List Int} (h : xs.Pairwise (· < ·)) : Up (toQ xs) := by
 unfold toQ Up
 rw [List.pairwise_map]
 exact h.imp fun hxy => Rat.intCast_lt_intCast.mpr hxy
def eJ (xs ys : List Int) (zs : List Str) (hx : xs.Pairwise (· < ·)) (hy : ys.Pairwise (· < ·)) (g : R.Good (xs.length - 1) zs) (hz : zs.length = ys.length - 1) : Yd := Yd.ofG (toQ xs) (toQ ys) zs (pF hx) (pF hy) (by rw [jB]; exact g) (by rw [jB]; exact hz)
theorem rO {xs ys : List Int} {zs : List Str} (hx : xs.Pairwise (· < ·)) (hy : ys.Pairwise (· < ·)) (g : R.Good (xs.length - 1) zs) (hz : zs.length = ys.length - 1) : lC (fR xs) (fR ys) zs = yd (eJ xs ys zs hx hy g hz) := by
 rw [sX, sX]
 exact tidy_yd _ _ _ _
def j8 : Ct := fun ds M k => ∃ (A : Yd) (a b : Rat) (ha : 0 < a) (hb : 0 < b), ds = [yd A, numD a, numD b] ∧ BqL A.ws ∧ BqL A.us ∧ Bq a ∧ Bq b ∧ A.ws.length ≤ 90 ∧ A.us.length ≤ 90 ∧ k (yd (Yd.scale A a b ha hb)) M
end Q
set_option exponentiation.threshold 500
namespace Q
open PySem L2 Z U
theorem hB (A B : Yd) (x y : Rat) : (Yd.op mO A B).has x y = (A.has x y && B.has x y) := Yd.op_has rfl A B x y
theorem hE (A B : Yd) (x y : Rat) : (Yd.op kG A B).has x y = (A.has x y || B.has x y) := Yd.op_has rfl A B x y
theorem hL (A B : Yd) (x y : Rat) : (Yd.op mU A B).has x y = (A.has x y && !B.has x y) := Yd.op_has rfl A B x y
theorem in1 (A B : Yd) : Yd.op mU (Yd.op mO A B) A = Yd.void := Yd.ext' fun x y => by rw [hL, hB, Yd.void_has]; cases A.has x y <;> cases B.has x y <;> rfl
theorem fV {K : Fg} {M : Mem} {k : D → Mem → Prop} {A B : Yd} (e : A = B) (h : k (.bl false) M) : Op2 K (rEqD K 3 true) (yd A) (yd B) M k :=
 o2_neD (e1 := yd A) (e2 := yd B) (.tup _) (.tup _) (ok_yd _) (ok_yd _) (by rw [eq_yd, decide_eq_true e]; exact h)
theorem o2_eqY {K : Fg} {M : Mem} {k : D → Mem → Prop} {A B : Yd} (h : k (.bl (decide (A = B))) M) : Op2 K (rEqD K 3 false) (yd A) (yd B) M k :=
 kQ (e1 := yd A) (e2 := yd B) (.tup _) (.tup _) (ok_yd _) (ok_yd _) (by rw [eq_yd]; exact h)
structure Y8 (A : Yd) : Prop where
 x : FrL 6 100000000000 A.ws
 y : FrL 6 100000000000 A.us
 lx : A.ws.length ≤ 7
 ly : A.us.length ≤ 7
structure S8 (S : List Rat) : Prop where
 len : S.length ≤ 30
 fr : FrL 6 100000000000 S
structure O8 (Sx Sy : List Rat) (A : Yd) : Prop where
 on : On Sx Sy A
 sx : S8 Sx
 sy : S8 Sy
theorem num_of {q : Rat} {a : Int} {b : Nat} (h : q.num = a) (h' : q.den = b) : numD q = .tup [.int a, .int (b : Int)] := by unfold numD pq dL; rw [h, h']
theorem num11 : numD 1 = .tup [.int 1, .int 1] := num_of (a := 1) (b := 1) (by decide +kernel) (by decide +kernel)
theorem bq11 : Bq 1 := ⟨by decide +kernel, by decide +kernel⟩
theorem y8_drawn {xs ys : List Int} {zs : List Str} (ux : Up7 xs) (uy : Up7 ys) (g : R.Good (xs.length - 1) zs) (hz : zs.length = ys.length - 1) : (∀ w ∈ (eJ xs ys zs ux.up uy.up g hz).ws, ∃ x ∈ xs, w = (x : Rat)) ∧ (∀ w ∈ (eJ xs ys zs ux.up uy.up g hz).us, ∃ x ∈ ys, w = (x : Rat)) ∧ (eJ xs ys zs ux.up uy.up g hz).ws.length ≤ 7 ∧ (eJ xs ys zs ux.up uy.up g hz).us.length ≤ 7 := by
 obtain ⟨h1, h2⟩ := Yd.ofG_ws (pF ux.up) (pF uy.up) (by rw [jB]; exact g : R.Good ((toQ xs).length - 1) zs) (by rw [jB]; exact hz)
 have fx := ux.few
 have fy := uy.few
 refine ⟨fun w hw => ?_, fun w hw => ?_, ?_, ?_⟩
 ·obtain ⟨x, hx, rfl⟩ := List.mem_map.mp (h1 w hw); exact ⟨x, hx, rfl⟩
 ·obtain ⟨x, hx, rfl⟩ := List.mem_map.mp (h2 w hw); exact ⟨x, hx, rfl⟩
 ·exact Nat.le_trans (kH (eJ xs ys zs ux.up uy.up g hz).uw h1) (by rw [jB]; exact fx)
 ·exact Nat.le_trans (kH (eJ xs ys zs ux.up uy.up g hz).uu h2) (by rw [jB]; exact fy)
end Q
set_option exponentiation.threshold 500
namespace Q
open PySem L2 Z U
def p8 : Ct := fun ds M k => ∃ (A : U.Yd) (a b : Rat), ds = [yd A, numD a, numD b] ∧ BqL A.ws ∧ BqL A.us ∧ Bq a ∧ Bq b ∧ A.ws.length ≤ 90 ∧ A.us.length ≤ 90 ∧ k (yd (A.shift a b)) M
def cOppQ : Ct := fun ds M k => ∃ xs : List Rat, ds = [.tup (aP xs)] ∧ BqL xs ∧ xs.length ≤ 100 ∧ k (.tup (aP (negL xs))) M
def n4 : Ct := fun ds M k => ∃ A : U.Yd, ds = [yd A] ∧ BqL A.us ∧ A.ws.length ≤ 90 ∧ A.us.length ≤ 90 ∧ k (yd A.turn) M
def lB : Ct := fun ds M k => ∃ A : U.Yd, ds = [yd A] ∧ BqL A.ws ∧ A.ws.length ≤ 90 ∧ A.us.length ≤ 90 ∧ k (yd A.mirror) M
def cOverQ : Ct := fun ds M k => ∃ a b : Rat, ds = [numD a, numD b] ∧ Bq a ∧ Bq b ∧ b ≠ 0 ∧ k (numD (a / b)) M
theorem num_ne {b : Rat} (h : b ≠ 0) : b.num ≠ 0 := fun e => h (Rat.num_eq_zero.mp e)
theorem over_pq {a b : Rat} (h : b ≠ 0) : lowP ((pq a).1 * (pq b).2) ((pq a).2 * (pq b).1) = pq (a / b) :=
 (l8 _ _ (Int.mul_ne_zero (hU a) (num_ne h))).trans (congrArg pq (Num.div_rat a b))
theorem bq0 : Bq 0 := ⟨by decide +kernel, by decide +kernel⟩
theorem Bq.neg {q : Rat} (h : Bq q) : Bq (0 - q) := by
 rw [show (0 : Rat) - q = -q by grind]
 exact ⟨by rw [Rat.neg_num, Int.natAbs_neg]; exact h.a, by rw [Rat.neg_den]; exact h.b⟩
def pm (A : U.Yd) : List Rat := A.ws ++ A.us ++ negL A.ws ++ negL A.us
theorem pm_w {A : U.Yd} {x : Rat} (h : x ∉ pm A) : x ∉ A.ws ∧ x ∉ A.us ∧ 0 - x ∉ A.ws ∧ 0 - x ∉ A.us := by
 unfold pm at h
 simp only [List.mem_append, not_or] at h
 exact ⟨h.1.1.1, h.1.1.2, fun q => h.1.2 (dA.mpr q), fun q => h.2 (dA.mpr q)⟩
theorem nn (x : Rat) : (0 : Rat) - (0 - x) = x := by grind
theorem turn3_has (A : U.Yd) {x y : Rat} (hx : x ∉ pm A) (hy : y ∉ pm A) : A.turn.turn.turn.has x y = A.has (0 - y) x := by
 obtain ⟨a1, a2, a3, a4⟩ := pm_w hx
 obtain ⟨b1, b2, b3, b4⟩ := pm_w hy
 rw [U.Yd.turn_has A.turn.turn (show 0 - x ∉ negL A.us from fun q => by rw [dA, nn] at q; exact a2 q), U.Yd.turn_has A.turn (show 0 - y ∉ A.ws from b3), U.Yd.turn_has A (show 0 - (0 - x) ∉ A.us by rw [nn]; exact a2), nn]
theorem turn4 (A : U.Yd) : A.turn.turn.turn.turn = A := U.Yd.ext_off (pm A) fun x y hx hy => by
 obtain ⟨a1, a2, a3, a4⟩ := pm_w hx
 obtain ⟨b1, b2, b3, b4⟩ := pm_w hy
 rw [U.Yd.turn_has A.turn.turn.turn (show 0 - x ∉ negL A.ws from fun q => by rw [dA, nn] at q; exact a1 q), U.Yd.turn_has A.turn.turn (show 0 - y ∉ negL A.us from fun q => by rw [dA, nn] at q; exact b2 q), U.Yd.turn_has A.turn (show 0 - (0 - x) ∉ A.ws by rw [nn]; exact a1), U.Yd.turn_has A (show 0 - (0 - y) ∉ A.us by rw [nn]; exact b2), nn, nn]
theorem mirror2 (A : U.Yd) : A.mirror.mirror = A := U.Yd.ext_off (pm A) fun x y hx hy => by
 obtain ⟨a1, a2, a3, a4⟩ := pm_w hx
 rw [U.Yd.mirror_has A.mirror (show 0 - x ∉ negL A.ws from fun q => by rw [dA, nn] at q; exact a1 q), U.Yd.mirror_has A (show 0 - (0 - x) ∉ A.ws by rw [nn]; exact a1), nn]
theorem tW (A : U.Yd) : A.mirror.turn = A.turn.turn.turn.mirror := U.Yd.ext_off (pm A) fun x y hx hy => by
 obtain ⟨a1, a2, a3, a4⟩ := pm_w hx
 obtain ⟨b1, b2, b3, b4⟩ := pm_w hy
 have hnx : 0 - x ∉ pm A := by
  unfold pm
  simp only [List.mem_append, not_or]
  exact ⟨⟨⟨a3, a4⟩, fun q => by rw [dA, nn] at q; exact a1 q⟩, fun q => by rw [dA, nn] at q; exact a2 q⟩
 rw [U.Yd.turn_has A.mirror (show 0 - x ∉ A.us from a4), U.Yd.mirror_has A b3, U.Yd.mirror_has A.turn.turn.turn (show 0 - x ∉ negL (negL A.us) from fun q => by rw [dA, nn, dA] at q; exact a4 q), turn3_has A hnx hy]
theorem shift2 (A : U.Yd) (a b c d : Rat) : (A.shift a b).shift c d = A.shift (a + c) (b + d) := U.Yd.ext' fun x y => by
 rw [U.Yd.shift_has, U.Yd.shift_has, U.Yd.shift_has]; congr 1 <;> grind
theorem shift0 (A : U.Yd) : A.shift 0 0 = A := U.Yd.ext' fun x y => by rw [U.Yd.shift_has]; congr 1 <;> grind
theorem uO (A : U.Yd) (a b : Rat) : (A.shift a b).shift (0 - a) (0 - b) = A := by
 rw [shift2, show a + (0 - a) = 0 by grind, show b + (0 - b) = 0 by grind, shift0]
theorem uA (A : U.Yd) : A = U.Yd.void ↔ A.K = [] := by
 rw [A.void_iff, U.Yd.ext_iff']
 refine forall_congr' fun x => forall_congr' fun y => ?_
 rw [U.Yd.void_has]
theorem uU {A : U.Yd} (h : A ≠ U.Yd.void) (a b : Rat) : A.shift a b = A ↔ a = 0 ∧ b = 0 := by
 constructor
 ·intro e
  rcases A.big with q | ⟨h1, h2⟩
  ·exact absurd ((uA A).mpr q) h
  ·have e1 : A.ws.map (· + a) = A.ws := congrArg U.Yd.ws e
   have e2 : A.us.map (· + b) = A.us := congrArg U.Yd.us e
   have f1 : (A.ws.map (· + a))[0]? = A.ws[0]? := by rw [e1]
   have f2 : (A.us.map (· + b))[0]? = A.us[0]? := by rw [e2]
   rw [List.getElem?_map, List.getElem?_eq_getElem (show 0 < A.ws.length by omega)] at f1
   rw [List.getElem?_map, List.getElem?_eq_getElem (show 0 < A.us.length by omega)] at f2
   injection f1 with f1
   injection f2 with f2
   constructor <;> grind
 ·rintro ⟨rfl, rfl⟩; exact shift0 A
theorem scale2 (A : U.Yd) {a b c d : Rat} (ha : 0 < a) (hb : 0 < b) (hc : 0 < c) (hd : 0 < d) (hac : 0 < a * c) (hbd : 0 < b * d) : (A.scale a b ha hb).scale c d hc hd = A.scale (a * c) (b * d) hac hbd := by
 refine yd_inj.mpr ⟨?_, ?_, rfl⟩
 ·show (A.ws.map _).map _ = A.ws.map _
  rw [List.map_map]; exact List.map_congr_left fun w _ => by show w * a * c = w * (a * c); grind
 ·show (A.us.map _).map _ = A.us.map _
  rw [List.map_map]; exact List.map_congr_left fun w _ => by show w * b * d = w * (b * d); grind
theorem uL (A : U.Yd) {a b : Rat} (ha : 0 < a) (hb : 0 < b) (ha' : 0 < 1 / a) (hb' : 0 < 1 / b) : (A.scale a b ha hb).scale (1 / a) (1 / b) ha' hb' = A := by
 have na : a ≠ 0 := by grind
 have nb : b ≠ 0 := by grind
 refine yd_inj.mpr ⟨?_, ?_, rfl⟩
 ·show (A.ws.map _).map _ = A.ws
  rw [List.map_map]
  refine (List.map_congr_left fun w _ => ?_).trans (List.map_id _)
  show w * a * (1 / a) = w
  rw [Rat.mul_assoc, show a * (1 / a) = 1 by grind, Rat.mul_one]
 ·show (A.us.map _).map _ = A.us
  rw [List.map_map]
  refine (List.map_congr_left fun w _ => ?_).trans (List.map_id _)
  show w * b * (1 / b) = w
  rw [Rat.mul_assoc, show b * (1 / b) = 1 by grind, Rat.mul_one]
structure P4 (a b c d : Rat) : Prop where
 fa : Fr 2520 1000000 a
 fb : Fr 2520 1000000 b
 fc : Fr 2520 1000000 c
 fd : Fr 2520 1000000 d
 c0 : 0 < c
 d0 : 0 < d
def br (w : Nat) (A : U.Yd) {a b c d : Rat} (h : P4 a b c d) : U.Yd := match w with
 | 0 => A.shift a b
 | 1 => A.turn
 | 2 => A.mirror
 | _ => A.scale c d h.c0 h.d0
theorem br_op {p : Bool → Bool → Bool} (h0 : p false false = false) (w : Nat) (A B : U.Yd) {a b c d : Rat} (h : P4 a b c d) : br w (U.Yd.op p A B) h = U.Yd.op p (br w A h) (br w B h) := by
 match w with
 | 0 =>
  exact U.Yd.ext' fun x y => by
   show ((U.Yd.op p A B).shift a b).has x y = (U.Yd.op p (A.shift a b) (B.shift a b)).has x y
   rw [U.Yd.shift_has, U.Yd.op_has h0, U.Yd.op_has h0, U.Yd.shift_has, U.Yd.shift_has]
 | 1 =>
  exact U.Yd.ext_off (pm A ++ (pm B ++ pm (U.Yd.op p A B))) fun x y hx hy => by
   simp only [List.mem_append, not_or] at hx hy
   show (U.Yd.op p A B).turn.has x y = (U.Yd.op p A.turn B.turn).has x y
   rw [U.Yd.turn_has _ (pm_w hx.2.2).2.2.2, U.Yd.op_has h0, U.Yd.op_has h0, U.Yd.turn_has A (pm_w hx.1).2.2.2, U.Yd.turn_has B (pm_w hx.2.1).2.2.2]
 | 2 =>
  exact U.Yd.ext_off (pm A ++ (pm B ++ pm (U.Yd.op p A B))) fun x y hx hy => by
   simp only [List.mem_append, not_or] at hx hy
   show (U.Yd.op p A B).mirror.has x y = (U.Yd.op p A.mirror B.mirror).has x y
   rw [U.Yd.mirror_has _ (pm_w hx.2.2).2.2.1, U.Yd.op_has h0, U.Yd.op_has h0, U.Yd.mirror_has A (pm_w hx.1).2.2.1, U.Yd.mirror_has B (pm_w hx.2.1).2.2.1]
 | n + 3 =>
  exact U.Yd.ext' fun x y => by
   show ((U.Yd.op p A B).scale c d h.c0 h.d0).has x y = (U.Yd.op p (A.scale c d h.c0 h.d0) (B.scale c d h.c0 h.d0)).has x y
   rw [U.Yd.scale_has, U.Yd.op_has h0, U.Yd.op_has h0, U.Yd.scale_has, U.Yd.scale_has]
def mm : Nat := 2520 * 2520 * 2520
structure Sk (q : Rat) : Prop where
 fr : Fr mm (10 ^ 40) q
theorem Sk.bq {q : Rat} (h : Sk q) : Bq q := h.fr.bq (by decide) (by decide +kernel) (by decide +kernel)
theorem Fr.up {m B n : Nat} {q : Rat} (h : Fr m B q) : Fr (m * n) (B * n) q := by
 obtain ⟨k, e, hk⟩ := h.ex
 exact ⟨k * n, by rw [Rat.intCast_mul, Rat.intCast_natCast, ← e, Rat.natCast_mul]; grind, by rw [Int.natAbs_mul, Int.natAbs_natCast]; exact Nat.mul_le_mul_right _ hk⟩
theorem sk1 {B : Nat} {q : Rat} (h : Fr 2520 B q) (hB : B ≤ 10 ^ 30) : Sk q := by
 have := Fr.up (n := 2520 * 2520) h
 exact ⟨Fr.mono (show Fr mm _ q from this) (by have := Nat.mul_le_mul_right (2520 * 2520) hB; exact Nat.le_trans this (by decide +kernel))⟩
theorem sk2 {B : Nat} {q : Rat} (h : Fr (2520 * 2520) B q) (hB : B ≤ 10 ^ 30) : Sk q := by
 have := Fr.up (n := 2520) h
 exact ⟨Fr.mono (show Fr mm _ q from this) (by have := Nat.mul_le_mul_right 2520 hB; exact Nat.le_trans this (by decide +kernel))⟩
structure Y10 (A : U.Yd) : Prop where
 x : FrL 2520 10000000000000 A.ws
 y : FrL 2520 10000000000000 A.us
 lx : A.ws.length ≤ 14
 ly : A.us.length ≤ 14
theorem Y10.b {A : U.Yd} (h : Y10 A) : BqL A.ws ∧ BqL A.us ∧ A.ws.length ≤ 90 ∧ A.us.length ≤ 90 := ⟨fun w hw => (sk1 (h.x w hw) (by decide +kernel)).bq, fun w hw => (sk1 (h.y w hw) (by decide +kernel)).bq, Nat.le_trans h.lx (by decide), Nat.le_trans h.ly (by decide)⟩
theorem fr_neg {m B : Nat} {q : Rat} (h : Fr m B q) : Fr m B (0 - q) := ((Fr.zero m 0).sub h).mono (by omega)
theorem frL_neg {m B : Nat} {ws : List Rat} (h : FrL m B ws) : FrL m B (negL ws) := fun x hx => by
 have := fr_neg (h _ (dA.mp hx))
 rwa [nn] at this
theorem Y10.turn {A : U.Yd} (h : Y10 A) : Y10 A.turn := ⟨frL_neg h.y, h.x, by show (negL A.us).length ≤ _; rw [kZ]; exact h.ly, h.lx⟩
theorem Y10.mirror {A : U.Yd} (h : Y10 A) : Y10 A.mirror := ⟨frL_neg h.x, h.y, by show (negL A.ws).length ≤ _; rw [kZ]; exact h.lx, h.ly⟩
theorem Y10.op {A B : U.Yd} (a : Y10 A) (b : Y10 B) (la : A.ws.length ≤ 7) (lb : B.ws.length ≤ 7) (ka : A.us.length ≤ 7) (kb : B.us.length ≤ 7) (p : Bool → Bool → Bool) : Y10 (U.Yd.op p A B) := by
 have o : On (A.ws ++ B.ws) (A.us ++ B.us) (U.Yd.op p A B) := On.op ⟨fun w h => by simp [h], fun w h => by simp [h]⟩ ⟨fun w h => by simp [h], fun w h => by simp [h]⟩ p
 have l1 := kH (U.Yd.op p A B).uw o.x
 have l2 := kH (U.Yd.op p A B).uu o.y
 rw [List.length_append] at l1 l2
 exact ⟨fun w hw => (List.mem_append.mp (o.x w hw)).elim (a.x w) (b.x w), fun w hw => (List.mem_append.mp (o.y w hw)).elim (a.y w) (b.y w), by omega, by omega⟩
theorem m8 {m n B C D : Nat} {ws : List Rat} (h : FrL m B ws) {f : Rat → Rat} (hf : ∀ w, Fr m B w → Fr n C (f w)) : FrL n C (ws.map f) := fun x hx => by
 obtain ⟨w, hw, rfl⟩ := List.mem_map.mp hx
 exact hf w (h w hw)
structure Y11 (A : U.Yd) : Prop where
 x : FrL (2520 * 2520) 100000000000000000000 A.ws
 y : FrL (2520 * 2520) 100000000000000000000 A.us
 lx : A.ws.length ≤ 14
 ly : A.us.length ≤ 14
theorem Y10.up {A : U.Yd} (h : Y10 A) : Y11 A := ⟨fun w hw => (Fr.up (n := 2520) (h.x w hw)).mono (by decide), fun w hw => (Fr.up (n := 2520) (h.y w hw)).mono (by decide), h.lx, h.ly⟩
theorem Y11.b {A : U.Yd} (h : Y11 A) : BqL A.ws ∧ BqL A.us ∧ A.ws.length ≤ 90 ∧ A.us.length ≤ 90 := ⟨fun w hw => (sk2 (h.x w hw) (by decide +kernel)).bq, fun w hw => (sk2 (h.y w hw) (by decide +kernel)).bq, Nat.le_trans h.lx (by decide), Nat.le_trans h.ly (by decide)⟩
theorem Y10.shift {A : U.Yd} (h : Y10 A) {a b : Rat} (ha : Fr 2520 1000000 a) (hb : Fr 2520 1000000 b) : Y11 (A.shift a b) :=
 ⟨m8 (D := 0) h.x fun w hw => (Fr.up (n := 2520) (hw.add ha)).mono (by decide), m8 (D := 0) h.y fun w hw => (Fr.up (n := 2520) (hw.add hb)).mono (by decide), by show (List.map _ _).length ≤ _; rw [List.length_map]; exact h.lx, by show (List.map _ _).length ≤ _; rw [List.length_map]; exact h.ly⟩
theorem Y10.scale {A : U.Yd} (h : Y10 A) {a b : Rat} (ha : Fr 2520 1000000 a) (hb : Fr 2520 1000000 b) (a0 : 0 < a) (b0 : 0 < b) : Y11 (A.scale a b a0 b0) :=
 ⟨m8 (D := 0) h.x fun w hw => (hw.mul ha).mono (by decide), m8 (D := 0) h.y fun w hw => (hw.mul hb).mono (by decide), by show (List.map _ _).length ≤ _; rw [List.length_map]; exact h.lx, by show (List.map _ _).length ≤ _; rw [List.length_map]; exact h.ly⟩
theorem Y10.br {A : U.Yd} (h : Y10 A) (w : Nat) {a b c d : Rat} (p : P4 a b c d) : Y11 (br w A p) := by
 match w with
 | 0 => exact h.shift p.fa p.fb
 | 1 => exact h.turn.up
 | 2 => exact h.mirror.up
 | n + 3 => exact h.scale p.fc p.fd p.c0 p.d0
theorem jF {A B : U.Yd} (a : Y11 A) (b : Y11 B) : ∃ Sx Sy, Bnd Sx ∧ Bnd Sy ∧ On Sx Sy A ∧ On Sx Sy B := by
 have := a.lx; have := a.ly; have := b.lx; have := b.ly
 obtain ⟨a1, a2, _, _⟩ := a.b
 obtain ⟨b1, b2, _, _⟩ := b.b
 exact ⟨A.ws ++ B.ws, A.us ++ B.us, ⟨by rw [List.length_append]; omega, fun w hw => (List.mem_append.mp hw).elim (a1 w) (b1 w)⟩, ⟨by rw [List.length_append]; omega, fun w hw => (List.mem_append.mp hw).elim (a2 w) (b2 w)⟩, ⟨fun w h => by simp [h], fun w h => by simp [h]⟩, ⟨fun w h => by simp [h], fun w h => by simp [h]⟩⟩
def pcT (a b c d : Int) : D := .tup [.int a, .int b, .int c, .int d]
def pt4 : Nat → Int × Int × Int × Int → Int × Int × Int × Int
 | 0, t => t
 | n + 1, t => ((pt4 n t).2.2.2, (pt4 n t).1, (pt4 n t).2.1, (pt4 n t).2.2.1)
def ptn (i : Nat) (a b c d : Int) : D := pcT (pt4 i (a, b, c, d)).1 (pt4 i (a, b, c, d)).2.1 (pt4 i (a, b, c, d)).2.2.1 (pt4 i (a, b, c, d)).2.2.2
def tn : Nat → U.Yd → U.Yd
 | 0, A => A
 | n + 1, A => (tn n A).turn
theorem tn4 (A : U.Yd) : tn 4 A = A := turn4 A
theorem ptn4 (a b c d : Int) : ptn 4 a b c d = pcT a b c d := rfl
theorem eq_two (a b : Rat) : eqD (.lst [numD a, numD b]) (.lst [numD 0, numD 0]) = decide (a = 0 ∧ b = 0) := by
 simp only [eqD, eqDs, mC, Bool.and_true]
 by_cases h1 : a = 0 <;> by_cases h2 : b = 0 <;> simp [h1, h2]
theorem inv_pos {a : Rat} (h : 0 < a) : 0 < 1 / a := by
 rw [Rat.lt_div_iff h]
 grind
theorem over_bd {p q : Int × Int} (hp : Bg p) (hq : Bg q) : (p.2 * q.1).natAbs < 10 ^ 1000 := by
 rw [Int.natAbs_mul]
 have : p.2.natAbs * q.1.natAbs ≤ 10 ^ 400 * 10 ^ 400 := Nat.mul_le_mul (Nat.le_of_lt hp.b) (Nat.le_of_lt hq.a)
 rw [← Nat.pow_add] at this
 exact Nat.lt_of_le_of_lt this (Nat.pow_lt_pow_right (by decide) (by decide))
def cRows10 : Ct := fun ds M k => ∃ (p : Addr) (b : Int) (xs ys : List Int), ds = [.mt p, .lst (xs.map .int), .lst (ys.map .int)] ∧ FdM M p b ∧ b ≤ 800000 ∧ Up7 xs ∧ Up7 ys ∧ 2 ≤ xs.length ∧ 2 ≤ ys.length ∧ ∀ zs M', R.Good (xs.length - 1) zs → zs.length = ys.length - 1 → FdM M' p (b + 150) → ButM p M M' → k (.lst (zs.map .str)) M'
def cRound : Ct := fun ds M k => ∃ (A : U.Yd) (a b c d : Int), ds = [yd A, pcT a b c d] ∧ Y10 A ∧ k (.bl true) M
def cSummed : Ct := fun ds M k => ∃ (A : U.Yd) (a b c d : Rat), ds = [yd A, .lst [numD a, numD b, numD c, numD d]] ∧ Y10 A ∧ Fr 2520 1000000 a ∧ Fr 2520 1000000 b ∧ Fr 2520 1000000 c ∧ Fr 2520 1000000 d ∧ k (.bl true) M
structure Ps (a : Rat) : Prop where
 fr : Fr 2520 1000000 a
 p : 0 < a
 inv : Fr 2520 1000000 (1 / a)
def pH : Ct := fun ds M k => ∃ (A : U.Yd) (a b c d : Rat), ds = [yd A, .lst [numD a, numD b, numD c, numD d]] ∧ Y10 A ∧ Ps a ∧ Ps b ∧ Ps c ∧ Ps d ∧ k (.bl true) M
def pE : Ct := fun ds M k => ∃ (w : Nat) (A : U.Yd) (a b c d : Rat) (h : P4 a b c d), ds = [.int (w : Int), yd A, .lst [numD a, numD b, numD c, numD d]] ∧ w < 4 ∧ Y10 A ∧ k (yd (br w A h)) M
def qT : Ct := fun ds M k => ∃ (A B : U.Yd) (a b c d : Rat), ds = [yd A, yd B, .lst [numD a, numD b, numD c, numD d]] ∧ Y10 A ∧ Y10 B ∧ A.ws.length ≤ 7 ∧ A.us.length ≤ 7 ∧ B.ws.length ≤ 7 ∧ B.us.length ≤ 7 ∧ P4 a b c d ∧ k (.bl true) M
theorem y10_d {xs ys : List Int} {zs : List Str} (ux : Up7 xs) (uy : Up7 ys) (g : R.Good (xs.length - 1) zs) (hz : zs.length = ys.length - 1) : Y10 (eJ xs ys zs ux.up uy.up g hz) ∧ (eJ xs ys zs ux.up uy.up g hz).ws.length ≤ 7 ∧ (eJ xs ys zs ux.up uy.up g hz).us.length ≤ 7 := by
 obtain ⟨h1, h2, h3, h4⟩ := y8_drawn ux uy g hz
 exact ⟨⟨fun w hw => by obtain ⟨x, hx, rfl⟩ := h1 w hw; exact Fr.int (by have := ux.bd x hx; omega), fun w hw => by obtain ⟨x, hx, rfl⟩ := h2 w hw; exact Fr.int (by have := uy.bd x hx; omega), by omega, by omega⟩, h3, h4⟩
theorem rP {t b : Int} (hb : 0 < b) : dL (lowG t b) = numD (Rat.divInt t b) := by
 rw [← lowP_eq hb, l8 _ _ (by omega)]; rfl
theorem fr_div {t b : Int} (hb : 0 < b) (hb9 : b ≤ 9) (ht : t.natAbs ≤ 20) : Fr 2520 1000000 (Rat.divInt t b) := by
 obtain ⟨c, hc⟩ : b ∣ 2520 := by
  have : b = 1 ∨ b = 2 ∨ b = 3 ∨ b = 4 ∨ b = 5 ∨ b = 6 ∨ b = 7 ∨ b = 8 ∨ b = 9 := by omega
  rcases this with rfl | rfl | rfl | rfl | rfl | rfl | rfl | rfl | rfl <;> decide
 have hc0 : 0 < c := by
  rcases Int.lt_trichotomy c 0 with q | q | q
  ·have := Int.mul_neg_of_pos_of_neg hb q; omega
  ·subst q; omega
  ·exact q
 refine ⟨t * c, ?_, ?_⟩
 ·have nb : ((b : Int) : Rat) ≠ 0 := fun e => by have := Rat.intCast_inj.mp (e.trans Rat.intCast_zero.symm); omega
  rw [Rat.divInt_eq_div, show ((2520 : Nat) : Rat) = ((2520 : Int) : Rat) from rfl, hc, Rat.intCast_mul, Rat.intCast_mul]
  grind
 ·rw [Int.natAbs_mul]
  have : c.natAbs ≤ 2520 := by
   have h1 : c * 1 ≤ c * b := Int.mul_le_mul_of_nonneg_left (by omega) (by omega)
   rw [Int.mul_comm c b, ← hc] at h1
   omega
  exact Nat.le_trans (Nat.mul_le_mul ht this) (by decide)
theorem ps_div {t b : Int} (hb : 0 < b) (hb9 : b ≤ 9) (ht : 0 < t) (ht9 : t ≤ 9) : Ps (Rat.divInt t b) := by
 have nb : ((b : Int) : Rat) ≠ 0 := fun e => by have := Rat.intCast_inj.mp (e.trans Rat.intCast_zero.symm); omega
 have nt : ((t : Int) : Rat) ≠ 0 := fun e => by have := Rat.intCast_inj.mp (e.trans Rat.intCast_zero.symm); omega
 refine ⟨fr_div hb hb9 (by omega), ?_, ?_⟩
 ·rw [Rat.divInt_eq_div, Rat.lt_div_iff (Rat.intCast_pos.mpr hb)]
  have := Rat.intCast_pos.mpr ht
  grind
 ·have := fr_div (t := b) (b := t) ht ht9 (by omega)
  rw [Rat.divInt_eq_div] at this ⊢
  rwa [show (1 : Rat) / ((t : Rat) / (b : Rat)) = (b : Rat) / (t : Rat) by grind]
end Q
namespace Q
open PySem L2 Z
open U
def top (i : Nat) : Stmt := PySem.Challenge.pw_roofridges_k10_whole_turns_go_round.main.body.getD i (.Pass ⟨0, 0, 0, 0⟩)
abbrev gP : Stmt := top 6
abbrev d8 : Stmt := top 7
abbrev fA : Stmt := top 8
abbrev i3 : Stmt := top 9
abbrev mH : Stmt := top 10
abbrev kR : Stmt := top 11
abbrev kB : Stmt := top 12
abbrev oX : Stmt := top 13
abbrev kL : Stmt := top 14
abbrev lG : Stmt := top 15
abbrev kU : Stmt := top 19
abbrev iX : Stmt := top 20
abbrev lF : Stmt := top 21
abbrev iQ : Stmt := top 22
abbrev jZ : Stmt := top 23
abbrev k7 : Stmt := top 24
abbrev jP : Stmt := top 25
abbrev eU : Stmt := top 26
abbrev dR : Stmt := top 27
abbrev o4 : Stmt := top 28
abbrev i5 : Stmt := top 29
abbrev iZ : Stmt := top 30
abbrev gY : Stmt := top 32
abbrev gI : Stmt := top 33
abbrev kD : Stmt := top 34
abbrev jQ : Stmt := top 35
abbrev gS : Stmt := top 36
abbrev fX : Stmt := top 37
abbrev fN : Stmt := top 38
abbrev eB : Stmt := top 39
abbrev iG : Stmt := top 41
abbrev gZ : Stmt := top 42
abbrev gM : Stmt := top 43
abbrev hW : Stmt := top 44
abbrev pG : Stmt := top 45
abbrev lI : Stmt := top 46
abbrev o5 : Stmt := top 47
abbrev pI : Stmt := top 49
abbrev j9 : Stmt := top 50
abbrev nA : Stmt := top 51
abbrev oW : Stmt := top 52
abbrev kX : Stmt := top 53
abbrev mQ : Stmt := top 54
abbrev lE : Stmt := top 55
abbrev iE : Stmt := top 56
abbrev jW : Stmt := top 57
abbrev iY : Stmt := top 58
abbrev mV : Stmt := top 59
section
variable {P : Program} {w : World} {K : PySem.W.Frag} {mg : Str → Option Value} {base : Heap}
theorem kK : FnScope ["_law_script", "_law_k", "_law_cell", "_law_great"] ["_law_script", "_law_k"] (aH pI) := ⟨rfl, rfl, rfl, by decide +kernel, rfl, by decide +kernel, by decide +kernel⟩
theorem ok_feed {f : Addr} {fd : FuncData} (Df : R.Df K mg "_law_feed" pI ["_law_script", "_law_k"] f fd) (T : Bt mg) : FnOk P w K mg base CX0 1 f fd ["_law_script", "_law_k"] (spZ K cFeed) := by
 refine bB Df kK (fun ds M k h => ?_) (fun cdv A outer s H E hr ds M k h => ?_)
 ·obtain ⟨ns, i, rfl, _⟩ := h; rfl
 obtain ⟨ns, i, rfl, hi, hi2, hk⟩ := h
 refine aE (aO 2 kK.nd ?_)
 refine aC ?_
 refine aE (jG (fun Γ' M' => M' = M ∧ ∃ c : Int, Γ' = [some (.fl (ns.map .int)), some (.int i), some (.int c), none]) ?_ ?_)
 ·refine bF ?_
  refine aV iH ?_
  refine ge_v 1 rfl ?_
  refine aT bM T.len PySem.boot_len ?_
  refine aA ?_
  refine ge_v 0 rfl ?_
  refine aB ?_
  refine cR (.fl _) ?_
  refine o2_B ?_
  refine ⟨_, rfl, ?_⟩
  refine ite2 (fun hb => ?_) (fun hb => ?_)
  ·have hb' := of_decide_eq_true hb
   rw [List.length_map] at hb'
   obtain ⟨z, hz⟩ := at_intsD (ns := ns) hi hb'
   refine aI (aO 2 kK.nd ?_)
   refine aJ aG ?_
   refine ge_v 0 rfl ?_
   refine ge_v 1 rfl ?_
   refine aK (.fl _) hz ?_
   exact ⟨rfl, _, rfl⟩
  ·exact bC ⟨rfl, _, rfl⟩
 rintro Γ' M' ⟨rfl, c, rfl⟩
 refine aE (aO 3 kK.nd ?_)
 refine aT oF T.abs PyProof.Rows.boot_abs ?_
 refine aA ?_
 refine ge_v 2 rfl ?_
 refine aB ?_
 refine on_abs ?_
 refine aE (jG (fun Γ' M1 => M1 = M' ∧ ∃ g : Int, 0 ≤ g ∧ Γ' = [some (.fl (ns.map .int)), some (.int i), some (.int c), some (.int g)]) ?_ ?_)
 ·refine bF ?_
  refine aV iH ?_
  refine ge_v 3 rfl ?_
  refine aM op_pow ?_
  refine aC ?_
  refine aC ?_
  refine o2_C ⟨by decide, by decide, by decide⟩ ?_
  refine o2_B ?_
  refine ⟨_, rfl, ?_⟩
  refine ite2 (fun hb => ?_) (fun hb => ?_)
  ·refine aI (aO 3 kK.nd ?_)
   refine aC ?_
   exact ⟨rfl, 0, by omega, rfl⟩
  ·exact bC ⟨rfl, _, by split <;> omega, rfl⟩
 rintro Γ' M' ⟨rfl, g, hg, rfl⟩
 refine aI (aQ (m7 ?_))
 have hm := Int.emod_nonneg c (show (2147483399 : Int) ≠ 0 by decide)
 have hm2 := Int.emod_lt_of_pos c (show (0 : Int) < 2147483399 by decide)
 refine aA ?_
 refine ge_v 3 rfl ?_
 refine aA ?_
 refine aM jO ?_
 refine aM b6 ?_
 refine aM b6 ?_
 refine aM fY ?_
 refine aM jO ?_
 refine ge_v 2 rfl ?_
 refine aC ?_
 refine o2_C (show (0 : Int) < _ by first | decide | omega) ?_
 refine aC ?_
 refine o2_C (by first | exact .inl ⟨by omega, by omega⟩ | exact .inr ⟨by omega, by omega⟩) ?_
 refine aM fY ?_
 refine aC ?_
 refine ge_v 1 rfl ?_
 refine o2_C (by first | exact .inl ⟨by omega, by omega⟩ | exact .inr ⟨by omega, by omega⟩) ?_
 refine o2_0 ?_
 refine aC ?_
 refine o2_0 ?_
 refine aC ?_
 refine o2_C (show (0 : Int) < _ by first | decide | omega) ?_
 refine aA ?_
 refine aC ?_
 refine aB ?_
 refine ⟨(show 3 ≤ sizeLine by decide), fun p hp => ?_⟩
 refine hk p _ hp ((Le.refl _).upd hp) ⟨g, _, 0, bK, hg, ?_, ?_, by omega, by omega⟩
 ·exact Int.emod_nonneg _ (by decide)
 ·exact Int.emod_lt_of_pos _ (by decide)
theorem t8 : FnScope ["thing"] ["thing"] (aH gP) := ⟨rfl, rfl, rfl, by decide +kernel, rfl, by decide +kernel, by decide +kernel⟩
theorem tN {f : Addr} {fd : FuncData} (Df : R.Df K mg "is_whole" gP ["thing"] f fd) (T : Bt mg) : FnOk P w K mg base CX0 1 f fd ["thing"] (spZ K oG) := by
 refine bB Df t8 (fun ds M k h => ?_) (fun cdv A outer s H E hr ds M k h => ?_)
 ·obtain ⟨d, rfl, _⟩ := h; rfl
 obtain ⟨d, rfl, hs, hk⟩ := h
 refine aI (aQ (o6 ?_))
 refine jI (.inl rfl) T.isi T.int R.BI ?_
 refine ge_v 0 rfl ?_
 refine ⟨_, .self hs, ?_⟩
 refine ⟨_, rfl, ?_⟩
 rcases isW_or d with ⟨i, rfl⟩ | ⟨e0, e1 | ⟨e1, e2⟩⟩
 ·rw [iI]
  refine iteT (kC (ge_not ?_))
  refine jI (.inr (.inl rfl)) T.isi T.bool R.BB ?_
  refine ge_v 0 rfl ?_
  refine ⟨_, .self trivial, ?_⟩
  rw [bI]
  exact ⟨_, rfl, hk⟩
 ·rw [e1]
  rw [e0] at hk
  exact iteF hk
 ·rw [e1]
  refine iteT (kC (ge_not ?_))
  refine jI (.inr (.inl rfl)) T.isi T.bool R.BB ?_
  refine ge_v 0 rfl ?_
  refine ⟨_, .self hs, ?_⟩
  rw [e2]
  rw [e0] at hk
  exact ⟨_, rfl, hk⟩
theorem dQ : FnScope ["one", "other", "rest"] ["one", "other"] (aH d8) := ⟨rfl, rfl, rfl, by decide +kernel, rfl, by decide +kernel, by decide +kernel⟩
theorem nL {f : Addr} {fd : FuncData} (Df : R.Df K mg "common_divisor" d8 ["one", "other"] f fd) (T : Bt mg) : FnOk P w K mg base CX0 1 f fd ["one", "other"] (spZ K cShared) := by
 refine bB Df dQ (fun ds M k h => ?_) (fun cdv A outer s H E hr ds M k h => ?_)
 ·obtain ⟨a, b, rfl, _⟩ := h; rfl
 obtain ⟨a, b, rfl, hk⟩ := h
 refine aE (n9 (fun m Γ' M' => M' = M ∧ ∃ (x y : Int) (v : Option D), Γ' = [some (.int x), some (.int y), v] ∧ Int.gcd x y = Int.gcd a b ∧ m = y.natAbs) (n := b.natAbs) ⟨rfl, a, b, _, rfl, rfl, rfl⟩ ?_)
 rintro m Γ' M' ⟨rfl, x, y, v, rfl, hg, rfl⟩
 refine aV op_ne ?_
 refine ge_v 1 rfl ?_
 refine aC ?_
 refine o2_neI ?_
 refine ⟨_, rfl, ?_⟩
 refine ite2 (fun hb => ?_) (fun hb => ?_)
 ·have hy : y ≠ 0 := fun z => by subst z; simp at hb
  refine aE (aO 2 dQ.nd (aM op_modN ?_))
  refine ge_v 0 rfl ?_
  refine ge_v 1 rfl ?_
  refine o2_C hy ?_
  refine aE (aO 0 dQ.nd ?_)
  refine ge_v 1 rfl ?_
  refine aI (aO 1 dQ.nd ?_)
  refine ge_v 2 rfl ?_
  refine ⟨_, Num.fmod_lt x y hy, rfl, _, _, _, rfl, ?_, rfl⟩
  rw [Num.rX]; exact hg
 ·have hy : y = 0 := by simpa using hb
  subst hy
  refine aI (aQ ?_)
  refine aT oF T.abs PyProof.Rows.boot_abs ?_
  refine aA ?_
  refine ge_v 0 rfl ?_
  refine aB ?_
  refine on_abs ?_
  rw [R.abs_gcd, hg]
  exact hk
end
end Q
namespace Q
open PySem L2 Z
open U
section
variable {P : Program} {w : World} {K : PySem.W.Frag} {mg : Str → Option Value} {base : Heap}
theorem lX : FnScope ["top", "bottom", "divisor"] ["top", "bottom"] (aH fA) := ⟨rfl, rfl, rfl, by decide +kernel, rfl, by decide +kernel, by decide +kernel⟩
theorem ok_lowest {f : Addr} {fd : FuncData} {f_common_divisor : Addr} {fd_common_divisor : FuncData} (Df : R.Df K mg "lowest" fA ["top", "bottom"] f fd)
  (D_common_divisor : R.Df K mg "common_divisor" d8 ["one", "other"] f_common_divisor fd_common_divisor) (G_common_divisor : FnOk P w K mg base CX0 1 f_common_divisor fd_common_divisor ["one", "other"] (spZ K cShared)) : FnOk P w K mg base CX0 2 f fd ["top", "bottom"] (spZ K jA) := by
 refine bB Df lX (fun ds M k h => ?_) (fun cdv A outer s H E hr ds M k h => ?_)
 ·obtain ⟨a, b, rfl, _⟩ := h; rfl
 obtain ⟨a, b, rfl, hb0, hbb, hk⟩ := h
 have hg : Int.gcd a b ≠ 0 := fun e => hb0 (Int.gcd_eq_zero_iff.mp e).2
 have hgl : Int.gcd a b ≤ b.natAbs := Nat.le_of_dvd (by omega) (Int.gcd_dvd_natAbs_right a b)
 have hd : dv a b ≠ 0 ∧ (dv a b).natAbs < big := by
  refine ⟨by unfold dv; split <;> omega, Nat.lt_of_lt_of_le (show (dv a b).natAbs < 10 ^ 1000 from ?_) (by unfold big; decide)⟩
  have : (dv a b).natAbs = Int.gcd a b := by unfold dv; split <;> omega
  omega
 refine aE (aO 2 lX.nd ?_)
 refine aD G_common_divisor (hr.mono (by decide)) D_common_divisor.m D_common_divisor.F.kp D_common_divisor.b ?_
 refine aA ?_
 refine ge_v 0 rfl ?_
 refine aA ?_
 refine ge_v 1 rfl ?_
 refine aB ?_
 refine ⟨a, b, rfl, ?_⟩
 refine aE (jG (fun Γ' M' => M' = M ∧ Γ' = [some (.int a), some (.int b), some (.int (dv a b))]) (bF ?_) ?_)
 ·refine aV iH ?_
  refine ge_v 1 rfl ?_
  refine aC ?_
  refine o2_B ?_
  refine ⟨_, rfl, ?_⟩
  refine ite2 (fun hb => ?_) (fun hb => ?_)
  ·have := of_decide_eq_true hb
   refine aI (aO 2 lX.nd ?_)
   refine gT eX ?_
   refine ge_v 2 rfl ?_
   refine ⟨_, rfl, ?_⟩
   exact ⟨rfl, by unfold dv; rw [if_pos this]; rfl⟩
  ·have : ¬ b < 0 := fun z => hb (decide_eq_true z)
   exact bC ⟨rfl, by unfold dv; rw [if_neg this]; rfl⟩
 rintro Γ' M' ⟨rfl, rfl⟩
 refine aI (aQ (cG (aA (aM lH ?_))))
 refine ge_v 0 rfl ?_
 refine ge_v 2 rfl ?_
 refine o2_C hd (aA (aM lH ?_))
 refine ge_v 1 rfl ?_
 refine ge_v 2 rfl ?_
 refine o2_C hd (aB ⟨(show 2 ≤ sizeLine by decide), ?_⟩)
 exact hk
theorem uC : FnScope ["top", "bottom"] ["top", "bottom"] (aH i3) := ⟨rfl, rfl, rfl, by decide +kernel, rfl, by decide +kernel, by decide +kernel⟩
theorem tZ {f : Addr} {fd : FuncData} {f_is_whole f_lowest : Addr} {fd_is_whole fd_lowest : FuncData} (Df : R.Df K mg "fraction" i3 ["top", "bottom"] f fd)
  (D_is_whole : R.Df K mg "is_whole" gP ["thing"] f_is_whole fd_is_whole) (G_is_whole : FnOk P w K mg base CX0 1 f_is_whole fd_is_whole ["thing"] (spZ K oG))
  (D_lowest : R.Df K mg "lowest" fA ["top", "bottom"] f_lowest fd_lowest) (G_lowest : FnOk P w K mg base CX0 2 f_lowest fd_lowest ["top", "bottom"] (spZ K jA)) : FnOk P w K mg base CX0 3 f fd ["top", "bottom"] (spZ K qV) := by
 refine bB Df uC (fun ds M k h => ?_) (fun cdv A outer s H E hr ds M k h => ?_)
 ·obtain ⟨a, b, rfl, _⟩ := h; rfl
 obtain ⟨a, b, rfl, hb0, hbb, hk⟩ := h
 refine aE (bF (gt_w (fZ ?_)))
 refine cY ?_
 refine cQ ?_
 refine aD G_is_whole (hr.mono (by decide)) D_is_whole.m D_is_whole.F.kp D_is_whole.b ?_
 refine aA ?_
 refine ge_v 0 rfl ?_
 refine aB ?_
 refine ⟨_, rfl, trivial, ?_⟩
 refine ⟨_, rfl, ?_⟩
 refine iteF (iP ?_)
 refine cY ?_
 refine cQ ?_
 refine aD G_is_whole (hr.mono (by decide)) D_is_whole.m D_is_whole.F.kp D_is_whole.b ?_
 refine aA ?_
 refine ge_v 1 rfl ?_
 refine aB ?_
 refine ⟨_, rfl, trivial, ?_⟩
 refine ⟨_, rfl, ?_⟩
 refine iteF (bC ?_)
 refine aE (bF ?_)
 refine aV dS ?_
 refine ge_v 1 rfl ?_
 refine aC ?_
 refine dJ ?_
 refine ⟨_, rfl, ?_⟩
 refine ite2 (fun hb => absurd (of_decide_eq_true hb) (by omega)) (fun _ => bC ?_)
 refine aI (aQ ?_)
 refine aD G_lowest (hr.mono (by decide)) D_lowest.m D_lowest.F.kp D_lowest.b ?_
 refine aA ?_
 refine ge_v 0 rfl ?_
 refine aA ?_
 refine ge_v 1 rfl ?_
 refine aB ?_
 refine ⟨a, b, rfl, hb0, hbb, ?_⟩
 exact hk
end
end Q
namespace Q
open PySem L2 Z
open U
section
variable {P : Program} {w : World} {K : PySem.W.Frag} {mg : Str → Option Value} {base : Heap}
theorem sc_plus : FnScope ["one", "other"] ["one", "other"] (aH mH) := ⟨rfl, rfl, rfl, by decide +kernel, rfl, by decide +kernel, by decide +kernel⟩
theorem ok_plus {f : Addr} {fd : FuncData} {f_lowest : Addr} {fd_lowest : FuncData} (Df : R.Df K mg "plus" mH ["one", "other"] f fd)
  (D_lowest : R.Df K mg "lowest" fA ["top", "bottom"] f_lowest fd_lowest) (G_lowest : FnOk P w K mg base CX0 2 f_lowest fd_lowest ["top", "bottom"] (spZ K jA)) : FnOk P w K mg base CX0 3 f fd ["one", "other"] (spZ K cPlusQ) := by
 refine bB Df sc_plus (fun ds M k h => ?_) (fun cdv A outer s H E hr ds M k h => ?_)
 ·obtain ⟨p, q, rfl, _⟩ := h; rfl
 obtain ⟨p, q, rfl, hp, hq, hk⟩ := h
 obtain ⟨h1, h2⟩ := bot_ok hp.g hq.g
 unfold numD at hk
 rw [← plus_pq] at hk
 refine aI (aQ (aD G_lowest (hr.mono (by decide)) D_lowest.m D_lowest.F.kp D_lowest.b ?_))
 refine aA (aM b6 (aM dF ?_))
 refine aJ aG ?_
 refine ge_v 0 rfl ?_
 refine aC ?_
 refine aK (.tup _) rfl ?_
 refine aJ aG ?_
 refine ge_v 1 rfl ?_
 refine aC ?_
 refine aK (.tup _) rfl ?_
 refine o2_C ⟨big400 hp.g.a, big400 hq.g.b⟩ (aM dF ?_)
 refine aJ aG ?_
 refine ge_v 1 rfl ?_
 refine aC ?_
 refine aK (.tup _) rfl ?_
 refine aJ aG ?_
 refine ge_v 0 rfl ?_
 refine aC ?_
 refine aK (.tup _) rfl ?_
 refine o2_C ⟨big400 hq.g.a, big400 hp.g.b⟩ (o2_0 ?_)
 refine aA (aM dF ?_)
 refine aJ aG ?_
 refine ge_v 0 rfl ?_
 refine aC ?_
 refine aK (.tup _) rfl ?_
 refine aJ aG ?_
 refine ge_v 1 rfl ?_
 refine aC ?_
 refine aK (.tup _) rfl ?_
 refine o2_C ⟨big400 hp.g.b, big400 hq.g.b⟩ (aB ?_)
 exact ⟨_, _, rfl, h1, h2, hk⟩
theorem sc_minus : FnScope ["one", "other"] ["one", "other"] (aH kR) := ⟨rfl, rfl, rfl, by decide +kernel, rfl, by decide +kernel, by decide +kernel⟩
theorem ok_minus {f : Addr} {fd : FuncData} {f_lowest : Addr} {fd_lowest : FuncData} (Df : R.Df K mg "minus" kR ["one", "other"] f fd)
  (D_lowest : R.Df K mg "lowest" fA ["top", "bottom"] f_lowest fd_lowest) (G_lowest : FnOk P w K mg base CX0 2 f_lowest fd_lowest ["top", "bottom"] (spZ K jA)) : FnOk P w K mg base CX0 3 f fd ["one", "other"] (spZ K pK) := by
 refine bB Df sc_minus (fun ds M k h => ?_) (fun cdv A outer s H E hr ds M k h => ?_)
 ·obtain ⟨p, q, rfl, _⟩ := h; rfl
 obtain ⟨p, q, rfl, hp, hq, hk⟩ := h
 obtain ⟨h1, h2⟩ := bot_ok hp.g hq.g
 unfold numD at hk
 rw [← minus_pq] at hk
 refine aI (aQ (aD G_lowest (hr.mono (by decide)) D_lowest.m D_lowest.F.kp D_lowest.b ?_))
 refine aA (aM dY (aM dF ?_))
 refine aJ aG ?_
 refine ge_v 0 rfl ?_
 refine aC ?_
 refine aK (.tup _) rfl ?_
 refine aJ aG ?_
 refine ge_v 1 rfl ?_
 refine aC ?_
 refine aK (.tup _) rfl ?_
 refine o2_C ⟨big400 hp.g.a, big400 hq.g.b⟩ (aM dF ?_)
 refine aJ aG ?_
 refine ge_v 1 rfl ?_
 refine aC ?_
 refine aK (.tup _) rfl ?_
 refine aJ aG ?_
 refine ge_v 0 rfl ?_
 refine aC ?_
 refine aK (.tup _) rfl ?_
 refine o2_C ⟨big400 hq.g.a, big400 hp.g.b⟩ (o2_0 ?_)
 refine aA (aM dF ?_)
 refine aJ aG ?_
 refine ge_v 0 rfl ?_
 refine aC ?_
 refine aK (.tup _) rfl ?_
 refine aJ aG ?_
 refine ge_v 1 rfl ?_
 refine aC ?_
 refine aK (.tup _) rfl ?_
 refine o2_C ⟨big400 hp.g.b, big400 hq.g.b⟩ (aB ?_)
 exact ⟨_, _, rfl, h1, h2, hk⟩
theorem sc_times : FnScope ["one", "other"] ["one", "other"] (aH kB) := ⟨rfl, rfl, rfl, by decide +kernel, rfl, by decide +kernel, by decide +kernel⟩
theorem ok_times {f : Addr} {fd : FuncData} {f_lowest : Addr} {fd_lowest : FuncData} (Df : R.Df K mg "times" kB ["one", "other"] f fd)
  (D_lowest : R.Df K mg "lowest" fA ["top", "bottom"] f_lowest fd_lowest) (G_lowest : FnOk P w K mg base CX0 2 f_lowest fd_lowest ["top", "bottom"] (spZ K jA)) : FnOk P w K mg base CX0 3 f fd ["one", "other"] (spZ K pZ) := by
 refine bB Df sc_times (fun ds M k h => ?_) (fun cdv A outer s H E hr ds M k h => ?_)
 ·obtain ⟨p, q, rfl, _⟩ := h; rfl
 obtain ⟨p, q, rfl, hp, hq, hk⟩ := h
 obtain ⟨h1, h2⟩ := bot_ok hp.g hq.g
 unfold numD at hk
 rw [← times_pq] at hk
 refine aI (aQ (aD G_lowest (hr.mono (by decide)) D_lowest.m D_lowest.F.kp D_lowest.b ?_))
 refine aA (aM dF ?_)
 refine aJ aG ?_
 refine ge_v 0 rfl ?_
 refine aC ?_
 refine aK (.tup _) rfl ?_
 refine aJ aG ?_
 refine ge_v 1 rfl ?_
 refine aC ?_
 refine aK (.tup _) rfl ?_
 refine o2_C ⟨big400 hp.g.a, big400 hq.g.a⟩ ?_
 refine aA (aM dF ?_)
 refine aJ aG ?_
 refine ge_v 0 rfl ?_
 refine aC ?_
 refine aK (.tup _) rfl ?_
 refine aJ aG ?_
 refine ge_v 1 rfl ?_
 refine aC ?_
 refine aK (.tup _) rfl ?_
 refine o2_C ⟨big400 hp.g.b, big400 hq.g.b⟩ (aB ?_)
 exact ⟨_, _, rfl, h1, h2, hk⟩
theorem sc_over : FnScope ["one", "other"] ["one", "other"] (aH oX) := ⟨rfl, rfl, rfl, by decide +kernel, rfl, by decide +kernel, by decide +kernel⟩
theorem ok_over {f : Addr} {fd : FuncData} {f_lowest : Addr} {fd_lowest : FuncData} (Df : R.Df K mg "over" oX ["one", "other"] f fd)
  (D_lowest : R.Df K mg "lowest" fA ["top", "bottom"] f_lowest fd_lowest) (G_lowest : FnOk P w K mg base CX0 2 f_lowest fd_lowest ["top", "bottom"] (spZ K jA)) : FnOk P w K mg base CX0 3 f fd ["one", "other"] (spZ K cOverQ) := by
 refine bB Df sc_over (fun ds M k h => ?_) (fun cdv A outer s H E hr ds M k h => ?_)
 ·obtain ⟨p, q, rfl, _⟩ := h; rfl
 obtain ⟨p, q, rfl, hp, hq, h0, hk⟩ := h
 have hn := num_ne h0
 unfold numD at hk
 rw [← over_pq h0] at hk
 refine aE (bF ?_)
 refine aV dS ?_
 refine aJ aG ?_
 refine ge_v 1 rfl ?_
 refine aC ?_
 refine aK (.tup _) rfl ?_
 refine aC ?_
 refine dJ ?_
 refine ⟨_, rfl, ?_⟩
 refine eA (decide_eq_false hn) (bC ?_)
 refine aI (aQ (aD G_lowest (hr.mono (by decide)) D_lowest.m D_lowest.F.kp D_lowest.b ?_))
 refine aA (aM dF ?_)
 refine aJ aG ?_
 refine ge_v 0 rfl ?_
 refine aC ?_
 refine aK (.tup _) rfl ?_
 refine aJ aG ?_
 refine ge_v 1 rfl ?_
 refine aC ?_
 refine aK (.tup _) rfl ?_
 refine o2_C ⟨big400 hp.g.a, big400 hq.g.b⟩ ?_
 refine aA (aM dF ?_)
 refine aJ aG ?_
 refine ge_v 0 rfl ?_
 refine aC ?_
 refine aK (.tup _) rfl ?_
 refine aJ aG ?_
 refine ge_v 1 rfl ?_
 refine aC ?_
 refine aK (.tup _) rfl ?_
 refine o2_C ⟨big400 hp.g.b, big400 hq.g.a⟩ (aB ?_)
 exact ⟨_, _, rfl, Int.mul_ne_zero (hU p) hn, over_bd hp.g hq.g, hk⟩
end
end Q
namespace Q
open PySem L2 Z
open U
section
variable {P : Program} {w : World} {K : PySem.W.Frag} {mg : Str → Option Value} {base : Heap}
theorem tQ : FnScope ["lines"] ["lines"] (aH gY) := ⟨rfl, rfl, rfl, by decide +kernel, rfl, by decide +kernel, by decide +kernel⟩
theorem tX {f : Addr} {fd : FuncData} {f_minus : Addr} {fd_minus : FuncData} (Df : R.Df K mg "opposite" gY ["lines"] f fd)
  (D_minus : R.Df K mg "minus" kR ["one", "other"] f_minus fd_minus) (G_minus : FnOk P w K mg base CX0 3 f_minus fd_minus ["one", "other"] (spZ K pK)) (T : Bt mg) {aN : Addr} (CN : mg "NOUGHT" = some (.ref aN)) (EN : ∀ G, Den K G (dL (p1 0)) (.ref aN)) : FnOk P w K mg base CX0 5 f fd ["lines"] (spZ K cOppQ) := by
 refine bB Df tQ (fun ds M k h => ?_) (fun cdv A outer s H E hr ds M k h => ?_)
 ·obtain ⟨xs, rfl, _⟩ := h; rfl
 obtain ⟨xs, rfl, h9, hl, hk⟩ := h
 refine aI (aQ ?_)
 refine bD bL T.tuple R.BT (aA (aX [] [] (gi_revT T.reversed PyProof.Rows.boot_reversed ?_)))
 refine aA ?_
 refine ge_v 0 rfl ?_
 refine aB ?_
 refine ⟨_, rfl, ?_⟩
 have er : (aP xs).reverse = aP xs.reverse := by unfold aP; rw [List.map_reverse]
 rw [er]
 have hl2 : (aP xs.reverse).length = xs.length := by rw [bA, List.length_reverse]
 refine bT (by rw [hl2]; exact R.aU (by omega)) (fun i acc M' => M' = M ∧ acc = aP ((xs.reverse.take i).map fun x => 0 - x)) ⟨rfl, rfl⟩ ?_ ?_
 ·rintro i d acc M' hd ⟨rfl, rfl⟩ cs C s₀ H₀ fp
  obtain ⟨x, hx, rfl⟩ := bS hd
  have hx9 := h9 x (List.mem_reverse.mp (List.mem_of_getElem? hx))
  refine aZ (iteT fun cs C s₀ H₀ fp => ?_)
  refine aD G_minus (hr.mono (by decide)) D_minus.m D_minus.F.kp D_minus.b ?_
  refine aA (ge_glob CN EN ?_)
  refine aA ?_
  refine ge_v 0 rfl ?_
  refine aB ⟨0, x, rfl, bq0, hx9, ?_⟩
  refine ⟨rfl, ?_⟩
  rw [bJ hx, ← cC]
  rfl
 rintro acc M' ⟨rfl, rfl⟩
 rw [hl2, show xs.length = xs.reverse.length from (List.length_reverse ..).symm, List.take_length]
 exact aB (cI (.lst _) hk)
theorem tT : FnScope ["row"] ["row"] (aH gI) := ⟨rfl, rfl, rfl, by decide +kernel, rfl, by decide +kernel, by decide +kernel⟩
theorem uB {f : Addr} {fd : FuncData} (Df : R.Df K mg "backward" gI ["row"] f fd) (T : Bt mg) : FnOk P w K mg base CX0 1 f fd ["row"] (spZ K l9) := by
 refine bB Df tT (fun ds M k h => ?_) (fun cdv A outer s H E hr ds M k h => ?_)
 ·obtain ⟨z, rfl, _⟩ := h; rfl
 obtain ⟨z, rfl, hz, hk⟩ := h
 refine aI (aQ (uJ T.reversed PyProof.Rows.boot_reversed ?_))
 refine cB ⟨_, rfl, by decide +kernel, ?_⟩
 refine aA ?_
 refine ge_v 0 rfl ?_
 refine aB ?_
 refine ⟨z, rfl, hz, ?_⟩
 rw [R.fB, join_rev]
 exact hk
end
end Q
namespace Q
open PySem L2 Z
open U
section
variable {P : Program} {w : World} {K : PySem.W.Frag} {mg : Str → Option Value} {base : Heap}
theorem sc_column : FnScope ["rows", "place"] ["rows", "place"] (aH lF) := ⟨rfl, rfl, rfl, by decide +kernel, rfl, by decide +kernel, by decide +kernel⟩
theorem ok_column {f : Addr} {fd : FuncData} (Df : R.Df K mg "column" lF ["rows", "place"] f fd) : FnOk P w K mg base CX0 1 f fd ["rows", "place"] (spZ K rZ) := by
 refine bB Df sc_column (fun ds M k h => ?_) (fun cdv A outer s H E hr ds M k h => ?_)
 ·obtain ⟨t, r, zs, n, j, rfl, _⟩ := h; rfl
 obtain ⟨t, r, zs, n, j, rfl, s1, hl, hn, hz, hj, hk⟩ := h
 cases t with
 | true =>
  cases s1
  refine aI (aQ ?_)
  refine i0 PySem.F.plainAttrs_str PySem.F.slot_str_join PySem.F.type_str_join jE ?_
  refine cB ?_
  refine ⟨rfl, ?_⟩
  refine aA ((aX ["place"] [1] (bR ?_)))
  refine ge_v 0 rfl ?_
  refine ⟨_, .inr (.inl rfl), ?_⟩
  refine bT (ds := zs.map D.str) (by rw [List.length_map]; exact R.aU (by omega)) (fun i2 acc2 M2 => M2 = M ∧ acc2 = ((zs.take i2).map fun z => (⟨#[R.atS z j]⟩ : Str)).map D.str) ⟨rfl, rfl⟩ ?_ ?_
  ·rintro i2 d2 acc2 M2 hd2 ⟨rfl, rfl⟩ cs C s₀ H₀ fp
   obtain ⟨z, hz2, rfl⟩ := bS hd2
   have hzn := hz z (List.mem_of_getElem? hz2)
   refine aZ (iteT fun cs C s₀ H₀ fp => ?_)
   refine aJ aG ?_
   refine ge_v 0 rfl ?_
   refine ge_v 1 rfl ?_
   refine lS (R.aU (by omega)) (R.at_str (by omega)) ?_
   refine ⟨rfl, ?_⟩
   rw [gG hz2, List.map_append, List.map_append]
   rfl
  ·rintro acc2 M2 ⟨rfl, rfl⟩
   rw [List.length_map, List.take_length]
   refine aB ?_
   refine i6 (ys := zs.map fun z => (⟨#[R.atS z j]⟩ : Str)) (.lst _) (by decide +kernel) ?_ ?_
   ·rw [nD _ (fun z hz => ?_), List.length_map]
    ·omega
    ·obtain ⟨y, _, rfl⟩ := List.mem_map.mp hz
     rfl
   ·rw [R.fB, sV]
    exact hk
 | false =>
  cases s1
  refine aI (aQ ?_)
  refine i0 PySem.F.plainAttrs_str PySem.F.slot_str_join PySem.F.type_str_join jE ?_
  refine cB ?_
  refine ⟨rfl, ?_⟩
  refine aA ((aX ["place"] [1] (bR ?_)))
  refine ge_v 0 rfl ?_
  refine ⟨_, .inl rfl, ?_⟩
  refine bT (ds := zs.map D.str) (by rw [List.length_map]; exact R.aU (by omega)) (fun i2 acc2 M2 => M2 = M ∧ acc2 = ((zs.take i2).map fun z => (⟨#[R.atS z j]⟩ : Str)).map D.str) ⟨rfl, rfl⟩ ?_ ?_
  ·rintro i2 d2 acc2 M2 hd2 ⟨rfl, rfl⟩ cs C s₀ H₀ fp
   obtain ⟨z, hz2, rfl⟩ := bS hd2
   have hzn := hz z (List.mem_of_getElem? hz2)
   refine aZ (iteT fun cs C s₀ H₀ fp => ?_)
   refine aJ aG ?_
   refine ge_v 0 rfl ?_
   refine ge_v 1 rfl ?_
   refine lS (R.aU (by omega)) (R.at_str (by omega)) ?_
   refine ⟨rfl, ?_⟩
   rw [gG hz2, List.map_append, List.map_append]
   rfl
  ·rintro acc2 M2 ⟨rfl, rfl⟩
   rw [List.length_map, List.take_length]
   refine aB ?_
   refine i6 (ys := zs.map fun z => (⟨#[R.atS z j]⟩ : Str)) (.lst _) (by decide +kernel) ?_ ?_
   ·rw [nD _ (fun z hz => ?_), List.length_map]
    ·omega
    ·obtain ⟨y, _, rfl⟩ := List.mem_map.mp hz
     rfl
   ·rw [R.fB, sV]
    exact hk
theorem kT : FnScope ["rows", "wide"] ["rows"] (aH iQ) := ⟨rfl, rfl, rfl, by decide +kernel, rfl, by decide +kernel, by decide +kernel⟩
theorem uW {f : Addr} {fd : FuncData} {f_column : Addr} {fd_column : FuncData} (Df : R.Df K mg "columns" iQ ["rows"] f fd)
  (D_column : R.Df K mg "column" lF ["rows", "place"] f_column fd_column) (G_column : FnOk P w K mg base CX0 1 f_column fd_column ["rows", "place"] (spZ K rZ)) (T : Bt mg) : FnOk P w K mg base CX0 2 f fd ["rows"] (spZ K mG) := by
 refine bB Df kT (fun ds M k h => ?_) (fun cdv A outer s H E hr ds M k h => ?_)
 ·obtain ⟨t, r, zs, n, rfl, _⟩ := h; rfl
 obtain ⟨t, r, zs, n, rfl, s1, hl, hn, hz, hk⟩ := h
 cases t with
 | true =>
  cases s1
  refine aE (jG (fun Γ' M' => M' = M ∧ Γ' = [some (.lst (zs.map D.str)), some (.int (((zs.head?.map (·.length)).getD 0 : Nat) : Int))]) (aO 1 kT.nd (kJ ?_)) ?_)
  ·refine kY ?_
   refine ge_v 0 rfl ?_
   refine ⟨_, .seq (.lst _), ?_⟩
   refine ite2 (fun hb => ?_) (fun hb => ?_)
   ·cases zs with
    | nil => cases hb
    | cons z zr =>
     have hzl := hz z (by simp)
     refine aT bM T.len PySem.boot_len ?_
     refine aA ?_
     refine aJ aG ?_
     refine ge_v 0 rfl ?_
     refine aC ?_
     refine aK (.lst _) (nE z zr) ?_
     refine aB ?_
     refine jC (R.aU (by omega)) ?_
     exact ⟨rfl, rfl⟩
   ·cases zs with
    | nil =>
     refine aC ?_
     exact ⟨rfl, rfl⟩
    | cons z zr => exact absurd rfl hb
  rintro Γ' M' ⟨rfl, rfl⟩
  have hw : (zs.head?.map (·.length)).getD 0 ≤ n := by
   cases zs with
   | nil => exact Nat.zero_le _
   | cons z zr => exact Nat.le_of_eq (hz z (by simp))
  refine aI (aQ ((aX ["rows"] [0] (eZ T.range ?_))))
  refine aA ?_
  refine ge_v 1 rfl ?_
  refine aB ?_
  refine ⟨_, rfl, by omega, by omega, ?_⟩
  rw [Int.toNat_natCast]
  refine bT (by rw [bQ]; exact R.aU (by omega)) (fun i acc M1 => M1 = M' ∧ acc = ((List.range i).map fun j => R.ofL (zs.map (R.atS · j))).map D.str) ⟨rfl, rfl⟩ ?_ ?_
  ·rintro i d acc M1 hd ⟨rfl, rfl⟩ cs C s₀ H₀ fp
   obtain ⟨hi, rfl⟩ := cW hd
   rw [Int.zero_add]
   refine aZ (iteT fun cs C s₀ H₀ fp => ?_)
   refine aD G_column (hr.mono (by decide)) D_column.m D_column.F.kp D_column.b ?_
   refine aA ?_
   refine ge_v 1 rfl ?_
   refine aA ?_
   refine ge_v 0 rfl ?_
   refine aB ?_
   refine ⟨true, _, zs, n, i, rfl, rfl, hl, hn, hz, by omega, ?_⟩
   refine ⟨rfl, ?_⟩
   rw [List.range_succ, List.map_append, List.map_append]
   rfl
  ·rintro acc M1 ⟨rfl, rfl⟩
   rw [bQ]
   exact hk
 | false =>
  cases s1
  refine aE (jG (fun Γ' M' => M' = M ∧ Γ' = [some (.tup (zs.map D.str)), some (.int (((zs.head?.map (·.length)).getD 0 : Nat) : Int))]) (aO 1 kT.nd (kJ ?_)) ?_)
  ·refine kY ?_
   refine ge_v 0 rfl ?_
   refine ⟨_, .seq (.tup _), ?_⟩
   refine ite2 (fun hb => ?_) (fun hb => ?_)
   ·cases zs with
    | nil => cases hb
    | cons z zr =>
     have hzl := hz z (by simp)
     refine aT bM T.len PySem.boot_len ?_
     refine aA ?_
     refine aJ aG ?_
     refine ge_v 0 rfl ?_
     refine aC ?_
     refine aK (.tup _) (nE z zr) ?_
     refine aB ?_
     refine jC (R.aU (by omega)) ?_
     exact ⟨rfl, rfl⟩
   ·cases zs with
    | nil =>
     refine aC ?_
     exact ⟨rfl, rfl⟩
    | cons z zr => exact absurd rfl hb
  rintro Γ' M' ⟨rfl, rfl⟩
  have hw : (zs.head?.map (·.length)).getD 0 ≤ n := by
   cases zs with
   | nil => exact Nat.zero_le _
   | cons z zr => exact Nat.le_of_eq (hz z (by simp))
  refine aI (aQ ((aX ["rows"] [0] (eZ T.range ?_))))
  refine aA ?_
  refine ge_v 1 rfl ?_
  refine aB ?_
  refine ⟨_, rfl, by omega, by omega, ?_⟩
  rw [Int.toNat_natCast]
  refine bT (by rw [bQ]; exact R.aU (by omega)) (fun i acc M1 => M1 = M' ∧ acc = ((List.range i).map fun j => R.ofL (zs.map (R.atS · j))).map D.str) ⟨rfl, rfl⟩ ?_ ?_
  ·rintro i d acc M1 hd ⟨rfl, rfl⟩ cs C s₀ H₀ fp
   obtain ⟨hi, rfl⟩ := cW hd
   rw [Int.zero_add]
   refine aZ (iteT fun cs C s₀ H₀ fp => ?_)
   refine aD G_column (hr.mono (by decide)) D_column.m D_column.F.kp D_column.b ?_
   refine aA ?_
   refine ge_v 1 rfl ?_
   refine aA ?_
   refine ge_v 0 rfl ?_
   refine aB ?_
   refine ⟨false, _, zs, n, i, rfl, rfl, hl, hn, hz, by omega, ?_⟩
   refine ⟨rfl, ?_⟩
   rw [List.range_succ, List.map_append, List.map_append]
   rfl
  ·rintro acc M1 ⟨rfl, rfl⟩
   rw [bQ]
   exact hk
end
end Q
namespace Q
open PySem L2 Z
open U
section
variable {P : Program} {w : World} {K : PySem.W.Frag} {mg : Str → Option Value} {base : Heap}
theorem qD : FnScope ["yard", "rows"] ["yard"] (aH jQ) := ⟨rfl, rfl, rfl, by decide +kernel, rfl, by decide +kernel, by decide +kernel⟩
theorem ok_turned {f : Addr} {fd : FuncData} {f_backward f_columns f_opposite : Addr} {fd_backward fd_columns fd_opposite : FuncData} (Df : R.Df K mg "turned" jQ ["yard"] f fd)
  (D_backward : R.Df K mg "backward" gI ["row"] f_backward fd_backward) (G_backward : FnOk P w K mg base CX0 1 f_backward fd_backward ["row"] (spZ K l9))
  (D_columns : R.Df K mg "columns" iQ ["rows"] f_columns fd_columns) (G_columns : FnOk P w K mg base CX0 2 f_columns fd_columns ["rows"] (spZ K mG))
  (D_opposite : R.Df K mg "opposite" gY ["lines"] f_opposite fd_opposite) (G_opposite : FnOk P w K mg base CX0 5 f_opposite fd_opposite ["lines"] (spZ K cOppQ)) (T : Bt mg) : FnOk P w K mg base CX0 6 f fd ["yard"] (spZ K n4) := by
 refine bB Df qD (fun ds M k h => ?_) (fun cdv A outer s H E hr ds M k h => ?_)
 ·obtain ⟨A, rfl, _⟩ := h; rfl
 obtain ⟨A, rfl, h9, hl, gl, hk⟩ := h
 obtain ⟨hw, lK⟩ := A.wide
 have lc := (R.lA hw).1
 refine aE (aO 1 qD.nd ?_)
 refine bD bL T.tuple R.BT (aA (aX [] [] (bR ?_)))
 refine aD G_columns (hr.mono (by decide)) D_columns.m D_columns.F.kp D_columns.b ?_
 refine aA ?_
 refine aJ aG ?_
 refine ge_v 0 rfl ?_
 refine aC ?_
 refine aK (.tup _) rfl ?_
 refine aB ?_
 refine ⟨false, _, A.K, A.ws.length - 1, rfl, rfl, by omega, by omega, hw, ?_⟩
 refine ⟨_, .inr (.inl rfl), ?_⟩
 refine bT (ds := (R.aF A.K).map D.str) (by rw [List.length_map]; exact R.aU (by omega)) (fun i acc M' => M' = M ∧ acc = (((R.aF A.K).take i).map R.revS).map D.str) ⟨rfl, rfl⟩ ?_ ?_
 ·rintro i d acc M' hd ⟨rfl, rfl⟩ cs C s₀ H₀ fp
  obtain ⟨z, hz, rfl⟩ := bS hd
  have hzl := R.cJ z (List.mem_of_getElem? hz)
  refine aZ (iteT fun cs C s₀ H₀ fp => ?_)
  refine aD G_backward (hr.mono (by decide)) D_backward.m D_backward.F.kp D_backward.b ?_
  refine aA ?_
  refine ge_v 0 rfl ?_
  refine aB ?_
  refine ⟨z, rfl, by omega, ?_⟩
  refine ⟨rfl, ?_⟩
  rw [bJ hz, List.map_append]
  rfl
 rintro acc M' ⟨rfl, rfl⟩
 rw [List.length_map, List.take_length]
 refine aB (cI (.lst _) ?_)
 refine aI (aQ ?_)
 refine cG ?_
 refine aA ?_
 refine aD G_opposite (hr.mono (by decide)) D_opposite.m D_opposite.F.kp D_opposite.b ?_
 refine aA ?_
 refine aJ aG ?_
 refine ge_v 0 rfl ?_
 refine aC ?_
 refine aK (.tup _) rfl ?_
 refine aB ?_
 refine ⟨A.us, rfl, h9, by omega, ?_⟩
 refine aA ?_
 refine aJ aG ?_
 refine ge_v 0 rfl ?_
 refine aC ?_
 refine aK (.tup _) rfl ?_
 refine aA ?_
 refine ge_v 1 rfl ?_
 refine aB ?_
 refine ⟨(show 3 ≤ sizeLine by decide), ?_⟩
 exact hk
theorem tJ : FnScope ["yard"] ["yard"] (aH gS) := ⟨rfl, rfl, rfl, by decide +kernel, rfl, by decide +kernel, by decide +kernel⟩
theorem tY {f : Addr} {fd : FuncData} {f_backward f_opposite : Addr} {fd_backward fd_opposite : FuncData} (Df : R.Df K mg "mirrored" gS ["yard"] f fd)
  (D_backward : R.Df K mg "backward" gI ["row"] f_backward fd_backward) (G_backward : FnOk P w K mg base CX0 1 f_backward fd_backward ["row"] (spZ K l9))
  (D_opposite : R.Df K mg "opposite" gY ["lines"] f_opposite fd_opposite) (G_opposite : FnOk P w K mg base CX0 5 f_opposite fd_opposite ["lines"] (spZ K cOppQ)) (T : Bt mg) : FnOk P w K mg base CX0 6 f fd ["yard"] (spZ K lB) := by
 refine bB Df tJ (fun ds M k h => ?_) (fun cdv A outer s H E hr ds M k h => ?_)
 ·obtain ⟨A, rfl, _⟩ := h; rfl
 obtain ⟨A, rfl, h9, hl, gl, hk⟩ := h
 obtain ⟨hw, lK⟩ := A.wide
 refine aI (aQ (cG (aA ?_)))
 refine aD G_opposite (hr.mono (by decide)) D_opposite.m D_opposite.F.kp D_opposite.b ?_
 refine aA ?_
 refine aJ aG ?_
 refine ge_v 0 rfl ?_
 refine aC ?_
 refine aK (.tup _) rfl ?_
 refine aB ?_
 refine ⟨A.ws, rfl, h9, by omega, ?_⟩
 refine aA ?_
 refine aJ aG ?_
 refine ge_v 0 rfl ?_
 refine aC ?_
 refine aK (.tup _) rfl ?_
 refine aA ?_
 refine bD bL T.tuple R.BT (aA (aX [] [] (bR ?_)))
 refine aJ aG ?_
 refine ge_v 0 rfl ?_
 refine aC ?_
 refine aK (.tup _) rfl ?_
 refine ⟨_, .inl rfl, ?_⟩
 refine bT (ds := (A.K).map D.str) (by rw [List.length_map]; exact R.aU (by omega)) (fun i acc M' => M' = M ∧ acc = (((A.K).take i).map R.revS).map D.str) ⟨rfl, rfl⟩ ?_ ?_
 ·rintro i d acc M' hd ⟨rfl, rfl⟩ cs C s₀ H₀ fp
  obtain ⟨z, hz, rfl⟩ := bS hd
  have hzl := hw z (List.mem_of_getElem? hz)
  refine aZ (iteT fun cs C s₀ H₀ fp => ?_)
  refine aD G_backward (hr.mono (by decide)) D_backward.m D_backward.F.kp D_backward.b ?_
  refine aA ?_
  refine ge_v 0 rfl ?_
  refine aB ?_
  refine ⟨z, rfl, by omega, ?_⟩
  refine ⟨rfl, ?_⟩
  rw [bJ hz, List.map_append]
  rfl
 rintro acc M' ⟨rfl, rfl⟩
 rw [List.length_map, List.take_length]
 refine aB (cI (.lst _) ?_)
 exact aB ⟨(show 3 ≤ sizeLine by decide), hk⟩
end
end Q
namespace Q
open PySem L2 Z
open U
section
variable {P : Program} {w : World} {K : PySem.W.Frag} {mg : Str → Option Value} {base : Heap}
theorem oQ : FnScope ["paces"] ["paces"] (aH fN) := ⟨rfl, rfl, rfl, by decide +kernel, rfl, by decide +kernel, by decide +kernel⟩
theorem oZ {f : Addr} {fd : FuncData} (Df : R.Df K mg "turned_paces" fN ["paces"] f fd) : FnOk P w K mg base CX0 1 f fd ["paces"] (spZ K cTPaces) := by
 refine bB Df oQ (fun ds M k h => ?_) (fun cdv A outer s H E hr ds M k h => ?_)
 ·obtain ⟨a, b, c, d, rfl, _⟩ := h; rfl
 obtain ⟨a, b, c, d, rfl, hk⟩ := h
 refine aI (aQ ?_)
 refine cG ?_
 refine aA ?_
 refine aJ aG ?_
 refine ge_v 0 rfl ?_
 refine aC ?_
 refine aK (.tup _) rfl ?_
 refine aA ?_
 refine aJ aG ?_
 refine ge_v 0 rfl ?_
 refine aC ?_
 refine aK (.tup _) rfl ?_
 refine aA ?_
 refine aJ aG ?_
 refine ge_v 0 rfl ?_
 refine aC ?_
 refine aK (.tup _) rfl ?_
 refine aA ?_
 refine aJ aG ?_
 refine ge_v 0 rfl ?_
 refine aC ?_
 refine aK (.tup _) rfl ?_
 refine aB ?_
 refine ⟨(show 4 ≤ sizeLine by decide), ?_⟩
 exact hk
theorem nK : FnScope ["paces"] ["paces"] (aH eB) := ⟨rfl, rfl, rfl, by decide +kernel, rfl, by decide +kernel, by decide +kernel⟩
theorem nJ {f : Addr} {fd : FuncData} (Df : R.Df K mg "mirrored_paces" eB ["paces"] f fd) : FnOk P w K mg base CX0 1 f fd ["paces"] (spZ K cMPaces) := by
 refine bB Df nK (fun ds M k h => ?_) (fun cdv A outer s H E hr ds M k h => ?_)
 ·obtain ⟨a, b, c, d, rfl, _⟩ := h; rfl
 obtain ⟨a, b, c, d, rfl, hk⟩ := h
 refine aI (aQ ?_)
 refine cG ?_
 refine aA ?_
 refine aJ aG ?_
 refine ge_v 0 rfl ?_
 refine aC ?_
 refine aK (.tup _) rfl ?_
 refine aA ?_
 refine aJ aG ?_
 refine ge_v 0 rfl ?_
 refine aC ?_
 refine aK (.tup _) rfl ?_
 refine aA ?_
 refine aJ aG ?_
 refine ge_v 0 rfl ?_
 refine aC ?_
 refine aK (.tup _) rfl ?_
 refine aA ?_
 refine aJ aG ?_
 refine ge_v 0 rfl ?_
 refine aC ?_
 refine aK (.tup _) rfl ?_
 refine aB ?_
 refine ⟨(show 4 ≤ sizeLine by decide), ?_⟩
 exact hk
end
end Q
namespace Q
open PySem L2 Z
open U
section
variable {P : Program} {w : World} {K : PySem.W.Frag} {mg : Str → Option Value} {base : Heap}
theorem f9 : FnScope ["_law_yard", "_law_paces", "_law_found", "_law_told", "_law_k", "_law_thrice"] ["_law_yard", "_law_paces"] (aH mQ) := ⟨rfl, rfl, rfl, by decide +kernel, rfl, by decide +kernel, by decide +kernel⟩
theorem ok_round {f : Addr} {fd : FuncData} {f_turned f_turned_paces f_mirrored f_mirrored_paces : Addr} {fd_turned fd_turned_paces fd_mirrored fd_mirrored_paces : FuncData} (Df : R.Df K mg "_law_round" mQ ["_law_yard", "_law_paces"] f fd)
  (D_turned : R.Df K mg "turned" jQ ["yard"] f_turned fd_turned) (G_turned : FnOk P w K mg base CX0 6 f_turned fd_turned ["yard"] (spZ K n4))
  (D_turned_paces : R.Df K mg "turned_paces" fN ["paces"] f_turned_paces fd_turned_paces) (G_turned_paces : FnOk P w K mg base CX0 1 f_turned_paces fd_turned_paces ["paces"] (spZ K cTPaces))
  (D_mirrored : R.Df K mg "mirrored" gS ["yard"] f_mirrored fd_mirrored) (G_mirrored : FnOk P w K mg base CX0 6 f_mirrored fd_mirrored ["yard"] (spZ K lB))
  (D_mirrored_paces : R.Df K mg "mirrored_paces" eB ["paces"] f_mirrored_paces fd_mirrored_paces) (G_mirrored_paces : FnOk P w K mg base CX0 1 f_mirrored_paces fd_mirrored_paces ["paces"] (spZ K cMPaces)) (T : Bt mg) : FnOk P w K mg base CX0 7 f fd ["_law_yard", "_law_paces"] (spZ K cRound) := by
 refine bB Df f9 (fun ds M k h => ?_) (fun cdv A outer s H E hr ds M k h => ?_)
 ·obtain ⟨A, a, b, c, d, rfl, _⟩ := h; rfl
 obtain ⟨A, a, b, c, d, rfl, yA, hk⟩ := h
 refine aE (aO 2 f9.nd ?_)
 refine ge_v 0 rfl ?_
 refine aE (aO 3 f9.nd ?_)
 refine ge_v 1 rfl ?_
 refine aE (lR (eZ T.range ?_))
 refine aA ?_
 refine aC ?_
 refine aB ?_
 refine ⟨_, rfl, by decide, by decide, ?_⟩
 refine ⟨fun i Γ' M' => M' = M ∧ ∃ v4, Y10 (tn i A) ∧ Γ' = [some (yd A), some (pcT a b c d), some (yd (tn i A)), some (ptn i a b c d), v4, none], ⟨rfl, _, yA, rfl⟩, ?_, ?_⟩
 ·rintro i e Γ' M' hd ⟨rfl, v4, yi, rfl⟩
  obtain ⟨hi, rfl⟩ := cW hd
  refine c8 4 f9.nd ?_
  refine aE (aO 2 f9.nd ?_)
  refine aD G_turned (hr.mono (by decide)) D_turned.m D_turned.F.kp D_turned.b ?_
  refine aA ?_
  refine ge_v 2 rfl ?_
  refine aB ?_
  obtain ⟨q1, q2, q3, q4⟩ := (yi).b
  refine ⟨_, rfl, q2, q3, q4, ?_⟩
  refine aI (aO 3 f9.nd ?_)
  refine aD G_turned_paces (hr.mono (by decide)) D_turned_paces.m D_turned_paces.F.kp D_turned_paces.b ?_
  refine aA ?_
  refine ge_v 3 rfl ?_
  refine aB ?_
  refine ⟨_, _, _, _, rfl, ?_⟩
  exact ⟨rfl, _, yi.turn, rfl⟩
 rintro Γ' M' ⟨rfl, v4, y4, rfl⟩
 rw [bQ, show tn (4 : Int).toNat A = A from tn4 A, show ptn (4 : Int).toNat a b c d = pcT a b c d from ptn4 a b c d]
 refine aE (bF (gt_w (fZ ?_)))
 refine aV (eM (n := 3) (R.bP hr)) ?_
 refine ge_v 2 rfl ?_
 refine ge_v 0 rfl ?_
 refine fV (rfl) ⟨_, rfl, ?_⟩
 refine iteF (fZ ?_)
 refine aV (eM (n := 1) (R.bP hr)) ?_
 refine ge_v 3 rfl ?_
 refine ge_v 1 rfl ?_
 refine o2_neD (e1 := pcT a b c d) (e2 := pcT a b c d) (.tup _) (.tup _) rfl rfl ⟨_, rfl, ?_⟩
 rw [eqD_refl 1 _ rfl]
 refine iteF (iP ?_)
 refine aV (eM (n := 3) (R.bP hr)) ?_
 refine aD G_mirrored (hr.mono (by decide)) D_mirrored.m D_mirrored.F.kp D_mirrored.b ?_
 refine aA ?_
 refine aD G_mirrored (hr.mono (by decide)) D_mirrored.m D_mirrored.F.kp D_mirrored.b ?_
 refine aA ?_
 refine ge_v 0 rfl ?_
 refine aB ?_
 obtain ⟨q1, q2, q3, q4⟩ := (yA).b
 refine ⟨_, rfl, q1, q3, q4, ?_⟩
 refine aB ?_
 obtain ⟨q1, q2, q3, q4⟩ := (yA.mirror).b
 refine ⟨_, rfl, q1, q3, q4, ?_⟩
 refine ge_v 0 rfl ?_
 refine fV (mirror2 A) ⟨_, rfl, ?_⟩
 refine iteF (bC ?_)
 refine aE (bF (aV (eM (n := 1) (R.bP hr)) ?_))
 refine aD G_mirrored_paces (hr.mono (by decide)) D_mirrored_paces.m D_mirrored_paces.F.kp D_mirrored_paces.b ?_
 refine aA ?_
 refine aD G_mirrored_paces (hr.mono (by decide)) D_mirrored_paces.m D_mirrored_paces.F.kp D_mirrored_paces.b ?_
 refine aA ?_
 refine ge_v 1 rfl ?_
 refine aB ?_
 refine ⟨_, _, _, _, rfl, ?_⟩
 refine aB ?_
 refine ⟨_, _, _, _, rfl, ?_⟩
 refine ge_v 1 rfl ?_
 refine o2_neD (e1 := pcT a b c d) (e2 := pcT a b c d) (.tup _) (.tup _) rfl rfl ⟨_, rfl, ?_⟩
 rw [eqD_refl 1 _ rfl]
 refine iteF (bC (aE (bF ?_)))
 refine aV (eM (n := 3) (R.bP hr)) ?_
 refine aD G_turned (hr.mono (by decide)) D_turned.m D_turned.F.kp D_turned.b ?_
 refine aA ?_
 refine aD G_mirrored (hr.mono (by decide)) D_mirrored.m D_mirrored.F.kp D_mirrored.b ?_
 refine aA ?_
 refine ge_v 0 rfl ?_
 refine aB ?_
 obtain ⟨q1, q2, q3, q4⟩ := (yA).b
 refine ⟨_, rfl, q1, q3, q4, ?_⟩
 refine aB ?_
 obtain ⟨q1, q2, q3, q4⟩ := (yA.mirror).b
 refine ⟨_, rfl, q2, q3, q4, ?_⟩
 refine aD G_mirrored (hr.mono (by decide)) D_mirrored.m D_mirrored.F.kp D_mirrored.b ?_
 refine aA ?_
 refine aD G_turned (hr.mono (by decide)) D_turned.m D_turned.F.kp D_turned.b ?_
 refine aA ?_
 refine aD G_turned (hr.mono (by decide)) D_turned.m D_turned.F.kp D_turned.b ?_
 refine aA ?_
 refine aD G_turned (hr.mono (by decide)) D_turned.m D_turned.F.kp D_turned.b ?_
 refine aA ?_
 refine ge_v 0 rfl ?_
 refine aB ?_
 obtain ⟨q1, q2, q3, q4⟩ := (yA).b
 refine ⟨_, rfl, q2, q3, q4, ?_⟩
 refine aB ?_
 obtain ⟨q1, q2, q3, q4⟩ := (yA.turn).b
 refine ⟨_, rfl, q2, q3, q4, ?_⟩
 refine aB ?_
 obtain ⟨q1, q2, q3, q4⟩ := (yA.turn.turn).b
 refine ⟨_, rfl, q2, q3, q4, ?_⟩
 refine aB ?_
 obtain ⟨q1, q2, q3, q4⟩ := (yA.turn.turn.turn).b
 refine ⟨_, rfl, q1, q3, q4, ?_⟩
 refine fV (tW A) ⟨_, rfl, ?_⟩
 refine iteF (bC ?_)
 refine aE (aO 5 f9.nd ?_)
 refine aD G_turned_paces (hr.mono (by decide)) D_turned_paces.m D_turned_paces.F.kp D_turned_paces.b ?_
 refine aA ?_
 refine aD G_turned_paces (hr.mono (by decide)) D_turned_paces.m D_turned_paces.F.kp D_turned_paces.b ?_
 refine aA ?_
 refine aD G_turned_paces (hr.mono (by decide)) D_turned_paces.m D_turned_paces.F.kp D_turned_paces.b ?_
 refine aA ?_
 refine ge_v 1 rfl ?_
 refine aB ?_
 refine ⟨_, _, _, _, rfl, ?_⟩
 refine aB ?_
 refine ⟨_, _, _, _, rfl, ?_⟩
 refine aB ?_
 refine ⟨_, _, _, _, rfl, ?_⟩
 refine aI (aQ (dZ (iS (n := 1) (R.bP hr)) ?_))
 refine aD G_turned_paces (hr.mono (by decide)) D_turned_paces.m D_turned_paces.F.kp D_turned_paces.b ?_
 refine aA ?_
 refine aD G_mirrored_paces (hr.mono (by decide)) D_mirrored_paces.m D_mirrored_paces.F.kp D_mirrored_paces.b ?_
 refine aA ?_
 refine ge_v 1 rfl ?_
 refine aB ?_
 refine ⟨_, _, _, _, rfl, ?_⟩
 refine aB ?_
 refine ⟨_, _, _, _, rfl, ?_⟩
 refine aD G_mirrored_paces (hr.mono (by decide)) D_mirrored_paces.m D_mirrored_paces.F.kp D_mirrored_paces.b ?_
 refine aA ?_
 refine ge_v 5 rfl ?_
 refine aB ?_
 refine ⟨_, _, _, _, rfl, ?_⟩
 refine kQ (e1 := pcT d c b a) (e2 := pcT d c b a) (.tup _) (.tup _) rfl rfl ?_
 rw [eqD_refl 1 _ rfl]
 exact hk
end
end Q
namespace Q
open PySem L2 Z
open U
section
variable {P : Program} {w : World} {K : PySem.W.Frag} {mg : Str → Option Value} {base : Heap}
theorem jR : FnScope ["yard", "by_x", "by_y", "xs", "ys"] ["yard", "by_x", "by_y"] (aH fX) := ⟨rfl, rfl, rfl, by decide +kernel, rfl, by decide +kernel, by decide +kernel⟩
theorem rF {f : Addr} {fd : FuncData} {f_times : Addr} {fd_times : FuncData} (Df : R.Df K mg "stretched" fX ["yard", "by_x", "by_y"] f fd)
  (D_times : R.Df K mg "times" kB ["one", "other"] f_times fd_times) (G_times : FnOk P w K mg base CX0 3 f_times fd_times ["one", "other"] (spZ K pZ)) (T : Bt mg) : FnOk P w K mg base CX0 5 f fd ["yard", "by_x", "by_y"] (spZ K j8) := by
 refine bB Df jR (fun ds M k h => ?_) (fun cdv A outer s H E hr ds M k h => ?_)
 ·obtain ⟨A, a, b, ha, hb, rfl, _⟩ := h; rfl
 obtain ⟨A, a, b, ha, hb, rfl, h9, g9, ba, bb, hl, gl, hk⟩ := h
 refine aE (aO 3 jR.nd ?_)
 refine bD bL T.tuple R.BT (aA (aX ["by_x"] [1] (bR ?_)))
 refine aJ aG ?_
 refine ge_v 0 rfl ?_
 refine aC ?_
 refine aK (.tup _) rfl ?_
 refine ⟨_, .inl rfl, ?_⟩
 refine bT (ds := aP A.ws) (by rw [bA]; exact R.aU (by omega)) (fun i acc M' => M' = M ∧ acc = aP ((A.ws.take i).map (· * a))) ⟨rfl, rfl⟩ ?_ ?_
 ·rintro i d acc M' hd ⟨rfl, rfl⟩ cs C s₀ H₀ fp
  obtain ⟨x, hx, rfl⟩ := bS hd
  refine aZ (iteT fun cs C s₀ H₀ fp => ?_)
  refine aD G_times (hr.mono (by decide)) D_times.m D_times.F.kp D_times.b ?_
  refine aA ?_
  refine ge_v 0 rfl ?_
  refine aA ?_
  refine ge_v 1 rfl ?_
  refine aB ?_
  refine ⟨_, _, rfl, h9 x (List.mem_of_getElem? hx), ba, ?_⟩
  refine ⟨rfl, ?_⟩
  rw [bJ hx, ← cC]
  rfl
 rintro acc M ⟨rfl, rfl⟩
 rw [bA, List.take_length]
 refine aB (cI (.lst _) ?_)
 refine aE (aO 4 jR.nd ?_)
 refine bD bL T.tuple R.BT (aA (aX ["by_y"] [2] (bR ?_)))
 refine aJ aG ?_
 refine ge_v 0 rfl ?_
 refine aC ?_
 refine aK (.tup _) rfl ?_
 refine ⟨_, .inl rfl, ?_⟩
 refine bT (ds := aP A.us) (by rw [bA]; exact R.aU (by omega)) (fun i acc M' => M' = M ∧ acc = aP ((A.us.take i).map (· * b))) ⟨rfl, rfl⟩ ?_ ?_
 ·rintro i d acc M' hd ⟨rfl, rfl⟩ cs C s₀ H₀ fp
  obtain ⟨x, hx, rfl⟩ := bS hd
  refine aZ (iteT fun cs C s₀ H₀ fp => ?_)
  refine aD G_times (hr.mono (by decide)) D_times.m D_times.F.kp D_times.b ?_
  refine aA ?_
  refine ge_v 0 rfl ?_
  refine aA ?_
  refine ge_v 1 rfl ?_
  refine aB ?_
  refine ⟨_, _, rfl, g9 x (List.mem_of_getElem? hx), bb, ?_⟩
  refine ⟨rfl, ?_⟩
  rw [bJ hx, ← cC]
  rfl
 rintro acc M ⟨rfl, rfl⟩
 rw [bA, List.take_length]
 refine aB (cI (.lst _) ?_)
 refine aI (aQ ?_)
 refine cG ?_
 refine aA ?_
 refine ge_v 3 rfl ?_
 refine aA ?_
 refine ge_v 4 rfl ?_
 refine aA ?_
 refine aJ aG ?_
 refine ge_v 0 rfl ?_
 refine aC ?_
 refine aK (.tup _) rfl ?_
 refine aB ?_
 refine ⟨(show 3 ≤ sizeLine by decide), ?_⟩
 exact hk
theorem sc_moved : FnScope ["yard", "x", "y"] ["yard", "x", "y"] (aH kD) := ⟨rfl, rfl, rfl, by decide +kernel, rfl, by decide +kernel, by decide +kernel⟩
theorem ok_moved {f : Addr} {fd : FuncData} {f_plus : Addr} {fd_plus : FuncData} (Df : R.Df K mg "moved" kD ["yard", "x", "y"] f fd)
  (D_plus : R.Df K mg "plus" mH ["one", "other"] f_plus fd_plus) (G_plus : FnOk P w K mg base CX0 3 f_plus fd_plus ["one", "other"] (spZ K cPlusQ)) (T : Bt mg) : FnOk P w K mg base CX0 5 f fd ["yard", "x", "y"] (spZ K p8) := by
 refine bB Df sc_moved (fun ds M k h => ?_) (fun cdv A outer s H E hr ds M k h => ?_)
 ·obtain ⟨A, a, b, rfl, _⟩ := h; rfl
 obtain ⟨A, a, b, rfl, h9, g9, ba, bb, hl, gl, hk⟩ := h
 refine aI (aQ (cG (aA ?_)))
 refine bD bL T.tuple R.BT (aA (aX ["x"] [1] (bR ?_)))
 refine aJ aG ?_
 refine ge_v 0 rfl ?_
 refine aC ?_
 refine aK (.tup _) rfl ?_
 refine ⟨_, .inl rfl, ?_⟩
 refine bT (ds := aP A.ws) (by rw [bA]; exact R.aU (by omega)) (fun i acc M' => M' = M ∧ acc = aP ((A.ws.take i).map (· + a))) ⟨rfl, rfl⟩ ?_ ?_
 ·rintro i d acc M' hd ⟨rfl, rfl⟩ cs C s₀ H₀ fp
  obtain ⟨x, hx, rfl⟩ := bS hd
  refine aZ (iteT fun cs C s₀ H₀ fp => ?_)
  refine aD G_plus (hr.mono (by decide)) D_plus.m D_plus.F.kp D_plus.b ?_
  refine aA ?_
  refine ge_v 0 rfl ?_
  refine aA ?_
  refine ge_v 1 rfl ?_
  refine aB ?_
  refine ⟨_, _, rfl, h9 x (List.mem_of_getElem? hx), ba, ?_⟩
  refine ⟨rfl, ?_⟩
  rw [bJ hx, ← cC]
  rfl
 rintro acc M ⟨rfl, rfl⟩
 rw [bA, List.take_length]
 refine aB (cI (.lst _) (aA ?_))
 refine bD bL T.tuple R.BT (aA (aX ["y"] [2] (bR ?_)))
 refine aJ aG ?_
 refine ge_v 0 rfl ?_
 refine aC ?_
 refine aK (.tup _) rfl ?_
 refine ⟨_, .inl rfl, ?_⟩
 refine bT (ds := aP A.us) (by rw [bA]; exact R.aU (by omega)) (fun i acc M' => M' = M ∧ acc = aP ((A.us.take i).map (· + b))) ⟨rfl, rfl⟩ ?_ ?_
 ·rintro i d acc M' hd ⟨rfl, rfl⟩ cs C s₀ H₀ fp
  obtain ⟨x, hx, rfl⟩ := bS hd
  refine aZ (iteT fun cs C s₀ H₀ fp => ?_)
  refine aD G_plus (hr.mono (by decide)) D_plus.m D_plus.F.kp D_plus.b ?_
  refine aA ?_
  refine ge_v 0 rfl ?_
  refine aA ?_
  refine ge_v 1 rfl ?_
  refine aB ?_
  refine ⟨_, _, rfl, g9 x (List.mem_of_getElem? hx), bb, ?_⟩
  refine ⟨rfl, ?_⟩
  rw [bJ hx, ← cC]
  rfl
 rintro acc M ⟨rfl, rfl⟩
 rw [bA, List.take_length]
 refine aB (cI (.lst _) (aA ?_))
 refine aJ aG ?_
 refine ge_v 0 rfl ?_
 refine aC ?_
 refine aK (.tup _) rfl ?_
 exact aB ⟨(show 3 ≤ sizeLine by decide), hk⟩
end
end Q
namespace Q
open PySem L2 Z
open U
section
variable {P : Program} {w : World} {K : PySem.W.Frag} {mg : Str → Option Value} {base : Heap}
theorem fF : FnScope ["_law_yard", "_law_some", "_law_a", "_law_b", "_law_c", "_law_d", "_law_nought", "_law_there"] ["_law_yard", "_law_some"] (aH lE) := ⟨rfl, rfl, rfl, by decide +kernel, rfl, by decide +kernel, by decide +kernel⟩
theorem ok_summed {f : Addr} {fd : FuncData} {f_moved f_plus f_minus : Addr} {fd_moved fd_plus fd_minus : FuncData} (Df : R.Df K mg "_law_summed" lE ["_law_yard", "_law_some"] f fd)
  (D_moved : R.Df K mg "moved" kD ["yard", "x", "y"] f_moved fd_moved) (G_moved : FnOk P w K mg base CX0 5 f_moved fd_moved ["yard", "x", "y"] (spZ K p8))
  (D_plus : R.Df K mg "plus" mH ["one", "other"] f_plus fd_plus) (G_plus : FnOk P w K mg base CX0 3 f_plus fd_plus ["one", "other"] (spZ K cPlusQ))
  (D_minus : R.Df K mg "minus" kR ["one", "other"] f_minus fd_minus) (G_minus : FnOk P w K mg base CX0 3 f_minus fd_minus ["one", "other"] (spZ K pK)) (T : Bt mg) : FnOk P w K mg base CX0 6 f fd ["_law_yard", "_law_some"] (spZ K cSummed) := by
 refine bB Df fF (fun ds M k h => ?_) (fun cdv A outer s H E hr ds M k h => ?_)
 ·obtain ⟨A, a, b, c, d, rfl, _⟩ := h; rfl
 obtain ⟨A, a, b, c, d, rfl, yA, fa, fb, fc, fd, hk⟩ := h
 have ba := (sk1 fa (by decide +kernel)).bq
 have bb := (sk1 fb (by decide +kernel)).bq
 have bc := (sk1 fc (by decide +kernel)).bq
 have bd := (sk1 fd (by decide +kernel)).bq
 have bac := (sk1 (fa.add fc) (by decide +kernel)).bq
 have bbd := (sk1 (fb.add fd) (by decide +kernel)).bq
 have yS := yA.shift fa fb
 refine aE (pJ ?_)
 refine ge_v 1 rfl ?_
 refine gg_lst rfl (fE (c8 2 fF.nd (fE (c8 3 fF.nd (fE (c8 4 fF.nd (fE (c8 5 fF.nd (ggs_nil ?_)))))))))
 refine aE (aO 6 fF.nd ?_)
 refine cG ?_
 refine aA ?_
 refine aC ?_
 refine aA ?_
 refine aC ?_
 refine aB ?_
 refine ⟨(show 2 ≤ sizeLine by decide), ?_⟩
 refine aE (aO 7 fF.nd ?_)
 refine aD G_moved (hr.mono (by decide)) D_moved.m D_moved.F.kp D_moved.b ?_
 refine aA ?_
 refine ge_v 0 rfl ?_
 refine aA ?_
 refine ge_v 2 rfl ?_
 refine aA ?_
 refine ge_v 3 rfl ?_
 refine aB ?_
 obtain ⟨q1, q2, q3, q4⟩ := (yA).b
 refine ⟨_, _, _, rfl, q1, q2, ba, bb, q3, q4, ?_⟩
 refine aE (bF ?_)
 refine aV (eM (n := 3) (R.bP hr)) ?_
 refine aD G_moved (hr.mono (by decide)) D_moved.m D_moved.F.kp D_moved.b ?_
 refine aA ?_
 refine ge_v 7 rfl ?_
 refine aA ?_
 refine ge_v 4 rfl ?_
 refine aA ?_
 refine ge_v 5 rfl ?_
 refine aB ?_
 obtain ⟨q1, q2, q3, q4⟩ := (yS).b
 refine ⟨_, _, _, rfl, q1, q2, bc, bd, q3, q4, ?_⟩
 refine aD G_moved (hr.mono (by decide)) D_moved.m D_moved.F.kp D_moved.b ?_
 refine aA ?_
 refine ge_v 0 rfl ?_
 refine aA ?_
 refine aD G_plus (hr.mono (by decide)) D_plus.m D_plus.F.kp D_plus.b ?_
 refine aA ?_
 refine ge_v 2 rfl ?_
 refine aA ?_
 refine ge_v 4 rfl ?_
 refine aB ?_
 refine ⟨_, _, rfl, ba, bc, ?_⟩
 refine aA ?_
 refine aD G_plus (hr.mono (by decide)) D_plus.m D_plus.F.kp D_plus.b ?_
 refine aA ?_
 refine ge_v 3 rfl ?_
 refine aA ?_
 refine ge_v 5 rfl ?_
 refine aB ?_
 refine ⟨_, _, rfl, bb, bd, ?_⟩
 refine aB ?_
 obtain ⟨q1, q2, q3, q4⟩ := (yA).b
 refine ⟨_, _, _, rfl, q1, q2, bac, bbd, q3, q4, ?_⟩
 refine fV (shift2 A a b c d) ⟨_, rfl, ?_⟩
 refine iteF (bC (aE (bF ?_)))
 refine aV (eM (n := 3) (R.bP hr)) ?_
 refine aD G_moved (hr.mono (by decide)) D_moved.m D_moved.F.kp D_moved.b ?_
 refine aA ?_
 refine ge_v 7 rfl ?_
 refine aA ?_
 refine aD G_minus (hr.mono (by decide)) D_minus.m D_minus.F.kp D_minus.b ?_
 refine aA ?_
 refine ge_v 6 rfl ?_
 refine aA ?_
 refine ge_v 2 rfl ?_
 refine aB ?_
 refine ⟨0, _, rfl, bq0, ba, ?_⟩
 refine aA ?_
 refine aD G_minus (hr.mono (by decide)) D_minus.m D_minus.F.kp D_minus.b ?_
 refine aA ?_
 refine ge_v 6 rfl ?_
 refine aA ?_
 refine ge_v 3 rfl ?_
 refine aB ?_
 refine ⟨0, _, rfl, bq0, bb, ?_⟩
 refine aB ?_
 obtain ⟨q1, q2, q3, q4⟩ := (yS).b
 refine ⟨_, _, _, rfl, q1, q2, ba.neg, bb.neg, q3, q4, ?_⟩
 refine ge_v 0 rfl ?_
 refine fV (uO A a b) ⟨_, rfl, ?_⟩
 refine iteF (bC (aE (bF ?_)))
 refine aV (eM (n := 3) (R.bP hr)) ?_
 refine aD G_moved (hr.mono (by decide)) D_moved.m D_moved.F.kp D_moved.b ?_
 refine aA ?_
 refine ge_v 0 rfl ?_
 refine aA ?_
 refine ge_v 6 rfl ?_
 refine aA ?_
 refine ge_v 6 rfl ?_
 refine aB ?_
 obtain ⟨q1, q2, q3, q4⟩ := yA.b
 refine ⟨_, 0, 0, rfl, q1, q2, bq0, bq0, q3, q4, ?_⟩
 refine ge_v 0 rfl ?_
 refine fV (shift0 A) ⟨_, rfl, ?_⟩
 refine iteF (bC ?_)
 refine aI (aQ (ge_or ?_))
 refine dZ (iS (n := 3) (R.bP hr)) ?_
 refine ge_v 0 rfl ?_
 refine cG ?_
 refine aA ?_
 refine cG ?_
 refine aB ?_
 refine ⟨(show 0 ≤ sizeLine by decide), ?_⟩
 refine aA ?_
 refine cG ?_
 refine aB ?_
 refine ⟨(show 0 ≤ sizeLine by decide), ?_⟩
 refine aA ?_
 refine cG ?_
 refine aB ?_
 refine ⟨(show 0 ≤ sizeLine by decide), ?_⟩
 refine aB ?_
 refine ⟨(show 3 ≤ sizeLine by decide), ?_⟩
 refine o2_eqY (B := Yd.void) ⟨_, rfl, ?_⟩
 by_cases hv : A = Yd.void
 ·rw [decide_eq_true hv]
  exact iteT hk
 rw [decide_eq_false hv]
 refine iteF (kC (dZ dS ?_))
 refine dZ (iS (n := 3) (R.bP hr)) ?_
 refine ge_v 7 rfl ?_
 refine ge_v 0 rfl ?_
 refine o2_eqY ?_
 refine dZ (iS (n := 2) (R.bP hr)) ?_
 refine cK dU ?_
 refine ge_v 1 rfl ?_
 refine c9 ?_
 refine c7 ?_
 refine aC ?_
 refine ⟨_, rfl, ?_⟩
 refine fD (.lst _) ?_
 refine eW ?_
 refine aA ?_
 refine ge_v 6 rfl ?_
 refine aA ?_
 refine ge_v 6 rfl ?_
 refine aB ?_
 refine ⟨(show 2 ≤ sizeLine by decide), ?_⟩
 refine kQ (e1 := .lst [numD a, numD b]) (e2 := .lst [numD 0, numD 0]) (.lst _) (.lst _) rfl rfl (o2_eqB ?_)
 rw [eq_two, show decide (A.shift a b = A) = decide (a = 0 ∧ b = 0) from decide_eq_decide.mpr (uU hv a b), decide_eq_true rfl]
 exact hk
end
end Q
namespace Q
open PySem L2 Z
open U
section
variable {P : Program} {w : World} {K : PySem.W.Frag} {mg : Str → Option Value} {base : Heap}
theorem dX : FnScope ["_law_yard", "_law_some", "_law_a", "_law_b", "_law_c", "_law_d", "_law_there"] ["_law_yard", "_law_some"] (aH iE) := ⟨rfl, rfl, rfl, by decide +kernel, rfl, by decide +kernel, by decide +kernel⟩
theorem rH {f : Addr} {fd : FuncData} {f_stretched f_times f_over : Addr} {fd_stretched fd_times fd_over : FuncData} (Df : R.Df K mg "_law_stretches" iE ["_law_yard", "_law_some"] f fd)
  (D_stretched : R.Df K mg "stretched" fX ["yard", "by_x", "by_y"] f_stretched fd_stretched) (G_stretched : FnOk P w K mg base CX0 5 f_stretched fd_stretched ["yard", "by_x", "by_y"] (spZ K j8))
  (D_times : R.Df K mg "times" kB ["one", "other"] f_times fd_times) (G_times : FnOk P w K mg base CX0 3 f_times fd_times ["one", "other"] (spZ K pZ))
  (D_over : R.Df K mg "over" oX ["one", "other"] f_over fd_over) (G_over : FnOk P w K mg base CX0 3 f_over fd_over ["one", "other"] (spZ K cOverQ)) : FnOk P w K mg base CX0 6 f fd ["_law_yard", "_law_some"] (spZ K pH) := by
 refine bB Df dX (fun ds M k h => ?_) (fun cdv A outer s H E hr ds M k h => ?_)
 ·obtain ⟨A, a, b, c, d, rfl, _⟩ := h; rfl
 obtain ⟨A, a, b, c, d, rfl, yA, pa, pb, pc', pd, hk⟩ := h
 have ba := (sk1 pa.fr (by decide +kernel)).bq
 have bb := (sk1 pb.fr (by decide +kernel)).bq
 have bc := (sk1 pc'.fr (by decide +kernel)).bq
 have bd := (sk1 pd.fr (by decide +kernel)).bq
 have bac := (sk2 (pa.fr.mul pc'.fr) (by decide +kernel)).bq
 have bbd := (sk2 (pb.fr.mul pd.fr) (by decide +kernel)).bq
 have ia := (sk1 pa.inv (by decide +kernel)).bq
 have ib := (sk1 pb.inv (by decide +kernel)).bq
 have p1' := Rat.mul_pos pa.p pc'.p
 have p2' := Rat.mul_pos pb.p pd.p
 have p3' := inv_pos pa.p
 have p4' := inv_pos pb.p
 have na : a ≠ 0 := fun e => by have := pa.p; rw [e] at this; exact Rat.lt_irrefl this
 have nb : b ≠ 0 := fun e => by have := pb.p; rw [e] at this; exact Rat.lt_irrefl this
 have yS := yA.scale pa.fr pb.fr pa.p pb.p
 refine aE (pJ ?_)
 refine ge_v 1 rfl ?_
 refine gg_lst rfl (fE (c8 2 dX.nd (fE (c8 3 dX.nd (fE (c8 4 dX.nd (fE (c8 5 dX.nd (ggs_nil ?_)))))))))
 refine aE (aO 6 dX.nd ?_)
 refine aD G_stretched (hr.mono (by decide)) D_stretched.m D_stretched.F.kp D_stretched.b ?_
 refine aA ?_
 refine ge_v 0 rfl ?_
 refine aA ?_
 refine ge_v 2 rfl ?_
 refine aA ?_
 refine ge_v 3 rfl ?_
 refine aB ?_
 obtain ⟨q1, q2, q3, q4⟩ := (yA).b
 refine ⟨_, _, _, pa.p, pb.p, rfl, q1, q2, ba, bb, q3, q4, ?_⟩
 refine aE (bF ?_)
 refine aV (eM (n := 3) (R.bP hr)) ?_
 refine aD G_stretched (hr.mono (by decide)) D_stretched.m D_stretched.F.kp D_stretched.b ?_
 refine aA ?_
 refine ge_v 6 rfl ?_
 refine aA ?_
 refine ge_v 4 rfl ?_
 refine aA ?_
 refine ge_v 5 rfl ?_
 refine aB ?_
 obtain ⟨q1, q2, q3, q4⟩ := (yS).b
 refine ⟨_, _, _, pc'.p, pd.p, rfl, q1, q2, bc, bd, q3, q4, ?_⟩
 refine aD G_stretched (hr.mono (by decide)) D_stretched.m D_stretched.F.kp D_stretched.b ?_
 refine aA ?_
 refine ge_v 0 rfl ?_
 refine aA ?_
 refine aD G_times (hr.mono (by decide)) D_times.m D_times.F.kp D_times.b ?_
 refine aA ?_
 refine ge_v 2 rfl ?_
 refine aA ?_
 refine ge_v 4 rfl ?_
 refine aB ?_
 refine ⟨_, _, rfl, ba, bc, ?_⟩
 refine aA ?_
 refine aD G_times (hr.mono (by decide)) D_times.m D_times.F.kp D_times.b ?_
 refine aA ?_
 refine ge_v 3 rfl ?_
 refine aA ?_
 refine ge_v 5 rfl ?_
 refine aB ?_
 refine ⟨_, _, rfl, bb, bd, ?_⟩
 refine aB ?_
 obtain ⟨q1, q2, q3, q4⟩ := (yA).b
 refine ⟨_, _, _, p1', p2', rfl, q1, q2, bac, bbd, q3, q4, ?_⟩
 refine fV (scale2 A pa.p pb.p pc'.p pd.p p1' p2') ⟨_, rfl, ?_⟩
 refine iteF (bC ?_)
 refine aI (aQ (dZ (iS (n := 3) (R.bP hr)) ?_))
 refine aD G_stretched (hr.mono (by decide)) D_stretched.m D_stretched.F.kp D_stretched.b ?_
 refine aA ?_
 refine ge_v 6 rfl ?_
 refine aA ?_
 refine aD G_over (hr.mono (by decide)) D_over.m D_over.F.kp D_over.b ?_
 refine aA ?_
 refine cG ?_
 refine aA ?_
 refine aC ?_
 refine aA ?_
 refine aC ?_
 refine aB ?_
 refine ⟨(show 2 ≤ sizeLine by decide), ?_⟩
 refine aA ?_
 refine ge_v 2 rfl ?_
 refine aB ?_
 refine ⟨1, _, by rw [num11], bq11, ba, na, ?_⟩
 refine aA ?_
 refine aD G_over (hr.mono (by decide)) D_over.m D_over.F.kp D_over.b ?_
 refine aA ?_
 refine cG ?_
 refine aA ?_
 refine aC ?_
 refine aA ?_
 refine aC ?_
 refine aB ?_
 refine ⟨(show 2 ≤ sizeLine by decide), ?_⟩
 refine aA ?_
 refine ge_v 3 rfl ?_
 refine aB ?_
 refine ⟨1, _, by rw [num11], bq11, bb, nb, ?_⟩
 refine aB ?_
 obtain ⟨q1, q2, q3, q4⟩ := (yS).b
 refine ⟨_, _, _, p3', p4', rfl, q1, q2, ia, ib, q3, q4, ?_⟩
 refine ge_v 0 rfl ?_
 refine o2_eqY ?_
 rw [decide_eq_true (uL A pa.p pb.p p3' p4')]
 exact hk
end
end Q
namespace Q
open PySem L2 Z
open U
section
variable {P : Program} {w : World} {K : PySem.W.Frag} {mg : Str → Option Value} {base : Heap}
theorem uR : FnScope ["_law_way", "_law_yard", "_law_some"] ["_law_way", "_law_yard", "_law_some"] (aH jW) := ⟨rfl, rfl, rfl, by decide +kernel, rfl, by decide +kernel, by decide +kernel⟩
theorem uQ {f : Addr} {fd : FuncData} {f_moved f_turned f_mirrored f_stretched : Addr} {fd_moved fd_turned fd_mirrored fd_stretched : FuncData} (Df : R.Df K mg "_law_brought" jW ["_law_way", "_law_yard", "_law_some"] f fd)
  (D_moved : R.Df K mg "moved" kD ["yard", "x", "y"] f_moved fd_moved) (G_moved : FnOk P w K mg base CX0 5 f_moved fd_moved ["yard", "x", "y"] (spZ K p8))
  (D_turned : R.Df K mg "turned" jQ ["yard"] f_turned fd_turned) (G_turned : FnOk P w K mg base CX0 6 f_turned fd_turned ["yard"] (spZ K n4))
  (D_mirrored : R.Df K mg "mirrored" gS ["yard"] f_mirrored fd_mirrored) (G_mirrored : FnOk P w K mg base CX0 6 f_mirrored fd_mirrored ["yard"] (spZ K lB))
  (D_stretched : R.Df K mg "stretched" fX ["yard", "by_x", "by_y"] f_stretched fd_stretched) (G_stretched : FnOk P w K mg base CX0 5 f_stretched fd_stretched ["yard", "by_x", "by_y"] (spZ K j8)) : FnOk P w K mg base CX0 7 f fd ["_law_way", "_law_yard", "_law_some"] (spZ K pE) := by
 refine bB Df uR (fun ds M k h => ?_) (fun cdv A outer s H E hr ds M k h => ?_)
 ·obtain ⟨w, A, a, b, c, d, hp, rfl, _⟩ := h; rfl
 obtain ⟨wy, A, a, b, c, d, hp, rfl, hw, yA, hk⟩ := h
 have ba := (sk1 hp.fa (by decide +kernel)).bq
 have bb := (sk1 hp.fb (by decide +kernel)).bq
 have bc := (sk1 hp.fc (by decide +kernel)).bq
 have bd := (sk1 hp.fd (by decide +kernel)).bq
 have hw4 : wy = 0 ∨ wy = 1 ∨ wy = 2 ∨ wy = 3 := by omega
 rcases hw4 with rfl | rfl | rfl | rfl
 ·skip
  refine aE (bF ?_)
  refine aV dS ?_
  refine ge_v 0 rfl ?_
  refine aC ?_
  refine dJ ?_
  refine ⟨_, rfl, ?_⟩
  refine gL (decide_eq_true rfl) ?_
  refine aI (aQ ?_)
  refine aD G_moved (hr.mono (by decide)) D_moved.m D_moved.F.kp D_moved.b ?_
  refine aA ?_
  refine ge_v 1 rfl ?_
  refine aA ?_
  refine aJ aG ?_
  refine ge_v 2 rfl ?_
  refine aC ?_
  refine aK (.lst _) rfl ?_
  refine aA ?_
  refine aJ aG ?_
  refine ge_v 2 rfl ?_
  refine aC ?_
  refine aK (.lst _) rfl ?_
  refine aB ?_
  obtain ⟨q1, q2, q3, q4⟩ := (yA).b
  refine ⟨_, _, _, rfl, q1, q2, ba, bb, q3, q4, ?_⟩
  exact hk
 ·skip
  refine aE (bF ?_)
  refine aV dS ?_
  refine ge_v 0 rfl ?_
  refine aC ?_
  refine dJ ?_
  refine ⟨_, rfl, ?_⟩
  refine eA (decide_eq_false (by decide)) (bC ?_)
  refine aE (bF ?_)
  refine aV dS ?_
  refine ge_v 0 rfl ?_
  refine aC ?_
  refine dJ ?_
  refine ⟨_, rfl, ?_⟩
  refine gL (decide_eq_true rfl) ?_
  refine aI (aQ ?_)
  refine aD G_turned (hr.mono (by decide)) D_turned.m D_turned.F.kp D_turned.b ?_
  refine aA ?_
  refine ge_v 1 rfl ?_
  refine aB ?_
  obtain ⟨q1, q2, q3, q4⟩ := (yA).b
  refine ⟨_, rfl, q2, q3, q4, ?_⟩
  exact hk
 ·skip
  refine aE (bF ?_)
  refine aV dS ?_
  refine ge_v 0 rfl ?_
  refine aC ?_
  refine dJ ?_
  refine ⟨_, rfl, ?_⟩
  refine eA (decide_eq_false (by decide)) (bC ?_)
  refine aE (bF ?_)
  refine aV dS ?_
  refine ge_v 0 rfl ?_
  refine aC ?_
  refine dJ ?_
  refine ⟨_, rfl, ?_⟩
  refine eA (decide_eq_false (by decide)) (bC ?_)
  refine aE (bF ?_)
  refine aV dS ?_
  refine ge_v 0 rfl ?_
  refine aC ?_
  refine dJ ?_
  refine ⟨_, rfl, ?_⟩
  refine gL (decide_eq_true rfl) ?_
  refine aI (aQ ?_)
  refine aD G_mirrored (hr.mono (by decide)) D_mirrored.m D_mirrored.F.kp D_mirrored.b ?_
  refine aA ?_
  refine ge_v 1 rfl ?_
  refine aB ?_
  obtain ⟨q1, q2, q3, q4⟩ := (yA).b
  refine ⟨_, rfl, q1, q3, q4, ?_⟩
  exact hk
 ·skip
  refine aE (bF ?_)
  refine aV dS ?_
  refine ge_v 0 rfl ?_
  refine aC ?_
  refine dJ ?_
  refine ⟨_, rfl, ?_⟩
  refine eA (decide_eq_false (by decide)) (bC ?_)
  refine aE (bF ?_)
  refine aV dS ?_
  refine ge_v 0 rfl ?_
  refine aC ?_
  refine dJ ?_
  refine ⟨_, rfl, ?_⟩
  refine eA (decide_eq_false (by decide)) (bC ?_)
  refine aE (bF ?_)
  refine aV dS ?_
  refine ge_v 0 rfl ?_
  refine aC ?_
  refine dJ ?_
  refine ⟨_, rfl, ?_⟩
  refine eA (decide_eq_false (by decide)) (bC ?_)
  refine aI (aQ ?_)
  refine aD G_stretched (hr.mono (by decide)) D_stretched.m D_stretched.F.kp D_stretched.b ?_
  refine aA ?_
  refine ge_v 1 rfl ?_
  refine aA ?_
  refine aJ aG ?_
  refine ge_v 2 rfl ?_
  refine aC ?_
  refine aK (.lst _) rfl ?_
  refine aA ?_
  refine aJ aG ?_
  refine ge_v 2 rfl ?_
  refine aC ?_
  refine aK (.lst _) rfl ?_
  refine aB ?_
  obtain ⟨q1, q2, q3, q4⟩ := (yA).b
  refine ⟨_, _, _, hp.c0, hp.d0, rfl, q1, q2, bc, bd, q3, q4, ?_⟩
  exact hk
end
end Q
namespace Q
open PySem L2 Z
open U
section
variable {P : Program} {w : World} {K : PySem.W.Frag} {mg : Str → Option Value} {base : Heap}
theorem gQ : FnScope ["bands", "outside", "framed"] ["bands"] (aH jZ) := ⟨rfl, rfl, rfl, by decide +kernel, rfl, by decide +kernel, by decide +kernel⟩
theorem uF {f : Addr} {fd : FuncData} (Df : R.Df K mg "changes" jZ ["bands"] f fd) (T : Bt mg) : FnOk P w K mg base CX0 1 f fd ["bands"] (spZ K qU) := by
 refine bB Df gQ (fun ds M k h => ?_) (fun cdv A outer s H E hr ds M k h => ?_)
 ·obtain ⟨t, r, zs, n, rfl, _⟩ := h; rfl
 obtain ⟨t, r, zs, n, rfl, s1, hl, hn, hz, hk⟩ := h
 cases t with
 | true =>
  cases s1
  refine aE (bF ?_)
  refine cY ?_
  refine kY ?_
  refine ge_v 0 rfl ?_
  refine ⟨_, .seq (.lst _), ?_⟩
  refine ite2 (fun hb => ?_) (fun hb => ?_)
  ·have e : zs = [] := by
    cases zs with
    | nil => rfl
    | cons z zr => exact absurd hb (by simp)
   subst e
   refine aI (aQ ?_)
   refine eW ?_
   refine aB ?_
   refine ⟨(show 0 ≤ sizeLine by decide), ?_⟩
   exact hk
  have hne : zs ≠ [] := fun e => by subst e; exact hb rfl
  obtain ⟨z0, zr, rfl⟩ : ∃ z0 zr, zs = z0 :: zr := by
   cases zs with
   | nil => exact absurd rfl hne
   | cons z zr => exact ⟨z, zr, rfl⟩
  have l0 := hz z0 (by simp)
  refine bC ?_
  refine aE (aO 1 gQ.nd ?_)
  refine aM op_repS ?_
  refine cB ?_
  refine aT bM T.len PySem.boot_len ?_
  refine aA ?_
  refine aJ aG ?_
  refine ge_v 0 rfl ?_
  refine aC ?_
  refine aK (.lst _) (nE z0 zr) ?_
  refine aB ?_
  refine jC (R.aU (by omega)) ?_
  refine o2_repS (by omega) (by omega) (sY (by omega)) ?_
  rw [Int.toNat_natCast, R.qS]
  refine aE (aO 2 gQ.nd ?_)
  refine aM jN ?_
  refine aM jN ?_
  refine eW ?_
  refine aA ?_
  refine ge_v 1 rfl ?_
  refine aB ?_
  refine ⟨(show 1 ≤ sizeLine by decide), ?_⟩
  refine bD cS T.list R.BL ?_
  refine aA ?_
  refine ge_v 0 rfl ?_
  refine aB ?_
  refine gD (.lst _) ?_
  refine jL (.lst _) (.lst _) (by rw [List.length_map]; exact R.aU (by simp only [List.length_cons, List.length_nil] at hl ⊢; omega)) ?_
  refine eW ?_
  refine aA ?_
  refine ge_v 1 rfl ?_
  refine aB ?_
  refine ⟨(show 1 ≤ sizeLine by decide), ?_⟩
  refine jL (.lst _) (.lst _) (by simp only [List.length_append, List.length_map, List.length_cons, List.length_nil] at hl ⊢; exact R.aU (by omega)) ?_
  rw [show [D.str (R.dots z0.length)] ++ (z0 :: zr).map D.str ++ [D.str (R.dots z0.length)] = (R.framed (z0 :: zr)).map D.str from by simp [R.framed]]
  generalize hzz : z0 :: zr = zs at *
  refine aI (aQ ((aX ["framed"] [2] (eZ T.range ?_))))
  refine aA ?_
  refine aM dY ?_
  refine aT bM T.len PySem.boot_len ?_
  refine aA ?_
  refine ge_v 2 rfl ?_
  refine aB ?_
  refine cR (.lst _) ?_
  refine aC ?_
  refine o2_0 ?_
  refine aB ?_
  rw [List.length_map, R.fJ]
  refine ⟨_, rfl, by omega, by omega, ?_⟩
  rw [show (((zs.length + 2 : Nat) : Int) - 1).toNat = zs.length + 1 by omega]
  refine bT (by rw [bQ]; exact R.aU (by omega)) (fun i acc M' => M' = M ∧ acc = ((List.range i).filter fun i => !decide ((R.framed zs)[i]? = (R.framed zs)[i + 1]?)).map fun (j : Nat) => D.int (j : Int)) ⟨rfl, rfl⟩ ?_ ?_
  ·rintro i d acc M' hd ⟨rfl, rfl⟩ cs C s₀ H₀ fp
   obtain ⟨hi, rfl⟩ := cW hd
   obtain ⟨u, hu⟩ := i4 (zs := zs) (i := i) (by omega)
   obtain ⟨v, hv⟩ := i4 (zs := zs) (i := i + 1) (by omega)
   refine pQ ?_
   refine aV op_ne ?_
   refine aJ aG ?_
   refine ge_v 1 rfl ?_
   refine ge_v 0 rfl ?_
   refine aK (.lst _) (mX hu) ?_
   refine aJ aG ?_
   refine ge_v 1 rfl ?_
   refine aM b6 ?_
   refine ge_v 0 rfl ?_
   refine aC ?_
   refine o2_0 ?_
   refine aK (.lst _) (sG hv) ?_
   refine o2_neS ?_
   refine ⟨_, rfl, ?_⟩
   have ed : (!decide ((R.framed zs)[i]? = (R.framed zs)[i + 1]?)) = (!decide (u = v)) := by rw [hu, hv]; congr 1; simp
   refine ite2 (fun hb => fun cs C s₀ H₀ fp => ?_) (fun hb => ?_)
   ·refine ge_v 0 rfl ?_
    refine ⟨rfl, ?_⟩
    rw [iF, if_pos (by rw [ed]; exact hb), List.map_append, Int.zero_add]
    rfl
   ·refine ⟨rfl, ?_⟩
    rw [iF, if_neg (by rw [ed]; exact hb)]
  rintro acc M' ⟨rfl, rfl⟩
  rw [bQ, chg_eq]
  exact hk
 | false =>
  cases s1
  refine aE (bF ?_)
  refine cY ?_
  refine kY ?_
  refine ge_v 0 rfl ?_
  refine ⟨_, .seq (.tup _), ?_⟩
  refine ite2 (fun hb => ?_) (fun hb => ?_)
  ·have e : zs = [] := by
    cases zs with
    | nil => rfl
    | cons z zr => exact absurd hb (by simp)
   subst e
   refine aI (aQ ?_)
   refine eW ?_
   refine aB ?_
   refine ⟨(show 0 ≤ sizeLine by decide), ?_⟩
   exact hk
  have hne : zs ≠ [] := fun e => by subst e; exact hb rfl
  obtain ⟨z0, zr, rfl⟩ : ∃ z0 zr, zs = z0 :: zr := by
   cases zs with
   | nil => exact absurd rfl hne
   | cons z zr => exact ⟨z, zr, rfl⟩
  have l0 := hz z0 (by simp)
  refine bC ?_
  refine aE (aO 1 gQ.nd ?_)
  refine aM op_repS ?_
  refine cB ?_
  refine aT bM T.len PySem.boot_len ?_
  refine aA ?_
  refine aJ aG ?_
  refine ge_v 0 rfl ?_
  refine aC ?_
  refine aK (.tup _) (nE z0 zr) ?_
  refine aB ?_
  refine jC (R.aU (by omega)) ?_
  refine o2_repS (by omega) (by omega) (sY (by omega)) ?_
  rw [Int.toNat_natCast, R.qS]
  refine aE (aO 2 gQ.nd ?_)
  refine aM jN ?_
  refine aM jN ?_
  refine eW ?_
  refine aA ?_
  refine ge_v 1 rfl ?_
  refine aB ?_
  refine ⟨(show 1 ≤ sizeLine by decide), ?_⟩
  refine bD cS T.list R.BL ?_
  refine aA ?_
  refine ge_v 0 rfl ?_
  refine aB ?_
  refine gD (.tup _) ?_
  refine jL (.lst _) (.lst _) (by rw [List.length_map]; exact R.aU (by simp only [List.length_cons, List.length_nil] at hl ⊢; omega)) ?_
  refine eW ?_
  refine aA ?_
  refine ge_v 1 rfl ?_
  refine aB ?_
  refine ⟨(show 1 ≤ sizeLine by decide), ?_⟩
  refine jL (.lst _) (.lst _) (by simp only [List.length_append, List.length_map, List.length_cons, List.length_nil] at hl ⊢; exact R.aU (by omega)) ?_
  rw [show [D.str (R.dots z0.length)] ++ (z0 :: zr).map D.str ++ [D.str (R.dots z0.length)] = (R.framed (z0 :: zr)).map D.str from by simp [R.framed]]
  generalize hzz : z0 :: zr = zs at *
  refine aI (aQ ((aX ["framed"] [2] (eZ T.range ?_))))
  refine aA ?_
  refine aM dY ?_
  refine aT bM T.len PySem.boot_len ?_
  refine aA ?_
  refine ge_v 2 rfl ?_
  refine aB ?_
  refine cR (.lst _) ?_
  refine aC ?_
  refine o2_0 ?_
  refine aB ?_
  rw [List.length_map, R.fJ]
  refine ⟨_, rfl, by omega, by omega, ?_⟩
  rw [show (((zs.length + 2 : Nat) : Int) - 1).toNat = zs.length + 1 by omega]
  refine bT (by rw [bQ]; exact R.aU (by omega)) (fun i acc M' => M' = M ∧ acc = ((List.range i).filter fun i => !decide ((R.framed zs)[i]? = (R.framed zs)[i + 1]?)).map fun (j : Nat) => D.int (j : Int)) ⟨rfl, rfl⟩ ?_ ?_
  ·rintro i d acc M' hd ⟨rfl, rfl⟩ cs C s₀ H₀ fp
   obtain ⟨hi, rfl⟩ := cW hd
   obtain ⟨u, hu⟩ := i4 (zs := zs) (i := i) (by omega)
   obtain ⟨v, hv⟩ := i4 (zs := zs) (i := i + 1) (by omega)
   refine pQ ?_
   refine aV op_ne ?_
   refine aJ aG ?_
   refine ge_v 1 rfl ?_
   refine ge_v 0 rfl ?_
   refine aK (.lst _) (mX hu) ?_
   refine aJ aG ?_
   refine ge_v 1 rfl ?_
   refine aM b6 ?_
   refine ge_v 0 rfl ?_
   refine aC ?_
   refine o2_0 ?_
   refine aK (.lst _) (sG hv) ?_
   refine o2_neS ?_
   refine ⟨_, rfl, ?_⟩
   have ed : (!decide ((R.framed zs)[i]? = (R.framed zs)[i + 1]?)) = (!decide (u = v)) := by rw [hu, hv]; congr 1; simp
   refine ite2 (fun hb => fun cs C s₀ H₀ fp => ?_) (fun hb => ?_)
   ·refine ge_v 0 rfl ?_
    refine ⟨rfl, ?_⟩
    rw [iF, if_pos (by rw [ed]; exact hb), List.map_append, Int.zero_add]
    rfl
   ·refine ⟨rfl, ?_⟩
    rw [iF, if_neg (by rw [ed]; exact hb)]
  rintro acc M' ⟨rfl, rfl⟩
  rw [bQ, chg_eq]
  exact hk
theorem sc_picked : FnScope ["row", "places"] ["row", "places"] (aH k7) := ⟨rfl, rfl, rfl, by decide +kernel, rfl, by decide +kernel, by decide +kernel⟩
theorem ok_picked {f : Addr} {fd : FuncData} (Df : R.Df K mg "picked" k7 ["row", "places"] f fd) : FnOk P w K mg base CX0 1 f fd ["row", "places"] (spZ K cPicked) := by
 refine bB Df sc_picked (fun ds M k h => ?_) (fun cdv A outer s H E hr ds M k h => ?_)
 ·obtain ⟨z, js, rfl, _⟩ := h; rfl
 obtain ⟨z, js, rfl, hz, hl, hj, hk⟩ := h
 refine aI (aQ ?_)
 refine i0 PySem.F.plainAttrs_str PySem.F.slot_str_join PySem.F.type_str_join jE ?_
 refine cB ?_
 refine ⟨rfl, ?_⟩
 refine aA ((aX ["row"] [0] (bR ?_)))
 refine ge_v 1 rfl ?_
 refine ⟨_, .inr (.inl rfl), ?_⟩
 refine bT (ds := natD js) (by rw [cH]; exact R.aU (by omega)) (fun i2 acc2 M2 => M2 = M ∧ acc2 = ((js.take i2).map fun j => (⟨#[R.atS z j]⟩ : Str)).map D.str) ⟨rfl, rfl⟩ ?_ ?_
 ·rintro i2 d2 acc2 M2 hd2 ⟨rfl, rfl⟩ cs C s₀ H₀ fp
  obtain ⟨j, hj2, rfl⟩ := f8 hd2
  have hjl := hj j (List.mem_of_getElem? hj2)
  refine aZ (iteT fun cs C s₀ H₀ fp => ?_)
  refine aJ aG ?_
  refine ge_v 1 rfl ?_
  refine ge_v 0 rfl ?_
  refine lS (R.aU (by omega)) (R.at_str hjl) ?_
  refine ⟨rfl, ?_⟩
  rw [gG hj2, List.map_append, List.map_append]
  rfl
 ·rintro acc2 M2 ⟨rfl, rfl⟩
  rw [cH, List.take_length]
  refine aB ?_
  refine i6 (ys := js.map fun j => (⟨#[R.atS z j]⟩ : Str)) (.lst _) (by decide +kernel) ?_ ?_
  ·rw [nD _ (fun z hz => ?_), List.length_map]
   ·omega
   ·obtain ⟨y, _, rfl⟩ := List.mem_map.mp hz
    rfl
  ·rw [R.fB, uH]
   exact hk
end
end Q
namespace Q
open PySem L2 Z
open U
section
variable {P : Program} {w : World} {K : PySem.W.Frag} {mg : Str → Option Value} {base : Heap}
theorem fG : FnScope ["xs", "ys", "rows", "at_xs", "at_ys", "kept"] ["xs", "ys", "rows"] (aH jP) := ⟨rfl, rfl, rfl, by decide +kernel, rfl, by decide +kernel, by decide +kernel⟩
theorem ok_tidied {f : Addr} {fd : FuncData} {f_changes f_columns f_picked : Addr} {fd_changes fd_columns fd_picked : FuncData} (Df : R.Df K mg "tidied" jP ["xs", "ys", "rows"] f fd)
  (D_changes : R.Df K mg "changes" jZ ["bands"] f_changes fd_changes) (G_changes : FnOk P w K mg base CX0 1 f_changes fd_changes ["bands"] (spZ K qU))
  (D_columns : R.Df K mg "columns" iQ ["rows"] f_columns fd_columns) (G_columns : FnOk P w K mg base CX0 2 f_columns fd_columns ["rows"] (spZ K mG))
  (D_picked : R.Df K mg "picked" k7 ["row", "places"] f_picked fd_picked) (G_picked : FnOk P w K mg base CX0 1 f_picked fd_picked ["row", "places"] (spZ K cPicked)) (T : Bt mg) : FnOk P w K mg base CX0 3 f fd ["xs", "ys", "rows"] (spZ K oI) := by
 refine bB Df fG (fun ds M k h => ?_) (fun cdv A outer s H E hr ds M k h => ?_)
 ·obtain ⟨t, dx, dy, dr, xs, ys, zs, n, rfl, _⟩ := h; rfl
 obtain ⟨t, dx, dy, dr, xs, ys, zs, n, rfl, s1, s2, s3, hl, hn, hz, hx, hy, hk⟩ := h
 have cl := R.lA hz
 have kx := R.chg_len (R.aF zs)
 have ky := R.chg_len zs
 cases t with
 | true =>
  cases s1
  cases s2
  cases s3
  refine aE (aO 3 fG.nd ?_)
  refine aD G_changes (hr.mono (by decide)) D_changes.m D_changes.F.kp D_changes.b ?_
  refine aA ?_
  refine aD G_columns (hr.mono (by decide)) D_columns.m D_columns.F.kp D_columns.b ?_
  refine aA ?_
  refine ge_v 2 rfl ?_
  refine aB ?_
  refine ⟨true, _, zs, n, rfl, rfl, by omega, by omega, hz, ?_⟩
  refine aB ?_
  refine ⟨true, _, R.aF zs, zs.length, rfl, rfl, by omega, by omega, fun z hz => R.cJ z hz, ?_⟩
  refine aE (aO 4 fG.nd ?_)
  refine aD G_changes (hr.mono (by decide)) D_changes.m D_changes.F.kp D_changes.b ?_
  refine aA ?_
  refine ge_v 2 rfl ?_
  refine aB ?_
  refine ⟨true, _, zs, n, rfl, rfl, by omega, by omega, hz, ?_⟩
  have hjx : ∀ j ∈ (R.chg (R.aF zs)).dropLast, j < n := fun j hj => by
   have := R.iB (R.bV _) (R.dI _) j hj
   omega
  refine aE (gJ 5 ["rows", "at_xs"] [2, 3] fG.nd (bR ?_))
  refine cK dU ?_
  refine ge_v 4 rfl ?_
  refine c9 ?_
  refine c7 ?_
  refine gT eX ?_
  refine aC ?_
  refine ⟨_, rfl, ?_⟩
  refine ⟨_, rfl, ?_⟩
  refine fD (.lst _) ?_
  rw [show cutD (natD (R.chg zs)) none (some (-1)) = natD (R.chg zs).dropLast from (gB _).trans (f6 _)]
  refine ⟨_, .inr (.inl rfl), ?_⟩
  refine compM (ds := natD (R.chg zs).dropLast) (by rw [cH, List.length_dropLast]; exact R.aU (by omega)) (fun i acc M2 => M2 = M ∧ acc = (((R.chg zs).dropLast.take i).map fun i => R.ofL ((R.chg (R.aF zs)).dropLast.map (R.atS (zs.getD i Str.empty)))).map D.str) ⟨rfl, rfl⟩ ?_ ?_
  ·rintro i d acc M2 hd ⟨rfl, rfl⟩ cs C s₀ H₀ fp
   obtain ⟨j, hj, rfl⟩ := f8 hd
   have hjl := R.iB (R.bV zs) (R.dI zs) j (List.mem_of_getElem? hj)
   have hzj : zs[j]? = some (zs.getD j Str.empty) := by rw [List.getD_eq_getElem?_getD, List.getElem?_eq_getElem hjl]; rfl
   have hzm := List.mem_of_getElem? hzj
   refine aZ (iteT fun cs C s₀ H₀ fp => ?_)
   refine aD G_picked (hr.mono (by decide)) D_picked.m D_picked.F.kp D_picked.b ?_
   refine aA ?_
   refine aJ aG ?_
   refine ge_v 1 rfl ?_
   refine ge_v 0 rfl ?_
   refine aK (.lst _) (by have := mX hzj; rw [Int.zero_add] at this; exact this) ?_
   refine aA ?_
   refine cK dU ?_
   refine ge_v 2 rfl ?_
   refine c9 ?_
   refine c7 ?_
   refine gT eX ?_
   refine aC ?_
   refine ⟨_, rfl, ?_⟩
   refine ⟨_, rfl, ?_⟩
   refine fD (.lst _) ?_
   refine aB ?_
   rw [show cutD (natD (R.chg (R.aF zs))) none (some (-1)) = natD (R.chg (R.aF zs)).dropLast from (gB _).trans (f6 _)]
   refine ⟨_, (R.chg (R.aF zs)).dropLast, rfl, by rw [hz _ hzm]; omega, by rw [List.length_dropLast]; omega, fun j hj => by rw [hz _ hzm]; exact hjx j hj, ?_⟩
   refine ⟨rfl, ?_⟩
   rw [bJ hj, List.map_append]
   rfl
  rintro acc M2 ⟨rfl, rfl⟩ a ha
  rw [cH, List.take_length]
  refine iK 5 rfl bK ?_
  rw [iA ha]
  refine aI (aQ (cG (aA ?_)))
  refine bD bL T.tuple R.BT (aA (aX ["xs"] [0] (bR ?_)))
  refine ge_v 3 rfl ?_
  refine ⟨_, .inr (.inl rfl), ?_⟩
  refine bT (ds := natD (R.chg (R.aF zs))) (by rw [cH]; exact R.aU (by omega)) (fun i acc M1 => M1 = M2 ∧ acc = ((R.chg (R.aF zs)).take i).map fun j => xs.getD j .non) ⟨rfl, rfl⟩ ?_ ?_
  ·rintro i d acc M1 hd ⟨rfl, rfl⟩ cs C s₀ H₀ fp
   obtain ⟨j, hj, rfl⟩ := f8 hd
   refine aZ (iteT fun cs C s₀ H₀ fp => ?_)
   refine aJ aG ?_
   refine ge_v 1 rfl ?_
   refine ge_v 0 rfl ?_
   refine aK (.lst _) (at_D (hx j (List.mem_of_getElem? hj))) ?_
   exact ⟨rfl, (bJ hj).symm⟩
  rintro acc M1 ⟨rfl, rfl⟩
  rw [cH, List.take_length]
  refine aB (cI (.lst _) ?_)
  refine aA ?_
  refine bD bL T.tuple R.BT (aA (aX ["ys"] [1] (bR ?_)))
  refine ge_v 4 rfl ?_
  refine ⟨_, .inr (.inl rfl), ?_⟩
  refine bT (ds := natD (R.chg zs)) (by rw [cH]; exact R.aU (by omega)) (fun i acc M2 => M2 = M1 ∧ acc = ((R.chg zs).take i).map fun j => ys.getD j .non) ⟨rfl, rfl⟩ ?_ ?_
  ·rintro i d acc M2 hd ⟨rfl, rfl⟩ cs C s₀ H₀ fp
   obtain ⟨j, hj, rfl⟩ := f8 hd
   refine aZ (iteT fun cs C s₀ H₀ fp => ?_)
   refine aJ aG ?_
   refine ge_v 1 rfl ?_
   refine ge_v 0 rfl ?_
   refine aK (.lst _) (at_D (hy j (List.mem_of_getElem? hj))) ?_
   exact ⟨rfl, (bJ hj).symm⟩
  rintro acc M2 ⟨rfl, rfl⟩
  rw [cH, List.take_length]
  refine aB (cI (.lst _) ?_)
  refine aA ?_
  refine bD bL T.tuple R.BT ?_
  refine aA ?_
  refine ge_v 5 rfl ?_
  refine aB ?_
  refine cI (.lst _) ?_
  refine aB ⟨(show 3 ≤ sizeLine by decide), ?_⟩
  exact hk
 | false =>
  cases s1
  cases s2
  cases s3
  refine aE (aO 3 fG.nd ?_)
  refine aD G_changes (hr.mono (by decide)) D_changes.m D_changes.F.kp D_changes.b ?_
  refine aA ?_
  refine aD G_columns (hr.mono (by decide)) D_columns.m D_columns.F.kp D_columns.b ?_
  refine aA ?_
  refine ge_v 2 rfl ?_
  refine aB ?_
  refine ⟨false, _, zs, n, rfl, rfl, by omega, by omega, hz, ?_⟩
  refine aB ?_
  refine ⟨true, _, R.aF zs, zs.length, rfl, rfl, by omega, by omega, fun z hz => R.cJ z hz, ?_⟩
  refine aE (aO 4 fG.nd ?_)
  refine aD G_changes (hr.mono (by decide)) D_changes.m D_changes.F.kp D_changes.b ?_
  refine aA ?_
  refine ge_v 2 rfl ?_
  refine aB ?_
  refine ⟨false, _, zs, n, rfl, rfl, by omega, by omega, hz, ?_⟩
  have hjx : ∀ j ∈ (R.chg (R.aF zs)).dropLast, j < n := fun j hj => by
   have := R.iB (R.bV _) (R.dI _) j hj
   omega
  refine aE (gJ 5 ["rows", "at_xs"] [2, 3] fG.nd (bR ?_))
  refine cK dU ?_
  refine ge_v 4 rfl ?_
  refine c9 ?_
  refine c7 ?_
  refine gT eX ?_
  refine aC ?_
  refine ⟨_, rfl, ?_⟩
  refine ⟨_, rfl, ?_⟩
  refine fD (.lst _) ?_
  rw [show cutD (natD (R.chg zs)) none (some (-1)) = natD (R.chg zs).dropLast from (gB _).trans (f6 _)]
  refine ⟨_, .inr (.inl rfl), ?_⟩
  refine compM (ds := natD (R.chg zs).dropLast) (by rw [cH, List.length_dropLast]; exact R.aU (by omega)) (fun i acc M2 => M2 = M ∧ acc = (((R.chg zs).dropLast.take i).map fun i => R.ofL ((R.chg (R.aF zs)).dropLast.map (R.atS (zs.getD i Str.empty)))).map D.str) ⟨rfl, rfl⟩ ?_ ?_
  ·rintro i d acc M2 hd ⟨rfl, rfl⟩ cs C s₀ H₀ fp
   obtain ⟨j, hj, rfl⟩ := f8 hd
   have hjl := R.iB (R.bV zs) (R.dI zs) j (List.mem_of_getElem? hj)
   have hzj : zs[j]? = some (zs.getD j Str.empty) := by rw [List.getD_eq_getElem?_getD, List.getElem?_eq_getElem hjl]; rfl
   have hzm := List.mem_of_getElem? hzj
   refine aZ (iteT fun cs C s₀ H₀ fp => ?_)
   refine aD G_picked (hr.mono (by decide)) D_picked.m D_picked.F.kp D_picked.b ?_
   refine aA ?_
   refine aJ aG ?_
   refine ge_v 1 rfl ?_
   refine ge_v 0 rfl ?_
   refine aK (.tup _) (by have := mX hzj; rw [Int.zero_add] at this; exact this) ?_
   refine aA ?_
   refine cK dU ?_
   refine ge_v 2 rfl ?_
   refine c9 ?_
   refine c7 ?_
   refine gT eX ?_
   refine aC ?_
   refine ⟨_, rfl, ?_⟩
   refine ⟨_, rfl, ?_⟩
   refine fD (.lst _) ?_
   refine aB ?_
   rw [show cutD (natD (R.chg (R.aF zs))) none (some (-1)) = natD (R.chg (R.aF zs)).dropLast from (gB _).trans (f6 _)]
   refine ⟨_, (R.chg (R.aF zs)).dropLast, rfl, by rw [hz _ hzm]; omega, by rw [List.length_dropLast]; omega, fun j hj => by rw [hz _ hzm]; exact hjx j hj, ?_⟩
   refine ⟨rfl, ?_⟩
   rw [bJ hj, List.map_append]
   rfl
  rintro acc M2 ⟨rfl, rfl⟩ a ha
  rw [cH, List.take_length]
  refine iK 5 rfl bK ?_
  rw [iA ha]
  refine aI (aQ (cG (aA ?_)))
  refine bD bL T.tuple R.BT (aA (aX ["xs"] [0] (bR ?_)))
  refine ge_v 3 rfl ?_
  refine ⟨_, .inr (.inl rfl), ?_⟩
  refine bT (ds := natD (R.chg (R.aF zs))) (by rw [cH]; exact R.aU (by omega)) (fun i acc M1 => M1 = M2 ∧ acc = ((R.chg (R.aF zs)).take i).map fun j => xs.getD j .non) ⟨rfl, rfl⟩ ?_ ?_
  ·rintro i d acc M1 hd ⟨rfl, rfl⟩ cs C s₀ H₀ fp
   obtain ⟨j, hj, rfl⟩ := f8 hd
   refine aZ (iteT fun cs C s₀ H₀ fp => ?_)
   refine aJ aG ?_
   refine ge_v 1 rfl ?_
   refine ge_v 0 rfl ?_
   refine aK (.tup _) (at_D (hx j (List.mem_of_getElem? hj))) ?_
   exact ⟨rfl, (bJ hj).symm⟩
  rintro acc M1 ⟨rfl, rfl⟩
  rw [cH, List.take_length]
  refine aB (cI (.lst _) ?_)
  refine aA ?_
  refine bD bL T.tuple R.BT (aA (aX ["ys"] [1] (bR ?_)))
  refine ge_v 4 rfl ?_
  refine ⟨_, .inr (.inl rfl), ?_⟩
  refine bT (ds := natD (R.chg zs)) (by rw [cH]; exact R.aU (by omega)) (fun i acc M2 => M2 = M1 ∧ acc = ((R.chg zs).take i).map fun j => ys.getD j .non) ⟨rfl, rfl⟩ ?_ ?_
  ·rintro i d acc M2 hd ⟨rfl, rfl⟩ cs C s₀ H₀ fp
   obtain ⟨j, hj, rfl⟩ := f8 hd
   refine aZ (iteT fun cs C s₀ H₀ fp => ?_)
   refine aJ aG ?_
   refine ge_v 1 rfl ?_
   refine ge_v 0 rfl ?_
   refine aK (.tup _) (at_D (hy j (List.mem_of_getElem? hj))) ?_
   exact ⟨rfl, (bJ hj).symm⟩
  rintro acc M2 ⟨rfl, rfl⟩
  rw [cH, List.take_length]
  refine aB (cI (.lst _) ?_)
  refine aA ?_
  refine bD bL T.tuple R.BT ?_
  refine aA ?_
  refine ge_v 5 rfl ?_
  refine aB ?_
  refine cI (.lst _) ?_
  refine aB ⟨(show 3 ≤ sizeLine by decide), ?_⟩
  exact hk
end
end Q
namespace Q
open PySem L2 Z
open U
section
variable {P : Program} {w : World} {K : PySem.W.Frag} {mg : Str → Option Value} {base : Heap}
theorem sc_under : FnScope ["one", "other"] ["one", "other"] (aH kL) := ⟨rfl, rfl, rfl, by decide +kernel, rfl, by decide +kernel, by decide +kernel⟩
theorem ok_under {f : Addr} {fd : FuncData} (Df : R.Df K mg "under" kL ["one", "other"] f fd) : FnOk P w K mg base CX0 1 f fd ["one", "other"] (spZ K pW) := by
 refine bB Df sc_under (fun ds M k h => ?_) (fun cdv A outer s H E hr ds M k h => ?_)
 ·obtain ⟨p, q, rfl, _⟩ := h; rfl
 obtain ⟨p, q, rfl, ⟨p1, p2⟩, ⟨q1, q2⟩, hk⟩ := h
 refine aI (aQ (dZ iH (aM dF ?_)))
 refine aJ aG ?_
 refine ge_v 0 rfl ?_
 refine aC ?_
 refine aK (.tup _) rfl ?_
 refine aJ aG ?_
 refine ge_v 1 rfl ?_
 refine aC ?_
 refine aK (.tup _) rfl ?_
 refine o2_C ⟨big400 p1, big400 q2⟩ (aM dF ?_)
 refine aJ aG ?_
 refine ge_v 1 rfl ?_
 refine aC ?_
 refine aK (.tup _) rfl ?_
 refine aJ aG ?_
 refine ge_v 0 rfl ?_
 refine aC ?_
 refine aK (.tup _) rfl ?_
 refine o2_C ⟨big400 q1, big400 p2⟩ (o2_B ?_)
 exact hk
end
end Q
namespace Q
open PySem L2 Z
open U
section
variable {P : Program} {w : World} {K : PySem.W.Frag} {mg : Str → Option Value} {base : Heap}
theorem d7 : FnScope ["one", "other", "told", "first", "second", "ahead"] ["one", "other"] (aH lG) := ⟨rfl, rfl, rfl, by decide +kernel, rfl, by decide +kernel, by decide +kernel⟩
theorem ok_merged {f : Addr} {fd : FuncData} {f_under : Addr} {fd_under : FuncData} (Df : R.Df K mg "merged" lG ["one", "other"] f fd)
  (D_under : R.Df K mg "under" kL ["one", "other"] f_under fd_under) (G_under : FnOk P w K mg base CX0 1 f_under fd_under ["one", "other"] (spZ K pW)) (T : Bt mg) : FnOk P w K mg base CX0 2 f fd ["one", "other"] (spZ K rJ) := by
 refine bB Df d7 (fun ds M k h => ?_) (fun cdv A outer s H E hr ds M k h => ?_)
 ·obtain ⟨xs, ys, rfl, _⟩ := h; rfl
 obtain ⟨xs, ys, rfl, h9, g9, lx, ly, hk⟩ := h
 have mx := bA xs
 have my := bA ys
 refine aE (aO 2 d7.nd (m7 ?_))
 refine aB ⟨(show 0 ≤ sizeLine by decide), fun a ha => ?_⟩
 refine aE (aO 3 d7.nd ?_)
 refine aC ?_
 refine aE (aO 4 d7.nd ?_)
 refine aC ?_
 refine aE (n9 (fun m Γ' M' => ∃ (f s : Nat) (acc : List Rat) (v5 : Option D), Γ' = [some (.tup (aP xs)), some (.tup (aP ys)), some (.mt a), some (.int (f : Int)), some (.int (s : Int)), v5] ∧ M' = updM M a (.lst (aP acc)) ∧ f ≤ xs.length ∧ s ≤ ys.length ∧ acc ++ aS (xs.drop f) (ys.drop s) = aS xs ys ∧ m = (xs.length - f) + (ys.length - s)) (n := xs.length + ys.length) ⟨0, 0, [], _, rfl, rfl, by omega, by omega, rfl, by omega⟩ ?_)
 rintro m Γ' M' ⟨f, s, acc, v5, rfl, rfl, hf, hs, hacc, rfl⟩
 have hal : acc.length ≤ 200 := by
  have h1 := congrArg List.length hacc
  have h2 := fP xs ys
  rw [List.length_append] at h1
  omega
 refine gt_mid (P := fun c M1 => M1 = updM M a (.lst (aP acc)) ∧ (c = true → f < xs.length ∧ s < ys.length) ∧ (c = false → f = xs.length ∨ s = ys.length)) (gt_w (gw_and ?_)) ?_
 ·refine aV iH ?_
  refine ge_v 3 rfl ?_
  refine aT bM T.len PySem.boot_len ?_
  refine aA ?_
  refine ge_v 0 rfl ?_
  refine aB ?_
  refine cR (.tup _) ?_
  refine o2_B ?_
  refine ⟨_, rfl, ?_⟩
  rw [mx]
  refine ite2 (fun h1 => ?_) (fun h1 => ⟨rfl, (fun z => nomatch z), fun _ => .inl (by have : ¬ (f : Int) < (xs.length : Int) := fun z => h1 (decide_eq_true z); omega)⟩)
  have h1' : (f : Int) < (xs.length : Int) := of_decide_eq_true h1
  refine gw_and1 ?_
  refine aV iH ?_
  refine ge_v 4 rfl ?_
  refine aT bM T.len PySem.boot_len ?_
  refine aA ?_
  refine ge_v 1 rfl ?_
  refine aB ?_
  refine cR (.tup _) ?_
  refine o2_B ?_
  refine ⟨_, rfl, ?_⟩
  rw [my]
  refine ⟨rfl, fun h2 => ⟨by omega, by have := of_decide_eq_true h2; omega⟩, fun h2 => .inr (by have := of_decide_eq_false h2; omega)⟩
 rintro c M1 ⟨rfl, ht, hfl⟩
 refine ite2 (fun hc => ?_) (fun hc => ?_)
 ·obtain ⟨h1, h2⟩ := ht hc
  have gx : xs.getD f 0 ∈ xs := by rw [List.getD_eq_getElem?_getD, List.getElem?_eq_getElem h1]; exact List.getElem_mem h1
  have gy : ys.getD s 0 ∈ ys := by rw [List.getD_eq_getElem?_getD, List.getElem?_eq_getElem h2]; exact List.getElem_mem h2
  have x1 := h9 _ gx
  have y1 := g9 _ gy
  refine aE (aO 5 d7.nd ?_)
  refine aJ aG ?_
  refine ge_v 0 rfl ?_
  refine ge_v 3 rfl ?_
  refine aK (.tup _) (hX (by omega)) ?_
  refine aE (jG (fun Γ' M' => M' = updM M a (.lst (aP acc)) ∧ Γ' = [some (.tup (aP xs)), some (.tup (aP ys)), some (.mt a), some (.int (f : Int)), some (.int (s : Int)), some (numD ((if ys.getD s 0 < xs.getD f 0 then ys.getD s 0 else xs.getD f 0)))]) ?_ ?_)
  ·refine bF ?_
   refine cQ ?_
   refine aD G_under (hr.mono (by decide)) D_under.m D_under.F.kp D_under.b ?_
   refine aA ?_
   refine aJ aG ?_
   refine ge_v 1 rfl ?_
   refine ge_v 4 rfl ?_
   refine aK (.tup _) (hX (by omega)) ?_
   refine aA ?_
   refine ge_v 5 rfl ?_
   refine aB ?_
   refine ⟨pq (ys.getD s 0), pq (xs.getD f 0), rfl, y1.p, x1.p, ?_⟩
   refine ⟨_, rfl, ?_⟩
   rw [lt_pq]
   by_cases hlt : ys.getD s 0 < xs.getD f 0
   ·refine gL (decide_eq_true hlt) (aI (aO 5 d7.nd ?_))
    refine aJ aG ?_
    refine ge_v 1 rfl ?_
    refine ge_v 4 rfl ?_
    refine aK (.tup _) (hX (by omega)) ?_
    exact ⟨rfl, by rw [if_pos hlt]; rfl⟩
   ·exact eA (decide_eq_false hlt) (bC ⟨rfl, by rw [if_neg hlt]; rfl⟩)
  rintro Γ' M1 ⟨rfl, rfl⟩
  have hst := oM h1 h2
  have hah : (if ys.getD s 0 < xs.getD f 0 then ys.getD s 0 else xs.getD f 0) = ys.getD s 0 ∨ (if ys.getD s 0 < xs.getD f 0 then ys.getD s 0 else xs.getD f 0) = xs.getD f 0 := by split <;> simp
  generalize (if ys.getD s 0 < xs.getD f 0 then ys.getD s 0 else xs.getD f 0) = ah at *
  refine aE (aO 3 d7.nd (aM b6 ?_))
  refine ge_v 3 rfl ?_
  refine ge_mid (P := fun d M1 => M1 = updM M a (.lst (aP acc)) ∧ d = .int (if xs.getD f 0 = ah then 1 else 0)) (kJ (aV (iS (n := 1) (R.bP hr)) ?_)) ?_
  ·refine aJ aG ?_
   refine ge_v 0 rfl ?_
   refine ge_v 3 rfl ?_
   refine aK (.tup _) (hX (by omega)) ?_
   refine ge_v 5 rfl ?_
   refine kQ (e1 := numD ((xs.getD f 0))) (e2 := numD (ah)) (.tup _) (.tup _) rfl rfl ⟨_, rfl, ?_⟩
   rw [mC]
   by_cases hc : xs.getD f 0 = ah
   ·refine gL (decide_eq_true hc) ?_
    refine aC ?_
    exact ⟨rfl, by rw [if_pos hc]⟩
   ·refine eA (decide_eq_false hc) ?_
    refine aC ?_
    exact ⟨rfl, by rw [if_neg hc]⟩
  rintro d M1 ⟨rfl, rfl⟩
  refine o2_0 ?_
  rw [show ((f : Int) + if xs.getD f 0 = ah then 1 else 0) = ((f + if xs.getD f 0 = ah then 1 else 0 : Nat) : Int) from by split <;> rfl]
  refine aE (aO 4 d7.nd (aM b6 ?_))
  refine ge_v 4 rfl ?_
  refine ge_mid (P := fun d M1 => M1 = updM M a (.lst (aP acc)) ∧ d = .int (if ys.getD s 0 = ah then 1 else 0)) (kJ (aV (iS (n := 1) (R.bP hr)) ?_)) ?_
  ·refine aJ aG ?_
   refine ge_v 1 rfl ?_
   refine ge_v 4 rfl ?_
   refine aK (.tup _) (hX (by omega)) ?_
   refine ge_v 5 rfl ?_
   refine kQ (e1 := numD ((ys.getD s 0))) (e2 := numD (ah)) (.tup _) (.tup _) rfl rfl ⟨_, rfl, ?_⟩
   rw [mC]
   by_cases hc : ys.getD s 0 = ah
   ·refine gL (decide_eq_true hc) ?_
    refine aC ?_
    exact ⟨rfl, by rw [if_pos hc]⟩
   ·refine eA (decide_eq_false hc) ?_
    refine aC ?_
    exact ⟨rfl, by rw [if_neg hc]⟩
  rintro d M1 ⟨rfl, rfl⟩
  refine o2_0 ?_
  rw [show ((s : Int) + if ys.getD s 0 = ah then 1 else 0) = ((s + if ys.getD s 0 = ah then 1 else 0 : Nat) : Int) from by split <;> rfl]
  refine aI (p7 ?_)
  refine i0 PySem.F.plainAttrs_list PySem.F.slot_list_append PySem.F.type_list_append iN ?_
  refine ge_v 2 rfl ?_
  refine ⟨⟨rfl, _, bK⟩, ?_⟩
  refine aA ?_
  refine ge_v 5 rfl ?_
  refine aB ?_
  refine mK bK (by rw [bA]; exact Nat.lt_of_le_of_lt (show _ ≤ 60000 by omega) (by decide)) ?_
  refine ⟨_, ?_, _, _, acc ++ [ah], _, rfl, by rw [updM_updM, ← cC]; rfl, by split <;> omega, by split <;> omega, by rw [← hacc, hst, List.append_assoc]; rfl, rfl⟩
  rcases hah with e | e
  ·rw [if_pos e.symm]; split <;> omega
  ·rw [if_pos e.symm]; split <;> omega
 ·have hz := hfl (by simpa using hc)
  have fin : acc ++ xs.drop f ++ ys.drop s = aS xs ys := by
   rw [← hacc]
   rcases hz with h | h
   ·rw [h, List.drop_length, List.append_nil, sO]
   ·rw [h, List.drop_length, List.append_nil, sL]
  refine iK 2 rfl bK ?_
  rw [iA ha]
  refine aI (aQ ?_)
  refine aM jN ?_
  refine aM jN ?_
  refine ge_v 2 rfl ?_
  refine bD cS T.list R.BL ?_
  refine aA ?_
  refine cK sl_tupA ?_
  refine ge_v 0 rfl ?_
  refine c7 ?_
  refine ge_v 3 rfl ?_
  refine ⟨_, rfl, ?_⟩
  refine c9 ?_
  refine o3_tupA ?_
  refine aB ?_
  refine gD (.tup _) ?_
  refine jL (.lst _) (.lst _) (by rw [iT _ _ (by rw [mx]; exact hf), fT, bA, bA, List.length_drop]; exact R.aU (by omega)) ?_
  refine bD cS T.list R.BL ?_
  refine aA ?_
  refine cK sl_tupA ?_
  refine ge_v 1 rfl ?_
  refine c7 ?_
  refine ge_v 4 rfl ?_
  refine ⟨_, rfl, ?_⟩
  refine c9 ?_
  refine o3_tupA ?_
  refine aB ?_
  refine gD (.tup _) ?_
  refine jL (.lst _) (.lst _) (by rw [iT _ _ (by rw [mx]; exact hf), iT _ _ (by rw [my]; exact hs), fT, fT, cC, bA, bA, List.length_append, List.length_drop, List.length_drop]; exact R.aU (by omega)) ?_
  rw [iT _ _ (by rw [mx]; exact hf), iT _ _ (by rw [my]; exact hs), fT, fT, cC, cC, fin]
  exact hk
end
end Q
namespace Q
open PySem L2 Z
open U
section
variable {P : Program} {w : World} {K : PySem.W.Frag} {mg : Str → Option Value} {base : Heap}
theorem nO : FnScope ["lines", "where", "below"] ["lines", "where"] (aH i5) := ⟨rfl, rfl, rfl, by decide +kernel, rfl, by decide +kernel, by decide +kernel⟩
theorem uE {f : Addr} {fd : FuncData} {f_under : Addr} {fd_under : FuncData} (Df : R.Df K mg "bands_at" i5 ["lines", "where"] f fd)
  (D_under : R.Df K mg "under" kL ["one", "other"] f_under fd_under) (G_under : FnOk P w K mg base CX0 1 f_under fd_under ["one", "other"] (spZ K pW)) (T : Bt mg) : FnOk P w K mg base CX0 2 f fd ["lines", "where"] (spZ K cBandsQ) := by
 refine bB Df nO (fun ds M k h => ?_) (fun cdv A outer s H E hr ds M k h => ?_)
 ·obtain ⟨ws, v, rfl, _⟩ := h; rfl
 obtain ⟨ws, v, rfl, h9, hl, hv, hk⟩ := h
 have ml := bA ws
 refine aE (aO 2 nO.nd ?_)
 refine aT bM T.len PySem.boot_len (aA (aX ["where"] [1] (bR ?_)))
 refine ge_v 0 rfl ?_
 refine ⟨_, .inl rfl, ?_⟩
 refine bT (ds := aP ws) (by rw [ml]; exact R.aU (by omega)) (fun i acc M' => M' = M ∧ acc = aP ((ws.take i).filter fun x => decide (x < v))) ⟨rfl, rfl⟩ ?_ ?_
 ·rintro i d acc M' hd ⟨rfl, rfl⟩ cs C s₀ H₀ fp
  obtain ⟨x, hx, rfl⟩ := bS hd
  refine pQ (cQ ?_)
  refine aD G_under (hr.mono (by decide)) D_under.m D_under.F.kp D_under.b ?_
  refine aA ?_
  refine ge_v 0 rfl ?_
  refine aA ?_
  refine ge_v 1 rfl ?_
  refine aB ?_
  refine ⟨pq x, pq v, rfl, (h9 x (List.mem_of_getElem? hx)).p, hv.p, ?_⟩
  rw [lt_pq]
  refine ⟨_, rfl, ?_⟩
  refine ite2 (fun hb => fun cs C s₀ H₀ fp => ?_) (fun hb => ?_)
  ·refine ge_v 0 rfl ?_
   refine ⟨rfl, ?_⟩
   rw [gG hx, List.filter_append, List.filter_cons_of_pos (p := fun x => decide (x < v)) hb, List.filter_nil, ← cC]
   rfl
  ·refine ⟨rfl, ?_⟩
   rw [gG hx, List.filter_append, List.filter_cons_of_neg (p := fun x => decide (x < v)) hb, List.filter_nil, List.append_nil]
 rintro acc M' ⟨rfl, rfl⟩
 rw [ml, List.take_length]
 refine aB (cR (.lst _) ?_)
 rw [bA, show (ws.filter fun x => decide (x < v)).length = cntQ ws v from rfl]
 have hcl : cntQ ws v ≤ ws.length := List.length_filter_le _ _
 refine aE (bF (gt_w (gw_and ?_)))
 refine aV iH ?_
 refine ge_v 2 rfl ?_
 refine aT bM T.len PySem.boot_len ?_
 refine aA ?_
 refine ge_v 0 rfl ?_
 refine aB ?_
 refine cR (.tup _) ?_
 refine o2_B ?_
 refine ⟨_, rfl, ?_⟩
 rw [ml]
 unfold jM at hk
 by_cases h1 : cntQ ws v < ws.length
 rotate_left
 ·rw [if_neg (fun z => h1 z.1)] at hk
  refine eA (decide_eq_false (by omega)) (iteF (bC (aI (aQ ?_))))
  refine eW ?_
  refine aA ?_
  refine aM dY ?_
  refine ge_v 2 rfl ?_
  refine aC ?_
  refine o2_0 ?_
  refine aB ?_
  refine ⟨(show 1 ≤ sizeLine by decide), ?_⟩
  exact hk
 refine gL (decide_eq_true (by omega)) (gw_and1 ?_)
 refine aV (iS (n := 1) (R.bP hr)) ?_
 refine aJ aG ?_
 refine ge_v 0 rfl ?_
 refine ge_v 2 rfl ?_
 refine aK (.tup _) (hX h1) ?_
 refine ge_v 1 rfl ?_
 refine kQ (e1 := numD (ws.getD (cntQ ws v) 0)) (e2 := numD v) (.tup _) (.tup _) rfl rfl ⟨_, rfl, ?_⟩
 rw [mC]
 by_cases h2 : ws.getD (cntQ ws v) 0 = v
 ·rw [if_pos ⟨h1, h2⟩] at hk
  refine gL (decide_eq_true h2) (aI (aQ ?_))
  refine eW ?_
  refine aA ?_
  refine aM dY ?_
  refine ge_v 2 rfl ?_
  refine aC ?_
  refine o2_0 ?_
  refine aA ?_
  refine ge_v 2 rfl ?_
  refine aB ?_
  refine ⟨(show 2 ≤ sizeLine by decide), ?_⟩
  exact hk
 ·rw [if_neg (fun z => h2 z.2)] at hk
  refine eA (decide_eq_false h2) (bC (aI (aQ ?_)))
  refine eW ?_
  refine aA ?_
  refine aM dY ?_
  refine ge_v 2 rfl ?_
  refine aC ?_
  refine o2_0 ?_
  refine aB ?_
  refine ⟨(show 1 ≤ sizeLine by decide), ?_⟩
  exact hk
theorem nN : FnScope ["yard", "across", "up", "rows"] ["yard", "across", "up"] (aH iZ) := ⟨rfl, rfl, rfl, by decide +kernel, rfl, by decide +kernel, by decide +kernel⟩
theorem tR {f : Addr} {fd : FuncData} (Df : R.Df K mg "has_cell" iZ ["yard", "across", "up"] f fd) (T : Bt mg) : FnOk P w K mg base CX0 1 f fd ["yard", "across", "up"] (spZ K cHas) := by
 refine bB Df nN (fun ds M k h => ?_) (fun cdv A outer s H E hr ds M k h => ?_)
 ·obtain ⟨x, y, zs, a, u, rfl, _⟩ := h; rfl
 obtain ⟨x, y, zs, a, u, rfl, hz, hk⟩ := h
 have kf : R.aY zs a u = false → k (.bl false) M := fun e => by rw [e] at hk; exact hk
 refine aE (aO 3 nN.nd ?_)
 refine aJ aG ?_
 refine ge_v 0 rfl ?_
 refine aC ?_
 refine aK (.tup _) rfl ?_
 refine aE (bF ?_)
 refine gt_w ?_
 refine fZ ?_
 refine aV iH ?_
 refine ge_v 2 rfl ?_
 refine aC ?_
 refine o2_B ?_
 refine ⟨_, rfl, ?_⟩
 refine ite2 (fun h1 => iteT (aI (aQ (jV (kf (R.eH (of_decide_eq_true h1))))))) (fun h1 => ?_)
 refine fZ ?_
 refine aV op_ge ?_
 refine ge_v 2 rfl ?_
 refine aT bM T.len PySem.boot_len ?_
 refine aA ?_
 refine ge_v 3 rfl ?_
 refine aB ?_
 refine cR (.tup _) ?_
 refine o2_B ?_
 refine ⟨_, rfl, ?_⟩
 refine ite2 (fun h2 => iteT (aI (aQ (jV (kf (R.eS (by have := of_decide_eq_true h2; rw [List.length_map] at this; exact this))))))) (fun h2 => ?_)
 refine fZ ?_
 refine aV iH ?_
 refine ge_v 1 rfl ?_
 refine aC ?_
 refine o2_B ?_
 refine ⟨_, rfl, ?_⟩
 refine ite2 (fun h3 => iteT (aI (aQ (jV (kf (R.c5 (of_decide_eq_true h3))))))) (fun h3 => ?_)
 obtain ⟨hu, ha, z, ez, ei⟩ := cell_in h1 h2 h3
 refine iP ?_
 refine aV op_ge ?_
 refine ge_v 1 rfl ?_
 refine aT bM T.len PySem.boot_len ?_
 refine aA ?_
 refine aJ aG ?_
 refine ge_v 3 rfl ?_
 refine ge_v 2 rfl ?_
 refine aK (.tup _) ei ?_
 refine aB ?_
 refine jC (R.aU (by have := hz z (List.mem_of_getElem? ez); omega)) ?_
 refine o2_B ?_
 refine ⟨_, rfl, ?_⟩
 have hzl := hz z (List.mem_of_getElem? ez)
 refine ite2 (fun h4 => aI (aQ (jV (kf (R.iD ez (of_decide_eq_true h4)))))) (fun h4 => bC ?_)
 obtain ⟨c, ec, ec2⟩ := sign_in ha (fun q => h4 (decide_eq_true q))
 refine aI (aQ ?_)
 refine dZ dS ?_
 refine aJ aG ?_
 refine aJ aG ?_
 refine ge_v 3 rfl ?_
 refine ge_v 2 rfl ?_
 refine aK (.tup _) ei ?_
 refine ge_v 1 rfl ?_
 refine lS (R.aU (by omega)) ec2 ?_
 refine cB ?_
 refine o2_eqS ?_
 rw [hash_sign, ← R.fI hu ha ez ec]
 exact hk
end
end Q
namespace Q
open PySem L2 Z
open U
section
variable {P : Program} {w : World} {K : PySem.W.Frag} {mg : Str → Option Value} {base : Heap}
theorem r0 : FnScope ["yard", "acrosses", "up"] ["yard", "acrosses", "up"] (aH iG) := ⟨rfl, rfl, rfl, by decide +kernel, rfl, by decide +kernel, by decide +kernel⟩
theorem rD {f : Addr} {fd : FuncData} {f_has_cell : Addr} {fd_has_cell : FuncData} (Df : R.Df K mg "finer_row" iG ["yard", "acrosses", "up"] f fd)
  (D_has_cell : R.Df K mg "has_cell" iZ ["yard", "across", "up"] f_has_cell fd_has_cell) (G_has_cell : FnOk P w K mg base CX0 1 f_has_cell fd_has_cell ["yard", "across", "up"] (spZ K cHas)) (T : Bt mg) : FnOk P w K mg base CX0 2 f fd ["yard", "acrosses", "up"] (spZ K qK) := by
 refine bB Df r0 (fun ds M k h => ?_) (fun cdv A outer s H E hr ds M k h => ?_)
 ·obtain ⟨x, y, K', cs, u, rfl, _⟩ := h; rfl
 obtain ⟨x, y, K', cs, u, rfl, hw, hl, hk⟩ := h
 refine aI (aQ ?_)
 refine i0 PySem.F.plainAttrs_str PySem.F.slot_str_join PySem.F.type_str_join jE (cB ⟨rfl, aA (aX ["yard", "up"] [0, 2] (bR ?_))⟩)
 refine ge_v 1 rfl ?_
 refine ⟨_, .inr (.inl rfl), ?_⟩
 refine bT (ds := cs.map D.int) (by rw [List.length_map]; exact R.aU (by omega)) (fun i acc M' => M' = M ∧ acc = (((cs.take i).map fun c => R.sg (R.aY K' c u)).map fun c => (⟨#[c]⟩ : Str)).map D.str) ⟨rfl, rfl⟩ ?_ ?_
 ·rintro i d acc M' hd ⟨rfl, rfl⟩ cs' C s₀ H₀ fp
  obtain ⟨c, hc, rfl⟩ := bS hd
  refine aZ (iteT fun cs' C s₀ H₀ fp => ?_)
  refine kJ (cQ ?_)
  refine aD G_has_cell (hr.mono (by decide)) D_has_cell.m D_has_cell.F.kp D_has_cell.b ?_
  refine aA ?_
  refine ge_v 1 rfl ?_
  refine aA ?_
  refine ge_v 0 rfl ?_
  refine aA ?_
  refine ge_v 2 rfl ?_
  refine aB ?_
  refine ⟨_, _, K', _, _, rfl, hw, ?_⟩
  refine ⟨_, rfl, ?_⟩
  have step : ∀ b, R.aY K' c u = b → (((cs.take (i + 1)).map fun c => R.sg (R.aY K' c u)).map fun c => (⟨#[c]⟩ : Str)).map D.str = (((cs.take i).map fun c => R.sg (R.aY K' c u)).map fun c => (⟨#[c]⟩ : Str)).map D.str ++ [.str ⟨#[R.sg b]⟩] := fun b hb => by
   rw [bJ hc, List.map_append, List.map_append, hb]; rfl
  refine ite2 (fun hb => ?_) (fun hb => ?_)
  ·refine cB ?_
   refine ⟨rfl, ?_⟩
   rw [step true hb, r9]; rfl
  ·refine cB ?_
   refine ⟨rfl, ?_⟩
   rw [step false (by simpa using hb), show ("." : Str) = ⟨#[R.sg false]⟩ from by decide +kernel]
 rintro acc M' ⟨rfl, rfl⟩
 rw [List.length_map, List.take_length]
 refine aB (i6 (.lst _) (by decide +kernel) (by simp only [p4, List.length_map]; omega) ?_)
 rw [R.fB, R.i8]
 exact hk
end
end Q
namespace Q
open PySem L2 Z
open U
section
variable {P : Program} {w : World} {K : PySem.W.Frag} {mg : Str → Option Value} {base : Heap}
theorem iW : FnScope ["yard", "xs", "ys", "acrosses", "ups"] ["yard", "xs", "ys"] (aH gZ) := ⟨rfl, rfl, rfl, by decide +kernel, rfl, by decide +kernel, by decide +kernel⟩
theorem qZ {f : Addr} {fd : FuncData} {f_bands_at f_finer_row : Addr} {fd_bands_at fd_finer_row : FuncData} (Df : R.Df K mg "finer_rows" gZ ["yard", "xs", "ys"] f fd)
  (D_bands_at : R.Df K mg "bands_at" i5 ["lines", "where"] f_bands_at fd_bands_at) (G_bands_at : FnOk P w K mg base CX0 2 f_bands_at fd_bands_at ["lines", "where"] (spZ K cBandsQ))
  (D_finer_row : R.Df K mg "finer_row" iG ["yard", "acrosses", "up"] f_finer_row fd_finer_row) (G_finer_row : FnOk P w K mg base CX0 2 f_finer_row fd_finer_row ["yard", "acrosses", "up"] (spZ K qK)) (T : Bt mg) : FnOk P w K mg base CX0 3 f fd ["yard", "xs", "ys"] (spZ K nP) := by
 refine bB Df iW (fun ds M k h => ?_) (fun cdv A outer s H E hr ds M k h => ?_)
 ·obtain ⟨A, xs, ys, rfl, _⟩ := h; rfl
 obtain ⟨A, xs, ys, rfl, hws, hus, hxs, hys, lw, lu, lx, ly, hk⟩ := h
 have hz : ∀ z ∈ A.K, z.length ≤ 1000 := fun z hz => by have := A.wide.1 z hz; omega
 refine aE (aO 3 iW.nd (aX ["yard"] [0] (bR ?_)))
 refine cK dU ?_
 refine ge_v 1 rfl ?_
 refine c9 ?_
 refine c7 ?_
 refine gT eX ?_
 refine aC ?_
 refine ⟨_, rfl, ?_⟩
 refine ⟨_, rfl, ?_⟩
 refine fD (.lst _) ?_
 rw [gB, qP]
 refine ⟨_, .inr (.inl rfl), ?_⟩
 refine bT (ds := aP xs.dropLast) (by rw [bA, List.length_dropLast]; exact R.aU (by omega)) (fun i acc M' => M' = M ∧ acc = ((xs.dropLast.take i).map (ix A.ws)).map D.int) ⟨rfl, rfl⟩ ?_ ?_
 ·rintro i d acc M' hd ⟨rfl, rfl⟩ cs' C s₀ H₀ fp
  obtain ⟨x, hx, rfl⟩ := bS hd
  refine aZ (iteT fun cs' C s₀ H₀ fp => ?_)
  refine aJ aG ?_
  refine aD G_bands_at (hr.mono (by decide)) D_bands_at.m D_bands_at.F.kp D_bands_at.b ?_
  refine aA ?_
  refine aJ aG ?_
  refine ge_v 1 rfl ?_
  refine aC ?_
  refine aK (.tup _) rfl ?_
  refine aA ?_
  refine ge_v 0 rfl ?_
  refine aB ?_
  refine ⟨A.ws, x, rfl, hws, by omega, hxs x ((List.dropLast_sublist xs).mem (List.mem_of_getElem? hx)), ?_⟩
  refine gT eX ?_
  refine aC ?_
  refine ⟨_, rfl, ?_⟩
  refine aK (.lst _) (oO A.uw _) ?_
  refine ⟨rfl, ?_⟩
  rw [bJ hx, List.map_append]
  rfl
 rintro acc M' ⟨rfl, rfl⟩
 rw [bA, List.take_length]
 refine aE (gJ 4 ["yard"] [0] iW.nd (bR ?_))
 refine cK dU ?_
 refine ge_v 2 rfl ?_
 refine c9 ?_
 refine c7 ?_
 refine gT eX ?_
 refine aC ?_
 refine ⟨_, rfl, ?_⟩
 refine ⟨_, rfl, ?_⟩
 refine fD (.lst _) ?_
 rw [gB, qP]
 refine ⟨_, .inr (.inl rfl), ?_⟩
 refine compM (ds := aP ys.dropLast) (by rw [bA, List.length_dropLast]; exact R.aU (by omega)) (fun i acc M1 => M1 = M' ∧ acc = ((ys.dropLast.take i).map (ix A.us)).map D.int) ⟨rfl, rfl⟩ ?_ ?_
 ·rintro i d acc M1 hd ⟨rfl, rfl⟩ cs' C s₀ H₀ fp
  obtain ⟨x, hx, rfl⟩ := bS hd
  refine aZ (iteT fun cs' C s₀ H₀ fp => ?_)
  refine aJ aG ?_
  refine aD G_bands_at (hr.mono (by decide)) D_bands_at.m D_bands_at.F.kp D_bands_at.b ?_
  refine aA ?_
  refine aJ aG ?_
  refine ge_v 1 rfl ?_
  refine aC ?_
  refine aK (.tup _) rfl ?_
  refine aA ?_
  refine ge_v 0 rfl ?_
  refine aB ?_
  refine ⟨A.us, x, rfl, hus, by omega, hys x ((List.dropLast_sublist ys).mem (List.mem_of_getElem? hx)), ?_⟩
  refine gT eX ?_
  refine aC ?_
  refine ⟨_, rfl, ?_⟩
  refine aK (.lst _) (oO A.uu _) ?_
  refine ⟨rfl, ?_⟩
  rw [bJ hx, List.map_append]
  rfl
 rintro acc M1 ⟨rfl, rfl⟩ a4 ha4
 rw [bA, List.take_length]
 refine iK 4 rfl bK ?_
 rw [iA ha4]
 refine aI (aQ (aX ["yard", "acrosses"] [0, 3] (bR ?_)))
 refine ge_v 4 rfl ?_
 refine ⟨_, .inr (.inl rfl), ?_⟩
 refine bT (ds := (ys.dropLast.map (ix A.us)).map D.int) (by rw [List.length_map, List.length_map, List.length_dropLast]; exact R.aU (by omega)) (fun i acc M2 => M2 = M1 ∧ acc = ((ys.dropLast.take i).map fun y => fineS A.K (xs.dropLast.map (ix A.ws)) (ix A.us y)).map D.str) ⟨rfl, rfl⟩ ?_ ?_
 ·rintro i d acc M2 hd ⟨rfl, rfl⟩ cs' C s₀ H₀ fp
  obtain ⟨u, hu, rfl⟩ := bS hd
  obtain ⟨y, hy, rfl⟩ := bS hu
  refine aZ (iteT fun cs' C s₀ H₀ fp => ?_)
  refine aD G_finer_row (hr.mono (by decide)) D_finer_row.m D_finer_row.F.kp D_finer_row.b ?_
  refine aA ?_
  refine ge_v 1 rfl ?_
  refine aA ?_
  refine ge_v 2 rfl ?_
  refine aA ?_
  refine ge_v 0 rfl ?_
  refine aB ?_
  refine ⟨_, _, A.K, _, _, rfl, hz, by rw [List.length_map, List.length_dropLast]; omega, ?_⟩
  refine ⟨rfl, ?_⟩
  rw [bJ hy, List.map_append]
  rfl
 rintro acc M2 ⟨rfl, rfl⟩
 rw [List.length_map, List.length_map, List.take_length]
 unfold dC at hk
 simp only [fine_has]
 exact hk
end
end Q
namespace Q
open PySem L2 Z
open U
section
variable {P : Program} {w : World} {K : PySem.W.Frag} {mg : Str → Option Value} {base : Heap}
theorem rA : FnScope ["one", "other", "pairs"] ["one", "other", "pairs"] (aH gM) := ⟨rfl, rfl, rfl, by decide +kernel, rfl, by decide +kernel, by decide +kernel⟩
theorem q5 {f : Addr} {fd : FuncData} (Df : R.Df K mg "chosen_row" gM ["one", "other", "pairs"] f fd) (T : Bt mg) : FnOk P w K mg base CX0 1 f fd ["one", "other", "pairs"] (spZ K o0) := by
 refine bB Df rA (fun ds M k h => ?_) (fun cdv A outer s H E hr ds M k h => ?_)
 ·obtain ⟨a, b, ps, rfl, _⟩ := h; rfl
 obtain ⟨a, b, ps, rfl, hab, ha, hp, hk⟩ := h
 refine aI (aQ ?_)
 refine i0 PySem.F.plainAttrs_str PySem.F.slot_str_join PySem.F.type_str_join jE (cB ⟨rfl, aA (qE ["pairs"] [2] (gi_zipS T.zip PyProof.Rows.boot_zip ?_))⟩)
 refine aA ?_
 refine ge_v 0 rfl ?_
 refine aA ?_
 refine ge_v 1 rfl ?_
 refine aB ?_
 refine ⟨a, b, rfl, hab, ?_⟩
 have hl : (zipD (strD a) (strD b)).length = a.length := by unfold zipD; rw [List.length_map, List.length_zip, dP, dP]; omega
 have hlz : (a.cps.toList.zip b.cps.toList).length = a.length := by
  rw [List.length_zip, Array.length_toList, Array.length_toList]
  have h1 : a.cps.size = a.length := rfl
  have h2 : b.cps.size = b.length := rfl
  omega
 refine compF2 (by rw [hl]; exact R.aU (by omega)) (fun d hd => rN hd) (fun i acc M' => M' = M ∧ acc = ((((a.cps.toList.zip b.cps.toList).take i).map fun p => R.sg (kW ps p)).map fun c => (⟨#[c]⟩ : Str)).map D.str) ⟨rfl, rfl⟩ ?_ ?_
 ·rintro i d1 d2 acc M' hd ⟨rfl, rfl⟩ cs' C s₀ H₀ fp
  obtain ⟨c, e, hz, rfl, rfl⟩ := zip_strs hd
  refine aZ (iteT fun cs' C s₀ H₀ fp => ?_)
  refine kJ (aV (op_inD (n := 0) (R.bP hr)) ?_)
  refine aM uX ?_
  refine ge_v 0 rfl ?_
  refine ge_v 1 rfl ?_
  refine o2_catS (R.aU (show 1 + 1 ≤ 1000000 by decide)) ?_
  refine ge_v 2 rfl ?_
  refine o2_inD (.tup _) (.inl rfl) rfl (ok_strs0 ps) ⟨_, rfl, ?_⟩
  rw [any_strs]
  have step : ∀ v, kW ps (c, e) = v → ((((a.cps.toList.zip b.cps.toList).take (i + 1)).map fun p => R.sg (kW ps p)).map fun c => (⟨#[c]⟩ : Str)).map D.str = ((((a.cps.toList.zip b.cps.toList).take i).map fun p => R.sg (kW ps p)).map fun c => (⟨#[c]⟩ : Str)).map D.str ++ [.str ⟨#[R.sg v]⟩] := fun v hv => by
   rw [bJ hz, List.map_append, List.map_append, hv]; rfl
  refine ite2 (fun hb => ?_) (fun hb => ?_)
  ·refine cB ?_
   refine ⟨rfl, ?_⟩
   rw [step true hb, r9]; rfl
  ·refine cB ?_
   refine ⟨rfl, ?_⟩
   rw [step false (Bool.eq_false_iff.mpr hb), show ("." : Str) = ⟨#[R.sg false]⟩ from by decide +kernel]
 rintro acc M' ⟨rfl, rfl⟩
 rw [hl, ← hlz, List.take_length]
 refine aB (i6 (.lst _) (by decide +kernel) (by simp only [p4, List.length_map]; omega) ?_)
 rw [R.fB, R.i8]
 exact hk
end
end Q
namespace Q
open PySem L2 Z
open U
section
variable {P : Program} {w : World} {K : PySem.W.Frag} {mg : Str → Option Value} {base : Heap}
theorem iL : FnScope ["one", "other", "pairs", "xs", "ys", "ones", "others"] ["one", "other", "pairs"] (aH hW) := ⟨rfl, rfl, rfl, by decide +kernel, rfl, by decide +kernel, by decide +kernel⟩
theorem ok_chosen {f : Addr} {fd : FuncData} {f_merged f_finer_rows f_chosen_row f_tidied : Addr} {fd_merged fd_finer_rows fd_chosen_row fd_tidied : FuncData} (Df : R.Df K mg "chosen" hW ["one", "other", "pairs"] f fd)
  (D_merged : R.Df K mg "merged" lG ["one", "other"] f_merged fd_merged) (G_merged : FnOk P w K mg base CX0 2 f_merged fd_merged ["one", "other"] (spZ K rJ))
  (D_finer_rows : R.Df K mg "finer_rows" gZ ["yard", "xs", "ys"] f_finer_rows fd_finer_rows) (G_finer_rows : FnOk P w K mg base CX0 3 f_finer_rows fd_finer_rows ["yard", "xs", "ys"] (spZ K nP))
  (D_chosen_row : R.Df K mg "chosen_row" gM ["one", "other", "pairs"] f_chosen_row fd_chosen_row) (G_chosen_row : FnOk P w K mg base CX0 1 f_chosen_row fd_chosen_row ["one", "other", "pairs"] (spZ K o0))
  (D_tidied : R.Df K mg "tidied" jP ["xs", "ys", "rows"] f_tidied fd_tidied) (G_tidied : FnOk P w K mg base CX0 3 f_tidied fd_tidied ["xs", "ys", "rows"] (spZ K oI)) (T : Bt mg) : FnOk P w K mg base CX0 4 f fd ["one", "other", "pairs"] (spZ K kS) := by
 refine bB Df iL (fun ds M k h => ?_) (fun cdv A outer s H E hr ds M k h => ?_)
 ·obtain ⟨A, B, Sx, Sy, ps, rfl, _⟩ := h; rfl
 obtain ⟨A, B, Sx, Sy, ps, rfl, bx, by_, oA, oB, lp, hk⟩ := h
 obtain ⟨h1, h2, l1, l2⟩ := onB oA bx by_
 obtain ⟨h3, h4, l3, l4⟩ := onB oB bx by_
 have ux := b5 A.uw B.uw
 have uy := b5 A.uu B.uu
 have mx := fP A.ws B.ws
 have my := fP A.us B.us
 have ix : BqL (aS A.ws B.ws) := fun x hx => ((cD _ _ _).mp hx).elim (h1 x) (h3 x)
 have iy : BqL (aS A.us B.us) := fun x hx => ((cD _ _ _).mp hx).elim (h2 x) (h4 x)
 have gz := d9 (fun x y => jX ps (A.has x y) (B.has x y)) (aS A.ws B.ws) (aS A.us B.us)
 have lz := fH (fun x y => jX ps (A.has x y) (B.has x y)) (aS A.ws B.ws) (aS A.us B.us)
 have hk : k (lC (aP (aS A.ws B.ws)) (aP (aS A.us B.us)) (dC (fun x y => jX ps (A.has x y) (B.has x y)) (aS A.ws B.ws) (aS A.us B.us))) M := by rw [tidy_yd ux uy gz lz]; exact hk
 refine aE (aO 3 iL.nd ?_)
 refine aD G_merged (hr.mono (by decide)) D_merged.m D_merged.F.kp D_merged.b ?_
 refine aA ?_
 refine aJ aG ?_
 refine ge_v 0 rfl ?_
 refine aC ?_
 refine aK (.tup _) rfl ?_
 refine aA ?_
 refine aJ aG ?_
 refine ge_v 1 rfl ?_
 refine aC ?_
 refine aK (.tup _) rfl ?_
 refine aB ?_
 refine ⟨A.ws, B.ws, rfl, h1, h3, by omega, by omega, ?_⟩
 refine aE (aO 4 iL.nd ?_)
 refine aD G_merged (hr.mono (by decide)) D_merged.m D_merged.F.kp D_merged.b ?_
 refine aA ?_
 refine aJ aG ?_
 refine ge_v 0 rfl ?_
 refine aC ?_
 refine aK (.tup _) rfl ?_
 refine aA ?_
 refine aJ aG ?_
 refine ge_v 1 rfl ?_
 refine aC ?_
 refine aK (.tup _) rfl ?_
 refine aB ?_
 refine ⟨A.us, B.us, rfl, h2, h4, by omega, by omega, ?_⟩
 refine aE (aO 5 iL.nd ?_)
 refine aD G_finer_rows (hr.mono (by decide)) D_finer_rows.m D_finer_rows.F.kp D_finer_rows.b ?_
 refine aA ?_
 refine ge_v 0 rfl ?_
 refine aA ?_
 refine ge_v 3 rfl ?_
 refine aA ?_
 refine ge_v 4 rfl ?_
 refine aB ?_
 refine ⟨A, _, _, rfl, h1, h2, ix, iy, l1, l2, by omega, by omega, ?_⟩
 refine aE (aO 6 iL.nd ?_)
 refine aD G_finer_rows (hr.mono (by decide)) D_finer_rows.m D_finer_rows.F.kp D_finer_rows.b ?_
 refine aA ?_
 refine ge_v 1 rfl ?_
 refine aA ?_
 refine ge_v 3 rfl ?_
 refine aA ?_
 refine ge_v 4 rfl ?_
 refine aB ?_
 refine ⟨B, _, _, rfl, h3, h4, ix, iy, l3, l4, by omega, by omega, ?_⟩
 refine aI (aQ ?_)
 refine aD G_tidied (hr.mono (by decide)) D_tidied.m D_tidied.F.kp D_tidied.b ?_
 refine aA ?_
 refine ge_v 3 rfl ?_
 refine aA ?_
 refine ge_v 4 rfl ?_
 refine aA (qE ["pairs"] [2] (gi_zipL T.zip PyProof.Rows.boot_zip ?_))
 refine aA ?_
 refine ge_v 5 rfl ?_
 refine aA ?_
 refine ge_v 6 rfl ?_
 refine aB ?_
 have la := fH A.has (aS A.ws B.ws) (aS A.us B.us)
 have lb := fH B.has (aS A.ws B.ws) (aS A.us B.us)
 have ea := d9 A.has (aS A.ws B.ws) (aS A.us B.us)
 have eb := d9 B.has (aS A.ws B.ws) (aS A.us B.us)
 have cg := comb_grid ps A.has B.has (aS A.ws B.ws) (aS A.us B.us)
 generalize dC A.has (aS A.ws B.ws) (aS A.us B.us) = A1 at *
 generalize dC B.has (aS A.ws B.ws) (aS A.us B.us) = A2 at *
 refine ⟨_, _, rfl, by rw [List.length_map, List.length_map]; omega, ?_⟩
 have hl : (zipD (A1.map D.str) (A2.map D.str)).length = A1.length := by unfold zipD; rw [List.length_map, List.length_zip, List.length_map, List.length_map]; omega
 have hlz : (A1.zip A2).length = A1.length := by rw [List.length_zip]; omega
 refine compF2 (by rw [hl]; exact R.aU (by omega)) (fun d hd => rN hd) (fun i acc M' => M' = M ∧ acc = (((A1.zip A2).take i).map fun p => combS ps p.1 p.2).map D.str) ⟨rfl, rfl⟩ ?_ ?_
 ·rintro i d1 d2 acc M' hd ⟨rfl, rfl⟩ cs' C s₀ H₀ fp
  obtain ⟨e1, e2⟩ := zip_at hd
  obtain ⟨a, ha, rfl⟩ := bS e1
  obtain ⟨b, hb, rfl⟩ := bS e2
  have w1 := (ea a (List.mem_of_getElem? ha)).1
  have w2 := (eb b (List.mem_of_getElem? hb)).1
  refine aZ (iteT fun cs' C s₀ H₀ fp => ?_)
  refine aD G_chosen_row (hr.mono (by decide)) D_chosen_row.m D_chosen_row.F.kp D_chosen_row.b ?_
  refine aA ?_
  refine ge_v 0 rfl ?_
  refine aA ?_
  refine ge_v 1 rfl ?_
  refine aA ?_
  refine ge_v 2 rfl ?_
  refine aB ?_
  refine ⟨a, b, ps, rfl, by omega, by omega, lp, ?_⟩
  refine ⟨rfl, ?_⟩
  rw [bJ (List.getElem?_zip_eq_some.mpr ⟨ha, hb⟩ : (A1.zip A2)[i]? = some (a, b)), List.map_append]
  rfl
 rintro acc M' ⟨rfl, rfl⟩
 rw [hl, ← hlz, List.take_length, cg]
 refine aB ?_
 exact ⟨true, _, _, _, aP (aS A.ws B.ws), aP (aS A.us B.us), _, (aS A.ws B.ws).length - 1, rfl, rfl, rfl, rfl, by omega, by omega, fun z hz => (gz z hz).1, by rw [bA]; exact eO fun z hz => (gz z hz).1, by rw [bA]; exact eQ lz, hk⟩
end
end Q
namespace Q
open PySem L2 Z
open U
section
variable {P : Program} {w : World} {K : PySem.W.Frag} {mg : Str → Option Value} {base : Heap}
theorem sc_both : FnScope ["one", "other"] ["one", "other"] (aH pG) := ⟨rfl, rfl, rfl, by decide +kernel, rfl, by decide +kernel, by decide +kernel⟩
theorem ok_both {f : Addr} {fd : FuncData} {f_chosen : Addr} {fd_chosen : FuncData} (Df : R.Df K mg "both" pG ["one", "other"] f fd)
  (D_chosen : R.Df K mg "chosen" hW ["one", "other", "pairs"] f_chosen fd_chosen) (G_chosen : FnOk P w K mg base CX0 4 f_chosen fd_chosen ["one", "other", "pairs"] (spZ K kS)) : FnOk P w K mg base CX0 5 f fd ["one", "other"] (spZ K (nH mO)) := by
 refine bB Df sc_both (fun ds M k h => ?_) (fun cdv A outer s H E hr ds M k h => ?_)
 ·obtain ⟨A, B, Sx, Sy, rfl, _⟩ := h; rfl
 obtain ⟨A, B, Sx, Sy, rfl, bx, by_, oA, oB, hk⟩ := h
 rw [← pick_both] at hk
 refine aI (aQ ?_)
 refine aD G_chosen (hr.mono (by decide)) D_chosen.m D_chosen.F.kp D_chosen.b ?_
 refine aA ?_
 refine ge_v 0 rfl ?_
 refine aA ?_
 refine ge_v 1 rfl ?_
 refine aA ?_
 refine cG ?_
 refine aA ?_
 refine cB ?_
 refine aB ?_
 refine ⟨(show 1 ≤ sizeLine by decide), ?_⟩
 refine aB ?_
 refine ⟨A, B, Sx, Sy, [("##" : Str)], rfl, bx, by_, oA, oB, by decide, ?_⟩
 exact hk
theorem sc_either : FnScope ["one", "other"] ["one", "other"] (aH lI) := ⟨rfl, rfl, rfl, by decide +kernel, rfl, by decide +kernel, by decide +kernel⟩
theorem ok_either {f : Addr} {fd : FuncData} {f_chosen : Addr} {fd_chosen : FuncData} (Df : R.Df K mg "either" lI ["one", "other"] f fd)
  (D_chosen : R.Df K mg "chosen" hW ["one", "other", "pairs"] f_chosen fd_chosen) (G_chosen : FnOk P w K mg base CX0 4 f_chosen fd_chosen ["one", "other", "pairs"] (spZ K kS)) : FnOk P w K mg base CX0 5 f fd ["one", "other"] (spZ K (nH kG)) := by
 refine bB Df sc_either (fun ds M k h => ?_) (fun cdv A outer s H E hr ds M k h => ?_)
 ·obtain ⟨A, B, Sx, Sy, rfl, _⟩ := h; rfl
 obtain ⟨A, B, Sx, Sy, rfl, bx, by_, oA, oB, hk⟩ := h
 rw [← tV] at hk
 refine aI (aQ ?_)
 refine aD G_chosen (hr.mono (by decide)) D_chosen.m D_chosen.F.kp D_chosen.b ?_
 refine aA ?_
 refine ge_v 0 rfl ?_
 refine aA ?_
 refine ge_v 1 rfl ?_
 refine aA ?_
 refine cG ?_
 refine aA ?_
 refine cB ?_
 refine aA ?_
 refine cB ?_
 refine aA ?_
 refine cB ?_
 refine aB ?_
 refine ⟨(show 3 ≤ sizeLine by decide), ?_⟩
 refine aB ?_
 refine ⟨A, B, Sx, Sy, [("##" : Str), ("#." : Str), (".#" : Str)], rfl, bx, by_, oA, oB, by decide, ?_⟩
 exact hk
theorem sc_less : FnScope ["one", "other"] ["one", "other"] (aH o5) := ⟨rfl, rfl, rfl, by decide +kernel, rfl, by decide +kernel, by decide +kernel⟩
theorem ok_less {f : Addr} {fd : FuncData} {f_chosen : Addr} {fd_chosen : FuncData} (Df : R.Df K mg "less" o5 ["one", "other"] f fd)
  (D_chosen : R.Df K mg "chosen" hW ["one", "other", "pairs"] f_chosen fd_chosen) (G_chosen : FnOk P w K mg base CX0 4 f_chosen fd_chosen ["one", "other", "pairs"] (spZ K kS)) : FnOk P w K mg base CX0 5 f fd ["one", "other"] (spZ K (nH mU)) := by
 refine bB Df sc_less (fun ds M k h => ?_) (fun cdv A outer s H E hr ds M k h => ?_)
 ·obtain ⟨A, B, Sx, Sy, rfl, _⟩ := h; rfl
 obtain ⟨A, B, Sx, Sy, rfl, bx, by_, oA, oB, hk⟩ := h
 rw [← pick_less] at hk
 refine aI (aQ ?_)
 refine aD G_chosen (hr.mono (by decide)) D_chosen.m D_chosen.F.kp D_chosen.b ?_
 refine aA ?_
 refine ge_v 0 rfl ?_
 refine aA ?_
 refine ge_v 1 rfl ?_
 refine aA ?_
 refine cG ?_
 refine aA ?_
 refine cB ?_
 refine aB ?_
 refine ⟨(show 1 ≤ sizeLine by decide), ?_⟩
 refine aB ?_
 refine ⟨A, B, Sx, Sy, [("#." : Str)], rfl, bx, by_, oA, oB, by decide, ?_⟩
 exact hk
end
end Q
namespace Q
open PySem L2 Z
open U
section
variable {P : Program} {w : World} {K : PySem.W.Frag} {mg : Str → Option Value} {base : Heap}
theorem iC : FnScope ["_law_one", "_law_other", "_law_some", "_law_way", "_law_first", "_law_second"] ["_law_one", "_law_other", "_law_some"] (aH iY) := ⟨rfl, rfl, rfl, by decide +kernel, rfl, by decide +kernel, by decide +kernel⟩
theorem tS {f : Addr} {fd : FuncData} {f_brought f_both f_either f_less : Addr} {fd_brought fd_both fd_either fd_less : FuncData} (Df : R.Df K mg "_law_together" iY ["_law_one", "_law_other", "_law_some"] f fd)
  (D_brought : R.Df K mg "_law_brought" jW ["_law_way", "_law_yard", "_law_some"] f_brought fd_brought) (G_brought : FnOk P w K mg base CX0 7 f_brought fd_brought ["_law_way", "_law_yard", "_law_some"] (spZ K pE))
  (D_both : R.Df K mg "both" pG ["one", "other"] f_both fd_both) (G_both : FnOk P w K mg base CX0 5 f_both fd_both ["one", "other"] (spZ K (nH mO)))
  (D_either : R.Df K mg "either" lI ["one", "other"] f_either fd_either) (G_either : FnOk P w K mg base CX0 5 f_either fd_either ["one", "other"] (spZ K (nH kG)))
  (D_less : R.Df K mg "less" o5 ["one", "other"] f_less fd_less) (G_less : FnOk P w K mg base CX0 5 f_less fd_less ["one", "other"] (spZ K (nH mU))) (T : Bt mg) : FnOk P w K mg base CX0 8 f fd ["_law_one", "_law_other", "_law_some"] (spZ K qT) := by
 refine bB Df iC (fun ds M k h => ?_) (fun cdv A outer s H E hr ds M k h => ?_)
 ·obtain ⟨A, B, a, b, c, d, rfl, _⟩ := h; rfl
 obtain ⟨A, B, a, b, c, d, rfl, yA, yB, la, ka, lb, kb, hp, hk⟩ := h
 refine aE (lR (eZ T.range ?_))
 refine aA ?_
 refine aC ?_
 refine aB ?_
 refine ⟨_, rfl, by decide, by decide, ?_⟩
 refine ⟨fun i Γ' M' => M' = M ∧ ∃ v3 v4 v5, Γ' = [some (yd A), some (yd B), some (.lst [numD a, numD b, numD c, numD d]), v3, v4, v5], ⟨rfl, _, _, _, rfl⟩, ?_, ?_⟩
 ·rintro i e Γ' M' hd ⟨rfl, v3, v4, v5, rfl⟩
  obtain ⟨hi, rfl⟩ := cW hd
  have hi4 : i < 4 := hi
  refine c8 3 iC.nd ?_
  refine aE (aO 4 iC.nd ?_)
  refine aD G_brought (hr.mono (by decide)) D_brought.m D_brought.F.kp D_brought.b ?_
  refine aA ?_
  refine ge_v 3 rfl ?_
  refine aA ?_
  refine ge_v 0 rfl ?_
  refine aA ?_
  refine ge_v 2 rfl ?_
  refine aB ?_
  refine ⟨i, _, a, b, c, d, hp, by rw [Int.zero_add], hi4, yA, ?_⟩
  refine aE (aO 5 iC.nd ?_)
  refine aD G_brought (hr.mono (by decide)) D_brought.m D_brought.F.kp D_brought.b ?_
  refine aA ?_
  refine ge_v 3 rfl ?_
  refine aA ?_
  refine ge_v 1 rfl ?_
  refine aA ?_
  refine ge_v 2 rfl ?_
  refine aB ?_
  refine ⟨i, _, a, b, c, d, hp, by rw [Int.zero_add], hi4, yB, ?_⟩
  refine aE (bF ?_)
  refine aV (eM (n := 3) (R.bP hr)) ?_
  refine aD G_brought (hr.mono (by decide)) D_brought.m D_brought.F.kp D_brought.b ?_
  refine aA ?_
  refine ge_v 3 rfl ?_
  refine aA ?_
  refine aD G_both (hr.mono (by decide)) D_both.m D_both.F.kp D_both.b ?_
  refine aA ?_
  refine ge_v 0 rfl ?_
  refine aA ?_
  refine ge_v 1 rfl ?_
  refine aB ?_
  obtain ⟨Sx, Sy, s1, s2, s3, s4⟩ := jF (yA.up) (yB.up)
  refine ⟨_, _, Sx, Sy, rfl, s1, s2, s3, s4, ?_⟩
  refine aA ?_
  refine ge_v 2 rfl ?_
  refine aB ?_
  refine ⟨i, _, a, b, c, d, hp, by rw [Int.zero_add], hi4, (yA.op yB la lb ka kb mO), ?_⟩
  refine aD G_both (hr.mono (by decide)) D_both.m D_both.F.kp D_both.b ?_
  refine aA ?_
  refine ge_v 4 rfl ?_
  refine aA ?_
  refine ge_v 5 rfl ?_
  refine aB ?_
  obtain ⟨Sx, Sy, s1, s2, s3, s4⟩ := jF (yA.br i hp) (yB.br i hp)
  refine ⟨_, _, Sx, Sy, rfl, s1, s2, s3, s4, ?_⟩
  refine fV (br_op rfl i A B hp) ⟨_, rfl, ?_⟩
  refine iteF (bC ?_)
  refine aE (bF ?_)
  refine aV (eM (n := 3) (R.bP hr)) ?_
  refine aD G_brought (hr.mono (by decide)) D_brought.m D_brought.F.kp D_brought.b ?_
  refine aA ?_
  refine ge_v 3 rfl ?_
  refine aA ?_
  refine aD G_either (hr.mono (by decide)) D_either.m D_either.F.kp D_either.b ?_
  refine aA ?_
  refine ge_v 0 rfl ?_
  refine aA ?_
  refine ge_v 1 rfl ?_
  refine aB ?_
  obtain ⟨Sx, Sy, s1, s2, s3, s4⟩ := jF (yA.up) (yB.up)
  refine ⟨_, _, Sx, Sy, rfl, s1, s2, s3, s4, ?_⟩
  refine aA ?_
  refine ge_v 2 rfl ?_
  refine aB ?_
  refine ⟨i, _, a, b, c, d, hp, by rw [Int.zero_add], hi4, (yA.op yB la lb ka kb kG), ?_⟩
  refine aD G_either (hr.mono (by decide)) D_either.m D_either.F.kp D_either.b ?_
  refine aA ?_
  refine ge_v 4 rfl ?_
  refine aA ?_
  refine ge_v 5 rfl ?_
  refine aB ?_
  obtain ⟨Sx, Sy, s1, s2, s3, s4⟩ := jF (yA.br i hp) (yB.br i hp)
  refine ⟨_, _, Sx, Sy, rfl, s1, s2, s3, s4, ?_⟩
  refine fV (br_op rfl i A B hp) ⟨_, rfl, ?_⟩
  refine iteF (bC ?_)
  refine aI (bF ?_)
  refine aV (eM (n := 3) (R.bP hr)) ?_
  refine aD G_brought (hr.mono (by decide)) D_brought.m D_brought.F.kp D_brought.b ?_
  refine aA ?_
  refine ge_v 3 rfl ?_
  refine aA ?_
  refine aD G_less (hr.mono (by decide)) D_less.m D_less.F.kp D_less.b ?_
  refine aA ?_
  refine ge_v 0 rfl ?_
  refine aA ?_
  refine ge_v 1 rfl ?_
  refine aB ?_
  obtain ⟨Sx, Sy, s1, s2, s3, s4⟩ := jF (yA.up) (yB.up)
  refine ⟨_, _, Sx, Sy, rfl, s1, s2, s3, s4, ?_⟩
  refine aA ?_
  refine ge_v 2 rfl ?_
  refine aB ?_
  refine ⟨i, _, a, b, c, d, hp, by rw [Int.zero_add], hi4, (yA.op yB la lb ka kb mU), ?_⟩
  refine aD G_less (hr.mono (by decide)) D_less.m D_less.F.kp D_less.b ?_
  refine aA ?_
  refine ge_v 4 rfl ?_
  refine aA ?_
  refine ge_v 5 rfl ?_
  refine aB ?_
  obtain ⟨Sx, Sy, s1, s2, s3, s4⟩ := jF (yA.br i hp) (yB.br i hp)
  refine ⟨_, _, Sx, Sy, rfl, s1, s2, s3, s4, ?_⟩
  refine fV (br_op rfl i A B hp) ⟨_, rfl, ?_⟩
  exact iteF (bC ⟨rfl, _, _, _, rfl⟩)
 rintro Γ' M' ⟨rfl, v3, v4, v5, rfl⟩
 refine aI (aQ ?_)
 refine jV ?_
 exact hk
end
end Q
namespace Q
open PySem L2 Z
open U
section
variable {P : Program} {w : World} {K : PySem.W.Frag} {mg : Str → Option Value} {base : Heap}
theorem sc_is_row : FnScope ["thing", "wide"] ["thing", "wide"] (aH kU) := ⟨rfl, rfl, rfl, by decide +kernel, rfl, by decide +kernel, by decide +kernel⟩
theorem ok_is_row {f : Addr} {fd : FuncData} (Df : R.Df K mg "is_row" kU ["thing", "wide"] f fd) (T : Bt mg) : FnOk P w K mg base CX0 1 f fd ["thing", "wide"] (spZ K cIsRow) := by
 refine bB Df sc_is_row (fun ds M k h => ?_) (fun cdv A outer s H E hr ds M k h => ?_)
 ·obtain ⟨d, n, w, rfl, _⟩ := h; rfl
 obtain ⟨d, n, w, rfl, ht, hk⟩ := h
 rcases str_or d with ⟨z, rfl⟩ | ⟨e0, e1⟩
 ·have hz := sH ht
  refine aE (bF (gt_w (fZ ?_)))
  refine cY ?_
  refine cQ ?_
  refine jI (.inr (.inr (.inl rfl))) T.isi T.str R.BS ?_
  refine ge_v 0 rfl ?_
  refine ⟨_, .self trivial, ?_⟩
  refine ⟨_, rfl, ?_⟩
  rw [sS]
  refine iteF (iP ?_)
  refine aV op_ne ?_
  refine aT bM T.len PySem.boot_len ?_
  refine aA ?_
  refine ge_v 0 rfl ?_
  refine aB ?_
  refine jC (R.aU (by omega)) ?_
  refine ge_v 1 rfl ?_
  refine o2_neI ?_
  refine ⟨_, rfl, ?_⟩
  by_cases h2 : z.length = w
  ·rw [decide_eq_true (by omega)]
   refine iteF (bC (aI (aQ ?_)))
   refine aT (jH rfl) T.all R.BAll (aA (aX [] [] (gi_str ?_)))
   refine ge_v 0 rfl ?_
   refine ⟨_, rfl, ?_⟩
   refine bT (ds := strD z) (by rw [dP]; exact R.aU (by omega)) (fun i acc M' => M' = M ∧ acc = ((z.cps.toList.take i).map fun c => c == 35 || c == 46).map D.bl) ⟨rfl, rfl⟩ ?_ ?_
   ·rintro i d acc M' hd ⟨rfl, rfl⟩ cs C s₀ H₀ fp
    obtain ⟨c, hc, rfl⟩ := bS hd
    refine aZ (iteT fun cs C s₀ H₀ fp => ?_)
    refine dZ op_in_str ?_
    refine ge_v 0 rfl ?_
    refine cB ?_
    refine o2_inStr ?_
    rw [R.occ_sign]
    refine ⟨rfl, ?_⟩
    rw [bJ hc, List.map_append]
    rfl
   rintro acc M' ⟨rfl, rfl⟩
   rw [dP, show z.length = z.cps.toList.length from (Array.length_toList ..).symm, List.take_length]
   refine aB (mF (.lst _) ?_)
   rw [all_id]
   rw [show rowB w (.str z) = z.cps.toList.all (fun c => c == 35 || c == 46) from by show (decide (z.length = w) && _) = _; rw [decide_eq_true h2]; rfl] at hk
   exact hk
  ·rw [decide_eq_false (by omega)]
   rw [show rowB w (.str z) = false from by show (decide (z.length = w) && _) = _; rw [decide_eq_false h2]; rfl] at hk
   refine iteT (aI (aQ ?_))
   refine jV ?_
   exact hk
 ·rw [row_no e1] at hk
  refine aE (bF (gt_w (fZ ?_)))
  refine cY ?_
  refine cQ ?_
  refine jI (.inr (.inr (.inl rfl))) T.isi T.str R.BS ?_
  refine ge_v 0 rfl ?_
  refine ⟨_, .self (tame_slv ht), ?_⟩
  refine ⟨_, rfl, ?_⟩
  rw [e0]
  refine iteT (iteT (aI (aQ ?_)))
  refine jV ?_
  exact hk
theorem fU : FnScope ["rows", "xs", "ys", "wide", "high"] ["rows", "xs", "ys"] (aH iX) := ⟨rfl, rfl, rfl, by decide +kernel, rfl, by decide +kernel, by decide +kernel⟩
theorem uD {f : Addr} {fd : FuncData} {f_is_row : Addr} {fd_is_row : FuncData} (Df : R.Df K mg "rows_fit" iX ["rows", "xs", "ys"] f fd)
  (D_is_row : R.Df K mg "is_row" kU ["thing", "wide"] f_is_row fd_is_row) (G_is_row : FnOk P w K mg base CX0 1 f_is_row fd_is_row ["thing", "wide"] (spZ K cIsRow)) (T : Bt mg) : FnOk P w K mg base CX0 2 f fd ["rows", "xs", "ys"] (spZ K cFitB) := by
 refine bB Df fU (fun ds M k h => ?_) (fun cdv A outer s H E hr ds M k h => ?_)
 ·obtain ⟨t, dr, dx, dy, rs, xs, ys, n, rfl, _⟩ := h; rfl
 obtain ⟨t, dr, dx, dy, rs, xs, ys, n, rfl, s1, s2, s3, ht, l1, l2, l3, hk⟩ := h
 cases t with
 | true =>
  cases s1
  cases s2
  cases s3
  refine aE (aO 3 fU.nd ?_)
  refine aT (jY rfl) T.max R.BMax ?_
  refine aA ?_
  refine aM dY ?_
  refine aT bM T.len PySem.boot_len ?_
  refine aA ?_
  refine ge_v 1 rfl ?_
  refine aB ?_
  refine cR (.lst _) ?_
  refine aC ?_
  refine o2_0 ?_
  refine aA ?_
  refine aC ?_
  refine aB ?_
  refine oK ?_
  rw [maxz0]
  refine aE (aO 4 fU.nd ?_)
  refine aT (jY rfl) T.max R.BMax ?_
  refine aA ?_
  refine aM dY ?_
  refine aT bM T.len PySem.boot_len ?_
  refine aA ?_
  refine ge_v 2 rfl ?_
  refine aB ?_
  refine cR (.lst _) ?_
  refine aC ?_
  refine o2_0 ?_
  refine aA ?_
  refine aC ?_
  refine aB ?_
  refine oK ?_
  rw [maxz0]
  refine aI (aQ (o6 ?_))
  refine dZ dS ?_
  refine aT bM T.len PySem.boot_len ?_
  refine aA ?_
  refine ge_v 0 rfl ?_
  refine aB ?_
  refine cR (.lst _) ?_
  refine ge_v 4 rfl ?_
  refine dJ ?_
  refine ⟨_, rfl, ?_⟩
  by_cases h1 : rs.length = ys.length - 1
  ·refine gL (decide_eq_true (by omega)) (kC ?_)
   refine aT (jH rfl) T.all R.BAll (aA (aX ["wide"] [3] (bR ?_)))
   refine ge_v 0 rfl ?_
   refine ⟨_, .inr (.inl rfl), ?_⟩
   refine bT (ds := rs) (R.aU (by omega)) (fun i acc M' => M' = M ∧ acc = ((rs.take i).map (rowB (xs.length - 1))).map D.bl) ⟨rfl, rfl⟩ ?_ ?_
   ·rintro i d acc M' hd ⟨rfl, rfl⟩ cs C s₀ H₀ fp
    refine aZ (iteT fun cs C s₀ H₀ fp => ?_)
    refine aD G_is_row (hr.mono (by decide)) D_is_row.m D_is_row.F.kp D_is_row.b ?_
    refine aA ?_
    refine ge_v 0 rfl ?_
    refine aA ?_
    refine ge_v 1 rfl ?_
    refine aB ?_
    refine ⟨d, n, _, rfl, ht d (List.mem_of_getElem? hd), ?_⟩
    refine ⟨rfl, ?_⟩
    rw [bJ hd, List.map_append]
    rfl
   rintro acc M' ⟨rfl, rfl⟩
   rw [List.take_length]
   refine aB (mF (.lst _) ?_)
   rw [all_id]
   rw [show fitB rs xs.length ys.length = rs.all (rowB (xs.length - 1)) from by unfold fitB; rw [decide_eq_true h1]; rfl] at hk
   exact hk
  ·rw [show fitB rs xs.length ys.length = false from by unfold fitB; rw [decide_eq_false h1]; rfl] at hk
   exact eA (decide_eq_false (by omega)) hk
 | false =>
  cases s1
  cases s2
  cases s3
  refine aE (aO 3 fU.nd ?_)
  refine aT (jY rfl) T.max R.BMax ?_
  refine aA ?_
  refine aM dY ?_
  refine aT bM T.len PySem.boot_len ?_
  refine aA ?_
  refine ge_v 1 rfl ?_
  refine aB ?_
  refine cR (.tup _) ?_
  refine aC ?_
  refine o2_0 ?_
  refine aA ?_
  refine aC ?_
  refine aB ?_
  refine oK ?_
  rw [maxz0]
  refine aE (aO 4 fU.nd ?_)
  refine aT (jY rfl) T.max R.BMax ?_
  refine aA ?_
  refine aM dY ?_
  refine aT bM T.len PySem.boot_len ?_
  refine aA ?_
  refine ge_v 2 rfl ?_
  refine aB ?_
  refine cR (.tup _) ?_
  refine aC ?_
  refine o2_0 ?_
  refine aA ?_
  refine aC ?_
  refine aB ?_
  refine oK ?_
  rw [maxz0]
  refine aI (aQ (o6 ?_))
  refine dZ dS ?_
  refine aT bM T.len PySem.boot_len ?_
  refine aA ?_
  refine ge_v 0 rfl ?_
  refine aB ?_
  refine cR (.tup _) ?_
  refine ge_v 4 rfl ?_
  refine dJ ?_
  refine ⟨_, rfl, ?_⟩
  by_cases h1 : rs.length = ys.length - 1
  ·refine gL (decide_eq_true (by omega)) (kC ?_)
   refine aT (jH rfl) T.all R.BAll (aA (aX ["wide"] [3] (bR ?_)))
   refine ge_v 0 rfl ?_
   refine ⟨_, .inl rfl, ?_⟩
   refine bT (ds := rs) (R.aU (by omega)) (fun i acc M' => M' = M ∧ acc = ((rs.take i).map (rowB (xs.length - 1))).map D.bl) ⟨rfl, rfl⟩ ?_ ?_
   ·rintro i d acc M' hd ⟨rfl, rfl⟩ cs C s₀ H₀ fp
    refine aZ (iteT fun cs C s₀ H₀ fp => ?_)
    refine aD G_is_row (hr.mono (by decide)) D_is_row.m D_is_row.F.kp D_is_row.b ?_
    refine aA ?_
    refine ge_v 0 rfl ?_
    refine aA ?_
    refine ge_v 1 rfl ?_
    refine aB ?_
    refine ⟨d, n, _, rfl, ht d (List.mem_of_getElem? hd), ?_⟩
    refine ⟨rfl, ?_⟩
    rw [bJ hd, List.map_append]
    rfl
   rintro acc M' ⟨rfl, rfl⟩
   rw [List.take_length]
   refine aB (mF (.lst _) ?_)
   rw [all_id]
   rw [show fitB rs xs.length ys.length = rs.all (rowB (xs.length - 1)) from by unfold fitB; rw [decide_eq_true h1]; rfl] at hk
   exact hk
  ·rw [show fitB rs xs.length ys.length = false from by unfold fitB; rw [decide_eq_false h1]; rfl] at hk
   exact eA (decide_eq_false (by omega)) hk
end
end Q
namespace Q
open PySem L2 Z
open U
section
variable {P : Program} {w : World} {K : PySem.W.Frag} {mg : Str → Option Value} {base : Heap}
theorem oC : FnScope ["thing"] ["thing"] (aH eU) := ⟨rfl, rfl, rfl, by decide +kernel, rfl, by decide +kernel, by decide +kernel⟩
theorem oJ {f : Addr} {fd : FuncData} {f_is_whole : Addr} {fd_is_whole : FuncData} (Df : R.Df K mg "is_whole_line" eU ["thing"] f fd)
  (D_is_whole : R.Df K mg "is_whole" gP ["thing"] f_is_whole fd_is_whole) (G_is_whole : FnOk P w K mg base CX0 1 f_is_whole fd_is_whole ["thing"] (spZ K oG)) {tF : Tok} (CF : mg "FARTHEST" = some (.int 1000000000 tF)) : FnOk P w K mg base CX0 2 f fd ["thing"] (spZ K oN) := by
 refine bB Df oC (fun ds M k h => ?_) (fun cdv A outer s H E hr ds M k h => ?_)
 ·obtain ⟨x, rfl, _⟩ := h; rfl
 obtain ⟨x, rfl, h1, h2, hk⟩ := h
 refine aI (aQ (o6 ?_))
 refine aD G_is_whole (hr.mono (by decide)) D_is_whole.m D_is_whole.F.kp D_is_whole.b ?_
 refine aA ?_
 refine ge_v 0 rfl ?_
 refine aB ?_
 refine ⟨_, rfl, trivial, ?_⟩
 refine ⟨_, rfl, iteT (kC (ge_chain op_le op_le (gT eX (n5 CF ⟨_, rfl, ?_⟩))))⟩
 refine ge_v 0 rfl ?_
 refine o2_B ⟨_, rfl, gL (decide_eq_true (by omega)) (n5 CF (o2_B ?_))⟩
 rw [decide_eq_true h2]
 exact hk
theorem lY : FnScope ["thing"] ["thing"] (aH dR) := ⟨rfl, rfl, rfl, by decide +kernel, rfl, by decide +kernel, by decide +kernel⟩
theorem l6 {f : Addr} {fd : FuncData} {f_is_whole_line : Addr} {fd_is_whole_line : FuncData} (Df : R.Df K mg "are_whole_lines" dR ["thing"] f fd)
  (D_is_whole_line : R.Df K mg "is_whole_line" eU ["thing"] f_is_whole_line fd_is_whole_line) (G_is_whole_line : FnOk P w K mg base CX0 2 f_is_whole_line fd_is_whole_line ["thing"] (spZ K oN)) (T : Bt mg) {tM : Tok} (CM : mg "MOST_LINES" = some (.int 7 tM)) : FnOk P w K mg base CX0 3 f fd ["thing"] (spZ K nM) := by
 refine bB Df lY (fun ds M k h => ?_) (fun cdv A outer s H E hr ds M k h => ?_)
 ·obtain ⟨xs, rfl, _⟩ := h; rfl
 obtain ⟨xs, rfl, u7, hk⟩ := h
 have few := u7.few
 have ml : (xs.map D.int).length = xs.length := List.length_map ..
 refine aE (bF (gt_w (fZ ?_)))
 refine cY ?_
 refine cQ ?_
 refine jI (.inr (.inr (.inr (.inr rfl)))) T.isi T.list R.BL ?_
 refine ge_v 0 rfl ?_
 refine ⟨_, .self trivial, ?_⟩
 refine ⟨_, rfl, ?_⟩
 rw [lL]
 refine iteF (iP (aV op_gt ?_))
 refine aT bM T.len PySem.boot_len ?_
 refine aA ?_
 refine ge_v 0 rfl ?_
 refine aB ?_
 refine cR (.lst _) ?_
 refine n5 CM (o2_B ⟨_, rfl, ?_⟩)
 refine eA (decide_eq_false (by omega)) (bC ?_)
 refine aE (bF (cY (cQ ?_)))
 refine aT (jH rfl) T.all R.BAll (aA (aX [] [] (bR ?_)))
 refine ge_v 0 rfl ?_
 refine ⟨_, .inr (.inl rfl), ?_⟩
 refine bT (ds := xs.map D.int) (by rw [ml]; exact R.aU (by omega)) (fun i acc M' => M' = M ∧ acc = (List.replicate i true).map D.bl) ⟨rfl, rfl⟩ ?_ ?_
 ·rintro i d acc M' hd ⟨rfl, rfl⟩ cs C s₀ H₀ fp
  obtain ⟨x, hx, rfl⟩ := bS hd
  have hb := u7.bd x (List.mem_of_getElem? hx)
  refine aZ (iteT fun cs C s₀ H₀ fp => ?_)
  refine aD G_is_whole_line (hr.mono (by decide)) D_is_whole_line.m D_is_whole_line.F.kp D_is_whole_line.b ?_
  refine aA ?_
  refine ge_v 0 rfl ?_
  refine aB ?_
  refine ⟨x, rfl, hb.1, hb.2, ?_⟩
  refine ⟨rfl, ?_⟩
  rw [List.replicate_succ', List.map_append]
  rfl
 rintro acc M' ⟨rfl, rfl⟩
 refine aB (mF (.lst _) ⟨_, rfl, ?_⟩)
 rw [n6]
 refine iteF (bC (aI (aQ ?_)))
 refine aT (jH rfl) T.all R.BAll (aA (aX ["thing"] [0] (gi_rng2 T.range ?_)))
 refine aA ?_
 refine aC ?_
 refine aA ?_
 refine aT bM T.len PySem.boot_len ?_
 refine aA ?_
 refine ge_v 0 rfl ?_
 refine aB ?_
 refine cR (.lst _) ?_
 refine aB ?_
 rw [ml]
 refine ⟨_, _, rfl, ⟨by omega, by omega, by omega, by omega⟩, ?_⟩
 rw [show (((xs.length : Nat) : Int) - 1).toNat = xs.length - 1 by omega]
 refine bT (by rw [bQ]; exact R.aU (by omega)) (fun i acc M1 => M1 = M' ∧ acc = (List.replicate i true).map D.bl) ⟨rfl, rfl⟩ ?_ ?_
 ·rintro i d acc M1 hd ⟨rfl, rfl⟩ cs C s₀ H₀ fp
  obtain ⟨hi, rfl⟩ := cW hd
  have lt := List.pairwise_iff_getElem.mp u7.up i (i + 1) (by omega) (by omega) (by omega)
  refine aZ (iteT fun cs C s₀ H₀ fp => ?_)
  refine dZ iH ?_
  refine aJ aG ?_
  refine ge_v 1 rfl ?_
  refine aM dY ?_
  refine ge_v 0 rfl ?_
  refine aC ?_
  refine o2_0 ?_
  refine aK (.lst _) (by rw [show (1 : Int) + (i : Int) - 1 = ((i : Nat) : Int) by omega]; exact int_at (by omega)) ?_
  refine aJ aG ?_
  refine ge_v 1 rfl ?_
  refine ge_v 0 rfl ?_
  refine aK (.lst _) (by rw [show (1 : Int) + (i : Int) = ((i + 1 : Nat) : Int) by omega]; exact int_at (by omega)) ?_
  refine o2_B ?_
  rw [decide_eq_true lt]
  refine ⟨rfl, ?_⟩
  rw [List.replicate_succ', List.map_append]
  rfl
 rintro acc M1 ⟨rfl, rfl⟩
 refine aB (mF (.lst _) ?_)
 rw [n6]
 exact hk
end
end Q
namespace Q
open PySem L2 Z
open U
section
variable {P : Program} {w : World} {K : PySem.W.Frag} {mg : Str → Option Value} {base : Heap}
theorem sc_made : FnScope ["xs", "ys", "rows"] ["xs", "ys", "rows"] (aH o4) := ⟨rfl, rfl, rfl, by decide +kernel, rfl, by decide +kernel, by decide +kernel⟩
theorem ok_made {f : Addr} {fd : FuncData} {f_are_whole_lines f_rows_fit f_tidied f_fraction : Addr} {fd_are_whole_lines fd_rows_fit fd_tidied fd_fraction : FuncData} (Df : R.Df K mg "made" o4 ["xs", "ys", "rows"] f fd)
  (D_are_whole_lines : R.Df K mg "are_whole_lines" dR ["thing"] f_are_whole_lines fd_are_whole_lines) (G_are_whole_lines : FnOk P w K mg base CX0 3 f_are_whole_lines fd_are_whole_lines ["thing"] (spZ K nM))
  (D_rows_fit : R.Df K mg "rows_fit" iX ["rows", "xs", "ys"] f_rows_fit fd_rows_fit) (G_rows_fit : FnOk P w K mg base CX0 2 f_rows_fit fd_rows_fit ["rows", "xs", "ys"] (spZ K cFitB))
  (D_tidied : R.Df K mg "tidied" jP ["xs", "ys", "rows"] f_tidied fd_tidied) (G_tidied : FnOk P w K mg base CX0 3 f_tidied fd_tidied ["xs", "ys", "rows"] (spZ K oI))
  (D_fraction : R.Df K mg "fraction" i3 ["top", "bottom"] f_fraction fd_fraction) (G_fraction : FnOk P w K mg base CX0 3 f_fraction fd_fraction ["top", "bottom"] (spZ K qV)) (T : Bt mg) : FnOk P w K mg base CX0 5 f fd ["xs", "ys", "rows"] (spZ K cMade) := by
 refine bB Df sc_made (fun ds M k h => ?_) (fun cdv A outer s H E hr ds M k h => ?_)
 ·obtain ⟨xs, ys, zs, rfl, _⟩ := h; rfl
 obtain ⟨xs, ys, zs, rfl, ux, uy, gz, hz, hk⟩ := h
 have fx := ux.few
 have fy := uy.few
 have mx : (xs.map D.int).length = xs.length := List.length_map ..
 have my : (ys.map D.int).length = ys.length := List.length_map ..
 refine aE (bF (gt_w (fZ ?_)))
 refine cY ?_
 refine cQ ?_
 refine aD G_are_whole_lines (hr.mono (by decide)) D_are_whole_lines.m D_are_whole_lines.F.kp D_are_whole_lines.b ?_
 refine aA ?_
 refine ge_v 0 rfl ?_
 refine aB ?_
 refine ⟨xs, rfl, ux, ?_⟩
 refine ⟨_, rfl, ?_⟩
 refine iteF (iP ?_)
 refine cY ?_
 refine cQ ?_
 refine aD G_are_whole_lines (hr.mono (by decide)) D_are_whole_lines.m D_are_whole_lines.F.kp D_are_whole_lines.b ?_
 refine aA ?_
 refine ge_v 1 rfl ?_
 refine aB ?_
 refine ⟨ys, rfl, uy, ?_⟩
 refine ⟨_, rfl, ?_⟩
 refine iteF (bC ?_)
 refine aE (bF (gt_w (fZ ?_)))
 refine cY ?_
 refine cQ ?_
 refine jI (.inr (.inr (.inr (.inr rfl)))) T.isi T.list R.BL ?_
 refine ge_v 2 rfl ?_
 refine ⟨_, .self trivial, ?_⟩
 refine ⟨_, rfl, ?_⟩
 rw [lL]
 refine iteF (iP ?_)
 refine cY ?_
 refine cQ ?_
 refine aD G_rows_fit (hr.mono (by decide)) D_rows_fit.m D_rows_fit.F.kp D_rows_fit.b ?_
 refine aA ?_
 refine ge_v 2 rfl ?_
 refine aA ?_
 refine ge_v 0 rfl ?_
 refine aA ?_
 refine ge_v 1 rfl ?_
 refine aB ?_
 refine ⟨true, _, _, _, zs.map .str, xs.map .int, ys.map .int, 1, rfl, rfl, rfl, rfl, fun r hr => (tt_strs (n := 50) (fun z hz => Nat.le_trans (Nat.le_of_eq (gz z hz).1) (show _ ≤ 1000 by omega)) (by omega)).tame1 r hr, by rw [List.length_map]; omega, by omega, by omega, ?_⟩
 refine ⟨_, rfl, ?_⟩
 rw [mx, my, fit_eq hz (fun z hz => (gz z hz).1), good_all gz]
 refine iteF (bC (aI (aQ ?_)))
 refine aD G_tidied (hr.mono (by decide)) D_tidied.m D_tidied.F.kp D_tidied.b ?_
 refine aA (aX [] [] (bR ?_))
 refine ge_v 0 rfl ?_
 refine ⟨_, .inr (.inl rfl), ?_⟩
 refine bT (ds := xs.map D.int) (by rw [List.length_map]; exact R.aU (by omega)) (fun i acc M1 => M1 = M ∧ acc = ((xs.take i).map p1).map dL) ⟨rfl, rfl⟩ ?_ ?_
 ·rintro i d acc M1 hd ⟨rfl, rfl⟩ cs C s₀ H₀ fp
  obtain ⟨x, hx, rfl⟩ := bS hd
  refine aZ (iteT fun cs C s₀ H₀ fp => ?_)
  refine aD G_fraction (hr.mono (by decide)) D_fraction.m D_fraction.F.kp D_fraction.b ?_
  refine aA ?_
  refine ge_v 0 rfl ?_
  refine aA ?_
  refine aC ?_
  refine aB ?_
  refine ⟨x, 1, rfl, by decide, Nat.one_lt_pow (by decide) (by decide), ?_⟩
  rw [low1]
  refine ⟨rfl, ?_⟩
  rw [bJ hx, List.map_append]
  rfl
 rintro acc M ⟨rfl, rfl⟩
 rw [List.length_map, List.take_length]
 refine aA (aX [] [] (bR ?_))
 refine ge_v 1 rfl ?_
 refine ⟨_, .inr (.inl rfl), ?_⟩
 refine bT (ds := ys.map D.int) (by rw [List.length_map]; exact R.aU (by omega)) (fun i acc M1 => M1 = M ∧ acc = ((ys.take i).map p1).map dL) ⟨rfl, rfl⟩ ?_ ?_
 ·rintro i d acc M1 hd ⟨rfl, rfl⟩ cs C s₀ H₀ fp
  obtain ⟨x, hx, rfl⟩ := bS hd
  refine aZ (iteT fun cs C s₀ H₀ fp => ?_)
  refine aD G_fraction (hr.mono (by decide)) D_fraction.m D_fraction.F.kp D_fraction.b ?_
  refine aA ?_
  refine ge_v 0 rfl ?_
  refine aA ?_
  refine aC ?_
  refine aB ?_
  refine ⟨x, 1, rfl, by decide, Nat.one_lt_pow (by decide) (by decide), ?_⟩
  rw [low1]
  refine ⟨rfl, ?_⟩
  rw [bJ hx, List.map_append]
  rfl
 rintro acc M ⟨rfl, rfl⟩
 rw [List.length_map, List.take_length]
 refine aA ?_
 refine ge_v 2 rfl ?_
 refine aB ?_
 exact ⟨true, _, _, _, fR xs, fR ys, zs, xs.length - 1, rfl, rfl, rfl, rfl, by omega, by omega, fun z hz => (gz z hz).1, by rw [pB]; exact eO fun z hz => (gz z hz).1, by rw [pB]; exact eQ hz, hk⟩
end
end Q
namespace Q
open PySem L2 Z
open U
section
variable {P : Program} {w : World} {K : PySem.W.Frag} {mg : Str → Option Value} {base : Heap}
theorem i7 : FnScope ["_law_feed_here", "_law_many", "_law_digit", "_law_step", "_law_mixed"] ["_law_feed_here", "_law_many"] (aH j9) := ⟨rfl, rfl, rfl, by decide +kernel, rfl, by decide +kernel, by decide +kernel⟩
theorem ok_next {f : Addr} {fd : FuncData} (Df : R.Df K mg "_law_next" j9 ["_law_feed_here", "_law_many"] f fd) : FnOk P w K mg base CX0 1 f fd ["_law_feed_here", "_law_many"] (spZ K cNext) := by
 refine bB Df i7 (fun ds M k h => ?_) (fun cdv A outer s H E hr ds M k h => ?_)
 ·obtain ⟨p, n, b, rfl, _⟩ := h; rfl
 obtain ⟨p, n, b, rfl, hn, hn2, ⟨g, m, st, hM, hg, hm, hm2, hs, hs2⟩, hb, hk⟩ := h
 refine aE (bF ?_)
 refine aV op_gt ?_
 refine aJ aG ?_
 refine ge_v 0 rfl ?_
 refine aC ?_
 refine aK (.mt hM) rfl ?_
 refine aC ?_
 refine o2_B ?_
 refine ⟨_, rfl, ?_⟩
 refine ite2 (fun hgt => ?_) (fun hgt => ?_)
 ·refine aE (aO 2 i7.nd ?_)
  refine aM jO ?_
  refine aJ aG ?_
  refine ge_v 0 rfl ?_
  refine aC ?_
  refine aK (.mt hM) rfl ?_
  refine ge_v 1 rfl ?_
  refine o2_C (show (0 : Int) < _ by first | decide | omega) ?_
  refine aE (pJ ?_)
  refine aM op_fdiv ?_
  refine aJ aG ?_
  refine ge_v 0 rfl ?_
  refine aC ?_
  refine aK (.mt hM) rfl ?_
  refine ge_v 1 rfl ?_
  refine o2_C ⟨hn, hn2⟩ ?_
  refine gg_sub ?_
  refine ge_v 0 rfl ?_
  refine aC ?_
  refine ⟨p, 0, 0, _, rfl, rfl, hM, rfl, ?_⟩
  refine aI (aQ ?_)
  refine ge_v 2 rfl ?_
  exact hk _ _ (Int.emod_nonneg _ (by omega)) (Int.emod_lt_of_pos _ hn) ⟨_, m, st, bK, Int.ediv_nonneg hg (by omega), hm, hm2, hs, by omega⟩ (ButM.refl p M).upd (fun a ha => dE ha)
 ·refine bC ?_
  refine aE (aO 3 i7.nd ?_)
  refine aM b6 ?_
  refine aJ aG ?_
  refine ge_v 0 rfl ?_
  refine aC ?_
  refine aK (.mt hM) rfl ?_
  refine aC ?_
  refine o2_0 ?_
  refine aE (pJ ?_)
  refine ge_v 3 rfl ?_
  refine gg_sub ?_
  refine ge_v 0 rfl ?_
  refine aC ?_
  refine ⟨p, 2, 2, _, rfl, rfl, hM, rfl, ?_⟩
  refine aE (aO 4 i7.nd ?_)
  have b1 : -(2 ^ 64) < st + 1 ∧ st + 1 < 2 ^ 64 := by omega
  refine aM jO ?_
  refine aM b6 ?_
  refine aM b6 ?_
  refine aJ aG ?_
  refine ge_v 0 rfl ?_
  refine aC ?_
  refine aK (.mt bK) rfl ?_
  refine aM fY ?_
  refine aM fY ?_
  refine aC ?_
  refine ge_v 3 rfl ?_
  refine o2_C (.inl ⟨by decide, by decide⟩) ?_
  refine ge_v 3 rfl ?_
  refine o2_C (.inr b1) ?_
  refine o2_0 ?_
  refine aM fY ?_
  refine aC ?_
  refine ge_v 3 rfl ?_
  refine o2_C (.inl ⟨by decide, by decide⟩) ?_
  refine o2_0 ?_
  refine aC ?_
  refine o2_C (show (0 : Int) < _ by first | decide | omega) ?_
  refine aE (aO 4 i7.nd ?_)
  refine aM jO ?_
  refine aM b6 ?_
  refine aM b6 ?_
  refine aM fY ?_
  refine ge_v 4 rfl ?_
  refine ge_v 4 rfl ?_
  refine o2_C (.inl (R.qI _ (by decide) (by decide))) ?_
  refine aM fY ?_
  refine aC ?_
  refine ge_v 4 rfl ?_
  refine o2_C (.inl ⟨by decide, by decide⟩) ?_
  refine o2_0 ?_
  refine ge_v 3 rfl ?_
  refine o2_0 ?_
  refine aC ?_
  refine o2_C (show (0 : Int) < _ by first | decide | omega) ?_
  refine aE (aO 4 i7.nd ?_)
  refine aM jO ?_
  refine aM b6 ?_
  refine aM fY ?_
  refine ge_v 4 rfl ?_
  refine ge_v 4 rfl ?_
  refine o2_C (.inl (R.qI _ (by decide) (by decide))) ?_
  refine aM fY ?_
  refine aC ?_
  refine ge_v 4 rfl ?_
  refine o2_C (.inl ⟨by decide, by decide⟩) ?_
  refine o2_0 ?_
  refine aC ?_
  refine o2_C (show (0 : Int) < _ by first | decide | omega) ?_
  refine aI (aQ ?_)
  refine aM jO ?_
  refine aM op_fdiv ?_
  refine ge_v 4 rfl ?_
  refine aC ?_
  refine o2_C ⟨by decide, by decide⟩ ?_
  refine ge_v 1 rfl ?_
  refine o2_C hn ?_
  exact hk _ _ (Int.emod_nonneg _ (by omega)) (Int.emod_lt_of_pos _ hn) ⟨g, m, st + 1, bK, hg, hm, hm2, by omega, by omega⟩ (ButM.refl p M).upd (fun a ha => dE ha)
end
end Q
namespace Q
open PySem L2 Z
open U
section
variable {P : Program} {w : World} {K : PySem.W.Frag} {mg : Str → Option Value} {base : Heap}
theorem lD : FnScope ["_law_feed_here", "_law_most", "_law_found", "_law_k"] ["_law_feed_here"] (aH nA) := ⟨rfl, rfl, rfl, by decide +kernel, rfl, by decide +kernel, by decide +kernel⟩
theorem ok_lines {f : Addr} {fd : FuncData} {f_next : Addr} {fd_next : FuncData} (Df : R.Df K mg "_law_lines" nA ["_law_feed_here"] f fd)
  (D_next : R.Df K mg "_law_next" j9 ["_law_feed_here", "_law_many"] f_next fd_next) (G_next : FnOk P w K mg base CX0 1 f_next fd_next ["_law_feed_here", "_law_many"] (spZ K cNext)) (T : Bt mg) : FnOk P w K mg base CX0 2 f fd ["_law_feed_here"] (spZ K tG) := by
 refine bB Df lD (fun ds M k h => ?_) (fun cdv A outer s H E hr ds M k h => ?_)
 ·obtain ⟨p, b, rfl, _⟩ := h; rfl
 obtain ⟨p, b, rfl, hF0, hb, hk⟩ := h
 refine aE (aO 1 lD.nd ?_)
 refine aJ aG ?_
 refine eW ?_
 refine aA ?_
 refine aC ?_
 refine aA ?_
 refine aC ?_
 refine aA ?_
 refine aM op_pow ?_
 refine aC ?_
 refine aC ?_
 refine o2_C ⟨by decide, by decide, by decide⟩ ?_
 refine aB ?_
 refine ⟨(show 3 ≤ sizeLine by decide), ?_⟩
 refine aD G_next (hr.mono (by decide)) D_next.m D_next.F.kp D_next.b ?_
 refine aA ?_
 refine ge_v 0 rfl ?_
 refine aA ?_
 refine aC ?_
 refine aB ?_
 refine ⟨p, _, _, rfl, by decide, by decide, hF0, by omega, fun z1 M1 z10 z11 hF1 hB1 hE1 => ?_⟩
 obtain ⟨most, hmo, hmo1, hmo2⟩ := pick_m5 z10 z11
 refine aK (.lst _) hmo ?_
 refine aE (aO 2 lD.nd (m7 ?_))
 refine aA ?_
 refine aM dY ?_
 refine aD G_next (hr.mono (by decide)) D_next.m D_next.F.kp D_next.b ?_
 refine aA ?_
 refine ge_v 0 rfl ?_
 refine aA ?_
 refine aM b6 ?_
 refine aM fY ?_
 refine aC ?_
 refine ge_v 1 rfl ?_
 refine o2_C (by first | exact .inl ⟨by omega, by omega⟩ | exact .inr ⟨by omega, by omega⟩) ?_
 refine aC ?_
 refine o2_0 ?_
 refine aB ?_
 refine ⟨p, _, _, rfl, by omega, by omega, hF1, by omega, fun z2 M2 z20 z21 hF2 hB2 hE2 => ?_⟩
 refine ge_v 1 rfl ?_
 refine o2_0 ?_
 refine aB ?_
 refine ⟨(show 1 ≤ sizeLine by decide), fun a ha => ?_⟩
 have hap : a ≠ p := hF2.ne ha
 have hB12 := hB1.trans hB2
 have haM : M a = none := hB12.none_of ha hap
 refine aE (lR (eZ T.range ?_))
 refine aA ?_
 refine aM b6 ?_
 refine aC ?_
 refine aD G_next (hr.mono (by decide)) D_next.m D_next.F.kp D_next.b ?_
 refine aA ?_
 refine ge_v 0 rfl ?_
 refine aA ?_
 refine aC ?_
 refine aB ?_
 refine ⟨p, _, _, rfl, by decide, by decide, hF2.new hap, by omega, fun z3 M3 z30 z31 hF3 hB3 hE3 => ?_⟩
 refine o2_0 ?_
 refine aB ?_
 refine ⟨_, rfl, by omega, by omega, ?_⟩
 obtain ⟨n3, hn3⟩ : ∃ n3 : Nat, 1 + z3 = (n3 : Int) := ⟨(1 + z3).toNat, by omega⟩
 rw [hn3, Int.toNat_natCast]
 refine ⟨fun i Γ' M' => ∃ (xs : List Int) (v4 : Option D), Γ' = [some (.mt p), some (.int most), some (.mt a), v4] ∧ M' a = some (.lst (xs.map .int)) ∧ FdM M' p (b + 3 + i) ∧ ButM p M M' ∧ xs.length = i + 1 ∧ xs.Pairwise (· < ·) ∧ ∀ x ∈ xs, -100000000 ≤ x ∧ x ≤ 100000000 + 100000001 * i,
  ⟨[z2 - most], _, rfl, (hE3 a hap).trans bK, hF3.mono (by omega), (hB12.new haM).trans hB3, rfl, List.pairwise_singleton _ _, fun x hx => by rw [List.mem_singleton] at hx; omega⟩, ?_, ?_⟩
 ·rintro i d Γ' M' hd ⟨xs, v4, rfl, hM, hF, hB, hl, hp, hbd⟩
  obtain ⟨hi, rfl⟩ := cW hd
  obtain ⟨xr, xl, rfl⟩ := snoc_of (l := xs) (fun e => by rw [e] at hl; simp at hl)
  have hxl := hbd xl (by simp)
  refine c8 3 lD.nd ?_
  refine aI (p7 ?_)
  refine i0 PySem.F.plainAttrs_list PySem.F.slot_list_append PySem.F.type_list_append iN ?_
  refine ge_v 2 rfl ?_
  refine ⟨⟨rfl, _, hM⟩, ?_⟩
  refine aA ?_
  refine aM b6 ?_
  refine aM b6 ?_
  refine aJ aG ?_
  refine ge_v 2 rfl ?_
  refine gT eX ?_
  refine aC ?_
  refine ⟨_, rfl, ?_⟩
  refine aK (.mt hM) (by rw [List.map_append]; exact n8 _ _) ?_
  refine aC ?_
  refine o2_0 ?_
  refine aD G_next (hr.mono (by decide)) D_next.m D_next.F.kp D_next.b ?_
  refine aA ?_
  refine ge_v 0 rfl ?_
  refine aA ?_
  refine ge_v 1 rfl ?_
  refine aB ?_
  refine ⟨p, most, _, rfl, by omega, by omega, hF, by omega, fun z4 M4 z40 z41 hF4 hB4 hE4 => ?_⟩
  refine o2_0 ?_
  refine aB ?_
  refine mK ((hE4 a hap).trans hM) (by rw [List.length_map, hl]; exact Nat.lt_of_le_of_lt (show i + 1 ≤ 20 by omega) (by decide)) ?_
  refine ⟨xr ++ [xl] ++ [xl + 1 + z4], _, rfl, by rw [bK]; simp, (hF4.new hap).mono (by omega), (hB.trans hB4).new haM, by rw [List.length_append, hl]; rfl, ?_, fun x hx => ?_⟩
  ·rw [List.pairwise_append]
   refine ⟨hp, List.pairwise_singleton _ _, fun x hx y hy => ?_⟩
   rw [List.mem_singleton] at hy
   have hx2 : x ≤ xl := by
    rcases List.mem_append.mp hx with hx | hx
    ·exact Int.le_of_lt ((List.pairwise_append.mp hp).2.2 x hx xl (by simp))
    ·rw [List.mem_singleton] at hx; omega
   omega
  ·rcases List.mem_append.mp hx with hx | hx
   ·have := hbd x hx; omega
   ·rw [List.mem_singleton] at hx; omega
 ·rintro Γ' M' ⟨xs, v4, rfl, hM, hF, hB, hl, hp, hbd⟩
  rw [bQ] at hl hF hbd
  refine iK 2 rfl hM ?_
  refine aI (aQ ?_)
  refine ge_v 2 rfl ?_
  exact hk xs _ ⟨hp, by omega, fun x hx => by have := hbd x hx; omega⟩ (by omega) ((hF.del hap).mono (by omega)) (hB.del haM)
end
end Q
namespace Q
open PySem L2 Z
open U
section
variable {P : Program} {w : World} {K : PySem.W.Frag} {mg : Str → Option Value} {base : Heap}
theorem nC : FnScope ["_law_feed_here", "_law_xs", "_law_ys", "_law_share", "_law_rows_here", "_law_y"] ["_law_feed_here", "_law_xs", "_law_ys"] (aH oW) := ⟨rfl, rfl, rfl, by decide +kernel, rfl, by decide +kernel, by decide +kernel⟩
theorem ok_rows {f : Addr} {fd : FuncData} {f_next : Addr} {fd_next : FuncData} (Df : R.Df K mg "_law_rows" oW ["_law_feed_here", "_law_xs", "_law_ys"] f fd)
  (D_next : R.Df K mg "_law_next" j9 ["_law_feed_here", "_law_many"] f_next fd_next) (G_next : FnOk P w K mg base CX0 1 f_next fd_next ["_law_feed_here", "_law_many"] (spZ K cNext)) (T : Bt mg) : FnOk P w K mg base CX0 2 f fd ["_law_feed_here", "_law_xs", "_law_ys"] (spZ K cRows10) := by
 refine bB Df nC (fun ds M k h => ?_) (fun cdv A outer s H E hr ds M k h => ?_)
 ·obtain ⟨p, b, xs, ys, rfl, _⟩ := h; rfl
 obtain ⟨p, b, xs, ys, rfl, hF0, hb, ux, uy, l2x, l2y, hk⟩ := h
 have fx := ux.few
 have fy := uy.few
 refine aE (aO 3 nC.nd ?_)
 refine aM b6 ?_
 refine aC ?_
 refine aD G_next (hr.mono (by decide)) D_next.m D_next.F.kp D_next.b ?_
 refine aA ?_
 refine ge_v 0 rfl ?_
 refine aA ?_
 refine aC ?_
 refine aB ?_
 refine ⟨p, _, _, rfl, by decide, by decide, hF0, by omega, fun z1 M1 z10 z11 hF1 hB1 hE1 => ?_⟩
 refine o2_0 ?_
 have hB01 := hB1
 refine aE (aO 4 nC.nd (m7 ?_))
 refine aB ⟨(show 0 ≤ sizeLine by decide), fun a ha => ?_⟩
 have hap : a ≠ p := hF1.ne ha
 have haM : M a = none := hB01.none_of ha hap
 have lx : (cutD (xs.map D.int) (some 1) none).length = xs.length - 1 := by rw [rT, List.length_map]
 have ly : (cutD (ys.map D.int) (some 1) none).length = ys.length - 1 := by rw [rT, List.length_map]
 refine aE (lR (bR ?_))
 refine cK dU ?_
 refine ge_v 2 rfl ?_
 refine c7 ?_
 refine aC ?_
 refine ⟨_, rfl, ?_⟩
 refine c9 ?_
 refine fD (.lst _) ?_
 refine ⟨_, .inr (.inl rfl), ?_⟩
 refine ⟨fun i Γ' M' => ∃ (zs : List Str) (v5 : Option D), Γ' = [some (.mt p), some (.lst (xs.map .int)), some (.lst (ys.map .int)), some (.int (1 + z1)), some (.mt a), v5] ∧ M' a = some (.lst (zs.map .str)) ∧ FdM M' p (b + 1 + 12 * i) ∧ ButM p M M' ∧ zs.length = i ∧ R.Good (xs.length - 1) zs, ⟨[], _, rfl, bK, (hF1.new hap).mono (by omega), hB01.new haM, rfl, fun z hz => (nomatch hz)⟩, ?_, ?_⟩
 ·rintro i d Γ' M' hd ⟨zs, v5, rfl, hM, hF, hB, hl, hgd⟩
  have hi : i < ys.length - 1 := by rw [← ly]; exact (List.getElem?_eq_some_iff.mp hd).1
  refine c8 5 nC.nd ?_
  refine aI (p7 ?_)
  refine i0 PySem.F.plainAttrs_list PySem.F.slot_list_append PySem.F.type_list_append iN ?_
  refine ge_v 4 rfl ?_
  refine ⟨⟨rfl, _, hM⟩, aA ?_⟩
  refine i0 PySem.F.plainAttrs_str PySem.F.slot_str_join PySem.F.type_str_join jE (cB ⟨rfl, aA (aX ["_law_feed_here", "_law_share"] [0, 3] (bR ?_))⟩)
  refine cK dU ?_
  refine ge_v 1 rfl ?_
  refine c7 ?_
  refine aC ?_
  refine ⟨_, rfl, ?_⟩
  refine c9 ?_
  refine fD (.lst _) ?_
  refine ⟨_, .inr (.inl rfl), ?_⟩
  refine bT (by rw [lx]; exact R.aU (by omega)) (fun i2 acc M2 => ∃ cs : List Nat, acc = (cs.map fun c => (⟨#[c]⟩ : Str)).map D.str ∧ (∀ c ∈ cs, c = 35 ∨ c = 46) ∧ cs.length = i2 ∧ FdM M2 p (b + 1 + 12 * i + i2) ∧ ButM p M M2 ∧ M2 a = some (.lst (zs.map .str)))
   ⟨[], rfl, fun c hc => (nomatch hc), rfl, hF.mono (by omega), hB, hM⟩ ?_ ?_
  ·rintro i2 d2 acc M2 hd2 ⟨cs, rfl, hcs, hl2, hF2, hB2, hM2⟩ cs' C s₀ H₀ fp
   have hi2 : i2 < xs.length - 1 := by rw [← lx]; exact (List.getElem?_eq_some_iff.mp hd2).1
   refine aZ (iteT fun cs' C s₀ H₀ fp => ?_)
   refine aJ aG ?_
   refine cB ?_
   refine bD call_int1 T.int R.BI ?_
   refine aA ?_
   refine dZ op_ge ?_
   refine aD G_next (hr.mono (by decide)) D_next.m D_next.F.kp D_next.b ?_
   refine aA ?_
   refine ge_v 1 rfl ?_
   refine aA ?_
   refine aC ?_
   refine aB ?_
   refine ⟨p, _, _, rfl, by decide, by decide, hF2, by omega, fun z3 M3 z30 z31 hF3 hB3 hE3 => ?_⟩
   refine ge_v 2 rfl ?_
   refine o2_B ?_
   refine aB ?_
   refine on_intB ?_
   refine lS (by decide +kernel) (hash_dot _) ?_
   refine ⟨cs ++ [_], by rw [List.map_append, List.map_append]; rfl, fun q hq => ?_, by rw [List.length_append, hl2]; rfl, hF3.mono (by omega), hB2.trans hB3, (hE3 a hap).trans hM2⟩
   rcases List.mem_append.mp hq with hq | hq
   ·exact hcs q hq
   ·rw [List.mem_singleton] at hq
    rw [hq]
    split
    ·exact .inr rfl
    ·exact .inl rfl
  ·rintro acc M2 ⟨cs, rfl, hcs, hl2, hF2, hB2, hM2⟩
   rw [lx] at hl2 hF2
   refine aB (i6 (.lst _) (by decide +kernel) (by rw [p4, List.length_map]; omega) ?_)
   rw [R.fB, R.i8]
   refine aB (mK hM2 (by rw [List.length_map, hl]; exact Nat.lt_of_le_of_lt (show i ≤ 20 by omega) (by decide)) ?_)
   exact ⟨zs ++ [R.ofL cs], _, rfl, by rw [bK, List.map_append]; rfl, (hF2.new hap).mono (by omega), hB2.new haM, by rw [List.length_append, hl]; rfl, good_snoc hgd hl2 hcs⟩
 ·rintro Γ' M' ⟨zs, v5, rfl, hM, hF, hB, hl, hgd⟩
  rw [ly] at hl hF
  refine iK 4 rfl hM ?_
  have hF7 := hF.del hap
  have hB7 := hB.del haM
  refine aI (aQ ?_)
  refine ge_v 4 rfl ?_
  exact hk zs _ hgd hl (hF7.mono (by omega)) hB7
end
end Q
namespace Q
open PySem L2 Z
open U
section
variable {P : Program} {w : World} {K : PySem.W.Frag} {mg : Str → Option Value} {base : Heap}
theorem j6 : FnScope ["_law_top", "_law_bottom", "_law_one", "_law_other"] ["_law_top", "_law_bottom"] (aH kX) := ⟨rfl, rfl, rfl, by decide +kernel, rfl, by decide +kernel, by decide +kernel⟩
theorem ok_number {f : Addr} {fd : FuncData} (Df : R.Df K mg "_law_number" kX ["_law_top", "_law_bottom"] f fd) (T : Bt mg) : FnOk P w K mg base CX0 1 f fd ["_law_top", "_law_bottom"] (spZ K cLow6) := by
 refine bB Df j6 (fun ds M k h => ?_) (fun cdv A outer s H E hr ds M k h => ?_)
 ·obtain ⟨t, b, rfl, _⟩ := h; rfl
 obtain ⟨t, b, rfl, hb, hb2, hk⟩ := h
 have hg : Int.gcd t b ≠ 0 := fun e => by have := (Int.gcd_eq_zero_iff.mp e).2; omega
 have hgl : Int.gcd t b ≤ b.natAbs := Nat.le_of_dvd (by omega) (Int.gcd_dvd_natAbs_right t b)
 have hd : ((Int.gcd t b : Nat) : Int) ≠ 0 ∧ ((Int.gcd t b : Nat) : Int).natAbs < big := ⟨by omega, Nat.lt_of_lt_of_le (show _ < 10 ^ 60 by omega) (by unfold big; decide)⟩
 refine aE (aO 2 j6.nd ?_)
 refine aT oF T.abs PyProof.Rows.boot_abs ?_
 refine aA ?_
 refine ge_v 0 rfl ?_
 refine aB ?_
 refine on_abs ?_
 refine aE (aO 3 j6.nd ?_)
 refine ge_v 1 rfl ?_
 refine aE (n9 (fun m Γ' M' => M' = M ∧ ∃ x y : Int, Γ' = [some (.int t), some (.int b), some (.int x), some (.int y)] ∧ 0 ≤ x ∧ 0 ≤ y ∧ Int.gcd x y = Int.gcd t b ∧ m = y.natAbs) (n := b.natAbs) ⟨rfl, _, b, rfl, by split <;> omega, by omega, by split <;> simp [Int.gcd_neg, Int.neg_gcd], rfl⟩ ?_)
 rintro m Γ' M' ⟨rfl, x, y, rfl, hx, hy, hgx, rfl⟩
 refine aV op_gt ?_
 refine ge_v 3 rfl ?_
 refine aC ?_
 refine o2_B ?_
 refine ⟨_, rfl, ?_⟩
 refine ite2 (fun hb1 => ?_) (fun hb1 => ?_)
 ·have hy0 := of_decide_eq_true hb1
  refine aI (g1_par 2 3 j6.nd (by decide) ?_)
  refine aA ?_
  refine ge_v 3 rfl ?_
  refine aA (aM op_modN ?_)
  refine ge_v 2 rfl ?_
  refine ge_v 3 rfl ?_
  refine o2_C (show y ≠ 0 by omega) (aB ?_)
  refine ⟨_, _, rfl, _, Num.fmod_lt x y (by omega), rfl, _, _, rfl, by omega, ?_, ?_, rfl⟩
  ·rw [Int.fmod_eq_emod_of_nonneg _ (by omega)]; exact Int.emod_nonneg _ (by omega)
  ·rw [Num.rX]; exact hgx
 ·have hy0 : y = 0 := by
   have : ¬ 0 < y := fun z => hb1 (decide_eq_true z)
   omega
  subst hy0
  rw [Int.gcd_zero_right] at hgx
  have ex : x = ((Int.gcd t b : Nat) : Int) := by omega
  rw [ex]
  refine aI (aQ (cG (aA (aM lH ?_))))
  refine ge_v 0 rfl ?_
  refine ge_v 2 rfl ?_
  refine o2_C hd (aA (aM lH ?_))
  refine ge_v 1 rfl ?_
  refine ge_v 2 rfl ?_
  refine o2_C hd (aB ⟨(show 2 ≤ sizeLine by decide), ?_⟩)
  exact hk
end
end Q
namespace Q
open PySem L2 Z
open U
section
variable {P : Program} {w : World} {K : PySem.W.Frag} {mg : Str → Option Value} {base : Heap}
theorem eY : FnScope ["_law_script", "_law_turn", "_law_feed_here", "_law_xs", "_law_ys", "_law_one", "_law_other", "_law_paces", "_law_ways", "_law_parts"] ["_law_script"] (aH mV) := ⟨rfl, rfl, rfl, by decide +kernel, rfl, by decide +kernel, by decide +kernel⟩
theorem ok_law {f : Addr} {fd : FuncData} {f_feed f_lines f_rows f_made f_next f_number f_round f_summed f_stretches f_together : Addr} {fd_feed fd_lines fd_rows fd_made fd_next fd_number fd_round fd_summed fd_stretches fd_together : FuncData} (Df : R.Df K mg "law" mV ["_law_script"] f fd)
  (D_feed : R.Df K mg "_law_feed" pI ["_law_script", "_law_k"] f_feed fd_feed) (G_feed : FnOk P w K mg base CX0 1 f_feed fd_feed ["_law_script", "_law_k"] (spZ K cFeed))
  (D_lines : R.Df K mg "_law_lines" nA ["_law_feed_here"] f_lines fd_lines) (G_lines : FnOk P w K mg base CX0 2 f_lines fd_lines ["_law_feed_here"] (spZ K tG))
  (D_rows : R.Df K mg "_law_rows" oW ["_law_feed_here", "_law_xs", "_law_ys"] f_rows fd_rows) (G_rows : FnOk P w K mg base CX0 2 f_rows fd_rows ["_law_feed_here", "_law_xs", "_law_ys"] (spZ K cRows10))
  (D_made : R.Df K mg "made" o4 ["xs", "ys", "rows"] f_made fd_made) (G_made : FnOk P w K mg base CX0 5 f_made fd_made ["xs", "ys", "rows"] (spZ K cMade))
  (D_next : R.Df K mg "_law_next" j9 ["_law_feed_here", "_law_many"] f_next fd_next) (G_next : FnOk P w K mg base CX0 1 f_next fd_next ["_law_feed_here", "_law_many"] (spZ K cNext))
  (D_number : R.Df K mg "_law_number" kX ["_law_top", "_law_bottom"] f_number fd_number) (G_number : FnOk P w K mg base CX0 1 f_number fd_number ["_law_top", "_law_bottom"] (spZ K cLow6))
  (D_round : R.Df K mg "_law_round" mQ ["_law_yard", "_law_paces"] f_round fd_round) (G_round : FnOk P w K mg base CX0 7 f_round fd_round ["_law_yard", "_law_paces"] (spZ K cRound))
  (D_summed : R.Df K mg "_law_summed" lE ["_law_yard", "_law_some"] f_summed fd_summed) (G_summed : FnOk P w K mg base CX0 6 f_summed fd_summed ["_law_yard", "_law_some"] (spZ K cSummed))
  (D_stretches : R.Df K mg "_law_stretches" iE ["_law_yard", "_law_some"] f_stretches fd_stretches) (G_stretches : FnOk P w K mg base CX0 6 f_stretches fd_stretches ["_law_yard", "_law_some"] (spZ K pH))
  (D_together : R.Df K mg "_law_together" iY ["_law_one", "_law_other", "_law_some"] f_together fd_together) (G_together : FnOk P w K mg base CX0 8 f_together fd_together ["_law_one", "_law_other", "_law_some"] (spZ K qT)) (T : Bt mg) : FnOk P w K mg base CX0 9 f fd ["_law_script"] (spZ K cLaw) := by
 refine bB Df eY (fun ds M k h => ?_) (fun cdv A outer s H E hr ds M k h => ?_)
 ·obtain ⟨ns, rfl, _⟩ := h; rfl
 obtain ⟨ns, rfl, hns, hk⟩ := h
 refine aE (lR (eZ T.range ?_))
 refine aA ?_
 refine aM b6 ?_
 refine aC ?_
 refine aT (call_min2 rfl) T.min BMin ?_
 refine aA ?_
 refine aC ?_
 refine aA ?_
 refine aT bM T.len PySem.boot_len ?_
 refine aA ?_
 refine ge_v 0 rfl ?_
 refine aB ?_
 refine cR (.fl _) ?_
 refine aB ?_
 refine on_min ?_
 refine o2_0 ?_
 refine aB ?_
 refine ⟨_, rfl, by split <;> omega, by split <;> omega, ?_⟩
 refine ⟨fun i Γ' M' => ∃ v1 v2 v3 v4 v5 v6 v7 v8 v9, Γ' = [some (.fl (ns.map .int)), v1, v2, v3, v4, v5, v6, v7, v8, v9], ⟨_, _, _, _, _, _, _, _, _, rfl⟩, ?_, ?_⟩
 rotate_left
 ·rintro Γ' M1 ⟨v1, v2, v3, v4, v5, v6, v7, v8, v9, rfl⟩
  refine aI (aQ ?_)
  refine jV ?_
  exact hk _
 rintro i d Γ' M0 hd ⟨v1, v2, v3, v4, v5, v6, v7, v8, v9, rfl⟩
 obtain ⟨hi, rfl⟩ := cW hd
 have hi9 : i < 9 := by
  refine Nat.lt_of_lt_of_le hi ?_
  split <;> omega
 refine c8 1 eY.nd ?_
 refine aE (aO 2 eY.nd ?_)
 refine aD G_feed (hr.mono (by decide)) D_feed.m D_feed.F.kp D_feed.b ?_
 refine aA ?_
 refine ge_v 0 rfl ?_
 refine aA ?_
 refine ge_v 1 rfl ?_
 refine aB ?_
 refine ⟨ns, _, rfl, by omega, by omega, fun p M hp hL2 hF0 => ?_⟩
 refine aE (aO 3 eY.nd ?_)
 refine aD G_lines (hr.mono (by decide)) D_lines.m D_lines.F.kp D_lines.b ?_
 refine aA ?_
 refine ge_v 2 rfl ?_
 refine aB ?_
 refine ⟨p, _, rfl, hF0, by omega, fun xs M1 ux l2x hF1 hB1 => ?_⟩
 refine aE (aO 4 eY.nd ?_)
 refine aD G_lines (hr.mono (by decide)) D_lines.m D_lines.F.kp D_lines.b ?_
 refine aA ?_
 refine ge_v 2 rfl ?_
 refine aB ?_
 refine ⟨p, _, rfl, hF1, by omega, fun ys M2 uy l2y hF2 hB2 => ?_⟩
 refine aE (aO 5 eY.nd ?_)
 refine aD G_made (hr.mono (by decide)) D_made.m D_made.F.kp D_made.b ?_
 refine aA ?_
 refine bD cS T.list R.BL ?_
 refine aA ?_
 refine ge_v 3 rfl ?_
 refine aB ?_
 refine gD (.lst _) ?_
 refine aA ?_
 refine bD cS T.list R.BL ?_
 refine aA ?_
 refine ge_v 4 rfl ?_
 refine aB ?_
 refine gD (.lst _) ?_
 refine aA ?_
 refine aD G_rows (hr.mono (by decide)) D_rows.m D_rows.F.kp D_rows.b ?_
 refine aA ?_
 refine ge_v 2 rfl ?_
 refine aA ?_
 refine ge_v 3 rfl ?_
 refine aA ?_
 refine ge_v 4 rfl ?_
 refine aB ?_
 refine ⟨p, _, xs, ys, rfl, hF2, by omega, ux, uy, l2x, l2y, fun zs M3 gz hz hF3 hB3 => ?_⟩
 refine aB ?_
 refine ⟨xs, ys, zs, rfl, ux, uy, gz, hz, ?_⟩
 rw [rO ux.up uy.up gz hz]
 obtain ⟨yA, la, ka⟩ := y10_d ux uy gz hz
 generalize eJ xs ys zs ux.up uy.up gz hz = A at *
 have hB123 := (hB1.trans hB2).trans hB3
 refine aE (jG (fun Γ' N => ∃ xs : List Int, Γ' = [some (.fl (ns.map .int)), some (.int (0 + (i : Int))), some (.mt p), some (.lst (xs.map .int)), some (.lst (ys.map .int)), some (yd A), v6, v7, v8, v9] ∧ Up7 xs ∧ 2 ≤ xs.length ∧ FdM N p (0 + 20 + 20 + 150 + 1 + 20) ∧ ButM p M N) ?_ ?_)
 ·refine bF ?_
  refine aV dS ?_
  refine aD G_next (hr.mono (by decide)) D_next.m D_next.F.kp D_next.b ?_
  refine aA ?_
  refine ge_v 2 rfl ?_
  refine aA ?_
  refine aC ?_
  refine aB ?_
  refine ⟨p, _, _, rfl, by decide, by decide, hF3, by omega, fun z4 M4 z40 z41 hF4 hB4 hE4 => ?_⟩
  refine aC ?_
  refine dJ ?_
  refine ⟨_, rfl, ?_⟩
  refine ite2 (fun h0 => ?_) (fun h0 => bC ⟨xs, rfl, ux, l2x, hF4.mono (by omega), hB123.trans hB4⟩)
  refine aI (aO 3 eY.nd ?_)
  refine aD G_lines (hr.mono (by decide)) D_lines.m D_lines.F.kp D_lines.b ?_
  refine aA ?_
  refine ge_v 2 rfl ?_
  refine aB ?_
  refine ⟨p, _, rfl, hF4, by omega, fun xs2 M5 ux2 l2x2 hF5 hB5 => ?_⟩
  exact ⟨xs2, rfl, ux2, l2x2, hF5.mono (by omega), (hB123.trans hB4).trans hB5⟩
 rintro Γ' M5 ⟨xs5, rfl, ux5, l2x5, hF5, hB5⟩
 refine aE (aO 6 eY.nd ?_)
 refine aD G_made (hr.mono (by decide)) D_made.m D_made.F.kp D_made.b ?_
 refine aA ?_
 refine bD cS T.list R.BL ?_
 refine aA ?_
 refine ge_v 3 rfl ?_
 refine aB ?_
 refine gD (.lst _) ?_
 refine aA ?_
 refine bD cS T.list R.BL ?_
 refine aA ?_
 refine ge_v 4 rfl ?_
 refine aB ?_
 refine gD (.lst _) ?_
 refine aA ?_
 refine aD G_rows (hr.mono (by decide)) D_rows.m D_rows.F.kp D_rows.b ?_
 refine aA ?_
 refine ge_v 2 rfl ?_
 refine aA ?_
 refine ge_v 3 rfl ?_
 refine aA ?_
 refine ge_v 4 rfl ?_
 refine aB ?_
 refine ⟨p, _, xs5, ys, rfl, hF5, by omega, ux5, uy, l2x5, l2y, fun zs6 M6 gz6 hz6 hF6 hB6 => ?_⟩
 refine aB ?_
 refine ⟨xs5, ys, zs6, rfl, ux5, uy, gz6, hz6, ?_⟩
 rw [rO ux5.up uy.up gz6 hz6]
 obtain ⟨yB, lb, kb⟩ := y10_d ux5 uy gz6 hz6
 generalize eJ xs5 ys zs6 ux5.up uy.up gz6 hz6 = B at *
 have hB56 := hB5.trans hB6
 refine aE (aO 7 eY.nd ?_)
 refine bD bL T.tuple R.BT (aA (aX ["_law_feed_here"] [2] (eZ T.range ?_)))
 refine aA ?_
 refine aC ?_
 refine aB ?_
 refine ⟨_, rfl, by decide, by decide, ?_⟩
 refine bT (ds := rngD 0 4) (by rw [bQ]; exact R.aU (by decide)) (fun j acc N' => ∃ ps : List Int, acc = ps.map .int ∧ ps.length = j ∧ FdM N' p (400 + j) ∧ ButM p M N') ⟨[], rfl, rfl, hF6.mono (by omega), hB56⟩ ?_ ?_
 ·rintro j d acc N' hd ⟨ps, rfl, hpl, hFj, hBj⟩ cs C s₀ H₀ fp
  obtain ⟨hj, rfl⟩ := cW hd
  refine aZ (iteT fun cs C s₀ H₀ fp => ?_)
  refine aM b6 ?_
  refine aC ?_
  refine aD G_next (hr.mono (by decide)) D_next.m D_next.F.kp D_next.b ?_
  refine aA ?_
  refine ge_v 1 rfl ?_
  refine aA ?_
  refine aC ?_
  refine aB ?_
  refine ⟨p, _, _, rfl, by decide, by decide, hFj, by omega, fun z1 N1 z10 z11 hF1 hB1 hE1 => ?_⟩
  refine o2_0 ?_
  exact ⟨ps ++ [_], by rw [List.map_append]; rfl, by rw [List.length_append, hpl]; rfl, hF1.mono (by omega), hBj.trans hB1⟩
 rintro acc N7 ⟨ps7, rfl, hpl7, hF7, hB7⟩
 rw [bQ] at hpl7 hF7
 obtain ⟨pa, pb, pcc, pd, rfl⟩ := pN hpl7
 refine aB (cI (.lst _) ?_)
 refine aE (gJ 8 ["_law_feed_here"] [2] eY.nd (eZ T.range ?_))
 refine aA ?_
 refine aC ?_
 refine aB ?_
 refine ⟨_, rfl, by decide, by decide, ?_⟩
 refine compM (ds := rngD 0 4) (by rw [bQ]; exact R.aU (by decide)) (fun j acc N' => ∃ ps : List Rat, acc = aP ps ∧ ps.length = j ∧ (∀ r ∈ ps, Fr 2520 1000000 r) ∧ FdM N' p (500 + 2 * j) ∧ ButM p M N') ⟨[], rfl, rfl, (fun r h => nomatch h), hF7.mono (by omega), hB7⟩ ?_ ?_
 ·rintro j d acc N' hd ⟨ps, rfl, hpl, hps, hFj, hBj⟩ cs C s₀ H₀ fp
  obtain ⟨hj, rfl⟩ := cW hd
  refine aZ (iteT fun cs C s₀ H₀ fp => ?_)
  refine aD G_number (hr.mono (by decide)) D_number.m D_number.F.kp D_number.b ?_
  refine aA ?_
  refine aM dY ?_
  refine aD G_next (hr.mono (by decide)) D_next.m D_next.F.kp D_next.b ?_
  refine aA ?_
  refine ge_v 1 rfl ?_
  refine aA ?_
  refine aC ?_
  refine aB ?_
  refine ⟨p, _, _, rfl, by decide, by decide, hFj, by omega, fun z1 N1 z10 z11 hF1 hB1 hE1 => ?_⟩
  refine aC ?_
  refine o2_0 ?_
  refine aA ?_
  refine aM b6 ?_
  refine aC ?_
  refine aD G_next (hr.mono (by decide)) D_next.m D_next.F.kp D_next.b ?_
  refine aA ?_
  refine ge_v 1 rfl ?_
  refine aA ?_
  refine aC ?_
  refine aB ?_
  refine ⟨p, _, _, rfl, by decide, by decide, hF1, by omega, fun z2 N2 z20 z21 hF2 hB2 hE2 => ?_⟩
  refine o2_0 ?_
  refine aB ?_
  refine ⟨_, _, rfl, by omega, Int.lt_of_lt_of_le (show _ < (20 : Int) by omega) (by decide), ?_⟩
  rw [rP (by omega)]
  refine ⟨ps ++ [_], by rw [← cC]; rfl, by rw [List.length_append, hpl]; rfl, fun r hr => ?_, hF2.mono (by omega), (hBj.trans hB1).trans hB2⟩
  rcases List.mem_append.mp hr with hr | hr
  ·exact hps r hr
  ·rw [List.mem_singleton] at hr
   subst hr
   exact fr_div (by omega) (by omega) (by omega)
 rintro acc N8 ⟨ps8, rfl, hpl8, hps8, hF8, hB8⟩ a8 ha8
 rw [bQ] at hpl8 hF8
 refine iK 8 rfl bK ?_
 rw [iA ha8]
 obtain ⟨e1, e2, e3, e4, rfl⟩ := pN hpl8
 refine aE (gJ 9 ["_law_feed_here"] [2] eY.nd (eZ T.range ?_))
 refine aA ?_
 refine aC ?_
 refine aB ?_
 refine ⟨_, rfl, by decide, by decide, ?_⟩
 refine compM (ds := rngD 0 4) (by rw [bQ]; exact R.aU (by decide)) (fun j acc N' => ∃ ps : List Rat, acc = aP ps ∧ ps.length = j ∧ (∀ r ∈ ps, Ps r) ∧ FdM N' p (600 + 2 * j) ∧ ButM p M N') ⟨[], rfl, rfl, (fun r h => nomatch h), hF8.mono (by omega), hB8⟩ ?_ ?_
 ·rintro j d acc N' hd ⟨ps, rfl, hpl, hps, hFj, hBj⟩ cs C s₀ H₀ fp
  obtain ⟨hj, rfl⟩ := cW hd
  refine aZ (iteT fun cs C s₀ H₀ fp => ?_)
  refine aD G_number (hr.mono (by decide)) D_number.m D_number.F.kp D_number.b ?_
  refine aA ?_
  refine aM b6 ?_
  refine aC ?_
  refine aD G_next (hr.mono (by decide)) D_next.m D_next.F.kp D_next.b ?_
  refine aA ?_
  refine ge_v 1 rfl ?_
  refine aA ?_
  refine aC ?_
  refine aB ?_
  refine ⟨p, _, _, rfl, by decide, by decide, hFj, by omega, fun z1 N1 z10 z11 hF1 hB1 hE1 => ?_⟩
  refine o2_0 ?_
  refine aA ?_
  refine aM b6 ?_
  refine aC ?_
  refine aD G_next (hr.mono (by decide)) D_next.m D_next.F.kp D_next.b ?_
  refine aA ?_
  refine ge_v 1 rfl ?_
  refine aA ?_
  refine aC ?_
  refine aB ?_
  refine ⟨p, _, _, rfl, by decide, by decide, hF1, by omega, fun z2 N2 z20 z21 hF2 hB2 hE2 => ?_⟩
  refine o2_0 ?_
  refine aB ?_
  refine ⟨_, _, rfl, by omega, Int.lt_of_lt_of_le (show _ < (20 : Int) by omega) (by decide), ?_⟩
  rw [rP (by omega)]
  refine ⟨ps ++ [_], by rw [← cC]; rfl, by rw [List.length_append, hpl]; rfl, fun r hr => ?_, hF2.mono (by omega), (hBj.trans hB1).trans hB2⟩
  rcases List.mem_append.mp hr with hr | hr
  ·exact hps r hr
  ·rw [List.mem_singleton] at hr
   subst hr
   exact ps_div (by omega) (by omega) (by omega) (by omega)
 rintro acc N9 ⟨ps9, rfl, hpl9, hps9, hF9, hB9⟩ a9 ha9
 rw [bQ] at hpl9 hF9
 refine iK 9 rfl bK ?_
 rw [iA ha9]
 obtain ⟨g1, g2, g3, g4, rfl⟩ := pN hpl9
 have w1 := hps8 e1 (by simp)
 have w2 := hps8 e2 (by simp)
 have w3 := hps8 e3 (by simp)
 have w4 := hps8 e4 (by simp)
 have t1 := hps9 g1 (by simp)
 have t2 := hps9 g2 (by simp)
 have t3 := hps9 g3 (by simp)
 have t4 := hps9 g4 (by simp)
 refine aE (bF (gt_w (fZ ?_)))
 refine cY ?_
 refine cQ ?_
 refine aD G_round (hr.mono (by decide)) D_round.m D_round.F.kp D_round.b ?_
 refine aA ?_
 refine ge_v 5 rfl ?_
 refine aA ?_
 refine ge_v 7 rfl ?_
 refine aB ?_
 refine ⟨A, pa, pb, pcc, pd, rfl, yA, ?_⟩
 refine ⟨_, rfl, ?_⟩
 refine iteF (iP ?_)
 refine cY ?_
 refine cQ ?_
 refine aD G_summed (hr.mono (by decide)) D_summed.m D_summed.F.kp D_summed.b ?_
 refine aA ?_
 refine ge_v 5 rfl ?_
 refine aA ?_
 refine ge_v 8 rfl ?_
 refine aB ?_
 refine ⟨A, e1, e2, e3, e4, rfl, yA, w1, w2, w3, w4, ?_⟩
 refine ⟨_, rfl, ?_⟩
 refine iteF (bC ?_)
 refine aE (bF ?_)
 refine cY ?_
 refine cQ ?_
 refine aD G_stretches (hr.mono (by decide)) D_stretches.m D_stretches.F.kp D_stretches.b ?_
 refine aA ?_
 refine ge_v 5 rfl ?_
 refine aA ?_
 refine ge_v 9 rfl ?_
 refine aB ?_
 refine ⟨A, g1, g2, g3, g4, rfl, yA, t1, t2, t3, t4, ?_⟩
 refine ⟨_, rfl, ?_⟩
 refine iteF (bC ?_)
 refine aI (bF ?_)
 refine cY ?_
 refine cQ ?_
 refine aD G_together (hr.mono (by decide)) D_together.m D_together.F.kp D_together.b ?_
 refine aA ?_
 refine ge_v 5 rfl ?_
 refine aA ?_
 refine ge_v 6 rfl ?_
 refine aA ?_
 refine aM jN ?_
 refine cK dU ?_
 refine ge_v 8 rfl ?_
 refine c9 ?_
 refine c7 ?_
 refine aC ?_
 refine ⟨_, rfl, ?_⟩
 refine fD (.lst _) ?_
 refine cK dU ?_
 refine ge_v 9 rfl ?_
 refine c9 ?_
 refine c7 ?_
 refine aC ?_
 refine ⟨_, rfl, ?_⟩
 refine fD (.lst _) ?_
 refine jL (.lst _) (.lst _) (R.aU (show 2 + 2 ≤ 1000000 by decide)) ?_
 refine aB ?_
 refine ⟨A, B, e1, e2, g1, g2, rfl, yA, yB, la, ka, lb, kb, ⟨w1, w2, t1.fr, t2.fr, t1.p, t2.p⟩, ?_⟩
 refine ⟨_, rfl, ?_⟩
 exact iteF (bC ⟨_, _, _, _, _, _, _, _, _, rfl⟩)
end
end Q
namespace HB
open PySem PySem.W
abbrev S (x : String) (k : Nat) : Value := .str (Str.ofString x) k
abbrev R (a : Nat) : Value := .ref a
abbrev I (a : Int) : Value := .int a 0
abbrev J (a : Int) (k : Nat) : Value := .int a k
abbrev E (P : Params) (x : String) (k : Nat) (v : Value) : DictEntry := ⟨PyData.keyHash P (Str.ofString x), .str (Str.ofString x) k, v⟩
abbrev tO (l : List Value) : Obj := ⟨.type "tuple", none, .seq l.toArray 0, #[]⟩
abbrev vO (l : List Value) : Obj := ⟨.none, none, .fields l.toArray, #[]⟩
abbrev dO (l : List DictEntry) (n : Nat) : Obj := ⟨.type "dict", none, .dict l.toArray n, #[]⟩
abbrev fO (n : String) (s : Stmt) (pm : Value) (cd : Nat) : Obj := ⟨.type "function", none, .func { name := Str.ofString n, qualname := Str.ofString n, params := L2.fQ s, body := .stmts (L2.dW s), scope := L2.aH s, globals := 3, closure := [], defaults := .none, kwdefaults := .none, doc := .none, pyModule := pm, annotations := none, code := .ref cd, closureTuple := .none, builtins := 0 }, #[]⟩
abbrev pO (n : String) (s : Stmt) : Obj := ⟨.none, none, .func { name := Str.ofString n, qualname := Str.ofString n, params := L2.fQ s, body := .stmts (L2.dW s), scope := L2.aH s, globals := 0, closure := [], defaults := .none, kwdefaults := .none, doc := .none, pyModule := .none, annotations := none, code := .none, closureTuple := .none, builtins := 0 }, #[]⟩
abbrev cO (n f : String) (t1 t2 t3 l1 c1 c2 c3 c4 a1 a2 a3 a4 a5 t4 l2 t5 : Nat) (b : Bool) (k : Nat) : Obj := ⟨.type "code", none, .fields #[S n t1, S n t2, S f t3, I l1, I c1, I c2, I c3, I c4, R a1, .bool b, I k, R a2, .none, R a3, R a4, R a5, I t4, I l2, S f t5], #[]⟩
def fl : String := "/claim/cut.py"
def vs : Nat → List String → List Value
 | _, [] => []
 | k, x :: xs => .str (Str.ofString x) k :: vs (k + 1) xs
def D7 (s : Stmt) (n : String) (b t l c : Nat) (ns : List String) (pm : Value) : List Obj :=
 [tO [], vO [], tO (vs (t + 3) ns), tO [], pO n s, cO n "/claim/cut.py" t (t + 1) (t + 2) l c 0 0 3 b (b + 1) (b + 2) (b + 3) (b + 4) (t + 3 + ns.length) l (t + 4 + ns.length) true 181, fO n s pm (b + 5)]
def ov {a : Type} : List (Nat × a) → List a → List a
 | [], l => l
 | (i, x) :: r, l => ov r (l.set i x)
def ev {a : Type} : Nat → List a → List a
 | 0, _ => []
 | _ + 1, [] => []
 | _ + 1, [x] => [x]
 | n + 1, x :: _ :: r => x :: ev n r
def bt : Nat → List Obj → BT
 | 0, _ => .nil
 | _ + 1, [] => .nil
 | n + 1, x :: r => .node x (bt n (ev (2 ^ n) r)) (bt n (ev (2 ^ n) r.tail))
abbrev sh (h : Heap) (k : Nat) (os : OsState) : Shared := ⟨h, Array.mk [], {}, k, os⟩
abbrev sT (t : BT) (n k : Nat) (os : OsState) : SharedT := ⟨t, n, {}, Array.mk [], {}, k, os⟩
abbrev ps (a b c d : Nat) : Pos := ⟨a, b, c, d⟩
abbrev z : Pos := ⟨0, 0, 0, 0⟩
abbrev B : List Frame := [topFrame z]
theorem eRun : segRunT treeTable = PySem.W.Fast.tw10110043849684766642 PySem.W.Fast.tw14364793385576792824 := by rw [PySem.W.Fast.te10110043849684766642, PySem.W.Fast.te14364793385576792824]
theorem eGo : topGo treeTable = PySem.W.Fast.tw15667345088766844465 PySem.W.Fast.tw14364793385576792824 := by rw [PySem.W.Fast.te15667345088766844465, PySem.W.Fast.te14364793385576792824]
theorem eSeg : segRun treeTable = PySem.W.Fast.tw14374325043358763698 PySem.W.Fast.tw14364793385576792824 := by rw [PySem.W.Fast.te14374325043358763698, PySem.W.Fast.te14364793385576792824]
theorem eTop : topRun treeTable = PySem.W.Fast.tw14082659384304107361 PySem.W.Fast.tw14364793385576792824 := by rw [PySem.W.Fast.te14082659384304107361, PySem.W.Fast.te14364793385576792824]
end HB
namespace HB
open PySem PySem.W L2
theorem mkD {K : PySem.W.Frag} {mg : Str → Option Value} {h : Heap} (X : K.In h) (G : h.Ns mainGlobals mg) (n : String) (st : Stmt) (ps : List Str) (f cd : Addr) (pm : Value)
  (a : nsIn K mainGlobals (Str.ofString n) = some (some (.ref f))) (l : K.lookup f = some (fO n st pm cd)) (c : codeIn K (.ref cd) (Str.ofString n) = true) (k : keepIn K (.ref f) = true)
  (b : ∀ (kV doc pm : Value) (an : Option Addr) (cdv ct : Value) (us : List Value), us.length = ps.length → bindArgs (PySem.W.fnOf (Str.ofString n) (Str.ofString n) (fQ st) (dW st) (aH st) .none kV doc pm an cdv ct) ⟨us, []⟩ = pure (ps.zip us)) :
  R.Df K mg (Str.ofString n) st ps f (PySem.W.fnOf (Str.ofString n) (Str.ofString n) (fQ st) (dW st) (aH st) .none .none .none pm none (.ref cd) .none) :=
 have F : Fun K (Str.ofString n) (Str.ofString n) st f _ := fun_mk l c k
 ⟨F, F.binds b, mg_of X G a⟩
def btNs : List Str := ["len", "abs", "int", "min", "max", "range", "list", "tuple", "repr", "all", "any", "enumerate", "isinstance", "bool", "str", "zip", "reversed", "sorted", "dict"]
theorem mkB {K : PySem.W.Frag} {mg : Str → Option Value} {h : Heap} (X : K.In h) (G : h.Ns mainGlobals mg) (e : (btNs.all fun n => nsIn K mainGlobals n == some none) = true) : Q.Bt mg :=
 have z : ∀ n ∈ btNs, mg n = none := fun n hn => mg_none_of X G (eq_of_beq (List.all_eq_true.mp e n hn))
 ⟨z _ (by simp [btNs]), z _ (by simp [btNs]), z _ (by simp [btNs]), z _ (by simp [btNs]), z _ (by simp [btNs]), z _ (by simp [btNs]), z _ (by simp [btNs]), z _ (by simp [btNs]), z _ (by simp [btNs]), z _ (by simp [btNs]), z _ (by simp [btNs]), z _ (by simp [btNs]), z _ (by simp [btNs]), z _ (by simp [btNs]), z _ (by simp [btNs]), z _ (by simp [btNs]), z _ (by simp [btNs]), z _ (by simp [btNs]), z _ (by simp [btNs])⟩
end HB
namespace HD
open PySem PySem.W HB Q
noncomputable section
def es3 (P : Params) : List DictEntry := [E P "__name__" 165 (S "law_roofridges_k10_whole_turns_go_round" 515), E P "__doc__" 166 .none, E P "__package__" 167 .none, E P "__loader__" 168 (.builtin "__main__.__loader__#opaque"), E P "__spec__" 169 .none, E P "__annotations__" 170 (R 6), E P "__builtins__" 171 (R 4), E P "__file__" 173 (S "/claim/cut.py" 172), E P "__cached__" 174 .none, E P "RoofError" 206 (R 24), E P "NoNumber" 222 (R 37), E P "NoYard" 238 (R 49), E P "NOUGHT" 243 (R 52), E P "is_whole" 250 (R 59), E P "common_divisor" 259 (R 66), E P "lowest" 268 (R 73), E P "fraction" 276 (R 80), E P "plus" 284 (R 87), E P "minus" 292 (R 94), E P "times" 300 (R 101), E P "over" 308 (R 108), E P "under" 316 (R 115), E P "merged" 328 (R 122), E P "MOST_LINES" 332 (J 7 331), E P "FARTHEST" 334 (J 1000000000 333), E P "is_row" 340 (R 127), E P "rows_fit" 346 (R 132), E P "column" 352 (R 137), E P "columns" 358 (R 142), E P "changes" 364 (R 147), E P "picked" 370 (R 152), E P "tidied" 376 (R 157), E P "is_whole_line" 383 (R 164), E P "are_whole_lines" 389 (R 169), E P "made" 395 (R 174), E P "bands_at" 401 (R 179), E P "has_cell" 411 (R 186), E P "opposite" 419 (R 191), E P "backward" 426 (R 198), E P "moved" 432 (R 203), E P "turned" 438 (R 208), E P "mirrored" 444 (R 213), E P "stretched" 450 (R 218), E P "turned_paces" 457 (R 225), E P "mirrored_paces" 464 (R 232), E P "finer_row" 472 (R 237), E P "finer_rows" 478 (R 242), E P "chosen_row" 484 (R 247), E P "chosen" 490 (R 252), E P "both" 498 (R 259), E P "either" 506 (R 266), E P "less" 514 (R 273), E P "_law_feed" 526 (R 280), E P "_law_next" 537 (R 287), E P "_law_lines" 547 (R 294), E P "_law_rows" 553 (R 299), E P "_law_number" 563 (R 306), E P "_law_round" 575 (R 313), E P "_law_summed" 589 (R 320), E P "_law_stretches" 602 (R 327), E P "_law_brought" 611 (R 334), E P "_law_together" 623 (R 341), E P "law" 629 (R 346)]
def es12 : List Value := [(I 2), (I 0), (R 20), (I 4), (I 0), (R 33), (I 6), (I 0), (R 45), (I 10), (I 0), (R 58), (I 12), (I 0), (R 65), (I 18), (I 0), (R 72), (I 23), (I 0), (R 79), (I 29), (I 0), (R 86), (I 31), (I 0), (R 93), (I 33), (I 0), (R 100), (I 35), (I 0), (R 107), (I 39), (I 0), (R 114), (I 41), (I 0), (R 121), (I 56), (I 0), (R 126), (I 60), (I 0), (R 131), (I 64), (I 0), (R 136), (I 66), (I 0), (R 141), (I 69), (I 0), (R 146), (I 75), (I 0), (R 151), (I 77), (I 0), (R 156), (I 82), (I 0), (R 163), (I 84), (I 0), (R 168), (I 90), (I 0), (R 173), (I 96), (I 0), (R 178), (I 101), (I 0), (R 185), (I 107), (I 0), (R 190), (I 109), (I 0), (R 197), (I 111), (I 0), (R 202), (I 113), (I 0), (R 207), (I 116), (I 0), (R 212), (I 118), (I 0), (R 217), (I 122), (I 0), (R 224), (I 124), (I 0), (R 231), (I 127), (I 0), (R 236), (I 129), (I 0), (R 241), (I 133), (I 0), (R 246), (I 135), (I 0), (R 251), (I 141), (I 0), (R 258), (I 143), (I 0), (R 265), (I 145), (I 0), (R 272), (I 148), (I 0), (R 279), (I 156), (I 0), (R 286), (I 167), (I 0), (R 293), (I 173), (I 0), (R 298), (I 179), (I 0), (R 305), (I 185), (I 0), (R 312), (I 199), (I 0), (R 319), (I 210), (I 0), (R 326), (I 216), (I 0), (R 333), (I 224), (I 0), (R 340), (I 235), (I 0), (R 345)]
def hl0 (P : Params) : List Obj := [boot_o_0 P] ++ [boot_o_1 P] ++ [boot_o_2 P] ++ [dO (es3 P) 63] ++ [boot_o_4 P] ++ [boot_o_5 P] ++ [boot_o_6 P] ++ [boot_o_7 P] ++ [boot_o_8 P] ++ [boot_o_9 P] ++ [boot_o_10 P] ++ [tO []]
def hl1 (P : Params) : List Obj := [vO es12] ++ [⟨.type "code", none, .fields #[(S "<module>" 182), (S "<module>" 183), (S "/claim/cut.py" 184), (I 1), (I 0), (I 0), (I 0), (I 0), (R 11), (.bool false), (I 181), (R 12), .none, .none, .none, .none, (I 185), (I 1), (S "/claim/cut.py" 186)], #[]⟩] ++ [⟨(.type "frame"), none, .plain, #[some (R 13), some (R 3), some (R 3), none, some (S "__main__" 164), none, some (R 0)]⟩] ++ [tO [(.type "ValueError")]] ++ [⟨(.type "builtin_function_or_method"), none, .fields #[(.builtin "type.__prepare__"), (.type "type")], #[]⟩] ++ [dO [E P "__module__" 196 (S "roofridges.errors" 187), E P "__qualname__" 198 (S "RoofError" 197), E P "__firstlineno__" 200 (J 2 199), E P "__static_attributes__" 201 (R 22)] 4] ++ [tO []] ++ [vO []] ++ [⟨.type "code", none, .fields #[(S "RoofError" 191), (S "RoofError" 192), (S "/claim/cut.py" 193), (I 2), (I 0), (I 0), (I 0), (I 0), (R 18), (.bool false), (I 181), (R 19), .none, .none, .none, .none, (I 194), (I 2), (S "/claim/cut.py" 195)], #[]⟩] ++ [⟨(.type "frame"), none, .plain, #[some (R 20), some (R 3), some (R 17), none, some (S "roofridges.errors" 187), none, some (R 0)]⟩] ++ [tO []] ++ [dO [E P "__module__" 196 (S "roofridges.errors" 187), E P "__firstlineno__" 200 (J 2 199), E P "__static_attributes__" 201 (R 22), E P "__weakref__" 203 (R 25), E P "__doc__" 204 .none] 3]
def hl2 (P : Params) : List Obj := [⟨(.type "type"), none, .cls { name := "RoofError", bases := [(.type "ValueError")], mro := [(R 24), (.type "ValueError"), (.type "Exception"), (.type "BaseException"), (.type "object")], ns := 23, qualname := "RoofError", hasDict := true, slotNames := [], subclasses := [(R 37), (R 49)], abstract := false, collection := none, hasDel := false }, #[some (R 15), none, some (S "RoofError" 189), some (S "RoofError" 197), some (.builtin "ValueError.__new__"), some (.bool true)]⟩] ++ [⟨(.type "getset_descriptor"), none, .fields #[(S "__weakref__" 202), (R 24), (.builtin "ExceptionGroup.__weakref__"), .none], #[]⟩] ++ [⟨(.type "super"), none, .fields #[(R 24), (R 24), (R 24)], #[]⟩] ++ [⟨(.type "builtin_function_or_method"), none, .fields #[(.builtin "object.__init_subclass__"), (R 24)], #[]⟩] ++ [tO [(R 24)]] ++ [⟨(.type "builtin_function_or_method"), none, .fields #[(.builtin "type.__prepare__"), (.type "type")], #[]⟩] ++ [dO [E P "__module__" 214 (S "roofridges.errors" 187), E P "__qualname__" 216 (S "NoNumber" 215), E P "__firstlineno__" 218 (J 4 217), E P "__static_attributes__" 219 (R 35)] 4] ++ [tO []] ++ [vO []] ++ [⟨.type "code", none, .fields #[(S "NoNumber" 209), (S "NoNumber" 210), (S "/claim/cut.py" 211), (I 4), (I 0), (I 0), (I 0), (I 0), (R 31), (.bool false), (I 181), (R 32), .none, .none, .none, .none, (I 212), (I 4), (S "/claim/cut.py" 213)], #[]⟩] ++ [⟨(.type "frame"), none, .plain, #[some (R 33), some (R 3), some (R 30), none, some (S "roofridges.errors" 187), none, some (R 0)]⟩] ++ [tO []]
def hl3 (P : Params) : List Obj := [dO [E P "__module__" 214 (S "roofridges.errors" 187), E P "__firstlineno__" 218 (J 4 217), E P "__static_attributes__" 219 (R 35), E P "__doc__" 220 .none] 2] ++ [⟨(.type "type"), none, .cls { name := "NoNumber", bases := [(R 24)], mro := [(R 37), (R 24), (.type "ValueError"), (.type "Exception"), (.type "BaseException"), (.type "object")], ns := 36, qualname := "NoNumber", hasDict := true, slotNames := [], subclasses := [], abstract := false, collection := none, hasDel := false }, #[some (R 28), none, some (S "NoNumber" 207), some (S "NoNumber" 215), some (.builtin "ValueError.__new__"), some (.bool true)]⟩] ++ [⟨(.type "super"), none, .fields #[(R 37), (R 37), (R 37)], #[]⟩] ++ [⟨(.type "builtin_function_or_method"), none, .fields #[(.builtin "object.__init_subclass__"), (R 37)], #[]⟩] ++ [tO [(R 24)]] ++ [⟨(.type "builtin_function_or_method"), none, .fields #[(.builtin "type.__prepare__"), (.type "type")], #[]⟩] ++ [dO [E P "__module__" 230 (S "roofridges.errors" 187), E P "__qualname__" 232 (S "NoYard" 231), E P "__firstlineno__" 234 (J 6 233), E P "__static_attributes__" 235 (R 47)] 4] ++ [tO []] ++ [vO []] ++ [⟨.type "code", none, .fields #[(S "NoYard" 225), (S "NoYard" 226), (S "/claim/cut.py" 227), (I 6), (I 0), (I 0), (I 0), (I 0), (R 43), (.bool false), (I 181), (R 44), .none, .none, .none, .none, (I 228), (I 6), (S "/claim/cut.py" 229)], #[]⟩] ++ [⟨(.type "frame"), none, .plain, #[some (R 45), some (R 3), some (R 42), none, some (S "roofridges.errors" 187), none, some (R 0)]⟩] ++ [tO []]
def hl4 (P : Params) : List Obj := [dO [E P "__module__" 230 (S "roofridges.errors" 187), E P "__firstlineno__" 234 (J 6 233), E P "__static_attributes__" 235 (R 47), E P "__doc__" 236 .none] 2] ++ [⟨(.type "type"), none, .cls { name := "NoYard", bases := [(R 24)], mro := [(R 49), (R 24), (.type "ValueError"), (.type "Exception"), (.type "BaseException"), (.type "object")], ns := 48, qualname := "NoYard", hasDict := true, slotNames := [], subclasses := [], abstract := false, collection := none, hasDel := false }, #[some (R 40), none, some (S "NoYard" 223), some (S "NoYard" 231), some (.builtin "ValueError.__new__"), some (.bool true)]⟩] ++ [⟨(.type "super"), none, .fields #[(R 49), (R 49), (R 49)], #[]⟩] ++ [⟨(.type "builtin_function_or_method"), none, .fields #[(.builtin "object.__init_subclass__"), (R 49)], #[]⟩] ++ [tO [(J 0 241), (J 1 242)]] ++ D7 (Q.top 6) "is_whole" 53 244 10 1 ["thing"] (S "roofridges.fractions" 239) ++ D7 (Q.top 7) "common_divisor" 60 251 12 2 ["one", "other", "rest"] (S "roofridges.fractions" 239) ++ D7 (Q.top 8) "lowest" 67 260 18 2 ["top", "bottom", "divisor"] (S "roofridges.fractions" 239) ++ D7 (Q.top 9) "fraction" 74 269 23 2 ["top", "bottom"] (S "roofridges.fractions" 239) ++ D7 (Q.top 10) "plus" 81 277 29 2 ["one", "other"] (S "roofridges.fractions" 239) ++ D7 (Q.top 11) "minus" 88 285 31 2 ["one", "other"] (S "roofridges.fractions" 239) ++ D7 (Q.top 12) "times" 95 293 33 2 ["one", "other"] (S "roofridges.fractions" 239)
def hl5 (P : Params) : List Obj := D7 (Q.top 13) "over" 102 301 35 2 ["one", "other"] (S "roofridges.fractions" 239) ++ D7 (Q.top 14) "under" 109 309 39 2 ["one", "other"] (S "roofridges.fractions" 239) ++ D7 (Q.top 15) "merged" 116 317 41 2 ["one", "other", "told", "first", "second", "ahead"] (S "roofridges.fractions" 239) ++ [tO []] ++ [vO []] ++ [pO "is_row" (Q.top 19)] ++ [⟨.type "code", none, .fields #[(S "is_row" 335), (S "is_row" 336), (S "/claim/cut.py" 337), (I 56), (I 2), (I 0), (I 0), (I 3), (R 123), (.bool true), (I 181), (R 124), .none, .none, .none, (R 125), (I 338), (I 56), (S "/claim/cut.py" 339)], #[]⟩] ++ [fO "is_row" (Q.top 19) (S "roofridges.yards" 329) 126] ++ [tO []] ++ [vO []] ++ [pO "rows_fit" (Q.top 20)] ++ [⟨.type "code", none, .fields #[(S "rows_fit" 341), (S "rows_fit" 342), (S "/claim/cut.py" 343), (I 60), (I 3), (I 0), (I 0), (I 3), (R 128), (.bool true), (I 181), (R 129), .none, .none, .none, (R 130), (I 344), (I 60), (S "/claim/cut.py" 345)], #[]⟩]
def hl6 (P : Params) : List Obj := [fO "rows_fit" (Q.top 20) (S "roofridges.yards" 329) 131] ++ [tO []] ++ [vO []] ++ [pO "column" (Q.top 21)] ++ [⟨.type "code", none, .fields #[(S "column" 347), (S "column" 348), (S "/claim/cut.py" 349), (I 64), (I 2), (I 0), (I 0), (I 3), (R 133), (.bool true), (I 181), (R 134), .none, .none, .none, (R 135), (I 350), (I 64), (S "/claim/cut.py" 351)], #[]⟩] ++ [fO "column" (Q.top 21) (S "roofridges.yards" 329) 136] ++ [tO []] ++ [vO []] ++ [pO "columns" (Q.top 22)] ++ [⟨.type "code", none, .fields #[(S "columns" 353), (S "columns" 354), (S "/claim/cut.py" 355), (I 66), (I 1), (I 0), (I 0), (I 3), (R 138), (.bool true), (I 181), (R 139), .none, .none, .none, (R 140), (I 356), (I 66), (S "/claim/cut.py" 357)], #[]⟩] ++ [fO "columns" (Q.top 22) (S "roofridges.yards" 329) 141] ++ [tO []]
def hl7 (P : Params) : List Obj := [vO []] ++ [pO "changes" (Q.top 23)] ++ [⟨.type "code", none, .fields #[(S "changes" 359), (S "changes" 360), (S "/claim/cut.py" 361), (I 69), (I 1), (I 0), (I 0), (I 3), (R 143), (.bool true), (I 181), (R 144), .none, .none, .none, (R 145), (I 362), (I 69), (S "/claim/cut.py" 363)], #[]⟩] ++ [fO "changes" (Q.top 23) (S "roofridges.yards" 329) 146] ++ [tO []] ++ [vO []] ++ [pO "picked" (Q.top 24)] ++ [⟨.type "code", none, .fields #[(S "picked" 365), (S "picked" 366), (S "/claim/cut.py" 367), (I 75), (I 2), (I 0), (I 0), (I 3), (R 148), (.bool true), (I 181), (R 149), .none, .none, .none, (R 150), (I 368), (I 75), (S "/claim/cut.py" 369)], #[]⟩] ++ [fO "picked" (Q.top 24) (S "roofridges.yards" 329) 151] ++ [tO []] ++ [vO []] ++ [pO "tidied" (Q.top 25)]
def hl8 (P : Params) : List Obj := [⟨.type "code", none, .fields #[(S "tidied" 371), (S "tidied" 372), (S "/claim/cut.py" 373), (I 77), (I 3), (I 0), (I 0), (I 3), (R 153), (.bool true), (I 181), (R 154), .none, .none, .none, (R 155), (I 374), (I 77), (S "/claim/cut.py" 375)], #[]⟩] ++ [fO "tidied" (Q.top 25) (S "roofridges.yards" 329) 156] ++ D7 (Q.top 26) "is_whole_line" 158 377 82 1 ["thing"] (S "roofridges.yards" 329) ++ [tO []] ++ [vO []] ++ [pO "are_whole_lines" (Q.top 27)] ++ [⟨.type "code", none, .fields #[(S "are_whole_lines" 384), (S "are_whole_lines" 385), (S "/claim/cut.py" 386), (I 84), (I 1), (I 0), (I 0), (I 3), (R 165), (.bool true), (I 181), (R 166), .none, .none, .none, (R 167), (I 387), (I 84), (S "/claim/cut.py" 388)], #[]⟩] ++ [fO "are_whole_lines" (Q.top 27) (S "roofridges.yards" 329) 168] ++ [tO []] ++ [vO []] ++ [pO "made" (Q.top 28)] ++ [⟨.type "code", none, .fields #[(S "made" 390), (S "made" 391), (S "/claim/cut.py" 392), (I 90), (I 3), (I 0), (I 0), (I 3), (R 170), (.bool true), (I 181), (R 171), .none, .none, .none, (R 172), (I 393), (I 90), (S "/claim/cut.py" 394)], #[]⟩]
def hl9 (P : Params) : List Obj := [fO "made" (Q.top 28) (S "roofridges.yards" 329) 173] ++ [tO []] ++ [vO []] ++ [pO "bands_at" (Q.top 29)] ++ [⟨.type "code", none, .fields #[(S "bands_at" 396), (S "bands_at" 397), (S "/claim/cut.py" 398), (I 96), (I 2), (I 0), (I 0), (I 3), (R 175), (.bool true), (I 181), (R 176), .none, .none, .none, (R 177), (I 399), (I 96), (S "/claim/cut.py" 400)], #[]⟩] ++ [fO "bands_at" (Q.top 29) (S "roofridges.yards" 329) 178] ++ D7 (Q.top 30) "has_cell" 180 402 101 3 ["yard", "across", "up", "rows"] (S "roofridges.yards" 329) ++ [tO []] ++ [vO []] ++ [pO "opposite" (Q.top 32)] ++ [⟨.type "code", none, .fields #[(S "opposite" 414), (S "opposite" 415), (S "/claim/cut.py" 416), (I 107), (I 1), (I 0), (I 0), (I 3), (R 187), (.bool true), (I 181), (R 188), .none, .none, .none, (R 189), (I 417), (I 107), (S "/claim/cut.py" 418)], #[]⟩] ++ [fO "opposite" (Q.top 32) (S "roofridges.moves" 412) 190]
def hl10 (P : Params) : List Obj := D7 (Q.top 33) "backward" 192 420 109 1 ["row"] (S "roofridges.moves" 412) ++ [tO []] ++ [vO []] ++ [pO "moved" (Q.top 34)] ++ [⟨.type "code", none, .fields #[(S "moved" 427), (S "moved" 428), (S "/claim/cut.py" 429), (I 111), (I 3), (I 0), (I 0), (I 3), (R 199), (.bool true), (I 181), (R 200), .none, .none, .none, (R 201), (I 430), (I 111), (S "/claim/cut.py" 431)], #[]⟩] ++ [fO "moved" (Q.top 34) (S "roofridges.moves" 412) 202] ++ [tO []] ++ [vO []] ++ [pO "turned" (Q.top 35)] ++ [⟨.type "code", none, .fields #[(S "turned" 433), (S "turned" 434), (S "/claim/cut.py" 435), (I 113), (I 1), (I 0), (I 0), (I 3), (R 204), (.bool true), (I 181), (R 205), .none, .none, .none, (R 206), (I 436), (I 113), (S "/claim/cut.py" 437)], #[]⟩] ++ [fO "turned" (Q.top 35) (S "roofridges.moves" 412) 207] ++ [tO []]
def hl11 (P : Params) : List Obj := [vO []] ++ [pO "mirrored" (Q.top 36)] ++ [⟨.type "code", none, .fields #[(S "mirrored" 439), (S "mirrored" 440), (S "/claim/cut.py" 441), (I 116), (I 1), (I 0), (I 0), (I 3), (R 209), (.bool true), (I 181), (R 210), .none, .none, .none, (R 211), (I 442), (I 116), (S "/claim/cut.py" 443)], #[]⟩] ++ [fO "mirrored" (Q.top 36) (S "roofridges.moves" 412) 212] ++ [tO []] ++ [vO []] ++ [pO "stretched" (Q.top 37)] ++ [⟨.type "code", none, .fields #[(S "stretched" 445), (S "stretched" 446), (S "/claim/cut.py" 447), (I 118), (I 3), (I 0), (I 0), (I 3), (R 214), (.bool true), (I 181), (R 215), .none, .none, .none, (R 216), (I 448), (I 118), (S "/claim/cut.py" 449)], #[]⟩] ++ [fO "stretched" (Q.top 37) (S "roofridges.moves" 412) 217] ++ D7 (Q.top 38) "turned_paces" 219 451 122 1 ["paces"] (S "roofridges.moves" 412) ++ D7 (Q.top 39) "mirrored_paces" 226 458 124 1 ["paces"] (S "roofridges.moves" 412) ++ [tO []]
def hl12 (P : Params) : List Obj := [vO []] ++ [pO "finer_row" (Q.top 41)] ++ [⟨.type "code", none, .fields #[(S "finer_row" 467), (S "finer_row" 468), (S "/claim/cut.py" 469), (I 127), (I 3), (I 0), (I 0), (I 3), (R 233), (.bool true), (I 181), (R 234), .none, .none, .none, (R 235), (I 470), (I 127), (S "/claim/cut.py" 471)], #[]⟩] ++ [fO "finer_row" (Q.top 41) (S "roofridges.sets" 465) 236] ++ [tO []] ++ [vO []] ++ [pO "finer_rows" (Q.top 42)] ++ [⟨.type "code", none, .fields #[(S "finer_rows" 473), (S "finer_rows" 474), (S "/claim/cut.py" 475), (I 129), (I 3), (I 0), (I 0), (I 3), (R 238), (.bool true), (I 181), (R 239), .none, .none, .none, (R 240), (I 476), (I 129), (S "/claim/cut.py" 477)], #[]⟩] ++ [fO "finer_rows" (Q.top 42) (S "roofridges.sets" 465) 241] ++ [tO []] ++ [vO []] ++ [pO "chosen_row" (Q.top 43)]
def hl13 (P : Params) : List Obj := [⟨.type "code", none, .fields #[(S "chosen_row" 479), (S "chosen_row" 480), (S "/claim/cut.py" 481), (I 133), (I 3), (I 0), (I 0), (I 3), (R 243), (.bool true), (I 181), (R 244), .none, .none, .none, (R 245), (I 482), (I 133), (S "/claim/cut.py" 483)], #[]⟩] ++ [fO "chosen_row" (Q.top 43) (S "roofridges.sets" 465) 246] ++ [tO []] ++ [vO []] ++ [pO "chosen" (Q.top 44)] ++ [⟨.type "code", none, .fields #[(S "chosen" 485), (S "chosen" 486), (S "/claim/cut.py" 487), (I 135), (I 3), (I 0), (I 0), (I 3), (R 248), (.bool true), (I 181), (R 249), .none, .none, .none, (R 250), (I 488), (I 135), (S "/claim/cut.py" 489)], #[]⟩] ++ [fO "chosen" (Q.top 44) (S "roofridges.sets" 465) 251] ++ D7 (Q.top 45) "both" 253 491 141 2 ["one", "other"] (S "roofridges.sets" 465) ++ D7 (Q.top 46) "either" 260 499 143 2 ["one", "other"] (S "roofridges.sets" 465) ++ D7 (Q.top 47) "less" 267 507 145 2 ["one", "other"] (S "roofridges.sets" 465) ++ D7 (Q.top 49) "_law_feed" 274 517 148 2 ["_law_script", "_law_k", "_law_cell", "_law_great"] (S "law_roofridges_k10_whole_turns_go_round" 515) ++ D7 (Q.top 50) "_law_next" 281 527 156 2 ["_law_feed_here", "_law_many", "_law_digit", "_law_step", "_law_mixed"] (S "law_roofridges_k10_whole_turns_go_round" 515)
def hl14 (P : Params) : List Obj := D7 (Q.top 51) "_law_lines" 288 538 167 1 ["_law_feed_here", "_law_most", "_law_found", "_law_k"] (S "law_roofridges_k10_whole_turns_go_round" 515) ++ [tO []] ++ [vO []] ++ [pO "_law_rows" (Q.top 52)] ++ [⟨.type "code", none, .fields #[(S "_law_rows" 548), (S "_law_rows" 549), (S "/claim/cut.py" 550), (I 173), (I 3), (I 0), (I 0), (I 3), (R 295), (.bool true), (I 181), (R 296), .none, .none, .none, (R 297), (I 551), (I 173), (S "/claim/cut.py" 552)], #[]⟩] ++ [fO "_law_rows" (Q.top 52) (S "law_roofridges_k10_whole_turns_go_round" 515) 298] ++ D7 (Q.top 53) "_law_number" 300 554 179 2 ["_law_top", "_law_bottom", "_law_one", "_law_other"] (S "law_roofridges_k10_whole_turns_go_round" 515) ++ D7 (Q.top 54) "_law_round" 307 564 185 2 ["_law_yard", "_law_paces", "_law_found", "_law_told", "_law_k", "_law_thrice"] (S "law_roofridges_k10_whole_turns_go_round" 515) ++ D7 (Q.top 55) "_law_summed" 314 576 199 2 ["_law_yard", "_law_some", "_law_a", "_law_b", "_law_c", "_law_d", "_law_nought", "_law_there"] (S "law_roofridges_k10_whole_turns_go_round" 515) ++ D7 (Q.top 56) "_law_stretches" 321 590 210 2 ["_law_yard", "_law_some", "_law_a", "_law_b", "_law_c", "_law_d", "_law_there"] (S "law_roofridges_k10_whole_turns_go_round" 515) ++ D7 (Q.top 57) "_law_brought" 328 603 216 3 ["_law_way", "_law_yard", "_law_some"] (S "law_roofridges_k10_whole_turns_go_round" 515) ++ D7 (Q.top 58) "_law_together" 335 612 224 3 ["_law_one", "_law_other", "_law_some", "_law_way", "_law_first", "_law_second"] (S "law_roofridges_k10_whole_turns_go_round" 515)
def hl15 (P : Params) : List Obj := [tO []] ++ [vO []] ++ [pO "law" (Q.top 59)] ++ [⟨.type "code", none, .fields #[(S "law" 624), (S "law" 625), (S "/claim/cut.py" 626), (I 235), (I 1), (I 0), (I 0), (I 3), (R 342), (.bool true), (I 181), (R 343), .none, .none, .none, (R 344), (I 627), (I 235), (S "/claim/cut.py" 628)], #[]⟩] ++ [fO "law" (Q.top 59) (S "law_roofridges_k10_whole_turns_go_round" 515) 345]
def hl (P : Params) : List Obj := hl0 P ++ hl1 P ++ hl2 P ++ hl3 P ++ hl4 P ++ hl5 P ++ hl6 P ++ hl7 P ++ hl8 P ++ hl9 P ++ hl10 P ++ hl11 P ++ hl12 P ++ hl13 P ++ hl14 P ++ hl15 P
def hA (P : Params) : Heap := ⟨Array.mk (ov [(3, boot_o_3 P), (12, vO (es12.take 0))] ((hl P).take 15)), {}⟩
def env : Env := { scope := PySem.Challenge.pw_roofridges_k10_whole_turns_go_round.main.scope, locals := mainNs, globals := mainNs, cells := [], code := (R 13), frame := some 14 }
abbrev p : Program := PySem.Challenge.rw_roofridges_k10_whole_turns_go_round.row.toRowW.1
abbrev bE : List Stmt := behindTheImports p
abbrev cE : Code := .body bE env
theorem pre (w : World) (os : OsState) : topGo treeTable p w 11 (some (R 6)) 12 ⟨boot_heap w.params, Array.mk [], boot_drawn, boot_toks, os⟩ (topStub p) = some (sh (hA w.params) 187 os, ⟨denote treeTable cE, cE, (ps 0 0 0 0), B⟩) := by rw [eGo, PySem.W.Fast.te11892475500146522536, PySem.W.Fast.te14364793385576792824]; kernel_rfl!
def t0 (P : Params) : BT := bt 14 (ov [(3, boot_o_3 P), (12, vO (es12.take 0))] ((hl P).take 15))
theorem block (w : World) (os : OsState) : segRun treeTable p w 11 (some (R 6)) 1 1 (sh (hA w.params) 187 os) (blockOf bE env cE (ps 0 0 0 0) B) = some (.next, (sT (t0 w.params) 15 187 os).abs, cE, (ps 0 0 0 0)) := by rw [eSeg]; kernel_rfl!
def t1 (P : Params) : BT := bt 14 (ov [(3, dO (ov [(0, E P "__name__" 165 (S "roofridges.errors" 187))] ((es3 P).take 10)) 10), (12, vO (es12.take 3)), (24, ⟨(.type "type"), none, .cls { name := "RoofError", bases := [(.type "ValueError")], mro := [(R 24), (.type "ValueError"), (.type "Exception"), (.type "BaseException"), (.type "object")], ns := 23, qualname := "RoofError", hasDict := true, slotNames := [], subclasses := [], abstract := false, collection := none, hasDel := false }, #[some (R 15), none, some (S "RoofError" 189), some (S "RoofError" 197), some (.builtin "ValueError.__new__"), some (.bool true)]⟩)] ((hl P).take 28))
def g1 : List Stmt := [Q.top 0, Q.top 1]
theorem r1 (w : World) (os : OsState) : segRunT treeTable p w 11 (some (R 6)) 1 196 (sT (t0 w.params) 15 187 os) (piecesOf g1 env cE (ps 0 0 0 0) B) = some (.next, sT (t1 w.params) 28 207 os, cE, (ps 2 0 3 8)) := by rw [eRun]; kernel_rfl!
def t2 (P : Params) : BT := bt 14 (ov [(3, dO (ov [(0, E P "__name__" 165 (S "roofridges.errors" 187))] ((es3 P).take 11)) 11), (12, vO (es12.take 6)), (24, ⟨(.type "type"), none, .cls { name := "RoofError", bases := [(.type "ValueError")], mro := [(R 24), (.type "ValueError"), (.type "Exception"), (.type "BaseException"), (.type "object")], ns := 23, qualname := "RoofError", hasDict := true, slotNames := [], subclasses := [(R 37)], abstract := false, collection := none, hasDel := false }, #[some (R 15), none, some (S "RoofError" 189), some (S "RoofError" 197), some (.builtin "ValueError.__new__"), some (.bool true)]⟩)] ((hl P).take 40))
def g2 : List Stmt := [Q.top 2]
theorem r2 (w : World) (os : OsState) : segRunT treeTable p w 11 (some (R 6)) 1 214 (sT (t1 w.params) 28 207 os) (piecesOf g2 env cE (ps 2 0 3 8) B) = some (.next, sT (t2 w.params) 40 223 os, cE, (ps 4 0 5 8)) := by rw [eRun]; kernel_rfl!
def t3 (P : Params) : BT := bt 14 (ov [(3, dO (ov [(0, E P "__name__" 165 (S "roofridges.fractions" 239))] ((es3 P).take 18)) 18), (12, vO (es12.take 24))] ((hl P).take 88))
def g3 : List Stmt := [Q.top 3, Q.top 4, Q.top 5, Q.top 6, Q.top 7, Q.top 8, Q.top 9, Q.top 10]
theorem r3 (w : World) (os : OsState) : segRunT treeTable p w 11 (some (R 6)) 1 386 (sT (t2 w.params) 40 223 os) (piecesOf g3 env cE (ps 4 0 5 8) B) = some (.next, sT (t3 w.params) 88 285 os, cE, (ps 29 0 30 75)) := by rw [eRun]; kernel_rfl!
def t4 (P : Params) : BT := bt 14 (ov [(3, dO (ov [(0, E P "__name__" 165 (S "roofridges.yards" 329))] ((es3 P).take 33)) 33), (12, vO (es12.take 63))] ((hl P).take 165))
def g4 : List Stmt := [Q.top 11, Q.top 12, Q.top 13, Q.top 14, Q.top 15, Q.top 16, Q.top 17, Q.top 18, Q.top 19, Q.top 20, Q.top 21, Q.top 22, Q.top 23, Q.top 24, Q.top 25, Q.top 26]
theorem r4 (w : World) (os : OsState) : segRunT treeTable p w 11 (some (R 6)) 1 393 (sT (t3 w.params) 88 285 os) (piecesOf g4 env cE (ps 29 0 30 75) B) = some (.next, sT (t4 w.params) 165 384 os, cE, (ps 82 0 83 61)) := by rw [eRun]; kernel_rfl!
def t5 (P : Params) : BT := bt 14 (ov [(3, dO (ov [(0, E P "__name__" 165 (S "roofridges.sets" 465))] ((es3 P).take 47)) 47), (12, vO (es12.take 105))] ((hl P).take 243))
def g5 : List Stmt := [Q.top 27, Q.top 28, Q.top 29, Q.top 30, Q.top 31, Q.top 32, Q.top 33, Q.top 34, Q.top 35, Q.top 36, Q.top 37, Q.top 38, Q.top 39, Q.top 40, Q.top 41, Q.top 42]
theorem r5 (w : World) (os : OsState) : segRunT treeTable p w 11 (some (R 6)) 1 398 (sT (t4 w.params) 165 384 os) (piecesOf g5 env cE (ps 82 0 83 61) B) = some (.next, sT (t5 w.params) 243 479 os, cE, (ps 129 0 132 56)) := by rw [eRun]; kernel_rfl!
def t6 (P : Params) : BT := bt 14 (ov [(3, dO (ov [] ((es3 P).take 59)) 59), (12, vO (es12.take 141))] ((hl P).take 321))
def g6 : List Stmt := [Q.top 43, Q.top 44, Q.top 45, Q.top 46, Q.top 47, Q.top 48, Q.top 49, Q.top 50, Q.top 51, Q.top 52, Q.top 53, Q.top 54, Q.top 55]
theorem r6 (w : World) (os : OsState) : segRunT treeTable p w 11 (some (R 6)) 1 377 (sT (t5 w.params) 243 479 os) (piecesOf g6 env cE (ps 129 0 132 56) B) = some (.next, sT (t6 w.params) 321 590 os, cE, (ps 199 0 209 114)) := by rw [eRun]; kernel_rfl!
def t7 (P : Params) : BT := bt 14 (ov [] ((hl P).take 347))
def g7 : List Stmt := [Q.top 56, Q.top 57, Q.top 58, Q.top 59]
theorem r7 (w : World) (os : OsState) : segRunT treeTable p w 11 (some (R 6)) 1 127 (sT (t6 w.params) 321 590 os) (piecesOf g7 env cE (ps 199 0 209 114) B) = some (.next, sT (t7 w.params) 347 630 os, cE, (ps 235 0 253 15)) := by rw [eRun]; kernel_rfl!
def hZ (P : Params) : Heap := ⟨Array.mk (hl P), {}⟩
theorem fin (w : World) (os : OsState) : topRun treeTable p w 11 (some (R 6)) 2 (sT (t7 w.params) 347 630 os).abs ⟨doneF .next, cE, (ps 235 0 253 15), B⟩ = some (sh (hZ w.params) 630 os) := by rw [eTop]; kernel_rfl!
theorem body : bE = g1 ++ (g2 ++ (g3 ++ (g4 ++ (g5 ++ (g6 ++ (g7 ++ ([]))))))) := by kernel_rfl!
theorem chain (w : World) (os : OsState) : topRun treeTable p w 11 (some (R 6)) (196 + (214 + (386 + (393 + (398 + (377 + (127 + (2)))))))) (sT (t0 w.params) 15 187 os).abs (restOf (g1 ++ (g2 ++ (g3 ++ (g4 ++ (g5 ++ (g6 ++ (g7 ++ ([])))))))) env cE (ps 0 0 0 0) B) = some (sh (hZ w.params) 630 os) := piece_app (segRun_of (r1 w os)) (piece_app (segRun_of (r2 w os)) (piece_app (segRun_of (r3 w os)) (piece_app (segRun_of (r4 w os)) (piece_app (segRun_of (r5 w os)) (piece_app (segRun_of (r6 w os)) (piece_app (segRun_of (r7 w os)) (fin w os)))))))
theorem run (w : World) (os : OsState) : topRun treeTable p w 11 (some (R 6)) (12 + (1 + (196 + (214 + (386 + (393 + (398 + (377 + (127 + (2)))))))))) ⟨boot_heap w.params, Array.mk [], boot_drawn, boot_toks, os⟩ (topStub p) = some (sh (hZ w.params) 630 os) := go_top (pre w os) (piece_block (block w os) (by have h := chain w os; rw [← body] at h; exact h))
def view : Program := { p with main := { p.main with body := [Q.top 1, Q.top 2, Q.top 3, Q.top 5, Q.top 6, Q.top 7, Q.top 8, Q.top 9, Q.top 10, Q.top 11, Q.top 12, Q.top 13, Q.top 14, Q.top 15, Q.top 17, Q.top 18, Q.top 19, Q.top 20, Q.top 21, Q.top 22, Q.top 23, Q.top 24, Q.top 25, Q.top 26, Q.top 27, Q.top 28, Q.top 29, Q.top 30, Q.top 32, Q.top 33, Q.top 34, Q.top 35, Q.top 36, Q.top 37, Q.top 38, Q.top 39, Q.top 41, Q.top 42, Q.top 43, Q.top 44, Q.top 45, Q.top 46, Q.top 47, Q.top 49, Q.top 50, Q.top 51, Q.top 52, Q.top 53, Q.top 54, Q.top 55, Q.top 56, Q.top 57, Q.top 58, Q.top 59] } }
def ob (P : Params) (i : Nat) : Obj := (hl P).getD i default
def K (P : Params) : Frag := [(nat_lit 2, ob P 2), (nat_lit 3, ob P 3), (nat_lit 15, ob P 15), (nat_lit 22, ob P 22), (nat_lit 23, ob P 23), (nat_lit 24, ob P 24), (nat_lit 25, ob P 25), (nat_lit 28, ob P 28), (nat_lit 35, ob P 35), (nat_lit 36, ob P 36), (nat_lit 37, ob P 37), (nat_lit 40, ob P 40), (nat_lit 47, ob P 47), (nat_lit 48, ob P 48), (nat_lit 49, ob P 49), (nat_lit 52, ob P 52), (nat_lit 53, ob P 53), (nat_lit 55, ob P 55), (nat_lit 56, ob P 56), (nat_lit 58, ob P 58), (nat_lit 59, fO "is_whole" (Q.top 6) (S "roofridges.fractions" 239) 58), (nat_lit 60, ob P 60), (nat_lit 62, ob P 62), (nat_lit 63, ob P 63), (nat_lit 65, ob P 65), (nat_lit 66, fO "common_divisor" (Q.top 7) (S "roofridges.fractions" 239) 65), (nat_lit 67, ob P 67), (nat_lit 69, ob P 69), (nat_lit 70, ob P 70), (nat_lit 72, ob P 72), (nat_lit 73, fO "lowest" (Q.top 8) (S "roofridges.fractions" 239) 72), (nat_lit 74, ob P 74), (nat_lit 76, ob P 76), (nat_lit 77, ob P 77), (nat_lit 79, ob P 79), (nat_lit 80, fO "fraction" (Q.top 9) (S "roofridges.fractions" 239) 79), (nat_lit 81, ob P 81), (nat_lit 83, ob P 83), (nat_lit 84, ob P 84), (nat_lit 86, ob P 86), (nat_lit 87, fO "plus" (Q.top 10) (S "roofridges.fractions" 239) 86), (nat_lit 88, ob P 88), (nat_lit 90, ob P 90), (nat_lit 91, ob P 91), (nat_lit 93, ob P 93), (nat_lit 94, fO "minus" (Q.top 11) (S "roofridges.fractions" 239) 93), (nat_lit 95, ob P 95), (nat_lit 97, ob P 97), (nat_lit 98, ob P 98), (nat_lit 100, ob P 100), (nat_lit 101, fO "times" (Q.top 12) (S "roofridges.fractions" 239) 100), (nat_lit 102, ob P 102), (nat_lit 104, ob P 104), (nat_lit 105, ob P 105), (nat_lit 107, ob P 107), (nat_lit 108, fO "over" (Q.top 13) (S "roofridges.fractions" 239) 107), (nat_lit 109, ob P 109), (nat_lit 111, ob P 111), (nat_lit 112, ob P 112), (nat_lit 114, ob P 114), (nat_lit 115, fO "under" (Q.top 14) (S "roofridges.fractions" 239) 114), (nat_lit 116, ob P 116), (nat_lit 118, ob P 118), (nat_lit 119, ob P 119), (nat_lit 121, ob P 121), (nat_lit 122, fO "merged" (Q.top 15) (S "roofridges.fractions" 239) 121), (nat_lit 123, ob P 123), (nat_lit 126, ob P 126), (nat_lit 127, fO "is_row" (Q.top 19) (S "roofridges.yards" 329) 126), (nat_lit 128, ob P 128), (nat_lit 131, ob P 131), (nat_lit 132, fO "rows_fit" (Q.top 20) (S "roofridges.yards" 329) 131), (nat_lit 133, ob P 133), (nat_lit 136, ob P 136), (nat_lit 137, fO "column" (Q.top 21) (S "roofridges.yards" 329) 136), (nat_lit 138, ob P 138), (nat_lit 141, ob P 141), (nat_lit 142, fO "columns" (Q.top 22) (S "roofridges.yards" 329) 141), (nat_lit 143, ob P 143), (nat_lit 146, ob P 146), (nat_lit 147, fO "changes" (Q.top 23) (S "roofridges.yards" 329) 146), (nat_lit 148, ob P 148), (nat_lit 151, ob P 151), (nat_lit 152, fO "picked" (Q.top 24) (S "roofridges.yards" 329) 151), (nat_lit 153, ob P 153), (nat_lit 156, ob P 156), (nat_lit 157, fO "tidied" (Q.top 25) (S "roofridges.yards" 329) 156), (nat_lit 158, ob P 158), (nat_lit 160, ob P 160), (nat_lit 161, ob P 161), (nat_lit 163, ob P 163), (nat_lit 164, fO "is_whole_line" (Q.top 26) (S "roofridges.yards" 329) 163), (nat_lit 165, ob P 165), (nat_lit 168, ob P 168), (nat_lit 169, fO "are_whole_lines" (Q.top 27) (S "roofridges.yards" 329) 168), (nat_lit 170, ob P 170), (nat_lit 173, ob P 173), (nat_lit 174, fO "made" (Q.top 28) (S "roofridges.yards" 329) 173), (nat_lit 175, ob P 175), (nat_lit 178, ob P 178), (nat_lit 179, fO "bands_at" (Q.top 29) (S "roofridges.yards" 329) 178), (nat_lit 180, ob P 180), (nat_lit 182, ob P 182), (nat_lit 183, ob P 183), (nat_lit 185, ob P 185), (nat_lit 186, fO "has_cell" (Q.top 30) (S "roofridges.yards" 329) 185), (nat_lit 187, ob P 187), (nat_lit 190, ob P 190), (nat_lit 191, fO "opposite" (Q.top 32) (S "roofridges.moves" 412) 190), (nat_lit 192, ob P 192), (nat_lit 194, ob P 194), (nat_lit 195, ob P 195), (nat_lit 197, ob P 197), (nat_lit 198, fO "backward" (Q.top 33) (S "roofridges.moves" 412) 197), (nat_lit 199, ob P 199), (nat_lit 202, ob P 202), (nat_lit 203, fO "moved" (Q.top 34) (S "roofridges.moves" 412) 202), (nat_lit 204, ob P 204), (nat_lit 207, ob P 207), (nat_lit 208, fO "turned" (Q.top 35) (S "roofridges.moves" 412) 207), (nat_lit 209, ob P 209), (nat_lit 212, ob P 212), (nat_lit 213, fO "mirrored" (Q.top 36) (S "roofridges.moves" 412) 212), (nat_lit 214, ob P 214), (nat_lit 217, ob P 217), (nat_lit 218, fO "stretched" (Q.top 37) (S "roofridges.moves" 412) 217), (nat_lit 219, ob P 219), (nat_lit 221, ob P 221), (nat_lit 222, ob P 222), (nat_lit 224, ob P 224), (nat_lit 225, fO "turned_paces" (Q.top 38) (S "roofridges.moves" 412) 224), (nat_lit 226, ob P 226), (nat_lit 228, ob P 228), (nat_lit 229, ob P 229), (nat_lit 231, ob P 231), (nat_lit 232, fO "mirrored_paces" (Q.top 39) (S "roofridges.moves" 412) 231), (nat_lit 233, ob P 233), (nat_lit 236, ob P 236), (nat_lit 237, fO "finer_row" (Q.top 41) (S "roofridges.sets" 465) 236), (nat_lit 238, ob P 238), (nat_lit 241, ob P 241), (nat_lit 242, fO "finer_rows" (Q.top 42) (S "roofridges.sets" 465) 241), (nat_lit 243, ob P 243), (nat_lit 246, ob P 246), (nat_lit 247, fO "chosen_row" (Q.top 43) (S "roofridges.sets" 465) 246), (nat_lit 248, ob P 248), (nat_lit 251, ob P 251), (nat_lit 252, fO "chosen" (Q.top 44) (S "roofridges.sets" 465) 251), (nat_lit 253, ob P 253), (nat_lit 255, ob P 255), (nat_lit 256, ob P 256), (nat_lit 258, ob P 258), (nat_lit 259, fO "both" (Q.top 45) (S "roofridges.sets" 465) 258), (nat_lit 260, ob P 260), (nat_lit 262, ob P 262), (nat_lit 263, ob P 263), (nat_lit 265, ob P 265), (nat_lit 266, fO "either" (Q.top 46) (S "roofridges.sets" 465) 265), (nat_lit 267, ob P 267), (nat_lit 269, ob P 269), (nat_lit 270, ob P 270), (nat_lit 272, ob P 272), (nat_lit 273, fO "less" (Q.top 47) (S "roofridges.sets" 465) 272), (nat_lit 274, ob P 274), (nat_lit 276, ob P 276), (nat_lit 277, ob P 277), (nat_lit 279, ob P 279), (nat_lit 280, fO "_law_feed" (Q.top 49) (S "law_roofridges_k10_whole_turns_go_round" 515) 279), (nat_lit 281, ob P 281), (nat_lit 283, ob P 283), (nat_lit 284, ob P 284), (nat_lit 286, ob P 286), (nat_lit 287, fO "_law_next" (Q.top 50) (S "law_roofridges_k10_whole_turns_go_round" 515) 286), (nat_lit 288, ob P 288), (nat_lit 290, ob P 290), (nat_lit 291, ob P 291), (nat_lit 293, ob P 293), (nat_lit 294, fO "_law_lines" (Q.top 51) (S "law_roofridges_k10_whole_turns_go_round" 515) 293), (nat_lit 295, ob P 295), (nat_lit 298, ob P 298), (nat_lit 299, fO "_law_rows" (Q.top 52) (S "law_roofridges_k10_whole_turns_go_round" 515) 298), (nat_lit 300, ob P 300), (nat_lit 302, ob P 302), (nat_lit 303, ob P 303), (nat_lit 305, ob P 305), (nat_lit 306, fO "_law_number" (Q.top 53) (S "law_roofridges_k10_whole_turns_go_round" 515) 305), (nat_lit 307, ob P 307), (nat_lit 309, ob P 309), (nat_lit 310, ob P 310), (nat_lit 312, ob P 312), (nat_lit 313, fO "_law_round" (Q.top 54) (S "law_roofridges_k10_whole_turns_go_round" 515) 312), (nat_lit 314, ob P 314), (nat_lit 316, ob P 316), (nat_lit 317, ob P 317), (nat_lit 319, ob P 319), (nat_lit 320, fO "_law_summed" (Q.top 55) (S "law_roofridges_k10_whole_turns_go_round" 515) 319), (nat_lit 321, ob P 321), (nat_lit 323, ob P 323), (nat_lit 324, ob P 324), (nat_lit 326, ob P 326), (nat_lit 327, fO "_law_stretches" (Q.top 56) (S "law_roofridges_k10_whole_turns_go_round" 515) 326), (nat_lit 328, ob P 328), (nat_lit 330, ob P 330), (nat_lit 331, ob P 331), (nat_lit 333, ob P 333), (nat_lit 334, fO "_law_brought" (Q.top 57) (S "law_roofridges_k10_whole_turns_go_round" 515) 333), (nat_lit 335, ob P 335), (nat_lit 337, ob P 337), (nat_lit 338, ob P 338), (nat_lit 340, ob P 340), (nat_lit 341, fO "_law_together" (Q.top 58) (S "law_roofridges_k10_whole_turns_go_round" 515) 340), (nat_lit 342, ob P 342), (nat_lit 345, ob P 345), (nat_lit 346, fO "law" (Q.top 59) (S "law_roofridges_k10_whole_turns_go_round" 515) 345)]
def as : List Addr := [nat_lit 2, nat_lit 3, nat_lit 15, nat_lit 22, nat_lit 23, nat_lit 24, nat_lit 25, nat_lit 28, nat_lit 35, nat_lit 36, nat_lit 37, nat_lit 40, nat_lit 47, nat_lit 48, nat_lit 49, nat_lit 52, nat_lit 53, nat_lit 55, nat_lit 56, nat_lit 58, nat_lit 59, nat_lit 60, nat_lit 62, nat_lit 63, nat_lit 65, nat_lit 66, nat_lit 67, nat_lit 69, nat_lit 70, nat_lit 72, nat_lit 73, nat_lit 74, nat_lit 76, nat_lit 77, nat_lit 79, nat_lit 80, nat_lit 81, nat_lit 83, nat_lit 84, nat_lit 86, nat_lit 87, nat_lit 88, nat_lit 90, nat_lit 91, nat_lit 93, nat_lit 94, nat_lit 95, nat_lit 97, nat_lit 98, nat_lit 100, nat_lit 101, nat_lit 102, nat_lit 104, nat_lit 105, nat_lit 107, nat_lit 108, nat_lit 109, nat_lit 111, nat_lit 112, nat_lit 114, nat_lit 115, nat_lit 116, nat_lit 118, nat_lit 119, nat_lit 121, nat_lit 122, nat_lit 123, nat_lit 126, nat_lit 127, nat_lit 128, nat_lit 131, nat_lit 132, nat_lit 133, nat_lit 136, nat_lit 137, nat_lit 138, nat_lit 141, nat_lit 142, nat_lit 143, nat_lit 146, nat_lit 147, nat_lit 148, nat_lit 151, nat_lit 152, nat_lit 153, nat_lit 156, nat_lit 157, nat_lit 158, nat_lit 160, nat_lit 161, nat_lit 163, nat_lit 164, nat_lit 165, nat_lit 168, nat_lit 169, nat_lit 170, nat_lit 173, nat_lit 174, nat_lit 175, nat_lit 178, nat_lit 179, nat_lit 180, nat_lit 182, nat_lit 183, nat_lit 185, nat_lit 186, nat_lit 187, nat_lit 190, nat_lit 191, nat_lit 192, nat_lit 194, nat_lit 195, nat_lit 197, nat_lit 198, nat_lit 199, nat_lit 202, nat_lit 203, nat_lit 204, nat_lit 207, nat_lit 208, nat_lit 209, nat_lit 212, nat_lit 213, nat_lit 214, nat_lit 217, nat_lit 218, nat_lit 219, nat_lit 221, nat_lit 222, nat_lit 224, nat_lit 225, nat_lit 226, nat_lit 228, nat_lit 229, nat_lit 231, nat_lit 232, nat_lit 233, nat_lit 236, nat_lit 237, nat_lit 238, nat_lit 241, nat_lit 242, nat_lit 243, nat_lit 246, nat_lit 247, nat_lit 248, nat_lit 251, nat_lit 252, nat_lit 253, nat_lit 255, nat_lit 256, nat_lit 258, nat_lit 259, nat_lit 260, nat_lit 262, nat_lit 263, nat_lit 265, nat_lit 266, nat_lit 267, nat_lit 269, nat_lit 270, nat_lit 272, nat_lit 273, nat_lit 274, nat_lit 276, nat_lit 277, nat_lit 279, nat_lit 280, nat_lit 281, nat_lit 283, nat_lit 284, nat_lit 286, nat_lit 287, nat_lit 288, nat_lit 290, nat_lit 291, nat_lit 293, nat_lit 294, nat_lit 295, nat_lit 298, nat_lit 299, nat_lit 300, nat_lit 302, nat_lit 303, nat_lit 305, nat_lit 306, nat_lit 307, nat_lit 309, nat_lit 310, nat_lit 312, nat_lit 313, nat_lit 314, nat_lit 316, nat_lit 317, nat_lit 319, nat_lit 320, nat_lit 321, nat_lit 323, nat_lit 324, nat_lit 326, nat_lit 327, nat_lit 328, nat_lit 330, nat_lit 331, nat_lit 333, nat_lit 334, nat_lit 335, nat_lit 337, nat_lit 338, nat_lit 340, nat_lit 341, nat_lit 342, nat_lit 345, nat_lit 346]
abbrev Hk : Hook := kHook K as (fun _ => by kernel_rfl!)
theorem opens : ∀ w : World, (fencedOpening treeTable p w 4294).map (fun s => (s.heap, s.gens, s.drawn, s.toks)) = some (boot_heap w.params, Array.mk [], boot_drawn, boot_toks) := boot_open (by kernel_rfl!) (by kernel_rfl!) (fun _ => by kernel_rfl!)
abbrev Xt : Shared → Bool := fun s => xlAt view [] s && recOk (RowW.records PySem.Challenge.rw_roofridges_k10_whole_turns_go_round.row.toRowW) s
theorem size (w : World) : ((boot_heap w.params).isNs mainGlobals && (Array.mk ([] : List GenState)).size == 0, (boot_heap w.params).objs.size, (boot_heap w.params).nsMap mainGlobals "__annotations__") = (true, 11, (some (R 6))) := by kernel_rfl!
theorem look1 (w : World) (os : OsState) : (staticsOk (importedModules p.main.body) (boot_heap w.params) (hZ w.params) && namesBound p (hZ w.params) && gensDone (sh (hZ w.params) 630 os) && laidKept (boot_heap w.params) (hZ w.params)) = true := by kernel_rfl!
theorem look2 (w : World) (os : OsState) : openSeen view [] (importedModules p.main.body) Xt true (sh (hZ w.params) 630 os) = openGood view [] := by rw [PySem.W.Fast.te4187177175401517315]; kernel_rfl!
theorem look3 (w : World) (os : OsState) : Hk.obs (sh (hZ w.params) 630 os) = Hk.val w := by kernel_rfl!
theorem left : LeftO p view [] Xt Hk.obs Hk.val 4294 true := LeftO.of_pieces opens size run (by kernel_rfl!) (fun w => funext fun os => by rw [look1, look2, look3])
theorem said : PySem.Challenge.rw_roofridges_k10_whole_turns_go_round.wellSaid = true := by rw [PySem.W.Fast.te9446332074065402090]; kernel_rfl!
end
end HD
namespace Q
open PySem L2 Z
theorem dens_ns {K : Fg} {G : Hp} : ∀ ns : List Int, Dens K G (ns.map D.int) (ns.map V.int)
 | [] => by simp only [List.map, Dens]
 | n :: ns => by simp only [List.map, Dens]; exact ⟨_, _, rfl, by simp only [Den], dens_ns ns⟩
open HB in
theorem all_mk {l : PySem.W.OpenLaw} {w : World} {h : Heap} {mg : Str → Option Value} {fa : Addr} (X : (HD.K w.params).In h) (G : h.Ns mainGlobals mg) (hfa : mg "law" = some (.ref fa)) :
  ∃ fd : FuncData, (∀ (s : Shared) (v : Value), BindsTo s fd ⟨[v], []⟩ [("_law_script", v)]) ∧ ∀ base : Heap, (HD.K w.params).In base → base.Ns mainGlobals mg → FnOk l.prog w (HD.K w.params) mg base CX0 9 fa fd ["_law_script"] (spZ (HD.K w.params) cLaw) := by
 have T : Bt mg := mkB X G (by kernel_rfl!)
 have C_FARTHEST := PySem.W.mg_of X G (by kernel_rfl! : PySem.W.nsIn (HD.K w.params) mainGlobals "FARTHEST" = some (some (J 1000000000 333)))
 have C_MOST_LINES := PySem.W.mg_of X G (by kernel_rfl! : PySem.W.nsIn (HD.K w.params) mainGlobals "MOST_LINES" = some (some (J 7 331)))
 have C_NOUGHT := PySem.W.mg_of X G (by kernel_rfl! : PySem.W.nsIn (HD.K w.params) mainGlobals "NOUGHT" = some (some (R 52)))
 have E_NOUGHT : ∀ G, Den (HD.K w.params) G (dL (p1 0)) (.ref 52) := fun G => den_pr (by kernel_rfl! : List.lookup 52 (HD.K w.params) = some (tO [(J 0 241), (J 1 242)]))
 have D1 := mkD X G "_law_feed" pI ["_law_script", "_law_k"] 280 279 (S "law_roofridges_k10_whole_turns_go_round" 515) (by kernel_rfl!) (by kernel_rfl!) (by kernel_rfl!) (by kernel_rfl!) (fun _ _ _ _ _ _ us hl => match us, hl with | [_, _], _ => rfl)
 have D2 := mkD X G "is_whole" gP ["thing"] 59 58 (S "roofridges.fractions" 239) (by kernel_rfl!) (by kernel_rfl!) (by kernel_rfl!) (by kernel_rfl!) (fun _ _ _ _ _ _ us hl => match us, hl with | [_], _ => rfl)
 have D3 := mkD X G "common_divisor" d8 ["one", "other"] 66 65 (S "roofridges.fractions" 239) (by kernel_rfl!) (by kernel_rfl!) (by kernel_rfl!) (by kernel_rfl!) (fun _ _ _ _ _ _ us hl => match us, hl with | [_, _], _ => rfl)
 have D4 := mkD X G "under" kL ["one", "other"] 115 114 (S "roofridges.fractions" 239) (by kernel_rfl!) (by kernel_rfl!) (by kernel_rfl!) (by kernel_rfl!) (fun _ _ _ _ _ _ us hl => match us, hl with | [_, _], _ => rfl)
 have D5 := mkD X G "merged" lG ["one", "other"] 122 121 (S "roofridges.fractions" 239) (by kernel_rfl!) (by kernel_rfl!) (by kernel_rfl!) (by kernel_rfl!) (fun _ _ _ _ _ _ us hl => match us, hl with | [_, _], _ => rfl)
 have D6 := mkD X G "bands_at" i5 ["lines", "where"] 179 178 (S "roofridges.yards" 329) (by kernel_rfl!) (by kernel_rfl!) (by kernel_rfl!) (by kernel_rfl!) (fun _ _ _ _ _ _ us hl => match us, hl with | [_, _], _ => rfl)
 have D7 := mkD X G "has_cell" iZ ["yard", "across", "up"] 186 185 (S "roofridges.yards" 329) (by kernel_rfl!) (by kernel_rfl!) (by kernel_rfl!) (by kernel_rfl!) (fun _ _ _ _ _ _ us hl => match us, hl with | [_, _, _], _ => rfl)
 have D8 := mkD X G "finer_row" iG ["yard", "acrosses", "up"] 237 236 (S "roofridges.sets" 465) (by kernel_rfl!) (by kernel_rfl!) (by kernel_rfl!) (by kernel_rfl!) (fun _ _ _ _ _ _ us hl => match us, hl with | [_, _, _], _ => rfl)
 have D9 := mkD X G "finer_rows" gZ ["yard", "xs", "ys"] 242 241 (S "roofridges.sets" 465) (by kernel_rfl!) (by kernel_rfl!) (by kernel_rfl!) (by kernel_rfl!) (fun _ _ _ _ _ _ us hl => match us, hl with | [_, _, _], _ => rfl)
 have D10 := mkD X G "chosen_row" gM ["one", "other", "pairs"] 247 246 (S "roofridges.sets" 465) (by kernel_rfl!) (by kernel_rfl!) (by kernel_rfl!) (by kernel_rfl!) (fun _ _ _ _ _ _ us hl => match us, hl with | [_, _, _], _ => rfl)
 have D11 := mkD X G "column" lF ["rows", "place"] 137 136 (S "roofridges.yards" 329) (by kernel_rfl!) (by kernel_rfl!) (by kernel_rfl!) (by kernel_rfl!) (fun _ _ _ _ _ _ us hl => match us, hl with | [_, _], _ => rfl)
 have D12 := mkD X G "columns" iQ ["rows"] 142 141 (S "roofridges.yards" 329) (by kernel_rfl!) (by kernel_rfl!) (by kernel_rfl!) (by kernel_rfl!) (fun _ _ _ _ _ _ us hl => match us, hl with | [_], _ => rfl)
 have D13 := mkD X G "changes" jZ ["bands"] 147 146 (S "roofridges.yards" 329) (by kernel_rfl!) (by kernel_rfl!) (by kernel_rfl!) (by kernel_rfl!) (fun _ _ _ _ _ _ us hl => match us, hl with | [_], _ => rfl)
 have D14 := mkD X G "picked" k7 ["row", "places"] 152 151 (S "roofridges.yards" 329) (by kernel_rfl!) (by kernel_rfl!) (by kernel_rfl!) (by kernel_rfl!) (fun _ _ _ _ _ _ us hl => match us, hl with | [_, _], _ => rfl)
 have D15 := mkD X G "tidied" jP ["xs", "ys", "rows"] 157 156 (S "roofridges.yards" 329) (by kernel_rfl!) (by kernel_rfl!) (by kernel_rfl!) (by kernel_rfl!) (fun _ _ _ _ _ _ us hl => match us, hl with | [_, _, _], _ => rfl)
 have D16 := mkD X G "chosen" hW ["one", "other", "pairs"] 252 251 (S "roofridges.sets" 465) (by kernel_rfl!) (by kernel_rfl!) (by kernel_rfl!) (by kernel_rfl!) (fun _ _ _ _ _ _ us hl => match us, hl with | [_, _, _], _ => rfl)
 have D17 := mkD X G "both" pG ["one", "other"] 259 258 (S "roofridges.sets" 465) (by kernel_rfl!) (by kernel_rfl!) (by kernel_rfl!) (by kernel_rfl!) (fun _ _ _ _ _ _ us hl => match us, hl with | [_, _], _ => rfl)
 have D18 := mkD X G "either" lI ["one", "other"] 266 265 (S "roofridges.sets" 465) (by kernel_rfl!) (by kernel_rfl!) (by kernel_rfl!) (by kernel_rfl!) (fun _ _ _ _ _ _ us hl => match us, hl with | [_, _], _ => rfl)
 have D19 := mkD X G "less" o5 ["one", "other"] 273 272 (S "roofridges.sets" 465) (by kernel_rfl!) (by kernel_rfl!) (by kernel_rfl!) (by kernel_rfl!) (fun _ _ _ _ _ _ us hl => match us, hl with | [_, _], _ => rfl)
 have D20 := mkD X G "lowest" fA ["top", "bottom"] 73 72 (S "roofridges.fractions" 239) (by kernel_rfl!) (by kernel_rfl!) (by kernel_rfl!) (by kernel_rfl!) (fun _ _ _ _ _ _ us hl => match us, hl with | [_, _], _ => rfl)
 have D21 := mkD X G "fraction" i3 ["top", "bottom"] 80 79 (S "roofridges.fractions" 239) (by kernel_rfl!) (by kernel_rfl!) (by kernel_rfl!) (by kernel_rfl!) (fun _ _ _ _ _ _ us hl => match us, hl with | [_, _], _ => rfl)
 have D22 := mkD X G "plus" mH ["one", "other"] 87 86 (S "roofridges.fractions" 239) (by kernel_rfl!) (by kernel_rfl!) (by kernel_rfl!) (by kernel_rfl!) (fun _ _ _ _ _ _ us hl => match us, hl with | [_, _], _ => rfl)
 have D23 := mkD X G "minus" kR ["one", "other"] 94 93 (S "roofridges.fractions" 239) (by kernel_rfl!) (by kernel_rfl!) (by kernel_rfl!) (by kernel_rfl!) (fun _ _ _ _ _ _ us hl => match us, hl with | [_, _], _ => rfl)
 have D24 := mkD X G "times" kB ["one", "other"] 101 100 (S "roofridges.fractions" 239) (by kernel_rfl!) (by kernel_rfl!) (by kernel_rfl!) (by kernel_rfl!) (fun _ _ _ _ _ _ us hl => match us, hl with | [_, _], _ => rfl)
 have D25 := mkD X G "over" oX ["one", "other"] 108 107 (S "roofridges.fractions" 239) (by kernel_rfl!) (by kernel_rfl!) (by kernel_rfl!) (by kernel_rfl!) (fun _ _ _ _ _ _ us hl => match us, hl with | [_, _], _ => rfl)
 have D26 := mkD X G "stretched" fX ["yard", "by_x", "by_y"] 218 217 (S "roofridges.moves" 412) (by kernel_rfl!) (by kernel_rfl!) (by kernel_rfl!) (by kernel_rfl!) (fun _ _ _ _ _ _ us hl => match us, hl with | [_, _, _], _ => rfl)
 have D27 := mkD X G "moved" kD ["yard", "x", "y"] 203 202 (S "roofridges.moves" 412) (by kernel_rfl!) (by kernel_rfl!) (by kernel_rfl!) (by kernel_rfl!) (fun _ _ _ _ _ _ us hl => match us, hl with | [_, _, _], _ => rfl)
 have D28 := mkD X G "opposite" gY ["lines"] 191 190 (S "roofridges.moves" 412) (by kernel_rfl!) (by kernel_rfl!) (by kernel_rfl!) (by kernel_rfl!) (fun _ _ _ _ _ _ us hl => match us, hl with | [_], _ => rfl)
 have D29 := mkD X G "backward" gI ["row"] 198 197 (S "roofridges.moves" 412) (by kernel_rfl!) (by kernel_rfl!) (by kernel_rfl!) (by kernel_rfl!) (fun _ _ _ _ _ _ us hl => match us, hl with | [_], _ => rfl)
 have D30 := mkD X G "turned" jQ ["yard"] 208 207 (S "roofridges.moves" 412) (by kernel_rfl!) (by kernel_rfl!) (by kernel_rfl!) (by kernel_rfl!) (fun _ _ _ _ _ _ us hl => match us, hl with | [_], _ => rfl)
 have D31 := mkD X G "mirrored" gS ["yard"] 213 212 (S "roofridges.moves" 412) (by kernel_rfl!) (by kernel_rfl!) (by kernel_rfl!) (by kernel_rfl!) (fun _ _ _ _ _ _ us hl => match us, hl with | [_], _ => rfl)
 have D32 := mkD X G "turned_paces" fN ["paces"] 225 224 (S "roofridges.moves" 412) (by kernel_rfl!) (by kernel_rfl!) (by kernel_rfl!) (by kernel_rfl!) (fun _ _ _ _ _ _ us hl => match us, hl with | [_], _ => rfl)
 have D33 := mkD X G "mirrored_paces" eB ["paces"] 232 231 (S "roofridges.moves" 412) (by kernel_rfl!) (by kernel_rfl!) (by kernel_rfl!) (by kernel_rfl!) (fun _ _ _ _ _ _ us hl => match us, hl with | [_], _ => rfl)
 have D34 := mkD X G "is_row" kU ["thing", "wide"] 127 126 (S "roofridges.yards" 329) (by kernel_rfl!) (by kernel_rfl!) (by kernel_rfl!) (by kernel_rfl!) (fun _ _ _ _ _ _ us hl => match us, hl with | [_, _], _ => rfl)
 have D35 := mkD X G "rows_fit" iX ["rows", "xs", "ys"] 132 131 (S "roofridges.yards" 329) (by kernel_rfl!) (by kernel_rfl!) (by kernel_rfl!) (by kernel_rfl!) (fun _ _ _ _ _ _ us hl => match us, hl with | [_, _, _], _ => rfl)
 have D36 := mkD X G "is_whole_line" eU ["thing"] 164 163 (S "roofridges.yards" 329) (by kernel_rfl!) (by kernel_rfl!) (by kernel_rfl!) (by kernel_rfl!) (fun _ _ _ _ _ _ us hl => match us, hl with | [_], _ => rfl)
 have D37 := mkD X G "are_whole_lines" dR ["thing"] 169 168 (S "roofridges.yards" 329) (by kernel_rfl!) (by kernel_rfl!) (by kernel_rfl!) (by kernel_rfl!) (fun _ _ _ _ _ _ us hl => match us, hl with | [_], _ => rfl)
 have D38 := mkD X G "made" o4 ["xs", "ys", "rows"] 174 173 (S "roofridges.yards" 329) (by kernel_rfl!) (by kernel_rfl!) (by kernel_rfl!) (by kernel_rfl!) (fun _ _ _ _ _ _ us hl => match us, hl with | [_, _, _], _ => rfl)
 have D39 := mkD X G "_law_next" j9 ["_law_feed_here", "_law_many"] 287 286 (S "law_roofridges_k10_whole_turns_go_round" 515) (by kernel_rfl!) (by kernel_rfl!) (by kernel_rfl!) (by kernel_rfl!) (fun _ _ _ _ _ _ us hl => match us, hl with | [_, _], _ => rfl)
 have D40 := mkD X G "_law_lines" nA ["_law_feed_here"] 294 293 (S "law_roofridges_k10_whole_turns_go_round" 515) (by kernel_rfl!) (by kernel_rfl!) (by kernel_rfl!) (by kernel_rfl!) (fun _ _ _ _ _ _ us hl => match us, hl with | [_], _ => rfl)
 have D41 := mkD X G "_law_rows" oW ["_law_feed_here", "_law_xs", "_law_ys"] 299 298 (S "law_roofridges_k10_whole_turns_go_round" 515) (by kernel_rfl!) (by kernel_rfl!) (by kernel_rfl!) (by kernel_rfl!) (fun _ _ _ _ _ _ us hl => match us, hl with | [_, _, _], _ => rfl)
 have D42 := mkD X G "_law_number" kX ["_law_top", "_law_bottom"] 306 305 (S "law_roofridges_k10_whole_turns_go_round" 515) (by kernel_rfl!) (by kernel_rfl!) (by kernel_rfl!) (by kernel_rfl!) (fun _ _ _ _ _ _ us hl => match us, hl with | [_, _], _ => rfl)
 have D43 := mkD X G "_law_round" mQ ["_law_yard", "_law_paces"] 313 312 (S "law_roofridges_k10_whole_turns_go_round" 515) (by kernel_rfl!) (by kernel_rfl!) (by kernel_rfl!) (by kernel_rfl!) (fun _ _ _ _ _ _ us hl => match us, hl with | [_, _], _ => rfl)
 have D44 := mkD X G "_law_summed" lE ["_law_yard", "_law_some"] 320 319 (S "law_roofridges_k10_whole_turns_go_round" 515) (by kernel_rfl!) (by kernel_rfl!) (by kernel_rfl!) (by kernel_rfl!) (fun _ _ _ _ _ _ us hl => match us, hl with | [_, _], _ => rfl)
 have D45 := mkD X G "_law_stretches" iE ["_law_yard", "_law_some"] 327 326 (S "law_roofridges_k10_whole_turns_go_round" 515) (by kernel_rfl!) (by kernel_rfl!) (by kernel_rfl!) (by kernel_rfl!) (fun _ _ _ _ _ _ us hl => match us, hl with | [_, _], _ => rfl)
 have D46 := mkD X G "_law_brought" jW ["_law_way", "_law_yard", "_law_some"] 334 333 (S "law_roofridges_k10_whole_turns_go_round" 515) (by kernel_rfl!) (by kernel_rfl!) (by kernel_rfl!) (by kernel_rfl!) (fun _ _ _ _ _ _ us hl => match us, hl with | [_, _, _], _ => rfl)
 have D47 := mkD X G "_law_together" iY ["_law_one", "_law_other", "_law_some"] 341 340 (S "law_roofridges_k10_whole_turns_go_round" 515) (by kernel_rfl!) (by kernel_rfl!) (by kernel_rfl!) (by kernel_rfl!) (fun _ _ _ _ _ _ us hl => match us, hl with | [_, _, _], _ => rfl)
 have D48 := mkD X G "law" mV ["_law_script"] 346 345 (S "law_roofridges_k10_whole_turns_go_round" 515) (by kernel_rfl!) (by kernel_rfl!) (by kernel_rfl!) (by kernel_rfl!) (fun _ _ _ _ _ _ us hl => match us, hl with | [_], _ => rfl)
 cases hfa.symm.trans D48.m
 refine ⟨PySem.W.fnOf "law" "law" (fQ mV) (dW mV) (aH mV) .none .none .none (S "law_roofridges_k10_whole_turns_go_round" 515) none (.ref 345) .none, fun s v => .of_eq rfl, fun base _ _ => ?_⟩
 have G1 := ok_feed (P := l.prog) (w := w) (base := base) D1 T
 have G2 := tN (P := l.prog) (w := w) (base := base) D2 T
 have G3 := nL (P := l.prog) (w := w) (base := base) D3 T
 have G4 := ok_under (P := l.prog) (w := w) (base := base) D4
 have G5 := ok_merged (P := l.prog) (w := w) (base := base) D5 D4 G4 T
 have G6 := uE (P := l.prog) (w := w) (base := base) D6 D4 G4 T
 have G7 := tR (P := l.prog) (w := w) (base := base) D7 T
 have G8 := rD (P := l.prog) (w := w) (base := base) D8 D7 G7 T
 have G9 := qZ (P := l.prog) (w := w) (base := base) D9 D6 G6 D8 G8 T
 have G10 := q5 (P := l.prog) (w := w) (base := base) D10 T
 have G11 := ok_column (P := l.prog) (w := w) (base := base) D11
 have G12 := uW (P := l.prog) (w := w) (base := base) D12 D11 G11 T
 have G13 := uF (P := l.prog) (w := w) (base := base) D13 T
 have G14 := ok_picked (P := l.prog) (w := w) (base := base) D14
 have G15 := ok_tidied (P := l.prog) (w := w) (base := base) D15 D13 G13 D12 G12 D14 G14 T
 have G16 := ok_chosen (P := l.prog) (w := w) (base := base) D16 D5 G5 D9 G9 D10 G10 D15 G15 T
 have G17 := ok_both (P := l.prog) (w := w) (base := base) D17 D16 G16
 have G18 := ok_either (P := l.prog) (w := w) (base := base) D18 D16 G16
 have G19 := ok_less (P := l.prog) (w := w) (base := base) D19 D16 G16
 have G20 := ok_lowest (P := l.prog) (w := w) (base := base) D20 D3 G3
 have G21 := tZ (P := l.prog) (w := w) (base := base) D21 D2 G2 D20 G20
 have G22 := ok_plus (P := l.prog) (w := w) (base := base) D22 D20 G20
 have G23 := ok_minus (P := l.prog) (w := w) (base := base) D23 D20 G20
 have G24 := ok_times (P := l.prog) (w := w) (base := base) D24 D20 G20
 have G25 := ok_over (P := l.prog) (w := w) (base := base) D25 D20 G20
 have G26 := rF (P := l.prog) (w := w) (base := base) D26 D24 G24 T
 have G27 := ok_moved (P := l.prog) (w := w) (base := base) D27 D22 G22 T
 have G28 := tX (P := l.prog) (w := w) (base := base) D28 D23 G23 T C_NOUGHT E_NOUGHT
 have G29 := uB (P := l.prog) (w := w) (base := base) D29 T
 have G30 := ok_turned (P := l.prog) (w := w) (base := base) D30 D29 G29 D12 G12 D28 G28 T
 have G31 := tY (P := l.prog) (w := w) (base := base) D31 D29 G29 D28 G28 T
 have G32 := oZ (P := l.prog) (w := w) (base := base) D32
 have G33 := nJ (P := l.prog) (w := w) (base := base) D33
 have G34 := ok_is_row (P := l.prog) (w := w) (base := base) D34 T
 have G35 := uD (P := l.prog) (w := w) (base := base) D35 D34 G34 T
 have G36 := oJ (P := l.prog) (w := w) (base := base) D36 D2 G2 C_FARTHEST
 have G37 := l6 (P := l.prog) (w := w) (base := base) D37 D36 G36 T C_MOST_LINES
 have G38 := ok_made (P := l.prog) (w := w) (base := base) D38 D37 G37 D35 G35 D15 G15 D21 G21 T
 have G39 := ok_next (P := l.prog) (w := w) (base := base) D39
 have G40 := ok_lines (P := l.prog) (w := w) (base := base) D40 D39 G39 T
 have G41 := ok_rows (P := l.prog) (w := w) (base := base) D41 D39 G39 T
 have G42 := ok_number (P := l.prog) (w := w) (base := base) D42 T
 have G43 := ok_round (P := l.prog) (w := w) (base := base) D43 D30 G30 D32 G32 D31 G31 D33 G33 T
 have G44 := ok_summed (P := l.prog) (w := w) (base := base) D44 D27 G27 D22 G22 D23 G23 T
 have G45 := rH (P := l.prog) (w := w) (base := base) D45 D26 G26 D24 G24 D25 G25
 have G46 := uQ (P := l.prog) (w := w) (base := base) D46 D27 G27 D30 G30 D31 G31 D26 G26
 have G47 := tS (P := l.prog) (w := w) (base := base) D47 D46 G46 D17 G17 D18 G18 D19 G19 T
 have G48 := ok_law (P := l.prog) (w := w) (base := base) D48 D1 G1 D40 G40 D41 G41 D38 G38 D39 G39 D42 G42 D43 G43 D44 G44 D45 G45 D47 G47 T
 exact G48
theorem walk {l : PySem.W.OpenLaw} {q : Program} {loose : List Str} {XP : (Str → Option Value) → Heap → Prop} {YP : World → Heap → Prop} {d : DefRec} {K : Params → PySem.W.Frag} (hn : l.most = some 63) (hdf : d.params.defaults = [])
  (hY : ∀ (w : World) (h : Heap), YP w h → (K w.params).In h)
  (F : ∀ (w : World) (mg : Str → Option Value) (fa : Addr) (h : Heap), (K w.params).In h → h.Ns mainGlobals mg → mg d.name = some (.ref fa) →
   ∃ fd : FuncData, (∀ (s : Shared) (u : Value), BindsTo s fd ⟨[u], []⟩ [("_law_script", u)]) ∧ ∀ base : Heap, (K w.params).In base → base.Ns mainGlobals mg → FnOk l.prog w (K w.params) mg base CX0 9 fa fd ["_law_script"] (spZ (K w.params) cLaw)) :
  PySem.W.WalkO q loose XP YP l.row.toRowW d [] (fun f vs => PySem.call f vs) :=
 L2.walk_of (n := 63) (k := 9) (x := "_law_script") (CX := fun _ => CX0) (sp := fun w => spZ (K w.params) cLaw) hn (by decide) hdf ⟨rfl, by decide, by decide, rfl⟩ hY F
  (fun w H a ns hl _ hS => ⟨H, fun _ => none, [.fl (ns.map .int)], fun d _ => d = .bl true, ⟨Same.refl H, nofun⟩, ⟨_, _, rfl, den_fl hS (dens_ns ns), by simp only [Dens]⟩, ⟨ns, rfl, hl, fun _ => rfl⟩, fun v G' H' d M' _ hd e => by subst e; simpa only [Den] using hd⟩) fun _ _ _ _ _ z => z
end Q
open PySem PySem.W PyProof.Rows
set_option maxRecDepth 100000 in
set_option maxHeartbeats 0 in
theorem PySem.Challenge.cw_roofridges_k10_whole_turns_go_round_holds : PySem.Challenge.rw_roofridges_k10_whole_turns_go_round.Holds := by
 w_on
 refine holds_law HD.said fun said => ?_
 refine holds_open (q := HD.view) (loose := []) (Xt := HD.Xt) (XP := XL HD.view []) (Yf := HD.Hk.obs) (Ya := HD.Hk.val) (YP := HD.Hk.says) HD.left (Hook.of HD.Hk) (Hook.keeps HD.Hk) (fun s e => xl_of s (Bool.and_eq_true_iff.mp e).1) XL.keeps (by rfl) (by rfl) (by rfl) (fun s e => recFacts_of (Bool.and_eq_true_iff.mp e).2) (by rfl) (by first | assumption | decide +kernel) (by decide +kernel) ⟨rfl, rfl, rfl, rfl, rfl, by decide +kernel⟩ ?hw ?hc
 case hw => w_witness2
 exact Q.walk (l := PySem.Challenge.rw_roofridges_k10_whole_turns_go_round) (K := HD.K) rfl rfl (fun w h Y => PySem.W.kIn_of Y) fun w mg fa h KX G hmg => Q.all_mk KX G hmg
