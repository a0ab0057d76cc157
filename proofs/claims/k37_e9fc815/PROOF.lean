import PyProof.Rows.All
import Wide.All
import OpenK.AllK
import Wide.FinOn
import Lean
import PyProof.EqAt
import PyProof.EqKinds
import PyProof.TupleCall
import PySem.Challenge.RW_meetvalue_k37_rows_read
set_option Elab.async false
set_option linter.all false
set_option maxRecDepth 100000
set_option maxHeartbeats 4000000
namespace L2
open PySem PySem.Spec PyProof.Rows
abbrev M9 := Sum Int Str
def kD : M9 → Value → Bool
 | .inl k,v=>Value.isInt k v
 | .inr x,v=>Value.isStrOf x v
def BG4 (w : World) : M9 → Int
 | .inl k=>hashInt k
 | .inr x=>hashStr w x
theorem Q2 : ∀ {k : M9} {v : Value},kD k v = true → (∃ i t,k = Sum.inl i ∧ v = Value.int i t) ∨ (∃ x t,k = Sum.inr x ∧ v = Value.str x t)
 | .inl i,v,h=>by
  obtain ⟨t,e⟩ := Value.isInt_shape (k := i) (v := v) h
  exact .inl ⟨i,t,rfl,e⟩
 | .inr x,v,h=>by
  obtain ⟨t,e⟩ := Value.isStrOf_shape (x := x) (v := v) h
  exact .inr ⟨x,t,rfl,e⟩
theorem yS (i : Int) (t : Tok) : kD (.inl i) (.int i t) = true := by simp [kD,Value.isInt]
theorem yR (x : Str) (t : Tok) : kD (.inr x) (.str x t) = true := by simp [kD,Value.isStrOf]
theorem AW6 (a b : Int) : decide ((Sum.inl a : M9) = Sum.inl b) = (a == b) := by
 by_cases e : a = b
 ·subst e; simp
 ·have h : ¬ (Sum.inl a : M9) = Sum.inl b := fun q=>e (Sum.inl.inj q)
  rw [decide_eq_false h]
  exact (beq_eq_false_iff_ne.mpr e).symm
theorem AW3 (a b : Str) : decide ((Sum.inr a : M9) = Sum.inr b) = decide (a = b) := by
 by_cases e : a = b
 ·subst e; simp
 ·have h : ¬ (Sum.inr a : M9) = Sum.inr b := fun q=>e (Sum.inr.inj q)
  rw [decide_eq_false h,decide_eq_false e]
theorem AW5 (a : Int) (b : Str) : decide ((Sum.inl a : M9) = Sum.inr b) = false := decide_eq_false (fun q=>nomatch q)
theorem AW4 (a : Str) (b : Int) : decide ((Sum.inr a : M9) = Sum.inl b) = false := decide_eq_false (fun q=>nomatch q)
def S4 (prog : Program) (w : World) : PySem.KeyKind prog w M9 where
 is := kD
 hash := BG4 w
 inj := fun v a b ha hb=>by
  rcases Q2 ha with ⟨i,t,rfl,rfl⟩ | ⟨x,t,rfl,rfl⟩
  ·rcases Q2 hb with ⟨j,u,rfl,e⟩ | ⟨y,u,rfl,e⟩
   ·injection e with e1 _; rw [e1]
   ·exact nomatch e
  ·rcases Q2 hb with ⟨j,u,rfl,e⟩ | ⟨y,u,rfl,e⟩
   ·exact nomatch e
   ·injection e with e1 _; rw [e1]
 byValue := fun k v h=>by
  rcases Q2 h with ⟨i,t,rfl,rfl⟩ | ⟨x,t,rfl,rfl⟩ <;> rfl
 pyHash := fun hv h=>by
  rcases Q2 hv with ⟨i,t,rfl,rfl⟩ | ⟨x,t,rfl,rfl⟩
  ·exact wpAny_pyHash_int h
  ·exact wpAny_pyHash_str h
 eqBool := fun hu hv h=>by
  rcases Q2 hu with ⟨i,t,rfl,rfl⟩ | ⟨x,t,rfl,rfl⟩
  ·rcases Q2 hv with ⟨j,u,rfl,rfl⟩ | ⟨y,u,rfl,rfl⟩
   ·rw [AW6] at h; exact wpAny_eqBool_int h
   ·rw [AW5] at h; exact SeqAt.EqAt.int_str i t y u _ _ _ _ h
  ·rcases Q2 hv with ⟨j,u,rfl,rfl⟩ | ⟨y,u,rfl,rfl⟩
   ·rw [AW4] at h; exact SeqAt.EqAt.str_int x t j u _ _ _ _ h
   ·rw [AW3] at h; exact wpAny_eqBool_str h
 «strs» := fun k x t v h=>by
  rcases Q2 h with ⟨i,u,rfl,e⟩ | ⟨y,u,rfl,e⟩
  ·exact nomatch e
  ·injection e with e1 _
   subst e1
   cases v <;> rfl
theorem tP (prog : Program) (w : World) (i : Int) (t : Tok) : (S4 prog w).is (.inl i) (.int i t) = true := yS i t
theorem tO (prog : Program) (w : World) (x : Str) (t : Tok) : (S4 prog w).is (.inr x) (.str x t) = true := yR x t
end L2
namespace L2
open PySem PySem.Spec PyProof.Rows
inductive V where
 | non | bl (b : Bool) | int (i : Int) | str (x : Str) | byt (b : Array UInt8) | flt (b : UInt64) | ref (a : Addr) | ty (n : String)
 deriving DecidableEq
def RelV : V → Value → Prop
 | .non,u=>u = Value.none
 | .bl b,u=>u = Value.bool b
 | .int i,u=>∃ t,u = Value.int i t
 | .str x,u=>∃ t,u = Value.str x t
 | .byt b,u=>∃ t,u = Value.bytes b t
 | .flt b,u=>∃ t,u = Value.float b t
 | .ref a,u=>u = Value.ref a
 | .ty n,u=>u = Value.type n
abbrev Vals : List V → List Value → Prop := Paired RelV
theorem Vals.length {xs : List V} {us : List Value} (r : Vals xs us) : xs.length = us.length := Paired.length r
theorem Vals.get : ∀ {xs : List V} {us : List Value} {i : Nat} {x : V},Vals xs us → xs[i]? = some x → ∃ u,us[i]? = some u ∧ RelV x u
 | _,_,_,_,.nil,e=>by simp at e
 | _,_,0,_,.cons r _,e=>by simp at e; subst e; exact ⟨_,rfl,r⟩
 | _,_,i + 1,x,.cons _ t,e=>by
  obtain ⟨u,h1,h2⟩ := Vals.get (i := i) (x := x) t (by simpa using e)
  exact ⟨u,by simpa using h1,h2⟩
theorem Vals.set {x : V} {u : Value} (r : RelV x u) : ∀ {xs : List V} {us : List Value} (i : Nat),Vals xs us → Vals (xs.set i x) (us.set i u)
 | _,_,_,.nil=>.nil
 | _,_,0,.cons _ t=>.cons r t
 | _,_,i + 1,.cons q t=>.cons q (Vals.set r i t)
theorem Vals.append : ∀ {xs ys : List V} {us ws : List Value},Vals xs us → Vals ys ws → Vals (xs ++ ys) (us ++ ws)
 | _,_,_,_,.nil,s=>s
 | _,_,_,_,.cons r t,s=>.cons r (Vals.append t s)
theorem Vals.take : ∀ {xs : List V} {us : List Value} (n : Nat),Vals xs us → Vals (xs.take n) (us.take n)
 | _,_,0,_=>.nil
 | _,_,_ + 1,.nil=>.nil
 | _,_,n + 1,.cons r t=>.cons r (Vals.take n t)
theorem Vals.drop : ∀ {xs : List V} {us : List Value} (n : Nat),Vals xs us → Vals (xs.drop n) (us.drop n)
 | _,_,0,r=>r
 | _,_,_ + 1,.nil=>.nil
 | _,_,n + 1,.cons _ t=>Vals.drop n t
def RelO : Option V → Option Value → Prop
 | some v,some u=>RelV v u
 | none,none=>True
 | _,_=>False
def KV {κ : Type} : List (κ × V) → List (κ × Value) → Prop := Paired fun (p : κ × V) (q : κ × Value)=>p.1 = q.1 ∧ RelV p.2 q.2
def kV : M9 → V
 | .inl i=>.int i
 | .inr x=>.str x
inductive HO where
 | lst (xs : List V)
 | tup (xs : List V)
 | dK (kvs : List (M9 × V)) | dT (kvs : List (List M9 × V))
 | set (S : Int → Bool) (n : Nat)
 | ins (C dx : Addr) (fs : List (Str × V))
 | own (x : Addr)
 | xd (fs : List (Str × V))
 | met (f x : Addr)
 | rng (lo hi : Int)
 | frz (o : Obj) (u : HO)
 | tbl (ps : Array Value)
 | ext (φ : Heap → Prop)
abbrev Hp := Addr → Option HO
def D5 (H : Hp) (a : Addr) (o : HO) : Hp := fun b=>if b = a then some o else H b
theorem A6 {H : Hp} {a : Addr} {o : HO} : D5 H a o a = some o := by unfold D5; rw [if_pos rfl]
theorem B5 {H : Hp} {a b : Addr} {o : HO} (h : b ≠ a) : D5 H a o b = H b := by unfold D5; rw [if_neg h]
theorem jI {H : Hp} {a : Addr} {o u : HO} : D5 (D5 H a o) a u = D5 H a u := by
 funext b; unfold D5; split <;> rfl
theorem BB3 {H : Hp} {a b : Addr} {o u : HO} (h : H a = some o) (h' : H b = some u) (d : o ≠ u) : a ≠ b := by
 intro e; subst e; rw [h] at h'; exact d (Option.some.inj h')
theorem D8 {H : Hp} {a b : Addr} {o : HO} (h : H a = some o) (h' : H b = none) : a ≠ b := by
 intro e; subst e; rw [h] at h'; cases h'
section
variable (P : Program) (w : World)
def ObjOk (H : Hp) (h : Heap) (a : Addr) : HO → Prop
 | .lst xs=>xs.length ≤ sizeLine ∧ ∃ (its : List Value) (n : Nat),Vals xs its ∧ h.get? a = some { cls := .type "list",data := .seq its.toArray n }
 | .tup xs=>xs.length ≤ sizeLine ∧ ∃ its : List Value,Vals xs its ∧ IsTup h a its.toArray
 | .dK kvs=>kvs.length ≤ sizeLine ∧ (a == sysModules) = false ∧ ∃ vs,KV kvs vs ∧ h.DictOf (S4 P w) a vs
 | .dT kvs=>kvs.length ≤ sizeLine ∧ (a == sysModules) = false ∧ ∃ xs : List (List M9 × Addr × Value),
   Paired (fun (p : List M9 × V) (q : List M9 × Addr × Value)=>p.1 = q.1 ∧ H q.2.1 = some (.tup (p.1.map kV)) ∧ RelV p.2 q.2.2) kvs xs ∧
   ∃ o es ep,h.get? a = some o ∧ o.ExactDict ∧ o.data = .dict es ep ∧ es.toList = xs.map (entryOfKey (tupleKind (S4 P w))) ∧ (xs.map (·.1)).Nodup
 | .set S n=>h.SetOf (intKind P w) a S n
 | .ins C dx fs=>H dx = some (.own a) ∧ fs.length ≤ 1000 ∧ dx ≠ a ∧ h.get? a = some (PySem.W.instObj C dx) ∧
   ∃ mA,h.Ns1 dx mA ∧ (∀ f,RelO (fs.lookup f) (mA f)) ∧ PySem.Within mA (fs.map (·.1))
 | .own _=>∃ o,h.get? a = some o
 | .xd fs=>∃ mA,h.Ns1 a mA ∧ ∀ f,RelO (fs.lookup f) (mA f)
 | .rng lo hi=>∃ t u v,h.get? a = some { cls := .type "range",data := .fields #[.int lo t,.int hi u,.int 1 v] }
 | .frz o u=>h.get? a = some o ∧ ObjOk H h a u
 | .tbl ps=>h.get? a = some { cls := .none,data := .fields ps }
 | .met f x=>h.get? a = some (PySem.W.methodObj (.ref f) (.ref x))
 | .ext φ=>φ h ∧ (∃ o,h.get? a = some o) ∧ ∀ h1 h2 : Heap,φ h1 → (∀ o,h1.get? a = some o → h2.get? a = some o) → φ h2
def HOk (H : Hp) (h : Heap) : Prop := ∀ a o,H a = some o → ObjOk P w H h a o
end
section
variable {P : Program} {w : World} {H H' : Hp} {h h' : Heap} {a : Addr} {o : HO}
theorem ObjOk.lt (x : ObjOk P w H h a o) : a < h.objs.size := by
 cases o with
 | lst xs=>obtain ⟨_,_,_,_,e⟩ := x; exact Heap.lt_size e
 | tup xs=>obtain ⟨_,_,_,p⟩ := x; exact p.lt
 | dK kvs=>obtain ⟨_,_,_,_,o,_,_,e,_⟩ := x; exact Heap.lt_size e
 | dT kvs=>obtain ⟨_,_,_,_,o,_,_,e,_⟩ := x; exact Heap.lt_size e
 | set S n=>obtain ⟨o,_,_,_,e,_⟩ := x; exact Heap.lt_size e
 | ins C dx fs=>obtain ⟨_,_,_,e,_⟩ := x; exact Heap.lt_size e
 | own y=>obtain ⟨_,e⟩ := x; exact Heap.lt_size e
 | xd fs=>obtain ⟨_,⟨_,_,_,e,_⟩,_⟩ := x; exact Heap.lt_size e
 | rng lo hi=>obtain ⟨_,_,_,e⟩ := x; exact Heap.lt_size e
 | frz ob u=>obtain ⟨e,_⟩ := x; exact Heap.lt_size e
 | tbl ps=>exact Heap.lt_size (show h.get? a = some _ from x)
 | met f y=>exact Heap.lt_size (show h.get? a = some _ from x)
 | ext φ=>obtain ⟨_,⟨_,e⟩,_⟩ := x; exact Heap.lt_size e
theorem Paired.mapP {α β : Type} {F G : α → β → Prop} : ∀ {l₁ : List α} {l₂ : List β},Paired F l₁ l₂ → (∀ a b,F a b → G a b) → Paired G l₁ l₂
 | _,_,.nil,_=>.nil
 | _,_,.cons r t,f=>.cons (f _ _ r) (Paired.mapP t f)
theorem ObjOk.stay (x : ObjOk P w H h a o) (k : ∀ b u,(b = a ∨ H b = some (.own a)) → h.get? b = some u → h'.get? b = some u)
  (ho : ∀ b,H b = some (.own a) → H' b = some (.own a)) (ht : ∀ b xs,H b = some (.tup xs) → H' b = some (.tup xs)) : ObjOk P w H' h' a o := by
 induction o with
 | lst xs=>obtain ⟨z,its,n,r,e⟩ := x; exact ⟨z,its,n,r,k _ _ (.inl rfl) e⟩
 | tup xs=>obtain ⟨z,its,r,ob,e,c⟩ := x; exact ⟨z,its,r,ob,k _ _ (.inl rfl) e,c⟩
 | dK kvs=>obtain ⟨z,y,vs,r,ob,es,ep,e,c⟩ := x; exact ⟨z,y,vs,r,ob,es,ep,k _ _ (.inl rfl) e,c⟩
 | dT kvs =>
  obtain ⟨z,y,xs,r,ob,es,ep,e,c⟩ := x
  exact ⟨z,y,xs,Paired.mapP r fun p q z=>⟨z.1,ht _ _ z.2.1,z.2.2⟩,ob,es,ep,k _ _ (.inl rfl) e,c⟩
 | set S n=>obtain ⟨ob,es,ep,t,e,c⟩ := x; exact ⟨ob,es,ep,t,k _ _ (.inl rfl) e,c⟩
 | ins C dx fs =>
  obtain ⟨d,z,ne,e,mA,⟨od,es,ep,e2,c⟩,r⟩ := x
  exact ⟨ho _ d,z,ne,k _ _ (.inl rfl) e,mA,⟨od,es,ep,k _ _ (.inr d) e2,c⟩,r⟩
 | own y=>obtain ⟨ob,e⟩ := x; exact ⟨ob,k _ _ (.inl rfl) e⟩
 | xd fs=>obtain ⟨mA,⟨od,es,ep,e,c⟩,r⟩ := x; exact ⟨mA,⟨od,es,ep,k _ _ (.inl rfl) e,c⟩,r⟩
 | rng lo hi=>obtain ⟨t,u,v,e⟩ := x; exact ⟨t,u,v,k _ _ (.inl rfl) e⟩
 | frz ob u ih=>obtain ⟨e,q⟩ := x; exact ⟨k _ _ (.inl rfl) e,ih q⟩
 | tbl ps =>
  have e : h.get? a = some { cls := .none,data := .fields ps } := x
  show h'.get? a = some { cls := .none,data := .fields ps }
  exact k a _ (.inl rfl) e
 | met f y =>
  have e : h.get? a = some (PySem.W.methodObj (.ref f) (.ref y)) := x
  show h'.get? a = some (PySem.W.methodObj (.ref f) (.ref y))
  exact k a _ (.inl rfl) e
 | ext φ=>obtain ⟨p,⟨o,e⟩,st⟩ := x; exact ⟨st _ _ p fun o q=>k _ _ (.inl rfl) q,⟨o,k _ _ (.inl rfl) e⟩,st⟩
theorem HOk.lt (x : HOk P w H h) (e : H a = some o) : a < h.objs.size := (x a o e).lt
theorem HOk.fresh (x : HOk P w H h) (e : h.objs.size ≤ a) : H a = none := by
 cases q : H a with
 | none=>rfl
 | some u=>exact absurd (Nat.lt_of_lt_of_le (x.lt q) e) (Nat.lt_irrefl _)
theorem HOk.kept (x : HOk P w H h) (k : ∀ b u,h.get? b = some u → h'.get? b = some u) : HOk P w H h' := fun a o e =>
 (x a o e).stay (fun b u _ q=>k b u q) (fun _ q=>q) fun _ _ q=>q
theorem HOk.laid (x : HOk P w H h) (k : ∀ b u,h.get? b = some u → h'.get? b = some u) (hp : h.objs.size ≤ a) (new : ObjOk P w (D5 H a o) h' a o) : HOk P w (D5 H a o) h' := fun b u e=>by
 have hn := x.fresh hp
 by_cases hb : b = a
 ·subst hb; rw [A6] at e; cases e; exact new
 ·rw [B5 hb] at e
  exact (x b u e).stay (fun c v _ q=>k c v q) (fun c q=>by rw [B5 (D8 q hn)]; exact q) fun c xs q=>by rw [B5 (D8 q hn)]; exact q
end
def Rd (H : Hp) (a : Addr) (u : HO) : Prop := H a = some u ∨ ∃ o,H a = some (.frz o u)
theorem Rd.ok {P : Program} {w : World} {H : Hp} {h : Heap} {a : Addr} {u : HO} (r : Rd H a u) (x : HOk P w H h) : ObjOk P w H h a u := by
 rcases r with r | ⟨o,r⟩
 ·exact x a u r
 ·obtain ⟨_,q⟩ := x a _ r
  exact q
def zT : Option HO → Prop
 | some (.lst _)=>True
 | some (.dK _)=>True
 | some (.dT _)=>True
 | some (.set _ _)=>True
 | some (.ins _ _ _)=>True
 | some (.ext _)=>True
 | _=>False
section
variable {P : Program} {w : World} {H : Hp} {h h' : Heap} {x e : Addr} {o' : HO}
theorem HOk.write (ok : HOk P w H h) (mu : zT (H x)) (he : e = x ∨ H e = some (.own x)) (k : ∀ b u,b ≠ e → h.get? b = some u → h'.get? b = some u) (heo : ∃ u,h'.get? e = some u)
  (new : ObjOk P w (D5 H x o') h' x o') : HOk P w (D5 H x o') h' := fun b u q=>by
 have nown : ∀ c y,H c = some (.own y) → c ≠ x := fun c y r z=>by subst z; rw [r] at mu; exact mu
 have ntup : ∀ c xs,H c = some (.tup xs) → c ≠ x := fun c xs r z=>by subst z; rw [r] at mu; exact mu
 by_cases hb : b = x
 ·subst hb; rw [A6] at q; cases q; exact new
 ·rw [B5 hb] at q
  by_cases hbe : b = e
  ·have q' : H b = some (.own x) := by
    rcases he with z | z
    ·exact absurd (hbe.trans z) hb
    ·rw [hbe]; exact z
   rw [q] at q'; cases q'
   obtain ⟨v,hv⟩ := heo
   exact ⟨v,by rw [hbe]; exact hv⟩
  ·refine (ok b u q).stay (fun c v hc r=>k c v ?_ r) (fun c r=>by rw [B5 (nown c b r)]; exact r) fun c xs r=>by rw [B5 (ntup c xs r)]; exact r
   rcases hc with rfl | hc
   ·exact hbe
   ·rintro rfl
    rcases he with z | z
    ·exact nown c b hc z
    ·rw [hc] at z; cases z; exact hb rfl
end
structure Un (fs ex : List Addr) (H H' : Hp) (h h' : Heap) : Prop where
 keep : ∀ b o,h.get? b = some o → H b = none → b ∉ fs → b ∉ ex → h'.get? b = some o
 slot : ∀ b o,h.get? b = some o → H b = none → b ∈ fs → b ∉ ex → ∃ sl,h'.get? b = some { o with slots := sl }
 free : ∀ b o,h.get? b = some o → H b = none → b ∉ ex → H' b = none
 there : ∀ b o,h.get? b = some o → b ∉ ex → ∃ o',h'.get? b = some o'
 tups : ∀ b xs,H b = some (.tup xs) → H' b = some (.tup xs)
 frzs : ∀ b o u,H b = some (.frz o u) → H' b = some (.frz o u)
 tbls : ∀ b ps,H b = some (.tbl ps) → ∃ more,H' b = some (.tbl (ps ++ more))
section
variable {fs fs' ex ex' : List Addr} {H H1 H2 : Hp} {h h1 h2 h' : Heap} {a x e : Addr} {o : HO}
theorem Un.any (u : Un fs ex H H1 h h1) {b : Addr} {ob : Obj} (q : h.get? b = some ob) (n : H b = none) (hx : b ∉ ex) : ∃ sl,h1.get? b = some { ob with slots := sl } := by
 by_cases hb : b ∈ fs
 ·exact u.slot b ob q n hb hx
 ·exact ⟨ob.slots,u.keep b ob q n hb hx⟩
theorem Un.kept (k : ∀ b u,h.get? b = some u → h'.get? b = some u) : Un fs ex H H h h' :=
 ⟨fun b ob q _ _ _=>k b ob q,fun b ob q _ _ _=>⟨ob.slots,k b ob q⟩,fun _ _ _ n _=>n,fun b ob q _=>⟨ob,k b ob q⟩,fun _ _ q=>q,fun _ _ _ q=>q,fun _ ps q=>⟨#[],by rw [q]; simp⟩⟩
theorem Un.refl : Un fs ex H H h h := Un.kept fun _ _ q=>q
theorem Un.laid (k : ∀ b u,h.get? b = some u → h'.get? b = some u) (hp : h.objs.size ≤ a) (hn : H a = none) : Un fs ex H (D5 H a o) h h' where
 keep := fun b u q _ _ _=>k b u q
 slot := fun b u q _ _ _=>⟨u.slots,k b u q⟩
 free := fun b u q n _=>by rw [B5 (Nat.ne_of_lt (Nat.lt_of_lt_of_le (Heap.lt_size q) hp))]; exact n
 there := fun b u q _=>⟨u,k b u q⟩
 tups := fun b xs q=>by rw [B5 (D8 q hn)]; exact q
 frzs := fun b u xs q=>by rw [B5 (D8 q hn)]; exact q
 tbls := fun b ps q=>⟨#[],by rw [B5 (D8 q hn),q]; simp⟩
theorem Un.write (mu : zT (H x)) (he : e = x ∨ H e = some (.own x)) (k : ∀ b u,b ≠ e → h.get? b = some u → h'.get? b = some u) (heo : ∃ u,h'.get? e = some u) : Un fs ex H (D5 H x o) h h' := by
 have hx : ∀ b,H b = none → b ≠ x := fun b n z=>by subst z; rw [n] at mu; exact mu
 have hb : ∀ b,H b = none → b ≠ e := fun b n z=>by
  subst z
  rcases he with r | r
  ·exact hx b n r
  ·rw [n] at r; cases r
 have hm : ∀ b u,H b = some u → ¬ zT (some u) → b ≠ x := fun b u q nm z=>by subst z; rw [q] at mu; exact nm mu
 refine ⟨fun b u q n _ _=>k b u (hb b n) q,fun b u q n _ _=>⟨u.slots,k b u (hb b n) q⟩,fun b u q n _=>by rw [B5 (hx b n)]; exact n,fun b u q _=>?_,
  fun b xs q=>by rw [B5 (hm b _ q fun z=>z)]; exact q,fun b u xs q=>by rw [B5 (hm b _ q fun z=>z)]; exact q,fun b ps q=>⟨#[],by rw [B5 (hm b _ q fun z=>z),q]; simp⟩⟩
 by_cases hbe : b = e
 ·subst hbe; exact heo
 ·exact ⟨u,k b u hbe q⟩
end
def oU (h : Heap) (H : Hp) : List Addr := (List.range h.objs.size).filter fun a=>(H a).isSome
def hG (h : Heap) (H : Hp) : Heap := PySem.W.hideAll h (oU h H)
theorem yX (h : Heap) (H : Hp) : (hG h H).objs.size = h.objs.size := PySem.W.hideAll_size _ _
theorem AF2 {h : Heap} {H : Hp} {b : Addr} {o : Obj} (e : h.get? b = some o) (n : H b = none) : (hG h H).get? b = some o :=
 PySem.W.hideAll_get _ e fun hm=>by
  have q : (H b).isSome = true := (List.mem_filter.mp hm).2
  rw [n] at q; simp at q
theorem AO3 {h : Heap} {H : Hp} {b : Addr} {o : Obj} (e : (hG h H).get? b = some o) : h.get? b = some o ∧ H b = none := by
 have e' : h.get? b = some o := PySem.W.of_hideAll (oU h H) e
 refine ⟨e',?_⟩
 cases q : H b with
 | none=>rfl
 | some x =>
  have hm : b ∈ oU h H := List.mem_filter.mpr ⟨List.mem_range.mpr (Heap.lt_size e'),by simp [q]⟩
  have z : (hG h H).get? b = none := PySem.W.hideAll_none (oU h H) hm
  rw [z] at e; cases e
end L2
namespace L2
open PySem PySem.Spec PyProof.Rows
structure Mod (K : PySem.W.Frag) (mg : Str → Option Value) (base : Heap) : Prop where
 kin : K.In base
 glob : base.Ns mainGlobals mg
 blt : ∃ mb,base.Ns builtinsNs mb ∧ ∀ x : Str,x ≠ "__name__" → mb x = bootBuiltins x
 nolimit : base.NoLimit
structure Cx where
 prog : Program
 w : World
 K : PySem.W.Frag
 mg : Str → Option Value
 base : Heap
 A : Around
 N : List Str
 s₀ : Shared
 H₀ : Hp
 env : Env
 outer : List Env
 stack : List Env
 ex : List Addr
 fn : Str → Bool
 calm : Bool
 pn : List (Addr × Obj)
 xe : Value → Shared → Prop
def Q1 (l : List Env) : List Addr := l.filterMap (·.frame)
abbrev Cx.fs (X : Cx) : List Addr := Q1 X.outer
def vI (sc : Scope) (x : Str) : Prop := sc.names.lookup x = some .local ∨ sc.names.lookup x = some .cell ∨ sc.names.lookup x = some .free
def zU (sc : Scope) (x : Str) : Prop := sc.names.lookup x = some .local ∨ sc.names.lookup x = some .cell
def BH4 (env : Env) (h : Heap) (m : Str → Option Value) (x : Str) (u : Value) : Prop :=
 (env.kindOf x = some .local ∧ m x = some u) ∨ ((env.kindOf x = some .cell ∨ env.kindOf x = some .free) ∧ ∃ c,env.cells.lookup x = some c ∧ h.IsCell c (some u))
structure Cx.Ok (X : Cx) : Prop where
 mod : Mod X.K X.mg X.base
 kind : X.env.scope.kind = .function
 glob : X.env.globals = mainGlobals
 blt : X.env.builtins = builtinsNs
 above : X.s₀.heap.objs.size ≤ X.env.locals
 inj : ∀ x y c,X.env.cells.lookup x = some c → X.env.cells.lookup y = some c → x = y
 has : ∀ x,(X.env.kindOf x = some .cell ∨ X.env.kindOf x = some .free) → ∃ c,X.env.cells.lookup x = some c
 cab : ∀ x c,X.fn x = true → X.env.cells.lookup x = some c → X.s₀.heap.objs.size ≤ c
 hd : X.calm = true → X.A.handled = none
 frames : X.A.frames = some X.stack
 stk : X.stack = X.outer ∨ (X.stack = X.env :: X.outer ∧ X.env.frame = some X.env.locals)
 exf : ∀ b ∈ X.ex,b ≠ X.env.locals ∧ ∀ x c,X.env.cells.lookup x = some c → c ≠ b
 bs : ∀ b o,X.base.get? b = some o → X.s₀.heap.get? b = some o ∧ X.H₀ b = none
 bsz : X.base.objs.size ≤ X.s₀.heap.objs.size
 noex : ∀ b o,X.base.get? b = some o → b ∉ X.ex
 exfs : ∀ b ∈ X.ex,b ∉ X.fs
 funs : X.s₀.heap.FunFrames X.base X.outer
 frf : ∀ b ∈ X.fs,X.H₀ b = none
structure Inv (X : Cx) (pins : List (Addr × Obj)) (σ : List (Option V)) (H : Hp) (s : Shared) : Prop where
 ok : X.Ok
 os : s.os = X.s₀.os
 bare : AllBare s.gens
 base : Un X.fs X.ex X.H₀ H X.s₀.heap s.heap
 loc : ∃ m,s.heap.Ns X.env.locals m ∧ ∀ (i : Nat) (x : Str) (v : V),X.N[i]? = some x → σ[i]? = some (some v) → vI X.env.scope x → ∃ u,RelV v u ∧ BH4 X.env s.heap m x u
 cell : ∀ x c,X.env.cells.lookup x = some c → ∃ v,s.heap.IsCell c v
 free : H X.env.locals = none
 freeC : ∀ x c,X.env.cells.lookup x = some c → H c = none
 pin : ∀ p ∈ X.pn ++ pins,s.heap.get? p.1 = some p.2 ∧ H p.1 = none ∧ p.1 ≠ X.env.locals ∧ p.1 ∉ X.fs ∧ ∀ v,p.2.data ≠ .cell v
 hok : HOk X.prog X.w H s.heap
 len : σ.length = X.N.length
section
variable {X : Cx} {pins : List (Addr × Obj)} {σ : List (Option V)} {H H' : Hp} {s : Shared} {h' : Heap}
theorem Cx.Ok.nofr (ok : X.Ok) {b : Addr} {o : Obj} (e : X.base.get? b = some o) : b ∉ X.fs := fun hb=>by
 have := (ok.funs.mem hb).1
 rw [e] at this; cases this
theorem Inv.bs (I : Inv X pins σ H s) : ∀ b o,X.base.get? b = some o → s.heap.get? b = some o ∧ H b = none := fun b o e =>
 ⟨I.base.keep b o (I.ok.bs b o e).1 (I.ok.bs b o e).2 (I.ok.nofr e) (I.ok.noex b o e),I.base.free b o (I.ok.bs b o e).1 (I.ok.bs b o e).2 (I.ok.noex b o e)⟩
theorem Inv.bk (I : Inv X pins σ H s) : ∀ b o,X.base.get? b = some o → s.heap.get? b = some o := fun b o e=>(I.bs b o e).1
theorem Inv.mod (I : Inv X pins σ H s) : Mod X.K X.mg X.base := I.ok.mod
theorem Inv.kIn (I : Inv X pins σ H s) : X.K.In s.heap := I.ok.mod.kin.keeps I.bk
theorem Inv.lt (I : Inv X pins σ H s) : X.env.locals < s.heap.objs.size := let ⟨_,hn,_⟩ := I.loc; hn.lt
theorem Inv.sz (I : Inv X pins σ H s) : X.s₀.heap.objs.size ≤ s.heap.objs.size := Nat.le_trans I.ok.above (Nat.le_of_lt I.lt)
theorem Inv.nofs (I : Inv X pins σ H s) {a : Addr} (h : s.heap.objs.size ≤ a) : a ∉ X.fs := fun hb=>by
 obtain ⟨_,o,ho,_⟩ := I.ok.funs.mem hb
 exact absurd (Nat.lt_of_lt_of_le (Heap.lt_size ho) (Nat.le_trans I.sz h)) (Nat.lt_irrefl _)
theorem Inv.cne (I : Inv X pins σ H s) : ∀ x c,X.env.cells.lookup x = some c → c ≠ X.env.locals := fun x c e z=>by
 obtain ⟨v,o,ho,hd⟩ := I.cell x c e
 obtain ⟨m,⟨o',es,ep,ho',hd',_⟩,_⟩ := I.loc
 rw [z,ho'] at ho; cases ho; rw [hd'] at hd; cases hd
theorem Inv.funs (I : Inv X pins σ H s) : s.heap.FunFrames X.base X.outer := by
 have all : ∀ (l : List Env),(∀ b ∈ Q1 l,b ∈ X.fs) → X.s₀.heap.FunFrames X.base l → s.heap.FunFrames X.base l := by
  intro l
  induction l with
  | nil=>intro _ _; trivial
  | cons env r ih =>
   intro hs hl
   obtain ⟨hk,⟨L,o,hf,hn,ho,hd⟩,hr⟩ := hl
   have hL : L ∈ X.fs := hs L (by unfold Q1; rw [List.filterMap_cons,hf]; exact List.mem_cons_self)
   obtain ⟨sl,e⟩ := I.base.slot L o ho (I.ok.frf L hL) hL fun z=>I.ok.exfs L z hL
   exact ⟨hk,⟨L,_,hf,hn,e,hd⟩,ih (fun b hb=>hs b (by unfold Q1; rw [List.filterMap_cons,hf]; exact List.mem_cons_of_mem _ hb)) hr⟩
 exact all X.outer (fun _ hb=>hb) I.ok.funs
theorem Inv.stack (I : Inv X pins σ H s) : s.heap.FunFrames X.base X.stack := by
 rcases I.ok.stk with e | ⟨e,hf⟩
 ·rw [e]; exact I.funs
 ·rw [e]
  obtain ⟨m,hn,_⟩ := I.loc
  refine .cons (by rw [I.ok.kind]; decide) hf hn ?_ I.funs
  exact Heap.get?_none_of_le (Nat.le_trans I.ok.bsz I.ok.above)
theorem Inv.stkSub (I : Inv X pins σ H s) : ∀ b ∈ Q1 X.stack,b ∈ X.env.locals :: X.fs := fun b hb=>by
 rcases I.ok.stk with e | ⟨e,hf⟩
 ·rw [e] at hb; exact List.mem_cons_of_mem _ hb
 ·rw [e] at hb
  unfold Q1 at hb
  rw [List.filterMap_cons,hf] at hb
  exact hb
theorem Inv.stkFree (I : Inv X pins σ H s) : ∀ b ∈ Q1 X.stack,H b = none := fun b hb=>by
 rcases List.mem_cons.mp (I.stkSub b hb) with e | hb
 ·rw [e]; exact I.free
 ·obtain ⟨_,o,ho,_⟩ := I.ok.funs.mem hb
  exact I.base.free b o ho (I.ok.frf b hb) fun z=>I.ok.exfs b z hb
theorem Inv.step {g' : Array GenState} {t' : Nat} {d' : Drawn} {ch : List Addr} (I : Inv X pins σ H s)
  (hch : ∀ b ∈ ch,(b ∈ X.ex ∨ X.s₀.heap.objs.size ≤ b) ∧ b ≠ X.env.locals ∧ (∀ x c,X.env.cells.lookup x = some c → c ≠ b) ∧ ∀ p ∈ X.pn ++ pins,p.1 ≠ b)
  (keep : ∀ b o,b ≠ X.env.locals → b ∉ X.fs → b ∉ ch → s.heap.get? b = some o → H b = none → h'.get? b = some o)
  (slot : ∀ b o,b ≠ X.env.locals → b ∈ X.fs → b ∉ ch → s.heap.get? b = some o → H b = none → ∃ sl,h'.get? b = some { o with slots := sl }) (free : ∀ b o,b ∉ ch → s.heap.get? b = some o → H b = none → H' b = none)
  (there : ∀ b o,b ∉ ch → s.heap.get? b = some o → ∃ o',h'.get? b = some o')
  (tups : ∀ b xs,H b = some (.tup xs) → H' b = some (.tup xs)) (frzs : ∀ b o u,H b = some (.frz o u) → H' b = some (.frz o u)) (tbls : ∀ b ps,H b = some (.tbl ps) → ∃ more,H' b = some (.tbl (ps ++ more)))
  (ns : ∀ m,s.heap.Ns X.env.locals m → h'.Ns X.env.locals m) (hok : HOk X.prog X.w H' h') (hg : AllBare g') :
  Inv X pins σ H' { s with heap := h',gens := g',drawn := d',toks := t' } := by
 have neL : ∀ b o,X.s₀.heap.get? b = some o → b ≠ X.env.locals := fun b o e=>Nat.ne_of_lt (Nat.lt_of_lt_of_le (Heap.lt_size e) I.ok.above)
 have neC : ∀ b o,X.s₀.heap.get? b = some o → b ∉ X.ex → b ∉ ch := fun b o e hx hb=>by
  rcases (hch b hb).1 with z | z
  ·exact hx z
  ·exact absurd (Nat.lt_of_lt_of_le (Heap.lt_size e) z) (Nat.lt_irrefl _)
 have cellK : ∀ x c,X.env.cells.lookup x = some c → ∀ v,s.heap.IsCell c v → h'.IsCell c v := fun x c e v ⟨o,ho,hd⟩=>by
  have nch : c ∉ ch := fun z=>(hch c z).2.2.1 x c e rfl
  by_cases hc : c ∈ X.fs
  ·obtain ⟨sl,q⟩ := slot c o (I.cne x c e) hc nch ho (I.freeC x c e)
   exact ⟨_,q,hd⟩
  ·exact ⟨o,keep c o (I.cne x c e) hc nch ho (I.freeC x c e),hd⟩
 refine ⟨I.ok,I.os,hg,⟨fun b o e n hb hx=>?_,fun b o e n hb hx=>?_,fun b o e n hx=>?_,fun b o e hx=>?_,fun b xs e=>tups b xs (I.base.tups b xs e),fun b o xs e=>frzs b o xs (I.base.frzs b o xs e),fun b ps e=>?_⟩,?_,fun x c e=>?_,?_,fun x c e=>?_,fun p hp=>?_,hok,I.len⟩
 ·exact keep b o (neL b o e) hb (neC b o e hx) (I.base.keep b o e n hb hx) (I.base.free b o e n hx)
 ·obtain ⟨sl,e1⟩ := I.base.slot b o e n hb hx
  obtain ⟨sl',e2⟩ := slot b _ (neL b o e) hb (neC b o e hx) e1 (I.base.free b o e n hx)
  exact ⟨sl',e2⟩
 ·obtain ⟨o',e1⟩ := I.base.there b o e hx
  exact free b o' (neC b o e hx) e1 (I.base.free b o e n hx)
 ·obtain ⟨o',e1⟩ := I.base.there b o e hx
  exact there b o' (neC b o e hx) e1
 ·obtain ⟨m1,e1⟩ := I.base.tbls b ps e
  obtain ⟨m2,e2⟩ := tbls b _ e1
  exact ⟨m1 ++ m2,by rw [e2,Array.append_assoc]⟩
 ·obtain ⟨m,hn,hl⟩ := I.loc
  refine ⟨m,ns m hn,fun i x v e1 e2 e3=>?_⟩
  obtain ⟨u,r,l⟩ := hl i x v e1 e2 e3
  refine ⟨u,r,?_⟩
  rcases l with l | ⟨k,c,e,z⟩
  ·exact .inl l
  ·exact .inr ⟨k,c,e,cellK x c e _ z⟩
 ·obtain ⟨v,z⟩ := I.cell x c e
  exact ⟨v,cellK x c e v z⟩
 ·obtain ⟨m,⟨o,_,_,ho,_⟩,_⟩ := I.loc
  exact free _ o (fun z=>(hch _ z).2.1 rfl) ho I.free
 ·obtain ⟨v,o,ho,hd⟩ := I.cell x c e
  exact free c o (fun z=>(hch c z).2.2.1 x c e rfl) ho (I.freeC x c e)
 ·obtain ⟨e,n,ne,nf,d⟩ := I.pin p hp
  have nch : p.1 ∉ ch := fun z=>(hch p.1 z).2.2.2 p hp rfl
  exact ⟨keep p.1 p.2 ne nf nch e n,free p.1 p.2 nch e n,ne,nf,d⟩
theorem Inv.un {t' : Nat} (I : Inv X pins σ H s) (u : Un X.fs [] H H' s.heap h') (hok : HOk X.prog X.w H' h') : Inv X pins σ H' { s with heap := h',toks := t' } := by
 obtain ⟨m,⟨o,es,ep,ho,r⟩,_⟩ := id I.loc
 obtain ⟨sl,hL⟩ := u.any ho I.free (by simp)
 exact I.step (g' := s.gens) (d' := s.drawn) (ch := []) (fun _ z=>nomatch z) (fun b o _ hb _ e n=>u.keep b o e n hb (by simp)) (fun b o _ hb _ e n=>u.slot b o e n hb (by simp)) (fun b o _ e n=>u.free b o e n (by simp)) (fun b o _ e=>u.there b o e (by simp)) u.tups u.frzs u.tbls (fun m' hm=>by
  obtain ⟨o',es',ep',ho',r'⟩ := hm
  rw [ho] at ho'; cases ho'
  exact ⟨_,es',ep',hL,r'⟩) hok I.bare
theorem Inv.call {g' : Array GenState} {t' : Nat} {d' : Drawn} {ch : List Addr} (I : Inv X pins σ H s) (u : Un (Q1 X.stack) ch H H' s.heap h') (hok : HOk X.prog X.w H' h') (hg : AllBare g')
  (hch : ∀ b ∈ ch,(b ∈ X.ex ∨ X.s₀.heap.objs.size ≤ b) ∧ b ≠ X.env.locals ∧ (∀ x c,X.env.cells.lookup x = some c → c ≠ b) ∧ ∀ p ∈ X.pn ++ pins,p.1 ≠ b) :
  Inv X pins σ H' { s with heap := h',gens := g',drawn := d',toks := t' } := by
 obtain ⟨m,⟨o,es,ep,ho,r⟩,_⟩ := id I.loc
 obtain ⟨sl,hL⟩ := u.any ho I.free fun z=>(hch _ z).2.1 rfl
 exact I.step (ch := ch) hch (fun b o hL hb hc e n=>u.keep b o e n (fun z=>(List.mem_cons.mp (I.stkSub b z)).elim hL hb) hc) (fun b o _ _ hc e n=>u.any e n hc) (fun b o hc e n=>u.free b o e n hc) (fun b o hc e=>u.there b o e hc) u.tups u.frzs u.tbls (fun m' hm=>by
  obtain ⟨o',es',ep',ho',r'⟩ := hm
  rw [ho] at ho'; cases ho'
  exact ⟨_,es',ep',hL,r'⟩) hok hg
theorem Inv.turned {t' : Nat} {it : Addr} (I : Inv X pins σ H s) (k : ∀ b o,b ≠ it → s.heap.get? b = some o → h'.get? b = some o) (hn : H it = none) (hL : it ≠ X.env.locals)
  (h1 : it ∈ X.ex ∨ X.s₀.heap.objs.size ≤ it) (h2 : ∀ x c,X.env.cells.lookup x = some c → c ≠ it) (h3 : ∀ p ∈ X.pn ++ pins,p.1 ≠ it) : Inv X pins σ H { s with heap := h',toks := t' } := by
 have nit : ∀ b u,H b = some u → b ≠ it := fun b u e z=>by rw [z,hn] at e; cases e
 refine I.step (g' := s.gens) (d' := s.drawn) (ch := [it]) (fun b hb=>?_) (fun b o _ _ hc e _=>k b o (fun z=>hc (by simp [z])) e) (fun b o _ _ hc e _=>⟨o.slots,k b o (fun z=>hc (by simp [z])) e⟩) (fun _ _ _ _ n=>n)
  (fun b o hc e=>⟨o,k b o (fun z=>hc (by simp [z])) e⟩) (fun _ _ e=>e) (fun _ _ _ e=>e) (fun b ps e=>⟨#[],by rw [e]; simp⟩) (fun m hm=>?_) (fun b u e=>?_) I.bare
 ·have e : b = it := by simpa using hb
  subst e
  exact ⟨h1,hL,h2,h3⟩
 ·obtain ⟨o,es,ep,ho,r⟩ := hm
  exact ⟨o,es,ep,k _ o (Ne.symm hL) ho,r⟩
 ·refine (I.hok b u e).stay (fun c v hc q=>k c v ?_ q) (fun _ q=>q) fun _ _ q=>q
  rcases hc with z | z
  ·rw [z]; exact nit b u e
  ·exact nit c _ z
theorem Inv.tok (I : Inv X pins σ H s) (t : Nat) : Inv X pins σ H { s with toks := t } := I.un (h' := s.heap) (t' := t) Un.refl I.hok
theorem Inv.kept {t' : Nat} (I : Inv X pins σ H s) (k : ∀ b u,s.heap.get? b = some u → h'.get? b = some u) : Inv X pins σ H { s with heap := h',toks := t' } := I.un (Un.kept k) (I.hok.kept k)
theorem Inv.laid {a : Addr} {o : HO} {t' : Nat} (I : Inv X pins σ H s) (k : ∀ b u,s.heap.get? b = some u → h'.get? b = some u) (hp : s.heap.objs.size ≤ a) (new : ObjOk X.prog X.w (D5 H a o) h' a o) :
  Inv X pins σ (D5 H a o) { s with heap := h',toks := t' } := I.un (Un.laid k hp (I.hok.fresh hp)) (I.hok.laid k hp new)
theorem Inv.write {x e : Addr} {o : HO} {t' : Nat} (I : Inv X pins σ H s) (mu : zT (H x)) (he : e = x ∨ H e = some (.own x)) (k : ∀ b u,b ≠ e → s.heap.get? b = some u → h'.get? b = some u) (heo : ∃ u,h'.get? e = some u)
  (new : ObjOk X.prog X.w (D5 H x o) h' x o) : Inv X pins σ (D5 H x o) { s with heap := h',toks := t' } := I.un (Un.write mu he k heo) (I.hok.write mu he k heo new)
theorem Inv.weak {σ' : List (Option V)} (I : Inv X pins σ H s) (hl : σ'.length = σ.length) (w : ∀ (i : Nat) v,σ'[i]? = some (some v) → σ[i]? = some (some v)) : Inv X pins σ' H s :=
 ⟨I.ok,I.os,I.bare,I.base,let ⟨m,hn,hl'⟩ := I.loc; ⟨m,hn,fun i x v e1 e2 e3=>hl' i x v e1 (w i v e2) e3⟩,I.cell,I.free,I.freeC,I.pin,I.hok,hl.trans I.len⟩
theorem Inv.pins_of {pins' : List (Addr × Obj)} (I : Inv X pins σ H s) (h : ∀ p ∈ pins',s.heap.get? p.1 = some p.2 ∧ H p.1 = none ∧ p.1 ≠ X.env.locals ∧ p.1 ∉ X.fs ∧ ∀ v,p.2.data ≠ .cell v) : Inv X pins' σ H s :=
 ⟨I.ok,I.os,I.bare,I.base,I.loc,I.cell,I.free,I.freeC,fun p hp=>(List.mem_append.mp hp).elim (fun z=>I.pin p (List.mem_append_left _ z)) (h p),I.hok,I.len⟩
theorem kW {N : List Str} (hN : N.Nodup) {i j : Nat} {x : Str} (a : N[i]? = some x) (b : N[j]? = some x) : i = j := by
 obtain ⟨h1,e1⟩ := List.getElem?_eq_some_iff.mp a
 obtain ⟨h2,e2⟩ := List.getElem?_eq_some_iff.mp b
 exact (List.getElem_inj hN).mp (e1.trans e2.symm)
theorem oY {M : Model} {A : Around} {E : Value → Shared → Prop} {i : Nat} {x : Str} {v : V} {u : Value} {Q : Unit → Shared → Prop} (I : Inv X pins σ H s) (hN : X.N.Nodup) (hi : X.N[i]? = some x) (hx : zU X.env.scope x) (r : RelV v u)
  (h : ∀ s',Inv X pins (σ.set i (some v)) H s' → (∃ a,Heap.SameBut a s.heap s'.heap ∧ (a = X.env.locals ∨ X.env.cells.lookup x = some a)) → Q () s') (hf : X.fn x = true ∨ X.env.scope.names.lookup x = some .local := by first | exact .inl rfl | exact .inr rfl | assumption) : wpAny M A (storeName X.env x u) Q E s := by
 obtain ⟨m,hn,hl⟩ := id I.loc
 have hcls : (X.env.scope.kind == .class || (X.env.scope.kind == .module && X.env.locals != X.env.globals)) = false := by rw [I.ok.kind]; rfl
 have hiσ : i < σ.length := by rw [I.len]; exact (List.getElem?_eq_some_iff.mp hi).1
 have cne := I.cne
 have tracked : ∀ {a : Addr} {h' : Heap},(∃ o,s.heap.get? a = some o ∧ H a = none) → Heap.SameBut a s.heap h' → HOk X.prog X.w H h' := fun {a h'} ha hs b ob e=>by
  obtain ⟨_,_,hfree⟩ := ha
  refine (I.hok b ob e).stay (fun c w' hc q=>(hs.2 c ?_).trans q) (fun _ q=>q) fun _ _ q=>q
  rintro rfl
  rcases hc with rfl | hc
  ·rw [hfree] at e; cases e
  ·rw [hfree] at hc; cases hc
 rcases hx with hk | hk
 ·refine wpAny_storeName_local hk hn (fun h' hn' hs=>?_) hcls
  obtain ⟨oL,_,_,hoL,_⟩ := id hn
  refine h _ ⟨I.ok,I.os,I.bare,⟨fun b o e n hb hx=>?_,fun b o e n hb hx=>?_,I.base.free,fun b o e hx=>?_,I.base.tups,I.base.frzs,I.base.tbls⟩,⟨_,hn',fun j y v' e1 e2 e3=>?_⟩,fun y c e=>?_,I.free,I.freeC,fun p hp=>?_,tracked ⟨oL,hoL,I.free⟩ hs,by simpa using I.len⟩ ⟨_,hs,.inl rfl⟩
  ·exact (hs.2 b (Nat.ne_of_lt (Nat.lt_of_lt_of_le (Heap.lt_size e) I.ok.above))).trans (I.base.keep b o e n hb hx)
  ·obtain ⟨sl,e1⟩ := I.base.slot b o e n hb hx
   exact ⟨sl,(hs.2 b (Nat.ne_of_lt (Nat.lt_of_lt_of_le (Heap.lt_size e) I.ok.above))).trans e1⟩
  ·obtain ⟨o',e1⟩ := I.base.there b o e hx
   exact ⟨o',(hs.2 b (Nat.ne_of_lt (Nat.lt_of_lt_of_le (Heap.lt_size e) I.ok.above))).trans e1⟩
  ·by_cases hj : j = i
   ·subst hj
    rw [hi] at e1; cases e1
    rw [List.getElem?_set_self hiσ] at e2
    cases e2
    exact ⟨u,r,.inl ⟨hk,by simp⟩⟩
   ·rw [List.getElem?_set_ne (Ne.symm hj)] at e2
    obtain ⟨u',r',q⟩ := hl j y v' e1 e2 e3
    refine ⟨u',r',?_⟩
    rcases q with ⟨k,e⟩ | ⟨k,c,e,z⟩
    ·refine .inl ⟨k,?_⟩
     have : y ≠ x := fun e=>hj (kW hN e1 (e ▸ hi))
     simp [this,e]
    ·exact .inr ⟨k,c,e,z.sameBut hs (cne y c e)⟩
  ·obtain ⟨w',z⟩ := I.cell y c e
   exact ⟨w',z.sameBut hs (cne y c e)⟩
  ·obtain ⟨e,n,ne,nf,d⟩ := I.pin p hp
   exact ⟨(hs.2 p.1 ne).trans e,n,ne,nf,d⟩
 ·have hfn : X.fn x = true := by
   rcases hf with z | z
   ·exact z
   ·rw [z] at hk; cases hk
  obtain ⟨c,hc⟩ := I.ok.has x (.inl hk)
  obtain ⟨w',z⟩ := I.cell x c hc
  refine wpAny_storeName_cell I.ok.kind hk hc z (fun h' hc' hs=>?_)
  obtain ⟨oc,hoc,hocd⟩ := id z
  refine h { s with heap := h' } ⟨I.ok,I.os,I.bare,⟨fun b o e n hb hx=>?_,fun b o e n hb hx=>?_,I.base.free,fun b o e hx=>?_,I.base.tups,I.base.frzs,I.base.tbls⟩,⟨m,hn.sameBut hs (Ne.symm (cne x c hc)),fun j y v' e1 e2 e3=>?_⟩,fun y c' e=>?_,I.free,I.freeC,fun p hp=>?_,tracked ⟨oc,hoc,I.freeC x c hc⟩ hs,by simpa using I.len⟩ ⟨c,hs,.inr hc⟩
  ·exact (hs.2 b (Nat.ne_of_lt (Nat.lt_of_lt_of_le (Heap.lt_size e) (I.ok.cab x c hfn hc)))).trans (I.base.keep b o e n hb hx)
  ·obtain ⟨sl,e1⟩ := I.base.slot b o e n hb hx
   exact ⟨sl,(hs.2 b (Nat.ne_of_lt (Nat.lt_of_lt_of_le (Heap.lt_size e) (I.ok.cab x c hfn hc)))).trans e1⟩
  ·obtain ⟨o',e1⟩ := I.base.there b o e hx
   exact ⟨o',(hs.2 b (Nat.ne_of_lt (Nat.lt_of_lt_of_le (Heap.lt_size e) (I.ok.cab x c hfn hc)))).trans e1⟩
  ·by_cases hj : j = i
   ·subst hj
    rw [hi] at e1; cases e1
    rw [List.getElem?_set_self hiσ] at e2
    cases e2
    exact ⟨u,r,.inr ⟨.inl hk,c,hc,hc'⟩⟩
   ·rw [List.getElem?_set_ne (Ne.symm hj)] at e2
    obtain ⟨u',r',q⟩ := hl j y v' e1 e2 e3
    refine ⟨u',r',?_⟩
    rcases q with q | ⟨k,c',e,z'⟩
    ·exact .inl q
    ·refine .inr ⟨k,c',e,z'.sameBut hs ?_⟩
     rintro rfl
     exact hj (kW hN e1 (I.ok.inj _ _ _ e hc ▸ hi))
  ·by_cases hcc : c' = c
   ·subst hcc; exact ⟨_,hc'⟩
   ·obtain ⟨w2,z2⟩ := I.cell y c' e
    exact ⟨w2,z2.sameBut hs hcc⟩
  ·obtain ⟨e,n,ne,nf,d⟩ := I.pin p hp
   refine ⟨(hs.2 p.1 ?_).trans e,n,ne,nf,d⟩
   intro q
   rw [q,hoc] at e
   have q' : oc = p.2 := Option.some.inj e
   exact d w' (by rw [← q']; exact hocd)
theorem gD {M : Model} {A : Around} {E : Value → Shared → Prop} {i : Nat} {x : Str} {v : V} {u : Value} {Q : Unit → Shared → Prop} (I : Inv X pins σ H s) (hN : X.N.Nodup) (hi : X.N[i]? = some x) (hx : zU X.env.scope x) (r : RelV v u)
  (h : ∀ s',Inv X pins (σ.set i (some v)) H s' → Q () s') (hf : X.fn x = true ∨ X.env.scope.names.lookup x = some .local := by first | exact .inl rfl | exact .inr rfl | assumption) : wpAny M A (storeName X.env x u) Q E s :=
 oY I hN hi hx r (fun s' I' _=>h s' I') hf
theorem Inv.call' {s' : Shared} {ch : List Addr} (I : Inv X pins σ H s) (ho : s'.os = s.os) (u : Un (Q1 X.stack) ch H H' s.heap s'.heap) (hok : HOk X.prog X.w H' s'.heap) (hg : AllBare s'.gens)
  (hch : ∀ b ∈ ch,(b ∈ X.ex ∨ X.s₀.heap.objs.size ≤ b) ∧ b ≠ X.env.locals ∧ (∀ x c,X.env.cells.lookup x = some c → c ≠ b) ∧ ∀ p ∈ X.pn ++ pins,p.1 ≠ b) : Inv X pins σ H' s' := by
 obtain ⟨h',g',d',t',o'⟩ := s'
 have e : o' = s.os := ho
 subst e
 exact I.call (g' := g') (t' := t') (d' := d') u hok hg hch
end
abbrev XK := Value → Option Addr → Hp → Prop
abbrev St := List (Option V)
abbrev VK := V → Hp → Prop
abbrev TE := St → Hp → VK → Prop
abbrev TT := St → Hp → (Bool → Hp → Prop) → Prop
abbrev TA := St → Hp → (List V → Hp → Prop) → Prop
structure eU where
 nx : St → Hp → Prop
 rt : VK
 bk : St → Hp → Prop := fun _ _=>False
 ct : St → Hp → Prop := fun _ _=>False
abbrev TS := eU → St → Hp → Prop
def EP (X : Cx) (pins : List (Addr × Obj)) (σ : St) (Q : VK) (u : Value) (s' : Shared) : Prop := ∃ v H',Inv X pins σ H' s' ∧ RelV v u ∧ Q v H'
def TP (X : Cx) (pins : List (Addr × Obj)) (σ : St) (Q : Bool → Hp → Prop) (b : Bool) (s' : Shared) : Prop := ∃ H',Inv X pins σ H' s' ∧ Q b H'
def AP (X : Cx) (pins : List (Addr × Obj)) (σ : St) (Q : List V → Hp → Prop) (us : List Value) (s' : Shared) : Prop := ∃ vs H',Inv X pins σ H' s' ∧ Vals vs us ∧ Q vs H'
def SP (X : Cx) (pins : List (Addr × Obj)) (D : eU) (f : Flow) (s' : Shared) : Prop :=
 match f with
 | .next=>∃ σ' H',Inv X pins σ' H' s' ∧ D.nx σ' H'
 | .brk=>∃ σ' H',Inv X pins σ' H' s' ∧ D.bk σ' H'
 | .cont=>∃ σ' H',Inv X pins σ' H' s' ∧ D.ct σ' H'
 | .ret u=>∃ v σ' H',Inv X pins σ' H' s' ∧ RelV v u ∧ D.rt v H'
def PE (X : Cx) (e : Expr) (t : TE) : Prop :=
 ∀ (pins : List (Addr × Obj)) (s : Shared) (σ : St) (H : Hp) (Q : VK),Inv X pins σ H s → t σ H Q → wpAny (model X.prog X.w) X.A (eval e X.env) (EP X pins σ Q) X.xe s
def PT (X : Cx) (e : Expr) (t : TT) : Prop :=
 ∀ (pins : List (Addr × Obj)) (s : Shared) (σ : St) (H : Hp) (Q : Bool → Hp → Prop),Inv X pins σ H s → t σ H Q → wpAny (model X.prog X.w) X.A (isTrue e X.env (eval e X.env)) (TP X pins σ Q) X.xe s
def PW (X : Cx) (e : Expr) (t : TT) : Prop :=
 ∀ (whole : Sem Value) (pins : List (Addr × Obj)) (s : Shared) (σ : St) (H : Hp) (Q : Bool → Hp → Prop),Inv X pins σ H s → t σ H Q → wpAny (model X.prog X.w) X.A (isTrue e X.env whole) (TP X pins σ Q) X.xe s
theorem PW.pt {X : Cx} {e : Expr} {t : TT} (h : PW X e t) : PT X e t := h _
def PA (X : Cx) (es : List Expr) (t : TA) : Prop :=
 ∀ (pos : Pos) (pins : List (Addr × Obj)) (s : Shared) (σ : St) (H : Hp) (Q : List V → Hp → Prop),Inv X pins σ H s → t σ H Q → wpAny (model X.prog X.w) X.A (spliced (backTo pos (starEach es X.env))) (AP X pins σ Q) X.xe s
def PS (X : Cx) (st : Stmt) (t : TS) : Prop :=
 ∀ (pins : List (Addr × Obj)) (s : Shared) (σ : St) (H : Hp) (D : eU),Inv X pins σ H s → t D σ H → wpAny (model X.prog X.w) X.A (exec st X.env) (SP X pins D) X.xe s
def PSs (X : Cx) (st : List Stmt) (t : TS) : Prop :=
 ∀ (pins : List (Addr × Obj)) (s : Shared) (σ : St) (H : Hp) (D : eU),Inv X pins σ H s → t D σ H → wpAny (model X.prog X.w) X.A (execs st X.env) (SP X pins D) X.xe s
theorem G0 {α : Type} {t : Sem α} {Q Q' : α → Shared → Prop} {M : Model} {A : Around} {E : Value → Shared → Prop} {s : Shared} (h : wpAny M A t Q E s) (hQ : ∀ a s,Q a s → Q' a s) : wpAny M A t Q' E s := wpAny_mono h hQ fun _ _ x=>x
end L2
namespace L2
open PySem PySem.Spec PyProof.Rows
section
variable {X : Cx}
def rC (i : Nat) : TE := fun σ H Q=>∃ v,σ[i]? = some (some v) ∧ Q v H
def tC (v : V) : TE := fun _ H Q=>Q v H
theorem AS8 {i : Nat} {x : Str} {pos : Pos} (hN : X.N[i]? = some x) (hv : vI X.env.scope x) (hd : (x == ("__debug__" : Str)) = false := by decide) (hcd : (x == ("__classdict__" : Str)) = false := by decide) : PE X (.Name x pos) (rC i) := by
 intro pins s σ H Q I h
 obtain ⟨v,e,h⟩ := h
 obtain ⟨m,hn,hl⟩ := I.loc
 obtain ⟨u,r,l⟩ := hl i x v hN e hv
 have fin : EP X pins σ Q u s := ⟨v,H,I,r,h⟩
 rcases l with ⟨hk,hm⟩ | ⟨hk,c,hc,hcell⟩
 ·exact wpAny_Name (wpAny_loadName_local I.ok.kind hk hn hm fin) hd
 ·rcases hk with hk | hk
  ·exact wpAny_Name (wpAny_loadName_cell I.ok.kind hk hc hcell fin) hd
  ·exact wpAny_Name (wpAny_loadName_free I.ok.kind hk hc hcell fin hcd) hd
theorem B1 {i j pos} : PE X (.Constant (.int i) j pos) (tC (.int i)) := fun _ _ _ H _ I h=>wpAny_Constant_int ⟨.int i,H,I.tok _,⟨_,rfl⟩,h⟩
theorem P2 {b j pos} : PE X (.Constant (.bool b) j pos) (tC (.bl b)) := fun _ _ _ H _ I h=>Constant_bool ⟨.bl b,H,I,rfl,h⟩
theorem X9 {j pos} : PE X (.Constant .none j pos) (tC .non) := fun _ _ _ H _ I h=>Constant_none ⟨.non,H,I,rfl,h⟩
theorem B3 {x j pos} : PE X (.Constant (.str x) j pos) (tC (.str x)) := fun _ _ _ H _ I h=>Calls.Constant_str ⟨.str x,H,I.tok _,⟨_,rfl⟩,h⟩
def Gl (X : Cx) (x : Str) : Prop := X.env.kindOf x = some .globalImplicit
theorem cB {E : Value → Shared → Prop} {pins : List (Addr × Obj)} {s : Shared} {σ : St} {H : Hp} {x : Str} {u : Value} {pos : Pos} {Q : Value → Shared → Prop} (I : Inv X pins σ H s) (hg : Gl X x) (hm : X.mg x = some u) (h : Q u s)
  (hd : (x == ("__debug__" : Str)) = false := by decide) : wpAny (model X.prog X.w) X.A (eval (.Name x pos) X.env) Q E s :=
 Calls.Name_function_global I.ok.kind hg (Calls.loadGlobal_global (by rw [I.ok.glob]; exact I.mod.glob.keeps I.bk) hm h) hd
theorem fV {E : Value → Shared → Prop} {pins : List (Addr × Obj)} {s : Shared} {σ : St} {H : Hp} {x : Str} {u : Value} {pos : Pos} {Q : Value → Shared → Prop} (I : Inv X pins σ H s) (hg : Gl X x) (hm : X.mg x = none) (hv : bootBuiltins x = some u) (h : Q u s)
  (hn : x ≠ "__name__" := by decide) (hd : (x == ("__debug__" : Str)) = false := by decide) : wpAny (model X.prog X.w) X.A (eval (.Name x pos) X.env) Q E s := by
 obtain ⟨mb,h1,h2⟩ := I.mod.blt
 exact Calls.Name_function_global I.ok.kind hg (Calls.loadGlobal_builtin (by rw [I.ok.glob]; exact I.mod.glob.keeps I.bk) hm (by rw [I.ok.blt]; exact h1.keeps I.bk) ((h2 x hn).trans hv) h) hd
theorem V6 {x : Str} {v : V} {u : Value} {pos : Pos} (hg : Gl X x) (hm : X.mg x = some u) (r : RelV v u) (hd : (x == ("__debug__" : Str)) = false := by decide) : PE X (.Name x pos) (tC v) :=
 fun _ _ _ H _ I h=>cB I hg hm ⟨v,H,I,r,h⟩ hd
theorem S3 {x : Str} {v : V} {u : Value} {pos : Pos} (hg : Gl X x) (hm : X.mg x = none) (hv : bootBuiltins x = some u) (r : RelV v u) (hn : x ≠ "__name__" := by decide) (hd : (x == ("__debug__" : Str)) = false := by decide) : PE X (.Name x pos) (tC v) :=
 fun _ _ _ H _ I h=>fV I hg hm hv ⟨v,H,I,r,h⟩ hn hd
variable {a b : Expr} {ta tb : TE} {pos : Pos}
def PC (X : Cx) (op : CmpOp) (a b : Expr) (t : TE) : Prop :=
 ∀ (pins : List (Addr × Obj)) (s : Shared) (σ : St) (H : Hp) (Q : VK),Inv X pins σ H s → t σ H Q →
  wpAny (model X.prog X.w) X.A (eval a X.env) (fun v s₁=>wpAny (model X.prog X.w) X.A (eval b X.env) (fun u s₂=>wpAny (model X.prog X.w) X.A (compareOp op v u) (EP X pins σ Q) X.xe s₂) X.xe s₁) X.xe s
def tB (t : TE) : TT := fun σ H Q=>t σ H fun x H1=>∃ c,x = .bl c ∧ Q c H1
theorem AS5 {op : CmpOp} {t : TE} (h : PC X op a b t) (h1 : behindInMarks op b = false := by first | exact nobehind _ (by decide) (by decide) | rfl) : PT X (.Compare a [op] [b] pos) (tB t) := by
 intro pins s σ H Q I hw
 refine wpAny_isTrue_Compare1 (G0 (h pins s σ H _ I hw) fun v s1 h1=>G0 h1 fun u s2 h2=>G0 h2 fun c s3 ⟨x,H1,I1,r1,q1⟩=>?_) h1
 obtain ⟨d,rfl,q⟩ := q1
 cases r1
 exact wpAny_truthy_bool ⟨H1,I1,q⟩
theorem K9 {e : Expr} {t : TE} (h : PE X e t) (he : ∀ whole,isTrue e X.env whole = (do let v ← whole; standAt e.pos; holding [v] (truthy v)) := by intro _; rfl) : PT X e (tB t) := by
 intro pins s σ H Q I hw
 refine isTrue_plain (G0 (h pins s σ H _ I hw) fun v s1 ⟨x,H1,I1,r1,q1⟩=>?_) (he _)
 obtain ⟨d,rfl,q⟩ := q1
 cases r1
 exact wpAny_truthy_bool ⟨H1,I1,q⟩
variable {tA tB' : TT} {rest : List Expr}
def BF1 (t u : TT) : TT := fun σ H Q=>t σ H fun c H1=>if c = true then u σ H1 Q else Q false H1
def tOr (t u : TT) : TT := fun σ H Q=>t σ H fun c H1=>if c = true then Q true H1 else u σ H1 Q
def BE4 (t : TT) : TT := fun σ H Q=>t σ H fun c H1=>Q (!c) H1
theorem aM (ha : PT X a tA) : PW X (.BoolOp .And [a] pos) tA := by
 intro wh pins s σ H Q I h
 refine isTrue_and (G0 (ha pins s σ H Q I h) fun c s1 e=>?_)
 cases c with
 | true=>exact isTrue_and_nil e
 | false=>exact e
theorem aU (ha : PT X a tA) : PW X (.BoolOp .Or [a] pos) tA := by
 intro wh pins s σ H Q I h
 refine isTrue_or (G0 (ha pins s σ H Q I h) fun c s1 e=>?_)
 cases c with
 | false=>exact isTrue_or_nil e
 | true=>exact e
theorem aA (ha : PT X a tA) (hb : PW X (.BoolOp .And (b :: rest) pos) tB') : PW X (.BoolOp .And (a :: b :: rest) pos) (BF1 tA tB') := by
 intro wh pins s σ H Q I h
 refine isTrue_and (G0 (ha pins s σ H _ I h) fun c s1 ⟨H1,I1,q1⟩=>?_)
 cases c with
 | true=>exact hb wh pins s1 σ H1 Q I1 q1
 | false=>exact ⟨H1,I1,q1⟩
theorem aO (ha : PT X a tA) (hb : PW X (.BoolOp .Or (b :: rest) pos) tB') : PW X (.BoolOp .Or (a :: b :: rest) pos) (tOr tA tB') := by
 intro wh pins s σ H Q I h
 refine isTrue_or (G0 (ha pins s σ H _ I h) fun c s1 ⟨H1,I1,q1⟩=>?_)
 cases c with
 | true=>exact ⟨H1,I1,q1⟩
 | false=>exact hb wh pins s1 σ H1 Q I1 q1
theorem U6 (ha : PT X a tA) : PT X (.UnaryOp .Not a pos) (BE4 tA) := by
 intro pins s σ H Q I h
 exact isTrue_not (ha pins s σ H (fun c H1=>Q (!c) H1) I h)
def AH5 (ta tb : TE) : TE := fun σ H Q=>ta σ H fun x H1=>∃ c,x = .bl c ∧ if c = true then tb σ H1 Q else Q (.bl false) H1
def BE3 (ta tb : TE) : TE := fun σ H Q=>ta σ H fun x H1=>∃ c,x = .bl c ∧ if c = true then Q (.bl true) H1 else tb σ H1 Q
def AZ9 (ta : TE) : TE := fun σ H Q=>ta σ H fun x H1=>∃ c,x = .bl c ∧ Q (.bl (!c)) H1
theorem W4 {op} {t : TE} (h : PE X a t) : PE X (.BoolOp op [a] pos) t := fun pins s σ H Q I hw=>BoolOp_one (h pins s σ H Q I hw)
theorem W5 (ha : PE X a ta) (hb : PE X (.BoolOp .And (b :: rest) pos) tb) : PE X (.BoolOp .And (a :: b :: rest) pos) (AH5 ta tb) := by
 intro pins s σ H Q I h
 refine BoolOp_and (G0 (ha pins s σ H _ I h) fun v s1 ⟨x,H1,I1,r1,q1⟩=>?_)
 obtain ⟨c,rfl,q1⟩ := q1
 cases r1
 refine wpAny_truthy_bool ?_
 cases c with
 | true=>exact hb pins s1 σ H1 Q I1 q1
 | false=>exact ⟨.bl false,H1,I1,rfl,q1⟩
theorem AI1 (ha : PE X a ta) (hb : PE X (.BoolOp .Or (b :: rest) pos) tb) : PE X (.BoolOp .Or (a :: b :: rest) pos) (BE3 ta tb) := by
 intro pins s σ H Q I h
 refine BoolOp_or (G0 (ha pins s σ H _ I h) fun v s1 ⟨x,H1,I1,r1,q1⟩=>?_)
 obtain ⟨c,rfl,q1⟩ := q1
 cases r1
 refine wpAny_truthy_bool ?_
 cases c with
 | false=>exact hb pins s1 σ H1 Q I1 q1
 | true=>exact ⟨.bl true,H1,I1,rfl,q1⟩
theorem lW (ha : PE X a ta) : PE X (.UnaryOp .Not a pos) (AZ9 ta) := by
 intro pins s σ H Q I h
 refine UnaryOp_ (G0 (ha pins s σ H _ I h) fun v s1 ⟨x,H1,I1,r1,q1⟩=>?_)
 obtain ⟨c,rfl,q1⟩ := q1
 cases r1
 exact not_of (wpAny_truthy_bool ⟨.bl (!c),H1,I1,rfl,q1⟩)
def tIf (t : TT) (ta tb : TE) : TE := fun σ H Q=>t σ H fun c H1=>if c = true then ta σ H1 Q else tb σ H1 Q
theorem gH {c : Expr} (hc : PT X c tA) (ha : PE X a ta) (hb : PE X b tb) : PE X (.IfExp c a b pos) (tIf tA ta tb) := by
 intro pins s σ H Q I h
 refine wpAny_IfExp (G0 (hc pins s σ H _ I h) fun d s1 ⟨H1,I1,q1⟩=>?_)
 cases d with
 | true=>exact ha pins s1 σ H1 Q I1 q1
 | false=>exact hb pins s1 σ H1 Q I1 q1
end
end L2
namespace L2
open PySem PySem.Spec PyProof.Rows
def SqL (K : PySem.W.Frag) (H : Hp) (a : Addr) (xs : List V) : Prop :=
 Rd H a (.lst xs) ∨
  ∃ (o : Obj) (its : Array Value) (n : Nat),K.lookup a = some o ∧ o.cls = .type "list" ∧ o.dict = none ∧ o.data = .seq its n ∧ its.size ≤ sizeLine ∧ Vals xs its.toList
def SqT (K : PySem.W.Frag) (H : Hp) (a : Addr) (xs : List V) : Prop :=
 Rd H a (.tup xs) ∨
  ∃ (o : Obj) (its : Array Value) (n : Nat),K.lookup a = some o ∧ o.cls = .type "tuple" ∧ o.data = .seq its n ∧ its.size ≤ sizeLine ∧ Vals xs its.toList
def BH3 : Value → Option V
 | .none=>some .non
 | .bool b=>some (.bl b)
 | .int i _=>some (.int i)
 | .str x _=>some (.str x)
 | .bytes b _=>some (.byt b)
 | .float b _=>some (.flt b)
 | .ref a=>some (.ref a)
 | .type n=>some (.ty n)
 | _=>none
theorem RelV.abs {x : V} {u : Value} (r : RelV x u) : BH3 u = some x := by
 cases x with
 | non=>cases r; rfl
 | bl _=>cases r; rfl
 | int _=>obtain ⟨t,rfl⟩ := r; rfl
 | str _=>obtain ⟨t,rfl⟩ := r; rfl
 | byt _=>obtain ⟨t,rfl⟩ := r; rfl
 | flt _=>obtain ⟨t,rfl⟩ := r; rfl
 | ref _=>cases r; rfl
 | ty _=>cases r; rfl
theorem RelV.inj {x y : V} {u : Value} (r : RelV x u) (q : RelV y u) : x = y := Option.some.inj (r.abs.symm.trans q.abs)
theorem Vals.inj : ∀ {xs ys : List V} {us : List Value},Vals xs us → Vals ys us → xs = ys
 | _,_,_,.nil,.nil=>rfl
 | _,_,_,.cons r t,.cons r' t'=>by rw [r.inj r',Vals.inj t t']
section
variable {X : Cx} {pins : List (Addr × Obj)} {σ : St} {H : Hp} {s : Shared} {a : Addr} {xs ys : List V}
theorem SqL.of {K : PySem.W.Frag} (h : H a = some (.lst xs)) : SqL K H a xs := .inl (.inl h)
theorem SqT.of {K : PySem.W.Frag} (h : H a = some (.tup xs)) : SqT K H a xs := .inl (.inl h)
theorem Inv.list (I : Inv X pins σ H s) (h : SqL X.K H a xs) : ∃ its : List Value,Vals xs its ∧ PlainL s.heap a its.toArray ∧ xs.length ≤ sizeLine := by
 rcases h with h | ⟨o,its,n,hk,hc,hd,hs,hz,r⟩
 ·obtain ⟨z,its,n,r,e⟩ := h.ok I.hok
  exact ⟨its,r,⟨_,n,e,rfl,rfl,rfl⟩,z⟩
 ·refine ⟨its.toList,r,⟨o,n,I.kIn a o hk,hc,hd,by simpa using hs⟩,?_⟩
  have e := r.length
  simp only [Array.length_toList] at e
  omega
theorem Inv.tuple (I : Inv X pins σ H s) (h : SqT X.K H a xs) : ∃ its : List Value,Vals xs its ∧ IsTup s.heap a its.toArray ∧ xs.length ≤ sizeLine := by
 rcases h with h | ⟨o,its,n,hk,hc,hs,hz,r⟩
 ·obtain ⟨z,its,r,p⟩ := h.ok I.hok
  exact ⟨its,r,p,z⟩
 ·refine ⟨its.toList,r,⟨o,I.kIn a o hk,hc,n,by simpa using hs⟩,?_⟩
  have e := r.length
  simp only [Array.length_toList] at e
  omega
theorem Inv.list_inj (I : Inv X pins σ H s) (h : SqL X.K H a xs) (h' : SqL X.K H a ys) : xs = ys := by
 obtain ⟨its,r,⟨o,n,e,_,_,d⟩,_⟩ := I.list h
 obtain ⟨its',r',⟨o',n',e',_,_,d'⟩,_⟩ := I.list h'
 rw [e] at e'; cases e'
 rw [d] at d'
 injection d' with d1 _
 have : its = its' := by simpa using congrArg Array.toList d1
 subst this
 exact r.inj r'
theorem Inv.tuple_inj (I : Inv X pins σ H s) (h : SqT X.K H a xs) (h' : SqT X.K H a ys) : xs = ys := by
 obtain ⟨its,r,⟨o,e,_,n,d⟩,_⟩ := I.tuple h
 obtain ⟨its',r',⟨o',e',_,n',d'⟩,_⟩ := I.tuple h'
 rw [e] at e'; cases e'
 rw [d] at d'
 injection d' with d1 _
 have : its = its' := by simpa using congrArg Array.toList d1
 subst this
 exact r.inj r'
end
abbrev Cx.wish (X : Cx) (E : Value → Shared → Prop) : Cx := { X with xe := E }
abbrev Cx.nox (X : Cx) : Cx := X.wish fun _ _=>False
theorem Cx.Ok.wish {X : Cx} (ok : X.Ok) (E : Value → Shared → Prop) : (X.wish E).Ok :=
 ⟨ok.mod,ok.kind,ok.glob,ok.blt,ok.above,ok.inj,ok.has,ok.cab,ok.hd,ok.frames,ok.stk,ok.exf,ok.bs,ok.bsz,ok.noex,ok.exfs,ok.funs,ok.frf⟩
theorem Cx.Ok.unwish {X : Cx} {E : Value → Shared → Prop} (ok : (X.wish E).Ok) : X.Ok :=
 ⟨ok.mod,ok.kind,ok.glob,ok.blt,ok.above,ok.inj,ok.has,ok.cab,ok.hd,ok.frames,ok.stk,ok.exf,ok.bs,ok.bsz,ok.noex,ok.exfs,ok.funs,ok.frf⟩
section
variable {X : Cx} {pins : List (Addr × Obj)} {σ : St} {H : Hp} {s : Shared} {E : Value → Shared → Prop}
theorem Inv.wish (I : Inv X pins σ H s) (E : Value → Shared → Prop) : Inv (X.wish E) pins σ H s := ⟨I.ok.wish E,I.os,I.bare,I.base,I.loc,I.cell,I.free,I.freeC,I.pin,I.hok,I.len⟩
theorem Inv.unwish (I : Inv (X.wish E) pins σ H s) : Inv X pins σ H s := ⟨I.ok.unwish,I.os,I.bare,I.base,I.loc,I.cell,I.free,I.freeC,I.pin,I.hok,I.len⟩
theorem SP.unwish {D : eU} {f : Flow} {s' : Shared} (h : SP (X.wish E) pins D f s') : SP X pins D f s' := by
 cases f with
 | next=>obtain ⟨σ',H',I,q⟩ := h; exact ⟨σ',H',I.unwish,q⟩
 | brk=>obtain ⟨σ',H',I,q⟩ := h; exact ⟨σ',H',I.unwish,q⟩
 | cont=>obtain ⟨σ',H',I,q⟩ := h; exact ⟨σ',H',I.unwish,q⟩
 | ret u=>obtain ⟨v,σ',H',I,r,q⟩ := h; exact ⟨v,σ',H',I.unwish,r,q⟩
theorem PSs.nox {st : List Stmt} {t : TS} (h : PSs X.nox st t) : PSs X st t := fun pins s σ H D I hw =>
 wpAny_mono (h pins s σ H D (I.wish _) hw) (fun _ _ q=>q.unwish) fun _ _ z=>False.elim z
end
section
variable {X : Cx} {st : Stmt} {rest : List Stmt} {t u : TS} {e : Expr} {te : TE} {pos : Pos}
def BA0 : TS := fun D σ H=>D.nx σ H
def rD (t u : TS) : TS := fun D σ H=>t { D with nx := u D } σ H
theorem D6 : PSs X [] BA0 := fun _ _ σ H _ I h=>wpAny_execs_nil ⟨σ,H,I,h⟩
theorem A7 (h1 : PS X st t) (h2 : PSs X rest u) : PSs X (st :: rest) (rD t u) := by
 intro pins s σ H D I h
 refine wpAny_execs_cons (G0 (h1 pins s σ H { D with nx := u D } I h) fun f s1 q=>?_)
 cases f with
 | next =>
  obtain ⟨σ',H',I',q⟩ := q
  exact h2 pins s1 σ' H' D I' q
 | ret v=>exact q
 | brk=>exact q
 | cont=>exact q
theorem A9 (h1 : PS X st t) : PSs X [st] t := by
 intro pins s σ H D I h
 refine wpAny_execs_cons (G0 (h1 pins s σ H D I h) fun f s1 q=>?_)
 cases f with
 | next=>exact wpAny_execs_nil q
 | ret v=>exact q
 | brk=>exact q
 | cont=>exact q
theorem Inv.quiet {pins : List (Addr × Obj)} {σ : St} {H : Hp} {s : Shared} (I : Inv X pins σ H s) : interactive X.env = false := by simp [interactive,I.ok.kind]
def BA2 (te : TE) : TS := fun D σ H=>te σ H fun _ H1=>D.nx σ H1
theorem K2 (he : PE X e te) (hs : swapsWith e none pos.line X.env = pure false := by rfl) : PS X (.Expr e pos) (BA2 te) := by
 intro pins s σ H D I h
 exact wpAny_Expr_any (G0 (he pins s σ H _ I h) fun v s1 ⟨x,H1,I1,r1,q1⟩=>⟨σ,H1,I1,q1⟩) I.quiet hs
def BE2 (te : TE) : TS := fun D σ H=>te σ H D.rt
theorem B6 (he : PE X e te) : PS X (.Return (some e) pos) (BE2 te) := by
 intro pins s σ H D I h
 exact wpAny_Return_some (G0 (he pins s σ H _ I h) fun v s1 ⟨x,H1,I1,r1,q1⟩=>⟨x,σ,H1,I1,r1,q1⟩)
def BE5 (c : TT) (t u : TS) : TS := fun D σ H=>c σ H fun b H1=>if b = true then t D σ H1 else u D σ H1
theorem E5 {c : Expr} {a b : List Stmt} {tc : TT} (hc : PT X c tc) (ha : PSs X a t) (hb : PSs X b u) : PS X (.If c a b pos) (BE5 tc t u) := by
 intro pins s σ H D I h
 refine wpAny_If (G0 (hc pins s σ H _ I h) fun d s1 ⟨H1,I1,q1⟩=>?_)
 cases d with
 | true=>exact ha pins s1 σ H1 D I1 q1
 | false=>exact hb pins s1 σ H1 D I1 q1
end
abbrev TG := V → St → Hp → (St → Hp → Prop) → Prop
abbrev sZ := List V → St → Hp → (St → Hp → Prop) → Prop
def PG (X : Cx) (target : Expr) (t : TG) : Prop :=
 ∀ (pins : List (Addr × Obj)) (s : Shared) (σ : St) (H : Hp) (v : V) (u : Value) (Q : St → Hp → Prop),Inv X pins σ H s → RelV v u → t v σ H Q →
  wpAny (model X.prog X.w) X.A (assign target X.env u) (fun _ s'=>∃ σ' H',Inv X pins σ' H' s' ∧ Q σ' H') X.xe s
def PGs (X : Cx) (ts : List Expr) (t : sZ) : Prop :=
 ∀ (pins : List (Addr × Obj)) (s : Shared) (σ : St) (H : Hp) (vs : List V) (us : List Value) (Q : St → Hp → Prop),Inv X pins σ H s → Vals vs us → t vs σ H Q →
  wpAny (model X.prog X.w) X.A (assignInOrder ((assignEach ts X.env).map (·.2)) us) (fun _ s'=>∃ σ' H',Inv X pins σ' H' s' ∧ Q σ' H') X.xe s
abbrev AH2 := V → V → V → Hp → (Hp → Prop) → Prop
def AY5 (X : Cx) (t : AH2) : Prop :=
 ∀ (pins : List (Addr × Obj)) (s : Shared) (σ : St) (H : Hp) (o i v : V) (ov iv u : Value) (Q : Hp → Prop),Inv X pins σ H s → RelV o ov → RelV i iv → RelV v u → t o i v H Q →
  wpAny (model X.prog X.w) X.A (setItem ov iv u) (fun _ s'=>∃ H',Inv X pins σ H' s' ∧ Q H') X.xe s
abbrev zQ := V → V → Hp → VK → Prop
def PIp (X : Cx) (op : Operator) (t : zQ) : Prop :=
 ∀ (pins : List (Addr × Obj)) (s : Shared) (σ : St) (H : Hp) (x y : V) (v u : Value) (Q : VK),Inv X pins σ H s → RelV x v → RelV y u → t x y H Q →
  wpAny (model X.prog X.w) X.A (inplaceOp op v u) (EP X pins σ Q) X.xe s
section
variable {X : Cx} {pos : Pos}
def U0 (i : Nat) : TG := fun v σ H Q=>Q (σ.set i (some v)) H
theorem K0 {i : Nat} {x : Str} (hN : X.N.Nodup) (hi : X.N[i]? = some x) (hx : zU X.env.scope x) (hf : X.fn x = true ∨ X.env.scope.names.lookup x = some .local := by first | exact .inl rfl | exact .inr rfl | assumption) : PG X (.Name x pos) (U0 i) := by
 intro pins s σ H v u Q I r h
 exact wpAny_assign_Name (gD I hN hi hx r (fun s' I'=>⟨_,H,I',h⟩) hf)
def BH0 : sZ := fun vs σ H Q=>vs = [] ∧ Q σ H
def BC4 (t : TG) (u : sZ) : sZ := fun vs σ H Q=>∃ v r,vs = v :: r ∧ t v σ H fun σ' H'=>u r σ' H' Q
theorem oA : PGs X [] BH0 := by
 intro pins s σ H vs us Q I r h
 obtain ⟨e,h⟩ := h
 subst e
 cases r
 exact assignInOrder_nil ⟨σ,H,I,h⟩
theorem Y5 {e : Expr} {es : List Expr} {t : TG} {u : sZ} (h1 : PG X e t) (h2 : PGs X es u)
  (hs : (assignEach (e :: es) X.env).map (·.2) = assign e X.env :: (assignEach es X.env).map (·.2) := by rfl) : PGs X (e :: es) (BC4 t u) := by
 intro pins s σ H vs us Q I r h
 obtain ⟨v,vr,e1,h⟩ := h
 subst e1
 cases r with
 | cons r rr =>
  rw [hs]
  refine assignInOrder_cons (G0 (h1 pins s σ H _ _ _ I r h) fun _ s1 ⟨σ1,H1,I1,q1⟩=>?_)
  exact h2 pins s1 σ1 H1 _ _ Q I1 rr q1
def BG8 (K : PySem.W.Frag) (n : Nat) (t : sZ) : TG := fun v σ H Q=>∃ a xs,v = .ref a ∧ SqT K H a xs ∧ xs.length = n ∧ t xs σ H Q
theorem sA {es : List Expr} {k : Nat} {t : sZ} {n : Nat} (hc : X.calm = true) (h : PGs X es t)
  (hn : (assignEach es X.env).length = n := by rfl) (hst : (assignEach es X.env).findIdx? (·.1) = none := by rfl) : PG X (.Tuple es k pos) (BG8 X.K n t) := by
 intro pins s σ H v u Q I r hw
 obtain ⟨a,xs,e1,hq,hl,hw⟩ := hw
 subst e1
 cases r
 obtain ⟨its,rv,ht,hz⟩ := I.tuple hq
 refine assign_Tuple_tuple (I.ok.hd hc) ht (by simp [hn,← hl,rv.length]) hst fun h' hx=>?_
 have I1 : Inv X pins σ H { s with heap := h' } := I.kept (t' := s.toks) fun b o e=>hx b o (Nat.ne_of_lt (Heap.lt_size e)) e
 exact h pins _ σ H xs _ Q I1 (by simpa using rv) hw
def BG9 (to ti : TE) (t : AH2) : TG := fun v σ H Q=>to σ H fun o H1=>ti σ H1 fun i H2=>t o i v H2 fun H3=>Q σ H3
theorem xY {o i : Expr} {to ti : TE} {t : AH2} (ho : PE X o to) (hi : PE X i ti) (hs : AY5 X t)
  (ha : ∀ v,assign (.Subscript o i pos) X.env v = (do
   let ov ← holding [v] (eval o X.env)
   let iv ← holding [v,ov] (eval i X.env)
   standAt pos
   holding [v,ov,iv] (setItem ov iv v)
   release [v,ov,iv] []) := by intro _; rfl) : PG X (.Subscript o i pos) (BG9 to ti t) := by
 intro pins s σ H v u Q I r h
 rw [ha]
 refine wpAny_bind (wpAny_holding (G0 (ho pins s σ H _ I h) fun ov s1 ⟨x,H1,I1,r1,q1⟩=>?_))
 refine wpAny_bind (wpAny_holding (G0 (hi pins s1 σ H1 _ I1 q1) fun iv s2 ⟨y,H2,I2,r2,q2⟩=>?_))
 refine wpAny_bind (wpAny_standAt (wpAny_bind (wpAny_holding (G0 (hs pins s2 σ H2 x y v ov iv u _ I2 r1 r2 r q2) fun _ s3 ⟨H3,I3,q3⟩=>?_))))
 exact wpAny_release ⟨σ,H3,I3,q3⟩
def vT (te : TE) (g : TG) : TS := fun D σ H=>te σ H fun x H1=>g x σ H1 D.nx
theorem xU {tg e : Expr} {te : TE} {g : TG} (he : PE X e te) (hg : PG X tg g) (hs : swapsWithSole [tg] e pos.line X.env = pure false := by rfl) (hw : swappedStores [tg] e X.env = pure none := by rfl)
  (h1 : (assignEach [tg] X.env).map (·.2) = [assign tg X.env] := by rfl) : PS X (.Assign [tg] e pos) (vT te g) := by
 intro pins s σ H D I h
 refine wpAny_Assign_stores (G0 (he pins s σ H _ I h) fun v s1 ⟨x,H1,I1,r1,q1⟩=>?_) hs hw
 rw [h1]
 exact G0 (hg pins s1 σ H1 x v _ I1 r1 q1) fun _ s2 q=>q
theorem B7 {i : Nat} {x : Str} {e : Expr} {te : TE} {pos' : Pos} (hN : X.N.Nodup) (hi : X.N[i]? = some x) (hx : zU X.env.scope x) (he : PE X e te) (hs : swapsWith e (some (.Name x pos')) pos.line X.env = pure false := by rfl) (hf : X.fn x = true ∨ X.env.scope.names.lookup x = some .local := by first | exact .inl rfl | exact .inr rfl | assumption) :
  PS X (.Assign [.Name x pos'] e pos) (vT te (U0 i)) := by
 intro pins s σ H D I h
 refine wpAny_Assign_Name (G0 (he pins s σ H _ I h) fun v s1 ⟨y,H1,I1,r1,q1⟩=>?_) hs
 exact gD I1 hN hi hx r1 (fun s2 I2=>⟨_,H1,I2,q1⟩) hf
def vS (i : Nat) (te : TE) (ti : zQ) : TS := fun D σ H=>∃ x,σ[i]? = some (some x) ∧ te σ H fun y H1=>ti x y H1 fun z H2=>D.nx (σ.set i (some z)) H2
theorem Q5 {i : Nat} {x : Str} {e : Expr} {te : TE} {op : Operator} {ti : zQ} {pos' : Pos} (hN : X.N.Nodup) (hi : X.N[i]? = some x) (hx : zU X.env.scope x) (he : PE X e te) (ho : PIp X op ti) (hf : X.fn x = true ∨ X.env.scope.names.lookup x = some .local := by first | exact .inl rfl | exact .inr rfl | assumption) :
  PS X (.AugAssign (.Name x pos') op e pos) (vS i te ti) := by
 intro pins s σ H D I h
 obtain ⟨v,e1,h⟩ := h
 obtain ⟨m,hn,hl⟩ := I.loc
 have vis : vI X.env.scope x := by rcases hx with k | k; exact .inl k; exact .inr (.inl k)
 obtain ⟨u,r,l⟩ := hl i x v hi e1 vis
 refine wpAny_AugAssign_Name ?_
 have go : wpAny (model X.prog X.w) X.A (eval e X.env) (fun w s₂=>wpAny (model X.prog X.w) X.A (inplaceOp op u w) (fun r s₃=>wpAny (model X.prog X.w) X.A (storeName X.env x r) (fun _=>SP X pins D .next) X.xe s₃) X.xe s₂) X.xe s := by
  refine G0 (he pins s σ H _ I h) fun w s1 ⟨y,H1,I1,r1,q1⟩=>?_
  refine G0 (ho pins s1 σ H1 v y u w _ I1 r r1 q1) fun z s2 ⟨zv,H2,I2,r2,q2⟩=>?_
  exact gD I2 hN hi hx r2 (fun s3 I3=>⟨_,H2,I3,q2⟩) hf
 rcases l with ⟨hk,hm⟩ | ⟨hk,c,hc,hcell⟩
 ·exact wpAny_loadName_local I.ok.kind hk hn hm go
 ·rcases hk with hk | hk
  ·exact wpAny_loadName_cell I.ok.kind hk hc hcell go
  ·rcases hx with k | k
   ·have : X.env.scope.names.lookup x = some .free := hk
    rw [k] at this; cases this
   ·have : X.env.scope.names.lookup x = some .free := hk
    rw [k] at this; cases this
def ipI (f : Int → Int → Int) : zQ := fun x y H Q=>∃ i j,x = .int i ∧ y = .int j ∧ Q (.int (f i j)) H
theorem mI : PIp X .Add (ipI fun i j=>i + j) := by
 intro pins s σ H x y v u Q I r1 r2 h
 obtain ⟨i,j,e1,e2,q⟩ := h
 subst e1; subst e2
 obtain ⟨t,rfl⟩ := r1
 obtain ⟨t',rfl⟩ := r2
 exact iadd_int ⟨.int _,H,I.tok _,⟨_,rfl⟩,q⟩
end
section
variable {X : Cx} {pos : Pos}
def AQ5 (c : TT) (tb : TS) : TS := fun D σ H=>∃ W : Nat → St → Hp → Prop,(∃ m,W m σ H) ∧ ∀ m σ H,W m σ H →
 c σ H fun b H1=>if b = true then ∃ N : St → Hp → Prop,(∀ σ' H',N σ' H' → ∃ m',m' < m ∧ W m' σ' H') ∧ tb { D with nx := N,ct := N,bk := D.nx } σ H1 else D.nx σ H1
theorem W3 {c : Expr} {body : List Stmt} {tc : TT} {tb : TS} (hp : PassesOwn (model X.prog X.w) X.A X.env X.xe) (hc : PT X c tc) (hb : PSs X body tb) : PS X (.While c body [] pos) (AQ5 tc tb) := by
 intro pins s σ H D I h
 obtain ⟨W,⟨m0,w0⟩,turn⟩ := h
 refine wpAny_While (codeAny_whileLoop (fun n s'=>∃ σ' H',Inv X pins σ' H' s' ∧ W n σ' H') ?_ m0 ⟨σ,H,I,w0⟩)
 rintro n s1 ⟨σ1,H1,I1,w1⟩
 refine wpAny_passesOwn hp (G0 (hc pins s1 σ1 H1 _ I1 (turn n σ1 H1 w1)) fun b s2 ⟨H2,I2,q2⟩=>?_)
 cases b with
 | true =>
  obtain ⟨N,hN,q2⟩ := q2
  rw [if_pos rfl]
  refine wpAny_passesOwn hp (G0 (hb pins s2 σ1 H2 _ I2 q2) fun f s3 q3=>?_)
  cases f with
  | next =>
   obtain ⟨σ3,H3,I3,n3⟩ := q3
   obtain ⟨m',hm,w3⟩ := hN σ3 H3 n3
   exact ⟨m',hm,σ3,H3,I3,w3⟩
  | cont =>
   obtain ⟨σ3,H3,I3,n3⟩ := q3
   obtain ⟨m',hm,w3⟩ := hN σ3 H3 n3
   exact ⟨m',hm,σ3,H3,I3,w3⟩
  | brk=>exact q3
  | ret v=>exact q3
 | false =>
  rw [if_neg Bool.false_ne_true]
  exact wpAny_execs_nil ⟨σ1,H2,I2,q2⟩
end
structure It where
 go : Nat → Hp → Prop
 yld : Nat → Hp → V → Hp → Prop
 stop : Nat → Hp → Prop
def Z2 (X : Cx) (pins : List (Addr × Obj)) (H : Hp) (b : Addr) : Prop :=
 H b = none ∧ b ≠ X.env.locals ∧ b ∉ X.fs ∧ (b ∈ X.ex ∨ X.s₀.heap.objs.size ≤ b) ∧ (∀ x c,X.env.cells.lookup x = some c → c ≠ b) ∧ ∀ p ∈ X.pn ++ pins,p.1 ≠ b
theorem Inv.fpOk {X : Cx} {pins : List (Addr × Obj)} {σ : St} {H H' : Hp} {s : Shared} {b : Addr} (I : Inv X pins σ H s) (hb : s.heap.objs.size ≤ b) (hn : H' b = none) : Z2 X pins H' b := by
 refine ⟨hn,Nat.ne_of_gt (Nat.lt_of_lt_of_le I.lt hb),I.nofs hb,.inr (Nat.le_trans I.sz hb),fun x c e z=>?_,fun p hp z=>?_⟩
 ·obtain ⟨v,q⟩ := I.cell x c e
  exact absurd (Nat.lt_of_lt_of_le q.lt (by rw [z]; exact hb)) (Nat.lt_irrefl _)
 ·exact absurd (Nat.lt_of_lt_of_le (Heap.lt_size (I.pin p hp).1) (by rw [z]; exact hb)) (Nat.lt_irrefl _)
structure hW (P : Program) (w : World) (K : PySem.W.Frag) (tg : Expr) (J : It) (fp : List Addr) (it : Addr) (tn : Nat → Heap → Prop) : Prop where
 mem : it ∈ fp
 obj : ∀ i h,tn i h → ∀ b ∈ fp,∃ o,h.get? b = some o ∧ ∀ v,o.data ≠ .cell v
 keep : ∀ i h h',tn i h → (∀ b ∈ fp,∀ o,h.get? b = some o → h'.get? b = some o) → tn i h'
 item : ∀ (X : Cx),X.prog = P → X.w = w → X.K = K → X.calm = true → ∀ (i : Nat) (pins : List (Addr × Obj)) (s : Shared) (σ : St) (H : Hp) (E : Value → Shared → Prop),Inv X pins σ H s → (∀ b ∈ fp,Z2 X pins H b) → tn i s.heap → J.go i H →
  wpAny (model P w) X.A (pyNext (.ref it)) (fun r s1=>∃ u,r = some u ∧
   wpAny (model P w) X.A (letOwnedTupleGo tg (.ref it) u) (fun _ s2=>∃ x H',Inv X pins σ H' s2 ∧ RelV x u ∧ J.yld i H x H' ∧ tn (i + 1) s2.heap ∧ ∀ b ∈ fp,H' b = none) E s1) E s
 done : ∀ (X : Cx),X.prog = P → X.w = w → X.K = K → X.calm = true → ∀ (i : Nat) (pins : List (Addr × Obj)) (s : Shared) (σ : St) (H : Hp) (E : Value → Shared → Prop),Inv X pins σ H s → (∀ b ∈ fp,Z2 X pins H b) → tn i s.heap → J.stop i H →
  wpAny (model P w) X.A (pyNext (.ref it)) (fun r s1=>r = none ∧ Inv X pins σ H s1) E s
 self : ∀ (A : Around) (i : Nat) (s : Shared) (Q : Value → Shared → Prop) (E : Value → Shared → Prop),tn i s.heap → Q (.ref it) s → wpAny (model P w) A (pyIter (.ref it)) Q E s
abbrev TI := St → Hp → (It → Hp → Prop) → Prop
def PIE (X : Cx) (pins : List (Addr × Obj)) (σ : St) (tg : Expr) (R : It → Hp → Prop) (itv : Value) (s2 : Shared) : Prop :=
 ∃ (it : Addr) (fp : List Addr) (tn : Nat → Heap → Prop) (J : It) (H' : Hp),itv = .ref it ∧ Inv X pins σ H' s2 ∧ hW X.prog X.w X.K tg J fp it tn ∧ tn 0 s2.heap ∧ (∀ b ∈ fp,Z2 X pins H' b) ∧ R J H'
def PI (X : Cx) (tg iter : Expr) (wi : TI) : Prop :=
 ∀ (pins : List (Addr × Obj)) (s : Shared) (σ : St) (H : Hp) (R : It → Hp → Prop),Inv X pins σ H s → wi σ H R →
  wpAny (model X.prog X.w) X.A (eval iter X.env) (fun v s1=>wpAny (model X.prog X.w) X.A (pyIter v) (PIE X pins σ tg R) X.xe s1) X.xe s
theorem mK {M : Model} {A : Around} {E : Value → Shared → Prop} {s : Shared} {tg : Expr} {it : Addr} {u : Value} {o : Obj} {n : String} {vs : Array Value} {Q : Unit → Shared → Prop} (ho : s.heap.get? it = some o) (hc : o.cls = .type n) (hd : o.data = .fields vs)
    (hn : ["enumerate", "zip", "dict_itemiterator", "dict_reverseitemiterator", "odict_iterator", "itertools.zip_longest", "itertools.pairwise"].contains n = false) (hQ : Q () s) : wpAny M A (letOwnedTupleGo tg (.ref it) u) Q E s := by
  unfold letOwnedTupleGo
  cases tg <;> first
    | exact wpAny_pure hQ
    | (cases u <;> first
        | exact wpAny_pure hQ
        | (refine wpAny_bind (wpAny_load ho ?_)
           rw [hc, hd]
           show wpAny M A (if (["enumerate", "zip", "dict_itemiterator", "dict_reverseitemiterator", "odict_iterator", "itertools.zip_longest", "itertools.pairwise"].contains n && vs[0]? == some (rawInt _)) = true then _ else _) Q E s
           rw [if_neg (by intro h; rw [hn, Bool.false_and] at h; cases h)]
           exact wpAny_pure hQ))
def vK (K : PySem.W.Frag) (a : Addr) : It :=
 ⟨fun i H=>∃ xs x,SqL K H a xs ∧ xs[i]? = some x,fun i H x H'=>H' = H ∧ ∀ xs,SqL K H a xs → xs[i]? = some x,fun i H=>∃ xs,SqL K H a xs ∧ xs.length ≤ i⟩
def vJ (K : PySem.W.Frag) (a : Addr) : It :=
 ⟨fun i H=>∃ xs x,SqT K H a xs ∧ xs[i]? = some x,fun i H x H'=>H' = H ∧ ∀ xs,SqT K H a xs → xs[i]? = some x,fun i H=>∃ xs,SqT K H a xs ∧ xs.length ≤ i⟩
def tH (lo : Int) (n : Nat) : It := ⟨fun i _=>i < n,fun i H x H'=>H' = H ∧ x = .int (lo + i),fun i _=>n ≤ i⟩
theorem xC {P : Program} {w : World} {K : PySem.W.Frag} {tg : Expr} (a it : Addr) : hW P w K tg (vK K a) [it] it (fun i h=>h.IsListIter it a i) where
 mem := by simp
 obj := fun i h st b hb=>by
  have e : b = it := by simpa using hb
  subst e
  obtain ⟨o,e,c,d⟩ := st
  exact ⟨o,e,fun v z=>by rw [d] at z; cases z⟩
 keep := fun i h h' st k=>st.at fun o e=>k it (by simp) o e
 item := by
  intro X hP hw hK hc i pins s σ H E I hf st hg
  subst hP hw hK
  obtain ⟨xs,x,hq,hx⟩ := hg
  obtain ⟨its,rv,p,hz⟩ := I.list hq
  obtain ⟨u,hu,ru⟩ := rv.get hx
  obtain ⟨f0,f1,f2,f3,f4,f5⟩ := hf it (by simp)
  refine wpAny_pyNext_list_item st p.isList (x := u) (by simpa using hu) fun h' st' sb=>?_
  have I1 : Inv X pins σ H { s with heap := h' } := I.turned (t' := s.toks) (fun b o hb e=>(sb.2 b hb).trans e) f0 f1 f3 f4 f5
  obtain ⟨o,e,c,d⟩ := id st'
  exact ⟨u,rfl,mK (s := { s with heap := h' }) e c d (by decide) ⟨x,H,I1,ru,⟨rfl,fun ys hy=>by rw [I.list_inj hy hq]; exact hx⟩,st',fun b hb=>(hf b hb).1⟩⟩
 done := by
  intro X hP hw hK hc i pins s σ H E I hf st hg
  subst hP hw hK
  obtain ⟨xs,hq,hx⟩ := hg
  obtain ⟨its,rv,p,hz⟩ := I.list hq
  obtain ⟨f0,f1,f2,f3,f4,f5⟩ := hf it (by simp)
  have hl := rv.length
  exact wpAny_pyNext_list_end (I.ok.hd hc) st p.isList (by simp; omega) fun h' eb=>⟨rfl,I.turned (t' := s.toks) (fun b o hb e=>eb b o hb e) f0 f1 f3 f4 f5⟩
 self := fun _ _ _ _ _ st h=>wpAny_pyIter_listiter st h
theorem vN {P : Program} {w : World} {K : PySem.W.Frag} {tg : Expr} (a it : Addr) : hW P w K tg (vJ K a) [it] it (fun i h=>h.IsTupleIter it a i) where
 mem := by simp
 obj := fun i h st b hb=>by
  have e : b = it := by simpa using hb
  subst e
  obtain ⟨o,e,c,d⟩ := st
  exact ⟨o,e,fun v z=>by rw [d] at z; cases z⟩
 keep := fun i h h' st k=>st.at fun o e=>k it (by simp) o e
 item := by
  intro X hP hw hK hc i pins s σ H E I hf st hg
  subst hP hw hK
  obtain ⟨xs,x,hq,hx⟩ := hg
  obtain ⟨its,rv,p,hz⟩ := I.tuple hq
  obtain ⟨u,hu,ru⟩ := rv.get hx
  obtain ⟨f0,f1,f2,f3,f4,f5⟩ := hf it (by simp)
  refine wpAny_pyNext_tuple_item st (show s.heap.IsTuple a its.toArray from p) (x := u) (by simpa using hu) fun h' st' sb=>?_
  have I1 : Inv X pins σ H { s with heap := h' } := I.turned (t' := s.toks) (fun b o hb e=>(sb.2 b hb).trans e) f0 f1 f3 f4 f5
  obtain ⟨o,e,c,d⟩ := id st'
  exact ⟨u,rfl,mK (s := { s with heap := h' }) e c d (by decide) ⟨x,H,I1,ru,⟨rfl,fun ys hy=>by rw [I.tuple_inj hy hq]; exact hx⟩,st',fun b hb=>(hf b hb).1⟩⟩
 done := by
  intro X hP hw hK hc i pins s σ H E I hf st hg
  subst hP hw hK
  obtain ⟨xs,hq,hx⟩ := hg
  obtain ⟨its,rv,p,hz⟩ := I.tuple hq
  obtain ⟨f0,f1,f2,f3,f4,f5⟩ := hf it (by simp)
  have hl := rv.length
  exact wpAny_pyNext_tuple_end (I.ok.hd hc) st (show s.heap.IsTuple a its.toArray from p) (by simp; omega) fun h' eb=>⟨rfl,I.turned (t' := s.toks) (fun b o hb e=>eb b o hb e) f0 f1 f3 f4 f5⟩
 self := fun _ _ _ _ _ st h=>wpAny_pyIter_tupleiter st h
theorem vO {P : Program} {w : World} {K : PySem.W.Frag} {tg : Expr} (it : Addr) (lo : Int) (n : Nat) : hW P w K tg (tH lo n) [it] it (fun i h=>IsRangeIter h it (lo + (i : Nat) * 1) ((n : Int) - (i : Nat)) 1) where
 mem := by simp
 obj := fun i h st b hb=>by
  have e : b = it := by simpa using hb
  subst e
  exact ⟨_,st,fun v z=>by
   have z' : Data.fields _ = Data.cell v := z
   cases z'⟩
 keep := fun i h h' st k=>k it (by simp) _ st
 item := by
  intro X hP hw hK hc i pins s σ H E I hf st hg
  subst hP hw hK
  obtain ⟨f0,f1,f2,f3,f4,f5⟩ := hf it (by simp)
  have W := Walks.range (prog := X.prog) (w := X.w) (I.ok.hd hc) it lo 1 n
  refine W.item i s _ _ hg st fun v h' tk hv st' kk=>?_
  obtain ⟨t,rfl⟩ := hv
  have I1 : Inv X pins σ H { s with heap := h',toks := tk } := I.turned (fun b o hb e=>kk b o (by simpa using hb) e) f0 f1 f3 f4 f5
  refine ⟨_,rfl,mK (s := { s with heap := h',toks := tk }) (n := "range_iterator") st' rfl rfl (by decide) ⟨.int (lo + i),H,I1,⟨t,?_⟩,⟨rfl,rfl⟩,st',fun b hb=>(hf b hb).1⟩⟩
  rw [Int.mul_one]
 done := by
  intro X hP hw hK hc i pins s σ H E I hf st hg
  subst hP hw hK
  obtain ⟨f0,f1,f2,f3,f4,f5⟩ := hf it (by simp)
  exact wpAny_pyNext_range_end (I.ok.hd hc) st (by have : n ≤ i := hg; omega) fun h' eb=>⟨rfl,I.turned (t' := s.toks) (fun b o hb e=>eb b o hb e) f0 f1 f3 f4 f5⟩
 self := fun _ _ _ _ _ st h=>wpAny_pyIter_rangeiter st h
end L2
namespace L2
open PySem PySem.Spec PyProof.Rows
section
variable {X : Cx} {tg : Expr}
def BC1 (K : PySem.W.Frag) (tl : TE) : TI := fun σ H R=>tl σ H fun x H1=>∃ a,x = .ref a ∧ (∃ xs,SqL K H1 a xs) ∧ R (vK K a) H1
def BG6 (K : PySem.W.Frag) (tl : TE) : TI := fun σ H R=>tl σ H fun x H1=>∃ a,x = .ref a ∧ (∃ xs,SqT K H1 a xs) ∧ R (vJ K a) H1
theorem bZ {l : Expr} {tl : TE} (hl : PE X l tl) : PI X tg l (BC1 X.K tl) := by
 intro pins s σ H R I h
 refine G0 (hl pins s σ H _ I h) fun v s1 ⟨x,H1,I1,r1,q1⟩=>?_
 obtain ⟨a,e,⟨xs,hq⟩,q⟩ := q1
 subst e
 cases r1
 obtain ⟨its,rv,p,hz⟩ := I1.list hq
 refine wpAny_pyIter_list p.isList ?_
 refine ⟨s1.heap.objs.size,[s1.heap.objs.size],_,_,H1,rfl,I1.kept (t' := s1.toks) fun b o e=>Heap.get?_push_of_some _ e,xC a _,⟨_,Heap.get?_push_size _ rfl,rfl,rfl⟩,fun b hb=>?_,q⟩
 have e : b = s1.heap.objs.size := by simpa using hb
 subst e
 exact I1.fpOk (Nat.le_refl _) (I1.hok.fresh (Nat.le_refl _))
theorem lV {l : Expr} {tl : TE} (hl : PE X l tl) : PI X tg l (BG6 X.K tl) := by
 intro pins s σ H R I h
 refine G0 (hl pins s σ H _ I h) fun v s1 ⟨x,H1,I1,r1,q1⟩=>?_
 obtain ⟨a,e,⟨xs,hq⟩,q⟩ := q1
 subst e
 cases r1
 obtain ⟨its,rv,p,hz⟩ := I1.tuple hq
 refine wpAny_pyIter_tuple (show s1.heap.IsTuple a its.toArray from p) ?_
 refine ⟨s1.heap.objs.size,[s1.heap.objs.size],_,_,H1,rfl,I1.kept (t' := s1.toks) fun b o e=>Heap.get?_push_of_some _ e,vN a _,⟨_,Heap.get?_push_size _ rfl,rfl,rfl⟩,fun b hb=>?_,q⟩
 have e : b = s1.heap.objs.size := by simpa using hb
 subst e
 exact I1.fpOk (Nat.le_refl _) (I1.hok.fresh (Nat.le_refl _))
theorem AB3 {pins : List (Addr × Obj)} {σ : St} {H : Hp} {s : Shared} {R : It → Hp → Prop} {E : Value → Shared → Prop} {lo hi : Int} {t u v : Tok} {tk : Nat} (I : Inv X pins σ H s) (h1 : -(2 ^ 62) ≤ lo) (h2 : lo < 2 ^ 62) (h3 : -(2 ^ 62) ≤ hi) (h4 : hi < 2 ^ 62)
  (q : R (tH lo (hi - lo).toNat) H) : wpAny (model X.prog X.w) X.A (pyIter (.ref s.heap.objs.size)) (PIE X pins σ tg R) E { s with heap := s.heap.push { cls := .type "range",data := .fields #[.int lo t,.int hi u,.int 1 v] },toks := tk } := by
 refine wpAny_pyIter_range (IsRange.new ..) (small_one h1 h2 h3 h4) ?_
 have I1 : Inv X pins σ H { s with heap := s.heap.push { cls := .type "range",data := .fields #[.int lo t,.int hi u,.int 1 v] },toks := tk } := I.kept fun b o e=>Heap.get?_push_of_some _ e
 refine ⟨(s.heap.push { cls := .type "range",data := .fields #[.int lo t,.int hi u,.int 1 v] }).objs.size,[(s.heap.push { cls := .type "range",data := .fields #[.int lo t,.int hi u,.int 1 v] }).objs.size],_,_,H,rfl,
  I1.kept (t' := tk) fun b o e=>Heap.get?_push_of_some _ e,vO _ lo (hi - lo).toNat,?_,fun b hb=>?_,q⟩
 ·have e1 : lo + ((0 : Nat) : Int) * 1 = lo := by simp
  have e2 : (((hi - lo).toNat : Nat) : Int) - ((0 : Nat) : Int) = Builtin.Range.rangeSize lo hi 1 := by rw [rangeSize_one]; split <;> omega
  show IsRangeIter _ _ (lo + ((0 : Nat) : Int) * 1) ((((hi - lo).toNat : Nat) : Int) - ((0 : Nat) : Int)) 1
  rw [e1,e2]
  exact Heap.get?_push_size _ rfl
 ·have e : b = (s.heap.push { cls := .type "range",data := .fields #[.int lo t,.int hi u,.int 1 v] }).objs.size := by simpa using hb
  subst e
  exact I1.fpOk (Nat.le_refl _) (I1.hok.fresh (Nat.le_refl _))
def BC0 (ta : TA) : TI := fun σ H R=>ta σ H fun vs H1=>∃ j : Int,vs = [.int j] ∧ -(2 ^ 62) ≤ j ∧ j < 2 ^ 62 ∧ R (tH 0 j.toNat) H1
theorem O0 {a : Expr} {ta : TA} {p pos : Pos} (hg : Gl X "range") (hm : X.mg "range" = none) (ha : PA X [a] ta) (hs : starEach [a] X.env = [(false,eval a X.env)] := by rfl) : PI X tg (.Call (.Name "range" p) [a] [] pos) (BC0 ta) := by
 intro pins s σ H R I h
 refine Call_ (fV I hg hm boot_range (PyProof.Rows.callWith_type1 (G0 (ha pos pins s σ H _ I h) fun us s1 ⟨vs,H1,I1,r1,q1⟩=>?_) hs rfl))
 obtain ⟨j,e,q1,q2,q⟩ := q1
 subst e
 cases r1 with
 | cons r rr =>
  cases rr
  obtain ⟨t,rfl⟩ := r
  exact call_range_1 (AB3 I1 (by omega) (by omega) q1 q2 (by simpa using q))
def BE6 (wi : TI) (g : TG) (tb : TS) : TS := fun D σ H=>wi σ H fun J H1=>∃ W : Nat → Nat → St → Hp → Prop,(∃ m,W 0 m σ H1) ∧ ∀ i m σ H,W i m σ H →
 (J.stop i H ∧ D.nx σ H) ∨ (J.go i H ∧ ∃ N : St → Hp → Prop,(∀ σ' H',N σ' H' → ∃ m',m' < m ∧ W (i + 1) m' σ' H') ∧ ∀ x H',J.yld i H x H' → g x σ H' fun σ2 H2=>tb { D with nx := N,ct := N,bk := D.nx } σ2 H2)
def X8 (fp : List Addr) (h : Heap) : List (Addr × Obj) := fp.filterMap fun b=>(h.get? b).map fun o=>(b,o)
theorem X2 {fp : List Addr} {h : Heap} {b : Addr} {o : Obj} (hb : b ∈ fp) (e : h.get? b = some o) : (b,o) ∈ X8 fp h := List.mem_filterMap.mpr ⟨b,hb,by rw [e]; rfl⟩
theorem yI {fp : List Addr} {h : Heap} {p : Addr × Obj} (hp : p ∈ X8 fp h) : p.1 ∈ fp ∧ h.get? p.1 = some p.2 := by
 obtain ⟨b,hb,e⟩ := List.mem_filterMap.mp hp
 cases q : h.get? b with
 | none=>rw [q] at e; cases e
 | some o =>
  rw [q] at e
  have e' : (b,o) = p := Option.some.inj e
  subst e'
  exact ⟨hb,q⟩
theorem Inv.pinned {pins : List (Addr × Obj)} {σ : St} {H : Hp} {s : Shared} {fp : List Addr} (I : Inv X pins σ H s) (hf : ∀ b ∈ fp,Z2 X pins H b) (ho : ∀ b ∈ fp,∃ o,s.heap.get? b = some o ∧ ∀ v,o.data ≠ .cell v) : Inv X (pins ++ X8 fp s.heap) σ H s :=
 I.pins_of fun p hp=>(List.mem_append.mp hp).elim (fun z=>I.pin p (List.mem_append_right _ z)) fun z=>by
  obtain ⟨hb,e⟩ := yI z
  obtain ⟨f0,f1,f2,_⟩ := hf p.1 hb
  obtain ⟨o,e',d⟩ := ho p.1 hb
  rw [e] at e'; cases e'
  exact ⟨e,f0,f1,f2,d⟩
theorem Inv.unpinned {pins pl : List (Addr × Obj)} {σ : St} {H : Hp} {s : Shared} (I : Inv X (pins ++ pl) σ H s) : Inv X pins σ H s := I.pins_of fun p hp=>I.pin p (List.mem_append_right _ (List.mem_append_left _ hp))
theorem R4 {iter : Expr} {body : List Stmt} {wi : TI} {g : TG} {tb : TS} {pos : Pos} (hp : PassesOwn (model X.prog X.w) X.A X.env X.xe) (hc : X.calm = true) (hi : PI X tg iter wi) (hg : PG X tg g) (hb : PSs X body tb)
  (hs : ∀ x,foldedSetIterable iter X.env x = pure x := by intro _; rfl) : PS X (.For tg iter body [] pos) (BE6 wi g tb) := by
 intro pins s σ H D I h
 refine wpAny_For (G0 (hi pins s σ H _ I h) fun v s1 h1=>G0 h1 fun itv s2 h2=>?_) hs
 obtain ⟨it,fp,tn,J,H2,e,I2,T,st2,f2,W,⟨m0,w0⟩,turn⟩ := h2
 subst e
 have stat : ∀ {H' : Hp},(∀ b ∈ fp,H' b = none) → ∀ b ∈ fp,Z2 X pins H' b := fun hn b hb=>⟨hn b hb,(f2 b hb).2⟩
 refine codeAny_forLoop_any (fun n s'=>∃ i σ' H',Inv X pins σ' H' s' ∧ tn i s'.heap ∧ (∀ b ∈ fp,H' b = none) ∧ W i n σ' H') ?_ m0 ⟨0,σ,H2,I2,st2,fun b hb=>(f2 b hb).1,w0⟩
 rintro n s3 ⟨i,σ3,H3,I3,st3,fr3,w3⟩
 rcases turn i n σ3 H3 w3 with ⟨stop,qn⟩ | ⟨go,N,hN,step⟩
 ·refine wpAny_passesOwn hp (G0 (T.done X rfl rfl rfl hc i pins s3 σ3 H3 X.xe I3 (stat fr3) st3 stop) fun r s4 ⟨hr,I4⟩=>?_)
  subst hr
  exact wpAny_execs_nil ⟨σ3,H3,I4,qn⟩
 ·refine wpAny_passesOwn hp (G0 (T.item X rfl rfl rfl hc i pins s3 σ3 H3 X.xe I3 (stat fr3) st3 go) fun r s4 ⟨u,hr,h4⟩=>?_)
  subst hr
  refine wpAny_passesOwn hp (G0 h4 fun _ s5 ⟨x,H5,I5,r5,y5,st5,fr5⟩=>?_)
  have I5' := I5.pinned (stat fr5) (T.obj _ _ st5)
  refine wpAny_passesOwn hp (G0 (hg _ s5 σ3 H5 x u _ I5' r5 (step x H5 y5)) fun _ s6 ⟨σ6,H6,I6,q6⟩=>?_)
  refine wpAny_passesOwn hp (G0 (hb _ s6 σ6 H6 _ I6 q6) fun f s7 q7=>?_)
  have again : ∀ {σ7 : St} {H7 : Hp},Inv X (pins ++ X8 fp s5.heap) σ7 H7 s7 → N σ7 H7 → ∃ m,m < n ∧ ∃ i σ' H',Inv X pins σ' H' s7 ∧ tn i s7.heap ∧ (∀ b ∈ fp,H' b = none) ∧ W i m σ' H' := fun {σ7 H7} I7 n7=>by
   obtain ⟨m',hm,w7⟩ := hN σ7 H7 n7
   refine ⟨m',hm,i + 1,σ7,H7,I7.unpinned,T.keep _ _ _ st5 fun b hb o e=>(I7.pin (b,o) (List.mem_append_right _ (List.mem_append_right _ (X2 hb e)))).1,fun b hb=>?_,w7⟩
   obtain ⟨o,e,d⟩ := T.obj _ _ st5 b hb
   exact (I7.pin (b,o) (List.mem_append_right _ (List.mem_append_right _ (X2 hb e)))).2.1
  cases f with
  | next=>obtain ⟨σ7,H7,I7,n7⟩ := q7; exact again I7 n7
  | cont=>obtain ⟨σ7,H7,I7,n7⟩ := q7; exact again I7 n7
  | brk=>obtain ⟨σ7,H7,I7,q7⟩ := q7; exact ⟨σ7,H7,I7.unpinned,q7⟩
  | ret v=>obtain ⟨x7,σ7,H7,I7,r7,q7⟩ := q7; exact ⟨x7,σ7,H7,I7.unpinned,r7,q7⟩
end
theorem cW {K : PySem.W.Frag} {a : Addr} {xs : List V} {g : TG} {tb : TS} {D : eU} {σ : St} {H : Hp} (Pv : Nat → St → Hp → Prop) (h0 : Pv 0 σ H) (hl : ∀ i σ H,i ≤ xs.length → Pv i σ H → SqL K H a xs)
  (hs : ∀ i x σ H,xs[i]? = some x → Pv i σ H → g x σ H fun σ2 H2=>tb { D with nx := Pv (i + 1),ct := Pv (i + 1),bk := D.nx } σ2 H2) (hd : ∀ σ H,Pv xs.length σ H → D.nx σ H) :
  ∃ W : Nat → Nat → St → Hp → Prop,(∃ m,W 0 m σ H) ∧ ∀ i m σ H,W i m σ H →
   ((vK K a).stop i H ∧ D.nx σ H) ∨ ((vK K a).go i H ∧ ∃ N : St → Hp → Prop,(∀ σ' H',N σ' H' → ∃ m',m' < m ∧ W (i + 1) m' σ' H') ∧ ∀ x H',(vK K a).yld i H x H' → g x σ H' fun σ2 H2=>tb { D with nx := N,ct := N,bk := D.nx } σ2 H2) := by
 refine ⟨fun i m σ H=>m = xs.length - i ∧ i ≤ xs.length ∧ Pv i σ H,⟨xs.length,by simp,Nat.zero_le _,h0⟩,?_⟩
 rintro i m σ H ⟨rfl,hi,p⟩
 have q := hl i σ H hi p
 by_cases hlt : i < xs.length
 ·refine .inr ⟨⟨xs,xs[i],q,by simp [hlt]⟩,Pv (i + 1),fun σ' H' p'=>⟨xs.length - (i + 1),by omega,rfl,hlt,p'⟩,fun x H' y=>?_⟩
  obtain ⟨e,y⟩ := y
  subst e
  exact hs i x σ _ (y xs q) p
 ·have e : i = xs.length := by omega
  subst e
  exact .inl ⟨⟨xs,q,Nat.le_refl _⟩,hd σ H p⟩
theorem oF {K : PySem.W.Frag} {a : Addr} {xs : List V} {g : TG} {tb : TS} {D : eU} {σ : St} {H : Hp} (Pv : Nat → St → Hp → Prop) (h0 : Pv 0 σ H) (hl : ∀ i σ H,i ≤ xs.length → Pv i σ H → SqT K H a xs)
  (hs : ∀ i x σ H,xs[i]? = some x → Pv i σ H → g x σ H fun σ2 H2=>tb { D with nx := Pv (i + 1),ct := Pv (i + 1),bk := D.nx } σ2 H2) (hd : ∀ σ H,Pv xs.length σ H → D.nx σ H) :
  ∃ W : Nat → Nat → St → Hp → Prop,(∃ m,W 0 m σ H) ∧ ∀ i m σ H,W i m σ H →
   ((vJ K a).stop i H ∧ D.nx σ H) ∨ ((vJ K a).go i H ∧ ∃ N : St → Hp → Prop,(∀ σ' H',N σ' H' → ∃ m',m' < m ∧ W (i + 1) m' σ' H') ∧ ∀ x H',(vJ K a).yld i H x H' → g x σ H' fun σ2 H2=>tb { D with nx := N,ct := N,bk := D.nx } σ2 H2) := by
 refine ⟨fun i m σ H=>m = xs.length - i ∧ i ≤ xs.length ∧ Pv i σ H,⟨xs.length,by simp,Nat.zero_le _,h0⟩,?_⟩
 rintro i m σ H ⟨rfl,hi,p⟩
 have q := hl i σ H hi p
 by_cases hlt : i < xs.length
 ·refine .inr ⟨⟨xs,xs[i],q,by simp [hlt]⟩,Pv (i + 1),fun σ' H' p'=>⟨xs.length - (i + 1),by omega,rfl,hlt,p'⟩,fun x H' y=>?_⟩
  obtain ⟨e,y⟩ := y
  subst e
  exact hs i x σ _ (y xs q) p
 ·have e : i = xs.length := by omega
  subst e
  exact .inl ⟨⟨xs,q,Nat.le_refl _⟩,hd σ H p⟩
theorem Z7 {lo : Int} {n : Nat} {g : TG} {tb : TS} {D : eU} {σ : St} {H : Hp} (Pv : Nat → St → Hp → Prop) (h0 : Pv 0 σ H)
  (hs : ∀ i σ H,i < n → Pv i σ H → g (.int (lo + i)) σ H fun σ2 H2=>tb { D with nx := Pv (i + 1),ct := Pv (i + 1),bk := D.nx } σ2 H2) (hd : ∀ σ H,Pv n σ H → D.nx σ H) :
  ∃ W : Nat → Nat → St → Hp → Prop,(∃ m,W 0 m σ H) ∧ ∀ i m σ H,W i m σ H →
   ((tH lo n).stop i H ∧ D.nx σ H) ∨ ((tH lo n).go i H ∧ ∃ N : St → Hp → Prop,(∀ σ' H',N σ' H' → ∃ m',m' < m ∧ W (i + 1) m' σ' H') ∧ ∀ x H',(tH lo n).yld i H x H' → g x σ H' fun σ2 H2=>tb { D with nx := N,ct := N,bk := D.nx } σ2 H2) := by
 refine ⟨fun i m σ H=>m = n - i ∧ i ≤ n ∧ Pv i σ H,⟨n,by simp,Nat.zero_le _,h0⟩,?_⟩
 rintro i m σ H ⟨rfl,hi,p⟩
 by_cases hlt : i < n
 ·refine .inr ⟨hlt,Pv (i + 1),fun σ' H' p'=>⟨n - (i + 1),by omega,rfl,hlt,p'⟩,fun x H' y=>?_⟩
  obtain ⟨e,y⟩ := y
  subst e y
  exact hs i σ _ hlt p
 ·have e : i = n := by omega
  subst e
  exact .inl ⟨Nat.le_refl _,hd σ H p⟩
end L2
namespace L2
open PySem PySem.Spec PyProof.Rows
abbrev R2 := V → V → Hp → VK → Prop
def T2 (X : Cx) (f : Value → Value → Sem Value) (r : R2) : Prop :=
 ∀ (pins : List (Addr × Obj)) (s : Shared) (σ : St) (H : Hp) (x y : V) (v u : Value) (Q : VK),Inv X pins σ H s → RelV x v → RelV y u → r x y H Q →
  wpAny (model X.prog X.w) X.A (f v u) (EP X pins σ Q) X.xe s
def UnR (X : Cx) (f : Value → Sem Value) (r : V → Hp → VK → Prop) : Prop :=
 ∀ (pins : List (Addr × Obj)) (s : Shared) (σ : St) (H : Hp) (x : V) (v : Value) (Q : VK),Inv X pins σ H s → RelV x v → r x H Q →
  wpAny (model X.prog X.w) X.A (f v) (EP X pins σ Q) X.xe s
def U2 (X : Cx) (f : Value) (r : List V → Hp → VK → Prop) : Prop :=
 ∀ (pins : List (Addr × Obj)) (s : Shared) (σ : St) (H : Hp) (xs : List V) (us : List Value) (Q : VK),Inv X pins σ H s → Vals xs us → r xs H Q →
  wpAny (model X.prog X.w) X.A (call f us) (EP X pins σ Q) X.xe s
def tU (r : R2) (ta tb : TE) : TE := fun σ H Q=>ta σ H fun x H1=>tb σ H1 fun y H2=>r x y H2 Q
def tUn (r : V → Hp → VK → Prop) (ta : TE) : TE := fun σ H Q=>ta σ H fun x H1=>r x H1 Q
def rI (C : Int → Int → Prop) (g : Int → Int → V) : R2 := fun x y H Q=>∃ i j,x = .int i ∧ y = .int j ∧ C i j ∧ Q (g i j) H
def uE (g : Int → Int → V) : R2 := fun x y H Q=>∃ i j,x = .int i ∧ y = .int j ∧ Q (g i j) H
def rU (g : Int → V) : V → Hp → VK → Prop := fun x H Q=>∃ i,x = .int i ∧ Q (g i) H
section
variable {X : Cx} {a b c : Expr} {ta tb tc : TE} {pos : Pos}
theorem AG6 (ha : PE X a ta) (hb : PE X b tb) {pins : List (Addr × Obj)} {s : Shared} {σ : St} {H : Hp} {R : V → V → Hp → Prop} (I : Inv X pins σ H s)
  (h : ta σ H fun x H1=>tb σ H1 fun y H2=>R x y H2) {Q : Value → Shared → Prop} {f : Value → Value → Sem Value}
  (hf : ∀ v u s2 x y H2,Inv X pins σ H2 s2 → RelV x v → RelV y u → R x y H2 → wpAny (model X.prog X.w) X.A (f v u) Q X.xe s2) :
  wpAny (model X.prog X.w) X.A (eval a X.env) (fun v s₁=>wpAny (model X.prog X.w) X.A (eval b X.env) (fun u s₂=>wpAny (model X.prog X.w) X.A (f v u) Q X.xe s₂) X.xe s₁) X.xe s := by
 refine G0 (ha pins s σ H _ I h) fun v s1 ⟨x,H1,I1,r1,q1⟩=>?_
 refine G0 (hb pins s1 σ H1 _ I1 q1) fun u s2 ⟨y,H2,I2,r2,q2⟩=>?_
 exact hf v u s2 x y H2 I2 r1 r2 q2
theorem E4 {op : Operator} {r : R2} (ho : T2 X (binaryOp op) r) (ha : PE X a ta) (hb : PE X b tb) : PE X (.BinOp a op b pos) (tU r ta tb) := by
 intro pins s σ H Q I h
 exact wpAny_BinOp (AG6 ha hb I h fun v u s2 x y H2 I2 rx ry q=>ho pins s2 σ H2 x y v u Q I2 rx ry q)
theorem qP {op : UnaryOp} {r : V → Hp → VK → Prop} (ho : UnR X (unaryOp op) r) (ha : PE X a ta) : PE X (.UnaryOp op a pos) (tUn r ta) := by
 intro pins s σ H Q I h
 exact UnaryOp_ (G0 (ha pins s σ H _ I h) fun v s1 ⟨x,H1,I1,r1,q1⟩=>ho pins s1 σ H1 x v Q I1 r1 q1)
theorem opI {f : Value → Value → Sem Value} {C : Int → Int → Prop} {g : Int → Int → Int}
  (rule : ∀ (i j : Int) (t u : Tok) (s : Shared) (Q : Value → Shared → Prop) (E : Value → Shared → Prop),C i j → Q (.int (g i j) s.toks) { s with toks := s.toks + 1 } → wpAny (model X.prog X.w) X.A (f (.int i t) (.int j u)) Q E s) :
  T2 X f (rI C fun i j=>.int (g i j)) := by
 intro pins s σ H x y v u Q I rx ry h
 obtain ⟨i,j,rfl,rfl,hc,q⟩ := h
 obtain ⟨t,rfl⟩ := rx
 obtain ⟨t',rfl⟩ := ry
 exact rule i j t t' s _ _ hc ⟨.int (g i j),H,I.tok _,⟨_,rfl⟩,q⟩
theorem AT2 {f : Value → Value → Sem Value} {g : Int → Int → Int}
  (rule : ∀ (i j : Int) (t u : Tok) (s : Shared) (Q : Value → Shared → Prop) (E : Value → Shared → Prop),Q (.int (g i j) s.toks) { s with toks := s.toks + 1 } → wpAny (model X.prog X.w) X.A (f (.int i t) (.int j u)) Q E s) :
  T2 X f (uE fun i j=>.int (g i j)) := by
 intro pins s σ H x y v u Q I rx ry h
 obtain ⟨i,j,rfl,rfl,q⟩ := h
 obtain ⟨t,rfl⟩ := rx
 obtain ⟨t',rfl⟩ := ry
 exact rule i j t t' s _ _ ⟨.int (g i j),H,I.tok _,⟨_,rfl⟩,q⟩
theorem AT3 {f : Value → Value → Sem Value} {g : Int → Int → Bool}
  (rule : ∀ (i j : Int) (t u : Tok) (s : Shared) (Q : Value → Shared → Prop) (E : Value → Shared → Prop),Q (.bool (g i j)) s → wpAny (model X.prog X.w) X.A (f (.int i t) (.int j u)) Q E s) :
  T2 X f (uE fun i j=>.bl (g i j)) := by
 intro pins s σ H x y v u Q I rx ry h
 obtain ⟨i,j,rfl,rfl,q⟩ := h
 obtain ⟨t,rfl⟩ := rx
 obtain ⟨t',rfl⟩ := ry
 exact rule i j t t' s _ _ ⟨.bl (g i j),H,I,rfl,q⟩
def BH7 (i j : Int) : Prop := 0 < j ∧ j < 1073741824
def BH6 (i j : Int) : Prop := 0 ≤ j ∧ j ≤ 1000000 ∧ i.natAbs < 2 ^ 64
def CMul (i j : Int) : Prop := (-(2 ^ 64) < i ∧ i < 2 ^ 64) ∨ (-(2 ^ 64) < j ∧ j < 2 ^ 64)
theorem CMul.ok {i j : Int} (h : CMul i j) : IntMulOk i j := by
 rcases h with ⟨h1,h2⟩ | ⟨h1,h2⟩
 ·exact .of_left (intBits_le_64 h1 h2)
 ·exact .of_right (intBits_le_64 h1 h2)
theorem P4 : T2 X (binaryOp .Add) (uE fun i j=>.int (i + j)) := AT2 fun _ _ _ _ _ _ _ q=>add_int q
theorem aB : T2 X (binaryOp .Sub) (uE fun i j=>.int (i - j)) := AT2 fun _ _ _ _ _ _ _ q=>sub_int q
theorem lY : T2 X (binaryOp .Mult) (rI CMul fun i j=>.int (i * j)) := opI fun _ _ _ _ _ _ _ hc q=>mul_int q hc.ok
theorem uJ : T2 X (binaryOp .FloorDiv) (rI BH7 fun i j=>.int (i / j)) := opI fun i j _ _ _ _ _ hc q=>by
 have h1 : (0 : Int) < j := hc.1
 have h2 : j < 1073741824 := hc.2
 exact floordiv_int (by omega) (by rw [Int.fdiv_eq_ediv_of_nonneg i (by omega)]; exact q) (.inl (PyProof.noPylong_small (by omega)))
theorem aC : T2 X (binaryOp .Mod) (rI (fun _ j=>0 < j) fun i j=>.int (i % j)) := opI fun i j _ _ _ _ _ hc q=>by
 have h1 : (0 : Int) < j := hc
 exact mod_int' (by omega) (by rw [Int.fmod_eq_emod_of_nonneg i (by omega)]; exact q)
theorem iR : T2 X (binaryOp .Pow) (rI BH6 fun i j=>.int (i ^ j.toNat)) := opI fun _ _ _ _ _ _ _ hc q=>pow_int_small hc.1 hc.2.1 hc.2.2 q
theorem unI {f : Value → Sem Value} {g : Int → Int}
  (rule : ∀ (i : Int) (t : Tok) (s : Shared) (Q : Value → Shared → Prop) (E : Value → Shared → Prop),Q (.int (g i) s.toks) { s with toks := s.toks + 1 } → wpAny (model X.prog X.w) X.A (f (.int i t)) Q E s) :
  UnR X f (rU fun i=>.int (g i)) := by
 intro pins s σ H x v Q I rx h
 obtain ⟨i,rfl,q⟩ := h
 obtain ⟨t,rfl⟩ := rx
 exact rule i t s _ _ ⟨.int (g i),H,I.tok _,⟨_,rfl⟩,q⟩
theorem lG : UnR X (unaryOp .USub) (rU fun i=>.int (-i)) := unI fun _ _ _ _ _ q=>neg_int q
end
def AR0 : V → V → Bool
 | .non,.non=>true | .non,.int _=>true | .int _,.non=>true | .non,.bl _=>true | .bl _,.non=>true | .non,.str _=>true | .str _,.non=>true
 | .int _,.int _=>true | .bl _,.bl _=>true | .str _,.str _=>true | .byt _,.byt _=>true
 | .int _,.str _=>true | .str _,.int _=>true | .bl _,.str _=>true | .str _,.bl _=>true
 | _,_=>false
def rEq : R2 := fun x y H Q=>AR0 x y = true ∧ Q (.bl (decide (x = y))) H
def rNe : R2 := fun x y H Q=>AR0 x y = true ∧ Q (.bl (!decide (x = y))) H
theorem vC {i j : Int} : decide (V.int i = V.int j) = (i == j) := by
 rw [Bool.eq_iff_iff]
 simp
theorem zF {i j : Bool} : decide (V.bl i = V.bl j) = (i == j) := by
 rw [Bool.eq_iff_iff]
 simp
theorem vB {i j : Str} : decide (V.str i = V.str j) = (i == j) := by
 rw [Bool.eq_iff_iff]
 simp
theorem vD {i j : Array UInt8} : decide (V.byt i = V.byt j) = (i.toList == j.toList) := by
 rw [Bool.eq_iff_iff]
 cases i
 cases j
 simp
section
variable {X : Cx} {a b c : Expr} {ta tb tc : TE} {pos : Pos}
theorem K7 {pins : List (Addr × Obj)} {σ : St} {H : Hp} {s : Shared} {Q : VK} {k k' : Bool} (I : Inv X pins σ H s) (q : Q (.bl k) H) (e : k = k') : EP X pins σ Q (.bool k') s := by
 subst e
 exact ⟨.bl k,H,I,rfl,q⟩
theorem G9 : T2 X (compareOp .Eq) rEq := by
 intro pins s σ H x y v u Q I rx ry h
 obtain ⟨hs,q⟩ := h
 cases x with
 | non =>
  cases rx
  cases y with
  | non=>cases ry; exact PySem.EqNone.eq_none_none (K7 I q (by simp))
  | bl j=>cases ry; exact PySem.EqNone.eq_none_bool (K7 I q (by simp))
  | int j=>obtain ⟨t',rfl⟩ := ry; exact PySem.EqNone.eq_none_int (K7 I q (by simp))
  | str j=>obtain ⟨t',rfl⟩ := ry; exact PySem.EqNone.eq_none_str (K7 I q (by simp))
  | _=>exact absurd (show false = true from hs) Bool.false_ne_true
 | bl i =>
  cases rx
  cases y with
  | non=>cases ry; exact PySem.EqNone.eq_bool_none (K7 I q (by simp))
  | bl j=>cases ry; exact eq_bool (K7 I q zF)
  | str j=>obtain ⟨t',rfl⟩ := ry; exact PySem.EqMixed.eq_bool_str (K7 I q (by simp))
  | _=>exact absurd (show false = true from hs) Bool.false_ne_true
 | int i =>
  obtain ⟨t,rfl⟩ := rx
  cases y with
  | non=>cases ry; exact PySem.EqNone.eq_int_none (K7 I q (by simp))
  | int j=>obtain ⟨t',rfl⟩ := ry; exact eq_int (K7 I q vC)
  | str j=>obtain ⟨t',rfl⟩ := ry; exact PySem.EqMixed.eq_int_str (K7 I q (by simp))
  | _=>exact absurd (show false = true from hs) Bool.false_ne_true
 | str i =>
  obtain ⟨t,rfl⟩ := rx
  cases y with
  | non=>cases ry; exact PySem.EqNone.eq_str_none (K7 I q (by simp))
  | bl j=>cases ry; exact PySem.EqMixed.eq_str_bool (K7 I q (by simp))
  | int j=>obtain ⟨t',rfl⟩ := ry; exact PySem.EqMixed.eq_str_int (K7 I q (by simp))
  | str j=>obtain ⟨t',rfl⟩ := ry; exact eq_str (K7 I q vB)
  | _=>exact absurd (show false = true from hs) Bool.false_ne_true
 | byt i =>
  obtain ⟨t,rfl⟩ := rx
  cases y with
  | byt j=>obtain ⟨t',rfl⟩ := ry; exact PySem.W.eq_bytes (K7 I q vD)
  | _=>exact absurd (show false = true from hs) Bool.false_ne_true
 | _=>cases y <;> exact absurd (show false = true from hs) Bool.false_ne_true
theorem kC : T2 X (compareOp .NotEq) rNe := by
 intro pins s σ H x y v u Q I rx ry h
 obtain ⟨hs,q⟩ := h
 cases x with
 | non =>
  cases rx
  cases y with
  | non=>cases ry; exact PySem.EqNone.ne_none_none (K7 I q (by simp))
  | bl j=>cases ry; exact PySem.EqNone.ne_none_bool (K7 I q (by simp))
  | int j=>obtain ⟨t',rfl⟩ := ry; exact PySem.EqNone.ne_none_int (K7 I q (by simp))
  | str j=>obtain ⟨t',rfl⟩ := ry; exact PySem.EqNone.ne_none_str (K7 I q (by simp))
  | _=>exact absurd (show false = true from hs) Bool.false_ne_true
 | bl i =>
  cases rx
  cases y with
  | non=>cases ry; exact PySem.EqNone.ne_bool_none (K7 I q (by simp))
  | bl j=>cases ry; exact ne_bool (K7 I q (congrArg not zF))
  | str j=>obtain ⟨t',rfl⟩ := ry; exact PySem.EqMixed.ne_bool_str (K7 I q (by simp))
  | _=>exact absurd (show false = true from hs) Bool.false_ne_true
 | int i =>
  obtain ⟨t,rfl⟩ := rx
  cases y with
  | non=>cases ry; exact PySem.EqNone.ne_int_none (K7 I q (by simp))
  | int j=>obtain ⟨t',rfl⟩ := ry; exact ne_int (K7 I q (congrArg not vC))
  | str j=>obtain ⟨t',rfl⟩ := ry; exact PySem.EqMixed.ne_int_str (K7 I q (by simp))
  | _=>exact absurd (show false = true from hs) Bool.false_ne_true
 | str i =>
  obtain ⟨t,rfl⟩ := rx
  cases y with
  | non=>cases ry; exact PySem.EqNone.ne_str_none (K7 I q (by simp))
  | bl j=>cases ry; exact PySem.EqMixed.ne_str_bool (K7 I q (by simp))
  | int j=>obtain ⟨t',rfl⟩ := ry; exact PySem.EqMixed.ne_str_int (K7 I q (by simp))
  | str j=>obtain ⟨t',rfl⟩ := ry; exact ne_str (K7 I q (congrArg not vB))
  | _=>exact absurd (show false = true from hs) Bool.false_ne_true
 | byt i =>
  obtain ⟨t,rfl⟩ := rx
  cases y with
  | byt j=>obtain ⟨t',rfl⟩ := ry; exact PySem.W.ne_bytes (K7 I q (congrArg not vD))
  | _=>exact absurd (show false = true from hs) Bool.false_ne_true
 | _=>cases y <;> exact absurd (show false = true from hs) Bool.false_ne_true
theorem bN : T2 X (compareOp .Lt) (uE fun i j=>.bl (decide (i < j))) := AT3 fun _ _ _ _ _ _ _ q=>lt_int q
theorem aD : T2 X (compareOp .Gt) (uE fun i j=>.bl (decide (j < i))) := AT3 fun _ _ _ _ _ _ _ q=>gt_int q
theorem yC : T2 X (compareOp .In) (fun x y H Q=>∃ i j,x = .str i ∧ y = .str j ∧ Q (.bl (!(Builtin.Str.occurrences j i 0 j.length 1).isEmpty)) H) := by
 intro pins s σ H x y v u Q I rx ry h
 obtain ⟨i,j,rfl,rfl,q⟩ := h
 obtain ⟨t,rfl⟩ := rx
 obtain ⟨t',rfl⟩ := ry
 exact in_str (K7 I q rfl)
theorem yB : T2 X (compareOp .Is) (fun x y H Q=>y = .non ∧ Q (.bl (decide (x = .non))) H) := by
 intro pins s σ H x y v u Q I rx ry h
 obtain ⟨rfl,q⟩ := h
 cases ry
 refine is_none_gen (K7 I q ?_)
 cases x <;> first
  | (cases rx; rfl)
  | (obtain ⟨t,rfl⟩ := rx; rfl)
theorem oB : T2 X (compareOp .IsNot) (fun x y H Q=>y = .non ∧ Q (.bl (!decide (x = .non))) H) := by
 intro pins s σ H x y v u Q I rx ry h
 obtain ⟨rfl,q⟩ := h
 cases ry
 refine isnot_none_gen (K7 I q ?_)
 cases x <;> first
  | (cases rx; rfl)
  | (obtain ⟨t,rfl⟩ := rx; rfl)
theorem B8 (b : Expr) {op : CmpOp} (h : op ≠ .In := by decide) (h2 : op ≠ .NotIn := by decide) : behindInMarks op b = false := by
 have e1 : (op == CmpOp.In) = false := by cases op <;> first | rfl | exact absurd rfl h
 have e2 : (op == CmpOp.NotIn) = false := by cases op <;> first | rfl | exact absurd rfl h2
 cases b <;> simp [behindInMarks,e1,e2]
theorem N7 {op : CmpOp} {r : R2} (ho : T2 X (compareOp op) r) (ha : PE X a ta) (hb : PE X b tb) (hm : behindInMarks op b = false) : PE X (.Compare a [op] [b] pos) (tU r ta tb) := by
 intro pins s σ H Q I h
 exact wpAny_Compare1 (AG6 ha hb I h fun v u s2 x y H2 I2 rx ry q=>ho pins s2 σ H2 x y v u Q I2 rx ry q) hm
def AZ7 (t : TE) : TT := fun σ H Q=>t σ H fun x H'=>∃ k,x = .bl k ∧ Q k H'
theorem B9 {op : CmpOp} {r : R2} (ho : T2 X (compareOp op) r) (ha : PE X a ta) (hb : PE X b tb) (hm : behindInMarks op b = false) : PT X (.Compare a [op] [b] pos) (AZ7 (tU r ta tb)) := by
 intro pins s σ H Q I h
 refine wpAny_isTrue_Compare1 (G0 (ha pins s σ H _ I h) fun v s1 ⟨x,H1,I1,r1,q1⟩=>G0 (hb pins s1 σ H1 _ I1 q1) fun u s2 ⟨y,H2,I2,r2,q2⟩ =>
  G0 (ho pins s2 σ H2 x y v u _ I2 r1 r2 q2) fun c s3 ⟨z,H3,I3,r3,k,e,q3⟩=>?_) hm
 subst e
 cases r3
 exact wpAny_truthy_bool ⟨H3,I3,q3⟩
def AQ8 (r r' : R2) (ta tb tc : TE) : TE := fun σ H Q=>ta σ H fun x H1=>tb σ H1 fun y H2=>r x y H2 fun z H3=>∃ k,z = .bl k ∧
 (if k = true then tc σ H3 fun w' H4=>r' y w' H4 Q else Q (.bl false) H3)
theorem gI {op op' : CmpOp} {r r' : R2} (ho : T2 X (compareOp op) r) (ho' : T2 X (compareOp op') r') (ha : PE X a ta) (hb : PE X b tb) (hc : PE X c tc)
  (hm : lastMarks [op,op'] [b,c] = false := by with_unfolding_all rfl) : PE X (.Compare a [op,op'] [b,c] pos) (AQ8 r r' ta tb tc) := by
 intro pins s σ H Q I h
 refine Compare_chain (G0 (ha pins s σ H _ I h) fun v s1 ⟨x,H1,I1,r1,q1⟩=>chain_link (G0 (hb pins s1 σ H1 _ I1 q1) fun u s2 ⟨y,H2,I2,r2,q2⟩ =>
  G0 (ho pins s2 σ H2 x y v u _ I2 r1 r2 q2) fun d s3 ⟨z,H3,I3,r3,k,e,q3⟩=>?_)) hm
 subst e
 cases r3
 refine wpAny_truthy_bool ?_
 cases k with
 | false=>exact ite_ff ⟨.bl false,H3,I3,rfl,q3⟩
 | true=>exact ite_tt (chain_last (G0 (hc pins s3 σ H3 _ I3 q3) fun w' s4 ⟨z',H4,I4,r4,q4⟩=>ho' pins s4 σ H4 y z' u w' Q I4 r2 r4 q4))
theorem fT : (sizeLine : Nat) < 2 ^ 63 := by rw [sizeLine_eq]; decide
theorem bO : T2 X (binaryOp .Add) (fun x y H Q=>∃ i j,x = .str i ∧ y = .str j ∧ i.length + j.length ≤ sizeLine ∧ Q (.str (i ++ j)) H) := by
 intro pins s σ H x y v u Q I rx ry h
 obtain ⟨i,j,rfl,rfl,hz,q⟩ := h
 obtain ⟨t,rfl⟩ := rx
 obtain ⟨t',rfl⟩ := ry
 exact add_str (fun t' tk=>⟨.str (i ++ j),H,I.tok _,⟨_,rfl⟩,q⟩) hz
theorem eO : T2 X (inplaceOp .Add) (fun x y H Q=>∃ i j,x = .str i ∧ y = .str j ∧ i.length + j.length ≤ sizeLine ∧ Q (.str (i ++ j)) H) := by
 intro pins s σ H x y v u Q I rx ry h
 obtain ⟨i,j,rfl,rfl,hz,q⟩ := h
 obtain ⟨t,rfl⟩ := rx
 obtain ⟨t',rfl⟩ := ry
 exact iadd_str (fun t' tk=>⟨.str (i ++ j),H,I.tok _,⟨_,rfl⟩,q⟩) hz
theorem gA {x : V} {us : List Value} (r : Vals [x] us) : ∃ u,us = [u] ∧ RelV x u := by
 cases r with
 | cons r1 r2=>cases r2; exact ⟨_,rfl,r1⟩
theorem lF {x y : V} {us : List Value} (r : Vals [x,y] us) : ∃ u w',us = [u,w'] ∧ RelV x u ∧ RelV y w' := by
 cases r with
 | cons r1 r2 =>
  cases r2 with
  | cons r3 r4=>cases r4; exact ⟨_,_,rfl,r1,r3⟩
theorem zJ (hc : X.calm = true) : U2 X (.builtin "max") (fun xs H Q=>∃ i j,xs = [.int i,.int j] ∧ Q (.int (if j > i then j else i)) H) := by
 intro pins s σ H xs us Q I r h
 obtain ⟨i,j,rfl,q⟩ := h
 obtain ⟨u,w',rfl,⟨t,rfl⟩,⟨t',rfl⟩⟩ := lF r
 refine max_two_ints (I.ok.hd hc) fun h' tk k=>⟨_,H,I.kept k,?_,q⟩
 by_cases hj : j > i
 ·rw [if_pos hj,if_pos hj]; exact ⟨_,rfl⟩
 ·rw [if_neg hj,if_neg hj]; exact ⟨_,rfl⟩
theorem AG4 : U2 X (.builtin "ord") (fun xs H Q=>∃ x,xs = [.str x] ∧ x.length = 1 ∧ Q (.int (x.cps.getD 0 0 : Nat)) H) := by
 intro pins s σ H xs us Q I r h
 obtain ⟨x,rfl,hz,q⟩ := h
 obtain ⟨u,rfl,t,rfl⟩ := gA r
 exact ord_of_one hz ⟨.int _,H,I.tok _,⟨_,rfl⟩,q⟩
end
end L2
namespace L2
open PySem PySem.Spec PyProof.Rows
structure ObjM (h : Heap) (x dx C : Addr) (mA : Str → Option Value) : Prop where
 obj : h.get? x = some (PySem.W.instObj C dx)
 ns : h.Ns1 dx mA
 ne : dx ≠ x
theorem yN {h : Heap} {dx : Addr} {mA : Str → Option Value} (n : h.Ns1 dx mA) : ∃ od,h.get? dx = some od ∧ ∀ name,PySem.W.lookIn name od = some (mA name) := by
 obtain ⟨o,es,ep,ho,hd,hk,_,hm⟩ := n
 refine ⟨o,ho,fun name=>?_⟩
 have e := hm name
 unfold nsFind findBy at e
 rw [← Array.find?_toList] at e
 unfold PySem.W.lookIn
 rw [hd]
 dsimp only
 split
 ·rename_i y q
  rw [q] at e
  exact congrArg some e
 ·rename_i q
  rw [q] at e
  have a : es.toList.any (·.refKey) = false := by
   rw [List.any_eq_false]
   intro y hy
   obtain ⟨z,t,hkey⟩ := hk y (Array.mem_toList_iff.mp hy)
   simp [DictEntry.refKey,hkey]
  have a' : ¬ es.toList.any (·.refKey) = true := by rw [a]; exact Bool.false_ne_true
  rw [if_neg a']
  exact congrArg some e
theorem ObjM.look {h : Heap} {x dx C : Addr} {mA : Str → Option Value} (I : ObjM h x dx C mA) : ∃ od,PySem.W.InstAt h x (PySem.W.instObj C dx) C (some od) ∧ ∀ name,PySem.W.lookIn name od = some (mA name) :=
 let ⟨od,ho,hl⟩ := yN I.ns
 ⟨od,⟨I.obj,rfl,rfl,ho⟩,hl⟩
section
variable {prog : Program} {w : World} {A : Around} {E : Value → Shared → Prop} {s : Shared} {K : PySem.W.Frag} {x dx C f : Addr} {mA : Str → Option Value} {name : Str} {v : Value}
theorem AP3 {expr : Bool} {Q : Value → Shared → Prop} (X : K.In s.heap) (I : ObjM s.heap x dx C mA) (hg : PySem.W.plainGet K C name = true) (hh : PySem.W.hasDictIn K C = true)
  (ha : PySem.W.findIn K (.ref C) name = some none) (hv : mA name = some v) (hv' : PySem.W.handedIn v = true) (h : Q v { s with toks := s.toks + 1 }) :
  wpAny (model prog w) A (getAttr (.ref x) name expr) Q E s := by
 obtain ⟨od,J,hl⟩ := I.look
 exact PySem.W.get_value X J (PySem.W.plainGet_of hg).1 (PySem.W.findObj_own hh ha rfl (by rw [hl,hv])) hv' h
theorem AF3 {pl : Sem Bool} {Q : Value × List Value → Shared → Prop} (X : K.In s.heap) (I : ObjM s.heap x dx C mA) (hg : PySem.W.plainGet K C name = true)
  (hf : PySem.W.findIn K (.ref C) name = some (some (.ref f))) (ht : PySem.W.isFn K (.ref f) = true) (hv : mA name = none) (h : Q (.ref f,[.ref x]) s) :
  wpAny (model prog w) A (getMethod (.ref x) name pl) Q E s := by
 obtain ⟨od,J,hl⟩ := I.look
 exact PySem.W.method_fn X J (PySem.W.plainGet_of hg).1 (PySem.W.plainGet_of hg).2 hf (beq_iff_eq.mp ht) (by show (PySem.W.lookIn name od).map (·.isSome) = some false; rw [hl,hv]; rfl) h
theorem AL0 {ns : List Str} {Q : Unit → Shared → Prop} (X : K.In s.heap) (I : ObjM s.heap x dx C mA)
  (hs : PySem.W.findIn K (.ref C) "__setattr__" = some (some (.builtin "object.__setattr__"))) (hp : PySem.W.plainOver K C = true) (ht : PySem.W.takerIn K C name = some none) (hh : PySem.W.hasDictIn K C = true)
  (hw : PySem.Within mA ns) (hsz : ns.length ≤ sizeLine)
  (h : ∀ h',ObjM h' x dx C (fun y=>if y = name then some v else mA y) → Heap.SameBut dx s.heap h' → Q () { s with heap := h',toks := s.toks + 2 }) :
  wpAny (model prog w) A (setAttr (.ref x) name v) Q E s := by
 obtain ⟨od,J,hl⟩ := I.look
 refine PySem.W.set_plain X J hs (PySem.W.osa_open (s := { s with toks := s.toks + 1 }) (r := none) X J hp ht fun b=>?_)
 obtain ⟨cd,hc,hd'⟩ := PySem.W.any_some hh
 have hx : s.heap.get? x = some ⟨.ref C,some dx,.plain,#[]⟩ := I.obj
 refine wpAny_bind (wpAny_pure (wpAny_bind (wpAny_bind (wpAny_loadPart hx (wpAny_bind (PySem.W.Looks.here (s := { s with toks := s.toks + 1 }) (PySem.W.looks_clsIn X hc) ?_))))))
 rw [hd']
 refine wpAny_pure (a := some dx) (wpAny_bind (wpAny_pure (wpAny_bind ?_)))
 refine wpAny_nsSet1 (s := { s with toks := s.toks + 1 }) I.ns fun h' hn2 hs2=>?_
 obtain ⟨oD,esD,epD,hoD,hdD,hcD⟩ := hn2.count (PySem.Within.cons name v hw)
 refine wpAny_bind (wpAny_lookBehind hoD (by rw [hdD]; exact pastItsLine_dict (Nat.le_trans hcD (by rw [List.length_cons]; omega))) ?_)
 exact wpAny_pure (h _ ⟨(hs2.2 _ (Ne.symm I.ne)).trans I.obj,hn2,I.ne⟩ hs2)
theorem AE0 {R : Result → Shared → Prop} {vs : List Value} {kw : List (Str × Value)} (X : K.In s.heap) (hm : PySem.W.makesIn K C = true)
  (hi : PySem.W.findIn K (.ref C) "__init__" = some (some (.ref f))) (hf : PySem.W.typeIn K (.ref f) = some (.type "function"))
  (h : codeAny (model prog w) (A.under (.builtin "type.__call__" ⟨.ref C :: vs,kw⟩)) (.call (.ref f) ⟨.ref (s.heap.objs.size + 1) :: vs,kw⟩) (PySem.W.InitBack (s.heap.objs.size + 1) R)
   { s with heap := (s.heap.push PySem.W.emptyDict).push (PySem.W.instObj C s.heap.objs.size) }) :
  codeAny (model prog w) A (.call (.ref C) ⟨vs,kw⟩) R s := by
 obtain ⟨hh,g,d,t,os⟩ := s
 exact PySem.W.make_core (PySem.W.makes_of X hm) (PySem.W.looks_findIn X hi) (fun self=>PySem.W.bind_fn X self hf) (.inl rfl) h
end
def W2 (f : Str) (v : V) : List (Str × V) → List (Str × V)
 | []=>[(f,v)]
 | (g,x) :: r=>if g = f then (g,v) :: r else (g,x) :: W2 f v r
theorem kI (f g : Str) (v : V) : ∀ fs : List (Str × V),(W2 f v fs).lookup g = if g = f then some v else fs.lookup g
 | []=>by
  show List.lookup g [(f,v)] = _
  by_cases h : g = f
  ·have hb : (g == f) = true := beq_iff_eq.mpr h
   simp only [List.lookup,hb,if_pos h]
  ·have hb : (g == f) = false := beq_eq_false_iff_ne.mpr h
   simp only [List.lookup,hb,if_neg h]
 | (k,x) :: r=>by
  have ih := kI f g v r
  rw [show W2 f v ((k,x) :: r) = (if k = f then (k,v) :: r else (k,x) :: W2 f v r) from rfl]
  by_cases hk : k = f
  ·rw [if_pos hk]
   by_cases h : g = k
   ·have hb : (g == k) = true := beq_iff_eq.mpr h
    simp only [List.lookup,hb,if_pos (h.trans hk)]
   ·have hb : (g == k) = false := beq_eq_false_iff_ne.mpr h
    simp only [List.lookup,hb,if_neg (fun e : g = f=>h (e.trans hk.symm))]
  ·rw [if_neg hk]
   by_cases h : g = k
   ·have hb : (g == k) = true := beq_iff_eq.mpr h
    simp only [List.lookup,hb,if_neg (fun e : g = f=>hk (h.symm.trans e))]
   ·have hb : (g == k) = false := beq_eq_false_iff_ne.mpr h
    simp only [List.lookup,hb]
    exact ih
theorem iV (f : Str) (v : V) : ∀ fs : List (Str × V),f ∈ (W2 f v fs).map (·.1) ∧ ∀ g,g ∈ fs.map (·.1) → g ∈ (W2 f v fs).map (·.1)
 | []=>⟨by simp [W2],fun g h=>by simp at h⟩
 | (k,x) :: r=>by
  obtain ⟨i1,i2⟩ := iV f v r
  rw [show W2 f v ((k,x) :: r) = (if k = f then (k,v) :: r else (k,x) :: W2 f v r) from rfl]
  by_cases hk : k = f
  ·rw [if_pos hk]
   subst hk
   exact ⟨by simp,fun g h=>by simpa using h⟩
  ·rw [if_neg hk]
   refine ⟨?_,fun g h=>?_⟩
   ·rw [List.map_cons]
    exact List.mem_cons_of_mem _ i1
   ·rw [List.map_cons] at h ⊢
    rcases List.mem_cons.mp h with e | e
    ·exact List.mem_cons.mpr (.inl e)
    ·exact List.mem_cons_of_mem _ (i2 g e)
theorem kJ (f : Str) (v : V) : ∀ fs : List (Str × V),(W2 f v fs).length ≤ fs.length + 1
 | []=>by simp [W2]
 | (k,x) :: r=>by
  have ih := kJ f v r
  rw [show W2 f v ((k,x) :: r) = (if k = f then (k,v) :: r else (k,x) :: W2 f v r) from rfl]
  by_cases hk : k = f
  ·rw [if_pos hk,List.length_cons,List.length_cons]; omega
  ·rw [if_neg hk,List.length_cons,List.length_cons]; omega
theorem RelO.some_of {v : V} {o : Option Value} (r : RelO (some v) o) : ∃ u,o = some u ∧ RelV v u := by
 cases o with
 | none=>exact (show False from r).elim
 | some u=>exact ⟨u,rfl,r⟩
theorem RelO.none_of {o : Option Value} (r : RelO none o) : o = none := by
 cases o with
 | none=>rfl
 | some u=>exact (show False from r).elim
theorem yZ {v : V} {u : Value} (r : RelV v u) : PySem.W.handedIn u = true := by
 cases v with
 | non=>cases (show u = Value.none from r); rfl
 | bl b=>cases (show u = Value.bool b from r); rfl
 | int i=>obtain ⟨t,e⟩ := (show ∃ t,u = Value.int i t from r); cases e; rfl
 | str x=>obtain ⟨t,e⟩ := (show ∃ t,u = Value.str x t from r); cases e; rfl
 | byt b=>obtain ⟨t,e⟩ := (show ∃ t,u = Value.bytes b t from r); cases e; rfl
 | flt b=>obtain ⟨t,e⟩ := (show ∃ t,u = Value.float b t from r); cases e; rfl
 | ref a=>cases (show u = Value.ref a from r); rfl
 | ty n=>cases (show u = Value.type n from r); rfl
section
variable {P : Program} {w : World} {H H' : Hp} {h h' : Heap} {a C dx : Addr} {fs fs' : List (Str × V)}
theorem oE (hok : HOk P w H h) (e : H a = some (.ins C dx fs)) : ∃ mA,ObjM h a dx C mA ∧ (∀ f,RelO (fs.lookup f) (mA f)) ∧ PySem.Within mA (fs.map (·.1)) ∧ fs.length ≤ 1000 ∧ H dx = some (.own a) := by
 obtain ⟨d,z,ne,ob,mA,n,r,q⟩ := (show ObjOk P w H h a (.ins C dx fs) from hok a _ e)
 exact ⟨mA,⟨ob,n,ne⟩,r,q,z,d⟩
end
structure Cls (K : PySem.W.Frag) (C : Addr) : Prop where
 pg : PySem.W.plainGet K C Str.empty = true
 hd : PySem.W.hasDictIn K C = true
 po : PySem.W.plainOver K C = true
 sa : PySem.W.findIn K (.ref C) "__setattr__" = some (some (.builtin "object.__setattr__"))
theorem Cls.get {K : PySem.W.Frag} {C : Addr} (c : Cls K C) (f : Str) : PySem.W.plainGet K C f = true := c.pg
def NoAttr (K : PySem.W.Frag) (C : Addr) (f : Str) : Prop := PySem.W.findIn K (.ref C) f = some none
theorem NoAttr.taker {K : PySem.W.Frag} {C : Addr} {f : Str} (n : NoAttr K C f) : PySem.W.takerIn K C f = some none := by
 unfold PySem.W.takerIn
 rw [show PySem.W.findIn K (.ref C) f = some none from n]
 rfl
structure wY (K : PySem.W.Frag) (C : Addr) (m : Str) (f : Addr) : Prop where
 at_ : PySem.W.findIn K (.ref C) m = some (some (.ref f))
 fn : PySem.W.isFn K (.ref f) = true
 kp : PySem.W.keepIn K (.ref f) = true
section
variable {X : Cx} {pins : List (Addr × Obj)} {σ : St} {H : Hp} {s : Shared} {a C dx : Addr} {fs : List (Str × V)} {f : Str} {v : V} {A : Around} {E : Value → Shared → Prop}
theorem mM {b : Bool} {Q : Value → Shared → Prop} (I : Inv X pins σ H s) (e : H a = some (.ins C dx fs)) (c : Cls X.K C) (n : NoAttr X.K C f) (l : fs.lookup f = some v)
  (h : ∀ u s',Inv X pins σ H s' → RelV v u → Q u s') : wpAny (model X.prog X.w) A (getAttr (.ref a) f b) Q E s := by
 obtain ⟨mA,O,r,_,_,_⟩ := oE I.hok e
 obtain ⟨u,hu,ru⟩ := RelO.some_of (v := v) (o := mA f) (by rw [← l]; exact r f)
 exact AP3 I.kIn O (c.get f) c.hd n hu (yZ ru) (h u _ (I.tok _) ru)
theorem mL {m : Str} {g : Addr} {pl : Sem Bool} {Q : Value × List Value → Shared → Prop} (I : Inv X pins σ H s) (e : H a = some (.ins C dx fs)) (c : Cls X.K C) (k : wY X.K C m g) (l : fs.lookup m = none)
  (h : Q (.ref g,[.ref a]) s) : wpAny (model X.prog X.w) A (getMethod (.ref a) m pl) Q E s := by
 obtain ⟨mA,O,r,_,_,_⟩ := oE I.hok e
 have hn : mA m = none := RelO.none_of (by rw [← l]; exact r m)
 exact AF3 I.kIn O (c.get m) k.at_ k.fn hn h
theorem lR {y : V} {u : Value} {Q : Unit → Shared → Prop} (I : Inv X pins σ H s) (e : H a = some (.ins C dx fs)) (c : Cls X.K C) (n : NoAttr X.K C f) (hl : fs.length < 1000) (ry : RelV y u)
  (h : ∀ s',Inv X pins σ (D5 H a (.ins C dx (W2 f y fs))) s' → Q () s') : wpAny (model X.prog X.w) A (setAttr (.ref a) f u) Q E s := by
 obtain ⟨mA,O,r,wi,_,ho⟩ := oE I.hok e
 have hz : (fs.map (·.1)).length ≤ sizeLine := by rw [List.length_map,sizeLine_eq]; omega
 refine AL0 I.kIn O c.sa c.po n.taker c.hd wi hz fun h' O' sb=>h _ ?_
 have hd : ∃ o,h'.get? dx = some o := let ⟨o,_,_,e',_⟩ := O'.ns; ⟨o,e'⟩
 refine I.write (x := a) (e := dx) (by rw [e]; exact True.intro) (.inr ho) (fun b q hb z=>(sb.2 b hb).trans z) hd ?_
 refine ⟨by rw [B5 O.ne]; exact ho,?_,O.ne,O'.obj,_,O'.ns,fun g=>?_,fun g hg=>?_⟩
 ·have := kJ f y fs; omega
 ·show RelO ((W2 f y fs).lookup g) (if g = f then some u else mA g)
  rw [kI]
  by_cases q : g = f
  ·rw [if_pos q,if_pos q]; exact ry
  ·rw [if_neg q,if_neg q]; exact r g
 ·by_cases q : g = f
  ·rw [q]; exact (iV f y fs).1
  ·refine (iV f y fs).2 g (wi g fun z=>hg ?_)
   show (if g = f then some u else mA g) = none
   rw [if_neg q]; exact z
theorem Inv.made (I : Inv X pins σ H s) : Inv X pins σ (D5 (D5 H s.heap.objs.size (.own (s.heap.objs.size + 1))) (s.heap.objs.size + 1) (.ins C s.heap.objs.size []))
  { s with heap := (s.heap.push PySem.W.emptyDict).push (PySem.W.instObj C s.heap.objs.size) } := by
 have e1 : (s.heap.push PySem.W.emptyDict).get? s.heap.objs.size = some PySem.W.emptyDict := Heap.get?_push_size s.heap rfl
 have e2 : ((s.heap.push PySem.W.emptyDict).push (PySem.W.instObj C s.heap.objs.size)).get? (s.heap.objs.size + 1) = some (PySem.W.instObj C s.heap.objs.size) := by
  have := Heap.get?_push_size (s.heap.push PySem.W.emptyDict) (o := PySem.W.instObj C s.heap.objs.size) rfl
  rwa [Heap.size_push] at this
 have e3 : (s.heap.push PySem.W.emptyDict).Ns s.heap.objs.size (fun _=>none) := ⟨PySem.W.emptyDict,#[],_,e1,rfl,(fun e he=>absurd he (by simp)),fun _=>rfl⟩
 have I1 := I.laid (a := s.heap.objs.size) (o := .own (s.heap.objs.size + 1)) (h' := s.heap.push PySem.W.emptyDict) (t' := s.toks) (fun b u q=>Heap.get?_push_of_some _ q) (Nat.le_refl _) ⟨_,e1⟩
 refine I1.laid (a := s.heap.objs.size + 1) (o := .ins C s.heap.objs.size []) (t' := s.toks) (fun b u q=>Heap.get?_push_of_some _ q) (Nat.le_of_eq (Heap.size_push _ _)) ?_
 have ne : s.heap.objs.size ≠ s.heap.objs.size + 1 := Nat.ne_of_lt (Nat.lt_succ_self _)
 refine ⟨by rw [B5 ne,A6],Nat.zero_le _,ne,e2,fun _=>none,(Heap.Ns1.of_empty e3).at fun o q=>Heap.get?_push_of_some _ q,fun _=>True.intro,fun y hy=>absurd rfl hy⟩
theorem AP9 {prog : Program} {w : World} {env : Env} {e : Expr} {f : Str} {pos : Pos} {s : Shared} {Q : Value → Shared → Prop} (hb : attributeBase e f env (eval e env) = eval e env)
  (h : wpAny (model prog w) A (eval e env) (fun o s₁=>wpAny (model prog w) A (getAttr o f true) Q E s₁) E s) : wpAny (model prog w) A (eval (.Attribute e f pos) env) Q E s :=
 Attribute_any_ h (by rw [arm_eval_Attribute,hb])
end
def BE7 (K : PySem.W.Frag) (ta : TE) (f : Str) : TE := fun σ H Q=>ta σ H fun x H1=>∃ a C dx fs v,x = .ref a ∧ H1 a = some (.ins C dx fs) ∧ Cls K C ∧ NoAttr K C f ∧ fs.lookup f = some v ∧ Q v H1
def BF2 (K : PySem.W.Frag) (ta tv : TE) (f : Str) : TS := fun D σ H=>tv σ H fun y H1=>ta σ H1 fun x H2=>∃ a C dx fs,x = .ref a ∧ H2 a = some (.ins C dx fs) ∧ Cls K C ∧ NoAttr K C f ∧ fs.length < 1000 ∧
 D.nx σ (D5 H2 a (.ins C dx (W2 f y fs)))
def AZ0 (X : Cx) (op : Operator) (rd : V → V → Hp → VK → Prop) : Prop :=
 ∀ (pins : List (Addr × Obj)) (s : Shared) (σ : St) (H : Hp) (x y : V) (u v : Value) (Q : VK),Inv X pins σ H s → RelV x u → RelV y v → rd x y H Q → wpAny (model X.prog X.w) X.A (inplaceOp op u v) (EP X pins σ Q) X.xe s
def AL4 (K : PySem.W.Frag) (ta tv : TE) (rd : V → V → Hp → VK → Prop) (f : Str) : TS := fun D σ H=>ta σ H fun x H1=>∃ a C dx fs v,x = .ref a ∧ H1 a = some (.ins C dx fs) ∧ Cls K C ∧ NoAttr K C f ∧ fs.lookup f = some v ∧
 tv σ H1 fun y H2=>rd v y H2 fun z H3=>∃ dx' fs',H3 a = some (.ins C dx' fs') ∧ fs'.length < 1000 ∧ D.nx σ (D5 H3 a (.ins C dx' (W2 f z fs')))
section
variable {X : Cx} {o e value : Expr} {f : Str} {pos pos' tpos : Pos} {ta tv : TE}
theorem sC (he : PE X e ta) (hb : attributeBase e f X.env (eval e X.env) = eval e X.env) : PE X (.Attribute e f pos) (BE7 X.K ta f) := by
 intro pins s σ H Q I h
 refine AP9 hb (G0 (he pins s σ H _ I h) fun u s1 ⟨x,H1,I1,rx,a,C,dx,fs,v,ex,ea,c,n,l,q⟩=>?_)
 subst ex
 obtain rfl : u = Value.ref a := rx
 exact mM I1 ea c n l fun u' s2 I2 ru=>⟨v,H1,I2,ru,q⟩
theorem xT (ha : PE X o ta) (hv : PE X value tv) (hs : swapsWith value (some (.Attribute o f pos')) pos.line X.env = pure false) : PS X (.Assign [.Attribute o f pos'] value pos) (BF2 X.K ta tv f) := by
 intro pins s σ H D I h
 refine plainObj_wpAny_Assign_Attribute (G0 (hv pins s σ H _ I h) fun u s1 ⟨y,H1,I1,ry,q⟩=>G0 (ha pins s1 σ H1 _ I1 q) fun ov s2 ⟨x,H2,I2,rx,a,C,dx,fs,ex,ea,c,n,l,q2⟩=>?_) hs
 subst ex
 obtain rfl : ov = Value.ref a := rx
 exact lR I2 ea c n l ry fun s3 I3=>⟨σ,_,I3,q2⟩
theorem pD {op : Operator} {rd : V → V → Hp → VK → Prop} (ha : PE X o ta) (hv : PE X value tv) (hop : AZ0 X op rd) : PS X (.AugAssign (.Attribute o f tpos) op value pos) (AL4 X.K ta tv rd f) := by
 intro pins s σ H D I h
 refine wpAny_AugAssign_AttributeAny (G0 (ha pins s σ H _ I h) fun ov s1 ⟨x,H1,I1,rx,a,C,dx,fs,v,ex,ea,c,n,l,q⟩=>?_)
 subst ex
 obtain rfl : ov = Value.ref a := rx
 refine mM I1 ea c n l fun u s2 I2 ru=>G0 (hv pins s2 σ H1 _ I2 q) fun w3 s3 ⟨y,H2,I3,ry,q3⟩=>G0 (hop pins s3 σ H2 v y u w3 _ I3 ru ry q3) fun w4 s4 ⟨z,H3,I4,rz,dx',fs',ea',l',q4⟩=>?_
 exact lR I4 ea' c n l' rz fun s5 I5=>⟨σ,_,I5,q4⟩
def BF8 : V → V → Hp → VK → Prop := fun x y H Q=>∃ i j,x = .int i ∧ y = .int j ∧ Q (.int (i + j)) H
theorem yW : AZ0 X .Add BF8 := by
 rintro pins s σ H x y u v Q I rx ry ⟨i,j,rfl,rfl,q⟩
 obtain ⟨t,rfl⟩ := (show ∃ t,u = Value.int i t from rx)
 obtain ⟨t',rfl⟩ := (show ∃ t',v = Value.int j t' from ry)
 exact PyProof.Rows.iadd_int ⟨.int (i + j),H,I.tok _,⟨_,rfl⟩,q⟩
end
section
variable {X : Cx} {pins : List (Addr × Obj)} {σ : St} {H : Hp} {s : Shared} {A : Around} {E : Value → Shared → Prop} {Q : Value → Shared → Prop} {c : Value} {b : Bool}
end
end L2
namespace L2
open PySem PySem.Spec PyProof.Rows
structure Room (k : Nat) (A : Around) : Prop where
 hd : A.handled = none
 dp : A.depth + 3 * k + 5 < recursionLimit
 un : A.units + 16 * k + 200 < cLine
theorem Room.mono {j k : Nat} {A : Around} (r : Room k A) (h : j ≤ k) : Room j A := ⟨r.hd,by have := r.dp; omega,by have := r.un; omega⟩
theorem Room.deeper {k : Nat} {A : Around} (r : Room (k + 1) A) (env : Env) : Room k (A.deeper env) :=
 ⟨r.hd,by have := r.dp; show A.depth + 1 + 3 * k + 5 < _; omega,by have := r.un; show A.units + 3 + 16 * k + 200 < _; omega⟩
theorem wP {A : Around} {C : Addr} {us : List Value} {kw : List (Str × Value)} : (A.under (.builtin "type.__call__" ⟨.ref C :: us,kw⟩)).depth = A.depth + 1 := by
 first | rfl | simp [Around.under,Code.weight,Code.isCreation,Code.isGuard,Code.isCaller,Code.frames,Code.isFrame,guardIds]
theorem wO {A : Around} {C : Addr} {us : List Value} {kw : List (Str × Value)} : (A.under (.builtin "type.__call__" ⟨.ref C :: us,kw⟩)).units = A.units + 1 := by
 first | rfl | simp [Around.under,Code.cUnits,Code.frames,Code.isFrame]
theorem Room.make {k : Nat} {A : Around} (r : Room (k + 1) A) (C : Addr) (us : List Value) (kw : List (Str × Value)) : Room k (A.under (.builtin "type.__call__" ⟨.ref C :: us,kw⟩)) :=
 ⟨r.hd,by have := r.dp; rw [wP]; omega,by have := r.un; rw [wO]; omega⟩
theorem Room.depth {k : Nat} {A : Around} (r : Room k A) : A.depth < recursionLimit := by have := r.dp; omega
theorem Room.units {k : Nat} {A : Around} (r : Room k A) : A.units + 64 < cLine := by have := r.un; omega
def bD : TA := fun _ H Q=>Q [] H
def jJ (ta : TE) (tr : TA) : TA := fun σ H Q=>ta σ H fun x H1=>tr σ H1 fun xs H2=>Q (x :: xs) H2
section
variable {X : Cx} {e : Expr} {es : List Expr} {te : TE} {t : TA} {pos : Pos}
theorem A5 : PA X [] bD := fun _ _ _ _ H Q I h=>Calls.spliced_nil ⟨[],H,I,.nil,h⟩
theorem A0 (ha : PE X e te) (hr : PA X es t) (hs : starEach (e :: es) X.env = (false,eval e X.env) :: starEach es X.env := by rfl) : PA X (e :: es) (jJ te t) := by
 intro pos pins s σ H Q I h
 rw [hs]
 show wpAny _ _ (spliced ((false,eval e X.env) :: backTo pos (starEach es X.env))) _ _ s
 refine Calls.spliced_cons (G0 (ha pins s σ H _ I h) fun u s1 ⟨x,H1,I1,r1,q1⟩=>?_)
 exact G0 (hr pos pins s1 σ H1 _ I1 q1) fun us s2 ⟨xs,H2,I2,r2,q2⟩=>⟨x :: xs,H2,I2,.cons r1 r2,q2⟩
def BE0 (t : TA) : TE := fun σ H Q=>t σ H fun xs H1=>xs.length ≤ sizeLine ∧ ∀ p,H1 p = none → Q (.ref p) (D5 H1 p (.tup xs))
def rE (t : TA) : TE := fun σ H Q=>t σ H fun xs H1=>xs.length ≤ sizeLine ∧ ∀ p,H1 p = none → Q (.ref p) (D5 H1 p (.lst xs))
theorem L0 {x1} (h : PA X es t) : PE X (.Tuple es x1 pos) (BE0 t) := by
 intro pins s σ H Q I hq
 refine wpAny_Tuple_spliced (G0 (h pos pins s σ H _ I hq) fun us s1 ⟨xs,H1,I1,r,z,q⟩=>⟨by rw [← r.length]; exact z,?_⟩)
 have hf : H1 s1.heap.objs.size = none := I1.hok.fresh (Nat.le_refl _)
 refine ⟨.ref s1.heap.objs.size,D5 H1 s1.heap.objs.size (.tup xs),I1.laid (t' := s1.toks) (fun b u e=>Heap.get?_push_of_some _ e) (Nat.le_refl _) ?_,rfl,q _ hf⟩
 exact ⟨z,us,r,⟨_,Heap.get?_push_size _ rfl,rfl,_,rfl⟩⟩
theorem E3 (h : PA X es t) : PE X (.List es pos) (rE t) := by
 intro pins s σ H Q I hq
 refine wpAny_List_spliced (G0 (h pos pins s σ H _ I hq) fun us s1 ⟨xs,H1,I1,r,z,q⟩=>⟨by rw [← r.length]; exact z,?_⟩)
 have hf : H1 s1.heap.objs.size = none := I1.hok.fresh (Nat.le_refl _)
 refine ⟨.ref s1.heap.objs.size,D5 H1 s1.heap.objs.size (.lst xs),I1.laid (t' := s1.toks) (fun b u e=>Heap.get?_push_of_some _ e) (Nat.le_refl _) ?_,rfl,q _ hf⟩
 exact ⟨z,us,0,r,Heap.get?_push_size _ rfl⟩
end
abbrev Sp := List V → Hp → VK → XK → Prop
abbrev bK := List Env → Hp → Shared → XK → Value → Shared → Prop
structure Env0 (P : Program) (w : World) (K : PySem.W.Frag) (mg : Str → Option Value) (base : Heap) (A : Around) (outer : List Env) (s : Shared) (H : Hp) : Prop where
 frames : A.frames = some outer
 mod : Mod K mg base
 bs : ∀ b o,base.get? b = some o → s.heap.get? b = some o ∧ H b = none
 bsz : base.objs.size ≤ s.heap.objs.size
 funs : s.heap.FunFrames base outer
 frf : ∀ b ∈ Q1 outer,H b = none
 hok : HOk P w H s.heap
 bare : AllBare s.gens
def CE (outer : List Env) (P : Program) (w : World) (H : Hp) (s : Shared) (Q : VK) (u : Value) (s' : Shared) : Prop :=
 ∃ v H',s'.os = s.os ∧ AllBare s'.gens ∧ Un (Q1 outer) [] H H' s.heap s'.heap ∧ HOk P w H' s'.heap ∧ RelV v u ∧ Q v H'
def CR (CX : bK) (outer : List Env) (P : Program) (w : World) (H : Hp) (s : Shared) (Q : VK) (E : XK) (r : Result) (s' : Shared) : Prop :=
 match r with
 | .ok (.ret u)=>CE outer P w H s Q u s'
 | .ok _=>False
 | .error e=>CX outer H s E e s'
structure FnOk (P : Program) (w : World) (K : PySem.W.Frag) (mg : Str → Option Value) (base : Heap) (CX : bK) (k : Nat) (f : Addr) (fd : FuncData) (ps : List Str) (sp : Sp) : Prop where
 len : ∀ vs H Q E,sp vs H Q E → vs.length = ps.length
 run : ∀ (A : Around) (outer : List Env) (s : Shared) (H : Hp) (args : Args) (us : List Value) (vs : List V) (Q : VK) (E : XK),Room k A → Env0 P w K mg base A outer s H → BindsTo s fd args (ps.zip us) → Vals vs us → sp vs H Q E →
  codeAny (model P w) A (.call (.ref f) args) (CR CX outer P w H s Q E) s
theorem FnOk.mono {P : Program} {w : World} {K : PySem.W.Frag} {mg : Str → Option Value} {base : Heap} {CX : bK} {j k : Nat} {f : Addr} {fd : FuncData} {ps : List Str} {sp : Sp} (F : FnOk P w K mg base CX j f fd ps sp) (h : j ≤ k) :
  FnOk P w K mg base CX k f fd ps sp := ⟨F.len,fun A outer s H args us vs Q E hr=>F.run A outer s H args us vs Q E (hr.mono h)⟩
theorem Env0.make {P : Program} {w : World} {K : PySem.W.Frag} {mg : Str → Option Value} {base : Heap} {A : Around} {outer : List Env} {s : Shared} {H : Hp} (e : Env0 P w K mg base A outer s H) (C : Addr) (us : List Value) (kw : List (Str × Value)) :
  Env0 P w K mg base (A.under (.builtin "type.__call__" ⟨.ref C :: us,kw⟩)) outer s H := ⟨by first | exact e.frames | (simpa [Around.under,Code.envs,Code.isFrame,pushEnvs] using e.frames),e.mod,e.bs,e.bsz,e.funs,e.frf,e.hok,e.bare⟩
section
variable {X : Cx} {pins : List (Addr × Obj)} {σ : St} {H : Hp} {s s' : Shared}
theorem Inv.env0 (I : Inv X pins σ H s) : Env0 X.prog X.w X.K X.mg X.base X.A X.stack s H :=
 ⟨I.ok.frames,I.ok.mod,I.bs,Nat.le_trans I.ok.bsz I.sz,I.stack,I.stkFree,I.hok,I.bare⟩
theorem Inv.after {Q : VK} {u : Value} (I : Inv X pins σ H s) (h : CE X.stack X.prog X.w H s Q u s') : EP X pins σ Q u s' := by
 obtain ⟨v,H',os,bare,un,hok,r,q⟩ := h
 obtain ⟨hh,g,d,t,os'⟩ := s'
 obtain rfl : os' = s.os := os
 exact ⟨v,H',I.call (h' := hh) (g' := g) (d' := d) (t' := t) (ch := []) un hok bare (fun b z=>absurd z (by simp)),r,q⟩
end
def lK (sp : Sp) (dvs : List V) (E : XK) (t : TA) : TE := fun σ H Q=>t σ H fun vs H1=>sp (vs ++ dvs) H1 Q E
def qD (C : Addr) (m : Str) (sp : Sp) (dvs : List V) (E : XK) (ta : TE) (t : TA) : TE := fun σ H Q=>ta σ H fun x H1=>∃ a dx fs,x = .ref a ∧ H1 a = some (.ins C dx fs) ∧ fs.lookup m = none ∧
 t σ H1 fun vs H2=>sp (x :: (vs ++ dvs)) H2 Q E
def BA1 (C : Addr) (sp : Sp) (dvs : List V) (E : XK) (t : TA) : TE := fun σ H Q=>t σ H fun vs H1=>∀ x dx,H1 x = none → H1 dx = none → dx ≠ x →
 sp (.ref x :: (vs ++ dvs)) (D5 (D5 H1 dx (.own x)) x (.ins C dx [])) (fun v H2=>v = .non ∧ Q (.ref x) H2) E
def Binds (K : PySem.W.Frag) (fd : FuncData) (ps : List Str) (ds : List Value) : Prop :=
 ∀ (s : Shared) (us : List Value),K.In s.heap → (us ++ ds).length = ps.length → BindsTo s fd ⟨us,[]⟩ (ps.zip (us ++ ds))
theorem Binds.all {K : PySem.W.Frag} {fd : FuncData} {ps : List Str} (h : ∀ us : List Value,us.length = ps.length → bindArgs fd ⟨us,[]⟩ = pure (ps.zip us)) : Binds K fd ps [] := fun s us _ hl=>by
 rw [List.append_nil] at hl ⊢
 exact .of_eq (h us hl)
def T1 (CX : bK) (X : Cx) (E : XK) : Prop := ∀ (pins : List (Addr × Obj)) (σ : St) (H : Hp) (s : Shared) (e : Value) (s' : Shared),Inv X pins σ H s → CX X.stack H s E e s' → X.xe e s'
section
variable {X : Cx} {CX : bK} {k : Nat} {f C : Addr} {fd : FuncData} {ps : List Str} {sp : Sp} {dvs : List V} {ds : List Value} {E : XK} {x m : Str} {p pos apos : Pos} {e o : Expr} {es : List Expr} {ta : TE} {t : TA}
theorem iO {pins : List (Addr × Obj)} {σ : St} {H : Hp} {s : Shared} {Q : VK} {us : List Value} {vs : List V} (F : FnOk X.prog X.w X.K X.mg X.base CX k f fd ps sp) (hr : Room k X.A) (hb : Binds X.K fd ps ds) (hd : Vals dvs ds) (hx : T1 CX X E)
  (I : Inv X pins σ H s) (r : Vals vs us) (h : sp (vs ++ dvs) H Q E) : wpAny (model X.prog X.w) X.A (call (.ref f) us) (EP X pins σ Q) X.xe s := by
 have r2 : Vals (vs ++ dvs) (us ++ ds) := r.append hd
 have hl : (us ++ ds).length = ps.length := by rw [← r2.length]; exact F.len _ _ _ _ h
 refine wpAny_call (codeAny_mono (F.run X.A X.stack s H ⟨us,[]⟩ (us ++ ds) (vs ++ dvs) Q E hr I.env0 (hb s us I.kIn hl) r2 h) fun r s' hq=>?_)
 cases r with
 | error e=>exact hx pins σ H s e s' I hq
 | ok fl =>
  cases fl with
  | ret u=>exact I.after hq
  | next=>exact False.elim hq
  | brk=>exact False.elim hq
  | cont=>exact False.elim hq
theorem uG (F : FnOk X.prog X.w X.K X.mg X.base CX k f fd ps sp) (hr : Room k X.A) (hg : Gl X x) (hm : X.mg x = some (.ref f)) (hk : PySem.W.keepIn X.K (.ref f) = true) (hb : Binds X.K fd ps ds) (hd : Vals dvs ds) (hx : T1 CX X E)
  (ha : PA X (e :: es) t) (hdb : (x == ("__debug__" : Str)) = false := by decide) (he : starEach (e :: es) X.env = (false,eval e X.env) :: starEach es X.env := by rfl) (hpl : (backTo pos (starEach es X.env)).any (·.1) = false := by rfl) :
  PE X (.Call (.Name x p) (e :: es) [] pos) (lK sp dvs E t) := by
 intro pins s σ H Q I h
 refine wpAny_Call_Name_kw (cB I hg hm ?_ hdb)
 refine PySem.W.callWith_K (h₀ := X.base) I.ok.mod.kin hk (G0 (ha pos pins s σ H _ I h) fun us s1 ⟨vs,H1,I1,r,q⟩=>⟨I1.kIn,?_⟩) he hpl
 exact iO F hr hb hd hx I1 r q
theorem AC0 (F : FnOk X.prog X.w X.K X.mg X.base CX k f fd ps sp) (hr : Room k X.A) (hg : Gl X x) (hm : X.mg x = some (.ref f)) (hk : PySem.W.keepIn X.K (.ref f) = true) (hb : Binds X.K fd ps ds) (hd : Vals dvs ds) (hx : T1 CX X E)
  (hdb : (x == ("__debug__" : Str)) = false := by decide) : PE X (.Call (.Name x p) [] [] pos) (lK sp dvs E bD) := by
 intro pins s σ H Q I h
 refine wpAny_Call_Name_kw (cB I hg hm ?_ hdb)
 exact PySem.W.callWith_K0 I.kIn hk (iO (us := []) F hr hb hd hx I .nil h)
theorem AM3 {pl : Sem Bool} (he : PE X o ta) (c : Cls X.K C) (hm : wY X.K C m f) (F : FnOk X.prog X.w X.K X.mg X.base CX k f fd ps sp) (hr : Room k X.A) (hb : Binds X.K fd ps ds) (hd : Vals dvs ds) (hx : T1 CX X E) (ha : PA X (e :: es) t)
  (hst : starEach (e :: es) X.env = (false,eval e X.env) :: starEach es X.env := by rfl) (hpl : (backTo pos (starEach es X.env)).any (·.1) = false := by rfl)
  (ht : eval (.Call (.Attribute o m apos) (e :: es) [] pos) X.env = (do
   let ov ← eval o X.env
   standAt apos.atName
   let (f,first) ← holding [ov] (getMethod ov m pl)
   callWith pos f first (backTo pos (starEach (e :: es) X.env)) (backToKw pos (keywordEach [] X.env))) := by rfl) :
  PE X (.Call (.Attribute o m apos) (e :: es) [] pos) (qD C m sp dvs E ta t) := by
 intro pins s σ H Q I h
 refine PySem.W.methodCall_KW (pl := pl) (G0 (he pins s σ H _ I h) fun u s1 ⟨x,H1,I1,rx,a,dx,fs,ex,ea,l,q⟩=>?_) ht
 subst ex
 obtain rfl : u = Value.ref a := rx
 refine mL I1 ea c hm l ?_
 refine PySem.W.callWith_K (first := [.ref a]) (h₀ := X.base) I.ok.mod.kin hm.kp (G0 (ha pos pins s1 σ H1 _ I1 q) fun us s2 ⟨vs,H2,I2,r,q2⟩=>⟨I2.kIn,?_⟩) hst hpl
 exact iO (us := .ref a :: us) (vs := .ref a :: vs) F hr hb hd hx I2 (.cons rfl r) q2
theorem AB6 {pl : Sem Bool} (he : PE X o ta) (c : Cls X.K C) (hm : wY X.K C m f) (F : FnOk X.prog X.w X.K X.mg X.base CX k f fd ps sp) (hr : Room k X.A) (hb : Binds X.K fd ps ds) (hd : Vals dvs ds) (hx : T1 CX X E)
  (ht : eval (.Call (.Attribute o m apos) [] [] pos) X.env = (do
   let ov ← eval o X.env
   standAt apos.atName
   let (f,first) ← holding [ov] (getMethod ov m pl)
   callWith pos f first (backTo pos (starEach [] X.env)) (backToKw pos (keywordEach [] X.env))) := by rfl) :
  PE X (.Call (.Attribute o m apos) [] [] pos) (qD C m sp dvs E ta bD) := by
 intro pins s σ H Q I h
 refine PySem.W.methodCall_KW (pl := pl) (G0 (he pins s σ H _ I h) fun u s1 ⟨x,H1,I1,rx,a,dx,fs,ex,ea,l,q⟩=>?_) ht
 subst ex
 obtain rfl : u = Value.ref a := rx
 refine mL I1 ea c hm l ?_
 exact PySem.W.callWith_K0 (first := [.ref a]) I1.kIn hm.kp (iO (us := [.ref a]) (vs := [.ref a]) F hr hb hd hx I1 (.cons rfl .nil) q)
structure Mk (K : PySem.W.Frag) (C f : Addr) : Prop where
 makes : PySem.W.makesIn K C = true
 init : PySem.W.findIn K (.ref C) "__init__" = some (some (.ref f))
 fn : PySem.W.isFn K (.ref f) = true
 kp : PySem.W.keepIn K (.ref C) = true
theorem AA7 {pins : List (Addr × Obj)} {σ : St} {H : Hp} {s : Shared} {Q : VK} {us : List Value} {vs : List V} (M : Mk X.K C f) (F : FnOk X.prog X.w X.K X.mg X.base CX k f fd ps sp) (hr : Room (k + 1) X.A) (hb : Binds X.K fd ps ds) (hd : Vals dvs ds)
  (hx : T1 CX X E) (I : Inv X pins σ H s) (r : Vals vs us)
  (h : ∀ x dx,H x = none → H dx = none → dx ≠ x → sp (.ref x :: (vs ++ dvs)) (D5 (D5 H dx (.own x)) x (.ins C dx [])) (fun v H2=>v = .non ∧ Q (.ref x) H2) E) :
  wpAny (model X.prog X.w) X.A (call (.ref C) us) (EP X pins σ Q) X.xe s := by
 have hq := h (s.heap.objs.size + 1) s.heap.objs.size (I.hok.fresh (Nat.le_succ _)) (I.hok.fresh (Nat.le_refl _)) (Nat.ne_of_lt (Nat.lt_succ_self _))
 have I2 := Inv.made (C := C) I
 have r2 : Vals (V.ref (s.heap.objs.size + 1) :: (vs ++ dvs)) (Value.ref (s.heap.objs.size + 1) :: (us ++ ds)) := .cons rfl (r.append hd)
 have hl : (Value.ref (s.heap.objs.size + 1) :: us ++ ds).length = ps.length := by
  have e := r2.length
  rw [F.len _ _ _ _ hq] at e
  exact e.symm
 refine wpAny_call (AE0 (f := f) I.kIn M.makes M.init (beq_iff_eq.mp M.fn) (codeAny_mono (F.run _ X.stack _ _ ⟨Value.ref (s.heap.objs.size + 1) :: us,[]⟩ (Value.ref (s.heap.objs.size + 1) :: (us ++ ds)) _ _ E (hr.make C us [])
  (I2.env0.make C us []) (hb _ (Value.ref (s.heap.objs.size + 1) :: us) I2.kIn hl) r2 hq) fun r s' hq'=>?_))
 cases r with
 | error e=>exact hx pins σ _ _ e s' I2 hq'
 | ok fl =>
  cases fl with
  | ret u =>
   obtain ⟨v,H',I3,rv,ev,q3⟩ := I2.after hq'
   subst ev
   exact ⟨rv,⟨V.ref (s.heap.objs.size + 1),H',I3,rfl,q3⟩⟩
  | next=>exact False.elim hq'
  | brk=>exact False.elim hq'
  | cont=>exact False.elim hq'
theorem uF (M : Mk X.K C f) (F : FnOk X.prog X.w X.K X.mg X.base CX k f fd ps sp) (hr : Room (k + 1) X.A) (hg : Gl X x) (hm : X.mg x = some (.ref C)) (hb : Binds X.K fd ps ds) (hd : Vals dvs ds) (hx : T1 CX X E)
  (ha : PA X (e :: es) t) (hdb : (x == ("__debug__" : Str)) = false := by decide) (he : starEach (e :: es) X.env = (false,eval e X.env) :: starEach es X.env := by rfl) (hpl : (backTo pos (starEach es X.env)).any (·.1) = false := by rfl) :
  PE X (.Call (.Name x p) (e :: es) [] pos) (BA1 C sp dvs E t) := by
 intro pins s σ H Q I h
 refine wpAny_Call_Name_kw (cB I hg hm ?_ hdb)
 refine PySem.W.callWith_K (h₀ := X.base) I.ok.mod.kin M.kp (G0 (ha pos pins s σ H _ I h) fun us s1 ⟨vs,H1,I1,r,q⟩=>⟨I1.kIn,?_⟩) he hpl
 exact AA7 M F hr hb hd hx I1 r q
end
section
variable {X : Cx} {CX : bK} {k : Nat} {f C : Addr} {fd : FuncData} {ps ks : List Str} {sp : Sp} {E : XK} {x m : Str} {p pos apos kpos : Pos} {e o : Expr} {es : List Expr} {kws : List Keyword} {te ta : TE} {t tk : TA} {nm : Option Str}
variable {g : List Value → List Value → List Value} {gV : List V → List V → List V}
end
structure E2 (N P : List Str) (sc : Scope) : Prop where
 kind : sc.kind = .function
 co : sc.isCoroutine = false
 gen : sc.isGenerator = false
 nd : N.Nodup
 pre : N.take P.length = P
 par : ∀ x ∈ P,sc.names.lookup x = some .local ∨ sc.names.lookup x = some .cell
 nofree : ∀ y ∈ sc.names,y.2 ≠ .free
theorem pW {kindOf : Str → Option NameKind} {x : Str} : ∀ {binds : List (Str × Value)} {m : Str → Option Value},(∀ v,(x,v) ∉ binds) → bindL kindOf binds m x = m x
 | [],_,_=>rfl
 | (n,v) :: r,m,h=>by
  unfold bindL
  rw [pW fun w hw=>h w (List.mem_cons_of_mem _ hw)]
  split
  ·have : x ≠ n := by rintro rfl; exact h v List.mem_cons_self
   simp [this]
  ·rfl
theorem pY {kindOf : Str → Option NameKind} {x : Str} : ∀ {binds : List (Str × Value)} {m : Str → Option Value},(∀ v,(x,v) ∉ binds) → bindC kindOf binds m x = m x
 | [],_,_=>rfl
 | (n,v) :: r,m,h=>by
  unfold bindC
  rw [pY fun w hw=>h w (List.mem_cons_of_mem _ hw)]
  split
  ·rfl
  ·have : x ≠ n := by rintro rfl; exact h v List.mem_cons_self
   simp [this]
theorem pX {kindOf : Str → Option NameKind} {x : Str} {v : Value} : ∀ {P : List Str} {vs : List Value} {i : Nat} {m : Str → Option Value},P.Nodup → P[i]? = some x → vs[i]? = some v → kindOf x = some .local →
  bindL kindOf (P.zip vs) m x = some v
 | [],_,_,_,_,h,_,_=>by simp at h
 | _ :: _,[],_,_,_,_,h,_=>by simp at h
 | p :: P,w :: vs,0,m,nd,h1,h2,hk=>by
  simp at h1 h2; subst h1; subst h2
  show bindL kindOf ((p,w) :: P.zip vs) m p = _
  unfold bindL
  rw [pW fun v hv=>(List.nodup_cons.mp nd).1 (List.of_mem_zip hv).1,if_pos hk]
  simp
 | p :: P,w :: vs,i + 1,m,nd,h1,h2,hk=>by
  show bindL kindOf ((p,w) :: P.zip vs) m x = _
  unfold bindL
  exact pX (i := i) (List.nodup_cons.mp nd).2 (by simpa using h1) (by simpa using h2) hk
theorem pZ {kindOf : Str → Option NameKind} {x : Str} {v : Value} : ∀ {P : List Str} {vs : List Value} {i : Nat} {m : Str → Option Value},P.Nodup → P[i]? = some x → vs[i]? = some v → kindOf x ≠ some .local →
  bindC kindOf (P.zip vs) m x = some v
 | [],_,_,_,_,h,_,_=>by simp at h
 | _ :: _,[],_,_,_,_,h,_=>by simp at h
 | p :: P,w :: vs,0,m,nd,h1,h2,hk=>by
  simp at h1 h2; subst h1; subst h2
  show bindC kindOf ((p,w) :: P.zip vs) m p = _
  unfold bindC
  rw [pY fun v hv=>(List.nodup_cons.mp nd).1 (List.of_mem_zip hv).1,if_neg hk]
  simp
 | p :: P,w :: vs,i + 1,m,nd,h1,h2,hk=>by
  show bindC kindOf ((p,w) :: P.zip vs) m x = _
  unfold bindC
  exact pZ (i := i) (List.nodup_cons.mp nd).2 (by simpa using h1) (by simpa using h2) hk
def start (N : List Str) (vs : List V) : St := vs.map some ++ List.replicate (N.length - vs.length) none
def Z0 (CX : bK) (P : Program) (w : World) (K : PySem.W.Frag) (mg : Str → Option Value) (base : Heap) (N : List Str) (qual : Str) (scope : Scope) (f : Addr) (cd : Value) (A : Around) (outer : List Env) (s : Shared) (H : Hp) (E : XK) : Cx where
 prog := P
 w := w
 K := K
 mg := mg
 base := base
 A := A.deeper (envOfC qual scope s.heap.objs.size f cd)
 N := N
 s₀ := s
 H₀ := H
 env := envOfC qual scope s.heap.objs.size f cd
 outer := outer
 stack := envOfC qual scope s.heap.objs.size f cd :: outer
 ex := []
 calm := true
 fn := fun _=>true
 pn := []
 xe := fun e s'=>wpAny (model P w) (A.deeper (envOfC qual scope s.heap.objs.size f cd)) (leaving (envOfC qual scope s.heap.objs.size f cd) e) (fun _ s''=>CX outer H s E e s'') (fun e' s''=>CX outer H s E e' s'') s'
theorem sX {sc : Scope} {n : Nat} {x : Str} (h : sc.names.lookup x = some .cell) : ∃ c,(cellsFrom n sc.names []).lookup x = some c := by
 have q := PySem.W.cellsFrom_some sc.names n [] (.inl h)
 exact Option.isSome_iff_exists.mp q
theorem yV {CX : bK} {P : Program} {w : World} {K : PySem.W.Frag} {mg : Str → Option Value} {base : Heap} {N ps : List Str} {qual : Str} {scope : Scope} {f : Addr} {cd : Value} {A : Around} {outer : List Env} {s s1 : Shared} {H : Hp} {E : XK} {us : List Value} {vs : List V}
  (S : E2 N ps scope) (hd : A.handled = none) (e0 : Env0 P w K mg base A outer s H) (hl : vs.length = ps.length) (r : Vals vs us)
  (x : InCallC s s.heap.objs.size (bindL (envOfC qual scope s.heap.objs.size f cd).kindOf (ps.zip us) fun _=>none) (cellsFrom (s.heap.objs.size + 1) scope.names []) (bindC (envOfC qual scope s.heap.objs.size f cd).kindOf (ps.zip us) fun _=>none) s1) :
  Inv (Z0 CX P w K mg base N qual scope f cd A outer s H E) [] (start N vs) H s1 := by
 have hpl : ps.length ≤ N.length := by have := congrArg List.length S.pre; rw [List.length_take] at this; omega
 obtain ⟨h1,tk,rfl,hk⟩ := x.done
 have noA : ∀ b : Addr,b ∉ (Z0 CX P w K mg base N qual scope f cd A outer s H E).ex := fun b z=>absurd (show b ∈ ([] : List Addr) from z) (by simp)
 refine ⟨⟨e0.mod,S.kind,rfl,rfl,Nat.le_refl _,fun y z c h1 h2=>?_,fun y hy=>?_,fun y c _ h=>?_,fun _=>hd,Around.frames_deeper e0.frames,.inr ⟨rfl,rfl⟩,fun b z=>absurd z (noA b),e0.bs,e0.bsz,fun b _ _=>noA b,fun b z=>absurd z (noA b),e0.funs,e0.frf⟩,
  rfl,e0.bare,Un.kept hk,⟨_,x.toInCall.ns,fun i y v h1 h2 h3=>?_⟩,fun y c h=>⟨_,x.cell y c h⟩,e0.hok.fresh (Nat.le_refl _),fun y c h=>?_,fun p hp=>absurd (show p ∈ ([] : List (Addr × Obj)) from hp) (by simp),e0.hok.kept hk,?_⟩
 ·exact name_of_addr x.apart (PySem.mem_of_lookup h1) (PySem.mem_of_lookup h2)
 ·have hy : scope.names.lookup y = some .cell ∨ scope.names.lookup y = some .free := hy
  rcases hy with hy | hy
  ·exact sX hy
  ·exact absurd rfl (S.nofree _ (PySem.mem_of_lookup hy))
 ·exact Nat.le_of_lt (x.above y c (PySem.mem_of_lookup h))
 ·have hi : i < vs.length := by
   unfold start at h2
   by_cases hi : i < vs.length
   ·exact hi
   ·rw [List.getElem?_append_right (by simpa using hi)] at h2
    rw [List.getElem?_replicate] at h2
    split at h2 <;> cases h2
  have ha : vs[i]? = some v := by
   unfold start at h2
   rw [List.getElem?_append_left (by simpa using hi),List.getElem?_map] at h2
   cases e : vs[i]? with
   | none=>rw [e] at h2; cases h2
   | some a=>rw [e] at h2; cases h2; rfl
  obtain ⟨u,hu,rv⟩ := r.get ha
  have hp : ps[i]? = some y := by
   rw [← S.pre,List.getElem?_take_of_lt (by omega)]; exact h1
  have ndP : ps.Nodup := by rw [← S.pre]; exact S.nd.sublist (List.take_sublist _ _)
  refine ⟨u,rv,?_⟩
  rcases S.par y (List.mem_of_getElem? hp) with k | k
  ·exact .inl ⟨k,pX ndP hp hu k⟩
  ·obtain ⟨c,e⟩ := sX (n := s.heap.objs.size + 1) k
   refine .inr ⟨.inl k,c,e,?_⟩
   have q := x.cell y c e
   rw [pZ ndP hp hu (by show scope.names.lookup y ≠ _; rw [k]; decide)] at q
   exact q
 ·exact e0.hok.fresh (Nat.le_of_lt (x.above y c (PySem.mem_of_lookup h)))
 ·unfold start
  show _ = N.length
  rw [List.length_append,List.length_map,List.length_replicate]
  omega
theorem AJ4 {CX : bK} {P : Program} {w : World} {K : PySem.W.Frag} {mg : Str → Option Value} {base : Heap} {k : Nat} {f : Addr} {name qual : Str} {params : Arguments} {body : List Stmt} {scope : Scope} {dV kV doc pm cdv ct oc : Value} {an od : Option Addr}
  {osl : Array (Option Value)} {N ps : List Str} {sp : Sp} (lk : K.lookup f = some ⟨oc,od,.func (PySem.W.fnOf name qual params body scope dV kV doc pm an cdv ct),osl⟩) (hcd : PySem.W.codeIn K cdv qual = true) (S : E2 N ps scope)
  (len : ∀ vs H Q E,sp vs H Q E → vs.length = ps.length)
  (hbody : ∀ (A : Around) (outer : List Env) (s : Shared) (H : Hp) (vs : List V) (Q : VK) (E : XK),Room k (A.deeper (envOfC qual scope s.heap.objs.size f cdv)) → sp vs H Q E →
   ∃ t,PSs (Z0 CX P w K mg base N qual scope f cdv A outer s H E) body t ∧ t { nx := fun _ H'=>Q .non H',rt := Q } (start N vs) H) :
  FnOk P w K mg base CX (k + 1) f (PySem.W.fnOf name qual params body scope dV kV doc pm an cdv ct) ps sp := by
 refine ⟨len,fun A outer s H args us vs Q E hr e0 hb r hsp=>?_⟩
 have hl := len _ _ _ _ hsp
 have KX : K.In s.heap := e0.mod.kin.keeps fun b o e=>(e0.bs b o e).1
 have lim : s.heap.NoLimit := e0.mod.nolimit.keeps fun b o e=>(e0.bs b o e).1
 have hkind : ∀ y ∈ ps.zip us,scope.names.lookup y.1 = some .local ∨ (scope.names.lookup y.1 = some .cell ∧ ((cellsFrom (s.heap.objs.size + 1) scope.names []).lookup y.1).isSome = true) := fun ⟨n,v⟩ hy=>by
  rcases S.par n (List.of_mem_zip hy).1 with q | q
  ·exact .inl q
  ·exact .inr ⟨q,PySem.W.cellsFrom_some _ _ _ (.inl q)⟩
 refine codeAny_call_function hr.depth (KX _ _ lk) rfl S.co S.gen rfl (PySem.W.codeRec_of KX hcd) (hb _ _ _ _ ?_)
 refine wpAny_newFunctionEnv_cells S.kind hkind fun env he s1 x=>?_
 subst he
 refine ⟨lim.keeps x.toInCall.keep,codeAny_func ?_⟩
 obtain ⟨t,ht,hq⟩ := hbody A outer s H vs Q E (hr.deeper _) hsp
 have I : Inv (Z0 CX P w K mg base N qual scope f cdv A outer s H E) [] (start N vs) H s1 := yV S hr.hd e0 hl r x
 refine wpAny_mono (ht [] s1 (start N vs) H _ I hq) (fun fl s' hs=>?_) fun e s' hs=>hs
 have fin : ∀ {σ' : St} {H' : Hp} {v : V} {u : Value},Inv (Z0 CX P w K mg base N qual scope f cdv A outer s H E) [] σ' H' s' → RelV v u → Q v H' → CE outer P w H s Q u s' :=
  fun {σ' H' v u} J rv q=>⟨v,H',J.os,J.bare,J.base,J.hok,rv,q⟩
 cases fl with
 | ret u =>
  obtain ⟨v,σ',H',J,rv,q⟩ := hs
  exact fin J rv q
 | next =>
  obtain ⟨σ',H',J,q⟩ := hs
  exact fin (v := V.non) (u := Value.none) J rfl q
 | brk =>
  obtain ⟨_,_,_,q⟩ := hs
  exact False.elim q
 | cont =>
  obtain ⟨_,_,_,q⟩ := hs
  exact False.elim q
end L2
namespace L2
open PySem PySem.Spec PyProof.Rows
section
variable {X : Cx} {x : Str} {p pos : Pos} {e : Expr} {es : List Expr} {t : TA} {id T : String} {r : List V → Hp → VK → Prop}
def tCB (r : List V → Hp → VK → Prop) (t : TA) : TE := fun σ H Q=>t σ H fun vs H1=>r vs H1 Q
theorem E7 (hc : U2 X (.builtin id) r) (hg : Gl X x) (hm : X.mg x = none) (hv : bootBuiltins x = some (.builtin id)) (ha : PA X (e :: es) t) (hn : x ≠ "__name__" := by decide) (hdb : (x == ("__debug__" : Str)) = false := by decide)
  (he : starEach (e :: es) X.env = (false,eval e X.env) :: starEach es X.env := by rfl) (hpl : (backTo pos (starEach es X.env)).any (·.1) = false := by rfl) : PE X (.Call (.Name x p) (e :: es) [] pos) (tCB r t) := by
 intro pins s σ H Q I h
 refine wpAny_Call_Name_kw (fV I hg hm hv ?_ hn hdb)
 exact PyProof.Rows.callWith_builtin1 (G0 (ha pos pins s σ H _ I h) fun us s1 ⟨vs,H1,I1,r1,q1⟩=>hc pins s1 σ H1 vs us Q I1 r1 q1) he hpl
theorem J0 (hc : U2 X (.type T) r) (hg : Gl X x) (hm : X.mg x = none) (hv : bootBuiltins x = some (.type T)) (ha : PA X (e :: es) t) (hn : x ≠ "__name__" := by decide) (hdb : (x == ("__debug__" : Str)) = false := by decide)
  (he : starEach (e :: es) X.env = (false,eval e X.env) :: starEach es X.env := by rfl) (hpl : (backTo pos (starEach es X.env)).any (·.1) = false := by rfl) : PE X (.Call (.Name x p) (e :: es) [] pos) (tCB r t) := by
 intro pins s σ H Q I h
 refine wpAny_Call_Name_kw (fV I hg hm hv ?_ hn hdb)
 exact PyProof.Rows.callWith_type1 (G0 (ha pos pins s σ H _ I h) fun us s1 ⟨vs,H1,I1,r1,q1⟩=>hc pins s1 σ H1 vs us Q I1 r1 q1) he hpl
end
end L2
namespace HT
open PySem PyProof.Rows
section
open PySem.SeqAt
open PySem.AutoSeq1 (wpAny_loadPart')
open PySem.MeetsSeq PySem.MeetsSeq2 PySem.MeetsSeq3
end
section
variable {prog : Program} {w : World} {A : Around} {E : Value → Shared → Prop} {s : Shared}
def sIx (n d : Nat) : Option Int → Nat
 | none=>d
 | some v=>if v < 0 then (v + (n : Int)).toNat else min v.toNat n
theorem sIx_none (n d : Nat) : sIx n d none = d := rfl
theorem sIx_nat (n d k : Nat) : sIx n d (some (k : Int)) = min k n := by
 show (if (k : Int) < 0 then ((k : Int) + (n : Int)).toNat else min (k : Int).toNat n) = min k n
 rw [if_neg (by omega),Int.toNat_natCast]
end
end HT
namespace L2
open PySem PySem.Spec PyProof.Rows
abbrev TO := St → Hp → (Option Int → Hp → Prop) → Prop
def PO (X : Cx) (e : Option Expr) (t : TO) : Prop :=
 ∀ (pins : List (Addr × Obj)) (s : Shared) (σ : St) (H : Hp) (Q : Option Int → Hp → Prop),Inv X pins σ H s → t σ H Q →
  wpAny (model X.prog X.w) X.A (evalPart e X.env) (fun u s'=>∃ o H',Inv X pins σ H' s' ∧ IsPart u o ∧ Q o H') X.xe s
def AK9 : TO := fun _ H Q=>Q none H
def AZ8 (t : TE) : TO := fun σ H Q=>t σ H fun x H1=>∃ i,x = .int i ∧ Q (some i) H1
section
variable {X : Cx} {e : Expr} {te : TE} {lo hi : Option Expr} {tl th : TO} {pos p2 : Pos}
theorem Z6 : PO X none AK9 := by
 intro pins s σ H Q I h
 rw [evalPart_none]
 exact wpAny_pure ⟨none,H,I,.none,h⟩
theorem N6 (h : PE X e te) : PO X (some e) (AZ8 te) := by
 intro pins s σ H Q I hw
 rw [evalPart_some]
 refine G0 (h pins s σ H _ I hw) fun u s1 ⟨x,H1,I1,r1,q1⟩=>?_
 obtain ⟨i,rfl,q⟩ := q1
 obtain ⟨t,rfl⟩ := r1
 exact ⟨some i,H1,I1,.int i t,q⟩
def SlR (X : Cx) (r : V → Option Int → Option Int → Hp → VK → Prop) : Prop :=
 ∀ (pins : List (Addr × Obj)) (s : Shared) (σ : St) (H : Hp) (x : V) (v vl vu : Value) (lo hi : Option Int) (sl : Addr) (Q : VK),Inv X pins σ H s → RelV x v → s.heap.IsSliceOf sl vl vu .none → IsPart vl lo → IsPart vu hi → r x lo hi H Q →
  ∃ T id,typeLookup (.type T) "__getitem__" = pure (some (.builtin id)) ∧ s.TypeIs v T ∧ wpAny (model X.prog X.w) X.A (getItem v (.ref sl)) (EP X pins σ Q) X.xe s
def tSl (r : V → Option Int → Option Int → Hp → VK → Prop) (te : TE) (tl th : TO) : TE := fun σ H Q=>te σ H fun x H1=>tl σ H1 fun l H2=>th σ H2 fun u H3=>r x l u H3 Q
theorem P1 {r : V → Option Int → Option Int → Hp → VK → Prop} (hr : SlR X r) (he : PE X e te) (hl : PO X lo tl) (hu : PO X hi th) : PE X (.Subscript e (.Slice lo hi none p2) pos) (tSl r te tl th) := by
 intro pins s σ H Q I h
 refine Subscript_ (G0 (he pins s σ H _ I h) fun v s1 ⟨x,H1,I1,r1,q1⟩=>?_)
 refine wpAny_Slice (G0 (hl pins s1 σ H1 _ I1 q1) fun vl s2 ⟨l,H2,I2,pl,q2⟩=>G0 (hu pins s2 σ H2 _ I2 q2) fun vu s3 ⟨u,H3,I3,pu,q3⟩=>?_)
 rw [evalPart_none]
 refine wpAny_pure ?_
 have I4 : Inv X pins σ H3 { s3 with heap := s3.heap.push { cls := .type "slice",data := .fields #[vl,vu,.none] } } := I3.kept (t' := s3.toks) fun b ob q=>Heap.get?_push_of_some _ q
 obtain ⟨T,id,hT,ht,hg⟩ := hr pins { s3 with heap := s3.heap.push { cls := .type "slice",data := .fields #[vl,vu,.none] } } σ H3 x v vl vu l u s3.heap.objs.size Q I4 r1 (Heap.IsSliceOf.new ..) pl pu q3
 show wpAny (model X.prog X.w) X.A (subscriptTail e (.Slice lo hi none p2) v (.ref s3.heap.objs.size)) (EP X pins σ Q) X.xe { s3 with heap := s3.heap.push { cls := .type "slice",data := .fields #[vl,vu,.none] } }
 exact tail_any (ops := [.ref s3.heap.objs.size,v]) ht hT hg (by with_unfolding_all rfl)
def cY (xs : List V) (lo hi : Option Int) : List V := (xs.drop (HT.sIx xs.length 0 lo)).take (HT.sIx xs.length xs.length hi - HT.sIx xs.length 0 lo)
theorem kL (xs : List V) (lo hi : Option Int) : (cY xs lo hi).length ≤ xs.length := by
 unfold cY
 rw [List.length_take,List.length_drop]
 omega
end
end L2
namespace L2
open PySem PySem.Spec PyProof.Rows
def iX (n : Nat) (i : Int) : Option Nat := if 0 ≤ i then (if i < n then some i.toNat else none) else if -(n : Int) ≤ i then some (i + n).toNat else none
def aK {α : Type} (xs : List α) (i : Int) : Option α := (iX xs.length i).bind fun j=>xs[j]?
theorem uV {n : Nat} {i : Int} {j : Nat} (h : iX n i = some j) : seqIndex? i n = some j ∧ j < n ∧ -(n : Int) ≤ i ∧ i < n := by
 unfold iX at h
 by_cases h0 : 0 ≤ i
 ·rw [if_pos h0] at h
  by_cases h1 : i < n
  ·rw [if_pos h1] at h
   have e : i.toNat = j := Option.some.inj h
   exact ⟨by rw [seqIndex_of h0 h1,e],by omega,by omega,h1⟩
  ·rw [if_neg h1] at h; cases h
 ·rw [if_neg h0] at h
  by_cases h1 : -(n : Int) ≤ i
  ·rw [if_pos h1] at h
   have e : (i + n).toNat = j := Option.some.inj h
   exact ⟨by rw [seqIndex_neg (by omega) h1,e],by omega,h1,by omega⟩
  ·rw [if_neg h1] at h; cases h
theorem oM {α : Type} {xs : List α} {i : Int} {v : α} (h : aK xs i = some v) : ∃ j,seqIndex? i xs.length = some j ∧ xs[j]? = some v ∧ j < xs.length ∧ -(xs.length : Int) ≤ i ∧ i < xs.length := by
 unfold aK at h
 cases e : iX xs.length i with
 | none=>rw [e] at h; cases h
 | some j =>
  rw [e] at h
  obtain ⟨h1,h2,h3,h4⟩ := uV e
  exact ⟨j,h1,h,h2,h3,h4⟩
theorem K8 {α : Type} {xs : List α} {j : Nat} {v : α} (h : xs[j]? = some v) : aK xs (j : Int) = some v := by
 have hj : j < xs.length := (List.getElem?_eq_some_iff.mp h).1
 have e : iX xs.length (j : Int) = some j := by
  unfold iX
  rw [if_pos (by omega),if_pos (by omega)]; simp
 unfold aK; rw [e]; exact h
theorem AH0 {α : Type} (xs : List α) (v : α) : aK (xs ++ [v]) (-1) = some v := by
 have hl : (xs ++ [v]).length = xs.length + 1 := by simp
 have e : iX (xs ++ [v]).length (-1) = some xs.length := by
  unfold iX
  rw [hl,if_neg (by decide),if_pos (by omega)]
  congr 1
  omega
 unfold aK
 rw [e]
 show (xs ++ [v])[xs.length]? = some v
 simp
def AQ0 (b : Expr) : Prop := ∀ o i,subscripted b false o i = operate [o,i] (getItem o i)
def zV (X : Cx) (r : R2) : Prop :=
 ∀ (value slice : Expr) (pins : List (Addr × Obj)) (s : Shared) (σ : St) (H : Hp) (x y : V) (v u : Value) (Q : VK),Inv X pins σ H s → RelV x v → RelV y u → r x y H Q →
  subscripted slice false v u = operate [v,u] (getItem v u) → wpAny (model X.prog X.w) X.A (subscriptTail value slice v u) (EP X pins σ Q) X.xe s
def MtR (X : Cx) (id : String) (r : V → List V → Hp → VK → Prop) : Prop :=
 ∀ (pins : List (Addr × Obj)) (s : Shared) (σ : St) (H : Hp) (x : V) (xs : List V) (v : Value) (us : List Value) (Q : VK),Inv X pins σ H s → RelV x v → Vals xs us → r x xs H Q →
  wpAny (model X.prog X.w) X.A (call (.builtin id) (v :: us)) (EP X pins σ Q) X.xe s
section
variable {X : Cx} {a b : Expr} {ta tb : TE} {pos : Pos}
theorem G7 {r : R2} (hr : zV X r) (ha : PE X a ta) (hb : PE X b tb) (hs : AQ0 b) : PE X (.Subscript a b pos) (tU r ta tb) := by
 intro pins s σ H Q I h
 exact Subscript_ (AG6 ha hb I h fun v u s2 x y H2 I2 rx ry q=>hr a b pins s2 σ H2 x y v u Q I2 rx ry q (hs _ _))
def BF6 (K : PySem.W.Frag) : R2 := fun x y H Q=>∃ p xs i v,x = .ref p ∧ y = .int i ∧ SqL K H p xs ∧ aK xs i = some v ∧ Q v H
def AS3 (K : PySem.W.Frag) : R2 := fun x y H Q=>∃ p xs i v,x = .ref p ∧ y = .int i ∧ SqT K H p xs ∧ aK xs i = some v ∧ Q v H
def BF5 : R2 := fun x y H Q=>∃ z i c,x = .str z ∧ y = .int i ∧ z.length ≤ sizeLine ∧ aK z.cps.toList i = some c ∧ Q (.str ⟨#[c]⟩) H
theorem O3 : zV X (BF6 X.K) := by
 intro value slice pins s σ H x y v u Q I rx ry h hs
 obtain ⟨p,xs,i,z,rfl,rfl,hq,he,q⟩ := h
 cases rx
 obtain ⟨t,rfl⟩ := ry
 obtain ⟨its,r,pl,hz⟩ := I.list hq
 obtain ⟨j,h1,h2,h3,h4,h5⟩ := oM he
 obtain ⟨w,ew,rw'⟩ := r.get h2
 have hl := r.length
 have hn := fT
 have fin : EP X pins σ Q w s := ⟨z,H,I,rw',q⟩
 by_cases h0 : 0 ≤ i
 ·have hj : i.toNat = j := by
   rw [seqIndex_of h0 h5] at h1
   exact Option.some.inj h1
  exact item_listR pl.isList h0 (by omega) (by rw [hj]; simpa using ew) fin hs
 ·have hj : (i + (its.toArray.size : Int)).toNat = j := by
   rw [seqIndex_neg (by omega) h4] at h1
   rw [List.size_toArray,← hl]
   exact Option.some.inj h1
  exact subscriptTail_builtinR (x := w) pl.isList.typeIs slot_list_getitem.lookup
   (wpAny_getItem_list_neg (Q := fun r s'=>r = w ∧ EP X pins σ Q r s') pl.isList (by omega) (by rw [List.size_toArray] <;> omega) (by omega) (by rw [hj]; simpa using ew) ⟨rfl,fin⟩) hs
theorem O8 : zV X (AS3 X.K) := by
 intro value slice pins s σ H x y v u Q I rx ry h hs
 obtain ⟨p,xs,i,z,rfl,rfl,hq,he,q⟩ := h
 cases rx
 obtain ⟨t,rfl⟩ := ry
 obtain ⟨its,r,pl,hz⟩ := I.tuple hq
 obtain ⟨j,h1,h2,h3,h4,h5⟩ := oM he
 obtain ⟨w,ew,rw'⟩ := r.get h2
 have hl := r.length
 have hn := fT
 have fin : EP X pins σ Q w s := ⟨z,H,I,rw',q⟩
 exact subscriptTail_builtinR (x := w) pl.typeIs slot_tuple_getitem.lookup
  (getItem_tuple (j := j) (Q := fun r s'=>r = w ∧ EP X pins σ Q r s') pl (by omega) (by omega) (by rw [List.size_toArray,← hl]; exact h1) (by simpa using ew) ⟨rfl,fin⟩) hs
theorem aG : zV X BF5 := by
 intro value slice pins s σ H x y v u Q I rx ry h hs
 obtain ⟨z,i,c,rfl,rfl,hz,he,q⟩ := h
 obtain ⟨t,rfl⟩ := rx
 obtain ⟨t',rfl⟩ := ry
 obtain ⟨j,h1,h2,h3,h4,h5⟩ := oM he
 have hl : z.cps.toList.length = z.length := by simp [Str.length]
 rw [hl] at h1 h4 h5
 have hn := fT
 exact tail_any (typeIs_str s z t) slot_str_getitem.lookup (getItem_str (c := c) (by
  have e1 : decide (i < -(2 ^ 63 : Int)) = false := decide_eq_false (by omega)
  have e2 : decide (i ≥ 2 ^ 63) = false := decide_eq_false (by omega)
  rw [e1,e2,Bool.or_false]) (by rw [h1]; simpa using h2) ⟨.str ⟨#[c]⟩,H,I.tok _,⟨_,rfl⟩,q⟩) hs
theorem wN (its : List Value) (n j : Nat) (u : Value) : Obj.mapSeq (·.setIfInBounds j u) { cls := .type "list",data := .seq its.toArray n } = { cls := .type "list",data := .seq (its.set j u).toArray n } := by
 simp [Obj.mapSeq]
theorem Inv.lst {pins : List (Addr × Obj)} {σ : St} {H : Hp} {s : Shared} {p : Addr} {xs : List V} (I : Inv X pins σ H s) (h : H p = some (.lst xs)) :
  ∃ (its : List Value) (n : Nat),Vals xs its ∧ s.heap.get? p = some { cls := .type "list",data := .seq its.toArray n } ∧ xs.length ≤ sizeLine := by
 obtain ⟨z,its,n,r,e⟩ := I.hok p _ h
 exact ⟨its,n,r,e,z⟩
theorem Inv.lstUpd {pins : List (Addr × Obj)} {σ : St} {H : Hp} {s : Shared} {p : Addr} {xs ys : List V} {its its' : List Value} {n n' : Nat} {f : Obj → Obj} (I : Inv X pins σ H s) (h : H p = some (.lst xs))
  (ho : s.heap.get? p = some { cls := .type "list",data := .seq its.toArray n }) (hf : f { cls := .type "list",data := .seq its.toArray n } = { cls := .type "list",data := .seq its'.toArray n' }) (r : Vals ys its') (hz : ys.length ≤ sizeLine) (t : Nat) :
  Inv X pins σ (D5 H p (.lst ys)) { s with heap := s.heap.update p f,toks := t } := by
 have e : (s.heap.update p f).get? p = some { cls := .type "list",data := .seq its'.toArray n' } := by
  rw [Heap.get?_update_self f ho (by rw [hf] <;> rfl),hf]
 refine I.write (x := p) (e := p) (by rw [h]; trivial) (.inl rfl) (fun b u hb q=>(Heap.get?_update_other _ _ (Ne.symm hb)).trans q) ⟨_,e⟩ ?_
 exact ⟨hz,its',n',r,e⟩
def BA6 : V → V → V → Hp → (Hp → Prop) → Prop := fun o i v H Q=>∃ p xs k j,o = .ref p ∧ i = .int k ∧ H p = some (.lst xs) ∧ iX xs.length k = some j ∧ Q (D5 H p (.lst (xs.set j v)))
theorem rO : AY5 X BA6 := by
 intro pins s σ H o i v ov iv u Q I ro ri rv h
 obtain ⟨p,xs,k,j,rfl,rfl,hp,hj,q⟩ := h
 cases ro
 obtain ⟨t,rfl⟩ := ri
 obtain ⟨its,n,r,ho,hz⟩ := I.lst hp
 obtain ⟨h1,h2,h3,h4⟩ := uV hj
 have hl := r.length
 have hn := fT
 have I' : Inv X pins σ (D5 H p (.lst (xs.set j v))) { s with heap := s.heap.update p (Obj.mapSeq (·.setIfInBounds j u)) } :=
  I.lstUpd hp ho (wN its n j u) (r.set rv j) (by rw [List.length_set]; exact hz) s.toks
 by_cases h0 : 0 ≤ k
 ·have hk : k.toNat = j := by
   rw [seqIndex_of h0 h4] at h1
   exact Option.some.inj h1
  exact PySem.W.ki_setAt ho h0 (by omega) (by rw [List.size_toArray,← hl]; exact h4) (by rw [hk]; exact ⟨_,I',q⟩)
 ·have hk : (k + (its.toArray.size : Int)).toNat = j := by
   rw [seqIndex_neg (by omega) h3] at h1
   rw [List.size_toArray,← hl]
   exact Option.some.inj h1
  exact PySem.W.ki_setBack ho (by omega) (by rw [List.size_toArray,← hl]; exact h3) (by omega) (by rw [hk]; exact ⟨_,I',q⟩)
theorem rN (lo hi : Option Int) (n : Nat) : (sliceBounds lo hi none n).1 = ((HT.sIx n 0 lo : Nat) : Int) ∧ (sliceBounds lo hi none n).2.1 = ((HT.sIx n n hi : Nat) : Int) ∧ (sliceBounds lo hi none n).2.2 = 1 := by
 refine ⟨?_,?_,rfl⟩
 ·cases lo with
  | none=>simp [sliceBounds,HT.sIx]
  | some i =>
   simp only [sliceBounds,HT.sIx,Option.getD_none,show (1 : Int) > 0 by decide,if_true]
   by_cases h : i < 0
   ·simp only [h,if_true] <;> omega
   ·simp only [h,if_false] <;> omega
 ·cases hi with
  | none=>simp [sliceBounds,HT.sIx]
  | some i =>
   simp only [sliceBounds,HT.sIx,Option.getD_none,show (1 : Int) > 0 by decide,if_true]
   by_cases h : i < 0
   ·simp only [h,if_true] <;> omega
   ·simp only [h,if_false] <;> omega
theorem qA (its : List Value) (lo hi : Option Int) : slicePick its.toArray lo hi none = ((its.drop (HT.sIx its.length 0 lo)).take (HT.sIx its.length its.length hi - HT.sIx its.length 0 lo)).toArray := by
 obtain ⟨h1,h2,h3⟩ := rN lo hi its.toArray.size
 unfold slicePick
 rw [h1,h2,h3]
 simp only [sliceRange_one,pick_run,List.size_toArray] <;> rfl
def BF4 (K : PySem.W.Frag) : V → Option Int → Option Int → Hp → VK → Prop := fun x lo hi H Q=>∃ a xs,x = .ref a ∧ SqL K H a xs ∧ ∀ p,H p = none → Q (.ref p) (D5 H p (.lst (cY xs lo hi)))
theorem fA : SlR X (BF4 X.K) := by
 intro pins s σ H x v vl vu lo hi sl Q I rx hs pl pu h
 obtain ⟨a,xs,rfl,hx,q⟩ := h
 cases rx
 obtain ⟨its,r,ht,hz⟩ := I.list hx
 have hlen := r.length
 refine ⟨"list",_,slot_list_getitem.lookup,ht.isList.typeIs,?_⟩
 refine wpAny_getItem_list_slice ht.isList hs pl pu .none (by simp) ?_ (by rw [List.size_toArray] <;> omega)
 rw [qA,← hlen]
 refine ⟨.ref s.heap.objs.size,_,I.laid (t' := s.toks) (o := .lst (cY xs lo hi)) (fun b ob q=>Heap.get?_push_of_some _ q) (Nat.le_refl _) ?_,rfl,q _ (I.hok.fresh (Nat.le_refl _))⟩
 exact ⟨Nat.le_trans (kL xs lo hi) hz,_,0,(r.drop (HT.sIx xs.length 0 lo)).take (HT.sIx xs.length xs.length hi - HT.sIx xs.length 0 lo),Heap.get?_push_size _ rfl⟩
def bS : V → Bool
 | .non=>true
 | .bl _=>true
 | .int _=>true
 | .str _=>true
 | _=>false
def pR : V → V → Bool
 | .non,.non=>true
 | .bl a,.bl b=>a == b
 | .bl a,.int b=>(if a then 1 else 0) == b
 | .int a,.bl b=>a == (if b then 1 else 0)
 | .int a,.int b=>a == b
 | .str a,.str b=>a == b
 | _,_=>false
theorem AX2 {A : Around} {s : Shared} {y x : V} {u v : Value} (ry : RelV y u) (rx : RelV x v) (fy : bS y = true) (fx : bS x = true) : SeqAt.EqAt A s u v (pR y x) := by
 cases y with
 | non =>
  cases ry
  cases x with
  | non=>cases rx; exact SeqAt.EqAt.same _
  | bl b=>cases rx; exact SeqAt.EqAt.none_bool b
  | int b=>obtain ⟨t,rfl⟩ := rx; exact SeqAt.EqAt.none_int b t
  | str b=>obtain ⟨t,rfl⟩ := rx; exact SeqAt.EqAt.none_str b t
  | _=>exact absurd (show false = true from fx) Bool.false_ne_true
 | bl a =>
  cases ry
  cases x with
  | non=>cases rx; exact SeqAt.EqAt.bool_none a
  | bl b=>cases rx; exact SeqAt.EqAt.bool_bool a b
  | int b=>obtain ⟨t,rfl⟩ := rx; exact SeqAt.EqAt.bool_int a b t
  | str b=>obtain ⟨t,rfl⟩ := rx; exact SeqAt.EqAt.bool_str a b t
  | _=>exact absurd (show false = true from fx) Bool.false_ne_true
 | int a =>
  obtain ⟨t',rfl⟩ := ry
  cases x with
  | non=>cases rx; exact SeqAt.EqAt.int_none a t'
  | bl b=>cases rx; exact SeqAt.EqAt.int_bool a t' b
  | int b=>obtain ⟨t,rfl⟩ := rx; exact SeqAt.EqAt.int_int a t' b t
  | str b=>obtain ⟨t,rfl⟩ := rx; exact SeqAt.EqAt.int_str a t' b t
  | _=>exact absurd (show false = true from fx) Bool.false_ne_true
 | str a =>
  obtain ⟨t',rfl⟩ := ry
  cases x with
  | non=>cases rx; exact SeqAt.EqAt.str_none a t'
  | bl b=>cases rx; exact SeqAt.EqAt.str_bool a t' b
  | int b=>obtain ⟨t,rfl⟩ := rx; exact SeqAt.EqAt.str_int a t' b t
  | str b=>obtain ⟨t,rfl⟩ := rx; exact SeqAt.EqAt.str_str a t' b t
  | _=>exact absurd (show false = true from fx) Bool.false_ne_true
 | _=>exact absurd (show false = true from fy) Bool.false_ne_true
def cX (x : V) (u : Value) : Bool := match u with
 | .none=>pR .non x
 | .bool b=>pR (.bl b) x
 | .int i _=>pR (.int i) x
 | .str z _=>pR (.str z) x
 | _=>false
theorem zE {x y : V} {u : Value} (r : RelV y u) (f : bS y = true) : cX x u = pR y x := by
 cases y with
 | non=>cases r; rfl
 | bl b=>cases r; rfl
 | int i=>obtain ⟨t,rfl⟩ := r; rfl
 | str z=>obtain ⟨t,rfl⟩ := r; rfl
 | _=>exact absurd (show false = true from f) Bool.false_ne_true
theorem fY {x : V} : ∀ {xs : List V} {us : List Value},Vals xs us → xs.all bS = true → us.any (cX x) = xs.any fun y=>pR y x
 | _,_,.nil,_=>rfl
 | y :: xs,u :: us,.cons r t,f=>by
  rw [List.all_cons,Bool.and_eq_true] at f
  rw [List.any_cons,List.any_cons,zE r f.1,fY t f.2]
theorem cQ {A : Around} {s : Shared} {x : V} {v : Value} (rx : RelV x v) (fx : bS x = true) : ∀ {xs : List V} {us : List Value},Vals xs us → xs.all bS = true → ∀ u ∈ us,SeqAt.EqAt A s u v (cX x u)
 | _,_,.nil,_=>fun u hu=>by cases hu
 | y :: xs,u :: us,.cons r t,f=>fun u' hu=>by
  rw [List.all_cons,Bool.and_eq_true] at f
  rcases List.mem_cons.mp hu with rfl | hu
  ·rw [zE r f.1]; exact AX2 r rx f.1 fx
  ·exact cQ rx fx t f.2 u' hu
def cV (x : V) (xs : List V) : Bool := xs.any fun y=>pR y x
def rIn (K : PySem.W.Frag) (neg : Bool) : R2 := fun x y H Q=>∃ p xs,y = .ref p ∧ (SqL K H p xs ∨ SqT K H p xs) ∧ bS x = true ∧ xs.all bS = true ∧ Q (.bl (if neg then !cV x xs else cV x xs)) H
theorem iS : T2 X (compareOp .In) (rIn X.K false) := by
 intro pins s σ H x y v u Q I rx ry h
 obtain ⟨p,xs,rfl,hq,fx,fs,q⟩ := h
 cases ry
 rcases hq with hq | hq
 ·obtain ⟨its,r,pl,hz⟩ := I.list hq
  refine SeqAt.in_listAt (cX x) pl.isList (fun w hw=>cQ rx fx r fs w (by simpa using hw)) ⟨.bl _,H,I,rfl,?_⟩
  rw [show its.toArray.any (cX x) = its.any (cX x) by simp,fY r fs]
  exact q
 ·obtain ⟨its,r,pl,hz⟩ := I.tuple hq
  refine SeqAt.in_tupleAt (cX x) pl (fun w hw=>cQ rx fx r fs w (by simpa using hw)) ⟨.bl _,H,I,rfl,?_⟩
  rw [show its.toArray.any (cX x) = its.any (cX x) by simp,fY r fs]
  exact q
theorem cP : T2 X (compareOp .NotIn) (rIn X.K true) := by
 intro pins s σ H x y v u Q I rx ry h
 obtain ⟨p,xs,rfl,hq,fx,fs,q⟩ := h
 cases ry
 rcases hq with hq | hq
 ·obtain ⟨its,r,pl,hz⟩ := I.list hq
  refine SeqAt.notIn_listAt (cX x) pl.isList (fun w hw=>cQ rx fx r fs w (by simpa using hw)) ⟨.bl _,H,I,rfl,?_⟩
  rw [show its.toArray.any (cX x) = its.any (cX x) by simp,fY r fs]
  exact q
 ·obtain ⟨its,r,pl,hz⟩ := I.tuple hq
  refine SeqAt.notIn_tupleAt (cX x) pl (fun w hw=>cQ rx fx r fs w (by simpa using hw)) ⟨.bl _,H,I,rfl,?_⟩
  rw [show its.toArray.any (cX x) = its.any (cX x) by simp,fY r fs]
  exact q
theorem M2 : U2 X (.builtin "len") (fun xs H Q=>∃ p ys,xs = [.ref p] ∧ (SqL X.K H p ys ∨ SqT X.K H p ys) ∧ Q (.int ys.length) H) := by
 intro pins s σ H xs us Q I r h
 obtain ⟨p,ys,rfl,hq,q⟩ := h
 obtain ⟨u,rfl,rx⟩ := gA r
 cases rx
 have hn := fT
 rcases hq with hq | hq
 ·obtain ⟨its,r',pl,hz⟩ := I.list hq
  have hlen := r'.length
  exact Calls.call_len_list pl.isList (by simp only [List.size_toArray] <;> omega) ⟨.int ys.length,H,I.tok _,⟨s.toks + 1,by rw [List.size_toArray,hlen]⟩,q⟩
 ·obtain ⟨its,r',pl,hz⟩ := I.tuple hq
  have hlen := r'.length
  exact len_tuple pl (by simp only [List.size_toArray] <;> omega) ⟨.int ys.length,H,I.tok _,⟨s.toks + 1,by rw [List.size_toArray,hlen]⟩,q⟩
theorem U8 : U2 X (.builtin "len") (fun xs H Q=>∃ z,xs = [.str z] ∧ z.length ≤ sizeLine ∧ Q (.int z.length) H) := by
 intro pins s σ H xs us Q I r h
 obtain ⟨z,rfl,hz,q⟩ := h
 obtain ⟨u,rfl,t,rfl⟩ := gA r
 have hn := fT
 exact len_str (by omega) ⟨.int z.length,H,I.tok _,⟨_,rfl⟩,q⟩
theorem K3 : U2 X (.type "tuple") (fun xs H Q=>∃ p ys,xs = [.ref p] ∧ ((SqL X.K H p ys ∧ ∀ l,H l = none → Q (.ref l) (D5 H l (.tup ys))) ∨ (SqT X.K H p ys ∧ Q (.ref p) H))) := by
 intro pins s σ H xs us Q I r h
 obtain ⟨p,ys,rfl,h⟩ := h
 obtain ⟨u,rfl,rx⟩ := gA r
 cases rx
 rcases h with ⟨hq,q⟩ | ⟨hq,q⟩
 ·obtain ⟨its,r',pl,hz⟩ := I.list hq
  have hlen := r'.length
  refine call_tuple_list pl.isList (fun h' kp=>?_) (by simp only [List.size_toArray] <;> omega)
  have I1 : Inv X pins σ H { s with heap := h' } := I.kept (t' := s.toks) kp
  have I2 : Inv X pins σ (D5 H h'.objs.size (.tup ys)) { s with heap := h'.push { cls := .type "tuple",data := .seq its.toArray } } :=
   I1.laid (t' := s.toks) (fun b o e=>Heap.get?_push_of_some _ e) (Nat.le_refl _) (show ObjOk X.prog X.w _ _ _ (.tup ys) from ⟨hz,its,r',IsTup.new _ _⟩)
  exact ⟨.ref h'.objs.size,_,I2,rfl,q _ (I1.hok.fresh (Nat.le_refl _))⟩
 ·obtain ⟨its,r',pl,hz⟩ := I.tuple hq
  exact call_tuple_same pl ⟨.ref p,H,I,rfl,q⟩
def tyV (K : PySem.W.Frag) (T : String) (x : V) (H : Hp) : Prop := match x with
 | .str _=>T = "str"
 | .int _=>T = "int"
 | .ref p=>(T = "list" ∧ ∃ xs,SqL K H p xs) ∨ (T = "tuple" ∧ ∃ o,K.lookup p = some o ∧ o.cls = .type "tuple" ∧ o.dict = none) ∨
   (T = "dict" ∧ ((∃ kvs,H p = some (.dK kvs)) ∨ ∃ kvs,H p = some (.dT kvs))) ∨ (T = "set" ∧ ∃ S n,H p = some (.set S n))
 | _=>False
theorem xB {pins : List (Addr × Obj)} {σ : St} {H : Hp} {s : Shared} {T : String} {x : V} {v : Value} (I : Inv X pins σ H s) (r : RelV x v) (ty : tyV X.K T x H) :
  s.TypeIs v T ∧ ∀ a,v = .ref a → ∃ ob,s.heap.get? a = some ob ∧ ob.dict = none := by
 cases x with
 | str z =>
  obtain ⟨t,rfl⟩ := r
  cases (show T = "str" from ty)
  exact ⟨typeIs_str s z t,fun _ e=>nomatch e⟩
 | int i =>
  obtain ⟨t,rfl⟩ := r
  cases (show T = "int" from ty)
  exact ⟨typeIs_int s i t,fun _ e=>nomatch e⟩
 | ref p =>
  cases r
  rcases ty with ⟨rfl,xs,hq⟩ | ⟨rfl,o,hk,hc,hd⟩ | ⟨rfl,hk⟩ | ⟨rfl,S,n,hk⟩
  ·obtain ⟨its,_,pl,_⟩ := I.list hq
   refine ⟨pl.isList.typeIs,fun a e=>?_⟩
   cases e
   obtain ⟨o,n,e,c,hd,_⟩ := pl
   exact ⟨o,e,hd⟩
  ·refine ⟨⟨o,I.kIn p o hk,hc⟩,fun a e=>?_⟩
   cases e
   exact ⟨o,I.kIn _ o hk,hd⟩
  ·have z : ∃ o,s.heap.get? p = some o ∧ o.ExactDict := by
    rcases hk with ⟨kvs,hk⟩ | ⟨kvs,hk⟩
    ·obtain ⟨_,_,_,_,o,_,_,e,ex,_⟩ := I.hok p _ hk
     exact ⟨o,e,ex⟩
    ·obtain ⟨_,_,_,_,o,_,_,e,ex,_⟩ := I.hok p _ hk
     exact ⟨o,e,ex⟩
   obtain ⟨o,e,ex⟩ := z
   refine ⟨⟨o,e,ex.1⟩,fun a e2=>?_⟩
   cases e2
   exact ⟨o,e,ex.2.1⟩
  ·obtain ⟨o,_,_,_,e,ex,_⟩ := I.hok p _ hk
   refine ⟨⟨o,e,ex.1⟩,fun a e2=>?_⟩
   cases e2
   exact ⟨o,e,ex.2.1⟩
 | _=>exact False.elim ty
def BF0 (K : PySem.W.Frag) (T : String) (r : V → List V → Hp → VK → Prop) (to : TE) : TE := fun σ H Q=>to σ H fun x H1=>tyV K T x H1 ∧ r x [] H1 Q
def tBM (K : PySem.W.Frag) (T : String) (r : V → List V → Hp → VK → Prop) (to : TE) (t : TA) : TE := fun σ H Q=>to σ H fun x H1=>tyV K T x H1 ∧ t σ H1 fun xs H2=>r x xs H2 Q
variable {o e : Expr} {es : List Expr} {to : TE} {t : TA} {name : Str} {apos cpos : Pos} {T id : String} {r : V → List V → Hp → VK → Prop}
theorem xZ (pa : PlainAttrs T) (slot : Slot T name id) (hty : typeOf (.builtin id) = pure (.type "method_descriptor")) (hm : MtR X id r) (ho : PE X o to)
  (hbase : attributeBase o name X.env (eval o X.env) = eval o X.env := by rfl) (hline : (apos.endLine == cpos.line) = true := by rfl) : PE X (.Call (.Attribute o name apos) [] [] cpos) (BF0 X.K T r to) := by
 intro pins s σ H Q I h
 refine wpAny_Call_method0_late hbase hline (G0 (ho pins s σ H _ I h) fun v s1 ⟨x,H1,I1,r1,ty,q1⟩=>?_)
 obtain ⟨h1,h2⟩ := xB I1 r1 ty
 exact ⟨T,id,pa,slot,hty,h1,h2,Calls.callWith_builtin rfl (PySem.evalArgs_none (hm pins s1 σ H1 x [] v [] Q I1 r1 .nil q1))⟩
theorem O9 (pa : PlainAttrs T) (slot : Slot T name id) (hty : typeOf (.builtin id) = pure (.type "method_descriptor")) (hm : MtR X id r) (ho : PE X o to) (ha : PA X (e :: es) t)
  (hbase : attributeBase o name X.env (eval o X.env) = eval o X.env := by rfl)
  (hfew : ((backTo cpos (starEach (e :: es) X.env)).all (fun x=>!x.1) && (backToKw cpos (keywordEach [] X.env)).all (fun x=>x.1.isSome)
   && decide ((e :: es).length + ([] : List Keyword).length + (if ([] : List Keyword).isEmpty then 0 else 1) < 30)) = true := by rfl)
  (hline : (apos.endLine == cpos.line) = true := by rfl) (hs : starEach (e :: es) X.env = (false,eval e X.env) :: starEach es X.env := by rfl) (hplain : (backTo cpos (starEach es X.env)).any (·.1) = false := by rfl) :
  PE X (.Call (.Attribute o name apos) (e :: es) [] cpos) (tBM X.K T r to t) := by
 intro pins s σ H Q I h
 refine wpAny_Call_method_late hbase hfew hline rfl (G0 (ho pins s σ H _ I h) fun v s1 ⟨x,H1,I1,r1,ty,q1⟩=>?_)
 obtain ⟨h1,h2⟩ := xB I1 r1 ty
 refine ⟨T,id,pa,slot,hty,h1,h2,?_⟩
 have hA := ha cpos pins s1 σ H1 _ I1 q1
 rw [hs] at hA ⊢
 refine Calls.callWith_builtin (by show (false || (backTo cpos (starEach es X.env)).any (·.1)) = false; rw [hplain] <;> rfl) (Calls.evalArgs_plain ?_)
 exact G0 hA fun us s2 ⟨vs,H2,I2,r2,q2⟩=>hm pins s2 σ H2 x vs v us Q I2 r1 r2 q2
end
end L2
namespace L2
open PySem PySem.Spec PyProof.Rows
def MtM (X : Cx) (id : String) (r : V → List V → Hp → VK → Prop) : Prop :=
 ∀ (pins : List (Addr × Obj)) (s : Shared) (σ : St) (H : Hp) (x : V) (xs : List V) (v : Value) (us : List Value) (Q : VK),Inv X pins σ H s → RelV x v → Vals xs us → r x xs H Q →
  wpAny (model X.prog X.w) X.A (call (.builtin id) (v :: us)) (EP X pins σ Q) X.xe s
theorem Vals.one : ∀ {x : V} {us : List Value},Vals [x] us → ∃ u,us = [u] ∧ RelV x u
 | _,_,.cons r .nil=>⟨_,rfl,r⟩
section
variable {X : Cx} {pins : List (Addr × Obj)} {σ : St} {H : Hp} {s : Shared} {l b : Addr} {xs ys zs : List V}
theorem Inv.lset {its its' : List Value} {n : Nat} {f : Array Value → Array Value} {t' : Nat} (I : Inv X pins σ H s) (hH : H l = some (.lst xs))
  (e : s.heap.get? l = some { cls := .type "list",data := .seq its.toArray n }) (hf : f its.toArray = its'.toArray) (hv : Vals ys its') (hz : ys.length ≤ sizeLine) :
  Inv X pins σ (D5 H l (.lst ys)) { s with heap := s.heap.update l (Obj.mapSeq f),toks := t' } := by
 have q := PySem.IsL.update e f
 rw [hf] at q
 refine I.write (x := l) (e := l) (by rw [hH]; exact trivial) (.inl rfl) (fun b' u hb hu=>(Heap.get?_update_other s.heap (Obj.mapSeq f) (Ne.symm hb)).trans hu) ⟨_,q⟩ ?_
 exact ⟨hz,its',_,hv,q⟩
theorem Inv.lnew {its : List Value} {t' : Nat} (I : Inv X pins σ H s) (hv : Vals ys its) (hz : ys.length ≤ sizeLine) :
  Inv X pins σ (D5 H s.heap.objs.size (.lst ys)) { s with heap := s.heap.push { cls := .type "list",data := .seq its.toArray },toks := t' } :=
 I.laid (fun _ _ q=>Heap.get?_push_of_some _ q) (Nat.le_refl _) ⟨hz,its,0,hv,Heap.get?_push_size _ rfl⟩
theorem Inv.fresh (I : Inv X pins σ H s) : H s.heap.objs.size = none := I.hok.fresh (Nat.le_refl _)
theorem Inv.lstM (I : Inv X pins σ H s) (hH : H l = some (.lst xs)) : xs.length ≤ sizeLine ∧ ∃ (its : List Value) (n : Nat),Vals xs its ∧ xs.length = its.length ∧ s.heap.get? l = some { cls := .type "list",data := .seq its.toArray n } := by
 obtain ⟨z,its,n,r,e⟩ := I.hok l _ hH
 exact ⟨z,its,n,r,r.length,e⟩
theorem AD3 {n : Nat} (h : n ≤ sizeLine) : Builtin.List.listTooLong n = false := by
 unfold Builtin.List.listTooLong
 exact decide_eq_false (by omega)
end
section
variable {X : Cx}
def AL9 : V → List V → Hp → VK → Prop := fun x vs H Q=>∃ l xs y,x = .ref l ∧ vs = [y] ∧ H l = some (.lst xs) ∧ xs.length < sizeLine ∧ Q .non (D5 H l (.lst (xs ++ [y])))
theorem K4 : MtM X "list.append" AL9 := by
 intro pins s σ H x vs v us Q I rx rv h
 obtain ⟨l,xs,y,rfl,rfl,hH,hz,q⟩ := h
 cases rx
 obtain ⟨u,rfl,ru⟩ := rv.one
 obtain ⟨z,its,n,r,hl,e⟩ := I.lstM hH
 refine call_meets F.slot_list_append ⟨_,e,rfl⟩ F.entry_list_append (F.args_list_append_2 _ _) (PySem.list_append l its.toArray n u (by rw [List.size_toArray]; omega)) ⟨e,?_⟩
 refine ⟨.non,_,I.lset (its' := its ++ [u]) hH e (by simp) (r.append (.cons ru .nil)) ?_,rfl,q⟩
 rw [List.length_append,List.length_singleton]
 omega
def AS4 : R2 := fun x y H Q=>∃ l b xs zs,x = .ref l ∧ y = .ref b ∧ H l = some (.lst xs) ∧ H b = some (.lst zs) ∧ xs.length + zs.length ≤ sizeLine ∧ ∀ p,H p = none → Q (.ref p) (D5 H p (.lst (xs ++ zs)))
theorem P6 : T2 X (binaryOp .Add) AS4 := by
 intro pins s σ H x y v u Q I rx ry h
 obtain ⟨l,b,xs,zs,rfl,rfl,hH,hB,hz,q⟩ := h
 cases rx
 cases ry
 obtain ⟨z,its,n,r,hl,e⟩ := I.lstM hH
 obtain ⟨z2,its2,n2,r2,hl2,e2⟩ := I.lstM hB
 refine PySem.P.add_list e e2 ?_ (by rw [List.size_toArray,List.size_toArray]; omega)
 have ea : its.toArray ++ its2.toArray = (its ++ its2).toArray := by simp
 rw [ea]
 exact ⟨.ref _,_,I.lnew (t' := s.toks) (r.append r2) (by rw [List.length_append]; omega),rfl,q _ I.fresh⟩
end
section
variable {prog : Program} {w : World} {A : Around} {E : Value → Shared → Prop} {s : Shared}
end
section
variable {X : Cx}
end
end L2
namespace Att
open PySem PySem.W PySem.Calls PyProof.Rows
theorem mJ {P : Params} {h : Heap} : ∀ (ns : List Int) (vs : List Value),WellAll P h vs (ns.map WData.int) → IntsAre vs ns := by
 intro ns
 induction ns with
 | nil =>
  intro vs w
  rw [List.map_nil] at w
  cases w
  exact .nil
 | cons n ns ih =>
  intro vs w
  rw [List.map_cons] at w
  cases w with
  | cons a b =>
   cases a
   exact .cons _ _ (ih _ b)
theorem xH {l : OpenLaw} {n : Nat} (hn : l.most = some n) {P : Params} {h : Heap} {args : List WData} {vals : List Value}
  (hpre : l.row.toRowW.claim.pre args = true) (hwl : WellAll P h vals args) :
  ∃ a vs ns,vals = [Value.ref a] ∧ args = [WData.list (ns.map WData.int)] ∧ h.get? a = some { cls := .type "list",data := .seq vs.toArray } ∧ IntsAre vs ns ∧ ns.length ≤ n := by
 have hsh : WShape.hasAll [] args [.list .int] = true := (pre_splitW hpre).1
 have hc : l.pre.holds [] { args := args } = true := (pre_splitW hpre).2
 obtain ⟨d,r,rfl,h1,h2⟩ := hasAllW_cons hsh
 obtain rfl := hasAllW_nil h2
 obtain ⟨xs,rfl,h3⟩ := hasW_list h1
 obtain ⟨ns,rfl⟩ := items_int h3
 have hlen : ns.length ≤ n := by
  unfold OpenLaw.pre at hc
  have h4 : (WTm.not (.lt (.lit (.int (n : Int))) (.len (.arg 0)))).holds [] { args := [.list (ns.map .int)] } = true := by
   have h4 := (holds_andW hc).1
   rw [hn] at h4
   exact h4
  have h5 := condW_of h4 (w_not (w_lt w_lit (w_len_list (w_arg rfl))))
  rw [List.length_map] at h5
  refine Nat.le_of_not_lt fun q=>?_
  have q' : (n : Int) < ((ns.length : Nat) : Int) := by omega
  first
   | (rw [decide_eq_true q'] at h5; exact absurd h5 (by decide))
   | (simp at h5; omega)
 cases hwl with
 | cons w1 w2 =>
  cases w2
  cases w1 with
  | list ho hall=>exact ⟨_,_,ns,rfl,rfl,ho,mJ ns _ hall,hlen⟩
theorem xW (l : OpenLaw) (args : List WData) : l.row.toRowW.claim.post args (.bool true) args = true :=
 postW_of (r := l.row.toRowW) (X := (true == true))
  (show WShape.has [] (.bool true) .bool = true by first | rfl | decide | simp [WShape.has,WShape.arms,WShape.armsAll])
  (show (WTm.eq .res (.lit (.bool true))).value [] { args := args,res := some (.bool true),after := args } = some (.bool (true == true)) from w_eq_bool (w_res rfl) w_lit) rfl
theorem attach_call {l : OpenLaw} {n : Nat} {q : Program} {loose : List Str} {XP : (Str → Option Value) → Heap → Prop} {YP : World → Heap → Prop} {d : DefRec}
  (hn : l.most = some n) (hdf : d.params.defaults = [])
  (call : ∀ (w : World) (s₀ s₁ : Shared) (mg mb : Str → Option Value) (fa : Addr) (o : Obj) (pm cd doc : Value) (a : Addr) (vs : List Value) (ns : List Int),
   Ground q loose [] XP w s₀ mg mb s₁.heap → YP w s₁.heap →
   s₁.heap.get? fa = some o → o.data = .func (docDef d.name d.params d.body d.scope pm cd doc) → s₁.heap.CodeRec cd d.name → mg d.name = some (.ref fa) →
   s₁.heap.get? a = some { cls := .type "list",data := .seq vs.toArray } → IntsAre vs ns → ns.length ≤ n → s₁.gens = #[] →
   codeAny (model l.prog w) callerA (.call (.ref fa) ⟨[.ref a],[]⟩) (fun r s'=>r = .ok (.ret (.bool true)) ∧ OldK s₁.heap s'.heap ∧ s'.os = s₁.os ∧ AllBare s'.gens) s₁) :
  WalkO q loose XP YP l.row.toRowW d [] (fun f vs=>PySem.call f vs) := by
 intro w s₀ s₁ mg mb G Y fa o pm cd doc dV kV ho hd hcd hD hmg hg args vals as hpre hlay hrd hwl hlo
 obtain rfl : dV = .none := Dflts.none hD hdf
 obtain rfl : kV = .none := Dflts.noKw hD
 obtain ⟨a,vs,ns,rfl,rfl,hobj,hints,hlen⟩ := xH hn hpre hwl
 refine enter_call (codeAny_mono (call w s₀ s₁ mg mb fa o pm cd doc a vs ns G Y ho (fd_plain hd) hcd hmg hobj hints hlen hg) fun r s' hq=>?_)
 obtain ⟨rfl,h2,h3,h4⟩ := hq
 exact ⟨.inl ⟨.bool true,.bool true,[],rfl,fun _=>rfl,.bool true,xW l _,fun _=>⟨List.Pairwise.nil,fun _ hm=>(nomatch hm)⟩⟩,h2,h3,h4⟩
section
variable {prog : Program} {w : World} {A : Around} {E : Value → Shared → Prop} {s : Shared} {K : Frag}
end
end Att
namespace L2
open PySem PySem.Spec PyProof.Rows
theorem oR : ∀ {vs : List Value} {ns : List Int},IntsAre vs ns → Vals (ns.map V.int) vs
 | _,_,.nil=>.nil
 | _,_,.cons n t h=>.cons ⟨t,rfl⟩ (oR h)
def AH3 (H : Hp) : Prop := ∀ b,H b = none ∨ ∃ o xs,H b = some (.frz o (.lst xs))
theorem AE4 {P : Program} {w : World} {K : PySem.W.Frag} {mg mb : Str → Option Value} {CX : bK} {k : Nat} {fa a : Addr} {fd : FuncData} {x : Str} {sp : Sp} {s₁ : Shared} {vs : List Value} {ns : List Int}
  (KX : K.In s₁.heap) (hns : s₁.heap.Ns mainGlobals mg) (hb : s₁.heap.Ns builtinsNs mb) (hbb : ∀ x : Str,x ≠ "__name__" → mb x = bootBuiltins x) (hlim : s₁.heap.NoLimit) (hg : s₁.gens = #[])
  (ha : s₁.heap.get? a = some { cls := .type "list",data := .seq vs.toArray }) (hi : IntsAre vs ns) (hl : ns.length ≤ sizeLine) (hr : Room k callerA)
  (F : ∀ base : Heap,K.In base → base.Ns mainGlobals mg → FnOk P w K mg base CX k fa fd [x] sp) (hbind : ∀ (s : Shared) (u : Value),BindsTo s fd ⟨[u],[]⟩ [(x,u)])
  (hsp : ∀ H : Hp,AH3 H → SqL K H a (ns.map V.int) → sp [.ref a] H (fun v _=>v = .bl true) fun _ _ _=>False)
  (hCX : ∀ H e s',CX [] H s₁ (fun _ _ _=>False) e s' → False) :
  codeAny (model P w) callerA (.call (.ref fa) ⟨[.ref a],[]⟩) (fun r s'=>r = .ok (.ret (.bool true)) ∧ OldK s₁.heap s'.heap ∧ s'.os = s₁.os ∧ AllBare s'.gens) s₁ := by
 have rv := oR hi
 have lenV := hi.length
 have core : ∀ H : Hp,AH3 H → SqL K H a (ns.map V.int) → HOk P w H s₁.heap → (∀ b,H b ≠ none → b = a) → (H a ≠ none → K.lookup a = none) →
   codeAny (model P w) callerA (.call (.ref fa) ⟨[.ref a],[]⟩) (fun r s'=>r = .ok (.ret (.bool true)) ∧ OldK s₁.heap s'.heap ∧ s'.os = s₁.os ∧ AllBare s'.gens) s₁ := by
  intro H hO hS hok hA hK
  have base_of : ∀ {b : Addr} {o : Obj},s₁.heap.get? b = some o → H b = none → (hG s₁.heap H).get? b = some o := fun e n=>AF2 e n
  have noA : ∀ {b : Addr} {o : Obj} {es : Array DictEntry} {ep : Nat},s₁.heap.get? b = some o → o.data = .dict es ep → H b = none := fun {b o es ep} e d=>by
   cases q : H b with
   | none=>rfl
   | some u =>
    have e' : b = a := hA b (by rw [q]; simp)
    subst e'
    rw [ha] at e; cases e
    have d' : Data.seq vs.toArray _ = Data.dict es ep := d
    cases d'
  have nsK : ∀ {b : Addr} {m : Str → Option Value},s₁.heap.Ns b m → (hG s₁.heap H).Ns b m := fun {b m} ⟨o,es,ep,e,d,r⟩=>⟨o,es,ep,base_of e (noA e d),d,r⟩
  have hKb : K.In (hG s₁.heap H) := fun b o e=>base_of (KX b o e) (by
   cases q : H b with
   | none=>rfl
   | some u =>
    have e' : b = a := hA b (by rw [q]; simp)
    subst e'
    rw [hK (by rw [q]; simp)] at e; cases e)
  have hM : Mod K mg (hG s₁.heap H) := ⟨hKb,nsK hns,⟨mb,nsK hb,hbb⟩,let ⟨mc,h1,h2⟩ := hlim; ⟨mc,nsK h1,h2⟩⟩
  have e0 : Env0 P w K mg (hG s₁.heap H) callerA [] s₁ H := ⟨rfl,hM,fun b o e=>AO3 e,Nat.le_of_eq (yX _ _),trivial,fun b hb=>absurd (show b ∈ ([] : List Addr) from hb) (by simp),hok,.of_eq hg⟩
  refine codeAny_mono ((F _ hKb (nsK hns)).run callerA [] s₁ H ⟨[.ref a],[]⟩ [.ref a] [.ref a] _ _ hr e0 (hbind s₁ (.ref a)) (.cons rfl .nil) (hsp H hO hS)) fun r s' h=>?_
  cases r with
  | error e=>exact (hCX H e s' h).elim
  | ok fl =>
   cases fl with
   | next=>exact False.elim h
   | brk=>exact False.elim h
   | cont=>exact False.elim h
   | ret u =>
    obtain ⟨v,H',os,bare,un,hok',r',q⟩ := h
    have q' : v = .bl true := q
    subst q'
    obtain rfl : u = Value.bool true := r'
    refine ⟨rfl,OldK.of_keep fun b o e=>?_,os,bare⟩
    cases q : H b with
    | none=>exact un.keep b o e q (by intro z; exact absurd (show b ∈ ([] : List Addr) from z) (by simp)) (by simp)
    | some u =>
     rcases hO b with z | ⟨ob,xs,z⟩
     ·rw [q] at z; cases z
     ·have z2 := un.frzs b ob _ z
      obtain ⟨e1,_⟩ := hok b _ z
      obtain ⟨e2,_⟩ := hok' b _ z2
      rw [e] at e1; cases e1
      exact e2
 cases hk : K.lookup a with
 | some o =>
  have e := KX a o hk
  rw [ha] at e
  cases e
  refine core (fun _=>none) (fun _=>.inl rfl) (.inr ⟨_,vs.toArray,_,hk,rfl,rfl,rfl,by rw [List.size_toArray,lenV]; exact hl,by simpa using rv⟩) (fun b u z=>by have z' : (none : Option HO) = some u := z; cases z') (fun b z=>absurd rfl z) fun z=>absurd rfl z
 | none =>
  refine core (fun b=>if b = a then some (.frz { cls := .type "list",data := .seq vs.toArray } (.lst (ns.map V.int))) else none) (fun b=>?_) (.inl (.inr ⟨{ cls := .type "list",data := .seq vs.toArray },if_pos rfl⟩)) (fun b u z=>?_) (fun b z=>?_) fun _=>hk
  ·by_cases hb : b = a
   ·exact .inr ⟨_,_,if_pos hb⟩
   ·exact .inl (if_neg hb)
  ·by_cases hb : b = a
   ·have z' := (if_pos hb).symm.trans z
    cases z'
    subst hb
    exact ⟨ha,by rw [List.length_map]; exact hl,vs,_,rv,ha⟩
   ·have z' := (if_neg hb).symm.trans z
    cases z'
  ·by_cases hb : b = a
   ·exact hb
   ·exact absurd (if_neg hb) z
end L2
namespace L2
open PySem PySem.Spec PyProof.Rows
theorem walk_of {l : PySem.W.OpenLaw} {n k : Nat} {q : Program} {loose : List Str} {XP : (Str → Option Value) → Heap → Prop} {YP : World → Heap → Prop} {d : DefRec} {K : Params → PySem.W.Frag} {CX : World → bK} {sp : World → Sp} {x : Str}
  (hn : l.most = some n) (hn2 : n ≤ sizeLine) (hdf : d.params.defaults = []) (hr : Room k callerA)
  (hY : ∀ (w : World) (h : Heap),YP w h → (K w.params).In h)
  (F : ∀ (w : World) (mg : Str → Option Value) (fa : Addr) (h : Heap),(K w.params).In h → h.Ns mainGlobals mg → mg d.name = some (.ref fa) →
   ∃ fd : FuncData,(∀ (s : Shared) (u : Value),BindsTo s fd ⟨[u],[]⟩ [(x,u)]) ∧
    ∀ base : Heap,(K w.params).In base → base.Ns mainGlobals mg → FnOk l.prog w (K w.params) mg base (CX w) k fa fd [x] (sp w))
  (hsp : ∀ (w : World) (H : Hp) (a : Addr) (ns : List Int),ns.length ≤ n → AH3 H → SqL (K w.params) H a (ns.map V.int) → sp w [.ref a] H (fun v _=>v = .bl true) fun _ _ _=>False)
  (hCX : ∀ (w : World) (H : Hp) (s : Shared) (e : Value) (s' : Shared),CX w [] H s (fun _ _ _=>False) e s' → False) :
  PySem.W.WalkO q loose XP YP l.row.toRowW d [] (fun f vs=>PySem.call f vs) := by
 refine Att.attach_call hn hdf fun w s₀ s₁ mg mb fa o pm cd doc a vs ns G Y ho hd hcd hmg hobj hints hlen hg=>?_
 have KX := hY w _ Y
 obtain ⟨fd,hb,hF⟩ := F w mg fa _ KX G.T.g hmg
 exact AE4 KX G.T.g G.T.b G.T.builtins G.T.nolimit hg hobj hints (Nat.le_trans hlen hn2) hr hF hb (fun H hO hS=>hsp w H a ns hlen hO hS) fun H e s'=>hCX w H s₁ e s'
end L2
namespace L2
open PySem PySem.Spec PyProof.Rows
def E1 (s : Stmt) : Arguments := match s with
 | .FunctionDef _ a _ _ _ _ _ _ _ _=>a
 | _=>{ posonlyargs := [],args := [],vararg := none,kwonlyargs := [],kw_defaults := [],kwarg := none,defaults := [] }
def D9 (s : Stmt) : List Stmt := match s with
 | .FunctionDef _ _ b _ _ _ _ _ _ _=>b
 | _=>[]
def B2 (s : Stmt) : Scope := match s with
 | .FunctionDef _ _ _ _ _ _ sc _ _ _=>sc
 | _=>{ kind := .function,names := [],isGenerator := false,isCoroutine := false }
abbrev K5 : bK := fun _ _ _ _ _ _=>False
abbrev E0 : XK := fun _ _ _=>False
theorem P3 {X : Cx} : T1 K5 X E0 := fun _ _ _ _ _ _ _ h=>h.elim
structure Fun (K : PySem.W.Frag) (x qual : Str) (st : Stmt) (f : Addr) (fd : FuncData) : Prop where
 ex : ∃ (oc : Value) (od : Option Addr) (kV doc pm : Value) (an : Option Addr) (cdv ct : Value) (osl : Array (Option Value)),
  fd = PySem.W.fnOf x qual (E1 st) (D9 st) (B2 st) .none kV doc pm an cdv ct ∧ K.lookup f = some ⟨oc,od,.func fd,osl⟩ ∧ PySem.W.codeIn K cdv qual = true
 kp : PySem.W.keepIn K (.ref f) = true
section
variable {P : Program} {w : World} {K : PySem.W.Frag} {mg : Str → Option Value} {base : Heap}
theorem Fun.ok {x qual : Str} {st : Stmt} {f : Addr} {fd : FuncData} {N ps : List Str} {k : Nat} {sp : Sp} (F : Fun K x qual st f fd) (S : E2 N ps (B2 st)) (len : ∀ vs H Q E,sp vs H Q E → vs.length = ps.length)
  (hbody : ∀ (cdv : Value) (A : Around) (outer : List Env) (s : Shared) (H : Hp) (vs : List V) (Q : VK) (E : XK),Room k (A.deeper (envOfC qual (B2 st) s.heap.objs.size f cdv)) → sp vs H Q E →
   ∃ t,PSs (Z0 K5 P w K mg base N qual (B2 st) f cdv A outer s H E).nox (D9 st) t ∧ t { nx := fun _ H'=>Q .non H',rt := Q } (start N vs) H) : FnOk P w K mg base K5 (k + 1) f fd ps sp := by
 obtain ⟨oc,od,kV,doc,pm,an,cdv,ct,osl,rfl,lk,hcd⟩ := F.ex
 refine AJ4 lk hcd S len fun A outer s H vs Q E hr hsp=>?_
 obtain ⟨t,h,q⟩ := hbody cdv A outer s H vs Q E hr hsp
 exact ⟨t,h.nox,q⟩
theorem Fun.binds {x qual : Str} {st : Stmt} {f : Addr} {fd : FuncData} {ps : List Str} (F : Fun K x qual st f fd)
  (h : ∀ (kV doc pm : Value) (an : Option Addr) (cdv ct : Value) (us : List Value),us.length = ps.length → bindArgs (PySem.W.fnOf x qual (E1 st) (D9 st) (B2 st) .none kV doc pm an cdv ct) ⟨us,[]⟩ = pure (ps.zip us)) : Binds K fd ps [] := by
 obtain ⟨oc,od,kV,doc,pm,an,cdv,ct,osl,rfl,lk,hcd⟩ := F.ex
 exact .all (h kV doc pm an cdv ct)
theorem E6 {x qual : Str} {st : Stmt} {f : Addr} {oc : Value} {od an : Option Addr} {osl : Array (Option Value)} {kV doc pm cdv ct : Value} (l : K.lookup f = some ⟨oc,od,.func (PySem.W.fnOf x qual (E1 st) (D9 st) (B2 st) .none kV doc pm an cdv ct),osl⟩)
  (c : PySem.W.codeIn K cdv qual = true) (k : PySem.W.keepIn K (.ref f) = true) : Fun K x qual st f (PySem.W.fnOf x qual (E1 st) (D9 st) (B2 st) .none kV doc pm an cdv ct) := ⟨⟨oc,od,kV,doc,pm,an,cdv,ct,osl,rfl,l,c⟩,k⟩
end
theorem AJ2 {A : Around} {k : Nat} (hr : Room k A) : A.units + 1 < cLine := Nat.lt_of_le_of_lt (Nat.add_le_add_left (by decide : 1 ≤ 64) _) hr.units
theorem xE {n : Nat} (h : n ≤ 1000) : n < sizeLine := Nat.lt_of_le_of_lt h (by decide)
section
variable {X : Cx}
theorem pv (i : Nat) {x : Str} {pos : Pos} (hN : X.N[i]? = some x := by rfl) (hv : vI X.env.scope x := by first | exact Or.inl rfl | exact Or.inr (Or.inl rfl) | exact Or.inr (Or.inr rfl)) (hd : (x == ("__debug__" : Str)) = false := by decide)
  (hcd : (x == ("__classdict__" : Str)) = false := by decide) : PE X (.Name x pos) (rC i) := AS8 hN hv hd hcd
end
theorem D7 {A B : Prop} (h : B) : if false = true then A else B := by
 rw [if_neg Bool.false_ne_true]
 exact h
theorem E8 {A B : Prop} (h : A) : if true = true then A else B := by
 rw [if_pos rfl]
 exact h
theorem N1 {c A B : Prop} [Decidable c] (h1 : c → A) (h2 : ¬ c → B) : if c then A else B := by
 by_cases h : c
 ·rw [if_pos h]
  exact h1 h
 ·rw [if_neg h]
  exact h2 h
def Same (H H' : Hp) : Prop := ∀ b o,H b = some o → H' b = some o
theorem Same.trans {H H1 H2 : Hp} (a : Same H H1) (b : Same H1 H2) : Same H H2 := fun c o h=>b c o (a c o h)
theorem Same.seq {K : PySem.W.Frag} {H H' : Hp} {a : Addr} {xs : List V} (e : Same H H') (h : SqL K H a xs) : SqL K H' a xs := by
 rcases h with (h | ⟨o,h⟩) | h
 ·exact .inl (.inl (e _ _ h))
 ·exact .inl (.inr ⟨o,e _ _ h⟩)
 ·exact .inr h
end L2
namespace L2
open PySem PySem.Spec PyProof.Rows
def ExL (H : Hp) (g : Heap) (h : Heap) (ex : Addr) (cls : Value) : Prop :=
 ∃ oe vs,h.get? ex = some oe ∧ oe.cls = cls ∧ oe.data = .fields vs ∧ oe.dict = none ∧ g.get? ex = none ∧ H ex = none ∧
  (vs[1]? = some .none ∨ ∃ T oT ts,vs[1]? = some (.ref T) ∧ g.get? T = none ∧ T ≠ ex ∧ H T = none ∧ h.get? T = some oT ∧ oT.data = .fields ts ∧ ts[3]? = some .none)
theorem ExL.mono {H : Hp} {g g' : Heap} {h : Heap} {ex : Addr} {cls : Value} (x : ExL H g h ex cls) (k : ∀ b,g.get? b = none → g'.get? b = none) : ExL H g' h ex cls := by
 obtain ⟨oe,vs,h1,h2,h3,hd,h4,h5,h6⟩ := x
 refine ⟨oe,vs,h1,h2,h3,hd,k _ h4,h5,?_⟩
 rcases h6 with h6 | ⟨T,oT,ts,a,b,c⟩
 ·exact .inl h6
 ·exact .inr ⟨T,oT,ts,a,k _ b,c⟩
def N0 (P : Program) (w : World) : bK := fun outer H s E e s' =>
 ∃ ex cls H',e = .ref ex ∧ s'.os = s.os ∧ AllBare s'.gens ∧ Un (Q1 outer) [] H H' s.heap s'.heap ∧ HOk P w H' s'.heap ∧ ExL H' s.heap s'.heap ex cls ∧ E cls none H'
theorem fX (f : Array Value → Array Value) (o : Obj) : (Obj.mapFields f o).dict = o.dict := by
 obtain ⟨c,d,dt,sl⟩ := o
 cases dt <;> rfl
theorem ObjOk.there {P : Program} {w : World} {H : Hp} {h : Heap} {a : Addr} {o : HO} (x : ObjOk P w H h a o) : ∃ u,h.get? a = some u := by
 cases o with
 | lst xs=>obtain ⟨_,_,_,_,e⟩ := x; exact ⟨_,e⟩
 | tup xs=>obtain ⟨_,_,_,_,e,_⟩ := x; exact ⟨_,e⟩
 | dK kvs=>obtain ⟨_,_,_,_,o,_,_,e,_⟩ := x; exact ⟨_,e⟩
 | dT kvs=>obtain ⟨_,_,_,_,o,_,_,e,_⟩ := x; exact ⟨_,e⟩
 | set S n=>obtain ⟨o,_,_,_,e,_⟩ := x; exact ⟨_,e⟩
 | ins C dx fs=>obtain ⟨_,_,_,e,_⟩ := x; exact ⟨_,e⟩
 | own y=>obtain ⟨_,e⟩ := x; exact ⟨_,e⟩
 | xd fs=>obtain ⟨_,⟨_,_,_,e,_⟩,_⟩ := x; exact ⟨_,e⟩
 | rng lo hi=>obtain ⟨_,_,_,e⟩ := x; exact ⟨_,e⟩
 | frz ob u=>obtain ⟨e,_⟩ := x; exact ⟨_,e⟩
 | tbl ps=>exact ⟨_,(show h.get? a = some _ from x)⟩
 | met f y=>exact ⟨_,(show h.get? a = some _ from x)⟩
 | ext φ=>obtain ⟨_,⟨_,e⟩,_⟩ := x; exact ⟨_,e⟩
theorem HOk.none {P : Program} {w : World} {H : Hp} {h : Heap} {a : Addr} (x : HOk P w H h) (e : h.get? a = none) : H a = none := by
 cases q : H a with
 | none=>rfl
 | some o =>
  obtain ⟨u,e'⟩ := (x a o q).there
  rw [e] at e'; cases e'
theorem Inv.new {X : Cx} {pins : List (Addr × Obj)} {σ : St} {H : Hp} {s : Shared} (I : Inv X pins σ H s) (hex : X.ex = []) {b : Addr} (e : s.heap.get? b = none) : X.s₀.heap.get? b = none := by
 cases q : X.s₀.heap.get? b with
 | none=>rfl
 | some o =>
  obtain ⟨o',e'⟩ := I.base.there b o q (by rw [hex]; simp)
  rw [e] at e'; cases e'
section
variable {M : Model} {A : Around} {E : Value → Shared → Prop} {s : Shared}
theorem pH {base : Heap} {env : Env} {outer : List Env} {L e : Addr} {oe : Obj} {vs : Array Value} {head : Value} {hadNext : Bool} {Q : Unit → Shared → Prop}
  (hfr : A.frames = some (env :: outer)) (hl : s.heap.FunFrames base (env :: outer)) (hf : env.frame = some L) (he : s.heap.get? e = some oe) (hd : oe.data = .fields vs) (hsz : 1 < vs.size)
  (h : ∀ h' T,s.heap.objs.size ≤ T → (∀ b o,s.heap.get? b = some o → b ≠ e → b ∉ Q1 (env :: outer) → h'.get? b = some o) →
   (∀ b o,s.heap.get? b = some o → b ≠ e → ∃ sl,h'.get? b = some { o with slots := sl }) →
   (∃ oe' vs',h'.get? e = some oe' ∧ oe'.cls = oe.cls ∧ oe'.data = .fields vs' ∧ oe'.dict = oe.dict ∧ vs'[1]? = some (.ref T)) →
   (∃ oT ts,h'.get? T = some oT ∧ oT.data = .fields ts ∧ ts[3]? = some .none) → Q () { s with heap := h' }) :
  wpAny M A (do let a ← frameOf env; let pl ← entryPlaceOf L hadNext; let b ← EntryCells.newEntry head a .none (rawInt L) .none pl; setField (.ref e) 1 b) (fun _ s'=>wpAny M A (setFlight (.ref e) none) Q E s') E s := by
 have hene : e ∉ Q1 (env :: outer) := fun hm=>by
  obtain ⟨_,o,ho,hnf⟩ := hl.mem hm
  rw [he] at ho; injection ho with ho; subst ho; exact hnf vs hd
 refine wpAny_bind (wpAny_frameOf_fun hfr hl hf fun h₁ hs₁=>?_)
 refine wpAny_bind (wpAny_entryPlaceOf fun pl hpl=>?_)
 unfold EntryCells.newEntry newFields
 refine wpAny_bind (wpAny_newObj_type ?_ (hpl.sizeOk5 _ _ _ _ _))
 generalize hob : ({ cls := .type "traceback",dict := none,data := .fields ([head,.ref L,.none,rawInt L,.none] ++ (if pl.isEmpty then List.replicate 6 Value.none else pl)).toArray } : Obj) = ob
 have hobd : ob.data = .fields ([head,.ref L,.none,rawInt L,.none] ++ (if pl.isEmpty then List.replicate 6 Value.none else pl)).toArray := by rw [← hob]
 have hobf : ob.isFreed = false := by rw [← hob]; rfl
 have he₁ : h₁.get? e = some oe := (hs₁.2.1 e hene).trans he
 have he₂ : (h₁.push ob).get? e = some oe := Heap.get?_push_of_some _ he₁
 refine wpAny_setField he₂ hd hsz ?_
 have hTe : h₁.objs.size ≠ e := Nat.ne_of_gt (Heap.lt_size he₁)
 have hd₃ := Obj.data_mapFields hd (·.setIfInBounds 1 (Value.ref h₁.objs.size))
 have he₃ := Heap.get?_update_self (Obj.mapFields (·.setIfInBounds 1 (Value.ref h₁.objs.size))) he₂ (Obj.isFreed_of_fields hd₃)
 have hT₃ := (Heap.get?_update_other (h₁.push ob) (Obj.mapFields (·.setIfInBounds 1 (Value.ref h₁.objs.size))) (Ne.symm hTe)).trans (Heap.get?_push_size h₁ hobf)
 unfold setFlight
 refine wpAny_bind (wpAny_field he₃ hd₃ (x := .ref h₁.objs.size) (by simp [hsz]) ?_)
 rw [if_pos (show (Value.ref h₁.objs.size != Value.none) = true from by simp)]
 refine wpAny_setField hT₃ hobd (by simp only [List.size_toArray,List.length_append,List.length_cons,List.length_nil] <;> omega) (h _ h₁.objs.size (Nat.le_of_eq hs₁.1.symm) ?_ ?_ ?_ ?_)
 ·intro b o hb hbe hbf
  have hb₁ := (hs₁.2.1 b hbf).trans hb
  rw [Heap.get?_update_other _ _ (Nat.ne_of_gt (Heap.lt_size hb₁)),Heap.get?_update_other _ _ (Ne.symm hbe)]
  exact Heap.get?_push_of_some _ hb₁
 ·intro b o hb hbe
  obtain ⟨sl,hb₁⟩ := hs₁.2.2 b o hb
  refine ⟨sl,?_⟩
  rw [Heap.get?_update_other _ _ (Nat.ne_of_gt (Heap.lt_size hb₁)),Heap.get?_update_other _ _ (Ne.symm hbe)]
  exact Heap.get?_push_of_some _ hb₁
 ·refine ⟨_,_,?_,Obj.cls_mapFields _ _,hd₃,fX _ _,by simp [hsz]⟩
  rw [Heap.get?_update_other _ _ hTe]; exact he₃
 ·exact ⟨_,_,Heap.get?_update_self _ hT₃ (Obj.isFreed_of_fields (Obj.data_mapFields hobd _)),Obj.data_mapFields hobd _,by first | (simp; done) | (rcases hpl with rfl | ⟨_,_,_,_,_,_,_,rfl⟩ <;> simp)⟩
end
section
variable {X : Cx} {pins : List (Addr × Obj)} {σ : St} {H : Hp} {s : Shared} {E' : Value → Shared → Prop}
theorem mE {Q : Unit → Shared → Prop} {L ex : Addr} {cls : Value} {g : Heap} (I : Inv X pins σ H s) (hst : X.stack = X.env :: X.outer) (hf : X.env.frame = some L) (hx : ExL H g s.heap ex cls) (hn : ∀ b,s.heap.objs.size ≤ b → g.get? b = none)
  (h : ∀ h',(∀ b o,s.heap.get? b = some o → (g.get? b ≠ none ∨ H b ≠ none) → b ∉ Q1 X.stack → h'.get? b = some o) → (∀ b o,s.heap.get? b = some o → (g.get? b ≠ none ∨ H b ≠ none) → ∃ sl,h'.get? b = some { o with slots := sl }) →
   (∀ b o,s.heap.get? b = some o → ∃ o',h'.get? b = some o') → ExL H g h' ex cls → Q () { s with heap := h' }) :
  wpAny (model X.prog X.w) X.A (noteFrame (.ref ex) X.env) (fun _ s'=>wpAny (model X.prog X.w) X.A (setFlight (.ref ex) none) Q E' s') E' s := by
 obtain ⟨oe,vs,he,hc,hd,hdi,hne,hHe,hh⟩ := hx
 have hfr : X.A.frames = some (X.env :: X.outer) := by rw [← hst]; exact I.ok.frames
 have hl : s.heap.FunFrames X.base (X.env :: X.outer) := by rw [← hst]; exact I.stack
 unfold noteFrame
 simp only [hf]
 rcases hh with h1 | ⟨T,oT,ts,h1,hnT,hTe,hHT,hT,hdT,h3⟩
 ·refine wpAny_bind (wpAny_field he hd h1 ?_)
  rw [if_neg (by decide)]
  refine pH hfr hl hf he hd (Array.getElem?_eq_some_iff.mp h1).1 fun h' T hT k1 k2 ⟨oe',vs',a1,a2,a3,a5,a4⟩ ⟨oT,ts,c1,c2,c3⟩=>?_
  have ne : ∀ b,(g.get? b ≠ none ∨ H b ≠ none) → b ≠ ex := fun b hb z=>by
   subst z
   rcases hb with hb | hb
   ·exact hb hne
   ·exact hb hHe
  refine h h' (fun b o hb h1 h2=>k1 b o hb (ne b h1) (by rw [← hst]; exact h2)) (fun b o hb h1=>k2 b o hb (ne b h1)) (fun b o hb=>?_) ⟨oe',vs',a1,a2.trans hc,a3,a5.trans hdi,hne,hHe,.inr ⟨T,oT,ts,a4,hn _ hT,?_,I.hok.fresh hT,c1,c2,c3⟩⟩
  ·by_cases hbe : b = ex
   ·subst hbe; exact ⟨_,a1⟩
   ·obtain ⟨sl,q⟩ := k2 b o hb hbe; exact ⟨_,q⟩
  ·exact Nat.ne_of_gt (Nat.lt_of_lt_of_le (Heap.lt_size he) hT)
 ·refine wpAny_bind (wpAny_field he hd h1 ?_)
  rw [if_pos (show (Value.ref T != Value.none) = true from by simp)]
  refine wpAny_bind (wpAny_field hT hdT h3 ?_)
  rw [if_neg (show ¬ ((Value.none == rawInt L) = true) from by simp [rawInt])]
  refine wpAny_bind (wpAny_setField hT hdT (Array.getElem?_eq_some_iff.mp h3).1 ?_)
  have other : ∀ b,b ≠ T → (s.heap.update T (Obj.mapFields (·.setIfInBounds 3 Value.none))).get? b = s.heap.get? b := fun b hb=>Heap.get?_update_other _ _ (Ne.symm hb)
  have hT2 : (s.heap.update T (Obj.mapFields (·.setIfInBounds 3 Value.none))).get? T = some _ := Heap.get?_update_self _ hT (Obj.isFreed_of_fields (Obj.data_mapFields hdT _))
  have hsz : (s.heap.update T (Obj.mapFields (·.setIfInBounds 3 Value.none))).objs.size = s.heap.objs.size := Heap.size_after_update ..
  refine pH hfr (hl.of_keeps fun b o hb hnf=>⟨o,(other b fun z=>?_).trans hb,rfl⟩) hf ((other ex (Ne.symm hTe)).trans he) hd (Array.getElem?_eq_some_iff.mp h1).1 fun h' T' hT' k1 k2 ⟨oe',vs',a1,a2,a3,a5,a4⟩ ⟨oT',ts',c1,c2,c3⟩=>?_
  ·subst z; rw [hT] at hb; cases hb; exact hnf ts hdT
  have hT'' : s.heap.objs.size ≤ T' := by rw [← hsz]; exact hT'
  have ne : ∀ b,(g.get? b ≠ none ∨ H b ≠ none) → b ≠ ex ∧ b ≠ T := fun b hb=>by
   refine ⟨fun z=>?_,fun z=>?_⟩
   ·subst z
    rcases hb with hb | hb
    ·exact hb hne
    ·exact hb hHe
   ·subst z
    rcases hb with hb | hb
    ·exact hb hnT
    ·exact hb hHT
  refine h h' (fun b o hb h1 h2=>k1 b o ((other b (ne b h1).2).trans hb) (ne b h1).1 (by rw [← hst]; exact h2)) (fun b o hb h1=>k2 b o ((other b (ne b h1).2).trans hb) (ne b h1).1) (fun b o hb=>?_)
   ⟨oe',vs',a1,a2.trans hc,a3,a5.trans hdi,hne,hHe,.inr ⟨T',oT',ts',a4,hn _ hT'',?_,I.hok.fresh hT'',c1,c2,c3⟩⟩
  ·by_cases hbe : b = ex
   ·subst hbe; exact ⟨_,a1⟩
   ·by_cases hbT : b = T
    ·subst hbT; obtain ⟨sl,q⟩ := k2 b _ hT2 hbe; exact ⟨_,q⟩
    ·obtain ⟨sl,q⟩ := k2 b o ((other b hbT).trans hb) hbe; exact ⟨_,q⟩
  ·exact Nat.ne_of_gt (Nat.lt_of_lt_of_le (Heap.lt_size he) hT'')
theorem yQ {ex : Addr} {cls : Value} {E : XK} (I : Inv X pins σ H s) (hst : X.stack = X.env :: X.outer) (hex : X.ex = []) (hf : X.env.frame = some X.env.locals) (hx : ExL H X.s₀.heap s.heap ex cls) (q : E cls none H) :
  wpAny (model X.prog X.w) X.A (leaving X.env (.ref ex)) (fun _ s''=>N0 X.prog X.w X.outer X.H₀ X.s₀ E (.ref ex) s'') E' s := by
 unfold leaving
 refine wpAny_bind (mE I hst hf hx (fun b z=>Heap.get?_none_of_le (Nat.le_trans I.sz z)) fun h' k1 k2 k3 hx'=>?_)
 have own : ∀ b a,H b = some (.own a) → H b ≠ none := fun b a e z=>by rw [z] at e; cases e
 have hB := I.base
 rw [hex] at hB
 have stk : ∀ b,b < X.s₀.heap.objs.size → b ∉ X.fs → b ∉ Q1 X.stack := fun b hb hn hz=>by
  rcases List.mem_cons.mp (I.stkSub b hz) with e | e
  ·exact absurd (Nat.lt_of_lt_of_le hb I.ok.above) (by rw [e]; exact Nat.lt_irrefl _)
  ·exact hn e
 have oU : ∀ b,H b ≠ none → b ∉ Q1 X.stack := fun b hb hz=>hb (I.stkFree b hz)
 refine ⟨ex,cls,H,rfl,I.os,I.bare,⟨fun b o e n hb hx=>?_,fun b o e n hb hx=>?_,hB.free,fun b o e hx=>?_,hB.tups,hB.frzs,hB.tbls⟩,fun b o e=>(I.hok b o e).stay (fun c u hc r=>?_) (fun _ q=>q) fun _ _ q=>q,hx',q⟩
 ·exact k1 b o (hB.keep b o e n hb hx) (.inl (by rw [e]; exact fun z=>nomatch z)) (stk b (Heap.lt_size e) hb)
 ·obtain ⟨sl,e1⟩ := hB.slot b o e n hb hx
  obtain ⟨sl',e2⟩ := k2 b _ e1 (.inl (by rw [e]; exact fun z=>nomatch z))
  exact ⟨sl',e2⟩
 ·obtain ⟨o',e1⟩ := hB.there b o e hx
  exact k3 b o' e1
 ·have hc' : H c ≠ none := by
   rcases hc with rfl | hc
   ·intro z; rw [z] at e; cases e
   ·exact own c b hc
  exact k1 c u r (.inr hc') (oU c hc')
end
theorem G8 {P : Program} {w : World} {K : PySem.W.Frag} {mg : Str → Option Value} {base : Heap} {N : List Str} {qual : Str} {scope : Scope} {f : Addr} {cd : Value} {A : Around} {outer : List Env} {s : Shared} {H : Hp} {E E' : XK} (k : ∀ c d H',E' c d H' → E c d H') :
  T1 (N0 P w) (Z0 (N0 P w) P w K mg base N qual scope f cd A outer s H E) E' := by
 intro pins σ H2 s2 e s' I h
 obtain ⟨ex,cls,H',rfl,os,bare,un,hok,hx,q⟩ := h
 obtain ⟨hh,g,d,t,os'⟩ := s'
 obtain rfl : os' = s2.os := os
 have J := I.call (h' := hh) (g' := g) (d' := d) (t' := t) (ch := []) un hok bare (fun b z=>absurd z (by simp))
 exact yQ (X := Z0 (N0 P w) P w K mg base N qual scope f cd A outer s H E) J rfl rfl rfl (hx.mono fun b e=>I.new rfl e) (k _ _ _ q)
end L2
namespace L2
open PySem PySem.Spec PyProof.Rows
structure XC (K : PySem.W.Frag) (C : Addr) (bmB : List Value) (newId : String) : Prop where
 ex : PySem.W.excIn K C bmB newId = true
 ga : PySem.W.findIn K (.ref C) "__getattribute__" = some (some (.builtin "BaseException.__getattribute__"))
 gt : PySem.W.findIn K (.ref C) "__getattr__" = some none
 cl : PySem.W.findIn K (.ref C) "__class__" = some (some (.builtin "object.__class__"))
 mo : PySem.W.mroIn K C (.type "object") = some true
 mb : PySem.W.mroIn K C (.type "BaseException") = some true
theorem XC.obj {K : PySem.W.Frag} {C : Addr} {bmB : List Value} {newId : String} (q : PySem.W.excIn K C bmB newId = true) :
  ∃ bm N nm qn bs hdct sn sub ab col dd k0 k1 k2 k3 k5,K.lookup C = some (excClassObj nm qn C N bs bm hdct sn sub ab col dd k0 k1 k2 k3 k5 newId) ∧ PySem.W.nsOkIn K N = true ∧ PySem.W.nsIn K N "__init__" = some none ∧ PySem.W.tailIn K bmB bm = true := by
 unfold PySem.W.excIn at q
 split at q
 ·rename_i dd cd sl ho
  split at q
  ·rename_i C' bm k0 k1 k2 k3 n k5 hm hs
   simp only [Bool.and_eq_true,beq_iff_eq,Bool.not_eq_true'] at q
   obtain ⟨⟨⟨⟨⟨rfl,rfl⟩,hdel⟩,ht⟩,hok⟩,hni⟩ := q
   obtain ⟨nm,bs,mro,ns,qn,hd,sn,sub,ab,col,del⟩ := cd
   dsimp only at hm hdel hok hni
   subst hm hdel
   have hsl : sl = #[k0,k1,k2,k3,some (.builtin n),k5] := by
    obtain ⟨l⟩ := sl
    simp only at hs
    rw [hs]
   subst hsl
   exact ⟨bm,ns,nm,qn,bs,hd,sn,sub,ab,col,dd,k0,k1,k2,k3,k5,ho,hok,hni,ht⟩
  ·cases q
 ·cases q
theorem AO4 {K : PySem.W.Frag} {N : Addr} {h h' : Heap} {m : Str → Option Value} (X : K.In h) (X' : K.In h') (ok : PySem.W.nsOkIn K N = true) (n : h.Ns N m) : h'.Ns N m := by
 unfold PySem.W.nsOkIn at ok
 split at ok
 ·rename_i ho
  obtain ⟨o,es,ep,e,r⟩ := n
  have e1 := X _ _ ho
  rw [e] at e1
  cases e1
  exact ⟨_,es,ep,X' _ _ ho,r⟩
 ·cases ok
def AQ6 (C : Addr) (E : XK) (t : TA) : TS := fun _ σ H=>t σ H fun vs H1=>vs.length ≤ sizeLine ∧ E (.ref C) none H1
theorem V4 {P : Program} {w : World} {K : PySem.W.Frag} {mg : Str → Option Value} {base : Heap} {N : List Str} {qual : Str} {scope : Scope} {f : Addr} {cd : Value} {A : Around} {outer : List Env} {s₀ : Shared} {H₀ : Hp} {E : XK}
  {C : Addr} {B newId initId : String} {bmB : List Value} {x : Str} {np cpos pos : Pos} {e : Expr} {es : List Expr} {t : TA}
  (FB : ExcBaseFacts B newId initId bmB) (c : XC K C bmB newId) (hg : Gl (Z0 (N0 P w) P w K mg base N qual scope f cd A outer s₀ H₀ E) x) (hm : mg x = some (.ref C))
  (ha : PA (Z0 (N0 P w) P w K mg base N qual scope f cd A outer s₀ H₀ E) (e :: es) t)
  (he : starEach (e :: es) (envOfC qual scope s₀.heap.objs.size f cd) = (false,eval e (envOfC qual scope s₀.heap.objs.size f cd)) :: starEach es (envOfC qual scope s₀.heap.objs.size f cd) := by rfl)
  (hplain : (backTo cpos (starEach es (envOfC qual scope s₀.heap.objs.size f cd))).any (·.1) = false := by rfl) (hdb : (x == ("__debug__" : Str)) = false := by decide) :
  PS (Z0 (N0 P w) P w K mg base N qual scope f cd A outer s₀ H₀ E) (.Raise (some (.Call (.Name x np) (e :: es) [] cpos)) none pos) (AQ6 C E t) := by
 intro pins s σ H D I h
 obtain ⟨bm,Nn,nm,qn,bs,hdct,sn,sub,ab,col,dd,k0,k1,k2,k3,k5,lC,hok,hni,ht⟩ := XC.obj c.ex
 have T := PySem.W.tail_of_in I.kIn ht
 have hN : s.heap.Ns Nn (s.heap.nsMap Nn) := .of_isNs (PySem.W.isNs_of_in I.kIn hok)
 refine wpAny_Raise_call_subT (C := C) (nm := nm) (q := qn) (N := Nn) (bs := bs) (bm := bm) (hdct := hdct) (sn := sn) (sub := sub) (ab := ab) (col := col) (dd := dd) (k0 := k0) (k1 := k1) (k2 := k2) (k3 := k3) (k5 := k5)
  FB (mN := s.heap.nsMap Nn) (T.hasType FB.hasBase) (I.ok.hd rfl) (by
   show (backTo cpos (starEach (e :: es) (envOfC qual scope s₀.heap.objs.size f cd))).any (·.1) = false
   rw [he]; show (false || (backTo cpos (starEach es (envOfC qual scope s₀.heap.objs.size f cd))).any (·.1)) = false; rw [hplain]; rfl) (PySem.W.nsMap_none_of_in I.kIn hok hni) (cB I hg hm ⟨rfl,?_⟩ hdb)
 have hp := ha cpos pins s σ H _ I h
 have he' : starEach (e :: es) (Z0 (N0 P w) P w K mg base N qual scope f cd A outer s₀ H₀ E).env = (false,eval e (envOfC qual scope s₀.heap.objs.size f cd)) :: starEach es (envOfC qual scope s₀.heap.objs.size f cd) := he
 rw [he'] at hp ⊢
 refine Calls.evalArgs_plain (wpAny_mono hp (fun us s2 h2=>?_) fun _ _ y=>y)
 obtain ⟨vs,H1,I1,r,hl,q⟩ := h2
 refine ⟨rfl,by rw [← r.length]; exact hl,I1.kIn _ _ lC,AO4 I.kIn I1.kIn hok hN,PySem.W.tail_of_in I1.kIn ht,fun h' ex mx=>?_⟩
 have J : Inv (Z0 (N0 P w) P w K mg base N qual scope f cd A outer s₀ H₀ E) pins σ H1 { s2 with heap := h' } := I1.un (t' := s2.toks) (Un.kept mx.keeps) (I1.hok.kept mx.keeps)
 obtain ⟨tp,ht1,ht2,ht3⟩ := mx.there
 exact yQ (X := Z0 (N0 P w) P w K mg base N qual scope f cd A outer s₀ H₀ E) J rfl rfl rfl ⟨_,_,ht1,rfl,rfl,rfl,I1.new rfl mx.new,I1.hok.none mx.new,.inl rfl⟩ q
section
variable {K : PySem.W.Frag} {C a : Addr} {o : Obj} {bmB : List Value} {newId : String}
theorem sR {h : Heap} (e : h.get? a = some o) (hc : o.cls = .ref C) (hd : ∃ vs,o.data = .fields vs) (hn : o.dict = none) : PySem.W.InstAt h a o C none := by
 obtain ⟨vs,hd⟩ := hd
 refine ⟨e,hc,?_,?_⟩
 ·obtain ⟨c,d,dt,sl⟩ := o
  cases (show dt = .fields vs from hd)
  rfl
 ·rw [hn]; trivial
theorem zC {prog : Program} {w : World} {A : Around} {E : Value → Shared → Prop} {s : Shared} {tk : Tok} {Q : Fin → Shared → Prop} (X : K.In s.heap) (c : XC K C bmB newId) (I : PySem.W.InstAt s.heap a o C none) (hq : Q (.done (.ret (.ref C))) s) :
  wpAny (model prog w) A (Builtin.«object.__getattribute__» ⟨[.ref a,.str "__class__" tk],[]⟩) Q E s := by
 obtain ⟨h,g,d,t,os⟩ := s
 have hx := I.at_
 have hc := I.cls
 have hT5 : (⟨h,g,d,t,os⟩ : Shared).TypeIs (.builtin "object.__class__") "getset_descriptor" := F.typeOf_object_class
 have f5 := F.typeOf_object_class
 have f6 := F.slot_gs_get.lookup
 have f7 := F.slot_gs_set.lookup
 have L1 := PySem.W.looks_findIn (M := model prog w) X c.cl
 repeat (any_goals (first | assumption | (with_reducible refine wpAny_loadPart_at hx ?_; rw [hc]) | with_reducible refine L1.at ?_ | wp_step))
 refine PySem.W.class_get X I c.mo ?_
 repeat (any_goals (first | assumption | wp_step))
end
end L2
namespace L2
open PySem PySem.Spec PyProof.Rows
section
variable {K : PySem.W.Frag} {C D a : Addr} {o : Obj} {bmB : List Value} {newId : String} {prog : Program} {w : World} {A : Around} {E : Value → Shared → Prop} {s : Shared}
theorem zD {M : Model} {nameV : Value} {Q : Unit → Shared → Prop} (X : K.In s.heap) (c : XC K C bmB newId) (I : PySem.W.InstAt s.heap a o C none) (hq : Q () s) : wpAny M A (checkBuiltinCall "BaseException.__getattribute__" ⟨[.ref a,nameV],[]⟩) Q E s := by
 obtain ⟨h,g,d,t,os⟩ := s
 have hk : builtinKind "BaseException.__getattribute__" = some .slot := by decide +kernel
 have hsplit : splitId "BaseException.__getattribute__" = some ("BaseException","__getattribute__") := by decide +kernel
 have ha := F.args_bexc_ga (.ref a) nameV
 have L1 := PySem.W.looks_mroIn (M := M) X c.mb
 have hx := I.at_
 have hc := I.cls
 simp only [checkBuiltinCall,hk,hsplit]
 refine wpAny_bind ?_
 unfold isInstance
 repeat (first | (with_reducible refine wpAny_loadPart_at hx ?_; rw [hc]) | with_reducible refine L1.at ?_ | wp_step)
 exact hq
theorem AF7 {tk : Tok} {R : Result → Shared → Prop} (X : K.In s.heap) (c : XC K C bmB newId) (I : PySem.W.InstAt s.heap a o C none) (hq : R (.ok (.ret (.ref C))) s) :
  codeAny (model prog w) A (.call (.builtin "BaseException.__getattribute__") ⟨[.ref a,.str "__class__" tk],[]⟩) R s :=
 codeAny_call_builtin F.excAttr_ValueError.ga.plain F.entry_bexc_ga (zD X c I (zC X c I hq))
theorem AX0 {tk : Tok} {Q : Value → Shared → Prop} (X : K.In s.heap) (c : XC K C bmB newId) (I : PySem.W.InstAt s.heap a o C none) (hq : Q (.ref C) s) :
  wpAny (model prog w) A (getAttrBy (.ref a) (.str "__class__" tk) false) Q E s := by
 obtain ⟨h,g,d,t,os⟩ := s
 have f3 := F.excAttr_ValueError.ga.bind (.ref a)
 have hx2 : (Value.builtin "BaseException.__getattribute__" == Value.builtin "object.__getattribute__") = false := by decide +kernel
 have hx1 : (onTheHeap (Value.ref C) && Value.builtin "BaseException.__getattribute__" == Value.builtin "object.__getattribute__") = false := by rw [hx2]; rfl
 have hx0 : (false && onTheHeap (Value.builtin "BaseException.__getattribute__")) = false := rfl
 have L1 := PySem.W.looks_findIn (M := model prog w) X c.ga
 have L2 := PySem.W.looks_findIn (M := model prog w) X c.gt
 have hx := I.at_
 have hc := I.cls
 repeat (any_goals (first | assumption | (with_reducible refine wpAny_loadPart_at hx ?_; rw [hc]) | with_reducible refine L1.at ?_ | with_reducible refine L2.at ?_ | wp_step))
 refine AF7 X c I ?_
 repeat (any_goals (first | assumption | wp_step))
theorem AF8 {Q : Option Value → Shared → Prop} (X : K.In s.heap) (c : XC K C bmB newId) (I : PySem.W.InstAt s.heap a o C none) (hq : Q (some (.ref C)) { s with toks := s.toks + 1 }) :
  wpAny (model prog w) A (getAttr? (.ref a) "__class__") Q E s := by
 obtain ⟨h,g,d,t,os⟩ := s
 unfold getAttr? getAttrBy?
 repeat (any_goals (first | assumption | with_reducible apply AX0 (s := ⟨h,g,d,t + 1,os⟩) X c I | wp_step))
theorem XC.cls (c : XC K C bmB newId) : ∃ cd,PySem.W.clsIn K C = some cd := by
 have h := c.mo
 unfold PySem.W.mroIn at h
 cases q : PySem.W.clsIn K C with
 | none=>rw [q] at h; cases h
 | some cd=>exact ⟨cd,rfl⟩
theorem XC.isT {M : Model} {h : Heap} (c : XC K C bmB newId) (X : K.In h) : PySem.W.Looks M h (isType (.ref C)) true := by
 obtain ⟨cd,hc⟩ := c.cls
 unfold PySem.W.clsIn at hc
 split at hc
 ·rename_i c' d' cd' sl' ho
  intro A' Q' E' s' k q
  unfold isType loadHead
  exact wpAny_bind (wpAny_loadPart (k _ _ (X _ _ ho)) (wpAny_pure q))
 ·cases hc
theorem AF0 (c : XC K C bmB newId) : PySem.W.KitX K (.ref a) (.ref C) (fun h=>PySem.W.InstAt h a o C none) where
 ty := fun _ _ _ I=>I.type
 it := fun _ _ X _=>c.isT X
 ne := fun h tp dd its n sl X htp=>by
  obtain ⟨cd,hc⟩ := c.cls
  refine Bool.eq_false_iff.mpr fun q=>?_
  have e : C = tp := Value.ref.inj (beq_iff_eq.mp q)
  subst e
  unfold PySem.W.clsIn at hc
  split at hc
  ·rename_i c' d' cd' sl' ho
   have z := (X _ _ ho).symm.trans htp
   cases z
  ·cases hc
 ca := fun X I k=>AF8 X c I k
theorem tR {M : Model} {b : Bool} {Q : Bool → Shared → Prop} (X : K.In s.heap) (I : PySem.W.InstAt s.heap a o C none) (c : XC K D bmB newId) (hb : PySem.W.mroIn K C (.ref D) = some b) (hq : Q b s) :
  wpAny M A (excMatches (.ref a) (.ref D)) Q E s := by
 obtain ⟨h,g,d,t,os⟩ := s
 obtain ⟨bm,Nn,nm,qn,bs,hdct,sn,sub,ab,col,dd,k0,k1,k2,k3,k5,lD,hok,hni,ht⟩ := XC.obj c.ex
 have hD := X _ _ lD
 have hx := I.at_
 have hc := I.cls
 have f := tc_notTuple
 have L1 := PySem.W.looks_mroIn (M := M) X c.mb
 have L3 := PySem.W.looks_mroIn (M := M) X hb
 unfold excMatches
 repeat (first | (with_reducible refine wpAny_loadPart_at hx ?_; rw [hc]) | with_reducible refine wpAny_loadPart_at hD ?_ | with_reducible refine L1.at ?_ | with_reducible refine L3.at ?_ | wp_step)
 cases b <;> (wp_walk; exact hq)
end
theorem zK {X : Cx} {ex C : Addr} {oe : Obj} {bmB : List Value} {newId : String} (c : XC X.K C bmB newId) (hp : (ex,oe) ∈ X.pn) (hc : oe.cls = .ref C) (hd : ∃ vs,oe.data = .fields vs) (hn : oe.dict = none) :
  U2 X (.builtin "isinstance") (fun xs H Q=>∃ v u b,xs = [.ref ex,v] ∧ (∀ z,RelV v z → z = u) ∧ PySem.W.kitOne X.K (.ref C) u = some b ∧ Q (.bl b) H) := by
 intro pins s σ H xs us Q I r h
 obtain ⟨v,u,b,rfl,hv,hb,q⟩ := h
 obtain ⟨u1,w1,rfl,ru,rw'⟩ := lF r
 cases (show u1 = Value.ref ex from ru)
 cases hv w1 rw'
 have hat : s.heap.get? ex = some oe := (I.pin (ex,oe) (List.mem_append_left _ hp)).1
 exact PySem.W.kia_one (AF0 c) I.kIn (sR hat hc hd hn) hb (fun z=>nomatch z) fun tk=>⟨.bl b,H,I.tok tk,rfl,q⟩
structure Step (fs : List Addr) (g : Heap) (H : Hp) (h h' : Heap) : Prop where
 keep : ∀ b o,h.get? b = some o → (g.get? b ≠ none ∨ H b ≠ none) → b ∉ fs → h'.get? b = some o
 slot : ∀ b o,h.get? b = some o → (g.get? b ≠ none ∨ H b ≠ none) → ∃ sl,h'.get? b = some { o with slots := sl }
 there : ∀ b o,h.get? b = some o → ∃ o',h'.get? b = some o'
section
variable {fs : List Addr} {g h h' : Heap} {H H' : Hp} {P : Program} {w : World}
theorem Step.un (S : Step fs g H' h h') (u : Un fs [] H H' g h) : Un fs [] H H' g h' := by
 refine ⟨fun b o e n hb hx=>?_,fun b o e n hb hx=>?_,u.free,fun b o e hx=>?_,u.tups,u.frzs,u.tbls⟩
 ·exact S.keep b o (u.keep b o e n hb hx) (.inl (by rw [e]; exact fun z=>nomatch z)) hb
 ·obtain ⟨sl,e1⟩ := u.slot b o e n hb hx
  obtain ⟨sl',e2⟩ := S.slot b _ e1 (.inl (by rw [e]; exact fun z=>nomatch z))
  exact ⟨sl',e2⟩
 ·obtain ⟨o',e1⟩ := u.there b o e hx
  exact S.there b o' e1
theorem Step.hok (S : Step fs g H h h') (x : HOk P w H h) (nf : ∀ b ∈ fs,H b = none) : HOk P w H h' := fun b o e=>(x b o e).stay (fun c u hc r=>by
  have hc' : H c ≠ none := by
   rcases hc with rfl | hc
   ·intro z; rw [z] at e; cases e
   ·intro z; rw [z] at hc; cases hc
  exact S.keep c u r (.inr hc') fun z=>hc' (nf c z)) (fun _ q=>q) fun _ _ q=>q
end
theorem AP4 {M : Model} {A : Around} {E : Value → Shared → Prop} {s : Shared} {g : Heap} {H : Hp} {ex : Addr} {cls : Value} {fs : List Addr} {Q : Unit → Shared → Prop} (hx : ExL H g s.heap ex cls)
  (h : ∀ h',Step fs g H s.heap h' → ExL H g h' ex cls → Q () { s with heap := h' }) : wpAny M A (setFlight (.ref ex) none) Q E s := by
 obtain ⟨oe,vs,he,hc,hd,hdi,hne,hHe,hh⟩ := id hx
 unfold setFlight
 rcases hh with h1 | ⟨T,oT,ts,h1,hnT,hTe,hHT,hT,hdT,h3⟩
 ·refine wpAny_bind (wpAny_field he hd h1 ?_)
  rw [if_neg (by decide)]
  exact wpAny_pure (h s.heap ⟨fun _ _ e _ _=>e,fun b o e _=>⟨o.slots,e⟩,fun b o e=>⟨o,e⟩⟩ hx)
 ·refine wpAny_bind (wpAny_field he hd h1 ?_)
  rw [if_pos (show (Value.ref T != Value.none) = true from by simp)]
  have hs3 := (Array.getElem?_eq_some_iff.mp h3).1
  refine wpAny_setField hT hdT hs3 (h _ ?_ ?_)
  ·have ne : ∀ b,(g.get? b ≠ none ∨ H b ≠ none) → T ≠ b := fun b hb z=>by
    subst z
    rcases hb with hb | hb
    ·exact hb hnT
    ·exact hb hHT
   refine ⟨fun b o e hb _=>(Heap.get?_update_other _ _ (ne b hb)).trans e,fun b o e hb=>⟨o.slots,(Heap.get?_update_other _ _ (ne b hb)).trans e⟩,fun b o e=>?_⟩
   by_cases hb : b = T
   ·subst hb; exact ⟨_,Heap.get?_update_self _ hT (Obj.isFreed_of_fields (Obj.data_mapFields hdT _))⟩
   ·exact ⟨o,(Heap.get?_update_other _ _ (Ne.symm hb)).trans e⟩
  ·exact ⟨oe,vs,(Heap.get?_update_other _ _ hTe).trans he,hc,hd,hdi,hne,hHe,.inr ⟨T,_,_,h1,hnT,hTe,hHT,Heap.get?_update_self _ hT (Obj.isFreed_of_fields (Obj.data_mapFields hdT _)),Obj.data_mapFields hdT _,by simp [hs3]⟩⟩
end L2
namespace L2
open PySem PySem.Spec PyProof.Rows
abbrev Cx.suite (X : Cx) (ex : Addr) (oe : Obj) : Cx := { X with A := X.A.mark (some (.ref ex)),calm := false,pn := (ex,oe) :: X.pn,xe := fun _ _=>False }
abbrev Cx.tried (X : Cx) (pn : List (Addr × Obj)) (xe : Value → Shared → Prop) : Cx := { X with pn := X.pn ++ pn,xe := xe }
section
variable {X : Cx} {pins : List (Addr × Obj)} {σ σ' : St} {H : Hp} {s : Shared} {ex : Addr} {oe : Obj}
theorem Inv.suite (I : Inv X pins σ H s) (he : s.heap.get? ex = some oe) (hd : ∃ vs,oe.data = .fields vs) (hH : H ex = none) : Inv (X.suite ex oe) pins σ H s := by
 obtain ⟨vs,hd⟩ := hd
 have ok := I.ok
 refine ⟨⟨ok.mod,ok.kind,ok.glob,ok.blt,ok.above,ok.inj,ok.has,ok.cab,(fun z=>nomatch z),ok.frames,ok.stk,ok.exf,ok.bs,ok.bsz,ok.noex,ok.exfs,ok.funs,ok.frf⟩,I.os,I.bare,I.base,I.loc,I.cell,I.free,I.freeC,fun p hp=>?_,I.hok,I.len⟩
 have hp' : p ∈ ((ex,oe) :: X.pn) ++ pins := hp
 have hp3 : p = (ex,oe) ∨ p ∈ X.pn ∨ p ∈ pins := by simpa using hp'
 rcases hp3 with rfl | hp2
 ·refine ⟨he,hH,fun z=>?_,fun z=>?_,fun v z=>?_⟩
  ·obtain ⟨m,⟨o,es,ep,ho,hd',_⟩,_⟩ := I.loc
   have z' : ex = X.env.locals := z
   rw [← z',he] at ho; cases ho; rw [hd] at hd'; cases hd'
  ·obtain ⟨_,o,ho,hnf⟩ := I.funs.mem z
   have ho' : s.heap.get? ex = some o := ho
   rw [he] at ho'; cases ho'; exact hnf vs hd
  ·have z' : oe.data = .cell v := z
   rw [hd] at z'; cases z'
 ·exact I.pin p (List.mem_append.mpr hp2)
theorem Inv.unsuite (I : Inv (X.suite ex oe) pins σ H s) (ok : X.Ok) : Inv X pins σ H s :=
 ⟨ok,I.os,I.bare,I.base,I.loc,I.cell,I.free,I.freeC,fun p hp=>I.pin p (List.mem_cons_of_mem _ hp),I.hok,I.len⟩
theorem Inv.tried (I : Inv X pins σ H s) (xe : Value → Shared → Prop) : Inv (X.tried pins xe) [] σ H s := by
 have ok := I.ok
 exact ⟨⟨ok.mod,ok.kind,ok.glob,ok.blt,ok.above,ok.inj,ok.has,ok.cab,ok.hd,ok.frames,ok.stk,ok.exf,ok.bs,ok.bsz,ok.noex,ok.exfs,ok.funs,ok.frf⟩,I.os,I.bare,I.base,I.loc,I.cell,I.free,I.freeC,fun p hp=>I.pin p (by simpa using hp),I.hok,I.len⟩
theorem Inv.untried {xe : Value → Shared → Prop} {pins' : List (Addr × Obj)} (I : Inv (X.tried pins xe) pins' σ H s) (ok : X.Ok) : Inv X pins σ H s :=
 ⟨ok,I.os,I.bare,I.base,I.loc,I.cell,I.free,I.freeC,fun p hp=>I.pin p (List.mem_append_left _ hp),I.hok,I.len⟩
theorem dD {M : Model} {A : Around} {E : Value → Shared → Prop} {i : Nat} {x : Str} {pos : Pos} {Q : Unit → Shared → Prop} (I : Inv X pins σ H s) (hN : X.N.Nodup) (hi : X.N[i]? = some x) (hk : X.env.scope.names.lookup x = some .local)
  (h : ∀ s',Inv X pins (σ.set i none) H s' → Q () s') : wpAny M A (do bindName X.env x .none; unbindBehindTheSuite X.env x pos) Q E s := by
 obtain ⟨m,hn,hl⟩ := id I.loc
 have hcls : (X.env.scope.kind == .class || (X.env.scope.kind == .module && X.env.locals != X.env.globals)) = false := by rw [I.ok.kind]; rfl
 have hiσ : i < σ.length := by rw [I.len]; exact (List.getElem?_eq_some_iff.mp hi).1
 have cne := I.cne
 refine wpAny_nameGoes_keeps hk hn hcls fun h' v hn' hs=>?_
 obtain ⟨oL,_,_,hoL,_⟩ := id hn
 have tracked : HOk X.prog X.w H h' := fun b ob e=>by
  refine (I.hok b ob e).stay (fun c w' hc q=>(hs.2 c ?_).trans q) (fun _ q=>q) fun _ _ q=>q
  rintro rfl
  rcases hc with rfl | hc
  ·rw [I.free] at e; cases e
  ·rw [I.free] at hc; cases hc
 refine h _ ⟨I.ok,I.os,I.bare,⟨fun b o e n hb hx=>?_,fun b o e n hb hx=>?_,I.base.free,fun b o e hx=>?_,I.base.tups,I.base.frzs,I.base.tbls⟩,⟨_,hn',fun j y v' e1 e2 e3=>?_⟩,fun y c e=>?_,I.free,I.freeC,fun p hp=>?_,tracked,by simpa using I.len⟩
 ·exact (hs.2 b (Nat.ne_of_lt (Nat.lt_of_lt_of_le (Heap.lt_size e) I.ok.above))).trans (I.base.keep b o e n hb hx)
 ·obtain ⟨sl,e1⟩ := I.base.slot b o e n hb hx
  exact ⟨sl,(hs.2 b (Nat.ne_of_lt (Nat.lt_of_lt_of_le (Heap.lt_size e) I.ok.above))).trans e1⟩
 ·obtain ⟨o',e1⟩ := I.base.there b o e hx
  exact ⟨o',(hs.2 b (Nat.ne_of_lt (Nat.lt_of_lt_of_le (Heap.lt_size e) I.ok.above))).trans e1⟩
 ·by_cases hj : j = i
  ·subst hj
   rw [List.getElem?_set_self hiσ] at e2
   cases e2
  ·rw [List.getElem?_set_ne (Ne.symm hj)] at e2
   obtain ⟨u',r',q⟩ := hl j y v' e1 e2 e3
   refine ⟨u',r',?_⟩
   rcases q with ⟨k,e⟩ | ⟨k,c,e,z⟩
   ·refine .inl ⟨k,?_⟩
    have : y ≠ x := fun e=>hj (kW hN e1 (e ▸ hi))
    simp [this,e]
   ·exact .inr ⟨k,c,e,z.sameBut hs (cne y c e)⟩
 ·obtain ⟨w',z⟩ := I.cell y c e
  exact ⟨w',z.sameBut hs (cne y c e)⟩
 ·obtain ⟨e,n,ne,nf,d⟩ := I.pin p hp
  exact ⟨(hs.2 p.1 ne).trans e,n,ne,nf,d⟩
theorem AX5 {E : XK} {e : Value} {s' : Shared} {Q : Unit → Shared → Prop} {E' : Value → Shared → Prop} (I : Inv X pins σ H s) (hst : X.stack = X.env :: X.outer) (hf : X.env.frame = some X.env.locals) (hx : N0 X.prog X.w X.stack H s E e s')
  (h : ∀ ex cls H' h',e = .ref ex → E cls none H' → Inv X pins σ H' { s' with heap := h' } → ExL H' s.heap h' ex cls → Un (Q1 X.stack) [] H H' s.heap h' → Q () { s' with heap := h' }) :
  wpAny (model X.prog X.w) X.A (noteFrame e X.env) (fun _ s1=>wpAny (model X.prog X.w) X.A (setFlight e none) Q E' s1) E' s' := by
 obtain ⟨ex,cls,H',rfl,os,bare,un,hok,hx,q⟩ := hx
 obtain ⟨hh,g,d,t,os'⟩ := s'
 obtain rfl : os' = s.os := os
 have J := I.call (h' := hh) (g' := g) (d' := d) (t' := t) (ch := []) un hok bare (fun b z=>absurd z (by simp))
 refine mE J hst hf hx (fun b z=>?_) fun h' k1 k2 k3 hx'=>?_
 ·cases e : s.heap.get? b with
  | none=>rfl
  | some o =>
   obtain ⟨o',e'⟩ := un.there b o e (by simp)
   exact absurd (Nat.lt_of_lt_of_le (Heap.lt_size e') z) (Nat.lt_irrefl _)
 have S : Step (Q1 X.stack) s.heap H' hh h' := ⟨k1,k2,k3⟩
 have un' := S.un un
 have hok' := S.hok hok J.stkFree
 have J' := I.call (h' := h') (g' := g) (d' := d) (t' := t) (ch := []) un' hok' bare (fun b z=>absurd z (by simp))
 exact h ex cls H' h' rfl q J' hx' un'
end
def BE1 (n i : Nat) (C : Addr) (tb : XK → TS) (ts : Addr → TS) : TS := fun D σ H =>
 tb (fun c _ H'=>c = .ref C ∧ ∀ (σ' : St) (ex : Addr),σ'.length = n → H' ex = none → ts ex { nx := fun σ2 H2=>D.nx (σ2.set i none) H2,rt := D.rt,bk := fun σ2 H2=>D.bk (σ2.set i none) H2,ct := fun σ2 H2=>D.ct (σ2.set i none) H2 } (σ'.set i (some (.ref ex))) H') D σ H
theorem AS6 {X : Cx} {C M : Addr} {bmB bmM : List Value} {idC idM : String} {x n : Str} {i : Nat} {body : List Stmt} {b₀ : Stmt} {suite : List Stmt} {np hpos pos : Pos} {tb : XK → TS} {ts : Addr → TS}
  (hst : X.stack = X.env :: X.outer) (hf : X.env.frame = some X.env.locals) (cC : XC X.K C bmB idC) (cM : XC X.K M bmM idM) (hb : PySem.W.mroIn X.K C (.ref M) = some true) (hg : Gl X x) (hm : X.mg x = some (.ref M))
  (hN : X.N.Nodup) (hi : X.N[i]? = some n) (hk : X.env.scope.names.lookup n = some .local)
  (hbody : ∀ (pn : List (Addr × Obj)) (xe : Value → Shared → Prop) (E : XK),T1 (N0 X.prog X.w) (X.tried pn xe) E → PSs (X.tried pn xe) body (tb E))
  (hsuite : ∀ (ex : Addr) (oe : Obj),oe.cls = .ref C → (∃ vs,oe.data = .fields vs) → oe.dict = none → PSs (X.suite ex oe) (b₀ :: suite) (ts ex)) (hdb : (x == ("__debug__" : Str)) = false := by decide) :
  PS X (.Try body [.ExceptHandler (some (.Name x np)) (some n) (b₀ :: suite) hpos] [] [] pos) (BE1 X.N.length i C tb ts) := by
 intro pins s σ H D I h
 refine wpAny_Try_except (wpAny_mono (hbody pins _ _ ?_ [] s σ H D (I.tried _) h) (fun f s1 h1=>?_) fun e s1 h1=>h1)
 ·intro pins' σ' H' s' e s'' I' hx
  have I0 : Inv X pins σ' H' s' := I'.untried I.ok
  refine AX5 I0 hst hf hx fun ex cls H1 h' he hE J hex un=>?_
  subst he
  obtain ⟨rfl,hE⟩ := hE
  obtain ⟨oe,vs,he,hc,hd,hdi,hne,hHe,hh⟩ := id hex
  have Js := J.suite he ⟨vs,hd⟩ hHe
  refine wpAny_handleBy_cons (codeAny_handlers_test (cB (X := X.suite ex oe) Js hg hm ?_ hdb)) (by intro q; cases q)
  refine tR Js.kIn (sR he hc ⟨vs,hd⟩ hdi) cM hb ?_
  refine codeAny_handlers_suite_as ?_
  refine AP4 (fs := Q1 X.stack) hex fun h2 S hex2=>?_
  have un2 := S.un un
  have hok2 := S.hok J.hok J.stkFree
  obtain ⟨oe2,vs2,he2,hc2,hd2,hdi2,hne2,hHe2,hh2⟩ := id hex2
  have J2 : Inv X pins σ' H1 { s'' with heap := h2 } := by
   have os1 : s''.os = s'.os := J.os.trans I0.os.symm
   obtain ⟨hh,gg,dd,tt,oo⟩ := s''
   obtain rfl : oo = s'.os := os1
   have J' := I0.call (h' := h2) (g' := gg) (d' := dd) (t' := tt) (ch := []) un2 hok2 J.bare (fun b z=>absurd z (by simp))
   exact J'
  have J2s := J2.suite he2 ⟨vs2,hd2⟩ hHe2
  refine gD (X := X.suite ex oe2) J2s hN hi (.inl hk) (v := .ref ex) rfl (fun s3 J3=>?_) (.inr hk)
  refine wpAny_mono (hsuite ex oe2 hc2 ⟨vs2,hd2⟩ hdi2 pins s3 _ H1 _ J3 (hE σ' ex J.len hHe2)) (fun f s4 h4=>?_) fun e s4 h4=>False.elim h4
  show wpAny _ X.A (do bindName X.env n .none; unbindBehindTheSuite X.env n hpos) (fun _ s5=>SP X pins D f s5) X.xe s4
  cases f with
  | next=>obtain ⟨σ5,H5,J5,q⟩ := h4; exact dD (J5.unsuite I.ok) hN hi hk fun s6 J6=>⟨_,_,J6,q⟩
  | brk=>obtain ⟨σ5,H5,J5,q⟩ := h4; exact dD (J5.unsuite I.ok) hN hi hk fun s6 J6=>⟨_,_,J6,q⟩
  | cont=>obtain ⟨σ5,H5,J5,q⟩ := h4; exact dD (J5.unsuite I.ok) hN hi hk fun s6 J6=>⟨_,_,J6,q⟩
  | ret u=>obtain ⟨v,σ5,H5,J5,r,q⟩ := h4; exact dD (J5.unsuite I.ok) hN hi hk fun s6 J6=>⟨v,_,_,J6,r,q⟩
 ·cases f with
  | next =>
   obtain ⟨σ5,H5,J5,q⟩ := h1
   exact D6 pins s1 σ5 H5 D (J5.untried I.ok) q
  | brk=>obtain ⟨σ5,H5,J5,q⟩ := h1; exact ⟨σ5,H5,J5.untried I.ok,q⟩
  | cont=>obtain ⟨σ5,H5,J5,q⟩ := h1; exact ⟨σ5,H5,J5.untried I.ok,q⟩
  | ret u=>obtain ⟨v,σ5,H5,J5,r,q⟩ := h1; exact ⟨v,σ5,H5,J5.untried I.ok,r,q⟩
end L2
namespace L2
open PySem PySem.Spec PyProof.Rows
def M4 (cells : List (Str × Addr)) : List (Str × NameKind) → List (Str × Addr) → List (Str × Addr)
 | [],cs=>cs
 | (n,k) :: r,cs=>if k == .free then M4 cells r ((n,(cells.lookup n).getD 0) :: cs) else M4 cells r cs
theorem bH {env : Env} : ∀ (names : List (Str × NameKind)) (cs : List (Str × Addr)),(∀ x ∈ names,x.2 = .free → ∃ c,env.cells.lookup x.1 = some c) →
  (forIn names cs fun (x : Str × NameKind) (r : List (Str × Addr))=>(match x with | (name,kind)=>if (kind == .free) = true then do let c ← cellOf env name; pure (ForInStep.yield ((name,c) :: r)) else pure (ForInStep.yield r) : Sem (ForInStep (List (Str × Addr))))) = (pure (M4 env.cells names cs) : Sem (List (Str × Addr)))
 | [],cs,_=>rfl
 | (n,k) :: r,cs,h=>by
  rw [List.forIn_cons]
  have hr : ∀ x ∈ r,x.2 = .free → ∃ c,env.cells.lookup x.1 = some c := fun x hx=>h x (List.mem_cons_of_mem _ hx)
  by_cases hk : (k == NameKind.free) = true
  ·obtain ⟨c,hc⟩ := h (n,k) List.mem_cons_self (by simpa using hk)
   have e : cellOf env n = pure c := by unfold cellOf; rw [hc]
   simp only [hk,↓reduceIte,e,pure_bind]
   rw [bH r _ hr]
   simp only [M4,hk,↓reduceIte,hc,Option.getD_some]
  ·simp only [hk,↓reduceIte,Bool.false_eq_true,pure_bind]
   rw [bH r _ hr]
   simp only [M4,hk,↓reduceIte,Bool.false_eq_true]
theorem bI {env : Env} {scope : Scope} (h : ∀ x ∈ scope.names,x.2 = .free → ∃ c,env.cells.lookup x.1 = some c) : closureFor scope env = pure (M4 env.cells scope.names []) := by
 unfold closureFor
 have e := bH (env := env) scope.names [] h
 simp only [bind_pure]
 exact e
theorem Y2 {cells : List (Str × Addr)} {x : Str} {c : Addr} : ∀ (names : List (Str × NameKind)) (cs : List (Str × Addr)),(∀ y ∈ names,y.2 = .free → ∃ c,cells.lookup y.1 = some c) → (∀ c,cs.lookup x = some c → cells.lookup x = some c) →
  (M4 cells names cs).lookup x = some c → cells.lookup x = some c
 | [],cs,_,h,e=>h c e
 | (n,k) :: r,cs,hh,h,e=>by
  have hr : ∀ x ∈ r,x.2 = .free → ∃ c,cells.lookup x.1 = some c := fun x hx=>hh x (List.mem_cons_of_mem _ hx)
  by_cases hk : (k == NameKind.free) = true
  ·simp only [M4,hk,if_true] at e
   refine Y2 r _ hr (fun c' e'=>?_) e
   rw [List.lookup_cons] at e'
   obtain ⟨c0,hc0⟩ := hh (n,k) List.mem_cons_self (by simpa using hk)
   cases hx : x == n with
   | true =>
    rw [hx] at e'
    have hxn : x = n := by simpa using hx
    subst hxn
    have hc0' : cells.lookup x = some c0 := hc0
    rw [hc0'] at e'
    simp only [Option.getD_some] at e'
    rw [hc0']; exact e'
   | false=>rw [hx] at e'; exact h c' e'
  ·simp only [M4,hk,if_false] at e
   exact Y2 r cs hr h e
theorem eQ {cells : List (Str × Addr)} {x : Str} : ∀ (names : List (Str × NameKind)) (cs : List (Str × Addr)),(∃ c,cs.lookup x = some c) → ∃ c,(M4 cells names cs).lookup x = some c
 | [],cs,h=>h
 | (n,k) :: r,cs,⟨c,h⟩=>by
  by_cases hk : (k == NameKind.free) = true
  ·simp only [M4,hk,if_true]
   refine eQ r _ ?_
   rw [List.lookup_cons]
   cases hx : x == n with
   | true=>exact ⟨_,rfl⟩
   | false=>exact ⟨c,h⟩
  ·simp only [M4,hk,if_false]
   exact eQ r cs ⟨c,h⟩
theorem bT {cells : List (Str × Addr)} {x : Str} : ∀ (names : List (Str × NameKind)) (cs : List (Str × Addr)),names.lookup x = some .free → ∃ c,(M4 cells names cs).lookup x = some c
 | [],cs,h=>by simp at h
 | (n,k) :: r,cs,h=>by
  rw [List.lookup_cons] at h
  cases hx : x == n with
  | true =>
   rw [hx] at h
   cases h
   simp only [M4,beq_self_eq_true,if_true]
   refine eQ r _ ⟨(cells.lookup n).getD 0,?_⟩
   rw [List.lookup_cons,hx]
  | false =>
   rw [hx] at h
   by_cases hk : (k == NameKind.free) = true
   ·simp only [M4,hk,if_true]
    exact bT r _ h
   ·simp only [M4,hk,if_false]
    exact bT r cs h
theorem cK {env : Env} : ∀ {names : List (Str × NameKind)} {x : Str} {k : NameKind},
  (names.map fun (n,k)=>if (k == NameKind.free && env.scope.kind == .function && env.kindOf n == some .cell) then (n,NameKind.cell) else (n,k)).lookup x = some k → k = .cell ∨ k = .free →
  (∀ y ∈ names,y.2 ≠ .cell) → names.lookup x = some .free
 | [],_,_,h,_,_=>by simp at h
 | (n,k') :: r,x,k,h,hk,hc=>by
  have ih := @cK env r x k
  have hc' : ∀ y ∈ r,y.2 ≠ .cell := fun y hy=>hc y (List.mem_cons_of_mem _ hy)
  have hc0 : k' ≠ .cell := hc (n,k') List.mem_cons_self
  have h : List.lookup x ((if (k' == NameKind.free && env.scope.kind == .function && env.kindOf n == some .cell) = true then (n,NameKind.cell) else (n,k')) :: _) = _ := h
  cases hx : x == n with
  | true =>
   rw [List.lookup_cons,hx]
   by_cases hq : (k' == NameKind.free && env.scope.kind == .function && env.kindOf n == some .cell) = true
   ·have : (k' == NameKind.free) = true := by
     cases hz : (k' == NameKind.free)
     ·rw [hz] at hq; simp at hq
     ·rfl
    have e : k' = .free := by simpa using this
    rw [e]
   ·rw [if_neg hq] at h
    simp only [List.lookup_cons,hx] at h
    cases h
    rcases hk with e | e
    ·exact absurd e hc0
    ·rw [e]
  | false =>
   rw [List.lookup_cons,hx]
   refine ih ?_ hk hc'
   by_cases hq : (k' == NameKind.free && env.scope.kind == .function && env.kindOf n == some .cell) = true
   ·rw [if_pos hq] at h; simp only [List.lookup_cons,hx] at h; exact h
   ·rw [if_neg hq] at h; simp only [List.lookup_cons,hx] at h; exact h
def Q7 (X : Cx) (scope : Scope) (N' : List Str) (C : Addr) (fp : List Addr) (s : Shared) (H : Hp) : Cx :=
  { prog := X.prog, w := X.w, K := X.K, mg := X.mg, base := X.base, A := X.A, N := N', s₀ := s, H₀ := H, env := compEnvC scope (M4 X.env.cells scope.names []) C X.env,
    outer := X.stack, stack := X.stack, ex := fp, fn := fun _ => false, calm := X.calm, pn := [], xe := fun _ _ => False }
def oO (own : List Nat) (g : TG) : Prop := ∀ v σ H Q,g v σ H Q → g v σ H fun σ' H'=>Q σ' H' ∧ σ'.length = σ.length ∧ ∀ i,i ∉ own → σ'[i]? = σ[i]?
theorem R1 (j : Nat) : oO [j] (U0 j) := fun v σ H Q h=>⟨h,by simp,fun i hi=>by
 have : j ≠ i := fun e=>hi (by simp [e])
 rw [List.getElem?_set_ne this]⟩
def tF (X : Cx) (ifs : List Expr) (t : TT) : Prop :=
 ∀ (pins : List (Addr × Obj)) (s : Shared) (σ : St) (H : Hp) (Q : Bool → Hp → Prop),Inv X pins σ H s → t σ H Q →
  wpAny (model X.prog X.w) X.A (forIn ifs true fun c r=>if r = true then do let ok ← isTrue c X.env (eval c X.env); pure (ForInStep.yield ok) else pure (ForInStep.yield r)) (TP X pins σ Q) X.xe s
def AQ4 : TT := fun _ H Q=>Q true H
theorem U5 {X : Cx} : tF X [] AQ4 := fun _ _ _ H _ I h=>wpAny_tests_nil ⟨H,I,h⟩
theorem AM0 {X : Cx} {c : Expr} {t : TT} (h : PT X c t) : tF X [c] t := fun pins s σ H Q I q=>wpAny_tests_one (h pins s σ H Q I q)
theorem sV {prog : Program} {w : World} {A : Around} {R : Result → Shared → Prop} {s : Shared} {elt target iter : Expr} {ifs : List Expr} {scope : Scope} {pos : Pos} {it acc : Value} {env : Env} (I : Nat → Shared → Prop)
  (turn : ∀ n s,I n s → wpAny (model prog w) A (pyNext it) (fun r s₁=>match r with
   | none=>R (.ok .next) s₁
   | some v=>wpAny (model prog w) A (letOwnedTupleGo target it v) (fun _ s₁'=>wpAny (model prog w) A (assign target env v) (fun _ s₂ =>
     wpAny (model prog w) A (forIn ifs true fun c r=>if r = true then do let ok ← isTrue c env (eval c env); pure (ForInStep.yield ok) else pure (ForInStep.yield r)) (fun ok s₃ =>
      if ok = true then wpAny (model prog w) A (eval elt env) (fun x s₄ =>
       wpAny (model prog w) A (call (.builtin "list.append") [acc,x]) (fun _ s₅=>∃ m,m < n ∧ I m s₅) (fun _ _=>False) s₄) (fun _ _=>False) s₃
      else ∃ m,m < n ∧ I m s₃) (fun _ _=>False) s₂) (fun _ _=>False) s₁') (fun _ _=>False) s₁) (fun _ _=>False) s)
  (n : Nat) (h : I n s) : codeAny (model prog w) A (.compLoop (.ListComp elt [⟨target,iter,ifs,0⟩] scope pos) 0 it acc env) R s := by
 refine codeAny_loop rfl I (fun n s hI=>?_) n h
 show wpAny _ A ((compTurn (.ListComp elt [⟨target,iter,ifs,0⟩] scope pos) 0 it acc env).onRaise (fun x=>do noteFrame x env; theTreesLotGoes x)) _ _ s
 refine wpAny_noted ?_
 rw [compTurn_list]
 refine wpAny_bind (wpAny_standAt (wpAny_bind (wpAny_mono (turn n s hI) (fun r s₁ h₁=>?_) fun _ _ h'=>h'.elim)))
 cases r with
 | none=>exact wpAny_pure h₁
 | some v =>
  refine wpAny_bind (wpAny_mono h₁ (fun _ s₁' h₁'=>?_) fun _ _ h'=>h'.elim)
  refine wpAny_bind (wpAny_mono h₁' (fun _ s₂ h₂=>wpAny_bind (wpAny_mono h₂ (fun ok s₃ h₃=>?_) fun _ _ h'=>h'.elim)) fun _ _ h'=>h'.elim)
  cases ok with
  | false=>exact wpAny_pure ⟨rfl,h₃⟩
  | true =>
   exact wpAny_bind (wpAny_bind (wpAny_mono h₃ (fun x s₄ h₄=>wpAny_bind (wpAny_mono h₄ (fun _ s₅ h₅=>wpAny_pure (wpAny_pure ⟨rfl,h₅⟩)) fun _ _ h'=>h'.elim)) fun _ _ h'=>h'.elim))
def X3 (fr : List (Option Nat)) (σ : St) : St := fr.map fun o=>o.bind fun j=>(σ[j]?).join
def mV (J : It) (fr : List (Option Nat)) (g : TG) (ti : TT) (te : TE) (σ : St) (H1 : Hp) (l : Addr) (Q : VK) : Prop :=
 ∃ W : Nat → Nat → List V → Hp → Prop,(∃ m,W 0 m [] (D5 H1 l (.lst []))) ∧ ∀ i m ys H',W i m ys H' →
  (J.stop i H' ∧ Q (.ref l) H') ∨ (J.go i H' ∧ ∃ N : List V → Hp → Prop,(∀ zs H'',N zs H'' → ∃ m',m' < m ∧ W (i + 1) m' zs H'') ∧ ∀ x H2,J.yld i H' x H2 → g x (X3 fr σ) H2 fun σ3 H3=>ti σ3 H3 fun b H4=>if b = true then
   te σ3 H4 fun y H5=>H5 l = some (.lst ys) ∧ ys.length < sizeLine ∧ N (ys ++ [y]) (D5 H5 l (.lst (ys ++ [y]))) else N ys H4)
def vR (wi : TI) (fr : List (Option Nat)) (g : TG) (ti : TT) (te : TE) : TE := fun σ H Q=>wi σ H fun J H1=>∀ l,H1 l = none → mV J fr g ti te σ H1 l Q
structure CompOk (X : Cx) (scope : Scope) (N' : List Str) (fr : List (Option Nat)) (own : List Nat) : Prop where
 kind : scope.kind = .function
 cell : (scope.names.all fun x=>x.2 != .cell) = true
 names : (scope.names.all fun x=>x.2 != .local || scope.names.lookup x.1 == some .local) = true
 free : (scope.names.all fun x=>x.2 != .free || X.env.scope.names.lookup x.1 == some .cell || X.env.scope.names.lookup x.1 == some .free) = true
 len : N'.length = fr.length
 from_ : ((N'.zip fr).all fun p=>match p.2 with | none=>true | some j=>X.N[j]? == some p.1 && (scope.names.lookup p.1 == some .free)) = true
 own_ : (own.all fun j=>fr[j]? == some none) = true
section
variable {X : Cx} {scope : Scope} {N' : List Str} {fr : List (Option Nat)} {own : List Nat} {elt tg iter : Expr} {ifs : List Expr} {wi : TI} {g : TG} {ti : TT} {te : TE} {pos : Pos}
theorem CompOk.hcell (c : CompOk X scope N' fr own) : ∀ y ∈ scope.names,y.2 ≠ .cell := fun y hy e=>by
 have := List.all_eq_true.mp c.cell y hy
 rw [e] at this
 exact absurd this (by decide)
theorem CompOk.hnames (c : CompOk X scope N' fr own) : ∀ y ∈ scope.names,y.2 = .local → scope.names.lookup y.1 = some .local := fun y hy e=>by
 have := List.all_eq_true.mp c.names y hy
 rw [e] at this
 simpa using this
theorem CompOk.hfree (c : CompOk X scope N' fr own) {pins : List (Addr × Obj)} {σ : St} {H : Hp} {s : Shared} (I : Inv X pins σ H s) : ∀ y ∈ scope.names,y.2 = .free → ∃ c,X.env.cells.lookup y.1 = some c := fun y hy e=>by
 have := List.all_eq_true.mp c.free y hy
 rw [e] at this
 refine I.ok.has y.1 ?_
 have z : X.env.scope.names.lookup y.1 = some .cell ∨ X.env.scope.names.lookup y.1 = some .free := by simpa using this
 exact z
theorem mQ {pins : List (Addr × Obj)} {σ : St} {H : Hp} {s : Shared} {fp : List Addr} {h₁ : Heap} {m : Str → Option Value} {tk : Nat} (c : CompOk X scope N' fr own) (hc : X.calm = true) (I : Inv X pins σ H s) (hfp : ∀ b ∈ fp,Z2 X pins H b) (hlt : ∀ b ∈ fp,b < s.heap.objs.size)
  (hns : h₁.Ns s.heap.objs.size m) (hk : ∀ b o,s.heap.get? b = some o → h₁.get? b = some o) :
  Inv (Q7 X scope N' s.heap.objs.size fp s H) [] (X3 fr σ) H { s with heap := h₁,toks := tk } := by
 have hfree := c.hfree I
 have look : ∀ x cc,(M4 X.env.cells scope.names []).lookup x = some cc → X.env.cells.lookup x = some cc := fun x cc e=>Y2 _ _ hfree (by intro c' e'; simp at e') e
 have cellAt : ∀ x cc,X.env.cells.lookup x = some cc → ∃ v,h₁.IsCell cc v := fun x cc e=>by
  obtain ⟨v,o,ho,hd⟩ := I.cell x cc e
  exact ⟨v,o,hk _ _ ho,hd⟩
 have ok : (Q7 X scope N' s.heap.objs.size fp s H).Ok := by
  refine ⟨I.ok.mod,c.kind,I.ok.glob,I.ok.blt,Nat.le_refl _,fun x y cc h1 h2=>I.ok.inj x y cc (look x cc h1) (look y cc h2),fun x h=>?_,fun x cc h=>absurd h Bool.false_ne_true,I.ok.hd,I.ok.frames,.inl rfl,fun b hb=>⟨Nat.ne_of_lt (hlt b hb),fun x cc e=>(hfp b hb).2.2.2.2.1 x cc (look x cc e)⟩,
   fun b o e=>I.bs b o e,Nat.le_trans I.ok.bsz I.sz,fun b o e hb=>?_,fun b hb hz=>?_,I.stack,I.stkFree⟩
  ·have z : scope.names.lookup x = some .free := by
    rcases h with h | h
    ·exact cK (env := X.env) h (.inl rfl) c.hcell
    ·exact cK (env := X.env) h (.inr rfl) c.hcell
   exact bT _ _ z
  ·rcases (hfp b hb).2.2.2.1 with z | z
   ·exact I.ok.noex b o e z
   ·exact absurd (Nat.lt_of_lt_of_le (Heap.lt_size e) (Nat.le_trans I.ok.bsz z)) (Nat.lt_irrefl _)
  ·rcases List.mem_cons.mp (I.stkSub b hz) with e | e
   ·exact (hfp b hb).2.1 e
   ·exact (hfp b hb).2.2.1 e
 refine ⟨ok,rfl,I.bare,Un.kept hk,⟨m,hns,fun i x v e1 e2 hv=>?_⟩,fun x cc e=>cellAt x cc (look x cc e),I.fresh,fun x cc e=>I.freeC x cc (look x cc e),fun p hp=>by simp [Q7] at hp,I.hok.kept hk,?_⟩
 ·
  have e1 : N'[i]? = some x := e1
  have e2 : (fr.map fun o=>o.bind fun j=>(σ[j]?).join)[i]? = some (some v) := e2
  rw [List.getElem?_map] at e2
  cases hfi : fr[i]? with
  | none=>rw [hfi] at e2; simp at e2
  | some o =>
   rw [hfi] at e2
   simp only [Option.map_some,Option.some.injEq] at e2
   cases o with
   | none=>simp at e2
   | some j =>
    have e3 : (σ[j]?).join = some v := by simpa using e2
    have e4 : σ[j]? = some (some v) := by
     cases hz : σ[j]? with
     | none=>rw [hz] at e3; simp at e3
     | some z=>rw [hz] at e3; simp at e3; rw [e3]
    have hm : (x,some j) ∈ N'.zip fr := by
     have : (N'.zip fr)[i]? = some (x,some j) := by rw [List.getElem?_zip_eq_some]; exact ⟨e1,hfi⟩
     exact List.mem_of_getElem? this
    have hz := List.all_eq_true.mp c.from_ _ hm
    have hz : (X.N[j]? == some x && (scope.names.lookup x == some .free)) = true := hz
    have hz1 : X.N[j]? = some x ∧ scope.names.lookup x = some .free := by simpa using hz
    obtain ⟨m0,hn0,hl0⟩ := I.loc
    have hxf : (X.env.scope.names.lookup x = some .cell ∨ X.env.scope.names.lookup x = some .free) := by
     have hmem : (x,NameKind.free) ∈ scope.names := PySem.mem_of_lookup hz1.2
     have := List.all_eq_true.mp c.free _ hmem
     simpa using this
    have vis : vI X.env.scope x := .inr hxf
    obtain ⟨u,ru,lk⟩ := hl0 j x v hz1.1 e4 vis
    refine ⟨u,ru,?_⟩
    rcases lk with ⟨k,_⟩ | ⟨k,cc,ec,hcell⟩
    ·have k : X.env.scope.names.lookup x = some .local := k
     rcases hxf with h | h
     ·rw [h] at k; cases k
     ·rw [h] at k; cases k
    ·obtain ⟨c2,hc2⟩ := bT (cells := X.env.cells) (x := x) scope.names [] hz1.2
     have := look x c2 hc2
     rw [ec] at this
     cases this
     refine .inr ⟨?_,cc,hc2,?_⟩
     ·rcases hv with h | h
      ·
       exfalso
       have hl : ∀ (names : List (Str × NameKind)),names.lookup x = some .free → (names.map fun (n,k)=>if (k == NameKind.free && X.env.scope.kind == .function && X.env.kindOf n == some .cell) then (n,NameKind.cell) else (n,k)).lookup x ≠ some .local := by
        intro names
        induction names with
        | nil=>intro h; simp at h
        | cons p r ih =>
         obtain ⟨n,k⟩ := p
         intro h hh
         have hh : List.lookup x ((if (k == NameKind.free && X.env.scope.kind == .function && X.env.kindOf n == some .cell) = true then (n,NameKind.cell) else (n,k)) :: _) = _ := hh
         rw [List.lookup_cons] at h
         cases hx : x == n with
         | true =>
          rw [hx] at h
          cases h
          by_cases hq : (NameKind.free == NameKind.free && X.env.scope.kind == .function && X.env.kindOf n == some .cell) = true
          ·rw [if_pos hq] at hh; simp [List.lookup_cons,hx] at hh
          ·rw [if_neg hq] at hh; simp [List.lookup_cons,hx] at hh
         | false =>
          rw [hx] at h
          by_cases hq : (k == NameKind.free && X.env.scope.kind == .function && X.env.kindOf n == some .cell) = true
          ·rw [if_pos hq] at hh; simp only [List.lookup_cons,hx] at hh; exact ih h hh
          ·rw [if_neg hq] at hh; simp only [List.lookup_cons,hx] at hh; exact ih h hh
       exact hl _ hz1.2 h
      ·exact h
     ·obtain ⟨o,ho,hd⟩ := hcell
      exact ⟨o,hk _ _ ho,hd⟩
 ·show (fr.map _).length = N'.length
  rw [List.length_map,c.len]
theorem mR {pins : List (Addr × Obj)} {σ : St} {H2 : Hp} {s2 : Shared} {it : Addr} {fp : List Addr} {tn : Nat → Heap → Prop} {J : It} {Q : VK} {RR : Value → Addr → Result → Shared → Prop} {E : Value → Shared → Prop} (c : CompOk X scope N' fr own) (hc : X.calm = true)
  (hg : ∀ C fp s H,PG (Q7 X scope N' C fp s H) tg g) (ho : oO own g) (ht : ∀ C fp s H,tF (Q7 X scope N' C fp s H) ifs ti) (he : ∀ C fp s H,PE (Q7 X scope N' C fp s H) elt te)
  (I2 : Inv X pins σ H2 s2) (T : hW X.prog X.w X.K tg J fp it tn) (st2 : tn 0 s2.heap) (f2 : ∀ b ∈ fp,Z2 X pins H2 b)
  (R : ∀ l,H2 l = none → ∃ W : Nat → Nat → List V → Hp → Prop,(∃ m,W 0 m [] (D5 H2 l (.lst []))) ∧ ∀ i m ys H',W i m ys H' →
   (J.stop i H' ∧ Q (.ref l) H') ∨ (J.go i H' ∧ ∃ N : List V → Hp → Prop,(∀ zs H'',N zs H'' → ∃ m',m' < m ∧ W (i + 1) m' zs H'') ∧ ∀ x H2,J.yld i H' x H2 → g x (X3 fr σ) H2 fun σ3 H3=>ti σ3 H3 fun b H4=>if b = true then
    te σ3 H4 fun y H5=>H5 l = some (.lst ys) ∧ ys.length < sizeLine ∧ N (ys ++ [y]) (D5 H5 l (.lst (ys ++ [y]))) else N ys H4))
  (fin : ∀ l C s' H',Inv X pins σ H' s' → (∃ m,s'.heap.Ns C m) → H' C = none → s2.heap.objs.size ≤ C → Q (.ref l) H' → RR (.ref l) C (.ok .next) s') :
  wpAny (model X.prog X.w) X.A (newList []) (fun acc s₃=>wpAny (model X.prog X.w) X.A (newFunctionEnv scope X.env.globals (M4 X.env.cells scope.names []) [] X.env.qual none .none (some X.env)) (fun cenv s₄ =>
   codeAny (model X.prog X.w) X.A (.compStart (.ListComp elt [⟨tg,iter,ifs,0⟩] scope pos) 0 (.ref it) acc { cenv with scope := relabel scope X.env }) (RR acc cenv.locals) s₄) E s₃) E s2 := by
 refine wpAny_newObj_type (wpAny_newFunctionEnv c.hcell (by intro y hy; simp at hy) (fun h₁ hns₁ hsb₁=>?_) c.kind)
 dsimp only at hns₁ hsb₁ ⊢
 have I3 : Inv X pins σ (D5 H2 s2.heap.objs.size (.lst [])) { s2 with heap := s2.heap.push { cls := .type "list",data := .seq ([] : List Value).toArray } } := I2.lnew (its := []) (t' := s2.toks) .nil (Nat.zero_le _)
 have hl := I2.fresh
 obtain ⟨W,⟨m0,w0⟩,turn⟩ := R _ hl
 generalize hs3 : ({ s2 with heap := s2.heap.push { cls := .type "list",data := .seq ([] : List Value).toArray } } : Shared) = s3 at I3
 have hh3 : s2.heap.push { cls := .type "list",dict := none,data := .seq ([] : List Value).toArray } = s3.heap := by rw [← hs3]
 have hz3 : s3.heap.objs.size = s2.heap.objs.size + 1 := by rw [← hs3]; exact Heap.size_push ..
 have up23 : ∀ b o,s2.heap.get? b = some o → s3.heap.get? b = some o := fun b o e=>by rw [← hh3]; exact Heap.get?_push_of_some _ e
 have objs : ∀ b ∈ fp,∃ o,s2.heap.get? b = some o ∧ ∀ v,o.data ≠ .cell v := T.obj _ _ st2
 have lt2 : ∀ b ∈ fp,b < s2.heap.objs.size := fun b hb=>by obtain ⟨o,e,_⟩ := objs b hb; exact Heap.lt_size e
 have f3 : ∀ b ∈ fp,Z2 X pins (D5 H2 s2.heap.objs.size (.lst [])) b := fun b hb=>⟨by rw [B5 (Nat.ne_of_lt (lt2 b hb))]; exact (f2 b hb).1,(f2 b hb).2⟩
 have st3 : tn 0 s3.heap := T.keep _ _ _ st2 fun b _ o e=>up23 b o e
 rw [hh3] at hns₁ hsb₁ ⊢
 have up34 : ∀ b o,s3.heap.get? b = some o → h₁.get? b = some o := fun b o e=>hsb₁.extBut b o (Nat.ne_of_lt (Heap.lt_size e)) (Heap.get?_push_of_some _ e)
 have I4 : Inv (Q7 X scope N' s3.heap.objs.size fp s3 (D5 H2 s2.heap.objs.size (.lst []))) [] (X3 fr σ) (D5 H2 s2.heap.objs.size (.lst [])) { s3 with heap := h₁,toks := s2.toks + ([] : List (Str × Value)).length } :=
  mQ c hc I3 f3 (fun b hb=>by rw [hz3]; exact Nat.lt_succ_of_lt (lt2 b hb)) hns₁ up34
 generalize hXX : Q7 X scope N' s3.heap.objs.size fp s3 (D5 H2 s2.heap.objs.size (.lst [])) = X' at I4
 have hg' := hg s3.heap.objs.size fp s3 (D5 H2 s2.heap.objs.size (.lst []))
 have ht' := ht s3.heap.objs.size fp s3 (D5 H2 s2.heap.objs.size (.lst []))
 have he' := he s3.heap.objs.size fp s3 (D5 H2 s2.heap.objs.size (.lst []))
 rw [hXX] at hg' ht' he'
 have eP : X'.prog = X.prog := by rw [← hXX]; rfl
 have eW : X'.w = X.w := by rw [← hXX]; rfl
 have eK : X'.K = X.K := by rw [← hXX]; rfl
 have eA : X'.A = X.A := by rw [← hXX]; rfl
 have eC : X'.calm = true := by rw [← hXX]; exact hc
 have eX : X'.xe = fun _ _=>False := by rw [← hXX]; rfl
 have eE : X'.env = compEnvC scope (M4 X.env.cells scope.names []) s3.heap.objs.size X.env := by rw [← hXX]; rfl
 have eN : X'.env.locals = s3.heap.objs.size := by rw [eE]; rfl
 have eF : X'.fs = Q1 X.stack := by rw [← hXX]; rfl
 have eEx : X'.ex = fp := by rw [← hXX]; rfl
 have ePn : X'.pn = [] := by rw [← hXX]; rfl
 have eS : X'.s₀ = s3 := by rw [← hXX]; rfl
 have eH : X'.H₀ = D5 H2 s2.heap.objs.size (.lst []) := by rw [← hXX]; rfl
 have fpIn : ∀ {H' : Hp},(∀ b ∈ fp,H' b = none) → ∀ b ∈ fp,Z2 X' [] H' b := fun {H'} hn b hb=>by
  refine ⟨hn b hb,by rw [eN,hz3]; exact Nat.ne_of_lt (Nat.lt_succ_of_lt (lt2 b hb)),fun z=>?_,.inl (by rw [eEx]; exact hb),fun x cc e=>?_,fun p hp=>by rw [ePn] at hp; simp at hp⟩
  ·rw [eF] at z
   rcases List.mem_cons.mp (I3.stkSub b z) with e | e
   ·exact (f3 b hb).2.1 e
   ·exact (f3 b hb).2.2.1 e
  ·rw [eE] at e
   exact (f3 b hb).2.2.2.2.1 x cc (Y2 _ _ (c.hfree I3) (by intro c' e'; simp at e') e)
 have loop : ∀ s₅ : Shared,s₅ = { s3 with heap := h₁,toks := s2.toks + ([] : List (Str × Value)).length } →
   codeAny (model X.prog X.w) X.A (.compLoop (.ListComp elt [⟨tg,iter,ifs,0⟩] scope pos) 0 (.ref it) (.ref s2.heap.objs.size) (compEnvC scope (M4 X.env.cells scope.names []) s3.heap.objs.size X.env)) (RR (.ref s2.heap.objs.size) s3.heap.objs.size) s₅ := by
  rintro s₅ rfl
  refine sV (fun n s'=>∃ i ys H',Inv X' [] (X3 fr σ) H' s' ∧ tn i s'.heap ∧ (∀ b ∈ fp,H' b = none) ∧ W i n ys H') ?_ m0
   ⟨0,[],_,I4,T.keep _ _ _ st3 fun b _ o e=>up34 b o e,fun b hb=>(f3 b hb).1,w0⟩
  rintro n s6 ⟨i,ys,H6,I6,st6,fr6,w6⟩
  rcases turn i n ys H6 w6 with ⟨stop,q⟩ | ⟨go,NN,hNN,step⟩
  ·have D := T.done X' eP eW eK eC i [] s6 _ H6 (fun _ _=>False) I6 (fpIn fr6) st6 stop
   rw [eA] at D
   refine G0 D fun r s7 ⟨hr,I7⟩=>?_
   subst hr
   have un := I7.base
   rw [eF,eEx,eS,eH] at un
   have os7 : s7.os = s3.os := by rw [I7.os,eS]
   have hok7 := I7.hok
   rw [eP,eW] at hok7
   have J3 : Inv X pins σ H6 s7 := I3.call' os7 un hok7 I7.bare fun b hb=>⟨(f3 b hb).2.2.2.1,(f3 b hb).2.1,(f3 b hb).2.2.2.2.1,(f3 b hb).2.2.2.2.2⟩
   obtain ⟨m7,hn7,_⟩ := I7.loc
   rw [eN] at hn7
   have fr7 := I7.free
   rw [eN] at fr7
   exact fin _ _ s7 H6 J3 ⟨m7,hn7⟩ fr7 (by rw [hz3]; exact Nat.le_succ _) q
  ·have D := T.item X' eP eW eK eC i [] s6 _ H6 (fun _ _=>False) I6 (fpIn fr6) st6 go
   rw [eA] at D
   refine G0 D fun r s7 ⟨u,hr,h7⟩=>?_
   subst hr
   refine G0 h7 fun _ s8 ⟨x,H8,I8,r8,y8,st8,fr8⟩=>?_
   have I8' := I8.pinned (fpIn fr8) (T.obj _ _ st8)
   have q8 := ho _ _ _ _ (step x H8 y8)
   have A1 := hg' _ s8 _ H8 x u _ I8' r8 q8
   rw [eP,eW,eA,eE,eX] at A1
   refine G0 A1 fun _ s9 ⟨σ9,H9,I9,q9,len9,own9⟩=>?_
   have A2 := ht' _ s9 σ9 H9 _ I9 q9
   rw [eP,eW,eA,eE,eX] at A2
   refine G0 A2 fun ok s10 ⟨H10,I10,q10⟩=>?_
   have weak : ∀ {H' : Hp} {s' : Shared},Inv X' ([] ++ X8 fp s8.heap) σ9 H' s' → Inv X' ([] ++ X8 fp s8.heap) (X3 fr σ) H' s' := fun {H' s'} I'=>I'.weak len9.symm fun j v e=>by
    by_cases hj : j ∈ own
    ·exfalso
     have z := List.all_eq_true.mp c.own_ j hj
     have z : fr[j]? = some none := by simpa using z
     have e : (fr.map fun o=>o.bind fun j=>(σ[j]?).join)[j]? = some (some v) := e
     rw [List.getElem?_map,z] at e
     simp at e
    ·rw [own9 j hj]; exact e
   have again : ∀ {H' : Hp} {s' : Shared},Inv X' ([] ++ X8 fp s8.heap) σ9 H' s' → tn (i + 1) s'.heap ∧ (∀ b ∈ fp,H' b = none) ∧ Inv X' [] (X3 fr σ) H' s' := fun {H' s'} I'=>by
    refine ⟨T.keep _ _ _ st8 fun b hb o e=>(I'.pin (b,o) (List.mem_append_right _ (List.mem_append_right _ (X2 hb e)))).1,fun b hb=>?_,(weak I').unpinned⟩
    obtain ⟨o,e,d⟩ := T.obj _ _ st8 b hb
    exact (I'.pin (b,o) (List.mem_append_right _ (List.mem_append_right _ (X2 hb e)))).2.1
   cases ok with
   | false =>
    rw [if_neg Bool.false_ne_true] at q10 ⊢
    obtain ⟨m',hm,w'⟩ := hNN _ _ q10
    obtain ⟨t1,t2,t3⟩ := again I10
    exact ⟨m',hm,i + 1,ys,H10,t3,t1,t2,w'⟩
   | true =>
    rw [if_pos rfl] at q10 ⊢
    have A3 := he' _ s10 σ9 H10 _ I10 q10
    rw [eP,eW,eA,eE,eX] at A3
    refine G0 A3 fun yv s11 ⟨y,H11,I11,r11,hl11,hz11,q11⟩=>?_
    have A4 := K4 (X := X') _ s11 σ9 H11 (.ref s2.heap.objs.size) [y] (.ref s2.heap.objs.size) [yv] (fun _ H'=>H' = D5 H11 s2.heap.objs.size (.lst (ys ++ [y]))) I11 rfl (.cons r11 .nil) ⟨_,ys,y,rfl,rfl,hl11,hz11,rfl⟩
    rw [eP,eW,eA,eX] at A4
    refine G0 A4 fun _ s12 ⟨_,H12,I12,_,e12⟩=>?_
    subst e12
    obtain ⟨m',hm,w'⟩ := hNN _ _ q11
    obtain ⟨t1,t2,t3⟩ := again I12
    exact ⟨m',hm,i + 1,_,_,t3,t1,t2,w'⟩
 have e5 : ({ s2 with heap := h₁,toks := s2.toks + ([] : List (Str × Value)).length } : Shared) = { s3 with heap := h₁,toks := s2.toks + ([] : List (Str × Value)).length } := by rw [← hs3]
 exact codeAny_compStart_list (loop _ e5) (T.self _ 0 _ _ _ (T.keep _ _ _ st3 fun b _ o e=>up34 b o e) (loop _ e5))
theorem aN (c : CompOk X scope N' fr own) (hc : X.calm = true) (hi : PI X tg iter wi)
  (hg : ∀ C fp s H,PG (Q7 X scope N' C fp s H) tg g) (ho : oO own g) (ht : ∀ C fp s H,tF (Q7 X scope N' C fp s H) ifs ti) (he : ∀ C fp s H,PE (Q7 X scope N' C fp s H) elt te)
  (hs : ∀ x,foldedSetIterable iter X.env x = pure x := by intro _; rfl) : PE X (.ListComp elt [⟨tg,iter,ifs,0⟩] scope pos) (vR wi fr g ti te) := by
 intro pins s σ H Q I h
 rw [eval_ListComp]
 refine wpAny_comprehension_free (use := none) rfl hs (bI (c.hfree I)) c.kind c.hnames (G0 (hi pins s σ H _ I h) fun v s1 h1=>G0 h1 fun itv s2 h2=>?_)
 obtain ⟨it,fp,tn,J,H2,e,I2,T,st2,f2,R⟩ := h2
 subst e
 refine mR (RR := fun acc C=>compPost (model X.prog X.w) X.A X.xe none (EP X pins σ Q) acc C) c hc hg ho ht he I2 T st2 f2 R ?_
 intro l C s' H' I' hn hC hle q
 obtain ⟨m,hn⟩ := hn
 refine ⟨m,hn,fun h' hs'=>⟨.ref l,H',?_,rfl,q⟩⟩
 have cl : ∀ x cc,X.env.cells.lookup x = some cc → cc ≠ C := fun x cc e z=>by
  obtain ⟨v,o,ho,_⟩ := I2.cell x cc e
  exact absurd (Nat.lt_of_lt_of_le (Heap.lt_size ho) (by rw [z]; exact hle)) (Nat.lt_irrefl _)
 exact I'.turned (t' := s'.toks) (fun b o hb e=>hs'.extBut b o hb e) hC (Nat.ne_of_gt (Nat.lt_of_lt_of_le I2.lt hle)) (.inr (Nat.le_trans I2.sz hle)) cl fun p hp z =>
  absurd (Nat.lt_of_lt_of_le (Heap.lt_size (I2.pin p hp).1) (by rw [z]; exact hle)) (Nat.lt_irrefl _)
theorem kA {i : Nat} {y : Str} {py spos : Pos} (c : CompOk X scope N' fr own) (hc : X.calm = true) (hN : X.N.Nodup) (hy : X.N[i]? = some y) (hx : X.env.scope.names.lookup y = some .local) (hi : PI X tg iter wi)
  (hg : ∀ C fp s H,PG (Q7 X scope N' C fp s H) tg g) (ho : oO own g) (ht : ∀ C fp s H,tF (Q7 X scope N' C fp s H) ifs ti) (he : ∀ C fp s H,PE (Q7 X scope N' C fp s H) elt te)
  (hsw : swapsWith (.ListComp elt [⟨tg,iter,ifs,0⟩] scope pos) (some (.Name y py)) spos.line X.env = pure true := by rfl)
  (hs : ∀ x,foldedSetIterable iter X.env x = pure x := by intro _; rfl) : PS X (.Assign [.Name y py] (.ListComp elt [⟨tg,iter,ifs,0⟩] scope pos) spos) (vT (vR wi fr g ti te) (U0 i)) := by
 intro pins s σ H D I h
 rw [exec_Assign_Name_used _ _ _ _ hsw]
 refine wpAny_bind (wpAny_standAt (wpAny_bind ?_))
 show wpAny _ X.A (do let _ ← comprehension (.ListComp elt [⟨tg,iter,ifs,0⟩] scope pos) scope X.env _ (newList []) false (eval iter X.env) (some (assign (.Name y py) X.env))) _ _ s
 refine wpAny_bind (wpAny_mono (wpAny_comprehension_free (use := some (assign (.Name y py) X.env)) (Q := fun _ s'=>SP X pins D .next s') rfl hs (bI (c.hfree I)) c.kind c.hnames
  (G0 (hi pins s σ H _ I h) fun v s1 h1=>G0 h1 fun itv s2 h2=>?_)) (fun _ s' hq=>wpAny_pure (wpAny_pure hq)) fun _ _ e=>e)
 obtain ⟨it,fp,tn,J,H2,e,I2,T,st2,f2,R⟩ := h2
 subst e
 refine mR (Q := fun x H1=>U0 i x σ H1 D.nx) (RR := fun acc C=>compPost (model X.prog X.w) X.A X.xe (some (assign (.Name y py) X.env)) (fun _ s'=>SP X pins D .next s') acc C) c hc hg ho ht he I2 T st2 f2 R ?_
 intro l C s' H' I' hn hC hle q
 obtain ⟨m,hn⟩ := hn
 have cl : ∀ x cc,X.env.cells.lookup x = some cc → cc ≠ C := fun x cc e z=>by
  obtain ⟨v,o,ho,_⟩ := I2.cell x cc e
  exact absurd (Nat.lt_of_lt_of_le (Heap.lt_size ho) (by rw [z]; exact hle)) (Nat.lt_irrefl _)
 show wpAny _ X.A (assign (.Name y py) X.env (.ref l)) _ _ s'
 refine wpAny_assign_Name (oY I' hN hy (.inl hx) (v := .ref l) rfl (fun s5 I5 hsb=>?_) (.inr hx))
 obtain ⟨a,hsb,ha⟩ := hsb
 have hCa : C ≠ a := by
  rcases ha with e | e
  ·rw [e]; exact Nat.ne_of_gt (Nat.lt_of_lt_of_le I2.lt hle)
  ·exact Ne.symm (cl _ _ e)
 refine ⟨m,hn.sameBut hsb hCa,fun h' hs'=>⟨_,H',?_,q⟩⟩
 exact I5.turned (t' := s5.toks) (fun b o hb e=>hs'.extBut b o hb e) hC (Nat.ne_of_gt (Nat.lt_of_lt_of_le I2.lt hle)) (.inr (Nat.le_trans I2.sz hle)) cl fun p hp z =>
  absurd (Nat.lt_of_lt_of_le (Heap.lt_size (I2.pin p hp).1) (by rw [z]; exact hle)) (Nat.lt_irrefl _)
end
section
variable {fr : List (Option Nat)} {g : TG} {ti : TT} {te : TE} {σ : St} {H1 : Hp} {l : Addr} {Q : VK}
def U4 (fr : List (Option Nat)) (g : TG) (ti : TT) (te : TE) (σ : St) (l : Addr) (x : V) (ys : List V) (H : Hp) (N : List V → Hp → Prop) : Prop :=
 g x (X3 fr σ) H fun σ3 H3=>ti σ3 H3 fun b H4=>if b = true then te σ3 H4 fun y H5=>H5 l = some (.lst ys) ∧ ys.length < sizeLine ∧ N (ys ++ [y]) (D5 H5 l (.lst (ys ++ [y]))) else N ys H4
theorem zI {K : PySem.W.Frag} {a : Addr} {xs : List V} (Pv : Nat → List V → Hp → Prop) (h0 : Pv 0 [] (D5 H1 l (.lst []))) (hl : ∀ i ys H,i ≤ xs.length → Pv i ys H → SqL K H a xs)
  (hs : ∀ i x ys H,xs[i]? = some x → Pv i ys H → U4 fr g ti te σ l x ys H (Pv (i + 1))) (hd : ∀ ys H,Pv xs.length ys H → Q (.ref l) H) : mV (vK K a) fr g ti te σ H1 l Q := by
 refine ⟨fun i m ys H=>m = xs.length - i ∧ i ≤ xs.length ∧ Pv i ys H,⟨xs.length,by simp,Nat.zero_le _,h0⟩,?_⟩
 rintro i m ys H ⟨rfl,hi,p⟩
 have q := hl i ys H hi p
 by_cases hlt : i < xs.length
 ·refine .inr ⟨⟨xs,xs[i],q,by simp [hlt]⟩,Pv (i + 1),fun zs H' p'=>⟨xs.length - (i + 1),by omega,rfl,hlt,p'⟩,fun x H' y=>?_⟩
  obtain ⟨e,y⟩ := y
  subst e
  exact hs i x ys _ (y xs q) p
 ·have e : i = xs.length := by omega
  subst e
  exact .inl ⟨⟨xs,q,Nat.le_refl _⟩,hd ys H p⟩
theorem AG1 {K : PySem.W.Frag} {a : Addr} {xs : List V} (Pv : Nat → List V → Hp → Prop) (h0 : Pv 0 [] (D5 H1 l (.lst []))) (hl : ∀ i ys H,i ≤ xs.length → Pv i ys H → SqT K H a xs)
  (hs : ∀ i x ys H,xs[i]? = some x → Pv i ys H → U4 fr g ti te σ l x ys H (Pv (i + 1))) (hd : ∀ ys H,Pv xs.length ys H → Q (.ref l) H) : mV (vJ K a) fr g ti te σ H1 l Q := by
 refine ⟨fun i m ys H=>m = xs.length - i ∧ i ≤ xs.length ∧ Pv i ys H,⟨xs.length,by simp,Nat.zero_le _,h0⟩,?_⟩
 rintro i m ys H ⟨rfl,hi,p⟩
 have q := hl i ys H hi p
 by_cases hlt : i < xs.length
 ·refine .inr ⟨⟨xs,xs[i],q,by simp [hlt]⟩,Pv (i + 1),fun zs H' p'=>⟨xs.length - (i + 1),by omega,rfl,hlt,p'⟩,fun x H' y=>?_⟩
  obtain ⟨e,y⟩ := y
  subst e
  exact hs i x ys _ (y xs q) p
 ·have e : i = xs.length := by omega
  subst e
  exact .inl ⟨⟨xs,q,Nat.le_refl _⟩,hd ys H p⟩
theorem R8 {lo : Int} {n : Nat} (Pv : Nat → List V → Hp → Prop) (h0 : Pv 0 [] (D5 H1 l (.lst [])))
  (hs : ∀ i ys H,i < n → Pv i ys H → U4 fr g ti te σ l (.int (lo + i)) ys H (Pv (i + 1))) (hd : ∀ ys H,Pv n ys H → Q (.ref l) H) : mV (tH lo n) fr g ti te σ H1 l Q := by
 refine ⟨fun i m ys H=>m = n - i ∧ i ≤ n ∧ Pv i ys H,⟨n,by simp,Nat.zero_le _,h0⟩,?_⟩
 rintro i m ys H ⟨rfl,hi,p⟩
 by_cases hlt : i < n
 ·refine .inr ⟨hlt,Pv (i + 1),fun zs H' p'=>⟨n - (i + 1),by omega,rfl,hlt,p'⟩,fun x H' y=>?_⟩
  obtain ⟨e,y⟩ := y
  subst e y
  exact hs i ys _ hlt p
 ·have e : i = n := by omega
  subst e
  exact .inl ⟨Nat.le_refl _,hd ys H p⟩
end
end L2
namespace L2
open PySem PySem.Spec PyProof.Rows
mutual
def X7 (K : PySem.W.Frag) (H : Hp) : PyData → V → Prop
 | .none,v=>v = .non
 | .bool b,v=>v = .bl b
 | .int i,v=>v = .int i
 | .str x,v=>v = .str x
 | .list ds,v=>∃ a ys,v = .ref a ∧ SqL K H a ys ∧ bC K H ds ys
 | .tuple ds,v=>∃ a ys,v = .ref a ∧ SqT K H a ys ∧ bC K H ds ys
 | .dict _,_=>False
def bC (K : PySem.W.Frag) (H : Hp) : List PyData → List V → Prop
 | [],ys=>ys = []
 | d :: ds,ys=>∃ y r,ys = y :: r ∧ X7 K H d y ∧ bC K H ds r
end
section
variable {X : Cx} {pins : List (Addr × Obj)} {σ : St} {H : Hp} {s : Shared}
mutual
theorem kU (I : Inv X pins σ H s) : ∀ (d : PyData) (v : V) (u : Value),X7 X.K H d v → RelV v u → ∃ as,Reads s.heap u d as
 | .none,v,u,h,r=>by
  simp only [X7] at h; subst h; cases r; exact ⟨_,.none⟩
 | .bool b,v,u,h,r=>by
  simp only [X7] at h; subst h; cases r; exact ⟨_,.bool b⟩
 | .int i,v,u,h,r=>by
  simp only [X7] at h; subst h; obtain ⟨t,rfl⟩ := r; exact ⟨_,.int i t⟩
 | .str x,v,u,h,r=>by
  simp only [X7] at h; subst h; obtain ⟨t,rfl⟩ := r; exact ⟨_,.str x t⟩
 | .list ds,v,u,h,r=>by
  simp only [X7] at h
  obtain ⟨a,ys,rfl,hq,hd⟩ := h
  cases r
  obtain ⟨its,rv,⟨o,n,e,c,_,dd⟩,_⟩ := I.list hq
  obtain ⟨as,hr⟩ := eG I ds ys its hd rv
  exact ⟨_,.list e c dd (by simpa using hr)⟩
 | .tuple ds,v,u,h,r=>by
  simp only [X7] at h
  obtain ⟨a,ys,rfl,hq,hd⟩ := h
  cases r
  obtain ⟨its,rv,⟨o,e,c,n,dd⟩,_⟩ := I.tuple hq
  obtain ⟨as,hr⟩ := eG I ds ys its hd rv
  exact ⟨_,.tuple e c dd (by simpa using hr)⟩
 | .dict _,v,u,h,r=>by simp only [X7] at h
theorem eG (I : Inv X pins σ H s) : ∀ (ds : List PyData) (vs : List V) (us : List Value),bC X.K H ds vs → Vals vs us → ∃ as,ReadsAll s.heap us ds as
 | [],vs,us,h,r=>by
  simp only [bC] at h; subst h; cases r; exact ⟨_,.nil⟩
 | d :: ds,vs,us,h,r=>by
  simp only [bC] at h
  obtain ⟨y,rr,rfl,h1,h2⟩ := h
  cases r with
  | cons r1 r2 =>
   obtain ⟨as,q1⟩ := kU I d y _ h1 r1
   obtain ⟨bs,q2⟩ := eG I ds rr _ h2 r2
   exact ⟨_,.cons q1 q2⟩
end
end
theorem SqT.keep {K : PySem.W.Frag} {H H' : Hp} (k : ∀ b u,(H b = some (.tup u) → H' b = some (.tup u)) ∧ ∀ o,H b = some (.frz o (.tup u)) → H' b = some (.frz o (.tup u))) {a : Addr} {ys : List V} (h : SqT K H a ys) : SqT K H' a ys := by
 rcases h with (h | ⟨o,h⟩) | h
 ·exact .inl (.inl ((k a ys).1 h))
 ·exact .inl (.inr ⟨o,(k a ys).2 o h⟩)
 ·exact .inr h
theorem Same.seqT {K : PySem.W.Frag} {H H' : Hp} (e : Same H H') {a : Addr} {xs : List V} (h : SqT K H a xs) : SqT K H' a xs := h.keep fun b u=>⟨fun q=>e _ _ q,fun o q=>e _ _ q⟩
def BF7 (K : PySem.W.Frag) : R2 := fun x y H Q=>∃ dx dy,X7 K H dx x ∧ X7 K H dy y ∧ dx.canLay0 = true ∧ dy.canLay0 = true ∧ min dx.depth dy.depth ≤ 60 ∧ Q (.bl (PyData.eqv dx dy)) H
section
variable {X : Cx}
theorem yD (hu : X.A.units + 64 < cLine) : T2 X (compareOp .Eq) (BF7 X.K) := by
 intro pins s σ H x y v u Q I rx ry h
 obtain ⟨dx,dy,h1,h2,c1,c2,hm,q⟩ := h
 obtain ⟨as,r1⟩ := kU I dx x v h1 rx
 obtain ⟨bs,r2⟩ := kU I dy y u h2 ry
 exact PySem.SeqAt.eqOverData X.prog X.w X.A X.xe s v u dx dy as bs _ r1 r2 c1 c2 (by omega) ⟨.bl _,H,I,rfl,q⟩
theorem Vals.bls {bs : List Bool} : ∀ {us : List Value},Vals (bs.map V.bl) us → us = bs.map Value.bool := by
 induction bs with
 | nil=>intro us r; cases r; rfl
 | cons b r ih =>
  intro us h
  cases h with
  | cons r1 r2 =>
   cases r1
   rw [ih r2]
   rfl
theorem xR (bs : List Bool) : (List.range bs.length).all (fun i=>bs.getD i false) = bs.all id := by
 rw [Bool.eq_iff_iff]
 simp only [List.all_eq_true,List.mem_range,id]
 refine ⟨fun h b hb=>?_,fun h i hi=>?_⟩
 ·obtain ⟨i,hi,e⟩ := List.getElem_of_mem hb
  have := h i hi
  simpa [hi,e] using this
 ·have := h bs[i] (List.getElem_mem hi)
  simpa [hi] using this
theorem tK {prog : Program} {w : World} {A : Around} (bs : List Bool) : TruthOf prog w A (fun i v=>(bs.map Value.bool).toArray[i]? = some v) (fun i=>bs.getD i false) := fun i v s Q E hP hQ=>by
 have hi : i < bs.length := by
  by_cases h : i < bs.length
  ·exact h
  ·have hP' : (bs.map Value.bool)[i]? = some v := by simpa using hP
   rw [List.getElem?_eq_none_iff.mpr (by simp; omega)] at hP'
   cases hP'
 have e : v = .bool (bs.getD i false) := by
  have hP' : (bs.map Value.bool)[i]? = some v := by simpa using hP
  rw [List.getElem?_map,List.getElem?_eq_getElem hi] at hP'
  simp only [Option.map_some,Option.some.injEq] at hP'
  rw [← hP']
  simp [hi]
 subst e
 exact wpAny_truthy_bool hQ
theorem iA (hc : X.calm = true) : U2 X (.builtin "all") (fun xs H Q=>∃ a bs,xs = [.ref a] ∧ SqL X.K H a (List.map V.bl bs) ∧ Q (.bl (bs.all id)) H) := by
 intro pins s σ H xs us Q I r h
 obtain ⟨a,bs,rfl,hq,q⟩ := h
 obtain ⟨u,rfl,ru⟩ := Vals.one r
 cases ru
 obtain ⟨its,rv,p,hz⟩ := I.list hq
 have e := Vals.bls rv
 subst e
 have hlt : a < s.heap.objs.size := by obtain ⟨o,_,eo,_⟩ := p; exact Heap.lt_size eo
 refine call_all_walk (wpAny_pyIter_list p.isList ?_)
 refine ⟨s.heap.objs.size,[s.heap.objs.size,a],[s.heap.objs.size],_,_,_,fun i=>bs.getD i false,rfl,Walks.list (A := X.A.in1) (I.ok.hd hc) s.heap.objs.size a (Nat.ne_of_lt hlt) (bs.map Value.bool).toArray,
  ⟨⟨_,Heap.get?_push_size _ rfl,rfl,rfl⟩,p.isList.push _⟩,tK bs,fun h' tk hk=>?_⟩
 have I1 : Inv X pins σ H { s with heap := h',toks := tk } := I.kept fun b o e=>hk b o (fun z=>by
  have z' : b = s.heap.objs.size := by simpa using z
  exact absurd (Heap.lt_size e) (by rw [z']; exact Nat.lt_irrefl _)) (Heap.get?_push_of_some _ e)
 refine ⟨.bl (bs.all id),H,I1,?_,q⟩
 show Value.bool _ = Value.bool _
 rw [← xR]
 simp
def AW7 : V → String → Option Bool
 | .int _,"int"=>some true
 | .int _,"bool"=>some false
 | .int _,"str"=>some false
 | .int _,"tuple"=>some false
 | .bl _,"bool"=>some true
 | .bl _,"int"=>some true
 | .bl _,"str"=>some false
 | .bl _,"tuple"=>some false
 | .str _,"str"=>some true
 | .str _,"int"=>some false
 | .str _,"bool"=>some false
 | .str _,"tuple"=>some false
 | _,_=>none
theorem AG5 : U2 X (.builtin "isinstance") (fun xs H Q=>∃ v T b,xs = [v,.ty T] ∧ AW7 v T = some b ∧ Q (.bl b) H) := by
 intro pins s σ H xs us Q I r h
 obtain ⟨v,T,b,rfl,hb,q⟩ := h
 obtain ⟨u,w,rfl,ru,rw'⟩ := lF r
 cases rw'
 have fin : ∀ t,EP X pins σ Q (.bool b) { s with toks := t } := fun t=>⟨.bl b,H,I.tok t,rfl,q⟩
 unfold AW7 at hb
 split at hb <;> cases hb
 ·obtain ⟨t,rfl⟩ := ru; exact IsiPair.int_int (fin _)
 ·obtain ⟨t,rfl⟩ := ru; exact IsiPair.int_bool (fin _)
 ·obtain ⟨t,rfl⟩ := ru; exact IsiPair.int_str (fin _)
 ·obtain ⟨t,rfl⟩ := ru; exact IsiPair.int_tuple (fin _)
 ·cases ru; exact IsiPair.bool_bool (fin _)
 ·cases ru; exact IsiPair.bool_int (fin _)
 ·cases ru; exact IsiPair.bool_str (fin _)
 ·cases ru; exact IsiPair.bool_tuple (fin _)
 ·obtain ⟨t,rfl⟩ := ru; exact IsiPair.str_str (fin _)
 ·obtain ⟨t,rfl⟩ := ru; exact IsiPair.str_int (fin _)
 ·obtain ⟨t,rfl⟩ := ru; exact IsiPair.str_bool (fin _)
 ·obtain ⟨t,rfl⟩ := ru; exact IsiPair.str_tuple (fin _)
theorem mO : fillsInplaceSlot (.type "list") "add" (Operator.Add == .Add) = pure false := by
 unfold fillsInplaceSlot
 show (typeLookup (.type "list") (dunderI "add") >>= fun fi=>pure (fi.isSome && !isSeqSlot fi)) = pure false
 rw [PySem.F.slot_list_iadd.lookup]
 rfl
theorem qB : seqSlot? (.type "list") (dunderI "add") = pure (some (.builtin "list.__iadd__")) := PySem.seqSlot_of PySem.F.slot_list_iadd.lookup (by decide +kernel)
def AJ1 : zQ := fun x y H Q=>∃ l b xs zs,x = .ref l ∧ y = .ref b ∧ H l = some (.lst xs) ∧ H b = some (.lst zs) ∧ xs.length + zs.length ≤ sizeLine ∧ Q (.ref l) (D5 H l (.lst (xs ++ zs)))
theorem Y0 : PIp X .Add AJ1 := by
 intro pins s σ H x y v u Q I rx ry h
 obtain ⟨l,b,xs,zs,rfl,rfl,hH,hB,hz,q⟩ := h
 cases rx
 cases ry
 obtain ⟨z,its,n,r,hl,e⟩ := I.lstM hH
 obtain ⟨z2,its2,n2,r2,hl2,e2⟩ := I.lstM hB
 have hsz : its.toArray.size + its2.toArray.size ≤ sizeLine := by rw [List.size_toArray,List.size_toArray]; omega
 have hlong : ¬ (!its.toArray.isEmpty && Builtin.List.listTooLong (its.toArray.size + its2.toArray.size)) = true := by
  rw [AD3 hsz,Bool.and_false]
  exact Bool.false_ne_true
 have tl : s.TypeIs (.ref l) "list" := ⟨_,e,rfl⟩
 have tb : s.TypeIs (.ref b) "list" := ⟨_,e2,rfl⟩
 unfold inplaceOp
 refine wpAny_holding ?_
 refine wpAny_bind (wpAny_typeOf tl (wpAny_bind (wpAny_of_eq mO ?_)))
 show wpAny (model X.prog X.w) X.A (if false = true then _ else _) _ _ s
 rw [if_neg Bool.false_ne_true]
 refine wpAny_bind (wpAny_binaryOp1_none (nm := "add") tl tb noFill_list_add ?_)
 refine wpAny_bind (wpAny_of_eq qB ?_)
 refine wpAny_bind (wpAny_rule ?_)
 refine call_meets PySem.F.slot_list_iadd tl PySem.F.entry_list_iadd (PySem.F.args_list_iadd_2 _ _)
  (AutoSeq1.list___iadd___list_list_0 l its.toArray n b its2.toArray n2 hlong (by rw [List.size_toArray]; omega) (by omega)) ⟨e,e2,?_⟩
 refine ⟨.ref l,_,I.lset (its' := its ++ its2) hH e (by simp) (r.append r2) ?_,rfl,q⟩
 rw [List.length_append]
 omega
end
end L2
namespace L2.Sp
end L2.Sp
namespace L2
open PySem PySem.Spec PyProof.Rows
section
variable {κ : Type} [DecidableEq κ]
def S8 (kvs : List (κ × V)) (k : κ) : Option V := (kvs.find? fun kv=>decide (kv.1 = k)).map (·.2)
def X5 (kvs : List (κ × V)) (k : κ) (v : V) : List (κ × V) :=
 if (kvs.any fun kv=>decide (kv.1 = k)) = true then kvs.map (fun kv=>if kv.1 = k then (kv.1,v) else kv) else kvs ++ [(k,v)]
theorem S6 {p : κ × V} {r : List (κ × V)} {k : κ} (e : p.1 = k) : S8 (p :: r) k = some p.2 := by simp [S8,List.find?_cons,e]
theorem S7 {p : κ × V} {r : List (κ × V)} {k : κ} (e : ¬ p.1 = k) : S8 (p :: r) k = S8 r k := by simp [S8,List.find?_cons,e]
theorem gB (k : κ) : ∀ kvs : List (κ × V),(kvs.any fun kv=>decide (kv.1 = k)) = (S8 kvs k).isSome
 | []=>rfl
 | p :: r=>by
  rw [List.any_cons]
  by_cases e : p.1 = k
  ·simp only [S6 e,decide_eq_true e,Bool.true_or,Option.isSome_some]
  ·rw [S7 e,decide_eq_false e,Bool.false_or]; exact gB k r
theorem qW (k j : κ) (y : V) : ∀ kvs : List (κ × V),S8 (kvs.map fun kv=>if kv.1 = k then (kv.1,y) else kv) j = (S8 kvs j).map fun x=>if j = k then y else x
 | []=>rfl
 | p :: r=>by
  have ih := qW k j y r
  rw [List.map_cons]
  by_cases h : p.1 = k
  ·rw [if_pos h]
   by_cases e : p.1 = j
   ·rw [S6 (p := (p.1,y)) e,S6 e,Option.map_some,if_pos (e.symm.trans h)]
   ·rw [S7 (p := (p.1,y)) e,S7 e,ih]
  ·rw [if_neg h]
   by_cases e : p.1 = j
   ·rw [S6 (p := p) e,S6 e,Option.map_some,if_neg (fun z=>h (e.trans z))]
   ·rw [S7 (p := p) e,S7 e,ih]
theorem oS (k j : κ) (y : V) : ∀ kvs : List (κ × V),S8 kvs k = none → S8 (kvs ++ [(k,y)]) j = if j = k then some y else S8 kvs j
 | [],_=>by
  by_cases e : k = j
  ·rw [if_pos e.symm]; exact S6 (p := (k,y)) e
  ·rw [if_neg (fun z=>e z.symm)]; exact S7 (p := (k,y)) e
 | p :: r,hn=>by
  rw [List.cons_append]
  have hk : ¬ p.1 = k := fun z=>by rw [S6 z] at hn; cases hn
  rw [S7 hk] at hn
  have ih := oS k j y r hn
  by_cases e : p.1 = j
  ·rw [S6 e,S6 e,if_neg (fun z=>hk (e.trans z))]
  ·rw [S7 e,S7 e,ih]
theorem zY (kvs : List (κ × V)) (k j : κ) (y : V) : S8 (X5 kvs k y) j = if j = k then some y else S8 kvs j := by
 unfold X5
 by_cases a : (kvs.any fun kv=>decide (kv.1 = k)) = true
 ·rw [if_pos a,qW]
  rw [gB] at a
  by_cases e : j = k
  ·obtain ⟨x,hx⟩ := Option.isSome_iff_exists.mp a
   rw [if_pos e,e,hx,Option.map_some,if_pos rfl]
  ·rw [if_neg e]
   cases S8 kvs j with
   | none=>rfl
   | some x=>rw [Option.map_some,if_neg e]
 ·rw [if_neg a]
  refine oS k j y kvs ?_
  rw [gB] at a
  cases q : S8 kvs k with
  | none=>rfl
  | some x=>rw [q] at a; exact (a rfl).elim
theorem eL (kvs : List (κ × V)) (k : κ) (v : V) : (X5 kvs k v).length ≤ kvs.length + 1 := by
 unfold X5
 split
 ·rw [List.length_map]; omega
 ·rw [List.length_append,List.length_cons,List.length_nil]; omega
theorem RelO.isSome_eq {o : Option V} {u : Option Value} (r : RelO o u) : o.isSome = u.isSome := by
 cases o with
 | none=>cases u with
  | none=>rfl
  | some _=>exact (show False from r).elim
 | some _=>cases u with
  | none=>exact (show False from r).elim
  | some _=>rfl
theorem KV.val {kvs : List (κ × V)} {vs : List (κ × Value)} (r : KV kvs vs) (k : κ) : RelO (S8 kvs k) (valueAt vs k) := by
 unfold KV at r
 induction r with
 | nil=>exact True.intro
 | @cons p q ps qs h t ih =>
  obtain ⟨h1,h2⟩ := h
  by_cases e : p.1 = k
  ·have e' : q.1 = k := h1.symm.trans e
   have b : valueAt (q :: qs) k = some q.2 := by simp [valueAt,List.find?_cons,e']
   rw [S6 e,b]; exact h2
  ·have e' : ¬ q.1 = k := fun z=>e (h1.trans z)
   have b : valueAt (q :: qs) k = valueAt qs k := by simp [valueAt,List.find?_cons,e']
   rw [S7 e,b]; exact ih
theorem KV.any {kvs : List (κ × V)} {vs : List (κ × Value)} (r : KV kvs vs) (k : κ) : (kvs.any fun kv=>decide (kv.1 = k)) = vs.any fun kv=>decide (kv.1 = k) := by
 unfold KV at r
 induction r with
 | nil=>rfl
 | cons h t ih=>rw [List.any_cons,List.any_cons,ih,h.1]
theorem KV.repl {kvs : List (κ × V)} {vs : List (κ × Value)} (r : KV kvs vs) (k : κ) {y : V} {u : Value} (ry : RelV y u) :
  KV (kvs.map fun kv=>if kv.1 = k then (kv.1,y) else kv) (vs.map fun kv=>if kv.1 = k then (kv.1,u) else kv) := by
 unfold KV at r ⊢
 induction r with
 | nil=>exact .nil
 | @cons p q ps qs h t ih =>
  rw [List.map_cons,List.map_cons]
  refine .cons ?_ ih
  obtain ⟨h1,h2⟩ := h
  by_cases e : p.1 = k
  ·rw [if_pos e,if_pos (h1.symm.trans e)]; exact ⟨h1,ry⟩
  ·rw [if_neg e,if_neg (fun z=>e (h1.trans z))]; exact ⟨h1,h2⟩
theorem KV.put {kvs : List (κ × V)} {vs : List (κ × Value)} (r : KV kvs vs) (k : κ) {y : V} {u : Value} (ry : RelV y u) : KV (X5 kvs k y) (stored vs k u) := by
 unfold X5 stored
 rw [r.any k]
 by_cases e : (vs.any fun kv=>decide (kv.1 = k)) = true
 ·rw [if_pos e,if_pos e]; exact r.repl k ry
 ·rw [if_neg e,if_neg e]; exact Paired.snoc r ⟨rfl,ry⟩
theorem KV.length {kvs : List (κ × V)} {vs : List (κ × Value)} (r : KV kvs vs) : kvs.length = vs.length := Paired.length r
end
theorem wR {P : Program} {w : World} {k : M9} {u : Value} (r : RelV (kV k) u) : (S4 P w).is k u = true := by
 cases k with
 | inl i=>obtain ⟨t,e⟩ := (show ∃ t,u = Value.int i t from r); subst e; exact tP P w i t
 | inr x=>obtain ⟨t,e⟩ := (show ∃ t,u = Value.str x t from r); subst e; exact tO P w x t
theorem pO {P : Program} {w : World} : ∀ {ks : List M9} {us : List Value},Vals (ks.map kV) us → ItemsAre (S4 P w) ks us
 | [],_,r=>by rw [List.map_nil] at r; cases r; exact .nil
 | k :: ks,_,r=>by
  rw [List.map_cons] at r
  cases r with
  | cons h t=>exact .cons (wR h) (pO t)
abbrev KT (H : Hp) : List (List M9 × V) → List (List M9 × Addr × Value) → Prop := Paired fun p q=>p.1 = q.1 ∧ H q.2.1 = some (.tup (p.1.map kV)) ∧ RelV p.2 q.2.2
theorem KT.val {H : Hp} {kvs : List (List M9 × V)} {xs : List (List M9 × Addr × Value)} (r : KT H kvs xs) (k : List M9) : RelO (S8 kvs k) ((atKey xs k).map (·.2)) := by
 induction r with
 | nil=>exact True.intro
 | @cons p q ps qs h t ih =>
  obtain ⟨h1,_,h2⟩ := h
  by_cases e : p.1 = k
  ·have e' : q.1 = k := h1.symm.trans e
   have b : atKey (q :: qs) k = some q.2 := by simp [atKey,List.find?_cons,e']
   rw [S6 e,b]; exact h2
  ·have e' : ¬ q.1 = k := fun z=>e (h1.trans z)
   have b : atKey (q :: qs) k = atKey qs k := by simp [atKey,List.find?_cons,e']
   rw [S7 e,b]; exact ih
theorem KT.repl {H : Hp} {kvs : List (List M9 × V)} {xs : List (List M9 × Addr × Value)} (r : KT H kvs xs) (k : List M9) {y : V} {u : Value} (ry : RelV y u) :
  KT H (kvs.map fun kv=>if kv.1 = k then (kv.1,y) else kv) (xs.map (putAt k u)) := by
 induction r with
 | nil=>exact .nil
 | @cons p q ps qs h t ih =>
  rw [List.map_cons,List.map_cons]
  refine .cons ?_ ih
  obtain ⟨h1,h2,h3⟩ := h
  unfold putAt
  by_cases e : p.1 = k
  ·rw [if_pos e,if_pos (h1.symm.trans e)]; exact ⟨h1,h2,ry⟩
  ·rw [if_neg e,if_neg (fun z=>e (h1.trans z))]; exact ⟨h1,h2,h3⟩
theorem KT.put {H : Hp} {kvs : List (List M9 × V)} {xs : List (List M9 × Addr × Value)} (r : KT H kvs xs) (k : List M9) {b : Addr} {y : V} {u : Value} (hb : H b = some (.tup (k.map kV))) (ry : RelV y u) :
  KT H (X5 kvs k y) (storedH xs k b u) := by
 have e : (kvs.any fun kv=>decide (kv.1 = k)) = (atKey xs k).isSome := by
  rw [gB,(r.val k).isSome_eq,Option.isSome_map]
 unfold X5 storedH
 rw [e]
 by_cases q : (atKey xs k).isSome = true
 ·rw [if_pos q,if_pos q]; exact r.repl k ry
 ·rw [if_neg q,if_neg q]; exact Paired.snoc r ⟨rfl,hb,ry⟩
theorem KT.keeps {H H' : Hp} {kvs : List (List M9 × V)} {xs : List (List M9 × Addr × Value)} (r : KT H kvs xs) (ht : ∀ b ys,H b = some (.tup ys) → H' b = some (.tup ys)) : KT H' kvs xs :=
 Paired.mapP r fun _ _ z=>⟨z.1,ht _ _ z.2.1,z.2.2⟩
section
variable {P : Program} {w : World} {H : Hp} {h : Heap} {a : Addr}
theorem AH8 {u : HO} (ok : HOk P w H h) (e : Rd H a u) : ObjOk P w H h a u := e.ok ok
theorem AJ6 {kvs : List (M9 × V)} (ok : HOk P w H h) (e : Rd H a (.dK kvs)) : kvs.length ≤ sizeLine ∧ (a == sysModules) = false ∧ ∃ vs,KV kvs vs ∧ h.DictOf (S4 P w) a vs :=
 show ObjOk P w H h a (.dK kvs) from AH8 ok e
theorem AJ7 {kvs : List (M9 × V)} (ok : HOk P w H h) (e : H a = some (.dK kvs)) : kvs.length ≤ sizeLine ∧ (a == sysModules) = false ∧ ∃ vs,KV kvs vs ∧ h.DictOf (S4 P w) a vs := AJ6 ok (.inl e)
theorem sK {ks : List M9} (ok : HOk P w H h) (e : H a = some (.tup (ks.map kV))) : (tupleKind (S4 P w)).is h ks a := by
 obtain ⟨_,its,r,o,h1,h2,n,h3⟩ := (show ObjOk P w H h a (.tup (ks.map kV)) from ok a _ e)
 exact ⟨o,its.toArray,n,h1,h2,h3,by simpa using pO r⟩
theorem AJ5 {kvs : List (List M9 × V)} (ok : HOk P w H h) (e : Rd H a (.dT kvs)) : kvs.length ≤ sizeLine ∧ (a == sysModules) = false ∧
  ∃ xs,KT H kvs xs ∧ h.DictOfH (tupleKind (S4 P w)) a xs := by
 obtain ⟨z,y,xs,r,o,es,ep,h1,h2,h3,h4,h5⟩ := (show ObjOk P w H h a (.dT kvs) from AH8 ok e)
 refine ⟨z,y,xs,r,o,es,ep,h1,h2,h3,h4,fun x hx=>?_,h5⟩
 have all : ∀ {l : List (List M9 × V)} {m : List (List M9 × Addr × Value)},KT H l m → ∀ x ∈ m,(tupleKind (S4 P w)).is h x.1 x.2.1 := by
  intro l m q
  induction q with
  | nil=>intro x hx; exact nomatch hx
  | @cons p q ps qs hq t ih =>
   intro x hx
   rcases List.mem_cons.mp hx with e | hx
   ·subst e
    exact sK ok (by rw [← hq.1]; exact hq.2.1)
   ·exact ih x hx
 exact all r x hx
theorem BC6 {kvs : List (List M9 × V)} (ok : HOk P w H h) (e : H a = some (.dT kvs)) : kvs.length ≤ sizeLine ∧ (a == sysModules) = false ∧
  ∃ xs,KT H kvs xs ∧ h.DictOfH (tupleKind (S4 P w)) a xs := AJ5 ok (.inl e)
end
def DGet (H : Hp) (a : Addr) (y : V) (r : Option V) : Prop :=
 (∃ kvs k,Rd H a (.dK kvs) ∧ y = kV k ∧ r = S8 kvs k) ∨ ∃ kvs k b,Rd H a (.dT kvs) ∧ y = .ref b ∧ H b = some (.tup (k.map kV)) ∧ r = S8 kvs k
def DPut (H : Hp) (a : Addr) (y v : V) (H' : Hp) : Prop :=
 (∃ kvs k,H a = some (.dK kvs) ∧ y = kV k ∧ kvs.length < sizeLine ∧ H' = D5 H a (.dK (X5 kvs k v))) ∨
 ∃ kvs k b,H a = some (.dT kvs) ∧ y = .ref b ∧ H b = some (.tup (k.map kV)) ∧ kvs.length < sizeLine ∧ H' = D5 H a (.dT (X5 kvs k v))
theorem DGet.k {H : Hp} {a : Addr} {kvs : List (M9 × V)} {k : M9} (e : H a = some (.dK kvs)) : DGet H a (kV k) (S8 kvs k) := .inl ⟨kvs,k,.inl e,rfl,rfl⟩
theorem DPut.k {H : Hp} {a : Addr} {kvs : List (M9 × V)} {k : M9} {v : V} (e : H a = some (.dK kvs)) (hl : kvs.length < sizeLine) : DPut H a (kV k) v (D5 H a (.dK (X5 kvs k v))) := .inl ⟨kvs,k,e,rfl,hl,rfl⟩
section
variable {X : Cx} {pins : List (Addr × Obj)} {σ : St} {H : Hp} {s : Shared} {a : Addr} {y v : V} {u r : Value} {o : Option V} {A : Around} {E : Value → Shared → Prop}
theorem Inv.big (I : Inv X pins σ H s) : sysModules < s.heap.objs.size := by
 have h : mainGlobals < s.heap.objs.size := (I.mod.glob.keeps I.bk).lt
 exact Nat.lt_trans (by decide) h
theorem BH1 {Q : Value → Shared → Prop} (hu : A.units + 1 < cLine) (I : Inv X pins σ H s) (g : DGet H a y o) (ry : RelV y u) (h : ∀ s',Inv X pins σ H s' → Q (.bool o.isSome) s') :
  wpAny (model X.prog X.w) A (compareOp .In u (.ref a)) Q E s := by
 rcases g with ⟨kvs,k,e,ey,l⟩ | ⟨kvs,k,b,e,ey,eb,l⟩
 ·subst ey
  obtain ⟨z,hd,vs,rel,dd⟩ := AJ6 I.hok e
  refine wpAny_in_of (wR ry) hd dd.mapOf ?_
  rw [← (rel.val k).isSome_eq,← l]
  exact h _ (I.tok _)
 ·subst ey
  cases (show u = Value.ref b from ry)
  obtain ⟨z,hd,xs,rel,dd⟩ := AJ5 I.hok e
  refine wpAny_in_heap (tupleKind_room_in1 hu) (sK I.hok eb) hd dd ?_
  have q := (rel.val k).isSome_eq
  rw [Option.isSome_map] at q
  rw [← q,← l]
  exact h _ (I.tok _)
theorem vE {h' : Heap} {t' : Nat} {ob : HO} (I : Inv X pins σ H s) (mu : zT (H a)) (hs : Heap.SameBut a s.heap h') (he : ∃ q,h'.get? a = some q) (new : ObjOk X.prog X.w (D5 H a ob) h' a ob) :
  Inv X pins σ (D5 H a ob) { s with heap := h',toks := t' } :=
 I.write (x := a) (e := a) mu (.inl rfl) (fun b q hb z=>(hs.2 b hb).trans z) he new
theorem AX4 {P : Program} {w : World} {H' : Hp} {h' : Heap} {kvs : List (M9 × V)} {vs : List (M9 × Value)} (z : kvs.length ≤ sizeLine) (hd : (a == sysModules) = false) (rel : KV kvs vs) (dd : h'.DictOf (S4 P w) a vs) :
  ObjOk P w H' h' a (.dK kvs) := ⟨z,hd,vs,rel,dd⟩
theorem zG {H' : Hp} {Q : Unit → Shared → Prop} (hu : A.units + 1 < cLine) (I : Inv X pins σ H s) (g : DPut H a y v H') (ry : RelV y u) (rv : RelV v r) (h : ∀ s',Inv X pins σ H' s' → Q () s') :
  wpAny (model X.prog X.w) A (setItem (.ref a) u r) Q E s := by
 rcases g with ⟨kvs,k,e,ey,l,eH⟩ | ⟨kvs,k,b,e,ey,eb,l,eH⟩
 ·subst ey eH
  obtain ⟨z,hd,vs,rel,dd⟩ := AJ7 I.hok e
  have hz : vs.length ≤ sizeLine := by rw [← rel.length]; exact z
  have hl : (X5 kvs k v).length ≤ sizeLine := by have := eL kvs k v; omega
  refine wpAny_setItem_pairs (hsz := hz) (wR ry) dd fun h' dd' hs=>h _ ?_
  have he : ∃ q,h'.get? a = some q := let ⟨q,_,_,hq,_⟩ := dd'; ⟨q,hq⟩
  exact vE I (by rw [e]; exact True.intro) hs he (AX4 hl hd (rel.put k rv) dd')
 ·subst ey eH
  cases (show u = Value.ref b from ry)
  obtain ⟨z,hd,xs,rel,dd⟩ := BC6 I.hok e
  have hz : xs.length ≤ sizeLine := by rw [← Paired.length rel]; exact z
  have hl : (X5 kvs k v).length ≤ sizeLine := by have := eL kvs k v; omega
  refine wpAny_setItem_heap (hsz := hz) (tupleKind_room_in1 hu) (sK I.hok eb) dd fun h' dd' hs=>h _ ?_
  obtain ⟨q,es,ep,hq,h2,h3,h4,_,h5⟩ := dd'
  refine vE I (by rw [e]; exact True.intro) hs ⟨q,hq⟩ ⟨hl,hd,_,(rel.put k eb rv).keeps fun c ys ec=>?_,q,es,ep,hq,h2,h3,h4,h5⟩
  rw [B5 (BB3 ec e (fun z=>nomatch z))]
  exact ec
end
section
variable {X : Cx} {pins : List (Addr × Obj)} {σ : St} {H : Hp} {s : Shared} {a : Addr} {kvs : List (M9 × V)} {k : M9} {u : Value} {A : Around} {E : Value → Shared → Prop}
end
def BE8 (ty td : TE) : TE := fun σ H Q=>ty σ H fun y H1=>td σ H1 fun x H2=>∃ a o,x = .ref a ∧ DGet H2 a y o ∧ Q (.bl o.isSome) H2
def BA5 (td ty tv : TE) : TS := fun D σ H=>tv σ H fun v H1=>td σ H1 fun x H2=>ty σ H2 fun y H3=>∃ a H4,x = .ref a ∧ DPut H3 a y v H4 ∧ D.nx σ H4
section
variable {X : Cx} {o i e value : Expr} {pos pos' tpos : Pos} {td ty tv : TE}
theorem AT0 (hu : X.A.units + 1 < cLine) (hi : PE X i ty) (ho : PE X o td) : PC X .In i o (BE8 ty td) := by
 intro pins s σ H Q I h
 refine G0 (hi pins s σ H _ I h) fun iv s1 ⟨y,H1,I1,ry,q1⟩=>G0 (ho pins s1 σ H1 _ I1 q1) fun u s2 ⟨x,H2,I2,rx,a,ov,ex,g,q2⟩=>?_
 subst ex
 obtain rfl : u = Value.ref a := rx
 exact BH1 hu I2 g ry fun s3 I3=>⟨.bl ov.isSome,H2,I3,rfl,q2⟩
theorem AM1 (hu : X.A.units + 1 < cLine) (ho : PE X o td) (hi : PE X i ty) (hv : PE X value tv) (hs : swapsWith value (some (.Subscript o i pos')) pos.line X.env = pure false) :
  PS X (.Assign [.Subscript o i pos'] value pos) (BA5 td ty tv) := by
 intro pins s σ H D I h
 refine wpAny_Assign_Subscript (G0 (hv pins s σ H _ I h) fun r s1 ⟨v,H1,I1,rv,q1⟩=>G0 (ho pins s1 σ H1 _ I1 q1) fun u s2 ⟨x,H2,I2,rx,q2⟩=>G0 (hi pins s2 σ H2 _ I2 q2) fun iv s3 ⟨y,H3,I3,ry,a,H4,ex,g,q3⟩=>?_) hs
 subst ex
 obtain rfl : u = Value.ref a := rx
 exact zG hu I3 g ry rv fun s4 I4=>⟨σ,H4,I4,q3⟩
end
theorem AG0 {P : Program} {w : World} {H : Hp} (h : Heap) (hb : sysModules < h.objs.size) : ObjOk P w H (h.push { cls := .type "dict",data := .dict #[] }) h.objs.size (.dK []) :=
 ⟨Nat.zero_le _,beq_eq_false_iff_ne.mpr (Ne.symm (Nat.ne_of_lt hb)),[],.nil,Heap.DictOf.new h⟩
def AQ7 : TE := fun _ H Q=>∀ p,H p = none → Q (.ref p) (D5 H p (.dK []))
section
variable {X : Cx} {pos : Pos}
theorem AB7 : PE X (.Dict [] [] pos) AQ7 := fun pins s σ H Q I h =>
 wpAny_Dict_empty ⟨.ref s.heap.objs.size,_,I.laid (a := s.heap.objs.size) (o := .dK []) (t' := s.toks) (fun _ _ q=>Heap.get?_push_of_some _ q) (Nat.le_refl _) (AG0 s.heap I.big),rfl,h _ (I.hok.fresh (Nat.le_refl _))⟩
end
section
variable {X : Cx} {pins : List (Addr × Obj)} {σ : St} {H : Hp} {s : Shared} {a : Addr} {y d : V} {u r : Value} {o : Option V} {A : Around} {E : Value → Shared → Prop}
end
section
variable {X : Cx} {o e f : Expr} {apos cpos : Pos} {td ty tx : TE}
end
section
variable {X : Cx} {pins : List (Addr × Obj)} {σ : St} {H : Hp} {s : Shared} {a : Addr} {kvs : List (M9 × V)} {A : Around} {E : Value → Shared → Prop}
end
section
variable {X : Cx} {pins : List (Addr × Obj)} {σ : St} {H : Hp} {s : Shared} {a : Addr} {y : V} {u : Value} {A : Around} {E : Value → Shared → Prop}
end
end L2
namespace L2
open PySem PySem.Spec PyProof.Rows
section
variable {κ : Type} [DecidableEq κ]
end
end L2
namespace L2
open PySem PySem.Spec PyProof.Rows
section
variable {X : Cx}
theorem bM : T2 X (binaryOp .Mult) (fun x y H Q=>∃ i n,x = .str i ∧ y = .int n ∧ i.length ≤ 1000 ∧ 0 ≤ n ∧ n ≤ 1000 ∧ Q (.str (Txt.mul i n)) H) := by
 intro pins s σ H x y v u Q I rx ry h
 obtain ⟨i,n,rfl,rfl,h1,h2,h3,q⟩ := h
 obtain ⟨t,rfl⟩ := rx
 obtain ⟨t',rfl⟩ := ry
 exact SB.mul (PyProof.Rows.mulOk_of 1000 1000 h1 (by omega) (by omega) (by decide) (by decide)) fun t2 k=>⟨.str _,H,I.tok k,⟨t2,rfl⟩,q⟩
theorem U9 : T2 X (compareOp .LtE) (fun x y H Q=>∃ i j,x = .str i ∧ y = .str j ∧ Q (.bl (!decide (j.cps.toList < i.cps.toList))) H) := by
 intro pins s σ H x y v u Q I rx ry h
 obtain ⟨i,j,rfl,rfl,q⟩ := h
 obtain ⟨t,rfl⟩ := rx
 obtain ⟨t',rfl⟩ := ry
 exact PySem.P.le_str ⟨.bl _,H,I,rfl,q⟩
def Its (x : Str) : It := ⟨fun i _=>i < x.cps.size,fun i H v H'=>H' = H ∧ ∃ c,x.cps[i]? = some c ∧ v = .str ⟨#[c]⟩,fun i _=>x.cps.size ≤ i⟩
theorem qY {P : Program} {w : World} {K : PySem.W.Frag} {tg : Expr} (it : Addr) (T : String) (x : Str) (t : Tok) (hT : T = "str_ascii_iterator" ∨ T = "str_iterator") : hW P w K tg (Its x) [it] it (fun i h=>h.IsStrIter it T x t i) where
 mem := by simp
 obj := fun i h st b hb=>by
  have e : b = it := by simpa using hb
  subst e
  obtain ⟨o,e,c,d⟩ := st
  exact ⟨o,e,fun v z=>by rw [d] at z; cases z⟩
 keep := fun i h h' st k=>by
  obtain ⟨o,e,r⟩ := st
  exact ⟨o,k it (by simp) o e,r⟩
 item := by
  intro X hP hw hK hc i pins s σ H E I hf st hg
  subst hP hw hK
  have hg : i < x.cps.size := hg
  obtain ⟨f0,f1,f2,f3,f4,f5⟩ := hf it (by simp)
  rcases hT with rfl | rfl
  ·refine wpAny_pyNext_ascii_item st (c := x.cps[i]) (by simp [hg]) fun h' st' sb=>?_
   have I1 : Inv X pins σ H { s with heap := h',toks := s.toks + 1 } := I.turned (t' := s.toks + 1) (fun b o hb e=>(sb.2 b hb).trans e) f0 f1 f3 f4 f5
   obtain ⟨o,e,c,d⟩ := id st'
   exact ⟨_,rfl,mK (s := { s with heap := h',toks := s.toks + 1 }) e c d (by decide) ⟨.str ⟨#[x.cps[i]]⟩,H,I1,⟨_,rfl⟩,⟨rfl,_,by simp [hg],rfl⟩,st',fun b hb=>(hf b hb).1⟩⟩
  ·refine wpAny_pyNext_wide_item st (c := x.cps[i]) (by simp [hg]) fun h' st' sb=>?_
   have I1 : Inv X pins σ H { s with heap := h',toks := s.toks + 1 } := I.turned (t' := s.toks + 1) (fun b o hb e=>(sb.2 b hb).trans e) f0 f1 f3 f4 f5
   obtain ⟨o,e,c,d⟩ := id st'
   exact ⟨_,rfl,mK (s := { s with heap := h',toks := s.toks + 1 }) e c d (by decide) ⟨.str ⟨#[x.cps[i]]⟩,H,I1,⟨_,rfl⟩,⟨rfl,_,by simp [hg],rfl⟩,st',fun b hb=>(hf b hb).1⟩⟩
 done := by
  intro X hP hw hK hc i pins s σ H E I hf st hg
  subst hP hw hK
  have hg : x.cps.size ≤ i := hg
  obtain ⟨f0,f1,f2,f3,f4,f5⟩ := hf it (by simp)
  rcases hT with rfl | rfl
  ·exact wpAny_pyNext_ascii_end (I.ok.hd hc) st (by simp [hg]) fun h' eb=>⟨rfl,I.turned (t' := s.toks) (fun b o hb e=>eb b o hb e) f0 f1 f3 f4 f5⟩
  ·exact wpAny_pyNext_wide_end (I.ok.hd hc) st (by simp [hg]) fun h' eb=>⟨rfl,I.turned (t' := s.toks) (fun b o hb e=>eb b o hb e) f0 f1 f3 f4 f5⟩
 self := fun A i s Q E st h=>by
  rcases hT with rfl | rfl
  ·exact wpAny_pyIter_striter_ascii st h
  ·exact wpAny_pyIter_striter_wide st h
def BG7 (tl : TE) : TI := fun σ H R=>tl σ H fun v H1=>∃ x,v = .str x ∧ R (Its x) H1
theorem AS7 {tg l : Expr} {tl : TE} (hl : PE X l tl) : PI X tg l (BG7 tl) := by
 intro pins s σ H R I h
 refine G0 (hl pins s σ H _ I h) fun v s1 ⟨y,H1,I1,r1,q1⟩=>?_
 obtain ⟨x,e,q⟩ := q1
 subst e
 obtain ⟨t,rfl⟩ := r1
 have fp : ∀ (o : Obj) (b : Addr),b ∈ [s1.heap.objs.size] → Z2 X pins H1 b := fun o b hb=>by
  have e : b = s1.heap.objs.size := by simpa using hb
  subst e
  exact I1.fpOk (Nat.le_refl _) (I1.hok.fresh (Nat.le_refl _))
 cases ha : x.cps.all (· < 128) with
 | false=>exact wpAny_pyIter_wide ha ⟨s1.heap.objs.size,[s1.heap.objs.size],_,_,H1,rfl,I1.kept (t' := s1.toks) fun b o e=>Heap.get?_push_of_some _ e,qY _ "str_iterator" x t (.inr rfl),⟨_,Heap.get?_push_size _ rfl,rfl,rfl⟩,fp default,q⟩
 | true=>exact wpAny_pyIter_ascii ha ⟨s1.heap.objs.size,[s1.heap.objs.size],_,_,H1,rfl,I1.kept (t' := s1.toks) fun b o e=>Heap.get?_push_of_some _ e,qY _ "str_ascii_iterator" x t (.inl rfl),⟨_,Heap.get?_push_size _ rfl,rfl,rfl⟩,fp default,q⟩
theorem AG2 {fr : List (Option Nat)} {g : TG} {ti : TT} {te : TE} {σ : St} {H1 : Hp} {l : Addr} {Q : VK} {x : Str} (Pv : Nat → List V → Hp → Prop) (h0 : Pv 0 [] (D5 H1 l (.lst [])))
  (hs : ∀ i c ys H,x.cps[i]? = some c → Pv i ys H → U4 fr g ti te σ l (.str ⟨#[c]⟩) ys H (Pv (i + 1))) (hd : ∀ ys H,Pv x.cps.size ys H → Q (.ref l) H) : mV (Its x) fr g ti te σ H1 l Q := by
 refine ⟨fun i m ys H=>m = x.cps.size - i ∧ i ≤ x.cps.size ∧ Pv i ys H,⟨x.cps.size,by simp,Nat.zero_le _,h0⟩,?_⟩
 rintro i m ys H ⟨rfl,hi,p⟩
 by_cases hlt : i < x.cps.size
 ·refine .inr ⟨hlt,Pv (i + 1),fun zs H' p'=>⟨x.cps.size - (i + 1),by omega,rfl,hlt,p'⟩,fun v H' y=>?_⟩
  obtain ⟨e,c,hc,e2⟩ := y
  subst e e2
  exact hs i c ys _ hc p
 ·have e : i = x.cps.size := by omega
  subst e
  exact .inl ⟨Nat.le_refl _,hd ys H p⟩
end
end L2
namespace L2
open PySem PySem.Spec PyProof.Rows
section
variable {X : Cx} {pins : List (Addr × Obj)} {σ : St} {H : Hp} {s : Shared}
theorem Inv.turnedN {h' : Heap} {t' : Nat} {ch : List Addr} {N : Addr} {xs : List V} {us : List Value} (I : Inv X pins σ H s) (hf : ∀ b ∈ ch,Z2 X pins H b) (k : ∀ b o,b ∉ ch → s.heap.get? b = some o → h'.get? b = some o)
  (hN : s.heap.objs.size ≤ N) (hz : xs.length ≤ sizeLine) (r : Vals xs us) (hT : IsTup h' N us.toArray) : Inv X pins σ (D5 H N (.tup xs)) { s with heap := h',toks := t' } := by
 have nch : ∀ b u,H b = some u → b ∉ ch := fun b u e z=>by rw [(hf b z).1] at e; cases e
 have fr : H N = none := I.hok.fresh hN
 have ne : ∀ b o,s.heap.get? b = some o → b ≠ N := fun b o e z=>by
  have := Heap.lt_size e
  rw [z] at this
  exact absurd this (Nat.not_lt.mpr hN)
 refine I.step (g' := s.gens) (d' := s.drawn) (ch := ch) (fun b hb=>?_) (fun b o _ _ hc e _=>k b o hc e) (fun b o _ _ hc e _=>⟨o.slots,k b o hc e⟩) (fun b o _ e n=>by rw [B5 (ne b o e)]; exact n)
  (fun b o hc e=>⟨o,k b o hc e⟩) (fun b ys e=>by rw [B5 (D8 e fr)]; exact e) (fun b o u e=>by rw [B5 (D8 e fr)]; exact e) (fun b ps e=>⟨#[],by rw [B5 (D8 e fr),e]; simp⟩) (fun m hm=>?_) (fun b u e=>?_) I.bare
 ·obtain ⟨f0,f1,f2,f3,f4,f5⟩ := hf b hb
  exact ⟨f3,f1,f4,f5⟩
 ·obtain ⟨o,es,ep,ho,rr⟩ := hm
  exact ⟨o,es,ep,k _ o (fun z=>(hf _ z).2.1 rfl) ho,rr⟩
 ·by_cases hb : b = N
  ·subst hb
   rw [A6] at e
   cases e
   exact ⟨hz,us,r,hT⟩
  ·rw [B5 hb] at e
   refine (I.hok b u e).stay (fun c v hc q=>k c v ?_ q) (fun c q=>by rw [B5 (D8 q fr)]; exact q) fun c ys q=>by rw [B5 (D8 q fr)]; exact q
   rcases hc with z | z
   ·rw [z]; exact nch b u e
   ·exact nch c _ z
end
section
variable {X : Cx}
end
end L2
namespace L2
open PySem PySem.Spec PyProof.Rows
def zW (K : PySem.W.Frag) (a : Addr) : It :=
  ⟨fun i H => ∃ xs x, SqL K H a xs ∧ xs[i]? = some x,
   fun i H v H' => ∃ T x, v = .ref T ∧ H T = none ∧ H' = D5 H T (.tup [.int (i : Int), x]) ∧ ∀ xs, SqL K H a xs → xs[i]? = some x,
   fun i H => ∃ xs, SqL K H a xs ∧ xs.length ≤ i⟩
def BH5 (e it a : Addr) (i : Nat) (h : Heap) : Prop := (∃ old,IsEnum h e it (i : Int) old) ∧ h.IsListIter it a i
theorem xD {P : Program} {w : World} {K : PySem.W.Frag} {elts : List Expr} {x1 : Nat} {pos : Pos} (e it a : Addr) (hne : e ≠ it) : hW P w K (.Tuple elts x1 pos) (zW K a) [e,it] e (BH5 e it a) where
 mem := by simp
 obj := fun i h st c hc=>by
  obtain ⟨⟨old,he⟩,⟨o1,e1,_,d1⟩⟩ := st
  simp only [List.mem_cons,List.not_mem_nil,or_false] at hc
  rcases hc with rfl | rfl
  ·exact ⟨_,he,fun v y=>by cases y⟩
  ·exact ⟨o1,e1,fun v y=>by rw [d1] at y; cases y⟩
 keep := fun i h h' st k=>by
  obtain ⟨⟨old,he⟩,h1⟩ := st
  exact ⟨⟨old,k e (by simp) _ he⟩,h1.at fun o q=>k it (by simp) o q⟩
 item := by
  intro X hP hw hK hc i pins s σ H E I hf st hg
  subst hP hw hK
  obtain ⟨xs,x,ha,hx⟩ := hg
  obtain ⟨⟨old,he⟩,h1⟩ := st
  obtain ⟨its1,rv1,p1,z1⟩ := I.list ha
  obtain ⟨u1,hu1,ru1⟩ := rv1.get hx
  refine wpAny_pyNext_enum_item he h1 p1.isList (by simpa using hu1) hne fun h' a1 a2 a3 a4 a5=>⟨_,rfl,wpAny_letOwnedTupleGo_enum (s := { s with heap := h',toks := s.toks + 1 }) a1 fun h2' b1 sb=>?_⟩
  have hNe : s.heap.objs.size ≠ e := Nat.ne_of_gt (Heap.lt_size he)
  have hNi : s.heap.objs.size ≠ it := by obtain ⟨o1,e1,_⟩ := h1; exact Nat.ne_of_gt (Heap.lt_size e1)
  have kk : ∀ c o,c ∉ [e,it] → s.heap.get? c = some o → h2'.get? c = some o := fun c o hc q=>by
   simp only [List.mem_cons,List.not_mem_nil,or_false,not_or] at hc
   exact sb.extBut c o hc.1 (a5 c o hc.1 hc.2 q)
  refine ⟨.ref s.heap.objs.size,D5 H s.heap.objs.size (.tup [.int (i : Int),x]),(show Inv X pins σ (D5 H s.heap.objs.size (.tup [.int (i : Int),x])) { s with heap := h2',toks := s.toks + 1 } from I.turnedN (t' := s.toks + 1) (ch := [e,it]) (us := [.int (i : Int) s.toks,u1]) hf kk (Nat.le_refl _) (by show 2 ≤ sizeLine; decide) (.cons ⟨_,rfl⟩ (.cons ru1 .nil)) ⟨_,sb.extBut _ _ hNe a3,rfl,_,rfl⟩),rfl,
   ⟨s.heap.objs.size,x,rfl,I.hok.fresh (Nat.le_refl _),rfl,fun xs' hx'=>by rw [I.list_inj hx' ha]; exact hx⟩,⟨⟨_,b1⟩,a2.extBut sb.extBut (Ne.symm hne)⟩,fun c hc=>?_⟩
  have hcN : c ≠ s.heap.objs.size := by
   simp only [List.mem_cons,List.not_mem_nil,or_false] at hc
   rcases hc with rfl | rfl
   ·exact Ne.symm hNe
   ·exact Ne.symm hNi
  rw [B5 hcN]
  exact (hf c hc).1
 done := by
  intro X hP hw hK hc i pins s σ H E I hf st hg
  subst hP hw hK
  obtain ⟨xs,ha,hend⟩ := hg
  obtain ⟨⟨old,he⟩,h1⟩ := st
  obtain ⟨its1,rv1,p1,z1⟩ := I.list ha
  have l1 := rv1.length
  obtain ⟨f0,f1,f2,f3,f4,f5⟩ := hf it (by simp)
  exact wpAny_pyNext_enum_end (I.ok.hd hc) he h1 p1.isList (by simp; omega) fun h' eb=>⟨rfl,I.turned (t' := s.toks) (fun b o hb e=>eb b o hb e) f0 f1 f3 f4 f5⟩
 self := fun _ _ _ _ _ st h=>by
  obtain ⟨⟨old,he⟩,_⟩ := st
  exact wpAny_pyIter_enum he h
theorem vF : bootBuiltins "enumerate" = some (.type "enumerate") := by decide +kernel
def BC2 (K : PySem.W.Frag) (ta : TA) : TI := fun σ H R=>ta σ H fun vs H1=>∃ a,vs = [.ref a] ∧ (∃ xs,SqL K H1 a xs) ∧ R (zW K a) H1
section
variable {X : Cx}
theorem AM2 {elts : List Expr} {x1 : Nat} {tpos : Pos} {a : Expr} {ta : TA} {p pos : Pos} (hg : Gl X "enumerate") (hm : X.mg "enumerate" = none) (ha : PA X [a] ta) (hs : starEach [a] X.env = [(false,eval a X.env)] := by rfl) :
  PI X (.Tuple elts x1 tpos) (.Call (.Name "enumerate" p) [a] [] pos) (BC2 X.K ta) := by
 intro pins s σ H R I h
 refine Call_ (fV I hg hm vF (PyProof.Rows.callWith_type1 (G0 (ha pos pins s σ H _ I h) fun us s1 ⟨vs,H1,I1,r1,q1⟩=>?_) hs rfl))
 obtain ⟨a,e,⟨xs,hx⟩,q⟩ := q1
 subst e
 cases r1 with
 | cons r rr =>
  cases rr
  cases r
  obtain ⟨its1,rv1,p1,z1⟩ := I1.list hx
  refine call_enumerate_list p1.isList fun h' he hi hsz hk=>?_
  refine wpAny_pyIter_enum (s := { s1 with heap := h' }) he ⟨s1.heap.objs.size + 1,[s1.heap.objs.size + 1,s1.heap.objs.size],_,_,H1,rfl,I1.kept (t' := s1.toks) hk,xD _ _ a (Nat.ne_of_gt (Nat.lt_succ_self _)),⟨⟨_,he⟩,hi⟩,fun c hc=>?_,q⟩
  have hge : s1.heap.objs.size ≤ c := by
   simp only [List.mem_cons,List.not_mem_nil,or_false] at hc
   rcases hc with h | h
   ·rw [h]; exact Nat.le_add_right _ _
   ·rw [h]; exact Nat.le_refl _
  exact I1.fpOk hge (I1.hok.fresh hge)
end
theorem AF4 {K : PySem.W.Frag} {a : Addr} {xs : List V} {g : TG} {tb : TS} {D : eU} {σ : St} {H : Hp} (Pv : Nat → St → Hp → Prop) (h0 : Pv 0 σ H) (hl : ∀ i σ H,Pv i σ H → SqL K H a xs)
  (hs : ∀ i x σ H T,xs[i]? = some x → Pv i σ H → H T = none → g (.ref T) σ (D5 H T (.tup [.int (i : Int),x])) fun σ2 H2=>tb { D with nx := Pv (i + 1),ct := Pv (i + 1),bk := D.nx } σ2 H2) (hd : ∀ σ H,Pv xs.length σ H → D.nx σ H) :
  ∃ W : Nat → Nat → St → Hp → Prop,(∃ m,W 0 m σ H) ∧ ∀ i m σ H,W i m σ H →
   ((zW K a).stop i H ∧ D.nx σ H) ∨ ((zW K a).go i H ∧ ∃ N : St → Hp → Prop,(∀ σ' H',N σ' H' → ∃ m',m' < m ∧ W (i + 1) m' σ' H') ∧ ∀ x H',(zW K a).yld i H x H' → g x σ H' fun σ2 H2=>tb { D with nx := N,ct := N,bk := D.nx } σ2 H2) := by
 refine ⟨fun i m σ H=>m = xs.length - i ∧ i ≤ xs.length ∧ Pv i σ H,⟨xs.length,by simp,Nat.zero_le _,h0⟩,?_⟩
 rintro i m σ H ⟨rfl,hi,p⟩
 have qa := hl i σ H p
 by_cases hlt : i < xs.length
 ·refine .inr ⟨⟨xs,xs[i],qa,by simp [hlt]⟩,Pv (i + 1),fun σ' H' p'=>⟨xs.length - (i + 1),by omega,rfl,hlt,p'⟩,fun x H' y=>?_⟩
  obtain ⟨T,x',rfl,hT,rfl,hxy⟩ := y
  exact hs i x' σ _ T (hxy xs qa) p hT
 ·have e : i = xs.length := by omega
  subst e
  exact .inl ⟨⟨xs,qa,Nat.le_refl _⟩,hd σ H p⟩
section
variable {X : Cx}
theorem zL : U2 X (.builtin "isinstance") (fun xs H Q=>∃ a ys T,xs = [.ref a,.ty T] ∧ SqL X.K H a ys ∧ ((T = "list" ∧ Q (.bl true) H) ∨ ((T = "tuple" ∨ T = "str" ∨ T = "int" ∨ T = "bool" ∨ T = "dict") ∧ Q (.bl false) H))) := by
 intro pins s σ H xs us Q I r h
 obtain ⟨a,ys,T,rfl,hq,h⟩ := h
 obtain ⟨u,w,rfl,ru,rw'⟩ := lF r
 cases ru
 cases rw'
 obtain ⟨its,rv,p,hz⟩ := I.list hq
 obtain ⟨o,ho,hc,_⟩ := p.isList
 rcases h with ⟨rfl,q⟩ | ⟨h,q⟩
 ·exact IsiPair.list_list ho hc ⟨.bl true,H,I,rfl,q⟩
 ·have fin : ∀ t,EP X pins σ Q (.bool false) { s with toks := t } := fun t=>⟨.bl false,H,I.tok t,rfl,q⟩
  rcases h with rfl | rfl | rfl | rfl | rfl
  ·exact IsiPair.list_tuple ho hc (fin _)
  ·exact IsiPair.list_str ho hc (fin _)
  ·exact IsiPair.list_int ho hc (fin _)
  ·exact IsiPair.list_bool ho hc (fin _)
  ·exact IsiPair.list_dict ho hc (fin _)
end
end L2
namespace L2
open PySem PySem.Spec PyProof.Rows
section
variable {prog : Program} {w : World} {A : Around} {E : Value → Shared → Prop} {s : Shared}
theorem wM {it t : Addr} {i : Nat} {its : Array Value} {x : Value} {Q : Value → Shared → Prop} (hit : s.heap.IsTupleIter it t i) (ht : s.heap.IsTuple t its) (hx : its[i]? = some x)
  (hQ : ∀ h',h'.IsTupleIter it t (i + 1) → Heap.SameBut it s.heap h' → Q x { s with heap := h' }) : wpAny (model prog w) A (Builtin.SmallTypes.nextOf (.ref it)) Q E s := by
 obtain ⟨oi,hoi,hci,hdi⟩ := id hit
 obtain ⟨ot,hot,_,nt,hdt⟩ := ht
 unfold Builtin.SmallTypes.nextOf
 refine wpAny_bind (wpAny_callSpecial?_slot (name := Str.ofString "__next__") hit.typeIs PySem.F.slot_tuple_iterator_next (wpAny_call_entry PySem.F.slot_tuple_iterator_next hit.typeIs PySem.F.entry_tuple_iterator_next ?_ (PySem.F.args_tuple_iterator_next_1 _)))
 show wpAny _ _ (field (.ref it) 0 >>= _) _ _ s
 refine wpAny_bind (wpAny_field hoi hdi (x := .ref t) rfl ?_)
 show wpAny _ _ (if (Value.ref t == Value.none) = true then _ else _) _ _ s
 rw [if_neg (show ¬ ((Value.ref t == Value.none) = true) from Bool.false_ne_true)]
 show wpAny _ _ (field (.ref it) 1 >>= _) _ _ s
 refine wpAny_bind (wpAny_field hoi hdi (x := .int i 0) rfl ?_)
 show wpAny _ _ (seqItems? (.ref t) >>= _) _ _ s
 refine wpAny_bind (wpAny_seqItems hot hdt ?_)
 simp only [Int.toNat_natCast,hx]
 refine wpAny_bind (wpAny_setField hoi hdi (by simp) (wpAny_pure ⟨x,rfl,wpAny_pure (hQ _ ?_ (Heap.SameBut.update ..))⟩))
 exact ⟨_,Heap.get?_update_self _ hoi (Obj.isFreed_of_fields (Obj.data_mapFields hdi _)),(Obj.cls_mapFields ..).trans hci,by rw [Obj.data_mapFields hdi]; simp [rawInt]⟩
theorem pF {it t : Addr} {i : Nat} {its : Array Value} {Q : Value → Shared → Prop} (hh : A.handled = none) (hit : s.heap.IsTupleIter it t i) (ht : s.heap.IsTuple t its) (hx : its[i]? = none)
  (hE : ∀ h' e,Heap.ExtBut it s.heap h' → (∃ o,h'.get? e = some o ∧ o.cls = .type "StopIteration") → E (.ref e) { s with heap := h' }) : wpAny (model prog w) A (Builtin.SmallTypes.nextOf (.ref it)) Q E s := by
 obtain ⟨oi,hoi,hci,hdi⟩ := id hit
 obtain ⟨ot,hot,_,nt,hdt⟩ := ht
 unfold Builtin.SmallTypes.nextOf
 refine wpAny_bind (wpAny_callSpecial?_slot (name := Str.ofString "__next__") hit.typeIs PySem.F.slot_tuple_iterator_next (wpAny_call_entry PySem.F.slot_tuple_iterator_next hit.typeIs PySem.F.entry_tuple_iterator_next ?_ (PySem.F.args_tuple_iterator_next_1 _)))
 show wpAny _ _ (field (.ref it) 0 >>= _) _ _ s
 refine wpAny_bind (wpAny_field hoi hdi (x := .ref t) rfl ?_)
 show wpAny _ _ (if (Value.ref t == Value.none) = true then _ else _) _ _ s
 rw [if_neg (show ¬ ((Value.ref t == Value.none) = true) from Bool.false_ne_true)]
 show wpAny _ _ (field (.ref it) 1 >>= _) _ _ s
 refine wpAny_bind (wpAny_field hoi hdi (x := .int i 0) rfl ?_)
 show wpAny _ _ (seqItems? (.ref t) >>= _) _ _ s
 refine wpAny_bind (wpAny_seqItems hot hdt ?_)
 simp only [Int.toNat_natCast,hx]
 refine wpAny_bind (wpAny_rule (wpAny_bind (wpAny_setField hoi hdi (by simp) ?_)))
 show wpAny _ _ (newExc (.type "StopIteration") [] >>= _) _ _ _
 refine wpAny_bind ?_
 simp only [newExc,newTuple]
 refine wpAny_bind (wpAny_newObj_type ?_ (by size_fits))
 refine wpAny_bind (m := firstArgMember _ _) (wpAny_of_eq (a := Value.none) (by first | rfl | (simp only [firstArgMember]; rfl)) ?_)
 refine wpAny_newObj_type ?_ (by size_fits)
 simp only [raiseNew]
 refine wpAny_bind (wpAny_handled ?_)
 first | rw [show A.in1.handled = none from hh] | rw [hh]
 refine wpAny_bind (wpAny_pure (wpAny_throw ?_))
 exact hE _ _ (((Heap.SameBut.update ..).extBut.push _).push _) ⟨_,Heap.get?_push_size _ rfl,rfl⟩
end
end L2
namespace L2
open PySem PySem.Spec PyProof.Rows
inductive D where
 | non
 | bl (b : Bool)
 | int (i : Int)
 | str (s : Str)
 | tup (ds : List D)
 | lst
 | dic
mutual
def DV (K : PySem.W.Frag) (H : Hp) : D → V → Prop
 | .non,v=>v = .non
 | .bl b,v=>v = .bl b
 | .int i,v=>v = .int i
 | .str x,v=>v = .str x ∧ x.length ≤ 1000
 | .tup ds,v=>∃ a ys,v = .ref a ∧ SqT K H a ys ∧ DAll K H ds ys ∧ ds.length ≤ 100
 | .lst,v=>∃ a ys,v = .ref a ∧ H a = some (.lst ys)
 | .dic,v=>∃ a,v = .ref a ∧ H a = some (.dK [])
def DAll (K : PySem.W.Frag) (H : Hp) : List D → List V → Prop
 | [],ys=>ys = []
 | d :: ds,ys=>∃ y r,ys = y :: r ∧ DV K H d y ∧ DAll K H ds r
end
structure DKeep (K : PySem.W.Frag) (H H' : Hp) : Prop where
 tup : ∀ a ys,SqT K H a ys → SqT K H' a ys
 lst : ∀ a ys,H a = some (.lst ys) → ∃ zs,H' a = some (.lst zs)
 dic : ∀ a,H a = some (.dK []) → H' a = some (.dK [])
section
variable {K : PySem.W.Frag} {H H' : Hp}
theorem DKeep.same (g : Same H H') : DKeep K H H' := ⟨fun _ _ h=>g.seqT h,fun _ _ h=>⟨_,g _ _ h⟩,fun _ h=>g _ _ h⟩
mutual
theorem DV.mono (k : DKeep K H H') : ∀ (d : D) (v : V),DV K H d v → DV K H' d v
 | .non,v,h=>by simp only [DV] at h ⊢; exact h
 | .bl b,v,h=>by simp only [DV] at h ⊢; exact h
 | .int i,v,h=>by simp only [DV] at h ⊢; exact h
 | .str x,v,h=>by simp only [DV] at h ⊢; exact h
 | .tup ds,v,h=>by
  simp only [DV] at h ⊢
  obtain ⟨a,ys,e,hq,hd,hl⟩ := h
  exact ⟨a,ys,e,k.tup a ys hq,DAll.mono k ds ys hd,hl⟩
 | .lst,v,h=>by
  simp only [DV] at h ⊢
  obtain ⟨a,ys,e,hq⟩ := h
  obtain ⟨zs,hz⟩ := k.lst a ys hq
  exact ⟨a,zs,e,hz⟩
 | .dic,v,h=>by
  simp only [DV] at h ⊢
  obtain ⟨a,e,hq⟩ := h
  exact ⟨a,e,k.dic a hq⟩
theorem DAll.mono (k : DKeep K H H') : ∀ (ds : List D) (vs : List V),DAll K H ds vs → DAll K H' ds vs
 | [],vs,h=>by simp only [DAll] at h ⊢; exact h
 | d :: ds,vs,h=>by
  simp only [DAll] at h ⊢
  obtain ⟨y,r,e,h1,h2⟩ := h
  exact ⟨y,r,e,DV.mono k d y h1,DAll.mono k ds r h2⟩
end
end
def bF : D → String → Bool
 | .tup _,T=>T == "tuple"
 | .str _,T=>T == "str"
 | .int _,T=>T == "int"
 | .bl _,T=>T == "bool" || T == "int"
 | _,_=>false
section
variable {X : Cx}
theorem U1 : U2 X (.builtin "isinstance") (fun xs H Q=>∃ (v : V) (d : D) (T : String),xs = [v,.ty T] ∧ DV X.K H d v ∧ (T = "tuple" ∨ T = "str" ∨ T = "int" ∨ T = "bool") ∧ Q (.bl (bF d T)) H) := by
 intro pins s σ H xs us Q I r h
 obtain ⟨v,d,T,rfl,hd,hT,q⟩ := h
 obtain ⟨u,w,rfl,ru,rw'⟩ := lF r
 cases rw'
 have fin : ∀ t b,bF d T = b → EP X pins σ Q (.bool b) { s with toks := t } := fun t b e=>⟨.bl b,H,I.tok t,rfl,e ▸ q⟩
 have fin0 : ∀ b,bF d T = b → EP X pins σ Q (.bool b) s := fun b e=>⟨.bl b,H,I,rfl,e ▸ q⟩
 cases d with
 | non =>
  simp only [DV] at hd
  subst hd
  cases ru
  rcases hT with rfl | rfl | rfl | rfl
  ·exact IsiPair.NoneType_tuple (fin _ _ rfl)
  ·exact IsiPair.NoneType_str (fin _ _ rfl)
  ·exact IsiPair.NoneType_int (fin _ _ rfl)
  ·exact IsiPair.NoneType_bool (fin _ _ rfl)
 | bl b =>
  simp only [DV] at hd
  subst hd
  cases ru
  rcases hT with rfl | rfl | rfl | rfl
  ·exact IsiPair.bool_tuple (fin _ _ rfl)
  ·exact IsiPair.bool_str (fin _ _ rfl)
  ·exact IsiPair.bool_int (fin0 _ rfl)
  ·exact IsiPair.bool_bool (fin0 _ rfl)
 | int i =>
  simp only [DV] at hd
  subst hd
  obtain ⟨t,rfl⟩ := ru
  rcases hT with rfl | rfl | rfl | rfl
  ·exact IsiPair.int_tuple (fin _ _ rfl)
  ·exact IsiPair.int_str (fin _ _ rfl)
  ·exact IsiPair.int_int (fin0 _ rfl)
  ·exact IsiPair.int_bool (fin _ _ rfl)
 | str x =>
  simp only [DV] at hd
  obtain ⟨rfl,_⟩ := hd
  obtain ⟨t,rfl⟩ := ru
  rcases hT with rfl | rfl | rfl | rfl
  ·exact IsiPair.str_tuple (fin _ _ rfl)
  ·exact IsiPair.str_str (fin0 _ rfl)
  ·exact IsiPair.str_int (fin _ _ rfl)
  ·exact IsiPair.str_bool (fin _ _ rfl)
 | tup ds =>
  simp only [DV] at hd
  obtain ⟨a,ys,rfl,hq,_⟩ := hd
  cases ru
  obtain ⟨its,rv,⟨o,ho,hc,_⟩,hz⟩ := I.tuple hq
  rcases hT with rfl | rfl | rfl | rfl
  ·exact IsiPair.tuple_tuple ho hc (fin0 _ rfl)
  ·exact IsiPair.tuple_str ho hc (fin _ _ rfl)
  ·exact IsiPair.tuple_int ho hc (fin _ _ rfl)
  ·exact IsiPair.tuple_bool ho hc (fin _ _ rfl)
 | lst =>
  simp only [DV] at hd
  obtain ⟨a,ys,rfl,hq⟩ := hd
  cases ru
  obtain ⟨its,rv,p,hz⟩ := I.list (SqL.of hq)
  obtain ⟨o,ho,hc,_⟩ := p.isList
  rcases hT with rfl | rfl | rfl | rfl
  ·exact IsiPair.list_tuple ho hc (fin _ _ rfl)
  ·exact IsiPair.list_str ho hc (fin _ _ rfl)
  ·exact IsiPair.list_int ho hc (fin _ _ rfl)
  ·exact IsiPair.list_bool ho hc (fin _ _ rfl)
 | dic =>
  simp only [DV] at hd
  obtain ⟨a,rfl,hq⟩ := hd
  cases ru
  obtain ⟨_,_,vs,_,hm⟩ := AJ7 I.hok hq
  obtain ⟨o,ho,hc⟩ := hm.typeIs (s := s)
  rcases hT with rfl | rfl | rfl | rfl
  ·exact IsiPair.dict_tuple ho hc (fin _ _ rfl)
  ·exact IsiPair.dict_str ho hc (fin _ _ rfl)
  ·exact IsiPair.dict_int ho hc (fin _ _ rfl)
  ·exact IsiPair.dict_bool ho hc (fin _ _ rfl)
end
section
variable {X : Cx}
end
end L2
namespace L2
open PySem PySem.Spec PyProof.Rows
section
variable {X : Cx}
theorem zH {α : Type} (f : α → V) (us : List α) (n : Nat) : cY (us.map f) none (some (n : Int)) = (us.take n).map f := by
 unfold cY
 rw [HT.sIx_nat,HT.sIx_none]
 simp only [List.length_map,List.drop_zero,Nat.sub_zero]
 rw [← List.map_take]
 congr 1
 rcases Nat.le_total n us.length with h | h
 ·rw [Nat.min_eq_left h]
 ·rw [Nat.min_eq_right h,List.take_length,List.take_of_length_le h]
def AS2 (K : PySem.W.Frag) : R2 := fun x y H Q=>∃ a b xs,x = .ref a ∧ y = .ref b ∧ H a = some (.lst xs) ∧ H b = some (.lst []) ∧ Q (.bl (!decide (xs.length = 0))) H
end
end L2
namespace L2
open PySem PySem.Spec PyProof.Rows
section
variable {X : Cx}
theorem AT1 (hu : X.A.units + 64 < cLine) : T2 X (compareOp .NotEq) (AS2 X.K) := by
 intro pins s σ H x y v u Q I rx ry h
 obtain ⟨a,b,xs,rfl,rfl,ha,hb,q⟩ := h
 cases rx
 cases ry
 obtain ⟨its,rv,p,_⟩ := I.list (SqL.of ha)
 obtain ⟨its2,rv2,p2,_⟩ := I.list (SqL.of hb)
 cases rv2
 have hl := rv.length
 cases xs with
 | nil =>
  cases rv
  exact PySem.SeqAt.RcNeAt.lists (e := fun _=>true) p.isList p2.isList rfl (by omega) (fun j h1 h2=>by simp at h1) _ _ _ _ ⟨.bl _,H,I,rfl,q⟩
 | cons z zs =>
  refine PySem.SeqAt.RcNeAt.lists_lengths p.isList p2.isList ?_ (by omega) _ _ _ _ ⟨.bl _,H,I,rfl,?_⟩
  ·rw [List.size_toArray,← hl]; simp
  ·have e : (!decide ((z :: zs).length = 0)) = true := by simp
   rw [e] at q
   exact q
end
end L2
namespace L2
open PySem PySem.Spec PyProof.Rows
section
variable {X : Cx}
theorem Z8 : SlR X (fun x lo hi H Q=>∃ z,x = .str z ∧ z.length ≤ sizeLine ∧ Q (.str (Txt.slice z lo hi)) H) := by
 intro pins s σ H x v vl vu lo hi sl Q I rx hs pl pu h
 obtain ⟨z,rfl,hz,q⟩ := h
 obtain ⟨t,rfl⟩ := rx
 obtain ⟨o,ho,hoc,hod⟩ := hs
 have fin : ∀ t' k,EP X pins σ Q (.str (Txt.slice z lo hi) t') { s with toks := k } := fun t' k=>⟨.str _,H,I.tok _,⟨_,rfl⟩,q⟩
 refine ⟨"str",_,F.slot_str_getitem.lookup,typeIs_str _ _ _,?_⟩
 cases pl with
 | none =>
  cases pu with
  | none=>exact wpAny_getItem_str_slice (l := none) (u := none) (st := none) ⟨_,ho,hoc,hod⟩ rfl (post_val_or_str ⟨Nat.le_trans (Txt.slice_le z _ _) hz,fin⟩)
  | int j uj=>exact wpAny_getItem_str_slice (l := none) (u := some (j,uj)) (st := none) ⟨_,ho,hoc,hod⟩ rfl (post_val_or_str ⟨Nat.le_trans (Txt.slice_le z _ _) hz,fin⟩)
 | int i ui =>
  cases pu with
  | none=>exact wpAny_getItem_str_slice (l := some (i,ui)) (u := none) (st := none) ⟨_,ho,hoc,hod⟩ rfl (post_val_or_str ⟨Nat.le_trans (Txt.slice_le z _ _) hz,fin⟩)
  | int j uj=>exact wpAny_getItem_str_slice (l := some (i,ui)) (u := some (j,uj)) (st := none) ⟨_,ho,hoc,hod⟩ rfl (post_val_or_str ⟨Nat.le_trans (Txt.slice_le z _ _) hz,fin⟩)
theorem wA {x : Str} {i j : Int} (h0 : 0 ≤ i) (hj : (x.length : Int) ≤ j) : Txt.slice x (some i) (some j) = Txt.slice x (some i) (some (x.length : Int)) := by
 have e : Builtin.Str.strSliceIndices (some i) (some j) 1 x.length = Builtin.Str.strSliceIndices (some i) (some (x.length : Int)) 1 x.length := by
  unfold Builtin.Str.strSliceIndices
  have h1 : ¬ j < 0 := by omega
  have h2 : ¬ ((x.length : Int) < 0) := by omega
  have h3 : min j (x.length : Int) = x.length := by omega
  have h4 : min (x.length : Int) (x.length : Int) = x.length := by omega
  simp only [show (1 : Int) > 0 by decide,if_true,if_neg h1,if_neg h2,h3,h4]
 unfold Txt.slice
 rw [e]
theorem Z4 (l : List Nat) {i j : Nat} (h : i ≤ l.length) (hj : i ≤ j) : Txt.slice ⟨l.toArray⟩ (some (i : Int)) (some (j : Int)) = ⟨((l.drop i).take (j - i)).toArray⟩ := by
 have key : ∀ k : Nat,i ≤ k → k ≤ l.length → Txt.slice ⟨l.toArray⟩ (some (i : Int)) (some (k : Int)) = ⟨((l.drop i).take (k - i)).toArray⟩ := fun k h1 h2=>by
  have e := beq_iff_eq.mp (slice_closes (x := ⟨l.toArray⟩) (i := (i : Int)) (j := (k : Int)) ⟨by omega,by omega,by simpa using h2⟩)
  rw [e]
  have e2 : ((k : Int) - (i : Int)).toNat = k - i := by omega
  rw [e2]
  rfl
 by_cases hk : j ≤ l.length
 ·exact key j hj hk
 ·have hl : (⟨l.toArray⟩ : Str).length = l.length := by simp [Str.length]
  rw [wA (by omega) (by rw [hl]; omega),hl,key l.length h (Nat.le_refl _)]
  rw [List.take_of_length_le (by simp),List.take_of_length_le (by rw [List.length_drop]; omega)]
theorem lP (l : List Nat) {i : Nat} (h : i ≤ l.length) : Txt.slice ⟨l.toArray⟩ (some (i : Int)) none = ⟨(l.drop i).toArray⟩ := by
 have e := beq_iff_eq.mp (slice_closes_from (x := ⟨l.toArray⟩) (i := (i : Int)) ⟨by omega,by simpa using h⟩)
 rw [e,List.take_of_length_le (by rw [List.length_drop]; show _ ≤ ((l.length : Int) - i).toNat; have : (⟨l.toArray⟩ : Str).cps.toList.length = l.length := rfl; have e3 : ((i : Int)).toNat = i := rfl; omega)]
 rfl
theorem aY : U2 X (.type "int") (fun xs H Q=>∃ b,xs = [.bl b] ∧ Q (.int (if b then 1 else 0)) H) := by
 intro pins s σ H xs us Q I r h
 obtain ⟨b,rfl,q⟩ := h
 obtain ⟨u,rfl,ru⟩ := gA r
 cases (show u = Value.bool b from ru)
 exact call_int_bool ⟨.int _,H,I.tok _,⟨_,rfl⟩,q⟩
def AQ9 (G : V → (List V → Hp → VK → Prop) → Prop) (tn : TE) (t : TA) : TE := fun σ H Q=>tn σ H fun v H1=>∃ sp,G v sp ∧ t σ H1 fun vs H2=>sp vs H2 Q
def zX (P : Program) (w : World) (K : PySem.W.Frag) (mg : Str → Option Value) (base : Heap) (k : Nat) (v : V) (sp : List V → Hp → VK → Prop) : Prop :=
 ∃ (f : Addr) (fd : FuncData) (ps : List Str),v = .ref f ∧ FnOk P w K mg base K5 k f fd ps (fun vs H Q _=>sp vs H Q) ∧ PySem.W.keepIn K (.ref f) = true ∧ Binds K fd ps []
theorem AB9 {k : Nat} {x : Str} {p pos : Pos} {e : Expr} {es : List Expr} {tn : TE} {t : TA} (hr : Room k X.A) (hn : PE X (.Name x p) tn) (ha : PA X (e :: es) t)
  (he : starEach (e :: es) X.env = (false,eval e X.env) :: starEach es X.env := by rfl) (hpl : (backTo pos (starEach es X.env)).any (·.1) = false := by rfl) :
  PE X (.Call (.Name x p) (e :: es) [] pos) (AQ9 (zX X.prog X.w X.K X.mg X.base k) tn t) := by
 intro pins s σ H Q I h
 refine wpAny_Call_Name_kw (G0 (hn pins s σ H _ I h) fun v s1 ⟨y,H1,I1,r1,q1⟩=>?_)
 obtain ⟨sp,⟨f,fd,ps,rfl,F,hk,hb⟩,q⟩ := q1
 cases (show v = Value.ref f from r1)
 refine PySem.W.callWith_K (h₀ := X.base) I1.ok.mod.kin hk (G0 (ha pos pins s1 σ H1 _ I1 q) fun us s2 ⟨vs,H2,I2,r2,q2⟩=>⟨I2.kIn,?_⟩) he hpl
 exact iO (dvs := []) (E := E0) F hr hb .nil P3 I2 r2 (by rw [List.append_nil]; exact q2)
def tFr (te : TE) : TE := fun σ H Q=>te σ H fun x H1=>∃ z,x = .str z ∧ z.length ≤ 100000 ∧ (∀ c ∈ z.cps.toList,c < 1114112) ∧ ∀ r,Q (.str r) H1
theorem AI2 {y : Str} {j : Nat} {e : Expr} {te : TE} {p1 p2 pos : Pos} (he : PE X e te) (hy : y.length ≤ 100000 := by decide) : PE X (.JoinedStr [.Constant (.str y) j p1,.FormattedValue e 114 none p2] pos) (tFr te) := by
 intro pins s σ H Q I h
 refine wpAny_JoinedStr ?_
 have e0 : ∀ z : Str,Str.empty ++ z = z := fun z=>by show (⟨#[] ++ z.cps⟩ : Str) = z; simp
 have ln : sizeLine = 16777216 := sizeLine_eq
 show wpAny _ _ (eval (.Constant (.str y) j p1) X.env) _ _ s
 refine Calls.Constant_str ?_
 refine ⟨y,_,rfl,by rw [e0]; omega,?_⟩
 show wpAny _ _ (eval (.FormattedValue e 114 none p2) X.env) _ _ _
 refine wpAny_FormattedValue_repr (G0 (he pins _ σ H _ (I.tok _) h) fun v s1 ⟨x,H1,I1,r1,q1⟩=>?_)
 obtain ⟨z,rfl,hz,hc,q⟩ := q1
 obtain ⟨t,rfl⟩ := r1
 have hl := StrLaws.reprText_len z (fun c hc'=>Nat.lt_trans (hc c hc') (by decide))
 refine wpAny_pyReprObj_str ?_ (by omega)
 refine formatField_str (fun t' tk=>?_) (by omega)
 refine ⟨_,_,rfl,by rw [e0,strLen_append]; omega,?_⟩
 exact ⟨by rw [e0,strLen_append]; omega,.str _,H1,(I1.tok _),⟨_,rfl⟩,q _⟩
end
end L2
namespace Law
open PySem L2 L2.Sp
def M8 (i : Nat) : Stmt := PySem.Challenge.pw_meetvalue_k37_rows_read.main.body.getD i (.Pass ⟨0,0,0,0⟩)
structure Cal (P : Program) (w : World) (K : PySem.W.Frag) (mg : Str → Option Value) (base : Heap) (k : Nat) (x : Str) (ps : List Str) (sp : Sp) : Prop where
 ex : ∃ (f : Addr) (fd : FuncData),FnOk P w K mg base K5 k f fd ps sp ∧ mg x = some (.ref f) ∧ PySem.W.keepIn K (.ref f) = true ∧ Binds K fd ps []
theorem Cal.mono {P : Program} {w : World} {K : PySem.W.Frag} {mg : Str → Option Value} {base : Heap} {j k : Nat} {x : Str} {ps : List Str} {sp : Sp} (C : Cal P w K mg base j x ps sp) (h : j ≤ k) : Cal P w K mg base k x ps sp := by
 obtain ⟨f,fd,F,a,b,c⟩ := C.ex
 exact ⟨f,fd,F.mono h,a,b,c⟩
theorem B4 {X : Cx} {k : Nat} {x : Str} {ps : List Str} {sp : Sp} {p pos : Pos} {e : Expr} {es : List Expr} {t : TA} (C : Cal X.prog X.w X.K X.mg X.base k x ps sp) (hr : Room k X.A) (hg : Gl X x) (ha : PA X (e :: es) t)
  (hdb : (x == ("__debug__" : Str)) = false := by decide) (he : starEach (e :: es) X.env = (false,eval e X.env) :: starEach es X.env := by rfl) (hpl : (backTo pos (starEach es X.env)).any (·.1) = false := by rfl) :
  PE X (.Call (.Name x p) (e :: es) [] pos) (lK sp [] E0 t) := by
 obtain ⟨f,fd,F,a,b,c⟩ := C.ex
 exact uG F hr hg a b c .nil P3 ha hdb he hpl
theorem A8 {H : Hp} {p : Addr} (h : H p = none) (o : HO) : Same H (D5 H p o) := fun b u q=>by rw [B5 (D8 q h)]; exact q
def Grow (st : Addr) (H H' : Hp) : Prop := ∀ b o,b ≠ st → H b = some o → H' b = some o
theorem Grow.trans {st : Addr} {H H1 H2 : Hp} (a : Grow st H H1) (b : Grow st H1 H2) : Grow st H H2 := fun c o hc h=>b c o hc (a c o hc h)
theorem Grow.of {st : Addr} {H H' : Hp} (a : Same H H') : Grow st H H' := fun c o _ h=>a c o h
theorem Y8 {st : Addr} {H : Hp} {o : HO} : Grow st H (D5 H st o) := fun b u hb q=>by rw [B5 hb]; exact q
theorem Grow.refl {st : Addr} {H : Hp} : Grow st H H := fun _ _ _ q=>q
theorem T7 : ([] : List V).length ≤ sizeLine := by decide
theorem M1 {a : V} : ([a] : List V).length ≤ sizeLine := by show 1 ≤ sizeLine; decide
theorem T6 {a b : V} : ([a,b] : List V).length ≤ sizeLine := by show 2 ≤ sizeLine; decide
theorem Y7 {a b c : V} : ([a,b,c] : List V).length ≤ sizeLine := by show 3 ≤ sizeLine; decide
theorem AE3 {a b c d : V} : ([a,b,c,d] : List V).length ≤ sizeLine := by show 4 ≤ sizeLine; decide
theorem O7 {n : Nat} (h : n ≤ 1000) : n < sizeLine := xE h
section
variable {P : Program} {w : World} {K : PySem.W.Frag} {mg : Str → Option Value} {base : Heap} {f : Addr} {fd : FuncData}
def BE9 (t u : TS) : TS := fun D σ H=>∃ R : St → Hp → Prop,t { D with nx := R } σ H ∧ ∀ σ' H',R σ' H' → u D σ' H'
theorem M6 {X : Cx} {st : Stmt} {rest : List Stmt} {t u : TS} (h1 : PS X st t) (h2 : PSs X rest u) : PSs X (st :: rest) (BE9 t u) := by
 intro pins s σ H D I h
 obtain ⟨R,ha,hb⟩ := h
 refine wpAny_execs_cons (G0 (h1 pins s σ H { D with nx := R } I ha) fun f s1 q=>?_)
 cases f with
 | next =>
  obtain ⟨σ',H',I',q⟩ := q
  exact h2 pins s1 σ' H' D I' (hb σ' H' q)
 | ret v=>exact q
 | brk=>exact q
 | cont=>exact q
theorem cD {σ : St} {H : Hp} {A B : Hp → Prop} (h : A H) : AQ4 σ H (fun b H4=>if b = true then A H4 else B H4) := by
 show (if true = true then A H else B H)
 rw [if_pos rfl]
 exact h
end
theorem R9 {α : Type} {xs : List α} {i : Nat} {x : α} (h : xs[i]? = some x) : xs.take (i + 1) = xs.take i ++ [x] := by
 rw [List.take_add_one,h]; rfl
theorem AX7 : bootBuiltins "max" = some (.builtin "max") := by decide +kernel
theorem zN : bootBuiltins "all" = some (.builtin "all") := by decide +kernel
theorem R5 : bootBuiltins "isinstance" = some (.builtin "isinstance") := by decide +kernel
theorem O1 : bootBuiltins "tuple" = some (.type "tuple") := by decide +kernel
theorem Y3 : bootBuiltins "int" = some (.type "int") := by decide +kernel
theorem oK : bootBuiltins "bool" = some (.type "bool") := by decide +kernel
theorem AP7 : bootBuiltins "list" = some (.type "list") := by decide +kernel
theorem aZ : bootBuiltins "str" = some (.type "str") := by decide +kernel
section
variable {K : PySem.W.Frag}
theorem uU {X : Cx} {scope : Scope} {N' : List Str} {C : Addr} {fp : List Addr} {s : Shared} {H : Hp} : zV (Q7 X scope N' C fp s H) (AS3 X.K) := O8
theorem bL {H : Hp} : Same H H := fun _ _ h=>h
theorem V3 {n : Nat} (h : n ≤ 1000) : n ≤ sizeLine := Nat.le_of_lt (O7 h)
theorem AF1 (t : Str) (ts : List Str) : cV (.str t) (ts.map V.str) = decide (t ∈ ts) := by
 rw [Bool.eq_iff_iff,decide_eq_true_iff]
 unfold cV
 simp only [List.any_map,List.any_eq_true,Function.comp]
 constructor
 ·rintro ⟨y,hy,e⟩
  have e : (y == t) = true := e
  rw [beq_iff_eq] at e
  exact e ▸ hy
 ·intro h
  exact ⟨t,h,by show (t == t) = true; simp⟩
theorem aX {α : Type} {xs : List α} {i : Nat} {x : α} (h : xs[i]? = some x) : xs.drop i = x :: xs.drop (i + 1) := by
 obtain ⟨hi,e⟩ := List.getElem?_eq_some_iff.mp h
 rw [← e]
 exact List.drop_eq_getElem_cons hi
theorem AO8 {b : V} : (!decide (b = b)) = false := by rw [decide_eq_true rfl]; rfl
theorem sM {ms : List Int} {i : Nat} {x : V} (hx : (ms.map V.int)[i]? = some x) : ∃ n,x = .int n := by
 rw [List.getElem?_map] at hx
 cases e : ms[i]? with
 | none=>rw [e] at hx; cases hx
 | some n=>rw [e] at hx; cases hx; exact ⟨n,rfl⟩
end
end Law
namespace Law
open PySem L2 L2.Sp
def P7 (c : Nat) : Bool := decide (97 ≤ c) && decide (c ≤ 122)
def L9 (c : Nat) : Bool := decide (48 ≤ c) && decide (c ≤ 57)
def T4 (c : Nat) : Bool := decide (32 ≤ c) && (decide (c ≤ 126) && !(decide (c = 34) || decide (c = 37)))
def T8 : List Nat := [123,125,91,93,40,41,44,58,63,38,124,33,64,46]
def sg (l : List Nat) : Nat := if l.head? = some 45 then 1 else 0
def V8 (l : List Nat) : Option (List Nat) :=
 if ((l.drop (sg l)).takeWhile L9) = [] ∨ 60 < ((l.drop (sg l)).takeWhile L9).length ∨ (((l.drop (sg l)).takeWhile L9).head? = some 48 ∧ l.take (sg l + ((l.drop (sg l)).takeWhile L9).length) ≠ [48]) then none
 else some (l.take (sg l + ((l.drop (sg l)).takeWhile L9).length))
def Z9 (l : List Nat) : Option (List Nat) :=
 if (l.drop (1 + ((l.drop 1).takeWhile T4).length)).take 1 = [34] then some (l.take (2 + ((l.drop 1).takeWhile T4).length)) else none
def N8 : List Nat → Option (List Nat)
 | []=>none
 | c :: r =>
  if P7 c = true then some ((c :: r).take (((c :: r).takeWhile P7).length))
  else if c = 45 ∨ L9 c = true then V8 (c :: r)
  else if c = 34 then Z9 (c :: r)
  else if (c :: r).take 2 = [46,46] then some [46,46]
  else if c ∈ T8 then some [c] else none
def G3 : List Nat → Option (List (List Nat))
 | []=>some []
 | c :: r=>if c = 32 then G3 r else match N8 (c :: r) with
  | none=>none
  | some w=>(G3 (r.drop (w.length - 1))).map (w :: ·)
termination_by l=>l.length
decreasing_by all_goals (simp only [List.length_cons,List.length_drop]; omega)
theorem lH (p : Nat → Bool) (l : List Nat) : (l.takeWhile p).length ≤ l.length := (List.takeWhile_sublist p).length_le
theorem bV (p : Nat → Bool) : ∀ l : List Nat,l.take (l.takeWhile p).length = l.takeWhile p
 | []=>rfl
 | c :: r=>by
  by_cases h : p c = true
  ·rw [List.takeWhile_cons_of_pos h,List.length_cons,List.take_succ_cons,bV p r]
  ·rw [List.takeWhile_cons_of_neg h]; rfl
theorem lI (p : Nat → Bool) : ∀ {a s : List Nat},(∀ c ∈ a,p c = true) → (∀ d,s.head? = some d → p d = false) → (a ++ s).takeWhile p = a
 | [],[],_,_=>rfl
 | [],d :: s,_,h=>by
  have := h d rfl
  rw [List.nil_append,List.takeWhile_cons_of_neg (by rw [this]; simp)]
 | c :: a,s,h1,h2=>by
  rw [List.cons_append,List.takeWhile_cons_of_pos (h1 c (by simp)),lI p (fun d hd=>h1 d (by simp [hd])) h2]
theorem AH6 (l : List Nat) : sg l ≤ 1 := by unfold sg; split <;> omega
theorem iC {l w : List Nat} (h : N8 l = some w) : 0 < w.length ∧ w.length ≤ l.length ∧ w = l.take w.length := by
 have key : ∀ n,0 < n → n ≤ l.length → w = l.take n → 0 < w.length ∧ w.length ≤ l.length ∧ w = l.take w.length := fun n h1 h2 h3=>by
  have e : w.length = n := by rw [h3,List.length_take]; omega
  exact ⟨by omega,by omega,by rw [e]; exact h3⟩
 cases l with
 | nil=>cases h
 | cons c r =>
  simp only [N8] at h
  split at h
  ·rename_i hc
   cases h
   refine key _ ?_ (lH P7 (c :: r)) rfl
   rw [List.takeWhile_cons_of_pos hc]; simp
  ·split at h
   ·unfold V8 at h
    split at h
    ·cases h
    ·rename_i hn
     cases h
     have hne : ((c :: r).drop (sg (c :: r))).takeWhile L9 ≠ [] := fun z=>hn (.inl z)
     have h1 := lH L9 ((c :: r).drop (sg (c :: r)))
     rw [List.length_drop] at h1
     have h2 : 0 < (((c :: r).drop (sg (c :: r))).takeWhile L9).length := List.length_pos_iff.mpr hne
     have h3 := AH6 (c :: r)
     refine key _ (by omega) (by simp only [List.length_cons] at h1 ⊢; omega) rfl
   ·split at h
    ·unfold Z9 at h
     split at h
     ·rename_i hq
      cases h
      have h1 := congrArg List.length hq
      rw [List.length_take,List.length_drop] at h1
      simp only [List.length_cons,List.length_nil] at h1
      refine key _ (by omega) ?_ rfl
      simp only [List.length_cons]
      omega
     ·cases h
    ·split at h
     ·rename_i hd
      cases h
      refine key 2 (by omega) ?_ hd.symm
      have h1 := congrArg List.length hd
      rw [List.length_take] at h1
      simp only [List.length_cons,List.length_nil] at h1 ⊢
      omega
     ·split at h
      ·cases h
       exact key 1 (by omega) (by simp) rfl
      ·cases h
theorem dB : G3 [] = some [] := by rw [G3]
theorem qV (r : List Nat) : G3 (32 :: r) = G3 r := by rw [G3,if_pos rfl]
theorem vM {l : List Nat} (h0 : l.head? ≠ some 32) (hl : l ≠ []) (h : N8 l = none) : G3 l = none := by
 cases l with
 | nil=>exact absurd rfl hl
 | cons c r =>
  have hc : c ≠ 32 := fun z=>h0 (by rw [z]; rfl)
  rw [G3,if_neg hc,h]
theorem lE {l w : List Nat} (h0 : l.head? ≠ some 32) (h : N8 l = some w) : G3 l = (G3 (l.drop w.length)).map (w :: ·) := by
 cases l with
 | nil=>cases h
 | cons c r =>
  have hc : c ≠ 32 := fun z=>h0 (by rw [z]; rfl)
  obtain ⟨h1,_,_⟩ := iC h
  rw [G3,if_neg hc,h]
  have e : (c :: r).drop w.length = r.drop (w.length - 1) := by
   cases hw : w.length with
   | zero=>omega
   | succ n=>rfl
  rw [e]
end Law
namespace Law
open PySem L2 L2.Sp
theorem cS (a b : Nat) : decide (([a] : List Nat) < [b]) = decide (a < b) := by
 rw [Bool.eq_iff_iff]
 simp [List.cons_lt_cons_iff]
theorem AX6 : bootBuiltins "ord" = some (.builtin "ord") := by decide +kernel
section
variable {P : Program} {w : World} {K : PySem.W.Frag} {mg : Str → Option Value} {base : Heap} {f : Addr} {fd : FuncData}
def Y4 (φ : Nat → Bool) : List V → Hp → VK → Prop := fun args H Q=>∃ c : Nat,args = [.str ⟨#[c]⟩] ∧ Q (.bl (φ c)) H
abbrev jQ : Stmt := M8 8
theorem AR1 : E2 ["letter"] ["letter"] (B2 jQ) := ⟨rfl,rfl,rfl,by decide +kernel,rfl,by decide +kernel,by decide +kernel⟩
theorem AP2 (c : Nat) : cV (.int (c : Int)) [.int 34,.int 37] = (decide (c = 34) || decide (c = 37)) := by
 unfold cV
 simp only [List.any_cons,List.any_nil,Bool.or_false]
 have h1 : ((34 : Int) == (c : Int)) = decide (c = 34) := by
  rw [Bool.eq_iff_iff,beq_iff_eq,decide_eq_true_iff]; omega
 have h2 : ((37 : Int) == (c : Int)) = decide (c = 37) := by
  rw [Bool.eq_iff_iff,beq_iff_eq,decide_eq_true_iff]; omega
 show (((34 : Int) == (c : Int)) || ((37 : Int) == (c : Int))) = _
 rw [h1,h2]
theorem AM8 (F : Fun K "is_sign" "is_sign" jQ f fd) (m1 : mg "ord" = none) {gt : Addr} (hg : mg "NO_SIGNS" = some (.ref gt)) (hK : ∀ H : Hp,SqT K H gt [.int 34,.int 37]) : FnOk P w K mg base K5 1 f fd ["letter"] (fun vs H Q _=>Y4 T4 vs H Q) := by
 refine F.ok AR1 (fun vs H Q E h=>?_) (fun cdv A outer s H vs Q E hr h=>?_)
 ·obtain ⟨c,rfl,_⟩ := h
  rfl
 obtain ⟨c,rfl,q⟩ := h
 refine ⟨_,A9 (B6 (W5 (gI U9 U9 B3 (pv 0) B3) (W4 (N7 cP (E7 AG4 rfl m1 AX6 (A0 (pv 0) A5)) (V6 (v := .ref gt) rfl hg rfl) rfl)))),?_⟩
 by_cases h1 : 32 ≤ c
 ·by_cases h2 : c ≤ 126
  ·refine ⟨_,rfl,_,_,rfl,rfl,true,?_,E8 ⟨_,_,rfl,rfl,true,?_,E8 ⟨_,rfl,_,rfl,rfl,gt,_,rfl,.inr (hK _),rfl,rfl,?_⟩⟩⟩
   ·show V.bl (!decide (([c] : List Nat) < [32])) = .bl true
    rw [cS,decide_eq_false (by omega)]; rfl
   ·show V.bl (!decide (([126] : List Nat) < [c])) = .bl true
    rw [cS,decide_eq_false (by omega)]; rfl
   ·have e : cV (.int ((#[c].getD 0 0 : Nat) : Int)) [.int 34,.int 37] = (decide (c = 34) || decide (c = 37)) := AP2 c
    show Q (.bl (!cV (.int ((#[c].getD 0 0 : Nat) : Int)) [.int 34,.int 37])) H
    rw [e]
    have : T4 c = !(decide (c = 34) || decide (c = 37)) := by unfold T4; rw [decide_eq_true h1,decide_eq_true h2]; rfl
    rw [← this]
    exact q
  ·have e : T4 c = false := by unfold T4; rw [decide_eq_true h1,decide_eq_false h2]; rfl
   rw [e] at q
   refine ⟨_,rfl,_,_,rfl,rfl,true,?_,E8 ⟨_,_,rfl,rfl,false,?_,D7 q⟩⟩
   ·show V.bl (!decide (([c] : List Nat) < [32])) = .bl true
    rw [cS,decide_eq_false (by omega)]; rfl
   ·show V.bl (!decide (([126] : List Nat) < [c])) = .bl false
    rw [cS,decide_eq_true (by omega)]; rfl
 ·have e : T4 c = false := by unfold T4; rw [decide_eq_false h1]; rfl
  rw [e] at q
  refine ⟨_,rfl,_,_,rfl,rfl,false,?_,D7 ⟨false,rfl,D7 q⟩⟩
  show V.bl (!decide (([c] : List Nat) < [32])) = .bl false
  rw [cS,decide_eq_true (by omega)]; rfl
def zM (a b c : Nat) : Bool := decide (a ≤ c) && decide (c ≤ b)
theorem jC {a b c : Nat} {H : Hp} {Q : VK} (q : Q (.bl (zM a b c)) H) :
  ∃ i j,(V.str ⟨#[a]⟩ : V) = .str i ∧ (V.str ⟨#[c]⟩ : V) = .str j ∧ ∃ d,V.bl (!decide (j.cps.toList < i.cps.toList)) = .bl d ∧ if d = true then ∃ i' j',(V.str ⟨#[c]⟩ : V) = .str i' ∧ (V.str ⟨#[b]⟩ : V) = .str j' ∧ Q (.bl (!decide (j'.cps.toList < i'.cps.toList))) H else Q (.bl false) H := by
 refine ⟨_,_,rfl,rfl,_,rfl,?_⟩
 show if (!decide (([c] : List Nat) < [a])) = true then _ else _
 rw [cS]
 by_cases h : a ≤ c
 ·rw [decide_eq_false (by omega)]
  refine E8 ⟨_,_,rfl,rfl,?_⟩
  show Q (.bl (!decide (([b] : List Nat) < [c]))) H
  rw [cS]
  have e : (!decide (b < c)) = zM a b c := by
   unfold zM
   rw [decide_eq_true h,Bool.true_and,Bool.eq_iff_iff]
   simp
  rw [e]; exact q
 ·rw [decide_eq_true (by omega)]
  have e : zM a b c = false := by unfold zM; rw [decide_eq_false h]; rfl
  rw [e] at q
  exact D7 q
abbrev bX : Stmt := M8 15
theorem AA4 : E2 ["sign"] ["sign"] (B2 bX) := ⟨rfl,rfl,rfl,by decide +kernel,rfl,by decide +kernel,by decide +kernel⟩
theorem yG (F : Fun K "is_letter" "is_letter" bX f fd) : FnOk P w K mg base K5 1 f fd ["sign"] (fun vs H Q _=>Y4 P7 vs H Q) := by
 refine F.ok AA4 (fun vs H Q E h=>?_) (fun cdv A outer s H vs Q E hr h=>?_)
 ·obtain ⟨c,rfl,_⟩ := h
  rfl
 obtain ⟨c,rfl,q⟩ := h
 refine ⟨_,A9 (B6 (gI U9 U9 B3 (pv 0) B3)),?_⟩
 exact ⟨_,rfl,jC (a := 97) (b := 122) q⟩
abbrev bY : Stmt := M8 16
theorem AA5 : E2 ["sign"] ["sign"] (B2 bY) := ⟨rfl,rfl,rfl,by decide +kernel,rfl,by decide +kernel,by decide +kernel⟩
theorem yH (F : Fun K "is_figure" "is_figure" bY f fd) : FnOk P w K mg base K5 1 f fd ["sign"] (fun vs H Q _=>Y4 L9 vs H Q) := by
 refine F.ok AA5 (fun vs H Q E h=>?_) (fun cdv A outer s H vs Q E hr h=>?_)
 ·obtain ⟨c,rfl,_⟩ := h
  rfl
 obtain ⟨c,rfl,q⟩ := h
 refine ⟨_,A9 (B6 (gI U9 U9 B3 (pv 0) B3)),?_⟩
 exact ⟨_,rfl,jC (a := 48) (b := 57) q⟩
end
end Law
namespace Law
open PySem L2 L2.Sp
abbrev S (l : List Nat) : Str := ⟨l.toArray⟩
theorem N4 (l : List Nat) : (S l).length = l.length := rfl
theorem P0 {l : List Nat} (h : l.length ≤ 100000) : (S l).length ≤ sizeLine := by rw [N4]; have : sizeLine = 16777216 := sizeLine_eq; omega
theorem AK7 {φ : Nat → Bool} {l : List Nat} {e : Nat} {c : Nat} (h : l[e]? = some c) (hc : φ c = true) : ((l.drop e).takeWhile φ).length = 1 + ((l.drop (e + 1)).takeWhile φ).length := by
 rw [aX h,List.takeWhile_cons_of_pos hc,List.length_cons]; omega
theorem AK6 {φ : Nat → Bool} {l : List Nat} {e : Nat} {c : Nat} (h : l[e]? = some c) (hc : φ c = false) : ((l.drop e).takeWhile φ).length = 0 := by
 rw [aX h,List.takeWhile_cons_of_neg (by rw [hc]; simp)]; rfl
section
variable {P : Program} {w : World} {K : PySem.W.Frag} {mg : Str → Option Value} {base : Heap} {f : Addr} {fd : FuncData}
abbrev nH : Stmt := M8 14
theorem wC : E2 ["text","place","fits","end"] ["text","place","fits"] (B2 nH) := ⟨rfl,rfl,rfl,by decide +kernel,rfl,by decide +kernel,by decide +kernel⟩
def lN (P : Program) (w : World) (K : PySem.W.Frag) (mg : Str → Option Value) (base : Heap) : Sp := fun args H Q _=>∃ (l : List Nat) (p : Nat) (v : V) (φ : Nat → Bool),args = [.str (S l),.int (p : Int),v] ∧ zX P w K mg base 1 v (Y4 φ) ∧ p ≤ l.length ∧ l.length ≤ 100000 ∧
 Q (.int ((p + ((l.drop p).takeWhile φ).length : Nat) : Int)) H
theorem AT7 (F : Fun K "run_end" "run_end" nH f fd) (m1 : mg "len" = none) : FnOk P w K mg base K5 2 f fd ["text","place","fits"] (lN P w K mg base) := by
 refine F.ok wC (fun vs H Q E h=>?_) (fun cdv A outer s H vs Q E hr h=>?_)
 ·obtain ⟨l,p,v,φ,rfl,_⟩ := h
  rfl
 obtain ⟨l,p,v,φ,rfl,hv,hp,hl,q⟩ := h
 refine ⟨_,A7 (B7 (i := 3) wC.nd rfl (Or.inl rfl) (pv 1))
  (A7 (W3 PassesOwn.never (PW.pt (aA (B9 bN (pv 3) (E7 U8 rfl m1 PySem.boot_len (A0 (pv 0) A5)) (B8 _))
    (aM (K9 (AB9 hr (pv 2) (A0 (G7 aG (pv 0) (pv 3) (fun _ _=>rfl)) A5))))))
   (A9 (Q5 (i := 3) wC.nd rfl (Or.inl rfl) B1 mI)))
  (A9 (B6 (pv 3)))),?_⟩
 refine ⟨_,rfl,?_⟩
 refine ⟨fun m σ H'=>∃ e : Nat,σ = [some (.str (S l)),some (.int (p : Int)),some v,some (.int (e : Int))] ∧ H' = H ∧ m = l.length - e ∧ e ≤ l.length ∧ e + ((l.drop e).takeWhile φ).length = p + ((l.drop p).takeWhile φ).length,
  ⟨_,p,rfl,rfl,rfl,hp,rfl⟩,?_⟩
 rintro m σ H' ⟨e,rfl,rfl,rfl,he,hi⟩
 refine ⟨_,rfl,_,rfl,_,rfl,P0 hl,_,_,rfl,rfl,_,rfl,N1 (fun c=>?_) (fun c=>?_)⟩
 ·have c : decide ((e : Int) < ((S l).length : Nat)) = true := c
  have hlt : e < l.length := by have := of_decide_eq_true c; rw [N4] at this; omega
  have hg : l[e]? = some l[e] := List.getElem?_eq_getElem hlt
  refine ⟨_,rfl,_,hv,_,rfl,_,rfl,_,_,l[e],rfl,rfl,P0 hl,K8 hg,l[e],rfl,_,rfl,?_⟩
  cases hφ : φ l[e] with
  | true =>
   refine E8 ⟨fun σ' H''=>σ' = [some (.str (S l)),some (.int (p : Int)),some v,some (.int ((e + 1 : Nat) : Int))] ∧ H'' = H',fun σ' H'' h=>?_,_,rfl,_,_,rfl,rfl,rfl,rfl⟩
   obtain ⟨rfl,rfl⟩ := h
   exact ⟨_,by omega,e + 1,rfl,rfl,rfl,by omega,by have := AK7 hg hφ; omega⟩
  | false =>
   refine D7 ⟨_,rfl,?_⟩
   have h0 := AK6 hg hφ
   have : e = p + ((l.drop p).takeWhile φ).length := by omega
   show Q (.int (e : Int)) H'
   rw [this]; exact q
 ·have c : ¬ decide ((e : Int) < ((S l).length : Nat)) = true := c
  have hge : l.length ≤ e := by
   refine Nat.le_of_not_lt fun z=>c (decide_eq_true ?_)
   rw [N4]; omega
  refine D7 ⟨_,rfl,?_⟩
  have h0 : l.drop e = [] := List.drop_eq_nil_of_le hge
  rw [h0] at hi
  have : e = p + ((l.drop p).takeWhile φ).length := by
   have z : (([] : List Nat).takeWhile φ).length = 0 := rfl
   omega
  show Q (.int (e : Int)) H'
  rw [this]; exact q
end
end Law
namespace Law
open PySem L2 L2.Sp
theorem AK1 {a b : List Nat} : (V.str (S a) = V.str (S b)) ↔ a = b := by
 constructor
 ·intro h
  have h := V.str.inj h
  have h2 : a.toArray = b.toArray := congrArg Str.cps h
  exact congrArg Array.toList h2
 ·rintro rfl; rfl
theorem O2 {a b : List Nat} : decide (V.str (S a) = V.str (S b)) = decide (a = b) := by
 rw [Bool.eq_iff_iff,decide_eq_true_iff,decide_eq_true_iff]; exact AK1
def V5 (l : List Nat) : Prop := l.length ≤ 100000 ∧ ∀ c ∈ l,c < 1114112
structure M0 (P : Program) (w : World) (K : PySem.W.Frag) (mg : Str → Option Value) (base : Heap) (k : Nat) (x : Str) (ps : List Str) (sp : Sp) : Prop where
 ex : ∃ (f : Addr) (fd : FuncData),FnOk P w K mg base (N0 P w) k f fd ps sp ∧ mg x = some (.ref f) ∧ PySem.W.keepIn K (.ref f) = true ∧ Binds K fd ps []
theorem G5 {X : Cx} {k : Nat} {x : Str} {ps : List Str} {sp : Sp} {p pos : Pos} {e : Expr} {es : List Expr} {t : TA} {E : XK} (C : M0 X.prog X.w X.K X.mg X.base k x ps sp) (hr : Room k X.A) (hg : Gl X x) (hx : T1 (N0 X.prog X.w) X E) (ha : PA X (e :: es) t)
  (hdb : (x == ("__debug__" : Str)) = false := by decide) (he : starEach (e :: es) X.env = (false,eval e X.env) :: starEach es X.env := by rfl) (hpl : (backTo pos (starEach es X.env)).any (·.1) = false := by rfl) :
  PE X (.Call (.Name x p) (e :: es) [] pos) (lK sp [] E t) := by
 obtain ⟨f,fd,F,a,b,c⟩ := C.ex
 exact uG F hr hg a b c .nil hx ha hdb he hpl
section
variable {P : Program} {w : World} {K : PySem.W.Frag} {mg : Str → Option Value} {base : Heap} {f : Addr} {fd : FuncData}
theorem Fun.ok1 {x qual : Str} {st : Stmt} {f : Addr} {fd : FuncData} {N ps : List Str} {k : Nat} {sp : Sp} (F : Fun K x qual st f fd) (S : E2 N ps (B2 st)) (len : ∀ vs H Q E,sp vs H Q E → vs.length = ps.length)
  (hbody : ∀ (cdv : Value) (A : Around) (outer : List Env) (s : Shared) (H : Hp) (vs : List V) (Q : VK) (E : XK),Room k (A.deeper (PyProof.Rows.envOfC qual (B2 st) s.heap.objs.size f cdv)) → sp vs H Q E →
   ∃ t,PSs (Z0 (N0 P w) P w K mg base N qual (B2 st) f cdv A outer s H E) (D9 st) t ∧ t { nx := fun _ H'=>Q .non H',rt := Q } (start N vs) H) : FnOk P w K mg base (N0 P w) (k + 1) f fd ps sp := by
 obtain ⟨oc,od,kV,doc,pm,an,cdv,ct,osl,rfl,lk,hcd⟩ := F.ex
 exact AJ4 lk hcd S len fun A outer s H vs Q E hr hsp=>hbody cdv A outer s H vs Q E hr hsp
structure NT (K : PySem.W.Frag) (mg : Str → Option Value) (C : Addr) : Prop where
 xc : XC K C [.type "ValueError",.type "Exception",.type "BaseException",.type "object"] "ValueError.__new__"
 mg : mg "NoText" = some (.ref C)
abbrev nO : Stmt := M8 17
theorem qM : E2 ["text","place","start","word","figures"] ["text","place"] (B2 nO) := ⟨rfl,rfl,rfl,by decide +kernel,rfl,by decide +kernel,by decide +kernel⟩
def eD (g : List Nat → Option (List Nat)) (C : Addr) : Sp := fun args H Q E=>∃ (l : List Nat) (p : Nat),args = [.str (S l),.int (p : Int)] ∧ p < l.length ∧ V5 l ∧ (∀ v,g (l.drop p) = some v → Q (.str (S v)) H) ∧ (g (l.drop p) = none → E (.ref C) none H)
theorem gW : (Str.ofString "" : Str) = S [] := by decide +kernel
theorem BB8 : (Str.ofString "0" : Str) = S [48] := by decide +kernel
theorem wQ : (Str.ofString "-" : Str) = S [45] := by decide +kernel
theorem AU2 {C fF : Addr} {mt : Tok} (F : Fun K "number_at" "number_at" nO f fd) (RUN : Cal P w K mg base 2 "run_end" ["text","place","fits"] (lN P w K mg base)) (n : NT K mg C) (hF : zX P w K mg base 1 (.ref fF) (Y4 L9)) (gF : mg "is_figure" = some (.ref fF))
  (gM : mg "MOST_FIGURES" = some (.int 60 mt)) (m1 : mg "len" = none) : FnOk P w K mg base (N0 P w) 3 f fd ["text","place"] (eD V8 C) := by
 refine Fun.ok1 F qM (fun vs H Q E h=>?_) (fun cdv A outer s H vs Q E hr h=>?_)
 ·obtain ⟨l,p,rfl,_⟩ := h
  rfl
 obtain ⟨l,p,rfl,hp,hs,q1,q2⟩ := h
 refine ⟨_,M6 (B7 (i := 2) qM.nd rfl (Or.inl rfl) (gH (B9 G9 (G7 aG (pv 0) (pv 1) (fun _ _=>rfl)) B3 (B8 _)) (E4 P4 (pv 1) B1) (pv 1)))
  (M6 (B7 (i := 3) qM.nd rfl (Or.inl rfl) (P1 Z8 (pv 0) (N6 (pv 1)) (N6 (B4 RUN hr rfl (A0 (pv 0) (A0 (pv 2) (A0 (V6 (v := .ref fF) rfl gF rfl) A5)))))))
  (M6 (B7 (i := 4) qM.nd rfl (Or.inl rfl) (P1 Z8 (pv 3) (N6 (E4 aB (pv 2) (pv 1))) Z6))
  (A7 (E5 (PW.pt (aO (B9 G9 (pv 4) B3 (B8 _)) (aO (B9 aD (E7 U8 rfl m1 PySem.boot_len (A0 (pv 4) A5)) (V6 (v := .int 60) rfl gM ⟨_,rfl⟩) (B8 _))
    (aU (PW.pt (aA (B9 G9 (G7 aG (pv 4) B1 (fun _ _=>rfl)) B3 (B8 _)) (aM (B9 kC (pv 3) B3 (B8 _)))))))))
   (A9 (V4 PySem.F.excBase_ValueError n.xc rfl n.mg (A0 (AI2 (pv 3)) A5))) D6)
  (A9 (B6 (pv 3)))))),?_⟩
 have hg : l[p]? = some l[p] := List.getElem?_eq_getElem hp
 have hr0 : (l.drop p).head? = some l[p] := by rw [aX hg]; rfl
 have hrl : (l.drop p).length = l.length - p := List.length_drop
 have hk1 := AH6 (l.drop p)
 generalize hk : sg (l.drop p) = k at hk1
 have hdd : (l.drop p).drop k = l.drop (p + k) := by rw [List.drop_drop]
 have hpk : p + k ≤ l.length := by omega
 generalize hn : ((l.drop (p + k)).takeWhile L9).length = n
 have hnl : n ≤ l.length - (p + k) := by rw [← hn]; have := lH L9 (l.drop (p + k)); rw [List.length_drop] at this; exact this
 have ew : ((l.drop p).take (k + n)).length = k + n := by rw [List.length_take]; omega
 have ef : ((l.drop p).take (k + n)).drop k = (l.drop (p + k)).takeWhile L9 := by
  rw [List.drop_take,hdd,Nat.add_sub_cancel_left,← hn,bV]
 have wl := hs.1
 refine ⟨fun σ' H'=>σ' = [some (.str (S l)),some (.int (p : Int)),some (.int ((p + k : Nat) : Int)),none,none] ∧ H' = H,?_,?_⟩
 ·refine ⟨_,rfl,_,rfl,_,_,l[p],rfl,rfl,P0 wl,K8 hg,rfl,_,rfl,?_⟩
  have e1 : decide (V.str ⟨#[l[p]]⟩ = V.str (Str.ofString "-")) = decide (k = 1) := by
   rw [wQ]
   have : decide (V.str (S [l[p]]) = V.str (S [45])) = decide ([l[p]] = [45]) := O2
   rw [show (⟨#[l[p]]⟩ : Str) = S [l[p]] from rfl,this]
   rw [Bool.eq_iff_iff,decide_eq_true_iff,decide_eq_true_iff,← hk]
   unfold sg
   rw [hr0]
   constructor
   ·intro h; rw [if_pos (by rw [List.singleton_inj.mp h])]
   ·intro h
    split at h
    ·rename_i h2; rw [Option.some.inj h2]
    ·omega
  rw [e1]
  refine N1 (fun c=>?_) (fun c=>?_)
  ·have c := of_decide_eq_true c
   exact ⟨_,rfl,_,_,rfl,rfl,by rw [c]; rfl,rfl⟩
  ·have c : k = 0 := by
    have : ¬ k = 1 := fun z=>c (decide_eq_true z)
    omega
   exact ⟨_,rfl,by rw [c]; rfl,rfl⟩
 rintro σ1 H1 ⟨rfl,rfl⟩
 refine ⟨fun σ' H'=>σ' = [some (.str (S l)),some (.int (p : Int)),some (.int ((p + k : Nat) : Int)),some (.str (S ((l.drop p).take (k + n)))),none] ∧ H' = H1,?_,?_⟩
 ·refine ⟨_,rfl,_,rfl,_,rfl,_,rfl,_,rfl,l,p + k,.ref fF,L9,rfl,hF,hpk,wl,_,rfl,_,rfl,P0 wl,?_⟩
  have e := Z4 l (i := p) (j := p + k + ((l.drop (p + k)).takeWhile L9).length) (by omega) (by omega)
  rw [e,hn,show p + k + n - p = k + n by omega]
  exact ⟨rfl,rfl⟩
 rintro σ2 H2 ⟨rfl,rfl⟩
 refine ⟨fun σ' H'=>σ' = [some (.str (S l)),some (.int (p : Int)),some (.int ((p + k : Nat) : Int)),some (.str (S ((l.drop p).take (k + n)))),some (.str (S ((l.drop (p + k)).takeWhile L9)))] ∧ H' = H2,?_,?_⟩
 ·refine ⟨_,rfl,_,rfl,_,rfl,_,_,rfl,rfl,_,rfl,_,rfl,P0 (by omega),?_⟩
  have e := lP ((l.drop p).take (k + n)) (i := k) (by omega)
  rw [show ((p + k : Nat) : Int) - (p : Int) = (k : Int) by omega,e,ef]
  exact ⟨rfl,rfl⟩
 rintro σ3 H3 ⟨rfl,rfl⟩
 have hnum : V8 (l.drop p) = if ((l.drop (p + k)).takeWhile L9) = [] ∨ 60 < ((l.drop (p + k)).takeWhile L9).length ∨ (((l.drop (p + k)).takeWhile L9).head? = some 48 ∧ (l.drop p).take (k + n) ≠ [48]) then none else some ((l.drop p).take (k + n)) := by
  unfold V8
  rw [hk,hdd,hn]
 have bad : ((l.drop (p + k)).takeWhile L9) = [] ∨ 60 < ((l.drop (p + k)).takeWhile L9).length ∨ (((l.drop (p + k)).takeWhile L9).head? = some 48 ∧ (l.drop p).take (k + n) ≠ [48]) → E (.ref C) none H3 := fun z=>q2 (by rw [hnum,if_pos z])
 have good : ¬ (((l.drop (p + k)).takeWhile L9) = [] ∨ 60 < ((l.drop (p + k)).takeWhile L9).length ∨ (((l.drop (p + k)).takeWhile L9).head? = some 48 ∧ (l.drop p).take (k + n) ≠ [48])) → Q (.str (S ((l.drop p).take (k + n)))) H3 := fun z=>q1 _ (by rw [hnum,if_neg z])
 have rz : (S ((l.drop p).take (k + n))).length ≤ 100000 ∧ (∀ c ∈ (S ((l.drop p).take (k + n))).cps.toList,c < 1114112) := ⟨by rw [N4]; omega,fun c hc=>hs.2 c (List.mem_of_mem_drop (List.mem_of_mem_take hc))⟩
 have fl : ((l.drop (p + k)).takeWhile L9).length ≤ 100000 := by omega
 generalize (l.drop (p + k)).takeWhile L9 = fs at bad good fl ⊢
 generalize (l.drop p).take (k + n) = wd at bad good rz ⊢
 refine ⟨_,rfl,rfl,_,rfl,?_⟩
 rw [gW,O2]
 refine N1 (fun c=>?_) (fun c0=>?_)
 ·exact E8 ⟨_,rfl,_,rfl,rz.1,rz.2,fun r=>⟨M1,bad (.inl (of_decide_eq_true c))⟩⟩
 have c0 : fs ≠ [] := fun z=>c0 (decide_eq_true z)
 refine ⟨_,rfl,_,rfl,P0 fl,_,_,rfl,rfl,_,rfl,?_⟩
 refine N1 (fun c=>?_) (fun c1=>?_)
 ·have c : decide (((S fs).length : Nat) > (60 : Int)) = true := c
  have c := of_decide_eq_true c
  rw [N4] at c
  exact E8 ⟨_,rfl,_,rfl,rz.1,rz.2,fun r=>⟨M1,bad (.inr (.inl (by omega)))⟩⟩
 have c1 : ¬ 60 < fs.length := fun z=>c1 (decide_eq_true (by show ((S fs).length : Int) > 60; rw [N4]; omega))
 obtain ⟨c,r,rfl⟩ := List.exists_cons_of_ne_nil c0
 refine ⟨_,rfl,_,_,c,rfl,rfl,P0 fl,K8 (j := 0) rfl,rfl,_,rfl,?_⟩
 rw [BB8,show (⟨#[c]⟩ : Str) = S [c] from rfl,O2]
 refine N1 (fun c2=>?_) (fun c2=>?_)
 ·have c2 : c = 48 := List.singleton_inj.mp (of_decide_eq_true c2)
  subst c2
  refine ⟨_,rfl,rfl,_,rfl,?_⟩
  rw [O2]
  by_cases hw : wd = [48]
  ·rw [decide_eq_true hw]
   exact D7 ⟨_,rfl,good (fun z=>by
    rcases z with z | z | z
    ·cases z
    ·exact c1 z
    ·exact z.2 hw)⟩
  ·rw [decide_eq_false hw]
   exact E8 ⟨_,rfl,_,rfl,rz.1,rz.2,fun r=>⟨M1,bad (.inr (.inr ⟨rfl,hw⟩))⟩⟩
 ·have c2 : c ≠ 48 := fun z=>c2 (decide_eq_true (by rw [z]))
  exact D7 ⟨_,rfl,good (fun z=>by
   rcases z with z | z | z
   ·cases z
   ·exact c1 z
   ·exact c2 (Option.some.inj z.1))⟩
end
end Law
namespace Law
open PySem L2 L2.Sp
section
variable {P : Program} {w : World} {K : PySem.W.Frag} {mg : Str → Option Value} {base : Heap} {f : Addr} {fd : FuncData}
abbrev nK : Stmt := M8 18
theorem AH7 : E2 ["text","place","end"] ["text","place"] (B2 nK) := ⟨rfl,rfl,rfl,by decide +kernel,rfl,by decide +kernel,by decide +kernel⟩
theorem AI7 : (Str.ofString "\"" : Str) = S [34] := by decide +kernel
theorem AT9 {C fS : Addr} (F : Fun K "quoted_at" "quoted_at" nK f fd) (RUN : Cal P w K mg base 2 "run_end" ["text","place","fits"] (lN P w K mg base)) (n : NT K mg C) (hF : zX P w K mg base 1 (.ref fS) (Y4 T4)) (gF : mg "is_sign" = some (.ref fS)) :
  FnOk P w K mg base (N0 P w) 3 f fd ["text","place"] (eD Z9 C) := by
 refine Fun.ok1 F AH7 (fun vs H Q E h=>?_) (fun cdv A outer s H vs Q E hr h=>?_)
 ·obtain ⟨l,p,rfl,_⟩ := h
  rfl
 obtain ⟨l,p,rfl,hp,hs,q1,q2⟩ := h
 refine ⟨_,A7 (B7 (i := 2) AH7.nd rfl (Or.inl rfl) (B4 RUN hr rfl (A0 (pv 0) (A0 (E4 P4 (pv 1) B1) (A0 (V6 (v := .ref fS) rfl gF rfl) A5)))))
  (A7 (E5 (B9 kC (P1 Z8 (pv 0) (N6 (pv 2)) (N6 (E4 P4 (pv 2) B1))) B3 (B8 _))
   (A9 (V4 PySem.F.excBase_ValueError n.xc rfl n.mg (A0 B3 A5))) D6)
  (A9 (B6 (P1 Z8 (pv 0) (N6 (pv 1)) (N6 (E4 P4 (pv 2) B1)))))),?_⟩
 have wl := hs.1
 have hdd : (l.drop p).drop 1 = l.drop (p + 1) := by rw [List.drop_drop]
 have hnl := lH T4 (l.drop (p + 1))
 rw [List.length_drop] at hnl
 have hquo : Z9 (l.drop p) = if (l.drop (p + 1 + ((l.drop (p + 1)).takeWhile T4).length)).take 1 = [34] then some ((l.drop p).take (2 + ((l.drop (p + 1)).takeWhile T4).length)) else none := by
  unfold Z9
  rw [hdd,List.drop_drop,Nat.add_assoc]
 refine ⟨_,rfl,_,rfl,_,_,rfl,rfl,l,p + 1,.ref fS,T4,rfl,hF,by omega,wl,?_⟩
 generalize ((l.drop (p + 1)).takeWhile T4).length = n at hnl hquo ⊢
 refine ⟨_,rfl,_,rfl,_,rfl,_,rfl,_,_,rfl,rfl,_,rfl,_,rfl,P0 wl,rfl,_,rfl,?_⟩
 have e1 := Z4 l (i := p + 1 + n) (j := p + 1 + n + 1) (by omega) (by omega)
 have e2 := Z4 l (i := p) (j := p + 1 + n + 1) (by omega) (by omega)
 rw [show ((p + 1 + n : Nat) : Int) + 1 = ((p + 1 + n + 1 : Nat) : Int) by omega,e1,show p + 1 + n + 1 - (p + 1 + n) = 1 by omega,AI7]
 have e3 : decide (V.str (S ((l.drop (p + 1 + n)).take 1)) = V.str (S [34])) = decide ((l.drop (p + 1 + n)).take 1 = [34]) := O2
 rw [e3]
 by_cases hq : (l.drop (p + 1 + n)).take 1 = [34]
 ·rw [decide_eq_true hq]
  refine D7 ⟨_,rfl,_,rfl,_,rfl,_,rfl,_,_,rfl,rfl,_,rfl,_,rfl,P0 wl,?_⟩
  rw [show ((p + 1 + n : Nat) : Int) + 1 = ((p + 1 + n + 1 : Nat) : Int) by omega,e2,show p + 1 + n + 1 - p = 2 + n by omega]
  exact q1 _ (by rw [hquo,if_pos hq])
 ·rw [decide_eq_false hq]
  exact E8 ⟨M1,q2 (by rw [hquo,if_neg hq])⟩
abbrev jO : Stmt := M8 13
theorem xI : E2 ["text","place","sign"] ["text","place"] (B2 jO) := ⟨rfl,rfl,rfl,by decide +kernel,rfl,by decide +kernel,by decide +kernel⟩
theorem uS : (Str.ofString ".." : Str) = S [46,46] := by decide +kernel
theorem yO : (Str.ofString "{}[](),:?&|!@." : Str) = S T8 := by decide +kernel
theorem tJ {k : Nat} {x : Str} {ps : List Str} {sp : List V → Hp → VK → Prop} (C : Cal P w K mg base k x ps (fun vs H Q _=>sp vs H Q)) : ∃ f,zX P w K mg base k (.ref f) sp ∧ mg x = some (.ref f) := by
 obtain ⟨f,fd,F,a,b,c⟩ := C.ex
 exact ⟨f,⟨f,fd,ps,rfl,F,b,c⟩,a⟩
theorem AM6 {C : Addr} {st : Tok} (F : Fun K "word_at" "word_at" jO f fd) (RUN : Cal P w K mg base 2 "run_end" ["text","place","fits"] (lN P w K mg base)) (LET : Cal P w K mg base 1 "is_letter" ["sign"] (fun vs H Q _=>Y4 P7 vs H Q))
  (FIG : Cal P w K mg base 1 "is_figure" ["sign"] (fun vs H Q _=>Y4 L9 vs H Q)) (NUM : M0 P w K mg base 3 "number_at" ["text","place"] (eD V8 C)) (QUO : M0 P w K mg base 3 "quoted_at" ["text","place"] (eD Z9 C)) (n : NT K mg C)
  (gS : mg "SINGLE_SIGNS" = some (.str (Str.ofString "{}[](),:?&|!@.") st)) : FnOk P w K mg base (N0 P w) 4 f fd ["text","place"] (eD N8 C) := by
 refine Fun.ok1 F xI (fun vs H Q E h=>?_) (fun cdv A outer s H vs Q E hr h=>?_)
 ·obtain ⟨l,p,rfl,_⟩ := h
  rfl
 obtain ⟨l,p,rfl,hp,hs,q1,q2⟩ := h
 obtain ⟨fL,hL,gL⟩ := tJ LET
 refine ⟨_,A7 (B7 (i := 2) xI.nd rfl (Or.inl rfl) (G7 aG (pv 0) (pv 1) (fun _ _=>rfl)))
  (A7 (E5 (K9 (B4 (LET.mono (by omega)) hr rfl (A0 (pv 2) A5)))
   (A9 (B6 (P1 Z8 (pv 0) (N6 (pv 1)) (N6 (B4 (RUN.mono (by omega)) hr rfl (A0 (pv 0) (A0 (pv 1) (A0 (V6 (v := .ref fL) rfl gL rfl) A5)))))))) D6)
  (A7 (E5 (PW.pt (aO (B9 G9 (pv 2) B3 (B8 _)) (aU (K9 (B4 (FIG.mono (by omega)) hr rfl (A0 (pv 2) A5))))))
   (A9 (B6 (G5 NUM hr rfl (G8 (E' := E) fun _ _ _ h=>h) (A0 (pv 0) (A0 (pv 1) A5))))) D6)
  (A7 (E5 (B9 G9 (pv 2) B3 (B8 _))
   (A9 (B6 (G5 QUO hr rfl (G8 (E' := E) fun _ _ _ h=>h) (A0 (pv 0) (A0 (pv 1) A5))))) D6)
  (A7 (E5 (B9 G9 (P1 Z8 (pv 0) (N6 (pv 1)) (N6 (E4 P4 (pv 1) B1))) B3 (B8 _)) (A9 (B6 B3)) D6)
  (A7 (E5 (B9 yC (pv 2) (V6 (v := .str (S T8)) rfl gS ⟨st,by rw [yO]⟩) rfl) (A9 (B6 (pv 2))) D6)
  (A9 (V4 PySem.F.excBase_ValueError n.xc rfl n.mg (A0 (AI2 (pv 2)) A5)))))))),?_⟩
 have wl := hs.1
 have hg : l[p]? = some l[p] := List.getElem?_eq_getElem hp
 have ed : l.drop p = l[p] :: l.drop (p + 1) := aX hg
 have hc0 := hs.2 l[p] (List.getElem_mem hp)
 refine ⟨_,rfl,_,rfl,_,_,l[p],rfl,rfl,P0 wl,K8 hg,?_⟩
 have hw : N8 (l.drop p) = if P7 l[p] = true then some ((l.drop p).take ((l.drop p).takeWhile P7).length) else if l[p] = 45 ∨ L9 l[p] = true then V8 (l.drop p) else if l[p] = 34 then Z9 (l.drop p)
   else if (l.drop p).take 2 = [46,46] then some [46,46] else if l[p] ∈ T8 then some [l[p]] else none := by
  rw [ed,N8]
 refine ⟨_,rfl,l[p],rfl,_,rfl,?_⟩
 cases hcl : P7 l[p] with
 | true =>
  rw [hcl,if_pos rfl] at hw
  refine E8 ⟨_,rfl,_,rfl,_,rfl,_,rfl,_,rfl,l,p,.ref fL,P7,rfl,hL,by omega,wl,_,rfl,_,rfl,P0 wl,?_⟩
  have e := Z4 l (i := p) (j := p + ((l.drop p).takeWhile P7).length) (by omega) (by omega)
  rw [e,Nat.add_sub_cancel_left]
  exact q1 _ hw
 | false =>
 rw [hcl,if_neg (by simp)] at hw
 refine D7 ⟨_,rfl,rfl,_,rfl,?_⟩
 rw [wQ,show (⟨#[l[p]]⟩ : Str) = S [l[p]] from rfl,O2]
 have num : (l[p] = 45 ∨ L9 l[p] = true) → eD V8 C [.str (S l),.int (p : Int)] H Q E := fun z=>by
  rw [if_pos z] at hw
  exact ⟨l,p,rfl,hp,hs,fun v hv=>q1 v (hw.trans hv),fun hv=>q2 (hw.trans hv)⟩
 refine N1 (fun c=>?_) (fun c1=>?_)
 ·exact E8 ⟨_,rfl,_,rfl,num (.inl (List.singleton_inj.mp (of_decide_eq_true c)))⟩
 have c1 : l[p] ≠ 45 := fun z=>c1 (decide_eq_true (by rw [z]))
 refine ⟨_,rfl,l[p],rfl,_,rfl,?_⟩
 cases hcf : L9 l[p] with
 | true=>exact E8 ⟨_,rfl,_,rfl,num (.inr hcf)⟩
 | false =>
 rw [if_neg (by rintro (z | z); exact c1 z; rw [hcf] at z; cases z)] at hw
 refine D7 ⟨_,rfl,rfl,_,rfl,?_⟩
 rw [AI7,O2]
 refine N1 (fun c=>?_) (fun c2=>?_)
 ·have c := List.singleton_inj.mp (of_decide_eq_true c)
  rw [if_pos c] at hw
  exact ⟨_,rfl,_,rfl,l,p,rfl,hp,hs,fun v hv=>q1 v (hw.trans hv),fun hv=>q2 (hw.trans hv)⟩
 have c2 : l[p] ≠ 34 := fun z=>c2 (decide_eq_true (by rw [z]))
 rw [if_neg c2] at hw
 refine ⟨_,rfl,_,rfl,_,rfl,_,rfl,_,_,rfl,rfl,_,rfl,_,rfl,P0 wl,rfl,_,rfl,?_⟩
 have e := Z4 l (i := p) (j := p + 2) (by omega) (by omega)
 rw [show ((p : Int) + 2) = ((p + 2 : Nat) : Int) by omega,e,Nat.add_sub_cancel_left,uS]
 have e3 : decide (V.str (S ((l.drop p).take 2)) = V.str (S [46,46])) = decide ((l.drop p).take 2 = [46,46]) := O2
 rw [e3]
 refine N1 (fun c=>?_) (fun c3=>?_)
 ·rw [if_pos (of_decide_eq_true c)] at hw
  show Q (.str (Str.ofString "..")) H
  rw [uS]
  exact q1 _ hw
 rw [if_neg (fun z=>c3 (decide_eq_true z))] at hw
 refine ⟨_,rfl,_,_,rfl,rfl,_,rfl,?_⟩
 have e4 : (!(Builtin.Str.occurrences (S T8) (S [l[p]]) 0 (S T8).length 1).isEmpty) = decide (l[p] ∈ T8) := StrLaws.found_one _ _
 rw [e4]
 refine N1 (fun c=>?_) (fun c4=>?_)
 ·rw [if_pos (of_decide_eq_true c)] at hw
  exact ⟨_,rfl,q1 _ hw⟩
 rw [if_neg (fun z=>c4 (decide_eq_true z))] at hw
 exact ⟨_,rfl,_,rfl,by show 1 ≤ 100000; omega,fun c hc=>by
  have hc : c ∈ [l[p]] := hc
  rw [List.mem_singleton.mp hc]; exact hc0,fun r=>⟨M1,q2 hw⟩⟩
end
end Law
namespace Law
open PySem L2 L2.Sp
theorem jE {X : Cx} : U2 X (.builtin "isinstance") (fun xs H Q=>∃ v b,xs = [v,.ty "str"] ∧ ((∃ z,v = .str z ∧ b = true) ∨ (∃ d,DV X.K H d v ∧ bF d "str" = b)) ∧ Q (.bl b) H) := by
 intro pins s σ H xs us Q I r h
 obtain ⟨v,b,rfl,h,q⟩ := h
 rcases h with ⟨z,rfl,rfl⟩ | ⟨d,hd,rfl⟩
 ·exact AG5 pins s σ H _ us Q I r ⟨_,_,true,rfl,rfl,q⟩
 ·exact U1 pins s σ H _ us Q I r ⟨_,d,_,rfl,hd,.inr (.inl rfl),q⟩
section
variable {P : Program} {w : World} {K : PySem.W.Frag} {mg : Str → Option Value} {base : Heap} {f : Addr} {fd : FuncData}
abbrev fE : Stmt := M8 12
theorem fB : E2 ["text","words","place"] ["text"] (B2 fE) := ⟨rfl,rfl,rfl,by decide +kernel,rfl,by decide +kernel,by decide +kernel⟩
abbrev ST (ws : List (List Nat)) : List V := ws.map fun w=>V.str (S w)
def jK (K : PySem.W.Frag) (C : Addr) : Sp := fun args H Q E=>∃ v,args = [v] ∧ ((∃ d,DV K H d v ∧ bF d "str" = false ∧ E (.ref C) none H) ∨ ∃ l,v = .str (S l) ∧ V5 l ∧
 (∀ ws,G3 l = some ws → ∀ (H' : Hp) (p : Addr),H p = none → Same H H' → H' p = some (.lst (ST ws)) → Q (.ref p) H') ∧ (G3 l = none → ∀ H',Same H H' → E (.ref C) none H'))
theorem BB7 : (Str.ofString " " : Str) = S [32] := by decide +kernel
theorem uR {ws ws' : List (List Nat)} {o : Option (List (List Nat))} : (o.map (ws' ++ ·)).map (ws ++ ·) = o.map ((ws ++ ws') ++ ·) := by
 cases o with
 | none=>rfl
 | some x=>simp
theorem AC2 {C : Addr} (F : Fun K "words_of" "words_of" fE f fd) (WORD : M0 P w K mg base 4 "word_at" ["text","place"] (eD N8 C)) (n : NT K mg C) (m1 : mg "len" = none) (m2 : mg "isinstance" = none) (m3 : mg "str" = none) :
  FnOk P w K mg base (N0 P w) 5 f fd ["text"] (jK K C) := by
 refine Fun.ok1 F fB (fun vs H Q E h=>?_) (fun cdv A outer s H vs Q E hr h=>?_)
 ·obtain ⟨v,rfl,_⟩ := h
  rfl
 obtain ⟨v,rfl,h⟩ := h
 refine ⟨_,A7 (E5 (U6 (K9 (E7 jE rfl m2 R5 (A0 (pv 0) (A0 (S3 (v := .ty "str") rfl m3 aZ rfl) A5)))))
   (A9 (V4 PySem.F.excBase_ValueError n.xc rfl n.mg (A0 B3 A5))) D6)
  (A7 (B7 (i := 1) fB.nd rfl (Or.inl rfl) (E3 A5))
  (A7 (B7 (i := 2) fB.nd rfl (Or.inl rfl) B1)
  (A7 (W3 PassesOwn.leaving (B9 bN (pv 2) (E7 U8 rfl m1 PySem.boot_len (A0 (pv 0) A5)) (B8 _))
   (A9 (E5 (B9 G9 (G7 aG (pv 0) (pv 2) (fun _ _=>rfl)) B3 (B8 _))
    (A9 (Q5 (i := 2) fB.nd rfl (Or.inl rfl) B1 mI))
    (A7 (K2 (O9 PySem.F.plainAttrs_list PySem.F.slot_list_append PySem.F.type_list_append K4 (pv 1) (A0 (G5 WORD hr rfl (G8 (E' := E) fun _ _ _ h=>h) (A0 (pv 0) (A0 (pv 2) A5))) A5)))
    (A9 (Q5 (i := 2) fB.nd rfl (Or.inl rfl) (E7 U8 rfl m1 PySem.boot_len (A0 (G7 O3 (pv 1) (qP lG B1) (fun _ _=>rfl)) A5)) mI))))))
  (A9 (B6 (pv 1)))))),?_⟩
 rcases h with ⟨d,hd,hf,e⟩ | ⟨l,rfl,hs,q1,q2⟩
 ·exact ⟨_,rfl,_,_,rfl,.inr ⟨d,hd,hf⟩,_,rfl,E8 ⟨M1,e⟩⟩
 have wl := hs.1
 refine ⟨_,rfl,_,_,rfl,.inl ⟨_,rfl,rfl⟩,_,rfl,D7 ?_⟩
 refine ⟨T7,fun a ha=>?_⟩
 have g1 := A8 ha (.lst [])
 refine ⟨fun m σ H'=>∃ (p : Nat) (ws : List (List Nat)),σ = [some (.str (S l)),some (.ref a),some (.int (p : Int))] ∧ Same H H' ∧ H' a = some (.lst (ST ws)) ∧ m = l.length - p ∧ p ≤ l.length ∧ ws.length ≤ p ∧ G3 l = (G3 (l.drop p)).map (ws ++ ·),
  ⟨_,0,[],rfl,g1,A6,rfl,by omega,Nat.le_refl _,by
   show G3 l = (G3 l).map ([] ++ ·)
   cases G3 l with
   | none=>rfl
   | some x=>rfl⟩,?_⟩
 rintro m σ H' ⟨p,ws,rfl,g,hl,rfl,hp,hwl,hw⟩
 refine ⟨_,rfl,_,rfl,_,rfl,P0 wl,_,_,rfl,rfl,_,rfl,N1 (fun c=>?_) (fun c=>?_)⟩
 ·have c : decide ((p : Int) < ((S l).length : Nat)) = true := c
  have hlt : p < l.length := by have := of_decide_eq_true c; rw [N4] at this; omega
  have hg : l[p]? = some l[p] := List.getElem?_eq_getElem hlt
  have ed : l.drop p = l[p] :: l.drop (p + 1) := aX hg
  refine ⟨fun σ' H''=>∃ (p' : Nat) (ws : List (List Nat)),σ' = [some (.str (S l)),some (.ref a),some (.int (p' : Int))] ∧ Same H H'' ∧ H'' a = some (.lst (ST ws)) ∧ p < p' ∧ p' ≤ l.length ∧ ws.length ≤ p' ∧ G3 l = (G3 (l.drop p')).map (ws ++ ·),fun σ' H'' h=>?_,?_⟩
  ·obtain ⟨p',ws',rfl,h1,h2,h3,h4,h5,h6⟩ := h
   exact ⟨l.length - p',by omega,p',ws',rfl,h1,h2,rfl,h4,h5,h6⟩
  refine ⟨_,rfl,_,rfl,_,_,l[p],rfl,rfl,P0 wl,K8 hg,rfl,_,rfl,?_⟩
  rw [BB7,show (⟨#[l[p]]⟩ : Str) = S [l[p]] from rfl,O2]
  refine N1 (fun c=>?_) (fun c=>?_)
  ·have c := List.singleton_inj.mp (of_decide_eq_true c)
   refine ⟨_,rfl,_,_,rfl,rfl,p + 1,ws,rfl,g,hl,by omega,by omega,by omega,?_⟩
   rw [hw,ed,c,qV]
  ·have c : l[p] ≠ 32 := fun z=>c (decide_eq_true (by rw [z]))
   have hh : (l.drop p).head? ≠ some 32 := by rw [ed]; intro z; exact c (Option.some.inj z)
   refine ⟨_,rfl,.inl ⟨rfl,_,SqL.of hl⟩,_,rfl,_,rfl,l,p,rfl,hlt,hs,fun v hv=>?_,fun hv=>?_⟩
   ·obtain ⟨v1,v2,v3⟩ := iC hv
    rw [List.length_drop] at v2
    refine ⟨a,_,_,rfl,rfl,hl,?_,?_⟩
    ·rw [List.length_map]; exact Nat.lt_of_le_of_lt (Nat.le_trans hwl (Nat.le_trans hp wl)) (by decide)
    have el : ST ws ++ [V.str (S v)] = ST (ws ++ [v]) := by simp [ST]
    refine ⟨_,rfl,_,rfl,_,rfl,a,_,_,_,rfl,rfl,SqL.of A6,AH0 _ _,_,rfl,P0 (by omega),_,_,rfl,rfl,p + v.length,ws ++ [v],?_,fun b o h=>by rw [B5 (D8 h ha)]; exact g _ _ h,by rw [A6,el],by omega,by omega,by rw [List.length_append,List.length_singleton]; omega,?_⟩
    ·rfl
    ·rw [hw,lE hh hv,List.drop_drop]
     exact uR (ws' := [v])
   ·have hn : G3 (l.drop p) = none := vM hh (fun z=>by rw [ed] at z; cases z) hv
    exact q2 (hw.trans (by rw [hn]; rfl)) H' g
 ·have c : ¬ decide ((p : Int) < ((S l).length : Nat)) = true := c
  have hge : l.length ≤ p := by
   refine Nat.le_of_not_lt fun z=>c (decide_eq_true ?_)
   rw [N4]; omega
  have h0 : l.drop p = [] := List.drop_eq_nil_of_le hge
  rw [h0,dB] at hw
  refine ⟨_,rfl,q1 ws ?_ H' a ha g hl⟩
  rw [hw]; simp
end
end Law
namespace Law
open PySem L2 L2.Sp
def Let (w : List Nat) : Prop := w ≠ [] ∧ ∀ c ∈ w,P7 c = true
def Num (w : List Nat) : Prop := ∃ sn fs,w = sn ++ fs ∧ (sn = [] ∨ sn = [45]) ∧ fs ≠ [] ∧ (∀ c ∈ fs,L9 c = true) ∧ fs.length ≤ 60 ∧ (fs.head? ≠ some 48 ∨ w = [48])
def Quo (w : List Nat) : Prop := ∃ b,(∀ c ∈ b,T4 c = true) ∧ w = 34 :: (b ++ [34])
def One (w : List Nat) : Prop := ∃ c,c ∈ T8 ∧ w = [c]
def Z1 (w : List Nat) : Prop := Let w ∨ Num w ∨ Quo w ∨ w = [46,46] ∨ One w
def Fol (w s : List Nat) : Prop := ∀ d,s.head? = some d → (Let w → P7 d = false) ∧ (Num w → L9 d = false) ∧ (w = [46] → d ≠ 46)
theorem BB9 {c : Nat} (h : L9 c = true) : P7 c = false := by
 unfold L9 at h; unfold P7
 simp only [Bool.and_eq_true,decide_eq_true_eq] at h
 rw [decide_eq_false (by omega)]; rfl
theorem qS {c : Nat} (h : P7 c = true) : L9 c = false := by
 unfold P7 at h; unfold L9
 simp only [Bool.and_eq_true,decide_eq_true_eq] at h
 rw [decide_eq_false (show ¬ c ≤ 57 by omega),Bool.and_false]
theorem W1 : ∀ c ∈ T8,P7 c = false ∧ L9 c = false ∧ c ≠ 45 ∧ c ≠ 34 ∧ c ≠ 32 := by decide
theorem AZ1 {c : Nat} (h : L9 c = true) : c ≠ 45 ∧ c ≠ 32 ∧ c ≠ 34 ∧ c ≠ 46 := by
 unfold L9 at h
 simp only [Bool.and_eq_true,decide_eq_true_eq] at h
 omega
theorem AY8 {c : Nat} (h : P7 c = true) : c ≠ 45 ∧ c ≠ 32 ∧ c ≠ 34 ∧ c ≠ 46 := by
 unfold P7 at h
 simp only [Bool.and_eq_true,decide_eq_true_eq] at h
 omega
theorem Num.head {w : List Nat} (h : Num w) : ∃ c,w.head? = some c ∧ (c = 45 ∨ L9 c = true) := by
 obtain ⟨sn,fs,rfl,hsn,hne,hf,_⟩ := h
 obtain ⟨c,r,rfl⟩ := List.exists_cons_of_ne_nil hne
 rcases hsn with rfl | rfl
 ·exact ⟨c,rfl,.inr (hf c (by simp))⟩
 ·exact ⟨45,rfl,.inl rfl⟩
theorem Let.head {w : List Nat} (h : Let w) : ∃ c,w.head? = some c ∧ P7 c = true := by
 obtain ⟨hne,hl⟩ := h
 obtain ⟨c,r,rfl⟩ := List.exists_cons_of_ne_nil hne
 exact ⟨c,rfl,hl c (by simp)⟩
theorem tN {w : List Nat} (h : Let w) (h' : Num w) : False := by
 obtain ⟨c,e,hc⟩ := h.head
 obtain ⟨c',e',hc'⟩ := h'.head
 rw [e] at e'; cases e'
 rcases hc' with rfl | hc'
 ·cases hc
 ·rw [qS hc] at hc'; cases hc'
theorem yK {w s : List Nat} (h : Num w) (hs : ∀ d,s.head? = some d → L9 d = false) : V8 (w ++ s) = some w := by
 obtain ⟨sn,fs,rfl,hsn,hne,hf,hlen,h0⟩ := h
 obtain ⟨c,r,rfl⟩ := List.exists_cons_of_ne_nil hne
 have htw : ((c :: r) ++ s).takeWhile L9 = c :: r := lI L9 hf hs
 have key : ∀ k,sg (sn ++ (c :: r) ++ s) = k → k = sn.length → V8 (sn ++ (c :: r) ++ s) = some (sn ++ (c :: r)) := fun k hk hl=>by
  have hd : (sn ++ (c :: r) ++ s).drop k = (c :: r) ++ s := by rw [hl,List.append_assoc,List.drop_left]
  have ht : (sn ++ (c :: r) ++ s).take (k + (c :: r).length) = sn ++ (c :: r) := by
   rw [hl,← List.length_append,List.take_left]
  unfold V8
  rw [hk,hd,htw,ht,if_neg]
  rintro (z | z | z)
  ·cases z
  ·omega
  ·rcases h0 with h0 | h0
   ·exact h0 z.1
   ·exact z.2 h0
 rcases hsn with rfl | rfl
 ·refine key 0 ?_ rfl
  unfold sg
  rw [if_neg]
  intro z
  exact (AZ1 (hf c (by simp))).1 (Option.some.inj z)
 ·exact key 1 rfl rfl
theorem AQ3 {w s : List Nat} (h : Z1 w) (hf : Fol w s) : N8 (w ++ s) = some w := by
 rcases h with h | h | h | rfl | h
 ·have htw : (w ++ s).takeWhile P7 = w := lI P7 h.2 fun d hd=>(hf d hd).1 h
  obtain ⟨c,r,rfl⟩ := List.exists_cons_of_ne_nil h.1
  have hc := h.2 c (by simp)
  show N8 (c :: (r ++ s)) = _
  rw [N8,if_pos hc]
  have : (c :: (r ++ s)).takeWhile P7 = c :: r := htw
  rw [this]
  show some ((c :: r ++ s).take (c :: r).length) = _
  rw [List.take_left]
 ·have hn := yK h (s := s) fun d hd=>(hf d hd).2.1 h
  obtain ⟨c,e,hc⟩ := h.head
  obtain ⟨r,rfl⟩ : ∃ r,w = c :: r := by
   cases w with
   | nil=>cases e
   | cons a r=>cases e; exact ⟨r,rfl⟩
  have hl : P7 c = false := by
   rcases hc with rfl | hc
   ·rfl
   ·exact BB9 hc
  show N8 (c :: (r ++ s)) = _
  rw [N8,if_neg (by rw [hl]; simp),if_pos hc]
  exact hn
 ·obtain ⟨b,hb,rfl⟩ := h
  show N8 (34 :: (b ++ [34] ++ s)) = _
  rw [N8,if_neg (by decide),if_neg (by decide),if_pos rfl]
  have htw : (b ++ [34] ++ s).takeWhile T4 = b := by
   rw [List.append_assoc]
   exact lI T4 hb fun d hd=>by cases hd; decide
  unfold Z9
  have e1 : (34 :: (b ++ [34] ++ s)).drop 1 = b ++ [34] ++ s := rfl
  rw [e1,htw]
  have e2 : (34 :: (b ++ [34] ++ s)).drop (1 + b.length) = [34] ++ s := by
   rw [Nat.add_comm 1,List.drop_succ_cons,List.append_assoc,List.drop_left]
  have e3 : (34 :: (b ++ [34] ++ s)).take (2 + b.length) = 34 :: (b ++ [34]) := by
   have : 2 + b.length = (34 :: (b ++ [34])).length := by simp; omega
   rw [this]
   show ((34 :: (b ++ [34])) ++ s).take _ = _
   rw [List.take_left]
  rw [e2,e3]
  rfl
 ·show N8 (46 :: 46 :: s) = _
  rw [N8,if_neg (by decide),if_neg (by decide),if_neg (by decide),if_pos (show List.take 2 (46 :: 46 :: s) = [46,46] from rfl)]
 ·obtain ⟨c,hc,rfl⟩ := h
  obtain ⟨h1,h2,h3,h4,_⟩ := W1 c hc
  show N8 (c :: s) = _
  rw [N8,if_neg (by rw [h1]; simp),if_neg (by rintro (z | z); exact h3 z; rw [h2] at z; cases z),if_neg h4,if_neg,if_pos hc]
  intro z
  cases s with
  | nil=>cases z
  | cons d r =>
   have z : c :: d :: [] = [46,46] := z
   cases z
   exact (hf 46 rfl).2.2 rfl rfl
theorem qZ {w : List Nat} (h : Z1 w) : ∃ c,w.head? = some c ∧ c ≠ 32 := by
 rcases h with h | h | h | rfl | h
 ·obtain ⟨c,e,hc⟩ := h.head
  exact ⟨c,e,(AY8 hc).2.1⟩
 ·obtain ⟨c,e,hc⟩ := h.head
  refine ⟨c,e,?_⟩
  rcases hc with rfl | hc
  ·decide
  ·exact (AZ1 hc).2.1
 ·obtain ⟨b,_,rfl⟩ := h
  exact ⟨34,rfl,by decide⟩
 ·exact ⟨46,rfl,by decide⟩
 ·obtain ⟨c,hc,rfl⟩ := h
  exact ⟨c,rfl,(W1 c hc).2.2.2.2⟩
theorem wZ {w s : List Nat} (h : Z1 w) (hf : Fol w s) : G3 (w ++ s) = (G3 s).map (w :: ·) := by
 obtain ⟨c,e,hc⟩ := qZ h
 have hh : (w ++ s).head? ≠ some 32 := by
  cases w with
  | nil=>cases e
  | cons a r =>
   cases e
   intro z
   exact hc (Option.some.inj z)
 rw [lE hh (AQ3 h hf),List.drop_left]
def Line (line : List Nat) (due : List (List Nat)) (last : List Nat) : Prop :=
 (line = [] ∧ due = [] ∧ last = []) ∨ ∃ l0 d0 w,line = l0 ++ w ∧ due = d0 ++ [w] ∧ Z1 w ∧ Z1 last ∧ (∀ s,s.head? = w.head? → G3 (l0 ++ s) = (G3 s).map (d0 ++ ·)) ∧ (w = last ∨ (Let w ∧ Let last))
theorem Line.nil : Line [] [] [] := .inl ⟨rfl,rfl,rfl⟩
theorem Line.all {line last s : List Nat} {due : List (List Nat)} (h : Line line due last) (hf : Fol last s) : G3 (line ++ s) = (G3 s).map (due ++ ·) := by
 rcases h with ⟨rfl,rfl,rfl⟩ | ⟨l0,d0,w,rfl,rfl,hw,hl,ha,hwl⟩
 ·show G3 s = (G3 s).map ([] ++ ·)
  cases G3 s <;> rfl
 ·have hfw : Fol w s := by
   rcases hwl with rfl | ⟨h1,h2⟩
   ·exact hf
   ·exact fun d hd=>⟨fun _=>(hf d hd).1 h2,fun z=>(tN h1 z).elim,fun z=>by
     subst z
     have := h1.2 46 (by simp)
     cases this⟩
  obtain ⟨c,e,hc⟩ := qZ hw
  have hh : (w ++ s).head? = w.head? := by
   cases w with
   | nil=>cases e
   | cons a r=>rfl
  rw [List.append_assoc,ha (w ++ s) hh,wZ hw hfw]
  exact uR (ws' := [w])
theorem Fol.sp {w s : List Nat} : Fol w (32 :: s) := fun d hd=>by
 cases hd
 exact ⟨fun _=>by decide,fun _=>by decide,fun _=>by decide⟩
theorem Fol.nil {w : List Nat} : Fol w [] := fun d hd=>by cases hd
theorem iB (g : Nat) (s : List Nat) : G3 (List.replicate g 32 ++ s) = G3 s := by
 induction g with
 | zero=>rfl
 | succ g ih =>
  rw [List.replicate_succ,List.cons_append,qV,ih]
theorem Fol.head {w s s' : List Nat} (h : Fol w s) (e : s'.head? = s.head?) : Fol w s' := fun d hd=>h d (e ▸ hd)
theorem Line.gap {line last p : List Nat} {due : List (List Nat)} {g : Nat} (h : Line line due last) (hg : 0 < g) (hp : Z1 p) : Line (line ++ List.replicate g 32 ++ p) (due ++ [p]) p := by
 refine .inr ⟨line ++ List.replicate g 32,due,p,rfl,rfl,hp,hp,fun s _=>?_,.inl rfl⟩
 obtain ⟨k,rfl⟩ : ∃ k,g = k + 1 := ⟨g - 1,by omega⟩
 rw [List.append_assoc,h.all (by rw [List.replicate_succ]; exact Fol.sp),iB]
theorem Line.zero {line last p : List Nat} {due : List (List Nat)} (h : Line line due last) (hp : Z1 p) (hf : Fol last p) : Line (line ++ p) (due ++ [p]) p :=
 .inr ⟨line,due,p,rfl,rfl,hp,hp,fun s hs=>h.all (hf.head hs),.inl rfl⟩
theorem Line.ends {line last : List Nat} {due : List (List Nat)} (h : Line line due last) : G3 line = some due := by
 have e := h.all (s := []) Fol.nil
 rw [List.append_nil,dB] at e
 rw [e]; simp
end Law
namespace Law
open PySem L2 L2.Sp
inductive Tn where
 | non
 | bl (b : Bool)
 | int (i : Int)
 | str (w : List Nat)
 | tup (ts : List Tn)
mutual
def TV (K : PySem.W.Frag) (H : Hp) : Tn → V → Prop
 | .non,v=>v = .non
 | .bl b,v=>v = .bl b
 | .int i,v=>v = .int i
 | .str w,v=>v = .str (S w)
 | .tup ts,v=>∃ a ys,v = .ref a ∧ SqT K H a ys ∧ TAll K H ts ys
def TAll (K : PySem.W.Frag) (H : Hp) : List Tn → List V → Prop
 | [],ys=>ys = []
 | t :: ts,ys=>∃ y r,ys = y :: r ∧ TV K H t y ∧ TAll K H ts r
end
section
variable {K : PySem.W.Frag} {H H' : Hp}
mutual
theorem TV.mono (k : ∀ a ys,SqT K H a ys → SqT K H' a ys) : ∀ (t : Tn) (v : V),TV K H t v → TV K H' t v
 | .non,v,h=>by simp only [TV] at h ⊢; exact h
 | .bl b,v,h=>by simp only [TV] at h ⊢; exact h
 | .int i,v,h=>by simp only [TV] at h ⊢; exact h
 | .str x,v,h=>by simp only [TV] at h ⊢; exact h
 | .tup ts,v,h=>by
  simp only [TV] at h ⊢
  obtain ⟨a,ys,e,hq,hd⟩ := h
  exact ⟨a,ys,e,k a ys hq,TAll.mono k ts ys hd⟩
theorem TAll.mono (k : ∀ a ys,SqT K H a ys → SqT K H' a ys) : ∀ (ts : List Tn) (vs : List V),TAll K H ts vs → TAll K H' ts vs
 | [],vs,h=>by simp only [TAll] at h ⊢; exact h
 | t :: ts,vs,h=>by
  simp only [TAll] at h ⊢
  obtain ⟨y,r,e,h1,h2⟩ := h
  exact ⟨y,r,e,TV.mono k t y h1,TAll.mono k ts r h2⟩
end
theorem TAll.length : ∀ {ts : List Tn} {vs : List V},TAll K H ts vs → vs.length = ts.length
 | [],vs,h=>by simp only [TAll] at h; subst h; rfl
 | t :: ts,vs,h=>by
  simp only [TAll] at h
  obtain ⟨y,r,e,_,h2⟩ := h
  subst e
  rw [List.length_cons,List.length_cons,TAll.length h2]
theorem TAll.append : ∀ {ts us : List Tn} {vs xs : List V},TAll K H ts vs → TAll K H us xs → TAll K H (ts ++ us) (vs ++ xs)
 | [],us,vs,xs,h,h'=>by simp only [TAll] at h; subst h; exact h'
 | t :: ts,us,vs,xs,h,h'=>by
  simp only [TAll] at h
  obtain ⟨y,r,e,h1,h2⟩ := h
  subst e
  simp only [List.cons_append,TAll]
  exact ⟨y,r ++ xs,rfl,h1,TAll.append h2 h'⟩
theorem TAll.nil : TAll K H [] [] := by simp only [TAll]
theorem TAll.one {t : Tn} {v : V} (h : TV K H t v) : TAll K H [t] [v] := by simp only [TAll]; exact ⟨v,[],rfl,h,rfl⟩
theorem TAll.cons {t : Tn} {v : V} {ts : List Tn} {vs : List V} (h : TV K H t v) (h2 : TAll K H ts vs) : TAll K H (t :: ts) (v :: vs) := by simp only [TAll]; exact ⟨v,vs,rfl,h,h2⟩
theorem TAll.get : ∀ {ts : List Tn} {vs : List V} {i : Nat} {v : V},TAll K H ts vs → vs[i]? = some v → ∃ t,ts[i]? = some t ∧ TV K H t v
 | [],vs,i,v,h,e=>by simp only [TAll] at h; subst h; simp at e
 | t :: ts,vs,i,v,h,e=>by
  simp only [TAll] at h
  obtain ⟨y,r,e1,h1,h2⟩ := h
  subst e1
  cases i with
  | zero=>simp at e; subst e; exact ⟨t,rfl,h1⟩
  | succ i =>
   obtain ⟨t',h3,h4⟩ := TAll.get (i := i) h2 (by simpa using e)
   exact ⟨t',by simpa using h3,h4⟩
theorem TV.tup {a : Addr} {ys : List V} {ts : List Tn} (h : SqT K H a ys) (h2 : TAll K H ts ys) : TV K H (.tup ts) (.ref a) := by simp only [TV]; exact ⟨a,ys,rfl,h,h2⟩
theorem TV.str {w : List Nat} : TV K H (.str w) (.str (S w)) := by simp only [TV]
theorem TV.int {i : Int} : TV K H (.int i) (.int i) := by simp only [TV]
theorem TV.bl {b : Bool} : TV K H (.bl b) (.bl b) := by simp only [TV]
theorem TV.non : TV K H .non .non := by simp only [TV]
theorem TAll.strs (ws : List (List Nat)) : TAll K H (ws.map Tn.str) (ST ws) := by
 induction ws with
 | nil=>exact TAll.nil
 | cons w ws ih=>exact TAll.cons TV.str ih
theorem Grow.tups {st : Addr} (g : Grow st H H') (h1 : ∀ xs,H st ≠ some (.tup xs)) (h2 : ∀ xs o,H st ≠ some (.frz o (.tup xs))) : ∀ a ys,SqT K H a ys → SqT K H' a ys := fun a ys h =>
 h.keep fun b u=>⟨fun q=>g b _ (fun e=>by subst e; exact h1 u q) q,fun o q=>g b _ (fun e=>by subst e; exact h2 u o q) q⟩
end
abbrev Wd := List Nat
abbrev P8 := Option (Tn × List Wd)
def hd (r : List Wd) : Wd := r.headD []
def E9 (w : Wd) : Bool := decide (w ≠ []) && w.all P7
def O6 (w : Wd) : Bool := match w with
 | []=>false
 | c :: _=>decide (c = 45) || L9 c
def oG (w : List Nat) : Nat := w.foldl (fun n c=>n * 10 + (c - 48)) 0
def S9 (w : Wd) : Int := match w with
 | 45 :: r=>-(oG r : Int)
 | _=>(oG w : Int)
def N9 : List Wd := [[110,111,110,101],[121,101,115],[110,111],[116,114,117,116,104],[110,117,109,98,101,114],[116,101,120,116],[108,105,115,116],[114,101,99,111,114,100],[97,110,121],[110,111,116,104,105,110,103]]
def gY : Wd := [119,111,114,100]
def wS : Wd := [115,112,97,110]
def dU : Wd := [116,101,120,116]
def cU : Wd := [112,108,97,99,101]
def eM : Wd := [110,111,116]
def Q6 : Wd := [97,110,100]
def W6 : Wd := [111,114]
def aF : Wd := [108,105,115,116]
def bE : Wd := [114,101,99,111,114,100]
def R6 (a b : Tn) : Tn := .tup [.str wS,a,b]
def one (k : Wd) (ts : List Tn) : Tn := match ts with
 | [t]=>t
 | _=>.tup [.str k,.tup ts]
def wK : Nat → Tn → Tn
 | 0,t=>t
 | n + 1,t=>.tup [.str eM,wK n t]
inductive W8 : Nat → List Wd → List Wd → Option (List Wd × List Wd) → Prop
 | stop {ns r} : hd r ≠ [46] → W8 0 ns r (some (ns,r))
 | on {k ns n r res} : E9 n = true → W8 k (ns ++ [n]) r res → W8 (k + 1) ns ([46] :: n :: r) res
 | bad {ns r} : E9 (hd r) = false → W8 1 ns ([46] :: r) none
def R0 (r : List Wd) (res : Option (List Wd × List Wd)) : Prop :=
 if E9 (hd r) = true then ∃ k,W8 k [hd r] r.tail res else res = none
def R3 (close : Wd) (n : Nat) (r : List Wd) : Option (Bool × List Wd) :=
 if hd r = close then some (false,r)
 else if 0 < n then (if hd r = [44] then some (!(decide (hd r.tail = [46,46]) && decide (hd r.tail.tail = close)),r.tail) else none)
 else some (!(decide (hd r = [46,46]) && decide (hd r.tail = close)),r)
def bG (close : Wd) (r : List Wd) : Option (Bool × List Wd) :=
 if hd r = [46,46] then (if hd r.tail = close then some (true,r.tail.tail) else none) else (if hd r = close then some (false,r.tail) else none)
section
variable (X : Bool → List Wd → P8 → Prop)
def AY4 (free : Bool) (r : List Wd) (res : P8) : Prop := ∃ xres,X free r xres ∧ res = match xres with
 | none=>none
 | some (t,r1)=>if hd r1 = [41] then some (t,r1.tail) else none
inductive ItemsP : Nat → List Tn → List Wd → Option (List Tn × List Wd) → Prop
 | stop {ts r r1} : R3 [93] ts.length r = some (false,r1) → ItemsP 0 ts r (some (ts,r1))
 | on {k ts r r1 t r2 res} : R3 [93] ts.length r = some (true,r1) → X false r1 (some (t,r2)) → ItemsP k (ts ++ [t]) r2 res → ItemsP (k + 1) ts r res
 | bad {ts r} : R3 [93] ts.length r = none → ItemsP 0 ts r none
 | worse {ts r r1} : R3 [93] ts.length r = some (true,r1) → X false r1 none → ItemsP 0 ts r none
def mU (r : List Wd) (res : P8) : Prop := ∃ k ires,ItemsP X k [] r ires ∧ res = match ires with
 | none=>none
 | some (ts,r1)=>(bG [93] r1).map fun p=>(.tup [.str aF,.tup ts,.bl p.1],p.2)
def FieldP (r : List Wd) (res : Option ((Wd × Tn × Bool) × List Wd)) : Prop :=
  if E9 (hd r) = true then
    (if hd r.tail = [63] then (if hd r.tail.tail = [58] then ∃ xres, X false r.tail.tail.tail xres ∧ res = xres.map fun p => ((hd r, p.1, false), p.2) else res = none)
     else (if hd r.tail = [58] then ∃ xres, X false r.tail.tail xres ∧ res = xres.map fun p => ((hd r, p.1, true), p.2) else res = none))
  else res = none
inductive FieldsP : Nat → List (Wd × Tn × Bool) → List Wd → Option (List (Wd × Tn × Bool) × List Wd) → Prop
 | stop {fs r r1} : R3 [125] fs.length r = some (false,r1) → FieldsP 0 fs r (some (fs,r1))
 | on {k fs r r1 f r2 res} : R3 [125] fs.length r = some (true,r1) → FieldP X r1 (some (f,r2)) → f.1 ∉ fs.map (·.1) → FieldsP k (fs ++ [f]) r2 res → FieldsP (k + 1) fs r res
 | bad {fs r} : R3 [125] fs.length r = none → FieldsP 0 fs r none
 | worse {fs r r1} : R3 [125] fs.length r = some (true,r1) → FieldP X r1 none → FieldsP 0 fs r none
 | twice {fs r r1 f r2} : R3 [125] fs.length r = some (true,r1) → FieldP X r1 (some (f,r2)) → f.1 ∈ fs.map (·.1) → FieldsP 0 fs r none
def Y9 (f : Wd × Tn × Bool) : Tn := .tup [.str f.1,f.2.1,.bl f.2.2]
def tD (r : List Wd) (res : P8) : Prop := ∃ k fres,FieldsP X k [] r fres ∧ res = match fres with
 | none=>none
 | some (fs,r1)=>(bG [125] r1).map fun p=>(.tup [.str bE,.tup (fs.map Y9),.bl p.1],p.2)
def SglP (free : Bool) (r : List Wd) (res : P8) : Prop :=
  if hd r = [40] then AY4 X free r.tail res
  else if hd r = [91] then mU X r.tail res
  else if hd r = [123] then tD X r.tail res
  else if hd r = [64] ∧ free = true then ∃ nres, R0 r.tail nres ∧ res = nres.map fun p => (.tup [.str cU, .tup (p.1.map Tn.str)], p.2)
  else if hd r = [46, 46] ∧ O6 (hd r.tail) = true then res = some (R6 .non (.int (S9 (hd r.tail))), r.tail.tail)
  else if O6 (hd r) = true then
    (if hd r.tail = [46, 46] then (if O6 (hd r.tail.tail) = true then res = some (R6 (.int (S9 (hd r))) (.int (S9 (hd r.tail.tail))), r.tail.tail.tail) else res = some (R6 (.int (S9 (hd r))) .non, r.tail.tail))
     else res = some (R6 (.int (S9 (hd r))) (.int (S9 (hd r))), r.tail))
  else if (hd r).take 1 = [34] then res = some (.tup [.str dU, .str ((hd r).drop 1).dropLast], r.tail)
  else if hd r ∈ N9 then res = some (.tup [.str gY, .str (hd r)], r.tail)
  else res = none
def Q9 (r : List Wd) : Nat := (r.takeWhile (· == [33])).length
def NegP (free : Bool) (r : List Wd) (res : P8) : Prop := ∃ sres,SglP X (free && decide (Q9 r = 0)) (r.drop (Q9 r)) sres ∧ res = sres.map fun p=>(wK (Q9 r) p.1,p.2)
inductive MoreP : Nat → Bool → List Tn → List Tn → List Wd → P8 → Prop
 | stop {free alts parts r} : hd r ≠ [38] → hd r ≠ [124] → MoreP 0 free alts parts r (some (one W6 (alts ++ [one Q6 parts]),r))
 | and {k free alts parts r t r1 res} : NegP X free r (some (t,r1)) → MoreP k free alts (parts ++ [t]) r1 res → MoreP (k + 1) free alts parts ([38] :: r) res
 | or {k free alts parts r t r1 res} : NegP X free r (some (t,r1)) → MoreP k free (alts ++ [one Q6 parts]) [t] r1 res → MoreP (k + 1) free alts parts ([124] :: r) res
 | bad {free alts parts w r} : w = [38] ∨ w = [124] → NegP X free r none → MoreP 1 free alts parts (w :: r) none
def ExpP (free : Bool) (r : List Wd) (res : P8) : Prop := ∃ nres,NegP X free r nres ∧ match nres with
 | none=>res = none
 | some (t,r1)=>∃ k,MoreP X k free [] [t] r1 res
end
def Exn : Nat → Bool → List Wd → P8 → Prop
 | 0=>fun _ _ _=>False
 | n + 1=>ExpP (Exn n)
end Law
namespace L2
open PySem PySem.Spec PyProof.Rows
section
variable {X : Cx}
theorem mD : MtR X "str.isalnum" (fun x xs H Q=>∃ z,x = .str z ∧ xs = [] ∧ Q (.bl (Txt.isalnum z)) H) := by
 intro pins s σ H x xs v us Q I rx rs h
 obtain ⟨z,rfl,rfl,q⟩ := h
 obtain ⟨t,rfl⟩ := rx
 cases rs
 exact SC.isalnum ⟨.bl _,H,I,rfl,q⟩
theorem jF : U2 X (.type "int") (fun xs H Q=>∃ z n,xs = [.str z] ∧ PySem.intText? z = some n ∧ z.length ≤ 640 ∧ Q (.int n) H) := by
 intro pins s σ H xs us Q I r h
 obtain ⟨z,n,rfl,hn,hl,q⟩ := h
 obtain ⟨u,rfl,ru⟩ := gA r
 obtain ⟨t,rfl⟩ := ru
 exact PySem.W.KIN.call_text hn hl ⟨.int n,H,I.tok _,⟨_,rfl⟩,q⟩
theorem jD : U2 X (.type "str") (fun xs H Q=>∃ n,xs = [.int n] ∧ n.natAbs.log2 < 1920 ∧ Q (.str (Str.ofString (toString n))) H) := by
 intro pins s σ H xs us Q I r h
 obtain ⟨n,rfl,hn,q⟩ := h
 obtain ⟨u,rfl,ru⟩ := gA r
 obtain ⟨t,rfl⟩ := ru
 exact P.str_of_int hn ⟨.str _,H,I.tok _,⟨_,rfl⟩,q⟩
def TJ := St → Hp → (Hp → Prop) → Prop
def PJ (X : Cx) (es : List Expr) (n : Nat) (t : TJ) : Prop := ∀ (pins : List (Addr × Obj)) (s : Shared) (σ : St) (H : Hp) (Qh : Hp → Prop) (acc : Str),Inv X pins σ H s → acc.length + n * 1100000 ≤ sizeLine → t σ H Qh →
 Joins (model X.prog X.w) X.A X.xe (evalEach es X.env) acc (fun out s'=>out.length ≤ sizeLine ∧ ∃ H',Inv X pins σ H' s' ∧ Qh H') s
def BG5 : TJ := fun _ H Q=>Q H
def jFr (te : TE) (t : TJ) : TJ := fun σ H Q=>te σ H fun x H1=>∃ z,x = .str z ∧ z.length ≤ 100000 ∧ (∀ c ∈ z.cps.toList,c < 1114112) ∧ t σ H1 Q
theorem lT : PJ X [] 0 BG5 := fun pins s σ H Qh acc I hl h=>⟨by omega,H,I,h⟩
theorem fO {y : Str} {j : Nat} {p : Pos} {es : List Expr} {n : Nat} {t : TJ} (he : PJ X es n t) (hy : y.length ≤ 100000 := by decide) : PJ X (.Constant (.str y) j p :: es) (n + 1) t := by
 intro pins s σ H Qh acc I hl h
 show wpAny _ _ (eval (.Constant (.str y) j p) X.env) _ _ s
 refine Calls.Constant_str ⟨y,_,rfl,by rw [strLen_append]; omega,?_⟩
 exact he pins _ σ H Qh (acc ++ y) (I.tok _) (by rw [strLen_append]; omega) h
theorem lU {e : Expr} {te : TE} {p : Pos} {es : List Expr} {n : Nat} {t : TJ} (hx : PE X e te) (he : PJ X es n t) : PJ X (.FormattedValue e 114 none p :: es) (n + 1) (jFr te t) := by
 intro pins s σ H Qh acc I hl h
 show wpAny _ _ (eval (.FormattedValue e 114 none p) X.env) _ _ s
 have ln : sizeLine = 16777216 := sizeLine_eq
 refine wpAny_FormattedValue_repr (G0 (hx pins s σ H _ I h) fun v s1 ⟨x,H1,I1,r1,q1⟩=>?_)
 obtain ⟨z,rfl,hz,hc,q⟩ := q1
 obtain ⟨t',rfl⟩ := r1
 have hr := StrLaws.reprText_len z (fun c hc'=>Nat.lt_trans (hc c hc') (by decide))
 refine wpAny_pyReprObj_str ?_ (by omega)
 refine formatField_str (fun t' tk=>?_) (by omega)
 refine ⟨_,_,rfl,by rw [strLen_append]; omega,?_⟩
 exact he pins _ σ H1 Qh _ (I1.tok _) (by rw [strLen_append]; omega) q
theorem mG {M : Model} {A : Around} {E : Value → Shared → Prop} : ∀ {parts : List (Sem Value)} {acc : Str} {Q Q' : Str → Shared → Prop} {s : Shared},Joins M A E parts acc Q s → (∀ o s',Q o s' → Q' o s') → Joins M A E parts acc Q' s
 | [],acc,Q,Q',s,h,k=>k _ _ h
 | x :: rest,acc,Q,Q',s,h,k=>wpAny_mono (show wpAny M A x _ E s from h) (fun v s1 ⟨y,t,e,hl,hj⟩=>⟨y,t,e,hl,mG hj k⟩) fun _ _ z=>z
theorem kB {a b : Expr} {es : List Expr} {n : Nat} {t : TJ} {pos : Pos} (h : PJ X (a :: b :: es) n t) (hn : n ≤ 10 := by decide) : PE X (.JoinedStr (a :: b :: es) pos) (fun σ H Q=>t σ H fun H1=>∀ r,Q (.str r) H1) := by
 intro pins s σ H Q I q
 refine wpAny_JoinedStr ?_
 have ln : sizeLine = 16777216 := sizeLine_eq
 have e := h pins s σ H (fun H1=>∀ r,Q (.str r) H1) Str.empty I (by show 0 + n * 1100000 ≤ sizeLine; omega) q
 refine mG e fun out s' hq=>?_
 obtain ⟨hl,H',I',q'⟩ := hq
 exact ⟨hl,.str out,H',I'.tok _,⟨_,rfl⟩,q' out⟩
end
end L2
namespace Law
open PySem L2 L2.Sp
def jB (s : Stmt) (x : Str) : Stmt := match s with
 | .ClassDef _ _ _ body _ _ _ _ _ _ _=>(body.find? fun st=>match st with | .FunctionDef n _ _ _ _ _ _ _ _ _=>n == x | _=>false).getD (.Pass ⟨0,0,0,0⟩)
 | s=>s
abbrev fJ : Stmt := M8 21
abbrev jY : Stmt := jB fJ "__init__"
abbrev fM : Stmt := jB fJ "ahead"
abbrev jP : Stmt := jB fJ "take"
abbrev fG : Stmt := jB fJ "takes"
abbrev jV : Stmt := jB fJ "must_take"
theorem AR8 : E2 ["self","text"] ["self","text"] (B2 jY) := ⟨rfl,rfl,rfl,by decide +kernel,rfl,by decide +kernel,by decide +kernel⟩
theorem tY : E2 ["self","steps","place"] ["self","steps"] (B2 fM) := ⟨rfl,rfl,rfl,by decide +kernel,rfl,by decide +kernel,by decide +kernel⟩
theorem xJ : E2 ["self","word"] ["self"] (B2 jP) := ⟨rfl,rfl,rfl,by decide +kernel,rfl,by decide +kernel,by decide +kernel⟩
theorem AL1 : E2 ["self","word"] ["self","word"] (B2 fG) := ⟨rfl,rfl,rfl,by decide +kernel,rfl,by decide +kernel,by decide +kernel⟩
theorem xL : E2 ["self","word","found"] ["self","word"] (B2 jV) := ⟨rfl,rfl,rfl,by decide +kernel,rfl,by decide +kernel,by decide +kernel⟩
structure WsOk (ws : List Wd) : Prop where
 len : ws.length ≤ 100000
 tok : ∀ w ∈ ws,Z1 w
 sm : ∀ w ∈ ws,V5 w
def rdF (wl : Addr) (t : Nat) : List (Str × V) := [("words",.ref wl),("taken",.int (t : Int))]
structure RD (H : Hp) (R rd dx wl : Addr) (ws : List Wd) (t : Nat) : Prop where
 ob : H rd = some (.ins R dx (rdF wl t))
 li : H wl = some (.lst (ST ws))
 ok : WsOk ws
structure RK (K : PySem.W.Frag) (R : Addr) : Prop where
 cl : Cls K R
 nw : NoAttr K R "words"
 nt : NoAttr K R "taken"
structure T5 (P : Program) (w : World) (K : PySem.W.Frag) (mg : Str → Option Value) (base : Heap) (CX : bK) (R : Addr) (k : Nat) (m : Str) (ps : List Str) (sp : Sp) : Prop where
 ex : ∃ (f : Addr) (fd : FuncData),FnOk P w K mg base CX k f fd ps sp ∧ wY K R m f ∧ Binds K fd ps []
def Q0 (H : Hp) (R rd dx wl : Addr) (t : Nat) : Hp := D5 H rd (.ins R dx (rdF wl t))
theorem BC3 (ws : List Wd) (t k : Nat) : ((ws.drop t)[k]?).getD [] = (ws[t + k]?).getD [] := by rw [List.getElem?_drop]
theorem AW9 (ws : List Wd) (t : Nat) : hd (ws.drop t) = (ws[t]?).getD [] := by
 unfold hd
 rw [List.headD_eq_head?_getD,List.head?_drop]
section
variable {P : Program} {w : World} {K : PySem.W.Frag} {mg : Str → Option Value} {base : Heap} {f : Addr} {fd : FuncData} {R : Addr}
theorem RD.up {H H' : Hp} {rd dx wl : Addr} {ws : List Wd} {t t' : Nat} (h : RD H R rd dx wl ws t) : RD (Q0 H R rd dx wl t') R rd dx wl ws t' :=
 ⟨A6,by unfold Q0; rw [B5 (fun e=>by have := h.ob; rw [← e,h.li] at this; cases this)]; exact h.li,h.ok⟩
theorem O4 {X : Cx} {CX : bK} {E : XK} {k : Nat} {m : Str} {ps : List Str} {sp : Sp} {apos pos : Pos} {o e : Expr} {es : List Expr} {ta : TE} {t : TA} {pl : Sem Bool} (M : T5 X.prog X.w X.K X.mg X.base CX R k m ps sp) (c : RK X.K R) (hr : Room k X.A) (hx : T1 CX X E) (ho : PE X o ta) (ha : PA X (e :: es) t)
  (hst : starEach (e :: es) X.env = (false,eval e X.env) :: starEach es X.env := by rfl) (hpl : (backTo pos (starEach es X.env)).any (·.1) = false := by rfl)
  (ht : eval (.Call (.Attribute o m apos) (e :: es) [] pos) X.env = (do
   let ov ← eval o X.env
   standAt apos.atName
   let (f,first) ← holding [ov] (getMethod ov m pl)
   callWith pos f first (backTo pos (starEach (e :: es) X.env)) (backToKw pos (keywordEach [] X.env))) := by rfl) :
  PE X (.Call (.Attribute o m apos) (e :: es) [] pos) (qD R m sp [] E ta t) := by
 obtain ⟨f,fd,F,a,b⟩ := M.ex
 exact AM3 ho c.cl a F hr b .nil hx ha hst hpl ht
theorem cA {X : Cx} {CX : bK} {E : XK} {k : Nat} {m : Str} {ps : List Str} {sp : Sp} {apos pos : Pos} {o : Expr} {ta : TE} {pl : Sem Bool} (M : T5 X.prog X.w X.K X.mg X.base CX R k m ps sp) (c : RK X.K R) (hr : Room k X.A) (hx : T1 CX X E) (ho : PE X o ta)
  (ht : eval (.Call (.Attribute o m apos) [] [] pos) X.env = (do
   let ov ← eval o X.env
   standAt apos.atName
   let (f,first) ← holding [ov] (getMethod ov m pl)
   callWith pos f first (backTo pos (starEach [] X.env)) (backToKw pos (keywordEach [] X.env))) := by rfl) :
  PE X (.Call (.Attribute o m apos) [] [] pos) (qD R m sp [] E ta bD) := by
 obtain ⟨f,fd,F,a,b⟩ := M.ex
 exact AB6 ho c.cl a F hr b .nil hx ht
def W9 (R : Addr) : Sp := fun args H Q _=>∃ rd dx wl ws t k,args = [.ref rd,.int ((k : Nat) : Int)] ∧ RD H R rd dx wl ws t ∧ Q (.str (S (((ws.drop t)[k]?).getD []))) H
theorem AC9 (F : Fun K "ahead" "Reader.ahead" fM f fd) (c : RK K R) (m1 : mg "len" = none) : FnOk P w K mg base K5 1 f fd ["self","steps"] (W9 R) := by
 refine F.ok tY (fun vs H Q E h=>?_) (fun cdv A outer s H vs Q E hr h=>?_)
 ·obtain ⟨rd,dx,wl,ws,t,k,rfl,_⟩ := h
  rfl
 obtain ⟨rd,dx,wl,ws,t,k,rfl,h,q⟩ := h
 refine ⟨_,A7 (B7 (i := 2) tY.nd rfl (Or.inl rfl) (E4 P4 (sC (pv 0) rfl) (pv 1)))
  (A9 (B6 (gH (B9 bN (pv 2) (E7 M2 rfl m1 PySem.boot_len (A0 (sC (pv 0) rfl) A5)) (B8 _)) (G7 O3 (sC (pv 0) rfl) (pv 2) (fun _ _=>rfl)) B3))),?_⟩
 refine ⟨_,rfl,rd,R,dx,_,_,rfl,h.ob,c.cl,c.nt,rfl,_,rfl,_,_,rfl,rfl,?_⟩
 refine ⟨_,rfl,_,rfl,rd,R,dx,_,_,rfl,h.ob,c.cl,c.nw,rfl,wl,_,rfl,.inl (SqL.of h.li),_,_,rfl,rfl,_,rfl,?_⟩
 rw [BC3] at q
 refine N1 (fun hc=>?_) (fun hc=>?_)
 ·have hc : t + k < ws.length := by
   have := of_decide_eq_true hc
   rw [List.length_map] at this
   omega
  rw [List.getElem?_eq_getElem hc] at q
  refine ⟨_,rfl,rd,R,dx,_,_,rfl,h.ob,c.cl,c.nw,rfl,_,rfl,wl,_,_,_,rfl,rfl,SqL.of h.li,?_,q⟩
  have := K8 (xs := ST ws) (j := t + k) (v := .str (S ws[t + k])) (by rw [List.getElem?_map,List.getElem?_eq_getElem hc]; rfl)
  exact this
 ·have hc : ws.length ≤ t + k := by
   refine Nat.le_of_not_lt fun z=>hc (decide_eq_true ?_)
   rw [List.length_map]; omega
  rw [List.getElem?_eq_none hc] at q
  rw [gW]
  exact q
theorem mS (r : List Wd) : (r[0]?).getD [] = hd r := by cases r <;> rfl
def aQ (R : Addr) : Sp := fun args H Q _=>∃ rd dx wl ws t,args = [.ref rd] ∧ RD H R rd dx wl ws t ∧ Q (.str (S (hd (ws.drop t)))) (Q0 H R rd dx wl (t + 1))
theorem AM7 (F : Fun K "take" "Reader.take" jP f fd) (c : RK K R) (AH : T5 P w K mg base K5 R 1 "ahead" ["self","steps"] (W9 R)) : FnOk P w K mg base K5 2 f fd ["self"] (aQ R) := by
 refine F.ok xJ (fun vs H Q E h=>?_) (fun cdv A outer s H vs Q E hr h=>?_)
 ·obtain ⟨rd,dx,wl,ws,t,rfl,_⟩ := h
  rfl
 obtain ⟨rd,dx,wl,ws,t,rfl,h,q⟩ := h
 refine ⟨_,A7 (B7 (i := 1) xJ.nd rfl (Or.inl rfl) (O4 AH c hr P3 (pv 0) (A0 B1 A5)))
  (A7 (pD (pv 0) B1 yW)
  (A9 (B6 (pv 1)))),?_⟩
 refine ⟨_,rfl,rd,dx,_,rfl,h.ob,rfl,rd,dx,wl,ws,t,0,rfl,h,?_⟩
 rw [mS]
 refine ⟨_,rfl,rd,R,dx,_,_,rfl,h.ob,c.cl,c.nt,rfl,_,_,rfl,rfl,dx,_,h.ob,(by show 2 < 1000; decide),?_⟩
 exact ⟨_,rfl,q⟩
def Z3 (R : Addr) : Sp := fun args H Q _=>∃ rd dx wl ws t u,args = [.ref rd,.str (S u)] ∧ RD H R rd dx wl ws t ∧ (if hd (ws.drop t) = u then Q (.bl true) (Q0 H R rd dx wl (t + 1)) else Q (.bl false) H)
theorem AC3 (F : Fun K "takes" "Reader.takes" fG f fd) (c : RK K R) (AH : T5 P w K mg base K5 R 1 "ahead" ["self","steps"] (W9 R)) : FnOk P w K mg base K5 2 f fd ["self","word"] (Z3 R) := by
 refine F.ok AL1 (fun vs H Q E h=>?_) (fun cdv A outer s H vs Q E hr h=>?_)
 ·obtain ⟨rd,dx,wl,ws,t,u,rfl,_⟩ := h
  rfl
 obtain ⟨rd,dx,wl,ws,t,u,rfl,h,q⟩ := h
 refine ⟨_,A7 (E5 (B9 kC (O4 AH c hr P3 (pv 0) (A0 B1 A5)) (pv 1) (B8 _)) (A9 (B6 P2)) D6)
  (A7 (pD (pv 0) B1 yW)
  (A9 (B6 P2))),?_⟩
 refine ⟨_,rfl,rd,dx,_,rfl,h.ob,rfl,rd,dx,wl,ws,t,0,rfl,h,?_⟩
 rw [mS]
 refine ⟨_,rfl,rfl,_,rfl,?_⟩
 rw [O2]
 by_cases e : hd (ws.drop t) = u
 ·rw [if_pos e] at q
  rw [decide_eq_true e]
  exact D7 ⟨_,rfl,rd,R,dx,_,_,rfl,h.ob,c.cl,c.nt,rfl,_,_,rfl,rfl,dx,_,h.ob,(by show 2 < 1000; decide),q⟩
 ·rw [if_neg e] at q
  rw [decide_eq_false e]
  exact E8 q
def cH (R C : Addr) : Sp := fun args H Q E=>∃ rd dx wl ws t u,args = [.ref rd,.str (S u)] ∧ RD H R rd dx wl ws t ∧ V5 u ∧ (if hd (ws.drop t) = u then Q .non (Q0 H R rd dx wl (t + 1)) else E (.ref C) none (Q0 H R rd dx wl (t + 1)))
theorem yY {ws : List Wd} {t : Nat} : hd (ws.drop t) = [] ∨ hd (ws.drop t) ∈ ws := by
 rw [AW9]
 cases e : ws[t]? with
 | none=>exact .inl rfl
 | some w=>exact .inr (List.mem_of_getElem? e)
theorem WsOk.small {ws : List Wd} (h : WsOk ws) (t : Nat) : V5 (hd (ws.drop t)) := by
 rcases yY (ws := ws) (t := t) with e | e
 ·rw [e]; exact ⟨by decide,fun c hc=>by cases hc⟩
 ·exact h.sm _ e
theorem AN7 {C : Addr} (F : Fun K "must_take" "Reader.must_take" jV f fd) (c : RK K R) (n : NT K mg C) (TK : T5 P w K mg base K5 R 2 "take" ["self"] (aQ R)) : FnOk P w K mg base (N0 P w) 3 f fd ["self","word"] (cH R C) := by
 refine Fun.ok1 F xL (fun vs H Q E h=>?_) (fun cdv A outer s H vs Q E hr h=>?_)
 ·obtain ⟨rd,dx,wl,ws,t,u,rfl,_⟩ := h
  rfl
 obtain ⟨rd,dx,wl,ws,t,u,rfl,h,hu,q⟩ := h
 refine ⟨_,A7 (B7 (i := 2) xL.nd rfl (Or.inl rfl) (cA TK c hr P3 (pv 0)))
  (A9 (E5 (B9 kC (pv 2) (pv 1) (B8 _)) (A9 (V4 PySem.F.excBase_ValueError n.xc rfl n.mg (A0 (kB (lU (pv 2) (fO (lU (pv 1) (fO lT))))) A5))) D6)),?_⟩
 refine ⟨_,rfl,rd,dx,_,rfl,h.ob,rfl,rd,dx,wl,ws,t,rfl,h,?_⟩
 have hs := h.ok.small t
 refine ⟨_,rfl,_,rfl,rfl,_,rfl,?_⟩
 rw [O2]
 by_cases e : hd (ws.drop t) = u
 ·rw [if_pos e] at q
  rw [decide_eq_true e]
  exact D7 q
 ·rw [if_neg e] at q
  rw [decide_eq_false e]
  exact E8 ⟨_,rfl,_,rfl,by rw [N4]; exact hs.1,hs.2,_,rfl,_,rfl,by rw [N4]; exact hu.1,hu.2,fun r=>⟨M1,q⟩⟩
def rL (K : PySem.W.Frag) (R C : Addr) : Sp := fun args H Q E=>∃ rd dx v,args = [.ref rd,v] ∧ H rd = some (.ins R dx []) ∧ ((∃ d,DV K H d v ∧ bF d "str" = false ∧ E (.ref C) none H) ∨ ∃ l,v = .str (S l) ∧ V5 l ∧
 (∀ ws,G3 l = some ws → ∀ (H' : Hp) (p : Addr),H p = none → Grow rd H H' → H' p = some (.lst (ST ws)) → H' rd = some (.ins R dx (rdF p 0)) → Q .non H') ∧ (G3 l = none → ∀ H',Same H H' → E (.ref C) none H'))
theorem AO0 {C : Addr} (F : Fun K "__init__" "Reader.__init__" jY f fd) (c : RK K R) (WORDS : M0 P w K mg base 5 "words_of" ["text"] (jK K C)) : FnOk P w K mg base (N0 P w) 6 f fd ["self","text"] (rL K R C) := by
 refine Fun.ok1 F AR8 (fun vs H Q E h=>?_) (fun cdv A outer s H vs Q E hr h=>?_)
 ·obtain ⟨rd,dx,v,rfl,_⟩ := h
  rfl
 obtain ⟨rd,dx,v,rfl,hr0,h⟩ := h
 refine ⟨_,A7 (xT (pv 0) (G5 WORDS hr rfl (G8 (E' := E) fun _ _ _ h=>h) (A0 (pv 1) A5)) rfl)
  (A9 (xT (pv 0) B1 rfl)),?_⟩
 rcases h with ⟨d,hd,hf,e⟩ | ⟨l,rfl,hs,q1,q2⟩
 ·exact ⟨_,rfl,_,rfl,.inl ⟨d,hd,hf,e⟩⟩
 ·refine ⟨_,rfl,_,rfl,.inr ⟨l,rfl,hs,fun ws hw H' p hp g hl=>?_,q2⟩⟩
  have nrp : p ≠ rd := fun e=>by rw [e,hr0] at hp; cases hp
  refine ⟨_,rfl,rd,R,dx,_,rfl,g _ _ hr0,c.cl,c.nw,by decide,?_⟩
  refine ⟨_,rfl,rd,R,dx,_,rfl,A6,c.cl,c.nt,(by show 1 < 1000; decide),?_⟩
  refine q1 ws hw _ p hp (fun b o hb h=>?_) ?_ ?_
  ·rw [jI,B5 hb]; exact g _ _ h
  ·rw [jI,B5 nrp]; exact hl
  ·rw [jI,A6]; rfl
end
end Law
namespace Law
open PySem L2 L2.Sp
theorem dE {n : Nat} (h : n ≤ 200000) : n < sizeLine := by have : sizeLine = 16777216 := sizeLine_eq; omega
section
variable {P : Program} {w : World} {K : PySem.W.Frag} {mg : Str → Option Value} {base : Heap} {f : Addr} {fd : FuncData} {R C : Addr}
abbrev jU : Stmt := M8 7
theorem AR5 : E2 ["word"] ["word"] (B2 jU) := ⟨rfl,rfl,rfl,by decide +kernel,rfl,by decide +kernel,by decide +kernel⟩
theorem yL : (["letter"] : List Str).Nodup := by decide +kernel
def rJ : Sp := fun args H Q _=>∃ u,args = [.str (S u)] ∧ u.length ≤ 100000 ∧ ∀ H',Same H H' → Q (.bl (E9 u)) H'
theorem AN6 (F : Fun K "is_name" "is_name" jU f fd) (m1 : mg "isinstance" = none) (m2 : mg "str" = none) (m3 : mg "all" = none) (m4 : mg "len" = none) : FnOk P w K mg base K5 1 f fd ["word"] rJ := by
 refine F.ok AR5 (fun vs H Q E h=>?_) (fun cdv A outer s H vs Q E hr h=>?_)
 ·obtain ⟨u,rfl,_⟩ := h
  rfl
 obtain ⟨u,rfl,hu,q⟩ := h
 refine ⟨_,A9 (B6 (W5 (E7 jE rfl m1 R5 (A0 (pv 0) (A0 (S3 (v := .ty "str") rfl m2 aZ rfl) A5)))
  (W5 (N7 aD (E7 U8 rfl m4 PySem.boot_len (A0 (pv 0) A5)) B1 (B8 _))
  (W4 (E7 (iA rfl) rfl m3 zN (A0 (aN (N' := ["letter"]) (fr := [none]) (own := [0]) ⟨rfl,rfl,rfl,rfl,rfl,rfl,rfl⟩ rfl (AS7 (pv 0))
   (fun _ _ _ _=>K0 (i := 0) yL rfl (Or.inl rfl)) (R1 0) (fun _ _ _ _=>U5)
   (fun _ _ _ _=>gI U9 U9 B3 (pv 0) B3)) A5)))))),?_⟩
 refine ⟨_,rfl,_,_,rfl,.inl ⟨_,rfl,rfl⟩,true,rfl,E8 ?_⟩
 refine ⟨_,rfl,_,rfl,P0 hu,_,_,rfl,rfl,decide ((0 : Int) < ((S u).length : Int)),rfl,?_⟩
 rw [N4]
 by_cases hz : 0 < u.length
 ·rw [decide_eq_true (p := (0 : Int) < (u.length : Int)) (by omega)]
  refine E8 ?_
  refine ⟨_,rfl,S u,rfl,fun l hl=>?_⟩
  refine AG2 (x := S u) (fun i ys H'=>H' = D5 H l (.lst ys) ∧ ys = List.map V.bl ((u.take i).map P7) ∧ i ≤ u.length) ⟨rfl,rfl,Nat.zero_le _⟩ (fun i c ys H' hc ⟨e,ey,hi⟩=>?_) (fun ys H' ⟨e,ey,_⟩=>?_)
  ·subst e
   have hc : u[i]? = some c := by
    have : (S u).cps[i]? = u[i]? := by show u.toArray[i]? = _; simp
    rw [← this]; exact hc
   have hi' := (List.getElem?_eq_some_iff.mp hc).1
   have hlen : ys.length ≤ 200000 := by rw [ey,List.length_map,List.length_map,List.length_take]; omega
   dsimp only [U4,U0]
   refine cD ?_
   refine ⟨_,rfl,jC (a := 97) (b := 122) (c := c) (Q := fun y H5=>H5 l = some (.lst ys) ∧ ys.length < sizeLine ∧ D5 H5 l (.lst (ys ++ [y])) = D5 H l (.lst (ys ++ [y])) ∧ ys ++ [y] = List.map V.bl ((u.take (i + 1)).map P7) ∧ i + 1 ≤ u.length) ?_⟩
   refine ⟨A6,dE hlen,?_,?_,hi'⟩
   ·rw [jI]
   ·rw [ey,R9 hc,List.map_append,List.map_append]; rfl
  ·subst e
   have e1 : (S u).cps.size = u.length := N4 u
   rw [e1] at ey
   refine ⟨l,_,rfl,SqL.of (by rw [ey]; exact A6),?_⟩
   have e2 : (((u.take u.length).map P7).all id) = E9 u := by
    unfold E9
    rw [List.take_length,List.all_map,decide_eq_true (p := u ≠ []) (List.length_pos_iff.mp hz),Bool.true_and]
    rfl
   rw [e2]
   exact q _ (fun z o ho=>by rw [B5 (D8 ho hl)]; exact ho)
 ·have e : u = [] := List.eq_nil_of_length_eq_zero (by omega)
  subst e
  exact D7 (q H fun _ _ h=>h)
abbrev jX : Stmt := M8 29
theorem AR7 : E2 ["word"] ["word"] (B2 jX) := ⟨rfl,rfl,rfl,by decide +kernel,rfl,by decide +kernel,by decide +kernel⟩
def iG : Sp := fun args H Q _=>∃ u,args = [.str (S u)] ∧ u.length ≤ 100000 ∧ Q (.bl (O6 u)) H
theorem AN9 (F : Fun K "is_number" "is_number" jX f fd) (FIG : Cal P w K mg base 1 "is_figure" ["sign"] (fun vs H Q _=>Y4 L9 vs H Q)) : FnOk P w K mg base K5 2 f fd ["word"] iG := by
 refine F.ok AR7 (fun vs H Q E h=>?_) (fun cdv A outer s H vs Q E hr h=>?_)
 ·obtain ⟨u,rfl,_⟩ := h
  rfl
 obtain ⟨u,rfl,hu,q⟩ := h
 refine ⟨_,A9 (B6 (W5 (N7 kC (pv 0) B3 (B8 _)) (W4 (AI1 (N7 G9 (G7 aG (pv 0) B1 (fun _ _=>rfl)) B3 (B8 _)) (W4 (B4 FIG hr rfl (A0 (G7 aG (pv 0) B1 (fun _ _=>rfl)) A5))))))),?_⟩
 refine ⟨_,rfl,rfl,_,rfl,?_⟩
 rw [gW,O2]
 cases u with
 | nil=>exact D7 q
 | cons c r =>
  rw [decide_eq_false (by simp)]
  refine E8 ?_
  refine ⟨_,rfl,_,_,c,rfl,rfl,P0 hu,K8 (j := 0) rfl,rfl,_,rfl,?_⟩
  rw [wQ,show (⟨#[c]⟩ : Str) = S [c] from rfl,O2]
  by_cases e : c = 45
  ·subst e
   exact E8 q
  ·rw [decide_eq_false (by simpa using e)]
   refine D7 ⟨_,rfl,_,_,c,rfl,rfl,P0 hu,K8 (j := 0) rfl,c,rfl,?_⟩
   have : O6 (c :: r) = L9 c := by unfold O6; simp [e]
   rw [← this]
   exact q
abbrev bW : Stmt := M8 37
theorem rS : E2 ["reader","word"] ["reader"] (B2 bW) := ⟨rfl,rfl,rfl,by decide +kernel,rfl,by decide +kernel,by decide +kernel⟩
def cF (R C : Addr) : Sp := fun args H Q E=>∃ rd dx wl ws t,args = [.ref rd] ∧ RD H R rd dx wl ws t ∧ ∀ H',Same (Q0 H R rd dx wl (t + 1)) H' → (if E9 (hd (ws.drop t)) = true then Q (.str (S (hd (ws.drop t)))) H' else E (.ref C) none H')
theorem yF (F : Fun K "name_of" "name_of" bW f fd) (c : RK K R) (n : NT K mg C) (TK : T5 P w K mg base K5 R 2 "take" ["self"] (aQ R)) (NM : Cal P w K mg base 1 "is_name" ["word"] rJ) : FnOk P w K mg base (N0 P w) 3 f fd ["reader"] (cF R C) := by
 refine Fun.ok1 F rS (fun vs H Q E h=>?_) (fun cdv A outer s H vs Q E hr h=>?_)
 ·obtain ⟨rd,dx,wl,ws,t,rfl,_⟩ := h
  rfl
 obtain ⟨rd,dx,wl,ws,t,rfl,h,q⟩ := h
 refine ⟨_,A7 (B7 (i := 1) rS.nd rfl (Or.inl rfl) (cA TK c hr P3 (pv 0)))
  (A7 (E5 (U6 (K9 (B4 NM (hr.mono (by decide)) rfl (A0 (pv 1) A5)))) (A9 (V4 PySem.F.excBase_ValueError n.xc rfl n.mg (A0 (kB (lU (pv 1) (fO lT))) A5))) D6)
  (A9 (B6 (pv 1)))),?_⟩
 have hs := h.ok.small t
 refine ⟨_,rfl,rd,dx,_,rfl,h.ob,rfl,rd,dx,wl,ws,t,rfl,h,?_⟩
 refine ⟨_,rfl,_,rfl,hs.1,fun H' g=>⟨_,rfl,?_⟩⟩
 have q := q H' g
 cases e : E9 (hd (ws.drop t)) with
 | true =>
  rw [e,if_pos rfl] at q
  exact D7 ⟨_,rfl,q⟩
 | false =>
  rw [e,if_neg (by decide)] at q
  exact E8 ⟨_,rfl,_,rfl,by rw [N4]; exact hs.1,hs.2,fun r=>⟨M1,q⟩⟩
end
end Law
namespace Law
open PySem L2 L2.Sp
theorem M3 {c A B : Prop} [Decidable c] (hc : c) (h : A) : if c then A else B := by rw [if_pos hc]; exact h
theorem J1 {c A B : Prop} [Decidable c] (hc : ¬ c) (h : B) : if c then A else B := by rw [if_neg hc]; exact h
theorem AE6 : (Str.ofString "." : Str) = S [46] := by decide +kernel
theorem dX {ws r : List Wd} {x : Wd} {t : Nat} (h : ws.drop t = x :: r) : ws.drop (t + 1) = r ∧ t + 1 ≤ ws.length := by
 have hl : t < ws.length := by
  refine Nat.lt_of_not_le fun z=>?_
  rw [List.drop_eq_nil_of_le z] at h
  cases h
 refine ⟨?_,hl⟩
 rw [← List.drop_drop,h]; rfl
theorem X4 {ws : List Wd} {t : Nat} : ws.drop (t + 1) = (ws.drop t).tail := by rw [← List.drop_drop,List.drop_one]
theorem dW {ws : List Wd} {t : Nat} (h : hd (ws.drop t) ≠ []) : t + 1 ≤ ws.length := by
 refine Nat.lt_of_not_le fun z=>h ?_
 rw [List.drop_eq_nil_of_le z]; rfl
theorem wT {ws : List Wd} {t : Nat} (h : hd (ws.drop t) ≠ []) : hd (ws.drop t) ∈ ws := by
 rcases yY (ws := ws) (t := t) with e | e
 ·exact absurd e h
 ·exact e
def Kp (K : PySem.W.Frag) (H H' : Hp) : Prop := ∀ a ys,SqT K H a ys → SqT K H' a ys
section
variable {K : PySem.W.Frag} {H H0 H1 H' : Hp} {R rd dx wl : Addr} {ws : List Wd} {t t' : Nat}
theorem Kp.same (g : Same H H') : Kp K H H' := fun _ _ h=>g.seqT h
theorem Kp.trans (a : Kp K H H1) (b : Kp K H1 H') : Kp K H H' := fun x y h=>b x y (a x y h)
theorem Kp.grow (g : Grow rd H H') (h : RD H R rd dx wl ws t) : Kp K H H' := Grow.tups g (fun xs z=>by rw [h.ob] at z; cases z) (fun xs o z=>by rw [h.ob] at z; cases z)
theorem Kp.lst {l : Addr} {xs : List V} {o : HO} (h : H l = some (.lst xs)) : Kp K H (D5 H l o) := Grow.tups Y8 (fun xs z=>by rw [h] at z; cases z) (fun xs o z=>by rw [h] at z; cases z)
theorem Kp.dct {l : Addr} {xs : List (M9 × V)} {o : HO} (h : H l = some (.dK xs)) : Kp K H (D5 H l o) := Grow.tups Y8 (fun xs z=>by rw [h] at z; cases z) (fun xs o z=>by rw [h] at z; cases z)
structure RS (H0 H : Hp) (R rd dx wl : Addr) (ws : List Wd) (t : Nat) : Prop where
 g : Grow rd H0 H
 st : RD H R rd dx wl ws t
 lw : H0 wl = some (.lst (ST ws))
 ob : ∃ t0,H0 rd = some (.ins R dx (rdF wl t0))
theorem RS.start (h : RD H R rd dx wl ws t) : RS H H R rd dx wl ws t := ⟨Grow.refl,h,h.li,t,h.ob⟩
theorem RS.more (s : RS H0 H R rd dx wl ws t) (g : Grow rd H H') (h : RD H' R rd dx wl ws t') : RS H0 H' R rd dx wl ws t' := ⟨s.g.trans g,h,s.lw,s.ob⟩
theorem RS.same (s : RS H0 H R rd dx wl ws t) (g : Same H H') : RS H0 H' R rd dx wl ws t := s.more (Grow.of g) ⟨g _ _ s.st.ob,g _ _ s.st.li,s.st.ok⟩
theorem RS.up (s : RS H0 H R rd dx wl ws t) (t' : Nat) : RS H0 (Q0 H R rd dx wl t') R rd dx wl ws t' := s.more Y8 (s.st.up (H' := H))
theorem RS.step (s : RS H0 H R rd dx wl ws t) (g : Same (Q0 H R rd dx wl t') H') : RS H0 H' R rd dx wl ws t' := (s.up t').same g
theorem RS.put {l : Addr} {o : HO} (s : RS H0 H R rd dx wl ws t) (hl : H0 l = none) : RS H0 (D5 H l o) R rd dx wl ws t := by
 have n1 : rd ≠ l := fun e=>by obtain ⟨t0,h⟩ := s.ob; rw [e,hl] at h; cases h
 have n2 : wl ≠ l := fun e=>by have h := s.lw; rw [e,hl] at h; cases h
 exact ⟨fun b u hb h=>by rw [B5 (D8 h hl)]; exact s.g b u hb h,⟨by rw [B5 n1]; exact s.st.ob,by rw [B5 n2]; exact s.st.li,s.st.ok⟩,s.lw,s.ob⟩
theorem RS.none {l : Addr} {o : HO} (s : RS H0 H R rd dx wl ws t) (hl : H0 l = none) (h : H l = some o) : l ≠ rd := fun e=>by obtain ⟨t0,h⟩ := s.ob; rw [← e,hl] at h; cases h
theorem dS (h : RD H R rd dx wl ws t) : Kp K H (Q0 H R rd dx wl t') := Kp.grow Y8 h
end
theorem TV.kp {K : PySem.W.Frag} {H H' : Hp} {x : Tn} {v : V} (k : Kp K H H') (h : TV K H x v) : TV K H' x v := TV.mono k x v h
theorem TAll.kp {K : PySem.W.Frag} {H H' : Hp} {x : List Tn} {v : List V} (k : Kp K H H') (h : TAll K H x v) : TAll K H' x v := TAll.mono k x v h
def PO {α : Type} (C : Addr) (val : Hp → α → V → Prop) (H : Hp) (R rd dx wl : Addr) (ws : List Wd) (t : Nat) (res : Option (α × List Wd)) (Q : VK) (E : XK) : Prop := match res with
 | none=>∀ H',Grow rd H H' → E (.ref C) none H'
 | some (x,r)=>∀ v H' t',Grow rd H H' → RD H' R rd dx wl ws t' → ws.drop t' = r → t < t' → t' ≤ ws.length → val H' x v → Q v H'
section
variable {P : Program} {w : World} {K : PySem.W.Frag} {mg : Str → Option Value} {base : Heap} {f : Addr} {fd : FuncData} {R C : Addr}
abbrev aL : Stmt := M8 36
theorem oZ : E2 ["reader","names"] ["reader"] (B2 aL) := ⟨rfl,rfl,rfl,by decide +kernel,rfl,by decide +kernel,by decide +kernel⟩
def AZ4 (K : PySem.W.Frag) : Hp → List Wd → V → Prop := fun H ns v=>TV K H (.tup (ns.map Tn.str)) v
def dF (K : PySem.W.Frag) (R C : Addr) : Sp := fun args H Q E=>∃ rd dx wl ws t res,args = [.ref rd] ∧ RD H R rd dx wl ws t ∧ R0 (ws.drop t) res ∧ PO C (AZ4 K) H R rd dx wl ws t res Q E
theorem wJ (F : Fun K "names_of" "names_of" aL f fd) (c : RK K R) (NAME : M0 P w K mg base 3 "name_of" ["reader"] (cF R C)) (TS : T5 P w K mg base K5 R 2 "takes" ["self","word"] (Z3 R)) (m1 : mg "tuple" = none) : FnOk P w K mg base (N0 P w) 4 f fd ["reader"] (dF K R C) := by
 refine Fun.ok1 F oZ (fun vs H Q E h=>?_) (fun cdv A outer s H vs Q E hr h=>?_)
 ·obtain ⟨rd,dx,wl,ws,t,res,rfl,_⟩ := h
  rfl
 obtain ⟨rd,dx,wl,ws,t,res,rfl,h,hn,q⟩ := h
 refine ⟨_,A7 (B7 (i := 1) oZ.nd rfl (Or.inl rfl) (E3 (A0 (G5 NAME hr rfl (G8 (E' := E) fun _ _ _ h=>h) (A0 (pv 0) A5)) A5)))
  (A7 (W3 PassesOwn.leaving (K9 (O4 TS c (hr.mono (by decide)) P3 (pv 0) (A0 B3 A5)))
   (A9 (K2 (O9 PySem.F.plainAttrs_list PySem.F.slot_list_append PySem.F.type_list_append K4 (pv 1) (A0 (G5 NAME hr rfl (G8 (E' := E) fun _ _ _ h=>h) (A0 (pv 0) A5)) A5)))))
  (A9 (B6 (J0 K3 rfl m1 O1 (A0 (pv 1) A5))))),?_⟩
 have S0 := RS.start h
 unfold R0 at hn
 refine ⟨_,rfl,rd,dx,wl,ws,t,rfl,h,fun H1 g1=>?_⟩
 have S1 := S0.step g1
 by_cases hb : E9 (hd (ws.drop t)) = true
 ·rw [if_pos hb] at hn ⊢
  obtain ⟨k,hk⟩ := hn
  have hne : hd (ws.drop t) ≠ [] := fun e=>by rw [e] at hb; cases hb
  rw [← X4] at hk
  refine ⟨M1,fun l hl=>?_⟩
  have hl0 : H l = none := by
   cases e : H l with
   | none=>rfl
   | some o =>
    by_cases e2 : l = rd
    ·rw [e2,S1.st.ob] at hl; cases hl
    ·rw [S1.g l o e2 e] at hl; cases hl
  have S2 := S1.put (o := .lst [.str (S (hd (ws.drop t)))]) hl0
  refine ⟨fun m σ H'=>∃ (ns : List Wd) (t' : Nat),σ = [some (.ref rd),some (.ref l)] ∧ RS H H' R rd dx wl ws t' ∧ H' l = some (.lst (ST ns)) ∧ W8 m ns (ws.drop t') res ∧ ns.length ≤ t' ∧ t < t' ∧ t' ≤ ws.length,⟨k,[hd (ws.drop t)],t + 1,rfl,S2,A6,hk,(by show 1 ≤ t + 1; omega),by omega,dW hne⟩,?_⟩
  rintro m σ H' ⟨ns,t',rfl,s',hl',hp,hns,ht,htl⟩
  have wl0 := h.ok.len
  refine ⟨_,rfl,rd,dx,_,rfl,s'.st.ob,rfl,rd,dx,wl,ws,t',[46],by rw [AE6]; rfl,s'.st,?_⟩
  generalize hdr : ws.drop t' = rr at hp ⊢
  cases hp with
  | stop hh =>
   rw [if_neg hh]
   refine ⟨_,rfl,D7 ⟨_,rfl,l,_,rfl,.inl ⟨SqL.of hl',fun p hp=>?_⟩⟩⟩
   refine q _ _ t' (s'.same (A8 hp _)).g (s'.same (A8 hp _)).st hdr ht htl ?_
   exact TV.tup (SqT.of A6) (TAll.strs ns)
  | @on k' _ n r _ hb2 hk2 =>
   obtain ⟨d1,d2⟩ := dX hdr
   obtain ⟨d3,d4⟩ := dX d1
   refine M3 rfl ⟨_,rfl,E8 ?_⟩
   refine ⟨fun σ' H''=>∃ (t'' : Nat),σ' = [some (.ref rd),some (.ref l)] ∧ RS H H'' R rd dx wl ws t'' ∧ H'' l = some (.lst (ST (ns ++ [n]))) ∧ W8 k' (ns ++ [n]) (ws.drop t'') res ∧ (ns ++ [n]).length ≤ t'' ∧ t < t'' ∧ t'' ≤ ws.length,fun σ' H'' hh=>?_,?_⟩
   ·obtain ⟨t'',a1,a2,a3,a4,a5⟩ := hh
    exact ⟨k',Nat.lt_succ_self _,ns ++ [n],t'',a1,a2,a3,a4,a5⟩
   have nl : l ≠ rd := s'.none hl0 hl'
   have s2 := s'.up (t' + 1)
   have hl2 : Q0 H' R rd dx wl (t' + 1) l = some (.lst (ST ns)) := by unfold Q0; rw [B5 nl]; exact hl'
   refine ⟨_,rfl,.inl ⟨rfl,_,SqL.of hl2⟩,_,rfl,rd,dx,wl,ws,t' + 1,rfl,s2.st,fun H3 g3=>?_⟩
   rw [d1]
   refine M3 hb2 ?_
   have s3 := s2.step g3
   have hl3 : H3 l = some (.lst (ST ns)) := g3 _ _ (by unfold Q0; rw [B5 nl]; exact hl2)
   refine ⟨l,_,_,rfl,rfl,hl3,by rw [List.length_map]; exact dE (by omega),t' + 1 + 1,rfl,s3.put hl0,?_,?_,by rw [List.length_append,List.length_singleton]; omega,by omega,d4⟩
   ·rw [A6]; simp [ST,hd]
   ·rw [d3]; exact hk2
  | @bad _ r hb2 =>
   obtain ⟨d1,d2⟩ := dX hdr
   refine M3 rfl ⟨_,rfl,E8 ?_⟩
   have nl : l ≠ rd := s'.none hl0 hl'
   have s2 := s'.up (t' + 1)
   have hl2 : Q0 H' R rd dx wl (t' + 1) l = some (.lst (ST ns)) := by unfold Q0; rw [B5 nl]; exact hl'
   refine ⟨fun _ _=>False,fun _ _ z=>z.elim,?_⟩
   refine ⟨_,rfl,.inl ⟨rfl,_,SqL.of hl2⟩,_,rfl,rd,dx,wl,ws,t' + 1,rfl,s2.st,fun H3 g3=>?_⟩
   rw [d1]
   exact J1 (by rw [hb2]; decide) (q _ (s2.step g3).g)
 ·rw [if_neg hb] at hn ⊢
  subst hn
  exact q _ S1.g
end
end Law
namespace Law
open PySem L2 L2.Sp
theorem AV9 : (Str.ofString "," : Str) = S [44] := by decide +kernel
theorem gX : (Str.ofString ".." : Str) = S [46,46] := by decide +kernel
theorem bR : (Str.ofString "span" : Str) = S wS := by decide +kernel
theorem mX {u : Wd} (h : Z1 u) (hn : O6 u = true) : Num u := by
 rcases h with h | h | h | rfl | h
 ·obtain ⟨c,e,hc⟩ := h.head
  cases u with
  | nil=>cases e
  | cons a r =>
   cases e
   have : (decide (c = 45) || L9 c) = true := hn
   rw [qS hc,decide_eq_false (AY8 hc).1] at this
   cases this
 ·exact h
 ·obtain ⟨b,_,rfl⟩ := h
  cases hn
 ·cases hn
 ·obtain ⟨c,hc,rfl⟩ := h
  have : (decide (c = 45) || L9 c) = true := hn
  rw [(W1 c hc).2.1,decide_eq_false (W1 c hc).2.2.1] at this
  cases this
theorem fW {c : Nat} (h : L9 c = true) : 48 ≤ c ∧ c ≤ 57 := by
 unfold L9 at h
 simpa [Bool.and_eq_true,decide_eq_true_eq] using h
theorem oC {u : Wd} (h : Num u) : PySem.intText? (S u) = some (S9 u) ∧ u.length ≤ 61 := by
 obtain ⟨sn,fs,rfl,hsn,hne,hf,hl,_⟩ := h
 have hd : PySem.NumText.AllDigits fs := fun c hc=>fW (hf c hc)
 obtain ⟨c,r,rfl⟩ := List.exists_cons_of_ne_nil hne
 have hc := fW (hf c (by simp))
 rcases hsn with rfl | rfl
 ·refine ⟨?_,by simpa using Nat.le_succ_of_le hl⟩
  have := PySem.intText_digits (x := S (c :: r)) hd hne (by rw [N4]; omega)
  rw [List.nil_append,this]
  have e : S9 (c :: r) = (oG (c :: r) : Int) := by
   unfold S9
   split
   ·rename_i heq; cases heq; omega
   ·rfl
  rw [e]; rfl
 ·refine ⟨?_,by simp at hl ⊢; omega⟩
  exact PySem.intText_neg (x := S ([45] ++ (c :: r))) (cs := c :: r) rfl hd hne (by rw [N4]; simp at hl ⊢; omega)
theorem fR {u : Wd} (h : O6 u = true) : u ≠ [] := fun e=>by rw [e] at h; cases h
section
variable {P : Program} {w : World} {K : PySem.W.Frag} {mg : Str → Option Value} {base : Heap} {f : Addr} {fd : FuncData} {R C : Addr}
abbrev nV : Stmt := M8 33
theorem BA4 : E2 ["reader","close","count"] ["reader","close","count"] (B2 nV) := ⟨rfl,rfl,rfl,by decide +kernel,rfl,by decide +kernel,by decide +kernel⟩
def EO (C : Addr) (H : Hp) (R rd dx wl : Addr) (ws : List Wd) (t : Nat) (res : Option (Bool × List Wd)) (Q : VK) (E : XK) : Prop := match res with
 | none=>∀ H',Grow rd H H' → E (.ref C) none H'
 | some (b,r)=>∀ H' t',Grow rd H H' → RD H' R rd dx wl ws t' → ws.drop t' = r → t ≤ t' → t' ≤ ws.length → Q (.bl b) H'
def lO (R C : Addr) : Sp := fun args H Q E=>∃ rd dx wl ws t close n,args = [.ref rd,.str (S close),.int ((n : Nat) : Int)] ∧ RD H R rd dx wl ws t ∧ t ≤ ws.length ∧ close ≠ [] ∧ EO C H R rd dx wl ws t (R3 close n (ws.drop t)) Q E
theorem eZ (c : Nat) (h : c < 1114112) : V5 [c] := ⟨by show 1 ≤ 100000; decide,fun x hx=>by rw [List.mem_singleton.mp hx]; exact h⟩
theorem at1 (r : List Wd) : (r[1]?).getD [] = hd r.tail := by
 cases r with
 | nil=>rfl
 | cons a r=>cases r <;> rfl
theorem AU7 (F : Fun K "has_another" "has_another" nV f fd) (c : RK K R) (AH : T5 P w K mg base K5 R 1 "ahead" ["self","steps"] (W9 R)) (MU : T5 P w K mg base (N0 P w) R 3 "must_take" ["self","word"] (cH R C)) : FnOk P w K mg base (N0 P w) 4 f fd ["reader","close","count"] (lO R C) := by
 refine Fun.ok1 F BA4 (fun vs H Q E h=>?_) (fun cdv A outer s H vs Q E hr h=>?_)
 ·obtain ⟨rd,dx,wl,ws,t,close,n,rfl,_⟩ := h
  rfl
 obtain ⟨rd,dx,wl,ws,t,close,n,rfl,h,ht,hc,q⟩ := h
 have hr1 := hr.mono (show 1 ≤ 3 by decide)
 refine ⟨_,A7 (E5 (B9 G9 (O4 AH c hr1 P3 (pv 0) (A0 B1 A5)) (pv 1) (B8 _)) (A9 (B6 P2)) D6)
  (M6 (E5 (B9 aD (pv 2) B1 (B8 _)) (A9 (K2 (O4 MU c hr (G8 (E' := E) fun _ _ _ h=>h) (pv 0) (A0 B3 A5)))) D6)
  (A9 (B6 (lW (W5 (N7 G9 (O4 AH c hr1 P3 (pv 0) (A0 B1 A5)) B3 (B8 _)) (W4 (N7 G9 (O4 AH c hr1 P3 (pv 0) (A0 B1 A5)) (pv 1) (B8 _)))))))),?_⟩
 refine ⟨_,rfl,rd,dx,_,rfl,h.ob,rfl,rd,dx,wl,ws,t,0,rfl,h,_,rfl,rfl,_,rfl,?_⟩
 rw [mS,O2]
 have S0 := RS.start h
 by_cases e : hd (ws.drop t) = close
 ·rw [decide_eq_true e]
  unfold R3 at q
  rw [if_pos e] at q
  exact E8 (q H t Grow.refl h rfl (Nat.le_refl _) ht)
 rw [decide_eq_false e]
 refine D7 ?_
 refine ⟨fun σ' H'=>∃ (t' : Nat),σ' = [some (.ref rd),some (.str (S close)),some (.int (n : Int))] ∧ RS H H' R rd dx wl ws t' ∧ t ≤ t' ∧ t' ≤ ws.length ∧ R3 close n (ws.drop t) = some (!(decide (hd (ws.drop t') = [46,46]) && decide (hd (ws.drop t').tail = close)),ws.drop t'),?_,?_⟩
 ·refine ⟨_,rfl,_,_,rfl,rfl,_,rfl,?_⟩
  by_cases hn : 0 < n
  ·rw [decide_eq_true (by omega)]
   refine E8 ⟨_,rfl,rd,dx,_,rfl,h.ob,rfl,rd,dx,wl,ws,t,[44],by rw [AV9]; rfl,h,eZ 44 (by decide),?_⟩
   by_cases e2 : hd (ws.drop t) = [44]
   ·refine M3 e2 ⟨t + 1,rfl,S0.up (t + 1),by omega,dW (by rw [e2]; simp),?_⟩
    unfold R3
    rw [if_neg e,if_pos hn,if_pos e2,X4]
   ·refine J1 e2 ?_
    unfold R3 at q
    rw [if_neg e,if_pos hn,if_neg e2] at q
    exact q _ (S0.up (t + 1)).g
  ·rw [decide_eq_false (by omega)]
   refine D7 ⟨t,rfl,S0,Nat.le_refl _,ht,?_⟩
   unfold R3
   rw [if_neg e,if_neg hn]
 ·rintro σ' H' ⟨t',rfl,s',h1,h2,hq⟩
  rw [hq] at q
  refine ⟨_,rfl,rd,dx,_,rfl,s'.st.ob,rfl,rd,dx,wl,ws,t',0,rfl,s'.st,rfl,_,rfl,?_⟩
  rw [mS,gX,O2]
  have fin := q H' t' s'.g s'.st rfl h1 h2
  cases hd1 : decide (hd (ws.drop t') = [46,46]) with
  | false =>
   rw [hd1] at fin
   exact D7 ⟨_,rfl,fin⟩
  | true =>
   rw [hd1] at fin
   refine E8 ⟨_,rfl,rd,dx,_,rfl,s'.st.ob,rfl,rd,dx,wl,ws,t',1,rfl,s'.st,_,rfl,rfl,_,rfl,?_⟩
   rw [at1,O2]
   exact fin
abbrev jZ : Stmt := M8 34
theorem xM : E2 ["reader","close","more"] ["reader","close"] (B2 jZ) := ⟨rfl,rfl,rfl,by decide +kernel,rfl,by decide +kernel,by decide +kernel⟩
def iH (R C : Addr) : Sp := fun args H Q E=>∃ rd dx wl ws t close,args = [.ref rd,.str (S close)] ∧ RD H R rd dx wl ws t ∧ close ≠ [] ∧ V5 close ∧ EO C H R rd dx wl ws (t + 1) (bG close (ws.drop t)) Q E
theorem AO2 (F : Fun K "takes_end" "takes_end" jZ f fd) (c : RK K R) (TS : T5 P w K mg base K5 R 2 "takes" ["self","word"] (Z3 R)) (MU : T5 P w K mg base (N0 P w) R 3 "must_take" ["self","word"] (cH R C)) : FnOk P w K mg base (N0 P w) 4 f fd ["reader","close"] (iH R C) := by
 refine Fun.ok1 F xM (fun vs H Q E h=>?_) (fun cdv A outer s H vs Q E hr h=>?_)
 ·obtain ⟨rd,dx,wl,ws,t,close,rfl,_⟩ := h
  rfl
 obtain ⟨rd,dx,wl,ws,t,close,rfl,h,hc,hsm,q⟩ := h
 have hr2 := hr.mono (show 2 ≤ 3 by decide)
 refine ⟨_,M6 (B7 (i := 2) xM.nd rfl (Or.inl rfl) (O4 TS c hr2 P3 (pv 0) (A0 B3 A5)))
  (A7 (K2 (O4 MU c hr (G8 (E' := E) fun _ _ _ h=>h) (pv 0) (A0 (pv 1) A5)))
  (A9 (B6 (pv 2)))),?_⟩
 have S0 := RS.start h
 refine ⟨fun σ' H'=>∃ (t' : Nat) (b : Bool),σ' = [some (.ref rd),some (.str (S close)),some (.bl b)] ∧ RS H H' R rd dx wl ws t' ∧ t ≤ t' ∧ bG close (ws.drop t) = if hd (ws.drop t') = close then some (b,(ws.drop t').tail) else none,?_,?_⟩
 ·refine ⟨_,rfl,rd,dx,_,rfl,h.ob,rfl,rd,dx,wl,ws,t,[46,46],by rw [gX]; rfl,h,?_⟩
  by_cases e : hd (ws.drop t) = [46,46]
  ·refine M3 e ⟨t + 1,true,rfl,S0.up (t + 1),by omega,?_⟩
   unfold bG
   rw [if_pos e,X4]
  ·refine J1 e ⟨t,false,rfl,S0,Nat.le_refl _,?_⟩
   unfold bG
   rw [if_neg e]
 ·rintro σ' H' ⟨t',b,rfl,s',h1,he⟩
  rw [he] at q
  refine ⟨_,rfl,rd,dx,_,rfl,s'.st.ob,rfl,_,rfl,rd,dx,wl,ws,t',close,rfl,s'.st,hsm,?_⟩
  by_cases e : hd (ws.drop t') = close
  ·rw [if_pos e] at q
   refine M3 e ⟨_,rfl,?_⟩
   exact q _ (t' + 1) (s'.up (t' + 1)).g (s'.up (t' + 1)).st X4 (by omega) (dW (by rw [e]; exact hc))
  ·rw [if_neg e] at q
   exact J1 e (q _ (s'.up (t' + 1)).g)
abbrev fH : Stmt := M8 30
theorem AL2 : E2 ["reader","low"] ["reader","low"] (B2 fH) := ⟨rfl,rfl,rfl,by decide +kernel,rfl,by decide +kernel,by decide +kernel⟩
def lL (n : Int) (r : List Wd) : Tn × List Wd :=
 if hd r = [46,46] then (if O6 (hd r.tail) = true then (R6 (.int n) (.int (S9 (hd r.tail))),r.tail.tail) else (R6 (.int n) .non,r.tail)) else (R6 (.int n) (.int n),r)
def jL (K : PySem.W.Frag) (R : Addr) : Sp := fun args H Q _=>∃ rd dx wl ws t n,args = [.ref rd,.int n] ∧ RD H R rd dx wl ws t ∧ t ≤ ws.length ∧ ∀ v H' t',Grow rd H H' → RD H' R rd dx wl ws t' → ws.drop t' = (lL n (ws.drop t)).2 → t ≤ t' → t' ≤ ws.length → TV K H' (lL n (ws.drop t)).1 v → Q v H'
theorem eY {H : Hp} {a : Addr} {x y : Tn} {v u : V} (h : H a = some (.tup [.str (Str.ofString "span"),v,u])) (h1 : TV K H x v) (h2 : TV K H y u) : TV K H (R6 x y) (.ref a) := by
 rw [bR] at h
 exact TV.tup (SqT.of h) (TAll.cons TV.str (TAll.cons h1 (TAll.one h2)))
theorem AC4 (F : Fun K "span_tree" "span_tree" fH f fd) (c : RK K R) (TS : T5 P w K mg base K5 R 2 "takes" ["self","word"] (Z3 R)) (TK : T5 P w K mg base K5 R 2 "take" ["self"] (aQ R)) (AH : T5 P w K mg base K5 R 1 "ahead" ["self","steps"] (W9 R)) (NB : Cal P w K mg base 2 "is_number" ["word"] iG) (m1 : mg "int" = none) : FnOk P w K mg base K5 3 f fd ["reader","low"] (jL K R) := by
 refine F.ok AL2 (fun vs H Q E h=>?_) (fun cdv A outer s H vs Q E hr h=>?_)
 ·obtain ⟨rd,dx,wl,ws,t,n,rfl,_⟩ := h
  rfl
 obtain ⟨rd,dx,wl,ws,t,n,rfl,h,ht,q⟩ := h
 have hr1 := hr.mono (show 1 ≤ 2 by decide)
 refine ⟨_,A7 (E5 (U6 (K9 (O4 TS c hr P3 (pv 0) (A0 B3 A5)))) (A9 (B6 (L0 (A0 B3 (A0 (pv 1) (A0 (pv 1) A5)))))) D6)
  (A9 (B6 (L0 (A0 B3 (A0 (pv 1) (A0 (gH (K9 (B4 NB hr rfl (A0 (O4 AH c hr1 P3 (pv 0) (A0 B1 A5)) A5)))
   (J0 jF rfl m1 Y3 (A0 (cA TK c hr P3 (pv 0)) A5)) X9) A5)))))),?_⟩
 have S0 := RS.start h
 refine ⟨_,rfl,rd,dx,_,rfl,h.ob,rfl,rd,dx,wl,ws,t,[46,46],by rw [gX]; rfl,h,?_⟩
 unfold lL at q
 by_cases e : hd (ws.drop t) = [46,46]
 ·refine M3 e ⟨_,rfl,D7 ?_⟩
  simp only [if_pos e] at q
  have s1 := S0.up (t + 1)
  have hl1 := dW (ws := ws) (t := t) (by rw [e]; simp)
  refine ⟨_,rfl,_,rfl,rd,dx,_,rfl,s1.st.ob,rfl,rd,dx,wl,ws,t + 1,0,rfl,s1.st,_,rfl,?_,_,rfl,?_⟩
  ·rw [mS]; exact (h.ok.small (t + 1)).1
  rw [mS]
  rw [← X4] at q
  cases hb : O6 (hd (ws.drop (t + 1))) with
  | true =>
   simp only [hb,if_true] at q
   have hw := h.ok.tok _ (wT (fR hb))
   obtain ⟨i1,i2⟩ := oC (mX hw hb)
   refine E8 ⟨_,rfl,rd,dx,_,rfl,s1.st.ob,rfl,rd,dx,wl,ws,t + 1,rfl,s1.st,_,_,rfl,i1,by rw [N4]; omega,Y7,fun p hp=>?_⟩
   have s2 := (s1.up (t + 1 + 1)).same (A8 hp (.tup [.str (Str.ofString "span"),.int n,.int (S9 (hd (ws.drop (t + 1))))]))
   exact q _ _ (t + 1 + 1) s2.g s2.st X4 (by omega) (dW (fR hb)) (eY A6 TV.int TV.int)
  | false =>
   simp only [hb,Bool.false_eq_true,if_false] at q
   refine D7 ⟨Y7,fun p hp=>?_⟩
   have s2 := s1.same (A8 hp (.tup [.str (Str.ofString "span"),.int n,.non]))
   exact q _ _ (t + 1) s2.g s2.st rfl (by omega) hl1 (eY A6 TV.int TV.non)
 ·refine J1 e ⟨_,rfl,E8 ?_⟩
  simp only [if_neg e] at q
  refine ⟨_,rfl,_,rfl,Y7,fun p hp=>?_⟩
  have s2 := S0.same (A8 hp (.tup [.str (Str.ofString "span"),.int n,.int n]))
  exact q _ _ t s2.g s2.st rfl (Nat.le_refl _) ht (eY A6 TV.int TV.int)
abbrev nM : Stmt := M8 26
theorem BA3 : E2 ["word","trees"] ["word","trees"] (B2 nM) := ⟨rfl,rfl,rfl,by decide +kernel,rfl,by decide +kernel,by decide +kernel⟩
def qF (K : PySem.W.Frag) : Sp := fun args H Q _=>∃ k l vs ts,args = [.str (S k),.ref l] ∧ H l = some (.lst vs) ∧ TAll K H ts vs ∧ ∀ v H',Same H H' → TV K H' (one k ts) v → Q v H'
theorem AU1 (F : Fun K "one_or_several" "one_or_several" nM f fd) (m1 : mg "len" = none) (m2 : mg "tuple" = none) : FnOk P w K mg base K5 1 f fd ["word","trees"] (qF K) := by
 refine F.ok BA3 (fun vs H Q E h=>?_) (fun cdv A outer s H vs Q E hr h=>?_)
 ·obtain ⟨k,l,us,ts,rfl,_⟩ := h
  rfl
 obtain ⟨k,l,us,ts,rfl,hl,ht,q⟩ := h
 refine ⟨_,A9 (B6 (gH (B9 G9 (E7 M2 rfl m1 PySem.boot_len (A0 (pv 1) A5)) B1 (B8 _)) (G7 O3 (pv 1) B1 (fun _ _=>rfl))
  (L0 (A0 (pv 0) (A0 (J0 K3 rfl m2 O1 (A0 (pv 1) A5)) A5))))),?_⟩
 refine ⟨_,rfl,l,_,rfl,.inl (SqL.of hl),rfl,_,rfl,?_⟩
 have hlen := ht.length
 by_cases e : us.length = 1
 ·rw [decide_eq_true (p := V.int (us.length : Int) = V.int 1) (by rw [e]; rfl)]
  obtain ⟨u,rfl⟩ : ∃ u,us = [u] := by
   match us,e with
   | [u],_=>exact ⟨u,rfl⟩
  obtain ⟨x,rfl⟩ : ∃ x,ts = [x] := by
   match ts,hlen with
   | [x],_=>exact ⟨x,rfl⟩
  simp only [TAll] at ht
  obtain ⟨y,r,e1,h1,e2⟩ := ht
  cases e1
  exact E8 ⟨_,rfl,l,_,_,u,rfl,rfl,SqL.of hl,rfl,q _ _ bL h1⟩
 ·rw [decide_eq_false (fun z=>e (by have := V.int.inj z; omega))]
  refine D7 ⟨_,rfl,_,rfl,l,_,rfl,.inl ⟨SqL.of hl,fun p hp=>⟨T6,fun p2 hp2=>?_⟩⟩⟩
  have k1 := A8 hp (.tup us)
  have k2 := A8 hp2 (.tup [.str (S k),.ref p])
  refine q _ _ (k1.trans k2) ?_
  have e3 : one k ts = .tup [.str k,.tup ts] := by
   unfold one
   split
   ·rename_i t _; exact absurd hlen (by simpa using e)
   ·rfl
  rw [e3]
  exact TV.tup (SqT.of A6) (TAll.cons TV.str (TAll.one (TV.tup (SqT.of (k2 _ _ A6)) (ht.kp (Kp.same (k1.trans k2))))))
end
end Law
namespace Law
open PySem L2 L2.Sp
theorem lRb : (Str.ofString "]" : Str) = S [93] := by decide +kernel
theorem lRc : (Str.ofString "}" : Str) = S [125] := by decide +kernel
theorem lQ : (Str.ofString "?" : Str) = S [63] := by decide +kernel
theorem AE7 : (Str.ofString ":" : Str) = S [58] := by decide +kernel
theorem qR : (Str.ofString "list" : Str) = S aF := by decide +kernel
theorem AV4 : (Str.ofString "record" : Str) = S bE := by decide +kernel
section
variable {P : Program} {w : World} {K : PySem.W.Frag} {mg : Str → Option Value} {base : Heap} {f : Addr} {fd : FuncData} {R C : Addr} {X : Bool → List Wd → P8 → Prop}
def qX (K : PySem.W.Frag) : Hp → Tn → V → Prop := fun H x v=>TV K H x v
def lM (K : PySem.W.Frag) (R C : Addr) (X : Bool → List Wd → P8 → Prop) : Sp := fun args H Q E=>∃ rd dx wl ws t free res,args = [.ref rd,.bl free] ∧ RD H R rd dx wl ws t ∧ X free (ws.drop t) res ∧ PO C (qX K) H R rd dx wl ws t res Q E
def tV {α : Type} (val : Hp → α → V → Prop) (R C : Addr) (Y : List Wd → Option (α × List Wd) → Prop) : Sp := fun args H Q E=>∃ rd dx wl ws t res,args = [.ref rd] ∧ RD H R rd dx wl ws t ∧ t ≤ ws.length ∧ Y (ws.drop t) res ∧ PO C val H R rd dx wl ws t res Q E
theorem gQ {H H1 : Hp} {rd dx wl l : Addr} {ws : List Wd} {t : Nat} (s : RS H H1 R rd dx wl ws t) (hl : H1 l = none) : H l = none := by
 cases e : H l with
 | none=>rfl
 | some o =>
  by_cases e2 : l = rd
  ·rw [e2,s.st.ob] at hl; cases hl
  ·rw [s.g l o e2 e] at hl; cases hl
abbrev aS : Stmt := M8 31
theorem tX : E2 ["reader","items"] ["reader"] (B2 aS) := ⟨rfl,rfl,rfl,by decide +kernel,rfl,by decide +kernel,by decide +kernel⟩
theorem AC7 {k : Nat} (F : Fun K "list_tree" "list_tree" aS f fd) (EX : M0 P w K mg base k "expression" ["reader","free"] (lM K R C X)) (HAS : M0 P w K mg base 4 "has_another" ["reader","close","count"] (lO R C)) (ENDT : M0 P w K mg base 4 "takes_end" ["reader","close"] (iH R C)) (m1 : mg "len" = none) (m2 : mg "tuple" = none) (hk : 4 ≤ k) :
  FnOk P w K mg base (N0 P w) (k + 1) f fd ["reader"] (tV (qX K) R C (mU X)) := by
 refine Fun.ok1 F tX (fun vs H Q E h=>?_) (fun cdv A outer s H vs Q E hr h=>?_)
 ·obtain ⟨rd,dx,wl,ws,t,res,rfl,_⟩ := h
  rfl
 obtain ⟨rd,dx,wl,ws,t,res,rfl,h,ht,hp,q⟩ := h
 have hr4 := hr.mono hk
 refine ⟨_,A7 (B7 (i := 1) tX.nd rfl (Or.inl rfl) (E3 A5))
  (A7 (W3 PassesOwn.leaving (K9 (G5 HAS hr4 rfl (G8 (E' := E) fun _ _ _ h=>h) (A0 (pv 0) (A0 B3 (A0 (E7 M2 rfl m1 PySem.boot_len (A0 (pv 1) A5)) A5)))))
   (A9 (K2 (O9 PySem.F.plainAttrs_list PySem.F.slot_list_append PySem.F.type_list_append K4 (pv 1) (A0 (G5 EX hr rfl (G8 (E' := E) fun _ _ _ h=>h) (A0 (pv 0) (A0 P2 A5))) A5)))))
  (A9 (B6 (L0 (A0 B3 (A0 (J0 K3 rfl m2 O1 (A0 (pv 1) A5)) (A0 (G5 ENDT hr4 rfl (G8 (E' := E) fun _ _ _ h=>h) (A0 (pv 0) (A0 B3 A5))) A5))))))),?_⟩
 obtain ⟨k0,ires,hi,rfl⟩ := hp
 have S0 := RS.start h
 have wl0 := h.ok.len
 refine ⟨T7,fun l hl=>?_⟩
 have S1 := S0.put (o := .lst []) hl
 refine ⟨fun m σ H'=>∃ (ts : List Tn) (vs : List V) (t' : Nat),σ = [some (.ref rd),some (.ref l)] ∧ RS H H' R rd dx wl ws t' ∧ H' l = some (.lst vs) ∧ TAll K H' ts vs ∧ ItemsP X m ts (ws.drop t') ires ∧ ts.length ≤ t' ∧ t ≤ t' ∧ t' ≤ ws.length,⟨k0,[],[],t,rfl,S1,A6,TAll.nil,hi,Nat.zero_le _,Nat.le_refl _,ht⟩,?_⟩
 rintro m σ H' ⟨ts,us,t',rfl,s',hl',hts,hip,hlen,h1,h2⟩
 have nl : l ≠ rd := s'.none hl hl'
 have hul := hts.length
 refine ⟨_,rfl,_,rfl,l,_,rfl,.inl (SqL.of hl'),rd,dx,wl,ws,t',[93],ts.length,by rw [lRb,hul]; rfl,s'.st,h2,by simp,?_⟩
 generalize hdr : ws.drop t' = rr at hip ⊢
 cases hip with
 | @stop _ _ r1 hh =>
  rw [hh]
  intro H2 t2 g2 d2 e2 le2 lt2
  refine ⟨_,rfl,D7 ?_⟩
  have s2 := s'.more g2 d2
  have hl2 := g2 _ _ nl hl'
  have hts2 := hts.kp (Kp.grow g2 s'.st)
  refine ⟨_,rfl,l,_,rfl,.inl ⟨SqL.of hl2,fun p hp=>?_⟩⟩
  have kp := A8 hp (.tup us)
  have s3 := s2.same kp
  refine ⟨_,rfl,rd,dx,wl,ws,t2,[93],by rw [lRb]; rfl,s3.st,by simp,eZ 93 (by decide),?_⟩
  rw [e2]
  dsimp only at q
  cases he : bG [93] r1 with
  | none =>
   rw [he] at q
   intro H4 g4
   exact q H4 (s3.g.trans g4)
  | some br =>
   obtain ⟨b,r2⟩ := br
   rw [he] at q
   intro H4 t4 g4 d4 e4 le4 lt4
   have s4 := s3.more g4 d4
   have np : p ≠ rd := fun e=>by rw [e,s2.st.ob] at hp; cases hp
   refine ⟨Y7,fun p2 hp2=>?_⟩
   have kp2 := A8 hp2 (.tup [.str (Str.ofString "list"),.ref p,.bl b])
   have s5 := s4.same kp2
   refine q _ _ t4 s5.g s5.st e4 (by omega) lt4 ?_
   have k5 : Kp K H2 _ := (Kp.same kp).trans ((Kp.grow g4 s3.st).trans (Kp.same kp2))
   have hp4 := kp2 _ _ (g4 p _ np A6)
   refine TV.tup (SqT.of (by rw [A6,qR])) (TAll.cons TV.str (TAll.cons (TV.tup (SqT.of hp4) (hts2.kp k5)) (TAll.one TV.bl)))
 | @on k' _ _ r1 x r2 _ hh hx hk2 =>
  rw [hh]
  intro H2 t2 g2 d2 e2 le2 lt2
  refine ⟨_,rfl,E8 ?_⟩
  have s2 := s'.more g2 d2
  have hl2 := g2 _ _ nl hl'
  have hts2 := hts.kp (Kp.grow g2 s'.st)
  refine ⟨fun σ' H''=>∃ (vs : List V) (t'' : Nat),σ' = [some (.ref rd),some (.ref l)] ∧ RS H H'' R rd dx wl ws t'' ∧ H'' l = some (.lst vs) ∧ TAll K H'' (ts ++ [x]) vs ∧ ItemsP X k' (ts ++ [x]) (ws.drop t'') ires ∧ (ts ++ [x]).length ≤ t'' ∧ t ≤ t'' ∧ t'' ≤ ws.length,fun σ' H'' hh=>?_,?_⟩
  ·obtain ⟨vs,t'',a⟩ := hh
   exact ⟨k',Nat.lt_succ_self _,ts ++ [x],vs,t'',a⟩
  refine ⟨_,rfl,.inl ⟨rfl,_,SqL.of hl2⟩,_,rfl,rd,dx,wl,ws,t2,false,_,rfl,s2.st,by rw [e2]; exact hx,?_⟩
  intro v H3 t3 g3 d3 e3 lt3 le3 hv
  have s3 := s2.more g3 d3
  have hl3 := g3 _ _ nl hl2
  have hts3 := hts2.kp (Kp.grow g3 s2.st)
  have kl : Kp K H3 (D5 H3 l (.lst (us ++ [v]))) := Kp.lst hl3
  exact ⟨l,_,_,rfl,rfl,hl3,dE (by omega),_,t3,rfl,s3.put hl,A6,(hts3.kp kl).append (TAll.one (TV.kp kl hv)),by rw [e3]; exact hk2,by rw [List.length_append,List.length_singleton]; omega,by omega,le3⟩
 | @bad _ _ hh =>
  rw [hh]
  intro H2 g2
  exact q H2 (s'.g.trans g2)
 | @worse _ _ r1 hh hx =>
  rw [hh]
  intro H2 t2 g2 d2 e2 le2 lt2
  refine ⟨_,rfl,E8 ?_⟩
  have s2 := s'.more g2 d2
  have hl2 := g2 _ _ nl hl'
  refine ⟨fun _ _=>False,fun _ _ z=>z.elim,?_⟩
  refine ⟨_,rfl,.inl ⟨rfl,_,SqL.of hl2⟩,_,rfl,rd,dx,wl,ws,t2,false,_,rfl,s2.st,by rw [e2]; exact hx,?_⟩
  intro H3 g3
  exact q H3 (s2.g.trans g3)
abbrev aT : Stmt := M8 35
theorem mZ : E2 ["reader","name","must"] ["reader"] (B2 aT) := ⟨rfl,rfl,rfl,by decide +kernel,rfl,by decide +kernel,by decide +kernel⟩
def valF (K : PySem.W.Frag) : Hp → Wd × Tn × Bool → V → Prop := fun H x v=>∃ a u,v = .ref a ∧ SqT K H a [.str (S x.1),u,.bl x.2.2] ∧ TV K H x.2.1 u
theorem AC8 {k : Nat} (F : Fun K "field_of" "field_of" aT f fd) (c : RK K R) (EX : M0 P w K mg base k "expression" ["reader","free"] (lM K R C X)) (NAME : M0 P w K mg base 3 "name_of" ["reader"] (cF R C)) (TS : T5 P w K mg base K5 R 2 "takes" ["self","word"] (Z3 R)) (MU : T5 P w K mg base (N0 P w) R 3 "must_take" ["self","word"] (cH R C)) (hk : 4 ≤ k) :
  FnOk P w K mg base (N0 P w) (k + 1) f fd ["reader"] (tV (valF K) R C (FieldP X)) := by
 refine Fun.ok1 F mZ (fun vs H Q E h=>?_) (fun cdv A outer s H vs Q E hr h=>?_)
 ·obtain ⟨rd,dx,wl,ws,t,res,rfl,_⟩ := h
  rfl
 obtain ⟨rd,dx,wl,ws,t,res,rfl,h,ht,hp,q⟩ := h
 have hr3 := hr.mono (show 3 ≤ k by omega)
 have hr2 := hr.mono (show 2 ≤ k by omega)
 refine ⟨_,A7 (B7 (i := 1) mZ.nd rfl (Or.inl rfl) (G5 NAME hr3 rfl (G8 (E' := E) fun _ _ _ h=>h) (A0 (pv 0) A5)))
  (M6 (B7 (i := 2) mZ.nd rfl (Or.inl rfl) (lW (O4 TS c hr2 P3 (pv 0) (A0 B3 A5))))
  (A7 (K2 (O4 MU c hr3 (G8 (E' := E) fun _ _ _ h=>h) (pv 0) (A0 B3 A5)))
  (A9 (B6 (L0 (A0 (pv 1) (A0 (G5 EX hr rfl (G8 (E' := E) fun _ _ _ h=>h) (A0 (pv 0) (A0 P2 A5))) (A0 (pv 2) A5)))))))),?_⟩
 have S0 := RS.start h
 unfold FieldP at hp
 refine ⟨_,rfl,rd,dx,wl,ws,t,rfl,h,fun H1 g1=>?_⟩
 have S1 := S0.step g1
 by_cases hb : E9 (hd (ws.drop t)) = true
 ·rw [if_pos hb] at hp ⊢
  rw [← X4,← X4,← X4] at hp
  refine ⟨fun σ' H'=>∃ (t' : Nat) (b : Bool),σ' = [some (.ref rd),some (.str (S (hd (ws.drop t)))),some (.bl b)] ∧ RS H H' R rd dx wl ws t' ∧ t < t' ∧ (if hd (ws.drop t') = [58] then ∃ xres,X false (ws.drop (t' + 1)) xres ∧ res = xres.map fun p=>((hd (ws.drop t),p.1,b),p.2) else res = none),?_,?_⟩
  ·refine ⟨_,rfl,rd,dx,_,rfl,S1.st.ob,rfl,rd,dx,wl,ws,t + 1,[63],by rw [lQ]; rfl,S1.st,?_⟩
   by_cases e : hd (ws.drop (t + 1)) = [63]
   ·rw [if_pos e] at hp
    exact M3 e ⟨_,rfl,t + 1 + 1,false,rfl,S1.up (t + 1 + 1),by omega,hp⟩
   ·rw [if_neg e] at hp
    exact J1 e ⟨_,rfl,t + 1,true,rfl,S1,by omega,hp⟩
  ·rintro σ' H' ⟨t',b,rfl,s',h1,hq⟩
   refine ⟨_,rfl,rd,dx,_,rfl,s'.st.ob,rfl,rd,dx,wl,ws,t',[58],by rw [AE7]; rfl,s'.st,eZ 58 (by decide),?_⟩
   by_cases e : hd (ws.drop t') = [58]
   ·rw [if_pos e] at hq
    obtain ⟨xres,hx,rfl⟩ := hq
    have s2 := s'.up (t' + 1)
    refine M3 e ⟨_,rfl,_,rfl,rd,dx,wl,ws,t' + 1,false,xres,rfl,s2.st,hx,?_⟩
    cases xres with
    | none =>
     intro H3 g3
     exact q H3 (s2.g.trans g3)
    | some p =>
     obtain ⟨x,r⟩ := p
     intro v H3 t3 g3 d3 e3 lt3 le3 hv
     have s3 := s2.more g3 d3
     refine ⟨_,rfl,Y7,fun p hp=>?_⟩
     have kp := A8 hp (.tup [.str (S (hd (ws.drop t))),v,.bl b])
     have s4 := s3.same kp
     exact q _ _ t3 s4.g s4.st e3 (by omega) le3 ⟨p,v,rfl,SqT.of A6,TV.kp (Kp.same kp) hv⟩
   ·rw [if_neg e] at hq
    subst hq
    exact J1 e (q _ (s'.up (t' + 1)).g)
 ·rw [if_neg hb] at hp ⊢
  subst hp
  exact q _ S1.g
end
end Law
namespace Law
open PySem L2 L2.Sp
theorem AJ0 : (Str.ofString "!" : Str) = S [33] := by decide +kernel
theorem AE9 : (Str.ofString "&" : Str) = S [38] := by decide +kernel
theorem AE8 : (Str.ofString "|" : Str) = S [124] := by decide +kernel
theorem gU : (Str.ofString "not" : Str) = S eM := by decide +kernel
theorem bP : (Str.ofString "and" : Str) = S Q6 := by decide +kernel
theorem kX : (Str.ofString "or" : Str) = S W6 := by decide +kernel
theorem zR {a b : List Nat} (h : S a = S b) : a = b := AK1.mp (by rw [h])
theorem iZ (x : Wd) (xs : List Wd) : cV (.str (S x)) (ST xs) = decide (x ∈ xs) := by
 have := AF1 (S x) (xs.map S)
 rw [List.map_map] at this
 rw [show ST xs = xs.map (V.str ∘ S) from rfl,this,Bool.eq_iff_iff,decide_eq_true_iff,decide_eq_true_iff,List.mem_map]
 constructor
 ·rintro ⟨a,ha,e⟩; rw [← zR e]; exact ha
 ·intro h; exact ⟨x,h,rfl⟩
theorem kF (xs : List Wd) : (ST xs).all bS = true := by
 rw [List.all_eq_true]
 intro v hv
 obtain ⟨a,_,rfl⟩ := List.mem_map.mp hv
 rfl
theorem AG7 {r : List Wd} : ∀ {j : Nat},j < Q9 r → hd (r.drop j) = [33] := by
 induction r with
 | nil=>intro j h; exact absurd h (Nat.not_lt_zero _)
 | cons x r ih =>
  intro j h
  unfold Q9 at h
  by_cases e : x = [33]
  ·rw [List.takeWhile_cons_of_pos (by simpa using e),List.length_cons] at h
   cases j with
   | zero=>exact e
   | succ j=>exact ih (j := j) (by unfold Q9; omega)
  ·rw [List.takeWhile_cons_of_neg (by simpa using e)] at h
   exact absurd h (Nat.not_lt_zero _)
theorem AG9 {r : List Wd} : hd (r.drop (Q9 r)) ≠ [33] := by
 induction r with
 | nil=>intro h; cases h
 | cons x r ih =>
  unfold Q9
  by_cases e : x = [33]
  ·rw [List.takeWhile_cons_of_pos (by simpa using e),List.length_cons,List.drop_succ_cons]
   exact ih
  ·rw [List.takeWhile_cons_of_neg (by simpa using e)]
   exact e
theorem AG8 (r : List Wd) : Q9 r ≤ r.length := (List.takeWhile_sublist _).length_le
section
variable {P : Program} {w : World} {K : PySem.W.Frag} {mg : Str → Option Value} {base : Heap} {f : Addr} {fd : FuncData} {R C : Addr} {X : Bool → List Wd → P8 → Prop}
abbrev dL : Stmt := M8 32
theorem iK : E2 ["reader","fields","names","field","name"] ["reader"] (B2 dL) := ⟨rfl,rfl,rfl,by decide +kernel,rfl,by decide +kernel,by decide +kernel⟩
theorem wU {r r2 : List Wd} {x : Wd × Tn × Bool} (h : FieldP X r (some (x,r2))) : x.1 = hd r := by
 unfold FieldP at h
 split at h
 ·split at h
  ·split at h
   ·obtain ⟨xres,_,e⟩ := h
    cases xres with
    | none=>cases e
    | some p=>cases e; rfl
   ·cases h
  ·split at h
   ·obtain ⟨xres,_,e⟩ := h
    cases xres with
    | none=>cases e
    | some p=>cases e; rfl
   ·cases h
 ·cases h
theorem valF.tv {H : Hp} {x : Wd × Tn × Bool} {v : V} (h : valF K H x v) : TV K H (Y9 x) v := by
 obtain ⟨a,u,rfl,h1,h2⟩ := h
 exact TV.tup h1 (TAll.cons TV.str (TAll.cons h2 (TAll.one TV.bl)))
theorem AN0 {k : Nat} (F : Fun K "record_tree" "record_tree" dL f fd) (n : NT K mg C) (FI : M0 P w K mg base k "field_of" ["reader"] (tV (valF K) R C (FieldP X))) (HAS : M0 P w K mg base 4 "has_another" ["reader","close","count"] (lO R C)) (ENDT : M0 P w K mg base 4 "takes_end" ["reader","close"] (iH R C)) (m1 : mg "len" = none) (m2 : mg "tuple" = none) (hk : 4 ≤ k) :
  FnOk P w K mg base (N0 P w) (k + 1) f fd ["reader"] (tV (qX K) R C (tD X)) := by
 refine Fun.ok1 F iK (fun vs H Q E h=>?_) (fun cdv A outer s H vs Q E hr h=>?_)
 ·obtain ⟨rd,dx,wl,ws,t,res,rfl,_⟩ := h
  rfl
 obtain ⟨rd,dx,wl,ws,t,res,rfl,h,ht,hp,q⟩ := h
 have hr4 := hr.mono hk
 refine ⟨_,A7 (B7 (i := 1) iK.nd rfl (Or.inl rfl) (E3 A5))
  (A7 (B7 (i := 2) iK.nd rfl (Or.inl rfl) AB7)
  (A7 (W3 PassesOwn.leaving (K9 (G5 HAS hr4 rfl (G8 (E' := E) fun _ _ _ h=>h) (A0 (pv 0) (A0 B3 (A0 (E7 M2 rfl m1 PySem.boot_len (A0 (pv 1) A5)) A5)))))
   (A7 (B7 (i := 3) iK.nd rfl (Or.inl rfl) (G5 FI hr rfl (G8 (E' := E) fun _ _ _ h=>h) (A0 (pv 0) A5)))
   (A7 (B7 (i := 4) iK.nd rfl (Or.inl rfl) (G7 O8 (pv 3) B1 (fun _ _=>rfl)))
   (A7 (E5 (AS5 (AT0 (AJ2 hr) (pv 4) (pv 2))) (A9 (V4 PySem.F.excBase_ValueError n.xc rfl n.mg (A0 (kB (lU (pv 4) (fO lT))) A5))) D6)
   (A7 (AM1 (AJ2 hr) (pv 2) (pv 4) P2 rfl)
   (A9 (K2 (O9 PySem.F.plainAttrs_list PySem.F.slot_list_append PySem.F.type_list_append K4 (pv 1) (A0 (pv 3) A5)))))))))
  (A9 (B6 (L0 (A0 B3 (A0 (J0 K3 rfl m2 O1 (A0 (pv 1) A5)) (A0 (G5 ENDT hr4 rfl (G8 (E' := E) fun _ _ _ h=>h) (A0 (pv 0) (A0 B3 A5))) A5)))))))),?_⟩
 obtain ⟨k0,fres,hi,rfl⟩ := hp
 have S0 := RS.start h
 have wl0 := h.ok.len
 refine ⟨T7,fun l hl=>fun dn T9=>?_⟩
 have S1 := S0.put (o := .lst []) hl
 have hdn0 : H dn = none := gQ S1 T9
 have nld : l ≠ dn := fun e=>by rw [← e,A6] at T9; cases T9
 have S2 := S1.put (o := .dK []) hdn0
 refine ⟨fun m σ H'=>∃ (fs : List (Wd × Tn × Bool)) (vs : List V) (kvs : List (M9 × V)) (t' : Nat) (b3 b4 : Option V),σ = [some (.ref rd),some (.ref l),some (.ref dn),b3,b4] ∧ RS H H' R rd dx wl ws t' ∧ H' l = some (.lst vs) ∧ TAll K H' (fs.map Y9) vs ∧
   (H' dn = some (.dK kvs) ∧ kvs.length ≤ fs.length ∧ ∀ u : Wd,(S8 kvs (.inr (S u))).isSome = true ↔ u ∈ fs.map (·.1)) ∧ FieldsP X m fs (ws.drop t') fres ∧ fs.length ≤ t' ∧ t ≤ t' ∧ t' ≤ ws.length,
  ⟨k0,[],[],[],t,none,none,rfl,S2,by rw [B5 nld]; exact A6,TAll.nil,⟨A6,Nat.le_refl _,fun u=>⟨fun z=>(by cases z),fun z=>(by cases z)⟩⟩,hi,Nat.zero_le _,Nat.le_refl _,ht⟩,?_⟩
 rintro m σ H' ⟨fs,us,kvs,t',b3,b4,rfl,s',hl',hts,⟨hdn',hkl,hkv⟩,hip,hlen,h1,h2⟩
 have nl : l ≠ rd := s'.none hl hl'
 have nd : dn ≠ rd := s'.none hdn0 hdn'
 have hul := hts.length
 rw [List.length_map] at hul
 refine ⟨_,rfl,_,rfl,l,_,rfl,.inl (SqL.of hl'),rd,dx,wl,ws,t',[125],fs.length,by rw [lRc,hul]; rfl,s'.st,h2,by simp,?_⟩
 generalize hdr : ws.drop t' = rr at hip ⊢
 have turn : ∀ {r1 : List Wd} {x : Wd × Tn × Bool} {r2 : List Wd} {H2 : Hp} {t2 : Nat},FieldP X r1 (some (x,r2)) → ws.drop t2 = r1 → V5 x.1 := fun {r1 x r2 H2 t2} hx e2=>by
  rw [wU hx,← e2]
  exact h.ok.small t2
 cases hip with
 | @stop _ _ r1 hh =>
  rw [hh]
  intro H2 t2 g2 d2 e2 le2 lt2
  refine ⟨_,rfl,D7 ?_⟩
  have s2 := s'.more g2 d2
  have hl2 := g2 _ _ nl hl'
  have hts2 := hts.kp (Kp.grow g2 s'.st)
  refine ⟨_,rfl,l,_,rfl,.inl ⟨SqL.of hl2,fun p hp=>?_⟩⟩
  have kp := A8 hp (.tup us)
  have s3 := s2.same kp
  refine ⟨_,rfl,rd,dx,wl,ws,t2,[125],by rw [lRc]; rfl,s3.st,by simp,eZ 125 (by decide),?_⟩
  rw [e2]
  dsimp only at q
  cases he : bG [125] r1 with
  | none =>
   rw [he] at q
   intro H4 g4
   exact q H4 (s3.g.trans g4)
  | some br =>
   obtain ⟨b,r2⟩ := br
   rw [he] at q
   intro H4 t4 g4 d4 e4 le4 lt4
   have s4 := s3.more g4 d4
   have np : p ≠ rd := fun e=>by rw [e,s2.st.ob] at hp; cases hp
   refine ⟨Y7,fun p2 hp2=>?_⟩
   have kp2 := A8 hp2 (.tup [.str (Str.ofString "record"),.ref p,.bl b])
   have s5 := s4.same kp2
   refine q _ _ t4 s5.g s5.st e4 (by omega) lt4 ?_
   have k5 : Kp K H2 _ := (Kp.same kp).trans ((Kp.grow g4 s3.st).trans (Kp.same kp2))
   have hp4 := kp2 _ _ (g4 p _ np A6)
   refine TV.tup (SqT.of (by rw [A6,AV4])) (TAll.cons TV.str (TAll.cons (TV.tup (SqT.of hp4) (hts2.kp k5)) (TAll.one TV.bl)))
 | @on k' _ _ r1 x r2 _ hh hx hnx hk2 =>
  rw [hh]
  intro H2 t2 g2 d2 e2 le2 lt2
  refine ⟨_,rfl,E8 ?_⟩
  have s2 := s'.more g2 d2
  have hl2 := g2 _ _ nl hl'
  have hdn2 := g2 _ _ nd hdn'
  have hts2 := hts.kp (Kp.grow g2 s'.st)
  refine ⟨fun σ' H''=>∃ (vs : List V) (kvs : List (M9 × V)) (t'' : Nat) (b3 b4 : Option V),σ' = [some (.ref rd),some (.ref l),some (.ref dn),b3,b4] ∧ RS H H'' R rd dx wl ws t'' ∧ H'' l = some (.lst vs) ∧ TAll K H'' ((fs ++ [x]).map Y9) vs ∧
   (H'' dn = some (.dK kvs) ∧ kvs.length ≤ (fs ++ [x]).length ∧ ∀ u : Wd,(S8 kvs (.inr (S u))).isSome = true ↔ u ∈ (fs ++ [x]).map (·.1)) ∧ FieldsP X k' (fs ++ [x]) (ws.drop t'') fres ∧ (fs ++ [x]).length ≤ t'' ∧ t ≤ t'' ∧ t'' ≤ ws.length,fun σ' H'' hh=>?_,?_⟩
  ·obtain ⟨vs,kvs,t'',b3,b4,a⟩ := hh
   exact ⟨k',Nat.lt_succ_self _,fs ++ [x],vs,kvs,t'',b3,b4,a⟩
  refine ⟨_,rfl,rd,dx,wl,ws,t2,_,rfl,s2.st,lt2,by rw [e2]; exact hx,?_⟩
  intro v H3 t3 g3 d3 e3 lt3 le3 hv
  have s3 := s2.more g3 d3
  have hl3 := g3 _ _ nl hl2
  have hdn3 := g3 _ _ nd hdn2
  have hts3 := hts2.kp (Kp.grow g3 s2.st)
  have hv' := hv
  obtain ⟨a,u,rfl,ha,hu⟩ := hv'
  refine ⟨_,rfl,a,_,_,.str (S x.1),rfl,rfl,ha,rfl,?_⟩
  have hno : (S8 kvs (.inr (S x.1))).isSome = false := Bool.eq_false_iff.mpr fun z=>hnx ((hkv x.1).mp z)
  refine ⟨_,rfl,_,rfl,dn,_,rfl,DGet.k (k := .inr (S x.1)) hdn3,_,rfl,?_⟩
  rw [hno]
  refine D7 ⟨_,rfl,_,rfl,dn,_,rfl,DPut.k (k := .inr (S x.1)) hdn3 (dE (by omega)),?_⟩
  have kd : Kp K H3 (D5 H3 dn (.dK (X5 kvs (.inr (S x.1)) (.bl true)))) := Kp.dct hdn3
  have s4 := s3.put (o := .dK (X5 kvs (.inr (S x.1)) (.bl true))) hdn0
  have hl4 : D5 H3 dn (.dK (X5 kvs (.inr (S x.1)) (.bl true))) l = some (.lst us) := by rw [B5 nld]; exact hl3
  refine ⟨_,rfl,.inl ⟨rfl,_,SqL.of hl4⟩,_,rfl,l,_,_,rfl,rfl,hl4,dE (by omega),?_⟩
  have kl := Kp.lst (K := K) (o := .lst (us ++ [.ref a])) hl4
  refine ⟨_,_,t3,_,_,rfl,s4.put hl,A6,?_,⟨by rw [B5 (Ne.symm nld)]; exact A6,?_,fun u=>?_⟩,by rw [e3]; exact hk2,by rw [List.length_append,List.length_singleton]; omega,by omega,le3⟩
  ·rw [List.map_append]
   exact (hts3.kp (kd.trans kl)).append (TAll.one (TV.kp (kd.trans kl) hv.tv))
  ·have := eL kvs (.inr (S x.1)) (.bl true)
   rw [List.length_append,List.length_singleton]; omega
  ·rw [zY,List.map_append,List.mem_append]
   by_cases e : u = x.1
   ·subst e; simp
   ·rw [if_neg (fun z=>e (zR (Sum.inr.inj z))),hkv u]
    simp [e]
 | @bad _ _ hh =>
  rw [hh]
  intro H2 g2
  exact q H2 (s'.g.trans g2)
 | @worse _ _ r1 hh hx =>
  rw [hh]
  intro H2 t2 g2 d2 e2 le2 lt2
  refine ⟨_,rfl,E8 ?_⟩
  have s2 := s'.more g2 d2
  refine ⟨fun _ _=>False,fun _ _ z=>z.elim,?_⟩
  refine ⟨_,rfl,rd,dx,wl,ws,t2,_,rfl,s2.st,lt2,by rw [e2]; exact hx,?_⟩
  intro H3 g3
  exact q H3 (s2.g.trans g3)
 | @twice _ _ r1 x r2 hh hx hnx =>
  rw [hh]
  intro H2 t2 g2 d2 e2 le2 lt2
  refine ⟨_,rfl,E8 ?_⟩
  have s2 := s'.more g2 d2
  have hdn2 := g2 _ _ nd hdn'
  refine ⟨fun _ _=>False,fun _ _ z=>z.elim,?_⟩
  refine ⟨_,rfl,rd,dx,wl,ws,t2,_,rfl,s2.st,lt2,by rw [e2]; exact hx,?_⟩
  intro v H3 t3 g3 d3 e3 lt3 le3 hv
  have s3 := s2.more g3 d3
  have hdn3 := g3 _ _ nd hdn2
  obtain ⟨a,u,rfl,ha,hu⟩ := hv
  have hsm := turn (H2 := H2) hx e2
  refine ⟨_,rfl,a,_,_,.str (S x.1),rfl,rfl,ha,rfl,?_⟩
  refine ⟨_,rfl,_,rfl,dn,_,rfl,DGet.k (k := .inr (S x.1)) hdn3,_,rfl,?_⟩
  rw [(hkv x.1).mpr hnx]
  exact E8 ⟨_,rfl,_,rfl,by rw [N4]; exact hsm.1,hsm.2,fun r=>⟨M1,q _ s3.g⟩⟩
end
end Law
namespace Law
open PySem L2 L2.Sp
section
variable {P : Program} {w : World} {K : PySem.W.Frag} {mg : Str → Option Value} {base : Heap} {f : Addr} {fd : FuncData} {R C : Addr} {X : Bool → List Wd → P8 → Prop}
abbrev dM : Stmt := M8 27
theorem fD : E2 ["reader","free","times","tree","turn"] ["reader","free"] (B2 dM) := ⟨rfl,rfl,rfl,by decide +kernel,rfl,by decide +kernel,by decide +kernel⟩
theorem AN5 {k : Nat} (F : Fun K "negated" "negated" dM f fd) (c : RK K R) (SG : M0 P w K mg base k "single" ["reader","free"] (lM K R C (SglP X))) (TS : T5 P w K mg base K5 R 2 "takes" ["self","word"] (Z3 R)) (m1 : mg "range" = none) (hk : 4 ≤ k) :
  FnOk P w K mg base (N0 P w) (k + 1) f fd ["reader","free"] (lM K R C (NegP X)) := by
 refine Fun.ok1 F fD (fun vs H Q E h=>?_) (fun cdv A outer s H vs Q E hr h=>?_)
 ·obtain ⟨rd,dx,wl,ws,t,free,res,rfl,_⟩ := h
  rfl
 obtain ⟨rd,dx,wl,ws,t,free,res,rfl,h,hp,q⟩ := h
 have hr2 := hr.mono (show 2 ≤ k by omega)
 refine ⟨_,A7 (B7 (i := 2) fD.nd rfl (Or.inl rfl) B1)
  (A7 (W3 PassesOwn.leaving (K9 (O4 TS c hr2 P3 (pv 0) (A0 B3 A5))) (A9 (Q5 (i := 2) fD.nd rfl (Or.inl rfl) B1 mI)))
  (A7 (B7 (i := 3) fD.nd rfl (Or.inl rfl) (G5 SG hr rfl (G8 (E' := E) fun _ _ _ h=>h) (A0 (pv 0) (A0 (W5 (pv 1) (W4 (N7 G9 (pv 2) B1 (B8 _)))) A5))))
  (A7 (R4 PassesOwn.leaving rfl (O0 rfl m1 (A0 (pv 2) A5)) (K0 (i := 4) fD.nd rfl (Or.inl rfl)) (A9 (B7 (i := 3) fD.nd rfl (Or.inl rfl) (L0 (A0 B3 (A0 (pv 3) A5))))))
  (A9 (B6 (pv 3)))))),?_⟩
 obtain ⟨sres,hs,rfl⟩ := hp
 have S0 := RS.start h
 have wl0 := h.ok.len
 have hbl := AG8 (ws.drop t)
 rw [List.length_drop] at hbl
 generalize hb : Q9 (ws.drop t) = n at hs q hbl
 refine ⟨fun m σ H'=>∃ (j : Nat),σ = [some (.ref rd),some (.bl free),some (.int (j : Int)),none,none] ∧ RS H H' R rd dx wl ws (t + j) ∧ j ≤ n ∧ m = n - j,⟨n,0,rfl,S0,Nat.zero_le _,rfl⟩,?_⟩
 rintro m σ H' ⟨j,rfl,s',hj,rfl⟩
 refine ⟨_,rfl,rd,dx,_,rfl,s'.st.ob,rfl,rd,dx,wl,ws,t + j,[33],by rw [AJ0]; rfl,s'.st,?_⟩
 by_cases e : j < n
 ·have e1 : hd (ws.drop (t + j)) = [33] := by rw [← List.drop_drop]; exact AG7 (by rw [hb]; exact e)
  refine M3 e1 ⟨_,rfl,E8 ?_⟩
  refine ⟨fun σ' H''=>σ' = [some (.ref rd),some (.bl free),some (.int ((j + 1 : Nat) : Int)),none,none] ∧ RS H H'' R rd dx wl ws (t + (j + 1)),fun σ' H'' hh=>⟨n - (j + 1),by omega,j + 1,hh.1,hh.2,e,rfl⟩,?_⟩
  exact ⟨_,rfl,_,_,rfl,rfl,rfl,s'.up (t + j + 1)⟩
 ·have e0 : j = n := by omega
  subst e0
  have e1 : hd (ws.drop (t + j)) ≠ [33] := by rw [← List.drop_drop,← hb]; exact AG9
  refine J1 e1 ⟨_,rfl,D7 ?_⟩
  have e2 : ws.drop (t + j) = (ws.drop t).drop j := by rw [List.drop_drop]
  have arg : ∀ {Q' : V → Hp → Prop},Q' (.bl (free && decide (j = 0))) H' → AH5 (rC 1) (tU rEq (rC 2) (tC (.int 0))) [some (.ref rd),some (.bl free),some (.int (j : Int)),none,none] H' Q' := fun {Q'} hq=>by
   refine ⟨_,rfl,free,rfl,?_⟩
   cases free with
   | false=>exact D7 hq
   | true =>
    refine E8 ⟨_,rfl,rfl,?_⟩
    have : decide (V.int (j : Int) = V.int 0) = decide (j = 0) := by
     rw [Bool.eq_iff_iff,decide_eq_true_iff,decide_eq_true_iff]
     constructor
     ·intro z; have := V.int.inj z; omega
     ·intro z; rw [z]; rfl
    rw [this]
    exact hq
  refine ⟨_,rfl,arg ?_⟩
  refine ⟨rd,dx,wl,ws,t + j,_,sres,rfl,s'.st,by rw [e2]; exact hs,?_⟩
  cases sres with
  | none =>
   intro H3 g3
   exact q H3 (s'.g.trans g3)
  | some p =>
   obtain ⟨x,r⟩ := p
   intro v H3 t3 g3 d3 e3 lt3 le3 hv
   have s3 := s'.more g3 d3
   refine ⟨_,rfl,(j : Int),rfl,by omega,by omega,?_⟩
   refine Z7 (fun i σ H4=>∃ (u : V) (b4 : Option V),σ = [some (.ref rd),some (.bl free),some (.int (j : Int)),some u,b4] ∧ RS H H4 R rd dx wl ws t3 ∧ TV K H4 (wK i x) u) ⟨v,none,rfl,s3,hv⟩ (fun i σ H4 hi hinv=>?_) (fun σ H4 hinv=>?_)
   ·obtain ⟨u,b4,rfl,s4,hu⟩ := hinv
    refine ⟨_,rfl,T6,fun p hp=>?_⟩
    have kp := A8 hp (.tup [.str (Str.ofString "not"),u])
    refine ⟨.ref p,_,rfl,s4.same kp,?_⟩
    exact TV.tup (SqT.of (by rw [A6,gU])) (TAll.cons TV.str (TAll.one (TV.kp (Kp.same kp) hu)))
   ·obtain ⟨u,b4,rfl,s4,hu⟩ := hinv
    exact ⟨_,rfl,q _ _ t3 s4.g s4.st e3 (by omega) le3 hu⟩
abbrev dO : Stmt := M8 25
theorem iL : E2 ["reader","free","alternatives","parts"] ["reader","free"] (B2 dO) := ⟨rfl,rfl,rfl,by decide +kernel,rfl,by decide +kernel,by decide +kernel⟩
theorem in2 {r : Wd} : cV (.str (S r)) [.str (S [38]),.str (S [124])] = (decide (r = [38]) || decide (r = [124])) := by
 have := iZ r [[38],[124]]
 rw [show ST [[38],[124]] = [.str (S [38]),.str (S [124])] from rfl] at this
 rw [this,Bool.eq_iff_iff,decide_eq_true_iff,Bool.or_eq_true,decide_eq_true_iff,decide_eq_true_iff]
 simp
theorem AO1 {k : Nat} (F : Fun K "expression" "expression" dO f fd) (c : RK K R) (NG : M0 P w K mg base k "negated" ["reader","free"] (lM K R C (NegP X))) (AH : T5 P w K mg base K5 R 1 "ahead" ["self","steps"] (W9 R)) (TK : T5 P w K mg base K5 R 2 "take" ["self"] (aQ R)) (ON : Cal P w K mg base 1 "one_or_several" ["word","trees"] (qF K)) (hk : 4 ≤ k) :
  FnOk P w K mg base (N0 P w) (k + 1) f fd ["reader","free"] (lM K R C (ExpP X)) := by
 refine Fun.ok1 F iL (fun vs H Q E h=>?_) (fun cdv A outer s H vs Q E hr h=>?_)
 ·obtain ⟨rd,dx,wl,ws,t,free,res,rfl,_⟩ := h
  rfl
 obtain ⟨rd,dx,wl,ws,t,free,res,rfl,h,hp,q⟩ := h
 have hr2 := hr.mono (show 2 ≤ k by omega)
 have hr1 := hr.mono (show 1 ≤ k by omega)
 refine ⟨_,A7 (B7 (i := 2) iL.nd rfl (Or.inl rfl) (E3 A5))
  (A7 (B7 (i := 3) iL.nd rfl (Or.inl rfl) (E3 (A0 (G5 NG hr rfl (G8 (E' := E) fun _ _ _ h=>h) (A0 (pv 0) (A0 (pv 1) A5))) A5)))
  (A7 (W3 PassesOwn.leaving (B9 iS (O4 AH c hr1 P3 (pv 0) (A0 B1 A5)) (L0 (A0 B3 (A0 B3 A5))) rfl)
   (M6 (E5 (B9 G9 (cA TK c hr2 P3 (pv 0)) B3 (B8 _))
     (A7 (K2 (O9 PySem.F.plainAttrs_list PySem.F.slot_list_append PySem.F.type_list_append K4 (pv 2) (A0 (B4 ON hr1 rfl (A0 B3 (A0 (pv 3) A5))) A5)))
     (A9 (B7 (i := 3) iL.nd rfl (Or.inl rfl) (E3 A5)))) D6)
   (A9 (K2 (O9 PySem.F.plainAttrs_list PySem.F.slot_list_append PySem.F.type_list_append K4 (pv 3) (A0 (G5 NG hr rfl (G8 (E' := E) fun _ _ _ h=>h) (A0 (pv 0) (A0 (pv 1) A5))) A5))))))
  (A7 (K2 (O9 PySem.F.plainAttrs_list PySem.F.slot_list_append PySem.F.type_list_append K4 (pv 2) (A0 (B4 ON hr1 rfl (A0 B3 (A0 (pv 3) A5))) A5)))
  (A9 (B6 (B4 ON hr1 rfl (A0 B3 (A0 (pv 2) A5)))))))),?_⟩
 obtain ⟨nres,hn,hm⟩ := hp
 have S0 := RS.start h
 have wl0 := h.ok.len
 refine ⟨T7,fun la hla=>?_⟩
 have S1 := S0.put (o := .lst []) hla
 refine ⟨_,rfl,_,rfl,rd,dx,wl,ws,t,free,nres,rfl,S1.st,hn,?_⟩
 cases nres with
 | none =>
  subst hm
  intro H2 g2
  exact q H2 (S1.g.trans g2)
 | some p =>
  obtain ⟨x0,r0⟩ := p
  obtain ⟨k0,hm⟩ := hm
  intro v0 H2 t2 g2 d2 e2 lt2 le2 hv0
  have S2 := S1.more g2 d2
  have nla : la ≠ rd := S1.none hla A6
  have hla2 := g2 _ _ nla A6
  refine ⟨M1,fun lp hlp=>?_⟩
  have hlp0 := gQ S2 hlp
  have nap : la ≠ lp := fun e=>by rw [← e,hla2] at hlp; cases hlp
  have kp0 := A8 hlp (.lst [v0])
  refine ⟨fun m σ H'=>∃ (alts parts : List Tn) (us vs : List V) (lp : Addr) (t' : Nat),σ = [some (.ref rd),some (.bl free),some (.ref la),some (.ref lp)] ∧ H lp = none ∧ la ≠ lp ∧ RS H H' R rd dx wl ws t' ∧ H' la = some (.lst us) ∧ H' lp = some (.lst vs) ∧ TAll K H' alts us ∧ TAll K H' parts vs ∧ MoreP X m free alts parts (ws.drop t') res ∧ alts.length + parts.length ≤ t' ∧ t < t' ∧ t' ≤ ws.length,
   ⟨k0,[],[x0],[],[v0],lp,t2,rfl,hlp0,nap,S2.same kp0,kp0 _ _ hla2,A6,TAll.nil,TAll.one (TV.kp (Kp.same kp0) hv0),by rw [e2]; exact hm,(by show 0 + 1 ≤ t2; omega),lt2,le2⟩,?_⟩
  rintro m σ H' ⟨alts,parts,us,vs,lp,t',rfl,hlp0,nap,s',ha,hb,hta,htp,hmm,hlen,h1,h2⟩
  have na : la ≠ rd := s'.none hla ha
  have nb : lp ≠ rd := s'.none hlp0 hb
  have hul := hta.length
  have hvl := htp.length
  refine ⟨_,rfl,rd,dx,_,rfl,s'.st.ob,rfl,rd,dx,wl,ws,t',0,rfl,s'.st,T6,fun pt hpt=>?_⟩
  have kt := A8 hpt (.tup [.str (Str.ofString "&"),.str (Str.ofString "|")])
  refine ⟨pt,_,rfl,.inr (SqT.of A6),rfl,rfl,_,rfl,?_⟩
  rw [mS,AE9,AE8]
  show if cV (.str (S (hd (ws.drop t')))) [.str (S [38]),.str (S [124])] = true then _ else _
  rw [in2]
  rw [AE9,AE8] at kt
  have st := s'.same kt
  have ha1 := kt _ _ ha
  have hb1 := kt _ _ hb
  have hta1 := hta.kp (Kp.same kt)
  have htp1 := htp.kp (Kp.same kt)
  generalize D5 H' pt (.tup [.str (S [38]),.str (S [124])]) = H3 at kt st ha1 hb1 hta1 htp1 ⊢
  generalize hdr : ws.drop t' = rr at hmm ⊢
  cases hmm with
  | stop e38 e124 =>
   rw [decide_eq_false e38,decide_eq_false e124]
   refine D7 ?_
   refine ⟨_,rfl,.inl ⟨rfl,_,SqL.of ha1⟩,_,rfl,Q6,lp,vs,parts,by rw [bP]; rfl,hb1,htp1,fun v H4 g4 hv=>?_⟩
   have s4 := st.same g4
   have ha4 := g4 _ _ ha1
   have hta4 := hta1.kp (Kp.same g4)
   refine ⟨la,_,_,rfl,rfl,ha4,dE (by omega),?_⟩
   have kl := Kp.lst (K := K) (o := .lst (us ++ [v])) ha4
   have s5 := s4.put (o := .lst (us ++ [v])) hla
   refine ⟨_,rfl,W6,la,us ++ [v],alts ++ [one Q6 parts],by rw [kX]; rfl,A6,(hta4.kp kl).append (TAll.one (TV.kp kl hv)),fun v' H6 g6 hv'=>?_⟩
   exact q _ _ t' (s5.same g6).g (s5.same g6).st hdr h1 h2 hv'
  | @and k' _ _ _ r x r1 _ hng hk2 =>
   obtain ⟨dd1,dd2⟩ := dX hdr
   refine E8 ?_
   refine ⟨fun σ' H''=>∃ (alts parts : List Tn) (us vs : List V) (lp : Addr) (t'' : Nat),σ' = [some (.ref rd),some (.bl free),some (.ref la),some (.ref lp)] ∧ H lp = none ∧ la ≠ lp ∧ RS H H'' R rd dx wl ws t'' ∧ H'' la = some (.lst us) ∧ H'' lp = some (.lst vs) ∧ TAll K H'' alts us ∧ TAll K H'' parts vs ∧ MoreP X k' free alts parts (ws.drop t'') res ∧ alts.length + parts.length ≤ t'' ∧ t < t'' ∧ t'' ≤ ws.length,fun σ' H'' hh=>⟨k',Nat.lt_succ_self _,hh⟩,?_⟩
   refine ⟨fun σ' H''=>σ' = [some (.ref rd),some (.bl free),some (.ref la),some (.ref lp)] ∧ H'' = Q0 H3 R rd dx wl (t' + 1),?_,?_⟩
   ·refine ⟨_,rfl,rd,dx,_,rfl,st.st.ob,rfl,rd,dx,wl,ws,t',rfl,st.st,rfl,_,rfl,?_⟩
    rw [O2,hdr]
    exact D7 ⟨rfl,rfl⟩
   rintro σ1 H1 ⟨rfl,rfl⟩
   have s4 := st.up (t' + 1)
   have ha4 : Q0 H3 R rd dx wl (t' + 1) la = some (.lst us) := by unfold Q0; rw [B5 na]; exact ha1
   have hb4 : Q0 H3 R rd dx wl (t' + 1) lp = some (.lst vs) := by unfold Q0; rw [B5 nb]; exact hb1
   have ku := dS (K := K) (t' := t' + 1) st.st
   refine ⟨_,rfl,.inl ⟨rfl,_,SqL.of hb4⟩,_,rfl,_,rfl,rd,dx,wl,ws,t' + 1,free,_,rfl,s4.st,by rw [dd1]; exact hng,?_⟩
   intro v H5 t5 g5 d5 e5 lt5 le5 hv
   have s5 := s4.more g5 d5
   have ha5 := g5 _ _ na ha4
   have hb5 := g5 _ _ nb hb4
   have k5 := ku.trans (Kp.grow g5 s4.st)
   have kl := Kp.lst (K := K) (o := .lst (vs ++ [v])) hb5
   refine ⟨lp,_,_,rfl,rfl,hb5,dE (by omega),alts,parts ++ [x],us,vs ++ [v],lp,t5,rfl,hlp0,nap,s5.put hlp0,by rw [B5 nap]; exact ha5,A6,hta1.kp (k5.trans kl),(htp1.kp (k5.trans kl)).append (TAll.one (TV.kp kl hv)),by rw [e5]; exact hk2,by rw [List.length_append,List.length_singleton]; omega,by omega,le5⟩
  | @or k' _ _ _ r x r1 _ hng hk2 =>
   obtain ⟨dd1,dd2⟩ := dX hdr
   refine E8 ?_
   refine ⟨fun σ' H''=>∃ (alts parts : List Tn) (us vs : List V) (lp : Addr) (t'' : Nat),σ' = [some (.ref rd),some (.bl free),some (.ref la),some (.ref lp)] ∧ H lp = none ∧ la ≠ lp ∧ RS H H'' R rd dx wl ws t'' ∧ H'' la = some (.lst us) ∧ H'' lp = some (.lst vs) ∧ TAll K H'' alts us ∧ TAll K H'' parts vs ∧ MoreP X k' free alts parts (ws.drop t'') res ∧ alts.length + parts.length ≤ t'' ∧ t < t'' ∧ t'' ≤ ws.length,fun σ' H'' hh=>⟨k',Nat.lt_succ_self _,hh⟩,?_⟩
   refine ⟨fun σ' H''=>∃ (v : V) (lq : Addr),σ' = [some (.ref rd),some (.bl free),some (.ref la),some (.ref lq)] ∧ H lq = none ∧ la ≠ lq ∧ RS H H'' R rd dx wl ws (t' + 1) ∧ H'' la = some (.lst (us ++ [v])) ∧ H'' lq = some (.lst []) ∧ TAll K H'' (alts ++ [one Q6 parts]) (us ++ [v]),?_,?_⟩
   ·refine ⟨_,rfl,rd,dx,_,rfl,st.st.ob,rfl,rd,dx,wl,ws,t',rfl,st.st,rfl,_,rfl,?_⟩
    rw [O2,hdr]
    refine E8 ?_
    have s4 := st.up (t' + 1)
    have ha4 : Q0 H3 R rd dx wl (t' + 1) la = some (.lst us) := by unfold Q0; rw [B5 na]; exact ha1
    have hb4 : Q0 H3 R rd dx wl (t' + 1) lp = some (.lst vs) := by unfold Q0; rw [B5 nb]; exact hb1
    have ku := dS (K := K) (t' := t' + 1) st.st
    refine ⟨_,rfl,.inl ⟨rfl,_,SqL.of ha4⟩,_,rfl,Q6,lp,vs,parts,by rw [bP]; rfl,hb4,htp1.kp ku,fun v H5 g5 hv=>?_⟩
    have s5 := s4.same g5
    have ha5 := g5 _ _ ha4
    have kl := Kp.lst (K := K) (o := .lst (us ++ [v])) ha5
    have s6 := s5.put (o := .lst (us ++ [v])) hla
    refine ⟨la,_,_,rfl,rfl,ha5,dE (by omega),T7,fun lq hlq=>?_⟩
    have kq := A8 hlq (.lst [])
    have hlq0 := gQ s6 hlq
    refine ⟨v,lq,rfl,hlq0,fun e=>?_,s6.same kq,kq _ _ A6,A6,?_⟩
    ·rw [← e,A6] at hlq; cases hlq
    ·have kk := kl.trans (Kp.same kq)
     exact (hta1.kp ((ku.trans (Kp.same g5)).trans kk)).append (TAll.one (TV.kp kk hv))
   rintro σ1 H1 ⟨v1,lq,rfl,hlq0,naq,s4,ha4,hq4,hta4⟩
   have nq : lq ≠ rd := s4.none hlq0 hq4
   refine ⟨_,rfl,.inl ⟨rfl,_,SqL.of hq4⟩,_,rfl,_,rfl,rd,dx,wl,ws,t' + 1,free,_,rfl,s4.st,by rw [dd1]; exact hng,?_⟩
   intro v H5 t5 g5 d5 e5 lt5 le5 hv
   have s5 := s4.more g5 d5
   have ha5 := g5 _ _ na ha4
   have hq5 := g5 _ _ nq hq4
   have k5 := Kp.grow (K := K) g5 s4.st
   have kl := Kp.lst (K := K) (o := .lst ([] ++ [v])) hq5
   refine ⟨lq,_,_,rfl,rfl,hq5,dE (by show 0 ≤ 200000; omega),alts ++ [one Q6 parts],[x],us ++ [v1],[] ++ [v],lq,t5,rfl,hlq0,naq,s5.put hlq0,by rw [B5 naq]; exact ha5,A6,hta4.kp (k5.trans kl),TAll.one (TV.kp kl hv),by rw [e5]; exact hk2,by rw [List.length_append,List.length_singleton,List.length_singleton]; omega,by omega,le5⟩
  | @bad _ _ _ w1 r hw hng =>
   obtain ⟨dd1,dd2⟩ := dX hdr
   have hin : (decide (hd (w1 :: r) = [38]) || decide (hd (w1 :: r) = [124])) = true := by
    rcases hw with rfl | rfl <;> rfl
   rw [hin]
   refine E8 ?_
   refine ⟨fun _ _=>False,fun _ _ z=>z.elim,?_⟩
   refine ⟨fun σ' H''=>∃ (lq : Addr) (xs : List V),σ' = [some (.ref rd),some (.bl free),some (.ref la),some (.ref lq)] ∧ RS H H'' R rd dx wl ws (t' + 1) ∧ H'' lq = some (.lst xs),?_,?_⟩
   ·refine ⟨_,rfl,rd,dx,_,rfl,st.st.ob,rfl,rd,dx,wl,ws,t',rfl,st.st,rfl,_,rfl,?_⟩
    have s4 := st.up (t' + 1)
    have ha4 : Q0 H3 R rd dx wl (t' + 1) la = some (.lst us) := by unfold Q0; rw [B5 na]; exact ha1
    have hb4 : Q0 H3 R rd dx wl (t' + 1) lp = some (.lst vs) := by unfold Q0; rw [B5 nb]; exact hb1
    have ku := dS (K := K) (t' := t' + 1) st.st
    refine N1 (fun _=>?_) (fun _=>⟨lp,vs,rfl,s4,hb4⟩)
    refine ⟨_,rfl,.inl ⟨rfl,_,SqL.of ha4⟩,_,rfl,Q6,lp,vs,parts,by rw [bP]; rfl,hb4,htp1.kp ku,fun v H5 g5 hv=>?_⟩
    have s5 := s4.same g5
    have ha5 := g5 _ _ ha4
    have s6 := s5.put (o := .lst (us ++ [v])) hla
    refine ⟨la,_,_,rfl,rfl,ha5,dE (by omega),T7,fun lq hlq=>?_⟩
    exact ⟨lq,[],rfl,s6.same (A8 hlq _),A6⟩
   rintro σ1 H1 ⟨lq,xs,rfl,s4,hq4⟩
   refine ⟨_,rfl,.inl ⟨rfl,_,SqL.of hq4⟩,_,rfl,_,rfl,rd,dx,wl,ws,t' + 1,free,_,rfl,s4.st,by rw [dd1]; exact hng,?_⟩
   intro H5 g5
   exact q H5 (s4.g.trans g5)
end
end Law
namespace Law
open PySem L2 L2.Sp
theorem lLp : (Str.ofString "(" : Str) = S [40] := by decide +kernel
theorem lRp : (Str.ofString ")" : Str) = S [41] := by decide +kernel
theorem lLb : (Str.ofString "[" : Str) = S [91] := by decide +kernel
theorem lLc : (Str.ofString "{" : Str) = S [123] := by decide +kernel
theorem lAt : (Str.ofString "@" : Str) = S [64] := by decide +kernel
theorem AV7 : (Str.ofString "\"" : Str) = S [34] := by decide +kernel
theorem aW : (Str.ofString "place" : Str) = S cU := by decide +kernel
theorem bQ : (Str.ofString "text" : Str) = S dU := by decide +kernel
theorem aE : (Str.ofString "word" : Str) = S gY := by decide +kernel
theorem xF (u : List Nat) : Txt.slice (S u) none (some 1) = S (u.take 1) := by
 cases u with
 | nil=>decide +kernel
 | cons c r =>
  have e := beq_iff_eq.mp (PyProof.Rows.slice_closes_to (x := S (c :: r)) (j := 1) ⟨by decide,by show (1 : Int) ≤ ((c :: r).length : Int); rw [List.length_cons]; omega⟩)
  rw [e]
  rfl
theorem AA2 (u : List Nat) (h : 2 ≤ u.length) : Txt.slice (S u) (some 1) (some (-1)) = S (u.drop 1).dropLast := by
 have hl : (S u).length = u.length := N4 u
 have e0 := StrLaws.sliceText_neg_hi (S u) (some 1) (j := -1) (by decide) (by rw [hl]; omega)
 have e1 : Txt.slice (S u) (some 1) (some (-1)) = Txt.slice (S u) (some ((1 : Nat) : Int)) (some ((u.length - 1 : Nat) : Int)) := by
  show StrLaws.sliceText (S u) (some 1) (some (-1)) = StrLaws.sliceText (S u) _ _
  rw [e0,hl]
  congr 2
  omega
 rw [e1,Z4 u (i := 1) (j := u.length - 1) (by omega) (by omega)]
 show S ((u.drop 1).take (u.length - 1 - 1)) = _
 rw [List.dropLast_eq_take,List.length_drop]
theorem AK8 {u : Wd} (h : Z1 u) (e : u.take 1 = [34]) : Quo u := by
 rcases h with h | h | h | rfl | h
 ·obtain ⟨c,e1,hc⟩ := h.head
  cases u with
  | nil=>cases e1
  | cons a r=>cases e1; cases e; cases hc
 ·obtain ⟨c,e1,hc⟩ := h.head
  cases u with
  | nil=>cases e1
  | cons a r =>
   cases e1; cases e
   rcases hc with hc | hc <;> cases hc
 ·exact h
 ·cases e
 ·obtain ⟨c,hc,rfl⟩ := h
  cases e
  exact absurd rfl (W1 34 hc).2.2.2.1
section
variable {P : Program} {w : World} {K : PySem.W.Frag} {mg : Str → Option Value} {base : Heap} {f : Addr} {fd : FuncData} {R C : Addr} {X : Bool → List Wd → P8 → Prop}
theorem PO.lift {α : Type} {val : Hp → α → V → Prop} {H H1 : Hp} {rd dx wl : Addr} {ws : List Wd} {t t1 : Nat} {res : Option (α × List Wd)} {Q : VK} {E : XK} (s : RS H H1 R rd dx wl ws t1) (ht : t ≤ t1) (q : PO C val H R rd dx wl ws t res Q E) : PO C val H1 R rd dx wl ws t1 res Q E := by
 cases res with
 | none=>exact fun H' g=>q H' (s.g.trans g)
 | some p=>exact fun v H' t' g d e lt le hv=>q v H' t' (s.g.trans g) d e (Nat.lt_of_le_of_lt ht lt) le hv
abbrev Z5 : Stmt := M8 28
theorem kT : E2 ["reader","free","word","tree"] ["reader","free"] (B2 Z5) := ⟨rfl,rfl,rfl,by decide +kernel,rfl,by decide +kernel,by decide +kernel⟩
theorem yE {k : Nat} {gp : Addr} (F : Fun K "single" "single" Z5 f fd) (c : RK K R) (n : NT K mg C) (EX : M0 P w K mg base k "expression" ["reader","free"] (lM K R C X)) (LT : M0 P w K mg base (k + 1) "list_tree" ["reader"] (tV (qX K) R C (mU X))) (RT : M0 P w K mg base (k + 2) "record_tree" ["reader"] (tV (qX K) R C (tD X)))
  (NS : M0 P w K mg base 4 "names_of" ["reader"] (dF K R C)) (NB : Cal P w K mg base 2 "is_number" ["word"] iG) (SP : Cal P w K mg base 3 "span_tree" ["reader","low"] (jL K R)) (AH : T5 P w K mg base K5 R 1 "ahead" ["self","steps"] (W9 R)) (TK : T5 P w K mg base K5 R 2 "take" ["self"] (aQ R))
  (MU : T5 P w K mg base (N0 P w) R 3 "must_take" ["self","word"] (cH R C)) (gP : mg "PLAIN_WORDS" = some (.ref gp)) (hK : ∀ H : Hp,SqT K H gp (ST N9)) (m1 : mg "int" = none) (hk : 4 ≤ k) :
  FnOk P w K mg base (N0 P w) (k + 3) f fd ["reader","free"] (lM K R C (SglP X)) := by
 refine Fun.ok1 F kT (fun vs H Q E h=>?_) (fun cdv A outer s H vs Q E hr h=>?_)
 ·obtain ⟨rd,dx,wl,ws,t,free,res,rfl,_⟩ := h
  rfl
 obtain ⟨rd,dx,wl,ws,t,free,res,rfl,h,hp,q⟩ := h
 have hr1 := hr.mono (show 1 ≤ k + 2 by omega)
 have hr2 := hr.mono (show 2 ≤ k + 2 by omega)
 have hr3 := hr.mono (show 3 ≤ k + 2 by omega)
 have hr4 := hr.mono (show 4 ≤ k + 2 by omega)
 have hrk := hr.mono (show k ≤ k + 2 by omega)
 have hrk1 := hr.mono (show k + 1 ≤ k + 2 by omega)
 refine ⟨_,A7 (B7 (i := 2) kT.nd rfl (Or.inl rfl) (cA TK c hr2 P3 (pv 0)))
  (A7 (E5 (B9 G9 (pv 2) B3 (B8 _)) (A7 (B7 (i := 3) kT.nd rfl (Or.inl rfl) (G5 EX hrk rfl (G8 (E' := E) fun _ _ _ h=>h) (A0 (pv 0) (A0 (pv 1) A5)))) (A7 (K2 (O4 MU c hr3 (G8 (E' := E) fun _ _ _ h=>h) (pv 0) (A0 B3 A5))) (A9 (B6 (pv 3))))) D6)
  (A7 (E5 (B9 G9 (pv 2) B3 (B8 _)) (A9 (B6 (G5 LT hrk1 rfl (G8 (E' := E) fun _ _ _ h=>h) (A0 (pv 0) A5)))) D6)
  (A7 (E5 (B9 G9 (pv 2) B3 (B8 _)) (A9 (B6 (G5 RT hr rfl (G8 (E' := E) fun _ _ _ h=>h) (A0 (pv 0) A5)))) D6)
  (M6 (E5 (PW.pt (aA (B9 G9 (pv 2) B3 (B8 _)) (aM (K9 (pv 1))))) (A9 (B6 (L0 (A0 B3 (A0 (G5 NS hr4 rfl (G8 (E' := E) fun _ _ _ h=>h) (A0 (pv 0) A5)) A5))))) D6)
  (M6 (E5 (PW.pt (aA (B9 G9 (pv 2) B3 (B8 _)) (aM (K9 (B4 NB hr2 rfl (A0 (O4 AH c hr1 P3 (pv 0) (A0 B1 A5)) A5)))))) (A9 (B6 (L0 (A0 B3 (A0 X9 (A0 (J0 jF rfl m1 Y3 (A0 (cA TK c hr2 P3 (pv 0)) A5)) A5)))))) D6)
  (A7 (E5 (K9 (B4 NB hr2 rfl (A0 (pv 2) A5))) (A9 (B6 (B4 SP hr3 rfl (A0 (pv 0) (A0 (J0 jF rfl m1 Y3 (A0 (pv 2) A5)) A5))))) D6)
  (A7 (E5 (B9 G9 (P1 Z8 (pv 2) Z6 (N6 B1)) B3 (B8 _)) (A9 (B6 (L0 (A0 B3 (A0 (P1 Z8 (pv 2) (N6 B1) (N6 (qP lG B1))) A5))))) D6)
  (A7 (E5 (B9 iS (pv 2) (V6 (v := .ref gp) rfl gP rfl) rfl) (A9 (B6 (L0 (A0 B3 (A0 (pv 2) A5))))) D6)
  (A9 (V4 PySem.F.excBase_ValueError n.xc rfl n.mg (A0 (kB (fO (lU (pv 2) (fO lT)))) A5))))))))))),?_⟩
 have S0 := RS.start h
 have S1 := S0.up (t + 1)
 have hsm := h.ok.small t
 refine ⟨_,rfl,rd,dx,_,rfl,h.ob,rfl,rd,dx,wl,ws,t,rfl,h,?_⟩
 have hmem : hd (ws.drop t) ≠ [] → Z1 (hd (ws.drop t)) ∧ t + 1 ≤ ws.length := fun z=>⟨h.ok.tok _ (wT z),dW z⟩
 unfold SglP at hp
 rw [← X4] at hp
 generalize hu : hd (ws.drop t) = u at hp hsm hmem ⊢
 refine ⟨_,rfl,rfl,_,rfl,?_⟩
 rw [lLp,O2]
 by_cases e1 : u = [40]
 ·rw [decide_eq_true e1]
  rw [if_pos e1] at hp
  obtain ⟨xres,hx,rfl⟩ := hp
  refine E8 ⟨_,rfl,_,rfl,rd,dx,wl,ws,t + 1,free,xres,rfl,S1.st,hx,?_⟩
  cases xres with
  | none=>exact fun H3 g3=>q H3 (S1.g.trans g3)
  | some p =>
   obtain ⟨x,r1⟩ := p
   intro v H3 t3 g3 d3 e3 lt3 le3 hv
   have s3 := S1.more g3 d3
   refine ⟨_,rfl,rd,dx,_,rfl,s3.st.ob,rfl,rd,dx,wl,ws,t3,[41],by rw [lRp]; rfl,s3.st,eZ 41 (by decide),?_⟩
   dsimp only at q
   have s4 := s3.up (t3 + 1)
   by_cases e : hd (ws.drop t3) = [41]
   ·rw [if_pos (by rw [← e3]; exact e)] at q
    refine M3 e ⟨_,rfl,q _ _ (t3 + 1) s4.g s4.st (by rw [X4,e3]) (by omega) (dW (by rw [e]; simp)) (TV.kp (dS s3.st) hv)⟩
   ·rw [if_neg (by rw [← e3]; exact e)] at q
    exact J1 e (q _ s4.g)
 rw [decide_eq_false e1]
 rw [if_neg e1] at hp
 refine D7 ⟨_,rfl,rfl,_,rfl,?_⟩
 rw [lLb,O2]
 by_cases e2 : u = [91]
 ·rw [decide_eq_true e2]
  rw [if_pos e2] at hp
  exact E8 ⟨_,rfl,rd,dx,wl,ws,t + 1,res,rfl,S1.st,(hmem (by rw [e2]; simp)).2,hp,PO.lift S1 (by omega) q⟩
 rw [decide_eq_false e2]
 rw [if_neg e2] at hp
 refine D7 ⟨_,rfl,rfl,_,rfl,?_⟩
 rw [lLc,O2]
 by_cases e3 : u = [123]
 ·rw [decide_eq_true e3]
  rw [if_pos e3] at hp
  exact E8 ⟨_,rfl,rd,dx,wl,ws,t + 1,res,rfl,S1.st,(hmem (by rw [e3]; simp)).2,hp,PO.lift S1 (by omega) q⟩
 rw [decide_eq_false e3]
 rw [if_neg e3] at hp
 refine D7 ?_
 have q1 := PO.lift S1 (by omega) q
 refine ⟨fun σ' H'=>¬ (u = [64] ∧ free = true) ∧ σ' = [some (.ref rd),some (.bl free),some (.str (S u)),none] ∧ H' = Q0 H R rd dx wl (t + 1),?_,?_⟩
 ·refine ⟨_,rfl,rfl,_,rfl,?_⟩
  rw [lAt,O2]
  by_cases e4 : u = [64]
  ·rw [decide_eq_true e4]
   refine E8 ⟨_,rfl,_,rfl,?_⟩
   cases free with
   | false=>exact D7 ⟨fun z=>(by cases z.2),rfl,rfl⟩
   | true =>
    rw [if_pos ⟨e4,rfl⟩] at hp
    obtain ⟨nres,hn,rfl⟩ := hp
    refine E8 ⟨_,rfl,rd,dx,wl,ws,t + 1,nres,rfl,S1.st,hn,?_⟩
    cases nres with
    | none=>exact q1
    | some p =>
     obtain ⟨ns,r1⟩ := p
     intro v H3 t3 g3 d3 e3 lt3 le3 hv
     refine ⟨T6,fun p hp=>?_⟩
     have kp := A8 hp (.tup [.str (Str.ofString "place"),v])
     have s3 := (S1.more g3 d3).same kp
     exact q _ _ t3 s3.g s3.st e3 (by omega) le3 (TV.tup (SqT.of (by rw [A6,aW])) (TAll.cons TV.str (TAll.one (TV.kp (Kp.same kp) hv))))
  ·rw [decide_eq_false e4]
   exact D7 (D7 ⟨fun z=>e4 z.1,rfl,rfl⟩)
 rintro σ1 H1 ⟨e4,rfl,rfl⟩
 rw [if_neg e4] at hp
 refine ⟨fun σ' H'=>¬ (u = [46,46] ∧ O6 (hd (ws.drop (t + 1))) = true) ∧ σ' = [some (.ref rd),some (.bl free),some (.str (S u)),none] ∧ H' = Q0 H R rd dx wl (t + 1),?_,?_⟩
 ·refine ⟨_,rfl,rfl,_,rfl,?_⟩
  rw [gX,O2]
  by_cases e5 : u = [46,46]
  ·rw [decide_eq_true e5]
   refine E8 ⟨_,rfl,rd,dx,_,rfl,S1.st.ob,rfl,rd,dx,wl,ws,t + 1,0,rfl,S1.st,_,rfl,?_,_,rfl,?_⟩
   ·rw [mS]; exact (h.ok.small (t + 1)).1
   rw [mS]
   cases hb : O6 (hd (ws.drop (t + 1))) with
   | false=>exact D7 ⟨fun z=>(by cases z.2),rfl,rfl⟩
   | true =>
    rw [if_pos ⟨e5,hb⟩] at hp
    subst hp
    have hw := h.ok.tok _ (wT (fR hb))
    obtain ⟨i1,i2⟩ := oC (mX hw hb)
    refine E8 ⟨_,rfl,rd,dx,_,rfl,S1.st.ob,rfl,rd,dx,wl,ws,t + 1,rfl,S1.st,_,_,rfl,i1,by rw [N4]; omega,Y7,fun p hp=>?_⟩
    have s2 := (S1.up (t + 1 + 1)).same (A8 hp (.tup [.str (Str.ofString "span"),.non,.int (S9 (hd (ws.drop (t + 1))))]))
    exact q _ _ (t + 1 + 1) s2.g s2.st X4 (by omega) (dW (fR hb)) (eY A6 TV.non TV.int)
  ·rw [decide_eq_false e5]
   exact D7 (D7 ⟨fun z=>e5 z.1,rfl,rfl⟩)
 rintro σ2 H2 ⟨e5,rfl,rfl⟩
 rw [if_neg e5] at hp
 refine ⟨_,rfl,_,rfl,hsm.1,_,rfl,?_⟩
 cases hb : O6 u with
 | true =>
  rw [if_pos hb] at hp
  obtain ⟨hw,hl⟩ := hmem (fR hb)
  obtain ⟨i1,i2⟩ := oC (mX hw hb)
  refine E8 ⟨_,rfl,_,rfl,_,_,rfl,i1,by rw [N4]; omega,rd,dx,wl,ws,t + 1,S9 u,rfl,S1.st,hl,?_⟩
  have hres : res = some (lL (S9 u) (ws.drop (t + 1))) := by
   unfold lL
   split at hp
   ·split at hp
    ·rename_i a b; rw [if_pos a,if_pos b]; exact hp
    ·rename_i a b; rw [if_pos a,if_neg b]; exact hp
   ·rename_i a; rw [if_neg a]; exact hp
  subst hres
  intro v H3 t3 g3 d3 e3 lt3 le3 hv
  exact q v H3 t3 (S1.g.trans g3) d3 e3 (by omega) le3 hv
 | false =>
 rw [if_neg (by rw [hb]; decide)] at hp
 refine D7 ⟨_,rfl,_,rfl,_,rfl,P0 hsm.1,rfl,_,rfl,?_⟩
 rw [xF,AV7,O2]
 by_cases e7 : u.take 1 = [34]
 ·rw [decide_eq_true e7]
  rw [if_pos e7] at hp
  subst hp
  have une : u ≠ [] := fun z=>by rw [z] at e7; cases e7
  obtain ⟨hw,hl⟩ := hmem une
  have hlen : 2 ≤ u.length := by
   obtain ⟨b,_,e⟩ := AK8 hw e7
   rw [e]; simp
  refine E8 ⟨_,rfl,_,rfl,_,rfl,_,rfl,_,rfl,P0 hsm.1,?_⟩
  rw [show (- (1 : Int)) = -1 from rfl,AA2 u hlen]
  refine ⟨T6,fun p hp=>?_⟩
  have kp := A8 hp (.tup [.str (Str.ofString "text"),.str (S (u.drop 1).dropLast)])
  have s3 := S1.same kp
  exact q _ _ (t + 1) s3.g s3.st rfl (by omega) hl (TV.tup (SqT.of (by rw [A6,bQ])) (TAll.cons TV.str (TAll.one TV.str)))
 rw [decide_eq_false e7]
 rw [if_neg e7] at hp
 refine D7 ⟨_,rfl,gp,_,rfl,.inr (hK _),rfl,kF _,_,rfl,?_⟩
 show if cV (.str (S u)) (ST N9) = true then _ else _
 rw [iZ]
 by_cases e8 : u ∈ N9
 ·rw [decide_eq_true e8]
  rw [if_pos e8] at hp
  subst hp
  have une : u ≠ [] := fun z=>by rw [z] at e8; revert e8; decide
  obtain ⟨hw,hl⟩ := hmem une
  refine E8 ⟨_,rfl,T6,fun p hp=>?_⟩
  have kp := A8 hp (.tup [.str (Str.ofString "word"),.str (S u)])
  have s3 := S1.same kp
  exact q _ _ (t + 1) s3.g s3.st rfl (by omega) hl (TV.tup (SqT.of (by rw [A6,aE])) (TAll.cons TV.str (TAll.one TV.str)))
 ·rw [decide_eq_false e8]
  rw [if_neg e8] at hp
  subst hp
  exact D7 ⟨_,rfl,_,rfl,by rw [N4]; exact hsm.1,hsm.2,fun r=>⟨M1,q _ S1.g⟩⟩
end
end Law
namespace Law
open PySem L2 L2.Sp
structure Nm (K : PySem.W.Frag) (mg : Str → Option Value) (x : Str) (st : Stmt) (ps : List Str) : Prop where
 ex : ∃ (f : Addr) (fd : FuncData),Fun K x x st f fd ∧ mg x = some (.ref f) ∧ PySem.W.keepIn K (.ref f) = true ∧ Binds K fd ps []
section
variable {P : Program} {w : World} {K : PySem.W.Frag} {mg : Str → Option Value} {base : Heap} {f : Addr} {fd : FuncData} {R C : Addr}
theorem Nm.cal1 {x : Str} {st : Stmt} {ps : List Str} {k : Nat} {sp : Sp} (n : Nm K mg x st ps) (h : ∀ f fd,Fun K x x st f fd → FnOk P w K mg base (N0 P w) k f fd ps sp) : M0 P w K mg base k x ps sp := by
 obtain ⟨f,fd,F,a,b,c⟩ := n.ex
 exact ⟨f,fd,h f fd F,a,b,c⟩
structure Rdg (P : Program) (w : World) (K : PySem.W.Frag) (mg : Str → Option Value) (base : Heap) (R C : Addr) : Prop where
 c : RK K R
 n : NT K mg C
 nE : Nm K mg "expression" dO ["reader","free"]
 nN : Nm K mg "negated" dM ["reader","free"]
 nS : Nm K mg "single" Z5 ["reader","free"]
 nL : Nm K mg "list_tree" aS ["reader"]
 nR : Nm K mg "record_tree" dL ["reader"]
 nF : Nm K mg "field_of" aT ["reader"]
 HAS : M0 P w K mg base 4 "has_another" ["reader","close","count"] (lO R C)
 ENDT : M0 P w K mg base 4 "takes_end" ["reader","close"] (iH R C)
 NAME : M0 P w K mg base 3 "name_of" ["reader"] (cF R C)
 NS : M0 P w K mg base 4 "names_of" ["reader"] (dF K R C)
 NB : Cal P w K mg base 2 "is_number" ["word"] iG
 SP : Cal P w K mg base 3 "span_tree" ["reader","low"] (jL K R)
 ON : Cal P w K mg base 1 "one_or_several" ["word","trees"] (qF K)
 AH : T5 P w K mg base K5 R 1 "ahead" ["self","steps"] (W9 R)
 TK : T5 P w K mg base K5 R 2 "take" ["self"] (aQ R)
 TS : T5 P w K mg base K5 R 2 "takes" ["self","word"] (Z3 R)
 MU : T5 P w K mg base (N0 P w) R 3 "must_take" ["self","word"] (cH R C)
 gP : ∃ gp,mg "PLAIN_WORDS" = some (.ref gp) ∧ ∀ H : Hp,SqT K H gp (ST N9)
 m1 : mg "len" = none
 m2 : mg "tuple" = none
 m3 : mg "int" = none
 m4 : mg "range" = none
theorem sD (r : Rdg P w K mg base R C) : ∀ n,M0 P w K mg base (5 * n + 5) "expression" ["reader","free"] (lM K R C (Exn n))
 | 0=>r.nE.cal1 fun f fd F=>by
  refine Fun.ok1 F iL (fun vs H Q E h=>?_) (fun cdv A outer s H vs Q E hr h=>?_)
  ·obtain ⟨rd,dx,wl,ws,t,free,res,rfl,_⟩ := h
   rfl
  ·obtain ⟨rd,dx,wl,ws,t,free,res,rfl,_,hp,_⟩ := h
   exact hp.elim
 | n + 1=>by
  have EX := sD r n
  obtain ⟨gp,g1,g2⟩ := r.gP
  have hk : 4 ≤ 5 * n + 5 := by omega
  have LT := r.nL.cal1 (base := base) (P := P) (w := w) fun f fd F=>AC7 F EX r.HAS r.ENDT r.m1 r.m2 hk
  have FI := r.nF.cal1 (base := base) (P := P) (w := w) fun f fd F=>AC8 F r.c EX r.NAME r.TS r.MU hk
  have RT := r.nR.cal1 (base := base) (P := P) (w := w) fun f fd F=>AN0 F r.n FI r.HAS r.ENDT r.m1 r.m2 (by omega)
  have SG := r.nS.cal1 (base := base) (P := P) (w := w) fun f fd F=>yE F r.c r.n EX LT RT r.NS r.NB r.SP r.AH r.TK r.MU g1 g2 r.m3 hk
  have NG := r.nN.cal1 (base := base) (P := P) (w := w) fun f fd F=>AN5 F r.c SG r.TS r.m4 (by omega)
  exact r.nE.cal1 (base := base) (P := P) (w := w) fun f fd F=>AO1 F r.c NG r.AH r.TK r.ON (by omega)
def V9 (K : PySem.W.Frag) (C : Addr) (Y : List Wd → Option Tn → Prop) : Sp := fun args H Q E=>∃ v,args = [v] ∧ ((∃ d,DV K H d v ∧ bF d "str" = false ∧ ∀ H',Same H H' → E (.ref C) none H') ∨ ∃ l,v = .str (S l) ∧ V5 l ∧
 ((G3 l = none ∧ ∀ H',Same H H' → E (.ref C) none H') ∨ ∃ ws res,G3 l = some ws ∧ WsOk ws ∧ Y ws res ∧ match res with
  | none=>∀ H',Same H H' → E (.ref C) none H'
  | some x=>∀ u H',Same H H' → TV K H' x u → Q u H'))
theorem V2 {H H' : Hp} {rd dx : Addr} {o o' : HO} (h1 : H rd = none) (h2 : H dx = none) (g : Grow rd (D5 (D5 H dx o) rd o') H') : Same H H' := fun b u hb=>by
 have n1 := D8 hb h1
 have n2 := D8 hb h2
 refine g b u n1 ?_
 rw [B5 n1,B5 n2]; exact hb
end
end Law
namespace Law
open PySem L2 L2.Sp
section
variable {X Y : Bool → List Wd → P8 → Prop} (k : ∀ f r res,X f r res → Y f r res)
include k
theorem ItemsP.mono {n : Nat} {ts : List Tn} {r : List Wd} {res : Option (List Tn × List Wd)} (h : ItemsP X n ts r res) : ItemsP Y n ts r res := by
 induction h with
 | stop a=>exact .stop a
 | on a b _ ih=>exact .on a (k _ _ _ b) ih
 | bad a=>exact .bad a
 | worse a b=>exact .worse a (k _ _ _ b)
theorem FieldP.mono {r : List Wd} {res : Option ((Wd × Tn × Bool) × List Wd)} (h : FieldP X r res) : FieldP Y r res := by
 unfold FieldP at h ⊢
 split at h
 ·rename_i h1
  rw [if_pos h1]
  split at h
  ·rename_i h2
   rw [if_pos h2]
   split at h
   ·rename_i h3
    rw [if_pos h3]
    obtain ⟨x,a,b⟩ := h
    exact ⟨x,k _ _ _ a,b⟩
   ·rename_i h3
    rw [if_neg h3]; exact h
  ·rename_i h2
   rw [if_neg h2]
   split at h
   ·rename_i h3
    rw [if_pos h3]
    obtain ⟨x,a,b⟩ := h
    exact ⟨x,k _ _ _ a,b⟩
   ·rename_i h3
    rw [if_neg h3]; exact h
 ·rename_i h1
  rw [if_neg h1]; exact h
theorem FieldsP.mono {n : Nat} {fs : List (Wd × Tn × Bool)} {r : List Wd} {res : Option (List (Wd × Tn × Bool) × List Wd)} (h : FieldsP X n fs r res) : FieldsP Y n fs r res := by
 induction h with
 | stop a=>exact .stop a
 | on a b c _ ih=>exact .on a (FieldP.mono k b) c ih
 | bad a=>exact .bad a
 | worse a b=>exact .worse a (FieldP.mono k b)
 | twice a b c=>exact .twice a (FieldP.mono k b) c
theorem SglP.mono {free : Bool} {r : List Wd} {res : P8} (h : SglP X free r res) : SglP Y free r res := by
 unfold SglP at h ⊢
 split at h
 ·rename_i h1
  rw [if_pos h1]
  obtain ⟨x,a,b⟩ := h
  exact ⟨x,k _ _ _ a,b⟩
 rename_i h1
 rw [if_neg h1]
 split at h
 ·rename_i h2
  rw [if_pos h2]
  obtain ⟨n,x,a,b⟩ := h
  exact ⟨n,x,a.mono k,b⟩
 rename_i h2
 rw [if_neg h2]
 split at h
 ·rename_i h3
  rw [if_pos h3]
  obtain ⟨n,x,a,b⟩ := h
  exact ⟨n,x,a.mono k,b⟩
 rename_i h3
 rw [if_neg h3]
 exact h
theorem NegP.mono {free : Bool} {r : List Wd} {res : P8} (h : NegP X free r res) : NegP Y free r res := by
 obtain ⟨s,a,b⟩ := h
 exact ⟨s,a.mono k,b⟩
theorem MoreP.mono {n : Nat} {free : Bool} {as ps : List Tn} {r : List Wd} {res : P8} (h : MoreP X n free as ps r res) : MoreP Y n free as ps r res := by
 induction h with
 | stop a b=>exact .stop a b
 | and a _ ih=>exact .and (a.mono k) ih
 | or a _ ih=>exact .or (a.mono k) ih
 | bad a b=>exact .bad a (b.mono k)
theorem ExpP.mono {free : Bool} {r : List Wd} {res : P8} (h : ExpP X free r res) : ExpP Y free r res := by
 obtain ⟨s,a,b⟩ := h
 refine ⟨s,a.mono k,?_⟩
 cases s with
 | none=>exact b
 | some p =>
  obtain ⟨n,b⟩ := b
  exact ⟨n,b.mono k⟩
end
theorem Exn.succ : ∀ (n : Nat) (f : Bool) (r : List Wd) (res : P8),Exn n f r res → Exn (n + 1) f r res
 | 0,_,_,_,h=>h.elim
 | n + 1,f,r,res,h=>ExpP.mono (Exn.succ n) h
theorem Exn.mono {m n : Nat} (h : m ≤ n) {f : Bool} {r : List Wd} {res : P8} (x : Exn m f r res) : Exn n f r res := by
 induction h with
 | refl=>exact x
 | step _ ih=>exact Exn.succ _ _ _ _ ih
def vQ : List Wd := [[41],[93],[125],[44],[38],[124],[101,108,115,101]]
def wV : List Wd := [[41],[93],[125],[44],[101,108,115,101]]
def TS (r : List Wd) : Prop := hd r ≠ [46,46] ∧ hd r ≠ [46] ∧ O6 (hd r) = false
def ES (r : List Wd) : Prop := TS r ∧ hd r ≠ [38] ∧ hd r ≠ [124]
theorem ES.ts {r : List Wd} (h : ES r) : TS r := h.1
theorem TS.no {r : List Wd} (h : TS r) : hd r ≠ [46,46] ∧ hd r ≠ [46] ∧ O6 (hd r) = false := h
theorem ES.no {r : List Wd} (h : ES r) : hd r ≠ [38] ∧ hd r ≠ [124] := h.2
theorem zZ : ∀ x ∈ vQ,x ≠ [46,46] ∧ x ≠ [46] ∧ O6 x = false := by decide
theorem AF9 : ∀ x ∈ wV,(x ≠ [46,46] ∧ x ≠ [46] ∧ O6 x = false) ∧ x ≠ [38] ∧ x ≠ [124] := by decide
theorem TS.of {u : Wd} {r : List Wd} (h : u ∈ vQ) : TS (u :: r) := zZ u h
theorem ES.of {u : Wd} {r : List Wd} (h : u ∈ wV) : ES (u :: r) := AF9 u h
theorem ES.nil : ES [] := ⟨⟨by decide,by decide,rfl⟩,by decide,by decide⟩
def tails (s : Wd) (rows : List (List Wd)) : List Wd := rows.flatMap (s :: ·)
def G2 (s : Wd) : List (List Wd) → List Wd
 | []=>[]
 | r :: rs=>r ++ tails s rs
theorem N2 (s : Wd) (r : List Wd) (rs : List (List Wd)) : tails s (r :: rs) = s :: (r ++ tails s rs) := by simp [tails]
theorem TS.tails {s : Wd} {rows : List (List Wd)} {r : List Wd} (hs : s ∈ vQ) (h : TS r) : TS (tails s rows ++ r) := by
 cases rows with
 | nil=>exact h
 | cons x xs=>rw [N2]; exact TS.of hs
section
variable {X : Bool → List Wd → P8 → Prop} {free : Bool}
def NegAble (X : Bool → List Wd → P8 → Prop) (free : Bool) (x : Tn) (row : List Wd) : Prop := ∀ rest,TS rest → NegP X free (row ++ rest) (some (x,rest))
def ExpAble (X : Bool → List Wd → P8 → Prop) (free : Bool) (x : Tn) (row : List Wd) : Prop := ∀ rest,ES rest → X free (row ++ rest) (some (x,rest))
inductive All2 {α β : Type} (F : α → β → Prop) : List α → List β → Prop
 | nil : All2 F [] []
 | cons {a b as bs} : F a b → All2 F as bs → All2 F (a :: as) (b :: bs)
theorem All2.imp {α β : Type} {F G : α → β → Prop} {as : List α} {bs : List β} (h : All2 F as bs) (k : ∀ a ∈ as,∀ b,F a b → G a b) : All2 G as bs := by
 induction h with
 | nil=>exact .nil
 | cons a _ ih=>exact .cons (k _ (by simp) _ a) (ih fun x hx=>k x (by simp [hx]))
theorem All2.length {α β : Type} {F : α → β → Prop} {as : List α} {bs : List β} (h : All2 F as bs) : as.length = bs.length := by
 induction h with
 | nil=>rfl
 | cons _ _ ih=>simp [ih]
theorem All2.snoc {α β : Type} {F : α → β → Prop} {as : List α} {bs : List β} {a : α} {b : β} (h : All2 F as bs) (h' : F a b) : All2 F (as ++ [a]) (bs ++ [b]) := by
 induction h with
 | nil=>exact .cons h' .nil
 | cons x _ ih=>exact .cons x ih
theorem oN {alts : List Tn} {r : List Wd} {res : P8} (hr : TS r) : ∀ {ys : List Tn} {rows : List (List Wd)} {parts : List Tn} {k : Nat},All2 (NegAble X free) ys rows → MoreP X k free alts (parts ++ ys) r res → ∃ k',MoreP X k' free alts parts (tails [38] rows ++ r) res
 | _,_,parts,k,.nil,h=>⟨k,by simpa [tails] using h⟩
 | _,_,parts,k,@All2.cons _ _ _ y row ys rows a as,h=>by
  obtain ⟨k',h'⟩ := oN hr (parts := parts ++ [y]) as (by simpa using h)
  refine ⟨k' + 1,?_⟩
  rw [N2,List.cons_append,List.append_assoc]
  exact .and (a _ (TS.tails (by decide) hr)) h'
def AndAble (X : Bool → List Wd → P8 → Prop) (free : Bool) (x : Tn) (g : List Wd) : Prop := ∃ y ys row rows,one Q6 (y :: ys) = x ∧ NegAble X free y row ∧ All2 (NegAble X free) ys rows ∧ g = row ++ tails [38] rows
theorem yA {rest : List Wd} (hr : ES rest) : ∀ {xs : List Tn} {gs : List (List Wd)} {alts parts : List Tn},All2 (AndAble X free) xs gs → ∃ k,MoreP X k free alts parts (tails [124] gs ++ rest) (some (one W6 (alts ++ [one Q6 parts] ++ xs),rest))
 | _,_,alts,parts,.nil=>⟨0,by
  rw [List.append_nil]
  exact .stop hr.no.1 hr.no.2⟩
 | _,_,alts,parts,@All2.cons _ _ _ x g xs gs a as=>by
  obtain ⟨y,ys,row,rows,e,h1,h2,rfl⟩ := a
  obtain ⟨k,hk⟩ := yA hr (alts := alts ++ [one Q6 parts]) (parts := [y] ++ ys) as
  have hts : TS (tails [124] gs ++ rest) := TS.tails (by decide) hr.ts
  obtain ⟨k',hk'⟩ := oN hts (parts := [y]) h2 hk
  refine ⟨k' + 1,?_⟩
  have e2 : one Q6 ([y] ++ ys) = x := e
  rw [e2] at hk'
  rw [N2,List.cons_append,List.append_assoc,List.append_assoc]
  have := MoreP.or (alts := alts) (parts := parts) (h1 _ (TS.tails (s := [38]) (rows := rows) (by decide) hts)) hk'
  simpa using this
theorem zB {x : Tn} {g : List Wd} {xs : List Tn} {gs : List (List Wd)} (h : AndAble X free x g) (hs : All2 (AndAble X free) xs gs) : ExpAble (ExpP X) free (one W6 (x :: xs)) (g ++ tails [124] gs) := fun rest hr=>by
 obtain ⟨y,ys,row,rows,e,h1,h2,rfl⟩ := h
 obtain ⟨k,hk⟩ := yA hr (alts := []) (parts := [y] ++ ys) hs
 have hts : TS (tails [124] gs ++ rest) := TS.tails (by decide) hr.ts
 obtain ⟨k',hk'⟩ := oN hts (parts := [y]) h2 hk
 have e2 : one Q6 ([y] ++ ys) = x := e
 rw [e2] at hk'
 refine ⟨some (y,tails [38] rows ++ (tails [124] gs ++ rest)),?_,k',hk'⟩
 have := h1 _ (TS.tails (s := [38]) (rows := rows) (by decide) hts)
 simpa using this
theorem oH {x : Tn} {g : List Wd} (h : AndAble X free x g) : ExpAble (ExpP X) free x g := fun rest hr=>by
 have := zB h .nil rest hr
 simpa [tails,one] using this
theorem NegAble.and {x : Tn} {row : List Wd} (h : NegAble X free x row) : AndAble X free x row := ⟨x,[],row,[],rfl,h,.nil,by simp [tails]⟩
theorem eJ {u : Wd} {r : List Wd} {res : P8} (hu : u ≠ [33]) (h : SglP X free (u :: r) res) : NegP X free (u :: r) res := by
 have e : Q9 (u :: r) = 0 := by unfold Q9; rw [List.takeWhile_cons_of_neg (by simpa using hu)]; rfl
 refine ⟨res,?_,?_⟩
 ·rw [e]; simpa using h
 ·rw [e]; cases res <;> rfl
theorem BF9 {x : Tn} {row : List Wd} (h : NegAble X false x row) : NegAble X free (.tup [.str eM,x]) ([33] :: row) := fun rest hr=>by
 obtain ⟨s,a,b⟩ := h rest hr
 have e : Q9 ([33] :: (row ++ rest)) = Q9 (row ++ rest) + 1 := by unfold Q9; rw [List.takeWhile_cons_of_pos (by decide)]; rfl
 cases s with
 | none=>cases b
 | some p =>
  obtain ⟨y,r⟩ := p
  simp only [Option.map_some,Option.some.injEq,Prod.mk.injEq] at b
  obtain ⟨b1,b2⟩ := b
  subst b2 b1
  refine ⟨some (y,rest),?_,?_⟩
  ·show SglP X (free && decide (Q9 ([33] :: (row ++ rest)) = 0)) (([33] :: (row ++ rest)).drop (Q9 ([33] :: (row ++ rest)))) _
   rw [e]
   simpa using a
  ·show some (_,rest) = some (wK (Q9 ([33] :: (row ++ rest))) y,rest)
   rw [e]; rfl
theorem iJ {x : Tn} {row : List Wd} (h : ExpAble X free x row) : NegAble X free x ([40] :: (row ++ [[41]])) := fun rest hr=>by
 refine eJ (by decide) ?_
 unfold SglP
 refine M3 (show hd _ = [40] from rfl) ⟨some (x,[41] :: rest),?_,rfl⟩
 have := h ([41] :: rest) (ES.of (by decide))
 simpa using this
end
end Law
namespace Law
open PySem L2 L2.Sp
section
variable {X : Bool → List Wd → P8 → Prop} {free : Bool}
theorem rZ : ∀ u ∈ N9,u ≠ [40] ∧ u ≠ [91] ∧ u ≠ [123] ∧ u ≠ [64] ∧ u ≠ [46,46] ∧ u ≠ [33] ∧ O6 u = false ∧ u.take 1 ≠ [34] := by decide
theorem X1 {u : Wd} (h : O6 u = true) : u ≠ [40] ∧ u ≠ [91] ∧ u ≠ [123] ∧ u ≠ [64] ∧ u ≠ [46,46] ∧ u ≠ [33] ∧ u ≠ [93] ∧ u ≠ [125] ∧ u ≠ [44] := by
 refine ⟨?_,?_,?_,?_,?_,?_,?_,?_,?_⟩ <;> (rintro rfl; cases h)
theorem AD4 {u : Wd} (h : u ∈ N9) : NegAble X free (.tup [.str gY,.str u]) [u] := fun rest _=>by
 obtain ⟨h1,h2,h3,h4,h5,h6,h7,h8⟩ := rZ u h
 refine eJ h6 ?_
 unfold SglP
 exact J1 h1 (J1 h2 (J1 h3 (J1 (fun z=>h4 z.1) (J1 (fun z=>h5 z.1) (J1 (show ¬ O6 u = true by rw [h7]; decide) (J1 h8 (M3 h rfl)))))))
theorem AO7 {u : Wd} (h : O6 u = true) : NegAble X free (R6 (.int (S9 u)) (.int (S9 u))) [u] := fun rest hr=>by
 obtain ⟨h1,h2,h3,h4,h5,h6,_⟩ := X1 h
 refine eJ h6 ?_
 unfold SglP
 exact J1 h1 (J1 h2 (J1 h3 (J1 (fun z=>h4 z.1) (J1 (fun z=>h5 z.1) (M3 h (J1 hr.no.1 rfl))))))
theorem AD8 {u : Wd} (h : O6 u = true) : NegAble X free (R6 (.int (S9 u)) .non) [u,[46,46]] := fun rest hr=>by
 obtain ⟨h1,h2,h3,h4,h5,h6,_⟩ := X1 h
 refine eJ h6 ?_
 unfold SglP
 exact J1 h1 (J1 h2 (J1 h3 (J1 (fun z=>h4 z.1) (J1 (fun z=>h5 z.1) (M3 h (M3 rfl (J1 (show ¬ O6 (hd rest) = true by rw [hr.no.2.2]; decide) rfl)))))))
theorem AO5 {u v : Wd} (h : O6 u = true) (hv : O6 v = true) : NegAble X free (R6 (.int (S9 u)) (.int (S9 v))) [u,[46,46],v] := fun rest hr=>by
 obtain ⟨h1,h2,h3,h4,h5,h6,_⟩ := X1 h
 refine eJ h6 ?_
 unfold SglP
 exact J1 h1 (J1 h2 (J1 h3 (J1 (fun z=>h4 z.1) (J1 (fun z=>h5 z.1) (M3 h (M3 rfl (M3 hv rfl)))))))
theorem AD5 {v : Wd} (hv : O6 v = true) : NegAble X free (R6 .non (.int (S9 v))) [[46,46],v] := fun rest hr=>by
 refine eJ (by decide) ?_
 unfold SglP
 exact J1 (show ([46,46] : Wd) ≠ [40] by decide) (J1 (show ([46,46] : Wd) ≠ [91] by decide) (J1 (show ([46,46] : Wd) ≠ [123] by decide) (J1 (fun z=>(show ([46,46] : Wd) ≠ [64] by decide) z.1) (M3 ⟨rfl,hv⟩ rfl))))
theorem AD6 {b : List Nat} : NegAble X free (.tup [.str dU,.str b]) [34 :: (b ++ [34])] := fun rest hr=>by
 have no : ∀ u : Wd,u.length ≤ 2 → u.head? ≠ some 34 → (34 :: (b ++ [34]) : Wd) ≠ u := fun u _ h2 e=>h2 (by rw [← e]; rfl)
 refine eJ (no _ (by decide) (by decide)) ?_
 unfold SglP
 refine J1 (no _ (by decide) (by decide)) (J1 (no _ (by decide) (by decide)) (J1 (no _ (by decide) (by decide)) (J1 (fun z=>no _ (by decide) (by decide) z.1) (J1 (fun z=>no _ (by decide) (by decide) z.1) (J1 (by show ¬ O6 (34 :: (b ++ [34])) = true; intro z; cases z) (M3 rfl ?_))))))
 show _ = some (Tn.tup [.str dU,.str (b ++ [34]).dropLast],rest)
 rw [List.dropLast_concat]
def G1 (ns : List Wd) : List Wd := G2 [46] (ns.map ([·]))
theorem iU {rest : List Wd} (hr : hd rest ≠ [46]) : ∀ {ns : List Wd} {ns0 : List Wd},(∀ n ∈ ns,E9 n = true) → ∃ k,W8 k ns0 (tails [46] (ns.map ([·])) ++ rest) (some (ns0 ++ ns,rest))
 | [],ns0,_=>⟨0,by rw [List.append_nil]; exact .stop hr⟩
 | n :: ns,ns0,h=>by
  obtain ⟨k,hk⟩ := iU hr (ns := ns) (ns0 := ns0 ++ [n]) fun x hx=>h x (by simp [hx])
  refine ⟨k + 1,?_⟩
  rw [List.map_cons,N2]
  have := W8.on (ns := ns0) (h n (by simp)) hk
  simpa using this
theorem pI {ns : List Wd} (h0 : ns ≠ []) (h : ∀ n ∈ ns,E9 n = true) : NegAble X true (.tup [.str cU,.tup (ns.map Tn.str)]) ([64] :: G1 ns) := fun rest hr=>by
 refine eJ (by decide) ?_
 unfold SglP
 refine J1 (show ([64] : Wd) ≠ [40] by decide) (J1 (show ([64] : Wd) ≠ [91] by decide) (J1 (show ([64] : Wd) ≠ [123] by decide) (M3 ⟨rfl,rfl⟩ ⟨some (ns,rest),?_,rfl⟩)))
 obtain ⟨n,ns,rfl⟩ := List.exists_cons_of_ne_nil h0
 obtain ⟨k,hk⟩ := iU hr.no.2.1 (ns := ns) (ns0 := [n]) fun x hx=>h x (by simp [hx])
 unfold R0
 refine M3 (show E9 n = true from h n (by simp)) ⟨k,?_⟩
 exact hk
structure HeadOk (row : List Wd) : Prop where
 ex : ∃ u r,row = u :: r ∧ u ≠ [93] ∧ u ≠ [125] ∧ (u = [46,46] → ∃ v r',r = v :: r' ∧ O6 v = true)
def K1 (m : Bool) : List (List Wd) := if m then [[[46,46]]] else []
def T3 (m : Bool) : List Wd := if m then [[46,46]] else []
theorem sS {c : Wd} (hc : c ≠ [46,46]) (m : Bool) (rest : List Wd) : bG c (T3 m ++ c :: rest) = some (m,rest) := by
 unfold bG
 cases m with
 | true=>rw [if_pos (show hd (T3 true ++ c :: rest) = [46,46] from rfl),if_pos (show hd (T3 true ++ c :: rest).tail = c from rfl)]; rfl
 | false=>rw [if_neg (show hd (T3 false ++ c :: rest) ≠ [46,46] from hc),if_pos (show hd (T3 false ++ c :: rest) = c from rfl)]; rfl
theorem uW {c : Wd} (hc : c = [93] ∨ c = [125]) {row rest : List Wd} (h : HeadOk row) : R3 c 0 (row ++ rest) = some (true,row ++ rest) := by
 obtain ⟨u,r,rfl,h1,h2,h3⟩ := h.ex
 have hu : u ≠ c := by rcases hc with rfl | rfl <;> assumption
 unfold R3
 rw [if_neg (show hd (u :: r ++ rest) ≠ c from hu),if_neg (by decide)]
 congr 2
 by_cases e : u = [46,46]
 ·obtain ⟨v,r',rfl,hv⟩ := h3 e
  have : v ≠ c := by
   rcases hc with rfl | rfl
   ·exact (X1 hv).2.2.2.2.2.2.1
   ·exact (X1 hv).2.2.2.2.2.2.2.1
  show (!(decide (u = [46,46]) && decide (v = c))) = true
  rw [decide_eq_false this,Bool.and_false]; rfl
 ·show (!(decide (u = [46,46]) && _)) = true
  rw [decide_eq_false e,Bool.false_and]; rfl
theorem uX {c : Wd} (hc : c = [93] ∨ c = [125]) {n : Nat} (hn : 0 < n) {row rest : List Wd} (h : HeadOk row) : R3 c n ([44] :: (row ++ rest)) = some (true,row ++ rest) := by
 obtain ⟨u,r,rfl,h1,h2,h3⟩ := h.ex
 have h0 : ([44] : Wd) ≠ c := by rcases hc with rfl | rfl <;> decide
 unfold R3
 rw [if_neg (show hd ([44] :: (u :: r ++ rest)) ≠ c from h0),if_pos hn,if_pos (show hd ([44] :: (u :: r ++ rest)) = [44] from rfl)]
 congr 2
 by_cases e : u = [46,46]
 ·obtain ⟨v,r',rfl,hv⟩ := h3 e
  have : v ≠ c := by
   rcases hc with rfl | rfl
   ·exact (X1 hv).2.2.2.2.2.2.1
   ·exact (X1 hv).2.2.2.2.2.2.2.1
  show (!(decide (u = [46,46]) && decide (v = c))) = true
  rw [decide_eq_false this,Bool.and_false]; rfl
 ·show (!(decide (u = [46,46]) && _)) = true
  rw [decide_eq_false e,Bool.false_and]; rfl
theorem sP {c : Wd} (hc : c = [93] ∨ c = [125]) (m : Bool) (rest : List Wd) : R3 c 0 (T3 m ++ c :: rest) = some (false,T3 m ++ c :: rest) := by
 unfold R3
 cases m with
 | false=>rw [if_pos (show hd (T3 false ++ c :: rest) = c from rfl)]
 | true =>
  have h0 : ([46,46] : Wd) ≠ c := by rcases hc with rfl | rfl <;> decide
  rw [if_neg (show hd (T3 true ++ c :: rest) ≠ c from h0),if_neg (by decide)]
  congr 2
  show (!(decide (([46,46] : Wd) = [46,46]) && decide (c = c))) = false
  simp
theorem sO {c : Wd} (hc : c = [93] ∨ c = [125]) {n : Nat} (hn : 0 < n) (m : Bool) (rest : List Wd) : R3 c n (tails [44] (K1 m) ++ c :: rest) = some (false,T3 m ++ c :: rest) := by
 cases m with
 | false =>
  unfold R3
  rw [if_pos (show hd (tails [44] (K1 false) ++ c :: rest) = c from rfl)]
  rfl
 | true =>
  have h0 : ([44] : Wd) ≠ c := by rcases hc with rfl | rfl <;> decide
  show R3 c n ([44] :: [46,46] :: c :: rest) = some (false,[46,46] :: c :: rest)
  unfold R3
  rw [if_neg (show hd ([44] :: [46,46] :: c :: rest) ≠ c from h0),if_pos hn,if_pos (show hd ([44] :: [46,46] :: c :: rest) = [44] from rfl)]
  congr 2
  show (!(decide (([46,46] : Wd) = [46,46]) && decide (c = c))) = false
  simp
theorem hJ {c : Wd} (hc : c ∈ wV) {rows : List (List Wd)} {rest : List Wd} : ES (tails [44] rows ++ c :: rest) := by
 cases rows with
 | nil=>exact ES.of hc
 | cons r rs=>rw [N2]; exact ES.of (by decide)
theorem mH {m : Bool} {rest : List Wd} : ∀ {ts : List Tn} {rows : List (List Wd)} {ts0 : List Tn},0 < ts0.length → All2 (ExpAble X false) ts rows → (∀ row ∈ rows,HeadOk row) → ∃ k,ItemsP X k ts0 (tails [44] (rows ++ K1 m) ++ [93] :: rest) (some (ts0 ++ ts,T3 m ++ [93] :: rest))
 | _,_,ts0,hn,.nil,_=>⟨0,by
  rw [List.append_nil,List.nil_append]
  exact .stop (sO (.inl rfl) hn m rest)⟩
 | _,_,ts0,hn,@All2.cons _ _ _ t row ts rows a as,hh=>by
  obtain ⟨k,hk⟩ := mH (m := m) (rest := rest) (ts0 := ts0 ++ [t]) (by simp) as fun x hx=>hh x (by simp [hx])
  refine ⟨k + 1,?_⟩
  rw [List.cons_append,N2,List.cons_append,List.append_assoc]
  have := ItemsP.on (uX (.inl rfl) hn (hh row (by simp))) (a _ (hJ (by decide))) hk
  simpa using this
theorem AD7 {ts : List Tn} {rows : List (List Wd)} {m : Bool} (h : All2 (ExpAble X false) ts rows) (hh : ∀ row ∈ rows,HeadOk row) : NegAble X free (.tup [.str aF,.tup ts,.bl m]) ([91] :: (G2 [44] (rows ++ K1 m) ++ [[93]])) := fun rest hr=>by
 refine eJ (by decide) ?_
 unfold SglP
 refine J1 (show ([91] : Wd) ≠ [40] by decide) (M3 rfl ?_)
 show mU X (G2 [44] (rows ++ K1 m) ++ [[93]] ++ rest) _
 have e0 : G2 [44] (rows ++ K1 m) ++ [[93]] ++ rest = G2 [44] (rows ++ K1 m) ++ [93] :: rest := by simp
 rw [e0]
 have fin : ∀ k,ItemsP X k [] (G2 [44] (rows ++ K1 m) ++ [93] :: rest) (some (ts,T3 m ++ [93] :: rest)) → mU X (G2 [44] (rows ++ K1 m) ++ [93] :: rest) (some (.tup [.str aF,.tup ts,.bl m],rest)) := fun k hk=>⟨k,_,hk,by
  show _ = (bG [93] (T3 m ++ [93] :: rest)).map _
  rw [sS (by decide)]; rfl⟩
 cases h with
 | nil =>
  refine fin 0 ?_
  have e1 : G2 [44] ([] ++ K1 m) ++ [93] :: rest = T3 m ++ [93] :: rest := by cases m <;> rfl
  rw [e1]
  exact .stop (sP (.inl rfl) m rest)
 | @cons t row ts rows a as =>
  obtain ⟨k,hk⟩ := mH (m := m) (rest := rest) (ts0 := [t]) (by simp) as fun x hx=>hh x (by simp [hx])
  refine fin (k + 1) ?_
  rw [List.cons_append]
  show ItemsP X (k + 1) [] (row ++ tails [44] (rows ++ K1 m) ++ [93] :: rest) _
  rw [List.append_assoc]
  exact ItemsP.on (uW (.inl rfl) (hh row (by simp))) (a _ (hJ (by decide))) hk
def Y1 (n : Wd) (must : Bool) (row : List Wd) : List Wd := [n] ++ (if must then [] else [[63]]) ++ [[58]] ++ row
theorem sQ {n : Wd} {must : Bool} {t : Tn} {row : List Wd} (hn : E9 n = true) (h : ExpAble X false t row) {rest : List Wd} (hr : ES rest) : FieldP X (Y1 n must row ++ rest) (some ((n,t,must),rest)) := by
 unfold FieldP
 refine M3 (show E9 n = true from hn) ?_
 cases must with
 | true=>exact J1 (show ([58] : Wd) ≠ [63] by decide) (M3 rfl ⟨_,h rest hr,rfl⟩)
 | false=>exact M3 rfl (M3 rfl ⟨_,h rest hr,rfl⟩)
theorem mP {n : Wd} {must : Bool} {row : List Wd} (hn : E9 n = true) : HeadOk (Y1 n must row) := ⟨⟨n,_,rfl,(by rintro rfl; cases hn),(by rintro rfl; cases hn),(by rintro rfl; cases hn)⟩⟩
def AZ2 (X : Bool → List Wd → P8 → Prop) (f : Wd × Tn × Bool) (row : List Wd) : Prop := ∃ r,row = Y1 f.1 f.2.2 r ∧ E9 f.1 = true ∧ ExpAble X false f.2.1 r
theorem kK {m : Bool} {rest : List Wd} : ∀ {fs : List (Wd × Tn × Bool)} {rows : List (List Wd)} {fs0 : List (Wd × Tn × Bool)},0 < fs0.length → All2 (AZ2 X) fs rows → ((fs0 ++ fs).map (·.1)).Nodup → ∃ k,FieldsP X k fs0 (tails [44] (rows ++ K1 m) ++ [125] :: rest) (some (fs0 ++ fs,T3 m ++ [125] :: rest))
 | _,_,fs0,hn,.nil,_=>⟨0,by
  rw [List.append_nil,List.nil_append]
  exact .stop (sO (.inr rfl) hn m rest)⟩
 | _,_,fs0,hn,@All2.cons _ _ _ f row fs rows a as,hh=>by
  obtain ⟨k,hk⟩ := kK (m := m) (rest := rest) (fs0 := fs0 ++ [f]) (by simp) as (by simpa using hh)
  refine ⟨k + 1,?_⟩
  obtain ⟨r,rfl,h1,h2⟩ := a
  rw [List.cons_append,N2,List.cons_append,List.append_assoc]
  have hnot : f.1 ∉ fs0.map (·.1) := by
   rw [List.map_append,List.map_cons,List.nodup_append] at hh
   intro z
   exact hh.2.2 f.1 z f.1 (by simp) rfl
  have := FieldsP.on (uX (.inr rfl) hn (mP h1)) (sQ h1 h2 (hJ (by decide))) hnot hk
  simpa using this
theorem AO6 {fs : List (Wd × Tn × Bool)} {rows : List (List Wd)} {m : Bool} (h : All2 (AZ2 X) fs rows) (hh : (fs.map (·.1)).Nodup) : NegAble X free (.tup [.str bE,.tup (fs.map Y9),.bl m]) ([123] :: (G2 [44] (rows ++ K1 m) ++ [[125]])) := fun rest hr=>by
 refine eJ (by decide) ?_
 unfold SglP
 refine J1 (show ([123] : Wd) ≠ [40] by decide) (J1 (show ([123] : Wd) ≠ [91] by decide) (M3 rfl ?_))
 show tD X (G2 [44] (rows ++ K1 m) ++ [[125]] ++ rest) _
 have e0 : G2 [44] (rows ++ K1 m) ++ [[125]] ++ rest = G2 [44] (rows ++ K1 m) ++ [125] :: rest := by simp
 rw [e0]
 have fin : ∀ k,FieldsP X k [] (G2 [44] (rows ++ K1 m) ++ [125] :: rest) (some (fs,T3 m ++ [125] :: rest)) → tD X (G2 [44] (rows ++ K1 m) ++ [125] :: rest) (some (.tup [.str bE,.tup (fs.map Y9),.bl m],rest)) := fun k hk=>⟨k,_,hk,by
  show _ = (bG [125] (T3 m ++ [125] :: rest)).map _
  rw [sS (by decide)]; rfl⟩
 cases h with
 | nil =>
  refine fin 0 ?_
  have e1 : G2 [44] ([] ++ K1 m) ++ [125] :: rest = T3 m ++ [125] :: rest := by cases m <;> rfl
  rw [e1]
  exact .stop (sP (.inr rfl) m rest)
 | @cons f row fs rows a as =>
  obtain ⟨k,hk⟩ := kK (m := m) (rest := rest) (fs0 := [f]) (by simp) as (by simpa using hh)
  refine fin (k + 1) ?_
  obtain ⟨r,rfl,h1,h2⟩ := a
  rw [List.cons_append]
  show FieldsP X (k + 1) [] (Y1 f.1 f.2.2 r ++ tails [44] (rows ++ K1 m) ++ [125] :: rest) _
  rw [List.append_assoc]
  exact FieldsP.on (uW (.inr rfl) (mP h1)) (sQ h1 h2 (hJ (by decide))) (by simp) hk
end
end Law
namespace Law
open PySem L2 L2.Sp
def V7 (n : Int) : Wd := (Str.ofString (toString n)).cps.toList
theorem AY3 (n : Int) : S (V7 n) = Str.ofString (toString n) := rfl
def R7 (m : Nat) : Wd := (Nat.toDigits 10 m).map Char.toNat
theorem gO (m : Nat) : V7 (m : Int) = R7 m := PySem.W.KIN.signs_num m
theorem gK (m : Nat) : V7 (Int.negSucc m) = 45 :: R7 (m + 1) := by
 unfold V7
 rw [PyProof.Rows.signs_ofString]
 have e : toString (Int.negSucc m) = "-" ++ Nat.repr (m + 1) := rfl
 rw [e,String.toList_append,Nat.toList_repr,List.map_append]
 rfl
theorem qT (m : Nat) : ∀ c ∈ R7 m,L9 c = true := fun c hc=>by
 obtain ⟨ch,hch,e⟩ := List.mem_map.mp hc
 have r := PyProof.Rows.digit_range (Nat.isDigit_of_mem_toDigits (by decide) (by decide) hch)
 rw [← e]
 unfold L9
 simp only [Bool.and_eq_true,decide_eq_true_eq]
 exact r
theorem jA (m : Nat) : R7 m ≠ [] := fun e=>by
 have h := PyProof.Rows.tDigits_len_ge 10 m
 rw [List.map_eq_nil_iff.mp e] at h
 exact absurd h (by decide)
theorem sU (m : Nat) : (R7 m).head? ≠ some 48 ∨ R7 m = [48] := by
 induction m using Nat.strongRecOn with
 | _ m ih =>
  by_cases h : m < 10
  ·have : ∀ m,m < 10 → (R7 m).head? ≠ some 48 ∨ R7 m = [48] := by decide +kernel
   exact this m h
  ·have hm : m % 10 < 10 := Nat.mod_lt m (by decide)
   have t : Nat.toDigits 10 (m / 10) ++ Nat.toDigits 10 (m % 10) = Nat.toDigits 10 (10 * (m / 10) + m % 10) := Nat.toDigits_append_toDigits (by decide) (by omega) hm
   rw [Nat.div_add_mod] at t
   have e : R7 m = R7 (m / 10) ++ R7 (m % 10) := by unfold R7; rw [← t,List.map_append]
   have hne := jA (m / 10)
   refine .inl ?_
   rw [e]
   obtain ⟨c,r,er⟩ := List.exists_cons_of_ne_nil hne
   rcases ih (m / 10) (by omega) with hh | hh
   ·rw [er] at hh ⊢; exact hh
   ·exfalso
    have hv := PySem.W.KIN.val_back (m / 10)
    have hh' : (Nat.toDigits 10 (m / 10)).map Char.toNat = [48] := hh
    rw [hh'] at hv
    have : PySem.NumText.digitsVal [48] = 0 := rfl
    omega
theorem kH {m k : Nat} (hk : 1 ≤ k) (h : m < 10 ^ k) : (R7 m).length ≤ k := by
 unfold R7
 rw [List.length_map]
 exact PyProof.Rows.digits10_le hk h
theorem AD0 {n : Int} (h : n.natAbs < 10 ^ 60) : Num (V7 n) := by
 cases n with
 | ofNat m =>
  have e : V7 (Int.ofNat m) = R7 m := gO m
  refine ⟨[],R7 m,e,.inl rfl,jA m,qT m,kH (by decide) h,?_⟩
  rw [e]; exact sU m
 | negSucc m =>
  have e := gK m
  refine ⟨[45],R7 (m + 1),by rw [e]; rfl,.inr rfl,jA _,qT _,kH (by decide) h,?_⟩
  rcases sU (m + 1) with hh | hh
  ·exact .inl hh
  ·exfalso
   have hv := PySem.W.KIN.val_back (m + 1)
   have hh' : (Nat.toDigits 10 (m + 1)).map Char.toNat = [48] := hh
   rw [hh'] at hv
   have : PySem.NumText.digitsVal [48] = 0 := rfl
   omega
theorem uZ (m : Nat) : oG (R7 m) = m := PySem.W.KIN.val_back m
theorem aV (n : Int) : O6 (V7 n) = true := by
 cases n with
 | ofNat m =>
  have e : V7 (Int.ofNat m) = R7 m := gO m
  rw [e]
  obtain ⟨c,r,er⟩ := List.exists_cons_of_ne_nil (jA m)
  have := qT m c (by rw [er]; simp)
  rw [er]
  show (decide (c = 45) || L9 c) = true
  rw [this,Bool.or_true]
 | negSucc m=>rw [gK]; rfl
theorem iT (n : Int) : S9 (V7 n) = n := by
 cases n with
 | ofNat m =>
  have e : V7 (Int.ofNat m) = R7 m := gO m
  rw [e]
  obtain ⟨c,r,er⟩ := List.exists_cons_of_ne_nil (jA m)
  have hc := fW (qT m c (by rw [er]; simp))
  have e2 : S9 (R7 m) = (oG (R7 m) : Int) := by
   rw [er]
   unfold S9
   split
   ·rename_i heq; cases heq; omega
   ·rfl
  rw [e2,uZ]; rfl
 | negSucc m =>
  rw [gK]
  show -((oG (R7 (m + 1)) : Nat) : Int) = _
  rw [uZ]; rfl
structure P9 (n : Wd) : Prop where
 nm : E9 n = true
 len : n.length ≤ 20
def oI : Option Int → Tn
 | none=>.non
 | some i=>.int i
def bB (i : Int) : Prop := i.natAbs < 10 ^ 53
theorem AD1 {i : Int} (h : bB i) : (V7 i).length ≤ 54 := by
 cases i with
 | ofNat m =>
  have e : V7 (Int.ofNat m) = R7 m := gO m
  rw [e]
  have := kH (m := m) (k := 53) (by decide) h
  omega
 | negSucc m =>
  rw [gK,List.length_cons]
  have := kH (m := m + 1) (k := 53) (by decide) h
  omega
inductive bA : Tn → Prop
 | word {u} : u ∈ N9 → bA (.tup [.str gY,.str u])
 | span {a b} : (a ≠ none ∨ b ≠ none) → (∀ i,a = some i → bB i) → (∀ i,b = some i → bB i) → bA (R6 (oI a) (oI b))
 | text {b} : (∀ c ∈ b,T4 c = true) → b.length ≤ 20 → bA (.tup [.str dU,.str b])
inductive tE : Tn → Prop
 | mk {ns : List Wd} : ns ≠ [] → ns.length ≤ 4 → (∀ n ∈ ns,P9 n) → tE (.tup [.str cU,.tup (ns.map Tn.str)])
def GT (mx : Nat → Nat) : Nat → Bool → Tn → Prop
 | 0,pl,x=>bA x ∨ (pl = true ∧ tE x)
 | n + 1,pl,x=>bA x ∨ (pl = true ∧ tE x) ∨
  (∃ ts m,x = .tup [.str aF,.tup ts,.bl m] ∧ ts.length ≤ mx (n + 1) ∧ ∀ t ∈ ts,GT mx n false t) ∨
  (∃ (fs : List (Wd × Tn × Bool)) (m : Bool),x = .tup [.str bE,.tup (fs.map Y9),.bl m] ∧ fs.length ≤ mx (n + 1) ∧ (fs.map (·.1)).Nodup ∧ ∀ f ∈ fs,P9 f.1 ∧ GT mx n false f.2.1) ∨
  (∃ t,x = .tup [.str eM,t] ∧ GT mx n false t) ∨
  (∃ k ts,(k = Q6 ∨ k = W6) ∧ x = .tup [.str k,.tup ts] ∧ 2 ≤ ts.length ∧ ts.length ≤ mx (n + 1) ∧ ∀ t ∈ ts,GT mx n pl t)
def oW : Option Int → List Wd
 | none=>[]
 | some i=>[V7 i]
inductive kN : Tn → List Wd → Prop
 | word {u} : u ∈ N9 → kN (.tup [.str gY,.str u]) [u]
 | one {i} : bB i → kN (R6 (.int i) (.int i)) [V7 i]
 | span {a b} : (a ≠ none ∨ b ≠ none) → (∀ i,a = some i → bB i) → (∀ i,b = some i → bB i) → kN (R6 (oI a) (oI b)) (oW a ++ [[46,46]] ++ oW b)
 | text {b} : (∀ c ∈ b,T4 c = true) → b.length ≤ 20 → kN (.tup [.str dU,.str b]) [34 :: (b ++ [34])]
inductive PlP : Tn → List Wd → Prop
 | mk {ns : List Wd} : ns ≠ [] → ns.length ≤ 4 → (∀ n ∈ ns,P9 n) → PlP (.tup [.str cU,.tup (ns.map Tn.str)]) ([64] :: G1 ns)
def sN (k : Wd) : Tn → Bool
 | .tup (.str u :: _)=>decide (u = k)
 | _=>false
def lA (x : Tn) : Bool := sN Q6 x || sN W6 x
def aI (P : Tn → List Wd → Prop) (tied : Bool) (x : Tn) (row : List Wd) : Prop := ∃ ws,P x ws ∧ (row = [40] :: (ws ++ [[41]]) ∨ (tied = false ∧ row = ws))
def FRw (P : Tn → List Wd → Prop) (f : Wd × Tn × Bool) (row : List Wd) : Prop := ∃ r,row = Y1 f.1 f.2.2 r ∧ P9 f.1 ∧ aI P false f.2.1 r
def PrW (mx : Nat → Nat) : Nat → Bool → Tn → List Wd → Prop
 | 0,pl,x,ws=>kN x ws ∨ (pl = true ∧ PlP x ws)
 | n + 1,pl,x,ws=>kN x ws ∨ (pl = true ∧ PlP x ws) ∨
  (∃ ts rows m,x = .tup [.str aF,.tup ts,.bl m] ∧ ts.length ≤ mx (n + 1) ∧ All2 (aI (PrW mx n false) false) ts rows ∧ ws = [91] :: (G2 [44] (rows ++ K1 m) ++ [[93]])) ∨
  (∃ (fs : List (Wd × Tn × Bool)) (rows : List (List Wd)) (m : Bool),x = .tup [.str bE,.tup (fs.map Y9),.bl m] ∧ fs.length ≤ mx (n + 1) ∧ (fs.map (·.1)).Nodup ∧ All2 (FRw (PrW mx n false)) fs rows ∧ ws = [123] :: (G2 [44] (rows ++ K1 m) ++ [[125]])) ∨
  (∃ t row,x = .tup [.str eM,t] ∧ aI (PrW mx n false) (lA t) t row ∧ ws = [33] :: row) ∨
  (∃ ts rows,x = .tup [.str Q6,.tup ts] ∧ 2 ≤ ts.length ∧ ts.length ≤ mx (n + 1) ∧ All2 (fun t row=>aI (PrW mx n pl) (lA t) t row) ts rows ∧ ws = G2 [38] rows) ∨
  (∃ ts rows,x = .tup [.str W6,.tup ts] ∧ 2 ≤ ts.length ∧ ts.length ≤ mx (n + 1) ∧ All2 (fun t row=>aI (PrW mx n pl) (sN W6 t) t row) ts rows ∧ ws = G2 [124] rows)
end Law
namespace Law
open PySem L2 L2.Sp
section
variable {X Y : Bool → List Wd → P8 → Prop} {free : Bool}
theorem NegAble.mono (k : ∀ f r res,X f r res → Y f r res) {x : Tn} {row : List Wd} (h : NegAble X free x row) : NegAble Y free x row := fun rest hr=>(h rest hr).mono k
theorem ExpAble.mono (k : ∀ f r res,X f r res → Y f r res) {x : Tn} {row : List Wd} (h : ExpAble X free x row) : ExpAble Y free x row := fun rest hr=>k _ _ _ (h rest hr)
theorem AndAble.mono (k : ∀ f r res,X f r res → Y f r res) {x : Tn} {row : List Wd} (h : AndAble X free x row) : AndAble Y free x row := by
 obtain ⟨y,ys,r,rs,e,h1,h2,h3⟩ := h
 exact ⟨y,ys,r,rs,e,h1.mono k,h2.imp fun a _ b hb=>hb.mono k,h3⟩
theorem HeadOk.app {row r : List Wd} (h : HeadOk row) : HeadOk (row ++ r) := by
 obtain ⟨u,s,rfl,h1,h2,h3⟩ := h.ex
 refine ⟨u,s ++ r,rfl,h1,h2,fun e=>?_⟩
 obtain ⟨v,r',rfl,hv⟩ := h3 e
 exact ⟨v,r' ++ r,rfl,hv⟩
theorem HeadOk.lit {u : Wd} {r : List Wd} (h1 : u ≠ [93]) (h2 : u ≠ [125]) (h3 : u ≠ [46,46]) : HeadOk (u :: r) := ⟨u,r,rfl,h1,h2,fun e=>absurd e h3⟩
theorem HeadOk.join {s : Wd} {r : List Wd} {rs : List (List Wd)} (h : HeadOk r) : HeadOk (G2 s (r :: rs)) := h.app
theorem uN {n : Wd} (h : E9 n = true) : n ≠ [93] ∧ n ≠ [125] ∧ n ≠ [46,46] ∧ n ≠ [46] := by
 refine ⟨?_,?_,?_,?_⟩ <;> (rintro rfl; cases h)
theorem sI {x : Tn} {ws : List Wd} (h : kN x ws) : NegAble X free x ws ∧ HeadOk ws ∧ lA x = false := by
 cases h with
 | word hu =>
  obtain ⟨h1,h2,h3,h4,h5,h6,h7,h8⟩ := rZ _ hu
  refine ⟨AD4 hu,HeadOk.lit ?_ ?_ h5,rfl⟩
  ·rintro rfl; revert hu; decide
  ·rintro rfl; revert hu; decide
 | @one i hi =>
  have hb := aV i
  have := AO7 (X := X) (free := free) hb
  rw [iT] at this
  obtain ⟨h1,h2,h3,h4,h5,h6,h7,h8,h9⟩ := X1 hb
  exact ⟨this,HeadOk.lit h7 h8 h5,rfl⟩
 | @span a b hab ha hb =>
  refine ⟨?_,?_,rfl⟩
  ·cases a with
   | none =>
    cases b with
    | none=>exact (hab.elim (fun z=>z rfl) fun z=>z rfl).elim
    | some j =>
     have := AD5 (X := X) (free := free) (aV j)
     rw [iT] at this
     exact this
   | some i =>
    cases b with
    | none =>
     have := AD8 (X := X) (free := free) (aV i)
     rw [iT] at this
     exact this
    | some j =>
     have := AO5 (X := X) (free := free) (aV i) (aV j)
     rw [iT,iT] at this
     exact this
  ·cases a with
   | none =>
    cases b with
    | none=>exact (hab.elim (fun z=>z rfl) fun z=>z rfl).elim
    | some j=>exact ⟨[46,46],[V7 j],rfl,by decide,by decide,fun _=>⟨_,_,rfl,aV j⟩⟩
   | some i =>
    obtain ⟨h1,h2,h3,h4,h5,h6,h7,h8,h9⟩ := X1 (aV i)
    exact HeadOk.lit h7 h8 h5
 | text hc hl =>
  refine ⟨AD6,HeadOk.lit ?_ ?_ ?_,rfl⟩ <;> (intro e; cases e)
theorem AL6 {mx : Nat → Nat} {n : Nat} {pl free : Bool} {x : Tn} {row : List Wd} {N : Nat} (h : ∀ ws,PrW mx n pl x ws → ExpAble (Exn N) free x ws ∧ HeadOk ws) (hr : aI (PrW mx n pl) false x row) : ExpAble (Exn (N + 1)) free x row ∧ HeadOk row := by
 obtain ⟨ws,hw,hr⟩ := hr
 obtain ⟨h1,h2⟩ := h ws hw
 rcases hr with rfl | ⟨_,rfl⟩
 ·exact ⟨oH (iJ h1).and,HeadOk.lit (by decide) (by decide) (by decide)⟩
 ·exact ⟨h1.mono (Exn.succ N),h2⟩
theorem AL5 {mx : Nat → Nat} {n : Nat} {pl free tied : Bool} {x : Tn} {row : List Wd} {N : Nat} (h : ∀ ws,PrW mx n pl x ws → (tied = false → NegAble (Exn (N + 1)) free x ws) ∧ ExpAble (Exn (N + 1)) free x ws ∧ HeadOk ws) (hr : aI (PrW mx n pl) tied x row) : NegAble (Exn (N + 1)) free x row ∧ HeadOk row := by
 obtain ⟨ws,hw,hr⟩ := hr
 obtain ⟨h1,h2,h3⟩ := h ws hw
 rcases hr with rfl | ⟨e,rfl⟩
 ·exact ⟨iJ h2,HeadOk.lit (by decide) (by decide) (by decide)⟩
 ·exact ⟨h1 e,h3⟩
theorem AL7 {mx : Nat → Nat} {n : Nat} {pl free tied : Bool} {x : Tn} {row : List Wd} {N : Nat} (h : ∀ ws,PrW mx n pl x ws → (tied = false → AndAble (Exn (N + 1)) free x ws) ∧ ExpAble (Exn (N + 1)) free x ws ∧ HeadOk ws) (hr : aI (PrW mx n pl) tied x row) : AndAble (Exn (N + 1)) free x row ∧ HeadOk row := by
 obtain ⟨ws,hw,hr⟩ := hr
 obtain ⟨h1,h2,h3⟩ := h ws hw
 rcases hr with rfl | ⟨e,rfl⟩
 ·exact ⟨(iJ h2).and,HeadOk.lit (by decide) (by decide) (by decide)⟩
 ·exact ⟨h1 e,h3⟩
end
structure RdOk (N : Nat) (free : Bool) (x : Tn) (ws : List Wd) : Prop where
 neg : lA x = false → NegAble (Exn N) free x ws
 and : sN W6 x = false → AndAble (Exn N) free x ws
 exp : ExpAble (Exn (N + 1)) free x ws
 head : HeadOk ws
theorem RdOk.simple {N : Nat} {free : Bool} {x : Tn} {ws : List Wd} (h : NegAble (Exn N) free x ws) (hh : HeadOk ws) : RdOk N free x ws := ⟨fun _=>h,fun _=>h.and,oH h.and,hh⟩
theorem AQ2 {α : Type} {l : List α} (h : 2 ≤ l.length) : ∃ a b r,l = a :: b :: r := by
 match l,h with
 | a :: b :: r,_=>exact ⟨a,b,r,rfl⟩
theorem uK (k : Wd) {ts : List Tn} (h : 2 ≤ ts.length) : one k ts = .tup [.str k,.tup ts] := by
 obtain ⟨a,b,r,rfl⟩ := AQ2 h
 rfl
theorem wG (mx : Nat → Nat) : ∀ (n : Nat) (pl free : Bool) (x : Tn) (ws : List Wd),(pl = true → free = true) → PrW mx n pl x ws → RdOk (2 * n) free x ws
 | 0,pl,free,x,ws,hf,h=>by
  rcases h with h | ⟨hp,h⟩
  ·obtain ⟨h1,h2,_⟩ := sI h
   exact .simple h1 h2
  ·rw [hf hp]
   cases h with
   | mk h0 hl hn=>exact .simple (pI h0 fun n h=>(hn n h).nm) (HeadOk.lit (by decide) (by decide) (by decide))
 | n + 1,pl,free,x,ws,hf,h=>by
  have ih := wG mx n
  have up : ∀ f r res,Exn (2 * n) f r res → Exn (2 * (n + 1)) f r res := fun f r res=>Exn.mono (by omega)
  have up1 : ∀ f r res,Exn (2 * n + 1) f r res → Exn (2 * (n + 1)) f r res := fun f r res=>Exn.mono (by omega)
  have child : ∀ {pl free : Bool} {x : Tn} {row : List Wd},(pl = true → free = true) → aI (PrW mx n pl) false x row → ExpAble (Exn (2 * (n + 1))) free x row ∧ HeadOk row := fun {pl free x row} hf hr =>
   AL6 (N := 2 * n + 1) (fun ws hw=>⟨(ih pl free x ws hf hw).exp,(ih pl free x ws hf hw).head⟩) hr
  have childN : ∀ {pl free : Bool} {x : Tn} {row : List Wd},(pl = true → free = true) → aI (PrW mx n pl) (lA x) x row → NegAble (Exn (2 * (n + 1))) free x row ∧ HeadOk row := fun {pl free x row} hf hr =>
   AL5 (N := 2 * n + 1) (fun ws hw=>⟨fun e=>((ih pl free x ws hf hw).neg e).mono up,(ih pl free x ws hf hw).exp.mono up1,(ih pl free x ws hf hw).head⟩) hr
  have childA : ∀ {pl free : Bool} {x : Tn} {row : List Wd},(pl = true → free = true) → aI (PrW mx n pl) (sN W6 x) x row → AndAble (Exn (2 * (n + 1))) free x row ∧ HeadOk row := fun {pl free x row} hf hr =>
   AL7 (N := 2 * n + 1) (fun ws hw=>⟨fun e=>((ih pl free x ws hf hw).and e).mono up,(ih pl free x ws hf hw).exp.mono up1,(ih pl free x ws hf hw).head⟩) hr
  have ff : (false = true → (false : Bool) = true) := fun z=>z
  rcases h with h | ⟨hp,h⟩ | ⟨ts,rows,m,rfl,hl,ha,rfl⟩ | ⟨fs,rows,m,rfl,hl,hd,ha,rfl⟩ | ⟨t,row,rfl,hr,rfl⟩ | ⟨ts,rows,rfl,h2,hl,ha,rfl⟩ | ⟨ts,rows,rfl,h2,hl,ha,rfl⟩
  ·obtain ⟨h1,h2,_⟩ := sI h
   exact .simple h1 h2
  ·rw [hf hp]
   cases h with
   | mk h0 hl hn=>exact .simple (pI h0 fun n h=>(hn n h).nm) (HeadOk.lit (by decide) (by decide) (by decide))
  ·refine .simple (AD7 (ha.imp fun t _ row hr=>(child ff hr).1) ?_) (HeadOk.lit (by decide) (by decide) (by decide))
   clear hl
   induction ha with
   | nil=>intro row hr; cases hr
   | cons a _ ih2 =>
    intro row hr
    rcases List.mem_cons.mp hr with rfl | hr
    ·exact (child ff a).2
    ·exact ih2 row hr
  ·refine .simple (AO6 (ha.imp fun f _ row hr=>?_) hd) (HeadOk.lit (by decide) (by decide) (by decide))
   obtain ⟨r,e,h1,h2⟩ := hr
   exact ⟨r,e,h1.nm,(child ff h2).1⟩
  ·exact .simple (BF9 (childN ff hr).1) (HeadOk.lit (by decide) (by decide) (by decide))
  ·have ha' : All2 (fun t row=>NegAble (Exn (2 * (n + 1))) free t row ∧ HeadOk row) ts rows := ha.imp fun t _ row hr=>childN hf hr
   cases ha' with
   | nil=>exact absurd h2 (by decide)
   | @cons t row ts rows a as =>
    have hA : AndAble (Exn (2 * (n + 1))) free (.tup [.str Q6,.tup (t :: ts)]) (G2 [38] (row :: rows)) := ⟨t,ts,row,rows,uK Q6 h2,a.1,as.imp fun _ _ _ h=>h.1,rfl⟩
    exact ⟨fun e=>Bool.noConfusion (show true = false from e),fun _=>hA,oH hA,a.2.join⟩
  ·have ha' : All2 (fun t row=>AndAble (Exn (2 * (n + 1))) free t row ∧ HeadOk row) ts rows := ha.imp fun t _ row hr=>childA hf hr
   cases ha' with
   | nil=>exact absurd h2 (by decide)
   | @cons t row ts rows a as =>
    have hE := zB a.1 (as.imp fun _ _ _ h=>h.1)
    rw [uK W6 h2] at hE
    exact ⟨fun e=>Bool.noConfusion (show true = false from e),fun e=>Bool.noConfusion (show true = false from e),hE,a.2.join⟩
end Law
namespace Law
open PySem L2 L2.Sp
structure bJ (u : Wd) : Prop where
 tok : Z1 u
 len : u.length ≤ 54
 asc : ∀ c ∈ u,c < 128
inductive DotOk : List Wd → Prop
 | nil : DotOk []
 | cons {u r} : u ≠ [46] → DotOk r → DotOk (u :: r)
 | dot {n r} : n.head? ≠ some 46 → DotOk r → DotOk ([46] :: n :: r)
theorem uO {p : Wd} (hn : E9 p = true) : p.head? ≠ some 46 := fun z=>by
 cases p with
 | nil=>cases z
 | cons a r =>
  cases z
  unfold E9 at hn
  rw [Bool.and_eq_true,List.all_eq_true] at hn
  have := hn.2 46 (by simp)
  cases this
theorem DotOk.app {xs ys : List Wd} (h : DotOk xs) (h' : DotOk ys) : DotOk (xs ++ ys) := by
 induction h with
 | nil=>exact h'
 | cons a _ ih=>exact .cons a ih
 | dot a _ ih=>exact .dot a ih
structure WsF (B : Nat) (ws : List Wd) : Prop where
 ok : ∀ u ∈ ws,bJ u
 dot : DotOk ws
 len : ws.length ≤ B
theorem WsF.app {a b : Nat} {xs ys : List Wd} (h : WsF a xs) (h' : WsF b ys) : WsF (a + b) (xs ++ ys) :=
 ⟨fun u hu=>(List.mem_append.mp hu).elim (h.ok u) (h'.ok u),h.dot.app h'.dot,by have := h.len; have := h'.len; rw [List.length_append]; omega⟩
theorem WsF.nil : WsF 0 [] := ⟨fun u hu=>(by cases hu),DotOk.nil,Nat.le_refl _⟩
theorem WsF.cons {a : Nat} {u : Wd} {xs : List Wd} (hu : bJ u) (hd : u ≠ [46]) (h : WsF a xs) : WsF (a + 1) (u :: xs) :=
 ⟨fun v hv=>(List.mem_cons.mp hv).elim (fun e=>e ▸ hu) (h.ok v),.cons hd h.dot,by have := h.len; simp; omega⟩
theorem WsF.mono {a b : Nat} {xs : List Wd} (h : WsF a xs) (hab : a ≤ b) : WsF b xs := ⟨h.ok,h.dot,Nat.le_trans h.len hab⟩
theorem WsF.tails {s : Wd} (hs : bJ s) (hd : s ≠ [46]) {b : Nat} : ∀ {rows : List (List Wd)},(∀ row ∈ rows,WsF b row) → WsF (rows.length * (b + 1)) (tails s rows)
 | [],_=>by simpa [Law.tails] using WsF.nil
 | r :: rs,h=>by
  rw [N2,List.length_cons]
  have ih := WsF.tails hs hd (rows := rs) fun row hr=>h row (by simp [hr])
  have := WsF.cons hs hd ((h r (by simp)).app ih)
  refine this.mono ?_
  rw [Nat.succ_mul]; omega
theorem WsF.join {s : Wd} (hs : bJ s) (hd : s ≠ [46]) {b : Nat} {rows : List (List Wd)} (h : ∀ row ∈ rows,WsF b row) : WsF (rows.length * (b + 1)) (G2 s rows) := by
 cases rows with
 | nil=>simpa [G2] using WsF.nil
 | cons r rs =>
  have ih := WsF.tails hs hd (rows := rs) fun row hr=>h row (by simp [hr])
  have := (h r (by simp)).app ih
  refine this.mono ?_
  rw [List.length_cons,Nat.succ_mul]; omega
theorem Q4 {c : Nat} (h : c ∈ T8) : bJ [c] := ⟨.inr (.inr (.inr (.inr ⟨c,h,rfl⟩))),by show 1 ≤ 54; decide,fun x hx=>by
 rw [List.mem_singleton.mp hx]
 have : ∀ c ∈ T8,c < 128 := by decide
 exact this c h⟩
theorem oJ : bJ [46,46] := ⟨.inr (.inr (.inr (.inl rfl))),by decide,by decide⟩
theorem cT {u : Wd} (h : E9 u = true) (hl : u.length ≤ 54) : bJ u := by
 unfold E9 at h
 rw [Bool.and_eq_true,decide_eq_true_iff,List.all_eq_true] at h
 refine ⟨.inl ⟨h.1,h.2⟩,hl,fun c hc=>?_⟩
 have := h.2 c hc
 unfold P7 at this
 simp only [Bool.and_eq_true,decide_eq_true_eq] at this
 omega
theorem wH : ∀ u ∈ N9,E9 u = true ∧ u.length ≤ 54 ∧ u ≠ [46] := by decide
theorem lZ {i : Int} (h : bB i) : bJ (V7 i) ∧ V7 i ≠ [46] := by
 have hn := AD0 (Nat.lt_trans h (by decide))
 refine ⟨⟨.inr (.inl hn),AD1 h,fun c hc=>?_⟩,fun e=>by have := aV i; rw [e] at this; cases this⟩
 obtain ⟨sn,fs,e,hsn,_,hf,_⟩ := hn
 rw [e] at hc
 rcases List.mem_append.mp hc with z | z
 ·rcases hsn with rfl | rfl
  ·cases z
  ·rw [List.mem_singleton.mp z]; decide
 ·have := (fW (hf c z)).2; omega
theorem xS {b : List Nat} (h : ∀ c ∈ b,T4 c = true) (hl : b.length ≤ 20) : bJ (34 :: (b ++ [34])) ∧ (34 :: (b ++ [34]) : Wd) ≠ [46] := by
 refine ⟨⟨.inr (.inr (.inl ⟨b,h,rfl⟩)),by simp; omega,fun c hc=>?_⟩,fun e=>by cases e⟩
 rcases List.mem_cons.mp hc with rfl | hc
 ·decide
 ·rcases List.mem_append.mp hc with z | z
  ·have := h c z
   unfold T4 at this
   simp only [Bool.and_eq_true,decide_eq_true_eq] at this
   omega
  ·rw [List.mem_singleton.mp z]; decide
theorem AI8 {x : Tn} {ws : List Wd} (h : kN x ws) : WsF 3 ws := by
 have ow : ∀ {a : Option Int},(∀ i,a = some i → bB i) → WsF 1 (oW a) := fun {a} h=>by
  cases a with
  | none=>exact WsF.nil.mono (by omega)
  | some i=>exact (WsF.cons (lZ (h i rfl)).1 (lZ (h i rfl)).2 WsF.nil).mono (by omega)
 cases h with
 | word hu =>
  obtain ⟨h1,h2,h3⟩ := wH _ hu
  exact (WsF.cons (cT h1 h2) h3 WsF.nil).mono (by omega)
 | one hi=>exact (WsF.cons (lZ hi).1 (lZ hi).2 WsF.nil).mono (by omega)
 | span hab ha hb=>exact (((ow ha).app (WsF.cons oJ (by decide) WsF.nil)).app (ow hb)).mono (by omega)
 | text hc hl=>exact (WsF.cons (xS hc hl).1 (xS hc hl).2 WsF.nil).mono (by omega)
theorem iQ : ∀ {ns : List Wd},(∀ n ∈ ns,P9 n) → WsF (2 * ns.length) (tails [46] (ns.map ([·])))
 | [],_=>by simpa [tails] using WsF.nil
 | n :: ns,h=>by
  have ih := iQ (ns := ns) fun x hx=>h x (by simp [hx])
  have hn := h n (by simp)
  have w := cT hn.nm (by have := hn.len; omega)
  rw [List.map_cons,N2]
  refine ⟨fun u hu=>?_,.dot (uO hn.nm) ih.dot,?_⟩
  ·rcases List.mem_cons.mp hu with rfl | hu
   ·exact Q4 (by decide)
   ·rcases List.mem_cons.mp hu with rfl | hu
    ·exact w
    ·exact ih.ok u hu
  ·have := ih.len
   simp at this ⊢
   omega
theorem fP {ns : List Wd} (h : ∀ n ∈ ns,P9 n) (hl : ns.length ≤ 4) : WsF 8 (G1 ns) := by
 cases ns with
 | nil=>simpa [G1,G2] using WsF.nil.mono (by omega)
 | cons n ns =>
  have hn := h n (by simp)
  have w := cT hn.nm (by have := hn.len; omega)
  have := WsF.cons w (uN hn.nm).2.2.2 (iQ (ns := ns) fun x hx=>h x (by simp [hx]))
  refine this.mono ?_
  simp at hl
  omega
def aJ (mx : Nat → Nat) : Nat → Nat
 | 0=>9
 | n + 1=>mx (n + 1) * (aJ mx n + 6) + 4
theorem All2.right {α β : Type} {F : α → β → Prop} {Q : β → Prop} {as : List α} {bs : List β} (h : All2 F as bs) (k : ∀ a b,F a b → Q b) : ∀ b ∈ bs,Q b := by
 induction h with
 | nil=>intro b hb; cases hb
 | cons a _ ih =>
  intro b hb
  rcases List.mem_cons.mp hb with rfl | hb
  ·exact k _ _ a
  ·exact ih b hb
theorem xN {P : Tn → List Wd → Prop} {b : Nat} {tied : Bool} {x : Tn} {row : List Wd} (h : ∀ ws,P x ws → WsF b ws) (hr : aI P tied x row) : WsF (b + 2) row := by
 obtain ⟨ws,hw,hr⟩ := hr
 rcases hr with rfl | ⟨_,rfl⟩
 ·exact (WsF.cons (Q4 (by decide)) (by decide) ((h ws hw).app (WsF.cons (Q4 (by decide)) (by decide) WsF.nil))).mono (by omega)
 ·exact (h _ hw).mono (by omega)
theorem iW {s : Wd} {rows rs : List (List Wd)} (h : rows ≠ []) : G2 s (rows ++ rs) = G2 s rows ++ tails s rs := by
 obtain ⟨r,rows,rfl⟩ := List.exists_cons_of_ne_nil h
 show r ++ tails s (rows ++ rs) = r ++ tails s rows ++ tails s rs
 rw [List.append_assoc]
 congr 1
 simp [tails]
theorem pL {b : Nat} {rows : List (List Wd)} {m : Bool} {l r : Nat} (hl : l ∈ T8) (hr : r ∈ T8) (h1 : l ≠ 46) (h2 : r ≠ 46) (h : ∀ row ∈ rows,WsF b row) : WsF (rows.length * (b + 1) + 4) ([l] :: (G2 [44] (rows ++ K1 m) ++ [[r]])) := by
 have hd : WsF 2 (tails [44] (K1 m)) := by
  cases m with
  | false=>exact WsF.nil.mono (by omega)
  | true=>exact WsF.cons (Q4 (by decide)) (by decide) (WsF.cons oJ (by decide) WsF.nil)
 have hj : WsF (rows.length * (b + 1) + 2) (G2 [44] (rows ++ K1 m)) := by
  by_cases e : rows = []
  ·subst e
   cases m with
   | false=>exact WsF.nil.mono (by omega)
   | true=>exact (WsF.cons oJ (by decide) WsF.nil).mono (by simp)
  ·rw [iW e]
   exact (WsF.join (s := [44]) (Q4 (by decide)) (by decide) h).app hd
 exact (WsF.cons (Q4 hl) (by simpa using h1) (hj.app (WsF.cons (Q4 hr) (by simpa using h2) WsF.nil))).mono (by omega)
theorem cL {mx : Nat → Nat} (hm : ∀ n,1 ≤ mx n) : ∀ (n : Nat) (pl : Bool) (x : Tn) (ws : List Wd),PrW mx n pl x ws → WsF (aJ mx n) ws
 | 0,pl,x,ws,h=>by
  rcases h with h | ⟨_,h⟩
  ·exact (AI8 h).mono (by show 3 ≤ 9; omega)
  ·cases h with
   | mk h0 hl hn=>exact (WsF.cons (Q4 (by decide)) (by decide) (fP hn hl)).mono (by show 8 + 1 ≤ 9; omega)
 | n + 1,pl,x,ws,h=>by
  have ih := cL hm n
  have e : aJ mx (n + 1) = mx (n + 1) * (aJ mx n + 6) + 4 := rfl
  have h1 := hm (n + 1)
  have big : aJ mx n + 10 ≤ aJ mx (n + 1) := by
   rw [e]
   have := Nat.mul_le_mul_right (aJ mx n + 6) h1
   omega
  have big9 : 9 ≤ aJ mx (n + 1) := by omega
  have rw' : ∀ {pl tied : Bool} {x : Tn} {row : List Wd},aI (PrW mx n pl) tied x row → WsF (aJ mx n + 2) row := fun {pl tied x row} hr=>xN (fun ws hw=>ih pl x ws hw) hr
  have wide : ∀ {a c : Nat},a ≤ mx (n + 1) → c ≤ aJ mx n + 6 → a * c + 4 ≤ aJ mx (n + 1) := fun {a c} ha hc=>by
   rw [e]
   have := Nat.mul_le_mul ha hc
   omega
  rcases h with h | ⟨hp,h⟩ | ⟨ts,rows,m,rfl,hl,ha,rfl⟩ | ⟨fs,rows,m,rfl,hl,hd,ha,rfl⟩ | ⟨t,row,rfl,hr,rfl⟩ | ⟨ts,rows,rfl,h2,hl,ha,rfl⟩ | ⟨ts,rows,rfl,h2,hl,ha,rfl⟩
  ·exact (AI8 h).mono (by omega)
  ·cases h with
   | mk h0 hl hn=>exact (WsF.cons (Q4 (by decide)) (by decide) (fP hn hl)).mono (by omega)
  ·refine (pL (b := aJ mx n + 2) (by decide) (by decide) (by decide) (by decide) (ha.right fun a b hb=>rw' hb)).mono ?_
   rw [← ha.length]
   exact wide hl (by omega)
  ·refine (pL (b := aJ mx n + 5) (by decide) (by decide) (by decide) (by decide) (ha.right fun f b hb=>?_)).mono ?_
   ·obtain ⟨r,rfl,hn,hr⟩ := hb
    have w := cT hn.nm (by have := hn.len; omega)
    have col := WsF.cons (Q4 (c := 58) (by decide)) (by decide) (rw' hr)
    have nn := (uN hn.nm).2.2.2
    unfold Y1
    cases f.2.2 with
    | true=>exact (WsF.cons w nn col).mono (by omega)
    | false=>exact (WsF.cons w nn (WsF.cons (Q4 (c := 63) (by decide)) (by decide) col)).mono (by omega)
   ·rw [← ha.length]
    exact wide hl (by omega)
  ·exact (WsF.cons (Q4 (by decide)) (by decide) (rw' hr)).mono (by omega)
  ·refine (WsF.join (s := [38]) (Q4 (by decide)) (by decide) (ha.right fun a b hb=>rw' hb)).mono ?_
   rw [← ha.length]
   have := wide hl (c := aJ mx n + 2 + 1) (by omega)
   omega
  ·refine (WsF.join (s := [124]) (Q4 (by decide)) (by decide) (ha.right fun a b hb=>rw' hb)).mono ?_
   rw [← ha.length]
   have := wide hl (c := aJ mx n + 2 + 1) (by omega)
   omega
end Law
namespace Law
open PySem L2 L2.Sp
theorem hZ (a b : List Nat) : (S a ++ S b : Str) = S (a ++ b) := by
 show (⟨a.toArray ++ b.toArray⟩ : Str) = ⟨(a ++ b).toArray⟩
 simp
theorem cZ {a b : List Nat} (h : a.length + b.length ≤ 100000) : (S a).length + (S b).length ≤ sizeLine := by rw [N4,N4]; have : sizeLine = 16777216 := sizeLine_eq; omega
theorem zO {α : Type} {xs : List α} {r : Int} (h0 : 0 ≤ r) (h1 : r < xs.length) : ∃ x,x ∈ xs ∧ aK xs r = some x := by
 obtain ⟨k,rfl⟩ := Int.eq_ofNat_of_zero_le h0
 have hk : k < xs.length := by omega
 exact ⟨xs[k],List.getElem_mem hk,K8 (List.getElem?_eq_getElem hk)⟩
theorem AK0 {xs : List Wd} {r : Int} (h0 : 0 ≤ r) (h1 : r < xs.length) : ∃ x,x ∈ xs ∧ aK (ST xs) r = some (.str (S x)) := by
 obtain ⟨k,rfl⟩ := Int.eq_ofNat_of_zero_le h0
 have hk : k < xs.length := by omega
 exact ⟨xs[k],List.getElem_mem hk,K8 (by rw [List.getElem?_map,List.getElem?_eq_getElem hk]; rfl)⟩
structure DS (st : Addr) (H0 H : Hp) : Prop where
 g : Grow st H0 H
 s : ∃ y : Int,H st = some (.lst [.int y])
 b : ∃ x : Int,H0 st = some (.lst [.int x])
section
variable {K : PySem.W.Frag} {H0 H H' : Hp} {st l : Addr} {o : HO}
theorem DS.start {x : Int} (h : H st = some (.lst [.int x])) : DS st H H := ⟨Grow.refl,⟨x,h⟩,⟨x,h⟩⟩
theorem DS.same (d : DS st H0 H) (g : Same H H') : DS st H0 H' := ⟨fun b o hb h=>g _ _ (d.g b o hb h),by obtain ⟨y,h⟩ := d.s; exact ⟨y,g _ _ h⟩,d.b⟩
theorem DS.more (d : DS st H0 H) (d' : DS st H H') : DS st H0 H' := ⟨d.g.trans d'.g,d'.s,d.b⟩
theorem DS.next (d : DS st H0 H) (y : Int) : DS st H0 (D5 H st (.lst [.int y])) := ⟨d.g.trans Y8,⟨y,A6⟩,d.b⟩
theorem DS.old (d : DS st H0 H) (hl : H l = none) : H0 l = none := by
 cases e : H0 l with
 | none=>rfl
 | some o =>
  by_cases e2 : l = st
  ·obtain ⟨y,h⟩ := d.s; rw [e2,h] at hl; cases hl
  ·rw [d.g l o e2 e] at hl; cases hl
theorem DS.ne (d : DS st H0 H) (hl : H0 l = none) : l ≠ st := fun e=>by obtain ⟨x,h⟩ := d.b; rw [← e,hl] at h; cases h
theorem DS.put (d : DS st H0 H) (hl : H0 l = none) : DS st H0 (D5 H l o) := by
 have n := d.ne hl
 exact ⟨fun b u hb h=>by rw [B5 (D8 h hl)]; exact d.g b u hb h,by obtain ⟨y,h⟩ := d.s; exact ⟨y,by rw [B5 (Ne.symm n)]; exact h⟩,d.b⟩
theorem DS.kp (d : DS st H0 H) : Kp K H0 H := by
 obtain ⟨x,h⟩ := d.b
 exact Grow.tups d.g (fun xs z=>by rw [h] at z; cases z) (fun xs o z=>by rw [h] at z; cases z)
end
section
variable {P : Program} {w : World} {K : PySem.W.Frag} {mg : Str → Option Value} {base : Heap} {f : Addr} {fd : FuncData}
theorem uH {X : Cx} {k : Nat} {x : Str} {sp : Sp} {p pos : Pos} (C : Cal X.prog X.w X.K X.mg X.base k x [] sp) (hr : Room k X.A) (hg : Gl X x) (hdb : (x == ("__debug__" : Str)) = false := by decide) :
  PE X (.Call (.Name x p) [] [] pos) (lK sp [] E0 bD) := by
 obtain ⟨f,fd,F,a,b,c⟩ := C.ex
 exact AC0 F hr hg a b c .nil P3 hdb
abbrev jT : Stmt := M8 39
theorem AR4 : E2 ["_law_state","_law_many"] ["_law_state","_law_many"] (B2 jT) := ⟨rfl,rfl,rfl,by decide +kernel,rfl,by decide +kernel,by decide +kernel⟩
def Q3 : Sp := fun vs H Q _=>∃ (st : Addr) (x m : Int),vs = [.ref st,.int m] ∧ H st = some (.lst [.int x]) ∧ 0 < m ∧ ∀ y r : Int,0 ≤ r → r < m → Q (.int r) (D5 H st (.lst [.int y]))
theorem AN4 (F : Fun K "_law_next" "_law_next" jT f fd) : FnOk P w K mg base K5 1 f fd ["_law_state","_law_many"] Q3 := by
 refine F.ok AR4 (fun vs H Q E h=>?_) (fun cdv A outer s H vs Q E hr h=>?_)
 ·obtain ⟨st,x,m,rfl,_⟩ := h
  rfl
 obtain ⟨st,x,m,rfl,hs,hm,q⟩ := h
 refine ⟨_,A7 (xU (E4 aC (E4 P4 (E4 lY (G7 O3 (pv 0) B1 (fun _ _=>rfl)) B1) B1) (E4 aB (E4 iR B1 B1) B1)) (xY (pv 0) B1 rO))
  (A9 (B6 (E4 aC (E4 uJ (G7 O3 (pv 0) B1 (fun _ _=>rfl)) B1) (pv 1)))),?_⟩
 refine ⟨_,rfl,st,_,_,_,rfl,rfl,SqL.of hs,rfl,_,_,rfl,rfl,.inr ⟨by decide,by decide⟩,_,_,rfl,rfl,_,_,rfl,rfl,⟨by decide,by decide,by decide⟩,_,_,rfl,rfl,_,_,rfl,rfl,(by show (0 : Int) < 2 ^ Int.toNat 61 - 1; decide),?_⟩
 refine ⟨_,rfl,st,_,_,_,rfl,rfl,hs,rfl,?_⟩
 refine ⟨_,rfl,st,_,_,_,rfl,rfl,SqL.of A6,rfl,_,_,rfl,rfl,⟨by decide,by decide⟩,_,rfl,_,_,rfl,rfl,hm,?_⟩
 exact q _ _ (Int.emod_nonneg _ (by omega)) (Int.emod_lt_of_pos _ hm)
def AE2 : List Nat := [97,98,99,100,101,102,103,104,105,106,107,108,109,110,111,112,113,114,115,116,117,118,119,120,121,122]
theorem AI6 : (Str.ofString "abcdefghijklmnopqrstuvwxyz" : Str) = S AE2 := by decide +kernel
theorem AV2 : ∀ c ∈ AE2,P7 c = true := by decide
abbrev nQ : Stmt := M8 41
theorem qN : E2 ["_law_state","_law_many","_law_span_here","_law_word","_law_k"] ["_law_state","_law_many","_law_span_here"] (B2 nQ) := ⟨rfl,rfl,rfl,by decide +kernel,rfl,by decide +kernel,by decide +kernel⟩
def vX : Sp := fun args H Q _=>∃ (st : Addr) (x : Int) (m : Nat) (sp : Int),args = [.ref st,.int (m : Int),.int sp] ∧ H st = some (.lst [.int x]) ∧ m ≤ 20 ∧ 0 < sp ∧ sp ≤ 26 ∧
 ∀ (H' : Hp) (v : Wd),DS st H H' → (∀ c ∈ v,P7 c = true) → v.length = m → Q (.str (S v)) H'
theorem AU4 (F : Fun K "_law_letters" "_law_letters" nQ f fd) (N : Cal P w K mg base 1 "_law_next" ["_law_state","_law_many"] Q3) (m1 : mg "range" = none) : FnOk P w K mg base K5 2 f fd ["_law_state","_law_many","_law_span_here"] vX := by
 refine F.ok qN (fun vs H Q E h=>?_) (fun cdv A outer s H vs Q E hr h=>?_)
 ·obtain ⟨st,x,m,sp,rfl,_⟩ := h
  rfl
 obtain ⟨st,x,m,sp,rfl,hs,hm,hp0,hp1,q⟩ := h
 refine ⟨_,A7 (B7 (i := 3) qN.nd rfl (Or.inl rfl) B3)
  (A7 (R4 PassesOwn.never rfl (O0 rfl m1 (A0 (pv 1) A5)) (K0 (i := 4) qN.nd rfl (Or.inl rfl))
   (A9 (Q5 (i := 3) qN.nd rfl (Or.inl rfl) (G7 aG B3 (B4 N hr rfl (A0 (pv 0) (A0 (pv 2) A5))) (fun _ _=>rfl)) eO)))
  (A9 (B6 (pv 3)))),?_⟩
 have D0 := DS.start hs
 refine ⟨_,rfl,(m : Int),rfl,by omega,by omega,?_⟩
 refine Z7 (fun i σ H'=>∃ (v : Wd) (z : Option V),σ = [some (.ref st),some (.int (m : Int)),some (.int sp),some (.str (S v)),z] ∧ DS st H H' ∧ (∀ c ∈ v,P7 c = true) ∧ v.length = i)
  ⟨[],none,by show _ = _; rw [gW]; rfl,D0,fun c hc=>(by cases hc),rfl⟩ (fun i σ H' hi hinv=>?_) (fun σ H' hinv=>?_)
 ·obtain ⟨v,z,rfl,d,hv,hl⟩ := hinv
  obtain ⟨y,hy⟩ := d.s
  refine ⟨_,rfl,_,rfl,_,rfl,st,y,_,rfl,hy,hp0,fun y2 r r0 r1=>?_⟩
  obtain ⟨c,hc,hat⟩ := zO (xs := AE2) r0 (by show r < 26; omega)
  refine ⟨_,_,c,rfl,rfl,by rw [AI6]; exact P0 (by decide),by rw [AI6]; exact hat,?_⟩
  refine ⟨_,_,rfl,rfl,cZ (b := [c]) (by simp; omega),v ++ [c],some (.int (0 + (i : Int))),?_,d.next y2,fun x hx=>?_,by simp [hl]⟩
  ·rw [show (⟨#[c]⟩ : Str) = S [c] from rfl,hZ]; rfl
  ·rcases List.mem_append.mp hx with h | h
   ·exact hv x h
   ·rw [List.mem_singleton.mp h]; exact AV2 c hc
 ·obtain ⟨v,z,rfl,d,hv,hl⟩ := hinv
  exact ⟨_,rfl,q H' v d hv hl⟩
abbrev fK : Stmt := M8 42
theorem AL3 : E2 [] [] (B2 fK) := ⟨rfl,rfl,rfl,by decide +kernel,rfl,by decide +kernel,by decide +kernel⟩
def jN : Sp := fun args H Q _=>args = [] ∧ ∀ l,H l = none → Q (.ref l) (D5 H l (.lst (ST N9)))
theorem lp0 : (Str.ofString "none" : Str) = S [110,111,110,101] := by decide +kernel
theorem lp1 : (Str.ofString "yes" : Str) = S [121,101,115] := by decide +kernel
theorem lp2 : (Str.ofString "no" : Str) = S [110,111] := by decide +kernel
theorem lp3 : (Str.ofString "truth" : Str) = S [116,114,117,116,104] := by decide +kernel
theorem lp4 : (Str.ofString "number" : Str) = S [110,117,109,98,101,114] := by decide +kernel
theorem lp5 : (Str.ofString "text" : Str) = S [116,101,120,116] := by decide +kernel
theorem lp6 : (Str.ofString "list" : Str) = S [108,105,115,116] := by decide +kernel
theorem lp7 : (Str.ofString "record" : Str) = S [114,101,99,111,114,100] := by decide +kernel
theorem lp8 : (Str.ofString "any" : Str) = S [97,110,121] := by decide +kernel
theorem lp9 : (Str.ofString "nothing" : Str) = S [110,111,116,104,105,110,103] := by decide +kernel
theorem BG2 : (Str.ofString "else" : Str) = S [101,108,115,101] := by decide +kernel
theorem BG1 : (Str.ofString "elses" : Str) = S [101,108,115,101,115] := by decide +kernel
theorem sH : [V.str (Str.ofString "none"),.str (Str.ofString "yes"),.str (Str.ofString "no"),.str (Str.ofString "truth"),.str (Str.ofString "number"),.str (Str.ofString "text"),.str (Str.ofString "list"),.str (Str.ofString "record"),.str (Str.ofString "any"),.str (Str.ofString "nothing")] = ST N9 := by rw [lp0,lp1,lp2,lp3,lp4,lp5,lp6,lp7,lp8,lp9]; rfl
theorem AC6 (F : Fun K "_law_plain" "_law_plain" fK f fd) : FnOk P w K mg base K5 1 f fd [] jN := by
 refine F.ok AL3 (fun vs H Q E h=>?_) (fun cdv A outer s H vs Q E hr h=>?_)
 ·obtain ⟨rfl,_⟩ := h
  rfl
 obtain ⟨rfl,q⟩ := h
 refine ⟨_,A9 (B6 (E3 (A0 B3 (A0 B3 (A0 B3 (A0 B3 (A0 B3 (A0 B3 (A0 B3 (A0 B3 (A0 B3 (A0 B3 A5)))))))))))),?_⟩
 refine ⟨by show 10 ≤ sizeLine; decide,fun l hl=>?_⟩
 have := q l hl
 rw [← sH] at this
 exact this
abbrev uB : Stmt := M8 43
theorem AR3 : E2 ["_law_state","_law_way"] ["_law_state"] (B2 uB) := ⟨rfl,rfl,rfl,by decide +kernel,rfl,by decide +kernel,by decide +kernel⟩
def kR : Sp := fun args H Q _=>∃ (st : Addr) (x : Int),args = [.ref st] ∧ H st = some (.lst [.int x]) ∧ ∀ (H' : Hp) (v : Wd),DS st H H' → P9 v → Q (.str (S v)) H'
def hU : List Wd := [[101,108,115,101],[101,108,115,101,115]]
theorem AP1 : [V.str (Str.ofString "else"),.str (Str.ofString "elses")] = ST hU := by rw [BG2,BG1]; rfl
theorem sB : ∀ u ∈ N9 ++ hU,E9 u = true ∧ u.length ≤ 20 := by decide
theorem BB0 (F : Fun K "_law_name" "_law_name" uB f fd) (N : Cal P w K mg base 1 "_law_next" ["_law_state","_law_many"] Q3) (L : Cal P w K mg base 2 "_law_letters" ["_law_state","_law_many","_law_span_here"] vX) (PL : Cal P w K mg base 1 "_law_plain" [] jN) : FnOk P w K mg base K5 3 f fd ["_law_state"] kR := by
 refine F.ok AR3 (fun vs H Q E h=>?_) (fun cdv A outer s H vs Q E hr h=>?_)
 ·obtain ⟨st,x,rfl,_⟩ := h
  rfl
 obtain ⟨st,x,rfl,hs,q⟩ := h
 have hr1 := hr.mono (show 1 ≤ 2 by decide)
 refine ⟨_,A7 (B7 (i := 1) AR3.nd rfl (Or.inl rfl) (B4 N hr1 rfl (A0 (pv 0) (A0 B1 A5))))
  (A7 (E5 (B9 G9 (pv 1) B1 (B8 _)) (A9 (B6 (G7 O3 (E4 P6 (uH PL hr1 rfl) (E3 (A0 B3 (A0 B3 A5)))) (B4 N hr1 rfl (A0 (pv 0) (A0 B1 A5))) (fun _ _=>rfl)))) D6)
  (A9 (B6 (B4 L hr rfl (A0 (pv 0) (A0 (E4 P4 B1 (B4 N hr1 rfl (A0 (pv 0) (A0 (G7 O3 (E3 (A0 B1 (A0 B1 A5))) (E4 aC (pv 1) B1) (fun _ _=>rfl)) A5))))
   (A0 (G7 O3 (E3 (A0 B1 (A0 B1 A5))) (E4 aC (E4 uJ (pv 1) B1) B1) (fun _ _=>rfl)) A5))))))),?_⟩
 have D0 := DS.start hs
 refine ⟨_,rfl,st,x,8,rfl,hs,by decide,fun y way w0 w1=>?_⟩
 have D1 := D0.next y
 obtain ⟨y1,hy1⟩ := D1.s
 refine ⟨_,rfl,rfl,_,rfl,N1 (fun _=>?_) (fun _=>?_)⟩
 ·refine ⟨rfl,fun l1 hl1=>⟨T6,fun l2 hl2=>?_⟩⟩
  rw [AP1]
  have k1 := A8 hl1 (.lst (ST N9))
  have k2 := A8 hl2 (.lst (ST hU))
  refine ⟨l1,l2,_,_,rfl,rfl,k2 _ _ A6,A6,V3 (by decide),fun l3 hl3=>?_⟩
  have e : ST N9 ++ ST hU = ST (N9 ++ hU) := by simp [ST]
  rw [e]
  have k3 := A8 hl3 (.lst (ST (N9 ++ hU)))
  have D2 := D1.same (k1.trans (k2.trans k3))
  obtain ⟨y2,hy2⟩ := D2.s
  refine ⟨_,rfl,st,y2,12,rfl,hy2,by decide,fun y3 r r0 r1=>?_⟩
  obtain ⟨v,hv,hat⟩ := AK0 (xs := N9 ++ hU) r0 (by show r < 12; exact r1)
  have n3 : l3 ≠ st := Ne.symm (D8 ((k1.trans k2) _ _ hy1) hl3)
  refine ⟨l3,_,_,_,rfl,rfl,SqL.of (by rw [B5 n3]; exact A6),hat,q _ v (D2.next y3) ⟨(sB v hv).1,(sB v hv).2⟩⟩
 ·refine ⟨_,rfl,_,rfl,T6,fun l1 hl1=>?_⟩
  have k1 := A8 hl1 (.lst [.int 3,.int 8])
  have D2 := D1.same k1
  obtain ⟨y2,hy2⟩ := D2.s
  obtain ⟨e1,he1,h38⟩ : ∃ e1 : Int,aK [V.int 3,.int 8] (way % 2) = some (.int e1) ∧ (e1 = 3 ∨ e1 = 8) := by
   have : way % 2 = 0 ∨ way % 2 = 1 := by omega
   rcases this with e | e <;> rw [e]
   ·exact ⟨3,rfl,.inl rfl⟩
   ·exact ⟨8,rfl,.inr rfl⟩
  refine ⟨_,rfl,_,_,rfl,rfl,(by show (0 : Int) < 2; decide),l1,_,_,.int e1,rfl,rfl,SqL.of A6,he1,st,y2,e1,rfl,hy2,by omega,fun y3 r r0 r1=>?_⟩
  have D3 := D2.next y3
  obtain ⟨k,rfl⟩ := Int.eq_ofNat_of_zero_le r0
  refine ⟨_,_,rfl,rfl,T6,fun l2 hl2=>?_⟩
  have k2 := A8 hl2 (.lst [.int 2,.int 26])
  have D4 := D3.same k2
  obtain ⟨y4,hy4⟩ := D4.s
  obtain ⟨e2,he2,h226⟩ : ∃ e2 : Int,aK [V.int 2,.int 26] (way / 2 % 2) = some (.int e2) ∧ (e2 = 2 ∨ e2 = 26) := by
   have : way / 2 % 2 = 0 ∨ way / 2 % 2 = 1 := by omega
   rcases this with e | e <;> rw [e]
   ·exact ⟨2,rfl,.inl rfl⟩
   ·exact ⟨26,rfl,.inr rfl⟩
  refine ⟨_,rfl,_,_,rfl,rfl,⟨by decide,by decide⟩,_,_,rfl,rfl,(by show (0 : Int) < 2; decide),l2,_,_,.int e2,rfl,rfl,SqL.of A6,he2,st,y4,1 + k,e2,by rw [show ((1 + k : Nat) : Int) = 1 + (k : Int) by omega]; rfl,hy4,by omega,by omega,by omega,fun H5 v d5 hv hvl=>?_⟩
  refine q H5 v (D4.more d5) ⟨?_,by omega⟩
  unfold E9
  rw [Bool.and_eq_true,decide_eq_true_iff,List.all_eq_true]
  exact ⟨fun z=>by rw [z] at hvl; simp at hvl; omega,hv⟩
end
end Law
namespace Law
open PySem L2 L2.Sp
section
variable {P : Program} {w : World} {K : PySem.W.Frag} {mg : Str → Option Value} {base : Heap} {f : Addr} {fd : FuncData}
abbrev iN : Stmt := M8 44
theorem dH : E2 ["_law_state","_law_many","_law_names_here","_law_k","_law_name_here"] ["_law_state","_law_many"] (B2 iN) := ⟨rfl,rfl,rfl,by decide +kernel,rfl,by decide +kernel,by decide +kernel⟩
def qG : Sp := fun args H Q _=>∃ (st : Addr) (x : Int) (m : Nat),args = [.ref st,.int (m : Int)] ∧ H st = some (.lst [.int x]) ∧ m ≤ 100 ∧ ∀ (H' : Hp) (l : Addr) (ns : List Wd),DS st H H' → H l = none → H' l = some (.lst (ST ns)) → ns.Nodup → ns.length ≤ m → (∀ n ∈ ns,P9 n) → Q (.ref l) H'
theorem AU3 (F : Fun K "_law_names" "_law_names" iN f fd) (N : Cal P w K mg base 3 "_law_name" ["_law_state"] kR) (m1 : mg "range" = none) : FnOk P w K mg base K5 4 f fd ["_law_state","_law_many"] qG := by
 refine F.ok dH (fun vs H Q E h=>?_) (fun cdv A outer s H vs Q E hr h=>?_)
 ·obtain ⟨st,x,m,rfl,_⟩ := h
  rfl
 obtain ⟨st,x,m,rfl,hs,hm,q⟩ := h
 refine ⟨_,A7 (B7 (i := 2) dH.nd rfl (Or.inl rfl) (E3 A5))
  (A7 (R4 PassesOwn.never rfl (O0 rfl m1 (A0 (pv 1) A5)) (K0 (i := 3) dH.nd rfl (Or.inl rfl))
   (A7 (B7 (i := 4) dH.nd rfl (Or.inl rfl) (B4 N hr rfl (A0 (pv 0) A5)))
   (A9 (E5 (B9 cP (pv 4) (pv 2) rfl) (A9 (K2 (O9 PySem.F.plainAttrs_list PySem.F.slot_list_append PySem.F.type_list_append K4 (pv 2) (A0 (pv 4) A5)))) D6))))
  (A9 (B6 (pv 2)))),?_⟩
 have D0 := DS.start hs
 refine ⟨T7,fun l hl=>?_⟩
 have D1 := D0.put (o := .lst []) hl
 refine ⟨_,rfl,(m : Int),rfl,by omega,by omega,?_⟩
 refine Z7 (fun i σ H'=>∃ (ns : List Wd) (b3 b4 : Option V),σ = [some (.ref st),some (.int (m : Int)),some (.ref l),b3,b4] ∧ DS st H H' ∧ H' l = some (.lst (ST ns)) ∧ ns.Nodup ∧ ns.length ≤ i ∧ ∀ n ∈ ns,P9 n)
  ⟨[],none,none,rfl,D1,A6,List.nodup_nil,Nat.le_refl _,fun n hn=>(by cases hn)⟩ (fun i σ H' hi hinv=>?_) (fun σ H' hinv=>?_)
 ·obtain ⟨ns,b3,b4,rfl,d,hl',hd,hlen,hok⟩ := hinv
  obtain ⟨y,hy⟩ := d.s
  have nl := d.ne hl
  refine ⟨_,rfl,st,y,rfl,hy,fun H2 v d2 hv=>?_⟩
  have d' := d.more d2
  have hl2 := d2.g _ _ nl hl'
  refine ⟨_,rfl,_,rfl,l,_,rfl,.inl (SqL.of hl2),rfl,kF _,_,rfl,?_⟩
  show if (!cV (.str (S v)) (ST ns)) = true then _ else _
  rw [iZ]
  by_cases e : v ∈ ns
  ·rw [decide_eq_true e]
   exact D7 ⟨ns,_,_,rfl,d',hl2,hd,by omega,hok⟩
  ·rw [decide_eq_false e]
   refine E8 ⟨_,rfl,.inl ⟨rfl,_,SqL.of hl2⟩,_,rfl,l,_,_,rfl,rfl,hl2,by rw [List.length_map]; exact O7 (by omega),ns ++ [v],some (.int (0 + (i : Int))),_,rfl,d'.put hl,?_,?_,by rw [List.length_append,List.length_singleton]; omega,fun n hn=>?_⟩
   ·rw [A6]; simp [ST]
   ·rw [List.nodup_append]
    exact ⟨hd,by simp,fun a ha b hb=>by rw [List.mem_singleton.mp hb]; exact fun z=>e (z ▸ ha)⟩
   ·rcases List.mem_append.mp hn with z | z
    ·exact hok n z
    ·rw [List.mem_singleton.mp z]; exact hv
 ·obtain ⟨ns,b3,b4,rfl,d,hl',hd,hlen,hok⟩ := hinv
  exact ⟨_,rfl,q H' l ns d hl hl' hd hlen hok⟩
abbrev uA : Stmt := M8 45
theorem wD : E2 ["_law_state","_law_number_here","_law_k"] ["_law_state"] (B2 uA) := ⟨rfl,rfl,rfl,by decide +kernel,rfl,by decide +kernel,by decide +kernel⟩
def AA1 : Sp := fun args H Q _=>∃ (st : Addr) (x : Int),args = [.ref st] ∧ H st = some (.lst [.int x]) ∧ ∀ (H' : Hp) (i : Int),DS st H H' → i.natAbs < 12 * 10 ^ 50 → Q (.int i) H'
theorem BA9 (F : Fun K "_law_number" "_law_number" uA f fd) (N : Cal P w K mg base 1 "_law_next" ["_law_state","_law_many"] Q3) (m1 : mg "range" = none) : FnOk P w K mg base K5 2 f fd ["_law_state"] AA1 := by
 refine F.ok wD (fun vs H Q E h=>?_) (fun cdv A outer s H vs Q E hr h=>?_)
 ·obtain ⟨st,x,rfl,_⟩ := h
  rfl
 obtain ⟨st,x,rfl,hs,q⟩ := h
 refine ⟨_,A7 (B7 (i := 1) wD.nd rfl (Or.inl rfl) (B4 N hr rfl (A0 (pv 0) (A0 B1 A5))))
  (M6 (E5 (B9 G9 (B4 N hr rfl (A0 (pv 0) (A0 B1 A5))) B1 (B8 _))
   (A9 (R4 PassesOwn.never rfl (O0 rfl m1 (A0 B1 A5)) (K0 (i := 2) wD.nd rfl (Or.inl rfl))
    (A9 (B7 (i := 1) wD.nd rfl (Or.inl rfl) (E4 P4 (E4 lY (pv 1) (E4 iR B1 B1)) (B4 N hr rfl (A0 (pv 0) (A0 (E4 iR B1 B1) A5)))))))) D6)
  (A7 (E5 (B9 G9 (B4 N hr rfl (A0 (pv 0) (A0 B1 A5))) B1 (B8 _)) (A9 (B6 (qP lG (pv 1)))) D6)
  (A9 (B6 (pv 1))))),?_⟩
 have D0 := DS.start hs
 refine ⟨_,rfl,st,x,12,rfl,hs,by decide,fun y r0 a0 a1=>?_⟩
 have D1 := D0.next y
 obtain ⟨y1,hy1⟩ := D1.s
 refine ⟨fun σ' H'=>∃ (i : Int) (b2 : Option V),σ' = [some (.ref st),some (.int i),b2] ∧ DS st H H' ∧ 0 ≤ i ∧ i < 12 * 10 ^ 50,?_,?_⟩
 ·refine ⟨_,rfl,st,y1,4,rfl,hy1,by decide,fun y2 r b0 b1=>⟨rfl,_,rfl,N1 (fun _=>?_) (fun _=>⟨r0,none,rfl,D1.next y2,a0,by omega⟩)⟩⟩
  refine ⟨(5 : Int),rfl,by decide,by decide,?_⟩
  refine Z7 (fun i σ H'=>∃ (v : Int) (b2 : Option V),σ = [some (.ref st),some (.int v),b2] ∧ DS st H H' ∧ 0 ≤ v ∧ v < 12 * 10 ^ (10 * i)) ⟨r0,none,rfl,D1.next y2,a0,by simpa using a1⟩ (fun i σ H' hi hinv=>?_) (fun σ H' hinv=>?_)
  ·obtain ⟨v,b2,rfl,d,v0,v1⟩ := hinv
   obtain ⟨y3,hy3⟩ := d.s
   refine ⟨_,rfl,_,_,rfl,rfl,⟨by decide,by decide,by decide⟩,_,_,rfl,rfl,.inr ⟨by decide,by decide⟩,_,rfl,_,_,rfl,rfl,⟨by decide,by decide,by decide⟩,st,y3,_,rfl,hy3,(by show (0 : Int) < 10 ^ Int.toNat 10; decide),fun y4 r c0 c1=>?_⟩
   refine ⟨_,_,rfl,rfl,v * 10 ^ Int.toNat 10 + r,some (.int (0 + (i : Int))),rfl,d.next y4,?_,?_⟩
   ·have : (0 : Int) ≤ v * 10 ^ Int.toNat 10 := Int.mul_nonneg v0 (by decide)
    omega
   ·have e : (12 : Int) * 10 ^ (10 * (i + 1)) = (12 * 10 ^ (10 * i)) * 10 ^ 10 := by
     rw [Nat.mul_add,Int.pow_add,Int.mul_assoc]
    have c1' : r < 10 ^ 10 := c1
    have e2 : v * 10 ^ Int.toNat 10 = v * 10 ^ 10 := rfl
    rw [e,e2]
    generalize (12 : Int) * 10 ^ (10 * i) = B at v1
    omega
  ·obtain ⟨v,b2,rfl,d,v0,v1⟩ := hinv
   exact ⟨v,b2,rfl,d,v0,v1⟩
 ·rintro σ' H' ⟨i,b2,rfl,d,i0,i1⟩
  obtain ⟨y3,hy3⟩ := d.s
  refine ⟨_,rfl,st,y3,2,rfl,hy3,by decide,fun y4 r b0 b1=>⟨rfl,_,rfl,N1 (fun _=>⟨_,rfl,_,rfl,q _ _ (d.next y4) (by omega)⟩) (fun _=>⟨_,rfl,q _ _ (d.next y4) (by omega)⟩)⟩⟩
def iI : List Nat := (List.range 127).filter T4
theorem AE1 : (Str.ofString " !#$&'()*+,-./0123456789:;<=>?@ABCDEFGHIJKLMNOPQRSTUVWXYZ[\\]^_`abcdefghijklmnopqrstuvwxyz{|}~" : Str) = S iI := by decide +kernel
theorem xG : iI.length = 93 := by decide +kernel
theorem AA3 {c : Nat} (h : c ∈ iI) : T4 c = true := (List.mem_filter.mp h).2
abbrev tZ : Stmt := M8 46
theorem rP : E2 ["_law_state","_law_signs","_law_text_here","_law_k"] ["_law_state"] (B2 tZ) := ⟨rfl,rfl,rfl,by decide +kernel,rfl,by decide +kernel,by decide +kernel⟩
def AA0 : Sp := fun args H Q _=>∃ (st : Addr) (x : Int),args = [.ref st] ∧ H st = some (.lst [.int x]) ∧ ∀ (H' : Hp) (v : Wd),DS st H H' → (∀ c ∈ v,T4 c = true) → v.length ≤ 20 → Q (.str (S v)) H'
theorem BA7 (F : Fun K "_law_text" "_law_text" tZ f fd) (N : Cal P w K mg base 1 "_law_next" ["_law_state","_law_many"] Q3) (m1 : mg "range" = none) (m2 : mg "len" = none) : FnOk P w K mg base K5 2 f fd ["_law_state"] AA0 := by
 refine F.ok rP (fun vs H Q E h=>?_) (fun cdv A outer s H vs Q E hr h=>?_)
 ·obtain ⟨st,x,rfl,_⟩ := h
  rfl
 obtain ⟨st,x,rfl,hs,q⟩ := h
 refine ⟨_,A7 (B7 (i := 1) rP.nd rfl (Or.inl rfl) B3)
  (A7 (B7 (i := 2) rP.nd rfl (Or.inl rfl) B3)
  (A7 (R4 PassesOwn.never rfl (O0 rfl m1 (A0 (B4 N hr rfl (A0 (pv 0) (A0 B1 A5))) A5)) (K0 (i := 3) rP.nd rfl (Or.inl rfl))
   (A9 (Q5 (i := 2) rP.nd rfl (Or.inl rfl) (G7 aG (pv 1) (B4 N hr rfl (A0 (pv 0) (A0 (G7 O3 (E3 (A0 (E7 U8 rfl m2 PySem.boot_len (A0 (pv 1) A5)) (A0 B1 A5))) (B4 N hr rfl (A0 (pv 0) (A0 B1 A5))) (fun _ _=>rfl)) A5))) (fun _ _=>rfl)) eO)))
  (A9 (B6 (pv 2))))),?_⟩
 have D0 := DS.start hs
 have hsl := xG
 refine ⟨_,rfl,st,x,5,rfl,hs,by decide,fun y m a0 a1=>?_⟩
 obtain ⟨k,rfl⟩ := Int.eq_ofNat_of_zero_le a0
 refine ⟨(k : Int),rfl,by omega,by omega,?_⟩
 rw [AE1]
 refine Z7 (fun i σ H'=>∃ (v : Wd) (z : Option V),σ = [some (.ref st),some (.str (S iI)),some (.str (S v)),z] ∧ DS st H H' ∧ (∀ c ∈ v,T4 c = true) ∧ v.length = i)
  ⟨[],none,by show _ = _; rw [gW]; rfl,D0.next y,fun c hc=>(by cases hc),rfl⟩ (fun i σ H' hi hinv=>?_) (fun σ H' hinv=>?_)
 ·obtain ⟨v,z,rfl,d,hv,hl⟩ := hinv
  refine ⟨_,rfl,_,rfl,_,rfl,_,rfl,_,rfl,P0 (by rw [hsl]; decide),T6,fun l1 hl1=>?_⟩
  rw [N4,hsl]
  have k1 := A8 hl1 (.lst [.int ((93 : Nat) : Int),.int 3])
  have d1 := d.same k1
  have nl := d.ne (d.old hl1)
  obtain ⟨y1,hy1⟩ := d1.s
  refine ⟨_,rfl,st,y1,2,rfl,hy1,by decide,fun y2 r b0 b1=>?_⟩
  obtain ⟨e1,he1,h93⟩ : ∃ e1 : Int,aK [V.int ((93 : Nat) : Int),.int 3] r = some (.int e1) ∧ (e1 = 93 ∨ e1 = 3) := by
   have : r = 0 ∨ r = 1 := by omega
   rcases this with e | e <;> rw [e]
   ·exact ⟨93,rfl,.inl rfl⟩
   ·exact ⟨3,rfl,.inr rfl⟩
  have d2 := d1.next y2
  obtain ⟨y3,hy3⟩ := d2.s
  refine ⟨l1,_,_,.int e1,rfl,rfl,SqL.of (by rw [B5 nl]; exact A6),he1,st,y3,e1,rfl,hy3,by omega,fun y4 r2 c0 c1=>?_⟩
  obtain ⟨c,hc,hat⟩ := zO (xs := iI) c0 (by rw [hsl]; omega)
  refine ⟨_,_,c,rfl,rfl,P0 (by rw [hsl]; decide),hat,?_⟩
  refine ⟨_,_,rfl,rfl,cZ (b := [c]) (by simp; omega),v ++ [c],some (.int (0 + (i : Int))),?_,d2.next y4,fun x hx=>?_,by simp [hl]⟩
  ·rw [show (⟨#[c]⟩ : Str) = S [c] from rfl,hZ]; rfl
  ·rcases List.mem_append.mp hx with h | h
   ·exact hv x h
   ·rw [List.mem_singleton.mp h]; exact AA3 hc
 ·obtain ⟨v,z,rfl,d,hv,hl⟩ := hinv
  exact ⟨_,rfl,q H' v d hv (by omega)⟩
def dZ (K : PySem.W.Frag) (T : Tn → Prop) : Sp := fun args H Q _=>∃ (st : Addr) (x : Int),args = [.ref st] ∧ H st = some (.lst [.int x]) ∧ ∀ (H' : Hp) (t : Tn) (v : V),DS st H H' → T t → TV K H' t v → Q v H'
abbrev nC : Stmt := M8 47
theorem wB : E2 ["_law_state","_law_low","_law_way"] ["_law_state"] (B2 nC) := ⟨rfl,rfl,rfl,by decide +kernel,rfl,by decide +kernel,by decide +kernel⟩
theorem iok {i : Int} (h : i.natAbs < 24 * 10 ^ 50) : bB i := Nat.lt_trans h (by decide)
theorem AT5 (F : Fun K "_law_span" "_law_span" nC f fd) (N : Cal P w K mg base 1 "_law_next" ["_law_state","_law_many"] Q3) (NO : Cal P w K mg base 2 "_law_number" ["_law_state"] AA1) : FnOk P w K mg base K5 3 f fd ["_law_state"] (dZ K bA) := by
 refine F.ok wB (fun vs H Q E h=>?_) (fun cdv A outer s H vs Q E hr h=>?_)
 ·obtain ⟨st,x,rfl,_⟩ := h
  rfl
 obtain ⟨st,x,rfl,hs,q⟩ := h
 have hr1 := hr.mono (show 1 ≤ 2 by decide)
 refine ⟨_,A7 (B7 (i := 1) wB.nd rfl (Or.inl rfl) (B4 NO hr rfl (A0 (pv 0) A5)))
  (A7 (B7 (i := 2) wB.nd rfl (Or.inl rfl) (B4 N hr1 rfl (A0 (pv 0) (A0 B1 A5))))
  (A7 (E5 (B9 bN (pv 2) B1 (B8 _)) (A9 (B6 (L0 (A0 B3 (A0 (pv 1) (A0 (pv 1) A5)))))) D6)
  (A7 (E5 (B9 G9 (pv 2) B1 (B8 _)) (A9 (B6 (L0 (A0 B3 (A0 (pv 1) (A0 X9 A5)))))) D6)
  (A7 (E5 (B9 G9 (pv 2) B1 (B8 _)) (A9 (B6 (L0 (A0 B3 (A0 X9 (A0 (pv 1) A5)))))) D6)
  (A9 (B6 (L0 (A0 B3 (A0 (pv 1) (A0 (E4 P4 (pv 1) (B4 NO hr rfl (A0 (pv 0) A5))) A5)))))))))),?_⟩
 have D0 := DS.start hs
 have fin : ∀ {H2 : Hp} {a b : Option Int} {va vb : V} {p : Addr},DS st H H2 → H2 p = none → (a ≠ none ∨ b ≠ none) → (∀ i,a = some i → bB i) → (∀ i,b = some i → bB i) → (∀ H3,TV K H3 (oI a) va) → (∀ H3,TV K H3 (oI b) vb) → Q (.ref p) (D5 H2 p (.tup [.str (Str.ofString "span"),va,vb])) := fun {H2 a b va vb p} d hp h1 h2 h3 h4 h5 =>
  q _ _ _ (d.same (A8 hp _)) (.span h1 h2 h3) (eY A6 (h4 _) (h5 _))
 refine ⟨_,rfl,st,x,rfl,hs,fun H1 low d1 hlow=>?_⟩
 have il : bB low := iok (by omega)
 obtain ⟨y1,hy1⟩ := d1.s
 refine ⟨_,rfl,st,y1,5,rfl,hy1,by decide,fun y2 way b0 b1=>?_⟩
 have d2 := d1.next y2
 have s1 : ∀ i,some low = some i → bB i := fun i e=>by cases e; exact il
 have s0 : ∀ i,(none : Option Int) = some i → bB i := fun i e=>by cases e
 refine ⟨_,rfl,_,_,rfl,rfl,_,rfl,N1 (fun _=>?_) (fun _=>?_)⟩
 ·exact ⟨_,rfl,_,rfl,Y7,fun p hp=>fin (a := some low) (b := some low) d2 hp (.inl (by simp)) s1 s1 (fun _=>TV.int) (fun _=>TV.int)⟩
 refine ⟨_,rfl,rfl,_,rfl,N1 (fun _=>?_) (fun _=>?_)⟩
 ·exact ⟨_,rfl,Y7,fun p hp=>fin (a := some low) (b := none) d2 hp (.inl (by simp)) s1 s0 (fun _=>TV.int) (fun _=>TV.non)⟩
 refine ⟨_,rfl,rfl,_,rfl,N1 (fun _=>?_) (fun _=>?_)⟩
 ·exact ⟨_,rfl,Y7,fun p hp=>fin (a := none) (b := some low) d2 hp (.inr (by simp)) s0 s1 (fun _=>TV.non) (fun _=>TV.int)⟩
 obtain ⟨y3,hy3⟩ := d2.s
 refine ⟨_,rfl,_,rfl,_,rfl,st,y3,rfl,hy3,fun H4 n d4 hn=>?_⟩
 refine ⟨_,_,rfl,rfl,Y7,fun p hp=>fin (a := some low) (b := some (low + n)) (d2.more d4) hp (.inl (by simp)) s1 (fun i e=>by cases e; exact iok (by omega)) (fun _=>TV.int) (fun _=>TV.int)⟩
abbrev uC : Stmt := M8 48
theorem AR6 : E2 ["_law_state","_law_way"] ["_law_state"] (B2 uC) := ⟨rfl,rfl,rfl,by decide +kernel,rfl,by decide +kernel,by decide +kernel⟩
theorem BB1 (F : Fun K "_law_leaf" "_law_leaf" uC f fd) (N : Cal P w K mg base 1 "_law_next" ["_law_state","_law_many"] Q3) (PL : Cal P w K mg base 1 "_law_plain" [] jN) (SP : Cal P w K mg base 3 "_law_span" ["_law_state"] (dZ K bA)) (TX : Cal P w K mg base 2 "_law_text" ["_law_state"] AA0) : FnOk P w K mg base K5 4 f fd ["_law_state"] (dZ K bA) := by
 refine F.ok AR6 (fun vs H Q E h=>?_) (fun cdv A outer s H vs Q E hr h=>?_)
 ·obtain ⟨st,x,rfl,_⟩ := h
  rfl
 obtain ⟨st,x,rfl,hs,q⟩ := h
 have hr1 := hr.mono (show 1 ≤ 3 by decide)
 have hr2 := hr.mono (show 2 ≤ 3 by decide)
 refine ⟨_,A7 (B7 (i := 1) AR6.nd rfl (Or.inl rfl) (B4 N hr1 rfl (A0 (pv 0) (A0 B1 A5))))
  (A7 (E5 (B9 bN (pv 1) B1 (B8 _)) (A9 (B6 (L0 (A0 B3 (A0 (G7 O3 (uH PL hr1 rfl) (B4 N hr1 rfl (A0 (pv 0) (A0 B1 A5))) (fun _ _=>rfl)) A5))))) D6)
  (A7 (E5 (B9 bN (pv 1) B1 (B8 _)) (A9 (B6 (B4 SP hr rfl (A0 (pv 0) A5)))) D6)
  (A9 (B6 (L0 (A0 B3 (A0 (B4 TX hr2 rfl (A0 (pv 0) A5)) A5))))))),?_⟩
 have D0 := DS.start hs
 refine ⟨_,rfl,st,x,6,rfl,hs,by decide,fun y way a0 a1=>?_⟩
 have d1 := D0.next y
 obtain ⟨y1,hy1⟩ := d1.s
 refine ⟨_,rfl,_,_,rfl,rfl,_,rfl,N1 (fun _=>?_) (fun _=>?_)⟩
 ·refine ⟨rfl,fun l1 hl1=>?_⟩
  have k1 := A8 hl1 (.lst (ST N9))
  have d2 := d1.same k1
  have nl := d1.ne (d1.old hl1)
  obtain ⟨y2,hy2⟩ := d2.s
  refine ⟨_,rfl,st,y2,10,rfl,hy2,by decide,fun y3 r b0 b1=>?_⟩
  obtain ⟨v,hv,hat⟩ := AK0 (xs := N9) b0 (by show r < 10; exact b1)
  refine ⟨l1,_,_,_,rfl,rfl,SqL.of (by rw [B5 nl]; exact A6),hat,T6,fun p hp=>?_⟩
  exact q _ _ _ ((d2.next y3).same (A8 hp _)) (.word hv) (TV.tup (SqT.of (by rw [A6,aE])) (TAll.cons TV.str (TAll.one TV.str)))
 refine ⟨_,rfl,_,_,rfl,rfl,_,rfl,N1 (fun _=>?_) (fun _=>?_)⟩
 ·exact ⟨_,rfl,st,y1,rfl,hy1,fun H2 t v d2 ht hv=>q H2 t v (d1.more d2) ht hv⟩
 refine ⟨_,rfl,st,y1,rfl,hy1,fun H2 v d2 hv hl=>⟨T6,fun p hp=>?_⟩⟩
 exact q _ _ _ ((d1.more d2).same (A8 hp _)) (.text hv hl) (TV.tup (SqT.of (by rw [A6,bQ])) (TAll.cons TV.str (TAll.one TV.str)))
end
end Law
namespace Law
open PySem L2 L2.Sp
def L4 (_ : Nat) : Nat := 3
section
variable {P : Program} {w : World} {K : PySem.W.Frag} {mg : Str → Option Value} {base : Heap} {f : Addr} {fd : FuncData}
abbrev dI : Stmt := M8 49
theorem cI : E2 ["_law_state","_law_deep","_law_places","_law_way","_law_items","_law_fields","_law_name_here","_law_trees"] ["_law_state","_law_deep","_law_places"] (B2 dI) := ⟨rfl,rfl,rfl,by decide +kernel,rfl,by decide +kernel,by decide +kernel⟩
theorem mB : (["_law_k","_law_state"] : List Str).Nodup := by decide +kernel
theorem AV0 : (["_law_k","_law_state","_law_deep"] : List Str).Nodup := by decide +kernel
theorem AP0 : (["_law_k","_law_state","_law_deep","_law_places"] : List Str).Nodup := by decide +kernel
def cE (K : PySem.W.Frag) (n : Nat) : Sp := fun args H Q _=>∃ (st : Addr) (x : Int) (pl : Bool),args = [.ref st,.int (n : Int),.bl pl] ∧ H st = some (.lst [.int x]) ∧ ∀ (H' : Hp) (t : Tn) (v : V),DS st H H' → GT L4 n pl t → TV K H' t v → Q v H'
theorem GT.leaf {mx : Nat → Nat} {n : Nat} {pl : Bool} {t : Tn} (h : bA t) : GT mx n pl t := by cases n <;> exact .inl h
theorem GT.place {mx : Nat → Nat} {n : Nat} {t : Tn} (h : tE t) : GT mx n true t := by
 cases n with
 | zero=>exact .inr ⟨rfl,h⟩
 | succ n=>exact .inr (.inl ⟨rfl,h⟩)
def mT (K : PySem.W.Frag) (T : Tn → Prop) (st : Addr) (H0 H : Hp) (l : Addr) (ys : List V) (i : Nat) : Prop := DS st H0 H ∧ H l = some (.lst ys) ∧ ∃ ts,TAll K H ts ys ∧ ts.length = i ∧ ∀ t ∈ ts,T t
theorem uL {k n : Nat} {sp : Sp} (F : Fun K "_law_tree" "_law_tree" dI f fd) (TR : Cal P w K mg base k "_law_tree" ["_law_state","_law_deep","_law_places"] sp) (hsp : ∀ n',n = n' + 1 → sp = cE K n') (N : Cal P w K mg base 1 "_law_next" ["_law_state","_law_many"] Q3)
  (NM : Cal P w K mg base 3 "_law_name" ["_law_state"] kR) (NMS : Cal P w K mg base 4 "_law_names" ["_law_state","_law_many"] qG) (LF : Cal P w K mg base 4 "_law_leaf" ["_law_state"] (dZ K bA)) (m1 : mg "range" = none) (m2 : mg "tuple" = none) (hk : 4 ≤ k) (hn : n ≤ 3) :
  FnOk P w K mg base K5 (k + 1) f fd ["_law_state","_law_deep","_law_places"] (cE K n) := by
 refine F.ok cI (fun vs H Q E h=>?_) (fun cdv A outer s H vs Q E hr h=>?_)
 ·obtain ⟨st,x,pl,rfl,_⟩ := h
  rfl
 obtain ⟨st,x,pl,rfl,hs,q⟩ := h
 have hr1 := hr.mono (show 1 ≤ k by omega)
 have hr2 := hr.mono (show 2 ≤ k by omega)
 have hr3 := hr.mono (show 3 ≤ k by omega)
 have hr4 := hr.mono hk
 refine ⟨_,A7 (B7 (i := 3) cI.nd rfl (Or.inl rfl) (B4 N hr1 rfl (A0 (pv 0) (A0 B1 A5))))
  (M6 (E5 (PW.pt (aA (K9 (pv 2)) (aM (B9 G9 (pv 3) B1 (B8 _)))))
   (A9 (B6 (L0 (A0 B3 (A0 (J0 K3 rfl m2 O1 (A0 (aN (N' := ["_law_k","_law_state"]) (fr := [none,some 0]) (own := [0]) ⟨rfl,rfl,rfl,rfl,rfl,rfl,rfl⟩ rfl (O0 rfl m1 (A0 (E4 P4 B1 (B4 N hr1 rfl (A0 (pv 0) (A0 B1 A5)))) A5))
    (fun _ _ _ _=>K0 (i := 0) mB rfl (Or.inl rfl)) (R1 0) (fun _ _ _ _=>U5) (fun _ _ _ _=>B4 NM hr3 rfl (A0 (pv 1) A5))) A5)) A5))))) D6)
  (M6 (E5 (PW.pt (aO (B9 G9 (pv 1) B1 (B8 _)) (aU (B9 bN (pv 3) B1 (B8 _))))) (A9 (B6 (B4 LF hr4 rfl (A0 (pv 0) A5)))) D6)
  (A7 (E5 (B9 bN (pv 3) B1 (B8 _))
   (A7 (kA (i := 4) (N' := ["_law_k","_law_state","_law_deep"]) (fr := [none,some 0,some 1]) (own := [0]) ⟨rfl,rfl,rfl,rfl,rfl,rfl,rfl⟩ rfl cI.nd rfl rfl (O0 rfl m1 (A0 (B4 N hr1 rfl (A0 (pv 0) (A0 B1 A5))) A5))
    (fun _ _ _ _=>K0 (i := 0) AV0 rfl (Or.inl rfl)) (R1 0) (fun _ _ _ _=>U5) (fun _ _ _ _=>B4 TR hr rfl (A0 (pv 1) (A0 (E4 aB (pv 2) B1) (A0 P2 A5)))))
   (A9 (B6 (L0 (A0 B3 (A0 (J0 K3 rfl m2 O1 (A0 (pv 4) A5)) (A0 (N7 G9 (B4 N hr1 rfl (A0 (pv 0) (A0 B1 A5))) B1 (B8 _)) A5))))))) D6)
  (A7 (E5 (B9 bN (pv 3) B1 (B8 _))
   (A7 (B7 (i := 5) cI.nd rfl (Or.inl rfl) (E3 A5))
   (A7 (R4 PassesOwn.never rfl (bZ (B4 NMS hr4 rfl (A0 (pv 0) (A0 (B4 N hr1 rfl (A0 (pv 0) (A0 B1 A5))) A5)))) (K0 (i := 6) cI.nd rfl (Or.inl rfl))
    (A9 (K2 (O9 PySem.F.plainAttrs_list PySem.F.slot_list_append PySem.F.type_list_append K4 (pv 5) (A0 (L0 (A0 (pv 6) (A0 (B4 TR hr rfl (A0 (pv 0) (A0 (E4 aB (pv 1) B1) (A0 P2 A5)))) (A0 (N7 G9 (B4 N hr1 rfl (A0 (pv 0) (A0 B1 A5))) B1 (B8 _)) A5)))) A5)))))
   (A9 (B6 (L0 (A0 B3 (A0 (J0 K3 rfl m2 O1 (A0 (pv 5) A5)) (A0 (N7 G9 (B4 N hr1 rfl (A0 (pv 0) (A0 B1 A5))) B1 (B8 _)) A5)))))))) D6)
  (A7 (E5 (B9 G9 (pv 3) B1 (B8 _)) (A9 (B6 (L0 (A0 B3 (A0 (B4 TR hr rfl (A0 (pv 0) (A0 (E4 aB (pv 1) B1) (A0 P2 A5)))) A5))))) D6)
  (A7 (kA (i := 7) (N' := ["_law_k","_law_state","_law_deep","_law_places"]) (fr := [none,some 0,some 1,some 2]) (own := [0]) ⟨rfl,rfl,rfl,rfl,rfl,rfl,rfl⟩ rfl cI.nd rfl rfl (O0 rfl m1 (A0 (E4 P4 B1 (B4 N hr1 rfl (A0 (pv 0) (A0 B1 A5)))) A5))
    (fun _ _ _ _=>K0 (i := 0) AP0 rfl (Or.inl rfl)) (R1 0) (fun _ _ _ _=>U5) (fun _ _ _ _=>B4 TR hr rfl (A0 (pv 1) (A0 (E4 aB (pv 2) B1) (A0 (pv 3) A5)))))
  (A9 (B6 (L0 (A0 (G7 O3 (E3 (A0 B3 (A0 B3 A5))) (E4 aB (pv 3) B1) (fun _ _=>rfl)) (A0 (J0 K3 rfl m2 O1 (A0 (pv 7) A5)) A5))))))))))),?_⟩
 have D0 := DS.start hs
 refine ⟨_,rfl,st,x,10,rfl,hs,by decide,fun y way a0 a1=>?_⟩
 have D1 := D0.next y
 refine ⟨fun σ' H'=>σ' = [some (.ref st),some (.int (n : Int)),some (.bl pl),some (.int way),none,none,none,none] ∧ DS st H H',?_,?_⟩
 ·refine ⟨_,rfl,_,rfl,?_⟩
  cases pl with
  | false=>exact D7 (D7 ⟨rfl,D1⟩)
  | true =>
   refine E8 ⟨_,rfl,rfl,_,rfl,N1 (fun _=>?_) (fun _=>⟨rfl,D1⟩)⟩
   obtain ⟨y1,hy1⟩ := D1.s
   refine ⟨_,rfl,st,y1,3,rfl,hy1,by decide,fun y2 r b0 b1=>?_⟩
   have D2 := D1.next y2
   obtain ⟨c,rfl⟩ := Int.eq_ofNat_of_zero_le b0
   refine ⟨_,_,rfl,rfl,((1 + c : Nat) : Int),by rw [show ((1 + c : Nat) : Int) = 1 + (c : Int) by omega],by omega,by omega,fun l hl=>?_⟩
   have hl0 := D2.old hl
   refine R8 (fun i ys H'=>DS st H H' ∧ H' l = some (.lst ys) ∧ ∃ ns,ys = ST ns ∧ ns.length = i ∧ ∀ n ∈ ns,P9 n) ⟨D2.put hl0,A6,[],rfl,rfl,fun n hn=>(by cases hn)⟩ (fun i ys H' hi hinv=>?_) (fun ys H' hinv=>?_)
   ·obtain ⟨d,hl',ns,rfl,hlen,hok⟩ := hinv
    obtain ⟨y3,hy3⟩ := d.s
    have nl := d.ne hl0
    dsimp only [U4,U0]
    refine cD ⟨_,rfl,st,y3,rfl,hy3,fun H4 v d4 hv=>?_⟩
    refine ⟨d4.g _ _ nl hl',by rw [List.length_map]; exact O7 (by omega),(d.more d4).put hl0,A6,ns ++ [v],by simp [ST],by simp [hlen],fun m hm=>?_⟩
    rcases List.mem_append.mp hm with z | z
    ·exact hok m z
    ·rw [List.mem_singleton.mp z]; exact hv
   ·obtain ⟨d,hl',ns,rfl,hlen,hok⟩ := hinv
    refine ⟨l,_,rfl,.inl ⟨SqL.of hl',fun p hp=>⟨T6,fun p2 hp2=>?_⟩⟩⟩
    have k1 := A8 hp (.tup (ST ns))
    have k2 := A8 hp2 (.tup [.str (Str.ofString "place"),.ref p])
    refine q _ _ _ (d.same (k1.trans k2)) (GT.place (.mk (fun z=>by rw [z] at hlen; simp at hlen; omega) (by omega) hok)) ?_
    exact TV.tup (SqT.of (by rw [A6,aW])) (TAll.cons TV.str (TAll.one (TV.tup (SqT.of (k2 _ _ A6)) (TAll.strs ns))))
 rintro σ1 H1 ⟨rfl,d1⟩
 clear D0 D1
 refine ⟨fun σ' H'=>σ' = [some (.ref st),some (.int (n : Int)),some (.bl pl),some (.int way),none,none,none,none] ∧ H' = H1 ∧ n ≠ 0 ∧ 3 ≤ way,?_,?_⟩
 ·obtain ⟨y1,hy1⟩ := d1.s
  have leaf : ∀ {Q' : Prop},(∀ (H' : Hp) (t : Tn) (v : V),DS st H1 H' → bA t → TV K H' t v → Q v H') := fun {Q'} H' t v d ht hv=>q H' t v (d1.more d) (GT.leaf ht) hv
  refine ⟨_,rfl,rfl,_,rfl,N1 (fun _=>E8 ⟨_,rfl,st,y1,rfl,hy1,fun H' t v d ht hv=>q H' t v (d1.more d) (GT.leaf ht) hv⟩) (fun c=>?_)⟩
  refine ⟨_,rfl,_,_,rfl,rfl,_,rfl,N1 (fun _=>⟨_,rfl,st,y1,rfl,hy1,fun H' t v d ht hv=>q H' t v (d1.more d) (GT.leaf ht) hv⟩) (fun c2=>⟨rfl,rfl,fun z=>c (decide_eq_true (by rw [z]; rfl)),?_⟩)⟩
  exact Int.not_lt.mp fun z=>c2 (decide_eq_true z)
 rintro σ2 H2 ⟨rfl,rfl,hn0,hw3⟩
 obtain ⟨n',rfl⟩ : ∃ n',n = n' + 1 := ⟨n - 1,by omega⟩
 have esp := hsp n' rfl
 subst esp
 have em : ((n' + 1 : Nat) : Int) - 1 = (n' : Int) := by omega
 obtain ⟨y1,hy1⟩ := d1.s
 have turn : ∀ {pl' : Bool} {i : Nat} {ys : List V} {H' : Hp} {l : Addr},H l = none → mT K (GT L4 n' pl') st H H' l ys i → i ≤ 100 → ∀ {N' : List V → Hp → Prop},(∀ zs H'',mT K (GT L4 n' pl') st H H'' l zs (i + 1) → N' zs H'') →
   cE K n' [.ref st,.int (((n' + 1 : Nat) : Int) - 1),.bl pl'] H' (fun y H5=>H5 l = some (.lst ys) ∧ ys.length < sizeLine ∧ N' (ys ++ [y]) (D5 H5 l (.lst (ys ++ [y])))) E0 := fun {pl' i ys H' l} hl0 hinv hi {N'} hN=>by
  obtain ⟨d,hl',ts,hts,hlen,hok⟩ := hinv
  obtain ⟨y3,hy3⟩ := d.s
  have nl := d.ne hl0
  refine ⟨st,y3,pl',by rw [em],hy3,fun H5 t v d5 ht hv=>?_⟩
  have hl5 := d5.g _ _ nl hl'
  have kl := Kp.lst (K := K) (o := .lst (ys ++ [v])) hl5
  refine ⟨hl5,O7 (by rw [hts.length]; omega),hN _ _ ⟨(d.more d5).put hl0,A6,ts ++ [t],((hts.kp d5.kp).kp kl).append (TAll.one (TV.kp kl hv)),by simp [hlen],fun m hm=>?_⟩⟩
  rcases List.mem_append.mp hm with z | z
  ·exact hok m z
  ·rw [List.mem_singleton.mp z]; exact ht
 refine ⟨_,rfl,_,_,rfl,rfl,_,rfl,N1 (fun _=>?_) (fun c5=>?_)⟩
 ·refine ⟨_,rfl,st,y1,4,rfl,hy1,by decide,fun y3 r' c0 c1=>?_⟩
  obtain ⟨r,rfl⟩ := Int.eq_ofNat_of_zero_le c0
  have hr3' : r ≤ L4 (n' + 1) := by show r ≤ 3; omega
  have d2 := d1.next y3
  refine ⟨(r : Int),rfl,by omega,by omega,fun l hl=>?_⟩
  have hl0 := d2.old hl
  refine R8 (fun i ys H'=>mT K (GT L4 n' false) st H H' l ys i) ⟨d2.put hl0,A6,[],TAll.nil,rfl,fun t ht=>(by cases ht)⟩ (fun i ys H' hi hinv=>?_) (fun ys H' hinv=>?_)
  ·dsimp only [U4,U0]
   exact cD ⟨_,rfl,_,rfl,_,_,rfl,rfl,turn hl0 hinv (by omega) fun zs H'' h=>h⟩
  ·obtain ⟨d,hl',ts,hts,hlen,hok⟩ := hinv
   refine ⟨_,rfl,l,_,rfl,.inl ⟨SqL.of hl',fun p hp=>?_⟩⟩
   have k1 := A8 hp (.tup ys)
   have d5 := d.same k1
   obtain ⟨y5,hy5⟩ := d5.s
   refine ⟨_,rfl,st,y5,2,rfl,hy5,by decide,fun y6 r2 b0 b1=>⟨rfl,Y7,fun p2 hp2=>?_⟩⟩
   have d6 := d5.next y6
   have np : p ≠ st := d.ne (d.old hp)
   have k2 := A8 hp2 (.tup [.str (Str.ofString "list"),.ref p,.bl (decide (V.int r2 = V.int 0))])
   refine q _ (.tup [.str aF,.tup ts,.bl (decide (V.int r2 = V.int 0))]) _ (d6.same k2) (.inr (.inr (.inl ⟨ts,_,rfl,by omega,hok⟩))) ?_
   have k5 : Kp K H' _ := (Kp.same k1).trans ((Kp.lst hy5).trans (Kp.same k2))
   exact TV.tup (SqT.of (by rw [A6,qR])) (TAll.cons TV.str (TAll.cons (TV.tup (SqT.of (k2 _ _ (by rw [B5 np]; exact A6))) (hts.kp k5)) (TAll.one TV.bl)))
 refine ⟨_,rfl,_,_,rfl,rfl,_,rfl,N1 (fun _=>?_) (fun c7=>?_)⟩
 ·refine ⟨T7,fun lf hlf=>?_⟩
  have hlf0 := d1.old hlf
  have d2 := d1.put (o := .lst []) hlf0
  obtain ⟨y2,hy2⟩ := d2.s
  refine ⟨_,rfl,_,rfl,st,y2,4,rfl,hy2,by decide,fun yq r' c0 c1=>?_⟩
  obtain ⟨r,rfl⟩ := Int.eq_ofNat_of_zero_le c0
  have hr3' : r ≤ L4 (n' + 1) := by show r ≤ 3; omega
  have hr9 : r ≤ 9 := by omega
  have d23 := d2.next yq
  obtain ⟨y3,hy3⟩ := d23.s
  have nlf := d2.ne hlf0
  have hlf3 : D5 (D5 H2 lf (.lst [])) st (.lst [.int yq]) lf = some (.lst []) := by rw [B5 nlf]; exact A6
  refine ⟨st,y3,r,rfl,hy3,by omega,fun H4 ln ns d4 hln3 hln hnd hnl hnok=>?_⟩
  have hln0 := d23.old hln3
  have nln := d23.ne hln0
  have nfn : lf ≠ ln := D8 hlf3 hln3
  refine ⟨ln,rfl,⟨_,SqL.of hln⟩,?_⟩
  refine cW (xs := ST ns) (fun i σ H'=>∃ (fs : List (Wd × Tn × Bool)) (vs : List V) (b6 : Option V),σ = [some (.ref st),some (.int ((n' + 1 : Nat) : Int)),some (.bl pl),some (.int way),none,some (.ref lf),b6,none] ∧ DS st H H' ∧ H' lf = some (.lst vs) ∧ H' ln = some (.lst (ST ns)) ∧ TAll K H' (fs.map Y9) vs ∧ fs.map (·.1) = ns.take i ∧ ∀ f ∈ fs,P9 f.1 ∧ GT L4 n' false f.2.1)
   ⟨[],[],none,rfl,d23.more d4,d4.g _ _ nlf hlf3,hln,TAll.nil,rfl,fun f hf=>(by cases hf)⟩ (fun i σ H' _ hinv=>?_) (fun i u σ H' hu hinv=>?_) (fun σ H' hinv=>?_)
  ·obtain ⟨_,_,_,_,_,_,hq,_⟩ := hinv
   exact SqL.of hq
  ·obtain ⟨fs,vs,b6,rfl,d,hlf',hln',hts,hnm,hok⟩ := hinv
   obtain ⟨nm,hnmi,rfl⟩ : ∃ nm,ns[i]? = some nm ∧ u = .str (S nm) := by
    rw [List.getElem?_map] at hu
    cases e : ns[i]? with
    | none=>rw [e] at hu; cases hu
    | some z=>rw [e] at hu; cases hu; exact ⟨z,rfl,rfl⟩
   have hfl : fs.length ≤ 9 := by
    have := congrArg List.length hnm
    rw [List.length_map,List.length_take] at this
    omega
   obtain ⟨y5,hy5⟩ := d.s
   refine ⟨_,rfl,.inl ⟨rfl,_,SqL.of hlf'⟩,_,rfl,_,rfl,_,rfl,_,_,rfl,rfl,st,y5,false,by show [V.ref st,V.int (((n' + 1 : Nat) : Int) - 1),V.bl false] = _; rw [em],hy5,fun H5 t v d5 ht hv=>?_⟩
   obtain ⟨y6,hy6⟩ := d5.s
   have dd := d.more d5
   have hlf5 := d5.g _ _ nlf hlf'
   have hln5 := d5.g _ _ nln hln'
   refine ⟨_,rfl,st,y6,2,rfl,hy6,by decide,fun y7 r2 b0 b1=>⟨rfl,Y7,fun p hp=>?_⟩⟩
   have d7 := dd.next y7
   have k1 := A8 hp (.tup [.str (S nm),v,.bl (decide (V.int r2 = V.int 0))])
   have d8 := d7.same k1
   have hlf8 := k1 _ _ (show D5 H5 st (.lst [.int y7]) lf = some (.lst vs) by rw [B5 nlf]; exact hlf5)
   have hln8 := k1 _ _ (show D5 H5 st (.lst [.int y7]) ln = some (.lst (ST ns)) by rw [B5 nln]; exact hln5)
   have kk : Kp K H5 _ := (Kp.lst hy6).trans (Kp.same k1)
   have kl := Kp.lst (K := K) (o := .lst (vs ++ [.ref p])) hlf8
   refine ⟨lf,_,_,rfl,rfl,hlf8,O7 (by rw [hts.length,List.length_map]; omega),fs ++ [(nm,t,decide (V.int r2 = V.int 0))],_,some (.str (S nm)),rfl,d8.put hlf0,A6,by rw [B5 (Ne.symm nfn)]; exact hln8,?_,?_,fun g hg=>?_⟩
   ·rw [List.map_append]
    refine (hts.kp (d5.kp.trans (kk.trans kl))).append (TAll.one ?_)
    exact TV.kp kl (TV.tup (SqT.of A6) (TAll.cons TV.str (TAll.cons (TV.kp kk hv) (TAll.one TV.bl))))
   ·rw [List.map_append,hnm,R9 hnmi]; rfl
   ·rcases List.mem_append.mp hg with z | z
    ·exact hok g z
    ·rw [List.mem_singleton.mp z]; exact ⟨hnok nm (List.mem_of_getElem? hnmi),ht⟩
  ·obtain ⟨fs,vs,b6,rfl,d,hlf',hln',hts,hnm,hok⟩ := hinv
   have hnm : fs.map (·.1) = ns := by rw [hnm]; simp [ST]
   refine ⟨_,rfl,lf,_,rfl,.inl ⟨SqL.of hlf',fun p hp=>?_⟩⟩
   have k1 := A8 hp (.tup vs)
   have d5 := d.same k1
   obtain ⟨y5,hy5⟩ := d5.s
   refine ⟨_,rfl,st,y5,2,rfl,hy5,by decide,fun y6 r2 b0 b1=>⟨rfl,Y7,fun p2 hp2=>?_⟩⟩
   have d6 := d5.next y6
   have np : p ≠ st := d.ne (d.old hp)
   have k2 := A8 hp2 (.tup [.str (Str.ofString "record"),.ref p,.bl (decide (V.int r2 = V.int 0))])
   have hfl : fs.length = ns.length := by rw [← hnm,List.length_map]
   refine q _ (.tup [.str bE,.tup (fs.map Y9),.bl (decide (V.int r2 = V.int 0))]) _ (d6.same k2) (.inr (.inr (.inr (.inl ⟨fs,_,rfl,by omega,by rw [hnm]; exact hnd,hok⟩)))) ?_
   have k5 : Kp K H' _ := (Kp.same k1).trans ((Kp.lst hy5).trans (Kp.same k2))
   exact TV.tup (SqT.of (by rw [A6,AV4])) (TAll.cons TV.str (TAll.cons (TV.tup (SqT.of (k2 _ _ (by rw [B5 np]; exact A6))) (hts.kp k5)) (TAll.one TV.bl)))
 refine ⟨_,rfl,rfl,_,rfl,N1 (fun _=>?_) (fun c8=>?_)⟩
 ·refine ⟨_,rfl,_,rfl,_,_,rfl,rfl,st,y1,false,by show [V.ref st,V.int (((n' + 1 : Nat) : Int) - 1),V.bl false] = _; rw [em],hy1,fun H3 t v d3 ht hv=>⟨T6,fun p hp=>?_⟩⟩
  have k1 := A8 hp (.tup [.str (Str.ofString "not"),v])
  exact q _ (.tup [.str eM,t]) _ ((d1.more d3).same k1) (.inr (.inr (.inr (.inr (.inl ⟨t,rfl,ht⟩))))) (TV.tup (SqT.of (by rw [A6,gU])) (TAll.cons TV.str (TAll.one (TV.kp (Kp.same k1) hv))))
 ·refine ⟨_,rfl,st,y1,2,rfl,hy1,by decide,fun y3 r' c0 c1=>?_⟩
  obtain ⟨r,rfl⟩ := Int.eq_ofNat_of_zero_le c0
  have d2 := d1.next y3
  refine ⟨_,_,rfl,rfl,((2 + r : Nat) : Int),by rw [show ((2 + r : Nat) : Int) = 2 + (r : Int) by omega],by omega,by omega,fun l hl=>?_⟩
  have hl0 := d2.old hl
  refine R8 (fun i ys H'=>mT K (GT L4 n' pl) st H H' l ys i) ⟨d2.put hl0,A6,[],TAll.nil,rfl,fun t ht=>(by cases ht)⟩ (fun i ys H' hi hinv=>?_) (fun ys H' hinv=>?_)
  ·dsimp only [U4,U0]
   exact cD ⟨_,rfl,_,rfl,_,_,rfl,rfl,_,rfl,turn hl0 hinv (by omega) fun zs H'' h=>h⟩
  ·obtain ⟨d,hl',ts,hts,hlen,hok⟩ := hinv
   refine ⟨T6,fun l2 hl2=>?_⟩
   have k1 := A8 hl2 (.lst [.str (Str.ofString "and"),.str (Str.ofString "or")])
   obtain ⟨kw,hkw,hat⟩ : ∃ kw,(kw = Q6 ∨ kw = W6) ∧ aK [V.str (Str.ofString "and"),.str (Str.ofString "or")] (way - 8) = some (.str (S kw)) := by
    have h5 : ¬ way < 5 := fun z=>c5 (decide_eq_true z)
    have h7 : ¬ way < 7 := fun z=>c7 (decide_eq_true z)
    have h8 : way ≠ 7 := fun z=>c8 (decide_eq_true (by rw [z]))
    have : way = 8 ∨ way = 9 := by omega
    rcases this with e | e <;> rw [e,bP,kX]
    ·exact ⟨Q6,.inl rfl,rfl⟩
    ·exact ⟨W6,.inr rfl,rfl⟩
   refine ⟨_,rfl,_,_,rfl,rfl,l2,_,_,_,rfl,rfl,SqL.of A6,hat,_,rfl,l,_,rfl,.inl ⟨SqL.of (k1 _ _ hl'),fun p hp=>⟨T6,fun p2 hp2=>?_⟩⟩⟩
   have k2 := A8 hp (.tup ys)
   have k3 := A8 hp2 (.tup [.str (S kw),.ref p])
   have hr2' : 2 + r ≤ L4 (n' + 1) := by show 2 + r ≤ 3; omega
   refine q _ (.tup [.str kw,.tup ts]) _ (d.same (k1.trans (k2.trans k3))) (.inr (.inr (.inr (.inr (.inr ⟨kw,ts,hkw,rfl,by omega,by omega,hok⟩))))) ?_
   exact TV.tup (SqT.of A6) (TAll.cons TV.str (TAll.one (TV.tup (SqT.of (k3 _ _ A6)) (hts.kp (Kp.same (k1.trans (k2.trans k3)))))))
end
end Law
namespace Law
open PySem L2 L2.Sp
theorem uP (n : Nat) : 1 ≤ L4 n := by show 1 ≤ 3; decide
theorem sW : ∀ n,n ≤ 3 → aJ L4 n ≤ 1609 := by decide
theorem xV {n : Nat} {pl : Bool} {x : Tn} {ws : List Wd} (h : PrW L4 n pl x ws) : ws ≠ [] := by
 obtain ⟨u,r,e,_⟩ := (wG L4 n pl true x ws (fun _=>rfl) h).head.ex
 rw [e]; simp
theorem xO {n : Nat} {pl tied : Bool} {x : Tn} {row : List Wd} (h : aI (PrW L4 n pl) tied x row) : row ≠ [] := by
 obtain ⟨ws,hw,e | ⟨_,e⟩⟩ := h
 ·rw [e]; simp
 ·rw [e]; exact xV hw
theorem fN {n : Nat} (hn : n ≤ 3) {pl tied : Bool} {x : Tn} {row : List Wd} (h : aI (PrW L4 n pl) tied x row) : row.length ≤ 1611 := by
 have := (xN (fun ws hw=>cL uP n pl x ws hw) h).len
 have := sW n hn
 omega
theorem pK {s : Wd} {rows : List (List Wd)} {r : List Wd} (h : rows ≠ []) : G2 s (rows ++ [r]) = G2 s rows ++ s :: r := by
 rw [iW h]; simp [tails]
theorem kE {s : Wd} {rows : List (List Wd)} (h : rows ≠ []) (hr : ∀ r ∈ rows,r ≠ []) : G2 s rows ≠ [] := by
 obtain ⟨r,rows,rfl⟩ := List.exists_cons_of_ne_nil h
 intro z
 exact hr r (by simp) (List.append_eq_nil_iff.mp z).1
theorem iD {s : Wd} {b : Nat} : ∀ {rows : List (List Wd)},(∀ r ∈ rows,r.length ≤ b) → (tails s rows).length ≤ rows.length * (b + 1)
 | [],_=>by simp [tails]
 | r :: rs,h=>by
  rw [N2,List.length_cons,List.length_append,List.length_cons,Nat.succ_mul]
  have := iD (s := s) (rows := rs) fun x hx=>h x (by simp [hx])
  have := h r (by simp)
  omega
theorem kY {s : Wd} {b : Nat} {rows : List (List Wd)} (h : ∀ r ∈ rows,r.length ≤ b) : (G2 s rows).length ≤ rows.length * (b + 1) := by
 cases rows with
 | nil=>simp [G2]
 | cons r rs =>
  have := iD (s := s) (rows := rs) fun x hx=>h x (by simp [hx])
  have := h r (by simp)
  show (r ++ tails s rs).length ≤ _
  rw [List.length_append,List.length_cons,Nat.succ_mul]
  omega
def P5 : Tn → Wd
 | .tup (.str k :: _)=>k
 | _=>[]
theorem GT.kind {mx : Nat → Nat} {n : Nat} {pl : Bool} {t : Tn} (h : GT mx n pl t) : ∃ r,t = .tup (.str (P5 t) :: r) := by
 have lf : ∀ {t},bA t → ∃ r,t = .tup (.str (P5 t) :: r) := fun {t} h=>by cases h <;> exact ⟨_,rfl⟩
 have pl' : ∀ {t},tE t → ∃ r,t = .tup (.str (P5 t) :: r) := fun {t} h=>by cases h; exact ⟨_,rfl⟩
 cases n with
 | zero =>
  rcases h with h | ⟨_,h⟩
  ·exact lf h
  ·exact pl' h
 | succ n =>
  rcases h with h | ⟨_,h⟩ | ⟨ts,m,rfl,_⟩ | ⟨fs,m,rfl,_⟩ | ⟨t,rfl,_⟩ | ⟨k,ts,_,rfl,_⟩
  ·exact lf h
  ·exact pl' h
  ·exact ⟨_,rfl⟩
  ·exact ⟨_,rfl⟩
  ·exact ⟨_,rfl⟩
  ·exact ⟨_,rfl⟩
theorem kZ (k : Wd) (t : Tn) (h : ∃ r,t = .tup (.str (P5 t) :: r)) : sN k t = decide (P5 t = k) := by
 obtain ⟨r,e⟩ := h
 rw [e]; rfl
section
variable {P : Program} {w : World} {K : PySem.W.Frag} {mg : Str → Option Value} {base : Heap} {f : Addr} {fd : FuncData}
abbrev nA : Stmt := M8 52
theorem qJ : E2 ["_law_tree_here","_law_state","_law_low","_law_high","_law_words_here"] ["_law_tree_here","_law_state"] (B2 nA) := ⟨rfl,rfl,rfl,by decide +kernel,rfl,by decide +kernel,by decide +kernel⟩
def qE (K : PySem.W.Frag) : Sp := fun args H Q _=>∃ (v : V) (st : Addr) (x : Int) (a b : Option Int),args = [v,.ref st] ∧ H st = some (.lst [.int x]) ∧ (a ≠ none ∨ b ≠ none) ∧ (∀ i,a = some i → bB i) ∧ (∀ i,b = some i → bB i) ∧ TV K H (R6 (oI a) (oI b)) v ∧
 ∀ (H' : Hp) (l : Addr) (ws : List Wd),DS st H H' → H l = none → H' l = some (.lst (ST ws)) → kN (R6 (oI a) (oI b)) ws → Q (.ref l) H'
def oV : Option Int → V
 | none=>.non
 | some i=>.int i
theorem AH4 {H : Hp} {a : Option Int} {v : V} (h : TV K H (oI a) v) : v = oV a := by
 cases a <;> (simp only [oI,TV] at h; exact h)
theorem sG {i : Int} (h : bB i) : i.natAbs.log2 < 1920 := by
 have h2 : i.natAbs < 2 ^ 1919 := Nat.lt_trans h (by decide +kernel)
 by_cases e : i.natAbs = 0
 ·rw [e]; decide
 ·have := (Nat.log2_lt e).mpr h2
  omega
theorem AT4 (F : Fun K "_law_span_words" "_law_span_words" nA f fd) (N : Cal P w K mg base 1 "_law_next" ["_law_state","_law_many"] Q3) (m1 : mg "str" = none) : FnOk P w K mg base K5 2 f fd ["_law_tree_here","_law_state"] (qE K) := by
 refine F.ok qJ (fun vs H Q E h=>?_) (fun cdv A outer s H vs Q E hr h=>?_)
 ·obtain ⟨v,st,x,a,b,rfl,_⟩ := h
  rfl
 obtain ⟨v,st,x,a,b,rfl,hs,hab,ha,hb,hv,q⟩ := h
 refine ⟨_,A7 (B7 (i := 2) qJ.nd rfl (Or.inl rfl) (G7 O8 (pv 0) B1 (fun _ _=>rfl)))
  (A7 (B7 (i := 3) qJ.nd rfl (Or.inl rfl) (G7 O8 (pv 0) B1 (fun _ _=>rfl)))
  (M6 (E5 (PW.pt (aA (B9 oB (pv 2) X9 (B8 _)) (aA (B9 G9 (pv 2) (pv 3) (B8 _)) (aM (B9 aD (B4 N hr rfl (A0 (pv 1) (A0 B1 A5))) B1 (B8 _))))))
   (A9 (B6 (E3 (A0 (J0 jD rfl m1 aZ (A0 (pv 2) A5)) A5)))) D6)
  (A7 (B7 (i := 4) qJ.nd rfl (Or.inl rfl) (E3 A5))
  (M6 (E5 (B9 oB (pv 2) X9 (B8 _)) (A9 (K2 (O9 PySem.F.plainAttrs_list PySem.F.slot_list_append PySem.F.type_list_append K4 (pv 4) (A0 (J0 jD rfl m1 aZ (A0 (pv 2) A5)) A5)))) D6)
  (A7 (K2 (O9 PySem.F.plainAttrs_list PySem.F.slot_list_append PySem.F.type_list_append K4 (pv 4) (A0 B3 A5)))
  (M6 (E5 (B9 oB (pv 3) X9 (B8 _)) (A9 (K2 (O9 PySem.F.plainAttrs_list PySem.F.slot_list_append PySem.F.type_list_append K4 (pv 4) (A0 (J0 jD rfl m1 aZ (A0 (pv 3) A5)) A5)))) D6)
  (A9 (B6 (pv 4))))))))),?_⟩
 have D0 := DS.start hs
 unfold R6 at hv
 simp only [TV,TAll] at hv
 obtain ⟨p,ys,rfl,hp,_,_,rfl,rfl,u1,_,rfl,h1,u2,_,rfl,h2,rfl⟩ := hv
 cases AH4 h1
 cases AH4 h2
 refine ⟨_,rfl,p,_,_,oV a,rfl,rfl,hp,rfl,_,rfl,p,_,_,oV b,rfl,rfl,hp,rfl,?_⟩
 refine ⟨fun σ' H'=>σ' = [some (.ref p),some (.ref st),some (oV a),some (oV b),none] ∧ DS st H H',?_,?_⟩
 ·refine ⟨_,rfl,rfl,_,rfl,?_⟩
  cases a with
  | none=>exact D7 (D7 ⟨rfl,D0⟩)
  | some i =>
   refine E8 ⟨_,rfl,_,rfl,?_⟩
   cases b with
   | none=>exact ⟨rfl,_,rfl,D7 (D7 ⟨rfl,D0⟩)⟩
   | some j =>
    refine ⟨rfl,_,rfl,N1 (fun c=>?_) (fun _=>D7 ⟨rfl,D0⟩)⟩
    have hij : i = j := V.int.inj (of_decide_eq_true c)
    subst hij
    refine ⟨_,rfl,st,x,3,rfl,hs,by decide,fun y r b0 b1=>⟨_,_,rfl,rfl,_,rfl,N1 (fun _=>?_) (fun _=>⟨rfl,D0.next y⟩)⟩⟩
    refine ⟨_,rfl,_,rfl,sG (ha i rfl),M1,fun l hl=>?_⟩
    exact q _ l [V7 i] ((D0.next y).same (A8 hl _)) ((D0.next y).old hl) (by rw [A6]; rfl) (.one (ha i rfl))
 rintro σ1 H1 ⟨rfl,d1⟩
 refine ⟨T7,fun l hl=>?_⟩
 have hl0 := d1.old hl
 have d2 := d1.put (o := .lst []) hl0
 refine ⟨fun σ' H'=>σ' = [some (.ref p),some (.ref st),some (oV a),some (oV b),some (.ref l)] ∧ DS st H H' ∧ H' l = some (.lst (ST (oW a))),?_,?_⟩
 ·refine ⟨_,rfl,rfl,_,rfl,?_⟩
  cases a with
  | none=>exact D7 ⟨rfl,d2,A6⟩
  | some i =>
   refine E8 ⟨_,rfl,.inl ⟨rfl,_,SqL.of A6⟩,_,rfl,_,rfl,sG (ha i rfl),l,_,_,rfl,rfl,A6,O7 (by decide),rfl,d2.put hl0,?_⟩
   rw [A6]; rfl
 rintro σ2 H2 ⟨rfl,d3,hl3⟩
 refine ⟨_,rfl,.inl ⟨rfl,_,SqL.of hl3⟩,l,_,_,rfl,rfl,hl3,O7 (by rw [List.length_map]; cases a <;> simp [oW]),?_⟩
 rw [gX]
 have d4 := d3.put (o := .lst (ST (oW a) ++ [.str (S [46,46])])) hl0
 refine ⟨fun σ' H'=>σ' = [some (.ref p),some (.ref st),some (oV a),some (oV b),some (.ref l)] ∧ DS st H H' ∧ H' l = some (.lst (ST (oW a ++ [[46,46]] ++ oW b))),?_,?_⟩
 ·refine ⟨_,rfl,rfl,_,rfl,?_⟩
  cases b with
  | none=>exact D7 ⟨rfl,d4,by rw [A6]; simp [ST,oW]⟩
  | some j =>
   refine E8 ⟨_,rfl,.inl ⟨rfl,_,SqL.of A6⟩,_,rfl,_,rfl,sG (hb j rfl),l,_,_,rfl,rfl,A6,O7 (by rw [List.length_append,List.length_map]; cases a <;> simp [oW]),rfl,d4.put hl0,?_⟩
   rw [A6,← AY3]; simp [ST,oW]
 rintro σ3 H3 ⟨rfl,d5,hl5⟩
 exact ⟨_,rfl,q H3 l _ d5 hl0 hl5 (.span hab ha hb)⟩
abbrev iM : Stmt := M8 55
theorem dG : E2 ["_law_path","_law_words_here","_law_name_here"] ["_law_path"] (B2 iM) := ⟨rfl,rfl,rfl,by decide +kernel,rfl,by decide +kernel,by decide +kernel⟩
def jM (K : PySem.W.Frag) : Sp := fun args H Q _=>∃ (p : Addr) (ns : List Wd),args = [.ref p] ∧ SqT K H p (ST ns) ∧ ns.length ≤ 100 ∧ ∀ (H' : Hp) (l : Addr),Same H H' → H l = none → H' l = some (.lst (ST (G1 ns))) → Q (.ref l) H'
theorem pE {ns : List Wd} {n : Wd} : G1 (ns ++ [n]) = G1 ns ++ (if ns = [] then [] else [[46]]) ++ [n] := by
 unfold G1
 by_cases e : ns = []
 ·subst e; rfl
 ·rw [if_neg e,List.map_append,iW (by simpa using e)]
  simp [tails]
theorem cO (ns : List Wd) : (G1 ns).length ≤ 2 * ns.length := by
 unfold G1
 have := kY (s := [46]) (b := 1) (rows := ns.map ([·])) (fun r hr=>by
  obtain ⟨n,_,rfl⟩ := List.mem_map.mp hr
  exact Nat.le_refl _)
 rw [List.length_map] at this
 omega
theorem hV (u : V) (b : Bool) : cY [u] none (some (if b then (1 : Int) else 0)) = if b then [u] else [] := by
 cases b with
 | true=>exact zH id [u] 1
 | false=>exact zH id [u] 0
theorem AU0 (F : Fun K "_law_path_words" "_law_path_words" iM f fd) (m1 : mg "int" = none) (m2 : mg "len" = none) : FnOk P w K mg base K5 1 f fd ["_law_path"] (jM K) := by
 refine F.ok dG (fun vs H Q E h=>?_) (fun cdv A outer s H vs Q E hr h=>?_)
 ·obtain ⟨p,ns,rfl,_⟩ := h
  rfl
 obtain ⟨p,ns,rfl,hp,hn,q⟩ := h
 refine ⟨_,A7 (B7 (i := 1) dG.nd rfl (Or.inl rfl) (E3 A5))
  (A7 (R4 PassesOwn.never rfl (lV (pv 0)) (K0 (i := 2) dG.nd rfl (Or.inl rfl))
   (A9 (Q5 (i := 1) dG.nd rfl (Or.inl rfl) (E4 P6 (P1 fA (E3 (A0 B3 A5)) Z6 (N6 (J0 aY rfl m1 Y3 (A0 (N7 aD (E7 M2 rfl m2 PySem.boot_len (A0 (pv 1) A5)) B1 (B8 _)) A5)))) (E3 (A0 (pv 2) A5))) Y0)))
  (A9 (B6 (pv 1)))),?_⟩
 refine ⟨T7,fun l hl=>?_⟩
 have k0 := A8 hl (.lst [])
 refine ⟨_,rfl,p,rfl,⟨_,k0.seqT hp⟩,?_⟩
 refine oF (xs := ST ns) (fun i σ H'=>∃ b2 : Option V,σ = [some (.ref p),some (.ref l),b2] ∧ Same H H' ∧ H' l = some (.lst (ST (G1 (ns.take i))))) ⟨none,rfl,k0,A6⟩ (fun i σ H' _ ⟨_,_,g,_⟩=>g.seqT hp) (fun i u σ H' hu hinv=>?_) (fun σ H' hinv=>?_)
 ·obtain ⟨b2,rfl,g,hl'⟩ := hinv
  obtain ⟨nm,hnm,rfl⟩ : ∃ nm,ns[i]? = some nm ∧ u = .str (S nm) := by
   rw [List.getElem?_map] at hu
   cases e : ns[i]? with
   | none=>rw [e] at hu; cases hu
   | some z=>rw [e] at hu; cases hu; exact ⟨z,rfl,rfl⟩
  refine ⟨_,rfl,M1,fun l1 hl1=>?_⟩
  rw [AE6]
  have k1 := A8 hl1 (.lst [.str (S [46])])
  have hl1' := k1 _ _ hl'
  refine ⟨_,rfl,l,_,rfl,.inl (SqL.of hl1'),_,_,rfl,rfl,_,rfl,_,rfl,l1,_,rfl,SqL.of A6,fun l2 hl2=>?_⟩
  have hfl : (decide ((0 : Int) < ((ST (G1 (ns.take i))).length : Int))) = decide (ns.take i ≠ []) := by
   rw [Bool.eq_iff_iff,decide_eq_true_iff,decide_eq_true_iff,List.length_map]
   constructor
   ·intro z e; rw [e] at z; exact absurd z (by decide)
   ·intro z
    have := kE (s := [46]) (rows := (ns.take i).map ([·])) (by simpa using z) (fun r hr=>by obtain ⟨n,_,rfl⟩ := List.mem_map.mp hr; simp)
    have := List.length_pos_iff.mpr this
    unfold G1
    omega
  have ecut : cY [V.str (S [46])] none (some (if decide ((0 : Int) < ((ST (G1 (ns.take i))).length : Int)) = true then (1 : Int) else 0)) = ST (if ns.take i = [] then [] else [[46]]) := by
   rw [hfl,hV]
   by_cases e : ns.take i = []
   ·rw [if_pos e,decide_eq_false (fun z=>z e)]; rfl
   ·rw [if_neg e,decide_eq_true e]; rfl
  rw [ecut]
  have k2 := A8 hl2 (.lst (ST (if ns.take i = [] then [] else [[46]])))
  refine ⟨_,rfl,M1,fun l3 hl3=>?_⟩
  have k3 := A8 hl3 (.lst [.str (S nm)])
  have hlen2 : (ST (if ns.take i = [] then [] else [[46]])).length ≤ 1 := by split <;> simp [ST]
  refine ⟨l2,l3,_,_,rfl,rfl,k3 _ _ A6,A6,V3 (by rw [List.length_singleton]; omega),fun l4 hl4=>?_⟩
  have k4 := A8 hl4 (.lst (ST (if ns.take i = [] then [] else [[46]]) ++ [.str (S nm)]))
  have kk := k1.trans (k2.trans (k3.trans k4))
  have hpl := cO (ns.take i)
  rw [List.length_take] at hpl
  refine ⟨l,l4,_,_,rfl,rfl,kk _ _ hl',A6,V3 (by rw [List.length_append,List.length_map,List.length_singleton]; omega),some (.str (S nm)),rfl,fun b o h=>by rw [B5 (D8 h hl)]; exact kk _ _ (g _ _ h),?_⟩
  rw [A6,R9 hnm,pE]
  simp [ST]
 ·obtain ⟨b2,rfl,g,hl'⟩ := hinv
  have e : ns.take (ST ns).length = ns := by rw [List.length_map,List.take_length]
  rw [e] at hl'
  exact ⟨_,rfl,q H' l g hl hl'⟩
end
end Law
namespace Law
open PySem L2 L2.Sp
theorem M5 {n : Nat} (h : n ≤ 200000) : n ≤ sizeLine := Nat.le_of_lt (dE h)
theorem V0 {H H' : Hp} {l : Addr} (g : Same H H') (h : H' l = none) : H l = none := by
 cases e : H l with
 | none=>rfl
 | some o=>rw [g _ _ e] at h; cases h
def LsR (H : Hp) (refs : List V) (rows : List (List Wd)) : Prop := All2 (fun r row=>∃ a,r = V.ref a ∧ H a = some (.lst (ST row))) refs rows
theorem LsR.same {H H' : Hp} {refs : List V} {rows : List (List Wd)} (g : Same H H') (h : LsR H refs rows) : LsR H' refs rows := h.imp fun r _ row ⟨a,e,ha⟩=>⟨a,e,g _ _ ha⟩
theorem All2.get {α β : Type} {F : α → β → Prop} : ∀ {as : List α} {bs : List β} {i : Nat} {a : α},All2 F as bs → as[i]? = some a → ∃ b,bs[i]? = some b ∧ F a b
 | _,_,i,a,.nil,e=>by simp at e
 | _,_,0,a,.cons h _,e=>by simp at e; subst e; exact ⟨_,rfl,h⟩
 | _,_,i + 1,a,.cons _ hs,e=>by
  obtain ⟨b,h1,h2⟩ := All2.get (i := i) hs (by simpa using e)
  exact ⟨b,by simpa using h1,h2⟩
theorem All2.app {α β : Type} {F : α → β → Prop} {as as' : List α} {bs bs' : List β} (h : All2 F as bs) (h' : All2 F as' bs') : All2 F (as ++ as') (bs ++ bs') := by
 induction h with
 | nil=>exact h'
 | cons a _ ih=>exact .cons a ih
section
variable {P : Program} {w : World} {K : PySem.W.Frag} {mg : Str → Option Value} {base : Heap} {f : Addr} {fd : FuncData}
abbrev nU : Stmt := M8 53
theorem qO : E2 ["_law_rows","_law_more","_law_words_here","_law_row_here"] ["_law_rows","_law_more"] (B2 nU) := ⟨rfl,rfl,rfl,by decide +kernel,rfl,by decide +kernel,by decide +kernel⟩
def qI : Sp := fun args H Q _=>∃ (lr : Addr) (m : Bool) (refs : List V) (rows : List (List Wd)),args = [.ref lr,.bl m] ∧ H lr = some (.lst refs) ∧ LsR H refs rows ∧ (∀ r ∈ rows,r ≠ [] ∧ r.length ≤ 3000) ∧ rows.length ≤ 20 ∧ ∀ (H' : Hp) (l : Addr),Same H H' → H l = none → H' l = some (.lst (ST (G2 [44] (rows ++ K1 m)))) → Q (.ref l) H'
theorem AU6 (F : Fun K "_law_items_words" "_law_items_words" nU f fd) (m1 : mg "int" = none) (m2 : mg "len" = none) : FnOk P w K mg base K5 1 f fd ["_law_rows","_law_more"] qI := by
 refine F.ok qO (fun vs H Q E h=>?_) (fun cdv A outer s H vs Q E hr h=>?_)
 ·obtain ⟨lr,m,refs,rows,rfl,_⟩ := h
  rfl
 obtain ⟨lr,m,refs,rows,rfl,hlr,hrs,hok,hn,q⟩ := h
 refine ⟨_,A7 (B7 (i := 2) qO.nd rfl (Or.inl rfl) (E3 A5))
  (A7 (R4 PassesOwn.never rfl (bZ (E4 P6 (pv 0) (P1 fA (E3 (A0 (E3 (A0 B3 A5)) A5)) Z6 (N6 (J0 aY rfl m1 Y3 (A0 (pv 1) A5)))))) (K0 (i := 3) qO.nd rfl (Or.inl rfl))
   (M6 (E5 (B9 aD (E7 M2 rfl m2 PySem.boot_len (A0 (pv 2) A5)) B1 (B8 _)) (A9 (K2 (O9 PySem.F.plainAttrs_list PySem.F.slot_list_append PySem.F.type_list_append K4 (pv 2) (A0 B3 A5)))) D6)
   (A9 (Q5 (i := 2) qO.nd rfl (Or.inl rfl) (pv 3) Y0))))
  (A9 (B6 (pv 2)))),?_⟩
 refine ⟨T7,fun l hl=>?_⟩
 have k0 := A8 hl (.lst [])
 have hrl := hrs.length
 refine ⟨_,rfl,M1,fun la hla=>⟨M1,fun lb hlb=>⟨_,rfl,_,rfl,_,rfl,lb,_,rfl,SqL.of A6,fun lc hlc=>?_⟩⟩⟩
 rw [hV,gX]
 rw [gX] at hlb hlc
 have k1 := A8 hla (.lst [.str (S [46,46])])
 have k2 := A8 hlb (.lst [.ref la])
 have k3 := A8 hlc (.lst (if m then [V.ref la] else []))
 have k03 := k0.trans (k1.trans (k2.trans k3))
 have hmle : (if m then [V.ref la] else []).length ≤ 1 := by cases m <;> simp
 refine ⟨lr,lc,_,_,rfl,rfl,k03 _ _ hlr,A6,V3 (by omega),fun ld hld=>?_⟩
 have k4 := A8 hld (.lst (refs ++ (if m then [V.ref la] else [])))
 have k04 := k03.trans k4
 have nla : la ≠ l := fun e=>by rw [e,A6] at hla; cases hla
 have nld : ld ≠ l := Ne.symm (D8 (k1.trans (k2.trans k3) _ _ A6) hld)
 have hls : LsR (D5 (D5 (D5 (D5 (D5 H l (.lst [])) la (.lst [.str (S [46,46])])) lb (.lst [.ref la])) lc (.lst (if m then [V.ref la] else []))) ld (.lst (refs ++ (if m then [V.ref la] else [])))) (refs ++ (if m then [V.ref la] else [])) (rows ++ K1 m) := by
  refine All2.app (LsR.same k04 hrs) ?_
  cases m with
  | false=>exact .nil
  | true=>exact .cons ⟨la,rfl,(k2.trans (k3.trans k4)) _ _ A6⟩ .nil
 have hne : ∀ a,V.ref a ∈ refs ++ (if m then [V.ref la] else []) → a ≠ l := fun a ha=>by
  rcases List.mem_append.mp ha with z | z
  ·obtain ⟨i,hi⟩ := List.getElem?_of_mem z
   obtain ⟨row,_,a',e,ha'⟩ := hrs.get hi
   cases e
   exact D8 ha' hl
  ·cases m with
   | false=>cases z
   | true=>cases List.mem_singleton.mp z; exact nla
 have hrows : ∀ r ∈ rows ++ K1 m,r ≠ [] ∧ r.length ≤ 3000 := fun r hr=>by
  rcases List.mem_append.mp hr with z | z
  ·exact hok r z
  ·cases m with
   | false=>cases z
   | true=>cases List.mem_singleton.mp z; exact ⟨by simp,by decide⟩
 have hrn : (rows ++ K1 m).length ≤ 21 := by rw [List.length_append]; cases m <;> simp [K1] <;> omega
 have hld4 : D5 (D5 (D5 (D5 (D5 H l (.lst [])) la (.lst [.str (S [46,46])])) lb (.lst [.ref la])) lc (.lst (if m then [V.ref la] else []))) ld (.lst (refs ++ (if m then [V.ref la] else []))) ld = some _ := A6
 have hl4 := (k1.trans (k2.trans (k3.trans k4))) l _ A6
 generalize D5 (D5 (D5 (D5 (D5 H l (.lst [])) la (.lst [.str (S [46,46])])) lb (.lst [.ref la])) lc (.lst (if m then [V.ref la] else []))) ld (.lst (refs ++ (if m then [V.ref la] else []))) = H5 at k04 hls hld4 hl4 ⊢
 generalize hR : refs ++ (if m then [V.ref la] else []) = refs' at hls hne hld4 ⊢
 have hlen' := hls.length
 refine ⟨ld,rfl,⟨_,SqL.of hld4⟩,?_⟩
 refine cW (xs := refs') (fun i σ H'=>∃ b3 : Option V,σ = [some (.ref lr),some (.bl m),some (.ref l),b3] ∧ Grow l H5 H' ∧ H' l = some (.lst (ST (G2 [44] ((rows ++ K1 m).take i))))) ⟨none,rfl,Grow.refl,hl4⟩ (fun i σ H' _ ⟨_,_,g,_⟩=>SqL.of (g _ _ nld hld4)) (fun i u σ H' hu hinv=>?_) (fun σ H' hinv=>?_)
 ·obtain ⟨b3,rfl,g,hl'⟩ := hinv
  obtain ⟨row,hrow,a,rfl,ha⟩ := hls.get hu
  have hal := hne a (List.mem_of_getElem? hu)
  have ha' := g _ _ hal ha
  obtain ⟨hrne,hrlen⟩ := hrows row (List.mem_of_getElem? hrow)
  have hi : i < (rows ++ K1 m).length := (List.getElem?_eq_some_iff.mp hrow).1
  have hmem : ∀ r ∈ (rows ++ K1 m).take i,r ≠ [] ∧ r.length ≤ 3000 := fun r hr=>hrows r (List.mem_of_mem_take hr)
  have hjl : (G2 [44] ((rows ++ K1 m).take i)).length ≤ 63021 := by
   have := kY (s := [44]) (b := 3000) (rows := (rows ++ K1 m).take i) fun r hr=>(hmem r hr).2
   rw [List.length_take] at this
   have h2 : min i (rows ++ K1 m).length * 3001 ≤ 21 * 3001 := Nat.mul_le_mul_right _ (by omega)
   omega
  refine ⟨fun σ' H''=>σ' = [some (.ref lr),some (.bl m),some (.ref l),some (.ref a)] ∧ Grow l H5 H'' ∧ H'' l = some (.lst (ST (G2 [44] ((rows ++ K1 m).take i) ++ (if i = 0 then [] else [[44]])))),?_,?_⟩
  ·refine ⟨_,rfl,l,_,rfl,.inl (SqL.of hl'),_,_,rfl,rfl,_,rfl,?_⟩
   rw [List.length_map]
   by_cases e : i = 0
   ·subst e
    exact D7 ⟨rfl,g,by simpa [G2] using hl'⟩
   ·have hpos : 0 < (G2 [44] ((rows ++ K1 m).take i)).length := List.length_pos_iff.mpr (kE (fun z=>by
     have := congrArg List.length z
     rw [List.length_take,List.length_nil] at this
     omega) fun r hr=>(hmem r hr).1)
    rw [decide_eq_true (p := (0 : Int) < ((G2 [44] ((rows ++ K1 m).take i)).length : Int)) (by omega)]
    refine E8 ⟨_,rfl,.inl ⟨rfl,_,SqL.of hl'⟩,l,_,_,rfl,rfl,hl',dE (by rw [List.length_map]; omega),rfl,g.trans Y8,?_⟩
    rw [A6,AV9,if_neg e]; simp [ST]
  ·rintro σ' H'' ⟨rfl,g2,hl2⟩
   have ha2 := g2 _ _ hal ha
   refine ⟨_,rfl,_,rfl,l,a,_,_,rfl,rfl,hl2,ha2,M5 ?_,some (.ref a),rfl,g2.trans Y8,?_⟩
   ·rw [List.length_map,List.length_map,List.length_append]
    split <;> simp <;> omega
   ·rw [A6,R9 hrow]
    by_cases e : i = 0
    ·subst e; simp [G2,tails,ST]
    ·rw [if_neg e,pK (fun z=>by
      have := congrArg List.length z
      rw [List.length_take,List.length_nil] at this
      omega)]
     simp [ST]
 ·obtain ⟨b3,rfl,g,hl'⟩ := hinv
  rw [hlen',List.take_length] at hl'
  exact ⟨_,rfl,q H' l (fun b o h=>g _ _ (D8 h hl) (k04 _ _ h)) hl hl'⟩
def rF (K : PySem.W.Frag) (n : Nat) : Sp := fun args H Q _=>∃ (v : V) (st : Addr) (x : Int) (pl : Bool) (t : Tn),args = [v,.ref st] ∧ H st = some (.lst [.int x]) ∧ GT L4 n pl t ∧ TV K H t v ∧
 ∀ (H' : Hp) (l : Addr) (ws : List Wd),DS st H H' → H l = none → H' l = some (.lst (ST ws)) → PrW L4 n pl t ws → Q (.ref l) H'
def rM (K : PySem.W.Frag) (n : Nat) : Sp := fun args H Q _=>∃ (v : V) (tg st : Addr) (x : Int) (pl : Bool) (t : Tn) (ks : List Wd),args = [v,.ref tg,.ref st] ∧ H st = some (.lst [.int x]) ∧ GT L4 n pl t ∧ TV K H t v ∧ SqT K H tg (ST ks) ∧
 ∀ (H' : Hp) (l : Addr) (row : List Wd),DS st H H' → H l = none → H' l = some (.lst (ST row)) → aI (PrW L4 n pl) (decide (P5 t ∈ ks)) t row → Q (.ref l) H'
abbrev pC : Stmt := M8 50
theorem AA6 : E2 ["_law_tree_here","_law_tying","_law_state","_law_words_here"] ["_law_tree_here","_law_tying","_law_state"] (B2 pC) := ⟨rfl,rfl,rfl,by decide +kernel,rfl,by decide +kernel,by decide +kernel⟩
theorem BB2 {k n : Nat} (F : Fun K "_law_braced" "_law_braced" pC f fd) (WS : Cal P w K mg base k "_law_words" ["_law_tree_here","_law_state"] (rF K n)) (N : Cal P w K mg base 1 "_law_next" ["_law_state","_law_many"] Q3) (hk : 1 ≤ k) (hn : n ≤ 3) : FnOk P w K mg base K5 (k + 1) f fd ["_law_tree_here","_law_tying","_law_state"] (rM K n) := by
 refine F.ok AA6 (fun vs H Q E h=>?_) (fun cdv A outer s H vs Q E hr h=>?_)
 ·obtain ⟨v,tg,st,x,pl,t,ks,rfl,_⟩ := h
  rfl
 obtain ⟨v,tg,st,x,pl,t,ks,rfl,hs,hg,hv,htg,q⟩ := h
 have hr1 := hr.mono hk
 refine ⟨_,A7 (B7 (i := 3) AA6.nd rfl (Or.inl rfl) (B4 WS hr rfl (A0 (pv 0) (A0 (pv 2) A5))))
  (M6 (E5 (PW.pt (aO (B9 iS (G7 O8 (pv 0) B1 (fun _ _=>rfl)) (pv 1) rfl) (aU (B9 G9 (B4 N hr1 rfl (A0 (pv 2) (A0 B1 A5))) B1 (B8 _)))))
   (A9 (B6 (E4 P6 (E4 P6 (E3 (A0 B3 A5)) (pv 3)) (E3 (A0 B3 A5))))) D6)
  (A9 (B6 (pv 3)))),?_⟩
 have D0 := DS.start hs
 refine ⟨_,rfl,_,rfl,v,st,x,pl,t,rfl,hs,hg,hv,fun H1 l ws d1 hl0 hl hw=>?_⟩
 have hwl : ws.length ≤ 1611 := by have := (cL uP n pl t ws hw).len; have := sW n hn; omega
 have hv1 := TV.kp d1.kp hv
 obtain ⟨r,et⟩ := hg.kind
 have hv2 := hv1
 rw [et] at hv2
 simp only [TV,TAll] at hv2
 obtain ⟨p,ys,rfl,hp,y0,ys',rfl,rfl,hy'⟩ := hv2
 obtain ⟨y1,hy1⟩ := d1.s
 refine ⟨fun σ' H'=>σ' = [some (.ref p),some (.ref tg),some (.ref st),some (.ref l)] ∧ DS st H H' ∧ H' l = some (.lst (ST ws)) ∧ P5 t ∉ ks,?_,?_⟩
 ·refine ⟨_,rfl,p,_,_,.str (S (P5 t)),rfl,rfl,hp,K8 (j := 0) rfl,_,rfl,tg,_,rfl,.inr (d1.kp _ _ htg),rfl,kF _,_,rfl,?_⟩
  show if cV (.str (S (P5 t))) (ST ks) = true then _ else _
  rw [iZ]
  refine N1 (fun c=>E8 ?_) (fun c=>?_)
  ·refine ⟨M1,fun l1 hl1=>⟨_,rfl,l1,l,_,_,rfl,rfl,A6,A8 hl1 _ _ _ hl,M5 (by rw [List.length_map,List.length_singleton]; omega),fun l2 hl2=>⟨M1,fun l3 hl3=>?_⟩⟩⟩
   have k1 := A8 hl1 (.lst [.str (Str.ofString "(")])
   have k2 := A8 hl2 (.lst ([.str (Str.ofString "(")] ++ ST ws))
   have k3 := A8 hl3 (.lst [.str (Str.ofString ")")])
   refine ⟨l2,l3,_,_,rfl,rfl,k3 _ _ A6,A6,M5 (by rw [List.length_append,List.length_map,List.length_singleton,List.length_singleton]; omega),fun l4 hl4=>?_⟩
   have k4 := A8 hl4 (.lst ([.str (Str.ofString "(")] ++ ST ws ++ [.str (Str.ofString ")")]))
   have kk := k1.trans (k2.trans (k3.trans k4))
   refine q _ l4 ([40] :: (ws ++ [[41]])) (d1.same kk) (d1.old (V0 (k1.trans (k2.trans k3)) hl4)) ?_ ⟨ws,hw,.inl rfl⟩
   rw [A6,lLp,lRp]; simp [ST]
  have hk' : P5 t ∉ ks := fun z=>c (decide_eq_true z)
  have nl := d1.ne hl0
  refine ⟨_,rfl,st,y1,8,rfl,hy1,by decide,fun y2 r2 b0 b1=>⟨rfl,_,rfl,N1 (fun _=>?_) (fun _=>⟨rfl,d1.next y2,by rw [B5 nl]; exact hl,hk'⟩)⟩⟩
  have hl2 : D5 H1 st (.lst [.int y2]) l = some (.lst (ST ws)) := by rw [B5 nl]; exact hl
  have d2 := d1.next y2
  refine ⟨M1,fun l1 hl1=>⟨_,rfl,l1,l,_,_,rfl,rfl,A6,A8 hl1 _ _ _ hl2,M5 (by rw [List.length_map,List.length_singleton]; omega),fun l2 hl2=>⟨M1,fun l3 hl3=>?_⟩⟩⟩
  have k1 := A8 hl1 (.lst [.str (Str.ofString "(")])
  have k2 := A8 hl2 (.lst ([.str (Str.ofString "(")] ++ ST ws))
  have k3 := A8 hl3 (.lst [.str (Str.ofString ")")])
  refine ⟨l2,l3,_,_,rfl,rfl,k3 _ _ A6,A6,M5 (by rw [List.length_append,List.length_map,List.length_singleton,List.length_singleton]; omega),fun l4 hl4=>?_⟩
  have k4 := A8 hl4 (.lst ([.str (Str.ofString "(")] ++ ST ws ++ [.str (Str.ofString ")")]))
  have kk := k1.trans (k2.trans (k3.trans k4))
  refine q _ l4 ([40] :: (ws ++ [[41]])) (d2.same kk) (d2.old (V0 (k1.trans (k2.trans k3)) hl4)) ?_ ⟨ws,hw,.inl rfl⟩
  rw [A6,lLp,lRp]; simp [ST]
 ·rintro σ' H' ⟨rfl,d2,hl2,hk'⟩
  exact ⟨_,rfl,q H' l ws d2 hl0 hl2 ⟨ws,hw,.inr ⟨decide_eq_false hk',rfl⟩⟩⟩
def vU (K : PySem.W.Frag) (n : Nat) : Sp := fun args H Q _=>∃ (sg : Wd) (tp tg st : Addr) (x : Int) (pl : Bool) (vs : List V) (ts : List Tn) (ks : List Wd),args = [.str (S sg),.ref tp,.ref tg,.ref st] ∧ H st = some (.lst [.int x]) ∧ SqT K H tp vs ∧ TAll K H ts vs ∧ (∀ t ∈ ts,GT L4 n pl t) ∧ ts.length ≤ 20 ∧ SqT K H tg (ST ks) ∧
 ∀ (H' : Hp) (l : Addr) (rows : List (List Wd)),DS st H H' → H l = none → H' l = some (.lst (ST (G2 sg rows))) → All2 (fun t row=>aI (PrW L4 n pl) (decide (P5 t ∈ ks)) t row) ts rows → Q (.ref l) H'
abbrev pB : Stmt := M8 51
theorem rQ : E2 ["_law_sign","_law_trees","_law_tying","_law_state","_law_words_here","_law_tree_here"] ["_law_sign","_law_trees","_law_tying","_law_state"] (B2 pB) := ⟨rfl,rfl,rfl,by decide +kernel,rfl,by decide +kernel,by decide +kernel⟩
theorem BA8 {k n : Nat} (F : Fun K "_law_tied" "_law_tied" pB f fd) (BR : Cal P w K mg base k "_law_braced" ["_law_tree_here","_law_tying","_law_state"] (rM K n)) (m2 : mg "len" = none) (hn : n ≤ 3) : FnOk P w K mg base K5 (k + 1) f fd ["_law_sign","_law_trees","_law_tying","_law_state"] (vU K n) := by
 refine F.ok rQ (fun vs H Q E h=>?_) (fun cdv A outer s H vs Q E hr h=>?_)
 ·obtain ⟨sg,tp,tg,st,x,pl,us,ts,ks,rfl,_⟩ := h
  rfl
 obtain ⟨sg,tp,tg,st,x,pl,us,ts,ks,rfl,hs,htp,hts,hgt,hlen,htg,q⟩ := h
 refine ⟨_,A7 (B7 (i := 4) rQ.nd rfl (Or.inl rfl) (E3 A5))
  (A7 (R4 PassesOwn.never rfl (lV (pv 1)) (K0 (i := 5) rQ.nd rfl (Or.inl rfl))
   (M6 (E5 (B9 aD (E7 M2 rfl m2 PySem.boot_len (A0 (pv 4) A5)) B1 (B8 _)) (A9 (K2 (O9 PySem.F.plainAttrs_list PySem.F.slot_list_append PySem.F.type_list_append K4 (pv 4) (A0 (pv 0) A5)))) D6)
   (A9 (Q5 (i := 4) rQ.nd rfl (Or.inl rfl) (B4 BR hr rfl (A0 (pv 5) (A0 (pv 2) (A0 (pv 3) A5)))) Y0))))
  (A9 (B6 (pv 4)))),?_⟩
 have D0 := DS.start hs
 refine ⟨T7,fun l hl=>?_⟩
 have D1 := D0.put (o := .lst []) hl
 have htl := hts.length
 refine ⟨_,rfl,tp,rfl,⟨_,D1.kp _ _ htp⟩,?_⟩
 refine oF (xs := us) (fun i σ H'=>∃ (rows : List (List Wd)) (b5 : Option V),σ = [some (.str (S sg)),some (.ref tp),some (.ref tg),some (.ref st),some (.ref l),b5] ∧ DS st H H' ∧ H' l = some (.lst (ST (G2 sg rows))) ∧ All2 (fun t row=>aI (PrW L4 n pl) (decide (P5 t ∈ ks)) t row) (ts.take i) rows)
  ⟨[],none,rfl,D1,A6,.nil⟩ (fun i σ H' _ ⟨_,_,_,d,_⟩=>d.kp _ _ htp) (fun i u σ H' hu hinv=>?_) (fun σ H' hinv=>?_)
 ·obtain ⟨rows,b5,rfl,d,hl',ha⟩ := hinv
  obtain ⟨t,ht,htv⟩ := hts.get hu
  have hi : i < us.length := (List.getElem?_eq_some_iff.mp hu).1
  have nl := d.ne hl
  have hrl := ha.length
  rw [List.length_take] at hrl
  have hrow : ∀ r ∈ rows,r ≠ [] ∧ r.length ≤ 1611 := ha.right fun t row h=>⟨xO h,fN hn h⟩
  have hjl : (G2 sg rows).length ≤ 32240 := by
   have := kY (s := sg) (b := 1611) (rows := rows) fun r hr=>(hrow r hr).2
   have h2 : rows.length * 1612 ≤ 20 * 1612 := Nat.mul_le_mul_right _ (by omega)
   omega
  refine ⟨fun σ' H''=>σ' = [some (.str (S sg)),some (.ref tp),some (.ref tg),some (.ref st),some (.ref l),some u] ∧ DS st H H'' ∧ H'' l = some (.lst (ST (G2 sg rows ++ (if rows = [] then [] else [sg])))),?_,?_⟩
  ·refine ⟨_,rfl,l,_,rfl,.inl (SqL.of hl'),_,_,rfl,rfl,_,rfl,?_⟩
   rw [List.length_map]
   by_cases e : rows = []
   ·subst e
    exact D7 ⟨rfl,d,by simpa [G2] using hl'⟩
   ·have hpos : 0 < (G2 sg rows).length := List.length_pos_iff.mpr (kE e fun r hr=>(hrow r hr).1)
    rw [decide_eq_true (p := (0 : Int) < ((G2 sg rows).length : Int)) (by omega)]
    refine E8 ⟨_,rfl,.inl ⟨rfl,_,SqL.of hl'⟩,_,rfl,l,_,_,rfl,rfl,hl',dE (by rw [List.length_map]; omega),rfl,d.put hl,?_⟩
    rw [A6,if_neg e]; simp [ST]
  ·rintro σ' H'' ⟨rfl,d2,hl2⟩
   obtain ⟨y2,hy2⟩ := d2.s
   refine ⟨_,rfl,_,rfl,_,rfl,_,rfl,u,tg,st,y2,pl,t,ks,rfl,hy2,hgt t (List.mem_of_getElem? ht),TV.kp d2.kp htv,d2.kp _ _ htg,fun H3 lb row d3 hlb0 hlb hrw=>?_⟩
   have hl3 := d3.g _ _ nl hl2
   have hr2 := fN hn hrw
   refine ⟨l,lb,_,_,rfl,rfl,hl3,hlb,M5 ?_,rows ++ [row],some u,rfl,(d2.more d3).put hl,?_,?_⟩
   ·rw [List.length_map,List.length_map,List.length_append]
    split <;> simp <;> omega
   ·rw [A6]
    by_cases e : rows = []
    ·subst e; simp [G2,tails,ST]
    ·rw [if_neg e,pK e]; simp [ST]
   ·rw [R9 ht]
    exact ha.snoc hrw
 ·obtain ⟨rows,b5,rfl,d,hl',ha⟩ := hinv
  rw [htl,List.take_length] at ha
  exact ⟨_,rfl,q H' l rows d hl hl' ha⟩
end
end Law
namespace Law
open PySem L2 L2.Sp
theorem N5 {a b : Wd} {s : Str} (h : s = S b) (hne : a ≠ b) : decide (V.str (S a) = V.str s) = false := by rw [h,O2]; exact decide_eq_false hne
theorem dA {a : Wd} {s : Str} (h : s = S a) : decide (V.str (S a) = V.str s) = true := by rw [h,O2]; exact decide_eq_true rfl
theorem aoK : [V.str (Str.ofString "and"),.str (Str.ofString "or")] = ST [Q6,W6] := by rw [bP,kX]; rfl
theorem orK : [V.str (Str.ofString "or")] = ST [W6] := by rw [kX]; rfl
theorem pP {mx : Nat → Nat} {n : Nat} {pl : Bool} {t : Tn} (h : GT mx n pl t) : lA t = decide (P5 t ∈ [Q6,W6]) := by
 unfold lA
 rw [kZ _ _ h.kind,kZ _ _ h.kind,Bool.eq_iff_iff,Bool.or_eq_true,decide_eq_true_iff,decide_eq_true_iff,decide_eq_true_iff]
 simp
theorem yT {mx : Nat → Nat} {n : Nat} {pl : Bool} {t : Tn} (h : GT mx n pl t) : sN W6 t = decide (P5 t ∈ [W6]) := by
 rw [kZ _ _ h.kind,Bool.eq_iff_iff,decide_eq_true_iff,decide_eq_true_iff]
 simp
theorem gC {K : PySem.W.Frag} {H : Hp} : ∀ {ns : List Wd} {us : List V},TAll K H (ns.map Tn.str) us → us = ST ns
 | [],us,h=>by simp only [List.map_nil,TAll] at h; exact h
 | n :: ns,us,h=>by
  simp only [List.map_cons,TAll,TV] at h
  obtain ⟨y,r,rfl,rfl,h2⟩ := h
  rw [gC h2]; rfl
def LsN (H0 : Hp) (l : Addr) (H : Hp) (refs : List V) (rows : List (List Wd)) : Prop := All2 (fun r row=>∃ a,r = V.ref a ∧ H0 a = none ∧ a ≠ l ∧ H a = some (.lst (ST row))) refs rows
theorem LsN.same {H0 H H' : Hp} {l : Addr} {refs : List V} {rows : List (List Wd)} (h : LsN H0 l H refs rows) (g : Same H H') : LsN H0 l H' refs rows := h.imp fun r _ row ⟨a,e,h1,h2,ha⟩=>⟨a,e,h1,h2,g _ _ ha⟩
theorem LsN.more {H0 H H' : Hp} {l st : Addr} {refs : List V} {rows : List (List Wd)} (h : LsN H0 l H refs rows) (d : DS st H0 H) (d' : DS st H H') : LsN H0 l H' refs rows := h.imp fun r _ row ⟨a,e,h1,h2,ha⟩=>⟨a,e,h1,h2,d'.g _ _ (d.ne h1) ha⟩
theorem LsN.put {H0 H : Hp} {l : Addr} {o : HO} {refs : List V} {rows : List (List Wd)} (h : LsN H0 l H refs rows) : LsN H0 l (D5 H l o) refs rows := h.imp fun r _ row ⟨a,e,h1,h2,ha⟩=>⟨a,e,h1,h2,by rw [B5 h2]; exact ha⟩
theorem LsN.ls {H0 H : Hp} {l : Addr} {refs : List V} {rows : List (List Wd)} (h : LsN H0 l H refs rows) : LsR H refs rows := h.imp fun r _ row ⟨a,e,h1,h2,ha⟩=>⟨a,e,ha⟩
theorem BB4 : (["_law_item","_law_state"] : List Str).Nodup := by decide +kernel
theorem PrW.leaf {mx : Nat → Nat} {n : Nat} {pl : Bool} {t : Tn} {ws : List Wd} (h : kN t ws) : PrW mx n pl t ws := by cases n <;> exact .inl h
theorem PrW.place {mx : Nat → Nat} {n : Nat} {t : Tn} {ws : List Wd} (h : PlP t ws) : PrW mx n true t ws := by
 cases n with
 | zero=>exact .inr ⟨rfl,h⟩
 | succ n=>exact .inr (.inl ⟨rfl,h⟩)
section
variable {P : Program} {w : World} {K : PySem.W.Frag} {mg : Str → Option Value} {base : Heap} {f : Addr} {fd : FuncData}
abbrev pA : Stmt := M8 54
theorem kS : E2 ["_law_tree_here","_law_state","_law_word","_law_rows","_law_name_here","_law_held","_law_must"] ["_law_tree_here","_law_state"] (B2 pA) := ⟨rfl,rfl,rfl,by decide +kernel,rfl,by decide +kernel,by decide +kernel⟩
theorem fU {n : Nat} (hn : n ≤ 3) {pl : Bool} {t : Tn} {ws : List Wd} (h : PrW L4 n pl t ws) : ws.length ≤ 1609 := by
 have := (cL uP n pl t ws h).len
 have := sW n hn
 omega
theorem AI4 {k n : Nat} {spB spT : Sp} (F : Fun K "_law_words" "_law_words" pA f fd) (BR : Cal P w K mg base k "_law_braced" ["_law_tree_here", "_law_tying", "_law_state"] spB) (TD : Cal P w K mg base k "_law_tied" ["_law_sign", "_law_trees", "_law_tying", "_law_state"] spT) (hB : ∀ n', n = n' + 1 → spB = rM K n') (hT : ∀ n', n = n' + 1 → spT = vU K n')
    (SPW : Cal P w K mg base 2 "_law_span_words" ["_law_tree_here", "_law_state"] (qE K)) (PTW : Cal P w K mg base 1 "_law_path_words" ["_law_path"] (jM K)) (ITW : Cal P w K mg base 1 "_law_items_words" ["_law_rows", "_law_more"] qI) (m1 : mg "int" = none) (hk : 2 ≤ k) (hn : n ≤ 3) :
    FnOk P w K mg base K5 (k + 1) f fd ["_law_tree_here", "_law_state"] (rF K n) := by
  refine F.ok kS (fun vs H Q E h => ?_) (fun cdv A outer s H vs Q E hr h => ?_)
  · obtain ⟨v, st, x, pl, t, rfl, _⟩ := h
    rfl
  obtain ⟨v, st, x, pl, t, rfl, hs, hg, hv, q⟩ := h
  have hr1 := hr.mono (show 1 ≤ k by omega)
  have hr2 := hr.mono hk
  refine ⟨_, A7 (B7 (i := 2) kS.nd rfl (Or.inl rfl) (G7 O8 (pv 0) B1 (fun _ _ => rfl)))
    (A7 (E5 (B9 G9 (pv 2) B3 (B8 _)) (A9 (B6 (E3 (A0 (G7 O8 (pv 0) B1 (fun _ _ => rfl)) A5)))) D6)
    (A7 (E5 (B9 G9 (pv 2) B3 (B8 _)) (A9 (B6 (B4 SPW hr2 rfl (A0 (pv 0) (A0 (pv 1) A5))))) D6)
    (A7 (E5 (B9 G9 (pv 2) B3 (B8 _)) (A9 (B6 (E3 (A0 (E4 bO (E4 bO B3 (G7 O8 (pv 0) B1 (fun _ _ => rfl))) B3) A5)))) D6)
    (A7 (E5 (B9 G9 (pv 2) B3 (B8 _)) (A9 (B6 (E4 P6 (E3 (A0 B3 A5)) (B4 PTW hr1 rfl (A0 (G7 O8 (pv 0) B1 (fun _ _ => rfl)) A5))))) D6)
    (A7 (E5 (B9 G9 (pv 2) B3 (B8 _)) (A9 (B6 (E4 P6 (E3 (A0 B3 A5)) (B4 BR hr rfl (A0 (G7 O8 (pv 0) B1 (fun _ _ => rfl)) (A0 (L0 (A0 B3 (A0 B3 A5))) (A0 (pv 1) A5))))))) D6)
    (A7 (E5 (B9 G9 (pv 2) B3 (B8 _)) (A9 (B6 (B4 TD hr rfl (A0 B3 (A0 (G7 O8 (pv 0) B1 (fun _ _ => rfl)) (A0 (L0 (A0 B3 (A0 B3 A5))) (A0 (pv 1) A5))))))) D6)
    (A7 (E5 (B9 G9 (pv 2) B3 (B8 _)) (A9 (B6 (B4 TD hr rfl (A0 B3 (A0 (G7 O8 (pv 0) B1 (fun _ _ => rfl)) (A0 (L0 (A0 B3 A5)) (A0 (pv 1) A5))))))) D6)
    (A7 (E5 (B9 G9 (pv 2) B3 (B8 _))
      (A7 (kA (i := 3) (N' := ["_law_item", "_law_state"]) (fr := [none, some 1]) (own := [0]) ⟨rfl, rfl, rfl, rfl, rfl, rfl, rfl⟩ rfl kS.nd rfl rfl (lV (G7 O8 (pv 0) B1 (fun _ _ => rfl)))
        (fun _ _ _ _ => K0 (i := 0) BB4 rfl (Or.inl rfl)) (R1 0) (fun _ _ _ _ => U5) (fun _ _ _ _ => B4 BR hr rfl (A0 (pv 0) (A0 (L0 A5) (A0 (pv 1) A5)))))
      (A9 (B6 (E4 P6 (E4 P6 (E3 (A0 B3 A5)) (B4 ITW hr1 rfl (A0 (pv 3) (A0 (G7 O8 (pv 0) B1 (fun _ _ => rfl)) A5)))) (E3 (A0 B3 A5)))))) D6)
    (A7 (B7 (i := 3) kS.nd rfl (Or.inl rfl) (E3 A5))
    (A7 (R4 PassesOwn.never rfl (lV (G7 O8 (pv 0) B1 (fun _ _ => rfl))) (sA (n := 3) rfl (Y5 (K0 (i := 4) kS.nd rfl (Or.inl rfl)) (Y5 (K0 (i := 5) kS.nd rfl (Or.inl rfl)) (Y5 (K0 (i := 6) kS.nd rfl (Or.inl rfl)) oA))))
      (A9 (K2 (O9 PySem.F.plainAttrs_list PySem.F.slot_list_append PySem.F.type_list_append K4 (pv 3) (A0 (E4 P6 (E4 P6 (E4 P6 (E3 (A0 (pv 4) A5)) (P1 fA (E3 (A0 B3 A5)) Z6 (N6 (J0 aY rfl m1 Y3 (A0 (lW (pv 6)) A5))))) (E3 (A0 B3 A5)))
        (B4 BR hr rfl (A0 (pv 5) (A0 (L0 A5) (A0 (pv 1) A5))))) A5)))))
    (A9 (B6 (E4 P6 (E4 P6 (E3 (A0 B3 A5)) (B4 ITW hr1 rfl (A0 (pv 3) (A0 (G7 O8 (pv 0) B1 (fun _ _ => rfl)) A5)))) (E3 (A0 B3 A5))))))))))))))), ?_⟩
  have D0 := DS.start hs
  obtain ⟨r0, et⟩ := hg.kind
  have hv2 := hv
  rw [et] at hv2
  simp only [TV, TAll] at hv2
  obtain ⟨p, ys, rfl, hp, y0, ys', rfl, rfl, hy'⟩ := hv2
  refine ⟨_, rfl, p, _, _, .str (S (P5 t)), rfl, rfl, hp, K8 (j := 0) rfl, ?_⟩
  have shape : bA t ∨ (pl = true ∧ tE t) ∨ ∃ n', n = n' + 1 ∧ ((∃ ts m, t = .tup [.str aF, .tup ts, .bl m] ∧ ts.length ≤ L4 (n' + 1) ∧ ∀ t ∈ ts, GT L4 n' false t) ∨
    (∃ (fs : List (Wd × Tn × Bool)) (m : Bool), t = .tup [.str bE, .tup (fs.map Y9), .bl m] ∧ fs.length ≤ L4 (n' + 1) ∧ (fs.map (·.1)).Nodup ∧ ∀ f ∈ fs, P9 f.1 ∧ GT L4 n' false f.2.1) ∨
    (∃ t', t = .tup [.str eM, t'] ∧ GT L4 n' false t') ∨
    (∃ k ts, (k = Q6 ∨ k = W6) ∧ t = .tup [.str k, .tup ts] ∧ 2 ≤ ts.length ∧ ts.length ≤ L4 (n' + 1) ∧ ∀ t ∈ ts, GT L4 n' pl t)) := by
    cases n with
    | zero => rcases hg with h | h
              · exact .inl h
              · exact .inr (.inl h)
    | succ n => rcases hg with h | h | h
                · exact .inl h
                · exact .inr (.inl h)
                · exact .inr (.inr ⟨n, rfl, h⟩)
  rcases shape with h | ⟨rfl, h⟩ | ⟨n', rfl, h⟩
  · cases h with
    | @word u hu =>
      have er := (List.cons.inj (Tn.tup.inj et)).2
      subst er
      rw [show P5 (.tup [.str gY, .str u]) = gY from rfl] at hp ⊢
      simp only [TAll, TV] at hy'
      obtain ⟨_, _, rfl, rfl, rfl⟩ := hy'
      refine ⟨_, rfl, rfl, _, rfl, ?_⟩
      rw [dA aE]
      refine E8 ?_
      exact ⟨_, rfl, p, _, _, .str (S u), rfl, rfl, hp, K8 (j := 1) rfl, M1, fun l hl => q _ l [u] (D0.same (A8 hl _)) hl (by rw [A6]; rfl) (PrW.leaf (.word hu))⟩
    | @span a b hab ha hb =>
      have er := (List.cons.inj (Tn.tup.inj et)).2
      subst er
      rw [show P5 (R6 (oI a) (oI b)) = wS from rfl] at hp ⊢
      refine ⟨_, rfl, rfl, _, rfl, ?_⟩
      rw [N5 aE (by decide)]
      refine D7 ?_
      refine ⟨_, rfl, rfl, _, rfl, ?_⟩
      rw [dA bR]
      refine E8 ?_
      exact ⟨_, rfl, _, rfl, .ref p, st, x, a, b, rfl, hs, hab, ha, hb, hv, fun H' l ws d hl0 hl hw => q H' l ws d hl0 hl (PrW.leaf hw)⟩
    | @text b hc hl =>
      have er := (List.cons.inj (Tn.tup.inj et)).2
      subst er
      rw [show P5 (.tup [.str dU, .str b]) = dU from rfl] at hp ⊢
      simp only [TAll, TV] at hy'
      obtain ⟨_, _, rfl, rfl, rfl⟩ := hy'
      refine ⟨_, rfl, rfl, _, rfl, ?_⟩
      rw [N5 aE (by decide)]
      refine D7 ?_
      refine ⟨_, rfl, rfl, _, rfl, ?_⟩
      rw [N5 bR (by decide)]
      refine D7 ?_
      refine ⟨_, rfl, rfl, _, rfl, ?_⟩
      rw [dA bQ]
      refine E8 ?_
      refine ⟨_, rfl, p, _, _, .str (S b), rfl, rfl, hp, K8 (j := 1) rfl, ?_⟩
      rw [AV7]
      refine ⟨_, _, rfl, rfl, cZ (by show 1 + b.length ≤ 100000; omega), ?_⟩
      rw [hZ]
      refine ⟨_, _, rfl, rfl, cZ (by simp; omega), ?_⟩
      rw [hZ]
      exact ⟨M1, fun l hl' => q _ l [34 :: (b ++ [34])] (D0.same (A8 hl' _)) hl' (by rw [A6]; rfl) (PrW.leaf (.text hc hl))⟩
  · cases h with
    | @mk ns h0 hl hok =>
      have er := (List.cons.inj (Tn.tup.inj et)).2
      subst er
      rw [show P5 (.tup [.str cU, .tup (ns.map Tn.str)]) = cU from rfl] at hp ⊢
      simp only [TAll] at hy'
      obtain ⟨_, _, rfl, hns, rfl⟩ := hy'
      simp only [TV] at hns
      obtain ⟨a, us, rfl, ha, hus⟩ := hns
      have eus := gC hus
      subst eus
      refine ⟨_, rfl, rfl, _, rfl, ?_⟩
      rw [N5 aE (by decide)]
      refine D7 ?_
      refine ⟨_, rfl, rfl, _, rfl, ?_⟩
      rw [N5 bR (by decide)]
      refine D7 ?_
      refine ⟨_, rfl, rfl, _, rfl, ?_⟩
      rw [N5 bQ (by decide)]
      refine D7 ?_
      refine ⟨_, rfl, rfl, _, rfl, ?_⟩
      rw [dA aW]
      refine E8 ?_
      refine ⟨M1, fun l1 hl1 => ?_⟩
      have k1 := A8 hl1 (.lst [.str (Str.ofString "@")])
      have hpl := cO ns
      refine ⟨_, rfl, p, _, _, .ref a, rfl, rfl, k1.seqT hp, K8 (j := 1) rfl, a, ns, rfl, k1.seqT ha, by omega, fun H2 l2 g2 hl20 hl2 => ?_⟩
      refine ⟨l1, l2, _, _, rfl, rfl, g2 _ _ A6, hl2, V3 (by rw [List.length_map, List.length_singleton]; omega), fun l3 hl3 => ?_⟩
      have k3 := A8 hl3 (.lst ([.str (Str.ofString "@")] ++ ST (G1 ns)))
      refine q _ l3 ([64] :: G1 ns) (D0.same (k1.trans (g2.trans k3))) (V0 (k1.trans g2) hl3) ?_ (PrW.place (.mk h0 hl hok))
      rw [A6, lAt]; rfl
  · have eB := hB n' rfl
    have eT := hT n' rfl
    subst eB eT
    rcases h with ⟨ts, m, rfl, htl, hgt⟩ | ⟨fs, m, rfl, hfl, hnd, hgt⟩ | ⟨t', rfl, hgt⟩ | ⟨kw, ts, hkw, rfl, h2, htl, hgt⟩
    · have er := (List.cons.inj (Tn.tup.inj et)).2
      subst er
      rw [show P5 (.tup [.str aF, .tup ts, .bl m]) = aF from rfl] at hp ⊢
      simp only [TAll] at hy'
      obtain ⟨_, _, rfl, hns, _, _, rfl, hm, rfl⟩ := hy'
      simp only [TV] at hns hm
      subst hm
      obtain ⟨a, us, rfl, ha, hus⟩ := hns
      have hul := hus.length
      have htl9 : ts.length ≤ 11 := Nat.le_trans htl (by show 3 ≤ 11; decide)
      refine ⟨_, rfl, rfl, _, rfl, ?_⟩
      rw [N5 aE (by decide)]
      refine D7 ?_
      refine ⟨_, rfl, rfl, _, rfl, ?_⟩
      rw [N5 bR (by decide)]
      refine D7 ?_
      refine ⟨_, rfl, rfl, _, rfl, ?_⟩
      rw [N5 bQ (by decide)]
      refine D7 ?_
      refine ⟨_, rfl, rfl, _, rfl, ?_⟩
      rw [N5 aW (by decide)]
      refine D7 ?_
      refine ⟨_, rfl, rfl, _, rfl, ?_⟩
      rw [N5 gU (by decide)]
      refine D7 ?_
      refine ⟨_, rfl, rfl, _, rfl, ?_⟩
      rw [N5 bP (by decide)]
      refine D7 ?_
      refine ⟨_, rfl, rfl, _, rfl, ?_⟩
      rw [N5 kX (by decide)]
      refine D7 ?_
      refine ⟨_, rfl, rfl, _, rfl, ?_⟩
      rw [dA qR]
      refine E8 ?_
      refine ⟨_, rfl, p, _, _, .ref a, rfl, rfl, hp, K8 (j := 1) rfl, a, rfl, ⟨_, ha⟩, fun l hl => ?_⟩
      have D1 := D0.put (o := .lst []) hl
      refine AG1 (xs := us) (fun i ys H' => DS st H H' ∧ H' l = some (.lst ys) ∧ ∃ rows, LsN H l H' ys rows ∧ All2 (aI (PrW L4 n' false) false) (ts.take i) rows) ⟨D1, A6, [], .nil, .nil⟩ (fun i ys H' _ ⟨d, _⟩ => d.kp _ _ ha) (fun i u ys H' hu hinv => ?_) (fun ys H' hinv => ?_)
      · obtain ⟨d, hl', rows, hls, hrw⟩ := hinv
        obtain ⟨t, ht, htv⟩ := hus.get hu
        have hi : i < us.length := (List.getElem?_eq_some_iff.mp hu).1
        have hyl := hls.length
        have hrl := hrw.length
        rw [List.length_take] at hrl
        have nl := d.ne hl
        dsimp only [U4, U0]
        refine cD ⟨_, rfl, T7, fun tg htg => ?_⟩
        have kt := A8 htg (.tup [])
        have dt := d.same kt
        obtain ⟨y2, hy2⟩ := dt.s
        refine ⟨_, rfl, u, tg, st, y2, false, t, [], rfl, hy2, hgt t (List.mem_of_getElem? ht), TV.kp dt.kp htv, SqT.of A6, fun H5 lb row d5 hlb0 hlb hrow => ?_⟩
        have hl5 := d5.g _ _ nl (kt _ _ hl')
        have hlbl : lb ≠ l := Ne.symm (D8 (kt _ _ hl') hlb0)
        refine ⟨hl5, O7 (by omega), (dt.more d5).put hl, A6, rows ++ [row], ?_, ?_⟩
        · refine (((hls.same kt).more dt d5).put).snoc ⟨lb, rfl, dt.old hlb0, hlbl, by rw [B5 hlbl]; exact hlb⟩
        · rw [R9 ht]; exact hrw.snoc hrow
      · obtain ⟨d, hl', rows, hls, hrw⟩ := hinv
        rw [hul, List.take_length] at hrw
        have hrl := hrw.length
        have hrok := hrw.right (Q := fun r => r ≠ [] ∧ r.length ≤ 3000) fun t row h => ⟨xO h, Nat.le_trans (fN (by omega) h) (by decide)⟩
        have hR : PrW L4 (n' + 1) pl (.tup [.str aF, .tup ts, .bl m]) ([91] :: (G2 [44] (rows ++ K1 m) ++ [[93]])) := .inr (.inr (.inl ⟨ts, rows, m, rfl, htl, hrw, rfl⟩))
        have hwl := fU hn hR
        simp only [List.length_cons, List.length_append, List.length_nil] at hwl
        refine ⟨M1, fun l1 hl1 => ?_⟩
        have k1 := A8 hl1 (.lst [.str (Str.ofString "[")])
        refine ⟨_, rfl, _, rfl, p, _, _, .bl m, rfl, rfl, k1.seqT (d.kp _ _ hp), K8 (j := 2) rfl, l, m, ys, rows, rfl, k1 _ _ hl', (hls.ls).same k1, hrok, by omega, fun H6 l6 g6 hl60 hl6 => ?_⟩
        refine ⟨l1, l6, _, _, rfl, rfl, g6 _ _ A6, hl6, M5 (by rw [List.length_map, List.length_singleton]; omega), fun l7 hl7 => ⟨M1, fun l8 hl8 => ?_⟩⟩
        have k7 := A8 hl7 (.lst ([.str (Str.ofString "[")] ++ ST (G2 [44] (rows ++ K1 m))))
        have k8 := A8 hl8 (.lst [.str (Str.ofString "]")])
        refine ⟨l7, l8, _, _, rfl, rfl, k8 _ _ A6, A6, M5 (by rw [List.length_append, List.length_map, List.length_singleton, List.length_singleton]; omega), fun l9 hl9 => ?_⟩
        have k9 := A8 hl9 (.lst ([.str (Str.ofString "[")] ++ ST (G2 [44] (rows ++ K1 m)) ++ [.str (Str.ofString "]")]))
        have kk := k1.trans (g6.trans (k7.trans k8))
        refine q _ l9 _ (d.same (kk.trans k9)) (d.old (V0 kk hl9)) ?_ hR
        rw [A6, lLb, lRb]; simp [ST]
    · have er := (List.cons.inj (Tn.tup.inj et)).2
      subst er
      rw [show P5 (.tup [.str bE, .tup (fs.map Y9), .bl m]) = bE from rfl] at hp ⊢
      simp only [TAll] at hy'
      obtain ⟨_, _, rfl, hns, _, _, rfl, hm, rfl⟩ := hy'
      simp only [TV] at hns hm
      subst hm
      obtain ⟨a, us, rfl, ha, hus⟩ := hns
      have hul := hus.length
      rw [List.length_map] at hul
      have hfl9 : fs.length ≤ 11 := Nat.le_trans hfl (by show 3 ≤ 11; decide)
      refine ⟨_, rfl, rfl, _, rfl, ?_⟩
      rw [N5 aE (by decide)]
      refine D7 ?_
      refine ⟨_, rfl, rfl, _, rfl, ?_⟩
      rw [N5 bR (by decide)]
      refine D7 ?_
      refine ⟨_, rfl, rfl, _, rfl, ?_⟩
      rw [N5 bQ (by decide)]
      refine D7 ?_
      refine ⟨_, rfl, rfl, _, rfl, ?_⟩
      rw [N5 aW (by decide)]
      refine D7 ?_
      refine ⟨_, rfl, rfl, _, rfl, ?_⟩
      rw [N5 gU (by decide)]
      refine D7 ?_
      refine ⟨_, rfl, rfl, _, rfl, ?_⟩
      rw [N5 bP (by decide)]
      refine D7 ?_
      refine ⟨_, rfl, rfl, _, rfl, ?_⟩
      rw [N5 kX (by decide)]
      refine D7 ?_
      refine ⟨_, rfl, rfl, _, rfl, ?_⟩
      rw [N5 qR (by decide)]
      refine D7 ?_
      refine ⟨T7, fun l hl => ?_⟩
      have D1 := D0.put (o := .lst []) hl
      refine ⟨_, rfl, p, _, _, .ref a, rfl, rfl, D1.kp _ _ hp, K8 (j := 1) rfl, a, rfl, ⟨_, D1.kp _ _ ha⟩, ?_⟩
      refine oF (xs := us) (fun i σ H' => ∃ (ys : List V) (rows : List (List Wd)) (b4 b5 b6 : Option V), σ = [some (.ref p), some (.ref st), some (.str (S bE)), some (.ref l), b4, b5, b6] ∧ DS st H H' ∧ H' l = some (.lst ys) ∧ LsN H l H' ys rows ∧ All2 (FRw (PrW L4 n' false)) (fs.take i) rows)
        ⟨[], [], none, none, none, rfl, D1, A6, .nil, .nil⟩ (fun i σ H' _ ⟨_, _, _, _, _, _, d, _⟩ => d.kp _ _ ha) (fun i u σ H' hu hinv => ?_) (fun σ H' hinv => ?_)
      · obtain ⟨ys, rows, b4, b5, b6, rfl, d, hl', hls, hrw⟩ := hinv
        obtain ⟨tf, htf, htv⟩ := hus.get hu
        rw [List.getElem?_map] at htf
        obtain ⟨fl, hfl', rfl⟩ : ∃ fl, fs[i]? = some fl ∧ tf = Y9 fl := by
          cases e : fs[i]? with
          | none => rw [e] at htf; cases htf
          | some z => rw [e] at htf; cases htf; exact ⟨z, rfl, rfl⟩
        obtain ⟨nm, t, must⟩ := fl
        obtain ⟨hnm, hg'⟩ := hgt _ (List.mem_of_getElem? hfl')
        unfold Y9 at htv
        simp only [TV, TAll] at htv
        obtain ⟨fa, _, rfl, hfa, _, _, rfl, rfl, hv', _, rfl, htv', _, _, rfl, rfl, rfl⟩ := htv
        have hi : i < us.length := (List.getElem?_eq_some_iff.mp hu).1
        have hyl := hls.length
        have hrl := hrw.length
        rw [List.length_take] at hrl
        have nl := d.ne hl
        refine ⟨fa, _, rfl, d.kp _ _ hfa, rfl, _, _, rfl, _, _, rfl, _, _, rfl, rfl, ?_⟩
        refine ⟨_, rfl, .inl ⟨rfl, _, SqL.of hl'⟩, _, rfl, M1, fun l1 hl1 => ⟨M1, fun l2 hl2 => ⟨_, rfl, _, rfl, _, rfl, _, rfl, l2, _, rfl, SqL.of A6, fun l3 hl3 => ?_⟩⟩⟩
        rw [hV]
        have k1 := A8 hl1 (.lst [.str (S nm)])
        have k2 := A8 hl2 (.lst [.str (Str.ofString "?")])
        have k3 := A8 hl3 (.lst (if (!must) = true then [V.str (Str.ofString "?")] else []))
        have hq1 : (if (!must) = true then [V.str (Str.ofString "?")] else []).length ≤ 1 := by cases must <;> simp
        refine ⟨l1, l3, _, _, rfl, rfl, (k2.trans k3) _ _ A6, A6, V3 (by rw [List.length_singleton]; omega), fun l4 hl4 => ⟨M1, fun l5 hl5 => ?_⟩⟩
        have k4 := A8 hl4 (.lst ([.str (S nm)] ++ (if (!must) = true then [V.str (Str.ofString "?")] else [])))
        have k5 := A8 hl5 (.lst [.str (Str.ofString ":")])
        refine ⟨l4, l5, _, _, rfl, rfl, k5 _ _ A6, A6, V3 (by rw [List.length_append, List.length_singleton, List.length_singleton]; omega), fun l6 hl6 => ?_⟩
        have k6 := A8 hl6 (.lst ([.str (S nm)] ++ (if (!must) = true then [V.str (Str.ofString "?")] else []) ++ [.str (Str.ofString ":")]))
        refine ⟨_, rfl, T7, fun tg htg => ?_⟩
        have k7 := A8 htg (.tup [])
        have kk := k1.trans (k2.trans (k3.trans (k4.trans (k5.trans (k6.trans k7)))))
        have dt := d.same kk
        obtain ⟨y2, hy2⟩ := dt.s
        have hl6' := k7 l6 _ A6
        have n6 : l6 ≠ st := d.ne (d.old (V0 (k1.trans (k2.trans (k3.trans (k4.trans k5)))) hl6))
        refine ⟨_, rfl, hv', tg, st, y2, false, t, [], rfl, hy2, hg', TV.kp dt.kp htv', SqT.of A6, fun H8 lb row d8 hlb0 hlb hrow => ?_⟩
        have hrl3 := fN (show n' ≤ 3 by omega) hrow
        refine ⟨l6, lb, _, _, rfl, rfl, d8.g _ _ n6 hl6', hlb, M5 (by rw [List.length_append, List.length_append, List.length_map, List.length_singleton, List.length_singleton]; omega), fun l9 hl9 => ?_⟩
        have k9 := A8 hl9 (.lst ([.str (S nm)] ++ (if (!must) = true then [V.str (Str.ofString "?")] else []) ++ [.str (Str.ofString ":")] ++ ST row))
        have hl8 := k9 _ _ (d8.g _ _ nl (kk _ _ hl'))
        have hl9l : l9 ≠ l := Ne.symm (D8 (d8.g _ _ nl (kk _ _ hl')) hl9)
        have dd := (dt.more d8).same k9
        refine ⟨l, _, _, rfl, rfl, hl8, O7 (by omega), ys ++ [.ref l9], rows ++ [Y1 nm must row], _, _, _, rfl, dd.put hl, A6, ?_, ?_⟩
        · refine ((((hls.same kk).more dt d8).same k9).put).snoc ⟨l9, rfl, (dt.more d8).old hl9, hl9l, ?_⟩
          rw [B5 hl9l, A6, lQ, AE7]
          cases must <;> simp [ST, Y1]
        · rw [R9 hfl']
          exact hrw.snoc ⟨row, rfl, hnm, hrow⟩
      · obtain ⟨ys, rows, b4, b5, b6, rfl, d, hl', hls, hrw⟩ := hinv
        rw [hul, List.take_length] at hrw
        have hrl := hrw.length
        have hrok := hrw.right (Q := fun r => r ≠ [] ∧ r.length ≤ 3000) fun f row ⟨r, e, _, h⟩ => by
          have h1 := fN (show n' ≤ 3 by omega) h
          rw [e]
          refine ⟨by simp [Y1], ?_⟩
          unfold Y1
          simp only [List.length_append, List.length_cons, List.length_nil]
          split <;> simp <;> omega
        have hR : PrW L4 (n' + 1) pl (.tup [.str bE, .tup (fs.map Y9), .bl m]) ([123] :: (G2 [44] (rows ++ K1 m) ++ [[125]])) := .inr (.inr (.inr (.inl ⟨fs, rows, m, rfl, hfl, hnd, hrw, rfl⟩)))
        have hwl := fU hn hR
        simp only [List.length_cons, List.length_append, List.length_nil] at hwl
        refine ⟨M1, fun l1 hl1 => ?_⟩
        have k1 := A8 hl1 (.lst [.str (Str.ofString "{")])
        refine ⟨_, rfl, _, rfl, p, _, _, .bl m, rfl, rfl, k1.seqT (d.kp _ _ hp), K8 (j := 2) rfl, l, m, ys, rows, rfl, k1 _ _ hl', (hls.ls).same k1, hrok, by omega, fun H6 l6 g6 hl60 hl6 => ?_⟩
        refine ⟨l1, l6, _, _, rfl, rfl, g6 _ _ A6, hl6, M5 (by rw [List.length_map, List.length_singleton]; omega), fun l7 hl7 => ⟨M1, fun l8 hl8 => ?_⟩⟩
        have k7 := A8 hl7 (.lst ([.str (Str.ofString "{")] ++ ST (G2 [44] (rows ++ K1 m))))
        have k8 := A8 hl8 (.lst [.str (Str.ofString "}")])
        refine ⟨l7, l8, _, _, rfl, rfl, k8 _ _ A6, A6, M5 (by rw [List.length_append, List.length_map, List.length_singleton, List.length_singleton]; omega), fun l9 hl9 => ?_⟩
        have k9 := A8 hl9 (.lst ([.str (Str.ofString "{")] ++ ST (G2 [44] (rows ++ K1 m)) ++ [.str (Str.ofString "}")]))
        have kk := k1.trans (g6.trans (k7.trans k8))
        refine q _ l9 _ (d.same (kk.trans k9)) (d.old (V0 kk hl9)) ?_ hR
        rw [A6, lLc, lRc]; simp [ST]
    · have er := (List.cons.inj (Tn.tup.inj et)).2
      subst er
      rw [show P5 (.tup [.str eM, t']) = eM from rfl] at hp ⊢
      simp only [TAll] at hy'
      obtain ⟨u, _, rfl, hu, rfl⟩ := hy'
      refine ⟨_, rfl, rfl, _, rfl, ?_⟩
      rw [N5 aE (by decide)]
      refine D7 ?_
      refine ⟨_, rfl, rfl, _, rfl, ?_⟩
      rw [N5 bR (by decide)]
      refine D7 ?_
      refine ⟨_, rfl, rfl, _, rfl, ?_⟩
      rw [N5 bQ (by decide)]
      refine D7 ?_
      refine ⟨_, rfl, rfl, _, rfl, ?_⟩
      rw [N5 aW (by decide)]
      refine D7 ?_
      refine ⟨_, rfl, rfl, _, rfl, ?_⟩
      rw [dA gU]
      refine E8 ?_
      refine ⟨M1, fun l1 hl1 => ?_⟩
      have k1 := A8 hl1 (.lst [.str (Str.ofString "!")])
      refine ⟨_, rfl, p, _, _, u, rfl, rfl, k1.seqT hp, K8 (j := 1) rfl, T6, fun tg htg => ?_⟩
      have k2 := A8 htg (.tup [.str (Str.ofString "and"), .str (Str.ofString "or")])
      have dt := D0.same (k1.trans k2)
      obtain ⟨y2, hy2⟩ := dt.s
      have n1 : l1 ≠ st := D0.ne hl1
      refine ⟨_, rfl, u, tg, st, y2, false, t', [Q6, W6], rfl, hy2, hgt, TV.kp dt.kp hu, SqT.of (by rw [A6, aoK]), fun H5 lb row d5 hlb0 hlb hrow => ?_⟩
      rw [← pP hgt] at hrow
      have hR : PrW L4 (n' + 1) pl (.tup [.str eM, t']) ([33] :: row) := .inr (.inr (.inr (.inr (.inl ⟨t', row, rfl, hrow, rfl⟩))))
      have hwl := fU hn hR
      rw [List.length_cons] at hwl
      refine ⟨l1, lb, _, _, rfl, rfl, d5.g _ _ n1 (k2 _ _ A6), hlb, M5 (by rw [List.length_map, List.length_singleton]; omega), fun l9 hl9 => ?_⟩
      have k9 := A8 hl9 (.lst ([.str (Str.ofString "!")] ++ ST row))
      refine q _ l9 _ ((dt.more d5).same k9) ((dt.more d5).old hl9) ?_ hR
      rw [A6, AJ0]; rfl
    · have er := (List.cons.inj (Tn.tup.inj et)).2
      subst er
      rw [show P5 (.tup [.str kw, .tup ts]) = kw from rfl] at hp ⊢
      simp only [TAll] at hy'
      obtain ⟨_, _, rfl, hns, rfl⟩ := hy'
      simp only [TV] at hns
      obtain ⟨a, us, rfl, ha, hus⟩ := hns
      have htl9 : ts.length ≤ 11 := Nat.le_trans htl (by show 3 ≤ 11; decide)
      rcases hkw with rfl | rfl
      · refine ⟨_, rfl, rfl, _, rfl, ?_⟩
        rw [N5 aE (by decide)]
        refine D7 ?_
        refine ⟨_, rfl, rfl, _, rfl, ?_⟩
        rw [N5 bR (by decide)]
        refine D7 ?_
        refine ⟨_, rfl, rfl, _, rfl, ?_⟩
        rw [N5 bQ (by decide)]
        refine D7 ?_
        refine ⟨_, rfl, rfl, _, rfl, ?_⟩
        rw [N5 aW (by decide)]
        refine D7 ?_
        refine ⟨_, rfl, rfl, _, rfl, ?_⟩
        rw [N5 gU (by decide)]
        refine D7 ?_
        refine ⟨_, rfl, rfl, _, rfl, ?_⟩
        rw [dA bP]
        refine E8 ?_
        refine ⟨_, rfl, p, _, _, .ref a, rfl, rfl, hp, K8 (j := 1) rfl, T6, fun tg htg => ?_⟩
        have k2 := A8 htg (.tup [.str (Str.ofString "and"), .str (Str.ofString "or")])
        have dt := D0.same k2
        obtain ⟨y2, hy2⟩ := dt.s
        refine ⟨_, rfl, [38], a, tg, st, y2, pl, us, ts, [Q6, W6], by rw [AE9]; rfl, hy2, dt.kp _ _ ha, hus.kp dt.kp, hgt, by omega, SqT.of (by rw [A6, aoK]), fun H5 lb rows d5 hlb0 hlb hrw => ?_⟩
        exact q H5 lb _ (dt.more d5) (dt.old hlb0) hlb (.inr (.inr (.inr (.inr (.inr (.inl ⟨ts, rows, rfl, h2, htl, hrw.imp fun t ht row h => by rw [pP (hgt t ht)]; exact h, rfl⟩))))))
      · refine ⟨_, rfl, rfl, _, rfl, ?_⟩
        rw [N5 aE (by decide)]
        refine D7 ?_
        refine ⟨_, rfl, rfl, _, rfl, ?_⟩
        rw [N5 bR (by decide)]
        refine D7 ?_
        refine ⟨_, rfl, rfl, _, rfl, ?_⟩
        rw [N5 bQ (by decide)]
        refine D7 ?_
        refine ⟨_, rfl, rfl, _, rfl, ?_⟩
        rw [N5 aW (by decide)]
        refine D7 ?_
        refine ⟨_, rfl, rfl, _, rfl, ?_⟩
        rw [N5 gU (by decide)]
        refine D7 ?_
        refine ⟨_, rfl, rfl, _, rfl, ?_⟩
        rw [N5 bP (by decide)]
        refine D7 ?_
        refine ⟨_, rfl, rfl, _, rfl, ?_⟩
        rw [dA kX]
        refine E8 ?_
        refine ⟨_, rfl, p, _, _, .ref a, rfl, rfl, hp, K8 (j := 1) rfl, M1, fun tg htg => ?_⟩
        have k2 := A8 htg (.tup [.str (Str.ofString "or")])
        have dt := D0.same k2
        obtain ⟨y2, hy2⟩ := dt.s
        refine ⟨_, rfl, [124], a, tg, st, y2, pl, us, ts, [W6], by rw [AE8]; rfl, hy2, dt.kp _ _ ha, hus.kp dt.kp, hgt, by omega, SqT.of (by rw [A6, orK]), fun H5 lb rows d5 hlb0 hlb hrw => ?_⟩
        exact q H5 lb _ (dt.more d5) (dt.old hlb0) hlb (.inr (.inr (.inr (.inr (.inr (.inr ⟨ts, rows, rfl, h2, htl, hrw.imp fun t ht row h => by rw [yT (hgt t ht)]; exact h, rfl⟩))))))
end
end Law
namespace Law
open PySem L2 L2.Sp
theorem vG {c : Nat} (h : P7 c = true) : Unicode.isAlnum c = true := by
 unfold P7 at h
 simp only [Bool.and_eq_true,decide_eq_true_eq] at h
 obtain ⟨k,rfl⟩ : ∃ k,c = 97 + k := ⟨c - 97,by omega⟩
 have : ∀ k,k < 26 → Unicode.isAlnum (97 + k) = true := by decide +kernel
 exact this k (by omega)
theorem vH {c : Nat} (h : L9 c = true) : Unicode.isAlnum c = true := by
 obtain ⟨h1,h2⟩ := fW h
 obtain ⟨k,rfl⟩ : ∃ k,c = 48 + k := ⟨c - 48,by omega⟩
 have : ∀ k,k < 10 → Unicode.isAlnum (48 + k) = true := by decide +kernel
 exact this k (by omega)
theorem iY (v : List Nat) : Txt.isalnum (S v) = (decide (0 < v.length) && v.all Unicode.isAlnum) := by
 unfold Txt.isalnum
 rw [N4]
 congr 1
 simp
theorem AZ5 {p : List Nat} {d : Nat} (h : Z1 p) (hd : p.head? = some d) (hl : P7 d = true) : Let p := by
 rcases h with h | h | h | rfl | h
 ·exact h
 ·obtain ⟨c,e,hc⟩ := h.head
  rw [hd] at e; cases e
  rcases hc with rfl | hc
  ·cases hl
  ·rw [qS hl] at hc; cases hc
 ·obtain ⟨b,_,rfl⟩ := h
  cases hd; cases hl
 ·cases hd; cases hl
 ·obtain ⟨c,hc,rfl⟩ := h
  cases hd
  rw [(W1 _ hc).1] at hl; cases hl
theorem AZ6 {p : List Nat} {d : Nat} (h : Z1 p) (hd : p.head? = some d) (hl : L9 d = true) : Num p := by
 rcases h with h | h | h | rfl | h
 ·obtain ⟨c,e,hc⟩ := h.head
  rw [hd] at e; cases e
  rw [qS hc] at hl; cases hl
 ·exact h
 ·obtain ⟨b,_,rfl⟩ := h
  cases hd; cases hl
 ·cases hd; cases hl
 ·obtain ⟨c,hc,rfl⟩ := h
  cases hd
  rw [(W1 _ hc).2.1] at hl; cases hl
theorem yP {p : List Nat} (h : Let p) : Txt.isalnum (S p) = true := by
 rw [iY,Bool.and_eq_true]
 exact ⟨decide_eq_true (List.length_pos_iff.mpr h.1),List.all_eq_true.mpr fun c hc=>vG (h.2 c hc)⟩
theorem yJ {p : List Nat} {d : Nat} (h : Num p) (hd : p.head? = some d) (hl : L9 d = true) : Txt.isalnum (S p) = true := by
 obtain ⟨sn,fs,rfl,hsn,hne,hf,_⟩ := h
 rcases hsn with rfl | rfl
 ·rw [iY,Bool.and_eq_true]
  exact ⟨decide_eq_true (List.length_pos_iff.mpr (by simpa using hne)),List.all_eq_true.mpr fun c hc=>vH (hf c (by simpa using hc))⟩
 ·cases hd; cases hl
def dQ (u : Wd) : Wd := u.drop (u.length - 1)
theorem vZ (u : Wd) : Txt.slice (S u) (some (-1)) none = S (dQ u) := by
 by_cases e : u = []
 ·subst e; decide +kernel
 ·have hl : (S u).length = u.length := N4 u
  have hp := List.length_pos_iff.mpr e
  have e0 := StrLaws.sliceText_neg_lo (S u) none (i := -1) (by decide) (by rw [hl]; omega)
  have e1 : Txt.slice (S u) (some (-1)) none = Txt.slice (S u) (some ((u.length - 1 : Nat) : Int)) none := by
   show StrLaws.sliceText (S u) (some (-1)) none = StrLaws.sliceText (S u) _ none
   rw [e0,hl]
   congr 2
   omega
  rw [e1]
  exact lP u (i := u.length - 1) (by omega)
theorem AE5 {u : Wd} (h : u ≠ []) : ∃ c,dQ u = [c] ∧ c ∈ u := by
 obtain ⟨c,u',rfl⟩ : ∃ c u',u = u' ++ [c] := ⟨_,_,(List.dropLast_concat_getLast h).symm⟩
 exact ⟨c,by unfold dQ; simp,by simp⟩
theorem mF {u : Wd} {c : Nat} (e : dQ u = [c]) (h : Unicode.isAlnum c = true) : Txt.isalnum (S (dQ u)) = true := by
 rw [iY,e]; simp [h]
theorem AF5 {last p : Wd} (hp : Z1 p) (hd : last = [46] → p.head? ≠ some 46) (ha : ¬ (Txt.isalnum (S (dQ last)) = true ∧ Txt.isalnum (S p) = true)) : Fol last p := by
 intro d hd'
 refine ⟨fun h=>Bool.eq_false_iff.mpr fun z=>ha ⟨?_,yP (AZ5 hp hd' z)⟩,fun h=>Bool.eq_false_iff.mpr fun z=>ha ⟨?_,yJ (AZ6 hp hd' z) hd' z⟩,fun h z=>?_⟩
 ·obtain ⟨c,e,hc⟩ := AE5 h.1
  exact mF e (vG (h.2 c hc))
 ·obtain ⟨sn,fs,rfl,hsn,hne,hf,_⟩ := h
  have hne' : sn ++ fs ≠ [] := fun z=>hne (List.append_eq_nil_iff.mp z).2
  obtain ⟨f,fs',rfl⟩ : ∃ f fs',fs = fs' ++ [f] := ⟨_,_,(List.dropLast_concat_getLast hne).symm⟩
  refine mF (c := f) ?_ (vH (hf f (by simp)))
  unfold dQ
  rw [← List.append_assoc]
  simp
 ·subst z
  exact hd h hd'
def Dr (last : Wd) (rest : List Wd) : Prop := if last = [46] then ∃ n r,rest = n :: r ∧ n.head? ≠ some 46 ∧ DotOk r else DotOk rest
theorem Dr.step {last u : Wd} {r : List Wd} (h : Dr last (u :: r)) : (last = [46] → u.head? ≠ some 46) ∧ Dr u r := by
 unfold Dr at h
 by_cases e : last = [46]
 ·rw [if_pos e] at h
  obtain ⟨n,r',e2,hn,hd⟩ := h
  cases e2
  refine ⟨fun _=>hn,?_⟩
  unfold Dr
  rw [if_neg fun z=>hn (by rw [z]; rfl)]
  exact hd
 ·rw [if_neg e] at h
  refine ⟨fun z=>absurd z e,?_⟩
  unfold Dr
  cases h with
  | cons h1 h2=>rw [if_neg h1]; exact h2
  | dot hn hd=>rw [if_pos rfl]; exact ⟨_,_,rfl,hn,hd⟩
theorem mC (g : Nat) (h : g ≤ 2) : Txt.mul (Str.ofString " ") (g : Int) = S (List.replicate g 32) := by
 have : g = 0 ∨ g = 1 ∨ g = 2 := by omega
 rcases this with rfl | rfl | rfl <;> decide +kernel
theorem AP5 {line last : List Nat} {due : List (List Nat)} (h : Line line due last) (g : Nat) : G3 (line ++ List.replicate g 32) = some due := by
 cases g with
 | zero=>rw [List.replicate_zero,List.append_nil]; exact h.ends
 | succ g =>
  have e := h.all (s := List.replicate (g + 1) 32) (by rw [List.replicate_succ]; exact Fol.sp)
  have e2 := iB (g + 1) []
  rw [List.append_nil,dB] at e2
  rw [e,e2]; simp
section
variable {P : Program} {w : World} {K : PySem.W.Frag} {mg : Str → Option Value} {base : Heap} {f : Addr} {fd : FuncData}
abbrev jW : Stmt := M8 56
theorem aR : E2 ["_law_words_here","_law_state","_law_line_here","_law_last","_law_word","_law_gap"] ["_law_words_here","_law_state"] (B2 jW) := ⟨rfl,rfl,rfl,by decide +kernel,rfl,by decide +kernel,by decide +kernel⟩
def rK : Sp := fun args H Q _=>∃ (lw st : Addr) (x : Int) (ws : List Wd),args = [.ref lw,.ref st] ∧ H st = some (.lst [.int x]) ∧ H lw = some (.lst (ST ws)) ∧ lw ≠ st ∧ WsF 1700 ws ∧ ∀ (H' : Hp) (l : List Nat),DS st H H' → V5 l → (∀ c ∈ l,c < 128) → G3 l = some ws → Q (.str (S l)) H'
theorem AN8 (F : Fun K "_law_line" "_law_line" jW f fd) (N : Cal P w K mg base 1 "_law_next" ["_law_state","_law_many"] Q3) (m1 : mg "max" = none) : FnOk P w K mg base K5 2 f fd ["_law_words_here","_law_state"] rK := by
 refine F.ok aR (fun vs H Q E h=>?_) (fun cdv A outer s H vs Q E hr h=>?_)
 ·obtain ⟨lw,st,x,ws,rfl,_⟩ := h
  rfl
 obtain ⟨lw,st,x,ws,rfl,hs,hlw,nls,hws,q⟩ := h
 refine ⟨_,A7 (B7 (i := 2) aR.nd rfl (Or.inl rfl) B3)
  (A7 (B7 (i := 3) aR.nd rfl (Or.inl rfl) B3)
  (A7 (R4 PassesOwn.never rfl (bZ (pv 0)) (K0 (i := 4) aR.nd rfl (Or.inl rfl))
   (A7 (B7 (i := 5) aR.nd rfl (Or.inl rfl) (E7 (zJ rfl) rfl m1 AX7 (A0 B1 (A0 (E4 aB (B4 N hr rfl (A0 (pv 1) (A0 B1 A5))) B1) A5))))
   (M6 (E5 (PW.pt (aA (B9 G9 (pv 5) B1 (B8 _)) (aA (K9 (xZ PySem.F.plainAttrs_str PySem.F.slot_str_isalnum PySem.F.type_str_isalnum mD (P1 Z8 (pv 3) (N6 (qP lG B1)) Z6))) (aM (K9 (xZ PySem.F.plainAttrs_str PySem.F.slot_str_isalnum PySem.F.type_str_isalnum mD (pv 4)))))))
    (A9 (B7 (i := 5) aR.nd rfl (Or.inl rfl) B1)) D6)
   (A7 (Q5 (i := 2) aR.nd rfl (Or.inl rfl) (E4 bO (E4 bM B3 (pv 5)) (pv 4)) eO)
   (A9 (B7 (i := 3) aR.nd rfl (Or.inl rfl) (pv 4)))))))
  (A9 (B6 (E4 bO (pv 2) (E4 bM B3 (B4 N hr rfl (A0 (pv 1) (A0 B1 A5))))))))),?_⟩
 have D0 := DS.start hs
 have hwl := hws.len
 refine ⟨_,rfl,lw,rfl,⟨_,SqL.of hlw⟩,?_⟩
 refine cW (xs := ST ws) (fun i σ H'=>∃ (line last : List Nat) (b4 b5 : Option V),σ = [some (.ref lw),some (.ref st),some (.str (S line)),some (.str (S last)),b4,b5] ∧ DS st H H' ∧ Line line (ws.take i) last ∧ Dr last (ws.drop i) ∧ line.length ≤ 56 * i ∧ last.length ≤ 54 ∧ ∀ c ∈ line,c < 128)
  ⟨[],[],none,none,by show _ = _; rw [gW]; rfl,D0,Line.nil,?_,by simp,by simp,fun c hc=>(by cases hc)⟩ (fun i σ H' _ ⟨_,_,_,_,_,d,_⟩=>SqL.of (d.g _ _ nls hlw)) (fun i u σ H' hu hinv=>?_) (fun σ H' hinv=>?_)
 ·unfold Dr
  rw [if_neg (by decide)]
  exact hws.dot
 ·obtain ⟨line,last,b4,b5,rfl,d,hL,hD,hll,hla,hasc⟩ := hinv
  obtain ⟨p,hpi,rfl⟩ : ∃ p,ws[i]? = some p ∧ u = .str (S p) := by
   rw [List.getElem?_map] at hu
   cases e : ws[i]? with
   | none=>rw [e] at hu; cases hu
   | some z=>rw [e] at hu; cases hu; exact ⟨z,rfl,rfl⟩
  have hi := (List.getElem?_eq_some_iff.mp hpi).1
  have hpo := hws.ok p (List.mem_of_getElem? hpi)
  have hpl := hpo.len
  have edrop : ws.drop i = p :: ws.drop (i + 1) := by
   rw [List.drop_eq_getElem_cons hi]
   congr 1
   have := List.getElem?_eq_getElem hi
   rw [hpi] at this
   exact (Option.some.inj this).symm
  rw [edrop] at hD
  obtain ⟨T9,hD'⟩ := hD.step
  obtain ⟨y,hy⟩ := d.s
  refine ⟨_,rfl,st,y,4,rfl,hy,by decide,fun y2 r b0 b1=>⟨_,_,rfl,rfl,_,_,rfl,?_⟩⟩
  have d2 := d.next y2
  obtain ⟨g0,hg0,eg0⟩ : ∃ g0 : Nat,g0 ≤ 2 ∧ (if r - 1 > 0 then r - 1 else 0) = (g0 : Int) := by
   have : r = 0 ∨ r = 1 ∨ r = 2 ∨ r = 3 := by omega
   rcases this with rfl | rfl | rfl | rfl
   ·exact ⟨0,by decide,by decide⟩
   ·exact ⟨0,by decide,by decide⟩
   ·exact ⟨1,by decide,by decide⟩
   ·exact ⟨2,by decide,by decide⟩
  rw [eg0]
  refine ⟨fun σ' H''=>∃ g : Nat,g ≤ 2 ∧ (g = 0 → ¬ (Txt.isalnum (S (dQ last)) = true ∧ Txt.isalnum (S p) = true)) ∧ σ' = [some (.ref lw),some (.ref st),some (.str (S line)),some (.str (S last)),some (.str (S p)),some (.int (g : Int))] ∧ H'' = D5 H' st (.lst [.int y2]),?_,?_⟩
  ·refine ⟨_,rfl,rfl,_,rfl,N1 (fun c0=>?_) (fun c0=>D7 ⟨g0,hg0,fun z=>absurd (decide_eq_true (by rw [z]; rfl)) c0,rfl,rfl⟩)⟩
   refine ⟨_,rfl,_,rfl,_,rfl,_,rfl,P0 (by omega),?_⟩
   rw [show (- (1 : Int)) = -1 from rfl,vZ]
   refine ⟨rfl,_,rfl,rfl,_,rfl,N1 (fun c1=>?_) (fun c1=>D7 ⟨g0,hg0,fun _ z=>c1 z.1,rfl,rfl⟩)⟩
   refine ⟨_,rfl,rfl,_,rfl,rfl,_,rfl,N1 (fun c2=>⟨1,by omega,fun z=>by omega,rfl,rfl⟩) (fun c2=>⟨g0,hg0,fun _ z=>c2 z.2,rfl,rfl⟩)⟩
  ·rintro σ' H'' ⟨g,hg,ha,rfl,rfl⟩
   refine ⟨_,rfl,_,rfl,_,_,rfl,rfl,by decide,by omega,by omega,_,rfl,?_⟩
   rw [mC g hg]
   have hrl : (List.replicate g 32).length ≤ 2 := by simp; omega
   refine ⟨_,_,rfl,rfl,cZ (by omega),?_⟩
   rw [hZ]
   have hrp : (List.replicate g 32 ++ p).length ≤ 56 := by rw [List.length_append]; omega
   refine ⟨_,_,rfl,rfl,cZ (by omega),?_⟩
   rw [hZ]
   refine ⟨_,rfl,line ++ (List.replicate g 32 ++ p),p,some (.str (S p)),some (.int (g : Int)),rfl,d2,?_,hD',by rw [List.length_append]; omega,hpl,fun c hc=>?_⟩
   ·rw [R9 hpi]
    by_cases e : g = 0
    ·subst e
     exact hL.zero hpo.tok (AF5 hpo.tok T9 (ha rfl))
    ·have := hL.gap (g := g) (by omega) hpo.tok
     rw [List.append_assoc] at this
     exact this
   ·rcases List.mem_append.mp hc with z | z
    ·exact hasc c z
    ·rcases List.mem_append.mp z with z | z
     ·rw [(List.mem_replicate.mp z).2]; decide
     ·exact hpo.asc c z
 ·obtain ⟨line,last,b4,b5,rfl,d,hL,hD,hll,hla,hasc⟩ := hinv
  obtain ⟨y,hy⟩ := d.s
  rw [List.length_map,List.take_length] at hL
  rw [List.length_map] at hll
  refine ⟨_,rfl,_,rfl,st,y,2,rfl,hy,by decide,fun y2 r b0 b1=>?_⟩
  obtain ⟨g,rfl⟩ := Int.eq_ofNat_of_zero_le b0
  refine ⟨_,_,rfl,rfl,by decide,by omega,by omega,?_⟩
  rw [mC g (by omega)]
  refine ⟨_,_,rfl,rfl,cZ (by simp; omega),?_⟩
  rw [hZ]
  have hasc2 : ∀ c ∈ line ++ List.replicate g 32,c < 128 := fun c hc=>by
   rcases List.mem_append.mp hc with z | z
   ·exact hasc c z
   ·rw [(List.mem_replicate.mp z).2]; decide
  exact q _ _ (d.next y2) ⟨by simp; omega,fun c hc=>by have := hasc2 c hc; omega⟩ hasc2 (AP5 hL g)
end
end Law
namespace Law
open PySem L2 L2.Sp
def BT : Nat → Tn → Prop
 | _,.non=>True
 | _,.bl _=>True
 | _,.int _=>True
 | _,.str w=>w.length ≤ 1000
 | 0,.tup _=>False
 | n + 1,.tup ts=>ts.length ≤ 100 ∧ ∀ t ∈ ts,BT n t
theorem BT.succ : ∀ (n : Nat) (t : Tn),BT n t → BT (n + 1) t
 | _,.non,_=>by simp [BT]
 | _,.bl _,_=>by simp [BT]
 | _,.int _,_=>by simp [BT]
 | n,.str w,h=>by cases n <;> simpa [BT] using h
 | 0,.tup _,h=>by simp [BT] at h
 | n + 1,.tup ts,h=>by
  simp only [BT] at h ⊢
  exact ⟨h.1,fun t ht=>BT.succ n t (h.2 t ht)⟩
theorem BT.mono {m n : Nat} (h : m ≤ n) {t : Tn} (x : BT m t) : BT n t := by
 induction h with
 | refl=>exact x
 | step _ ih=>exact BT.succ _ _ ih
mutual
def rB : Tn → D
 | .non=>.non
 | .bl b=>.bl b
 | .int i=>.int i
 | .str w=>.str (S w)
 | .tup ts=>.tup (kP ts)
def kP : List Tn → List D
 | []=>[]
 | t :: ts=>rB t :: kP ts
end
theorem rA : ∀ ts : List Tn,(kP ts).length = ts.length
 | []=>rfl
 | t :: ts=>by simp only [kP,List.length_cons,rA ts]
section
variable {K : PySem.W.Frag} {H : Hp}
mutual
theorem TV.dv : ∀ (n : Nat) (t : Tn) (v : V),BT n t → TV K H t v → DV K H (rB t) v
 | n,.non,v,_,h=>by simp only [TV] at h; simp only [rB,DV]; exact h
 | n,.bl b,v,_,h=>by simp only [TV] at h; simp only [rB,DV]; exact h
 | n,.int i,v,_,h=>by simp only [TV] at h; simp only [rB,DV]; exact h
 | n,.str w,v,hb,h=>by
  simp only [TV] at h; simp only [rB,DV]
  refine ⟨h,?_⟩
  rw [N4]
  cases n <;> simpa [BT] using hb
 | 0,.tup ts,v,hb,h=>by simp [BT] at hb
 | n + 1,.tup ts,v,hb,h=>by
  simp only [BT] at hb
  simp only [TV] at h; simp only [rB,DV]
  obtain ⟨a,ys,e,h1,h2⟩ := h
  exact ⟨a,ys,e,h1,TAll.dv n ts ys hb.2 h2,by rw [rA]; exact hb.1⟩
theorem TAll.dv : ∀ (n : Nat) (ts : List Tn) (vs : List V),(∀ t ∈ ts,BT n t) → TAll K H ts vs → DAll K H (kP ts) vs
 | n,[],vs,_,h=>by simp only [TAll] at h; simp only [kP,DAll]; exact h
 | n,t :: ts,vs,hb,h=>by
  simp only [TAll] at h; simp only [kP,DAll]
  obtain ⟨y,r,e,h1,h2⟩ := h
  exact ⟨y,r,e,TV.dv n t y (hb t (by simp)) h1,TAll.dv n ts r (fun x hx=>hb x (by simp [hx])) h2⟩
end
end
theorem S5 {n : Nat} {w : Wd} (h : w.length ≤ 1000) : BT n (.str w) := by cases n <;> simpa [BT] using h
theorem wX {n : Nat} {b : Bool} : BT n (.bl b) := by cases n <;> simp [BT]
theorem AJ8 {n : Nat} {a : Option Int} : BT n (oI a) := by cases a <;> cases n <;> simp [BT,oI]
theorem aH {n : Nat} {ts : List Tn} (h : ts.length ≤ 100) (h2 : ∀ t ∈ ts,BT n t) : BT (n + 1) (.tup ts) := by simp only [BT]; exact ⟨h,h2⟩
theorem pU {n : Nat} {a b : Tn} (h1 : BT n a) (h2 : BT n b) : BT (n + 1) (.tup [a,b]) := aH (by show 2 ≤ 100; decide) fun t ht=>by
 simp only [List.mem_cons,List.not_mem_nil,or_false] at ht
 rcases ht with rfl | rfl
 ·exact h1
 ·exact h2
theorem bt3 {n : Nat} {a b c : Tn} (h1 : BT n a) (h2 : BT n b) (h3 : BT n c) : BT (n + 1) (.tup [a,b,c]) := aH (by show 3 ≤ 100; decide) fun t ht=>by
 simp only [List.mem_cons,List.not_mem_nil,or_false] at ht
 rcases ht with rfl | rfl | rfl
 ·exact h1
 ·exact h2
 ·exact h3
theorem xX : ∀ u ∈ N9,u.length ≤ 1000 := by decide
theorem AI9 {t : Tn} (h : bA t) : BT 1 t := by
 cases h with
 | word hu=>exact pU (S5 (by decide)) (S5 (xX _ hu))
 | span _ _ _=>exact bt3 (S5 (by decide)) AJ8 AJ8
 | text hc hl=>exact pU (S5 (by decide)) (S5 (by omega))
theorem AI0 {t : Tn} (h : tE t) : BT 2 t := by
 cases h with
 | mk h0 hl hn =>
  refine pU (S5 (by decide)) (aH (by rw [List.length_map]; omega) fun t ht=>?_)
  obtain ⟨n,hn',rfl⟩ := List.mem_map.mp ht
  exact S5 (by have := (hn n hn').len; omega)
theorem AJ3 {mx : Nat → Nat} (hm : ∀ n,mx n ≤ 100) : ∀ (n : Nat) (pl : Bool) (t : Tn),GT mx n pl t → BT (3 * n + 2) t
 | 0,pl,t,h=>by
  rcases h with h | ⟨_,h⟩
  ·exact (AI9 h).mono (by omega)
  ·exact AI0 h
 | n + 1,pl,t,h=>by
  have ih := AJ3 hm n
  have e : 3 * (n + 1) + 2 = (3 * n + 2) + 1 + 1 + 1 := by omega
  have hmx := hm (n + 1)
  rcases h with h | ⟨_,h⟩ | ⟨ts,m,rfl,hl,hg⟩ | ⟨fs,m,rfl,hl,_,hg⟩ | ⟨t',rfl,hg⟩ | ⟨k,ts,hk,rfl,_,hl,hg⟩
  ·exact (AI9 h).mono (by omega)
  ·exact (AI0 h).mono (by omega)
  ·rw [e]
   refine BT.succ _ _ (bt3 (S5 (by decide)) (aH (by omega) fun t ht=>ih false t (hg t ht)) wX)
  ·rw [e]
   refine bt3 (S5 (by decide)) (aH (by rw [List.length_map]; omega) fun t ht=>?_) wX
   obtain ⟨f,hf,rfl⟩ := List.mem_map.mp ht
   exact bt3 (S5 (by have := (hg f hf).1.len; omega)) (ih false _ (hg f hf).2) wX
  ·rw [e]
   exact BT.succ _ _ (BT.succ _ _ (pU (S5 (by decide)) (ih false t' hg)))
  ·rw [e]
   refine BT.succ _ _ (pU (S5 (by rcases hk with rfl | rfl <;> decide)) (aH (by omega) fun t ht=>ih pl t (hg t ht)))
section
variable {P : Program} {w : World} {K : PySem.W.Frag} {mg : Str → Option Value} {base : Heap} {f : Addr} {fd : FuncData}
abbrev dJ : Stmt := M8 57
theorem xK : E2 ["_law_found","_law_due"] ["_law_found","_law_due"] (B2 dJ) := ⟨rfl,rfl,rfl,by decide +kernel,rfl,by decide +kernel,by decide +kernel⟩
theorem AV1 : (["_law_k","_law_found","_law_due"] : List Str).Nodup := by decide +kernel
def iE (K : PySem.W.Frag) (n : Nat) : Sp := fun args H Q _=>∃ (v u : V) (t : Tn),args = [v,u] ∧ BT n t ∧ TV K H t v ∧ TV K H t u ∧ ∀ H',Same H H' → Q (.bl true) H'
theorem uM {k n : Nat} {sp : Sp} (F : Fun K "_law_same" "_law_same" dJ f fd) (SM : Cal P w K mg base k "_law_same" ["_law_found","_law_due"] sp) (hsp : ∀ n',n = n' + 1 → sp = iE K n') (m1 : mg "isinstance" = none) (m2 : mg "bool" = none) (m3 : mg "int" = none) (m4 : mg "str" = none) (m5 : mg "tuple" = none) (m6 : mg "len" = none) (m7 : mg "all" = none) (m8 : mg "range" = none) :
  FnOk P w K mg base K5 (k + 1) f fd ["_law_found","_law_due"] (iE K n) := by
 refine F.ok xK (fun vs H Q E h=>?_) (fun cdv A outer s H vs Q E hr h=>?_)
 ·obtain ⟨v,u,t,rfl,_⟩ := h
  rfl
 obtain ⟨v,u,t,rfl,hb,hv,hu,q⟩ := h
 refine ⟨_,A7 (E5 (B9 yB (pv 1) X9 (B8 _)) (A9 (B6 (N7 yB (pv 0) X9 (B8 _)))) D6)
  (A7 (E5 (K9 (E7 U1 rfl m1 R5 (A0 (pv 1) (A0 (S3 (v := .ty "bool") rfl m2 oK rfl) A5)))) (A9 (B6 (W5 (E7 U1 rfl m1 R5 (A0 (pv 0) (A0 (S3 (v := .ty "bool") rfl m2 oK rfl) A5))) (W4 (N7 G9 (pv 0) (pv 1) (B8 _)))))) D6)
  (A7 (E5 (K9 (E7 U1 rfl m1 R5 (A0 (pv 1) (A0 (S3 (v := .ty "int") rfl m3 Y3 rfl) A5)))) (A9 (B6 (W5 (E7 U1 rfl m1 R5 (A0 (pv 0) (A0 (S3 (v := .ty "int") rfl m3 Y3 rfl) A5))) (W5 (lW (E7 U1 rfl m1 R5 (A0 (pv 0) (A0 (S3 (v := .ty "bool") rfl m2 oK rfl) A5)))) (W4 (N7 G9 (pv 0) (pv 1) (B8 _))))))) D6)
  (A7 (E5 (K9 (E7 U1 rfl m1 R5 (A0 (pv 1) (A0 (S3 (v := .ty "str") rfl m4 aZ rfl) A5)))) (A9 (B6 (W5 (E7 U1 rfl m1 R5 (A0 (pv 0) (A0 (S3 (v := .ty "str") rfl m4 aZ rfl) A5))) (W4 (N7 G9 (pv 0) (pv 1) (B8 _)))))) D6)
  (A7 (E5 (PW.pt (aO (U6 (K9 (E7 U1 rfl m1 R5 (A0 (pv 0) (A0 (S3 (v := .ty "tuple") rfl m5 O1 rfl) A5))))) (aU (B9 kC (E7 M2 rfl m6 PySem.boot_len (A0 (pv 0) A5)) (E7 M2 rfl m6 PySem.boot_len (A0 (pv 1) A5)) (B8 _))))) (A9 (B6 P2)) D6)
  (A9 (B6 (E7 (iA rfl) rfl m7 zN (A0 (aN (N' := ["_law_k","_law_found","_law_due"]) (fr := [none,some 0,some 1]) (own := [0]) ⟨rfl,rfl,rfl,rfl,rfl,rfl,rfl⟩ rfl (O0 rfl m8 (A0 (E7 M2 rfl m6 PySem.boot_len (A0 (pv 1) A5)) A5))
   (fun _ _ _ _=>K0 (i := 0) AV1 rfl (Or.inl rfl)) (R1 0) (fun _ _ _ _=>U5) (fun _ _ _ _=>B4 SM hr rfl (A0 (G7 uU (pv 1) (pv 0) (fun _ _=>rfl)) (A0 (G7 uU (pv 2) (pv 0) (fun _ _=>rfl)) A5)))) A5)))))))),?_⟩
 have hdv := TV.dv n t v hb hv
 have hdu := TV.dv n t u hb hu
 refine ⟨_,rfl,rfl,_,rfl,?_⟩
 have isi : ∀ (d : D) (T : String) (b : Bool),bF d T = b → bF d T = b := fun _ _ _ h=>h
 cases t with
 | non =>
  simp only [TV] at hv hu
  subst hv hu
  exact E8 ⟨_,rfl,rfl,q H bL⟩
 | bl b =>
  simp only [TV] at hv hu
  subst hv hu
  refine D7 ⟨_,rfl,_,_,"bool",rfl,hdu,.inr (.inr (.inr rfl)),true,rfl,E8 ?_⟩
  refine ⟨_,rfl,_,_,"bool",rfl,hdv,.inr (.inr (.inr rfl)),true,rfl,E8 ⟨_,rfl,_,rfl,rfl,?_⟩⟩
  rw [decide_eq_true rfl]
  exact q H bL
 | int i =>
  simp only [TV] at hv hu
  subst hv hu
  refine D7 ⟨_,rfl,_,_,"bool",rfl,hdu,.inr (.inr (.inr rfl)),false,rfl,D7 ?_⟩
  refine ⟨_,rfl,_,_,"int",rfl,hdu,.inr (.inr (.inl rfl)),true,rfl,E8 ?_⟩
  refine ⟨_,rfl,_,_,"int",rfl,hdv,.inr (.inr (.inl rfl)),true,rfl,E8 ⟨_,rfl,_,_,"bool",rfl,hdv,.inr (.inr (.inr rfl)),false,rfl,true,rfl,E8 ⟨_,rfl,_,rfl,rfl,?_⟩⟩⟩
  rw [decide_eq_true rfl]
  exact q H bL
 | str w' =>
  simp only [TV] at hv hu
  subst hv hu
  refine D7 ⟨_,rfl,_,_,"bool",rfl,hdu,.inr (.inr (.inr rfl)),false,rfl,D7 ?_⟩
  refine ⟨_,rfl,_,_,"int",rfl,hdu,.inr (.inr (.inl rfl)),false,rfl,D7 ?_⟩
  refine ⟨_,rfl,_,_,"str",rfl,hdu,.inr (.inl rfl),true,rfl,E8 ?_⟩
  refine ⟨_,rfl,_,_,"str",rfl,hdv,.inr (.inl rfl),true,rfl,E8 ⟨_,rfl,_,rfl,rfl,?_⟩⟩
  rw [decide_eq_true rfl]
  exact q H bL
 | tup ts =>
  obtain ⟨n',rfl⟩ : ∃ n',n = n' + 1 := by
   cases n with
   | zero=>simp [BT] at hb
   | succ n=>exact ⟨n,rfl⟩
  have esp := hsp n' rfl
  subst esp
  simp only [BT] at hb
  simp only [TV] at hv hu
  obtain ⟨a,xs,rfl,ha,hxs⟩ := hv
  obtain ⟨b,ys,rfl,hb2,hys⟩ := hu
  have hxl := hxs.length
  have hyl := hys.length
  refine D7 ⟨_,rfl,_,_,"bool",rfl,hdu,.inr (.inr (.inr rfl)),false,rfl,D7 ?_⟩
  refine ⟨_,rfl,_,_,"int",rfl,hdu,.inr (.inr (.inl rfl)),false,rfl,D7 ?_⟩
  refine ⟨_,rfl,_,_,"str",rfl,hdu,.inr (.inl rfl),false,rfl,D7 ?_⟩
  refine ⟨_,rfl,_,_,"tuple",rfl,hdv,.inl rfl,true,rfl,D7 ?_⟩
  refine ⟨_,rfl,a,_,rfl,.inr ha,_,rfl,b,_,rfl,.inr hb2,rfl,_,rfl,?_⟩
  rw [hxl,hyl,AO8]
  refine D7 ?_
  refine ⟨_,rfl,b,_,rfl,.inr hb2,(ys.length : Int),rfl,by omega,by omega,fun l hl=>?_⟩
  refine R8 (fun i zs H'=>Same H H' ∧ H' l = some (.lst zs) ∧ zs = List.map V.bl (List.replicate i true)) ⟨A8 hl _,A6,rfl⟩ (fun i zs H' hi hinv=>?_) (fun zs H' hinv=>?_)
  ·obtain ⟨g,hl',rfl⟩ := hinv
   have hi' : i < ts.length := by omega
   obtain ⟨x1,hx1⟩ : ∃ x1,xs[i]? = some x1 := ⟨_,List.getElem?_eq_getElem (by omega)⟩
   obtain ⟨y1,hy1⟩ : ∃ y1,ys[i]? = some y1 := ⟨_,List.getElem?_eq_getElem (by omega)⟩
   obtain ⟨t1,ht1,htx⟩ := hxs.get hx1
   obtain ⟨t2,ht2,hty⟩ := hys.get hy1
   rw [ht1] at ht2; cases ht2
   dsimp only [U4,U0]
   refine cD ⟨_,rfl,_,rfl,a,_,_,x1,rfl,rfl,g.seqT ha,?_,_,rfl,_,rfl,b,_,_,y1,rfl,rfl,g.seqT hb2,?_,x1,y1,t1,rfl,hb.2 t1 (List.mem_of_getElem? ht1),TV.kp (Kp.same g) htx,TV.kp (Kp.same g) hty,fun H2 g2=>?_⟩
   ·rw [show (0 : Int) + (i : Int) = (i : Int) by omega]; exact K8 hx1
   ·rw [show (0 : Int) + (i : Int) = (i : Int) by omega]; exact K8 hy1
   ·refine ⟨g2 _ _ hl',O7 (by simp; omega),fun b o h=>by rw [B5 (D8 h hl)]; exact g2 _ _ (g _ _ h),A6,?_⟩
    rw [List.replicate_succ',List.map_append]; rfl
  ·obtain ⟨g,hl',rfl⟩ := hinv
   refine ⟨l,_,rfl,SqL.of hl',?_⟩
   have e : (List.replicate ((ys.length : Nat) : Int).toNat true).all id = true := by
    rw [List.all_eq_true]
    intro b hb; rw [(List.mem_replicate.mp hb).2]; rfl
   rw [e]
   exact q _ g
end
end Law
namespace Law
open PySem L2 L2.Sp
def K6 : Wd := [101,108,115,101]
theorem dR : (Str.ofString "else" : Str) = S K6 := by decide +kernel
section
variable (X : Bool → List Wd → P8 → Prop)
inductive bU : Nat → List Tn → List Wd → Option (List Tn × List Wd) → Prop
 | stop {ts r} : hd r ≠ K6 → bU 0 ts r (some (ts,r))
 | on {k ts r t r1 res} : X true r (some (t,r1)) → bU k (ts ++ [t]) r1 res → bU (k + 1) ts (K6 :: r) res
 | bad {ts r} : X true r none → bU 1 ts (K6 :: r) none
def W7 (ws : List Wd) (res : Option Tn) : Prop := ∃ nres,R0 ws nres ∧ match nres with
 | none=>res = none
 | some (ns,r)=>if hd r = [58] then ∃ xres,X true r.tail xres ∧ (match xres with
   | none=>res = none
   | some (t,r1)=>∃ k eres,bU X k [t] r1 eres ∧ res = match eres with
    | none=>none
    | some (ts,r2)=>if hd r2 = [] then some (.tup [.tup (ns.map Tn.str),.tup ts]) else none) else res = none
end
section
variable {P : Program} {w : World} {K : PySem.W.Frag} {mg : Str → Option Value} {base : Heap} {f : Addr} {fd : FuncData} {R C : Addr}
abbrev nI : Stmt := M8 23
theorem qK : E2 ["line","reader","path","trees"] ["line"] (B2 nI) := ⟨rfl,rfl,rfl,by decide +kernel,rfl,by decide +kernel,by decide +kernel⟩
theorem AT8 {N : Nat} {fi : Addr} {fdi : FuncData} (F : Fun K "read_row" "read_row" nI f fd) (r : Rdg P w K mg base R C) (M : Mk K R fi) (FI : FnOk P w K mg base (N0 P w) 6 fi fdi ["self","text"] (rL K R C)) (bi : Binds K fdi ["self","text"] []) (gR : mg "Reader" = some (.ref R)) :
  FnOk P w K mg base (N0 P w) (5 * N + 8) f fd ["line"] (V9 K C (W7 (Exn N))) := by
 refine Fun.ok1 F qK (fun vs H Q E h=>?_) (fun cdv A outer s H vs Q E hr h=>?_)
 ·obtain ⟨v,rfl,_⟩ := h
  rfl
 obtain ⟨v,rfl,h⟩ := h
 have hr7 := hr.mono (show 6 + 1 ≤ 5 * N + 7 by omega)
 have hrE := hr.mono (show 5 * N + 5 ≤ 5 * N + 7 by omega)
 have hr4 := hr.mono (show 4 ≤ 5 * N + 7 by omega)
 have hr3 := hr.mono (show 3 ≤ 5 * N + 7 by omega)
 have hr2 := hr.mono (show 2 ≤ 5 * N + 7 by omega)
 refine ⟨_,A7 (B7 (i := 1) qK.nd rfl (Or.inl rfl) (uF M FI hr7 rfl gR bi .nil (G8 (E' := E) fun _ _ _ h=>h) (A0 (pv 0) A5)))
  (A7 (B7 (i := 2) qK.nd rfl (Or.inl rfl) (G5 r.NS hr4 rfl (G8 (E' := E) fun _ _ _ h=>h) (A0 (pv 1) A5)))
  (A7 (K2 (O4 r.MU r.c hr3 (G8 (E' := E) fun _ _ _ h=>h) (pv 1) (A0 B3 A5)))
  (A7 (B7 (i := 3) qK.nd rfl (Or.inl rfl) (E3 (A0 (G5 (sD r N) hrE rfl (G8 (E' := E) fun _ _ _ h=>h) (A0 (pv 1) (A0 P2 A5))) A5)))
  (A7 (W3 PassesOwn.leaving (K9 (O4 r.TS r.c hr2 P3 (pv 1) (A0 B3 A5)))
   (A9 (K2 (O9 PySem.F.plainAttrs_list PySem.F.slot_list_append PySem.F.type_list_append K4 (pv 3) (A0 (G5 (sD r N) hrE rfl (G8 (E' := E) fun _ _ _ h=>h) (A0 (pv 1) (A0 P2 A5))) A5)))))
  (A7 (K2 (O4 r.MU r.c hr3 (G8 (E' := E) fun _ _ _ h=>h) (pv 1) (A0 B3 A5)))
  (A9 (B6 (L0 (A0 (pv 2) (A0 (J0 K3 rfl r.m2 O1 (A0 (pv 3) A5)) A5)))))))))),?_⟩
 refine ⟨_,rfl,fun rd dx h1 h2 n12=>⟨rd,dx,v,rfl,A6,?_⟩⟩
 rcases h with ⟨d,hd',hf,e⟩ | ⟨l,rfl,hs,h⟩
 ·refine .inl ⟨d,DV.mono (DKeep.same ?_) _ _ hd',hf,e _ ?_⟩
  ·exact V2 h1 h2 Grow.refl
  ·exact V2 h1 h2 Grow.refl
 refine .inr ⟨l,rfl,hs,fun ws hw H1 p hp g1 hl hrd=>?_,fun hw H1 g1=>?_⟩
 ·rcases h with ⟨hn,_⟩ | ⟨ws',res,hw',ok,hy,q⟩
  ·rw [hn] at hw; cases hw
  ·rw [hw] at hw'; cases hw'
   refine ⟨rfl,?_⟩
   obtain ⟨nres,hnm,hy⟩ := hy
   have D0 : RD H1 R rd dx p ws 0 := ⟨hrd,hl,ok⟩
   have S0 := RS.start D0
   have wl0 := ok.len
   have up : ∀ {H2 : Hp},Grow rd H1 H2 → Same H H2 := fun {H2} g2=>V2 h1 h2 (g1.trans g2)
   refine ⟨_,rfl,rd,dx,p,ws,0,nres,rfl,D0,hnm,?_⟩
   cases nres with
   | none =>
    subst hy
    exact fun H2 g2=>q H2 (up g2)
   | some nr =>
    obtain ⟨ns,r1⟩ := nr
    intro vp H2 t2 g2 d2 e2 lt2 le2 hvp
    have s2 := S0.more g2 d2
    dsimp only at hy
    refine ⟨_,rfl,rd,dx,_,rfl,d2.ob,rfl,rd,dx,p,ws,t2,[58],by rw [AE7]; rfl,d2,eZ 58 (by decide),?_⟩
    by_cases ec : Law.hd (ws.drop t2) = [58]
    ·rw [if_pos (by rw [← e2]; exact ec)] at hy
     obtain ⟨xres,hx,hy⟩ := hy
     have s3 := s2.up (t2 + 1)
     have hvp3 := TV.kp (dS (t' := t2 + 1) d2) hvp
     refine M3 ec ⟨_,rfl,rd,dx,p,ws,t2 + 1,true,xres,rfl,s3.st,by rw [X4,e2]; exact hx,?_⟩
     cases xres with
     | none =>
      dsimp only at hy
      subst hy
      exact fun H4 g4=>q H4 (up (s3.g.trans g4))
     | some xr =>
      obtain ⟨x,r2⟩ := xr
      obtain ⟨k,eres,he,rfl⟩ := hy
      intro vx H4 t4 g4 d4 e4 lt4 le4 hvx
      have s4 := s3.more g4 d4
      have hvp4 := TV.kp (Kp.grow g4 s3.st) hvp3
      refine ⟨M1,fun lt hlt=>?_⟩
      have hlt0 := gQ s4 hlt
      have kt := A8 hlt (.lst [vx])
      refine ⟨fun m σ H'=>∃ (ts : List Tn) (vs : List V) (t' : Nat),σ = [some (.str (S l)),some (.ref rd),some vp,some (.ref lt)] ∧ RS H1 H' R rd dx p ws t' ∧ H' lt = some (.lst vs) ∧ TAll K H' ts vs ∧ TV K H' (.tup (ns.map Tn.str)) vp ∧ bU (Exn N) m ts (ws.drop t') eres ∧ ts.length ≤ t' ∧ t' ≤ ws.length,
       ⟨k,[x],[vx],t4,rfl,s4.same kt,A6,TAll.one (TV.kp (Kp.same kt) hvx),TV.kp (Kp.same kt) hvp4,by rw [e4]; exact he,(by show 1 ≤ t4; omega),le4⟩,?_⟩
      rintro m σ H' ⟨ts,vs,t',rfl,s',hl',hts,hvp',hep,hlen,htl⟩
      have nl : lt ≠ rd := s'.none hlt0 hl'
      have hvl := hts.length
      refine ⟨_,rfl,rd,dx,_,rfl,s'.st.ob,rfl,rd,dx,p,ws,t',K6,by rw [dR]; rfl,s'.st,?_⟩
      generalize hdr : ws.drop t' = rr at hep ⊢
      cases hep with
      | stop hh =>
       refine J1 hh ⟨_,rfl,D7 ?_⟩
       refine ⟨_,rfl,rd,dx,_,rfl,s'.st.ob,rfl,rd,dx,p,ws,t',[],by rw [gW]; rfl,s'.st,⟨by decide,fun c hc=>by cases hc⟩,?_⟩
       rw [hdr]
       dsimp only at q
       have s5 := s'.up (t' + 1)
       by_cases e5 : Law.hd rr = []
       ·rw [if_pos e5] at q
        have ku := dS (K := K) (t' := t' + 1) s'.st
        have hl5 : Q0 H' R rd dx p (t' + 1) lt = some (.lst vs) := by unfold Q0; rw [B5 nl]; exact hl'
        refine M3 e5 ⟨_,rfl,_,rfl,lt,_,rfl,.inl ⟨SqL.of hl5,fun p6 hp6=>⟨T6,fun p7 hp7=>?_⟩⟩⟩
        have k6 := A8 hp6 (.tup vs)
        have k7 := A8 hp7 (.tup [vp,.ref p6])
        have k67 := Kp.same (K := K) (k6.trans k7)
        refine q _ _ (fun b o hb=>(k6.trans k7) _ _ (up s5.g b o hb)) ?_
        exact TV.tup (SqT.of A6) (TAll.cons (TV.kp k67 (TV.kp ku hvp')) (TAll.one (TV.tup (SqT.of (k7 _ _ A6)) (hts.kp (ku.trans k67)))))
       ·rw [if_neg e5] at q
        exact J1 e5 (q _ (up s5.g))
      | @on k' _ r3 t r4 _ hx2 hk2 =>
       obtain ⟨dd1,dd2⟩ := dX hdr
       refine M3 rfl ⟨_,rfl,E8 ?_⟩
       refine ⟨fun σ' H''=>∃ (vs : List V) (t'' : Nat),σ' = [some (.str (S l)),some (.ref rd),some vp,some (.ref lt)] ∧ RS H1 H'' R rd dx p ws t'' ∧ H'' lt = some (.lst vs) ∧ TAll K H'' (ts ++ [t]) vs ∧ TV K H'' (.tup (ns.map Tn.str)) vp ∧ bU (Exn N) k' (ts ++ [t]) (ws.drop t'') eres ∧ (ts ++ [t]).length ≤ t'' ∧ t'' ≤ ws.length,fun σ' H'' hh=>?_,?_⟩
       ·obtain ⟨vs,t'',a⟩ := hh
        exact ⟨k',Nat.lt_succ_self _,ts ++ [t],vs,t'',a⟩
       have s5 := s'.up (t' + 1)
       have ku := dS (K := K) (t' := t' + 1) s'.st
       have hl5 : Q0 H' R rd dx p (t' + 1) lt = some (.lst vs) := by unfold Q0; rw [B5 nl]; exact hl'
       refine ⟨_,rfl,.inl ⟨rfl,_,SqL.of hl5⟩,_,rfl,rd,dx,p,ws,t' + 1,true,_,rfl,s5.st,by rw [dd1]; exact hx2,?_⟩
       intro v6 H6 t6 g6 d6 e6 lt6 le6 hv6
       have s6 := s5.more g6 d6
       have hl6 := g6 _ _ nl hl5
       have k6 := ku.trans (Kp.grow (K := K) g6 s5.st)
       have kl := Kp.lst (K := K) (o := .lst (vs ++ [v6])) hl6
       exact ⟨lt,_,_,rfl,rfl,hl6,dE (by omega),_,t6,rfl,s6.put hlt0,A6,(hts.kp (k6.trans kl)).append (TAll.one (TV.kp kl hv6)),TV.kp (k6.trans kl) hvp',by rw [e6]; exact hk2,by rw [List.length_append,List.length_singleton]; omega,le6⟩
      | @bad _ r3 hx2 =>
       obtain ⟨dd1,dd2⟩ := dX hdr
       refine M3 rfl ⟨_,rfl,E8 ?_⟩
       have s5 := s'.up (t' + 1)
       have hl5 : Q0 H' R rd dx p (t' + 1) lt = some (.lst vs) := by unfold Q0; rw [B5 nl]; exact hl'
       refine ⟨fun _ _=>False,fun _ _ z=>z.elim,?_⟩
       refine ⟨_,rfl,.inl ⟨rfl,_,SqL.of hl5⟩,_,rfl,rd,dx,p,ws,t' + 1,true,_,rfl,s5.st,by rw [dd1]; exact hx2,?_⟩
       intro H6 g6
       exact q H6 (up (s5.g.trans g6))
    ·rw [if_neg (by rw [← e2]; exact ec)] at hy
     subst hy
     exact J1 ec (q _ (up (s2.up (t2 + 1)).g))
 ·rcases h with ⟨_,q⟩ | ⟨ws',res,hw',ok,hy,q⟩
  ·exact q _ (V2 h1 h2 (Grow.of g1))
  ·rw [hw] at hw'; cases hw'
end
end Law
namespace Law
open PySem L2 L2.Sp
theorem lJ (p : Nat → Bool) {l : List Nat} {c : Nat} (h : c ∈ l.takeWhile p) : p c = true := by
 induction l with
 | nil=>cases h
 | cons a r ih =>
  by_cases ha : p a = true
  ·rw [List.takeWhile_cons_of_pos ha] at h
   rcases List.mem_cons.mp h with e | h
   ·rw [e]; exact ha
   ·exact ih h
  ·rw [List.takeWhile_cons_of_neg ha] at h; cases h
theorem AD2 {l w : List Nat} (h : V8 l = some w) : 10 ∉ w := by
 unfold V8 at h
 split at h
 ·cases h
 ·injection h with h
  subst h
  intro hm
  unfold sg at hm
  by_cases e : l.head? = some 45
  ·rw [if_pos e] at hm
   cases l with
   | nil=>cases e
   | cons a r =>
    cases e
    rw [List.drop_one,List.tail_cons,Nat.add_comm,List.take_succ_cons,bV] at hm
    rcases List.mem_cons.mp hm with z | z
    ·cases z
    ·have := lJ L9 z; revert this; decide
  ·rw [if_neg e,List.drop_zero,Nat.zero_add,bV] at hm
   have := lJ L9 hm; revert this; decide
theorem AB4 {r w : List Nat} (h : Z9 (34 :: r) = some w) : 10 ∉ w := by
 unfold Z9 at h
 split at h
 ·rename_i hc
  injection h with h
  subst h
  rw [List.drop_one,List.tail_cons,Nat.add_comm,List.drop_succ_cons] at hc
  rw [List.drop_one,List.tail_cons,Nat.add_comm,List.take_succ_cons]
  generalize hk : (r.takeWhile T4).length = k at hc
  have e : r.take (k + 1) = r.takeWhile T4 ++ [34] := by
   rw [List.take_add,hc,← hk,bV]
  rw [e]
  intro hm
  rcases List.mem_cons.mp hm with z | z
  ·cases z
  ·rcases List.mem_append.mp z with z | z
   ·have := lJ T4 z; revert this; decide
   ·cases List.mem_singleton.mp z
 ·cases h
theorem xA {l w : List Nat} (h : N8 l = some w) : 10 ∉ w := by
 cases l with
 | nil=>cases h
 | cons c r =>
  simp only [N8] at h
  split at h
  ·injection h with h
   subst h
   rw [bV]
   intro hm
   have := lJ P7 hm; revert this; decide
  ·split at h
   ·exact AD2 h
   ·split at h
    ·rename_i e; subst e; exact AB4 h
    ·split at h
     ·injection h with h; subst h; decide
     ·split at h
      ·rename_i hc
       injection h with h
       subst h
       intro hm
       have e := List.mem_singleton.mp hm
       subst e
       revert hc; decide
      ·cases h
theorem fZ : ∀ (n : Nat) (l : List Nat) (ws : List (List Nat)),l.length ≤ n → G3 l = some ws → 10 ∉ l
 | _,[],_,_,_=>by simp
 | 0,c :: r,_,h,_=>by simp at h
 | n + 1,c :: r,ws,hl,h=>by
  have hl : r.length ≤ n := by simpa using hl
  rw [G3] at h
  split at h
  ·rename_i hc
   have := fZ n r ws hl h
   subst hc
   intro hm
   rcases List.mem_cons.mp hm with z | z
   ·cases z
   ·exact this z
  ·split at h
   ·cases h
   ·rename_i w hw
    obtain ⟨h1,h2,h3⟩ := iC hw
    cases hd : G3 (r.drop (w.length - 1)) with
    | none=>rw [hd] at h; cases h
    | some ws' =>
     have ih := fZ n _ ws' (by rw [List.length_drop]; omega) hd
     have e : c :: r = w ++ r.drop (w.length - 1) := by
      have e1 := List.take_append_drop w.length (c :: r)
      rw [← h3] at e1
      have e2 : (c :: r).drop w.length = r.drop (w.length - 1) := by
       obtain ⟨k,hk⟩ : ∃ k,w.length = k + 1 := ⟨w.length - 1,by omega⟩
       rw [hk,List.drop_succ_cons]; rfl
      rw [e2] at e1
      exact e1.symm
     rw [e]
     intro hm
     rcases List.mem_append.mp hm with z | z
     ·exact xA hw z
     ·exact ih z
def tG (u : Wd) : Prop := u ≠ [40] ∧ u ≠ [91] ∧ u ≠ [123] ∧ u ≠ [64] ∧ u ≠ [46,46] ∧ u ≠ [33] ∧ O6 u = false ∧ u.take 1 ≠ [34] ∧ u ∉ N9
instance (u : Wd) : Decidable (tG u) := by unfold tG; infer_instance
theorem tW {X : Bool → List Wd → P8 → Prop} {free : Bool} {r : List Wd} {res : P8} (h : tG (hd r)) : SglP X free r res ↔ res = none := by
 obtain ⟨h1,h2,h3,h4,h5,h6,h7,h8,h9⟩ := h
 unfold SglP
 rw [if_neg h1,if_neg h2,if_neg h3,if_neg (fun z=>h4 z.1),if_neg (fun z=>h5 z.1),if_neg (by rw [h7]; decide),if_neg h8,if_neg h9]
theorem jG {r : List Wd} (h : hd r ≠ [33]) : Q9 r = 0 := by
 unfold Q9
 cases r with
 | nil=>rfl
 | cons u r=>rw [List.takeWhile_cons_of_neg (by have h : u ≠ [33] := h; simpa using h)]; rfl
theorem kG {n : Nat} {free : Bool} {r : List Wd} (h : tG (hd r)) : Exn (n + 1) free r none := by
 refine ⟨none,⟨none,?_,rfl⟩,rfl⟩
 rw [jG h.2.2.2.2.2.1,List.drop_zero]
 exact (tW h).mpr rfl
theorem AF6 {n : Nat} {free : Bool} {r : List Wd} {p : Tn × List Wd} (h : Exn n free r (some p)) : ¬ tG (hd r) := fun o=>by
 cases n with
 | zero=>exact h.elim
 | succ n =>
  obtain ⟨nres,⟨s,a,b⟩,c⟩ := h
  rw [jG o.2.2.2.2.2.1,List.drop_zero] at a
  have e := (tW o).mp a
  subst e
  subst b
  cases c
theorem T9 {u v : Wd} {r : List Wd} (h : u ≠ v) : hd (u :: r) ≠ v := h
theorem Y6 {ns rest : List Wd} (h0 : ns ≠ []) (h : ∀ n ∈ ns,E9 n = true) (hr : hd rest ≠ [46]) : R0 (G1 ns ++ rest) (some (ns,rest)) := by
 obtain ⟨n,ns,rfl⟩ := List.exists_cons_of_ne_nil h0
 obtain ⟨k,hk⟩ := iU hr (ns := ns) (ns0 := [n]) fun x hx=>h x (by simp [hx])
 unfold R0
 exact M3 (show E9 n = true from h n (by simp)) ⟨k,hk⟩
theorem pJ {rest : List Wd} (hr : E9 (hd rest) = false) : ∀ {ns ns0 : List Wd},(∀ n ∈ ns,E9 n = true) → ∃ k,W8 k ns0 (tails [46] (ns.map ([·])) ++ ([46] :: rest)) none
 | [],ns0,_=>⟨1,.bad hr⟩
 | n :: ns,ns0,h=>by
  obtain ⟨k,hk⟩ := pJ hr (ns := ns) (ns0 := ns0 ++ [n]) fun x hx=>h x (by simp [hx])
  refine ⟨k + 1,?_⟩
  rw [List.map_cons,N2]
  have := W8.on (ns := ns0) (h n (by simp)) hk
  simpa using this
theorem sF {ns rest : List Wd} (h0 : ns ≠ []) (h : ∀ n ∈ ns,E9 n = true) (hr : E9 (hd rest) = false) : R0 (G1 ns ++ ([46] :: rest)) none := by
 obtain ⟨n,ns,rfl⟩ := List.exists_cons_of_ne_nil h0
 obtain ⟨k,hk⟩ := pJ hr (ns := ns) (ns0 := [n]) fun x hx=>h x (by simp [hx])
 unfold R0
 exact M3 (show E9 n = true from h n (by simp)) ⟨k,hk⟩
theorem V1 {r : List Wd} (h : E9 (hd r) = false) : R0 r none := by
 unfold R0
 exact J1 (by rw [h]; decide) rfl
def BF3 (ns : List Wd) (w : List Wd) (ws : List (List Wd)) : List Wd := G1 ns ++ ([58] :: (w ++ tails K6 ws))
theorem gZ {r : List Wd} : ES (K6 :: r) := ES.of (by decide)
section
variable {X : Bool → List Wd → P8 → Prop}
theorem sT {rest : List Wd} (hr : ES rest) (hk : hd rest ≠ K6) : ∀ {ts ts0 : List Tn} {ws : List (List Wd)},All2 (ExpAble X true) ts ws → ∃ k,bU X k ts0 (tails K6 ws ++ rest) (some (ts0 ++ ts,rest))
 | _,ts0,_,.nil=>⟨0,by rw [List.append_nil]; exact .stop hk⟩
 | _,ts0,_,@All2.cons _ _ _ t w ts ws a as=>by
  obtain ⟨k,hk'⟩ := sT hr hk (ts0 := ts0 ++ [t]) as
  refine ⟨k + 1,?_⟩
  rw [N2,List.cons_append,List.append_assoc]
  have hes : ES (tails K6 ws ++ rest) := by
   cases ws with
   | nil=>exact hr
   | cons x xs=>rw [N2]; exact gZ
  have := bU.on (ts := ts0) (a _ hes) hk'
  simpa using this
theorem AS0 {ns : List Wd} {t : Tn} {w : List Wd} {ts : List Tn} {ws : List (List Wd)} (h0 : ns ≠ []) (h : ∀ n ∈ ns,E9 n = true) (ha : ExpAble X true t w) (hs : All2 (ExpAble X true) ts ws) :
  W7 X (BF3 ns w ws) (some (.tup [.tup (ns.map Tn.str),.tup (t :: ts)])) := by
 refine ⟨some (ns,[58] :: (w ++ tails K6 ws)),Y6 h0 h (T9 (by decide)),?_⟩
 refine M3 rfl ⟨some (t,tails K6 ws),?_,?_⟩
 ·have hes : ES (tails K6 ws) := by
   cases ws with
   | nil=>exact ES.nil
   | cons x xs=>rw [N2]; exact gZ
  exact ha _ hes
 ·obtain ⟨k,hk⟩ := sT ES.nil (show hd [] ≠ K6 by decide) (ts0 := [t]) hs
  rw [List.append_nil] at hk
  exact ⟨k,_,hk,rfl⟩
theorem iP {r : List Wd} (h : R0 r none) : W7 X r none := ⟨none,h,rfl⟩
theorem xP {ns r : List Wd} (h0 : ns ≠ []) (h : ∀ n ∈ ns,E9 n = true) (h1 : hd r ≠ [46]) (h2 : hd r ≠ [58]) : W7 X (G1 ns ++ r) none := ⟨some (ns,r),Y6 h0 h h1,J1 h2 rfl⟩
theorem rV {ns r : List Wd} (h0 : ns ≠ []) (h : ∀ n ∈ ns,E9 n = true) (hx : X true r none) : W7 X (G1 ns ++ ([58] :: r)) none := ⟨some (ns,[58] :: r),Y6 h0 h (T9 (by decide)),M3 rfl ⟨none,hx,rfl⟩⟩
theorem rW {ns w r : List Wd} {t : Tn} (h0 : ns ≠ []) (h : ∀ n ∈ ns,E9 n = true) (ha : ExpAble X true t w) (hr : ES r) (h1 : hd r ≠ K6) (h2 : hd r ≠ []) : W7 X (G1 ns ++ ([58] :: (w ++ r))) none :=
 ⟨some (ns,[58] :: (w ++ r)),Y6 h0 h (T9 (by decide)),M3 rfl ⟨some (t,r),ha r hr,0,_,.stop h1,by show none = if hd r = [] then _ else none; rw [if_neg h2]⟩⟩
theorem rX {ns w r : List Wd} {t : Tn} (h0 : ns ≠ []) (h : ∀ n ∈ ns,E9 n = true) (ha : ExpAble X true t w) (hx : X true r none) : W7 X (G1 ns ++ ([58] :: (w ++ (K6 :: r)))) none :=
 ⟨some (ns,[58] :: (w ++ (K6 :: r))),Y6 h0 h (T9 (by decide)),M3 rfl ⟨some (t,K6 :: r),ha _ gZ,1,none,.bad hx,rfl⟩⟩
end
def aP (ws : List Wd) (res : Option Tn) : Prop := ∃ nres,R0 ws nres ∧ res = match nres with
 | none=>none
 | some (ns,r)=>if hd r = [] then some (.tup (ns.map Tn.str)) else none
theorem AM4 {ns : List Wd} (h0 : ns ≠ []) (h : ∀ n ∈ ns,E9 n = true) : aP (G1 ns) (some (.tup (ns.map Tn.str))) := by
 have := Y6 h0 h (rest := []) (by decide)
 rw [List.append_nil] at this
 exact ⟨_,this,rfl⟩
theorem fQ {r : List Wd} (h : R0 r none) : aP r none := ⟨none,h,rfl⟩
theorem X0 {ns r : List Wd} (h0 : ns ≠ []) (h : ∀ n ∈ ns,E9 n = true) (h1 : hd r ≠ [46]) (h2 : hd r ≠ []) : aP (G1 ns ++ r) none := ⟨some (ns,r),Y6 h0 h h1,by show none = if hd r = [] then _ else none; rw [if_neg h2]⟩
def eV : Wd := [122,122]
def eR (P T : List Wd) : List (List Wd) := [
 [40] :: (T ++ ([41] :: [58] :: T)),P ++ T,P ++ [[58]],P ++ ([58] :: (T ++ [K6])),
 P ++ ([58] :: K6 :: T),P ++ ([46] :: [58] :: T),[58] :: T,P ++ ([63] :: [58] :: T),
 P ++ ([58] :: (T ++ [eV])),P ++ ([58] :: [40] :: (T ++ (K6 :: (T ++ [[41]])))),
 [64] :: (P ++ ([58] :: T)),[46] :: (P ++ ([58] :: T)),P ++ ([58] :: (T ++ ([58] :: T))),
 P ++ ([58] :: (T ++ (K6 :: K6 :: T)))]
theorem BC5 {r : List Wd} : ES (eV :: r) := ⟨⟨by show eV ≠ _; decide,by show eV ≠ _; decide,by show O6 eV = false; decide⟩,by show eV ≠ _; decide,by show eV ≠ _; decide⟩
theorem AX1 {r : List Wd} : ES ([58] :: r) := ⟨⟨by show ([58] : Wd) ≠ _; decide,by show ([58] : Wd) ≠ _; decide,by show O6 [58] = false; decide⟩,by show ([58] : Wd) ≠ _; decide,by show ([58] : Wd) ≠ _; decide⟩
theorem AX8 {ns T : List Wd} {x : Tn} {n : Nat} (h0 : ns ≠ []) (h : ∀ n ∈ ns,E9 n = true) (ha : ExpAble (Exn (n + 1)) true x T) (hT : T ≠ []) : ∀ ws ∈ eR (G1 ns) T,W7 (Exn (n + 2)) ws none ∧ aP ws none ∧ ws ≠ [] := by
 have hX : ExpAble (Exn (n + 2)) true x T := ha.mono (Exn.succ (n + 1))
 have hh := AF6 (ha [] ES.nil)
 rw [List.append_nil] at hh
 have t1 : hd T ≠ [46] := fun z=>hh (by rw [z]; decide)
 have t2 : hd T ≠ [58] := fun z=>hh (by rw [z]; decide)
 have t3 : hd T ≠ [] := fun z=>hh (by rw [z]; decide)
 have pne : ∀ r : List Wd,G1 ns ++ r ≠ [] := fun r z=>by
  obtain ⟨m,ms,rfl⟩ := List.exists_cons_of_ne_nil h0
  cases z
 have par : Exn (n + 2) true ([40] :: (T ++ (K6 :: (T ++ [[41]])))) none := by
  refine ⟨none,⟨none,?_,rfl⟩,rfl⟩
  rw [jG (T9 (by decide)),List.drop_zero]
  unfold SglP
  exact M3 rfl ⟨_,ha _ gZ,rfl⟩
 intro ws hw
 simp only [eR,List.mem_cons,List.not_mem_nil,or_false] at hw
 rcases hw with rfl | rfl | rfl | rfl | rfl | rfl | rfl | rfl | rfl | rfl | rfl | rfl | rfl | rfl
 ·exact ⟨iP (V1 rfl),fQ (V1 rfl),by simp⟩
 ·exact ⟨xP h0 h t1 t2,X0 h0 h t1 t3,pne _⟩
 ·exact ⟨rV h0 h (kG (by decide)),X0 h0 h (T9 (by decide)) (T9 (by decide)),pne _⟩
 ·exact ⟨rX h0 h hX (kG (by decide)),X0 h0 h (T9 (by decide)) (T9 (by decide)),pne _⟩
 ·exact ⟨rV h0 h (kG (by show tG K6; decide)),X0 h0 h (T9 (by decide)) (T9 (by decide)),pne _⟩
 ·exact ⟨iP (sF h0 h rfl),fQ (sF h0 h rfl),pne _⟩
 ·exact ⟨iP (V1 rfl),fQ (V1 rfl),by simp⟩
 ·exact ⟨xP h0 h (T9 (by decide)) (T9 (by decide)),X0 h0 h (T9 (by decide)) (T9 (by decide)),pne _⟩
 ·exact ⟨rW h0 h hX BC5 (by show eV ≠ _; decide) (by show eV ≠ _; decide),X0 h0 h (T9 (by decide)) (T9 (by decide)),pne _⟩
 ·exact ⟨rV h0 h par,X0 h0 h (T9 (by decide)) (T9 (by decide)),pne _⟩
 ·exact ⟨iP (V1 rfl),fQ (V1 rfl),by simp⟩
 ·exact ⟨iP (V1 rfl),fQ (V1 rfl),by simp⟩
 ·exact ⟨rW h0 h hX AX1 (by show ([58] : Wd) ≠ _; decide) (by show ([58] : Wd) ≠ _; decide),X0 h0 h (T9 (by decide)) (T9 (by decide)),pne _⟩
 ·exact ⟨rX h0 h hX (kG (by show tG K6; decide)),X0 h0 h (T9 (by decide)) (T9 (by decide)),pne _⟩
end Law
namespace L2
open PySem PySem.Spec PyProof.Rows
def vL (H : Hp) (g h : Heap) (ex : Addr) (cls : Value) (hd : Bool) : Prop :=
 ∃ oe vs,h.get? ex = some oe ∧ oe.cls = cls ∧ oe.data = .fields vs ∧ oe.dict = none ∧ g.get? ex = none ∧ H ex = none ∧
  ((hd = false ∧ vs[1]? = some .none) ∨ ∃ T oT ts v,vs[1]? = some (.ref T) ∧ g.get? T = none ∧ T ≠ ex ∧ H T = none ∧ h.get? T = some oT ∧ oT.data = .fields ts ∧ ts[3]? = some v)
theorem ExL.g {H : Hp} {g h : Heap} {ex : Addr} {cls : Value} (x : ExL H g h ex cls) : vL H g h ex cls false := by
 obtain ⟨oe,vs,h1,h2,h3,hd,h4,h5,h6⟩ := x
 refine ⟨oe,vs,h1,h2,h3,hd,h4,h5,?_⟩
 rcases h6 with h6 | ⟨T,oT,ts,a,b,c,d,e,f,i⟩
 ·exact .inl ⟨rfl,h6⟩
 ·exact .inr ⟨T,oT,ts,.none,a,b,c,d,e,f,i⟩
structure KF (H : Hp) (g : Heap) (fs : List Addr) (h h' : Heap) : Prop where
 k1 : ∀ b o,h.get? b = some o → (g.get? b ≠ none ∨ H b ≠ none ∨ ∀ vs,o.data ≠ .fields vs) → b ∉ fs → h'.get? b = some o
 k2 : ∀ b o,h.get? b = some o → (g.get? b ≠ none ∨ H b ≠ none ∨ ∀ vs,o.data ≠ .fields vs) → ∃ sl,h'.get? b = some { o with slots := sl }
 k3 : ∀ b o,h.get? b = some o → ∃ o',h'.get? b = some o'
 sz : h.objs.size ≤ h'.objs.size
theorem KF.refl {H : Hp} {g : Heap} {fs : List Addr} {h : Heap} : KF H g fs h h := ⟨fun _ _ e _ _=>e,fun b o e _=>⟨o.slots,e⟩,fun _ o e=>⟨o,e⟩,Nat.le_refl _⟩
theorem KF.frames {H : Hp} {g : Heap} {fs : List Addr} {h h' base : Heap} {l : List Env} (k : KF H g fs h h') (hl : h.FunFrames base l) : h'.FunFrames base l := hl.of_keeps fun b o hb hnf=>by
 obtain ⟨sl,e⟩ := k.k2 b o hb (.inr (.inr hnf))
 exact ⟨_,e,rfl⟩
theorem pQ {h h' base : Heap} : ∀ {l : List Env},(∀ b ∈ Q1 l,∀ o,h.get? b = some o → h'.get? b = some o) → h.FunFrames base l → h'.FunFrames base l
 | [],_,_=>trivial
 | env :: rest,k,hl=>by
  obtain ⟨hk,⟨L,o,hf,hn,ho,hd⟩,hr⟩ := hl
  refine ⟨hk,⟨L,o,hf,hn,k L ?_ o ho,hd⟩,pQ (fun b hb=>k b ?_) hr⟩
  ·unfold Q1; rw [List.filterMap_cons,hf]; exact List.mem_cons_self
  ·unfold Q1; rw [List.filterMap_cons,hf]; exact List.mem_cons_of_mem _ hb
section
variable {M : Model} {A : Around} {E : Value → Shared → Prop} {s : Shared} {H : Hp} {g : Heap} {fs : List Addr} {ex : Addr} {cls : Value}
theorem sJ {h : Heap} {T : Addr} {oT : Obj} {ts : Array Value} {i : Nat} {x : Value} (hT : h.get? T = some oT) (hd : oT.data = .fields ts) (hg : g.get? T = none) (hH : H T = none) : KF H g fs h (h.update T (Obj.mapFields (·.setIfInBounds i x))) := by
 have ne : ∀ b o,h.get? b = some o → (g.get? b ≠ none ∨ H b ≠ none ∨ ∀ vs,o.data ≠ .fields vs) → b ≠ T := fun b o e c z=>by
  subst z
  rcases c with c | c | c
  ·exact c hg
  ·exact c hH
  ·rw [hT] at e; cases e; exact c ts hd
 have other : ∀ b,b ≠ T → (h.update T (Obj.mapFields (·.setIfInBounds i x))).get? b = h.get? b := fun b hb=>Heap.get?_update_other _ _ (Ne.symm hb)
 refine ⟨fun b o e c _=>(other b (ne b o e c)).trans e,fun b o e c=>⟨o.slots,(other b (ne b o e c)).trans e⟩,fun b o e=>?_,Nat.le_of_eq (Heap.size_after_update ..).symm⟩
 by_cases hb : b = T
 ·subst hb; exact ⟨_,Heap.get?_update_self _ hT (Obj.isFreed_of_fields (Obj.data_mapFields hd _))⟩
 ·exact ⟨o,(other b hb).trans e⟩
theorem uY {fr : Option Addr} {Q : Unit → Shared → Prop} (hx : vL H g s.heap ex cls true)
  (h : ∀ h',KF H g fs s.heap h' → vL H g h' ex cls true → (fr = none → ExL H g h' ex cls) → Q () { s with heap := h' }) : wpAny M A (setFlight (.ref ex) fr) Q E s := by
 obtain ⟨oe,vs,he,hc,hd,hdi,hne,hHe,hh⟩ := hx
 rcases hh with ⟨z,_⟩ | ⟨T,oT,ts,v,h1,hnT,hTe,hHT,hT,hdT,h3⟩
 ·cases z
 unfold setFlight
 refine wpAny_bind (wpAny_field he hd h1 ?_)
 rw [if_pos (show (Value.ref T != Value.none) = true from by simp)]
 have hsz := (Array.getElem?_eq_some_iff.mp h3).1
 refine wpAny_setField hT hdT hsz ?_
 generalize hv : (fr.elim Value.none fun f=>rawInt f) = v'
 have he' : (s.heap.update T (Obj.mapFields (·.setIfInBounds 3 v'))).get? ex = some oe := (Heap.get?_update_other _ _ hTe).trans he
 have hT' := Heap.get?_update_self (Obj.mapFields (·.setIfInBounds 3 v')) hT (Obj.isFreed_of_fields (Obj.data_mapFields hdT _))
 have h3' : (ts.setIfInBounds 3 v')[3]? = some v' := by simp [hsz]
 refine h _ (sJ hT hdT hnT hHT) ⟨oe,vs,he',hc,hd,hdi,hne,hHe,.inr ⟨T,_,_,v',h1,hnT,hTe,hHT,hT',Obj.data_mapFields hdT _,h3'⟩⟩ fun e=>?_
 subst e
 have e : v' = .none := hv.symm
 subst e
 exact ⟨oe,vs,he',hc,hd,hdi,hne,hHe,.inr ⟨T,_,_,h1,hnT,hTe,hHT,hT',Obj.data_mapFields hdT _,h3'⟩⟩
theorem pG {base : Heap} {env env' : Env} {outer : List Env} {L e : Addr} {oe : Obj} {vs : Array Value} {head : Value} {hadNext : Bool} {Q : Unit → Shared → Prop}
  (hfr : A.frames = some (env :: outer)) (hl : s.heap.FunFrames base (env :: outer)) (hf : env.frame = some L) (hf' : env'.frame = some L) (he : s.heap.get? e = some oe) (hd : oe.data = .fields vs) (hsz : 1 < vs.size)
  (h : ∀ h' T,s.heap.objs.size ≤ T → s.heap.objs.size ≤ h'.objs.size → (∀ b o,s.heap.get? b = some o → b ≠ e → b ∉ Q1 (env :: outer) → h'.get? b = some o) →
   (∀ b o,s.heap.get? b = some o → b ≠ e → ∃ sl,h'.get? b = some { o with slots := sl }) →
   (∃ oe' vs',h'.get? e = some oe' ∧ oe'.cls = oe.cls ∧ oe'.data = .fields vs' ∧ oe'.dict = oe.dict ∧ vs'[1]? = some (.ref T)) →
   (∃ oT ts v,h'.get? T = some oT ∧ oT.data = .fields ts ∧ ts[3]? = some v) → Q () { s with heap := h' }) :
  wpAny M A (do let a ← PySem.frameOf env'; let pl ← entryPlaceOf L hadNext; let b ← EntryCells.newEntry head a .none (rawInt L) .none pl; setField (.ref e) 1 b) Q E s := by
 have efr : PySem.frameOf env' = PySem.frameOf env := by unfold PySem.frameOf; rw [hf',hf]
 rw [efr]
 have hene : e ∉ Q1 (env :: outer) := fun hm=>by
  obtain ⟨_,o,ho,hnf⟩ := hl.mem hm
  rw [he] at ho; injection ho with ho; subst ho; exact hnf vs hd
 refine wpAny_bind (wpAny_frameOf_fun hfr hl hf fun h₁ hs₁=>?_)
 refine wpAny_bind (wpAny_entryPlaceOf fun pl hpl=>?_)
 unfold EntryCells.newEntry newFields
 refine wpAny_bind (wpAny_newObj_type ?_ (hpl.sizeOk5 _ _ _ _ _))
 generalize hob : ({ cls := .type "traceback",dict := none,data := .fields ([head,.ref L,.none,rawInt L,.none] ++ (if pl.isEmpty then List.replicate 6 Value.none else pl)).toArray } : Obj) = ob
 have hobd : ob.data = .fields ([head,.ref L,.none,rawInt L,.none] ++ (if pl.isEmpty then List.replicate 6 Value.none else pl)).toArray := by rw [← hob]
 have hobf : ob.isFreed = false := by rw [← hob]; rfl
 have he₁ : h₁.get? e = some oe := (hs₁.2.1 e hene).trans he
 have he₂ : (h₁.push ob).get? e = some oe := Heap.get?_push_of_some _ he₁
 refine wpAny_setField he₂ hd hsz ?_
 have hTe : h₁.objs.size ≠ e := Nat.ne_of_gt (Heap.lt_size he₁)
 have hd₃ := Obj.data_mapFields hd (·.setIfInBounds 1 (Value.ref h₁.objs.size))
 have he₃ := Heap.get?_update_self (Obj.mapFields (·.setIfInBounds 1 (Value.ref h₁.objs.size))) he₂ (Obj.isFreed_of_fields hd₃)
 have hT₃ := (Heap.get?_update_other (h₁.push ob) (Obj.mapFields (·.setIfInBounds 1 (Value.ref h₁.objs.size))) (Ne.symm hTe)).trans (Heap.get?_push_size h₁ hobf)
 have hsz1 : s.heap.objs.size = h₁.objs.size := hs₁.1.symm
 refine h _ h₁.objs.size (Nat.le_of_eq hsz1) ?_ ?_ ?_ ⟨_,_,he₃,Obj.cls_mapFields _ _,hd₃,fX _ _,by simp [hsz]⟩ ⟨_,_,rawInt L,hT₃,hobd,by simp⟩
 ·rw [Heap.size_after_update,Heap.size_push,hsz1]; exact Nat.le_succ _
 ·intro b o hb hbe hbf
  have hb₁ := (hs₁.2.1 b hbf).trans hb
  rw [Heap.get?_update_other _ _ (Ne.symm hbe)]
  exact Heap.get?_push_of_some _ hb₁
 ·intro b o hb hbe
  obtain ⟨sl,hb₁⟩ := hs₁.2.2 b o hb
  refine ⟨sl,?_⟩
  rw [Heap.get?_update_other _ _ (Ne.symm hbe)]
  exact Heap.get?_push_of_some _ hb₁
theorem AI5 {base : Heap} {env env' : Env} {outer : List Env} {L : Addr} {hd0 : Bool} {Q : Unit → Shared → Prop}
  (hfr : A.frames = some (env :: outer)) (hl : s.heap.FunFrames base (env :: outer)) (hf : env.frame = some L) (hf' : env'.frame = some L) (hx : vL H g s.heap ex cls hd0) (fresh : ∀ b,s.heap.objs.size ≤ b → g.get? b = none ∧ H b = none)
  (h : ∀ h',KF H g (Q1 (env :: outer)) s.heap h' → vL H g h' ex cls true → Q () { s with heap := h' }) : wpAny M A (noteFrame (.ref ex) env') Q E s := by
 obtain ⟨oe,vs,he,hc,hd,hdi,hne,hHe,hh⟩ := hx
 unfold noteFrame
 simp only [hf']
 have cond : ∀ {h : Heap} {b : Addr} {o : Obj} {e : Addr} {oe : Obj} {vs : Array Value},h.get? b = some o → (g.get? b ≠ none ∨ H b ≠ none ∨ ∀ vs,o.data ≠ .fields vs) → h.get? e = some oe → oe.data = .fields vs → g.get? e = none → H e = none → b ≠ e := fun {h b o e oe vs} hb c he hd hg hH z=>by
  subst z
  rcases c with c | c | c
  ·exact c hg
  ·exact c hH
  ·rw [hb] at he; cases he; exact c vs hd
 rcases hh with ⟨_,h1⟩ | ⟨T,oT,ts,v,h1,hnT,hTe,hHT,hT,hdT,h3⟩
 ·refine wpAny_bind (wpAny_field he hd h1 ?_)
  rw [if_neg (by decide)]
  refine pG hfr hl hf hf' he hd (Array.getElem?_eq_some_iff.mp h1).1 fun h' T hT hsz k1 k2 ⟨oe',vs',a1,a2,a3,a5,a4⟩ ⟨oT,ts,v,c1,c2,c3⟩=>?_
  refine h h' ⟨fun b o hb c hf=>k1 b o hb (cond hb c he hd hne hHe) hf,fun b o hb c=>k2 b o hb (cond hb c he hd hne hHe),fun b o hb=>?_,hsz⟩ ⟨oe',vs',a1,a2.trans hc,a3,a5.trans hdi,hne,hHe,.inr ⟨T,oT,ts,v,a4,(fresh T hT).1,?_,(fresh T hT).2,c1,c2,c3⟩⟩
  ·by_cases hbe : b = ex
   ·subst hbe; exact ⟨_,a1⟩
   ·obtain ⟨sl,q⟩ := k2 b o hb hbe; exact ⟨_,q⟩
  ·exact Nat.ne_of_gt (Nat.lt_of_lt_of_le (Heap.lt_size he) hT)
 ·refine wpAny_bind (wpAny_field he hd h1 ?_)
  rw [if_pos (show (Value.ref T != Value.none) = true from by simp)]
  refine wpAny_bind (wpAny_field hT hdT h3 ?_)
  by_cases hv : (v == rawInt L) = true
  ·rw [if_pos hv]
   exact wpAny_pure (h s.heap KF.refl ⟨oe,vs,he,hc,hd,hdi,hne,hHe,.inr ⟨T,oT,ts,v,h1,hnT,hTe,hHT,hT,hdT,h3⟩⟩)
  ·rw [if_neg hv]
   have hszT := (Array.getElem?_eq_some_iff.mp h3).1
   refine wpAny_bind (wpAny_setField hT hdT hszT ?_)
   have kf : KF H g (Q1 (env :: outer)) s.heap (s.heap.update T (Obj.mapFields (·.setIfInBounds 3 Value.none))) := sJ hT hdT hnT hHT
   have he2 : (s.heap.update T (Obj.mapFields (·.setIfInBounds 3 Value.none))).get? ex = some oe := (Heap.get?_update_other _ _ hTe).trans he
   refine pG hfr (kf.frames hl) hf hf' he2 hd (Array.getElem?_eq_some_iff.mp h1).1 fun h' T' hT' hsz k1 k2 ⟨oe',vs',a1,a2,a3,a5,a4⟩ ⟨oT',ts',v',c1,c2,c3⟩=>?_
   have hT'' : s.heap.objs.size ≤ T' := Nat.le_trans kf.sz hT'
   have ne : ∀ b o,s.heap.get? b = some o → (g.get? b ≠ none ∨ H b ≠ none ∨ ∀ vs,o.data ≠ .fields vs) → b ≠ ex := fun b o hb c=>cond hb c he hd hne hHe
   refine h h' ⟨fun b o hb c hf=>k1 b o (by rw [Heap.get?_update_other _ _ (Ne.symm (cond hb c hT hdT hnT hHT))]; exact hb) (ne b o hb c) hf,fun b o hb c=>k2 b o (by rw [Heap.get?_update_other _ _ (Ne.symm (cond hb c hT hdT hnT hHT))]; exact hb) (ne b o hb c),fun b o hb=>?_,Nat.le_trans kf.sz hsz⟩
    ⟨oe',vs',a1,a2.trans hc,a3,a5.trans hdi,hne,hHe,.inr ⟨T',oT',ts',v',a4,(fresh T' hT'').1,?_,(fresh T' hT'').2,c1,c2,c3⟩⟩
   ·obtain ⟨o2,e2⟩ := kf.k3 b o hb
    by_cases hbe : b = ex
    ·subst hbe; exact ⟨_,a1⟩
    ·obtain ⟨sl,q⟩ := k2 b o2 e2 hbe; exact ⟨_,q⟩
   ·exact Nat.ne_of_gt (Nat.lt_of_lt_of_le (Heap.lt_size he) hT'')
end
end L2
namespace L2
open PySem PySem.Spec PyProof.Rows
theorem yU {X : Cx} {xe : Value → Shared → Prop} {pins : List (Addr × Obj)} {σ : St} {H : Hp} {s : Shared} (I : Inv X pins σ H s) : Inv { X with xe := xe } pins σ H s := by
 obtain ⟨⟨a1,a2,a3,a4,a5,a6,a7,a8,a9,a10,a11,a12,a13,a14,a15,a16,a17,a18⟩,b1,b2,b3,b4,b5,b6,b7,b8,b9,b10⟩ := I
 exact ⟨⟨a1,a2,a3,a4,a5,a6,a7,a8,a9,a10,a11,a12,a13,a14,a15,a16,a17,a18⟩,b1,b2,b3,b4,b5,b6,b7,b8,b9,b10⟩
theorem AG3 {X : Cx} {E : XK} {pins : List (Addr × Obj)} {σ : St} {H : Hp} {s : Shared} {ex C : Addr} {cls acc : Value} {use : Option (Value → Sem Unit)} {Q : Value → Shared → Prop} {cenv : Env}
  (J : Inv X pins σ H s) (hst : X.stack = X.env :: X.outer) (hex : X.ex = []) (hf : X.env.frame = some X.env.locals)
  (hxe : X.xe = fun e s'=>wpAny (model X.prog X.w) X.A (leaving X.env e) (fun _ s''=>N0 X.prog X.w X.outer X.H₀ X.s₀ E e s'') (fun e' s''=>N0 X.prog X.w X.outer X.H₀ X.s₀ E e' s'') s')
  (hx : ExL H X.s₀.heap s.heap ex cls) (q : E cls none H) (hn : ∃ m,s.heap.Ns C m) (hC : H C = none) (hC0 : X.s₀.heap.get? C = none) (hCf : C ∉ Q1 X.stack) (hcf : cenv.frame = X.env.frame) :
  notedBy (model X.prog X.w) X.A cenv (fun e s'=>compPost (model X.prog X.w) X.A X.xe use Q acc C (.error e) s') (.ref ex) s := by
 have hfr : X.A.frames = some (X.env :: X.outer) := by rw [← hst]; exact J.ok.frames
 have hl : s.heap.FunFrames X.base (X.env :: X.outer) := by rw [← hst]; exact J.stack
 have fresh : ∀ b,s.heap.objs.size ≤ b → X.s₀.heap.get? b = none ∧ H b = none := fun b z=>⟨Heap.get?_none_of_le (Nat.le_trans J.sz z),J.hok.fresh z⟩
 unfold notedBy
 refine AI5 hfr hl hf (hcf.trans hf) hx.g fresh fun h1 k1 x1=>?_
 obtain ⟨m,o,es,ep,ho,hd,hrest⟩ := hn
 have dC : ∀ vs,o.data ≠ .fields vs := fun vs z=>by rw [hd] at z; cases z
 have ho1 : h1.get? C = some o := k1.k1 C o ho (.inr (.inr dC)) (by rw [← hst]; exact hCf)
 suffices z : ∃ m,h1.Ns C m ∧ ∀ h',Heap.SameBut C h1 h' → ∀ cenv : Env,cenv.locals = C → wpAny (model X.prog X.w) X.A (PySem.passOn "comprehension.variables-let-go" (.ref ex) cenv : Sem Value) (fun _ _=>False) X.xe { s with heap := h' } by
  cases use <;> exact z
 refine ⟨m,⟨o,es,ep,ho1,hd,hrest⟩,fun h2 sb cenv' hc'=>?_⟩
 have neC : ∀ b o',h1.get? b = some o' → (∃ vs,o'.data = .fields vs) → b ≠ C := fun b o' e ⟨vs,d⟩ z=>by
  subst z; rw [ho1] at e; cases e; exact dC vs d
 have x2 : vL H X.s₀.heap h2 ex cls true := by
  obtain ⟨oe,vs,he,hc,hdd,hdi,hne,hHe,hh⟩ := x1
  refine ⟨oe,vs,sb.extBut _ _ (neC _ _ he ⟨_,hdd⟩) he,hc,hdd,hdi,hne,hHe,?_⟩
  rcases hh with ⟨z,_⟩ | ⟨T,oT,ts,v,a1,a2,a3,a4,hT,hdT,h3⟩
  ·cases z
  ·exact .inr ⟨T,oT,ts,v,a1,a2,a3,a4,sb.extBut _ _ (neC _ _ hT ⟨_,hdT⟩) hT,hdT,h3⟩
 have hl2 : h2.FunFrames X.base (X.env :: X.outer) := pQ (fun b hb o' e=>sb.extBut b o' (fun z=>hCf (by rw [hst,← z]; exact hb)) e) (k1.frames hl)
 have sz2 : s.heap.objs.size ≤ h2.objs.size := by rw [sb.1]; exact k1.sz
 unfold PySem.passOn
 have fld : ∀ {Q' : Value → Shared → Prop},(∀ T,Q' (.ref T) { s with heap := h2 }) → wpAny (model X.prog X.w) X.A (field (.ref ex) 1) Q' X.xe { s with heap := h2 } := fun {Q'} k=>by
  obtain ⟨oe,vs,he,hc,hdd,hdi,hne,hHe,hh⟩ := x2
  rcases hh with ⟨z,_⟩ | ⟨T,oT,ts,v,a1,_⟩
  ·cases z
  ·exact wpAny_field he hdd a1 (k T)
 refine wpAny_bind (fld fun T=>?_)
 rw [if_neg (show ¬ ((Value.ref T == Value.none) = true) from by simp)]
 refine wpAny_bind (uY (fs := []) (s := { s with heap := h2 }) x2 fun h3 k3 x3 _=>wpAny_throw ?_)
 rw [hxe]
 show wpAny _ _ (leaving X.env (.ref ex)) _ _ _
 unfold leaving
 have k3f : KF H X.s₀.heap [] h2 h3 := k3
 have sz3 : s.heap.objs.size ≤ h3.objs.size := Nat.le_trans sz2 k3f.sz
 refine wpAny_bind (AI5 (s := { s with heap := h3 }) hfr (k3f.frames hl2) hf hf x3 (fun b z=>fresh b (Nat.le_trans sz3 z)) fun h4 k4 x4=>?_)
 refine uY (fs := []) (s := { s with heap := h4 }) (fr := none) x4 fun h5 k5 x5 xl=>?_
 have k4f : KF H X.s₀.heap (Q1 (X.env :: X.outer)) h3 h4 := k4
 have k5f : KF H X.s₀.heap [] h4 h5 := k5
 have gh : ∀ b o',(X.s₀.heap.get? b ≠ none ∨ H b ≠ none) → s.heap.get? b = some o' → b ≠ C := fun b o' c e z=>by
  subst z
  rcases c with c | c
  ·exact c hC0
  ·exact c hC
 have up : ∀ {b : Addr} {o' : Obj},(X.s₀.heap.get? b ≠ none ∨ H b ≠ none) → (X.s₀.heap.get? b ≠ none ∨ H b ≠ none ∨ ∀ vs,o'.data ≠ .fields vs) := fun {b o'} c=>by
  rcases c with c | c
  ·exact .inl c
  ·exact .inr (.inl c)
 have f1 : ∀ b o',s.heap.get? b = some o' → (X.s₀.heap.get? b ≠ none ∨ H b ≠ none) → b ∉ Q1 X.stack → h5.get? b = some o' := fun b o' e c hb=>by
  have hb' : b ∉ Q1 (X.env :: X.outer) := by rw [← hst]; exact hb
  have e1 := k1.k1 b o' e (up c) hb'
  have e2 := sb.extBut b o' (gh b o' c e) e1
  have e3 := k3f.k1 b o' e2 (up c) (by simp)
  have e4 := k4f.k1 b o' e3 (up c) hb'
  exact k5f.k1 b o' e4 (up c) (by simp)
 have f2 : ∀ b o',s.heap.get? b = some o' → (X.s₀.heap.get? b ≠ none ∨ H b ≠ none) → ∃ sl,h5.get? b = some { o' with slots := sl } := fun b o' e c=>by
  obtain ⟨l1,e1⟩ := k1.k2 b o' e (up c)
  have e2 := sb.extBut b _ (gh b o' c e) e1
  obtain ⟨l3,e3⟩ := k3f.k2 b _ e2 (up c)
  obtain ⟨l4,e4⟩ := k4f.k2 b _ e3 (up c)
  obtain ⟨l5,e5⟩ := k5f.k2 b _ e4 (up c)
  exact ⟨l5,e5⟩
 have own : ∀ b a,H b = some (.own a) → H b ≠ none := fun b a e z=>by rw [z] at e; cases e
 have hB := J.base
 rw [hex] at hB
 have stk : ∀ b,b < X.s₀.heap.objs.size → b ∉ X.fs → b ∉ Q1 X.stack := fun b hb hn hz=>by
  rcases List.mem_cons.mp (J.stkSub b hz) with e | e
  ·exact absurd (Nat.lt_of_lt_of_le hb J.ok.above) (by rw [e]; exact Nat.lt_irrefl _)
  ·exact hn e
 have oU : ∀ b,H b ≠ none → b ∉ Q1 X.stack := fun b hb hz=>hb (J.stkFree b hz)
 refine ⟨ex,cls,H,rfl,J.os,J.bare,⟨fun b o' e n hb hx=>?_,fun b o' e n hb hx=>?_,hB.free,fun b o' e hx=>?_,hB.tups,hB.frzs,hB.tbls⟩,fun b o' e=>(J.hok b o' e).stay (fun c u hc r=>?_) (fun _ q=>q) fun _ _ q=>q,xl rfl,q⟩
 ·exact f1 b o' (hB.keep b o' e n hb hx) (.inl (by rw [e]; exact fun z=>nomatch z)) (stk b (Heap.lt_size e) hb)
 ·obtain ⟨sl,e1⟩ := hB.slot b o' e n hb hx
  obtain ⟨sl',e2⟩ := f2 b _ e1 (.inl (by rw [e]; exact fun z=>nomatch z))
  exact ⟨sl',e2⟩
 ·obtain ⟨o2,e1⟩ := hB.there b o' e hx
  obtain ⟨sl',e2⟩ := f2 b o2 e1 (.inl (by rw [e]; exact fun z=>nomatch z))
  exact ⟨_,e2⟩
 ·have hc' : H c ≠ none := by
   rcases hc with rfl | hc
   ·intro z; rw [z] at e; cases e
   ·exact own c b hc
  exact f1 c u r (.inr hc') (oU c hc')
def U7 (X : Cx) (E : XK) (scope : Scope) (N' : List Str) (C : Addr) (fp : List Addr) (s : Shared) (H : Hp) : Cx :=
  { Q7 X scope N' C fp s H with
    xe := fun e s' => ((∀ b ∈ fp, X.s₀.heap.objs.size ≤ b) ∧ ∀ b o, X.s₀.heap.get? b = some o → ∃ o', s.heap.get? b = some o') →
      ∃ ex cls H' pins σ, e = .ref ex ∧ Inv (Q7 X scope N' C fp s H) pins σ H' s' ∧ ExL H' X.s₀.heap s'.heap ex cls ∧ E cls none H' }
theorem uI {X : Cx} {E : XK} {scope : Scope} {N' : List Str} {C : Addr} {fp : List Addr} {s : Shared} {H : Hp} : T1 (N0 X.prog X.w) (U7 X E scope N' C fp s H) E := by
 intro pins σ H2 s2 e s' I h hyp
 obtain ⟨ex,cls,H',rfl,os,bare,un,hok,hx,q⟩ := h
 have J := I.call' (s' := s') (ch := []) os un hok bare (fun b z=>absurd z (by simp))
 refine ⟨ex,cls,H',pins,σ,rfl,yU (xe := fun _ _=>False) J,hx.mono fun b e=>?_,q⟩
 cases z : X.s₀.heap.get? b with
 | none=>rfl
 | some o =>
  obtain ⟨o',e1⟩ := hyp.2 b o z
  obtain ⟨o2,e2⟩ := I.base.there b o' e1 fun z2=>absurd (Nat.lt_of_lt_of_le (Heap.lt_size z) (hyp.1 b z2)) (Nat.lt_irrefl _)
  rw [e] at e2; cases e2
end L2
namespace L2
open PySem PySem.Spec PyProof.Rows
theorem qC {prog : Program} {w : World} {A : Around} {R : Result → Shared → Prop} {s : Shared} {elt target iter : Expr} {ifs : List Expr} {scope : Scope} {pos : Pos} {it acc : Value} {env : Env} (I : Nat → Shared → Prop)
  (turn : ∀ n s,I n s → wpAny (model prog w) A (pyNext it) (fun r s₁=>match r with
   | none=>R (.ok .next) s₁
   | some v=>wpAny (model prog w) A (letOwnedTupleGo target it v) (fun _ s₁'=>wpAny (model prog w) A (assign target env v) (fun _ s₂ =>
     wpAny (model prog w) A (forIn ifs true fun c r=>if r = true then do let ok ← isTrue c env (eval c env); pure (ForInStep.yield ok) else pure (ForInStep.yield r)) (fun ok s₃ =>
      if ok = true then wpAny (model prog w) A (eval elt env) (fun x s₄ =>
       wpAny (model prog w) A (call (.builtin "list.append") [acc,x]) (fun _ s₅=>∃ m,m < n ∧ I m s₅) (notedBy (model prog w) A env fun e s'=>R (.error e) s') s₄) (notedBy (model prog w) A env fun e s'=>R (.error e) s') s₃
      else ∃ m,m < n ∧ I m s₃) (notedBy (model prog w) A env fun e s'=>R (.error e) s') s₂) (notedBy (model prog w) A env fun e s'=>R (.error e) s') s₁') (notedBy (model prog w) A env fun e s'=>R (.error e) s') s₁) (notedBy (model prog w) A env fun e s'=>R (.error e) s') s)
  (n : Nat) (h : I n s) : codeAny (model prog w) A (.compLoop (.ListComp elt [⟨target,iter,ifs,0⟩] scope pos) 0 it acc env) R s := by
 refine codeAny_loop rfl I (fun n s hI=>?_) n h
 show wpAny _ A ((compTurn (.ListComp elt [⟨target,iter,ifs,0⟩] scope pos) 0 it acc env).onRaise (fun x=>do noteFrame x env; theTreesLotGoes x)) _ _ s
 refine wpAny_noted ?_
 rw [compTurn_list]
 refine wpAny_bind (wpAny_standAt (wpAny_bind (wpAny_mono (turn n s hI) (fun r s₁ h₁=>?_) fun _ _ h'=>h')))
 cases r with
 | none=>exact wpAny_pure h₁
 | some v =>
  refine wpAny_bind (wpAny_mono h₁ (fun _ s₁' h₁'=>?_) fun _ _ h'=>h')
  refine wpAny_bind (wpAny_mono h₁' (fun _ s₂ h₂=>wpAny_bind (wpAny_mono h₂ (fun ok s₃ h₃=>?_) fun _ _ h'=>h')) fun _ _ h'=>h')
  cases ok with
  | false=>exact wpAny_pure ⟨rfl,h₃⟩
  | true =>
   exact wpAny_bind (wpAny_bind (wpAny_mono h₃ (fun x s₄ h₄=>wpAny_bind (wpAny_mono h₄ (fun _ s₅ h₅=>wpAny_pure (wpAny_pure ⟨rfl,h₅⟩)) fun _ _ h'=>h')) fun _ _ h'=>h'))
section
variable {X : Cx} {scope : Scope} {N' : List Str} {fr : List (Option Nat)} {own : List Nat} {elt tg iter : Expr} {ifs : List Expr} {wi : TI} {g : TG} {ti : TT} {te : TE} {pos : Pos}
theorem tT {EE : XK} {pins : List (Addr × Obj)} {σ : St} {H2 : Hp} {s2 : Shared} {it : Addr} {fp : List Addr} {tn : Nat → Heap → Prop} {J : It} {Q : VK} {RR : Value → Addr → Result → Shared → Prop} {E : Value → Shared → Prop} (c : CompOk X scope N' fr own) (hc : X.calm = true) (hex : X.ex = [])
  (hg : ∀ C fp s H,PG (U7 X EE scope N' C fp s H) tg g) (ho : oO own g) (ht : ∀ C fp s H,tF (U7 X EE scope N' C fp s H) ifs ti) (he : ∀ C fp s H,PE (U7 X EE scope N' C fp s H) elt te)
  (I2 : Inv X pins σ H2 s2) (T : hW X.prog X.w X.K tg J fp it tn) (st2 : tn 0 s2.heap) (f2 : ∀ b ∈ fp,Z2 X pins H2 b)
  (R : ∀ l,H2 l = none → ∃ W : Nat → Nat → List V → Hp → Prop,(∃ m,W 0 m [] (D5 H2 l (.lst []))) ∧ ∀ i m ys H',W i m ys H' →
   (J.stop i H' ∧ Q (.ref l) H') ∨ (J.go i H' ∧ ∃ N : List V → Hp → Prop,(∀ zs H'',N zs H'' → ∃ m',m' < m ∧ W (i + 1) m' zs H'') ∧ ∀ x H2,J.yld i H' x H2 → g x (X3 fr σ) H2 fun σ3 H3=>ti σ3 H3 fun b H4=>if b = true then
    te σ3 H4 fun y H5=>H5 l = some (.lst ys) ∧ ys.length < sizeLine ∧ N (ys ++ [y]) (D5 H5 l (.lst (ys ++ [y]))) else N ys H4))
  (bad : ∀ l C s' H' ex cls,Inv X pins σ H' s' → (∃ m,s'.heap.Ns C m) → H' C = none → s2.heap.objs.size ≤ C → ExL H' X.s₀.heap s'.heap ex cls → EE cls none H' →
   notedBy (model X.prog X.w) X.A (compEnvC scope (M4 X.env.cells scope.names []) C X.env) (fun e s''=>RR (.ref l) C (.error e) s'') (.ref ex) s')
  (fin : ∀ l C s' H',Inv X pins σ H' s' → (∃ m,s'.heap.Ns C m) → H' C = none → s2.heap.objs.size ≤ C → Q (.ref l) H' → RR (.ref l) C (.ok .next) s') :
  wpAny (model X.prog X.w) X.A (newList []) (fun acc s₃=>wpAny (model X.prog X.w) X.A (newFunctionEnv scope X.env.globals (M4 X.env.cells scope.names []) [] X.env.qual none .none (some X.env)) (fun cenv s₄ =>
   codeAny (model X.prog X.w) X.A (.compStart (.ListComp elt [⟨tg,iter,ifs,0⟩] scope pos) 0 (.ref it) acc { cenv with scope := relabel scope X.env }) (RR acc cenv.locals) s₄) E s₃) E s2 := by
 refine wpAny_newObj_type (wpAny_newFunctionEnv c.hcell (by intro y hy; simp at hy) (fun h₁ hns₁ hsb₁=>?_) c.kind)
 dsimp only at hns₁ hsb₁ ⊢
 have I3 : Inv X pins σ (D5 H2 s2.heap.objs.size (.lst [])) { s2 with heap := s2.heap.push { cls := .type "list",data := .seq ([] : List Value).toArray } } := I2.lnew (its := []) (t' := s2.toks) .nil (Nat.zero_le _)
 have hl := I2.fresh
 obtain ⟨W,⟨m0,w0⟩,turn⟩ := R _ hl
 generalize hs3 : ({ s2 with heap := s2.heap.push { cls := .type "list",data := .seq ([] : List Value).toArray } } : Shared) = s3 at I3
 have hh3 : s2.heap.push { cls := .type "list",dict := none,data := .seq ([] : List Value).toArray } = s3.heap := by rw [← hs3]
 have hz3 : s3.heap.objs.size = s2.heap.objs.size + 1 := by rw [← hs3]; exact Heap.size_push ..
 have up23 : ∀ b o,s2.heap.get? b = some o → s3.heap.get? b = some o := fun b o e=>by rw [← hh3]; exact Heap.get?_push_of_some _ e
 have objs : ∀ b ∈ fp,∃ o,s2.heap.get? b = some o ∧ ∀ v,o.data ≠ .cell v := T.obj _ _ st2
 have lt2 : ∀ b ∈ fp,b < s2.heap.objs.size := fun b hb=>by obtain ⟨o,e,_⟩ := objs b hb; exact Heap.lt_size e
 have f3 : ∀ b ∈ fp,Z2 X pins (D5 H2 s2.heap.objs.size (.lst [])) b := fun b hb=>⟨by rw [B5 (Nat.ne_of_lt (lt2 b hb))]; exact (f2 b hb).1,(f2 b hb).2⟩
 have st3 : tn 0 s3.heap := T.keep _ _ _ st2 fun b _ o e=>up23 b o e
 rw [hh3] at hns₁ hsb₁ ⊢
 have up34 : ∀ b o,s3.heap.get? b = some o → h₁.get? b = some o := fun b o e=>hsb₁.extBut b o (Nat.ne_of_lt (Heap.lt_size e)) (Heap.get?_push_of_some _ e)
 have I4 : Inv (U7 X EE scope N' s3.heap.objs.size fp s3 (D5 H2 s2.heap.objs.size (.lst []))) [] (X3 fr σ) (D5 H2 s2.heap.objs.size (.lst [])) { s3 with heap := h₁,toks := s2.toks + ([] : List (Str × Value)).length } :=
  yU <| mQ c hc I3 f3 (fun b hb=>by rw [hz3]; exact Nat.lt_succ_of_lt (lt2 b hb)) hns₁ up34
 generalize hXX : U7 X EE scope N' s3.heap.objs.size fp s3 (D5 H2 s2.heap.objs.size (.lst [])) = X' at I4
 have hg' := hg s3.heap.objs.size fp s3 (D5 H2 s2.heap.objs.size (.lst []))
 have ht' := ht s3.heap.objs.size fp s3 (D5 H2 s2.heap.objs.size (.lst []))
 have he' := he s3.heap.objs.size fp s3 (D5 H2 s2.heap.objs.size (.lst []))
 rw [hXX] at hg' ht' he'
 have eP : X'.prog = X.prog := by rw [← hXX]; rfl
 have eW : X'.w = X.w := by rw [← hXX]; rfl
 have eK : X'.K = X.K := by rw [← hXX]; rfl
 have eA : X'.A = X.A := by rw [← hXX]; rfl
 have eC : X'.calm = true := by rw [← hXX]; exact hc
 have eX : X'.xe = (U7 X EE scope N' s3.heap.objs.size fp s3 (D5 H2 s2.heap.objs.size (.lst []))).xe := by rw [← hXX]
 have eE : X'.env = compEnvC scope (M4 X.env.cells scope.names []) s3.heap.objs.size X.env := by rw [← hXX]; rfl
 have eN : X'.env.locals = s3.heap.objs.size := by rw [eE]; rfl
 have eF : X'.fs = Q1 X.stack := by rw [← hXX]; rfl
 have eEx : X'.ex = fp := by rw [← hXX]; rfl
 have ePn : X'.pn = [] := by rw [← hXX]; rfl
 have eS : X'.s₀ = s3 := by rw [← hXX]; rfl
 have eH : X'.H₀ = D5 H2 s2.heap.objs.size (.lst []) := by rw [← hXX]; rfl
 have fpIn : ∀ {H' : Hp},(∀ b ∈ fp,H' b = none) → ∀ b ∈ fp,Z2 X' [] H' b := fun {H'} hn b hb=>by
  refine ⟨hn b hb,by rw [eN,hz3]; exact Nat.ne_of_lt (Nat.lt_succ_of_lt (lt2 b hb)),fun z=>?_,.inl (by rw [eEx]; exact hb),fun x cc e=>?_,fun p hp=>by rw [ePn] at hp; simp at hp⟩
  ·rw [eF] at z
   rcases List.mem_cons.mp (I3.stkSub b z) with e | e
   ·exact (f3 b hb).2.1 e
   ·exact (f3 b hb).2.2.1 e
  ·rw [eE] at e
   exact (f3 b hb).2.2.2.2.1 x cc (Y2 _ _ (c.hfree I3) (by intro c' e'; simp at e') e)
 have loop : ∀ s₅ : Shared,s₅ = { s3 with heap := h₁,toks := s2.toks + ([] : List (Str × Value)).length } →
   codeAny (model X.prog X.w) X.A (.compLoop (.ListComp elt [⟨tg,iter,ifs,0⟩] scope pos) 0 (.ref it) (.ref s2.heap.objs.size) (compEnvC scope (M4 X.env.cells scope.names []) s3.heap.objs.size X.env)) (RR (.ref s2.heap.objs.size) s3.heap.objs.size) s₅ := by
  rintro s₅ rfl
  have exc : ∀ e s',X'.xe e s' → notedBy (model X.prog X.w) X.A (compEnvC scope (M4 X.env.cells scope.names []) s3.heap.objs.size X.env) (fun e s''=>RR (.ref s2.heap.objs.size) s3.heap.objs.size (.error e) s'') e s' := fun e s' h=>by
   rw [eX] at h
   obtain ⟨ex,cls,H7,pins7,σ7,e,I7,hx,q⟩ := h ⟨fun b hb=>by
    rcases (f3 b hb).2.2.2.1 with z | z
    ·rw [hex] at z; cases z
    ·exact z,fun b o e=>I3.base.there b o e (by rw [hex]; simp)⟩
   subst e
   have un : Un (Q1 X.stack) fp (D5 H2 s2.heap.objs.size (.lst [])) H7 s3.heap s'.heap := I7.base
   have J3 : Inv X pins σ H7 s' := I3.call' I7.os un I7.hok I7.bare fun b hb=>⟨(f3 b hb).2.2.2.1,(f3 b hb).2.1,(f3 b hb).2.2.2.2.1,(f3 b hb).2.2.2.2.2⟩
   obtain ⟨m7,hn7,_⟩ := I7.loc
   exact bad _ _ s' H7 ex cls J3 ⟨m7,hn7⟩ I7.free (by rw [hz3]; exact Nat.le_succ _) hx q
  refine qC (fun n s'=>∃ i ys H',Inv X' [] (X3 fr σ) H' s' ∧ tn i s'.heap ∧ (∀ b ∈ fp,H' b = none) ∧ W i n ys H') ?_ m0
   ⟨0,[],_,I4,T.keep _ _ _ st3 fun b _ o e=>up34 b o e,fun b hb=>(f3 b hb).1,w0⟩
  rintro n s6 ⟨i,ys,H6,I6,st6,fr6,w6⟩
  rcases turn i n ys H6 w6 with ⟨stop,q⟩ | ⟨go,NN,hNN,step⟩
  ·have D := T.done X' eP eW eK eC i [] s6 _ H6 (notedBy (model X.prog X.w) X.A (compEnvC scope (M4 X.env.cells scope.names []) s3.heap.objs.size X.env) (fun e s''=>RR (.ref s2.heap.objs.size) s3.heap.objs.size (.error e) s'')) I6 (fpIn fr6) st6 stop
   rw [eA] at D
   refine G0 D fun r s7 ⟨hr,I7⟩=>?_
   subst hr
   have un := I7.base
   rw [eF,eEx,eS,eH] at un
   have os7 : s7.os = s3.os := by rw [I7.os,eS]
   have hok7 := I7.hok
   rw [eP,eW] at hok7
   have J3 : Inv X pins σ H6 s7 := I3.call' os7 un hok7 I7.bare fun b hb=>⟨(f3 b hb).2.2.2.1,(f3 b hb).2.1,(f3 b hb).2.2.2.2.1,(f3 b hb).2.2.2.2.2⟩
   obtain ⟨m7,hn7,_⟩ := I7.loc
   rw [eN] at hn7
   have fr7 := I7.free
   rw [eN] at fr7
   exact fin _ _ s7 H6 J3 ⟨m7,hn7⟩ fr7 (by rw [hz3]; exact Nat.le_succ _) q
  ·have D := T.item X' eP eW eK eC i [] s6 _ H6 (notedBy (model X.prog X.w) X.A (compEnvC scope (M4 X.env.cells scope.names []) s3.heap.objs.size X.env) (fun e s''=>RR (.ref s2.heap.objs.size) s3.heap.objs.size (.error e) s'')) I6 (fpIn fr6) st6 go
   rw [eA] at D
   refine G0 D fun r s7 ⟨u,hr,h7⟩=>?_
   subst hr
   refine G0 h7 fun _ s8 ⟨x,H8,I8,r8,y8,st8,fr8⟩=>?_
   have I8' := I8.pinned (fpIn fr8) (T.obj _ _ st8)
   have q8 := ho _ _ _ _ (step x H8 y8)
   have A1 := hg' _ s8 _ H8 x u _ I8' r8 q8
   rw [eP,eW,eA,eE] at A1
   refine wpAny_mono A1 (fun _ s9 ⟨σ9,H9,I9,q9,len9,own9⟩=>?_) exc
   have A2 := ht' _ s9 σ9 H9 _ I9 q9
   rw [eP,eW,eA,eE] at A2
   refine wpAny_mono A2 (fun ok s10 ⟨H10,I10,q10⟩=>?_) exc
   have weak : ∀ {H' : Hp} {s' : Shared},Inv X' ([] ++ X8 fp s8.heap) σ9 H' s' → Inv X' ([] ++ X8 fp s8.heap) (X3 fr σ) H' s' := fun {H' s'} I'=>I'.weak len9.symm fun j v e=>by
    by_cases hj : j ∈ own
    ·exfalso
     have z := List.all_eq_true.mp c.own_ j hj
     have z : fr[j]? = some none := by simpa using z
     have e : (fr.map fun o=>o.bind fun j=>(σ[j]?).join)[j]? = some (some v) := e
     rw [List.getElem?_map,z] at e
     simp at e
    ·rw [own9 j hj]; exact e
   have again : ∀ {H' : Hp} {s' : Shared},Inv X' ([] ++ X8 fp s8.heap) σ9 H' s' → tn (i + 1) s'.heap ∧ (∀ b ∈ fp,H' b = none) ∧ Inv X' [] (X3 fr σ) H' s' := fun {H' s'} I'=>by
    refine ⟨T.keep _ _ _ st8 fun b hb o e=>(I'.pin (b,o) (List.mem_append_right _ (List.mem_append_right _ (X2 hb e)))).1,fun b hb=>?_,(weak I').unpinned⟩
    obtain ⟨o,e,d⟩ := T.obj _ _ st8 b hb
    exact (I'.pin (b,o) (List.mem_append_right _ (List.mem_append_right _ (X2 hb e)))).2.1
   cases ok with
   | false =>
    rw [if_neg Bool.false_ne_true] at q10 ⊢
    obtain ⟨m',hm,w'⟩ := hNN _ _ q10
    obtain ⟨t1,t2,t3⟩ := again I10
    exact ⟨m',hm,i + 1,ys,H10,t3,t1,t2,w'⟩
   | true =>
    rw [if_pos rfl] at q10 ⊢
    have A3 := he' _ s10 σ9 H10 _ I10 q10
    rw [eP,eW,eA,eE] at A3
    refine wpAny_mono A3 (fun yv s11 ⟨y,H11,I11,r11,hl11,hz11,q11⟩=>?_) exc
    have A4 := K4 (X := X') _ s11 σ9 H11 (.ref s2.heap.objs.size) [y] (.ref s2.heap.objs.size) [yv] (fun _ H'=>H' = D5 H11 s2.heap.objs.size (.lst (ys ++ [y]))) I11 rfl (.cons r11 .nil) ⟨_,ys,y,rfl,rfl,hl11,hz11,rfl⟩
    rw [eP,eW,eA] at A4
    refine wpAny_mono A4 (fun _ s12 ⟨_,H12,I12,_,e12⟩=>?_) exc
    subst e12
    obtain ⟨m',hm,w'⟩ := hNN _ _ q11
    obtain ⟨t1,t2,t3⟩ := again I12
    exact ⟨m',hm,i + 1,_,_,t3,t1,t2,w'⟩
 have e5 : ({ s2 with heap := h₁,toks := s2.toks + ([] : List (Str × Value)).length } : Shared) = { s3 with heap := h₁,toks := s2.toks + ([] : List (Str × Value)).length } := by rw [← hs3]
 exact codeAny_compStart_list (loop _ e5) (T.self _ 0 _ _ _ (T.keep _ _ _ st3 fun b _ o e=>up34 b o e) (loop _ e5))
theorem AB8 {EE : XK} (hst : X.stack = X.env :: X.outer) (hex : X.ex = []) (hf : X.env.frame = some X.env.locals)
  (hxe : X.xe = fun e s'=>wpAny (model X.prog X.w) X.A (leaving X.env e) (fun _ s''=>N0 X.prog X.w X.outer X.H₀ X.s₀ EE e s'') (fun e' s''=>N0 X.prog X.w X.outer X.H₀ X.s₀ EE e' s'') s') (c : CompOk X scope N' fr own) (hc : X.calm = true) (hi : PI X tg iter wi)
  (hg : ∀ C fp s H,PG (U7 X EE scope N' C fp s H) tg g) (ho : oO own g) (ht : ∀ C fp s H,tF (U7 X EE scope N' C fp s H) ifs ti) (he : ∀ C fp s H,PE (U7 X EE scope N' C fp s H) elt te)
  (hs : ∀ x,foldedSetIterable iter X.env x = pure x := by intro _; rfl) : PE X (.ListComp elt [⟨tg,iter,ifs,0⟩] scope pos) (vR wi fr g ti te) := by
 intro pins s σ H Q I h
 rw [eval_ListComp]
 refine wpAny_comprehension_free (use := none) rfl hs (bI (c.hfree I)) c.kind c.hnames (G0 (hi pins s σ H _ I h) fun v s1 h1=>G0 h1 fun itv s2 h2=>?_)
 obtain ⟨it,fp,tn,J,H2,e,I2,T,st2,f2,R⟩ := h2
 subst e
 refine tT (RR := fun acc C=>compPost (model X.prog X.w) X.A X.xe none (EP X pins σ Q) acc C) c hc hex hg ho ht he I2 T st2 f2 R (fun l C s' H' ex cls I' hn hC hle hx q=>AG3 I' hst hex hf hxe hx q hn hC (Heap.get?_none_of_le (Nat.le_trans I2.sz hle)) (fun z=>?_) rfl) ?_
 ·obtain ⟨_,o,ho,_⟩ := I2.stack.mem z
  exact absurd (Nat.lt_of_lt_of_le (Heap.lt_size ho) hle) (Nat.lt_irrefl _)
 intro l C s' H' I' hn hC hle q
 obtain ⟨m,hn⟩ := hn
 refine ⟨m,hn,fun h' hs'=>⟨.ref l,H',?_,rfl,q⟩⟩
 have cl : ∀ x cc,X.env.cells.lookup x = some cc → cc ≠ C := fun x cc e z=>by
  obtain ⟨v,o,ho,_⟩ := I2.cell x cc e
  exact absurd (Nat.lt_of_lt_of_le (Heap.lt_size ho) (by rw [z]; exact hle)) (Nat.lt_irrefl _)
 exact I'.turned (t' := s'.toks) (fun b o hb e=>hs'.extBut b o hb e) hC (Nat.ne_of_gt (Nat.lt_of_lt_of_le I2.lt hle)) (.inr (Nat.le_trans I2.sz hle)) cl fun p hp z =>
  absurd (Nat.lt_of_lt_of_le (Heap.lt_size (I2.pin p hp).1) (by rw [z]; exact hle)) (Nat.lt_irrefl _)
end
end L2
namespace L2
open PySem PySem.Spec PyProof.Rows
def N3 (c : Nat) : List (List Nat) → List Nat
 | []=>[]
 | [l]=>l
 | l :: m :: r=>l ++ c :: N3 c (m :: r)
theorem kQ {c : Nat} : ∀ ls : List (List Nat),Str.join ⟨#[c]⟩ (ls.map fun l=>(⟨l.toArray⟩ : Str)) = ⟨(N3 c ls).toArray⟩
 | []=>rfl
 | [l]=>rfl
 | l :: m :: r=>by
  have ih := kQ (c := c) (m :: r)
  show (⟨l.toArray⟩ : Str) ++ ⟨#[c]⟩ ++ Str.join ⟨#[c]⟩ ((m :: r).map fun l=>(⟨l.toArray⟩ : Str)) = _
  rw [ih]
  show (⟨(l.toArray ++ #[c]) ++ (N3 c (m :: r)).toArray⟩ : Str) = ⟨(l ++ c :: N3 c (m :: r)).toArray⟩
  congr 1
  simp
theorem pS {c : Nat} : ∀ {l m r t : List Nat},c ∉ l → c ∉ m → l ++ c :: r = m ++ c :: t → l = m ∧ r = t
 | [],[],r,t,_,_,h=>⟨rfl,by simpa using h⟩
 | [],y :: m,r,t,_,hm,h=>by simp at h; exact absurd h.1 (fun z=>hm (by simp [z]))
 | x :: l,[],r,t,hl,_,h=>by simp at h; exact absurd h.1.symm (fun z=>hl (by simp [z]))
 | x :: l,y :: m,r,t,hl,hm,h=>by
  simp at h
  obtain ⟨e1,e2⟩ := h
  obtain ⟨e3,e4⟩ := pS (l := l) (m := m) (fun z=>hl (by simp [z])) (fun z=>hm (by simp [z])) e2
  exact ⟨by rw [e1,e3],e4⟩
theorem pN {c : Nat} : ∀ {ls ms : List (List Nat)},ls ≠ [] → ms ≠ [] → (∀ l ∈ ls,c ∉ l) → (∀ l ∈ ms,c ∉ l) → N3 c ls = N3 c ms → ls = ms
 | [],_,h,_,_,_,_=>absurd rfl h
 | _,[],_,h,_,_,_=>absurd rfl h
 | [l],[m],_,_,_,_,e=>by rw [show l = m from e]
 | [l],m :: m2 :: ms,_,_,hl,_,e=>by
  have e : l = m ++ c :: N3 c (m2 :: ms) := e
  exact absurd (show c ∈ l by rw [e]; simp) (hl l (by simp))
 | l :: l2 :: ls,[m],_,_,_,hm,e=>by
  have e : l ++ c :: N3 c (l2 :: ls) = m := e
  exact absurd (show c ∈ m by rw [← e]; simp) (hm m (by simp))
 | l :: l2 :: ls,m :: m2 :: ms,_,_,hl,hm,e=>by
  have e : l ++ c :: N3 c (l2 :: ls) = m ++ c :: N3 c (m2 :: ms) := e
  obtain ⟨e1,e2⟩ := pS (hl l (by simp)) (hm m (by simp)) e
  rw [e1,pN (ls := l2 :: ls) (ms := m2 :: ms) (by simp) (by simp) (fun x hx=>hl x (by simp at hx ⊢; exact .inr hx)) (fun x hx=>hm x (by simp at hx ⊢; exact .inr hx)) e2]
theorem tL {c : Nat} {ls : List (List Nat)} (h0 : ls ≠ []) (h : ∀ l ∈ ls,c ∉ l) : Txt.split ⟨(N3 c ls).toArray⟩ ⟨#[c]⟩ = ls.map fun l=>(⟨l.toArray⟩ : Str) := by
 have e1 := StrLaws.join_split ⟨(N3 c ls).toArray⟩ ⟨#[c]⟩
 have e2 := StrLaws.split_free ⟨(N3 c ls).toArray⟩ c
 have e3 := split_pos ⟨(N3 c ls).toArray⟩ ⟨#[c]⟩
 generalize Txt.split ⟨(N3 c ls).toArray⟩ ⟨#[c]⟩ = ps at *
 have e4 : ps = (ps.map fun p=>p.cps.toList).map fun l=>(⟨l.toArray⟩ : Str) := by
  rw [List.map_map]
  conv=>lhs; rw [← List.map_id ps]
  rfl
 rw [e4,kQ] at e1
 have e5 : N3 c (ps.map fun p=>p.cps.toList) = N3 c ls := by
  have := congrArg (fun s : Str=>s.cps.toList) e1
  simpa using this
 have e6 := pN (fun z=>by rw [List.map_eq_nil_iff] at z; rw [z] at e3; exact absurd e3 (by decide)) h0 (fun l hl=>by
  obtain ⟨p,hp,rfl⟩ := List.mem_map.mp hl
  exact e2 p hp) h e5
 rw [e4,e6]
theorem pM {c : Nat} : ∀ {ls : List (List Nat)} {k : Nat},(∀ l ∈ ls,l.length ≤ k) → (N3 c ls).length ≤ ls.length * (k + 1)
 | [],_,_=>Nat.zero_le _
 | [l],k,h=>by show l.length ≤ _; have := h l (by simp); simp; omega
 | l :: m :: r,k,h=>by
  have ih := pM (c := c) (ls := m :: r) (k := k) fun x hx=>h x (by simp at hx ⊢; exact .inr hx)
  have := h l (by simp)
  show (l ++ c :: N3 c (m :: r)).length ≤ _
  rw [List.length_append,List.length_cons,List.length_cons,Nat.add_mul]
  omega
theorem oQ : ∀ {ss : List Str} {its : List Value},Vals (ss.map V.str) its → ∃ l : List (Str × Tok),its = strValues l ∧ l.map (·.1) = ss
 | [],its,h=>by cases h; exact ⟨[],rfl,rfl⟩
 | z :: ss,its,h=>by
  cases h with
  | cons a b =>
   obtain ⟨t,rfl⟩ := a
   obtain ⟨l,rfl,rfl⟩ := oQ b
   exact ⟨(z,t) :: l,rfl,rfl⟩
theorem oX : ∀ (l : List (Str × Tok)),Vals ((l.map (·.1)).map V.str) (strValues l)
 | []=>.nil
 | p :: r=>.cons ⟨p.2,rfl⟩ (oX r)
section
variable {X : Cx}
theorem uQ : MtM X "str.join" (fun x vs H Q=>∃ sep l ss,x = .str sep ∧ vs = [.ref l] ∧ H l = some (.lst (ss.map V.str)) ∧ JoinOk sep ss = true ∧ Q (.str (Txt.join sep ss)) H) := by
 intro pins s σ H x vs v us Q I rx rv h
 obtain ⟨sep,l,ss,rfl,rfl,hH,ok,q⟩ := h
 obtain ⟨t,rfl⟩ := rx
 obtain ⟨u,rfl,ru⟩ := rv.one
 cases ru
 obtain ⟨z,its,n,r,hl,e⟩ := I.lstM hH
 obtain ⟨ps,rfl,rfl⟩ := oQ r
 exact SC.join (D := l) (l := ps) ⟨_,e,rfl,_,rfl⟩ rfl ok fun t' k=>⟨.str _,H,I.tok _,⟨_,rfl⟩,q⟩
theorem AD9 : MtM X "str.split" (fun x vs H Q=>∃ z y,x = .str z ∧ vs = [.str y] ∧ (y.length == 0) = false ∧ z.length + 2 ≤ sizeLine ∧ ∀ l,H l = none → Q (.ref l) (D5 H l (.lst ((Txt.split z y).map V.str)))) := by
 intro pins s σ H x' vs v us Q I rx rv h
 obtain ⟨x,y,rfl,rfl,hy,hsz,q⟩ := h
 obtain ⟨t,rfl⟩ := rx
 obtain ⟨u',rfl,ru⟩ := rv.one
 obtain ⟨u,rfl⟩ := ru
 have hn : (Builtin.Str.partsBetween x (Builtin.Str.occurrences x y 0 x.length (x.length + 1)) y.length).length ≤ sizeLine := by
  have e1 := StrLaws.occ_length_le x y 0 x.length (x.length + 1)
  rw [len_partsBetween]; omega
 have fin : ∀ (l : List (Str × Tok)) (k : Nat),l.map (·.1) = Txt.split x y → EP X pins σ Q (.ref s.heap.objs.size) { s with heap := s.heap.push { cls := .type "list",data := .seq (strValues l).toArray },toks := k } := fun l k e=>by
  have hl := split_le x y
  refine ⟨.ref s.heap.objs.size,_,I.lnew (ys := (Txt.split x y).map V.str) (its := strValues l) (t' := k) (by rw [← e]; exact oX l) (by rw [List.length_map]; omega),rfl,q _ I.fresh⟩
 cases h1 : (decide (x.length < y.length) || decide (Builtin.Str.strKind x < Builtin.Str.strKind y))
 ·cases hf : (Builtin.Str.occurrences x y 0 x.length (x.length + 1)).isEmpty
  ·refine call_meets F.slot_str_split (typeIs_str _ _ _) F.entry_str_split (F.args_str_split_2 _ _) (meets_str_split_sep x y t u h1 hy hf (by omega) hn) ?_
   show wants _ _ _ { s with toks := _,heap := s.heap.push { cls := .type "list",data := .seq (strsFrom s.toks (Builtin.Str.partsBetween x (Builtin.Str.occurrences x y 0 x.length (x.length + 1)) y.length)).toArray } }
   rw [strsFrom_eq]
   exact fin (numbered s.toks _) _ ((numbered_texts _ _).trans ((if_neg (ne_true_of_eq_false h1)).trans (if_neg (ne_true_of_eq_false hf))).symm)
  ·exact call_meets F.slot_str_split (typeIs_str _ _ _) F.entry_str_split (F.args_str_split_2 _ _) (meets_str_split_not_found x y t u h1 hy hf)
    (fin [(x,t)] s.toks ((if_neg (ne_true_of_eq_false h1)).trans (if_pos hf)).symm)
 ·exact call_meets F.slot_str_split (typeIs_str _ _ _) F.entry_str_split (F.args_str_split_2 _ _) (meets_str_split_cannot_occur x y t u h1)
   (fin [(x,t)] s.toks (if_pos h1).symm)
theorem yM : MtM X "list.insert" (fun x vs H Q=>∃ (l : Addr) (xs : List V) (k : Nat) (y : V),x = .ref l ∧ vs = [.int k,y] ∧ H l = some (.lst xs) ∧ k ≤ xs.length ∧ xs.length < sizeLine ∧ Q .non (D5 H l (.lst (xs.take k ++ y :: xs.drop k)))) := by
 intro pins s σ H x vs v us Q I rx rv h
 obtain ⟨l,xs,k,y,rfl,rfl,hH,hk,hz,q⟩ := h
 cases rx
 cases rv with
 | cons a b =>
  obtain ⟨t,rfl⟩ := a
  obtain ⟨u,rfl,ru⟩ := Vals.one b
  obtain ⟨z,its,n,r,hl,e⟩ := I.lstM hH
  have hk2 : k < 2 ^ 24 + 1 := by have : sizeLine = 2 ^ 24 := rfl; omega
  have h1 : (-(2 ^ 63) : Int) ≤ (k : Int) := Int.le_trans (by decide) (Int.natCast_nonneg k)
  have h2 : (k : Int) < 2 ^ 63 := Int.lt_of_lt_of_le (Int.ofNat_lt.mpr hk2) (by decide)
  have hs : its.toArray.size ≤ sizeLine := by rw [List.size_toArray]; omega
  have hkn : (k : Int).toNat = k := Int.toNat_natCast k
  have hk0 : ¬ ((k : Int) < 0) := by omega
  generalize (k : Int) = kk at h1 h2 hkn hk0
  have hf : ¬ (!Builtin.List.listFitsIndex kk) = true := by rw [fitsIndex_both h1 h2]; decide
  have M := AutoSeq1.list_insert_list_int_val_1 l its.toArray n kk t u hf hs
  refine call_meets F.slot_list_insert ⟨_,e,rfl⟩ F.entry_list_insert (F.args_list_insert_3 _ _ _) M ⟨e,?_⟩
  refine ⟨.non,_,I.lset (its' := its.take k ++ u :: its.drop k) hH e ?_ ?_ ?_,rfl,q⟩
  ·have e2 : min kk.toNat its.toArray.size = k := by rw [List.size_toArray,hkn]; omega
   simp only [if_neg hk0,e2]
   simp
   exact List.take_of_length_le (by rw [List.length_drop]; exact Nat.le_refl _)
  ·exact (r.take k).append (.cons ru (r.drop k))
  ·rw [List.length_append,List.length_cons,List.length_take,List.length_drop]; omega
end
end L2
namespace Law
open PySem L2 L2.Sp
section
variable {P : Program} {w : World} {K : PySem.W.Frag} {mg : Str → Option Value} {base : Heap} {f : Addr} {fd : FuncData} {R C : Addr}
abbrev jS : Stmt := M8 22
theorem rR : E2 ["text","reader","path"] ["text"] (B2 jS) := ⟨rfl,rfl,rfl,by decide +kernel,rfl,by decide +kernel,by decide +kernel⟩
theorem AN2 {fi : Addr} {fdi : FuncData} (F : Fun K "read_path" "read_path" jS f fd) (r : Rdg P w K mg base R C) (M : Mk K R fi) (FI : FnOk P w K mg base (N0 P w) 6 fi fdi ["self","text"] (rL K R C)) (bi : Binds K fdi ["self","text"] []) (gR : mg "Reader" = some (.ref R)) :
  FnOk P w K mg base (N0 P w) 8 f fd ["text"] (V9 K C aP) := by
 refine Fun.ok1 F rR (fun vs H Q E h=>?_) (fun cdv A outer s H vs Q E hr h=>?_)
 ·obtain ⟨v,rfl,_⟩ := h
  rfl
 obtain ⟨v,rfl,h⟩ := h
 have hr4 := hr.mono (show 4 ≤ 7 by decide)
 have hr3 := hr.mono (show 3 ≤ 7 by decide)
 refine ⟨_,A7 (B7 (i := 1) rR.nd rfl (Or.inl rfl) (uF M FI hr rfl gR bi .nil (G8 (E' := E) fun _ _ _ h=>h) (A0 (pv 0) A5)))
  (A7 (B7 (i := 2) rR.nd rfl (Or.inl rfl) (G5 r.NS hr4 rfl (G8 (E' := E) fun _ _ _ h=>h) (A0 (pv 1) A5)))
  (A7 (K2 (O4 r.MU r.c hr3 (G8 (E' := E) fun _ _ _ h=>h) (pv 1) (A0 B3 A5)))
  (A9 (B6 (pv 2))))),?_⟩
 refine ⟨_,rfl,fun rd dx h1 h2 n12=>⟨rd,dx,v,rfl,A6,?_⟩⟩
 rcases h with ⟨d,hd',hf,e⟩ | ⟨l,rfl,hs,h⟩
 ·refine .inl ⟨d,DV.mono (DKeep.same ?_) _ _ hd',hf,e _ ?_⟩
  ·exact V2 h1 h2 Grow.refl
  ·exact V2 h1 h2 Grow.refl
 refine .inr ⟨l,rfl,hs,fun ws hw H1 p hp g1 hl hrd=>?_,fun hw H1 g1=>?_⟩
 ·rcases h with ⟨hn,_⟩ | ⟨ws',res,hw',ok,hy,q⟩
  ·rw [hn] at hw; cases hw
  ·rw [hw] at hw'; cases hw'
   refine ⟨rfl,?_⟩
   obtain ⟨nres,hnm,rfl⟩ := hy
   have D0 : RD H1 R rd dx p ws 0 := ⟨hrd,hl,ok⟩
   have S0 := RS.start D0
   have up : ∀ {H2 : Hp},Grow rd H1 H2 → Same H H2 := fun {H2} g2=>V2 h1 h2 (g1.trans g2)
   refine ⟨_,rfl,rd,dx,p,ws,0,nres,rfl,D0,hnm,?_⟩
   cases nres with
   | none=>exact fun H2 g2=>q H2 (up g2)
   | some nr =>
    obtain ⟨ns,r1⟩ := nr
    intro vp H2 t2 g2 d2 e2 lt2 le2 hvp
    have s2 := S0.more g2 d2
    have s3 := s2.up (t2 + 1)
    refine ⟨_,rfl,rd,dx,_,rfl,d2.ob,rfl,rd,dx,p,ws,t2,[],by rw [gW]; rfl,d2,⟨by decide,fun c hc=>by cases hc⟩,?_⟩
    rw [e2]
    dsimp only at q
    by_cases e : Law.hd r1 = []
    ·rw [if_pos e] at q
     exact M3 e ⟨_,rfl,q _ _ (up s3.g) (TV.kp (dS d2) hvp)⟩
    ·rw [if_neg e] at q
     exact J1 e (q _ (up s3.g))
 ·rcases h with ⟨_,q⟩ | ⟨ws',res,hw',ok,hy,q⟩
  ·exact q _ (V2 h1 h2 (Grow.of g1))
  ·rw [hw] at hw'; cases hw'
def kM (X : Bool → List Wd → P8 → Prop) (l : List Nat) (r : Option (Option Tn)) : Prop := V5 l ∧ match r with
 | none=>G3 l = some []
 | some res=>∃ ws,G3 l = some ws ∧ ws ≠ [] ∧ WsOk ws ∧ W7 X ws res
def O5 : List (Option (Option Tn)) → Option (List Tn)
 | []=>some []
 | none :: r=>O5 r
 | some none :: _=>none
 | some (some t) :: r=>(O5 r).map (t :: ·)
def iF (K : PySem.W.Frag) (C : Addr) (X : Bool → List Wd → P8 → Prop) : Sp := fun args H Q E=>∃ v,args = [v] ∧ ((∃ d,DV K H d v ∧ bF d "str" = false ∧ E (.ref C) none H) ∨
 ∃ lines rs,v = .str (S (N3 10 lines)) ∧ lines ≠ [] ∧ lines.length ≤ 20 ∧ All2 (kM X) lines rs ∧ match O5 rs with
  | none=>∀ H',Same H H' → E (.ref C) none H'
  | some ts=>∀ l vs H',Same H H' → H l = none → H' l = some (.lst vs) → TAll K H' ts vs → Q (.ref l) H')
abbrev jR : Stmt := M8 24
theorem AR2 : E2 ["text"] ["text"] (B2 jR) := ⟨rfl,rfl,rfl,by decide +kernel,rfl,by decide +kernel,by decide +kernel⟩
theorem AO9 : (["line"] : List Str).Nodup := by decide +kernel
theorem qQ : (Str.ofString "\n" : Str) = ⟨#[10]⟩ := by decide +kernel
theorem AM5 {X : Cx} {EE : XK} {scope : Scope} {N' : List Str} {C : Addr} {fp : List Addr} {s : Shared} {H : Hp} (hu : X.A.units + 64 < cLine) : T2 (U7 X EE scope N' C fp s H) (compareOp .NotEq) (AS2 X.K) := AT1 hu
theorem BB6 {X : Bool → List Wd → P8 → Prop} {l : List Nat} {r : Option (Option Tn)} (h : kM X l r) : 10 ∉ l := by
 obtain ⟨_,h⟩ := h
 cases r with
 | none=>exact fZ _ l _ (Nat.le_refl _) h
 | some res =>
  obtain ⟨ws,hw,_⟩ := h
  exact fZ _ l _ (Nat.le_refl _) hw
theorem AM9 {N : Nat} (F : Fun K "read_rows" "read_rows" jR f fd) (ROW : M0 P w K mg base (5 * N + 8) "read_row" ["line"] (V9 K C (W7 (Exn N)))) (WORDS : M0 P w K mg base 5 "words_of" ["text"] (jK K C)) (n : NT K mg C) (m2 : mg "isinstance" = none) (m3 : mg "str" = none) :
  FnOk P w K mg base (N0 P w) (5 * N + 9) f fd ["text"] (iF K C (Exn N)) := by
 refine Fun.ok1 F AR2 (fun vs H Q E h=>?_) (fun cdv A outer s H vs Q E hr h=>?_)
 ·obtain ⟨v,rfl,_⟩ := h
  rfl
 obtain ⟨v,rfl,h⟩ := h
 have hr5 := hr.mono (show 5 ≤ 5 * N + 8 by omega)
 refine ⟨_,A7 (E5 (U6 (K9 (E7 jE rfl m2 R5 (A0 (pv 0) (A0 (S3 (v := .ty "str") rfl m3 aZ rfl) A5)))))
   (A9 (V4 PySem.F.excBase_ValueError n.xc rfl n.mg (A0 B3 A5))) D6)
  (A9 (B6 (AB8 (EE := E) rfl rfl rfl rfl (N' := ["line"]) (fr := [none]) (own := [0]) ⟨rfl,rfl,rfl,rfl,rfl,rfl,rfl⟩ rfl
   (bZ (O9 PySem.F.plainAttrs_str PySem.F.slot_str_split PySem.F.type_str_split AD9 (pv 0) (A0 B3 A5)))
   (fun _ _ _ _=>K0 (i := 0) AO9 rfl (Or.inl rfl)) (R1 0)
   (fun _ _ _ _=>AM0 (B9 (AM5 hr.units) (G5 WORDS hr5 rfl uI (A0 (pv 0) A5)) (E3 A5) (B8 _)))
   (fun _ _ _ _=>G5 ROW hr rfl uI (A0 (pv 0) A5))))),?_⟩
 rcases h with ⟨d,hd',hf,e⟩ | ⟨lines,rs,rfl,h0,h20,ha,q⟩
 ·exact ⟨_,rfl,_,_,rfl,.inr ⟨d,hd',hf⟩,_,rfl,E8 ⟨M1,e⟩⟩
 refine ⟨_,rfl,_,_,rfl,.inl ⟨_,rfl,rfl⟩,_,rfl,D7 ?_⟩
 have hsm : ∀ l ∈ lines,l.length ≤ 100000 := fun l hl=>by
  obtain ⟨i,hi⟩ := List.getElem?_of_mem hl
  obtain ⟨r,_,hr⟩ := All2.get ha hi
  exact hr.1.1
 have hno : ∀ l ∈ lines,10 ∉ l := fun l hl=>by
  obtain ⟨i,hi⟩ := List.getElem?_of_mem hl
  obtain ⟨r,_,hr⟩ := All2.get ha hi
  exact BB6 hr
 have hjl : (N3 10 lines).length ≤ 20 * 100001 := Nat.le_trans (pM hsm) (Nat.mul_le_mul h20 (Nat.le_refl _))
 have hsp : (Txt.split (S (N3 10 lines)) ⟨#[10]⟩).map V.str = ST lines := by
  rw [show S (N3 10 lines) = ⟨(N3 10 lines).toArray⟩ from rfl,tL h0 hno,List.map_map]
  rfl
 refine ⟨_,rfl,rfl,_,_,rfl,rfl,by rw [qQ]; rfl,by rw [N4]; have : sizeLine = 16777216 := sizeLine_eq; omega,fun sl hsl=>?_⟩
 rw [qQ,hsp]
 have g0 := A8 hsl (.lst (ST lines))
 refine ⟨sl,rfl,⟨_,SqL.of A6⟩,fun acc hacc=>?_⟩
 have hacc0 := V0 g0 hacc
 have nas : acc ≠ sl := fun e=>by rw [e,A6] at hacc; cases hacc
 have g1 := A8 hacc (.lst [])
 refine zI (xs := ST lines) (fun i ys H'=>Same H H' ∧ H' sl = some (.lst (ST lines)) ∧ H' acc = some (.lst ys) ∧ ys.length ≤ i ∧ i ≤ lines.length ∧ ∃ ts,TAll K H' ts ys ∧ O5 rs = (O5 (rs.drop i)).map (ts ++ ·))
  ⟨g0.trans g1,g1 _ _ A6,A6,Nat.le_refl _,Nat.zero_le _,[],TAll.nil,by rw [List.drop_zero]; cases O5 rs <;> rfl⟩ (fun i ys H' _ hinv=>SqL.of hinv.2.1) (fun i x ys H' hx hinv=>?_) (fun ys H' hinv=>?_)
 ·obtain ⟨g,hl',ha',hle,hil,ts,hts,ho⟩ := hinv
  obtain ⟨line,hi,rfl⟩ : ∃ line,lines[i]? = some line ∧ x = .str (S line) := by
   rw [List.getElem?_map] at hx
   cases e : lines[i]? with
   | none=>rw [e] at hx; cases hx
   | some z=>rw [e] at hx; cases hx; exact ⟨z,rfl,rfl⟩
  obtain ⟨r,hri,hln⟩ := All2.get ha hi
  have hlt : i < lines.length := (List.getElem?_eq_some_iff.mp hi).1
  have hdr : rs.drop i = r :: rs.drop (i + 1) := by
   obtain ⟨h1,h2⟩ := List.getElem?_eq_some_iff.mp hri
   rw [List.drop_eq_getElem_cons h1,h2]
  rw [hdr] at ho
  dsimp only [U4,U0]
  have hno' : G3 line ≠ none := by
   obtain ⟨_,hln⟩ := hln
   cases r with
   | none=>rw [hln]; exact fun z=>nomatch z
   | some res=>obtain ⟨ws,hw,_⟩ := hln; rw [hw]; exact fun z=>nomatch z
  refine ⟨_,rfl,_,rfl,.inr ⟨line,rfl,hln.1,fun ws hw H2 p hp g2 hp2=>?_,fun hn=>absurd hn hno'⟩⟩
  refine ⟨T7,fun e0 he0=>⟨p,e0,_,rfl,rfl,A8 he0 _ _ _ hp2,A6,_,rfl,?_⟩⟩
  have k3 := A8 he0 (.lst [])
  have g3 := g.trans (g2.trans k3)
  have hl3 := k3 _ _ (g2 _ _ hl')
  have ha3 := k3 _ _ (g2 _ _ ha')
  have hln1 := hln.1
  obtain ⟨_,hln⟩ := hln
  have hlen20 : i < 20 := by omega
  cases r with
  | none =>
   have hln : G3 line = some [] := hln
   rw [hw] at hln
   cases hln
   exact D7 ⟨g3,hl3,ha3,by omega,hlt,ts,hts.kp (Kp.same (g2.trans k3)),ho⟩
  | some res =>
   obtain ⟨ws',hw',hne,ok,hrow⟩ := hln
   rw [hw] at hw'
   cases hw'
   have eb : (!decide ((ST ws).length = 0)) = true := by
    rw [List.length_map]
    cases ws with
    | nil=>exact absurd rfl hne
    | cons a b=>rfl
   show if (!decide ((ST ws).length = 0)) = true then _ else _
   rw [eb]
   refine E8 ⟨_,rfl,_,rfl,.inr ⟨line,rfl,hln1,.inr ⟨ws,res,hw,ok,hrow,?_⟩⟩⟩
   cases res with
   | none =>
    have ho : O5 rs = none := ho
    rw [ho] at q
    exact fun H5 g5=>q H5 (g3.trans g5)
   | some t =>
    intro u H5 g5 hu
    have ha5 := g5 _ _ ha3
    have kl := Kp.lst (K := K) (o := .lst (ys ++ [u])) ha5
    have k5 := (Kp.same (K := K) (g2.trans (k3.trans g5))).trans kl
    refine ⟨ha5,O7 (by omega),?_,by rw [B5 (Ne.symm nas)]; exact g5 _ _ hl3,A6,by rw [List.length_append,List.length_singleton]; omega,hlt,ts ++ [t],(hts.kp k5).append (TAll.one (TV.kp kl hu)),?_⟩
    ·exact fun b o hb=>by rw [B5 (D8 hb hacc0)]; exact g5 _ _ (g3 _ _ hb)
    ·rw [ho]
     show ((O5 (rs.drop (i + 1))).map (t :: ·)).map (ts ++ ·) = _
     cases O5 (rs.drop (i + 1)) with
     | none=>rfl
     | some z=>simp
 ·obtain ⟨g,hl',ha',hle,hil,ts,hts,ho⟩ := hinv
  have e : rs.drop (ST lines).length = [] := List.drop_eq_nil_of_le (by rw [List.length_map,ha.length]; exact Nat.le_refl _)
  rw [e] at ho
  have ho : O5 rs = some ts := by rw [ho]; simp [O5]
  rw [ho] at q
  exact q acc ys H' g hacc0 ha' hts
end
end Law
namespace L2
open PySem PySem.Spec PyProof.Rows
theorem AX3 {prog : Program} {w : World} {A : Around} (h0 : A.handled = none) (k t : Addr) (hne : t ≠ k) (its : Array Value) : Draws prog w A k [k,t] its.size (fun i v=>its[i]? = some v) (fun i h=>h.IsTupleIter k t i ∧ h.IsTuple t its) where
 live := fun _ _ st=>by obtain ⟨⟨o,ho,_⟩,_⟩ := st; exact ⟨o,ho⟩
 frame := fun _ _ _ st q=>⟨st.1.at fun o e=>q k (by simp) o e,by obtain ⟨o,e,r⟩ := st.2; exact ⟨o,q t (by simp) o e,r⟩⟩
 item := fun i s Q E hi st q=>wM st.1 st.2 (x := its[i]) (by simp [hi]) fun h' hk sb=>q _ h' s.toks (by simp [hi]) ⟨hk,st.2.extBut sb.extBut hne⟩ sb
 done := fun s Q E st q=>pF h0 st.1 st.2 (by simp) q
set_option maxHeartbeats 1000000 in
theorem tQ (t : Addr) (its : Array Value) (n : Nat) (dct : Option Addr) (sl : Array (Option Value)) :
  Meets (Builtin.«enumerate.__new__» ⟨[.type "enumerate",.ref t],[]⟩) (fun _ R s=>s.heap.get? t = some { cls := .type "tuple",dict := dct,data := .seq its n,slots := sl } ∧
   R (.ok (.ret (.ref (s.heap.push { cls := .type "tuple_iterator",data := .fields #[.ref t,.int 0 0] }).objs.size)))
    { s with heap := (s.heap.push { cls := .type "tuple_iterator",data := .fields #[.ref t,.int 0 0] }).push { cls := .type "enumerate",data := .fields #[.none,.bool false,.ref s.heap.objs.size,rawInt 0,.none,.none] } }) :=
 .of_wp fun prog w A R s h=>by
  obtain ⟨hp,g,d,tk,os⟩ := s; obtain ⟨hl,h⟩ := h
  have hsub := sub_enumerate
  have hT : Heap.IsTuple (Shared.heap ⟨hp,g,d,tk,os⟩) t its := ⟨_,hl,rfl,n,rfl⟩
  wp_walk using AutoSeq1.wpAny_loadPart' hl
  refine wpAny_stack_any fun st=>wpAny_pure ?_
  split
  ·rename_i c _ _ _ _ _
   cases (c == Value.type "enumerate")
   ·wp_walk using AutoSeq1.wpAny_loadPart' hl,wpAny_pyIter_tuple hT
    exact ⟨_,rfl,h⟩
   ·wp_walk using AutoSeq1.wpAny_loadPart' hl,wpAny_pyIter_tuple hT
    exact ⟨_,rfl,h⟩
  ·wp_walk using AutoSeq1.wpAny_loadPart' hl,wpAny_pyIter_tuple hT
   exact ⟨_,rfl,h⟩
theorem wW {prog : Program} {w : World} {A : Around} {E : Value → Shared → Prop} {s : Shared} {t : Addr} {its : Array Value} {Q : Value → Shared → Prop} (hT : s.heap.IsTuple t its)
  (h : ∀ h',IsEnum h' (s.heap.objs.size + 1) s.heap.objs.size 0 .none → h'.IsTupleIter s.heap.objs.size t 0 → (∀ b o,s.heap.get? b = some o → h'.get? b = some o) → Q (.ref (s.heap.objs.size + 1)) { s with heap := h' }) :
  wpAny (model prog w) A (call (.type "enumerate") [.ref t]) Q E s := by
 obtain ⟨⟨c,dct,dt,sl⟩,hl,hc,n,hd⟩ := hT
 cases (show c = .type "tuple" from hc)
 cases (show dt = .seq its n from hd)
 refine callType_new F.called_enumerate (by decide) (F.typeCall_enumerate_1 _) (F.newCall_enumerate_1 _) (fun obj=>F.args_object_init_2 obj _) F.entry_enumerate_new (tQ t its n dct sl) ⟨hl,?_⟩
 generalize hg : s.heap.push { cls := .type "tuple_iterator",data := .fields #[.ref t,.int 0 0] } = g1
 have hz : g1.objs.size = s.heap.objs.size + 1 := by rw [← hg]; exact Heap.size_push ..
 show _ ∧ _
 rw [hz]
 have he : IsEnum (g1.push { cls := .type "enumerate",data := .fields #[.none,.bool false,.ref s.heap.objs.size,rawInt 0,.none,.none] }) (s.heap.objs.size + 1) s.heap.objs.size 0 .none := by
  have q := Heap.get?_push_size g1 (o := { cls := .type "enumerate",data := .fields #[.none,.bool false,.ref s.heap.objs.size,rawInt 0,.none,.none] }) rfl
  rw [hz] at q
  exact q
 refine ⟨⟨_,he,rfl⟩,h _ he ⟨_,Heap.get?_push_of_some _ (by rw [← hg]; exact Heap.get?_push_size _ rfl),rfl,rfl⟩ fun b o x=>Heap.get?_push_of_some _ (by rw [← hg]; exact Heap.get?_push_of_some _ x)⟩
def tI (K : PySem.W.Frag) (a : Addr) : It :=
  ⟨fun i H => ∃ xs x, SqT K H a xs ∧ xs[i]? = some x,
   fun i H v H' => ∃ T x, v = .ref T ∧ H T = none ∧ H' = D5 H T (.tup [.int (i : Int), x]) ∧ ∀ xs, SqT K H a xs → xs[i]? = some x,
   fun i H => ∃ xs, SqT K H a xs ∧ xs.length ≤ i⟩
def BC8 (e it a : Addr) (i : Nat) (h : Heap) : Prop := (∃ old,IsEnum h e it (i : Int) old) ∧ h.IsTupleIter it a i
theorem vP {P : Program} {w : World} {K : PySem.W.Frag} {elts : List Expr} {x1 : Nat} {pos : Pos} (e it a : Addr) (hne : e ≠ it) : hW P w K (.Tuple elts x1 pos) (tI K a) [e,it] e (BC8 e it a) where
 mem := by simp
 obj := fun i h st c hc=>by
  obtain ⟨⟨old,he⟩,⟨o1,e1,_,d1⟩⟩ := st
  simp only [List.mem_cons,List.not_mem_nil,or_false] at hc
  rcases hc with rfl | rfl
  ·exact ⟨_,he,fun v y=>by cases y⟩
  ·exact ⟨o1,e1,fun v y=>by rw [d1] at y; cases y⟩
 keep := fun i h h' st k=>by
  obtain ⟨⟨old,he⟩,h1⟩ := st
  exact ⟨⟨old,k e (by simp) _ he⟩,h1.at fun o q=>k it (by simp) o q⟩
 item := by
  intro X hP hw hK hc i pins s σ H E I hf st hg
  subst hP hw hK
  obtain ⟨xs,x,ha,hx⟩ := hg
  obtain ⟨⟨old,he⟩,h1⟩ := st
  obtain ⟨its1,rv1,p1,z1⟩ := I.tuple ha
  obtain ⟨u1,hu1,ru1⟩ := rv1.get hx
  have pT : s.heap.IsTuple a its1.toArray := p1
  have hai : a ≠ it := fun z=>by
   obtain ⟨o1,q1,c1,_⟩ := h1
   obtain ⟨o2,q2,c2,_⟩ := pT
   rw [z,q1] at q2; cases q2
   rw [c1] at c2
   exact absurd c2 (by decide)
  have hea : e ≠ a := fun z=>by
   obtain ⟨o2,q2,c2,_⟩ := pT
   rw [← z,he] at q2; cases q2
   exact absurd (show Value.type "enumerate" = Value.type "tuple" from c2) (by decide)
  have hil : i < its1.toArray.size := by
   have := (List.getElem?_eq_some_iff.mp hu1).1
   simpa using this
  refine wpAny_pyNext_enum_itemD (AX3 (A := X.A.in1) (I.ok.hd hc) it a hai its1.toArray) he ⟨h1,pT⟩ hil hne (by simp [hne,hea]) fun y h' tk py a1 a2 a3 a4 a5=>⟨_,rfl,wpAny_letOwnedTupleGo_enum (s := { s with heap := h',toks := tk + 1 }) a1 fun h2' b1 sb=>?_⟩
  have ey : y = u1 := by
   have py : its1.toArray[i]? = some y := py
   rw [show its1.toArray[i]? = some u1 by simpa using hu1] at py
   exact (Option.some.inj py).symm
  subst ey
  have hNe : s.heap.objs.size ≠ e := Nat.ne_of_gt (Heap.lt_size he)
  have hNi : s.heap.objs.size ≠ it := by obtain ⟨o1,e1,_⟩ := h1; exact Nat.ne_of_gt (Heap.lt_size e1)
  have kk : ∀ c o,c ∉ [e,it] → s.heap.get? c = some o → h2'.get? c = some o := fun c o hc q=>by
   simp only [List.mem_cons,List.not_mem_nil,or_false,not_or] at hc
   exact sb.extBut c o hc.1 (a5 c o hc.1 hc.2 q)
  refine ⟨.ref s.heap.objs.size,D5 H s.heap.objs.size (.tup [.int (i : Int),x]),(show Inv X pins σ (D5 H s.heap.objs.size (.tup [.int (i : Int),x])) { s with heap := h2',toks := tk + 1 } from I.turnedN (t' := tk + 1) (ch := [e,it]) (us := [.int (i : Int) tk,y]) hf kk (Nat.le_refl _) (by show 2 ≤ sizeLine; decide) (.cons ⟨_,rfl⟩ (.cons ru1 .nil)) ⟨_,sb.extBut _ _ hNe a3,rfl,_,rfl⟩),rfl,
   ⟨s.heap.objs.size,x,rfl,I.hok.fresh (Nat.le_refl _),rfl,fun xs' hx'=>by rw [I.tuple_inj hx' ha]; exact hx⟩,⟨⟨_,b1⟩,?_⟩,fun c hc=>?_⟩
  ·obtain ⟨o1,q1,r1⟩ := a2.1
   exact ⟨o1,sb.extBut _ _ (Ne.symm hne) q1,r1⟩
  have hcN : c ≠ s.heap.objs.size := by
   simp only [List.mem_cons,List.not_mem_nil,or_false] at hc
   rcases hc with rfl | rfl
   ·exact Ne.symm hNe
   ·exact Ne.symm hNi
  rw [B5 hcN]
  exact (hf c hc).1
 done := by
  intro X hP hw hK hc i pins s σ H E I hf st hg
  subst hP hw hK
  obtain ⟨xs,ha,hend⟩ := hg
  obtain ⟨⟨old,he⟩,h1⟩ := st
  obtain ⟨its1,rv1,p1,z1⟩ := I.tuple ha
  have pT : s.heap.IsTuple a its1.toArray := p1
  have l1 := rv1.length
  have hT : s.TypeIs (.ref e) "enumerate" := ⟨_,he,rfl⟩
  obtain ⟨f0,f1,f2,f3,f4,f5⟩ := hf it (by simp)
  unfold pyNext
  refine wpAny_bind (wpAny_attempt (wpAny_callSpecial?_slot (name := Str.ofString "__next__") hT F.slot_enumerate_next (wpAny_call_entry F.slot_enumerate_next hT F.entry_enumerate_next ?_ (F.args_enumerate_next_1 _))))
  refine wpAny_bind (m := field (.ref e) 2) (wpAny_field he rfl (x := .ref it) rfl (wpAny_bind (pF (I.ok.hd hc) h1 pT (by simp; omega) fun h' x eb ⟨o,ho,hc'⟩=>?_)))
  exact wpAny_bind (wpAny_isInstance (T := "StopIteration") (b := true) ⟨o,ho,hc'⟩ isSubtype_stop (wpAny_pure ⟨rfl,I.turned (t' := s.toks) (fun b o hb e=>eb b o hb e) f0 f1 f3 f4 f5⟩))
 self := fun _ _ _ _ _ st h=>by
  obtain ⟨⟨old,he⟩,_⟩ := st
  exact wpAny_pyIter_enum he h
def AW8 (K : PySem.W.Frag) (ta : TA) : TI := fun σ H R=>ta σ H fun vs H1=>∃ a,vs = [.ref a] ∧ (∃ xs,SqT K H1 a xs) ∧ R (tI K a) H1
theorem AB5 {X : Cx} {elts : List Expr} {x1 : Nat} {tpos : Pos} {a : Expr} {ta : TA} {p pos : Pos} (hg : Gl X "enumerate") (hm : X.mg "enumerate" = none) (ha : PA X [a] ta) (hs : starEach [a] X.env = [(false,eval a X.env)] := by rfl) :
  PI X (.Tuple elts x1 tpos) (.Call (.Name "enumerate" p) [a] [] pos) (AW8 X.K ta) := by
 intro pins s σ H R I h
 refine Call_ (fV I hg hm vF (PyProof.Rows.callWith_type1 (G0 (ha pos pins s σ H _ I h) fun us s1 ⟨vs,H1,I1,r1,q1⟩=>?_) hs rfl))
 obtain ⟨a,e,⟨xs,hx⟩,q⟩ := q1
 subst e
 cases r1 with
 | cons r rr =>
  cases rr
  cases r
  obtain ⟨its1,rv1,p1,z1⟩ := I1.tuple hx
  refine wW (show s1.heap.IsTuple a its1.toArray from p1) fun h' he hi hk=>?_
  refine wpAny_pyIter_enum (s := { s1 with heap := h' }) he ⟨s1.heap.objs.size + 1,[s1.heap.objs.size + 1,s1.heap.objs.size],_,_,H1,rfl,I1.kept (t' := s1.toks) hk,vP _ _ a (Nat.ne_of_gt (Nat.lt_succ_self _)),⟨⟨_,he⟩,hi⟩,fun c hc=>?_,q⟩
  have hge : s1.heap.objs.size ≤ c := by
   simp only [List.mem_cons,List.not_mem_nil,or_false] at hc
   rcases hc with h | h
   ·rw [h]; exact Nat.le_add_right _ _
   ·rw [h]; exact Nat.le_refl _
  exact I1.fpOk hge (I1.hok.fresh hge)
theorem zA {K : PySem.W.Frag} {a : Addr} {xs : List V} {g : TG} {tb : TS} {D : eU} {σ : St} {H : Hp} (Pv : Nat → St → Hp → Prop) (h0 : Pv 0 σ H) (hl : ∀ i σ H,Pv i σ H → SqT K H a xs)
  (hs : ∀ i x σ H T,xs[i]? = some x → Pv i σ H → H T = none → g (.ref T) σ (D5 H T (.tup [.int (i : Int),x])) fun σ2 H2=>tb { D with nx := Pv (i + 1),ct := Pv (i + 1),bk := D.nx } σ2 H2) (hd : ∀ σ H,Pv xs.length σ H → D.nx σ H) :
  ∃ W : Nat → Nat → St → Hp → Prop,(∃ m,W 0 m σ H) ∧ ∀ i m σ H,W i m σ H →
   ((tI K a).stop i H ∧ D.nx σ H) ∨ ((tI K a).go i H ∧ ∃ N : St → Hp → Prop,(∀ σ' H',N σ' H' → ∃ m',m' < m ∧ W (i + 1) m' σ' H') ∧ ∀ x H',(tI K a).yld i H x H' → g x σ H' fun σ2 H2=>tb { D with nx := N,ct := N,bk := D.nx } σ2 H2) := by
 refine ⟨fun i m σ H=>m = xs.length - i ∧ i ≤ xs.length ∧ Pv i σ H,⟨xs.length,by simp,Nat.zero_le _,h0⟩,?_⟩
 rintro i m σ H ⟨rfl,hi,p⟩
 have qa := hl i σ H p
 by_cases hlt : i < xs.length
 ·refine .inr ⟨⟨xs,xs[i],qa,by simp [hlt]⟩,Pv (i + 1),fun σ' H' p'=>⟨xs.length - (i + 1),by omega,rfl,hlt,p'⟩,fun x H' y=>?_⟩
  obtain ⟨T,x',rfl,hT,rfl,hxy⟩ := y
  exact hs i x' σ _ T (hxy xs qa) p hT
 ·have e : i = xs.length := by omega
  subst e
  exact .inl ⟨⟨xs,qa,Nat.le_refl _⟩,hd σ H p⟩
end L2
namespace Law
open PySem L2 L2.Sp
section
variable {P : Program} {w : World} {K : PySem.W.Frag} {mg : Str → Option Value} {base : Heap} {f : Addr} {fd : FuncData}
def rH : Sp := fun args H Q _=>∃ (st : Addr) (x : Int) (m : Nat),args = [.ref st,.int (m : Int)] ∧ H st = some (.lst [.int x]) ∧ m ≤ 100 ∧ ∀ (H' : Hp) (l : Addr) (ns : List Wd),DS st H H' → H l = none → H' l = some (.lst (ST ns)) → ns.Nodup → ns.length ≤ m → (∀ n ∈ ns,P9 n) → (0 < m → ns ≠ []) → Q (.ref l) H'
theorem AN3 (F : Fun K "_law_names" "_law_names" iN f fd) (N : Cal P w K mg base 3 "_law_name" ["_law_state"] kR) (m1 : mg "range" = none) : FnOk P w K mg base K5 4 f fd ["_law_state","_law_many"] rH := by
 refine F.ok dH (fun vs H Q E h=>?_) (fun cdv A outer s H vs Q E hr h=>?_)
 ·obtain ⟨st,x,m,rfl,_⟩ := h
  rfl
 obtain ⟨st,x,m,rfl,hs,hm,q⟩ := h
 refine ⟨_,A7 (B7 (i := 2) dH.nd rfl (Or.inl rfl) (E3 A5))
  (A7 (R4 PassesOwn.never rfl (O0 rfl m1 (A0 (pv 1) A5)) (K0 (i := 3) dH.nd rfl (Or.inl rfl))
   (A7 (B7 (i := 4) dH.nd rfl (Or.inl rfl) (B4 N hr rfl (A0 (pv 0) A5)))
   (A9 (E5 (B9 cP (pv 4) (pv 2) rfl) (A9 (K2 (O9 PySem.F.plainAttrs_list PySem.F.slot_list_append PySem.F.type_list_append K4 (pv 2) (A0 (pv 4) A5)))) D6))))
  (A9 (B6 (pv 2)))),?_⟩
 have D0 := DS.start hs
 refine ⟨T7,fun l hl=>?_⟩
 have D1 := D0.put (o := .lst []) hl
 refine ⟨_,rfl,(m : Int),rfl,by omega,by omega,?_⟩
 refine Z7 (fun i σ H'=>∃ (ns : List Wd) (b3 b4 : Option V),σ = [some (.ref st),some (.int (m : Int)),some (.ref l),b3,b4] ∧ DS st H H' ∧ H' l = some (.lst (ST ns)) ∧ ns.Nodup ∧ ns.length ≤ i ∧ (∀ n ∈ ns,P9 n) ∧ (0 < i → ns ≠ []))
  ⟨[],none,none,rfl,D1,A6,List.nodup_nil,Nat.le_refl _,fun n hn=>(by cases hn),fun z=>absurd z (by decide)⟩ (fun i σ H' hi hinv=>?_) (fun σ H' hinv=>?_)
 ·obtain ⟨ns,b3,b4,rfl,d,hl',hd,hlen,hok,hnn⟩ := hinv
  obtain ⟨y,hy⟩ := d.s
  have nl := d.ne hl
  refine ⟨_,rfl,st,y,rfl,hy,fun H2 v d2 hv=>?_⟩
  have d' := d.more d2
  have hl2 := d2.g _ _ nl hl'
  refine ⟨_,rfl,_,rfl,l,_,rfl,.inl (SqL.of hl2),rfl,kF _,_,rfl,?_⟩
  show if (!cV (.str (S v)) (ST ns)) = true then _ else _
  rw [iZ]
  by_cases e : v ∈ ns
  ·rw [decide_eq_true e]
   exact D7 ⟨ns,_,_,rfl,d',hl2,hd,by omega,hok,fun _ z=>by rw [z] at e; cases e⟩
  ·rw [decide_eq_false e]
   refine E8 ⟨_,rfl,.inl ⟨rfl,_,SqL.of hl2⟩,_,rfl,l,_,_,rfl,rfl,hl2,by rw [List.length_map]; exact O7 (by omega),ns ++ [v],some (.int (0 + (i : Int))),_,rfl,d'.put hl,?_,?_,by rw [List.length_append,List.length_singleton]; omega,fun n hn=>?_,fun _=>by simp⟩
   ·rw [A6]; simp [ST]
   ·rw [List.nodup_append]
    exact ⟨hd,by simp,fun a ha b hb=>by rw [List.mem_singleton.mp hb]; exact fun z=>e (z ▸ ha)⟩
   ·rcases List.mem_append.mp hn with z | z
    ·exact hok n z
    ·rw [List.mem_singleton.mp z]; exact hv
 ·obtain ⟨ns,b3,b4,rfl,d,hl',hd,hlen,hok,hnn⟩ := hinv
  exact ⟨_,rfl,q H' l ns d hl hl' hd hlen hok hnn⟩
def rG (K : PySem.W.Frag) : Sp := fun args H Q _=>∃ (p : Addr) (ns : List Wd),args = [.ref p] ∧ H p = some (.lst (ST ns)) ∧ ns.length ≤ 100 ∧ ∀ (H' : Hp) (l : Addr),Same H H' → H l = none → H' l = some (.lst (ST (G1 ns))) → Q (.ref l) H'
theorem AN1 (F : Fun K "_law_path_words" "_law_path_words" iM f fd) (m1 : mg "int" = none) (m2 : mg "len" = none) : FnOk P w K mg base K5 1 f fd ["_law_path"] (rG K) := by
 refine F.ok dG (fun vs H Q E h=>?_) (fun cdv A outer s H vs Q E hr h=>?_)
 ·obtain ⟨p,ns,rfl,_⟩ := h
  rfl
 obtain ⟨p,ns,rfl,hp,hn,q⟩ := h
 refine ⟨_,A7 (B7 (i := 1) dG.nd rfl (Or.inl rfl) (E3 A5))
  (A7 (R4 PassesOwn.never rfl (bZ (pv 0)) (K0 (i := 2) dG.nd rfl (Or.inl rfl))
   (A9 (Q5 (i := 1) dG.nd rfl (Or.inl rfl) (E4 P6 (P1 fA (E3 (A0 B3 A5)) Z6 (N6 (J0 aY rfl m1 Y3 (A0 (N7 aD (E7 M2 rfl m2 PySem.boot_len (A0 (pv 1) A5)) B1 (B8 _)) A5)))) (E3 (A0 (pv 2) A5))) Y0)))
  (A9 (B6 (pv 1)))),?_⟩
 refine ⟨T7,fun l hl=>?_⟩
 have k0 := A8 hl (.lst [])
 refine ⟨_,rfl,p,rfl,⟨_,SqL.of (k0 _ _ hp)⟩,?_⟩
 refine cW (xs := ST ns) (fun i σ H'=>∃ b2 : Option V,σ = [some (.ref p),some (.ref l),b2] ∧ Same H H' ∧ H' l = some (.lst (ST (G1 (ns.take i))))) ⟨none,rfl,k0,A6⟩ (fun i σ H' _ ⟨_,_,g,_⟩=>SqL.of (g _ _ hp)) (fun i u σ H' hu hinv=>?_) (fun σ H' hinv=>?_)
 ·obtain ⟨b2,rfl,g,hl'⟩ := hinv
  obtain ⟨nm,hnm,rfl⟩ : ∃ nm,ns[i]? = some nm ∧ u = .str (S nm) := by
   rw [List.getElem?_map] at hu
   cases e : ns[i]? with
   | none=>rw [e] at hu; cases hu
   | some z=>rw [e] at hu; cases hu; exact ⟨z,rfl,rfl⟩
  refine ⟨_,rfl,M1,fun l1 hl1=>?_⟩
  rw [AE6]
  have k1 := A8 hl1 (.lst [.str (S [46])])
  have hl1' := k1 _ _ hl'
  refine ⟨_,rfl,l,_,rfl,.inl (SqL.of hl1'),_,_,rfl,rfl,_,rfl,_,rfl,l1,_,rfl,SqL.of A6,fun l2 hl2=>?_⟩
  have hfl : (decide ((0 : Int) < ((ST (G1 (ns.take i))).length : Int))) = decide (ns.take i ≠ []) := by
   rw [Bool.eq_iff_iff,decide_eq_true_iff,decide_eq_true_iff,List.length_map]
   constructor
   ·intro z e; rw [e] at z; exact absurd z (by decide)
   ·intro z
    have := kE (s := [46]) (rows := (ns.take i).map ([·])) (by simpa using z) (fun r hr=>by obtain ⟨n,_,rfl⟩ := List.mem_map.mp hr; simp)
    have := List.length_pos_iff.mpr this
    unfold G1
    omega
  have ecut : cY [V.str (S [46])] none (some (if decide ((0 : Int) < ((ST (G1 (ns.take i))).length : Int)) = true then (1 : Int) else 0)) = ST (if ns.take i = [] then [] else [[46]]) := by
   rw [hfl,hV]
   by_cases e : ns.take i = []
   ·rw [if_pos e,decide_eq_false (fun z=>z e)]; rfl
   ·rw [if_neg e,decide_eq_true e]; rfl
  rw [ecut]
  have k2 := A8 hl2 (.lst (ST (if ns.take i = [] then [] else [[46]])))
  refine ⟨_,rfl,M1,fun l3 hl3=>?_⟩
  have k3 := A8 hl3 (.lst [.str (S nm)])
  have hlen2 : (ST (if ns.take i = [] then [] else [[46]])).length ≤ 1 := by split <;> simp [ST]
  refine ⟨l2,l3,_,_,rfl,rfl,k3 _ _ A6,A6,V3 (by rw [List.length_singleton]; omega),fun l4 hl4=>?_⟩
  have k4 := A8 hl4 (.lst (ST (if ns.take i = [] then [] else [[46]]) ++ [.str (S nm)]))
  have kk := k1.trans (k2.trans (k3.trans k4))
  have hpl := cO (ns.take i)
  rw [List.length_take] at hpl
  refine ⟨l,l4,_,_,rfl,rfl,kk _ _ hl',A6,V3 (by rw [List.length_append,List.length_map,List.length_singleton]; omega),some (.str (S nm)),rfl,fun b o h=>by rw [B5 (D8 h hl)]; exact kk _ _ (g _ _ h),?_⟩
  rw [A6,R9 hnm,pE]
  simp [ST]
 ·obtain ⟨b2,rfl,g,hl'⟩ := hinv
  have e : ns.take (ST ns).length = ns := by rw [List.length_map,List.take_length]
  rw [e] at hl'
  exact ⟨_,rfl,q H' l g hl hl'⟩
def jH (t : Tn) (ns : List Wd) (ts : List Tn) : Prop := t = .tup [.tup (ns.map Tn.str),.tup ts] ∧ ns ≠ [] ∧ ns.length ≤ 4 ∧ (∀ n ∈ ns,P9 n) ∧ ts ≠ [] ∧ ts.length ≤ 7 ∧ ∀ t ∈ ts,GT L4 2 true t
abbrev nX : Stmt := M8 58
theorem wE : E2 ["_law_state","_law_path","_law_many"] ["_law_state"] (B2 nX) := ⟨rfl,rfl,rfl,by decide +kernel,rfl,by decide +kernel,by decide +kernel⟩
theorem AU8 (F : Fun K "_law_row" "_law_row" nX f fd) (N : Cal P w K mg base 1 "_law_next" ["_law_state", "_law_many"] Q3) (NM : Cal P w K mg base 3 "_law_name" ["_law_state"] kR) (TR : Cal P w K mg base 7 "_law_tree" ["_law_state", "_law_deep", "_law_places"] (cE K 2)) (m1 : mg "range" = none) (m2 : mg "tuple" = none) :
    FnOk P w K mg base K5 8 f fd ["_law_state"] (dZ K fun t => ∃ ns ts, jH t ns ts) := by
  refine F.ok wE (fun vs H Q E h => ?_) (fun cdv A outer s H vs Q E hr h => ?_)
  · obtain ⟨st, x, rfl, _⟩ := h
    rfl
  obtain ⟨st, x, rfl, hs, q⟩ := h
  have hr1 := hr.mono (show 1 ≤ 7 by decide)
  have hr3 := hr.mono (show 3 ≤ 7 by decide)
  refine ⟨_, A7 (B7 (i := 1) wE.nd rfl (Or.inl rfl) (J0 K3 rfl m2 O1 (A0 (aN (N' := ["_law_k", "_law_state"]) (fr := [none, some 0]) (own := [0]) ⟨rfl, rfl, rfl, rfl, rfl, rfl, rfl⟩ rfl (O0 rfl m1 (A0 (E4 P4 B1 (B4 N hr1 rfl (A0 (pv 0) (A0 B1 A5)))) A5))
        (fun _ _ _ _ => K0 (i := 0) mB rfl (Or.inl rfl)) (R1 0) (fun _ _ _ _ => U5) (fun _ _ _ _ => B4 NM hr3 rfl (A0 (pv 1) A5))) A5)))
    (A7 (B7 (i := 2) wE.nd rfl (Or.inl rfl) (E4 P4 B1 (B4 N hr1 rfl (A0 (pv 0) (A0 (G7 O3 (E3 (A0 B1 (A0 B1 (A0 B1 A5)))) (B4 N hr1 rfl (A0 (pv 0) (A0 B1 A5))) (fun _ _ => rfl)) A5)))))
    (A9 (B6 (L0 (A0 (pv 1) (A0 (J0 K3 rfl m2 O1 (A0 (aN (N' := ["_law_k", "_law_state"]) (fr := [none, some 0]) (own := [0]) ⟨rfl, rfl, rfl, rfl, rfl, rfl, rfl⟩ rfl (O0 rfl m1 (A0 (pv 2) A5))
        (fun _ _ _ _ => K0 (i := 0) mB rfl (Or.inl rfl)) (R1 0) (fun _ _ _ _ => U5) (fun _ _ _ _ => B4 TR hr rfl (A0 (pv 1) (A0 B1 (A0 P2 A5))))) A5)) A5)))))), ?_⟩
  have D0 := DS.start hs
  refine ⟨_, rfl, st, x, 4, rfl, hs, by decide, fun y1 r b0 b1 => ?_⟩
  have D1 := D0.next y1
  obtain ⟨c, rfl⟩ := Int.eq_ofNat_of_zero_le b0
  refine ⟨_, _, rfl, rfl, ((1 + c : Nat) : Int), by rw [show ((1 + c : Nat) : Int) = 1 + (c : Int) by omega], by omega, by omega, fun l hl => ?_⟩
  have hl0 := D1.old hl
  refine R8 (fun i ys H' => DS st H H' ∧ H' l = some (.lst ys) ∧ ∃ ns, ys = ST ns ∧ ns.length = i ∧ ∀ n ∈ ns, P9 n) ⟨D1.put hl0, A6, [], rfl, rfl, fun n hn => (by cases hn)⟩ (fun i ys H' hi hinv => ?_) (fun ys H' hinv => ?_)
  · obtain ⟨d, hl', ns, rfl, hlen, hok⟩ := hinv
    obtain ⟨y3, hy3⟩ := d.s
    have nl := d.ne hl0
    dsimp only [U4, U0]
    refine cD ⟨_, rfl, st, y3, rfl, hy3, fun H4 v d4 hv => ?_⟩
    refine ⟨d4.g _ _ nl hl', by rw [List.length_map]; exact O7 (by omega), (d.more d4).put hl0, A6, ns ++ [v], by simp [ST], by simp [hlen], fun m hm => ?_⟩
    rcases List.mem_append.mp hm with z | z
    · exact hok m z
    · rw [List.mem_singleton.mp z]; exact hv
  obtain ⟨d, hl', ns, rfl, hlen, hok⟩ := hinv
  refine ⟨l, _, rfl, .inl ⟨SqL.of hl', fun p hp => ?_⟩⟩
  have k1 := A8 hp (.tup (ST ns))
  have d2 := d.same k1
  have hp0 := d.old hp
  have np := d.ne hp0
  refine ⟨_, rfl, Y7, fun l3 hl3 => ?_⟩
  have k3 := A8 hl3 (.lst [.int 3, .int 3, .int 7])
  have d3 := d2.same k3
  have nl3 := d2.ne (d2.old hl3)
  obtain ⟨y3, hy3⟩ := d3.s
  refine ⟨_, rfl, st, y3, 3, rfl, hy3, by decide, fun y4 r2 c0 c1 => ?_⟩
  have d4 := d3.next y4
  obtain ⟨y5, hy5⟩ := d4.s
  obtain ⟨m, hm, hat⟩ : ∃ m : Int, 0 < m ∧ m ≤ 7 ∧ aK [V.int 3, .int 3, .int 7] r2 = some (.int m) := by
    have : r2 = 0 ∨ r2 = 1 ∨ r2 = 2 := by omega
    rcases this with e | e | e <;> rw [e]
    · exact ⟨3, by decide, by decide, rfl⟩
    · exact ⟨3, by decide, by decide, rfl⟩
    · exact ⟨7, by decide, by decide, rfl⟩
  refine ⟨l3, _, _, .int m, rfl, rfl, SqL.of (by rw [B5 nl3]; exact A6), hat.2, st, y5, m, rfl, hy5, hm, fun y6 r3 e0 e1 => ?_⟩
  have d5 := d4.next y6
  obtain ⟨c2, rfl⟩ := Int.eq_ofNat_of_zero_le e0
  have hp5 : SqT K (D5 (D5 (D5 (D5 H' p (.tup (ST ns))) l3 (.lst [.int 3, .int 3, .int 7])) st (.lst [.int y4])) st (.lst [.int y6])) p (ST ns) := SqT.of (by rw [B5 np, B5 np]; exact k3 _ _ A6)
  have hat7 := hat.1
  refine ⟨_, _, rfl, rfl, _, rfl, _, rfl, ((1 + c2 : Nat) : Int), by show [V.int (1 + (c2 : Int))] = _; rw [show ((1 + c2 : Nat) : Int) = 1 + (c2 : Int) by omega], by omega, by omega, fun l4 hl4 => ?_⟩
  have hl40 := d5.old hl4
  refine R8 (fun i ys H'' => mT K (GT L4 2 true) st H H'' l4 ys i ∧ SqT K H'' p (ST ns)) ⟨⟨d5.put hl40, A6, [], TAll.nil, rfl, fun t ht => (by cases ht)⟩, (A8 hl4 _).seqT hp5⟩ (fun i ys H'' hi hinv => ?_) (fun ys H'' hinv => ?_)
  · obtain ⟨⟨d6, hl', ts, hts, hlen2, hok2⟩, hp6⟩ := hinv
    obtain ⟨y7, hy7⟩ := d6.s
    have nl := d6.ne hl40
    dsimp only [U4, U0]
    refine cD ⟨_, rfl, st, y7, true, rfl, hy7, fun H7 t v d7 ht hv => ?_⟩
    have hl7 := d7.g _ _ nl hl'
    have kl := Kp.lst (K := K) (o := .lst (ys ++ [v])) hl7
    refine ⟨hl7, O7 (by rw [hts.length]; omega), ⟨(d6.more d7).put hl40, A6, ts ++ [t], ((hts.kp d7.kp).kp kl).append (TAll.one (TV.kp kl hv)), by simp [hlen2], fun m hm => ?_⟩, kl _ _ (d7.kp _ _ hp6)⟩
    rcases List.mem_append.mp hm with z | z
    · exact hok2 m z
    · rw [List.mem_singleton.mp z]; exact ht
  · obtain ⟨⟨d6, hl', ts, hts, hlen2, hok2⟩, hp6⟩ := hinv
    refine ⟨l4, _, rfl, .inl ⟨SqL.of hl', fun p2 hp2 => ⟨T6, fun p3 hp3 => ?_⟩⟩⟩
    have g1 := A8 hp2 (.tup ys)
    have g2 := A8 hp3 (.tup [.ref p, .ref p2])
    refine q _ _ _ (d6.same (g1.trans g2)) ⟨ns, ts, rfl, fun z => by rw [z] at hlen; simp at hlen; omega, by omega, hok, fun z => by rw [z] at hlen2; simp at hlen2; omega, by omega, hok2⟩ ?_
    exact TV.tup (SqT.of A6) (TAll.cons (TV.tup ((g1.trans g2).seqT hp6) (TAll.strs ns)) (TAll.one (TV.tup (SqT.of (g2 _ _ A6)) (hts.kp (Kp.same (g1.trans g2))))))
def cJ : List (List Wd) → List Wd
 | []=>[]
 | w :: ws=>[58] :: (w ++ tails K6 ws)
theorem xQ (wss : List (List Wd)) (w : List Wd) : cJ (wss ++ [w]) = cJ wss ++ ((if wss = [] then [58] else K6) :: w) := by
 cases wss with
 | nil=>simp [cJ,tails]
 | cons a b=>simp [cJ,tails]
theorem AA9 {k : Nat} {wss : List (List Wd)} (h : ∀ w ∈ wss,w.length ≤ k) : (cJ wss).length ≤ wss.length * (k + 1) := by
 cases wss with
 | nil=>exact Nat.zero_le _
 | cons a b =>
  have h1 := h a (by simp)
  have h2 := iD (s := K6) (b := k) (rows := b) fun r hr=>h r (by simp [hr])
  simp only [cJ,List.length_cons,List.length_append,Nat.succ_mul]
  omega
abbrev nG : Stmt := M8 59
theorem lS : E2 ["_law_row_here","_law_state","_law_words_here","_law_k","_law_tree_here"] ["_law_row_here","_law_state"] (B2 nG) := ⟨rfl,rfl,rfl,by decide +kernel,rfl,by decide +kernel,by decide +kernel⟩
theorem X6 : (Str.ofString ":" : Str) = S [58] := by decide +kernel
def vV (K : PySem.W.Frag) : Sp := fun args H Q _=>∃ (v : V) (st : Addr) (x : Int) (t : Tn) (ns : List Wd) (ts : List Tn),args = [v,.ref st] ∧ H st = some (.lst [.int x]) ∧ jH t ns ts ∧ TV K H t v ∧
 ∀ (H' : Hp) (l : Addr) (wss : List (List Wd)),DS st H H' → H l = none → H' l = some (.lst (ST (G1 ns ++ cJ wss))) → All2 (PrW L4 2 true) ts wss → Q (.ref l) H'
theorem zP {α β : Type} {F : α → β → Prop} {as : List α} {bs : List β} {i : Nat} {a : α} {b : β} (h : All2 F (as.take i) bs) (ha : as[i]? = some a) (hb : F a b) : All2 F (as.take (i + 1)) (bs ++ [b]) := by
 rw [R9 ha]; exact h.snoc hb
theorem AT6 (F : Fun K "_law_row_words" "_law_row_words" nG f fd) (PTW : Cal P w K mg base 1 "_law_path_words" ["_law_path"] (jM K)) (WS : Cal P w K mg base 9 "_law_words" ["_law_tree_here","_law_state"] (rF K 2)) (m1 : mg "int" = none) (m2 : mg "enumerate" = none) :
  FnOk P w K mg base K5 10 f fd ["_law_row_here","_law_state"] (vV K) := by
 refine F.ok lS (fun vs H Q E h=>?_) (fun cdv A outer s H vs Q E hr h=>?_)
 ·obtain ⟨v,st,x,t,ns,ts,rfl,_⟩ := h
  rfl
 obtain ⟨v,st,x,t,ns,ts,rfl,hs,⟨rfl,hn0,hn4,hnok,ht0,ht7,htok⟩,hv,q⟩ := h
 have hr1 := hr.mono (show 1 ≤ 9 by decide)
 refine ⟨_,A7 (B7 (i := 2) lS.nd rfl (Or.inl rfl) (B4 PTW hr1 rfl (A0 (G7 O8 (pv 0) B1 (fun _ _=>rfl)) A5)))
  (A7 (R4 PassesOwn.never rfl (AB5 rfl m2 (A0 (G7 O8 (pv 0) B1 (fun _ _=>rfl)) A5)) (sA (n := 2) rfl (Y5 (K0 (i := 3) lS.nd rfl (Or.inl rfl)) (Y5 (K0 (i := 4) lS.nd rfl (Or.inl rfl)) oA)))
   (A9 (Q5 (i := 2) lS.nd rfl (Or.inl rfl) (E4 P6 (G7 O3 (E3 (A0 (E3 (A0 B3 A5)) (A0 (E3 (A0 B3 A5)) A5))) (J0 aY rfl m1 Y3 (A0 (N7 aD (pv 3) B1 (B8 _)) A5)) (fun _ _=>rfl)) (B4 WS hr rfl (A0 (pv 4) (A0 (pv 1) A5)))) Y0)))
  (A9 (B6 (pv 2)))),?_⟩
 have D0 := DS.start hs
 simp only [TV,TAll] at hv
 obtain ⟨p,ys,rfl,hp,_,_,rfl,⟨pa,va,rfl,hpa,hva⟩,_,_,rfl,⟨pt,vt,rfl,hpt,hvt⟩,rfl⟩ := hv
 have eva := gC hva
 subst eva
 refine ⟨_,rfl,p,_,_,.ref pa,rfl,rfl,hp,rfl,pa,ns,rfl,hpa,by omega,fun H1 l g1 hl0 hl1=>?_⟩
 have d1 := D0.same g1
 have nl : l ≠ st := D0.ne hl0
 refine ⟨_,rfl,p,_,_,.ref pt,rfl,rfl,g1.seqT hp,rfl,pt,rfl,⟨_,g1.seqT hpt⟩,?_⟩
 refine zA (xs := vt) (fun i σ H'=>∃ (wss : List (List Wd)) (b3 b4 : Option V),σ = [some (.ref p),some (.ref st),some (.ref l),b3,b4] ∧ DS st H H' ∧ SqT K H' pt vt ∧ TAll K H' ts vt ∧ H' l = some (.lst (ST (G1 ns ++ cJ wss))) ∧ All2 (PrW L4 2 true) (ts.take i) wss)
  ⟨[],none,none,rfl,d1,g1.seqT hpt,hvt.kp (Kp.same g1),by show _ = some (HO.lst (ST (G1 ns ++ []))); rw [List.append_nil]; exact hl1,.nil⟩ (fun i σ H' hinv=>?_) (fun i u σ H' T hu hinv hT=>?_) (fun σ H' hinv=>?_)
 ·obtain ⟨_,_,_,_,_,hq,_⟩ := hinv
  exact hq
 ·obtain ⟨wss,b3,b4,rfl,d,hq,hts,hl',ha⟩ := hinv
  obtain ⟨t,hti,htv⟩ := TAll.get hts hu
  have htm : t ∈ ts := List.mem_of_getElem? hti
  have hil : i < ts.length := (List.getElem?_eq_some_iff.mp hti).1
  have hwl : wss.length = i := by have := ha.length; rw [List.length_take] at this; omega
  have gT := A8 hT (.tup [.int (i : Int),u])
  have dT := d.same gT
  refine ⟨T,_,rfl,SqT.of A6,rfl,_,_,rfl,_,_,rfl,rfl,?_⟩
  refine ⟨_,rfl,M1,fun la hla=>⟨M1,fun lb hlb=>⟨T6,fun lc hlc=>?_⟩⟩⟩
  rw [X6] at hlb hlc
  rw [dR] at hlc
  rw [X6,dR]
  have ga := A8 hla (.lst [.str (S [58])])
  have gb := A8 hlb (.lst [.str (S K6)])
  have gc := A8 hlc (.lst [.ref la,.ref lb])
  have gg := gT.trans (ga.trans (gb.trans gc))
  have dC := d.same gg
  obtain ⟨y3,hy3⟩ := dC.s
  obtain ⟨ls,hls,hat⟩ : ∃ ls : Addr,(D5 (D5 (D5 (D5 H' T (.tup [.int (i : Int),u])) la (.lst [.str (S [58])])) lb (.lst [.str (S K6)])) lc (.lst [.ref la,.ref lb])) ls = some (.lst (ST [if wss = [] then [58] else K6])) ∧
    aK [V.ref la,.ref lb] (if decide ((0 : Int) < (i : Int)) = true then (1 : Int) else 0) = some (.ref ls) := by
   by_cases e : wss = []
   ·have : i = 0 := by rw [← hwl,e]; rfl
    subst this
    exact ⟨la,by rw [if_pos e]; exact gc _ _ (gb _ _ A6),rfl⟩
   ·have : 0 < i := by rw [← hwl]; exact List.length_pos_iff.mpr e
    refine ⟨lb,by rw [if_neg e]; exact gc _ _ A6,?_⟩
    rw [decide_eq_true (show (0 : Int) < (i : Int) by omega)]
    rfl
  refine ⟨_,rfl,_,_,rfl,rfl,_,rfl,lc,_,_,.ref ls,rfl,rfl,SqL.of A6,hat,?_⟩
  refine ⟨_,rfl,_,rfl,u,st,y3,true,t,rfl,hy3,htok t htm,TV.kp (Kp.same gg) htv,fun H4 lw ws d4 hlw0 hlw hw=>?_⟩
  have dd := dC.more d4
  have nls : ls ≠ st := fun e=>by rw [e,hy3] at hls; simp [ST] at hls
  have hls4 := d4.g _ _ nls hls
  have hl4 := d4.g _ _ nl (gg _ _ hl')
  have hws := fU (by decide) hw
  refine ⟨ls,lw,_,_,rfl,rfl,hls4,hlw,M5 (by rw [List.length_map,List.length_map,List.length_singleton]; omega),fun l5 hl5=>?_⟩
  have g5 := A8 hl5 (.lst (ST [if wss = [] then [58] else K6] ++ ST ws))
  have hl05 : H l5 = none := dd.old hl5
  have hpl := cO ns
  have hrl := AA9 (k := 1609) (wss := wss) fun w hw'=>by
   obtain ⟨j,hj⟩ := List.getElem?_of_mem hw'
   have : ∀ b ∈ wss,b.length ≤ 1609 := ha.right fun a b h=>fU (by decide) h
   exact this w hw'
  refine ⟨l,l5,_,_,rfl,rfl,g5 _ _ hl4,A6,M5 ?_,wss ++ [ws],_,_,rfl,(dd.same g5).put hl0,?_,?_,?_,zP ha hti hw⟩
  ·simp only [List.length_append,List.length_map,List.length_singleton]
   have : wss.length * (1609 + 1) ≤ 7 * 1610 := Nat.mul_le_mul (by omega) (Nat.le_refl _)
   omega
  ·exact (Kp.lst (K := K) (g5 _ _ hl4)) _ _ (g5.seqT (d4.kp _ _ (gg.seqT hq)))
  ·exact TAll.kp (Kp.lst (g5 _ _ hl4)) (TAll.kp (Kp.same g5) (TAll.kp d4.kp (TAll.kp (Kp.same gg) hts)))
  ·rw [A6,xQ]
   simp [ST]
 ·obtain ⟨wss,b3,b4,rfl,d,hq,hts,hl',ha⟩ := hinv
  have e : ts.take vt.length = ts := by rw [hts.length,List.take_length]
  rw [e] at ha
  exact ⟨_,rfl,q H' l wss d hl0 hl' ha⟩
end
end Law
namespace L2
open PySem PySem.Spec PyProof.Rows
section
variable {X : Cx}
def AX9 (X : Cx) (e : Expr) : TE := fun σ H Q=>∃ t,PE X e t ∧ t σ H Q
theorem AS9 {e : Expr} : PE X e (AX9 X e) := fun pins s σ H Q I ⟨_,h,g⟩=>h pins s σ H Q I g
def AY0 (X : Cx) (es : List Expr) : TA := fun σ H Q=>∃ t,PA X es t ∧ t σ H Q
theorem lX {es : List Expr} : PA X es (AY0 X es) := fun pos pins s σ H Q I ⟨_,h,g⟩=>h pos pins s σ H Q I g
def BH2 (X : Cx) (ss : List Stmt) : TS := fun D σ H=>∃ t,PSs X ss t ∧ t D σ H
theorem M7 {ss : List Stmt} : PSs X ss (BH2 X ss) := fun pins s σ H D I ⟨_,h,g⟩=>h pins s σ H D I g
end
end L2
namespace Law
open PySem L2 L2.Sp
theorem vA : bJ K6 := cT (by decide) (by decide)
theorem AZ3 : bJ eV := cT (by decide) (by decide)
theorem WsF.dt {a : Nat} {n : Wd} {xs : List Wd} (hn : bJ n) (h46 : n.head? ≠ some 46) (h : WsF a xs) : WsF (a + 2) ([46] :: n :: xs) :=
 ⟨fun v hv=>by
  rcases List.mem_cons.mp hv with rfl | hv
  ·exact Q4 (by decide)
  ·rcases List.mem_cons.mp hv with rfl | hv
   ·exact hn
   ·exact h.ok v hv,.dot h46 h.dot,by have := h.len; simp; omega⟩
theorem WsF.sg {a c : Nat} {xs : List Wd} (hc : c ∈ T8) (hne : ([c] : Wd) ≠ [46]) (h : WsF a xs) : WsF (a + 1) ([c] :: xs) := WsF.cons (Q4 hc) hne h
theorem AP8 {B : Nat} {ns T : List Wd} (h0 : ns ≠ []) (h : ∀ n ∈ ns,P9 n) (hl : ns.length ≤ 4) (hT : WsF B T) : ∀ ws ∈ eR (G1 ns) T,WsF (2 * B + 20) ws := by
 have hP := fP h hl
 have c58 : ∀ {a : Nat} {xs : List Wd},WsF a xs → WsF (a + 1) ([58] :: xs) := fun h=>WsF.sg (by decide) (by decide) h
 have c40 : ∀ {a : Nat} {xs : List Wd},WsF a xs → WsF (a + 1) ([40] :: xs) := fun h=>WsF.sg (by decide) (by decide) h
 have c41 : ∀ {a : Nat} {xs : List Wd},WsF a xs → WsF (a + 1) ([41] :: xs) := fun h=>WsF.sg (by decide) (by decide) h
 have c63 : ∀ {a : Nat} {xs : List Wd},WsF a xs → WsF (a + 1) ([63] :: xs) := fun h=>WsF.sg (by decide) (by decide) h
 have c64 : ∀ {a : Nat} {xs : List Wd},WsF a xs → WsF (a + 1) ([64] :: xs) := fun h=>WsF.sg (by decide) (by decide) h
 have ce : ∀ {a : Nat} {xs : List Wd},WsF a xs → WsF (a + 1) (K6 :: xs) := fun h=>WsF.cons vA (by decide) h
 have cz : ∀ {a : Nat} {xs : List Wd},WsF a xs → WsF (a + 1) (eV :: xs) := fun h=>WsF.cons AZ3 (by decide) h
 intro ws hw
 simp only [eR,List.mem_cons,List.not_mem_nil,or_false] at hw
 rcases hw with rfl | rfl | rfl | rfl | rfl | rfl | rfl | rfl | rfl | rfl | rfl | rfl | rfl | rfl
 ·exact (c40 (hT.app (c41 (c58 hT)))).mono (by omega)
 ·exact (hP.app hT).mono (by omega)
 ·exact (hP.app (c58 WsF.nil)).mono (by omega)
 ·exact (hP.app (c58 (hT.app (ce WsF.nil)))).mono (by omega)
 ·exact (hP.app (c58 (ce hT))).mono (by omega)
 ·exact (hP.app (WsF.dt (Q4 (c := 58) (by decide)) (by decide) hT)).mono (by omega)
 ·exact (c58 hT).mono (by omega)
 ·exact (hP.app (c63 (c58 hT))).mono (by omega)
 ·exact (hP.app (c58 (hT.app (cz WsF.nil)))).mono (by omega)
 ·exact (hP.app (c58 (c40 (hT.app (ce (hT.app (c41 WsF.nil))))))).mono (by omega)
 ·exact (c64 (hP.app (c58 hT))).mono (by omega)
 ·obtain ⟨n,ns,rfl⟩ := List.exists_cons_of_ne_nil h0
  have hn := h n (by simp)
  have hP2 : WsF 8 (tails [46] (ns.map ([·]))) := (iQ fun x hx=>h x (by simp [hx])).mono (by simp at hl; omega)
  have := WsF.dt (cT hn.nm (by have := hn.len; omega)) (uO hn.nm) (hP2.app (c58 hT))
  exact WsF.mono (b := 2 * B + 20) this (by omega)
 ·exact (hP.app (c58 (hT.app (c58 hT)))).mono (by omega)
 ·exact (hP.app (c58 (hT.app (ce (ce hT))))).mono (by omega)
def WL (σ : St) (H0 : Hp) (t : TE) (ws : List Wd) (n : Nat) : Prop := ws.length ≤ n ∧ ∀ (H : Hp) (Q : VK),Same H0 H → (∀ l H',Same H H' → H' l = some (.lst (ST ws)) → Q (.ref l) H') → t σ H Q
section
variable {σ : St} {H0 : Hp}
theorem WL.var {i : Nat} {l : Addr} {ws : List Wd} {n : Nat} (hi : σ[i]? = some (some (.ref l))) (hl : H0 l = some (.lst (ST ws))) (hn : ws.length ≤ n) : WL σ H0 (rC i) ws n := ⟨hn,fun H Q g q=>⟨_,hi,q l H bL (g _ _ hl)⟩⟩
theorem WL.go {t : TE} {ws : List Wd} {n : Nat} {H : Hp} {Q : VK} (h : WL σ H0 t ws n) (g : Same H0 H) (q : ∀ l H',Same H H' → H' l = some (.lst (ST ws)) → Q (.ref l) H') : t σ H Q := h.2 H Q g q
theorem WL.mono {t : TE} {ws : List Wd} {n m : Nat} (h : WL σ H0 t ws n) (hm : n ≤ m) : WL σ H0 t ws m := ⟨Nat.le_trans h.1 hm,h.2⟩
theorem WL.cat {a b : TE} {wa wb : List Wd} {n m : Nat} (ha : WL σ H0 a wa n) (hb : WL σ H0 b wb m) (h : n + m ≤ 200000) : WL σ H0 (tU AS4 a b) (wa ++ wb) (n + m) := by
 refine ⟨by rw [List.length_append]; have := ha.1; have := hb.1; omega,fun H Q g q=>ha.2 H _ g fun l H1 g1 hl=>hb.2 H1 _ (g.trans g1) fun l2 H2 g2 hl2=>⟨l,l2,_,_,rfl,rfl,g2 _ _ hl,hl2,M5 ?_,fun p hp=>q p _ (g1.trans (g2.trans (A8 hp _))) ?_⟩⟩
 ·rw [List.length_map,List.length_map]; have := ha.1; have := hb.1; omega
 ·rw [A6]; simp [ST]
theorem WL.s1 {x : Str} {u : Wd} (h : x = S u) : WL σ H0 (rE (jJ (tC (.str x)) bD)) [u] 1 := by
 subst h
 exact ⟨Nat.le_refl _,fun H Q g q=>⟨M1,fun p hp=>q p _ (A8 hp _) A6⟩⟩
theorem WL.s2 {x y : Str} {u v : Wd} (h : x = S u) (h' : y = S v) : WL σ H0 (rE (jJ (tC (.str x)) (jJ (tC (.str y)) bD))) [u,v] 2 := by
 subst h; subst h'
 exact ⟨Nat.le_refl _,fun H Q g q=>⟨T6,fun p hp=>q p _ (A8 hp _) A6⟩⟩
def EWL (X : Cx) (σ : St) (H0 : Hp) (e : Expr) (ws : List Wd) (n : Nat) : Prop := ∃ t,PE X e t ∧ WL σ H0 t ws n
section
variable {X : Cx}
theorem EWL.var (i : Nat) {x : Str} {pos : Pos} {l : Addr} {ws : List Wd} {n : Nat} (hi : σ[i]? = some (some (.ref l))) (hl : H0 l = some (.lst (ST ws))) (hn : ws.length ≤ n) (hN : X.N[i]? = some x := by rfl) (hv : vI X.env.scope x := by first | exact Or.inl rfl | exact Or.inr (Or.inl rfl) | exact Or.inr (Or.inr rfl)) (hd : (x == ("__debug__" : Str)) = false := by decide)
  (hcd : (x == ("__classdict__" : Str)) = false := by decide) : EWL X σ H0 (.Name x pos) ws n := ⟨_,pv i hN hv hd hcd,WL.var hi hl hn⟩
theorem EWL.cat {a b : Expr} {pos : Pos} {wa wb : List Wd} {n m : Nat} (ha : EWL X σ H0 a wa n) (hb : EWL X σ H0 b wb m) (h : n + m ≤ 200000) : EWL X σ H0 (.BinOp a .Add b pos) (wa ++ wb) (n + m) := by
 obtain ⟨ta,pa,wa⟩ := ha
 obtain ⟨tb,pb,wb⟩ := hb
 exact ⟨_,E4 P6 pa pb,WL.cat wa wb h⟩
theorem EWL.s1 {x : Str} {u : Wd} {j} {p pos : Pos} (h : x = S u) : EWL X σ H0 (.List [.Constant (.str x) j p] pos) [u] 1 := ⟨_,E3 (A0 B3 A5),WL.s1 h⟩
theorem EWL.s2 {x y : Str} {u v : Wd} {j j'} {p p' pos : Pos} (h : x = S u) (h' : y = S v) : EWL X σ H0 (.List [.Constant (.str x) j p,.Constant (.str y) j' p'] pos) [u,v] 2 := ⟨_,E3 (A0 B3 (A0 B3 A5)),WL.s2 h h'⟩
end
def LW (H : Hp) (l : Addr) (ws : List Wd) : Prop := H l = some (.lst (ST ws))
theorem LW.same {H H' : Hp} (g : Same H H') {ls : List Addr} {wss : List (List Wd)} (h : All2 (LW H) ls wss) : All2 (LW H') ls wss := by
 induction h with
 | nil=>exact .nil
 | cons a _ ih=>exact .cons (g _ _ a) ih
def WA (σ : St) (H0 : Hp) (t : TA) (wss : List (List Wd)) : Prop := ∀ (H : Hp) (Q : List V → Hp → Prop),Same H0 H → (∀ (ls : List Addr) H',Same H H' → All2 (LW H') ls wss → Q (ls.map V.ref) H') → t σ H Q
theorem WA.nil : WA σ H0 bD [] := fun H Q g q=>q [] H bL .nil
theorem WA.cons {a : TE} {r : TA} {ws : List Wd} {n : Nat} {wss : List (List Wd)} (ha : WL σ H0 a ws n) (hr : WA σ H0 r wss) : WA σ H0 (jJ a r) (ws :: wss) :=
 fun H Q g q=>ha.2 H _ g fun l H1 g1 hl=>hr H1 _ (g.trans g1) fun ls H2 g2 hls=>q (l :: ls) H2 (g1.trans g2) (.cons (g2 _ _ hl) hls)
def EWA (X : Cx) (σ : St) (H0 : Hp) (es : List Expr) (wss : List (List Wd)) : Prop := ∃ t,PA X es t ∧ WA σ H0 t wss
theorem EWA.nil {X : Cx} : EWA X σ H0 [] [] := ⟨_,A5,WA.nil⟩
theorem EWA.cons {X : Cx} {e : Expr} {es : List Expr} {ws : List Wd} {n : Nat} {wss : List (List Wd)} (ha : EWL X σ H0 e ws n) (hr : EWA X σ H0 es wss) (hs : starEach (e :: es) X.env = (false,eval e X.env) :: starEach es X.env := by rfl) : EWA X σ H0 (e :: es) (ws :: wss) := by
 obtain ⟨ta,pa,wa⟩ := ha
 obtain ⟨tb,pb,wb⟩ := hr
 exact ⟨_,A0 pa pb hs,WA.cons wa wb⟩
theorem EWA.wa {X : Cx} {es : List Expr} {wss : List (List Wd)} (h : EWA X σ H0 es wss) : WA σ H0 (AY0 X es) wss := by
 obtain ⟨t,p,w⟩ := h
 exact fun H Q g q=>⟨t,p,w H Q g q⟩
theorem EWL.wl {X : Cx} {e : Expr} {ws : List Wd} {n : Nat} (h : EWL X σ H0 e ws n) : WL σ H0 (AX9 X e) ws n := by
 obtain ⟨t,p,w⟩ := h
 exact ⟨w.1,fun H Q g q=>⟨t,p,w.2 H Q g q⟩⟩
structure LL (H0 H : Hp) (a : Addr) (wss : List (List Wd)) : Prop where
 g : Same H0 H
 n : H0 a = none
 ex : ∃ ls : List Addr,ls ≠ [] ∧ H a = some (.lst (ls.map V.ref)) ∧ All2 (LW H) ls wss
theorem LW.put {H : Hp} {a : Addr} {ls0 : List Addr} {o : HO} (h0 : ls0 ≠ []) (ha : H a = some (.lst (ls0.map V.ref))) {ls : List Addr} {wss : List (List Wd)} (h : All2 (LW H) ls wss) : All2 (LW (D5 H a o)) ls wss := by
 induction h with
 | nil=>exact .nil
 | @cons l ws ls wss x _ ih =>
  refine .cons ?_ ih
  show D5 H a o l = _
  rw [B5]
  ·exact x
  ·intro e
   have x : H l = some (.lst (ST ws)) := x
   rw [e,ha] at x
   obtain ⟨b,bs,rfl⟩ := List.exists_cons_of_ne_nil h0
   cases ws <;> simp [ST] at x
theorem LL.start {t : TA} {wss : List (List Wd)} {H : Hp} {Q : VK} (h : WA σ H0 t wss) (g : Same H0 H) (h0 : wss ≠ []) (hl : wss.length ≤ 1000) (q : ∀ a H',LL H0 H' a wss → Q (.ref a) H') : rE t σ H Q := by
 refine h H _ g fun ls H1 g1 hls=>⟨Nat.le_of_lt (O7 (by rw [List.length_map,hls.length]; exact hl)),fun p hp=>q p _ ⟨g.trans (g1.trans (A8 hp _)),V0 (g.trans g1) hp,ls,fun z=>?_,A6,LW.same (A8 hp _) hls⟩⟩
 subst z
 cases hls
 exact h0 rfl
theorem LL.more {t : TA} {wss wss2 : List (List Wd)} {H : Hp} {a : Addr} {Q : VK} (L : LL H0 H a wss) (h : WA σ H0 t wss2) (hl : wss.length + wss2.length ≤ 1000) (q : ∀ H',LL H0 H' a (wss ++ wss2) → Q (.ref a) H') : rE t σ H fun y H1=>AJ1 (.ref a) y H1 Q := by
 obtain ⟨ls0,h0,ha,hls0⟩ := L.ex
 refine h H _ L.g fun ls H1 g1 hls=>⟨Nat.le_of_lt (O7 (by rw [List.length_map,hls.length]; omega)),fun p hp=>?_⟩
 have gp := A8 hp (.lst (ls.map V.ref))
 have hap := gp _ _ (g1 _ _ ha)
 refine ⟨a,p,_,_,rfl,rfl,hap,A6,Nat.le_of_lt (O7 (by rw [List.length_map,List.length_map,hls.length,hls0.length]; exact hl)),q _ ⟨fun b o hb=>?_,L.n,ls0 ++ ls,by simp [h0],?_,?_⟩⟩
 ·rw [B5 (D8 hb L.n)]; exact gp _ _ (g1 _ _ (L.g _ _ hb))
 ·rw [A6,List.map_append]
 ·have e1 := LW.put (o := .lst (ls0.map V.ref ++ ls.map V.ref)) h0 hap (LW.same gp (LW.same g1 hls0))
  have e2 := LW.put (o := .lst (ls0.map V.ref ++ ls.map V.ref)) h0 hap (LW.same gp hls)
  exact e1.app e2
end
section
variable {P : Program} {w : World} {K : PySem.W.Frag} {mg : Str → Option Value} {base : Heap} {f : Addr} {fd : FuncData}
abbrev nY : Stmt := M8 60
theorem gE : E2 ["_law_state","_law_tree_here","_law_path","_law_some"] ["_law_state"] (B2 nY) := ⟨rfl,rfl,rfl,by decide +kernel,rfl,by decide +kernel,by decide +kernel⟩
def vY (K : PySem.W.Frag) : Sp := fun args H Q _=>∃ (st : Addr) (x : Int),args = [.ref st] ∧ H st = some (.lst [.int x]) ∧
 ∀ (H' : Hp) (l : Addr) (ns T ws : List Wd) (t : Tn),DS st H H' → H' l = some (.lst (ST ws)) → l ≠ st → ns ≠ [] → ns.length ≤ 2 → (∀ n ∈ ns,P9 n) → PrW L4 1 false t T → ws ∈ eR (G1 ns) T → Q (.ref l) H'
theorem AW1 : (Str.ofString "(" : Str) = S [40] := by decide +kernel
theorem AW0 : (Str.ofString ")" : Str) = S [41] := by decide +kernel
theorem lQm : (Str.ofString "?" : Str) = S [63] := by decide +kernel
theorem lZz : (Str.ofString "zz" : Str) = S eV := by decide +kernel
theorem lPt : (Str.ofString "." : Str) = S [46] := by decide +kernel
theorem All2.at {α β : Type} {F : α → β → Prop} {as : List α} {bs : List β} (h : All2 F as bs) {i : Nat} {b : β} (hb : bs[i]? = some b) : ∃ a,as[i]? = some a ∧ F a b := by
 induction h generalizing i with
 | nil=>cases hb
 | @cons x y as bs a _ ih =>
  cases i with
  | zero=>cases hb; exact ⟨_,rfl,a⟩
  | succ i=>exact ih hb
theorem AU9 (F : Fun K "_law_bad" "_law_bad" nY f fd) (N : Cal P w K mg base 1 "_law_next" ["_law_state","_law_many"] Q3) (TR : Cal P w K mg base 6 "_law_tree" ["_law_state","_law_deep","_law_places"] (cE K 1)) (WS : Cal P w K mg base 6 "_law_words" ["_law_tree_here","_law_state"] (rF K 1))
  (NMS : Cal P w K mg base 4 "_law_names" ["_law_state","_law_many"] rH) (PTW : Cal P w K mg base 1 "_law_path_words" ["_law_path"] (rG K)) : FnOk P w K mg base K5 7 f fd ["_law_state"] (vY K) := by
 refine F.ok gE (fun vs H Q E h=>?_) (fun cdv A outer s H vs Q E hr h=>?_)
 ·obtain ⟨st,x,rfl,_⟩ := h
  rfl
 obtain ⟨st,x,rfl,hs,q⟩ := h
 have hr1 := hr.mono (show 1 ≤ 6 by decide)
 have hr4 := hr.mono (show 4 ≤ 6 by decide)
 refine ⟨_,A7 (B7 (i := 1) gE.nd rfl (Or.inl rfl) (B4 WS hr rfl (A0 (B4 TR hr rfl (A0 (pv 0) (A0 B1 (A0 P2 A5)))) (A0 (pv 0) A5)))) M7,?_⟩
 have D0 := DS.start hs
 refine ⟨_,rfl,st,x,false,rfl,hs,fun H1 t v d1 ht hv=>?_⟩
 obtain ⟨y1,hy1⟩ := d1.s
 refine ⟨_,rfl,v,st,y1,false,t,rfl,hy1,ht,hv,fun H2 lt T d2 hlt0 hlt hw=>?_⟩
 obtain ⟨y2,hy2⟩ := d2.s
 refine ⟨_,A7 (B7 (i := 2) gE.nd rfl (Or.inl rfl) (B4 PTW hr1 rfl (A0 (B4 NMS hr4 rfl (A0 (pv 0) (A0 B1 A5))) A5))) M7,?_⟩
 refine ⟨_,rfl,st,y2,2,rfl,hy2,by decide,fun H3 ln ns d3 hln0 hln hnd hn2 hnok hne=>?_⟩
 refine ⟨ln,ns,rfl,hln,by omega,fun H4 lp g4 hlp0 hlp=>?_⟩
 have nlt : lt ≠ st := d2.ne hlt0
 have hlt4 : H4 lt = some (.lst (ST T)) := g4 _ _ (d3.g _ _ nlt hlt)
 have d4 : DS st H H4 := (((D0.more d1).more d2).more d3).same g4
 obtain ⟨y4,hy4⟩ := d4.s
 have hT : T.length ≤ 1609 := fU (by decide) hw
 have hP : (G1 ns).length ≤ 100 := by have := cO ns; omega
 refine ⟨_,A7 (B7 (i := 3) gE.nd rfl (Or.inl rfl) (E3 lX)) M7,?_⟩
 dsimp only [rD,vT]
 refine LL.start (H0 := H4) (wss := [[[40]] ++ T ++ [[41],[58]] ++ T,G1 ns ++ T,G1 ns ++ [[58]],G1 ns ++ [[58]] ++ T ++ [K6]]) ?wa bL (by simp) (by simp) fun ls H5 L5=>?_
 case wa=>exact EWA.wa (EWA.cons ((((EWL.s1 AW1).cat (EWL.var 1 rfl hlt4 hT) (by decide)).cat (EWL.s2 AW0 X6) (by decide)).cat (EWL.var 1 rfl hlt4 hT) (by decide)) (EWA.cons ((EWL.var 2 rfl hlp hP).cat (EWL.var 1 rfl hlt4 hT) (by decide)) (EWA.cons ((EWL.var 2 rfl hlp hP).cat (EWL.s1 X6) (by decide)) (EWA.cons ((((EWL.var 2 rfl hlp hP).cat (EWL.s1 X6) (by decide)).cat (EWL.var 1 rfl hlt4 hT) (by decide)).cat (EWL.s1 dR) (by decide)) EWA.nil))))
 refine ⟨_,A7 (Q5 (i := 3) gE.nd rfl (Or.inl rfl) (E3 lX) Y0) M7,?_⟩
 dsimp only [rD,vS]
 refine ⟨_,rfl,?_⟩
 refine LL.more L5 (wss2 := [G1 ns ++ [[58],K6] ++ T,G1 ns ++ [[46],[58]] ++ T,[[58]] ++ T,G1 ns ++ [[63],[58]] ++ T]) ?wa (by simp) fun H6 L6=>?_
 case wa=>exact EWA.wa (EWA.cons (((EWL.var 2 rfl hlp hP).cat (EWL.s2 X6 dR) (by decide)).cat (EWL.var 1 rfl hlt4 hT) (by decide)) (EWA.cons (((EWL.var 2 rfl hlp hP).cat (EWL.s2 lPt X6) (by decide)).cat (EWL.var 1 rfl hlt4 hT) (by decide)) (EWA.cons ((EWL.s1 X6).cat (EWL.var 1 rfl hlt4 hT) (by decide)) (EWA.cons (((EWL.var 2 rfl hlp hP).cat (EWL.s2 lQm X6) (by decide)).cat (EWL.var 1 rfl hlt4 hT) (by decide)) EWA.nil))))
 refine ⟨_,A7 (Q5 (i := 3) gE.nd rfl (Or.inl rfl) (E3 lX) Y0) M7,?_⟩
 dsimp only [rD,vS]
 refine ⟨_,rfl,?_⟩
 refine LL.more L6 (wss2 := [G1 ns ++ [[58]] ++ T ++ [eV],G1 ns ++ [[58],[40]] ++ T ++ [K6] ++ T ++ [[41]]]) ?wa (by simp) fun H7 L7=>?_
 case wa=>exact EWA.wa (EWA.cons ((((EWL.var 2 rfl hlp hP).cat (EWL.s1 X6) (by decide)).cat (EWL.var 1 rfl hlt4 hT) (by decide)).cat (EWL.s1 lZz) (by decide)) (EWA.cons ((((((EWL.var 2 rfl hlp hP).cat (EWL.s2 X6 AW1) (by decide)).cat (EWL.var 1 rfl hlt4 hT) (by decide)).cat (EWL.s1 dR) (by decide)).cat (EWL.var 1 rfl hlt4 hT) (by decide)).cat (EWL.s1 AW0) (by decide)) EWA.nil))
 refine ⟨_,A7 (Q5 (i := 3) gE.nd rfl (Or.inl rfl) (E3 lX) Y0) M7,?_⟩
 dsimp only [rD,vS]
 refine ⟨_,rfl,?_⟩
 refine LL.more L7 (wss2 := [[[64]] ++ G1 ns ++ [[58]] ++ T,[[46]] ++ G1 ns ++ [[58]] ++ T,G1 ns ++ [[58]] ++ T ++ [[58]] ++ T]) ?wa (by simp) fun H8 L8=>?_
 case wa=>exact EWA.wa (EWA.cons ((((EWL.s1 lAt).cat (EWL.var 2 rfl hlp hP) (by decide)).cat (EWL.s1 X6) (by decide)).cat (EWL.var 1 rfl hlt4 hT) (by decide)) (EWA.cons ((((EWL.s1 lPt).cat (EWL.var 2 rfl hlp hP) (by decide)).cat (EWL.s1 X6) (by decide)).cat (EWL.var 1 rfl hlt4 hT) (by decide)) (EWA.cons (((((EWL.var 2 rfl hlp hP).cat (EWL.s1 X6) (by decide)).cat (EWL.var 1 rfl hlt4 hT) (by decide)).cat (EWL.s1 X6) (by decide)).cat (EWL.var 1 rfl hlt4 hT) (by decide)) EWA.nil)))
 refine ⟨_,A7 (K2 (O9 PySem.F.plainAttrs_list PySem.F.slot_list_append PySem.F.type_list_append K4 (pv 3) (A0 AS9 A5))) M7,?_⟩
 obtain ⟨refs,hr0,hrl,hall⟩ := L8.ex
 refine ⟨_,rfl,.inl ⟨rfl,_,SqL.of hrl⟩,?_⟩
 dsimp only [jJ,bD]
 refine WL.go (ws := G1 ns ++ [[58]] ++ T ++ [K6,K6] ++ T) (n := 5000) ?wa L8.g fun l9 H9 g9 hl9=>⟨ls,_,_,rfl,rfl,g9 _ _ hrl,O7 (by rw [List.length_map,hall.length]; simp),?_⟩
 case wa=>exact WL.mono (EWL.wl (((((EWL.var 2 rfl hlp hP).cat (EWL.s1 X6) (by decide)).cat (EWL.var 1 rfl hlt4 hT) (by decide)).cat (EWL.s2 dR dR) (by decide)).cat (EWL.var 1 rfl hlt4 hT) (by decide))) (by decide)
 refine ⟨_,A9 (B6 (G7 O3 (pv 3) (B4 N hr1 rfl (A0 (pv 0) (A0 B1 A5))) (fun _ _=>rfl))),?_⟩
 have hal9 := LW.put (o := .lst (refs.map V.ref ++ [.ref l9])) hr0 (g9 _ _ hrl) ((LW.same g9 hall).app (.cons (show LW H9 l9 _ from hl9) .nil))
 have g10 : Same H4 (D5 H9 ls (.lst (refs.map V.ref ++ [.ref l9]))) := fun b o hb=>by rw [B5 (D8 hb L8.n)]; exact g9 _ _ (L8.g _ _ hb)
 have d10 := d4.same g10
 obtain ⟨y10,hy10⟩ := d10.s
 refine ⟨_,rfl,_,rfl,st,y10,14,rfl,hy10,by decide,fun y11 r b0 b1=>?_⟩
 have d11 := d10.next y11
 obtain ⟨j,rfl⟩ := Int.eq_ofNat_of_zero_le b0
 have nls : ls ≠ st := Ne.symm (D8 hy4 L8.n)
 have hal : All2 (LW (D5 H9 ls (.lst (refs.map V.ref ++ [.ref l9])))) (refs ++ [l9]) (eR (G1 ns) T) := Eq.mp (congrArg (All2 _ _) (by simp [eR])) hal9
 have hj : j < (eR (G1 ns) T).length := by show j < 14; omega
 obtain ⟨la,hla,hlw⟩ := hal.at (List.getElem?_eq_getElem hj)
 have hlw : (D5 H9 ls (.lst (refs.map V.ref ++ [.ref l9]))) la = some (.lst (ST (eR (G1 ns) T)[j])) := hlw
 have nla : la ≠ st := fun e=>by
  rw [e,hy10] at hlw
  cases hh : (eR (G1 ns) T)[j] <;> rw [hh] at hlw <;> simp [ST] at hlw
 refine ⟨ls,_,_,.ref la,rfl,rfl,SqL.of (by rw [B5 nls]; exact A6),?_,q _ la ns T _ t d11 (by rw [B5 nla]; exact hlw) nla (hne (by decide)) hn2 hnok hw (List.getElem_mem hj)⟩
 refine K8 ?_
 rw [show refs.map V.ref ++ [V.ref l9] = (refs ++ [l9]).map V.ref by simp,List.getElem?_map,hla]
 rfl
end
end Law
namespace Law
open PySem L2 L2.Sp
theorem BC7 : bootBuiltins "ValueError" = some (.type "ValueError") := by decide +kernel
section
variable {P : Program} {w : World} {K : PySem.W.Frag} {mg : Str → Option Value} {base : Heap} {f : Addr} {fd : FuncData}
structure RF (K : PySem.W.Frag) (mg : Str → Option Value) (C : Addr) : Prop where
 nt : NT K mg C
 ex : ∃ M R N : Addr,XC K M [.type "ValueError",.type "Exception",.type "BaseException",.type "object"] "ValueError.__new__" ∧ PySem.W.mroIn K C (.ref M) = some true ∧ mg "MeetError" = some (.ref M) ∧ mg "Ring" = some (.ref R) ∧ mg "NoRow" = some (.ref N) ∧
  PySem.W.kitOne K (.ref C) (.ref C) = some true ∧ PySem.W.kitOne K (.ref C) (.type "ValueError") = some true ∧ PySem.W.kitOne K (.ref C) (.ref R) = some false ∧ PySem.W.kitOne K (.ref C) (.ref N) = some false
def wF : PyData := .list [.bool true,.bool true,.bool false,.bool false]
theorem rY {H : Hp} {l : Addr} (h : H l = some (.lst [.bl true,.bl true,.bl false,.bl false])) : X7 K H wF (.ref l) := by
 unfold wF
 simp only [X7]
 refine ⟨l,_,rfl,SqL.of h,?_⟩
 simp [bC,X7]
theorem oP {H H' : Hp} {d : D} {v : V} (g : Same H H') (h : DV K H d v) : DV K H' d v := DV.mono (DKeep.same g) _ _ h
theorem dY {X : Cx} {K : PySem.W.Frag} {ex C : Addr} {oe : Obj} {bmB : List Value} {newId : String} (c : XC K C bmB newId) (hK : X.K = K) (hp : (ex,oe) ∈ X.pn) (hc : oe.cls = .ref C) (hd : ∃ vs,oe.data = .fields vs) (hn : oe.dict = none) :
  U2 X (.builtin "isinstance") (fun xs H Q=>∃ v u b,xs = [.ref ex,v] ∧ (∀ z,RelV v z → z = u) ∧ PySem.W.kitOne K (.ref C) u = some b ∧ Q (.bl b) H) := by
 subst hK
 exact zK c hp hc hd hn
abbrev nJ : Stmt := M8 61
theorem qL : E2 ["_law_text_here","_law_way","_law_found","e"] ["_law_text_here","_law_way"] (B2 nJ) := ⟨rfl,rfl,rfl,by decide +kernel,rfl,by decide +kernel,by decide +kernel⟩
def zS (K : PySem.W.Frag) (C : Addr) (N : Nat) (v : V) (way : Int) (H : Hp) : Prop := ∀ (H1 : Hp) (Q : VK) (E : XK),Same H H1 → (∀ H',Same H1 H' → E (.ref C) none H') →
 (way = 0 → V9 K C (W7 (Exn N)) [v] H1 Q E) ∧ (way = 1 → iF K C (Exn N) [v] H1 Q E) ∧ (way ≠ 0 → way ≠ 1 → V9 K C aP [v] H1 Q E)
def vW (K : PySem.W.Frag) (C : Addr) (N : Nat) : Sp := fun args H Q _=>∃ (v : V) (way : Int),args = [v,.int way] ∧ zS K C N v way H ∧ ∀ H',Same H H' → Q (.bl true) H'
theorem wI {C : Addr} {N : Nat} (F : Fun K "_law_refused" "_law_refused" nJ f fd) (ROW : M0 P w K mg base (5 * N + 8) "read_row" ["line"] (V9 K C (W7 (Exn N)))) (ROWS : M0 P w K mg base (5 * N + 9) "read_rows" ["text"] (iF K C (Exn N))) (PATH : M0 P w K mg base 8 "read_path" ["text"] (V9 K C aP))
  (n : RF K mg C) (m1 : mg "isinstance" = none) (m2 : mg "ValueError" = none) : FnOk P w K mg base K5 (5 * N + 10) f fd ["_law_text_here","_law_way"] (vW K C N) := by
 refine F.ok qL (fun vs H Q E h=>?_) (fun cdv A outer s H vs Q E hr h=>?_)
 ·obtain ⟨v,way,rfl,_⟩ := h
  rfl
 obtain ⟨v,way,rfl,h,q⟩ := h
 obtain ⟨M,R,N',cM,hb,gM,gR,gN,k1,k2,k3,k4⟩ := n.ex
 have hr8 := hr.mono (show 5 * N + 8 ≤ 5 * N + 9 by omega)
 have hrP := hr.mono (show 8 ≤ 5 * N + 9 by omega)
 refine ⟨_,A7 (B7 (i := 2) qL.nd rfl (Or.inl rfl) (E3 A5))
  (A7 (AS6 (i := 3) rfl rfl n.nt.xc cM hb rfl gM qL.nd rfl rfl (fun pn xe E' hP=>A9 (E5 (B9 G9 (pv 1) B1 (B8 _)) (A9 (K2 (G5 ROW hr8 rfl hP (A0 (pv 0) A5))))
    (A9 (E5 (B9 G9 (pv 1) B1 (B8 _)) (A9 (K2 (G5 ROWS hr rfl hP (A0 (pv 0) A5)))) (A9 (K2 (G5 PATH hrP rfl hP (A0 (pv 0) A5))))))))
   (fun ex oe h1 h2 h3=>A9 (B7 (i := 2) qL.nd rfl (Or.inl rfl) (E3 (A0 (E7 (dY n.nt.xc rfl List.mem_cons_self h1 h2 h3) rfl m1 R5 (A0 (pv 3) (A0 (V6 (v := .ref C) rfl n.nt.mg rfl) A5)))
    (A0 (E7 (dY n.nt.xc rfl List.mem_cons_self h1 h2 h3) rfl m1 R5 (A0 (pv 3) (A0 (S3 (v := .ty "ValueError") rfl m2 BC7 rfl) A5)))
    (A0 (E7 (dY n.nt.xc rfl List.mem_cons_self h1 h2 h3) rfl m1 R5 (A0 (pv 3) (A0 (V6 (v := .ref R) rfl gR rfl) A5)))
    (A0 (E7 (dY n.nt.xc rfl List.mem_cons_self h1 h2 h3) rfl m1 R5 (A0 (pv 3) (A0 (V6 (v := .ref N') rfl gN rfl) A5))) A5))))))))
  (A9 (B6 (N7 (yD hr.units) (pv 2) (E3 (A0 P2 (A0 P2 (A0 P2 (A0 P2 A5))))) (B8 _))))),?_⟩
 refine ⟨T7,fun l0 hl0=>?_⟩
 have g0 := A8 hl0 (.lst [])
 have eI : ∀ a b : Int,decide (V.int a = V.int b) = decide (a = b) := fun a b=>by
  by_cases e : a = b
  ·subst e; simp
  ·rw [decide_eq_false e,decide_eq_false fun z=>e (by injection z)]
 have h3 : way = 0 ∨ (way ≠ 0 ∧ way = 1) ∨ (way ≠ 0 ∧ way ≠ 1) := by omega
 refine ⟨_,rfl,rfl,_,rfl,?_⟩
 rw [eI]
 rcases h3 with e | ⟨e1,e⟩ | ⟨e1,e2⟩
 refine M3 (decide_eq_true e) ⟨_,rfl,?_⟩
 dsimp only [bD,List.cons_append,List.nil_append]
 refine (h _ _ _ g0 ?_).1 e
 rotate_left
 refine J1 (by rw [decide_eq_false e1]; decide) ⟨_,rfl,rfl,_,rfl,?_⟩
 rw [eI]
 refine M3 (decide_eq_true e) ⟨_,rfl,?_⟩
 dsimp only [bD,List.cons_append,List.nil_append]
 refine (h _ _ _ g0 ?_).2.1 e
 rotate_left
 refine J1 (by rw [decide_eq_false e1]; decide) ⟨_,rfl,rfl,_,rfl,?_⟩
 rw [eI]
 refine J1 (by rw [decide_eq_false e2]; decide) ⟨_,rfl,?_⟩
 dsimp only [bD,List.cons_append,List.nil_append]
 refine (h _ _ _ g0 ?_).2.2 e1 e2
 rotate_left
 all_goals
  intro H' g
  refine ⟨rfl,fun σ' ex hσ hx=>?_⟩
  obtain ⟨a0,a1,a2,a3,rfl⟩ : ∃ a0 a1 a2 a3,σ' = [a0,a1,a2,a3] := by
   match σ',hσ with
   | [a0,a1,a2,a3],_=>exact ⟨a0,a1,a2,a3,rfl⟩
  refine ⟨_,rfl,.ref C,.ref C,true,rfl,fun z hz=>hz,k1,_,rfl,.ty "ValueError",.type "ValueError",true,rfl,fun z hz=>hz,k2,_,rfl,.ref R,.ref R,false,rfl,fun z hz=>hz,k3,_,rfl,.ref N',.ref N',false,rfl,fun z hz=>hz,k4,AE3,fun l1 hl1=>?_⟩
  have e1 := A8 hl1 (.lst [.bl true,.bl true,.bl false,.bl false])
  refine ⟨_,rfl,AE3,fun l2 hl2=>?_⟩
  have e2 := A8 hl2 (.lst [.bl true,.bl true,.bl false,.bl false])
  exact ⟨wF,wF,rY (e2 _ _ A6),rY A6,rfl,rfl,by decide,q _ fun b o h=>e2 _ _ (e1 _ _ (g _ _ (g0 _ _ h)))⟩
end
end Law
namespace Law
open PySem L2 L2.Sp
section
variable {P : Program} {w : World} {K : PySem.W.Frag} {mg : Str → Option Value} {base : Heap} {f : Addr} {fd : FuncData} {R C : Addr}
abbrev fI : Stmt := M8 40
theorem fC : E2 ["_law_script","_law_many","_law_seeds_here","_law_k","_law_cell","_law_seed"] ["_law_script","_law_many"] (B2 fI) := ⟨rfl,rfl,rfl,by decide +kernel,rfl,by decide +kernel,by decide +kernel⟩
theorem BG0 : (["_law_k"] : List Str).Nodup := by decide +kernel
def mY (K : PySem.W.Frag) : Sp := fun args H Q _=>∃ (a : Addr) (ns : List Int) (m : Nat),args = [.ref a,.int (m : Int)] ∧ SqL K H a (ns.map V.int) ∧ ns.length ≤ 63 ∧ 1 ≤ m ∧ m ≤ 100 ∧ ∀ (H' : Hp) (l : Addr) (xs : List Int),Same H H' → H l = none → H' l = some (.lst (xs.map V.int)) → xs.length = m → Q (.ref l) H'
theorem AC5 (F : Fun K "_law_seeds" "_law_seeds" fI f fd) (m1 : mg "range" = none) (m2 : mg "enumerate" = none) : FnOk P w K mg base K5 1 f fd ["_law_script","_law_many"] (mY K) := by
 refine F.ok fC (fun vs H Q E h=>?_) (fun cdv A outer s H vs Q E hr h=>?_)
 ·obtain ⟨a,ns,m,rfl,_⟩ := h
  rfl
 obtain ⟨a,ns,m,rfl,hq,h63,hm1,hm2,q⟩ := h
 refine ⟨_,A7 (kA (i := 2) (N' := ["_law_k"]) (fr := [none]) (own := [0]) ⟨rfl,rfl,rfl,rfl,rfl,rfl,rfl⟩ rfl fC.nd rfl rfl (O0 rfl m1 (A0 (pv 1) A5))
   (fun _ _ _ _=>K0 (i := 0) BG0 rfl (Or.inl rfl)) (R1 0) (fun _ _ _ _=>U5) (fun _ _ _ _=>E4 P4 (E4 lY (pv 0) B1) B1))
  (A7 (R4 PassesOwn.never rfl (AM2 rfl m2 (A0 (pv 0) A5)) (sA (n := 2) rfl (Y5 (K0 (i := 3) fC.nd rfl (Or.inl rfl)) (Y5 (K0 (i := 4) fC.nd rfl (Or.inl rfl)) oA)))
   (A7 (B7 (i := 5) fC.nd rfl (Or.inl rfl) (E4 P4 (E4 lY (G7 O3 (pv 2) (E4 aC (pv 3) (pv 1)) (fun _ _=>rfl)) B1) (E4 aC (pv 4) (E4 iR B1 B1))))
   (A9 (xU (E4 aC (E4 P4 (pv 5) (pv 3)) (E4 aB (E4 iR B1 B1) B1)) (xY (pv 2) (E4 aC (pv 3) (pv 1)) rO)))))
  (A9 (B6 (pv 2)))),?_⟩
 refine ⟨_,rfl,(m : Int),rfl,by omega,by omega,fun l hl=>?_⟩
 refine R8 (fun i ys H'=>Same H H' ∧ H' l = some (.lst ys) ∧ ∃ xs : List Int,ys = xs.map V.int ∧ xs.length = i) ⟨A8 hl _,A6,[],rfl,rfl⟩ (fun i ys H' hi ⟨g,h1,xs,e,hx⟩=>?_) (fun ys H' ⟨g,h1,xs,e,hx⟩=>?_)
 ·subst e
  dsimp only [U4,U0]
  refine cD ⟨_,rfl,_,_,rfl,rfl,.inr ⟨by decide,by decide⟩,_,_,rfl,rfl,h1,O7 (by rw [List.length_map]; omega),fun b o h=>by rw [B5 (D8 h hl)]; exact g _ _ h,A6,xs ++ [_],by rw [List.map_append]; rfl,by simp [hx]⟩
 ·subst e
  have hxm : xs.length = m := by simpa using hx
  refine ⟨_,rfl,a,rfl,⟨_,g.seq hq⟩,?_⟩
  refine AF4 (xs := ns.map V.int) (fun i σ Hx=>∃ (xs : List Int) (b3 b4 b5 : Option V),σ = [some (.ref a),some (.int (m : Int)),some (.ref l),b3,b4,b5] ∧ Same H Hx ∧ Hx l = some (.lst (xs.map V.int)) ∧ xs.length = m) ⟨xs,none,none,none,rfl,g,h1,hxm⟩
   (fun i σ Hx ⟨_,_,_,_,_,gx,_⟩=>gx.seq hq) (fun i y σ Hx T hy hinv hT=>?_) (fun σ Hx ⟨xs,b3,b4,b5,e,gx,hx,hl2⟩=>?_)
  ·obtain ⟨xs,b3,b4,b5,rfl,gx,hx,hxl⟩ := hinv
   obtain ⟨c,rfl⟩ := sM hy
   have hne : l ≠ T := fun e=>by rw [e,hT] at hx; cases hx
   obtain ⟨j,hj⟩ := Int.eq_ofNat_of_zero_le (Int.emod_nonneg (i : Int) (show (m : Int) ≠ 0 by omega))
   have hjm : j < xs.length := by have := Int.emod_lt_of_pos (i : Int) (show (0 : Int) < (m : Int) by omega); omega
   have hx2 : D5 Hx T (.tup [.int (i : Int),.int c]) l = some (.lst (xs.map V.int)) := by rw [B5 hne]; exact hx
   have gT : Same H (D5 Hx T (.tup [.int (i : Int),.int c])) := fun b o h=>A8 hT _ _ _ (gx _ _ h)
   have hixn : iX (xs.map V.int).length ((i : Int) % (m : Int)) = some j := by
    rw [hj,List.length_map]
    unfold iX
    rw [if_pos (by omega),if_pos (by omega)]; rfl
   refine ⟨T,_,rfl,SqT.of A6,rfl,_,_,rfl,_,_,rfl,rfl,?_⟩
   refine ⟨_,rfl,_,rfl,_,rfl,_,_,rfl,rfl,(by show (0 : Int) < (m : Int); omega),l,_,_,.int xs[j],rfl,rfl,SqL.of hx2,?_,_,_,rfl,rfl,.inr ⟨by decide,by decide⟩,_,rfl,_,_,rfl,rfl,⟨by decide,by decide,by decide⟩,_,_,rfl,rfl,(by show (0 : Int) < 10 ^ Int.toNat 30; decide),_,_,rfl,rfl,?_⟩
   ·rw [hj]; exact K8 (by rw [List.getElem?_map,List.getElem?_eq_getElem hjm]; rfl)
   refine ⟨_,rfl,_,rfl,_,_,rfl,rfl,_,_,rfl,rfl,⟨by decide,by decide,by decide⟩,_,_,rfl,rfl,_,_,rfl,rfl,(by show (0 : Int) < 2 ^ Int.toNat 61 - 1; decide),?_⟩
   refine ⟨_,rfl,_,rfl,_,rfl,_,_,rfl,rfl,(by show (0 : Int) < (m : Int); omega),l,_,_,j,rfl,rfl,hx2,hixn,?_⟩
   exact ⟨xs.set j _,_,_,_,rfl,fun b o h=>by rw [B5 (D8 h hl)]; exact gT _ _ h,by rw [A6,List.map_set],by rw [List.length_set]; exact hxl⟩
  ·subst e
   exact ⟨_,rfl,q Hx l xs gx hl hx hl2⟩
theorem Nm.cal {x : Str} {st : Stmt} {ps : List Str} {k : Nat} {sp : Sp} (n : Nm K mg x st ps) (h : ∀ f fd,Fun K x x st f fd → FnOk P w K mg base K5 k f fd ps sp) : Cal P w K mg base k x ps sp := by
 obtain ⟨f,fd,F,a,b,c⟩ := n.ex
 exact ⟨f,fd,h f fd F,a,b,c⟩
theorem Nm.no {x : Str} {st : Stmt} {ps N : List Str} (n : Nm K mg x st ps) (S : E2 N ps (B2 st)) (k : Nat) : Cal P w K mg base (k + 1) x ps (fun _ _ _ _=>False) :=
 n.cal fun f fd F=>F.ok S (fun vs H Q E h=>h.elim) (fun cdv A outer s H vs Q E hr h=>h.elim)
theorem kO (nT : Nm K mg "_law_tree" dI ["_law_state","_law_deep","_law_places"]) (N : Cal P w K mg base 1 "_law_next" ["_law_state","_law_many"] Q3) (NM : Cal P w K mg base 3 "_law_name" ["_law_state"] kR) (NMS : Cal P w K mg base 4 "_law_names" ["_law_state","_law_many"] qG)
  (LF : Cal P w K mg base 4 "_law_leaf" ["_law_state"] (dZ K bA)) (m1 : mg "range" = none) (m2 : mg "tuple" = none) : ∀ n,n ≤ 3 → Cal P w K mg base (5 + n) "_law_tree" ["_law_state","_law_deep","_law_places"] (cE K n)
 | 0,h=>nT.cal fun f fd F=>uL F (nT.no cI 3) (fun n' e=>by omega) N NM NMS LF m1 m2 (by decide) h
 | n + 1,h=>nT.cal fun f fd F=>uL F (kO nT N NM NMS LF m1 m2 n (by omega)) (fun n' e=>congrArg (cE K) (Nat.succ.inj e)) N NM NMS LF m1 m2 (show 4 ≤ 5 + n by omega) h
theorem qU (nW : Nm K mg "_law_words" pA ["_law_tree_here","_law_state"]) (nB : Nm K mg "_law_braced" pC ["_law_tree_here","_law_tying","_law_state"]) (nD : Nm K mg "_law_tied" pB ["_law_sign","_law_trees","_law_tying","_law_state"]) (N : Cal P w K mg base 1 "_law_next" ["_law_state","_law_many"] Q3)
  (SPW : Cal P w K mg base 2 "_law_span_words" ["_law_tree_here","_law_state"] (qE K)) (PTW : Cal P w K mg base 1 "_law_path_words" ["_law_path"] (jM K)) (ITW : Cal P w K mg base 1 "_law_items_words" ["_law_rows","_law_more"] qI) (m1 : mg "int" = none) (m2 : mg "len" = none) : ∀ n,n ≤ 3 → Cal P w K mg base (3 * n + 3) "_law_words" ["_law_tree_here","_law_state"] (rF K n)
 | 0,h=>nW.cal fun f fd F=>AI4 F (nB.no AA6 1) (nD.no rQ 1) (fun n' e=>by omega) (fun n' e=>by omega) SPW PTW ITW m1 (by decide) h
 | n + 1,h=>by
  have W0 := qU nW nB nD N SPW PTW ITW m1 m2 n (by omega)
  have B0 : Cal P w K mg base (3 * n + 3 + 1) "_law_braced" ["_law_tree_here","_law_tying","_law_state"] (rM K n) := nB.cal fun f fd F=>BB2 F W0 N (by omega) (by omega)
  have T0 : Cal P w K mg base (3 * n + 3 + 1 + 1) "_law_tied" ["_law_sign","_law_trees","_law_tying","_law_state"] (vU K n) := nD.cal fun f fd F=>BA8 F B0 m2 (by omega)
  exact nW.cal fun f fd F=>AI4 F (B0.mono (Nat.le_succ _)) T0 (fun n' e=>congrArg (rM K) (Nat.succ.inj e)) (fun n' e=>congrArg (vU K) (Nat.succ.inj e)) SPW PTW ITW m1 (by omega) h
theorem rT (nS : Nm K mg "_law_same" dJ ["_law_found","_law_due"]) (m1 : mg "isinstance" = none) (m2 : mg "bool" = none) (m3 : mg "int" = none) (m4 : mg "str" = none) (m5 : mg "tuple" = none) (m6 : mg "len" = none) (m7 : mg "all" = none) (m8 : mg "range" = none) : ∀ n,Cal P w K mg base (n + 2) "_law_same" ["_law_found","_law_due"] (iE K n)
 | 0=>nS.cal fun f fd F=>uM F (nS.no xK 0) (fun n' e=>by omega) m1 m2 m3 m4 m5 m6 m7 m8
 | n + 1=>nS.cal fun f fd F=>uM F (rT nS m1 m2 m3 m4 m5 m6 m7 m8 n) (fun n' e=>congrArg (iE K) (Nat.succ.inj e)) m1 m2 m3 m4 m5 m6 m7 m8
theorem never {X : Cx} : T1 (N0 X.prog X.w) X (fun _ _ _=>False) := by
 intro pins σ H s e s' I h
 obtain ⟨ex,cls,H',_,_,_,_,_,_,z⟩ := h
 exact z.elim
theorem BB5 (n : Nat) : L4 n ≤ 100 := by show 3 ≤ 100; decide
theorem mW {B : Nat} {ws : List Wd} (h : WsF B ws) (hb : B ≤ 100000) : WsOk ws := ⟨Nat.le_trans h.len hb,fun u hu=>(h.ok u hu).tok,fun u hu=>⟨by have := (h.ok u hu).len; omega,fun c hc=>by have := (h.ok u hu).asc c hc; omega⟩⟩
theorem nZ {n : Nat} {pl : Bool} {t : Tn} {ws : List Wd} (h : PrW L4 n pl t ws) : ExpAble (Exn (2 * n + 1)) true t ws := (wG L4 n pl true t ws (fun _=>rfl) h).exp
theorem AH1 {α β : Type} {F G : α → β → Prop} {as : List α} {bs : List β} (h : All2 F as bs) (k : ∀ a b,F a b → G a b) : All2 G as bs := by
 induction h with
 | nil=>exact .nil
 | cons a _ ih=>exact .cons (k _ _ a) ih
theorem AA8 {t : Tn} {ns : List Wd} {ts : List Tn} {wss : List (List Wd)} (hR : jH t ns ts) (ha : All2 (PrW L4 2 true) ts wss) : W7 (Exn 5) (G1 ns ++ cJ wss) (some t) := by
 obtain ⟨rfl,h0,_,hn,ht0,_,_⟩ := hR
 cases ha with
 | nil=>exact absurd rfl ht0
 | cons a as=>exact AS0 h0 (fun n hn'=>(hn n hn').nm) (nZ a) (AH1 as fun _ _ h=>nZ h)
theorem uD {t : Tn} {ns : List Wd} {ts : List Tn} {wss : List (List Wd)} (hR : jH t ns ts) (ha : All2 (PrW L4 2 true) ts wss) : WsF 1700 (G1 ns ++ cJ wss) := by
 obtain ⟨rfl,h0,h4,hn,ht0,h7,_⟩ := hR
 cases ha with
 | nil=>exact absurd rfl ht0
 | @cons x w ts ws a as =>
  have e1 := cL uP 2 true x w a
  have e2 : ∀ r ∈ ws,WsF (aJ L4 2) r := as.right fun y r h=>cL uP 2 true y r h
  have e3 := WsF.tails vA (by decide) e2
  have e4 := WsF.sg (c := 58) (by decide) (by decide) (e1.app e3)
  have hl : ws.length ≤ 6 := by rw [← as.length]; simp at h7; omega
  have hc : aJ L4 2 = 169 := by decide
  rw [hc] at e4
  have hm : ws.length * 170 ≤ 6 * 170 := Nat.mul_le_mul hl (Nat.le_refl _)
  exact WsF.mono (b := 1700) ((fP hn h4).app e4) (by omega)
theorem AR9 {t : Tn} {ns : List Wd} {ts : List Tn} {wss : List (List Wd)} (hR : jH t ns ts) : G1 ns ++ cJ wss ≠ [] := by
 obtain ⟨rfl,h0,_⟩ := hR
 obtain ⟨m,ms,rfl⟩ := List.exists_cons_of_ne_nil h0
 intro z
 cases z
theorem AS1 {t : Tn} {ns : List Wd} {ts : List Tn} (hR : jH t ns ts) : BT 10 t ∧ BT 9 (.tup (ns.map Tn.str)) := by
 obtain ⟨rfl,h0,h4,hn,ht0,h7,hg⟩ := hR
 have a : BT 9 (.tup (ns.map Tn.str)) := aH (by rw [List.length_map]; omega) fun t ht=>by
  obtain ⟨n,hn',rfl⟩ := List.mem_map.mp ht
  exact S5 (by have := (hn n hn').len; omega)
 exact ⟨pU a (aH (by omega) fun t ht=>AJ3 BB5 2 true t (hg t ht)),a⟩
def Q8 (g : Nat) : List Nat := List.replicate g 32
theorem lB (g : Nat) (h : g ≤ 2) : kM (Exn 5) (Q8 g) none := by
 refine ⟨⟨by simp [Q8]; omega,fun c hc=>by rw [(List.mem_replicate.mp hc).2]; decide⟩,?_⟩
 have := iB g []
 rw [List.append_nil,dB] at this
 exact this
theorem gJ : ∀ (a b : List (Option (Option Tn))),O5 (a ++ b) = (O5 a).bind fun x=>(O5 b).map (x ++ ·)
 | [],b=>by
  show O5 b = (O5 b).map fun y=>[] ++ y
  cases O5 b <;> rfl
 | none :: a,b=>by show O5 (a ++ b) = _; rw [gJ a b]; rfl
 | some none :: a,b=>rfl
 | some (some t) :: a,b=>by
  show (O5 (a ++ b)).map (t :: ·) = _
  rw [gJ a b]
  show _ = ((O5 a).map (t :: ·)).bind _
  cases O5 a with
  | none=>rfl
  | some x =>
   show ((O5 b).map (x ++ ·)).map (t :: ·) = (O5 b).map ((t :: x) ++ ·)
   cases O5 b <;> rfl
theorem AC1 (a b : List (Option (Option Tn))) : O5 (a ++ some none :: b) = none := by
 rw [gJ]
 cases O5 a <;> rfl
theorem pV : ∀ (gs : List Nat),(∀ g ∈ gs,g ≤ 2) → All2 (kM (Exn 5)) (gs.map Q8) (gs.map fun _=>none) ∧ O5 (gs.map fun _=>none) = some []
 | [],_=>⟨.nil,rfl⟩
 | g :: gs,h=>by
  obtain ⟨a,b⟩ := pV gs fun x hx=>h x (by simp [hx])
  exact ⟨.cons (lB g (h g (by simp))) a,b⟩
structure LG (lines : List (List Nat)) (rs : List (Option (Option Tn))) (ts : List Tn) (B : Nat) : Prop where
 a : All2 (kM (Exn 5)) lines rs
 o : O5 rs = some ts
 n : lines.length ≤ B
 tn : ts.length ≤ B
 b : ∀ t ∈ ts,BT 10 t
theorem LG.more {lines ls2 : List (List Nat)} {rs rs2 : List (Option (Option Tn))} {ts ts2 : List Tn} {B k : Nat} (h : LG lines rs ts B) (a : All2 (kM (Exn 5)) ls2 rs2) (o : O5 rs2 = some ts2) (n : ls2.length ≤ k) (tn : ts2.length ≤ k) (b : ∀ t ∈ ts2,BT 10 t) : LG (lines ++ ls2) (rs ++ rs2) (ts ++ ts2) (B + k) :=
 ⟨h.a.app a,by rw [gJ,h.o,o]; rfl,by rw [List.length_append]; have := h.n; omega,by rw [List.length_append]; have := h.tn; omega,fun t ht=>(List.mem_append.mp ht).elim (h.b t) (b t)⟩
theorem LG.blanks {lines : List (List Nat)} {rs : List (Option (Option Tn))} {ts : List Tn} {B : Nat} (h : LG lines rs ts B) {gs : List Nat} (hg : ∀ g ∈ gs,g ≤ 2) (hn : gs.length ≤ 2) : ∃ rs',LG (lines ++ gs.map Q8) rs' ts (B + 2) := by
 obtain ⟨a,o⟩ := pV gs hg
 have := h.more a o (by rw [List.length_map]; exact hn) (Nat.zero_le _) (fun t ht=>by cases ht)
 rw [List.append_nil] at this
 exact ⟨_,this⟩
theorem LG.row {lines : List (List Nat)} {rs : List (Option (Option Tn))} {ts : List Tn} {B : Nat} (h : LG lines rs ts B) {gs : List Nat} (hg : ∀ g ∈ gs,g ≤ 2) (hn : gs.length ≤ 2) {l : List Nat} {t : Tn} {ws : List Wd} (hs : V5 l) (hw : G3 l = some ws) (h0 : ws ≠ []) (hk : WsOk ws) (hr : W7 (Exn 5) ws (some t)) (hb : BT 10 t) : ∃ rs',LG (lines ++ (gs.map Q8 ++ [l])) rs' (ts ++ [t]) (B + 3) := by
 obtain ⟨rs',h'⟩ := h.blanks hg hn
 have := h'.more (ls2 := [l]) (rs2 := [some (some t)]) (ts2 := [t]) (k := 1) (.cons ⟨hs,ws,hw,h0,hk,hr⟩ .nil) rfl (by simp) (by simp) (fun x hx=>by rw [List.mem_singleton.mp hx]; exact hb)
 rw [List.append_assoc] at this
 exact ⟨_,this⟩
theorem LG.eff {lines : List (List Nat)} {rs : List (Option (Option Tn))} {ts : List Tn} {B : Nat} (h : LG lines rs ts B) (hB : B ≤ 19) : ∃ lines' rs',N3 10 lines = N3 10 lines' ∧ lines' ≠ [] ∧ lines'.length ≤ 20 ∧ All2 (kM (Exn 5)) lines' rs' ∧ O5 rs' = some ts := by
 by_cases e : lines = []
 ·subst e
  have ha := h.a
  have ho := h.o
  cases ha
  exact ⟨[[]],[none],rfl,by simp,by decide,.cons (lB 0 (by decide)) .nil,ho⟩
 ·exact ⟨lines,rs,rfl,e,by have := h.n; omega,h.a,h.o⟩
theorem sL (lines : List (List Nat)) : Txt.join (Str.ofString "\n") (lines.map S) = S (N3 10 lines) := by
 rw [qQ]
 exact (StrLaws.glued_eq_join _ _).trans (kQ lines)
theorem uT {lines : List (List Nat)} (h : ∀ l ∈ lines, l.length ≤ 100000) (h20 : lines.length ≤ 20) : JoinOk (Str.ofString "\n") (lines.map S) = true := by
  have e : Builtin.Str.tooLong (Array.foldl (fun a p => a + p.length + (Str.ofString "\n").length) 0 (lines.map S).toArray) = false := by
   refine StrLaws.joinFits (B := 100000) (fun t ht => ?_) ?_
   · obtain ⟨l, hl, rfl⟩ := List.mem_map.mp ht
     rw [N4]; exact h l hl
   · rw [qQ, List.length_map]
     show lines.length * 100000 + lines.length * 1 ≤ _
     omega
  show (!_) = true
  rw [e]
  rfl
theorem LG.small {lines : List (List Nat)} {rs : List (Option (Option Tn))} (ha : All2 (kM (Exn 5)) lines rs) : ∀ l ∈ lines,l.length ≤ 100000 := fun l hl=>by
 obtain ⟨i,hi⟩ := List.getElem?_of_mem hl
 obtain ⟨r,_,hr⟩ := All2.get ha hi
 exact hr.1.1
theorem sY {α β : Type} {F : α → β → Prop} {x : α} {y : β} (hxy : F x y) : ∀ {as : List α} {bs : List β} (k : Nat),All2 F as bs → All2 F (as.take k ++ x :: as.drop k) (bs.take k ++ y :: bs.drop k)
 | _,_,0,h=>.cons hxy h
 | _,_,k + 1,.nil=>.cons hxy .nil
 | _,_,k + 1,.cons a h=>.cons a (sY hxy k h)
structure LJ (K : PySem.W.Frag) (st la ll ld : Addr) (sl : List V) (lines : List (List Nat)) (ts : List Tn) (H : Hp) : Prop where
 s : ∃ y : Int,H st = some (.lst [.int y])
 a : H la = some (.lst sl)
 l : H ll = some (.lst (ST lines))
 e : ∃ vs,H ld = some (.lst vs) ∧ TAll K H ts vs
 n1 : la ≠ st
 n2 : ll ≠ st
 n3 : ld ≠ st
 n4 : la ≠ ll
 n5 : la ≠ ld
 n6 : ll ≠ ld
section
variable {st la ll ld : Addr} {sl : List V} {lines : List (List Nat)} {ts : List Tn} {H H' : Hp}
theorem LJ.ds (h : LJ K st la ll ld sl lines ts H) (d : DS st H H') : LJ K st la ll ld sl lines ts H' := by
 obtain ⟨vs,e1,e2⟩ := h.e
 exact ⟨d.s,d.g _ _ h.n1 h.a,d.g _ _ h.n2 h.l,⟨vs,d.g _ _ h.n3 e1,e2.kp d.kp⟩,h.n1,h.n2,h.n3,h.n4,h.n5,h.n6⟩
theorem LJ.same (h : LJ K st la ll ld sl lines ts H) (g : Same H H') : LJ K st la ll ld sl lines ts H' := by
 obtain ⟨y,hy⟩ := h.s
 exact h.ds ((DS.start hy).same g)
theorem LJ.setL (h : LJ K st la ll ld sl lines ts H) (lines' : List (List Nat)) : LJ K st la ll ld sl lines' ts (D5 H ll (.lst (ST lines'))) := by
 obtain ⟨vs,e1,e2⟩ := h.e
 obtain ⟨y,hy⟩ := h.s
 exact ⟨⟨y,by rw [B5 (Ne.symm h.n2)]; exact hy⟩,by rw [B5 h.n4]; exact h.a,A6,⟨vs,by rw [B5 (Ne.symm h.n6)]; exact e1,e2.kp (Kp.lst h.l)⟩,h.n1,h.n2,h.n3,h.n4,h.n5,h.n6⟩
theorem LJ.due (h : LJ K st la ll ld sl lines ts H) {vs : List V} {t : Tn} {v : V} (e1 : H ld = some (.lst vs)) (e2 : TAll K H ts vs) (hv : TV K H t v) : LJ K st la ll ld sl lines (ts ++ [t]) (D5 H ld (.lst (vs ++ [v]))) := by
 obtain ⟨y,hy⟩ := h.s
 have k := Kp.lst (K := K) (o := .lst (vs ++ [v])) e1
 exact ⟨⟨y,by rw [B5 (Ne.symm h.n3)]; exact hy⟩,by rw [B5 h.n5]; exact h.a,by rw [B5 h.n6]; exact h.l,⟨_,A6,(e2.kp k).append (TAll.one (TV.kp k hv))⟩,h.n1,h.n2,h.n3,h.n4,h.n5,h.n6⟩
end
section
variable {H : Hp}
theorem AL8 {l : List Nat} {ws : List Wd} (hs : V5 l) (hw : G3 l = some ws) (hk : WsOk ws) (hr : W7 (Exn 5) ws none) : zS K C 5 (.str (S l)) 0 H := fun H1 Q E g hE =>
 ⟨fun _=>⟨_,rfl,.inr ⟨l,rfl,hs,.inr ⟨ws,none,hw,hk,hr,hE⟩⟩⟩,fun z=>absurd z (by decide),fun z=>absurd rfl z⟩
theorem AB1 {l : List Nat} {ws : List Wd} (hs : V5 l) (hw : G3 l = some ws) (hk : WsOk ws) (hr : aP ws none) : zS K C 5 (.str (S l)) 2 H := fun H1 Q E g hE =>
 ⟨fun z=>absurd z (by decide),fun z=>absurd z (by decide),fun _ _=>⟨_,rfl,.inr ⟨l,rfl,hs,.inr ⟨ws,none,hw,hk,hr,hE⟩⟩⟩⟩
theorem AB0 {lines : List (List Nat)} {rs : List (Option (Option Tn))} (h0 : lines ≠ []) (h20 : lines.length ≤ 20) (ha : All2 (kM (Exn 5)) lines rs) (ho : O5 rs = none) : zS K C 5 (.str (S (N3 10 lines))) 1 H := fun H1 Q E g hE =>
 ⟨fun z=>absurd z (by decide),fun _=>⟨_,rfl,.inr ⟨lines,rs,rfl,h0,h20,ha,by rw [ho]; exact hE⟩⟩,fun _ z=>absurd rfl z⟩
theorem AB2 {d : D} {v : V} {way : Int} (hd : DV K H d v) (hf : bF d "str" = false) : zS K C 5 v way H := fun H1 Q E g hE =>
 ⟨fun _=>⟨_,rfl,.inl ⟨d,oP g hd,hf,hE⟩⟩,fun _=>⟨_,rfl,.inl ⟨d,oP g hd,hf,hE _ bL⟩⟩,fun _ _=>⟨_,rfl,.inl ⟨d,oP g hd,hf,hE⟩⟩⟩
end
def wL : PyData := .list []
theorem sE {H : Hp} {l : Addr} (h : H l = some (.lst [])) : X7 K H wL (.ref l) := by
 unfold wL
 simp only [X7]
 refine ⟨l,_,rfl,SqL.of h,?_⟩
 simp [bC]
theorem AP6 {α : Type} (f : α → V) (us : List α) (lo hi : Option Int) : ∃ ys : List α,cY (us.map f) lo hi = ys.map f ∧ ys.length ≤ us.length := by
 have h := kL (us.map f) lo hi
 refine ⟨(us.drop (HT.sIx (us.map f).length 0 lo)).take (HT.sIx (us.map f).length (us.map f).length hi - HT.sIx (us.map f).length 0 lo),?_,?_⟩
 ·unfold cY
  rw [List.map_take,List.map_drop]
 ·rw [List.length_take,List.length_drop]; omega
abbrev gG : Stmt := M8 62
abbrev BG3 : List Str := ["_law_script","_law_many","_law_seeds_here","_law_state","_law_lines","_law_due","_law_seed","_law_row_here","_law_line_here","_law_path","_law_text_here","_law_found","_law_bad_here"]
theorem U3 : E2 BG3 ["_law_script"] (B2 gG) := ⟨rfl,rfl,rfl,by decide +kernel,rfl,by decide +kernel,by decide +kernel⟩
def qH (K : PySem.W.Frag) : Sp := fun vs H Q _=>∃ (a : Addr) (ns : List Int),vs = [.ref a] ∧ SqL K H a (ns.map V.int) ∧ ns.length ≤ 63 ∧ ∀ H',Q (.bl true) H'
theorem AU5 (F : Fun K "law" "law" gG f fd) (N : Cal P w K mg base 1 "_law_next" ["_law_state", "_law_many"] Q3) (SEEDS : Cal P w K mg base 1 "_law_seeds" ["_law_script", "_law_many"] (mY K)) (DRW : Cal P w K mg base 8 "_law_row" ["_law_state"] (dZ K fun t => ∃ ns ts, jH t ns ts))
    (RWW : Cal P w K mg base 10 "_law_row_words" ["_law_row_here", "_law_state"] (vV K)) (PTW : Cal P w K mg base 1 "_law_path_words" ["_law_path"] (jM K)) (LINE : Cal P w K mg base 2 "_law_line" ["_law_words_here", "_law_state"] rK) (SAME : Cal P w K mg base 13 "_law_same" ["_law_found", "_law_due"] (iE K 11))
    (BAD : Cal P w K mg base 7 "_law_bad" ["_law_state"] (vY K)) (RFD : Cal P w K mg base 35 "_law_refused" ["_law_text_here", "_law_way"] (vW K C 5)) (ROW : M0 P w K mg base 33 "read_row" ["line"] (V9 K C (W7 (Exn 5)))) (ROWS : M0 P w K mg base 34 "read_rows" ["text"] (iF K C (Exn 5))) (PATH : M0 P w K mg base 8 "read_path" ["text"] (V9 K C aP))
    (m1 : mg "len" = none) (m2 : mg "range" = none) (m3 : mg "tuple" = none) (m4 : mg "isinstance" = none) (m5 : mg "list" = none) : FnOk P w K mg base K5 36 f fd ["_law_script"] (qH K) := by
  refine F.ok U3 (fun vs H Q E h => ?_) (fun cdv A outer s H vs Q E hr h => ?_)
  · obtain ⟨a, ns, rfl, _⟩ := h
    rfl
  obtain ⟨a, ns, rfl, hq, h63, q⟩ := h
  have hr1 := hr.mono (show 1 ≤ 35 by decide)
  have hr2 := hr.mono (show 2 ≤ 35 by decide)
  have hr7 := hr.mono (show 7 ≤ 35 by decide)
  have hr8 := hr.mono (show 8 ≤ 35 by decide)
  have hr10 := hr.mono (show 10 ≤ 35 by decide)
  have hr13 := hr.mono (show 13 ≤ 35 by decide)
  have hr33 := hr.mono (show 33 ≤ 35 by decide)
  have hr34 := hr.mono (show 34 ≤ 35 by decide)
  refine ⟨_, A7 (B7 (i := 1) U3.nd rfl (Or.inl rfl) B1)
    (M6 (E5 (B9 aD (E7 M2 rfl m1 PySem.boot_len (A0 (pv 0) A5)) B1 (B8 _)) (A9 (B7 (i := 1) U3.nd rfl (Or.inl rfl) (E4 aC (G7 O3 (pv 0) B1 (fun _ _ => rfl)) B1))) D6) M7), ?_⟩
  refine ⟨fun σ' H' => ∃ m : Nat, m ≤ 4 ∧ σ' = [some (.ref a), some (.int (m : Int)), none, none, none, none, none, none, none, none, none, none, none] ∧ H' = H, ?_, ?_⟩
  · refine ⟨_, rfl, a, _, rfl, .inl hq, _, _, rfl, rfl, _, rfl, N1 (fun c => ?_) (fun _ => ⟨0, by decide, rfl, rfl⟩)⟩
    have hpos : 0 < ns.length := by
      have := of_decide_eq_true c
      rw [List.length_map] at this
      omega
    refine ⟨_, rfl, a, _, _, .int ns[0], rfl, rfl, hq, K8 (j := 0) (by rw [List.getElem?_map, List.getElem?_eq_getElem hpos]; rfl), _, _, rfl, rfl, (by show (0 : Int) < 5; decide), ?_⟩
    have h0 := Int.emod_nonneg ns[0] (show (5 : Int) ≠ 0 by decide)
    have h1 := Int.emod_lt_of_pos ns[0] (show (0 : Int) < 5 by decide)
    obtain ⟨j, hj⟩ := Int.eq_ofNat_of_zero_le h0
    refine ⟨j, by omega, ?_, rfl⟩
    show _ = [some (V.ref a), some (V.int (j : Int)), none, none, none, none, none, none, none, none, none, none, none]
    rw [← hj]
    rfl
  rintro σ1 H1 ⟨m, hm4, rfl, rfl⟩
  refine ⟨_, A7 (B7 (i := 2) U3.nd rfl (Or.inl rfl) (B4 SEEDS hr1 rfl (A0 (pv 0) (A0 (E4 P4 (pv 1) B1) A5))))
    (A7 (B7 (i := 3) U3.nd rfl (Or.inr rfl) (E3 (A0 (G7 O3 (pv 2) B1 (fun _ _ => rfl)) A5)))
    (A7 (B7 (i := 4) U3.nd rfl (Or.inl rfl) (E3 A5))
    (A7 (B7 (i := 5) U3.nd rfl (Or.inl rfl) (E3 A5)) M7))), ?_⟩
  refine ⟨_, rfl, _, rfl, _, _, rfl, rfl, a, ns, m + 1, by simp, hq, h63, by omega, by omega, fun H2 ls xs g2 hls0 hls hxs => ?_⟩
  have hpos : 0 < xs.length := by omega
  refine ⟨_, rfl, ls, _, _, .int xs[0], rfl, rfl, SqL.of hls, K8 (j := 0) (by rw [List.getElem?_map, List.getElem?_eq_getElem hpos]; rfl), M1, fun st hst => ⟨T7, fun ll hll => ⟨T7, fun ld hld => ?_⟩⟩⟩
  have e1 := A8 hst (.lst [.int xs[0]])
  have e2 := A8 hll (.lst [])
  have e3 := A8 hld (.lst [])
  have s3 := e3 _ _ (e2 _ _ (A6 (H := H2) (a := st) (o := .lst [.int xs[0]])))
  have l3 := e3 _ _ (A6 (H := D5 H2 st (.lst [.int xs[0]])) (a := ll) (o := .lst []))
  have d3 := A6 (H := D5 (D5 H2 st (.lst [.int xs[0]])) ll (.lst [])) (a := ld) (o := .lst [])
  have hls3 := e3 _ _ (e2 _ _ (e1 _ _ hls))
  have n2 : ll ≠ st := Ne.symm (D8 A6 hll)
  have n3 : ld ≠ st := Ne.symm (D8 (e2 _ _ A6) hld)
  have n6 : ll ≠ ld := D8 A6 hld
  generalize D5 (D5 (D5 H2 st (.lst [.int xs[0]])) ll (.lst [])) ld (.lst []) = H3 at s3 l3 d3 hls3 ⊢
  clear e1 e2 e3 hst hll hld
  refine ⟨_, M6 (R4 PassesOwn.never rfl (bZ (P1 fA (pv 2) (N6 B1) Z6)) (K0 (i := 6) U3.nd rfl (Or.inl rfl)) M7) M7, ?_⟩
  refine ⟨fun σ' H' => ∃ (la : Addr) (sl : List V) (lines : List (List Nat)) (rs : List (Option (Option Tn))) (ts : List Tn) (b6 b7 b8 b9 : Option V), σ' = [some (.ref a), some (.int (m : Int)), some (.ref ls), some (.ref st), some (.ref ll), some (.ref ld), b6, b7, b8, b9, none, none, none] ∧ LJ K st la ll ld sl lines ts H' ∧ LG lines rs ts 15, ?_, ?_⟩
  · refine ⟨_, rfl, _, rfl, ls, _, rfl, SqL.of hls3, fun la hla => ?_⟩
    obtain ⟨ys, ey, hyl⟩ := AP6 V.int xs (some 1) none
    rw [ey]
    rw [ey] at *
    have e4 := A8 hla (.lst (ys.map V.int))
    refine ⟨la, rfl, ⟨_, SqL.of A6⟩, ?_⟩
    refine cW (xs := ys.map V.int) (fun i σ H' => ∃ (lines : List (List Nat)) (rs : List (Option (Option Tn))) (ts : List Tn) (b6 b7 b8 b9 : Option V), σ = [some (.ref a), some (.int (m : Int)), some (.ref ls), some (.ref st), some (.ref ll), some (.ref ld), b6, b7, b8, b9, none, none, none] ∧ LJ K st la ll ld (ys.map V.int) lines ts H' ∧ LG lines rs ts (3 * i))
      ⟨[], [], [], none, none, none, none, rfl, ⟨⟨_, e4 _ _ s3⟩, A6, e4 _ _ l3, ⟨[], e4 _ _ d3, TAll.nil⟩, Ne.symm (D8 s3 hla), n2, n3, Ne.symm (D8 l3 hla), Ne.symm (D8 d3 hla), n6⟩, ⟨.nil, rfl, Nat.le_refl _, Nat.le_refl _, fun t ht => by cases ht⟩⟩ (fun i σ H' _ hinv => ?_) (fun i u σ H' hu hinv => ?_) (fun σ H' hinv => ?_)
    · obtain ⟨_, _, _, _, _, _, _, _, J, _⟩ := hinv
      exact SqL.of J.a
    · obtain ⟨lines, rs, ts, b6, b7, b8, b9, rfl, J, G⟩ := hinv
      obtain ⟨sd, rfl⟩ := sM hu
      have hi5 : i < 5 := by
        have := (List.getElem?_eq_some_iff.mp hu).1
        rw [List.length_map] at this
        omega
      refine ⟨_, A7 (B7 (i := 7) U3.nd rfl (Or.inl rfl) (B4 DRW hr8 rfl (A0 (E3 (A0 (pv 6) A5)) A5)))
        (A7 (B7 (i := 8) U3.nd rfl (Or.inl rfl) (B4 LINE hr2 rfl (A0 (B4 RWW hr10 rfl (A0 (pv 7) (A0 (pv 3) A5))) (A0 (pv 3) A5))))
        (A7 (B7 (i := 9) U3.nd rfl (Or.inl rfl) (B4 LINE hr2 rfl (A0 (B4 PTW hr1 rfl (A0 (G7 O8 (pv 7) B1 (fun _ _ => rfl)) A5)) (A0 (pv 3) A5)))) M7)), ?_⟩
      refine ⟨_, rfl, M1, fun s2 hs2 => ⟨s2, sd, rfl, A6, fun H4 t v d4 hR hv => ?_⟩⟩
      obtain ⟨nms, trs, hR⟩ := hR
      have g4 : Same H' H4 := fun b o hb => d4.g b o (D8 hb hs2) (A8 hs2 _ _ _ hb)
      have J4 := J.same g4
      obtain ⟨y4, hy4⟩ := J4.s
      refine ⟨_, rfl, _, rfl, v, st, y4, t, nms, trs, rfl, hy4, hR, hv, fun H5 lw wss d5 hlw0 hlw hall => ?_⟩
      obtain ⟨y5, hy5⟩ := d5.s
      have nlw : lw ≠ st := d5.ne hlw0
      refine ⟨_, rfl, lw, st, y5, _, rfl, hy5, hlw, nlw, uD hR hall, fun H6 tx d6 htx hasc hwd => ?_⟩
      have d56 := d5.more d6
      have J6 := J4.ds d56
      have hv6 := TV.kp d56.kp hv
      have hrow := AA8 hR hall
      have wk := mW (uD hR hall) (by decide)
      have rnn := AR9 (wss := wss) hR
      obtain ⟨bt1, pU⟩ := AS1 hR
      obtain ⟨et, h0, h4, hnok, ht0, h7, hg⟩ := hR
      have hv6' := hv6
      rw [et] at hv6'
      simp only [TV, TAll] at hv6'
      obtain ⟨p, ys', rfl, hp, _, _, rfl, ⟨pa, va, rfl, hpa, hva⟩, _, _, rfl, ⟨pt, vt, rfl, hpt, hvt⟩, rfl⟩ := hv6'
      have eva := gC hva
      subst eva
      refine ⟨_, rfl, p, _, _, .ref pa, rfl, rfl, hp, rfl, pa, nms, rfl, hpa, by omega, fun H7 lp g7 hlp0 hlp => ?_⟩
      have J7 := J6.same g7
      obtain ⟨y6, hy6⟩ := J6.s
      obtain ⟨y7, hy7⟩ := J7.s
      have nlp : lp ≠ st := Ne.symm (D8 hy6 hlp0)
      have hpw : WsF 1700 (G1 nms) := (fP hnok h4).mono (by decide)
      refine ⟨_, rfl, lp, st, y7, _, rfl, hy7, hlp, nlp, hpw, fun H8 tp d8 htp hasc8 hwp => ?_⟩
      have J8 := J7.ds d8
      have k68 : Kp K H6 H8 := (Kp.same g7).trans d8.kp
      refine ⟨_, A7 (E5 (PW.pt (aO (U6 (K9 (B4 SAME hr13 rfl (A0 (G5 ROW hr33 rfl never (A0 (pv 8) A5)) (A0 (pv 7) A5))))) (aU (U6 (K9 (B4 SAME hr13 rfl (A0 (G5 PATH hr8 rfl never (A0 (pv 9) A5)) (A0 (G7 O8 (pv 7) B1 (fun _ _ => rfl)) A5)))))))) (A9 (B6 P2)) D6) M7, ?_⟩
      refine ⟨_, rfl, _, rfl, .inr ⟨tx, rfl, htx, .inr ⟨_, some t, hwd, wk, hrow, fun u9 H9 g9 hu9 => ?_⟩⟩⟩
      have k69 := k68.trans (Kp.same g9)
      refine ⟨_, rfl, u9, .ref p, t, rfl, BT.succ _ _ bt1, hu9, TV.kp k69 hv6, fun H10 g10 => ⟨_, rfl, D7 ?_⟩⟩
      refine ⟨_, rfl, _, rfl, .inr ⟨tp, rfl, htp, .inr ⟨_, some (.tup (nms.map Tn.str)), hwp, mW hpw (by decide), AM4 h0 (fun n hn => (hnok n hn).nm), fun u11 H11 g11 hu11 => ?_⟩⟩⟩
      have k611 := k69.trans (Kp.same (g10.trans g11))
      refine ⟨_, rfl, p, _, _, .ref pa, rfl, rfl, k611 _ _ hp, rfl, u11, .ref pa, _, rfl, BT.mono (by decide) pU, hu11, TV.tup (k611 _ _ hpa) (TAll.strs nms), fun H12 g12 => ⟨_, rfl, D7 ?_⟩⟩
      have k612 := k611.trans (Kp.same g12)
      have J12 := J8.same (g9.trans (g10.trans (g11.trans g12)))
      have hv12 := TV.kp k612 hv6
      clear k611 k69 k68 hpa hpt hva hvt hp
      obtain ⟨y12, hy12⟩ := J12.s
      refine ⟨_, A7 (Q5 (i := 4) U3.nd rfl (Or.inl rfl) (E4 P6 (aN (N' := ["_law_k", "_law_state"]) (fr := [none, some 3]) (own := [0]) ⟨rfl, rfl, rfl, rfl, rfl, rfl, rfl⟩ rfl (O0 rfl m2 (A0 (B4 N hr1 rfl (A0 (pv 3) (A0 B1 A5))) A5))
        (fun _ _ _ _ => K0 (i := 0) mB rfl (Or.inl rfl)) (R1 0) (fun _ _ _ _ => U5) (fun _ _ _ _ => E4 bM B3 (B4 N hr1 rfl (A0 (pv 1) (A0 B1 A5))))) (E3 (A0 (pv 8) A5))) Y0)
        (A9 (K2 (O9 PySem.F.plainAttrs_list PySem.F.slot_list_append PySem.F.type_list_append K4 (pv 5) (A0 (pv 7) A5)))), ?_⟩
      refine ⟨_, rfl, _, rfl, st, y12, 3, rfl, hy12, by decide, fun y13 r b0 b1 => ?_⟩
      have D := (DS.start hy12).next y13
      obtain ⟨c, rfl⟩ := Int.eq_ofNat_of_zero_le b0
      refine ⟨(c : Int), rfl, by omega, by omega, fun lc hlc => ?_⟩
      have hlc0 := D.old hlc
      refine R8 (fun i ys H'' => DS st H12 H'' ∧ H'' lc = some (.lst ys) ∧ ∃ gs : List Nat, ys = ST (gs.map Q8) ∧ gs.length = i ∧ ∀ g ∈ gs, g ≤ 2) ⟨D.put hlc0, A6, [], rfl, rfl, fun g hg => by cases hg⟩ (fun i ys H'' hi hinv => ?_) (fun ys H'' hinv => ?_)
      · obtain ⟨d, hl', gs, rfl, hlen, hok⟩ := hinv
        obtain ⟨y, hy⟩ := d.s
        have nl := d.ne hlc0
        dsimp only [U4, U0]
        refine cD ⟨_, rfl, st, y, 3, rfl, hy, by decide, fun y' r' c0 c1 => ?_⟩
        obtain ⟨g, rfl⟩ := Int.eq_ofNat_of_zero_le c0
        refine ⟨_, _, rfl, rfl, by decide, by omega, by omega, ?_⟩
        rw [mC g (by omega)]
        refine ⟨by rw [B5 nl]; exact hl', O7 (by rw [List.length_map, List.length_map]; omega), (d.next y').put hlc0, A6, gs ++ [g], by simp [ST, Q8], by simp [hlen], fun x hx => ?_⟩
        rcases List.mem_append.mp hx with z | z
        · exact hok x z
        · rw [List.mem_singleton.mp z]; omega
      · obtain ⟨d, hl', gs, rfl, hlen, hok⟩ := hinv
        have hgl : gs.length ≤ 2 := by omega
        have hll12 : lines.length ≤ 15 := by have := G.n; omega
        refine ⟨_, rfl, M1, fun l1 hl1 => ⟨lc, l1, _, _, rfl, rfl, A8 hl1 _ _ _ hl', A6, M5 (by simp; omega), fun l2 hl2 => ?_⟩⟩
        have d2 := (d.same (A8 hl1 (.lst [.str (S tx)]))).same (A8 hl2 (.lst (ST (gs.map Q8) ++ [.str (S tx)])))
        have J13 := J12.ds d2
        have hv13 := TV.kp d2.kp hv12
        refine ⟨ll, l2, _, _, rfl, rfl, J13.l, A6, M5 (by simp; omega), ?_⟩
        rw [show ST lines ++ (ST (gs.map Q8) ++ [V.str (S tx)]) = ST (lines ++ (gs.map Q8 ++ [tx])) by simp [ST]]
        have J14 := J13.setL (lines ++ (gs.map Q8 ++ [tx]))
        have hv14 := TV.kp (Kp.lst (K := K) (o := .lst (ST (lines ++ (gs.map Q8 ++ [tx])))) J13.l) hv13
        obtain ⟨vs, hvs, hts⟩ := J14.e
        obtain ⟨rs', G'⟩ := G.row hok hgl htx hwd rnn wk hrow bt1
        refine ⟨_, rfl, .inl ⟨rfl, _, SqL.of hvs⟩, _, rfl, ld, _, _, rfl, rfl, hvs, O7 (by have := hts.length; have := G.tn; omega), lines ++ (gs.map Q8 ++ [tx]), rs', ts ++ [t], _, _, _, _, rfl, J14.due hvs hts hv14, G'⟩
    · obtain ⟨lines, rs, ts, b6, b7, b8, b9, rfl, J, G⟩ := hinv
      rw [List.length_map] at G
      exact ⟨la, _, lines, rs, ts, b6, b7, b8, b9, rfl, J, G.a, G.o, by have := G.n; omega, by have := G.tn; omega, G.b⟩
  rintro σ4 H4 ⟨la, sl, lines, rs, ts, b6, b7, b8, b9, rfl, J4, G4⟩
  obtain ⟨y4, hy4⟩ := J4.s
  refine ⟨_, A7 (Q5 (i := 4) U3.nd rfl (Or.inl rfl) (aN (N' := ["_law_k", "_law_state"]) (fr := [none, some 3]) (own := [0]) ⟨rfl, rfl, rfl, rfl, rfl, rfl, rfl⟩ rfl (O0 rfl m2 (A0 (B4 N hr1 rfl (A0 (pv 3) (A0 B1 A5))) A5))
        (fun _ _ _ _ => K0 (i := 0) mB rfl (Or.inl rfl)) (R1 0) (fun _ _ _ _ => U5) (fun _ _ _ _ => E4 bM B3 (B4 N hr1 rfl (A0 (pv 1) (A0 B1 A5))))) Y0) M7, ?_⟩
  refine ⟨_, rfl, _, rfl, st, y4, 3, rfl, hy4, by decide, fun y5 r b0 b1 => ?_⟩
  have D := (DS.start hy4).next y5
  obtain ⟨c, rfl⟩ := Int.eq_ofNat_of_zero_le b0
  refine ⟨(c : Int), rfl, by omega, by omega, fun lc hlc => ?_⟩
  have hlc0 := D.old hlc
  refine R8 (fun i ys H'' => DS st H4 H'' ∧ H'' lc = some (.lst ys) ∧ ∃ gs : List Nat, ys = ST (gs.map Q8) ∧ gs.length = i ∧ ∀ g ∈ gs, g ≤ 2) ⟨D.put hlc0, A6, [], rfl, rfl, fun g hg => by cases hg⟩ (fun i ys H'' hi hinv => ?_) (fun ys H'' hinv => ?_)
  · obtain ⟨d, hl', gs, rfl, hlen, hok⟩ := hinv
    obtain ⟨y, hy⟩ := d.s
    have nl := d.ne hlc0
    dsimp only [U4, U0]
    refine cD ⟨_, rfl, st, y, 3, rfl, hy, by decide, fun y' r' c0 c1 => ?_⟩
    obtain ⟨g, rfl⟩ := Int.eq_ofNat_of_zero_le c0
    refine ⟨_, _, rfl, rfl, by decide, by omega, by omega, ?_⟩
    rw [mC g (by omega)]
    refine ⟨by rw [B5 nl]; exact hl', O7 (by rw [List.length_map, List.length_map]; omega), (d.next y').put hlc0, A6, gs ++ [g], by simp [ST, Q8], by simp [hlen], fun x hx => ?_⟩
    rcases List.mem_append.mp hx with z | z
    · exact hok x z
    · rw [List.mem_singleton.mp z]; omega
  obtain ⟨d, hl', gs, rfl, hlen, hok⟩ := hinv
  have hgl : gs.length ≤ 2 := by omega
  have J5 := J4.ds d
  have hll4 := G4.n
  refine ⟨ll, lc, _, _, rfl, rfl, J5.l, hl', M5 (by simp; omega), ?_⟩
  rw [show ST lines ++ ST (gs.map Q8) = ST (lines ++ gs.map Q8) by simp [ST]]
  have J6 := J5.setL (lines ++ gs.map Q8)
  obtain ⟨rs6, G6⟩ := G4.blanks hok hgl
  revert J6
  generalize D5 H'' ll (.lst (ST (lines ++ gs.map Q8))) = H6
  revert G6
  generalize lines ++ gs.map Q8 = lines6
  intro G6 J6
  have hn6 := G6.n
  have ht6 := G6.tn
  refine ⟨_, A7 (B7 (i := 10) U3.nd rfl (Or.inl rfl) (O9 PySem.F.plainAttrs_str PySem.F.slot_str_join PySem.F.type_str_join uQ B3 (A0 (pv 4) A5)))
    (A7 (B7 (i := 11) U3.nd rfl (Or.inl rfl) (G5 ROWS hr34 rfl never (A0 (pv 10) A5))) M7), ?_⟩
  refine ⟨rfl, _, rfl, _, ll, lines6.map S, rfl, rfl, by rw [List.map_map]; exact J6.l, uT (LG.small G6.a) (by omega), ?_⟩
  rw [sL]
  obtain ⟨lines', rs', ej, h0', h20', ha', ho'⟩ := G6.eff (by decide)
  refine ⟨_, rfl, _, rfl, .inr ⟨lines', rs', by rw [ej], h0', h20', ha', ?_⟩⟩
  rw [ho']
  intro lf vf H7 g7 hlf0 hlf htf
  have J7 := J6.same g7
  refine ⟨_, A7 (E5 (PW.pt (aO (U6 (K9 (E7 zL rfl m4 R5 (A0 (pv 11) (A0 (S3 (v := .ty "list") rfl m5 AP7 rfl) A5))))) (aU (U6 (K9 (B4 SAME hr13 rfl (A0 (J0 K3 rfl m3 O1 (A0 (pv 11) A5)) (A0 (J0 K3 rfl m3 O1 (A0 (pv 5) A5)) A5)))))))) (A9 (B6 P2)) D6)
    (A7 (K2 (O9 PySem.F.plainAttrs_list PySem.F.slot_list_append PySem.F.type_list_append K4 (pv 11) (A0 B3 A5))) M7), ?_⟩
  refine ⟨_, rfl, lf, _, _, rfl, SqL.of hlf, .inl ⟨rfl, _, rfl, D7 ?_⟩⟩
  obtain ⟨vs7, hvs7, hts7⟩ := J7.e
  have btt : BT 11 (.tup ts) := aH (by omega) G6.b
  refine ⟨_, rfl, lf, _, rfl, .inl ⟨SqL.of hlf, fun p1 hp1 => ?_⟩⟩
  have k1 := A8 hp1 (.tup vf)
  refine ⟨_, rfl, ld, _, rfl, .inl ⟨SqL.of (k1 _ _ hvs7), fun p2 hp2 => ?_⟩⟩
  have k2 := A8 hp2 (.tup vs7)
  have k12 := k1.trans k2
  refine ⟨.ref p1, .ref p2, .tup ts, rfl, btt, TV.tup (SqT.of (k2 _ _ A6)) (htf.kp (Kp.same k12)), TV.tup (SqT.of A6) (hts7.kp (Kp.same k12)), fun H8 g8 => ⟨_, rfl, D7 ?_⟩⟩
  have g78 := k12.trans g8
  have hlf8 := g78 _ _ hlf
  obtain ⟨y6, hy6⟩ := J6.s
  refine ⟨_, rfl, .inl ⟨rfl, _, SqL.of hlf8⟩, lf, _, _, rfl, rfl, hlf8, O7 (by have := htf.length; omega), ?_⟩
  have J9 := J6.ds (((DS.start hy6).same (g7.trans g78)).put (o := .lst (vf ++ [.str (Str.ofString "x")])) hlf0)
  revert J9
  generalize D5 H8 lf (.lst (vf ++ [.str (Str.ofString "x")])) = H9
  intro J9
  clear J7 k1 k2 k12 g8 g78 hp1 hp2 hlf8 hlf htf hts7 hvs7 g7
  refine ⟨_, M6 (E5 (B9 G9 (B4 N hr1 rfl (A0 (pv 3) (A0 B1 A5))) B1 (B8 _)) M7 D6) M7, ?_⟩
  refine ⟨fun σ' H' => ∃ (b12 : Option V) (lines10 : List (List Nat)), σ' = [some (.ref a), some (.int (m : Int)), some (.ref ls), some (.ref st), some (.ref ll), some (.ref ld), b6, b7, b8, b9, some (.str (S (N3 10 lines6))), some (.ref lf), b12] ∧ LJ K st la ll ld sl lines10 ts H', ?_, ?_⟩
  · obtain ⟨y9, hy9⟩ := J9.s
    refine ⟨_, rfl, st, y9, 2, rfl, hy9, by decide, fun y10 r10 c0 c1 => ⟨rfl, _, rfl, ?_⟩⟩
    have J10 := J9.ds ((DS.start hy9).next y10)
    refine N1 (fun _ => ?_) (fun _ => ⟨_, _, rfl, J10⟩)
    refine ⟨_, A7 (B7 (i := 12) U3.nd rfl (Or.inl rfl) (B4 LINE hr2 rfl (A0 (B4 BAD hr7 rfl (A0 (pv 3) A5)) (A0 (pv 3) A5)))) M7, ?_⟩
    refine ⟨_, rfl, st, y10, rfl, A6, fun H11 lb nms T ws t d11 hlb nlb hn0 hn2 hnok hw hmem => ?_⟩
    have J11 := J10.ds d11
    obtain ⟨y11, hy11⟩ := J11.s
    obtain ⟨hrow, hpath, hwne⟩ := AX8 (n := 3) hn0 (fun n hn => (hnok n hn).nm) ((nZ hw).mono (Exn.succ 3)) (xV hw) ws hmem
    have hwf : WsF 1700 ws := (AP8 hn0 hnok (by omega) (cL uP 1 false t T hw) ws hmem).mono (by decide)
    have wk := mW hwf (by decide)
    refine ⟨_, rfl, lb, st, y11, ws, rfl, hy11, hlb, nlb, hwf, fun H12 tb d12 htb hasc hwb => ?_⟩
    have J12 := J11.ds d12
    obtain ⟨y12, hy12⟩ := J12.s
    refine ⟨_, A7 (K2 (O9 PySem.F.plainAttrs_list PySem.F.slot_list_insert PySem.F.type_list_insert yM (pv 4) (A0 (B4 N hr1 rfl (A0 (pv 3) (A0 (E4 P4 (E7 M2 rfl m1 PySem.boot_len (A0 (pv 4) A5)) B1) A5))) (A0 (pv 12) A5)))) M7, ?_⟩
    refine ⟨_, rfl, .inl ⟨rfl, _, SqL.of J12.l⟩, _, rfl, _, rfl, ll, _, rfl, .inl (SqL.of J12.l), _, _, rfl, rfl, st, y12, _, rfl, hy12, by omega, fun y13 kk e0 e1 => ?_⟩
    obtain ⟨k, rfl⟩ := Int.eq_ofNat_of_zero_le e0
    rw [List.length_map] at e1
    have J13 := J12.ds ((DS.start hy12).next y13)
    have hkl : k ≤ lines6.length := by omega
    refine ⟨_, rfl, ll, _, k, _, rfl, rfl, J13.l, by rw [List.length_map]; exact hkl, O7 (by rw [List.length_map]; omega), ?_⟩
    rw [show (ST lines6).take k ++ V.str (S tb) :: (ST lines6).drop k = ST (lines6.take k ++ tb :: lines6.drop k) by simp [ST, List.map_take, List.map_drop]]
    have J14 := J13.setL (lines6.take k ++ tb :: lines6.drop k)
    have hins := sY (F := kM (Exn 5)) (x := tb) (y := some none) ⟨htb, ws, hwb, hwne, wk, hrow⟩ k G6.a
    have hinl : (lines6.take k ++ tb :: lines6.drop k).length ≤ 20 := by simp; omega
    refine ⟨_, A9 (E5 (PW.pt (aO (U6 (K9 (B4 RFD hr rfl (A0 (pv 12) (A0 B1 A5))))) (aO (U6 (K9 (B4 RFD hr rfl (A0 (O9 PySem.F.plainAttrs_str PySem.F.slot_str_join PySem.F.type_str_join uQ B3 (A0 (pv 4) A5)) (A0 B1 A5))))) (aU (U6 (K9 (B4 RFD hr rfl (A0 (pv 12) (A0 B1 A5))))))))) (A9 (B6 P2)) D6), ?_⟩
    refine ⟨_, rfl, _, 0, rfl, AL8 htb hwb wk hrow, fun H15 g15 => ⟨_, rfl, D7 ?_⟩⟩
    have J15 := J14.same g15
    refine ⟨rfl, _, rfl, _, ll, (lines6.take k ++ tb :: lines6.drop k).map S, rfl, rfl, by rw [List.map_map]; exact J15.l, uT (LG.small hins) hinl, ?_⟩
    rw [sL]
    refine ⟨_, 1, rfl, AB0 (by simp) hinl hins (AC1 _ _), fun H16 g16 => ⟨_, rfl, D7 ?_⟩⟩
    exact ⟨_, rfl, _, 2, rfl, AB1 htb hwb wk hpath, fun H17 g17 => ⟨_, rfl, D7 ⟨_, _, rfl, J15.same (g16.trans g17)⟩⟩⟩
  rintro σ10 H10 ⟨b12, lines10, rfl, J10⟩
  refine ⟨_, A7 (E5 (U6 (K9 (B4 RFD hr rfl (A0 (G7 O3 (E3 (A0 X9 (A0 B1 (A0 (E3 (A0 B3 A5)) (A0 P2 A5))))) (B4 N hr1 rfl (A0 (pv 3) (A0 B1 A5))) (fun _ _ => rfl)) (A0 (B4 N hr1 rfl (A0 (pv 3) (A0 B1 A5))) A5))))) (A9 (B6 P2)) D6) M7, ?_⟩
  refine ⟨M1, fun l1 hl1 => ⟨AE3, fun l2 hl2 => ?_⟩⟩
  have k1 := A8 hl1 (.lst [V.str (Str.ofString "a: 1")])
  have k2 := A8 hl2 (.lst [.non, .int 5, .ref l1, .bl true])
  have J12 := J10.same (k1.trans k2)
  obtain ⟨y10, hy10⟩ := J10.s
  obtain ⟨y12, hy12⟩ := J12.s
  have n1 : l1 ≠ st := Ne.symm (D8 hy10 hl1)
  have nl2 : l2 ≠ st := Ne.symm (D8 (k1 _ _ hy10) hl2)
  have w1 := k2 _ _ (A6 (H := H10) (a := l1) (o := .lst [V.str (Str.ofString "a: 1")]))
  refine ⟨_, rfl, st, y12, 4, rfl, hy12, by decide, fun y13 r b0 b1 => ?_⟩
  obtain ⟨v, d, hat, hdv, his⟩ : ∃ v d, aK [V.non, .int 5, .ref l1, .bl true] r = some v ∧ (∀ H : Hp, H l1 = some (.lst [V.str (Str.ofString "a: 1")]) → DV K H d v) ∧ bF d "str" = false := by
    have : r = 0 ∨ r = 1 ∨ r = 2 ∨ r = 3 := by omega
    rcases this with rfl | rfl | rfl | rfl
    · exact ⟨_, .non, rfl, fun H _ => by simp only [DV], rfl⟩
    · exact ⟨_, .int 5, rfl, fun H _ => by simp only [DV], rfl⟩
    · exact ⟨_, .lst, rfl, fun H h => by simp only [DV]; exact ⟨l1, _, rfl, h⟩, rfl⟩
    · exact ⟨_, .bl true, rfl, fun H _ => by simp only [DV], rfl⟩
  refine ⟨l2, _, _, v, rfl, rfl, SqL.of (by rw [B5 nl2]; exact A6), hat, ?_⟩
  have J13 := J12.ds ((DS.start hy12).next y13)
  refine ⟨_, rfl, st, y13, 3, rfl, A6, by decide, fun y14 r14 c0 c1 => ?_⟩
  have J14 := J13.ds ((DS.start A6).next y14)
  refine ⟨v, r14, rfl, AB2 (hdv _ (by rw [B5 n1, B5 n1]; exact w1)) his, fun H15 g15 => ⟨_, rfl, D7 ?_⟩⟩
  have J15 := J14.same g15
  refine ⟨_, A9 (B6 (W5 (B4 SAME hr13 rfl (A0 (J0 K3 rfl m3 O1 (A0 (G5 ROWS hr34 rfl never (A0 (pv 10) A5)) A5)) (A0 (J0 K3 rfl m3 O1 (A0 (pv 5) A5)) A5)))
      (W4 (AI1 (N7 aD (E7 M2 rfl m1 PySem.boot_len (A0 (pv 5) A5)) B1 (B8 _)) (W4 (N7 (yD hr.units) (G5 ROWS hr34 rfl never (A0 B3 A5)) (E3 A5) (B8 _))))))), ?_⟩
  refine ⟨_, rfl, _, rfl, .inr ⟨lines', rs', by rw [ej], h0', h20', ha', ?_⟩⟩
  rw [ho']
  intro lg vg H16 g16 hlg0 hlg htg
  have J16 := J15.same g16
  obtain ⟨vs, hvs, hts⟩ := J16.e
  refine ⟨lg, _, rfl, .inl ⟨SqL.of hlg, fun p1 hp1 => ?_⟩⟩
  have k3 := A8 hp1 (.tup vg)
  refine ⟨_, rfl, ld, _, rfl, .inl ⟨SqL.of (k3 _ _ hvs), fun p2 hp2 => ?_⟩⟩
  have k4 := A8 hp2 (.tup vs)
  have k34 := k3.trans k4
  refine ⟨.ref p1, .ref p2, .tup ts, rfl, btt, TV.tup (SqT.of (k4 _ _ A6)) (htg.kp (Kp.same k34)), TV.tup (SqT.of A6) (hts.kp (Kp.same k34)), fun H17 g17 => ⟨_, rfl, E8 ?_⟩⟩
  have hvs17 := g17 _ _ (k34 _ _ hvs)
  refine ⟨_, rfl, ld, _, rfl, .inl (SqL.of hvs17), _, _, rfl, rfl, _, rfl, N1 (fun _ => q _) (fun _ => ?_)⟩
  refine ⟨_, rfl, .inr ⟨[[]], [none], by rw [gW]; rfl, by simp, by decide, .cons (lB 0 (by decide)) .nil, ?_⟩⟩
  rw [show O5 [none] = some [] from rfl]
  intro le ve H18 g18 hle0 hle hte
  have ee : ve = [] := by simpa only [TAll] using hte
  subst ee
  exact ⟨T7, fun l9 hl9 => ⟨wL, wL, sE (A8 hl9 _ _ _ hle), sE A6, rfl, rfl, by decide, q _⟩⟩
end
end Law
namespace Law
open PySem L2 L2.Sp
theorem all_mk {l : PySem.W.OpenLaw} {w : World} {K : PySem.W.Frag} {h : Heap} {mg : Str → Option Value} {fa : Addr} (X : K.In h) (G : h.Ns mainGlobals mg) (hfa : mg "law" = some (.ref fa))
  {f0 : Addr} {od0 an0 : Option Addr} {sl0 : Array (Option Value)} {oc0 kV0 dc0 pm0 cd0 ct0 : Value}
  {f1 : Addr} {od1 an1 : Option Addr} {sl1 : Array (Option Value)} {oc1 kV1 dc1 pm1 cd1 ct1 : Value}
  {f5 : Addr} {od5 an5 : Option Addr} {sl5 : Array (Option Value)} {oc5 kV5 dc5 pm5 cd5 ct5 : Value}
  {f6 : Addr} {od6 an6 : Option Addr} {sl6 : Array (Option Value)} {oc6 kV6 dc6 pm6 cd6 ct6 : Value}
  {f4 : Addr} {od4 an4 : Option Addr} {sl4 : Array (Option Value)} {oc4 kV4 dc4 pm4 cd4 ct4 : Value}
  {f7 : Addr} {od7 an7 : Option Addr} {sl7 : Array (Option Value)} {oc7 kV7 dc7 pm7 cd7 ct7 : Value}
  {f8 : Addr} {od8 an8 : Option Addr} {sl8 : Array (Option Value)} {oc8 kV8 dc8 pm8 cd8 ct8 : Value}
  {f3 : Addr} {od3 an3 : Option Addr} {sl3 : Array (Option Value)} {oc3 kV3 dc3 pm3 cd3 ct3 : Value}
  {f2 : Addr} {od2 an2 : Option Addr} {sl2 : Array (Option Value)} {oc2 kV2 dc2 pm2 cd2 ct2 : Value}
  {f16 : Addr} {od16 an16 : Option Addr} {sl16 : Array (Option Value)} {oc16 kV16 dc16 pm16 cd16 ct16 : Value}
  {f24 : Addr} {od24 an24 : Option Addr} {sl24 : Array (Option Value)} {oc24 kV24 dc24 pm24 cd24 ct24 : Value}
  {f23 : Addr} {od23 an23 : Option Addr} {sl23 : Array (Option Value)} {oc23 kV23 dc23 pm23 cd23 ct23 : Value}
  {f20 : Addr} {od20 an20 : Option Addr} {sl20 : Array (Option Value)} {oc20 kV20 dc20 pm20 cd20 ct20 : Value}
  {f21 : Addr} {od21 an21 : Option Addr} {sl21 : Array (Option Value)} {oc21 kV21 dc21 pm21 cd21 ct21 : Value}
  {f17 : Addr} {od17 an17 : Option Addr} {sl17 : Array (Option Value)} {oc17 kV17 dc17 pm17 cd17 ct17 : Value}
  {f13 : Addr} {od13 an13 : Option Addr} {sl13 : Array (Option Value)} {oc13 kV13 dc13 pm13 cd13 ct13 : Value}
  {f12 : Addr} {od12 an12 : Option Addr} {sl12 : Array (Option Value)} {oc12 kV12 dc12 pm12 cd12 ct12 : Value}
  {f14 : Addr} {od14 an14 : Option Addr} {sl14 : Array (Option Value)} {oc14 kV14 dc14 pm14 cd14 ct14 : Value}
  {f15 : Addr} {od15 an15 : Option Addr} {sl15 : Array (Option Value)} {oc15 kV15 dc15 pm15 cd15 ct15 : Value}
  {f18 : Addr} {od18 an18 : Option Addr} {sl18 : Array (Option Value)} {oc18 kV18 dc18 pm18 cd18 ct18 : Value}
  {f19 : Addr} {od19 an19 : Option Addr} {sl19 : Array (Option Value)} {oc19 kV19 dc19 pm19 cd19 ct19 : Value}
  {f22 : Addr} {od22 an22 : Option Addr} {sl22 : Array (Option Value)} {oc22 kV22 dc22 pm22 cd22 ct22 : Value}
  {f9 : Addr} {od9 an9 : Option Addr} {sl9 : Array (Option Value)} {oc9 kV9 dc9 pm9 cd9 ct9 : Value}
  {f10 : Addr} {od10 an10 : Option Addr} {sl10 : Array (Option Value)} {oc10 kV10 dc10 pm10 cd10 ct10 : Value}
  {f11 : Addr} {od11 an11 : Option Addr} {sl11 : Array (Option Value)} {oc11 kV11 dc11 pm11 cd11 ct11 : Value}
  {f25 : Addr} {od25 an25 : Option Addr} {sl25 : Array (Option Value)} {oc25 kV25 dc25 pm25 cd25 ct25 : Value}
  {f26 : Addr} {od26 an26 : Option Addr} {sl26 : Array (Option Value)} {oc26 kV26 dc26 pm26 cd26 ct26 : Value}
  {f27 : Addr} {od27 an27 : Option Addr} {sl27 : Array (Option Value)} {oc27 kV27 dc27 pm27 cd27 ct27 : Value}
  {f28 : Addr} {od28 an28 : Option Addr} {sl28 : Array (Option Value)} {oc28 kV28 dc28 pm28 cd28 ct28 : Value}
  {f29 : Addr} {od29 an29 : Option Addr} {sl29 : Array (Option Value)} {oc29 kV29 dc29 pm29 cd29 ct29 : Value}
  {f30 : Addr} {od30 an30 : Option Addr} {sl30 : Array (Option Value)} {oc30 kV30 dc30 pm30 cd30 ct30 : Value}
  {f31 : Addr} {od31 an31 : Option Addr} {sl31 : Array (Option Value)} {oc31 kV31 dc31 pm31 cd31 ct31 : Value}
  {f32 : Addr} {od32 an32 : Option Addr} {sl32 : Array (Option Value)} {oc32 kV32 dc32 pm32 cd32 ct32 : Value}
  {f33 : Addr} {od33 an33 : Option Addr} {sl33 : Array (Option Value)} {oc33 kV33 dc33 pm33 cd33 ct33 : Value}
  {f34 : Addr} {od34 an34 : Option Addr} {sl34 : Array (Option Value)} {oc34 kV34 dc34 pm34 cd34 ct34 : Value}
  {f35 : Addr} {od35 an35 : Option Addr} {sl35 : Array (Option Value)} {oc35 kV35 dc35 pm35 cd35 ct35 : Value}
  {f36 : Addr} {od36 an36 : Option Addr} {sl36 : Array (Option Value)} {oc36 kV36 dc36 pm36 cd36 ct36 : Value}
  {f37 : Addr} {od37 an37 : Option Addr} {sl37 : Array (Option Value)} {oc37 kV37 dc37 pm37 cd37 ct37 : Value}
  {f40 : Addr} {od40 an40 : Option Addr} {sl40 : Array (Option Value)} {oc40 kV40 dc40 pm40 cd40 ct40 : Value}
  {f43 : Addr} {od43 an43 : Option Addr} {sl43 : Array (Option Value)} {oc43 kV43 dc43 pm43 cd43 ct43 : Value}
  {f38 : Addr} {od38 an38 : Option Addr} {sl38 : Array (Option Value)} {oc38 kV38 dc38 pm38 cd38 ct38 : Value}
  {f39 : Addr} {od39 an39 : Option Addr} {sl39 : Array (Option Value)} {oc39 kV39 dc39 pm39 cd39 ct39 : Value}
  {f41 : Addr} {od41 an41 : Option Addr} {sl41 : Array (Option Value)} {oc41 kV41 dc41 pm41 cd41 ct41 : Value}
  {f42 : Addr} {od42 an42 : Option Addr} {sl42 : Array (Option Value)} {oc42 kV42 dc42 pm42 cd42 ct42 : Value}
  {f44 : Addr} {od44 an44 : Option Addr} {sl44 : Array (Option Value)} {oc44 kV44 dc44 pm44 cd44 ct44 : Value}
  {f45 : Addr} {od45 an45 : Option Addr} {sl45 : Array (Option Value)} {oc45 kV45 dc45 pm45 cd45 ct45 : Value}
  {f46 : Addr} {od46 an46 : Option Addr} {sl46 : Array (Option Value)} {oc46 kV46 dc46 pm46 cd46 ct46 : Value}
  {f47 : Addr} {od47 an47 : Option Addr} {sl47 : Array (Option Value)} {oc47 kV47 dc47 pm47 cd47 ct47 : Value}
  {f48 : Addr} {od48 an48 : Option Addr} {sl48 : Array (Option Value)} {oc48 kV48 dc48 pm48 cd48 ct48 : Value}
  {gt : Addr} {dN : Option Addr} {slN : Array (Option Value)} {tA tB : Tok} {nN : Nat}
  {cC cR gp : Addr} {tM tS p0 p1 p2 p3 p4 p5 p6 p7 p8 p9 : Tok} {dP : Option Addr} {slP : Array (Option Value)} {nP : Nat} {f49 : Addr} {od49 an49 : Option Addr} {sl49 : Array (Option Value)} {oc49 kV49 dc49 pm49 cd49 ct49 : Value} {f50 : Addr} {od50 an50 : Option Addr} {sl50 : Array (Option Value)} {oc50 kV50 dc50 pm50 cd50 ct50 : Value} {f51 : Addr} {od51 an51 : Option Addr} {sl51 : Array (Option Value)} {oc51 kV51 dc51 pm51 cd51 ct51 : Value} {f52 : Addr} {od52 an52 : Option Addr} {sl52 : Array (Option Value)} {oc52 kV52 dc52 pm52 cd52 ct52 : Value} {f53 : Addr} {od53 an53 : Option Addr} {sl53 : Array (Option Value)} {oc53 kV53 dc53 pm53 cd53 ct53 : Value} {cM cG cN : Addr}
  (a0 : PySem.W.nsIn K mainGlobals "is_name" = some (some (.ref f0))) (l0 : K.lookup f0 = some ⟨oc0,od0,.func (PySem.W.fnOf "is_name" "is_name" (E1 jU) (D9 jU) (B2 jU) .none kV0 dc0 pm0 an0 cd0 ct0),sl0⟩) (c0 : PySem.W.codeIn K cd0 "is_name" = true) (k0 : PySem.W.keepIn K (.ref f0) = true)
  (a1 : PySem.W.nsIn K mainGlobals "is_sign" = some (some (.ref f1))) (l1 : K.lookup f1 = some ⟨oc1,od1,.func (PySem.W.fnOf "is_sign" "is_sign" (E1 jQ) (D9 jQ) (B2 jQ) .none kV1 dc1 pm1 an1 cd1 ct1),sl1⟩) (c1 : PySem.W.codeIn K cd1 "is_sign" = true) (k1 : PySem.W.keepIn K (.ref f1) = true)
  (a5 : PySem.W.nsIn K mainGlobals "is_letter" = some (some (.ref f5))) (l5 : K.lookup f5 = some ⟨oc5,od5,.func (PySem.W.fnOf "is_letter" "is_letter" (E1 bX) (D9 bX) (B2 bX) .none kV5 dc5 pm5 an5 cd5 ct5),sl5⟩) (c5 : PySem.W.codeIn K cd5 "is_letter" = true) (k5 : PySem.W.keepIn K (.ref f5) = true)
  (a6 : PySem.W.nsIn K mainGlobals "is_figure" = some (some (.ref f6))) (l6 : K.lookup f6 = some ⟨oc6,od6,.func (PySem.W.fnOf "is_figure" "is_figure" (E1 bY) (D9 bY) (B2 bY) .none kV6 dc6 pm6 an6 cd6 ct6),sl6⟩) (c6 : PySem.W.codeIn K cd6 "is_figure" = true) (k6 : PySem.W.keepIn K (.ref f6) = true)
  (a4 : PySem.W.nsIn K mainGlobals "run_end" = some (some (.ref f4))) (l4 : K.lookup f4 = some ⟨oc4,od4,.func (PySem.W.fnOf "run_end" "run_end" (E1 nH) (D9 nH) (B2 nH) .none kV4 dc4 pm4 an4 cd4 ct4),sl4⟩) (c4 : PySem.W.codeIn K cd4 "run_end" = true) (k4 : PySem.W.keepIn K (.ref f4) = true)
  (a7 : PySem.W.nsIn K mainGlobals "number_at" = some (some (.ref f7))) (l7 : K.lookup f7 = some ⟨oc7,od7,.func (PySem.W.fnOf "number_at" "number_at" (E1 nO) (D9 nO) (B2 nO) .none kV7 dc7 pm7 an7 cd7 ct7),sl7⟩) (c7 : PySem.W.codeIn K cd7 "number_at" = true) (k7 : PySem.W.keepIn K (.ref f7) = true)
  (a8 : PySem.W.nsIn K mainGlobals "quoted_at" = some (some (.ref f8))) (l8 : K.lookup f8 = some ⟨oc8,od8,.func (PySem.W.fnOf "quoted_at" "quoted_at" (E1 nK) (D9 nK) (B2 nK) .none kV8 dc8 pm8 an8 cd8 ct8),sl8⟩) (c8 : PySem.W.codeIn K cd8 "quoted_at" = true) (k8 : PySem.W.keepIn K (.ref f8) = true)
  (a3 : PySem.W.nsIn K mainGlobals "word_at" = some (some (.ref f3))) (l3 : K.lookup f3 = some ⟨oc3,od3,.func (PySem.W.fnOf "word_at" "word_at" (E1 jO) (D9 jO) (B2 jO) .none kV3 dc3 pm3 an3 cd3 ct3),sl3⟩) (c3 : PySem.W.codeIn K cd3 "word_at" = true) (k3 : PySem.W.keepIn K (.ref f3) = true)
  (a2 : PySem.W.nsIn K mainGlobals "words_of" = some (some (.ref f2))) (l2 : K.lookup f2 = some ⟨oc2,od2,.func (PySem.W.fnOf "words_of" "words_of" (E1 fE) (D9 fE) (B2 fE) .none kV2 dc2 pm2 an2 cd2 ct2),sl2⟩) (c2 : PySem.W.codeIn K cd2 "words_of" = true) (k2 : PySem.W.keepIn K (.ref f2) = true)
  (a16 : PySem.W.nsIn K mainGlobals "is_number" = some (some (.ref f16))) (l16 : K.lookup f16 = some ⟨oc16,od16,.func (PySem.W.fnOf "is_number" "is_number" (E1 jX) (D9 jX) (B2 jX) .none kV16 dc16 pm16 an16 cd16 ct16),sl16⟩) (c16 : PySem.W.codeIn K cd16 "is_number" = true) (k16 : PySem.W.keepIn K (.ref f16) = true)
  (a24 : PySem.W.nsIn K mainGlobals "name_of" = some (some (.ref f24))) (l24 : K.lookup f24 = some ⟨oc24,od24,.func (PySem.W.fnOf "name_of" "name_of" (E1 bW) (D9 bW) (B2 bW) .none kV24 dc24 pm24 an24 cd24 ct24),sl24⟩) (c24 : PySem.W.codeIn K cd24 "name_of" = true) (k24 : PySem.W.keepIn K (.ref f24) = true)
  (a23 : PySem.W.nsIn K mainGlobals "names_of" = some (some (.ref f23))) (l23 : K.lookup f23 = some ⟨oc23,od23,.func (PySem.W.fnOf "names_of" "names_of" (E1 aL) (D9 aL) (B2 aL) .none kV23 dc23 pm23 an23 cd23 ct23),sl23⟩) (c23 : PySem.W.codeIn K cd23 "names_of" = true) (k23 : PySem.W.keepIn K (.ref f23) = true)
  (a20 : PySem.W.nsIn K mainGlobals "has_another" = some (some (.ref f20))) (l20 : K.lookup f20 = some ⟨oc20,od20,.func (PySem.W.fnOf "has_another" "has_another" (E1 nV) (D9 nV) (B2 nV) .none kV20 dc20 pm20 an20 cd20 ct20),sl20⟩) (c20 : PySem.W.codeIn K cd20 "has_another" = true) (k20 : PySem.W.keepIn K (.ref f20) = true)
  (a21 : PySem.W.nsIn K mainGlobals "takes_end" = some (some (.ref f21))) (l21 : K.lookup f21 = some ⟨oc21,od21,.func (PySem.W.fnOf "takes_end" "takes_end" (E1 jZ) (D9 jZ) (B2 jZ) .none kV21 dc21 pm21 an21 cd21 ct21),sl21⟩) (c21 : PySem.W.codeIn K cd21 "takes_end" = true) (k21 : PySem.W.keepIn K (.ref f21) = true)
  (a17 : PySem.W.nsIn K mainGlobals "span_tree" = some (some (.ref f17))) (l17 : K.lookup f17 = some ⟨oc17,od17,.func (PySem.W.fnOf "span_tree" "span_tree" (E1 fH) (D9 fH) (B2 fH) .none kV17 dc17 pm17 an17 cd17 ct17),sl17⟩) (c17 : PySem.W.codeIn K cd17 "span_tree" = true) (k17 : PySem.W.keepIn K (.ref f17) = true)
  (a13 : PySem.W.nsIn K mainGlobals "one_or_several" = some (some (.ref f13))) (l13 : K.lookup f13 = some ⟨oc13,od13,.func (PySem.W.fnOf "one_or_several" "one_or_several" (E1 nM) (D9 nM) (B2 nM) .none kV13 dc13 pm13 an13 cd13 ct13),sl13⟩) (c13 : PySem.W.codeIn K cd13 "one_or_several" = true) (k13 : PySem.W.keepIn K (.ref f13) = true)
  (a12 : PySem.W.nsIn K mainGlobals "expression" = some (some (.ref f12))) (l12 : K.lookup f12 = some ⟨oc12,od12,.func (PySem.W.fnOf "expression" "expression" (E1 dO) (D9 dO) (B2 dO) .none kV12 dc12 pm12 an12 cd12 ct12),sl12⟩) (c12 : PySem.W.codeIn K cd12 "expression" = true) (k12 : PySem.W.keepIn K (.ref f12) = true)
  (a14 : PySem.W.nsIn K mainGlobals "negated" = some (some (.ref f14))) (l14 : K.lookup f14 = some ⟨oc14,od14,.func (PySem.W.fnOf "negated" "negated" (E1 dM) (D9 dM) (B2 dM) .none kV14 dc14 pm14 an14 cd14 ct14),sl14⟩) (c14 : PySem.W.codeIn K cd14 "negated" = true) (k14 : PySem.W.keepIn K (.ref f14) = true)
  (a15 : PySem.W.nsIn K mainGlobals "single" = some (some (.ref f15))) (l15 : K.lookup f15 = some ⟨oc15,od15,.func (PySem.W.fnOf "single" "single" (E1 Z5) (D9 Z5) (B2 Z5) .none kV15 dc15 pm15 an15 cd15 ct15),sl15⟩) (c15 : PySem.W.codeIn K cd15 "single" = true) (k15 : PySem.W.keepIn K (.ref f15) = true)
  (a18 : PySem.W.nsIn K mainGlobals "list_tree" = some (some (.ref f18))) (l18 : K.lookup f18 = some ⟨oc18,od18,.func (PySem.W.fnOf "list_tree" "list_tree" (E1 aS) (D9 aS) (B2 aS) .none kV18 dc18 pm18 an18 cd18 ct18),sl18⟩) (c18 : PySem.W.codeIn K cd18 "list_tree" = true) (k18 : PySem.W.keepIn K (.ref f18) = true)
  (a19 : PySem.W.nsIn K mainGlobals "record_tree" = some (some (.ref f19))) (l19 : K.lookup f19 = some ⟨oc19,od19,.func (PySem.W.fnOf "record_tree" "record_tree" (E1 dL) (D9 dL) (B2 dL) .none kV19 dc19 pm19 an19 cd19 ct19),sl19⟩) (c19 : PySem.W.codeIn K cd19 "record_tree" = true) (k19 : PySem.W.keepIn K (.ref f19) = true)
  (a22 : PySem.W.nsIn K mainGlobals "field_of" = some (some (.ref f22))) (l22 : K.lookup f22 = some ⟨oc22,od22,.func (PySem.W.fnOf "field_of" "field_of" (E1 aT) (D9 aT) (B2 aT) .none kV22 dc22 pm22 an22 cd22 ct22),sl22⟩) (c22 : PySem.W.codeIn K cd22 "field_of" = true) (k22 : PySem.W.keepIn K (.ref f22) = true)
  (a9 : PySem.W.nsIn K mainGlobals "read_path" = some (some (.ref f9))) (l9 : K.lookup f9 = some ⟨oc9,od9,.func (PySem.W.fnOf "read_path" "read_path" (E1 jS) (D9 jS) (B2 jS) .none kV9 dc9 pm9 an9 cd9 ct9),sl9⟩) (c9 : PySem.W.codeIn K cd9 "read_path" = true) (k9 : PySem.W.keepIn K (.ref f9) = true)
  (a10 : PySem.W.nsIn K mainGlobals "read_row" = some (some (.ref f10))) (l10 : K.lookup f10 = some ⟨oc10,od10,.func (PySem.W.fnOf "read_row" "read_row" (E1 nI) (D9 nI) (B2 nI) .none kV10 dc10 pm10 an10 cd10 ct10),sl10⟩) (c10 : PySem.W.codeIn K cd10 "read_row" = true) (k10 : PySem.W.keepIn K (.ref f10) = true)
  (a11 : PySem.W.nsIn K mainGlobals "read_rows" = some (some (.ref f11))) (l11 : K.lookup f11 = some ⟨oc11,od11,.func (PySem.W.fnOf "read_rows" "read_rows" (E1 jR) (D9 jR) (B2 jR) .none kV11 dc11 pm11 an11 cd11 ct11),sl11⟩) (c11 : PySem.W.codeIn K cd11 "read_rows" = true) (k11 : PySem.W.keepIn K (.ref f11) = true)
  (a25 : PySem.W.nsIn K mainGlobals "_law_next" = some (some (.ref f25))) (l25 : K.lookup f25 = some ⟨oc25,od25,.func (PySem.W.fnOf "_law_next" "_law_next" (E1 jT) (D9 jT) (B2 jT) .none kV25 dc25 pm25 an25 cd25 ct25),sl25⟩) (c25 : PySem.W.codeIn K cd25 "_law_next" = true) (k25 : PySem.W.keepIn K (.ref f25) = true)
  (a26 : PySem.W.nsIn K mainGlobals "_law_seeds" = some (some (.ref f26))) (l26 : K.lookup f26 = some ⟨oc26,od26,.func (PySem.W.fnOf "_law_seeds" "_law_seeds" (E1 fI) (D9 fI) (B2 fI) .none kV26 dc26 pm26 an26 cd26 ct26),sl26⟩) (c26 : PySem.W.codeIn K cd26 "_law_seeds" = true) (k26 : PySem.W.keepIn K (.ref f26) = true)
  (a27 : PySem.W.nsIn K mainGlobals "_law_letters" = some (some (.ref f27))) (l27 : K.lookup f27 = some ⟨oc27,od27,.func (PySem.W.fnOf "_law_letters" "_law_letters" (E1 nQ) (D9 nQ) (B2 nQ) .none kV27 dc27 pm27 an27 cd27 ct27),sl27⟩) (c27 : PySem.W.codeIn K cd27 "_law_letters" = true) (k27 : PySem.W.keepIn K (.ref f27) = true)
  (a28 : PySem.W.nsIn K mainGlobals "_law_plain" = some (some (.ref f28))) (l28 : K.lookup f28 = some ⟨oc28,od28,.func (PySem.W.fnOf "_law_plain" "_law_plain" (E1 fK) (D9 fK) (B2 fK) .none kV28 dc28 pm28 an28 cd28 ct28),sl28⟩) (c28 : PySem.W.codeIn K cd28 "_law_plain" = true) (k28 : PySem.W.keepIn K (.ref f28) = true)
  (a29 : PySem.W.nsIn K mainGlobals "_law_name" = some (some (.ref f29))) (l29 : K.lookup f29 = some ⟨oc29,od29,.func (PySem.W.fnOf "_law_name" "_law_name" (E1 uB) (D9 uB) (B2 uB) .none kV29 dc29 pm29 an29 cd29 ct29),sl29⟩) (c29 : PySem.W.codeIn K cd29 "_law_name" = true) (k29 : PySem.W.keepIn K (.ref f29) = true)
  (a30 : PySem.W.nsIn K mainGlobals "_law_names" = some (some (.ref f30))) (l30 : K.lookup f30 = some ⟨oc30,od30,.func (PySem.W.fnOf "_law_names" "_law_names" (E1 iN) (D9 iN) (B2 iN) .none kV30 dc30 pm30 an30 cd30 ct30),sl30⟩) (c30 : PySem.W.codeIn K cd30 "_law_names" = true) (k30 : PySem.W.keepIn K (.ref f30) = true)
  (a31 : PySem.W.nsIn K mainGlobals "_law_number" = some (some (.ref f31))) (l31 : K.lookup f31 = some ⟨oc31,od31,.func (PySem.W.fnOf "_law_number" "_law_number" (E1 uA) (D9 uA) (B2 uA) .none kV31 dc31 pm31 an31 cd31 ct31),sl31⟩) (c31 : PySem.W.codeIn K cd31 "_law_number" = true) (k31 : PySem.W.keepIn K (.ref f31) = true)
  (a32 : PySem.W.nsIn K mainGlobals "_law_text" = some (some (.ref f32))) (l32 : K.lookup f32 = some ⟨oc32,od32,.func (PySem.W.fnOf "_law_text" "_law_text" (E1 tZ) (D9 tZ) (B2 tZ) .none kV32 dc32 pm32 an32 cd32 ct32),sl32⟩) (c32 : PySem.W.codeIn K cd32 "_law_text" = true) (k32 : PySem.W.keepIn K (.ref f32) = true)
  (a33 : PySem.W.nsIn K mainGlobals "_law_span" = some (some (.ref f33))) (l33 : K.lookup f33 = some ⟨oc33,od33,.func (PySem.W.fnOf "_law_span" "_law_span" (E1 nC) (D9 nC) (B2 nC) .none kV33 dc33 pm33 an33 cd33 ct33),sl33⟩) (c33 : PySem.W.codeIn K cd33 "_law_span" = true) (k33 : PySem.W.keepIn K (.ref f33) = true)
  (a34 : PySem.W.nsIn K mainGlobals "_law_leaf" = some (some (.ref f34))) (l34 : K.lookup f34 = some ⟨oc34,od34,.func (PySem.W.fnOf "_law_leaf" "_law_leaf" (E1 uC) (D9 uC) (B2 uC) .none kV34 dc34 pm34 an34 cd34 ct34),sl34⟩) (c34 : PySem.W.codeIn K cd34 "_law_leaf" = true) (k34 : PySem.W.keepIn K (.ref f34) = true)
  (a35 : PySem.W.nsIn K mainGlobals "_law_tree" = some (some (.ref f35))) (l35 : K.lookup f35 = some ⟨oc35,od35,.func (PySem.W.fnOf "_law_tree" "_law_tree" (E1 dI) (D9 dI) (B2 dI) .none kV35 dc35 pm35 an35 cd35 ct35),sl35⟩) (c35 : PySem.W.codeIn K cd35 "_law_tree" = true) (k35 : PySem.W.keepIn K (.ref f35) = true)
  (a36 : PySem.W.nsIn K mainGlobals "_law_braced" = some (some (.ref f36))) (l36 : K.lookup f36 = some ⟨oc36,od36,.func (PySem.W.fnOf "_law_braced" "_law_braced" (E1 pC) (D9 pC) (B2 pC) .none kV36 dc36 pm36 an36 cd36 ct36),sl36⟩) (c36 : PySem.W.codeIn K cd36 "_law_braced" = true) (k36 : PySem.W.keepIn K (.ref f36) = true)
  (a37 : PySem.W.nsIn K mainGlobals "_law_tied" = some (some (.ref f37))) (l37 : K.lookup f37 = some ⟨oc37,od37,.func (PySem.W.fnOf "_law_tied" "_law_tied" (E1 pB) (D9 pB) (B2 pB) .none kV37 dc37 pm37 an37 cd37 ct37),sl37⟩) (c37 : PySem.W.codeIn K cd37 "_law_tied" = true) (k37 : PySem.W.keepIn K (.ref f37) = true)
  (a40 : PySem.W.nsIn K mainGlobals "_law_words" = some (some (.ref f40))) (l40 : K.lookup f40 = some ⟨oc40,od40,.func (PySem.W.fnOf "_law_words" "_law_words" (E1 pA) (D9 pA) (B2 pA) .none kV40 dc40 pm40 an40 cd40 ct40),sl40⟩) (c40 : PySem.W.codeIn K cd40 "_law_words" = true) (k40 : PySem.W.keepIn K (.ref f40) = true)
  (a43 : PySem.W.nsIn K mainGlobals "_law_same" = some (some (.ref f43))) (l43 : K.lookup f43 = some ⟨oc43,od43,.func (PySem.W.fnOf "_law_same" "_law_same" (E1 dJ) (D9 dJ) (B2 dJ) .none kV43 dc43 pm43 an43 cd43 ct43),sl43⟩) (c43 : PySem.W.codeIn K cd43 "_law_same" = true) (k43 : PySem.W.keepIn K (.ref f43) = true)
  (a38 : PySem.W.nsIn K mainGlobals "_law_span_words" = some (some (.ref f38))) (l38 : K.lookup f38 = some ⟨oc38,od38,.func (PySem.W.fnOf "_law_span_words" "_law_span_words" (E1 nA) (D9 nA) (B2 nA) .none kV38 dc38 pm38 an38 cd38 ct38),sl38⟩) (c38 : PySem.W.codeIn K cd38 "_law_span_words" = true) (k38 : PySem.W.keepIn K (.ref f38) = true)
  (a39 : PySem.W.nsIn K mainGlobals "_law_items_words" = some (some (.ref f39))) (l39 : K.lookup f39 = some ⟨oc39,od39,.func (PySem.W.fnOf "_law_items_words" "_law_items_words" (E1 nU) (D9 nU) (B2 nU) .none kV39 dc39 pm39 an39 cd39 ct39),sl39⟩) (c39 : PySem.W.codeIn K cd39 "_law_items_words" = true) (k39 : PySem.W.keepIn K (.ref f39) = true)
  (a41 : PySem.W.nsIn K mainGlobals "_law_path_words" = some (some (.ref f41))) (l41 : K.lookup f41 = some ⟨oc41,od41,.func (PySem.W.fnOf "_law_path_words" "_law_path_words" (E1 iM) (D9 iM) (B2 iM) .none kV41 dc41 pm41 an41 cd41 ct41),sl41⟩) (c41 : PySem.W.codeIn K cd41 "_law_path_words" = true) (k41 : PySem.W.keepIn K (.ref f41) = true)
  (a42 : PySem.W.nsIn K mainGlobals "_law_line" = some (some (.ref f42))) (l42 : K.lookup f42 = some ⟨oc42,od42,.func (PySem.W.fnOf "_law_line" "_law_line" (E1 jW) (D9 jW) (B2 jW) .none kV42 dc42 pm42 an42 cd42 ct42),sl42⟩) (c42 : PySem.W.codeIn K cd42 "_law_line" = true) (k42 : PySem.W.keepIn K (.ref f42) = true)
  (a44 : PySem.W.nsIn K mainGlobals "_law_row" = some (some (.ref f44))) (l44 : K.lookup f44 = some ⟨oc44,od44,.func (PySem.W.fnOf "_law_row" "_law_row" (E1 nX) (D9 nX) (B2 nX) .none kV44 dc44 pm44 an44 cd44 ct44),sl44⟩) (c44 : PySem.W.codeIn K cd44 "_law_row" = true) (k44 : PySem.W.keepIn K (.ref f44) = true)
  (a45 : PySem.W.nsIn K mainGlobals "_law_row_words" = some (some (.ref f45))) (l45 : K.lookup f45 = some ⟨oc45,od45,.func (PySem.W.fnOf "_law_row_words" "_law_row_words" (E1 nG) (D9 nG) (B2 nG) .none kV45 dc45 pm45 an45 cd45 ct45),sl45⟩) (c45 : PySem.W.codeIn K cd45 "_law_row_words" = true) (k45 : PySem.W.keepIn K (.ref f45) = true)
  (a46 : PySem.W.nsIn K mainGlobals "_law_bad" = some (some (.ref f46))) (l46 : K.lookup f46 = some ⟨oc46,od46,.func (PySem.W.fnOf "_law_bad" "_law_bad" (E1 nY) (D9 nY) (B2 nY) .none kV46 dc46 pm46 an46 cd46 ct46),sl46⟩) (c46 : PySem.W.codeIn K cd46 "_law_bad" = true) (k46 : PySem.W.keepIn K (.ref f46) = true)
  (a47 : PySem.W.nsIn K mainGlobals "_law_refused" = some (some (.ref f47))) (l47 : K.lookup f47 = some ⟨oc47,od47,.func (PySem.W.fnOf "_law_refused" "_law_refused" (E1 nJ) (D9 nJ) (B2 nJ) .none kV47 dc47 pm47 an47 cd47 ct47),sl47⟩) (c47 : PySem.W.codeIn K cd47 "_law_refused" = true) (k47 : PySem.W.keepIn K (.ref f47) = true)
  (a48 : PySem.W.nsIn K mainGlobals "law" = some (some (.ref f48))) (l48 : K.lookup f48 = some ⟨oc48,od48,.func (PySem.W.fnOf "law" "law" (E1 gG) (D9 gG) (B2 gG) .none kV48 dc48 pm48 an48 cd48 ct48),sl48⟩) (c48 : PySem.W.codeIn K cd48 "law" = true) (k48 : PySem.W.keepIn K (.ref f48) = true)
  (z54 : PySem.W.nsIn K mainGlobals "ValueError" = some none)
  (z55 : PySem.W.nsIn K mainGlobals "all" = some none)
  (z56 : PySem.W.nsIn K mainGlobals "bool" = some none)
  (z57 : PySem.W.nsIn K mainGlobals "enumerate" = some none)
  (z58 : PySem.W.nsIn K mainGlobals "int" = some none)
  (z59 : PySem.W.nsIn K mainGlobals "isinstance" = some none)
  (z60 : PySem.W.nsIn K mainGlobals "len" = some none)
  (z61 : PySem.W.nsIn K mainGlobals "list" = some none)
  (z62 : PySem.W.nsIn K mainGlobals "max" = some none)
  (z63 : PySem.W.nsIn K mainGlobals "ord" = some none)
  (z64 : PySem.W.nsIn K mainGlobals "range" = some none)
  (z65 : PySem.W.nsIn K mainGlobals "str" = some none)
  (z66 : PySem.W.nsIn K mainGlobals "tuple" = some none)
  (a_NO : PySem.W.nsIn K mainGlobals "NO_SIGNS" = some (some (.ref gt))) (l_NO : K.lookup gt = some ⟨.type "tuple",dN,.seq #[.int 34 tA,.int 37 tB] nN,slN⟩)
  (gNT : PySem.W.nsIn K mainGlobals "NoText" = some (some (.ref cC))) (gRD : PySem.W.nsIn K mainGlobals "Reader" = some (some (.ref cR))) (gMF : PySem.W.nsIn K mainGlobals "MOST_FIGURES" = some (some (.int 60 tM))) (gSS : PySem.W.nsIn K mainGlobals "SINGLE_SIGNS" = some (some (.str (Str.ofString "{}[](),:?&|!@.") tS))) (gPW : PySem.W.nsIn K mainGlobals "PLAIN_WORDS" = some (some (.ref gp))) (lPW : K.lookup gp = some ⟨.type "tuple",dP,.seq #[.str (Str.ofString "none") p0,.str (Str.ofString "yes") p1,.str (Str.ofString "no") p2,.str (Str.ofString "truth") p3,.str (Str.ofString "number") p4,.str (Str.ofString "text") p5,.str (Str.ofString "list") p6,.str (Str.ofString "record") p7,.str (Str.ofString "any") p8,.str (Str.ofString "nothing") p9] nP,slP⟩) (x1cC : PySem.W.excIn K cC [.type "ValueError",.type "Exception",.type "BaseException",.type "object"] "ValueError.__new__" = true) (x2cC : PySem.W.findIn K (.ref cC) "__getattribute__" = some (some (.builtin "BaseException.__getattribute__"))) (x3cC : PySem.W.findIn K (.ref cC) "__getattr__" = some none) (x4cC : PySem.W.findIn K (.ref cC) "__class__" = some (some (.builtin "object.__class__"))) (x5cC : PySem.W.mroIn K cC (.type "object") = some true) (x6cC : PySem.W.mroIn K cC (.type "BaseException") = some true) (y1 : PySem.W.plainGet K cR Str.empty = true) (y2 : PySem.W.hasDictIn K cR = true) (y3 : PySem.W.plainOver K cR = true) (y4 : PySem.W.findIn K (.ref cR) "__setattr__" = some (some (.builtin "object.__setattr__"))) (y5 : PySem.W.findIn K (.ref cR) "words" = some none) (y6 : PySem.W.findIn K (.ref cR) "taken" = some none) (y7 : PySem.W.makesIn K cR = true) (y8 : PySem.W.keepIn K (.ref cR) = true) (a49 : PySem.W.findIn K (.ref cR) "__init__" = some (some (.ref f49))) (l49 : K.lookup f49 = some ⟨oc49,od49,.func (PySem.W.fnOf "__init__" "Reader.__init__" (E1 jY) (D9 jY) (B2 jY) .none kV49 dc49 pm49 an49 cd49 ct49),sl49⟩) (c49 : PySem.W.codeIn K cd49 "Reader.__init__" = true) (k49 : PySem.W.keepIn K (.ref f49) = true) (i49 : PySem.W.isFn K (.ref f49) = true) (a50 : PySem.W.findIn K (.ref cR) "ahead" = some (some (.ref f50))) (l50 : K.lookup f50 = some ⟨oc50,od50,.func (PySem.W.fnOf "ahead" "Reader.ahead" (E1 fM) (D9 fM) (B2 fM) .none kV50 dc50 pm50 an50 cd50 ct50),sl50⟩) (c50 : PySem.W.codeIn K cd50 "Reader.ahead" = true) (k50 : PySem.W.keepIn K (.ref f50) = true) (i50 : PySem.W.isFn K (.ref f50) = true) (a51 : PySem.W.findIn K (.ref cR) "take" = some (some (.ref f51))) (l51 : K.lookup f51 = some ⟨oc51,od51,.func (PySem.W.fnOf "take" "Reader.take" (E1 jP) (D9 jP) (B2 jP) .none kV51 dc51 pm51 an51 cd51 ct51),sl51⟩) (c51 : PySem.W.codeIn K cd51 "Reader.take" = true) (k51 : PySem.W.keepIn K (.ref f51) = true) (i51 : PySem.W.isFn K (.ref f51) = true) (a52 : PySem.W.findIn K (.ref cR) "takes" = some (some (.ref f52))) (l52 : K.lookup f52 = some ⟨oc52,od52,.func (PySem.W.fnOf "takes" "Reader.takes" (E1 fG) (D9 fG) (B2 fG) .none kV52 dc52 pm52 an52 cd52 ct52),sl52⟩) (c52 : PySem.W.codeIn K cd52 "Reader.takes" = true) (k52 : PySem.W.keepIn K (.ref f52) = true) (i52 : PySem.W.isFn K (.ref f52) = true) (a53 : PySem.W.findIn K (.ref cR) "must_take" = some (some (.ref f53))) (l53 : K.lookup f53 = some ⟨oc53,od53,.func (PySem.W.fnOf "must_take" "Reader.must_take" (E1 jV) (D9 jV) (B2 jV) .none kV53 dc53 pm53 an53 cd53 ct53),sl53⟩) (c53 : PySem.W.codeIn K cd53 "Reader.must_take" = true) (k53 : PySem.W.keepIn K (.ref f53) = true) (i53 : PySem.W.isFn K (.ref f53) = true) (gME : PySem.W.nsIn K mainGlobals "MeetError" = some (some (.ref cM))) (gRI : PySem.W.nsIn K mainGlobals "Ring" = some (some (.ref cG))) (gNR : PySem.W.nsIn K mainGlobals "NoRow" = some (some (.ref cN))) (x1cM : PySem.W.excIn K cM [.type "ValueError",.type "Exception",.type "BaseException",.type "object"] "ValueError.__new__" = true) (x2cM : PySem.W.findIn K (.ref cM) "__getattribute__" = some (some (.builtin "BaseException.__getattribute__"))) (x3cM : PySem.W.findIn K (.ref cM) "__getattr__" = some none) (x4cM : PySem.W.findIn K (.ref cM) "__class__" = some (some (.builtin "object.__class__"))) (x5cM : PySem.W.mroIn K cM (.type "object") = some true) (x6cM : PySem.W.mroIn K cM (.type "BaseException") = some true) (r1 : PySem.W.mroIn K cC (.ref cM) = some true) (q1 : PySem.W.kitOne K (.ref cC) (.ref cC) = some true) (q2 : PySem.W.kitOne K (.ref cC) (.type "ValueError") = some true) (q3 : PySem.W.kitOne K (.ref cC) (.ref cG) = some false) (q4 : PySem.W.kitOne K (.ref cC) (.ref cN) = some false) :
  ∃ fd : FuncData,(∀ (s : Shared) (v : Value),BindsTo s fd ⟨[v],[]⟩ [("_law_script",v)]) ∧ ∀ base : Heap,K.In base → base.Ns mainGlobals mg → FnOk l.prog w K mg base K5 36 fa fd ["_law_script"] (qH K) := by
 have e := hfa.symm.trans (PySem.W.mg_of X G a48)
 cases e
 have F0 := E6 (st := jU) l0 c0 k0
 have F1 := E6 (st := jQ) l1 c1 k1
 have F5 := E6 (st := bX) l5 c5 k5
 have F6 := E6 (st := bY) l6 c6 k6
 have F4 := E6 (st := nH) l4 c4 k4
 have F7 := E6 (st := nO) l7 c7 k7
 have F8 := E6 (st := nK) l8 c8 k8
 have F3 := E6 (st := jO) l3 c3 k3
 have F2 := E6 (st := fE) l2 c2 k2
 have F16 := E6 (st := jX) l16 c16 k16
 have F24 := E6 (st := bW) l24 c24 k24
 have F23 := E6 (st := aL) l23 c23 k23
 have F20 := E6 (st := nV) l20 c20 k20
 have F21 := E6 (st := jZ) l21 c21 k21
 have F17 := E6 (st := fH) l17 c17 k17
 have F13 := E6 (st := nM) l13 c13 k13
 have F12 := E6 (st := dO) l12 c12 k12
 have F14 := E6 (st := dM) l14 c14 k14
 have F15 := E6 (st := Z5) l15 c15 k15
 have F18 := E6 (st := aS) l18 c18 k18
 have F19 := E6 (st := dL) l19 c19 k19
 have F22 := E6 (st := aT) l22 c22 k22
 have F9 := E6 (st := jS) l9 c9 k9
 have F10 := E6 (st := nI) l10 c10 k10
 have F11 := E6 (st := jR) l11 c11 k11
 have F25 := E6 (st := jT) l25 c25 k25
 have F26 := E6 (st := fI) l26 c26 k26
 have F27 := E6 (st := nQ) l27 c27 k27
 have F28 := E6 (st := fK) l28 c28 k28
 have F29 := E6 (st := uB) l29 c29 k29
 have F30 := E6 (st := iN) l30 c30 k30
 have F31 := E6 (st := uA) l31 c31 k31
 have F32 := E6 (st := tZ) l32 c32 k32
 have F33 := E6 (st := nC) l33 c33 k33
 have F34 := E6 (st := uC) l34 c34 k34
 have F35 := E6 (st := dI) l35 c35 k35
 have F36 := E6 (st := pC) l36 c36 k36
 have F37 := E6 (st := pB) l37 c37 k37
 have F40 := E6 (st := pA) l40 c40 k40
 have F43 := E6 (st := dJ) l43 c43 k43
 have F38 := E6 (st := nA) l38 c38 k38
 have F39 := E6 (st := nU) l39 c39 k39
 have F41 := E6 (st := iM) l41 c41 k41
 have F42 := E6 (st := jW) l42 c42 k42
 have F44 := E6 (st := nX) l44 c44 k44
 have F45 := E6 (st := nG) l45 c45 k45
 have F46 := E6 (st := nY) l46 c46 k46
 have F47 := E6 (st := nJ) l47 c47 k47
 have F48 := E6 (st := gG) l48 c48 k48
 have b0 := F0.binds (ps := ["word"]) fun _ _ _ _ _ _ us hl=>match us,hl with | [_],_=>rfl
 have b1 := F1.binds (ps := ["letter"]) fun _ _ _ _ _ _ us hl=>match us,hl with | [_],_=>rfl
 have b5 := F5.binds (ps := ["sign"]) fun _ _ _ _ _ _ us hl=>match us,hl with | [_],_=>rfl
 have b6 := F6.binds (ps := ["sign"]) fun _ _ _ _ _ _ us hl=>match us,hl with | [_],_=>rfl
 have b4 := F4.binds (ps := ["text","place","fits"]) fun _ _ _ _ _ _ us hl=>match us,hl with | [_,_,_],_=>rfl
 have b7 := F7.binds (ps := ["text","place"]) fun _ _ _ _ _ _ us hl=>match us,hl with | [_,_],_=>rfl
 have b8 := F8.binds (ps := ["text","place"]) fun _ _ _ _ _ _ us hl=>match us,hl with | [_,_],_=>rfl
 have b3 := F3.binds (ps := ["text","place"]) fun _ _ _ _ _ _ us hl=>match us,hl with | [_,_],_=>rfl
 have b2 := F2.binds (ps := ["text"]) fun _ _ _ _ _ _ us hl=>match us,hl with | [_],_=>rfl
 have b16 := F16.binds (ps := ["word"]) fun _ _ _ _ _ _ us hl=>match us,hl with | [_],_=>rfl
 have b24 := F24.binds (ps := ["reader"]) fun _ _ _ _ _ _ us hl=>match us,hl with | [_],_=>rfl
 have b23 := F23.binds (ps := ["reader"]) fun _ _ _ _ _ _ us hl=>match us,hl with | [_],_=>rfl
 have b20 := F20.binds (ps := ["reader","close","count"]) fun _ _ _ _ _ _ us hl=>match us,hl with | [_,_,_],_=>rfl
 have b21 := F21.binds (ps := ["reader","close"]) fun _ _ _ _ _ _ us hl=>match us,hl with | [_,_],_=>rfl
 have b17 := F17.binds (ps := ["reader","low"]) fun _ _ _ _ _ _ us hl=>match us,hl with | [_,_],_=>rfl
 have b13 := F13.binds (ps := ["word","trees"]) fun _ _ _ _ _ _ us hl=>match us,hl with | [_,_],_=>rfl
 have b12 := F12.binds (ps := ["reader","free"]) fun _ _ _ _ _ _ us hl=>match us,hl with | [_,_],_=>rfl
 have b14 := F14.binds (ps := ["reader","free"]) fun _ _ _ _ _ _ us hl=>match us,hl with | [_,_],_=>rfl
 have b15 := F15.binds (ps := ["reader","free"]) fun _ _ _ _ _ _ us hl=>match us,hl with | [_,_],_=>rfl
 have b18 := F18.binds (ps := ["reader"]) fun _ _ _ _ _ _ us hl=>match us,hl with | [_],_=>rfl
 have b19 := F19.binds (ps := ["reader"]) fun _ _ _ _ _ _ us hl=>match us,hl with | [_],_=>rfl
 have b22 := F22.binds (ps := ["reader"]) fun _ _ _ _ _ _ us hl=>match us,hl with | [_],_=>rfl
 have b9 := F9.binds (ps := ["text"]) fun _ _ _ _ _ _ us hl=>match us,hl with | [_],_=>rfl
 have b10 := F10.binds (ps := ["line"]) fun _ _ _ _ _ _ us hl=>match us,hl with | [_],_=>rfl
 have b11 := F11.binds (ps := ["text"]) fun _ _ _ _ _ _ us hl=>match us,hl with | [_],_=>rfl
 have b25 := F25.binds (ps := ["_law_state","_law_many"]) fun _ _ _ _ _ _ us hl=>match us,hl with | [_,_],_=>rfl
 have b26 := F26.binds (ps := ["_law_script","_law_many"]) fun _ _ _ _ _ _ us hl=>match us,hl with | [_,_],_=>rfl
 have b27 := F27.binds (ps := ["_law_state","_law_many","_law_span_here"]) fun _ _ _ _ _ _ us hl=>match us,hl with | [_,_,_],_=>rfl
 have b28 := F28.binds (ps := []) fun _ _ _ _ _ _ us hl=>match us,hl with | [],_=>rfl
 have b29 := F29.binds (ps := ["_law_state"]) fun _ _ _ _ _ _ us hl=>match us,hl with | [_],_=>rfl
 have b30 := F30.binds (ps := ["_law_state","_law_many"]) fun _ _ _ _ _ _ us hl=>match us,hl with | [_,_],_=>rfl
 have b31 := F31.binds (ps := ["_law_state"]) fun _ _ _ _ _ _ us hl=>match us,hl with | [_],_=>rfl
 have b32 := F32.binds (ps := ["_law_state"]) fun _ _ _ _ _ _ us hl=>match us,hl with | [_],_=>rfl
 have b33 := F33.binds (ps := ["_law_state"]) fun _ _ _ _ _ _ us hl=>match us,hl with | [_],_=>rfl
 have b34 := F34.binds (ps := ["_law_state"]) fun _ _ _ _ _ _ us hl=>match us,hl with | [_],_=>rfl
 have b35 := F35.binds (ps := ["_law_state","_law_deep","_law_places"]) fun _ _ _ _ _ _ us hl=>match us,hl with | [_,_,_],_=>rfl
 have b36 := F36.binds (ps := ["_law_tree_here","_law_tying","_law_state"]) fun _ _ _ _ _ _ us hl=>match us,hl with | [_,_,_],_=>rfl
 have b37 := F37.binds (ps := ["_law_sign","_law_trees","_law_tying","_law_state"]) fun _ _ _ _ _ _ us hl=>match us,hl with | [_,_,_,_],_=>rfl
 have b40 := F40.binds (ps := ["_law_tree_here","_law_state"]) fun _ _ _ _ _ _ us hl=>match us,hl with | [_,_],_=>rfl
 have b43 := F43.binds (ps := ["_law_found","_law_due"]) fun _ _ _ _ _ _ us hl=>match us,hl with | [_,_],_=>rfl
 have b38 := F38.binds (ps := ["_law_tree_here","_law_state"]) fun _ _ _ _ _ _ us hl=>match us,hl with | [_,_],_=>rfl
 have b39 := F39.binds (ps := ["_law_rows","_law_more"]) fun _ _ _ _ _ _ us hl=>match us,hl with | [_,_],_=>rfl
 have b41 := F41.binds (ps := ["_law_path"]) fun _ _ _ _ _ _ us hl=>match us,hl with | [_],_=>rfl
 have b42 := F42.binds (ps := ["_law_words_here","_law_state"]) fun _ _ _ _ _ _ us hl=>match us,hl with | [_,_],_=>rfl
 have b44 := F44.binds (ps := ["_law_state"]) fun _ _ _ _ _ _ us hl=>match us,hl with | [_],_=>rfl
 have b45 := F45.binds (ps := ["_law_row_here","_law_state"]) fun _ _ _ _ _ _ us hl=>match us,hl with | [_,_],_=>rfl
 have b46 := F46.binds (ps := ["_law_state"]) fun _ _ _ _ _ _ us hl=>match us,hl with | [_],_=>rfl
 have b47 := F47.binds (ps := ["_law_text_here","_law_way"]) fun _ _ _ _ _ _ us hl=>match us,hl with | [_,_],_=>rfl
 have m54 := PySem.W.mg_none_of X G z54
 have m55 := PySem.W.mg_none_of X G z55
 have m56 := PySem.W.mg_none_of X G z56
 have m57 := PySem.W.mg_none_of X G z57
 have m58 := PySem.W.mg_none_of X G z58
 have m59 := PySem.W.mg_none_of X G z59
 have m60 := PySem.W.mg_none_of X G z60
 have m61 := PySem.W.mg_none_of X G z61
 have m62 := PySem.W.mg_none_of X G z62
 have m63 := PySem.W.mg_none_of X G z63
 have m64 := PySem.W.mg_none_of X G z64
 have m65 := PySem.W.mg_none_of X G z65
 have m66 := PySem.W.mg_none_of X G z66
 have G_no := PySem.W.mg_of X G a_NO
 have K_no : ∀ H : Hp,SqT K H gt [.int 34,.int 37] := fun H=>.inr ⟨_,#[.int 34 tA,.int 37 tB],nN,l_NO,rfl,rfl,(by show 2 ≤ sizeLine; decide),.cons ⟨tA,rfl⟩ (.cons ⟨tB,rfl⟩ .nil)⟩
 have hNT : NT K mg cC := ⟨⟨x1cC,x2cC,x3cC,x4cC,x5cC,x6cC⟩,PySem.W.mg_of X G gNT⟩
 have G_most := PySem.W.mg_of X G gMF
 have G_sing := PySem.W.mg_of X G gSS
 have G_reader := PySem.W.mg_of X G gRD
 have G_plain := PySem.W.mg_of X G gPW
 have hRK : RK K cR := ⟨⟨y1,y2,y3,y4⟩,y5,y6⟩
 have hMk : Mk K cR f49 := ⟨y7,a49,i49,y8⟩
 have K_plain : ∀ H : Hp,SqT K H gp (ST N9) := fun H=>by
  rw [← sH]
  exact .inr ⟨_,#[.str (Str.ofString "none") p0,.str (Str.ofString "yes") p1,.str (Str.ofString "no") p2,.str (Str.ofString "truth") p3,.str (Str.ofString "number") p4,.str (Str.ofString "text") p5,.str (Str.ofString "list") p6,.str (Str.ofString "record") p7,.str (Str.ofString "any") p8,.str (Str.ofString "nothing") p9],nP,lPW,rfl,rfl,(by show 10 ≤ sizeLine; decide),.cons ⟨p0,rfl⟩ (.cons ⟨p1,rfl⟩ (.cons ⟨p2,rfl⟩ (.cons ⟨p3,rfl⟩ (.cons ⟨p4,rfl⟩ (.cons ⟨p5,rfl⟩ (.cons ⟨p6,rfl⟩ (.cons ⟨p7,rfl⟩ (.cons ⟨p8,rfl⟩ (.cons ⟨p9,rfl⟩ .nil)))))))))⟩
 have hRF : RF K mg cC := ⟨hNT,cM,cG,cN,⟨x1cM,x2cM,x3cM,x4cM,x5cM,x6cM⟩,r1,PySem.W.mg_of X G gME,PySem.W.mg_of X G gRI,PySem.W.mg_of X G gNR,q1,q2,q3,q4⟩
 have F49 := E6 (st := jY) l49 c49 k49
 have b49 := F49.binds (ps := ["self","text"]) fun _ _ _ _ _ _ us hl=>match us,hl with | [_,_],_=>rfl
 have F50 := E6 (st := fM) l50 c50 k50
 have b50 := F50.binds (ps := ["self","steps"]) fun _ _ _ _ _ _ us hl=>match us,hl with | [_,_],_=>rfl
 have F51 := E6 (st := jP) l51 c51 k51
 have b51 := F51.binds (ps := ["self"]) fun _ _ _ _ _ _ us hl=>match us,hl with | [_],_=>rfl
 have F52 := E6 (st := fG) l52 c52 k52
 have b52 := F52.binds (ps := ["self","word"]) fun _ _ _ _ _ _ us hl=>match us,hl with | [_,_],_=>rfl
 have F53 := E6 (st := jV) l53 c53 k53
 have b53 := F53.binds (ps := ["self","word"]) fun _ _ _ _ _ _ us hl=>match us,hl with | [_,_],_=>rfl
 refine ⟨PySem.W.fnOf "law" "law" (E1 gG) (D9 gG) (B2 gG) .none kV48 dc48 pm48 an48 cd48 ct48,fun s v=>.of_eq rfl,fun base _ _=>?_⟩
 have C0 : Cal l.prog w K mg base 1 "is_name" ["word"] rJ := ⟨_,_,AN6 F0 m59 m65 m55 m60,PySem.W.mg_of X G a0,k0,b0⟩
 have C1 : Cal l.prog w K mg base 1 "is_sign" ["letter"] (fun vs H Q _=>Y4 T4 vs H Q) := ⟨_,_,AM8 F1 m63 G_no K_no,PySem.W.mg_of X G a1,k1,b1⟩
 have C5 : Cal l.prog w K mg base 1 "is_letter" ["sign"] (fun vs H Q _=>Y4 P7 vs H Q) := ⟨_,_,yG F5,PySem.W.mg_of X G a5,k5,b5⟩
 have C6 : Cal l.prog w K mg base 1 "is_figure" ["sign"] (fun vs H Q _=>Y4 L9 vs H Q) := ⟨_,_,yH F6,PySem.W.mg_of X G a6,k6,b6⟩
 have C4 : Cal l.prog w K mg base 2 "run_end" ["text","place","fits"] (lN l.prog w K mg base) := ⟨_,_,AT7 F4 m60,PySem.W.mg_of X G a4,k4,b4⟩
 obtain ⟨vfig,V_fig⟩ := tJ C6
 obtain ⟨vsig,V_sig⟩ := tJ C1
 have C7 : M0 l.prog w K mg base 3 "number_at" ["text","place"] (eD V8 cC) := ⟨_,_,AU2 F7 C4 hNT V_fig.1 V_fig.2 G_most m60,PySem.W.mg_of X G a7,k7,b7⟩
 have C8 : M0 l.prog w K mg base 3 "quoted_at" ["text","place"] (eD Z9 cC) := ⟨_,_,AT9 F8 C4 hNT V_sig.1 V_sig.2,PySem.W.mg_of X G a8,k8,b8⟩
 have C3 : M0 l.prog w K mg base 4 "word_at" ["text","place"] (eD N8 cC) := ⟨_,_,AM6 F3 C4 C5 C6 C7 C8 hNT G_sing,PySem.W.mg_of X G a3,k3,b3⟩
 have C2 : M0 l.prog w K mg base 5 "words_of" ["text"] (jK K cC) := ⟨_,_,AC2 F2 C3 hNT m60 m59 m65,PySem.W.mg_of X G a2,k2,b2⟩
 have C16 : Cal l.prog w K mg base 2 "is_number" ["word"] iG := ⟨_,_,AN9 F16 C6,PySem.W.mg_of X G a16,k16,b16⟩
 have M50 : T5 l.prog w K mg base K5 cR 1 "ahead" ["self","steps"] (W9 cR) := ⟨_,_,AC9 F50 hRK m60,⟨a50,i50,k50⟩,b50⟩
 have M51 : T5 l.prog w K mg base K5 cR 2 "take" ["self"] (aQ cR) := ⟨_,_,AM7 F51 hRK M50,⟨a51,i51,k51⟩,b51⟩
 have M52 : T5 l.prog w K mg base K5 cR 2 "takes" ["self","word"] (Z3 cR) := ⟨_,_,AC3 F52 hRK M50,⟨a52,i52,k52⟩,b52⟩
 have M53 : T5 l.prog w K mg base (N0 l.prog w) cR 3 "must_take" ["self","word"] (cH cR cC) := ⟨_,_,AN7 F53 hRK hNT M51,⟨a53,i53,k53⟩,b53⟩
 have C24 : M0 l.prog w K mg base 3 "name_of" ["reader"] (cF cR cC) := ⟨_,_,yF F24 hRK hNT M51 C0,PySem.W.mg_of X G a24,k24,b24⟩
 have C23 : M0 l.prog w K mg base 4 "names_of" ["reader"] (dF K cR cC) := ⟨_,_,wJ F23 hRK C24 M52 m66,PySem.W.mg_of X G a23,k23,b23⟩
 have C20 : M0 l.prog w K mg base 4 "has_another" ["reader","close","count"] (lO cR cC) := ⟨_,_,AU7 F20 hRK M50 M53,PySem.W.mg_of X G a20,k20,b20⟩
 have C21 : M0 l.prog w K mg base 4 "takes_end" ["reader","close"] (iH cR cC) := ⟨_,_,AO2 F21 hRK M52 M53,PySem.W.mg_of X G a21,k21,b21⟩
 have C17 : Cal l.prog w K mg base 3 "span_tree" ["reader","low"] (jL K cR) := ⟨_,_,AC4 F17 hRK M52 M51 M50 C16 m58,PySem.W.mg_of X G a17,k17,b17⟩
 have C13 : Cal l.prog w K mg base 1 "one_or_several" ["word","trees"] (qF K) := ⟨_,_,AU1 F13 m60 m66,PySem.W.mg_of X G a13,k13,b13⟩
 have N12 : Nm K mg "expression" dO ["reader","free"] := ⟨_,_,F12,PySem.W.mg_of X G a12,k12,b12⟩
 have N14 : Nm K mg "negated" dM ["reader","free"] := ⟨_,_,F14,PySem.W.mg_of X G a14,k14,b14⟩
 have N15 : Nm K mg "single" Z5 ["reader","free"] := ⟨_,_,F15,PySem.W.mg_of X G a15,k15,b15⟩
 have N18 : Nm K mg "list_tree" aS ["reader"] := ⟨_,_,F18,PySem.W.mg_of X G a18,k18,b18⟩
 have N19 : Nm K mg "record_tree" dL ["reader"] := ⟨_,_,F19,PySem.W.mg_of X G a19,k19,b19⟩
 have N22 : Nm K mg "field_of" aT ["reader"] := ⟨_,_,F22,PySem.W.mg_of X G a22,k22,b22⟩
 have hRdg : Rdg l.prog w K mg base cR cC := ⟨hRK,hNT,N12,N14,N15,N18,N19,N22,C20,C21,C24,C23,C16,C17,C13,M50,M51,M52,M53,⟨gp,G_plain,K_plain⟩,m60,m66,m58,m64⟩
 have FIni := AO0 (P := l.prog) (w := w) (base := base) F49 hRK C2
 have C9 : M0 l.prog w K mg base 8 "read_path" ["text"] (V9 K cC aP) := ⟨_,_,AN2 F9 hRdg hMk FIni b49 G_reader,PySem.W.mg_of X G a9,k9,b9⟩
 have C10 : M0 l.prog w K mg base 33 "read_row" ["line"] (V9 K cC (W7 (Exn 5))) := ⟨_,_,AT8 (N := 5) F10 hRdg hMk FIni b49 G_reader,PySem.W.mg_of X G a10,k10,b10⟩
 have C11 : M0 l.prog w K mg base 34 "read_rows" ["text"] (iF K cC (Exn 5)) := ⟨_,_,AM9 (N := 5) F11 C10 C2 hNT m59 m65,PySem.W.mg_of X G a11,k11,b11⟩
 have C25 : Cal l.prog w K mg base 1 "_law_next" ["_law_state","_law_many"] Q3 := ⟨_,_,AN4 F25,PySem.W.mg_of X G a25,k25,b25⟩
 have C26 : Cal l.prog w K mg base 1 "_law_seeds" ["_law_script","_law_many"] (mY K) := ⟨_,_,AC5 F26 m64 m57,PySem.W.mg_of X G a26,k26,b26⟩
 have C27 : Cal l.prog w K mg base 2 "_law_letters" ["_law_state","_law_many","_law_span_here"] vX := ⟨_,_,AU4 F27 C25 m64,PySem.W.mg_of X G a27,k27,b27⟩
 have C28 : Cal l.prog w K mg base 1 "_law_plain" [] jN := ⟨_,_,AC6 F28,PySem.W.mg_of X G a28,k28,b28⟩
 have C29 : Cal l.prog w K mg base 3 "_law_name" ["_law_state"] kR := ⟨_,_,BB0 F29 C25 C27 C28,PySem.W.mg_of X G a29,k29,b29⟩
 have N30 : Nm K mg "_law_names" iN ["_law_state","_law_many"] := ⟨_,_,F30,PySem.W.mg_of X G a30,k30,b30⟩
 have C31 : Cal l.prog w K mg base 2 "_law_number" ["_law_state"] AA1 := ⟨_,_,BA9 F31 C25 m64,PySem.W.mg_of X G a31,k31,b31⟩
 have C32 : Cal l.prog w K mg base 2 "_law_text" ["_law_state"] AA0 := ⟨_,_,BA7 F32 C25 m64 m60,PySem.W.mg_of X G a32,k32,b32⟩
 have C33 : Cal l.prog w K mg base 3 "_law_span" ["_law_state"] (dZ K bA) := ⟨_,_,AT5 F33 C25 C31,PySem.W.mg_of X G a33,k33,b33⟩
 have C34 : Cal l.prog w K mg base 4 "_law_leaf" ["_law_state"] (dZ K bA) := ⟨_,_,BB1 F34 C25 C28 C33 C32,PySem.W.mg_of X G a34,k34,b34⟩
 have N35 : Nm K mg "_law_tree" dI ["_law_state","_law_deep","_law_places"] := ⟨_,_,F35,PySem.W.mg_of X G a35,k35,b35⟩
 have N36 : Nm K mg "_law_braced" pC ["_law_tree_here","_law_tying","_law_state"] := ⟨_,_,F36,PySem.W.mg_of X G a36,k36,b36⟩
 have N37 : Nm K mg "_law_tied" pB ["_law_sign","_law_trees","_law_tying","_law_state"] := ⟨_,_,F37,PySem.W.mg_of X G a37,k37,b37⟩
 have N40 : Nm K mg "_law_words" pA ["_law_tree_here","_law_state"] := ⟨_,_,F40,PySem.W.mg_of X G a40,k40,b40⟩
 have N43 : Nm K mg "_law_same" dJ ["_law_found","_law_due"] := ⟨_,_,F43,PySem.W.mg_of X G a43,k43,b43⟩
 have C38 : Cal l.prog w K mg base 2 "_law_span_words" ["_law_tree_here","_law_state"] (qE K) := ⟨_,_,AT4 F38 C25 m65,PySem.W.mg_of X G a38,k38,b38⟩
 have C39 : Cal l.prog w K mg base 1 "_law_items_words" ["_law_rows","_law_more"] qI := ⟨_,_,AU6 F39 m58 m60,PySem.W.mg_of X G a39,k39,b39⟩
 have N41 : Nm K mg "_law_path_words" iM ["_law_path"] := ⟨_,_,F41,PySem.W.mg_of X G a41,k41,b41⟩
 have C42 : Cal l.prog w K mg base 2 "_law_line" ["_law_words_here","_law_state"] rK := ⟨_,_,AN8 F42 C25 m62,PySem.W.mg_of X G a42,k42,b42⟩
 have hNMS : Cal l.prog w K mg base 4 "_law_names" ["_law_state","_law_many"] qG := N30.cal fun f fd F=>AU3 F C29 m64
 have hNMSN : Cal l.prog w K mg base 4 "_law_names" ["_law_state","_law_many"] rH := N30.cal fun f fd F=>AN3 F C29 m64
 have hPTW : Cal l.prog w K mg base 1 "_law_path_words" ["_law_path"] (jM K) := N41.cal fun f fd F=>AU0 F m58 m60
 have hPTWL : Cal l.prog w K mg base 1 "_law_path_words" ["_law_path"] (rG K) := N41.cal fun f fd F=>AN1 F m58 m60
 have hTR2 := kO N35 C25 C29 hNMS C34 m64 m66 2 (by decide)
 have hTR1 := kO N35 C25 C29 hNMS C34 m64 m66 1 (by decide)
 have hWS2 := qU N40 N36 N37 C25 C38 hPTW C39 m58 m60 2 (by decide)
 have hWS1 := qU N40 N36 N37 C25 C38 hPTW C39 m58 m60 1 (by decide)
 have C44 : Cal l.prog w K mg base 8 "_law_row" ["_law_state"] (dZ K fun t=>∃ ns ts,jH t ns ts) := ⟨_,_,AU8 F44 C25 C29 hTR2 m64 m66,PySem.W.mg_of X G a44,k44,b44⟩
 have C45 : Cal l.prog w K mg base 10 "_law_row_words" ["_law_row_here","_law_state"] (vV K) := ⟨_,_,AT6 F45 hPTW hWS2 m58 m57,PySem.W.mg_of X G a45,k45,b45⟩
 have C46 : Cal l.prog w K mg base 7 "_law_bad" ["_law_state"] (vY K) := ⟨_,_,AU9 F46 C25 hTR1 hWS1 hNMSN hPTWL,PySem.W.mg_of X G a46,k46,b46⟩
 have C47 : Cal l.prog w K mg base 35 "_law_refused" ["_law_text_here","_law_way"] (vW K cC 5) := ⟨_,_,wI (N := 5) F47 C10 C11 C9 hRF m59 m54,PySem.W.mg_of X G a47,k47,b47⟩
 exact AU5 (C := cC) F48 C25 C26 C44 C45 hPTW C42 (rT N43 m59 m56 m58 m65 m66 m60 m55 m64 11) C46 C47 C10 C11 C9 m60 m64 m66 m59 m61
theorem walk {l : PySem.W.OpenLaw} {q : Program} {loose : List Str} {XP : (Str → Option Value) → Heap → Prop} {YP : World → Heap → Prop} {d : DefRec} {K : Params → PySem.W.Frag} (hn : l.most = some 63) (hdf : d.params.defaults = [])
  (hY : ∀ (w : World) (h : Heap),YP w h → (K w.params).In h)
  (F : ∀ (w : World) (mg : Str → Option Value) (fa : Addr) (h : Heap),(K w.params).In h → h.Ns mainGlobals mg → mg d.name = some (.ref fa) →
   ∃ fd : FuncData,(∀ (s : Shared) (u : Value),BindsTo s fd ⟨[u],[]⟩ [("_law_script",u)]) ∧ ∀ base : Heap,(K w.params).In base → base.Ns mainGlobals mg → FnOk l.prog w (K w.params) mg base K5 36 fa fd ["_law_script"] (qH (K w.params))) :
  PySem.W.WalkO q loose XP YP l.row.toRowW d [] (fun f vs=>PySem.call f vs) :=
 L2.walk_of (n := 63) (k := 36) (x := "_law_script") (CX := fun _=>K5) (sp := fun w=>qH (K w.params)) hn (by decide) hdf ⟨rfl,by decide,by decide⟩ hY F (fun _ _ a ns hl _ hS=>⟨a,ns,rfl,hS,hl,fun _=>rfl⟩) fun _ _ _ _ _ z=>z
end Law
def PySem.W.Fast.tw10266117877702612662 : Unit := ()
def PySem.W.Fast.tw1295766058351587593 : Unit := ()
def PySem.W.Fast.tw8505930399697437886 : Unit := ()
def PySem.W.Fast.tw14053846589363321124 : Unit := ()
def PySem.W.Fast.tw12500139492595391307 : Unit := ()
def PySem.W.Fast.tw14119526313778924789 : Unit := ()
def PySem.W.Fast.tw4052793268859274571 : Unit := ()
def PySem.W.Fast.tw4048481293173736302 : Unit := ()
def PySem.W.Fast.tw8069815729922580626 : Unit := ()
def PySem.W.Fast.tw3284496290007186976 : Unit := ()
def PySem.W.Fast.tw6398602250708150146 : Unit := ()
def PySem.W.Fast.tw13665773885622215502 : Unit := ()
def PySem.W.Fast.tw6645991953850273888 : Unit := ()
def PySem.W.Fast.tw6439626839720901431 : Unit := ()
def PySem.W.Fast.tw8077425400764584153 : Unit := ()
def PySem.W.Fast.tw4209267336492087013 : Unit := ()
def PySem.W.Fast.tw11865874158910150181 : Unit := ()
def PySem.W.Fast.tw13106957256564919512 : Unit := ()
def PySem.W.Fast.tw2873501727848322999 : Unit := ()
open PySem PySem.W PyProof.Rows
set_option maxRecDepth 100000 in
set_option maxHeartbeats 0 in
theorem PySem.Challenge.cw_meetvalue_k37_rows_read_holds : PySem.Challenge.rw_meetvalue_k37_rows_read.Holds := by
 w_on; o_law; k_head; (case hw=>w_witness2)
 k_fill
 refine Law.walk (l := PySem.Challenge.rw_meetvalue_k37_rows_read) rfl rfl (fun w h Y=>PySem.W.kIn_of Y) ?F
 case F =>
  intro w mg fa h KX G hmg
  refine' Law.all_mk KX G hmg ?a0 ?l0 ?c0 ?k0 ?a1 ?l1 ?c1 ?k1 ?a5 ?l5 ?c5 ?k5 ?a6 ?l6 ?c6 ?k6 ?a4 ?l4 ?c4 ?k4 ?a7 ?l7 ?c7 ?k7 ?a8 ?l8 ?c8 ?k8 ?a3 ?l3 ?c3 ?k3 ?a2 ?l2 ?c2 ?k2 ?a16 ?l16 ?c16 ?k16 ?a24 ?l24 ?c24 ?k24 ?a23 ?l23 ?c23 ?k23 ?a20 ?l20 ?c20 ?k20 ?a21 ?l21 ?c21 ?k21 ?a17 ?l17 ?c17 ?k17 ?a13 ?l13 ?c13 ?k13 ?a12 ?l12 ?c12 ?k12 ?a14 ?l14 ?c14 ?k14 ?a15 ?l15 ?c15 ?k15 ?a18 ?l18 ?c18 ?k18 ?a19 ?l19 ?c19 ?k19 ?a22 ?l22 ?c22 ?k22 ?a9 ?l9 ?c9 ?k9 ?a10 ?l10 ?c10 ?k10 ?a11 ?l11 ?c11 ?k11 ?a25 ?l25 ?c25 ?k25 ?a26 ?l26 ?c26 ?k26 ?a27 ?l27 ?c27 ?k27 ?a28 ?l28 ?c28 ?k28 ?a29 ?l29 ?c29 ?k29 ?a30 ?l30 ?c30 ?k30 ?a31 ?l31 ?c31 ?k31 ?a32 ?l32 ?c32 ?k32 ?a33 ?l33 ?c33 ?k33 ?a34 ?l34 ?c34 ?k34 ?a35 ?l35 ?c35 ?k35 ?a36 ?l36 ?c36 ?k36 ?a37 ?l37 ?c37 ?k37 ?a40 ?l40 ?c40 ?k40 ?a43 ?l43 ?c43 ?k43 ?a38 ?l38 ?c38 ?k38 ?a39 ?l39 ?c39 ?k39 ?a41 ?l41 ?c41 ?k41 ?a42 ?l42 ?c42 ?k42 ?a44 ?l44 ?c44 ?k44 ?a45 ?l45 ?c45 ?k45 ?a46 ?l46 ?c46 ?k46 ?a47 ?l47 ?c47 ?k47 ?a48 ?l48 ?c48 ?k48 ?z54 ?z55 ?z56 ?z57 ?z58 ?z59 ?z60 ?z61 ?z62 ?z63 ?z64 ?z65 ?z66 ?a_NO ?l_NO ?gNT ?gRD ?gMF ?gSS ?gPW ?lPW ?x1cC ?x2cC ?x3cC ?x4cC ?x5cC ?x6cC ?y1 ?y2 ?y3 ?y4 ?y5 ?y6 ?y7 ?y8 ?a49 ?l49 ?c49 ?k49 ?i49 ?a50 ?l50 ?c50 ?k50 ?i50 ?a51 ?l51 ?c51 ?k51 ?i51 ?a52 ?l52 ?c52 ?k52 ?i52 ?a53 ?l53 ?c53 ?k53 ?i53 ?gME ?gRI ?gNR ?x1cM ?x2cM ?x3cM ?x4cM ?x5cM ?x6cM ?r1 ?q1 ?q2 ?q3 ?q4
  (case a0=>k_is); (case l0=>k_is); (case c0=>k_is); (case k0=>k_is)
  (case a1=>k_is); (case l1=>k_is); (case c1=>k_is); (case k1=>k_is)
  (case a5=>k_is); (case l5=>k_is); (case c5=>k_is); (case k5=>k_is)
  (case a6=>k_is); (case l6=>k_is); (case c6=>k_is); (case k6=>k_is)
  (case a4=>k_is); (case l4=>k_is); (case c4=>k_is); (case k4=>k_is)
  (case a7=>k_is); (case l7=>k_is); (case c7=>k_is); (case k7=>k_is)
  (case a8=>k_is); (case l8=>k_is); (case c8=>k_is); (case k8=>k_is)
  (case a3=>k_is); (case l3=>k_is); (case c3=>k_is); (case k3=>k_is)
  (case a2=>k_is); (case l2=>k_is); (case c2=>k_is); (case k2=>k_is)
  (case a16=>k_is); (case l16=>k_is); (case c16=>k_is); (case k16=>k_is)
  (case a24=>k_is); (case l24=>k_is); (case c24=>k_is); (case k24=>k_is)
  (case a23=>k_is); (case l23=>k_is); (case c23=>k_is); (case k23=>k_is)
  (case a20=>k_is); (case l20=>k_is); (case c20=>k_is); (case k20=>k_is)
  (case a21=>k_is); (case l21=>k_is); (case c21=>k_is); (case k21=>k_is)
  (case a17=>k_is); (case l17=>k_is); (case c17=>k_is); (case k17=>k_is)
  (case a13=>k_is); (case l13=>k_is); (case c13=>k_is); (case k13=>k_is)
  (case a12=>k_is); (case l12=>k_is); (case c12=>k_is); (case k12=>k_is)
  (case a14=>k_is); (case l14=>k_is); (case c14=>k_is); (case k14=>k_is)
  (case a15=>k_is); (case l15=>k_is); (case c15=>k_is); (case k15=>k_is)
  (case a18=>k_is); (case l18=>k_is); (case c18=>k_is); (case k18=>k_is)
  (case a19=>k_is); (case l19=>k_is); (case c19=>k_is); (case k19=>k_is)
  (case a22=>k_is); (case l22=>k_is); (case c22=>k_is); (case k22=>k_is)
  (case a9=>k_is); (case l9=>k_is); (case c9=>k_is); (case k9=>k_is)
  (case a10=>k_is); (case l10=>k_is); (case c10=>k_is); (case k10=>k_is)
  (case a11=>k_is); (case l11=>k_is); (case c11=>k_is); (case k11=>k_is)
  (case a25=>k_is); (case l25=>k_is); (case c25=>k_is); (case k25=>k_is)
  (case a26=>k_is); (case l26=>k_is); (case c26=>k_is); (case k26=>k_is)
  (case a27=>k_is); (case l27=>k_is); (case c27=>k_is); (case k27=>k_is)
  (case a28=>k_is); (case l28=>k_is); (case c28=>k_is); (case k28=>k_is)
  (case a29=>k_is); (case l29=>k_is); (case c29=>k_is); (case k29=>k_is)
  (case a30=>k_is); (case l30=>k_is); (case c30=>k_is); (case k30=>k_is)
  (case a31=>k_is); (case l31=>k_is); (case c31=>k_is); (case k31=>k_is)
  (case a32=>k_is); (case l32=>k_is); (case c32=>k_is); (case k32=>k_is)
  (case a33=>k_is); (case l33=>k_is); (case c33=>k_is); (case k33=>k_is)
  (case a34=>k_is); (case l34=>k_is); (case c34=>k_is); (case k34=>k_is)
  (case a35=>k_is); (case l35=>k_is); (case c35=>k_is); (case k35=>k_is)
  (case a36=>k_is); (case l36=>k_is); (case c36=>k_is); (case k36=>k_is)
  (case a37=>k_is); (case l37=>k_is); (case c37=>k_is); (case k37=>k_is)
  (case a40=>k_is); (case l40=>k_is); (case c40=>k_is); (case k40=>k_is)
  (case a43=>k_is); (case l43=>k_is); (case c43=>k_is); (case k43=>k_is)
  (case a38=>k_is); (case l38=>k_is); (case c38=>k_is); (case k38=>k_is)
  (case a39=>k_is); (case l39=>k_is); (case c39=>k_is); (case k39=>k_is)
  (case a41=>k_is); (case l41=>k_is); (case c41=>k_is); (case k41=>k_is)
  (case a42=>k_is); (case l42=>k_is); (case c42=>k_is); (case k42=>k_is)
  (case a44=>k_is); (case l44=>k_is); (case c44=>k_is); (case k44=>k_is)
  (case a45=>k_is); (case l45=>k_is); (case c45=>k_is); (case k45=>k_is)
  (case a46=>k_is); (case l46=>k_is); (case c46=>k_is); (case k46=>k_is)
  (case a47=>k_is); (case l47=>k_is); (case c47=>k_is); (case k47=>k_is)
  (case a48=>k_is); (case l48=>k_is); (case c48=>k_is); (case k48=>k_is)
  (case z54=>k_is)
  (case z55=>k_is)
  (case z56=>k_is)
  (case z57=>k_is)
  (case z58=>k_is)
  (case z59=>k_is)
  (case z60=>k_is)
  (case z61=>k_is)
  (case z62=>k_is)
  (case z63=>k_is)
  (case z64=>k_is)
  (case z65=>k_is)
  (case z66=>k_is)
  (case a_NO=>k_is); (case l_NO=>k_is)
  (case gNT=>first | k_is | k_exc | kit_is)
  (case gRD=>first | k_is | k_exc | kit_is)
  (case gMF=>first | k_is | k_exc | kit_is)
  (case gSS=>first | k_is | k_exc | kit_is)
  (case gPW=>first | k_is | k_exc | kit_is)
  (case lPW=>first | k_is | k_exc | kit_is)
  (case x1cC=>first | k_is | k_exc | kit_is)
  (case x2cC=>first | k_is | k_exc | kit_is)
  (case x3cC=>first | k_is | k_exc | kit_is)
  (case x4cC=>first | k_is | k_exc | kit_is)
  (case x5cC=>first | k_is | k_exc | kit_is)
  (case x6cC=>first | k_is | k_exc | kit_is)
  (case y1=>first | k_is | k_exc | kit_is)
  (case y2=>first | k_is | k_exc | kit_is)
  (case y3=>first | k_is | k_exc | kit_is)
  (case y4=>first | k_is | k_exc | kit_is)
  (case y5=>first | k_is | k_exc | kit_is)
  (case y6=>first | k_is | k_exc | kit_is)
  (case y7=>first | k_is | k_exc | kit_is)
  (case y8=>first | k_is | k_exc | kit_is)
  (case a49=>first | k_is | k_exc | kit_is)
  (case l49=>first | k_is | k_exc | kit_is)
  (case c49=>first | k_is | k_exc | kit_is)
  (case k49=>first | k_is | k_exc | kit_is)
  (case i49=>first | k_is | k_exc | kit_is)
  (case a50=>first | k_is | k_exc | kit_is)
  (case l50=>first | k_is | k_exc | kit_is)
  (case c50=>first | k_is | k_exc | kit_is)
  (case k50=>first | k_is | k_exc | kit_is)
  (case i50=>first | k_is | k_exc | kit_is)
  (case a51=>first | k_is | k_exc | kit_is)
  (case l51=>first | k_is | k_exc | kit_is)
  (case c51=>first | k_is | k_exc | kit_is)
  (case k51=>first | k_is | k_exc | kit_is)
  (case i51=>first | k_is | k_exc | kit_is)
  (case a52=>first | k_is | k_exc | kit_is)
  (case l52=>first | k_is | k_exc | kit_is)
  (case c52=>first | k_is | k_exc | kit_is)
  (case k52=>first | k_is | k_exc | kit_is)
  (case i52=>first | k_is | k_exc | kit_is)
  (case a53=>first | k_is | k_exc | kit_is)
  (case l53=>first | k_is | k_exc | kit_is)
  (case c53=>first | k_is | k_exc | kit_is)
  (case k53=>first | k_is | k_exc | kit_is)
  (case i53=>first | k_is | k_exc | kit_is)
  (case gME=>first | k_is | k_exc | kit_is)
  (case gRI=>first | k_is | k_exc | kit_is)
  (case gNR=>first | k_is | k_exc | kit_is)
  (case x1cM=>first | k_is | k_exc | kit_is)
  (case x2cM=>first | k_is | k_exc | kit_is)
  (case x3cM=>first | k_is | k_exc | kit_is)
  (case x4cM=>first | k_is | k_exc | kit_is)
  (case x5cM=>first | k_is | k_exc | kit_is)
  (case x6cM=>first | k_is | k_exc | kit_is)
  (case r1=>first | k_is | k_exc | kit_is)
  (case q1=>first | k_is | k_exc | kit_is)
  (case q2=>first | k_is | k_exc | kit_is)
  (case q3=>first | k_is | k_exc | kit_is)
  (case q4=>first | k_is | k_exc | kit_is)
