import PyProof.Rows.All
import Wide.All
import OpenK.AllK
import Wide.FinOn
import Lean
import PyProof.EqAt
import PyProof.EqKinds
import PyProof.TupleCall
import PySem.Challenge.RW_meetvalue_k33_refused_texts
set_option Elab.async false
set_option linter.all false
set_option maxRecDepth 100000
set_option maxHeartbeats 4000000
namespace L2
open PySem PySem.Spec PyProof.Rows
abbrev M8 := Sum Int Str
def kJ : M8 → Value → Bool
 | .inl k,v=>Value.isInt k v
 | .inr x,v=>Value.isStrOf x v
def BL1 (w : World) : M8 → Int
 | .inl k=>hashInt k
 | .inr x=>hashStr w x
theorem P7 : ∀ {k : M8} {v : Value},kJ k v = true → (∃ i t,k = Sum.inl i ∧ v = Value.int i t) ∨ (∃ x t,k = Sum.inr x ∧ v = Value.str x t)
 | .inl i,v,h=>by
  obtain ⟨t,e⟩ := Value.isInt_shape (k := i) (v := v) h
  exact .inl ⟨i,t,rfl,e⟩
 | .inr x,v,h=>by
  obtain ⟨t,e⟩ := Value.isStrOf_shape (x := x) (v := v) h
  exact .inr ⟨x,t,rfl,e⟩
theorem zQ (i : Int) (t : Tok) : kJ (.inl i) (.int i t) = true := by simp [kJ,Value.isInt]
theorem zP (x : Str) (t : Tok) : kJ (.inr x) (.str x t) = true := by simp [kJ,Value.isStrOf]
theorem BA9 (a b : Int) : decide ((Sum.inl a : M8) = Sum.inl b) = (a == b) := by
 by_cases e : a = b
 ·subst e; simp
 ·have h : ¬ (Sum.inl a : M8) = Sum.inl b := fun q=>e (Sum.inl.inj q)
  rw [decide_eq_false h]
  exact (beq_eq_false_iff_ne.mpr e).symm
theorem BA6 (a b : Str) : decide ((Sum.inr a : M8) = Sum.inr b) = decide (a = b) := by
 by_cases e : a = b
 ·subst e; simp
 ·have h : ¬ (Sum.inr a : M8) = Sum.inr b := fun q=>e (Sum.inr.inj q)
  rw [decide_eq_false h,decide_eq_false e]
theorem BA8 (a : Int) (b : Str) : decide ((Sum.inl a : M8) = Sum.inr b) = false := decide_eq_false (fun q=>nomatch q)
theorem BA7 (a : Str) (b : Int) : decide ((Sum.inr a : M8) = Sum.inl b) = false := decide_eq_false (fun q=>nomatch q)
def Q7 (prog : Program) (w : World) : PySem.KeyKind prog w M8 where
 is := kJ
 hash := BL1 w
 inj := fun v a b ha hb=>by
  rcases P7 ha with ⟨i,t,rfl,rfl⟩ | ⟨x,t,rfl,rfl⟩
  ·rcases P7 hb with ⟨j,u,rfl,e⟩ | ⟨y,u,rfl,e⟩
   ·injection e with e1 _; rw [e1]
   ·exact nomatch e
  ·rcases P7 hb with ⟨j,u,rfl,e⟩ | ⟨y,u,rfl,e⟩
   ·exact nomatch e
   ·injection e with e1 _; rw [e1]
 byValue := fun k v h=>by
  rcases P7 h with ⟨i,t,rfl,rfl⟩ | ⟨x,t,rfl,rfl⟩ <;> rfl
 pyHash := fun hv h=>by
  rcases P7 hv with ⟨i,t,rfl,rfl⟩ | ⟨x,t,rfl,rfl⟩
  ·exact wpAny_pyHash_int h
  ·exact wpAny_pyHash_str h
 eqBool := fun hu hv h=>by
  rcases P7 hu with ⟨i,t,rfl,rfl⟩ | ⟨x,t,rfl,rfl⟩
  ·rcases P7 hv with ⟨j,u,rfl,rfl⟩ | ⟨y,u,rfl,rfl⟩
   ·rw [BA9] at h; exact wpAny_eqBool_int h
   ·rw [BA8] at h; exact SeqAt.EqAt.int_str i t y u _ _ _ _ h
  ·rcases P7 hv with ⟨j,u,rfl,rfl⟩ | ⟨y,u,rfl,rfl⟩
   ·rw [BA7] at h; exact SeqAt.EqAt.str_int x t j u _ _ _ _ h
   ·rw [BA6] at h; exact wpAny_eqBool_str h
 «strs» := fun k x t v h=>by
  rcases P7 h with ⟨i,u,rfl,e⟩ | ⟨y,u,rfl,e⟩
  ·exact nomatch e
  ·injection e with e1 _
   subst e1
   cases v <;> rfl
theorem uQ (prog : Program) (w : World) (i : Int) (t : Tok) : (Q7 prog w).is (.inl i) (.int i t) = true := zQ i t
theorem uP (prog : Program) (w : World) (x : Str) (t : Tok) : (Q7 prog w).is (.inr x) (.str x t) = true := zP x t
end L2
namespace L2
open PySem PySem.Spec PyProof.Rows
inductive V where
 | non | bl (b : Bool) | int (i : Int) | str (x : Str) | byt (b : Array UInt8) | flt (b : UInt64) | ref (a : Addr) | ty (n : String)
 deriving DecidableEq
def RelV : V → Value → Prop
 | .non,u=>u = Value.none
 | .bl b,u=>u = Value.bool b
 | .int i,u=>∃ t,u = Value.int i t
 | .str x,u=>∃ t,u = Value.str x t
 | .byt b,u=>∃ t,u = Value.bytes b t
 | .flt b,u=>∃ t,u = Value.float b t
 | .ref a,u=>u = Value.ref a
 | .ty n,u=>u = Value.type n
abbrev Vals : List V → List Value → Prop := Paired RelV
theorem Vals.length {xs : List V} {us : List Value} (r : Vals xs us) : xs.length = us.length := Paired.length r
theorem Vals.get : ∀ {xs : List V} {us : List Value} {i : Nat} {x : V},Vals xs us → xs[i]? = some x → ∃ u,us[i]? = some u ∧ RelV x u
 | _,_,_,_,.nil,e=>by simp at e
 | _,_,0,_,.cons r _,e=>by simp at e; subst e; exact ⟨_,rfl,r⟩
 | _,_,i + 1,x,.cons _ t,e=>by
  obtain ⟨u,h1,h2⟩ := Vals.get (i := i) (x := x) t (by simpa using e)
  exact ⟨u,by simpa using h1,h2⟩
theorem Vals.set {x : V} {u : Value} (r : RelV x u) : ∀ {xs : List V} {us : List Value} (i : Nat),Vals xs us → Vals (xs.set i x) (us.set i u)
 | _,_,_,.nil=>.nil
 | _,_,0,.cons _ t=>.cons r t
 | _,_,i + 1,.cons q t=>.cons q (Vals.set r i t)
theorem Vals.append : ∀ {xs ys : List V} {us ws : List Value},Vals xs us → Vals ys ws → Vals (xs ++ ys) (us ++ ws)
 | _,_,_,_,.nil,s=>s
 | _,_,_,_,.cons r t,s=>.cons r (Vals.append t s)
theorem Vals.take : ∀ {xs : List V} {us : List Value} (n : Nat),Vals xs us → Vals (xs.take n) (us.take n)
 | _,_,0,_=>.nil
 | _,_,_ + 1,.nil=>.nil
 | _,_,n + 1,.cons r t=>.cons r (Vals.take n t)
theorem Vals.drop : ∀ {xs : List V} {us : List Value} (n : Nat),Vals xs us → Vals (xs.drop n) (us.drop n)
 | _,_,0,r=>r
 | _,_,_ + 1,.nil=>.nil
 | _,_,n + 1,.cons _ t=>Vals.drop n t
def RelO : Option V → Option Value → Prop
 | some v,some u=>RelV v u
 | none,none=>True
 | _,_=>False
def KV {κ : Type} : List (κ × V) → List (κ × Value) → Prop := Paired fun (p : κ × V) (q : κ × Value)=>p.1 = q.1 ∧ RelV p.2 q.2
def kV : M8 → V
 | .inl i=>.int i
 | .inr x=>.str x
inductive HO where
 | lst (xs : List V)
 | tup (xs : List V)
 | dK (kvs : List (M8 × V)) | dT (kvs : List (List M8 × V))
 | set (S : Int → Bool) (n : Nat)
 | ins (C dx : Addr) (fs : List (Str × V))
 | own (x : Addr)
 | xd (fs : List (Str × V))
 | met (f x : Addr)
 | rng (lo hi : Int)
 | frz (o : Obj) (u : HO)
 | tbl (ps : Array Value)
 | ext (φ : Heap → Prop)
abbrev Hp := Addr → Option HO
def E7 (H : Hp) (a : Addr) (o : HO) : Hp := fun b=>if b = a then some o else H b
theorem A6 {H : Hp} {a : Addr} {o : HO} : E7 H a o a = some o := by unfold E7; rw [if_pos rfl]
theorem B6 {H : Hp} {a b : Addr} {o : HO} (h : b ≠ a) : E7 H a o b = H b := by unfold E7; rw [if_neg h]
theorem jP {H : Hp} {a : Addr} {o u : HO} : E7 (E7 H a o) a u = E7 H a u := by
 funext b; unfold E7; split <;> rfl
theorem BG0 {H : Hp} {a b : Addr} {o u : HO} (h : H a = some o) (h' : H b = some u) (d : o ≠ u) : a ≠ b := by
 intro e; subst e; rw [h] at h'; exact d (Option.some.inj h')
theorem D9 {H : Hp} {a b : Addr} {o : HO} (h : H a = some o) (h' : H b = none) : a ≠ b := by
 intro e; subst e; rw [h] at h'; cases h'
section
variable (P : Program) (w : World)
def ObjOk (H : Hp) (h : Heap) (a : Addr) : HO → Prop
 | .lst xs=>xs.length ≤ sizeLine ∧ ∃ (its : List Value) (n : Nat),Vals xs its ∧ h.get? a = some { cls := .type "list",data := .seq its.toArray n }
 | .tup xs=>xs.length ≤ sizeLine ∧ ∃ its : List Value,Vals xs its ∧ IsTup h a its.toArray
 | .dK kvs=>kvs.length ≤ sizeLine ∧ (a == sysModules) = false ∧ ∃ vs,KV kvs vs ∧ h.DictOf (Q7 P w) a vs
 | .dT kvs=>kvs.length ≤ sizeLine ∧ (a == sysModules) = false ∧ ∃ xs : List (List M8 × Addr × Value),
   Paired (fun (p : List M8 × V) (q : List M8 × Addr × Value)=>p.1 = q.1 ∧ H q.2.1 = some (.tup (p.1.map kV)) ∧ RelV p.2 q.2.2) kvs xs ∧
   ∃ o es ep,h.get? a = some o ∧ o.ExactDict ∧ o.data = .dict es ep ∧ es.toList = xs.map (entryOfKey (tupleKind (Q7 P w))) ∧ (xs.map (·.1)).Nodup
 | .set S n=>h.SetOf (intKind P w) a S n
 | .ins C dx fs=>H dx = some (.own a) ∧ fs.length ≤ 1000 ∧ dx ≠ a ∧ h.get? a = some (PySem.W.instObj C dx) ∧
   ∃ mA,h.Ns1 dx mA ∧ (∀ f,RelO (fs.lookup f) (mA f)) ∧ PySem.Within mA (fs.map (·.1))
 | .own _=>∃ o,h.get? a = some o
 | .xd fs=>∃ mA,h.Ns1 a mA ∧ ∀ f,RelO (fs.lookup f) (mA f)
 | .rng lo hi=>∃ t u v,h.get? a = some { cls := .type "range",data := .fields #[.int lo t,.int hi u,.int 1 v] }
 | .frz o u=>h.get? a = some o ∧ ObjOk H h a u
 | .tbl ps=>h.get? a = some { cls := .none,data := .fields ps }
 | .met f x=>h.get? a = some (PySem.W.methodObj (.ref f) (.ref x))
 | .ext φ=>φ h ∧ (∃ o,h.get? a = some o) ∧ ∀ h1 h2 : Heap,φ h1 → (∀ o,h1.get? a = some o → h2.get? a = some o) → φ h2
def HOk (H : Hp) (h : Heap) : Prop := ∀ a o,H a = some o → ObjOk P w H h a o
end
section
variable {P : Program} {w : World} {H H' : Hp} {h h' : Heap} {a : Addr} {o : HO}
theorem ObjOk.lt (x : ObjOk P w H h a o) : a < h.objs.size := by
 cases o with
 | lst xs=>obtain ⟨_,_,_,_,e⟩ := x; exact Heap.lt_size e
 | tup xs=>obtain ⟨_,_,_,p⟩ := x; exact p.lt
 | dK kvs=>obtain ⟨_,_,_,_,o,_,_,e,_⟩ := x; exact Heap.lt_size e
 | dT kvs=>obtain ⟨_,_,_,_,o,_,_,e,_⟩ := x; exact Heap.lt_size e
 | set S n=>obtain ⟨o,_,_,_,e,_⟩ := x; exact Heap.lt_size e
 | ins C dx fs=>obtain ⟨_,_,_,e,_⟩ := x; exact Heap.lt_size e
 | own y=>obtain ⟨_,e⟩ := x; exact Heap.lt_size e
 | xd fs=>obtain ⟨_,⟨_,_,_,e,_⟩,_⟩ := x; exact Heap.lt_size e
 | rng lo hi=>obtain ⟨_,_,_,e⟩ := x; exact Heap.lt_size e
 | frz ob u=>obtain ⟨e,_⟩ := x; exact Heap.lt_size e
 | tbl ps=>exact Heap.lt_size (show h.get? a = some _ from x)
 | met f y=>exact Heap.lt_size (show h.get? a = some _ from x)
 | ext φ=>obtain ⟨_,⟨_,e⟩,_⟩ := x; exact Heap.lt_size e
theorem Paired.mapP {α β : Type} {F G : α → β → Prop} : ∀ {l₁ : List α} {l₂ : List β},Paired F l₁ l₂ → (∀ a b,F a b → G a b) → Paired G l₁ l₂
 | _,_,.nil,_=>.nil
 | _,_,.cons r t,f=>.cons (f _ _ r) (Paired.mapP t f)
theorem ObjOk.stay (x : ObjOk P w H h a o) (k : ∀ b u,(b = a ∨ H b = some (.own a)) → h.get? b = some u → h'.get? b = some u)
  (ho : ∀ b,H b = some (.own a) → H' b = some (.own a)) (ht : ∀ b xs,H b = some (.tup xs) → H' b = some (.tup xs)) : ObjOk P w H' h' a o := by
 induction o with
 | lst xs=>obtain ⟨z,its,n,r,e⟩ := x; exact ⟨z,its,n,r,k _ _ (.inl rfl) e⟩
 | tup xs=>obtain ⟨z,its,r,ob,e,c⟩ := x; exact ⟨z,its,r,ob,k _ _ (.inl rfl) e,c⟩
 | dK kvs=>obtain ⟨z,y,vs,r,ob,es,ep,e,c⟩ := x; exact ⟨z,y,vs,r,ob,es,ep,k _ _ (.inl rfl) e,c⟩
 | dT kvs =>
  obtain ⟨z,y,xs,r,ob,es,ep,e,c⟩ := x
  exact ⟨z,y,xs,Paired.mapP r fun p q z=>⟨z.1,ht _ _ z.2.1,z.2.2⟩,ob,es,ep,k _ _ (.inl rfl) e,c⟩
 | set S n=>obtain ⟨ob,es,ep,t,e,c⟩ := x; exact ⟨ob,es,ep,t,k _ _ (.inl rfl) e,c⟩
 | ins C dx fs =>
  obtain ⟨d,z,ne,e,mA,⟨od,es,ep,e2,c⟩,r⟩ := x
  exact ⟨ho _ d,z,ne,k _ _ (.inl rfl) e,mA,⟨od,es,ep,k _ _ (.inr d) e2,c⟩,r⟩
 | own y=>obtain ⟨ob,e⟩ := x; exact ⟨ob,k _ _ (.inl rfl) e⟩
 | xd fs=>obtain ⟨mA,⟨od,es,ep,e,c⟩,r⟩ := x; exact ⟨mA,⟨od,es,ep,k _ _ (.inl rfl) e,c⟩,r⟩
 | rng lo hi=>obtain ⟨t,u,v,e⟩ := x; exact ⟨t,u,v,k _ _ (.inl rfl) e⟩
 | frz ob u ih=>obtain ⟨e,q⟩ := x; exact ⟨k _ _ (.inl rfl) e,ih q⟩
 | tbl ps =>
  have e : h.get? a = some { cls := .none,data := .fields ps } := x
  show h'.get? a = some { cls := .none,data := .fields ps }
  exact k a _ (.inl rfl) e
 | met f y =>
  have e : h.get? a = some (PySem.W.methodObj (.ref f) (.ref y)) := x
  show h'.get? a = some (PySem.W.methodObj (.ref f) (.ref y))
  exact k a _ (.inl rfl) e
 | ext φ=>obtain ⟨p,⟨o,e⟩,st⟩ := x; exact ⟨st _ _ p fun o q=>k _ _ (.inl rfl) q,⟨o,k _ _ (.inl rfl) e⟩,st⟩
theorem HOk.lt (x : HOk P w H h) (e : H a = some o) : a < h.objs.size := (x a o e).lt
theorem HOk.fresh (x : HOk P w H h) (e : h.objs.size ≤ a) : H a = none := by
 cases q : H a with
 | none=>rfl
 | some u=>exact absurd (Nat.lt_of_lt_of_le (x.lt q) e) (Nat.lt_irrefl _)
theorem HOk.kept (x : HOk P w H h) (k : ∀ b u,h.get? b = some u → h'.get? b = some u) : HOk P w H h' := fun a o e =>
 (x a o e).stay (fun b u _ q=>k b u q) (fun _ q=>q) fun _ _ q=>q
theorem HOk.laid (x : HOk P w H h) (k : ∀ b u,h.get? b = some u → h'.get? b = some u) (hp : h.objs.size ≤ a) (new : ObjOk P w (E7 H a o) h' a o) : HOk P w (E7 H a o) h' := fun b u e=>by
 have hn := x.fresh hp
 by_cases hb : b = a
 ·subst hb; rw [A6] at e; cases e; exact new
 ·rw [B6 hb] at e
  exact (x b u e).stay (fun c v _ q=>k c v q) (fun c q=>by rw [B6 (D9 q hn)]; exact q) fun c xs q=>by rw [B6 (D9 q hn)]; exact q
end
def Rd (H : Hp) (a : Addr) (u : HO) : Prop := H a = some u ∨ ∃ o,H a = some (.frz o u)
theorem Rd.ok {P : Program} {w : World} {H : Hp} {h : Heap} {a : Addr} {u : HO} (r : Rd H a u) (x : HOk P w H h) : ObjOk P w H h a u := by
 rcases r with r | ⟨o,r⟩
 ·exact x a u r
 ·obtain ⟨_,q⟩ := x a _ r
  exact q
def Mut : Option HO → Prop
 | some (.lst _)=>True
 | some (.dK _)=>True
 | some (.dT _)=>True
 | some (.set _ _)=>True
 | some (.ins _ _ _)=>True
 | some (.ext _)=>True
 | _=>False
section
variable {P : Program} {w : World} {H : Hp} {h h' : Heap} {x e : Addr} {o' : HO}
theorem HOk.write (ok : HOk P w H h) (mu : Mut (H x)) (he : e = x ∨ H e = some (.own x)) (k : ∀ b u,b ≠ e → h.get? b = some u → h'.get? b = some u) (heo : ∃ u,h'.get? e = some u)
  (new : ObjOk P w (E7 H x o') h' x o') : HOk P w (E7 H x o') h' := fun b u q=>by
 have nown : ∀ c y,H c = some (.own y) → c ≠ x := fun c y r z=>by subst z; rw [r] at mu; exact mu
 have ntup : ∀ c xs,H c = some (.tup xs) → c ≠ x := fun c xs r z=>by subst z; rw [r] at mu; exact mu
 by_cases hb : b = x
 ·subst hb; rw [A6] at q; cases q; exact new
 ·rw [B6 hb] at q
  by_cases hbe : b = e
  ·have q' : H b = some (.own x) := by
    rcases he with z | z
    ·exact absurd (hbe.trans z) hb
    ·rw [hbe]; exact z
   rw [q] at q'; cases q'
   obtain ⟨v,hv⟩ := heo
   exact ⟨v,by rw [hbe]; exact hv⟩
  ·refine (ok b u q).stay (fun c v hc r=>k c v ?_ r) (fun c r=>by rw [B6 (nown c b r)]; exact r) fun c xs r=>by rw [B6 (ntup c xs r)]; exact r
   rcases hc with rfl | hc
   ·exact hbe
   ·rintro rfl
    rcases he with z | z
    ·exact nown c b hc z
    ·rw [hc] at z; cases z; exact hb rfl
end
structure Un (fs ex : List Addr) (H H' : Hp) (h h' : Heap) : Prop where
 keep : ∀ b o,h.get? b = some o → H b = none → b ∉ fs → b ∉ ex → h'.get? b = some o
 slot : ∀ b o,h.get? b = some o → H b = none → b ∈ fs → b ∉ ex → ∃ sl,h'.get? b = some { o with slots := sl }
 free : ∀ b o,h.get? b = some o → H b = none → b ∉ ex → H' b = none
 there : ∀ b o,h.get? b = some o → b ∉ ex → ∃ o',h'.get? b = some o'
 tups : ∀ b xs,H b = some (.tup xs) → H' b = some (.tup xs)
 frzs : ∀ b o u,H b = some (.frz o u) → H' b = some (.frz o u)
 tbls : ∀ b ps,H b = some (.tbl ps) → ∃ more,H' b = some (.tbl (ps ++ more))
section
variable {fs fs' ex ex' : List Addr} {H H1 H2 : Hp} {h h1 h2 h' : Heap} {a x e : Addr} {o : HO}
theorem Un.any (u : Un fs ex H H1 h h1) {b : Addr} {ob : Obj} (q : h.get? b = some ob) (n : H b = none) (hx : b ∉ ex) : ∃ sl,h1.get? b = some { ob with slots := sl } := by
 by_cases hb : b ∈ fs
 ·exact u.slot b ob q n hb hx
 ·exact ⟨ob.slots,u.keep b ob q n hb hx⟩
theorem Un.kept (k : ∀ b u,h.get? b = some u → h'.get? b = some u) : Un fs ex H H h h' :=
 ⟨fun b ob q _ _ _=>k b ob q,fun b ob q _ _ _=>⟨ob.slots,k b ob q⟩,fun _ _ _ n _=>n,fun b ob q _=>⟨ob,k b ob q⟩,fun _ _ q=>q,fun _ _ _ q=>q,fun _ ps q=>⟨#[],by rw [q]; simp⟩⟩
theorem Un.refl : Un fs ex H H h h := Un.kept fun _ _ q=>q
theorem Un.laid (k : ∀ b u,h.get? b = some u → h'.get? b = some u) (hp : h.objs.size ≤ a) (hn : H a = none) : Un fs ex H (E7 H a o) h h' where
 keep := fun b u q _ _ _=>k b u q
 slot := fun b u q _ _ _=>⟨u.slots,k b u q⟩
 free := fun b u q n _=>by rw [B6 (Nat.ne_of_lt (Nat.lt_of_lt_of_le (Heap.lt_size q) hp))]; exact n
 there := fun b u q _=>⟨u,k b u q⟩
 tups := fun b xs q=>by rw [B6 (D9 q hn)]; exact q
 frzs := fun b u xs q=>by rw [B6 (D9 q hn)]; exact q
 tbls := fun b ps q=>⟨#[],by rw [B6 (D9 q hn),q]; simp⟩
theorem Un.write (mu : Mut (H x)) (he : e = x ∨ H e = some (.own x)) (k : ∀ b u,b ≠ e → h.get? b = some u → h'.get? b = some u) (heo : ∃ u,h'.get? e = some u) : Un fs ex H (E7 H x o) h h' := by
 have hx : ∀ b,H b = none → b ≠ x := fun b n z=>by subst z; rw [n] at mu; exact mu
 have hb : ∀ b,H b = none → b ≠ e := fun b n z=>by
  subst z
  rcases he with r | r
  ·exact hx b n r
  ·rw [n] at r; cases r
 have hm : ∀ b u,H b = some u → ¬ Mut (some u) → b ≠ x := fun b u q nm z=>by subst z; rw [q] at mu; exact nm mu
 refine ⟨fun b u q n _ _=>k b u (hb b n) q,fun b u q n _ _=>⟨u.slots,k b u (hb b n) q⟩,fun b u q n _=>by rw [B6 (hx b n)]; exact n,fun b u q _=>?_,
  fun b xs q=>by rw [B6 (hm b _ q fun z=>z)]; exact q,fun b u xs q=>by rw [B6 (hm b _ q fun z=>z)]; exact q,fun b ps q=>⟨#[],by rw [B6 (hm b _ q fun z=>z),q]; simp⟩⟩
 by_cases hbe : b = e
 ·subst hbe; exact heo
 ·exact ⟨u,k b u hbe q⟩
end
def uV (h : Heap) (H : Hp) : List Addr := (List.range h.objs.size).filter fun a=>(H a).isSome
def hJ (h : Heap) (H : Hp) : Heap := PySem.W.hideAll h (uV h H)
theorem zU (h : Heap) (H : Hp) : (hJ h H).objs.size = h.objs.size := PySem.W.hideAll_size _ _
theorem AH5 {h : Heap} {H : Hp} {b : Addr} {o : Obj} (e : h.get? b = some o) (n : H b = none) : (hJ h H).get? b = some o :=
 PySem.W.hideAll_get _ e fun hm=>by
  have q : (H b).isSome = true := (List.mem_filter.mp hm).2
  rw [n] at q; simp at q
theorem AR9 {h : Heap} {H : Hp} {b : Addr} {o : Obj} (e : (hJ h H).get? b = some o) : h.get? b = some o ∧ H b = none := by
 have e' : h.get? b = some o := PySem.W.of_hideAll (uV h H) e
 refine ⟨e',?_⟩
 cases q : H b with
 | none=>rfl
 | some x =>
  have hm : b ∈ uV h H := List.mem_filter.mpr ⟨List.mem_range.mpr (Heap.lt_size e'),by simp [q]⟩
  have z : (hJ h H).get? b = none := PySem.W.hideAll_none (uV h H) hm
  rw [z] at e; cases e
end L2
namespace L2
open PySem PySem.Spec PyProof.Rows
structure Mod (K : PySem.W.Frag) (mg : Str → Option Value) (base : Heap) : Prop where
 kin : K.In base
 glob : base.Ns mainGlobals mg
 blt : ∃ mb,base.Ns builtinsNs mb ∧ ∀ x : Str,x ≠ "__name__" → mb x = bootBuiltins x
 nolimit : base.NoLimit
structure Cx where
 prog : Program
 w : World
 K : PySem.W.Frag
 mg : Str → Option Value
 base : Heap
 A : Around
 N : List Str
 s₀ : Shared
 H₀ : Hp
 env : Env
 outer : List Env
 stack : List Env
 ex : List Addr
 fn : Str → Bool
 calm : Bool
 pn : List (Addr × Obj)
 xe : Value → Shared → Prop
def W8 (l : List Env) : List Addr := l.filterMap (·.frame)
abbrev Cx.fs (X : Cx) : List Addr := W8 X.outer
def uD (sc : Scope) (x : Str) : Prop := sc.names.lookup x = some .local ∨ sc.names.lookup x = some .cell ∨ sc.names.lookup x = some .free
def Loc (sc : Scope) (x : Str) : Prop := sc.names.lookup x = some .local ∨ sc.names.lookup x = some .cell
def BM2 (env : Env) (h : Heap) (m : Str → Option Value) (x : Str) (u : Value) : Prop :=
 (env.kindOf x = some .local ∧ m x = some u) ∨ ((env.kindOf x = some .cell ∨ env.kindOf x = some .free) ∧ ∃ c,env.cells.lookup x = some c ∧ h.IsCell c (some u))
structure Cx.Ok (X : Cx) : Prop where
 mod : Mod X.K X.mg X.base
 kind : X.env.scope.kind = .function
 glob : X.env.globals = mainGlobals
 blt : X.env.builtins = builtinsNs
 above : X.s₀.heap.objs.size ≤ X.env.locals
 inj : ∀ x y c,X.env.cells.lookup x = some c → X.env.cells.lookup y = some c → x = y
 has : ∀ x,(X.env.kindOf x = some .cell ∨ X.env.kindOf x = some .free) → ∃ c,X.env.cells.lookup x = some c
 cab : ∀ x c,X.fn x = true → X.env.cells.lookup x = some c → X.s₀.heap.objs.size ≤ c
 hd : X.calm = true → X.A.handled = none
 frames : X.A.frames = some X.stack
 stk : X.stack = X.outer ∨ (X.stack = X.env :: X.outer ∧ X.env.frame = some X.env.locals)
 exf : ∀ b ∈ X.ex,b ≠ X.env.locals ∧ ∀ x c,X.env.cells.lookup x = some c → c ≠ b
 bs : ∀ b o,X.base.get? b = some o → X.s₀.heap.get? b = some o ∧ X.H₀ b = none
 bsz : X.base.objs.size ≤ X.s₀.heap.objs.size
 noex : ∀ b o,X.base.get? b = some o → b ∉ X.ex
 exfs : ∀ b ∈ X.ex,b ∉ X.fs
 funs : X.s₀.heap.FunFrames X.base X.outer
 frf : ∀ b ∈ X.fs,X.H₀ b = none
structure Inv (X : Cx) (pins : List (Addr × Obj)) (σ : List (Option V)) (H : Hp) (s : Shared) : Prop where
 ok : X.Ok
 os : s.os = X.s₀.os
 bare : AllBare s.gens
 base : Un X.fs X.ex X.H₀ H X.s₀.heap s.heap
 loc : ∃ m,s.heap.Ns X.env.locals m ∧ ∀ (i : Nat) (x : Str) (v : V),X.N[i]? = some x → σ[i]? = some (some v) → uD X.env.scope x → ∃ u,RelV v u ∧ BM2 X.env s.heap m x u
 cell : ∀ x c,X.env.cells.lookup x = some c → ∃ v,s.heap.IsCell c v
 free : H X.env.locals = none
 freeC : ∀ x c,X.env.cells.lookup x = some c → H c = none
 pin : ∀ p ∈ X.pn ++ pins,s.heap.get? p.1 = some p.2 ∧ H p.1 = none ∧ p.1 ≠ X.env.locals ∧ p.1 ∉ X.fs ∧ ∀ v,p.2.data ≠ .cell v
 hok : HOk X.prog X.w H s.heap
 len : σ.length = X.N.length
section
variable {X : Cx} {pins : List (Addr × Obj)} {σ : List (Option V)} {H H' : Hp} {s : Shared} {h' : Heap}
theorem Cx.Ok.nofr (ok : X.Ok) {b : Addr} {o : Obj} (e : X.base.get? b = some o) : b ∉ X.fs := fun hb=>by
 have := (ok.funs.mem hb).1
 rw [e] at this; cases this
theorem Inv.bs (I : Inv X pins σ H s) : ∀ b o,X.base.get? b = some o → s.heap.get? b = some o ∧ H b = none := fun b o e =>
 ⟨I.base.keep b o (I.ok.bs b o e).1 (I.ok.bs b o e).2 (I.ok.nofr e) (I.ok.noex b o e),I.base.free b o (I.ok.bs b o e).1 (I.ok.bs b o e).2 (I.ok.noex b o e)⟩
theorem Inv.bk (I : Inv X pins σ H s) : ∀ b o,X.base.get? b = some o → s.heap.get? b = some o := fun b o e=>(I.bs b o e).1
theorem Inv.mod (I : Inv X pins σ H s) : Mod X.K X.mg X.base := I.ok.mod
theorem Inv.kIn (I : Inv X pins σ H s) : X.K.In s.heap := I.ok.mod.kin.keeps I.bk
theorem Inv.lt (I : Inv X pins σ H s) : X.env.locals < s.heap.objs.size := let ⟨_,hn,_⟩ := I.loc; hn.lt
theorem Inv.sz (I : Inv X pins σ H s) : X.s₀.heap.objs.size ≤ s.heap.objs.size := Nat.le_trans I.ok.above (Nat.le_of_lt I.lt)
theorem Inv.nofs (I : Inv X pins σ H s) {a : Addr} (h : s.heap.objs.size ≤ a) : a ∉ X.fs := fun hb=>by
 obtain ⟨_,o,ho,_⟩ := I.ok.funs.mem hb
 exact absurd (Nat.lt_of_lt_of_le (Heap.lt_size ho) (Nat.le_trans I.sz h)) (Nat.lt_irrefl _)
theorem Inv.cne (I : Inv X pins σ H s) : ∀ x c,X.env.cells.lookup x = some c → c ≠ X.env.locals := fun x c e z=>by
 obtain ⟨v,o,ho,hd⟩ := I.cell x c e
 obtain ⟨m,⟨o',es,ep,ho',hd',_⟩,_⟩ := I.loc
 rw [z,ho'] at ho; cases ho; rw [hd'] at hd; cases hd
theorem Inv.funs (I : Inv X pins σ H s) : s.heap.FunFrames X.base X.outer := by
 have all : ∀ (l : List Env),(∀ b ∈ W8 l,b ∈ X.fs) → X.s₀.heap.FunFrames X.base l → s.heap.FunFrames X.base l := by
  intro l
  induction l with
  | nil=>intro _ _; trivial
  | cons env r ih =>
   intro hs hl
   obtain ⟨hk,⟨L,o,hf,hn,ho,hd⟩,hr⟩ := hl
   have hL : L ∈ X.fs := hs L (by unfold W8; rw [List.filterMap_cons,hf]; exact List.mem_cons_self)
   obtain ⟨sl,e⟩ := I.base.slot L o ho (I.ok.frf L hL) hL fun z=>I.ok.exfs L z hL
   exact ⟨hk,⟨L,_,hf,hn,e,hd⟩,ih (fun b hb=>hs b (by unfold W8; rw [List.filterMap_cons,hf]; exact List.mem_cons_of_mem _ hb)) hr⟩
 exact all X.outer (fun _ hb=>hb) I.ok.funs
theorem Inv.stack (I : Inv X pins σ H s) : s.heap.FunFrames X.base X.stack := by
 rcases I.ok.stk with e | ⟨e,hf⟩
 ·rw [e]; exact I.funs
 ·rw [e]
  obtain ⟨m,hn,_⟩ := I.loc
  refine .cons (by rw [I.ok.kind]; decide) hf hn ?_ I.funs
  exact Heap.get?_none_of_le (Nat.le_trans I.ok.bsz I.ok.above)
theorem Inv.stkSub (I : Inv X pins σ H s) : ∀ b ∈ W8 X.stack,b ∈ X.env.locals :: X.fs := fun b hb=>by
 rcases I.ok.stk with e | ⟨e,hf⟩
 ·rw [e] at hb; exact List.mem_cons_of_mem _ hb
 ·rw [e] at hb
  unfold W8 at hb
  rw [List.filterMap_cons,hf] at hb
  exact hb
theorem Inv.stkFree (I : Inv X pins σ H s) : ∀ b ∈ W8 X.stack,H b = none := fun b hb=>by
 rcases List.mem_cons.mp (I.stkSub b hb) with e | hb
 ·rw [e]; exact I.free
 ·obtain ⟨_,o,ho,_⟩ := I.ok.funs.mem hb
  exact I.base.free b o ho (I.ok.frf b hb) fun z=>I.ok.exfs b z hb
theorem Inv.step {g' : Array GenState} {t' : Nat} {d' : Drawn} {ch : List Addr} (I : Inv X pins σ H s)
  (hch : ∀ b ∈ ch,(b ∈ X.ex ∨ X.s₀.heap.objs.size ≤ b) ∧ b ≠ X.env.locals ∧ (∀ x c,X.env.cells.lookup x = some c → c ≠ b) ∧ ∀ p ∈ X.pn ++ pins,p.1 ≠ b)
  (keep : ∀ b o,b ≠ X.env.locals → b ∉ X.fs → b ∉ ch → s.heap.get? b = some o → H b = none → h'.get? b = some o)
  (slot : ∀ b o,b ≠ X.env.locals → b ∈ X.fs → b ∉ ch → s.heap.get? b = some o → H b = none → ∃ sl,h'.get? b = some { o with slots := sl }) (free : ∀ b o,b ∉ ch → s.heap.get? b = some o → H b = none → H' b = none)
  (there : ∀ b o,b ∉ ch → s.heap.get? b = some o → ∃ o',h'.get? b = some o')
  (tups : ∀ b xs,H b = some (.tup xs) → H' b = some (.tup xs)) (frzs : ∀ b o u,H b = some (.frz o u) → H' b = some (.frz o u)) (tbls : ∀ b ps,H b = some (.tbl ps) → ∃ more,H' b = some (.tbl (ps ++ more)))
  (ns : ∀ m,s.heap.Ns X.env.locals m → h'.Ns X.env.locals m) (hok : HOk X.prog X.w H' h') (hg : AllBare g') :
  Inv X pins σ H' { s with heap := h',gens := g',drawn := d',toks := t' } := by
 have neL : ∀ b o,X.s₀.heap.get? b = some o → b ≠ X.env.locals := fun b o e=>Nat.ne_of_lt (Nat.lt_of_lt_of_le (Heap.lt_size e) I.ok.above)
 have neC : ∀ b o,X.s₀.heap.get? b = some o → b ∉ X.ex → b ∉ ch := fun b o e hx hb=>by
  rcases (hch b hb).1 with z | z
  ·exact hx z
  ·exact absurd (Nat.lt_of_lt_of_le (Heap.lt_size e) z) (Nat.lt_irrefl _)
 have cellK : ∀ x c,X.env.cells.lookup x = some c → ∀ v,s.heap.IsCell c v → h'.IsCell c v := fun x c e v ⟨o,ho,hd⟩=>by
  have nch : c ∉ ch := fun z=>(hch c z).2.2.1 x c e rfl
  by_cases hc : c ∈ X.fs
  ·obtain ⟨sl,q⟩ := slot c o (I.cne x c e) hc nch ho (I.freeC x c e)
   exact ⟨_,q,hd⟩
  ·exact ⟨o,keep c o (I.cne x c e) hc nch ho (I.freeC x c e),hd⟩
 refine ⟨I.ok,I.os,hg,⟨fun b o e n hb hx=>?_,fun b o e n hb hx=>?_,fun b o e n hx=>?_,fun b o e hx=>?_,fun b xs e=>tups b xs (I.base.tups b xs e),fun b o xs e=>frzs b o xs (I.base.frzs b o xs e),fun b ps e=>?_⟩,?_,fun x c e=>?_,?_,fun x c e=>?_,fun p hp=>?_,hok,I.len⟩
 ·exact keep b o (neL b o e) hb (neC b o e hx) (I.base.keep b o e n hb hx) (I.base.free b o e n hx)
 ·obtain ⟨sl,e1⟩ := I.base.slot b o e n hb hx
  obtain ⟨sl',e2⟩ := slot b _ (neL b o e) hb (neC b o e hx) e1 (I.base.free b o e n hx)
  exact ⟨sl',e2⟩
 ·obtain ⟨o',e1⟩ := I.base.there b o e hx
  exact free b o' (neC b o e hx) e1 (I.base.free b o e n hx)
 ·obtain ⟨o',e1⟩ := I.base.there b o e hx
  exact there b o' (neC b o e hx) e1
 ·obtain ⟨m1,e1⟩ := I.base.tbls b ps e
  obtain ⟨m2,e2⟩ := tbls b _ e1
  exact ⟨m1 ++ m2,by rw [e2,Array.append_assoc]⟩
 ·obtain ⟨m,hn,hl⟩ := I.loc
  refine ⟨m,ns m hn,fun i x v e1 e2 e3=>?_⟩
  obtain ⟨u,r,l⟩ := hl i x v e1 e2 e3
  refine ⟨u,r,?_⟩
  rcases l with l | ⟨k,c,e,z⟩
  ·exact .inl l
  ·exact .inr ⟨k,c,e,cellK x c e _ z⟩
 ·obtain ⟨v,z⟩ := I.cell x c e
  exact ⟨v,cellK x c e v z⟩
 ·obtain ⟨m,⟨o,_,_,ho,_⟩,_⟩ := I.loc
  exact free _ o (fun z=>(hch _ z).2.1 rfl) ho I.free
 ·obtain ⟨v,o,ho,hd⟩ := I.cell x c e
  exact free c o (fun z=>(hch c z).2.2.1 x c e rfl) ho (I.freeC x c e)
 ·obtain ⟨e,n,ne,nf,d⟩ := I.pin p hp
  have nch : p.1 ∉ ch := fun z=>(hch p.1 z).2.2.2 p hp rfl
  exact ⟨keep p.1 p.2 ne nf nch e n,free p.1 p.2 nch e n,ne,nf,d⟩
theorem Inv.un {t' : Nat} (I : Inv X pins σ H s) (u : Un X.fs [] H H' s.heap h') (hok : HOk X.prog X.w H' h') : Inv X pins σ H' { s with heap := h',toks := t' } := by
 obtain ⟨m,⟨o,es,ep,ho,r⟩,_⟩ := id I.loc
 obtain ⟨sl,hL⟩ := u.any ho I.free (by simp)
 exact I.step (g' := s.gens) (d' := s.drawn) (ch := []) (fun _ z=>nomatch z) (fun b o _ hb _ e n=>u.keep b o e n hb (by simp)) (fun b o _ hb _ e n=>u.slot b o e n hb (by simp)) (fun b o _ e n=>u.free b o e n (by simp)) (fun b o _ e=>u.there b o e (by simp)) u.tups u.frzs u.tbls (fun m' hm=>by
  obtain ⟨o',es',ep',ho',r'⟩ := hm
  rw [ho] at ho'; cases ho'
  exact ⟨_,es',ep',hL,r'⟩) hok I.bare
theorem Inv.call {g' : Array GenState} {t' : Nat} {d' : Drawn} {ch : List Addr} (I : Inv X pins σ H s) (u : Un (W8 X.stack) ch H H' s.heap h') (hok : HOk X.prog X.w H' h') (hg : AllBare g')
  (hch : ∀ b ∈ ch,(b ∈ X.ex ∨ X.s₀.heap.objs.size ≤ b) ∧ b ≠ X.env.locals ∧ (∀ x c,X.env.cells.lookup x = some c → c ≠ b) ∧ ∀ p ∈ X.pn ++ pins,p.1 ≠ b) :
  Inv X pins σ H' { s with heap := h',gens := g',drawn := d',toks := t' } := by
 obtain ⟨m,⟨o,es,ep,ho,r⟩,_⟩ := id I.loc
 obtain ⟨sl,hL⟩ := u.any ho I.free fun z=>(hch _ z).2.1 rfl
 exact I.step (ch := ch) hch (fun b o hL hb hc e n=>u.keep b o e n (fun z=>(List.mem_cons.mp (I.stkSub b z)).elim hL hb) hc) (fun b o _ _ hc e n=>u.any e n hc) (fun b o hc e n=>u.free b o e n hc) (fun b o hc e=>u.there b o e hc) u.tups u.frzs u.tbls (fun m' hm=>by
  obtain ⟨o',es',ep',ho',r'⟩ := hm
  rw [ho] at ho'; cases ho'
  exact ⟨_,es',ep',hL,r'⟩) hok hg
theorem Inv.turned {t' : Nat} {it : Addr} (I : Inv X pins σ H s) (k : ∀ b o,b ≠ it → s.heap.get? b = some o → h'.get? b = some o) (hn : H it = none) (hL : it ≠ X.env.locals)
  (h1 : it ∈ X.ex ∨ X.s₀.heap.objs.size ≤ it) (h2 : ∀ x c,X.env.cells.lookup x = some c → c ≠ it) (h3 : ∀ p ∈ X.pn ++ pins,p.1 ≠ it) : Inv X pins σ H { s with heap := h',toks := t' } := by
 have nit : ∀ b u,H b = some u → b ≠ it := fun b u e z=>by rw [z,hn] at e; cases e
 refine I.step (g' := s.gens) (d' := s.drawn) (ch := [it]) (fun b hb=>?_) (fun b o _ _ hc e _=>k b o (fun z=>hc (by simp [z])) e) (fun b o _ _ hc e _=>⟨o.slots,k b o (fun z=>hc (by simp [z])) e⟩) (fun _ _ _ _ n=>n)
  (fun b o hc e=>⟨o,k b o (fun z=>hc (by simp [z])) e⟩) (fun _ _ e=>e) (fun _ _ _ e=>e) (fun b ps e=>⟨#[],by rw [e]; simp⟩) (fun m hm=>?_) (fun b u e=>?_) I.bare
 ·have e : b = it := by simpa using hb
  subst e
  exact ⟨h1,hL,h2,h3⟩
 ·obtain ⟨o,es,ep,ho,r⟩ := hm
  exact ⟨o,es,ep,k _ o (Ne.symm hL) ho,r⟩
 ·refine (I.hok b u e).stay (fun c v hc q=>k c v ?_ q) (fun _ q=>q) fun _ _ q=>q
  rcases hc with z | z
  ·rw [z]; exact nit b u e
  ·exact nit c _ z
theorem Inv.tok (I : Inv X pins σ H s) (t : Nat) : Inv X pins σ H { s with toks := t } := I.un (h' := s.heap) (t' := t) Un.refl I.hok
theorem Inv.kept {t' : Nat} (I : Inv X pins σ H s) (k : ∀ b u,s.heap.get? b = some u → h'.get? b = some u) : Inv X pins σ H { s with heap := h',toks := t' } := I.un (Un.kept k) (I.hok.kept k)
theorem Inv.laid {a : Addr} {o : HO} {t' : Nat} (I : Inv X pins σ H s) (k : ∀ b u,s.heap.get? b = some u → h'.get? b = some u) (hp : s.heap.objs.size ≤ a) (new : ObjOk X.prog X.w (E7 H a o) h' a o) :
  Inv X pins σ (E7 H a o) { s with heap := h',toks := t' } := I.un (Un.laid k hp (I.hok.fresh hp)) (I.hok.laid k hp new)
theorem Inv.write {x e : Addr} {o : HO} {t' : Nat} (I : Inv X pins σ H s) (mu : Mut (H x)) (he : e = x ∨ H e = some (.own x)) (k : ∀ b u,b ≠ e → s.heap.get? b = some u → h'.get? b = some u) (heo : ∃ u,h'.get? e = some u)
  (new : ObjOk X.prog X.w (E7 H x o) h' x o) : Inv X pins σ (E7 H x o) { s with heap := h',toks := t' } := I.un (Un.write mu he k heo) (I.hok.write mu he k heo new)
theorem Inv.weak {σ' : List (Option V)} (I : Inv X pins σ H s) (hl : σ'.length = σ.length) (w : ∀ (i : Nat) v,σ'[i]? = some (some v) → σ[i]? = some (some v)) : Inv X pins σ' H s :=
 ⟨I.ok,I.os,I.bare,I.base,let ⟨m,hn,hl'⟩ := I.loc; ⟨m,hn,fun i x v e1 e2 e3=>hl' i x v e1 (w i v e2) e3⟩,I.cell,I.free,I.freeC,I.pin,I.hok,hl.trans I.len⟩
theorem Inv.pins_of {pins' : List (Addr × Obj)} (I : Inv X pins σ H s) (h : ∀ p ∈ pins',s.heap.get? p.1 = some p.2 ∧ H p.1 = none ∧ p.1 ≠ X.env.locals ∧ p.1 ∉ X.fs ∧ ∀ v,p.2.data ≠ .cell v) : Inv X pins' σ H s :=
 ⟨I.ok,I.os,I.bare,I.base,I.loc,I.cell,I.free,I.freeC,fun p hp=>(List.mem_append.mp hp).elim (fun z=>I.pin p (List.mem_append_left _ z)) (h p),I.hok,I.len⟩
theorem lG {N : List Str} (hN : N.Nodup) {i j : Nat} {x : Str} (a : N[i]? = some x) (b : N[j]? = some x) : i = j := by
 obtain ⟨h1,e1⟩ := List.getElem?_eq_some_iff.mp a
 obtain ⟨h2,e2⟩ := List.getElem?_eq_some_iff.mp b
 exact (List.getElem_inj hN).mp (e1.trans e2.symm)
theorem pS {M : Model} {A : Around} {E : Value → Shared → Prop} {i : Nat} {x : Str} {v : V} {u : Value} {Q : Unit → Shared → Prop} (I : Inv X pins σ H s) (hN : X.N.Nodup) (hi : X.N[i]? = some x) (hx : Loc X.env.scope x) (r : RelV v u)
  (h : ∀ s',Inv X pins (σ.set i (some v)) H s' → (∃ a,Heap.SameBut a s.heap s'.heap ∧ (a = X.env.locals ∨ X.env.cells.lookup x = some a)) → Q () s') (hf : X.fn x = true ∨ X.env.scope.names.lookup x = some .local := by first | exact .inl rfl | exact .inr rfl | assumption) : wpAny M A (storeName X.env x u) Q E s := by
 obtain ⟨m,hn,hl⟩ := id I.loc
 have hcls : (X.env.scope.kind == .class || (X.env.scope.kind == .module && X.env.locals != X.env.globals)) = false := by rw [I.ok.kind]; rfl
 have hiσ : i < σ.length := by rw [I.len]; exact (List.getElem?_eq_some_iff.mp hi).1
 have cne := I.cne
 have tracked : ∀ {a : Addr} {h' : Heap},(∃ o,s.heap.get? a = some o ∧ H a = none) → Heap.SameBut a s.heap h' → HOk X.prog X.w H h' := fun {a h'} ha hs b ob e=>by
  obtain ⟨_,_,hfree⟩ := ha
  refine (I.hok b ob e).stay (fun c w' hc q=>(hs.2 c ?_).trans q) (fun _ q=>q) fun _ _ q=>q
  rintro rfl
  rcases hc with rfl | hc
  ·rw [hfree] at e; cases e
  ·rw [hfree] at hc; cases hc
 rcases hx with hk | hk
 ·refine wpAny_storeName_local hk hn (fun h' hn' hs=>?_) hcls
  obtain ⟨oL,_,_,hoL,_⟩ := id hn
  refine h _ ⟨I.ok,I.os,I.bare,⟨fun b o e n hb hx=>?_,fun b o e n hb hx=>?_,I.base.free,fun b o e hx=>?_,I.base.tups,I.base.frzs,I.base.tbls⟩,⟨_,hn',fun j y v' e1 e2 e3=>?_⟩,fun y c e=>?_,I.free,I.freeC,fun p hp=>?_,tracked ⟨oL,hoL,I.free⟩ hs,by simpa using I.len⟩ ⟨_,hs,.inl rfl⟩
  ·exact (hs.2 b (Nat.ne_of_lt (Nat.lt_of_lt_of_le (Heap.lt_size e) I.ok.above))).trans (I.base.keep b o e n hb hx)
  ·obtain ⟨sl,e1⟩ := I.base.slot b o e n hb hx
   exact ⟨sl,(hs.2 b (Nat.ne_of_lt (Nat.lt_of_lt_of_le (Heap.lt_size e) I.ok.above))).trans e1⟩
  ·obtain ⟨o',e1⟩ := I.base.there b o e hx
   exact ⟨o',(hs.2 b (Nat.ne_of_lt (Nat.lt_of_lt_of_le (Heap.lt_size e) I.ok.above))).trans e1⟩
  ·by_cases hj : j = i
   ·subst hj
    rw [hi] at e1; cases e1
    rw [List.getElem?_set_self hiσ] at e2
    cases e2
    exact ⟨u,r,.inl ⟨hk,by simp⟩⟩
   ·rw [List.getElem?_set_ne (Ne.symm hj)] at e2
    obtain ⟨u',r',q⟩ := hl j y v' e1 e2 e3
    refine ⟨u',r',?_⟩
    rcases q with ⟨k,e⟩ | ⟨k,c,e,z⟩
    ·refine .inl ⟨k,?_⟩
     have : y ≠ x := fun e=>hj (lG hN e1 (e ▸ hi))
     simp [this,e]
    ·exact .inr ⟨k,c,e,z.sameBut hs (cne y c e)⟩
  ·obtain ⟨w',z⟩ := I.cell y c e
   exact ⟨w',z.sameBut hs (cne y c e)⟩
  ·obtain ⟨e,n,ne,nf,d⟩ := I.pin p hp
   exact ⟨(hs.2 p.1 ne).trans e,n,ne,nf,d⟩
 ·have hfn : X.fn x = true := by
   rcases hf with z | z
   ·exact z
   ·rw [z] at hk; cases hk
  obtain ⟨c,hc⟩ := I.ok.has x (.inl hk)
  obtain ⟨w',z⟩ := I.cell x c hc
  refine wpAny_storeName_cell I.ok.kind hk hc z (fun h' hc' hs=>?_)
  obtain ⟨oc,hoc,hocd⟩ := id z
  refine h { s with heap := h' } ⟨I.ok,I.os,I.bare,⟨fun b o e n hb hx=>?_,fun b o e n hb hx=>?_,I.base.free,fun b o e hx=>?_,I.base.tups,I.base.frzs,I.base.tbls⟩,⟨m,hn.sameBut hs (Ne.symm (cne x c hc)),fun j y v' e1 e2 e3=>?_⟩,fun y c' e=>?_,I.free,I.freeC,fun p hp=>?_,tracked ⟨oc,hoc,I.freeC x c hc⟩ hs,by simpa using I.len⟩ ⟨c,hs,.inr hc⟩
  ·exact (hs.2 b (Nat.ne_of_lt (Nat.lt_of_lt_of_le (Heap.lt_size e) (I.ok.cab x c hfn hc)))).trans (I.base.keep b o e n hb hx)
  ·obtain ⟨sl,e1⟩ := I.base.slot b o e n hb hx
   exact ⟨sl,(hs.2 b (Nat.ne_of_lt (Nat.lt_of_lt_of_le (Heap.lt_size e) (I.ok.cab x c hfn hc)))).trans e1⟩
  ·obtain ⟨o',e1⟩ := I.base.there b o e hx
   exact ⟨o',(hs.2 b (Nat.ne_of_lt (Nat.lt_of_lt_of_le (Heap.lt_size e) (I.ok.cab x c hfn hc)))).trans e1⟩
  ·by_cases hj : j = i
   ·subst hj
    rw [hi] at e1; cases e1
    rw [List.getElem?_set_self hiσ] at e2
    cases e2
    exact ⟨u,r,.inr ⟨.inl hk,c,hc,hc'⟩⟩
   ·rw [List.getElem?_set_ne (Ne.symm hj)] at e2
    obtain ⟨u',r',q⟩ := hl j y v' e1 e2 e3
    refine ⟨u',r',?_⟩
    rcases q with q | ⟨k,c',e,z'⟩
    ·exact .inl q
    ·refine .inr ⟨k,c',e,z'.sameBut hs ?_⟩
     rintro rfl
     exact hj (lG hN e1 (I.ok.inj _ _ _ e hc ▸ hi))
  ·by_cases hcc : c' = c
   ·subst hcc; exact ⟨_,hc'⟩
   ·obtain ⟨w2,z2⟩ := I.cell y c' e
    exact ⟨w2,z2.sameBut hs hcc⟩
  ·obtain ⟨e,n,ne,nf,d⟩ := I.pin p hp
   refine ⟨(hs.2 p.1 ?_).trans e,n,ne,nf,d⟩
   intro q
   rw [q,hoc] at e
   have q' : oc = p.2 := Option.some.inj e
   exact d w' (by rw [← q']; exact hocd)
theorem gH {M : Model} {A : Around} {E : Value → Shared → Prop} {i : Nat} {x : Str} {v : V} {u : Value} {Q : Unit → Shared → Prop} (I : Inv X pins σ H s) (hN : X.N.Nodup) (hi : X.N[i]? = some x) (hx : Loc X.env.scope x) (r : RelV v u)
  (h : ∀ s',Inv X pins (σ.set i (some v)) H s' → Q () s') (hf : X.fn x = true ∨ X.env.scope.names.lookup x = some .local := by first | exact .inl rfl | exact .inr rfl | assumption) : wpAny M A (storeName X.env x u) Q E s :=
 pS I hN hi hx r (fun s' I' _=>h s' I') hf
theorem Inv.call' {s' : Shared} {ch : List Addr} (I : Inv X pins σ H s) (ho : s'.os = s.os) (u : Un (W8 X.stack) ch H H' s.heap s'.heap) (hok : HOk X.prog X.w H' s'.heap) (hg : AllBare s'.gens)
  (hch : ∀ b ∈ ch,(b ∈ X.ex ∨ X.s₀.heap.objs.size ≤ b) ∧ b ≠ X.env.locals ∧ (∀ x c,X.env.cells.lookup x = some c → c ≠ b) ∧ ∀ p ∈ X.pn ++ pins,p.1 ≠ b) : Inv X pins σ H' s' := by
 obtain ⟨h',g',d',t',o'⟩ := s'
 have e : o' = s.os := ho
 subst e
 exact I.call (g' := g') (t' := t') (d' := d') u hok hg hch
end
abbrev XK := Value → Option Addr → Hp → Prop
abbrev St := List (Option V)
abbrev VK := V → Hp → Prop
abbrev TE := St → Hp → VK → Prop
abbrev TT := St → Hp → (Bool → Hp → Prop) → Prop
abbrev TA := St → Hp → (List V → Hp → Prop) → Prop
structure iB where
 nx : St → Hp → Prop
 rt : VK
 bk : St → Hp → Prop := fun _ _=>False
 ct : St → Hp → Prop := fun _ _=>False
abbrev TS := iB → St → Hp → Prop
def EP (X : Cx) (pins : List (Addr × Obj)) (σ : St) (Q : VK) (u : Value) (s' : Shared) : Prop := ∃ v H',Inv X pins σ H' s' ∧ RelV v u ∧ Q v H'
def TP (X : Cx) (pins : List (Addr × Obj)) (σ : St) (Q : Bool → Hp → Prop) (b : Bool) (s' : Shared) : Prop := ∃ H',Inv X pins σ H' s' ∧ Q b H'
def AP (X : Cx) (pins : List (Addr × Obj)) (σ : St) (Q : List V → Hp → Prop) (us : List Value) (s' : Shared) : Prop := ∃ vs H',Inv X pins σ H' s' ∧ Vals vs us ∧ Q vs H'
def SP (X : Cx) (pins : List (Addr × Obj)) (D : iB) (f : Flow) (s' : Shared) : Prop :=
 match f with
 | .next=>∃ σ' H',Inv X pins σ' H' s' ∧ D.nx σ' H'
 | .brk=>∃ σ' H',Inv X pins σ' H' s' ∧ D.bk σ' H'
 | .cont=>∃ σ' H',Inv X pins σ' H' s' ∧ D.ct σ' H'
 | .ret u=>∃ v σ' H',Inv X pins σ' H' s' ∧ RelV v u ∧ D.rt v H'
def PE (X : Cx) (e : Expr) (t : TE) : Prop :=
 ∀ (pins : List (Addr × Obj)) (s : Shared) (σ : St) (H : Hp) (Q : VK),Inv X pins σ H s → t σ H Q → wpAny (model X.prog X.w) X.A (eval e X.env) (EP X pins σ Q) X.xe s
def PT (X : Cx) (e : Expr) (t : TT) : Prop :=
 ∀ (pins : List (Addr × Obj)) (s : Shared) (σ : St) (H : Hp) (Q : Bool → Hp → Prop),Inv X pins σ H s → t σ H Q → wpAny (model X.prog X.w) X.A (isTrue e X.env (eval e X.env)) (TP X pins σ Q) X.xe s
def PW (X : Cx) (e : Expr) (t : TT) : Prop :=
 ∀ (whole : Sem Value) (pins : List (Addr × Obj)) (s : Shared) (σ : St) (H : Hp) (Q : Bool → Hp → Prop),Inv X pins σ H s → t σ H Q → wpAny (model X.prog X.w) X.A (isTrue e X.env whole) (TP X pins σ Q) X.xe s
theorem PW.pt {X : Cx} {e : Expr} {t : TT} (h : PW X e t) : PT X e t := h _
def PA (X : Cx) (es : List Expr) (t : TA) : Prop :=
 ∀ (pos : Pos) (pins : List (Addr × Obj)) (s : Shared) (σ : St) (H : Hp) (Q : List V → Hp → Prop),Inv X pins σ H s → t σ H Q → wpAny (model X.prog X.w) X.A (spliced (backTo pos (starEach es X.env))) (AP X pins σ Q) X.xe s
def PS (X : Cx) (st : Stmt) (t : TS) : Prop :=
 ∀ (pins : List (Addr × Obj)) (s : Shared) (σ : St) (H : Hp) (D : iB),Inv X pins σ H s → t D σ H → wpAny (model X.prog X.w) X.A (exec st X.env) (SP X pins D) X.xe s
def PSs (X : Cx) (st : List Stmt) (t : TS) : Prop :=
 ∀ (pins : List (Addr × Obj)) (s : Shared) (σ : St) (H : Hp) (D : iB),Inv X pins σ H s → t D σ H → wpAny (model X.prog X.w) X.A (execs st X.env) (SP X pins D) X.xe s
theorem G1 {α : Type} {t : Sem α} {Q Q' : α → Shared → Prop} {M : Model} {A : Around} {E : Value → Shared → Prop} {s : Shared} (h : wpAny M A t Q E s) (hQ : ∀ a s,Q a s → Q' a s) : wpAny M A t Q' E s := wpAny_mono h hQ fun _ _ x=>x
end L2
namespace L2
open PySem PySem.Spec PyProof.Rows
section
variable {X : Cx}
def gE (i : Nat) : TE := fun σ H Q=>∃ v,σ[i]? = some (some v) ∧ Q v H
def tC (v : V) : TE := fun _ H Q=>Q v H
theorem AX2 {i : Nat} {x : Str} {pos : Pos} (hN : X.N[i]? = some x) (hv : uD X.env.scope x) (hd : (x == ("__debug__" : Str)) = false := by decide) (hcd : (x == ("__classdict__" : Str)) = false := by decide) : PE X (.Name x pos) (gE i) := by
 intro pins s σ H Q I h
 obtain ⟨v,e,h⟩ := h
 obtain ⟨m,hn,hl⟩ := I.loc
 obtain ⟨u,r,l⟩ := hl i x v hN e hv
 have fin : EP X pins σ Q u s := ⟨v,H,I,r,h⟩
 rcases l with ⟨hk,hm⟩ | ⟨hk,c,hc,hcell⟩
 ·exact wpAny_Name (wpAny_loadName_local I.ok.kind hk hn hm fin) hd
 ·rcases hk with hk | hk
  ·exact wpAny_Name (wpAny_loadName_cell I.ok.kind hk hc hcell fin) hd
  ·exact wpAny_Name (wpAny_loadName_free I.ok.kind hk hc hcell fin hcd) hd
theorem B2 {i j pos} : PE X (.Constant (.int i) j pos) (tC (.int i)) := fun _ _ _ H _ I h=>wpAny_Constant_int ⟨.int i,H,I.tok _,⟨_,rfl⟩,h⟩
theorem N7 {b j pos} : PE X (.Constant (.bool b) j pos) (tC (.bl b)) := fun _ _ _ H _ I h=>Constant_bool ⟨.bl b,H,I,rfl,h⟩
theorem aR {j pos} : PE X (.Constant .none j pos) (tC .non) := fun _ _ _ H _ I h=>Constant_none ⟨.non,H,I,rfl,h⟩
theorem B3 {x j pos} : PE X (.Constant (.str x) j pos) (tC (.str x)) := fun _ _ _ H _ I h=>Calls.Constant_str ⟨.str x,H,I.tok _,⟨_,rfl⟩,h⟩
def Gl (X : Cx) (x : Str) : Prop := X.env.kindOf x = some .globalImplicit
theorem bX {E : Value → Shared → Prop} {pins : List (Addr × Obj)} {s : Shared} {σ : St} {H : Hp} {x : Str} {u : Value} {pos : Pos} {Q : Value → Shared → Prop} (I : Inv X pins σ H s) (hg : Gl X x) (hm : X.mg x = some u) (h : Q u s)
  (hd : (x == ("__debug__" : Str)) = false := by decide) : wpAny (model X.prog X.w) X.A (eval (.Name x pos) X.env) Q E s :=
 Calls.Name_function_global I.ok.kind hg (Calls.loadGlobal_global (by rw [I.ok.glob]; exact I.mod.glob.keeps I.bk) hm h) hd
theorem jA {E : Value → Shared → Prop} {pins : List (Addr × Obj)} {s : Shared} {σ : St} {H : Hp} {x : Str} {u : Value} {pos : Pos} {Q : Value → Shared → Prop} (I : Inv X pins σ H s) (hg : Gl X x) (hm : X.mg x = none) (hv : bootBuiltins x = some u) (h : Q u s)
  (hn : x ≠ "__name__" := by decide) (hd : (x == ("__debug__" : Str)) = false := by decide) : wpAny (model X.prog X.w) X.A (eval (.Name x pos) X.env) Q E s := by
 obtain ⟨mb,h1,h2⟩ := I.mod.blt
 exact Calls.Name_function_global I.ok.kind hg (Calls.loadGlobal_builtin (by rw [I.ok.glob]; exact I.mod.glob.keeps I.bk) hm (by rw [I.ok.blt]; exact h1.keeps I.bk) ((h2 x hn).trans hv) h) hd
theorem U7 {x : Str} {v : V} {u : Value} {pos : Pos} (hg : Gl X x) (hm : X.mg x = some u) (r : RelV v u) (hd : (x == ("__debug__" : Str)) = false := by decide) : PE X (.Name x pos) (tC v) :=
 fun _ _ _ H _ I h=>bX I hg hm ⟨v,H,I,r,h⟩ hd
theorem oY {x : Str} {v : V} {u : Value} {pos : Pos} (hg : Gl X x) (hm : X.mg x = none) (hv : bootBuiltins x = some u) (r : RelV v u) (hn : x ≠ "__name__" := by decide) (hd : (x == ("__debug__" : Str)) = false := by decide) : PE X (.Name x pos) (tC v) :=
 fun _ _ _ H _ I h=>jA I hg hm hv ⟨v,H,I,r,h⟩ hn hd
variable {a b : Expr} {ta tb : TE} {pos : Pos}
def PC (X : Cx) (op : CmpOp) (a b : Expr) (t : TE) : Prop :=
 ∀ (pins : List (Addr × Obj)) (s : Shared) (σ : St) (H : Hp) (Q : VK),Inv X pins σ H s → t σ H Q →
  wpAny (model X.prog X.w) X.A (eval a X.env) (fun v s₁=>wpAny (model X.prog X.w) X.A (eval b X.env) (fun u s₂=>wpAny (model X.prog X.w) X.A (compareOp op v u) (EP X pins σ Q) X.xe s₂) X.xe s₁) X.xe s
def tB (t : TE) : TT := fun σ H Q=>t σ H fun x H1=>∃ c,x = .bl c ∧ Q c H1
theorem AW6 {op : CmpOp} {t : TE} (h : PC X op a b t) (h1 : behindInMarks op b = false := by first | exact nobehind _ (by decide) (by decide) | rfl) : PT X (.Compare a [op] [b] pos) (tB t) := by
 intro pins s σ H Q I hw
 refine wpAny_isTrue_Compare1 (G1 (h pins s σ H _ I hw) fun v s1 h1=>G1 h1 fun u s2 h2=>G1 h2 fun c s3 ⟨x,H1,I1,r1,q1⟩=>?_) h1
 obtain ⟨d,rfl,q⟩ := q1
 cases r1
 exact wpAny_truthy_bool ⟨H1,I1,q⟩
theorem N6 {e : Expr} {t : TE} (h : PE X e t) (he : ∀ whole,isTrue e X.env whole = (do let v ← whole; standAt e.pos; holding [v] (truthy v)) := by intro _; rfl) : PT X e (tB t) := by
 intro pins s σ H Q I hw
 refine isTrue_plain (G1 (h pins s σ H _ I hw) fun v s1 ⟨x,H1,I1,r1,q1⟩=>?_) (he _)
 obtain ⟨d,rfl,q⟩ := q1
 cases r1
 exact wpAny_truthy_bool ⟨H1,I1,q⟩
variable {tA tB' : TT} {rest : List Expr}
def BJ9 (t u : TT) : TT := fun σ H Q=>t σ H fun c H1=>if c = true then u σ H1 Q else Q false H1
def tOr (t u : TT) : TT := fun σ H Q=>t σ H fun c H1=>if c = true then Q true H1 else u σ H1 Q
def BJ2 (t : TT) : TT := fun σ H Q=>t σ H fun c H1=>Q (!c) H1
theorem aE (ha : PT X a tA) : PW X (.BoolOp .And [a] pos) tA := by
 intro wh pins s σ H Q I h
 refine isTrue_and (G1 (ha pins s σ H Q I h) fun c s1 e=>?_)
 cases c with
 | true=>exact isTrue_and_nil e
 | false=>exact e
theorem fI (ha : PT X a tA) : PW X (.BoolOp .Or [a] pos) tA := by
 intro wh pins s σ H Q I h
 refine isTrue_or (G1 (ha pins s σ H Q I h) fun c s1 e=>?_)
 cases c with
 | false=>exact isTrue_or_nil e
 | true=>exact e
theorem Z1 (ha : PT X a tA) (hb : PW X (.BoolOp .And (b :: rest) pos) tB') : PW X (.BoolOp .And (a :: b :: rest) pos) (BJ9 tA tB') := by
 intro wh pins s σ H Q I h
 refine isTrue_and (G1 (ha pins s σ H _ I h) fun c s1 ⟨H1,I1,q1⟩=>?_)
 cases c with
 | true=>exact hb wh pins s1 σ H1 Q I1 q1
 | false=>exact ⟨H1,I1,q1⟩
theorem gJ (ha : PT X a tA) (hb : PW X (.BoolOp .Or (b :: rest) pos) tB') : PW X (.BoolOp .Or (a :: b :: rest) pos) (tOr tA tB') := by
 intro wh pins s σ H Q I h
 refine isTrue_or (G1 (ha pins s σ H _ I h) fun c s1 ⟨H1,I1,q1⟩=>?_)
 cases c with
 | true=>exact ⟨H1,I1,q1⟩
 | false=>exact hb wh pins s1 σ H1 Q I1 q1
theorem fJ (ha : PT X a tA) : PT X (.UnaryOp .Not a pos) (BJ2 tA) := by
 intro pins s σ H Q I h
 exact isTrue_not (ha pins s σ H (fun c H1=>Q (!c) H1) I h)
def AK5 (ta tb : TE) : TE := fun σ H Q=>ta σ H fun x H1=>∃ c,x = .bl c ∧ if c = true then tb σ H1 Q else Q (.bl false) H1
def BJ1 (ta tb : TE) : TE := fun σ H Q=>ta σ H fun x H1=>∃ c,x = .bl c ∧ if c = true then Q (.bl true) H1 else tb σ H1 Q
def BE4 (ta : TE) : TE := fun σ H Q=>ta σ H fun x H1=>∃ c,x = .bl c ∧ Q (.bl (!c)) H1
theorem fO {op} {t : TE} (h : PE X a t) : PE X (.BoolOp op [a] pos) t := fun pins s σ H Q I hw=>BoolOp_one (h pins s σ H Q I hw)
theorem fP (ha : PE X a ta) (hb : PE X (.BoolOp .And (b :: rest) pos) tb) : PE X (.BoolOp .And (a :: b :: rest) pos) (AK5 ta tb) := by
 intro pins s σ H Q I h
 refine BoolOp_and (G1 (ha pins s σ H _ I h) fun v s1 ⟨x,H1,I1,r1,q1⟩=>?_)
 obtain ⟨c,rfl,q1⟩ := q1
 cases r1
 refine wpAny_truthy_bool ?_
 cases c with
 | true=>exact hb pins s1 σ H1 Q I1 q1
 | false=>exact ⟨.bl false,H1,I1,rfl,q1⟩
theorem BF2 (ha : PE X a ta) (hb : PE X (.BoolOp .Or (b :: rest) pos) tb) : PE X (.BoolOp .Or (a :: b :: rest) pos) (BJ1 ta tb) := by
 intro pins s σ H Q I h
 refine BoolOp_or (G1 (ha pins s σ H _ I h) fun v s1 ⟨x,H1,I1,r1,q1⟩=>?_)
 obtain ⟨c,rfl,q1⟩ := q1
 cases r1
 refine wpAny_truthy_bool ?_
 cases c with
 | false=>exact hb pins s1 σ H1 Q I1 q1
 | true=>exact ⟨.bl true,H1,I1,rfl,q1⟩
theorem sR (ha : PE X a ta) : PE X (.UnaryOp .Not a pos) (BE4 ta) := by
 intro pins s σ H Q I h
 refine UnaryOp_ (G1 (ha pins s σ H _ I h) fun v s1 ⟨x,H1,I1,r1,q1⟩=>?_)
 obtain ⟨c,rfl,q1⟩ := q1
 cases r1
 exact not_of (wpAny_truthy_bool ⟨.bl (!c),H1,I1,rfl,q1⟩)
def tIf (t : TT) (ta tb : TE) : TE := fun σ H Q=>t σ H fun c H1=>if c = true then ta σ H1 Q else tb σ H1 Q
theorem gK {c : Expr} (hc : PT X c tA) (ha : PE X a ta) (hb : PE X b tb) : PE X (.IfExp c a b pos) (tIf tA ta tb) := by
 intro pins s σ H Q I h
 refine wpAny_IfExp (G1 (hc pins s σ H _ I h) fun d s1 ⟨H1,I1,q1⟩=>?_)
 cases d with
 | true=>exact ha pins s1 σ H1 Q I1 q1
 | false=>exact hb pins s1 σ H1 Q I1 q1
end
end L2
namespace L2
open PySem PySem.Spec PyProof.Rows
def SqL (K : PySem.W.Frag) (H : Hp) (a : Addr) (xs : List V) : Prop :=
 Rd H a (.lst xs) ∨
  ∃ (o : Obj) (its : Array Value) (n : Nat),K.lookup a = some o ∧ o.cls = .type "list" ∧ o.dict = none ∧ o.data = .seq its n ∧ its.size ≤ sizeLine ∧ Vals xs its.toList
def SqT (K : PySem.W.Frag) (H : Hp) (a : Addr) (xs : List V) : Prop :=
 Rd H a (.tup xs) ∨
  ∃ (o : Obj) (its : Array Value) (n : Nat),K.lookup a = some o ∧ o.cls = .type "tuple" ∧ o.data = .seq its n ∧ its.size ≤ sizeLine ∧ Vals xs its.toList
def BM0 : Value → Option V
 | .none=>some .non
 | .bool b=>some (.bl b)
 | .int i _=>some (.int i)
 | .str x _=>some (.str x)
 | .bytes b _=>some (.byt b)
 | .float b _=>some (.flt b)
 | .ref a=>some (.ref a)
 | .type n=>some (.ty n)
 | _=>none
theorem RelV.abs {x : V} {u : Value} (r : RelV x u) : BM0 u = some x := by
 cases x with
 | non=>cases r; rfl
 | bl _=>cases r; rfl
 | int _=>obtain ⟨t,rfl⟩ := r; rfl
 | str _=>obtain ⟨t,rfl⟩ := r; rfl
 | byt _=>obtain ⟨t,rfl⟩ := r; rfl
 | flt _=>obtain ⟨t,rfl⟩ := r; rfl
 | ref _=>cases r; rfl
 | ty _=>cases r; rfl
theorem RelV.inj {x y : V} {u : Value} (r : RelV x u) (q : RelV y u) : x = y := Option.some.inj (r.abs.symm.trans q.abs)
theorem Vals.inj : ∀ {xs ys : List V} {us : List Value},Vals xs us → Vals ys us → xs = ys
 | _,_,_,.nil,.nil=>rfl
 | _,_,_,.cons r t,.cons r' t'=>by rw [r.inj r',Vals.inj t t']
section
variable {X : Cx} {pins : List (Addr × Obj)} {σ : St} {H : Hp} {s : Shared} {a : Addr} {xs ys : List V}
theorem SqL.of {K : PySem.W.Frag} (h : H a = some (.lst xs)) : SqL K H a xs := .inl (.inl h)
theorem SqT.of {K : PySem.W.Frag} (h : H a = some (.tup xs)) : SqT K H a xs := .inl (.inl h)
theorem Inv.list (I : Inv X pins σ H s) (h : SqL X.K H a xs) : ∃ its : List Value,Vals xs its ∧ PlainL s.heap a its.toArray ∧ xs.length ≤ sizeLine := by
 rcases h with h | ⟨o,its,n,hk,hc,hd,hs,hz,r⟩
 ·obtain ⟨z,its,n,r,e⟩ := h.ok I.hok
  exact ⟨its,r,⟨_,n,e,rfl,rfl,rfl⟩,z⟩
 ·refine ⟨its.toList,r,⟨o,n,I.kIn a o hk,hc,hd,by simpa using hs⟩,?_⟩
  have e := r.length
  simp only [Array.length_toList] at e
  omega
theorem Inv.tuple (I : Inv X pins σ H s) (h : SqT X.K H a xs) : ∃ its : List Value,Vals xs its ∧ IsTup s.heap a its.toArray ∧ xs.length ≤ sizeLine := by
 rcases h with h | ⟨o,its,n,hk,hc,hs,hz,r⟩
 ·obtain ⟨z,its,r,p⟩ := h.ok I.hok
  exact ⟨its,r,p,z⟩
 ·refine ⟨its.toList,r,⟨o,I.kIn a o hk,hc,n,by simpa using hs⟩,?_⟩
  have e := r.length
  simp only [Array.length_toList] at e
  omega
theorem Inv.list_inj (I : Inv X pins σ H s) (h : SqL X.K H a xs) (h' : SqL X.K H a ys) : xs = ys := by
 obtain ⟨its,r,⟨o,n,e,_,_,d⟩,_⟩ := I.list h
 obtain ⟨its',r',⟨o',n',e',_,_,d'⟩,_⟩ := I.list h'
 rw [e] at e'; cases e'
 rw [d] at d'
 injection d' with d1 _
 have : its = its' := by simpa using congrArg Array.toList d1
 subst this
 exact r.inj r'
theorem Inv.tuple_inj (I : Inv X pins σ H s) (h : SqT X.K H a xs) (h' : SqT X.K H a ys) : xs = ys := by
 obtain ⟨its,r,⟨o,e,_,n,d⟩,_⟩ := I.tuple h
 obtain ⟨its',r',⟨o',e',_,n',d'⟩,_⟩ := I.tuple h'
 rw [e] at e'; cases e'
 rw [d] at d'
 injection d' with d1 _
 have : its = its' := by simpa using congrArg Array.toList d1
 subst this
 exact r.inj r'
end
abbrev Cx.wish (X : Cx) (E : Value → Shared → Prop) : Cx := { X with xe := E }
abbrev Cx.nox (X : Cx) : Cx := X.wish fun _ _=>False
theorem Cx.Ok.wish {X : Cx} (ok : X.Ok) (E : Value → Shared → Prop) : (X.wish E).Ok :=
 ⟨ok.mod,ok.kind,ok.glob,ok.blt,ok.above,ok.inj,ok.has,ok.cab,ok.hd,ok.frames,ok.stk,ok.exf,ok.bs,ok.bsz,ok.noex,ok.exfs,ok.funs,ok.frf⟩
theorem Cx.Ok.unwish {X : Cx} {E : Value → Shared → Prop} (ok : (X.wish E).Ok) : X.Ok :=
 ⟨ok.mod,ok.kind,ok.glob,ok.blt,ok.above,ok.inj,ok.has,ok.cab,ok.hd,ok.frames,ok.stk,ok.exf,ok.bs,ok.bsz,ok.noex,ok.exfs,ok.funs,ok.frf⟩
section
variable {X : Cx} {pins : List (Addr × Obj)} {σ : St} {H : Hp} {s : Shared} {E : Value → Shared → Prop}
theorem Inv.wish (I : Inv X pins σ H s) (E : Value → Shared → Prop) : Inv (X.wish E) pins σ H s := ⟨I.ok.wish E,I.os,I.bare,I.base,I.loc,I.cell,I.free,I.freeC,I.pin,I.hok,I.len⟩
theorem Inv.unwish (I : Inv (X.wish E) pins σ H s) : Inv X pins σ H s := ⟨I.ok.unwish,I.os,I.bare,I.base,I.loc,I.cell,I.free,I.freeC,I.pin,I.hok,I.len⟩
theorem SP.unwish {D : iB} {f : Flow} {s' : Shared} (h : SP (X.wish E) pins D f s') : SP X pins D f s' := by
 cases f with
 | next=>obtain ⟨σ',H',I,q⟩ := h; exact ⟨σ',H',I.unwish,q⟩
 | brk=>obtain ⟨σ',H',I,q⟩ := h; exact ⟨σ',H',I.unwish,q⟩
 | cont=>obtain ⟨σ',H',I,q⟩ := h; exact ⟨σ',H',I.unwish,q⟩
 | ret u=>obtain ⟨v,σ',H',I,r,q⟩ := h; exact ⟨v,σ',H',I.unwish,r,q⟩
theorem PSs.nox {st : List Stmt} {t : TS} (h : PSs X.nox st t) : PSs X st t := fun pins s σ H D I hw =>
 wpAny_mono (h pins s σ H D (I.wish _) hw) (fun _ _ q=>q.unwish) fun _ _ z=>False.elim z
end
section
variable {X : Cx} {st : Stmt} {rest : List Stmt} {t u : TS} {e : Expr} {te : TE} {pos : Pos}
def BE5 : TS := fun D σ H=>D.nx σ H
def gG (t u : TS) : TS := fun D σ H=>t { D with nx := u D } σ H
theorem D6 : PSs X [] BE5 := fun _ _ σ H _ I h=>wpAny_execs_nil ⟨σ,H,I,h⟩
theorem A7 (h1 : PS X st t) (h2 : PSs X rest u) : PSs X (st :: rest) (gG t u) := by
 intro pins s σ H D I h
 refine wpAny_execs_cons (G1 (h1 pins s σ H { D with nx := u D } I h) fun f s1 q=>?_)
 cases f with
 | next =>
  obtain ⟨σ',H',I',q⟩ := q
  exact h2 pins s1 σ' H' D I' q
 | ret v=>exact q
 | brk=>exact q
 | cont=>exact q
theorem A8 (h1 : PS X st t) : PSs X [st] t := by
 intro pins s σ H D I h
 refine wpAny_execs_cons (G1 (h1 pins s σ H D I h) fun f s1 q=>?_)
 cases f with
 | next=>exact wpAny_execs_nil q
 | ret v=>exact q
 | brk=>exact q
 | cont=>exact q
theorem Inv.quiet {pins : List (Addr × Obj)} {σ : St} {H : Hp} {s : Shared} (I : Inv X pins σ H s) : interactive X.env = false := by simp [interactive,I.ok.kind]
def BE7 (te : TE) : TS := fun D σ H=>te σ H fun _ H1=>D.nx σ H1
theorem K5 (he : PE X e te) (hs : swapsWith e none pos.line X.env = pure false := by rfl) : PS X (.Expr e pos) (BE7 te) := by
 intro pins s σ H D I h
 exact wpAny_Expr_any (G1 (he pins s σ H _ I h) fun v s1 ⟨x,H1,I1,r1,q1⟩=>⟨σ,H1,I1,q1⟩) I.quiet hs
def BJ0 (te : TE) : TS := fun D σ H=>te σ H D.rt
theorem B4 (he : PE X e te) : PS X (.Return (some e) pos) (BJ0 te) := by
 intro pins s σ H D I h
 exact wpAny_Return_some (G1 (he pins s σ H _ I h) fun v s1 ⟨x,H1,I1,r1,q1⟩=>⟨x,σ,H1,I1,r1,q1⟩)
def BJ3 (c : TT) (t u : TS) : TS := fun D σ H=>c σ H fun b H1=>if b = true then t D σ H1 else u D σ H1
theorem E8 {c : Expr} {a b : List Stmt} {tc : TT} (hc : PT X c tc) (ha : PSs X a t) (hb : PSs X b u) : PS X (.If c a b pos) (BJ3 tc t u) := by
 intro pins s σ H D I h
 refine wpAny_If (G1 (hc pins s σ H _ I h) fun d s1 ⟨H1,I1,q1⟩=>?_)
 cases d with
 | true=>exact ha pins s1 σ H1 D I1 q1
 | false=>exact hb pins s1 σ H1 D I1 q1
end
abbrev TG := V → St → Hp → (St → Hp → Prop) → Prop
abbrev uE := List V → St → Hp → (St → Hp → Prop) → Prop
def PG (X : Cx) (target : Expr) (t : TG) : Prop :=
 ∀ (pins : List (Addr × Obj)) (s : Shared) (σ : St) (H : Hp) (v : V) (u : Value) (Q : St → Hp → Prop),Inv X pins σ H s → RelV v u → t v σ H Q →
  wpAny (model X.prog X.w) X.A (assign target X.env u) (fun _ s'=>∃ σ' H',Inv X pins σ' H' s' ∧ Q σ' H') X.xe s
def PGs (X : Cx) (ts : List Expr) (t : uE) : Prop :=
 ∀ (pins : List (Addr × Obj)) (s : Shared) (σ : St) (H : Hp) (vs : List V) (us : List Value) (Q : St → Hp → Prop),Inv X pins σ H s → Vals vs us → t vs σ H Q →
  wpAny (model X.prog X.w) X.A (assignInOrder ((assignEach ts X.env).map (·.2)) us) (fun _ s'=>∃ σ' H',Inv X pins σ' H' s' ∧ Q σ' H') X.xe s
abbrev AJ8 := V → V → V → Hp → (Hp → Prop) → Prop
def BC9 (X : Cx) (t : AJ8) : Prop :=
 ∀ (pins : List (Addr × Obj)) (s : Shared) (σ : St) (H : Hp) (o i v : V) (ov iv u : Value) (Q : Hp → Prop),Inv X pins σ H s → RelV o ov → RelV i iv → RelV v u → t o i v H Q →
  wpAny (model X.prog X.w) X.A (setItem ov iv u) (fun _ s'=>∃ H',Inv X pins σ H' s' ∧ Q H') X.xe s
abbrev TIp := V → V → Hp → VK → Prop
def PIp (X : Cx) (op : Operator) (t : TIp) : Prop :=
 ∀ (pins : List (Addr × Obj)) (s : Shared) (σ : St) (H : Hp) (x y : V) (v u : Value) (Q : VK),Inv X pins σ H s → RelV x v → RelV y u → t x y H Q →
  wpAny (model X.prog X.w) X.A (inplaceOp op v u) (EP X pins σ Q) X.xe s
section
variable {X : Cx} {pos : Pos}
def X5 (i : Nat) : TG := fun v σ H Q=>Q (σ.set i (some v)) H
theorem K8 {i : Nat} {x : Str} (hN : X.N.Nodup) (hi : X.N[i]? = some x) (hx : Loc X.env.scope x) (hf : X.fn x = true ∨ X.env.scope.names.lookup x = some .local := by first | exact .inl rfl | exact .inr rfl | assumption) : PG X (.Name x pos) (X5 i) := by
 intro pins s σ H v u Q I r h
 exact wpAny_assign_Name (gH I hN hi hx r (fun s' I'=>⟨_,H,I',h⟩) hf)
def BL7 : uE := fun vs σ H Q=>vs = [] ∧ Q σ H
def BH2 (t : TG) (u : uE) : uE := fun vs σ H Q=>∃ v r,vs = v :: r ∧ t v σ H fun σ' H'=>u r σ' H' Q
theorem vF : PGs X [] BL7 := by
 intro pins s σ H vs us Q I r h
 obtain ⟨e,h⟩ := h
 subst e
 cases r
 exact assignInOrder_nil ⟨σ,H,I,h⟩
theorem cI {e : Expr} {es : List Expr} {t : TG} {u : uE} (h1 : PG X e t) (h2 : PGs X es u)
  (hs : (assignEach (e :: es) X.env).map (·.2) = assign e X.env :: (assignEach es X.env).map (·.2) := by rfl) : PGs X (e :: es) (BH2 t u) := by
 intro pins s σ H vs us Q I r h
 obtain ⟨v,vr,e1,h⟩ := h
 subst e1
 cases r with
 | cons r rr =>
  rw [hs]
  refine assignInOrder_cons (G1 (h1 pins s σ H _ _ _ I r h) fun _ s1 ⟨σ1,H1,I1,q1⟩=>?_)
  exact h2 pins s1 σ1 H1 _ _ Q I1 rr q1
def BL5 (K : PySem.W.Frag) (n : Nat) (t : uE) : TG := fun v σ H Q=>∃ a xs,v = .ref a ∧ SqT K H a xs ∧ xs.length = n ∧ t xs σ H Q
theorem yU {es : List Expr} {k : Nat} {t : uE} {n : Nat} (hc : X.calm = true) (h : PGs X es t)
  (hn : (assignEach es X.env).length = n := by rfl) (hst : (assignEach es X.env).findIdx? (·.1) = none := by rfl) : PG X (.Tuple es k pos) (BL5 X.K n t) := by
 intro pins s σ H v u Q I r hw
 obtain ⟨a,xs,e1,hq,hl,hw⟩ := hw
 subst e1
 cases r
 obtain ⟨its,rv,ht,hz⟩ := I.tuple hq
 refine assign_Tuple_tuple (I.ok.hd hc) ht (by simp [hn,← hl,rv.length]) hst fun h' hx=>?_
 have I1 : Inv X pins σ H { s with heap := h' } := I.kept (t' := s.toks) fun b o e=>hx b o (Nat.ne_of_lt (Heap.lt_size e)) e
 exact h pins _ σ H xs _ Q I1 (by simpa using rv) hw
def BL6 (to ti : TE) (t : AJ8) : TG := fun v σ H Q=>to σ H fun o H1=>ti σ H1 fun i H2=>t o i v H2 fun H3=>Q σ H3
theorem yV {o i : Expr} {to ti : TE} {t : AJ8} (ho : PE X o to) (hi : PE X i ti) (hs : BC9 X t)
  (ha : ∀ v,assign (.Subscript o i pos) X.env v = (do
   let ov ← holding [v] (eval o X.env)
   let iv ← holding [v,ov] (eval i X.env)
   standAt pos
   holding [v,ov,iv] (setItem ov iv v)
   release [v,ov,iv] []) := by intro _; rfl) : PG X (.Subscript o i pos) (BL6 to ti t) := by
 intro pins s σ H v u Q I r h
 rw [ha]
 refine wpAny_bind (wpAny_holding (G1 (ho pins s σ H _ I h) fun ov s1 ⟨x,H1,I1,r1,q1⟩=>?_))
 refine wpAny_bind (wpAny_holding (G1 (hi pins s1 σ H1 _ I1 q1) fun iv s2 ⟨y,H2,I2,r2,q2⟩=>?_))
 refine wpAny_bind (wpAny_standAt (wpAny_bind (wpAny_holding (G1 (hs pins s2 σ H2 x y v ov iv u _ I2 r1 r2 r q2) fun _ s3 ⟨H3,I3,q3⟩=>?_))))
 exact wpAny_release ⟨σ,H3,I3,q3⟩
def rZ (te : TE) (g : TG) : TS := fun D σ H=>te σ H fun x H1=>g x σ H1 D.nx
theorem yR {tg e : Expr} {te : TE} {g : TG} (he : PE X e te) (hg : PG X tg g) (hs : swapsWithSole [tg] e pos.line X.env = pure false := by rfl) (hw : swappedStores [tg] e X.env = pure none := by rfl)
  (h1 : (assignEach [tg] X.env).map (·.2) = [assign tg X.env] := by rfl) : PS X (.Assign [tg] e pos) (rZ te g) := by
 intro pins s σ H D I h
 refine wpAny_Assign_stores (G1 (he pins s σ H _ I h) fun v s1 ⟨x,H1,I1,r1,q1⟩=>?_) hs hw
 rw [h1]
 exact G1 (hg pins s1 σ H1 x v _ I1 r1 q1) fun _ s2 q=>q
theorem B9 {i : Nat} {x : Str} {e : Expr} {te : TE} {pos' : Pos} (hN : X.N.Nodup) (hi : X.N[i]? = some x) (hx : Loc X.env.scope x) (he : PE X e te) (hs : swapsWith e (some (.Name x pos')) pos.line X.env = pure false := by rfl) (hf : X.fn x = true ∨ X.env.scope.names.lookup x = some .local := by first | exact .inl rfl | exact .inr rfl | assumption) :
  PS X (.Assign [.Name x pos'] e pos) (rZ te (X5 i)) := by
 intro pins s σ H D I h
 refine wpAny_Assign_Name (G1 (he pins s σ H _ I h) fun v s1 ⟨y,H1,I1,r1,q1⟩=>?_) hs
 exact gH I1 hN hi hx r1 (fun s2 I2=>⟨_,H1,I2,q1⟩) hf
def kT (i : Nat) (te : TE) (ti : TIp) : TS := fun D σ H=>∃ x,σ[i]? = some (some x) ∧ te σ H fun y H1=>ti x y H1 fun z H2=>D.nx (σ.set i (some z)) H2
theorem P9 {i : Nat} {x : Str} {e : Expr} {te : TE} {op : Operator} {ti : TIp} {pos' : Pos} (hN : X.N.Nodup) (hi : X.N[i]? = some x) (hx : Loc X.env.scope x) (he : PE X e te) (ho : PIp X op ti) (hf : X.fn x = true ∨ X.env.scope.names.lookup x = some .local := by first | exact .inl rfl | exact .inr rfl | assumption) :
  PS X (.AugAssign (.Name x pos') op e pos) (kT i te ti) := by
 intro pins s σ H D I h
 obtain ⟨v,e1,h⟩ := h
 obtain ⟨m,hn,hl⟩ := I.loc
 have vis : uD X.env.scope x := by rcases hx with k | k; exact .inl k; exact .inr (.inl k)
 obtain ⟨u,r,l⟩ := hl i x v hi e1 vis
 refine wpAny_AugAssign_Name ?_
 have go : wpAny (model X.prog X.w) X.A (eval e X.env) (fun w s₂=>wpAny (model X.prog X.w) X.A (inplaceOp op u w) (fun r s₃=>wpAny (model X.prog X.w) X.A (storeName X.env x r) (fun _=>SP X pins D .next) X.xe s₃) X.xe s₂) X.xe s := by
  refine G1 (he pins s σ H _ I h) fun w s1 ⟨y,H1,I1,r1,q1⟩=>?_
  refine G1 (ho pins s1 σ H1 v y u w _ I1 r r1 q1) fun z s2 ⟨zv,H2,I2,r2,q2⟩=>?_
  exact gH I2 hN hi hx r2 (fun s3 I3=>⟨_,H2,I3,q2⟩) hf
 rcases l with ⟨hk,hm⟩ | ⟨hk,c,hc,hcell⟩
 ·exact wpAny_loadName_local I.ok.kind hk hn hm go
 ·rcases hk with hk | hk
  ·exact wpAny_loadName_cell I.ok.kind hk hc hcell go
  ·rcases hx with k | k
   ·have : X.env.scope.names.lookup x = some .free := hk
    rw [k] at this; cases this
   ·have : X.env.scope.names.lookup x = some .free := hk
    rw [k] at this; cases this
def ipI (f : Int → Int → Int) : TIp := fun x y H Q=>∃ i j,x = .int i ∧ y = .int j ∧ Q (.int (f i j)) H
theorem mX : PIp X .Add (ipI fun i j=>i + j) := by
 intro pins s σ H x y v u Q I r1 r2 h
 obtain ⟨i,j,e1,e2,q⟩ := h
 subst e1; subst e2
 obtain ⟨t,rfl⟩ := r1
 obtain ⟨t',rfl⟩ := r2
 exact iadd_int ⟨.int _,H,I.tok _,⟨_,rfl⟩,q⟩
end
section
variable {X : Cx} {pos : Pos}
def AU7 (c : TT) (tb : TS) : TS := fun D σ H=>∃ W : Nat → St → Hp → Prop,(∃ m,W m σ H) ∧ ∀ m σ H,W m σ H →
 c σ H fun b H1=>if b = true then ∃ N : St → Hp → Prop,(∀ σ' H',N σ' H' → ∃ m',m' < m ∧ W m' σ' H') ∧ tb { D with nx := N,ct := N,bk := D.nx } σ H1 else D.nx σ H1
theorem V2 {c : Expr} {body : List Stmt} {tc : TT} {tb : TS} (hp : PassesOwn (model X.prog X.w) X.A X.env X.xe) (hc : PT X c tc) (hb : PSs X body tb) : PS X (.While c body [] pos) (AU7 tc tb) := by
 intro pins s σ H D I h
 obtain ⟨W,⟨m0,w0⟩,turn⟩ := h
 refine wpAny_While (codeAny_whileLoop (fun n s'=>∃ σ' H',Inv X pins σ' H' s' ∧ W n σ' H') ?_ m0 ⟨σ,H,I,w0⟩)
 rintro n s1 ⟨σ1,H1,I1,w1⟩
 refine wpAny_passesOwn hp (G1 (hc pins s1 σ1 H1 _ I1 (turn n σ1 H1 w1)) fun b s2 ⟨H2,I2,q2⟩=>?_)
 cases b with
 | true =>
  obtain ⟨N,hN,q2⟩ := q2
  rw [if_pos rfl]
  refine wpAny_passesOwn hp (G1 (hb pins s2 σ1 H2 _ I2 q2) fun f s3 q3=>?_)
  cases f with
  | next =>
   obtain ⟨σ3,H3,I3,n3⟩ := q3
   obtain ⟨m',hm,w3⟩ := hN σ3 H3 n3
   exact ⟨m',hm,σ3,H3,I3,w3⟩
  | cont =>
   obtain ⟨σ3,H3,I3,n3⟩ := q3
   obtain ⟨m',hm,w3⟩ := hN σ3 H3 n3
   exact ⟨m',hm,σ3,H3,I3,w3⟩
  | brk=>exact q3
  | ret v=>exact q3
 | false =>
  rw [if_neg Bool.false_ne_true]
  exact wpAny_execs_nil ⟨σ1,H2,I2,q2⟩
end
structure It where
 go : Nat → Hp → Prop
 yld : Nat → Hp → V → Hp → Prop
 stop : Nat → Hp → Prop
def bA (X : Cx) (pins : List (Addr × Obj)) (H : Hp) (b : Addr) : Prop :=
 H b = none ∧ b ≠ X.env.locals ∧ b ∉ X.fs ∧ (b ∈ X.ex ∨ X.s₀.heap.objs.size ≤ b) ∧ (∀ x c,X.env.cells.lookup x = some c → c ≠ b) ∧ ∀ p ∈ X.pn ++ pins,p.1 ≠ b
theorem Inv.fpOk {X : Cx} {pins : List (Addr × Obj)} {σ : St} {H H' : Hp} {s : Shared} {b : Addr} (I : Inv X pins σ H s) (hb : s.heap.objs.size ≤ b) (hn : H' b = none) : bA X pins H' b := by
 refine ⟨hn,Nat.ne_of_gt (Nat.lt_of_lt_of_le I.lt hb),I.nofs hb,.inr (Nat.le_trans I.sz hb),fun x c e z=>?_,fun p hp z=>?_⟩
 ·obtain ⟨v,q⟩ := I.cell x c e
  exact absurd (Nat.lt_of_lt_of_le q.lt (by rw [z]; exact hb)) (Nat.lt_irrefl _)
 ·exact absurd (Nat.lt_of_lt_of_le (Heap.lt_size (I.pin p hp).1) (by rw [z]; exact hb)) (Nat.lt_irrefl _)
structure lS (P : Program) (w : World) (K : PySem.W.Frag) (tg : Expr) (J : It) (fp : List Addr) (it : Addr) (tn : Nat → Heap → Prop) : Prop where
 mem : it ∈ fp
 obj : ∀ i h,tn i h → ∀ b ∈ fp,∃ o,h.get? b = some o ∧ ∀ v,o.data ≠ .cell v
 keep : ∀ i h h',tn i h → (∀ b ∈ fp,∀ o,h.get? b = some o → h'.get? b = some o) → tn i h'
 item : ∀ (X : Cx),X.prog = P → X.w = w → X.K = K → X.calm = true → ∀ (i : Nat) (pins : List (Addr × Obj)) (s : Shared) (σ : St) (H : Hp) (E : Value → Shared → Prop),Inv X pins σ H s → (∀ b ∈ fp,bA X pins H b) → tn i s.heap → J.go i H →
  wpAny (model P w) X.A (pyNext (.ref it)) (fun r s1=>∃ u,r = some u ∧
   wpAny (model P w) X.A (letOwnedTupleGo tg (.ref it) u) (fun _ s2=>∃ x H',Inv X pins σ H' s2 ∧ RelV x u ∧ J.yld i H x H' ∧ tn (i + 1) s2.heap ∧ ∀ b ∈ fp,H' b = none) E s1) E s
 done : ∀ (X : Cx),X.prog = P → X.w = w → X.K = K → X.calm = true → ∀ (i : Nat) (pins : List (Addr × Obj)) (s : Shared) (σ : St) (H : Hp) (E : Value → Shared → Prop),Inv X pins σ H s → (∀ b ∈ fp,bA X pins H b) → tn i s.heap → J.stop i H →
  wpAny (model P w) X.A (pyNext (.ref it)) (fun r s1=>r = none ∧ Inv X pins σ H s1) E s
 self : ∀ (A : Around) (i : Nat) (s : Shared) (Q : Value → Shared → Prop) (E : Value → Shared → Prop),tn i s.heap → Q (.ref it) s → wpAny (model P w) A (pyIter (.ref it)) Q E s
abbrev TI := St → Hp → (It → Hp → Prop) → Prop
def PIE (X : Cx) (pins : List (Addr × Obj)) (σ : St) (tg : Expr) (R : It → Hp → Prop) (itv : Value) (s2 : Shared) : Prop :=
 ∃ (it : Addr) (fp : List Addr) (tn : Nat → Heap → Prop) (J : It) (H' : Hp),itv = .ref it ∧ Inv X pins σ H' s2 ∧ lS X.prog X.w X.K tg J fp it tn ∧ tn 0 s2.heap ∧ (∀ b ∈ fp,bA X pins H' b) ∧ R J H'
def PI (X : Cx) (tg iter : Expr) (wi : TI) : Prop :=
 ∀ (pins : List (Addr × Obj)) (s : Shared) (σ : St) (H : Hp) (R : It → Hp → Prop),Inv X pins σ H s → wi σ H R →
  wpAny (model X.prog X.w) X.A (eval iter X.env) (fun v s1=>wpAny (model X.prog X.w) X.A (pyIter v) (PIE X pins σ tg R) X.xe s1) X.xe s
theorem mZ {M : Model} {A : Around} {E : Value → Shared → Prop} {s : Shared} {tg : Expr} {it : Addr} {u : Value} {o : Obj} {n : String} {vs : Array Value} {Q : Unit → Shared → Prop} (ho : s.heap.get? it = some o) (hc : o.cls = .type n) (hd : o.data = .fields vs)
    (hn : ["enumerate", "zip", "dict_itemiterator", "dict_reverseitemiterator", "odict_iterator", "itertools.zip_longest", "itertools.pairwise"].contains n = false) (hQ : Q () s) : wpAny M A (letOwnedTupleGo tg (.ref it) u) Q E s := by
  unfold letOwnedTupleGo
  cases tg <;> first
    | exact wpAny_pure hQ
    | (cases u <;> first
        | exact wpAny_pure hQ
        | (refine wpAny_bind (wpAny_load ho ?_)
           rw [hc, hd]
           show wpAny M A (if (["enumerate", "zip", "dict_itemiterator", "dict_reverseitemiterator", "odict_iterator", "itertools.zip_longest", "itertools.pairwise"].contains n && vs[0]? == some (rawInt _)) = true then _ else _) Q E s
           rw [if_neg (by intro h; rw [hn, Bool.false_and] at h; cases h)]
           exact wpAny_pure hQ))
def Itl (K : PySem.W.Frag) (a : Addr) : It :=
 ⟨fun i H=>∃ xs x,SqL K H a xs ∧ xs[i]? = some x,fun i H x H'=>H' = H ∧ ∀ xs,SqL K H a xs → xs[i]? = some x,fun i H=>∃ xs,SqL K H a xs ∧ xs.length ≤ i⟩
def wH (K : PySem.W.Frag) (a : Addr) : It :=
 ⟨fun i H=>∃ xs x,SqT K H a xs ∧ xs[i]? = some x,fun i H x H'=>H' = H ∧ ∀ xs,SqT K H a xs → xs[i]? = some x,fun i H=>∃ xs,SqT K H a xs ∧ xs.length ≤ i⟩
def uH (lo : Int) (n : Nat) : It := ⟨fun i _=>i < n,fun i H x H'=>H' = H ∧ x = .int (lo + i),fun i _=>n ≤ i⟩
theorem xZ {P : Program} {w : World} {K : PySem.W.Frag} {tg : Expr} (a it : Addr) : lS P w K tg (Itl K a) [it] it (fun i h=>h.IsListIter it a i) where
 mem := by simp
 obj := fun i h st b hb=>by
  have e : b = it := by simpa using hb
  subst e
  obtain ⟨o,e,c,d⟩ := st
  exact ⟨o,e,fun v z=>by rw [d] at z; cases z⟩
 keep := fun i h h' st k=>st.at fun o e=>k it (by simp) o e
 item := by
  intro X hP hw hK hc i pins s σ H E I hf st hg
  subst hP hw hK
  obtain ⟨xs,x,hq,hx⟩ := hg
  obtain ⟨its,rv,p,hz⟩ := I.list hq
  obtain ⟨u,hu,ru⟩ := rv.get hx
  obtain ⟨f0,f1,f2,f3,f4,f5⟩ := hf it (by simp)
  refine wpAny_pyNext_list_item st p.isList (x := u) (by simpa using hu) fun h' st' sb=>?_
  have I1 : Inv X pins σ H { s with heap := h' } := I.turned (t' := s.toks) (fun b o hb e=>(sb.2 b hb).trans e) f0 f1 f3 f4 f5
  obtain ⟨o,e,c,d⟩ := id st'
  exact ⟨u,rfl,mZ (s := { s with heap := h' }) e c d (by decide) ⟨x,H,I1,ru,⟨rfl,fun ys hy=>by rw [I.list_inj hy hq]; exact hx⟩,st',fun b hb=>(hf b hb).1⟩⟩
 done := by
  intro X hP hw hK hc i pins s σ H E I hf st hg
  subst hP hw hK
  obtain ⟨xs,hq,hx⟩ := hg
  obtain ⟨its,rv,p,hz⟩ := I.list hq
  obtain ⟨f0,f1,f2,f3,f4,f5⟩ := hf it (by simp)
  have hl := rv.length
  exact wpAny_pyNext_list_end (I.ok.hd hc) st p.isList (by simp; omega) fun h' eb=>⟨rfl,I.turned (t' := s.toks) (fun b o hb e=>eb b o hb e) f0 f1 f3 f4 f5⟩
 self := fun _ _ _ _ _ st h=>wpAny_pyIter_listiter st h
theorem wK {P : Program} {w : World} {K : PySem.W.Frag} {tg : Expr} (a it : Addr) : lS P w K tg (wH K a) [it] it (fun i h=>h.IsTupleIter it a i) where
 mem := by simp
 obj := fun i h st b hb=>by
  have e : b = it := by simpa using hb
  subst e
  obtain ⟨o,e,c,d⟩ := st
  exact ⟨o,e,fun v z=>by rw [d] at z; cases z⟩
 keep := fun i h h' st k=>st.at fun o e=>k it (by simp) o e
 item := by
  intro X hP hw hK hc i pins s σ H E I hf st hg
  subst hP hw hK
  obtain ⟨xs,x,hq,hx⟩ := hg
  obtain ⟨its,rv,p,hz⟩ := I.tuple hq
  obtain ⟨u,hu,ru⟩ := rv.get hx
  obtain ⟨f0,f1,f2,f3,f4,f5⟩ := hf it (by simp)
  refine wpAny_pyNext_tuple_item st (show s.heap.IsTuple a its.toArray from p) (x := u) (by simpa using hu) fun h' st' sb=>?_
  have I1 : Inv X pins σ H { s with heap := h' } := I.turned (t' := s.toks) (fun b o hb e=>(sb.2 b hb).trans e) f0 f1 f3 f4 f5
  obtain ⟨o,e,c,d⟩ := id st'
  exact ⟨u,rfl,mZ (s := { s with heap := h' }) e c d (by decide) ⟨x,H,I1,ru,⟨rfl,fun ys hy=>by rw [I.tuple_inj hy hq]; exact hx⟩,st',fun b hb=>(hf b hb).1⟩⟩
 done := by
  intro X hP hw hK hc i pins s σ H E I hf st hg
  subst hP hw hK
  obtain ⟨xs,hq,hx⟩ := hg
  obtain ⟨its,rv,p,hz⟩ := I.tuple hq
  obtain ⟨f0,f1,f2,f3,f4,f5⟩ := hf it (by simp)
  have hl := rv.length
  exact wpAny_pyNext_tuple_end (I.ok.hd hc) st (show s.heap.IsTuple a its.toArray from p) (by simp; omega) fun h' eb=>⟨rfl,I.turned (t' := s.toks) (fun b o hb e=>eb b o hb e) f0 f1 f3 f4 f5⟩
 self := fun _ _ _ _ _ st h=>wpAny_pyIter_tupleiter st h
theorem wL {P : Program} {w : World} {K : PySem.W.Frag} {tg : Expr} (it : Addr) (lo : Int) (n : Nat) : lS P w K tg (uH lo n) [it] it (fun i h=>IsRangeIter h it (lo + (i : Nat) * 1) ((n : Int) - (i : Nat)) 1) where
 mem := by simp
 obj := fun i h st b hb=>by
  have e : b = it := by simpa using hb
  subst e
  exact ⟨_,st,fun v z=>by
   have z' : Data.fields _ = Data.cell v := z
   cases z'⟩
 keep := fun i h h' st k=>k it (by simp) _ st
 item := by
  intro X hP hw hK hc i pins s σ H E I hf st hg
  subst hP hw hK
  obtain ⟨f0,f1,f2,f3,f4,f5⟩ := hf it (by simp)
  have W := Walks.range (prog := X.prog) (w := X.w) (I.ok.hd hc) it lo 1 n
  refine W.item i s _ _ hg st fun v h' tk hv st' kk=>?_
  obtain ⟨t,rfl⟩ := hv
  have I1 : Inv X pins σ H { s with heap := h',toks := tk } := I.turned (fun b o hb e=>kk b o (by simpa using hb) e) f0 f1 f3 f4 f5
  refine ⟨_,rfl,mZ (s := { s with heap := h',toks := tk }) (n := "range_iterator") st' rfl rfl (by decide) ⟨.int (lo + i),H,I1,⟨t,?_⟩,⟨rfl,rfl⟩,st',fun b hb=>(hf b hb).1⟩⟩
  rw [Int.mul_one]
 done := by
  intro X hP hw hK hc i pins s σ H E I hf st hg
  subst hP hw hK
  obtain ⟨f0,f1,f2,f3,f4,f5⟩ := hf it (by simp)
  exact wpAny_pyNext_range_end (I.ok.hd hc) st (by have : n ≤ i := hg; omega) fun h' eb=>⟨rfl,I.turned (t' := s.toks) (fun b o hb e=>eb b o hb e) f0 f1 f3 f4 f5⟩
 self := fun _ _ _ _ _ st h=>wpAny_pyIter_rangeiter st h
end L2
namespace L2
open PySem PySem.Spec PyProof.Rows
section
variable {X : Cx} {tg : Expr}
def BG9 (K : PySem.W.Frag) (tl : TE) : TI := fun σ H R=>tl σ H fun x H1=>∃ a,x = .ref a ∧ (∃ xs,SqL K H1 a xs) ∧ R (Itl K a) H1
def BL3 (K : PySem.W.Frag) (tl : TE) : TI := fun σ H R=>tl σ H fun x H1=>∃ a,x = .ref a ∧ (∃ xs,SqT K H1 a xs) ∧ R (wH K a) H1
theorem fN {l : Expr} {tl : TE} (hl : PE X l tl) : PI X tg l (BG9 X.K tl) := by
 intro pins s σ H R I h
 refine G1 (hl pins s σ H _ I h) fun v s1 ⟨x,H1,I1,r1,q1⟩=>?_
 obtain ⟨a,e,⟨xs,hq⟩,q⟩ := q1
 subst e
 cases r1
 obtain ⟨its,rv,p,hz⟩ := I1.list hq
 refine wpAny_pyIter_list p.isList ?_
 refine ⟨s1.heap.objs.size,[s1.heap.objs.size],_,_,H1,rfl,I1.kept (t' := s1.toks) fun b o e=>Heap.get?_push_of_some _ e,xZ a _,⟨_,Heap.get?_push_size _ rfl,rfl,rfl⟩,fun b hb=>?_,q⟩
 have e : b = s1.heap.objs.size := by simpa using hb
 subst e
 exact I1.fpOk (Nat.le_refl _) (I1.hok.fresh (Nat.le_refl _))
theorem mI {l : Expr} {tl : TE} (hl : PE X l tl) : PI X tg l (BL3 X.K tl) := by
 intro pins s σ H R I h
 refine G1 (hl pins s σ H _ I h) fun v s1 ⟨x,H1,I1,r1,q1⟩=>?_
 obtain ⟨a,e,⟨xs,hq⟩,q⟩ := q1
 subst e
 cases r1
 obtain ⟨its,rv,p,hz⟩ := I1.tuple hq
 refine wpAny_pyIter_tuple (show s1.heap.IsTuple a its.toArray from p) ?_
 refine ⟨s1.heap.objs.size,[s1.heap.objs.size],_,_,H1,rfl,I1.kept (t' := s1.toks) fun b o e=>Heap.get?_push_of_some _ e,wK a _,⟨_,Heap.get?_push_size _ rfl,rfl,rfl⟩,fun b hb=>?_,q⟩
 have e : b = s1.heap.objs.size := by simpa using hb
 subst e
 exact I1.fpOk (Nat.le_refl _) (I1.hok.fresh (Nat.le_refl _))
theorem AE0 {pins : List (Addr × Obj)} {σ : St} {H : Hp} {s : Shared} {R : It → Hp → Prop} {E : Value → Shared → Prop} {lo hi : Int} {t u v : Tok} {tk : Nat} (I : Inv X pins σ H s) (h1 : -(2 ^ 62) ≤ lo) (h2 : lo < 2 ^ 62) (h3 : -(2 ^ 62) ≤ hi) (h4 : hi < 2 ^ 62)
  (q : R (uH lo (hi - lo).toNat) H) : wpAny (model X.prog X.w) X.A (pyIter (.ref s.heap.objs.size)) (PIE X pins σ tg R) E { s with heap := s.heap.push { cls := .type "range",data := .fields #[.int lo t,.int hi u,.int 1 v] },toks := tk } := by
 refine wpAny_pyIter_range (IsRange.new ..) (small_one h1 h2 h3 h4) ?_
 have I1 : Inv X pins σ H { s with heap := s.heap.push { cls := .type "range",data := .fields #[.int lo t,.int hi u,.int 1 v] },toks := tk } := I.kept fun b o e=>Heap.get?_push_of_some _ e
 refine ⟨(s.heap.push { cls := .type "range",data := .fields #[.int lo t,.int hi u,.int 1 v] }).objs.size,[(s.heap.push { cls := .type "range",data := .fields #[.int lo t,.int hi u,.int 1 v] }).objs.size],_,_,H,rfl,
  I1.kept (t' := tk) fun b o e=>Heap.get?_push_of_some _ e,wL _ lo (hi - lo).toNat,?_,fun b hb=>?_,q⟩
 ·have e1 : lo + ((0 : Nat) : Int) * 1 = lo := by simp
  have e2 : (((hi - lo).toNat : Nat) : Int) - ((0 : Nat) : Int) = Builtin.Range.rangeSize lo hi 1 := by rw [rangeSize_one]; split <;> omega
  show IsRangeIter _ _ (lo + ((0 : Nat) : Int) * 1) ((((hi - lo).toNat : Nat) : Int) - ((0 : Nat) : Int)) 1
  rw [e1,e2]
  exact Heap.get?_push_size _ rfl
 ·have e : b = (s.heap.push { cls := .type "range",data := .fields #[.int lo t,.int hi u,.int 1 v] }).objs.size := by simpa using hb
  subst e
  exact I1.fpOk (Nat.le_refl _) (I1.hok.fresh (Nat.le_refl _))
def BG8 (ta : TA) : TI := fun σ H R=>ta σ H fun vs H1=>∃ j : Int,vs = [.int j] ∧ -(2 ^ 62) ≤ j ∧ j < 2 ^ 62 ∧ R (uH 0 j.toNat) H1
theorem Q0 {a : Expr} {ta : TA} {p pos : Pos} (hg : Gl X "range") (hm : X.mg "range" = none) (ha : PA X [a] ta) (hs : starEach [a] X.env = [(false,eval a X.env)] := by rfl) : PI X tg (.Call (.Name "range" p) [a] [] pos) (BG8 ta) := by
 intro pins s σ H R I h
 refine Call_ (jA I hg hm boot_range (PyProof.Rows.callWith_type1 (G1 (ha pos pins s σ H _ I h) fun us s1 ⟨vs,H1,I1,r1,q1⟩=>?_) hs rfl))
 obtain ⟨j,e,q1,q2,q⟩ := q1
 subst e
 cases r1 with
 | cons r rr =>
  cases rr
  obtain ⟨t,rfl⟩ := r
  exact call_range_1 (AE0 I1 (by omega) (by omega) q1 q2 (by simpa using q))
def BJ4 (wi : TI) (g : TG) (tb : TS) : TS := fun D σ H=>wi σ H fun J H1=>∃ W : Nat → Nat → St → Hp → Prop,(∃ m,W 0 m σ H1) ∧ ∀ i m σ H,W i m σ H →
 (J.stop i H ∧ D.nx σ H) ∨ (J.go i H ∧ ∃ N : St → Hp → Prop,(∀ σ' H',N σ' H' → ∃ m',m' < m ∧ W (i + 1) m' σ' H') ∧ ∀ x H',J.yld i H x H' → g x σ H' fun σ2 H2=>tb { D with nx := N,ct := N,bk := D.nx } σ2 H2)
def cH (fp : List Addr) (h : Heap) : List (Addr × Obj) := fp.filterMap fun b=>(h.get? b).map fun o=>(b,o)
theorem bG {fp : List Addr} {h : Heap} {b : Addr} {o : Obj} (hb : b ∈ fp) (e : h.get? b = some o) : (b,o) ∈ cH fp h := List.mem_filterMap.mpr ⟨b,hb,by rw [e]; rfl⟩
theorem zF {fp : List Addr} {h : Heap} {p : Addr × Obj} (hp : p ∈ cH fp h) : p.1 ∈ fp ∧ h.get? p.1 = some p.2 := by
 obtain ⟨b,hb,e⟩ := List.mem_filterMap.mp hp
 cases q : h.get? b with
 | none=>rw [q] at e; cases e
 | some o =>
  rw [q] at e
  have e' : (b,o) = p := Option.some.inj e
  subst e'
  exact ⟨hb,q⟩
theorem Inv.pinned {pins : List (Addr × Obj)} {σ : St} {H : Hp} {s : Shared} {fp : List Addr} (I : Inv X pins σ H s) (hf : ∀ b ∈ fp,bA X pins H b) (ho : ∀ b ∈ fp,∃ o,s.heap.get? b = some o ∧ ∀ v,o.data ≠ .cell v) : Inv X (pins ++ cH fp s.heap) σ H s :=
 I.pins_of fun p hp=>(List.mem_append.mp hp).elim (fun z=>I.pin p (List.mem_append_right _ z)) fun z=>by
  obtain ⟨hb,e⟩ := zF z
  obtain ⟨f0,f1,f2,_⟩ := hf p.1 hb
  obtain ⟨o,e',d⟩ := ho p.1 hb
  rw [e] at e'; cases e'
  exact ⟨e,f0,f1,f2,d⟩
theorem Inv.unpinned {pins pl : List (Addr × Obj)} {σ : St} {H : Hp} {s : Shared} (I : Inv X (pins ++ pl) σ H s) : Inv X pins σ H s := I.pins_of fun p hp=>I.pin p (List.mem_append_right _ (List.mem_append_left _ hp))
theorem R1 {iter : Expr} {body : List Stmt} {wi : TI} {g : TG} {tb : TS} {pos : Pos} (hp : PassesOwn (model X.prog X.w) X.A X.env X.xe) (hc : X.calm = true) (hi : PI X tg iter wi) (hg : PG X tg g) (hb : PSs X body tb)
  (hs : ∀ x,foldedSetIterable iter X.env x = pure x := by intro _; rfl) : PS X (.For tg iter body [] pos) (BJ4 wi g tb) := by
 intro pins s σ H D I h
 refine wpAny_For (G1 (hi pins s σ H _ I h) fun v s1 h1=>G1 h1 fun itv s2 h2=>?_) hs
 obtain ⟨it,fp,tn,J,H2,e,I2,T,st2,f2,W,⟨m0,w0⟩,turn⟩ := h2
 subst e
 have stat : ∀ {H' : Hp},(∀ b ∈ fp,H' b = none) → ∀ b ∈ fp,bA X pins H' b := fun hn b hb=>⟨hn b hb,(f2 b hb).2⟩
 refine codeAny_forLoop_any (fun n s'=>∃ i σ' H',Inv X pins σ' H' s' ∧ tn i s'.heap ∧ (∀ b ∈ fp,H' b = none) ∧ W i n σ' H') ?_ m0 ⟨0,σ,H2,I2,st2,fun b hb=>(f2 b hb).1,w0⟩
 rintro n s3 ⟨i,σ3,H3,I3,st3,fr3,w3⟩
 rcases turn i n σ3 H3 w3 with ⟨stop,qn⟩ | ⟨go,N,hN,step⟩
 ·refine wpAny_passesOwn hp (G1 (T.done X rfl rfl rfl hc i pins s3 σ3 H3 X.xe I3 (stat fr3) st3 stop) fun r s4 ⟨hr,I4⟩=>?_)
  subst hr
  exact wpAny_execs_nil ⟨σ3,H3,I4,qn⟩
 ·refine wpAny_passesOwn hp (G1 (T.item X rfl rfl rfl hc i pins s3 σ3 H3 X.xe I3 (stat fr3) st3 go) fun r s4 ⟨u,hr,h4⟩=>?_)
  subst hr
  refine wpAny_passesOwn hp (G1 h4 fun _ s5 ⟨x,H5,I5,r5,y5,st5,fr5⟩=>?_)
  have I5' := I5.pinned (stat fr5) (T.obj _ _ st5)
  refine wpAny_passesOwn hp (G1 (hg _ s5 σ3 H5 x u _ I5' r5 (step x H5 y5)) fun _ s6 ⟨σ6,H6,I6,q6⟩=>?_)
  refine wpAny_passesOwn hp (G1 (hb _ s6 σ6 H6 _ I6 q6) fun f s7 q7=>?_)
  have again : ∀ {σ7 : St} {H7 : Hp},Inv X (pins ++ cH fp s5.heap) σ7 H7 s7 → N σ7 H7 → ∃ m,m < n ∧ ∃ i σ' H',Inv X pins σ' H' s7 ∧ tn i s7.heap ∧ (∀ b ∈ fp,H' b = none) ∧ W i m σ' H' := fun {σ7 H7} I7 n7=>by
   obtain ⟨m',hm,w7⟩ := hN σ7 H7 n7
   refine ⟨m',hm,i + 1,σ7,H7,I7.unpinned,T.keep _ _ _ st5 fun b hb o e=>(I7.pin (b,o) (List.mem_append_right _ (List.mem_append_right _ (bG hb e)))).1,fun b hb=>?_,w7⟩
   obtain ⟨o,e,d⟩ := T.obj _ _ st5 b hb
   exact (I7.pin (b,o) (List.mem_append_right _ (List.mem_append_right _ (bG hb e)))).2.1
  cases f with
  | next=>obtain ⟨σ7,H7,I7,n7⟩ := q7; exact again I7 n7
  | cont=>obtain ⟨σ7,H7,I7,n7⟩ := q7; exact again I7 n7
  | brk=>obtain ⟨σ7,H7,I7,q7⟩ := q7; exact ⟨σ7,H7,I7.unpinned,q7⟩
  | ret v=>obtain ⟨x7,σ7,H7,I7,r7,q7⟩ := q7; exact ⟨x7,σ7,H7,I7.unpinned,r7,q7⟩
end
theorem cQ {K : PySem.W.Frag} {a : Addr} {xs : List V} {g : TG} {tb : TS} {D : iB} {σ : St} {H : Hp} (Pv : Nat → St → Hp → Prop) (h0 : Pv 0 σ H) (hl : ∀ i σ H,i ≤ xs.length → Pv i σ H → SqL K H a xs)
  (hs : ∀ i x σ H,xs[i]? = some x → Pv i σ H → g x σ H fun σ2 H2=>tb { D with nx := Pv (i + 1),ct := Pv (i + 1),bk := D.nx } σ2 H2) (hd : ∀ σ H,Pv xs.length σ H → D.nx σ H) :
  ∃ W : Nat → Nat → St → Hp → Prop,(∃ m,W 0 m σ H) ∧ ∀ i m σ H,W i m σ H →
   ((Itl K a).stop i H ∧ D.nx σ H) ∨ ((Itl K a).go i H ∧ ∃ N : St → Hp → Prop,(∀ σ' H',N σ' H' → ∃ m',m' < m ∧ W (i + 1) m' σ' H') ∧ ∀ x H',(Itl K a).yld i H x H' → g x σ H' fun σ2 H2=>tb { D with nx := N,ct := N,bk := D.nx } σ2 H2) := by
 refine ⟨fun i m σ H=>m = xs.length - i ∧ i ≤ xs.length ∧ Pv i σ H,⟨xs.length,by simp,Nat.zero_le _,h0⟩,?_⟩
 rintro i m σ H ⟨rfl,hi,p⟩
 have q := hl i σ H hi p
 by_cases hlt : i < xs.length
 ·refine .inr ⟨⟨xs,xs[i],q,by simp [hlt]⟩,Pv (i + 1),fun σ' H' p'=>⟨xs.length - (i + 1),by omega,rfl,hlt,p'⟩,fun x H' y=>?_⟩
  obtain ⟨e,y⟩ := y
  subst e
  exact hs i x σ _ (y xs q) p
 ·have e : i = xs.length := by omega
  subst e
  exact .inl ⟨⟨xs,q,Nat.le_refl _⟩,hd σ H p⟩
theorem pI {K : PySem.W.Frag} {a : Addr} {xs : List V} {g : TG} {tb : TS} {D : iB} {σ : St} {H : Hp} (Pv : Nat → St → Hp → Prop) (h0 : Pv 0 σ H) (hl : ∀ i σ H,i ≤ xs.length → Pv i σ H → SqT K H a xs)
  (hs : ∀ i x σ H,xs[i]? = some x → Pv i σ H → g x σ H fun σ2 H2=>tb { D with nx := Pv (i + 1),ct := Pv (i + 1),bk := D.nx } σ2 H2) (hd : ∀ σ H,Pv xs.length σ H → D.nx σ H) :
  ∃ W : Nat → Nat → St → Hp → Prop,(∃ m,W 0 m σ H) ∧ ∀ i m σ H,W i m σ H →
   ((wH K a).stop i H ∧ D.nx σ H) ∨ ((wH K a).go i H ∧ ∃ N : St → Hp → Prop,(∀ σ' H',N σ' H' → ∃ m',m' < m ∧ W (i + 1) m' σ' H') ∧ ∀ x H',(wH K a).yld i H x H' → g x σ H' fun σ2 H2=>tb { D with nx := N,ct := N,bk := D.nx } σ2 H2) := by
 refine ⟨fun i m σ H=>m = xs.length - i ∧ i ≤ xs.length ∧ Pv i σ H,⟨xs.length,by simp,Nat.zero_le _,h0⟩,?_⟩
 rintro i m σ H ⟨rfl,hi,p⟩
 have q := hl i σ H hi p
 by_cases hlt : i < xs.length
 ·refine .inr ⟨⟨xs,xs[i],q,by simp [hlt]⟩,Pv (i + 1),fun σ' H' p'=>⟨xs.length - (i + 1),by omega,rfl,hlt,p'⟩,fun x H' y=>?_⟩
  obtain ⟨e,y⟩ := y
  subst e
  exact hs i x σ _ (y xs q) p
 ·have e : i = xs.length := by omega
  subst e
  exact .inl ⟨⟨xs,q,Nat.le_refl _⟩,hd σ H p⟩
theorem Y7 {lo : Int} {n : Nat} {g : TG} {tb : TS} {D : iB} {σ : St} {H : Hp} (Pv : Nat → St → Hp → Prop) (h0 : Pv 0 σ H)
  (hs : ∀ i σ H,i < n → Pv i σ H → g (.int (lo + i)) σ H fun σ2 H2=>tb { D with nx := Pv (i + 1),ct := Pv (i + 1),bk := D.nx } σ2 H2) (hd : ∀ σ H,Pv n σ H → D.nx σ H) :
  ∃ W : Nat → Nat → St → Hp → Prop,(∃ m,W 0 m σ H) ∧ ∀ i m σ H,W i m σ H →
   ((uH lo n).stop i H ∧ D.nx σ H) ∨ ((uH lo n).go i H ∧ ∃ N : St → Hp → Prop,(∀ σ' H',N σ' H' → ∃ m',m' < m ∧ W (i + 1) m' σ' H') ∧ ∀ x H',(uH lo n).yld i H x H' → g x σ H' fun σ2 H2=>tb { D with nx := N,ct := N,bk := D.nx } σ2 H2) := by
 refine ⟨fun i m σ H=>m = n - i ∧ i ≤ n ∧ Pv i σ H,⟨n,by simp,Nat.zero_le _,h0⟩,?_⟩
 rintro i m σ H ⟨rfl,hi,p⟩
 by_cases hlt : i < n
 ·refine .inr ⟨hlt,Pv (i + 1),fun σ' H' p'=>⟨n - (i + 1),by omega,rfl,hlt,p'⟩,fun x H' y=>?_⟩
  obtain ⟨e,y⟩ := y
  subst e y
  exact hs i σ _ hlt p
 ·have e : i = n := by omega
  subst e
  exact .inl ⟨Nat.le_refl _,hd σ H p⟩
end L2
namespace L2
open PySem PySem.Spec PyProof.Rows
abbrev R2 := V → V → Hp → VK → Prop
def S8 (X : Cx) (f : Value → Value → Sem Value) (r : R2) : Prop :=
 ∀ (pins : List (Addr × Obj)) (s : Shared) (σ : St) (H : Hp) (x y : V) (v u : Value) (Q : VK),Inv X pins σ H s → RelV x v → RelV y u → r x y H Q →
  wpAny (model X.prog X.w) X.A (f v u) (EP X pins σ Q) X.xe s
def UnR (X : Cx) (f : Value → Sem Value) (r : V → Hp → VK → Prop) : Prop :=
 ∀ (pins : List (Addr × Obj)) (s : Shared) (σ : St) (H : Hp) (x : V) (v : Value) (Q : VK),Inv X pins σ H s → RelV x v → r x H Q →
  wpAny (model X.prog X.w) X.A (f v) (EP X pins σ Q) X.xe s
def T3 (X : Cx) (f : Value) (r : List V → Hp → VK → Prop) : Prop :=
 ∀ (pins : List (Addr × Obj)) (s : Shared) (σ : St) (H : Hp) (xs : List V) (us : List Value) (Q : VK),Inv X pins σ H s → Vals xs us → r xs H Q →
  wpAny (model X.prog X.w) X.A (call f us) (EP X pins σ Q) X.xe s
def iG (r : R2) (ta tb : TE) : TE := fun σ H Q=>ta σ H fun x H1=>tb σ H1 fun y H2=>r x y H2 Q
def tUn (r : V → Hp → VK → Prop) (ta : TE) : TE := fun σ H Q=>ta σ H fun x H1=>r x H1 Q
def rI (C : Int → Int → Prop) (g : Int → Int → V) : R2 := fun x y H Q=>∃ i j,x = .int i ∧ y = .int j ∧ C i j ∧ Q (g i j) H
def vE (g : Int → Int → V) : R2 := fun x y H Q=>∃ i j,x = .int i ∧ y = .int j ∧ Q (g i j) H
def rU (g : Int → V) : V → Hp → VK → Prop := fun x H Q=>∃ i,x = .int i ∧ Q (g i) H
section
variable {X : Cx} {a b c : Expr} {ta tb tc : TE} {pos : Pos}
theorem AJ1 (ha : PE X a ta) (hb : PE X b tb) {pins : List (Addr × Obj)} {s : Shared} {σ : St} {H : Hp} {R : V → V → Hp → Prop} (I : Inv X pins σ H s)
  (h : ta σ H fun x H1=>tb σ H1 fun y H2=>R x y H2) {Q : Value → Shared → Prop} {f : Value → Value → Sem Value}
  (hf : ∀ v u s2 x y H2,Inv X pins σ H2 s2 → RelV x v → RelV y u → R x y H2 → wpAny (model X.prog X.w) X.A (f v u) Q X.xe s2) :
  wpAny (model X.prog X.w) X.A (eval a X.env) (fun v s₁=>wpAny (model X.prog X.w) X.A (eval b X.env) (fun u s₂=>wpAny (model X.prog X.w) X.A (f v u) Q X.xe s₂) X.xe s₁) X.xe s := by
 refine G1 (ha pins s σ H _ I h) fun v s1 ⟨x,H1,I1,r1,q1⟩=>?_
 refine G1 (hb pins s1 σ H1 _ I1 q1) fun u s2 ⟨y,H2,I2,r2,q2⟩=>?_
 exact hf v u s2 x y H2 I2 r1 r2 q2
theorem E6 {op : Operator} {r : R2} (ho : S8 X (binaryOp op) r) (ha : PE X a ta) (hb : PE X b tb) : PE X (.BinOp a op b pos) (iG r ta tb) := by
 intro pins s σ H Q I h
 exact wpAny_BinOp (AJ1 ha hb I h fun v u s2 x y H2 I2 rx ry q=>ho pins s2 σ H2 x y v u Q I2 rx ry q)
theorem rN {op : UnaryOp} {r : V → Hp → VK → Prop} (ho : UnR X (unaryOp op) r) (ha : PE X a ta) : PE X (.UnaryOp op a pos) (tUn r ta) := by
 intro pins s σ H Q I h
 exact UnaryOp_ (G1 (ha pins s σ H _ I h) fun v s1 ⟨x,H1,I1,r1,q1⟩=>ho pins s1 σ H1 x v Q I1 r1 q1)
theorem opI {f : Value → Value → Sem Value} {C : Int → Int → Prop} {g : Int → Int → Int}
  (rule : ∀ (i j : Int) (t u : Tok) (s : Shared) (Q : Value → Shared → Prop) (E : Value → Shared → Prop),C i j → Q (.int (g i j) s.toks) { s with toks := s.toks + 1 } → wpAny (model X.prog X.w) X.A (f (.int i t) (.int j u)) Q E s) :
  S8 X f (rI C fun i j=>.int (g i j)) := by
 intro pins s σ H x y v u Q I rx ry h
 obtain ⟨i,j,rfl,rfl,hc,q⟩ := h
 obtain ⟨t,rfl⟩ := rx
 obtain ⟨t',rfl⟩ := ry
 exact rule i j t t' s _ _ hc ⟨.int (g i j),H,I.tok _,⟨_,rfl⟩,q⟩
theorem AX7 {f : Value → Value → Sem Value} {g : Int → Int → Int}
  (rule : ∀ (i j : Int) (t u : Tok) (s : Shared) (Q : Value → Shared → Prop) (E : Value → Shared → Prop),Q (.int (g i j) s.toks) { s with toks := s.toks + 1 } → wpAny (model X.prog X.w) X.A (f (.int i t) (.int j u)) Q E s) :
  S8 X f (vE fun i j=>.int (g i j)) := by
 intro pins s σ H x y v u Q I rx ry h
 obtain ⟨i,j,rfl,rfl,q⟩ := h
 obtain ⟨t,rfl⟩ := rx
 obtain ⟨t',rfl⟩ := ry
 exact rule i j t t' s _ _ ⟨.int (g i j),H,I.tok _,⟨_,rfl⟩,q⟩
theorem AX8 {f : Value → Value → Sem Value} {g : Int → Int → Bool}
  (rule : ∀ (i j : Int) (t u : Tok) (s : Shared) (Q : Value → Shared → Prop) (E : Value → Shared → Prop),Q (.bool (g i j)) s → wpAny (model X.prog X.w) X.A (f (.int i t) (.int j u)) Q E s) :
  S8 X f (vE fun i j=>.bl (g i j)) := by
 intro pins s σ H x y v u Q I rx ry h
 obtain ⟨i,j,rfl,rfl,q⟩ := h
 obtain ⟨t,rfl⟩ := rx
 obtain ⟨t',rfl⟩ := ry
 exact rule i j t t' s _ _ ⟨.bl (g i j),H,I,rfl,q⟩
def BM5 (i j : Int) : Prop := 0 < j ∧ j < 1073741824
def BM4 (i j : Int) : Prop := 0 ≤ j ∧ j ≤ 1000000 ∧ i.natAbs < 2 ^ 64
def CMul (i j : Int) : Prop := (-(2 ^ 64) < i ∧ i < 2 ^ 64) ∨ (-(2 ^ 64) < j ∧ j < 2 ^ 64)
theorem CMul.ok {i j : Int} (h : CMul i j) : IntMulOk i j := by
 rcases h with ⟨h1,h2⟩ | ⟨h1,h2⟩
 ·exact .of_left (intBits_le_64 h1 h2)
 ·exact .of_right (intBits_le_64 h1 h2)
theorem Q2 : S8 X (binaryOp .Add) (vE fun i j=>.int (i + j)) := AX7 fun _ _ _ _ _ _ _ q=>add_int q
theorem Z3 : S8 X (binaryOp .Sub) (vE fun i j=>.int (i - j)) := AX7 fun _ _ _ _ _ _ _ q=>sub_int q
theorem mL : S8 X (binaryOp .Mult) (rI CMul fun i j=>.int (i * j)) := opI fun _ _ _ _ _ _ _ hc q=>mul_int q hc.ok
theorem vM : S8 X (binaryOp .FloorDiv) (rI BM5 fun i j=>.int (i / j)) := opI fun i j _ _ _ _ _ hc q=>by
 have h1 : (0 : Int) < j := hc.1
 have h2 : j < 1073741824 := hc.2
 exact floordiv_int (by omega) (by rw [Int.fdiv_eq_ediv_of_nonneg i (by omega)]; exact q) (.inl (PyProof.noPylong_small (by omega)))
theorem Z4 : S8 X (binaryOp .Mod) (rI (fun _ j=>0 < j) fun i j=>.int (i % j)) := opI fun i j _ _ _ _ _ hc q=>by
 have h1 : (0 : Int) < j := hc
 exact mod_int' (by omega) (by rw [Int.fmod_eq_emod_of_nonneg i (by omega)]; exact q)
theorem iU : S8 X (binaryOp .Pow) (rI BM4 fun i j=>.int (i ^ j.toNat)) := opI fun _ _ _ _ _ _ _ hc q=>pow_int_small hc.1 hc.2.1 hc.2.2 q
theorem unI {f : Value → Sem Value} {g : Int → Int}
  (rule : ∀ (i : Int) (t : Tok) (s : Shared) (Q : Value → Shared → Prop) (E : Value → Shared → Prop),Q (.int (g i) s.toks) { s with toks := s.toks + 1 } → wpAny (model X.prog X.w) X.A (f (.int i t)) Q E s) :
  UnR X f (rU fun i=>.int (g i)) := by
 intro pins s σ H x v Q I rx h
 obtain ⟨i,rfl,q⟩ := h
 obtain ⟨t,rfl⟩ := rx
 exact rule i t s _ _ ⟨.int (g i),H,I.tok _,⟨_,rfl⟩,q⟩
theorem lV : UnR X (unaryOp .USub) (rU fun i=>.int (-i)) := unI fun _ _ _ _ _ q=>neg_int q
end
def AV4 : V → V → Bool
 | .non,.non=>true | .non,.int _=>true | .int _,.non=>true | .non,.bl _=>true | .bl _,.non=>true | .non,.str _=>true | .str _,.non=>true
 | .int _,.int _=>true | .bl _,.bl _=>true | .str _,.str _=>true | .byt _,.byt _=>true
 | .int _,.str _=>true | .str _,.int _=>true | .bl _,.str _=>true | .str _,.bl _=>true
 | _,_=>false
def rEq : R2 := fun x y H Q=>AV4 x y = true ∧ Q (.bl (decide (x = y))) H
def rNe : R2 := fun x y H Q=>AV4 x y = true ∧ Q (.bl (!decide (x = y))) H
theorem wB {i j : Int} : decide (V.int i = V.int j) = (i == j) := by
 rw [Bool.eq_iff_iff]
 simp
theorem AA6 {i j : Bool} : decide (V.bl i = V.bl j) = (i == j) := by
 rw [Bool.eq_iff_iff]
 simp
theorem wA {i j : Str} : decide (V.str i = V.str j) = (i == j) := by
 rw [Bool.eq_iff_iff]
 simp
theorem wC {i j : Array UInt8} : decide (V.byt i = V.byt j) = (i.toList == j.toList) := by
 rw [Bool.eq_iff_iff]
 cases i
 cases j
 simp
section
variable {X : Cx} {a b c : Expr} {ta tb tc : TE} {pos : Pos}
theorem K2 {pins : List (Addr × Obj)} {σ : St} {H : Hp} {s : Shared} {Q : VK} {k k' : Bool} (I : Inv X pins σ H s) (q : Q (.bl k) H) (e : k = k') : EP X pins σ Q (.bool k') s := by
 subst e
 exact ⟨.bl k,H,I,rfl,q⟩
theorem G7 : S8 X (compareOp .Eq) rEq := by
 intro pins s σ H x y v u Q I rx ry h
 obtain ⟨hs,q⟩ := h
 cases x with
 | non =>
  cases rx
  cases y with
  | non=>cases ry; exact PySem.EqNone.eq_none_none (K2 I q (by simp))
  | bl j=>cases ry; exact PySem.EqNone.eq_none_bool (K2 I q (by simp))
  | int j=>obtain ⟨t',rfl⟩ := ry; exact PySem.EqNone.eq_none_int (K2 I q (by simp))
  | str j=>obtain ⟨t',rfl⟩ := ry; exact PySem.EqNone.eq_none_str (K2 I q (by simp))
  | _=>exact absurd (show false = true from hs) Bool.false_ne_true
 | bl i =>
  cases rx
  cases y with
  | non=>cases ry; exact PySem.EqNone.eq_bool_none (K2 I q (by simp))
  | bl j=>cases ry; exact eq_bool (K2 I q AA6)
  | str j=>obtain ⟨t',rfl⟩ := ry; exact PySem.EqMixed.eq_bool_str (K2 I q (by simp))
  | _=>exact absurd (show false = true from hs) Bool.false_ne_true
 | int i =>
  obtain ⟨t,rfl⟩ := rx
  cases y with
  | non=>cases ry; exact PySem.EqNone.eq_int_none (K2 I q (by simp))
  | int j=>obtain ⟨t',rfl⟩ := ry; exact eq_int (K2 I q wB)
  | str j=>obtain ⟨t',rfl⟩ := ry; exact PySem.EqMixed.eq_int_str (K2 I q (by simp))
  | _=>exact absurd (show false = true from hs) Bool.false_ne_true
 | str i =>
  obtain ⟨t,rfl⟩ := rx
  cases y with
  | non=>cases ry; exact PySem.EqNone.eq_str_none (K2 I q (by simp))
  | bl j=>cases ry; exact PySem.EqMixed.eq_str_bool (K2 I q (by simp))
  | int j=>obtain ⟨t',rfl⟩ := ry; exact PySem.EqMixed.eq_str_int (K2 I q (by simp))
  | str j=>obtain ⟨t',rfl⟩ := ry; exact eq_str (K2 I q wA)
  | _=>exact absurd (show false = true from hs) Bool.false_ne_true
 | byt i =>
  obtain ⟨t,rfl⟩ := rx
  cases y with
  | byt j=>obtain ⟨t',rfl⟩ := ry; exact PySem.W.eq_bytes (K2 I q wC)
  | _=>exact absurd (show false = true from hs) Bool.false_ne_true
 | _=>cases y <;> exact absurd (show false = true from hs) Bool.false_ne_true
theorem kH : S8 X (compareOp .NotEq) rNe := by
 intro pins s σ H x y v u Q I rx ry h
 obtain ⟨hs,q⟩ := h
 cases x with
 | non =>
  cases rx
  cases y with
  | non=>cases ry; exact PySem.EqNone.ne_none_none (K2 I q (by simp))
  | bl j=>cases ry; exact PySem.EqNone.ne_none_bool (K2 I q (by simp))
  | int j=>obtain ⟨t',rfl⟩ := ry; exact PySem.EqNone.ne_none_int (K2 I q (by simp))
  | str j=>obtain ⟨t',rfl⟩ := ry; exact PySem.EqNone.ne_none_str (K2 I q (by simp))
  | _=>exact absurd (show false = true from hs) Bool.false_ne_true
 | bl i =>
  cases rx
  cases y with
  | non=>cases ry; exact PySem.EqNone.ne_bool_none (K2 I q (by simp))
  | bl j=>cases ry; exact ne_bool (K2 I q (congrArg not AA6))
  | str j=>obtain ⟨t',rfl⟩ := ry; exact PySem.EqMixed.ne_bool_str (K2 I q (by simp))
  | _=>exact absurd (show false = true from hs) Bool.false_ne_true
 | int i =>
  obtain ⟨t,rfl⟩ := rx
  cases y with
  | non=>cases ry; exact PySem.EqNone.ne_int_none (K2 I q (by simp))
  | int j=>obtain ⟨t',rfl⟩ := ry; exact ne_int (K2 I q (congrArg not wB))
  | str j=>obtain ⟨t',rfl⟩ := ry; exact PySem.EqMixed.ne_int_str (K2 I q (by simp))
  | _=>exact absurd (show false = true from hs) Bool.false_ne_true
 | str i =>
  obtain ⟨t,rfl⟩ := rx
  cases y with
  | non=>cases ry; exact PySem.EqNone.ne_str_none (K2 I q (by simp))
  | bl j=>cases ry; exact PySem.EqMixed.ne_str_bool (K2 I q (by simp))
  | int j=>obtain ⟨t',rfl⟩ := ry; exact PySem.EqMixed.ne_str_int (K2 I q (by simp))
  | str j=>obtain ⟨t',rfl⟩ := ry; exact ne_str (K2 I q (congrArg not wA))
  | _=>exact absurd (show false = true from hs) Bool.false_ne_true
 | byt i =>
  obtain ⟨t,rfl⟩ := rx
  cases y with
  | byt j=>obtain ⟨t',rfl⟩ := ry; exact PySem.W.ne_bytes (K2 I q (congrArg not wC))
  | _=>exact absurd (show false = true from hs) Bool.false_ne_true
 | _=>cases y <;> exact absurd (show false = true from hs) Bool.false_ne_true
theorem aH : S8 X (compareOp .Lt) (vE fun i j=>.bl (decide (i < j))) := AX8 fun _ _ _ _ _ _ _ q=>lt_int q
theorem bF : S8 X (compareOp .Gt) (vE fun i j=>.bl (decide (j < i))) := AX8 fun _ _ _ _ _ _ _ q=>gt_int q
theorem zA : S8 X (compareOp .In) (fun x y H Q=>∃ i j,x = .str i ∧ y = .str j ∧ Q (.bl (!(Builtin.Str.occurrences j i 0 j.length 1).isEmpty)) H) := by
 intro pins s σ H x y v u Q I rx ry h
 obtain ⟨i,j,rfl,rfl,q⟩ := h
 obtain ⟨t,rfl⟩ := rx
 obtain ⟨t',rfl⟩ := ry
 exact in_str (K2 I q rfl)
theorem pA : S8 X (compareOp .IsNot) (fun x y H Q=>y = .non ∧ Q (.bl (!decide (x = .non))) H) := by
 intro pins s σ H x y v u Q I rx ry h
 obtain ⟨rfl,q⟩ := h
 cases ry
 refine isnot_none_gen (K2 I q ?_)
 cases x <;> first
  | (cases rx; rfl)
  | (obtain ⟨t,rfl⟩ := rx; rfl)
theorem D5 (b : Expr) {op : CmpOp} (h : op ≠ .In := by decide) (h2 : op ≠ .NotIn := by decide) : behindInMarks op b = false := by
 have e1 : (op == CmpOp.In) = false := by cases op <;> first | rfl | exact absurd rfl h
 have e2 : (op == CmpOp.NotIn) = false := by cases op <;> first | rfl | exact absurd rfl h2
 cases b <;> simp [behindInMarks,e1,e2]
theorem Q6 {op : CmpOp} {r : R2} (ho : S8 X (compareOp op) r) (ha : PE X a ta) (hb : PE X b tb) (hm : behindInMarks op b = false) : PE X (.Compare a [op] [b] pos) (iG r ta tb) := by
 intro pins s σ H Q I h
 exact wpAny_Compare1 (AJ1 ha hb I h fun v u s2 x y H2 I2 rx ry q=>ho pins s2 σ H2 x y v u Q I2 rx ry q) hm
def BE2 (t : TE) : TT := fun σ H Q=>t σ H fun x H'=>∃ k,x = .bl k ∧ Q k H'
theorem B8 {op : CmpOp} {r : R2} (ho : S8 X (compareOp op) r) (ha : PE X a ta) (hb : PE X b tb) (hm : behindInMarks op b = false) : PT X (.Compare a [op] [b] pos) (BE2 (iG r ta tb)) := by
 intro pins s σ H Q I h
 refine wpAny_isTrue_Compare1 (G1 (ha pins s σ H _ I h) fun v s1 ⟨x,H1,I1,r1,q1⟩=>G1 (hb pins s1 σ H1 _ I1 q1) fun u s2 ⟨y,H2,I2,r2,q2⟩ =>
  G1 (ho pins s2 σ H2 x y v u _ I2 r1 r2 q2) fun c s3 ⟨z,H3,I3,r3,k,e,q3⟩=>?_) hm
 subst e
 cases r3
 exact wpAny_truthy_bool ⟨H3,I3,q3⟩
def AV0 (r r' : R2) (ta tb tc : TE) : TE := fun σ H Q=>ta σ H fun x H1=>tb σ H1 fun y H2=>r x y H2 fun z H3=>∃ k,z = .bl k ∧
 (if k = true then tc σ H3 fun w' H4=>r' y w' H4 Q else Q (.bl false) H3)
theorem gO {op op' : CmpOp} {r r' : R2} (ho : S8 X (compareOp op) r) (ho' : S8 X (compareOp op') r') (ha : PE X a ta) (hb : PE X b tb) (hc : PE X c tc)
  (hm : lastMarks [op,op'] [b,c] = false := by with_unfolding_all rfl) : PE X (.Compare a [op,op'] [b,c] pos) (AV0 r r' ta tb tc) := by
 intro pins s σ H Q I h
 refine Compare_chain (G1 (ha pins s σ H _ I h) fun v s1 ⟨x,H1,I1,r1,q1⟩=>chain_link (G1 (hb pins s1 σ H1 _ I1 q1) fun u s2 ⟨y,H2,I2,r2,q2⟩ =>
  G1 (ho pins s2 σ H2 x y v u _ I2 r1 r2 q2) fun d s3 ⟨z,H3,I3,r3,k,e,q3⟩=>?_)) hm
 subst e
 cases r3
 refine wpAny_truthy_bool ?_
 cases k with
 | false=>exact ite_ff ⟨.bl false,H3,I3,rfl,q3⟩
 | true=>exact ite_tt (chain_last (G1 (hc pins s3 σ H3 _ I3 q3) fun w' s4 ⟨z',H4,I4,r4,q4⟩=>ho' pins s4 σ H4 y z' u w' Q I4 r2 r4 q4))
theorem fT : (sizeLine : Nat) < 2 ^ 63 := by rw [sizeLine_eq]; decide
theorem U1 : S8 X (binaryOp .Add) (fun x y H Q=>∃ i j,x = .str i ∧ y = .str j ∧ i.length + j.length ≤ sizeLine ∧ Q (.str (i ++ j)) H) := by
 intro pins s σ H x y v u Q I rx ry h
 obtain ⟨i,j,rfl,rfl,hz,q⟩ := h
 obtain ⟨t,rfl⟩ := rx
 obtain ⟨t',rfl⟩ := ry
 exact add_str (fun t' tk=>⟨.str (i ++ j),H,I.tok _,⟨_,rfl⟩,q⟩) hz
theorem eJ : S8 X (inplaceOp .Add) (fun x y H Q=>∃ i j,x = .str i ∧ y = .str j ∧ i.length + j.length ≤ sizeLine ∧ Q (.str (i ++ j)) H) := by
 intro pins s σ H x y v u Q I rx ry h
 obtain ⟨i,j,rfl,rfl,hz,q⟩ := h
 obtain ⟨t,rfl⟩ := rx
 obtain ⟨t',rfl⟩ := ry
 exact iadd_str (fun t' tk=>⟨.str (i ++ j),H,I.tok _,⟨_,rfl⟩,q⟩) hz
theorem gC {x : V} {us : List Value} (r : Vals [x] us) : ∃ u,us = [u] ∧ RelV x u := by
 cases r with
 | cons r1 r2=>cases r2; exact ⟨_,rfl,r1⟩
theorem qX {x y : V} {us : List Value} (r : Vals [x,y] us) : ∃ u w',us = [u,w'] ∧ RelV x u ∧ RelV y w' := by
 cases r with
 | cons r1 r2 =>
  cases r2 with
  | cons r3 r4=>cases r4; exact ⟨_,_,rfl,r1,r3⟩
theorem AA9 (hc : X.calm = true) : T3 X (.builtin "max") (fun xs H Q=>∃ i j,xs = [.int i,.int j] ∧ Q (.int (if j > i then j else i)) H) := by
 intro pins s σ H xs us Q I r h
 obtain ⟨i,j,rfl,q⟩ := h
 obtain ⟨u,w',rfl,⟨t,rfl⟩,⟨t',rfl⟩⟩ := qX r
 refine max_two_ints (I.ok.hd hc) fun h' tk k=>⟨_,H,I.kept k,?_,q⟩
 by_cases hj : j > i
 ·rw [if_pos hj,if_pos hj]; exact ⟨_,rfl⟩
 ·rw [if_neg hj,if_neg hj]; exact ⟨_,rfl⟩
theorem AI9 : T3 X (.builtin "ord") (fun xs H Q=>∃ x,xs = [.str x] ∧ x.length = 1 ∧ Q (.int (x.cps.getD 0 0 : Nat)) H) := by
 intro pins s σ H xs us Q I r h
 obtain ⟨x,rfl,hz,q⟩ := h
 obtain ⟨u,rfl,t,rfl⟩ := gC r
 exact ord_of_one hz ⟨.int _,H,I.tok _,⟨_,rfl⟩,q⟩
end
end L2
namespace L2
open PySem PySem.Spec PyProof.Rows
structure ObjM (h : Heap) (x dx C : Addr) (mA : Str → Option Value) : Prop where
 obj : h.get? x = some (PySem.W.instObj C dx)
 ns : h.Ns1 dx mA
 ne : dx ≠ x
theorem zL {h : Heap} {dx : Addr} {mA : Str → Option Value} (n : h.Ns1 dx mA) : ∃ od,h.get? dx = some od ∧ ∀ name,PySem.W.lookIn name od = some (mA name) := by
 obtain ⟨o,es,ep,ho,hd,hk,_,hm⟩ := n
 refine ⟨o,ho,fun name=>?_⟩
 have e := hm name
 unfold nsFind findBy at e
 rw [← Array.find?_toList] at e
 unfold PySem.W.lookIn
 rw [hd]
 dsimp only
 split
 ·rename_i y q
  rw [q] at e
  exact congrArg some e
 ·rename_i q
  rw [q] at e
  have a : es.toList.any (·.refKey) = false := by
   rw [List.any_eq_false]
   intro y hy
   obtain ⟨z,t,hkey⟩ := hk y (Array.mem_toList_iff.mp hy)
   simp [DictEntry.refKey,hkey]
  have a' : ¬ es.toList.any (·.refKey) = true := by rw [a]; exact Bool.false_ne_true
  rw [if_neg a']
  exact congrArg some e
theorem ObjM.look {h : Heap} {x dx C : Addr} {mA : Str → Option Value} (I : ObjM h x dx C mA) : ∃ od,PySem.W.InstAt h x (PySem.W.instObj C dx) C (some od) ∧ ∀ name,PySem.W.lookIn name od = some (mA name) :=
 let ⟨od,ho,hl⟩ := zL I.ns
 ⟨od,⟨I.obj,rfl,rfl,ho⟩,hl⟩
section
variable {prog : Program} {w : World} {A : Around} {E : Value → Shared → Prop} {s : Shared} {K : PySem.W.Frag} {x dx C f : Addr} {mA : Str → Option Value} {name : Str} {v : Value}
theorem AT1 {expr : Bool} {Q : Value → Shared → Prop} (X : K.In s.heap) (I : ObjM s.heap x dx C mA) (hg : PySem.W.plainGet K C name = true) (hh : PySem.W.hasDictIn K C = true)
  (ha : PySem.W.findIn K (.ref C) name = some none) (hv : mA name = some v) (hv' : PySem.W.handedIn v = true) (h : Q v { s with toks := s.toks + 1 }) :
  wpAny (model prog w) A (getAttr (.ref x) name expr) Q E s := by
 obtain ⟨od,J,hl⟩ := I.look
 exact PySem.W.get_value X J (PySem.W.plainGet_of hg).1 (PySem.W.findObj_own hh ha rfl (by rw [hl,hv])) hv' h
theorem AH6 {pl : Sem Bool} {Q : Value × List Value → Shared → Prop} (X : K.In s.heap) (I : ObjM s.heap x dx C mA) (hg : PySem.W.plainGet K C name = true)
  (hf : PySem.W.findIn K (.ref C) name = some (some (.ref f))) (ht : PySem.W.isFn K (.ref f) = true) (hv : mA name = none) (h : Q (.ref f,[.ref x]) s) :
  wpAny (model prog w) A (getMethod (.ref x) name pl) Q E s := by
 obtain ⟨od,J,hl⟩ := I.look
 exact PySem.W.method_fn X J (PySem.W.plainGet_of hg).1 (PySem.W.plainGet_of hg).2 hf (beq_iff_eq.mp ht) (by show (PySem.W.lookIn name od).map (·.isSome) = some false; rw [hl,hv]; rfl) h
theorem AO8 {ns : List Str} {Q : Unit → Shared → Prop} (X : K.In s.heap) (I : ObjM s.heap x dx C mA)
  (hs : PySem.W.findIn K (.ref C) "__setattr__" = some (some (.builtin "object.__setattr__"))) (hp : PySem.W.plainOver K C = true) (ht : PySem.W.takerIn K C name = some none) (hh : PySem.W.hasDictIn K C = true)
  (hw : PySem.Within mA ns) (hsz : ns.length ≤ sizeLine)
  (h : ∀ h',ObjM h' x dx C (fun y=>if y = name then some v else mA y) → Heap.SameBut dx s.heap h' → Q () { s with heap := h',toks := s.toks + 2 }) :
  wpAny (model prog w) A (setAttr (.ref x) name v) Q E s := by
 obtain ⟨od,J,hl⟩ := I.look
 refine PySem.W.set_plain X J hs (PySem.W.osa_open (s := { s with toks := s.toks + 1 }) (r := none) X J hp ht fun b=>?_)
 obtain ⟨cd,hc,hd'⟩ := PySem.W.any_some hh
 have hx : s.heap.get? x = some ⟨.ref C,some dx,.plain,#[]⟩ := I.obj
 refine wpAny_bind (wpAny_pure (wpAny_bind (wpAny_bind (wpAny_loadPart hx (wpAny_bind (PySem.W.Looks.here (s := { s with toks := s.toks + 1 }) (PySem.W.looks_clsIn X hc) ?_))))))
 rw [hd']
 refine wpAny_pure (a := some dx) (wpAny_bind (wpAny_pure (wpAny_bind ?_)))
 refine wpAny_nsSet1 (s := { s with toks := s.toks + 1 }) I.ns fun h' hn2 hs2=>?_
 obtain ⟨oD,esD,epD,hoD,hdD,hcD⟩ := hn2.count (PySem.Within.cons name v hw)
 refine wpAny_bind (wpAny_lookBehind hoD (by rw [hdD]; exact pastItsLine_dict (Nat.le_trans hcD (by rw [List.length_cons]; omega))) ?_)
 exact wpAny_pure (h _ ⟨(hs2.2 _ (Ne.symm I.ne)).trans I.obj,hn2,I.ne⟩ hs2)
theorem AG3 {R : Result → Shared → Prop} {vs : List Value} {kw : List (Str × Value)} (X : K.In s.heap) (hm : PySem.W.makesIn K C = true)
  (hi : PySem.W.findIn K (.ref C) "__init__" = some (some (.ref f))) (hf : PySem.W.typeIn K (.ref f) = some (.type "function"))
  (h : codeAny (model prog w) (A.under (.builtin "type.__call__" ⟨.ref C :: vs,kw⟩)) (.call (.ref f) ⟨.ref (s.heap.objs.size + 1) :: vs,kw⟩) (PySem.W.InitBack (s.heap.objs.size + 1) R)
   { s with heap := (s.heap.push PySem.W.emptyDict).push (PySem.W.instObj C s.heap.objs.size) }) :
  codeAny (model prog w) A (.call (.ref C) ⟨vs,kw⟩) R s := by
 obtain ⟨hh,g,d,t,os⟩ := s
 exact PySem.W.make_core (PySem.W.makes_of X hm) (PySem.W.looks_findIn X hi) (fun self=>PySem.W.bind_fn X self hf) (.inl rfl) h
end
def V1 (f : Str) (v : V) : List (Str × V) → List (Str × V)
 | []=>[(f,v)]
 | (g,x) :: r=>if g = f then (g,v) :: r else (g,x) :: V1 f v r
theorem kN (f g : Str) (v : V) : ∀ fs : List (Str × V),(V1 f v fs).lookup g = if g = f then some v else fs.lookup g
 | []=>by
  show List.lookup g [(f,v)] = _
  by_cases h : g = f
  ·have hb : (g == f) = true := beq_iff_eq.mpr h
   simp only [List.lookup,hb,if_pos h]
  ·have hb : (g == f) = false := beq_eq_false_iff_ne.mpr h
   simp only [List.lookup,hb,if_neg h]
 | (k,x) :: r=>by
  have ih := kN f g v r
  rw [show V1 f v ((k,x) :: r) = (if k = f then (k,v) :: r else (k,x) :: V1 f v r) from rfl]
  by_cases hk : k = f
  ·rw [if_pos hk]
   by_cases h : g = k
   ·have hb : (g == k) = true := beq_iff_eq.mpr h
    simp only [List.lookup,hb,if_pos (h.trans hk)]
   ·have hb : (g == k) = false := beq_eq_false_iff_ne.mpr h
    simp only [List.lookup,hb,if_neg (fun e : g = f=>h (e.trans hk.symm))]
  ·rw [if_neg hk]
   by_cases h : g = k
   ·have hb : (g == k) = true := beq_iff_eq.mpr h
    simp only [List.lookup,hb,if_neg (fun e : g = f=>hk (h.symm.trans e))]
   ·have hb : (g == k) = false := beq_eq_false_iff_ne.mpr h
    simp only [List.lookup,hb]
    exact ih
theorem jD (f : Str) (v : V) : ∀ fs : List (Str × V),f ∈ (V1 f v fs).map (·.1) ∧ ∀ g,g ∈ fs.map (·.1) → g ∈ (V1 f v fs).map (·.1)
 | []=>⟨by simp [V1],fun g h=>by simp at h⟩
 | (k,x) :: r=>by
  obtain ⟨i1,i2⟩ := jD f v r
  rw [show V1 f v ((k,x) :: r) = (if k = f then (k,v) :: r else (k,x) :: V1 f v r) from rfl]
  by_cases hk : k = f
  ·rw [if_pos hk]
   subst hk
   exact ⟨by simp,fun g h=>by simpa using h⟩
  ·rw [if_neg hk]
   refine ⟨?_,fun g h=>?_⟩
   ·rw [List.map_cons]
    exact List.mem_cons_of_mem _ i1
   ·rw [List.map_cons] at h ⊢
    rcases List.mem_cons.mp h with e | e
    ·exact List.mem_cons.mpr (.inl e)
    ·exact List.mem_cons_of_mem _ (i2 g e)
theorem kO (f : Str) (v : V) : ∀ fs : List (Str × V),(V1 f v fs).length ≤ fs.length + 1
 | []=>by simp [V1]
 | (k,x) :: r=>by
  have ih := kO f v r
  rw [show V1 f v ((k,x) :: r) = (if k = f then (k,v) :: r else (k,x) :: V1 f v r) from rfl]
  by_cases hk : k = f
  ·rw [if_pos hk,List.length_cons,List.length_cons]; omega
  ·rw [if_neg hk,List.length_cons,List.length_cons]; omega
theorem RelO.some_of {v : V} {o : Option Value} (r : RelO (some v) o) : ∃ u,o = some u ∧ RelV v u := by
 cases o with
 | none=>exact (show False from r).elim
 | some u=>exact ⟨u,rfl,r⟩
theorem RelO.none_of {o : Option Value} (r : RelO none o) : o = none := by
 cases o with
 | none=>rfl
 | some u=>exact (show False from r).elim
theorem zW {v : V} {u : Value} (r : RelV v u) : PySem.W.handedIn u = true := by
 cases v with
 | non=>cases (show u = Value.none from r); rfl
 | bl b=>cases (show u = Value.bool b from r); rfl
 | int i=>obtain ⟨t,e⟩ := (show ∃ t,u = Value.int i t from r); cases e; rfl
 | str x=>obtain ⟨t,e⟩ := (show ∃ t,u = Value.str x t from r); cases e; rfl
 | byt b=>obtain ⟨t,e⟩ := (show ∃ t,u = Value.bytes b t from r); cases e; rfl
 | flt b=>obtain ⟨t,e⟩ := (show ∃ t,u = Value.float b t from r); cases e; rfl
 | ref a=>cases (show u = Value.ref a from r); rfl
 | ty n=>cases (show u = Value.type n from r); rfl
section
variable {P : Program} {w : World} {H H' : Hp} {h h' : Heap} {a C dx : Addr} {fs fs' : List (Str × V)}
theorem pH (hok : HOk P w H h) (e : H a = some (.ins C dx fs)) : ∃ mA,ObjM h a dx C mA ∧ (∀ f,RelO (fs.lookup f) (mA f)) ∧ PySem.Within mA (fs.map (·.1)) ∧ fs.length ≤ 1000 ∧ H dx = some (.own a) := by
 obtain ⟨d,z,ne,ob,mA,n,r,q⟩ := (show ObjOk P w H h a (.ins C dx fs) from hok a _ e)
 exact ⟨mA,⟨ob,n,ne⟩,r,q,z,d⟩
end
structure Cls (K : PySem.W.Frag) (C : Addr) : Prop where
 pg : PySem.W.plainGet K C Str.empty = true
 hd : PySem.W.hasDictIn K C = true
 po : PySem.W.plainOver K C = true
 sa : PySem.W.findIn K (.ref C) "__setattr__" = some (some (.builtin "object.__setattr__"))
theorem Cls.get {K : PySem.W.Frag} {C : Addr} (c : Cls K C) (f : Str) : PySem.W.plainGet K C f = true := c.pg
def NoAttr (K : PySem.W.Frag) (C : Addr) (f : Str) : Prop := PySem.W.findIn K (.ref C) f = some none
theorem NoAttr.taker {K : PySem.W.Frag} {C : Addr} {f : Str} (n : NoAttr K C f) : PySem.W.takerIn K C f = some none := by
 unfold PySem.W.takerIn
 rw [show PySem.W.findIn K (.ref C) f = some none from n]
 rfl
structure xT (K : PySem.W.Frag) (C : Addr) (m : Str) (f : Addr) : Prop where
 at_ : PySem.W.findIn K (.ref C) m = some (some (.ref f))
 fn : PySem.W.isFn K (.ref f) = true
 kp : PySem.W.keepIn K (.ref f) = true
section
variable {X : Cx} {pins : List (Addr × Obj)} {σ : St} {H : Hp} {s : Shared} {a C dx : Addr} {fs : List (Str × V)} {f : Str} {v : V} {A : Around} {E : Value → Shared → Prop}
theorem nC {b : Bool} {Q : Value → Shared → Prop} (I : Inv X pins σ H s) (e : H a = some (.ins C dx fs)) (c : Cls X.K C) (n : NoAttr X.K C f) (l : fs.lookup f = some v)
  (h : ∀ u s',Inv X pins σ H s' → RelV v u → Q u s') : wpAny (model X.prog X.w) A (getAttr (.ref a) f b) Q E s := by
 obtain ⟨mA,O,r,_,_,_⟩ := pH I.hok e
 obtain ⟨u,hu,ru⟩ := RelO.some_of (v := v) (o := mA f) (by rw [← l]; exact r f)
 exact AT1 I.kIn O (c.get f) c.hd n hu (zW ru) (h u _ (I.tok _) ru)
theorem nA {m : Str} {g : Addr} {pl : Sem Bool} {Q : Value × List Value → Shared → Prop} (I : Inv X pins σ H s) (e : H a = some (.ins C dx fs)) (c : Cls X.K C) (k : xT X.K C m g) (l : fs.lookup m = none)
  (h : Q (.ref g,[.ref a]) s) : wpAny (model X.prog X.w) A (getMethod (.ref a) m pl) Q E s := by
 obtain ⟨mA,O,r,_,_,_⟩ := pH I.hok e
 have hn : mA m = none := RelO.none_of (by rw [← l]; exact r m)
 exact AH6 I.kIn O (c.get m) k.at_ k.fn hn h
theorem mF {y : V} {u : Value} {Q : Unit → Shared → Prop} (I : Inv X pins σ H s) (e : H a = some (.ins C dx fs)) (c : Cls X.K C) (n : NoAttr X.K C f) (hl : fs.length < 1000) (ry : RelV y u)
  (h : ∀ s',Inv X pins σ (E7 H a (.ins C dx (V1 f y fs))) s' → Q () s') : wpAny (model X.prog X.w) A (setAttr (.ref a) f u) Q E s := by
 obtain ⟨mA,O,r,wi,_,ho⟩ := pH I.hok e
 have hz : (fs.map (·.1)).length ≤ sizeLine := by rw [List.length_map,sizeLine_eq]; omega
 refine AO8 I.kIn O c.sa c.po n.taker c.hd wi hz fun h' O' sb=>h _ ?_
 have hd : ∃ o,h'.get? dx = some o := let ⟨o,_,_,e',_⟩ := O'.ns; ⟨o,e'⟩
 refine I.write (x := a) (e := dx) (by rw [e]; exact True.intro) (.inr ho) (fun b q hb z=>(sb.2 b hb).trans z) hd ?_
 refine ⟨by rw [B6 O.ne]; exact ho,?_,O.ne,O'.obj,_,O'.ns,fun g=>?_,fun g hg=>?_⟩
 ·have := kO f y fs; omega
 ·show RelO ((V1 f y fs).lookup g) (if g = f then some u else mA g)
  rw [kN]
  by_cases q : g = f
  ·rw [if_pos q,if_pos q]; exact ry
  ·rw [if_neg q,if_neg q]; exact r g
 ·by_cases q : g = f
  ·rw [q]; exact (jD f y fs).1
  ·refine (jD f y fs).2 g (wi g fun z=>hg ?_)
   show (if g = f then some u else mA g) = none
   rw [if_neg q]; exact z
theorem Inv.made (I : Inv X pins σ H s) : Inv X pins σ (E7 (E7 H s.heap.objs.size (.own (s.heap.objs.size + 1))) (s.heap.objs.size + 1) (.ins C s.heap.objs.size []))
  { s with heap := (s.heap.push PySem.W.emptyDict).push (PySem.W.instObj C s.heap.objs.size) } := by
 have e1 : (s.heap.push PySem.W.emptyDict).get? s.heap.objs.size = some PySem.W.emptyDict := Heap.get?_push_size s.heap rfl
 have e2 : ((s.heap.push PySem.W.emptyDict).push (PySem.W.instObj C s.heap.objs.size)).get? (s.heap.objs.size + 1) = some (PySem.W.instObj C s.heap.objs.size) := by
  have := Heap.get?_push_size (s.heap.push PySem.W.emptyDict) (o := PySem.W.instObj C s.heap.objs.size) rfl
  rwa [Heap.size_push] at this
 have e3 : (s.heap.push PySem.W.emptyDict).Ns s.heap.objs.size (fun _=>none) := ⟨PySem.W.emptyDict,#[],_,e1,rfl,(fun e he=>absurd he (by simp)),fun _=>rfl⟩
 have I1 := I.laid (a := s.heap.objs.size) (o := .own (s.heap.objs.size + 1)) (h' := s.heap.push PySem.W.emptyDict) (t' := s.toks) (fun b u q=>Heap.get?_push_of_some _ q) (Nat.le_refl _) ⟨_,e1⟩
 refine I1.laid (a := s.heap.objs.size + 1) (o := .ins C s.heap.objs.size []) (t' := s.toks) (fun b u q=>Heap.get?_push_of_some _ q) (Nat.le_of_eq (Heap.size_push _ _)) ?_
 have ne : s.heap.objs.size ≠ s.heap.objs.size + 1 := Nat.ne_of_lt (Nat.lt_succ_self _)
 refine ⟨by rw [B6 ne,A6],Nat.zero_le _,ne,e2,fun _=>none,(Heap.Ns1.of_empty e3).at fun o q=>Heap.get?_push_of_some _ q,fun _=>True.intro,fun y hy=>absurd rfl hy⟩
theorem AU0 {prog : Program} {w : World} {env : Env} {e : Expr} {f : Str} {pos : Pos} {s : Shared} {Q : Value → Shared → Prop} (hb : attributeBase e f env (eval e env) = eval e env)
  (h : wpAny (model prog w) A (eval e env) (fun o s₁=>wpAny (model prog w) A (getAttr o f true) Q E s₁) E s) : wpAny (model prog w) A (eval (.Attribute e f pos) env) Q E s :=
 Attribute_any_ h (by rw [arm_eval_Attribute,hb])
end
def BJ5 (K : PySem.W.Frag) (ta : TE) (f : Str) : TE := fun σ H Q=>ta σ H fun x H1=>∃ a C dx fs v,x = .ref a ∧ H1 a = some (.ins C dx fs) ∧ Cls K C ∧ NoAttr K C f ∧ fs.lookup f = some v ∧ Q v H1
def BK0 (K : PySem.W.Frag) (ta tv : TE) (f : Str) : TS := fun D σ H=>tv σ H fun y H1=>ta σ H1 fun x H2=>∃ a C dx fs,x = .ref a ∧ H2 a = some (.ins C dx fs) ∧ Cls K C ∧ NoAttr K C f ∧ fs.length < 1000 ∧
 D.nx σ (E7 H2 a (.ins C dx (V1 f y fs)))
def BD4 (X : Cx) (op : Operator) (rd : V → V → Hp → VK → Prop) : Prop :=
 ∀ (pins : List (Addr × Obj)) (s : Shared) (σ : St) (H : Hp) (x y : V) (u v : Value) (Q : VK),Inv X pins σ H s → RelV x u → RelV y v → rd x y H Q → wpAny (model X.prog X.w) X.A (inplaceOp op u v) (EP X pins σ Q) X.xe s
def AP2 (K : PySem.W.Frag) (ta tv : TE) (rd : V → V → Hp → VK → Prop) (f : Str) : TS := fun D σ H=>ta σ H fun x H1=>∃ a C dx fs v,x = .ref a ∧ H1 a = some (.ins C dx fs) ∧ Cls K C ∧ NoAttr K C f ∧ fs.lookup f = some v ∧
 tv σ H1 fun y H2=>rd v y H2 fun z H3=>∃ dx' fs',H3 a = some (.ins C dx' fs') ∧ fs'.length < 1000 ∧ D.nx σ (E7 H3 a (.ins C dx' (V1 f z fs')))
section
variable {X : Cx} {o e value : Expr} {f : Str} {pos pos' tpos : Pos} {ta tv : TE}
theorem sT (he : PE X e ta) (hb : attributeBase e f X.env (eval e X.env) = eval e X.env) : PE X (.Attribute e f pos) (BJ5 X.K ta f) := by
 intro pins s σ H Q I h
 refine AU0 hb (G1 (he pins s σ H _ I h) fun u s1 ⟨x,H1,I1,rx,a,C,dx,fs,v,ex,ea,c,n,l,q⟩=>?_)
 subst ex
 obtain rfl : u = Value.ref a := rx
 exact nC I1 ea c n l fun u' s2 I2 ru=>⟨v,H1,I2,ru,q⟩
theorem yQ (ha : PE X o ta) (hv : PE X value tv) (hs : swapsWith value (some (.Attribute o f pos')) pos.line X.env = pure false) : PS X (.Assign [.Attribute o f pos'] value pos) (BK0 X.K ta tv f) := by
 intro pins s σ H D I h
 refine plainObj_wpAny_Assign_Attribute (G1 (hv pins s σ H _ I h) fun u s1 ⟨y,H1,I1,ry,q⟩=>G1 (ha pins s1 σ H1 _ I1 q) fun ov s2 ⟨x,H2,I2,rx,a,C,dx,fs,ex,ea,c,n,l,q2⟩=>?_) hs
 subst ex
 obtain rfl : ov = Value.ref a := rx
 exact mF I2 ea c n l ry fun s3 I3=>⟨σ,_,I3,q2⟩
theorem pX {op : Operator} {rd : V → V → Hp → VK → Prop} (ha : PE X o ta) (hv : PE X value tv) (hop : BD4 X op rd) : PS X (.AugAssign (.Attribute o f tpos) op value pos) (AP2 X.K ta tv rd f) := by
 intro pins s σ H D I h
 refine wpAny_AugAssign_AttributeAny (G1 (ha pins s σ H _ I h) fun ov s1 ⟨x,H1,I1,rx,a,C,dx,fs,v,ex,ea,c,n,l,q⟩=>?_)
 subst ex
 obtain rfl : ov = Value.ref a := rx
 refine nC I1 ea c n l fun u s2 I2 ru=>G1 (hv pins s2 σ H1 _ I2 q) fun w3 s3 ⟨y,H2,I3,ry,q3⟩=>G1 (hop pins s3 σ H2 v y u w3 _ I3 ru ry q3) fun w4 s4 ⟨z,H3,I4,rz,dx',fs',ea',l',q4⟩=>?_
 exact mF I4 ea' c n l' rz fun s5 I5=>⟨σ,_,I5,q4⟩
def BK6 : V → V → Hp → VK → Prop := fun x y H Q=>∃ i j,x = .int i ∧ y = .int j ∧ Q (.int (i + j)) H
theorem zT : BD4 X .Add BK6 := by
 rintro pins s σ H x y u v Q I rx ry ⟨i,j,rfl,rfl,q⟩
 obtain ⟨t,rfl⟩ := (show ∃ t,u = Value.int i t from rx)
 obtain ⟨t',rfl⟩ := (show ∃ t',v = Value.int j t' from ry)
 exact PyProof.Rows.iadd_int ⟨.int (i + j),H,I.tok _,⟨_,rfl⟩,q⟩
end
section
variable {X : Cx} {pins : List (Addr × Obj)} {σ : St} {H : Hp} {s : Shared} {A : Around} {E : Value → Shared → Prop} {Q : Value → Shared → Prop} {c : Value} {b : Bool}
end
end L2
namespace L2
open PySem PySem.Spec PyProof.Rows
structure Room (k : Nat) (A : Around) : Prop where
 hd : A.handled = none
 dp : A.depth + 3 * k + 5 < recursionLimit
 un : A.units + 16 * k + 200 < cLine
theorem Room.mono {j k : Nat} {A : Around} (r : Room k A) (h : j ≤ k) : Room j A := ⟨r.hd,by have := r.dp; omega,by have := r.un; omega⟩
theorem Room.deeper {k : Nat} {A : Around} (r : Room (k + 1) A) (env : Env) : Room k (A.deeper env) :=
 ⟨r.hd,by have := r.dp; show A.depth + 1 + 3 * k + 5 < _; omega,by have := r.un; show A.units + 3 + 16 * k + 200 < _; omega⟩
theorem xI {A : Around} {C : Addr} {us : List Value} {kw : List (Str × Value)} : (A.under (.builtin "type.__call__" ⟨.ref C :: us,kw⟩)).depth = A.depth + 1 := by
 first | rfl | simp [Around.under,Code.weight,Code.isCreation,Code.isGuard,Code.isCaller,Code.frames,Code.isFrame,guardIds]
theorem xH {A : Around} {C : Addr} {us : List Value} {kw : List (Str × Value)} : (A.under (.builtin "type.__call__" ⟨.ref C :: us,kw⟩)).units = A.units + 1 := by
 first | rfl | simp [Around.under,Code.cUnits,Code.frames,Code.isFrame]
theorem Room.make {k : Nat} {A : Around} (r : Room (k + 1) A) (C : Addr) (us : List Value) (kw : List (Str × Value)) : Room k (A.under (.builtin "type.__call__" ⟨.ref C :: us,kw⟩)) :=
 ⟨r.hd,by have := r.dp; rw [xI]; omega,by have := r.un; rw [xH]; omega⟩
theorem Room.depth {k : Nat} {A : Around} (r : Room k A) : A.depth < recursionLimit := by have := r.dp; omega
theorem Room.units {k : Nat} {A : Around} (r : Room k A) : A.units + 64 < cLine := by have := r.un; omega
def aB : TA := fun _ H Q=>Q [] H
def bD (ta : TE) (tr : TA) : TA := fun σ H Q=>ta σ H fun x H1=>tr σ H1 fun xs H2=>Q (x :: xs) H2
section
variable {X : Cx} {e : Expr} {es : List Expr} {te : TE} {t : TA} {pos : Pos}
theorem A5 : PA X [] aB := fun _ _ _ _ H Q I h=>Calls.spliced_nil ⟨[],H,I,.nil,h⟩
theorem A0 (ha : PE X e te) (hr : PA X es t) (hs : starEach (e :: es) X.env = (false,eval e X.env) :: starEach es X.env := by rfl) : PA X (e :: es) (bD te t) := by
 intro pos pins s σ H Q I h
 rw [hs]
 show wpAny _ _ (spliced ((false,eval e X.env) :: backTo pos (starEach es X.env))) _ _ s
 refine Calls.spliced_cons (G1 (ha pins s σ H _ I h) fun u s1 ⟨x,H1,I1,r1,q1⟩=>?_)
 exact G1 (hr pos pins s1 σ H1 _ I1 q1) fun us s2 ⟨xs,H2,I2,r2,q2⟩=>⟨x :: xs,H2,I2,.cons r1 r2,q2⟩
def BI8 (t : TA) : TE := fun σ H Q=>t σ H fun xs H1=>xs.length ≤ sizeLine ∧ ∀ p,H1 p = none → Q (.ref p) (E7 H1 p (.tup xs))
def iH (t : TA) : TE := fun σ H Q=>t σ H fun xs H1=>xs.length ≤ sizeLine ∧ ∀ p,H1 p = none → Q (.ref p) (E7 H1 p (.lst xs))
theorem K0 {x1} (h : PA X es t) : PE X (.Tuple es x1 pos) (BI8 t) := by
 intro pins s σ H Q I hq
 refine wpAny_Tuple_spliced (G1 (h pos pins s σ H _ I hq) fun us s1 ⟨xs,H1,I1,r,z,q⟩=>⟨by rw [← r.length]; exact z,?_⟩)
 have hf : H1 s1.heap.objs.size = none := I1.hok.fresh (Nat.le_refl _)
 refine ⟨.ref s1.heap.objs.size,E7 H1 s1.heap.objs.size (.tup xs),I1.laid (t' := s1.toks) (fun b u e=>Heap.get?_push_of_some _ e) (Nat.le_refl _) ?_,rfl,q _ hf⟩
 exact ⟨z,us,r,⟨_,Heap.get?_push_size _ rfl,rfl,_,rfl⟩⟩
theorem E5 (h : PA X es t) : PE X (.List es pos) (iH t) := by
 intro pins s σ H Q I hq
 refine wpAny_List_spliced (G1 (h pos pins s σ H _ I hq) fun us s1 ⟨xs,H1,I1,r,z,q⟩=>⟨by rw [← r.length]; exact z,?_⟩)
 have hf : H1 s1.heap.objs.size = none := I1.hok.fresh (Nat.le_refl _)
 refine ⟨.ref s1.heap.objs.size,E7 H1 s1.heap.objs.size (.lst xs),I1.laid (t' := s1.toks) (fun b u e=>Heap.get?_push_of_some _ e) (Nat.le_refl _) ?_,rfl,q _ hf⟩
 exact ⟨z,us,0,r,Heap.get?_push_size _ rfl⟩
end
abbrev Sp := List V → Hp → VK → XK → Prop
abbrev bC := List Env → Hp → Shared → XK → Value → Shared → Prop
structure Env0 (P : Program) (w : World) (K : PySem.W.Frag) (mg : Str → Option Value) (base : Heap) (A : Around) (outer : List Env) (s : Shared) (H : Hp) : Prop where
 frames : A.frames = some outer
 mod : Mod K mg base
 bs : ∀ b o,base.get? b = some o → s.heap.get? b = some o ∧ H b = none
 bsz : base.objs.size ≤ s.heap.objs.size
 funs : s.heap.FunFrames base outer
 frf : ∀ b ∈ W8 outer,H b = none
 hok : HOk P w H s.heap
 bare : AllBare s.gens
def CE (outer : List Env) (P : Program) (w : World) (H : Hp) (s : Shared) (Q : VK) (u : Value) (s' : Shared) : Prop :=
 ∃ v H',s'.os = s.os ∧ AllBare s'.gens ∧ Un (W8 outer) [] H H' s.heap s'.heap ∧ HOk P w H' s'.heap ∧ RelV v u ∧ Q v H'
def CR (CX : bC) (outer : List Env) (P : Program) (w : World) (H : Hp) (s : Shared) (Q : VK) (E : XK) (r : Result) (s' : Shared) : Prop :=
 match r with
 | .ok (.ret u)=>CE outer P w H s Q u s'
 | .ok _=>False
 | .error e=>CX outer H s E e s'
structure FnOk (P : Program) (w : World) (K : PySem.W.Frag) (mg : Str → Option Value) (base : Heap) (CX : bC) (k : Nat) (f : Addr) (fd : FuncData) (ps : List Str) (sp : Sp) : Prop where
 len : ∀ vs H Q E,sp vs H Q E → vs.length = ps.length
 run : ∀ (A : Around) (outer : List Env) (s : Shared) (H : Hp) (args : Args) (us : List Value) (vs : List V) (Q : VK) (E : XK),Room k A → Env0 P w K mg base A outer s H → BindsTo s fd args (ps.zip us) → Vals vs us → sp vs H Q E →
  codeAny (model P w) A (.call (.ref f) args) (CR CX outer P w H s Q E) s
theorem FnOk.mono {P : Program} {w : World} {K : PySem.W.Frag} {mg : Str → Option Value} {base : Heap} {CX : bC} {j k : Nat} {f : Addr} {fd : FuncData} {ps : List Str} {sp : Sp} (F : FnOk P w K mg base CX j f fd ps sp) (h : j ≤ k) :
  FnOk P w K mg base CX k f fd ps sp := ⟨F.len,fun A outer s H args us vs Q E hr=>F.run A outer s H args us vs Q E (hr.mono h)⟩
theorem Env0.make {P : Program} {w : World} {K : PySem.W.Frag} {mg : Str → Option Value} {base : Heap} {A : Around} {outer : List Env} {s : Shared} {H : Hp} (e : Env0 P w K mg base A outer s H) (C : Addr) (us : List Value) (kw : List (Str × Value)) :
  Env0 P w K mg base (A.under (.builtin "type.__call__" ⟨.ref C :: us,kw⟩)) outer s H := ⟨by first | exact e.frames | (simpa [Around.under,Code.envs,Code.isFrame,pushEnvs] using e.frames),e.mod,e.bs,e.bsz,e.funs,e.frf,e.hok,e.bare⟩
section
variable {X : Cx} {pins : List (Addr × Obj)} {σ : St} {H : Hp} {s s' : Shared}
theorem Inv.env0 (I : Inv X pins σ H s) : Env0 X.prog X.w X.K X.mg X.base X.A X.stack s H :=
 ⟨I.ok.frames,I.ok.mod,I.bs,Nat.le_trans I.ok.bsz I.sz,I.stack,I.stkFree,I.hok,I.bare⟩
theorem Inv.after {Q : VK} {u : Value} (I : Inv X pins σ H s) (h : CE X.stack X.prog X.w H s Q u s') : EP X pins σ Q u s' := by
 obtain ⟨v,H',os,bare,un,hok,r,q⟩ := h
 obtain ⟨hh,g,d,t,os'⟩ := s'
 obtain rfl : os' = s.os := os
 exact ⟨v,H',I.call (h' := hh) (g' := g) (d' := d) (t' := t) (ch := []) un hok bare (fun b z=>absurd z (by simp)),r,q⟩
end
def lY (sp : Sp) (dvs : List V) (E : XK) (t : TA) : TE := fun σ H Q=>t σ H fun vs H1=>sp (vs ++ dvs) H1 Q E
def qY (C : Addr) (m : Str) (sp : Sp) (dvs : List V) (E : XK) (ta : TE) (t : TA) : TE := fun σ H Q=>ta σ H fun x H1=>∃ a dx fs,x = .ref a ∧ H1 a = some (.ins C dx fs) ∧ fs.lookup m = none ∧
 t σ H1 fun vs H2=>sp (x :: (vs ++ dvs)) H2 Q E
def BE6 (C : Addr) (sp : Sp) (dvs : List V) (E : XK) (t : TA) : TE := fun σ H Q=>t σ H fun vs H1=>∀ x dx,H1 x = none → H1 dx = none → dx ≠ x →
 sp (.ref x :: (vs ++ dvs)) (E7 (E7 H1 dx (.own x)) x (.ins C dx [])) (fun v H2=>v = .non ∧ Q (.ref x) H2) E
def Binds (K : PySem.W.Frag) (fd : FuncData) (ps : List Str) (ds : List Value) : Prop :=
 ∀ (s : Shared) (us : List Value),K.In s.heap → (us ++ ds).length = ps.length → BindsTo s fd ⟨us,[]⟩ (ps.zip (us ++ ds))
theorem Binds.all {K : PySem.W.Frag} {fd : FuncData} {ps : List Str} (h : ∀ us : List Value,us.length = ps.length → bindArgs fd ⟨us,[]⟩ = pure (ps.zip us)) : Binds K fd ps [] := fun s us _ hl=>by
 rw [List.append_nil] at hl ⊢
 exact .of_eq (h us hl)
def S7 (CX : bC) (X : Cx) (E : XK) : Prop := ∀ (pins : List (Addr × Obj)) (σ : St) (H : Hp) (s : Shared) (e : Value) (s' : Shared),Inv X pins σ H s → CX X.stack H s E e s' → X.xe e s'
section
variable {X : Cx} {CX : bC} {k : Nat} {f C : Addr} {fd : FuncData} {ps : List Str} {sp : Sp} {dvs : List V} {ds : List Value} {E : XK} {x m : Str} {p pos apos : Pos} {e o : Expr} {es : List Expr} {ta : TE} {t : TA}
theorem iR {pins : List (Addr × Obj)} {σ : St} {H : Hp} {s : Shared} {Q : VK} {us : List Value} {vs : List V} (F : FnOk X.prog X.w X.K X.mg X.base CX k f fd ps sp) (hr : Room k X.A) (hb : Binds X.K fd ps ds) (hd : Vals dvs ds) (hx : S7 CX X E)
  (I : Inv X pins σ H s) (r : Vals vs us) (h : sp (vs ++ dvs) H Q E) : wpAny (model X.prog X.w) X.A (call (.ref f) us) (EP X pins σ Q) X.xe s := by
 have r2 : Vals (vs ++ dvs) (us ++ ds) := r.append hd
 have hl : (us ++ ds).length = ps.length := by rw [← r2.length]; exact F.len _ _ _ _ h
 refine wpAny_call (codeAny_mono (F.run X.A X.stack s H ⟨us,[]⟩ (us ++ ds) (vs ++ dvs) Q E hr I.env0 (hb s us I.kIn hl) r2 h) fun r s' hq=>?_)
 cases r with
 | error e=>exact hx pins σ H s e s' I hq
 | ok fl =>
  cases fl with
  | ret u=>exact I.after hq
  | next=>exact False.elim hq
  | brk=>exact False.elim hq
  | cont=>exact False.elim hq
theorem vI (F : FnOk X.prog X.w X.K X.mg X.base CX k f fd ps sp) (hr : Room k X.A) (hg : Gl X x) (hm : X.mg x = some (.ref f)) (hk : PySem.W.keepIn X.K (.ref f) = true) (hb : Binds X.K fd ps ds) (hd : Vals dvs ds) (hx : S7 CX X E)
  (ha : PA X (e :: es) t) (hdb : (x == ("__debug__" : Str)) = false := by decide) (he : starEach (e :: es) X.env = (false,eval e X.env) :: starEach es X.env := by rfl) (hpl : (backTo pos (starEach es X.env)).any (·.1) = false := by rfl) :
  PE X (.Call (.Name x p) (e :: es) [] pos) (lY sp dvs E t) := by
 intro pins s σ H Q I h
 refine wpAny_Call_Name_kw (bX I hg hm ?_ hdb)
 refine PySem.W.callWith_K (h₀ := X.base) I.ok.mod.kin hk (G1 (ha pos pins s σ H _ I h) fun us s1 ⟨vs,H1,I1,r,q⟩=>⟨I1.kIn,?_⟩) he hpl
 exact iR F hr hb hd hx I1 r q
theorem AE4 (F : FnOk X.prog X.w X.K X.mg X.base CX k f fd ps sp) (hr : Room k X.A) (hg : Gl X x) (hm : X.mg x = some (.ref f)) (hk : PySem.W.keepIn X.K (.ref f) = true) (hb : Binds X.K fd ps ds) (hd : Vals dvs ds) (hx : S7 CX X E)
  (hdb : (x == ("__debug__" : Str)) = false := by decide) : PE X (.Call (.Name x p) [] [] pos) (lY sp dvs E aB) := by
 intro pins s σ H Q I h
 refine wpAny_Call_Name_kw (bX I hg hm ?_ hdb)
 exact PySem.W.callWith_K0 I.kIn hk (iR (us := []) F hr hb hd hx I .nil h)
theorem AQ1 {pl : Sem Bool} (he : PE X o ta) (c : Cls X.K C) (hm : xT X.K C m f) (F : FnOk X.prog X.w X.K X.mg X.base CX k f fd ps sp) (hr : Room k X.A) (hb : Binds X.K fd ps ds) (hd : Vals dvs ds) (hx : S7 CX X E) (ha : PA X (e :: es) t)
  (hst : starEach (e :: es) X.env = (false,eval e X.env) :: starEach es X.env := by rfl) (hpl : (backTo pos (starEach es X.env)).any (·.1) = false := by rfl)
  (ht : eval (.Call (.Attribute o m apos) (e :: es) [] pos) X.env = (do
   let ov ← eval o X.env
   standAt apos.atName
   let (f,first) ← holding [ov] (getMethod ov m pl)
   callWith pos f first (backTo pos (starEach (e :: es) X.env)) (backToKw pos (keywordEach [] X.env))) := by rfl) :
  PE X (.Call (.Attribute o m apos) (e :: es) [] pos) (qY C m sp dvs E ta t) := by
 intro pins s σ H Q I h
 refine PySem.W.methodCall_KW (pl := pl) (G1 (he pins s σ H _ I h) fun u s1 ⟨x,H1,I1,rx,a,dx,fs,ex,ea,l,q⟩=>?_) ht
 subst ex
 obtain rfl : u = Value.ref a := rx
 refine nA I1 ea c hm l ?_
 refine PySem.W.callWith_K (first := [.ref a]) (h₀ := X.base) I.ok.mod.kin hm.kp (G1 (ha pos pins s1 σ H1 _ I1 q) fun us s2 ⟨vs,H2,I2,r,q2⟩=>⟨I2.kIn,?_⟩) hst hpl
 exact iR (us := .ref a :: us) (vs := .ref a :: vs) F hr hb hd hx I2 (.cons rfl r) q2
theorem AE1 {pl : Sem Bool} (he : PE X o ta) (c : Cls X.K C) (hm : xT X.K C m f) (F : FnOk X.prog X.w X.K X.mg X.base CX k f fd ps sp) (hr : Room k X.A) (hb : Binds X.K fd ps ds) (hd : Vals dvs ds) (hx : S7 CX X E)
  (ht : eval (.Call (.Attribute o m apos) [] [] pos) X.env = (do
   let ov ← eval o X.env
   standAt apos.atName
   let (f,first) ← holding [ov] (getMethod ov m pl)
   callWith pos f first (backTo pos (starEach [] X.env)) (backToKw pos (keywordEach [] X.env))) := by rfl) :
  PE X (.Call (.Attribute o m apos) [] [] pos) (qY C m sp dvs E ta aB) := by
 intro pins s σ H Q I h
 refine PySem.W.methodCall_KW (pl := pl) (G1 (he pins s σ H _ I h) fun u s1 ⟨x,H1,I1,rx,a,dx,fs,ex,ea,l,q⟩=>?_) ht
 subst ex
 obtain rfl : u = Value.ref a := rx
 refine nA I1 ea c hm l ?_
 exact PySem.W.callWith_K0 (first := [.ref a]) I1.kIn hm.kp (iR (us := [.ref a]) (vs := [.ref a]) F hr hb hd hx I1 (.cons rfl .nil) q)
structure Mk (K : PySem.W.Frag) (C f : Addr) : Prop where
 makes : PySem.W.makesIn K C = true
 init : PySem.W.findIn K (.ref C) "__init__" = some (some (.ref f))
 fn : PySem.W.isFn K (.ref f) = true
 kp : PySem.W.keepIn K (.ref C) = true
theorem AD8 {pins : List (Addr × Obj)} {σ : St} {H : Hp} {s : Shared} {Q : VK} {us : List Value} {vs : List V} (M : Mk X.K C f) (F : FnOk X.prog X.w X.K X.mg X.base CX k f fd ps sp) (hr : Room (k + 1) X.A) (hb : Binds X.K fd ps ds) (hd : Vals dvs ds)
  (hx : S7 CX X E) (I : Inv X pins σ H s) (r : Vals vs us)
  (h : ∀ x dx,H x = none → H dx = none → dx ≠ x → sp (.ref x :: (vs ++ dvs)) (E7 (E7 H dx (.own x)) x (.ins C dx [])) (fun v H2=>v = .non ∧ Q (.ref x) H2) E) :
  wpAny (model X.prog X.w) X.A (call (.ref C) us) (EP X pins σ Q) X.xe s := by
 have hq := h (s.heap.objs.size + 1) s.heap.objs.size (I.hok.fresh (Nat.le_succ _)) (I.hok.fresh (Nat.le_refl _)) (Nat.ne_of_lt (Nat.lt_succ_self _))
 have I2 := Inv.made (C := C) I
 have r2 : Vals (V.ref (s.heap.objs.size + 1) :: (vs ++ dvs)) (Value.ref (s.heap.objs.size + 1) :: (us ++ ds)) := .cons rfl (r.append hd)
 have hl : (Value.ref (s.heap.objs.size + 1) :: us ++ ds).length = ps.length := by
  have e := r2.length
  rw [F.len _ _ _ _ hq] at e
  exact e.symm
 refine wpAny_call (AG3 (f := f) I.kIn M.makes M.init (beq_iff_eq.mp M.fn) (codeAny_mono (F.run _ X.stack _ _ ⟨Value.ref (s.heap.objs.size + 1) :: us,[]⟩ (Value.ref (s.heap.objs.size + 1) :: (us ++ ds)) _ _ E (hr.make C us [])
  (I2.env0.make C us []) (hb _ (Value.ref (s.heap.objs.size + 1) :: us) I2.kIn hl) r2 hq) fun r s' hq'=>?_))
 cases r with
 | error e=>exact hx pins σ _ _ e s' I2 hq'
 | ok fl =>
  cases fl with
  | ret u =>
   obtain ⟨v,H',I3,rv,ev,q3⟩ := I2.after hq'
   subst ev
   exact ⟨rv,⟨V.ref (s.heap.objs.size + 1),H',I3,rfl,q3⟩⟩
  | next=>exact False.elim hq'
  | brk=>exact False.elim hq'
  | cont=>exact False.elim hq'
theorem vG (M : Mk X.K C f) (F : FnOk X.prog X.w X.K X.mg X.base CX k f fd ps sp) (hr : Room (k + 1) X.A) (hg : Gl X x) (hm : X.mg x = some (.ref C)) (hb : Binds X.K fd ps ds) (hd : Vals dvs ds) (hx : S7 CX X E)
  (ha : PA X (e :: es) t) (hdb : (x == ("__debug__" : Str)) = false := by decide) (he : starEach (e :: es) X.env = (false,eval e X.env) :: starEach es X.env := by rfl) (hpl : (backTo pos (starEach es X.env)).any (·.1) = false := by rfl) :
  PE X (.Call (.Name x p) (e :: es) [] pos) (BE6 C sp dvs E t) := by
 intro pins s σ H Q I h
 refine wpAny_Call_Name_kw (bX I hg hm ?_ hdb)
 refine PySem.W.callWith_K (h₀ := X.base) I.ok.mod.kin M.kp (G1 (ha pos pins s σ H _ I h) fun us s1 ⟨vs,H1,I1,r,q⟩=>⟨I1.kIn,?_⟩) he hpl
 exact AD8 M F hr hb hd hx I1 r q
end
section
variable {X : Cx} {CX : bC} {k : Nat} {f C : Addr} {fd : FuncData} {ps ks : List Str} {sp : Sp} {E : XK} {x m : Str} {p pos apos kpos : Pos} {e o : Expr} {es : List Expr} {kws : List Keyword} {te ta : TE} {t tk : TA} {nm : Option Str}
variable {g : List Value → List Value → List Value} {gV : List V → List V → List V}
end
structure E4 (N P : List Str) (sc : Scope) : Prop where
 kind : sc.kind = .function
 co : sc.isCoroutine = false
 gen : sc.isGenerator = false
 nd : N.Nodup
 pre : N.take P.length = P
 par : ∀ x ∈ P,sc.names.lookup x = some .local ∨ sc.names.lookup x = some .cell
 nofree : ∀ y ∈ sc.names,y.2 ≠ .free
theorem qM {kindOf : Str → Option NameKind} {x : Str} : ∀ {binds : List (Str × Value)} {m : Str → Option Value},(∀ v,(x,v) ∉ binds) → bindL kindOf binds m x = m x
 | [],_,_=>rfl
 | (n,v) :: r,m,h=>by
  unfold bindL
  rw [qM fun w hw=>h w (List.mem_cons_of_mem _ hw)]
  split
  ·have : x ≠ n := by rintro rfl; exact h v List.mem_cons_self
   simp [this]
  ·rfl
theorem qO {kindOf : Str → Option NameKind} {x : Str} : ∀ {binds : List (Str × Value)} {m : Str → Option Value},(∀ v,(x,v) ∉ binds) → bindC kindOf binds m x = m x
 | [],_,_=>rfl
 | (n,v) :: r,m,h=>by
  unfold bindC
  rw [qO fun w hw=>h w (List.mem_cons_of_mem _ hw)]
  split
  ·rfl
  ·have : x ≠ n := by rintro rfl; exact h v List.mem_cons_self
   simp [this]
theorem qN {kindOf : Str → Option NameKind} {x : Str} {v : Value} : ∀ {P : List Str} {vs : List Value} {i : Nat} {m : Str → Option Value},P.Nodup → P[i]? = some x → vs[i]? = some v → kindOf x = some .local →
  bindL kindOf (P.zip vs) m x = some v
 | [],_,_,_,_,h,_,_=>by simp at h
 | _ :: _,[],_,_,_,_,h,_=>by simp at h
 | p :: P,w :: vs,0,m,nd,h1,h2,hk=>by
  simp at h1 h2; subst h1; subst h2
  show bindL kindOf ((p,w) :: P.zip vs) m p = _
  unfold bindL
  rw [qM fun v hv=>(List.nodup_cons.mp nd).1 (List.of_mem_zip hv).1,if_pos hk]
  simp
 | p :: P,w :: vs,i + 1,m,nd,h1,h2,hk=>by
  show bindL kindOf ((p,w) :: P.zip vs) m x = _
  unfold bindL
  exact qN (i := i) (List.nodup_cons.mp nd).2 (by simpa using h1) (by simpa using h2) hk
theorem qP {kindOf : Str → Option NameKind} {x : Str} {v : Value} : ∀ {P : List Str} {vs : List Value} {i : Nat} {m : Str → Option Value},P.Nodup → P[i]? = some x → vs[i]? = some v → kindOf x ≠ some .local →
  bindC kindOf (P.zip vs) m x = some v
 | [],_,_,_,_,h,_,_=>by simp at h
 | _ :: _,[],_,_,_,_,h,_=>by simp at h
 | p :: P,w :: vs,0,m,nd,h1,h2,hk=>by
  simp at h1 h2; subst h1; subst h2
  show bindC kindOf ((p,w) :: P.zip vs) m p = _
  unfold bindC
  rw [qO fun v hv=>(List.nodup_cons.mp nd).1 (List.of_mem_zip hv).1,if_neg hk]
  simp
 | p :: P,w :: vs,i + 1,m,nd,h1,h2,hk=>by
  show bindC kindOf ((p,w) :: P.zip vs) m x = _
  unfold bindC
  exact qP (i := i) (List.nodup_cons.mp nd).2 (by simpa using h1) (by simpa using h2) hk
def start (N : List Str) (vs : List V) : St := vs.map some ++ List.replicate (N.length - vs.length) none
def Y2 (CX : bC) (P : Program) (w : World) (K : PySem.W.Frag) (mg : Str → Option Value) (base : Heap) (N : List Str) (qual : Str) (scope : Scope) (f : Addr) (cd : Value) (A : Around) (outer : List Env) (s : Shared) (H : Hp) (E : XK) : Cx where
 prog := P
 w := w
 K := K
 mg := mg
 base := base
 A := A.deeper (envOfC qual scope s.heap.objs.size f cd)
 N := N
 s₀ := s
 H₀ := H
 env := envOfC qual scope s.heap.objs.size f cd
 outer := outer
 stack := envOfC qual scope s.heap.objs.size f cd :: outer
 ex := []
 calm := true
 fn := fun _=>true
 pn := []
 xe := fun e s'=>wpAny (model P w) (A.deeper (envOfC qual scope s.heap.objs.size f cd)) (leaving (envOfC qual scope s.heap.objs.size f cd) e) (fun _ s''=>CX outer H s E e s'') (fun e' s''=>CX outer H s E e' s'') s'
theorem uA {sc : Scope} {n : Nat} {x : Str} (h : sc.names.lookup x = some .cell) : ∃ c,(cellsFrom n sc.names []).lookup x = some c := by
 have q := PySem.W.cellsFrom_some sc.names n [] (.inl h)
 exact Option.isSome_iff_exists.mp q
theorem zS {CX : bC} {P : Program} {w : World} {K : PySem.W.Frag} {mg : Str → Option Value} {base : Heap} {N ps : List Str} {qual : Str} {scope : Scope} {f : Addr} {cd : Value} {A : Around} {outer : List Env} {s s1 : Shared} {H : Hp} {E : XK} {us : List Value} {vs : List V}
  (S : E4 N ps scope) (hd : A.handled = none) (e0 : Env0 P w K mg base A outer s H) (hl : vs.length = ps.length) (r : Vals vs us)
  (x : InCallC s s.heap.objs.size (bindL (envOfC qual scope s.heap.objs.size f cd).kindOf (ps.zip us) fun _=>none) (cellsFrom (s.heap.objs.size + 1) scope.names []) (bindC (envOfC qual scope s.heap.objs.size f cd).kindOf (ps.zip us) fun _=>none) s1) :
  Inv (Y2 CX P w K mg base N qual scope f cd A outer s H E) [] (start N vs) H s1 := by
 have hpl : ps.length ≤ N.length := by have := congrArg List.length S.pre; rw [List.length_take] at this; omega
 obtain ⟨h1,tk,rfl,hk⟩ := x.done
 have noA : ∀ b : Addr,b ∉ (Y2 CX P w K mg base N qual scope f cd A outer s H E).ex := fun b z=>absurd (show b ∈ ([] : List Addr) from z) (by simp)
 refine ⟨⟨e0.mod,S.kind,rfl,rfl,Nat.le_refl _,fun y z c h1 h2=>?_,fun y hy=>?_,fun y c _ h=>?_,fun _=>hd,Around.frames_deeper e0.frames,.inr ⟨rfl,rfl⟩,fun b z=>absurd z (noA b),e0.bs,e0.bsz,fun b _ _=>noA b,fun b z=>absurd z (noA b),e0.funs,e0.frf⟩,
  rfl,e0.bare,Un.kept hk,⟨_,x.toInCall.ns,fun i y v h1 h2 h3=>?_⟩,fun y c h=>⟨_,x.cell y c h⟩,e0.hok.fresh (Nat.le_refl _),fun y c h=>?_,fun p hp=>absurd (show p ∈ ([] : List (Addr × Obj)) from hp) (by simp),e0.hok.kept hk,?_⟩
 ·exact name_of_addr x.apart (PySem.mem_of_lookup h1) (PySem.mem_of_lookup h2)
 ·have hy : scope.names.lookup y = some .cell ∨ scope.names.lookup y = some .free := hy
  rcases hy with hy | hy
  ·exact uA hy
  ·exact absurd rfl (S.nofree _ (PySem.mem_of_lookup hy))
 ·exact Nat.le_of_lt (x.above y c (PySem.mem_of_lookup h))
 ·have hi : i < vs.length := by
   unfold start at h2
   by_cases hi : i < vs.length
   ·exact hi
   ·rw [List.getElem?_append_right (by simpa using hi)] at h2
    rw [List.getElem?_replicate] at h2
    split at h2 <;> cases h2
  have ha : vs[i]? = some v := by
   unfold start at h2
   rw [List.getElem?_append_left (by simpa using hi),List.getElem?_map] at h2
   cases e : vs[i]? with
   | none=>rw [e] at h2; cases h2
   | some a=>rw [e] at h2; cases h2; rfl
  obtain ⟨u,hu,rv⟩ := r.get ha
  have hp : ps[i]? = some y := by
   rw [← S.pre,List.getElem?_take_of_lt (by omega)]; exact h1
  have ndP : ps.Nodup := by rw [← S.pre]; exact S.nd.sublist (List.take_sublist _ _)
  refine ⟨u,rv,?_⟩
  rcases S.par y (List.mem_of_getElem? hp) with k | k
  ·exact .inl ⟨k,qN ndP hp hu k⟩
  ·obtain ⟨c,e⟩ := uA (n := s.heap.objs.size + 1) k
   refine .inr ⟨.inl k,c,e,?_⟩
   have q := x.cell y c e
   rw [qP ndP hp hu (by show scope.names.lookup y ≠ _; rw [k]; decide)] at q
   exact q
 ·exact e0.hok.fresh (Nat.le_of_lt (x.above y c (PySem.mem_of_lookup h)))
 ·unfold start
  show _ = N.length
  rw [List.length_append,List.length_map,List.length_replicate]
  omega
theorem AM6 {CX : bC} {P : Program} {w : World} {K : PySem.W.Frag} {mg : Str → Option Value} {base : Heap} {k : Nat} {f : Addr} {name qual : Str} {params : Arguments} {body : List Stmt} {scope : Scope} {dV kV doc pm cdv ct oc : Value} {an od : Option Addr}
  {osl : Array (Option Value)} {N ps : List Str} {sp : Sp} (lk : K.lookup f = some ⟨oc,od,.func (PySem.W.fnOf name qual params body scope dV kV doc pm an cdv ct),osl⟩) (hcd : PySem.W.codeIn K cdv qual = true) (S : E4 N ps scope)
  (len : ∀ vs H Q E,sp vs H Q E → vs.length = ps.length)
  (hbody : ∀ (A : Around) (outer : List Env) (s : Shared) (H : Hp) (vs : List V) (Q : VK) (E : XK),Room k (A.deeper (envOfC qual scope s.heap.objs.size f cdv)) → sp vs H Q E →
   ∃ t,PSs (Y2 CX P w K mg base N qual scope f cdv A outer s H E) body t ∧ t { nx := fun _ H'=>Q .non H',rt := Q } (start N vs) H) :
  FnOk P w K mg base CX (k + 1) f (PySem.W.fnOf name qual params body scope dV kV doc pm an cdv ct) ps sp := by
 refine ⟨len,fun A outer s H args us vs Q E hr e0 hb r hsp=>?_⟩
 have hl := len _ _ _ _ hsp
 have KX : K.In s.heap := e0.mod.kin.keeps fun b o e=>(e0.bs b o e).1
 have lim : s.heap.NoLimit := e0.mod.nolimit.keeps fun b o e=>(e0.bs b o e).1
 have hkind : ∀ y ∈ ps.zip us,scope.names.lookup y.1 = some .local ∨ (scope.names.lookup y.1 = some .cell ∧ ((cellsFrom (s.heap.objs.size + 1) scope.names []).lookup y.1).isSome = true) := fun ⟨n,v⟩ hy=>by
  rcases S.par n (List.of_mem_zip hy).1 with q | q
  ·exact .inl q
  ·exact .inr ⟨q,PySem.W.cellsFrom_some _ _ _ (.inl q)⟩
 refine codeAny_call_function hr.depth (KX _ _ lk) rfl S.co S.gen rfl (PySem.W.codeRec_of KX hcd) (hb _ _ _ _ ?_)
 refine wpAny_newFunctionEnv_cells S.kind hkind fun env he s1 x=>?_
 subst he
 refine ⟨lim.keeps x.toInCall.keep,codeAny_func ?_⟩
 obtain ⟨t,ht,hq⟩ := hbody A outer s H vs Q E (hr.deeper _) hsp
 have I : Inv (Y2 CX P w K mg base N qual scope f cdv A outer s H E) [] (start N vs) H s1 := zS S hr.hd e0 hl r x
 refine wpAny_mono (ht [] s1 (start N vs) H _ I hq) (fun fl s' hs=>?_) fun e s' hs=>hs
 have fin : ∀ {σ' : St} {H' : Hp} {v : V} {u : Value},Inv (Y2 CX P w K mg base N qual scope f cdv A outer s H E) [] σ' H' s' → RelV v u → Q v H' → CE outer P w H s Q u s' :=
  fun {σ' H' v u} J rv q=>⟨v,H',J.os,J.bare,J.base,J.hok,rv,q⟩
 cases fl with
 | ret u =>
  obtain ⟨v,σ',H',J,rv,q⟩ := hs
  exact fin J rv q
 | next =>
  obtain ⟨σ',H',J,q⟩ := hs
  exact fin (v := V.non) (u := Value.none) J rfl q
 | brk =>
  obtain ⟨_,_,_,q⟩ := hs
  exact False.elim q
 | cont =>
  obtain ⟨_,_,_,q⟩ := hs
  exact False.elim q
end L2
namespace L2
open PySem PySem.Spec PyProof.Rows
section
variable {X : Cx} {x : Str} {p pos : Pos} {e : Expr} {es : List Expr} {t : TA} {id T : String} {r : List V → Hp → VK → Prop}
def tCB (r : List V → Hp → VK → Prop) (t : TA) : TE := fun σ H Q=>t σ H fun vs H1=>r vs H1 Q
theorem J8 (hc : T3 X (.builtin id) r) (hg : Gl X x) (hm : X.mg x = none) (hv : bootBuiltins x = some (.builtin id)) (ha : PA X (e :: es) t) (hn : x ≠ "__name__" := by decide) (hdb : (x == ("__debug__" : Str)) = false := by decide)
  (he : starEach (e :: es) X.env = (false,eval e X.env) :: starEach es X.env := by rfl) (hpl : (backTo pos (starEach es X.env)).any (·.1) = false := by rfl) : PE X (.Call (.Name x p) (e :: es) [] pos) (tCB r t) := by
 intro pins s σ H Q I h
 refine wpAny_Call_Name_kw (jA I hg hm hv ?_ hn hdb)
 exact PyProof.Rows.callWith_builtin1 (G1 (ha pos pins s σ H _ I h) fun us s1 ⟨vs,H1,I1,r1,q1⟩=>hc pins s1 σ H1 vs us Q I1 r1 q1) he hpl
theorem K6 (hc : T3 X (.type T) r) (hg : Gl X x) (hm : X.mg x = none) (hv : bootBuiltins x = some (.type T)) (ha : PA X (e :: es) t) (hn : x ≠ "__name__" := by decide) (hdb : (x == ("__debug__" : Str)) = false := by decide)
  (he : starEach (e :: es) X.env = (false,eval e X.env) :: starEach es X.env := by rfl) (hpl : (backTo pos (starEach es X.env)).any (·.1) = false := by rfl) : PE X (.Call (.Name x p) (e :: es) [] pos) (tCB r t) := by
 intro pins s σ H Q I h
 refine wpAny_Call_Name_kw (jA I hg hm hv ?_ hn hdb)
 exact PyProof.Rows.callWith_type1 (G1 (ha pos pins s σ H _ I h) fun us s1 ⟨vs,H1,I1,r1,q1⟩=>hc pins s1 σ H1 vs us Q I1 r1 q1) he hpl
end
end L2
namespace HT
open PySem PyProof.Rows
section
open PySem.SeqAt
open PySem.AutoSeq1 (wpAny_loadPart')
open PySem.MeetsSeq PySem.MeetsSeq2 PySem.MeetsSeq3
end
section
variable {prog : Program} {w : World} {A : Around} {E : Value → Shared → Prop} {s : Shared}
def sIx (n d : Nat) : Option Int → Nat
 | none=>d
 | some v=>if v < 0 then (v + (n : Int)).toNat else min v.toNat n
theorem sIx_none (n d : Nat) : sIx n d none = d := rfl
theorem sIx_nat (n d k : Nat) : sIx n d (some (k : Int)) = min k n := by
 show (if (k : Int) < 0 then ((k : Int) + (n : Int)).toNat else min (k : Int).toNat n) = min k n
 rw [if_neg (by omega),Int.toNat_natCast]
end
end HT
namespace L2
open PySem PySem.Spec PyProof.Rows
abbrev TO := St → Hp → (Option Int → Hp → Prop) → Prop
def PO (X : Cx) (e : Option Expr) (t : TO) : Prop :=
 ∀ (pins : List (Addr × Obj)) (s : Shared) (σ : St) (H : Hp) (Q : Option Int → Hp → Prop),Inv X pins σ H s → t σ H Q →
  wpAny (model X.prog X.w) X.A (evalPart e X.env) (fun u s'=>∃ o H',Inv X pins σ H' s' ∧ IsPart u o ∧ Q o H') X.xe s
def AO4 : TO := fun _ H Q=>Q none H
def BE3 (t : TE) : TO := fun σ H Q=>t σ H fun x H1=>∃ i,x = .int i ∧ Q (some i) H1
section
variable {X : Cx} {e : Expr} {te : TE} {lo hi : Option Expr} {tl th : TO} {pos p2 : Pos}
theorem V7 : PO X none AO4 := by
 intro pins s σ H Q I h
 rw [evalPart_none]
 exact wpAny_pure ⟨none,H,I,.none,h⟩
theorem M7 (h : PE X e te) : PO X (some e) (BE3 te) := by
 intro pins s σ H Q I hw
 rw [evalPart_some]
 refine G1 (h pins s σ H _ I hw) fun u s1 ⟨x,H1,I1,r1,q1⟩=>?_
 obtain ⟨i,rfl,q⟩ := q1
 obtain ⟨t,rfl⟩ := r1
 exact ⟨some i,H1,I1,.int i t,q⟩
def SlR (X : Cx) (r : V → Option Int → Option Int → Hp → VK → Prop) : Prop :=
 ∀ (pins : List (Addr × Obj)) (s : Shared) (σ : St) (H : Hp) (x : V) (v vl vu : Value) (lo hi : Option Int) (sl : Addr) (Q : VK),Inv X pins σ H s → RelV x v → s.heap.IsSliceOf sl vl vu .none → IsPart vl lo → IsPart vu hi → r x lo hi H Q →
  ∃ T id,typeLookup (.type T) "__getitem__" = pure (some (.builtin id)) ∧ s.TypeIs v T ∧ wpAny (model X.prog X.w) X.A (getItem v (.ref sl)) (EP X pins σ Q) X.xe s
def tSl (r : V → Option Int → Option Int → Hp → VK → Prop) (te : TE) (tl th : TO) : TE := fun σ H Q=>te σ H fun x H1=>tl σ H1 fun l H2=>th σ H2 fun u H3=>r x l u H3 Q
theorem O6 {r : V → Option Int → Option Int → Hp → VK → Prop} (hr : SlR X r) (he : PE X e te) (hl : PO X lo tl) (hu : PO X hi th) : PE X (.Subscript e (.Slice lo hi none p2) pos) (tSl r te tl th) := by
 intro pins s σ H Q I h
 refine Subscript_ (G1 (he pins s σ H _ I h) fun v s1 ⟨x,H1,I1,r1,q1⟩=>?_)
 refine wpAny_Slice (G1 (hl pins s1 σ H1 _ I1 q1) fun vl s2 ⟨l,H2,I2,pl,q2⟩=>G1 (hu pins s2 σ H2 _ I2 q2) fun vu s3 ⟨u,H3,I3,pu,q3⟩=>?_)
 rw [evalPart_none]
 refine wpAny_pure ?_
 have I4 : Inv X pins σ H3 { s3 with heap := s3.heap.push { cls := .type "slice",data := .fields #[vl,vu,.none] } } := I3.kept (t' := s3.toks) fun b ob q=>Heap.get?_push_of_some _ q
 obtain ⟨T,id,hT,ht,hg⟩ := hr pins { s3 with heap := s3.heap.push { cls := .type "slice",data := .fields #[vl,vu,.none] } } σ H3 x v vl vu l u s3.heap.objs.size Q I4 r1 (Heap.IsSliceOf.new ..) pl pu q3
 show wpAny (model X.prog X.w) X.A (subscriptTail e (.Slice lo hi none p2) v (.ref s3.heap.objs.size)) (EP X pins σ Q) X.xe { s3 with heap := s3.heap.push { cls := .type "slice",data := .fields #[vl,vu,.none] } }
 exact tail_any (ops := [.ref s3.heap.objs.size,v]) ht hT hg (by with_unfolding_all rfl)
def cV (xs : List V) (lo hi : Option Int) : List V := (xs.drop (HT.sIx xs.length 0 lo)).take (HT.sIx xs.length xs.length hi - HT.sIx xs.length 0 lo)
theorem uT (xs : List V) (lo hi : Option Int) : (cV xs lo hi).length ≤ xs.length := by
 unfold cV
 rw [List.length_take,List.length_drop]
 omega
end
end L2
namespace L2
open PySem PySem.Spec PyProof.Rows
def jF (n : Nat) (i : Int) : Option Nat := if 0 ≤ i then (if i < n then some i.toNat else none) else if -(n : Int) ≤ i then some (i + n).toNat else none
def bB {α : Type} (xs : List α) (i : Int) : Option α := (jF xs.length i).bind fun j=>xs[j]?
theorem vV {n : Nat} {i : Int} {j : Nat} (h : jF n i = some j) : seqIndex? i n = some j ∧ j < n ∧ -(n : Int) ≤ i ∧ i < n := by
 unfold jF at h
 by_cases h0 : 0 ≤ i
 ·rw [if_pos h0] at h
  by_cases h1 : i < n
  ·rw [if_pos h1] at h
   have e : i.toNat = j := Option.some.inj h
   exact ⟨by rw [seqIndex_of h0 h1,e],by omega,by omega,h1⟩
  ·rw [if_neg h1] at h; cases h
 ·rw [if_neg h0] at h
  by_cases h1 : -(n : Int) ≤ i
  ·rw [if_pos h1] at h
   have e : (i + n).toNat = j := Option.some.inj h
   exact ⟨by rw [seqIndex_neg (by omega) h1,e],by omega,h1,by omega⟩
  ·rw [if_neg h1] at h; cases h
theorem pN {α : Type} {xs : List α} {i : Int} {v : α} (h : bB xs i = some v) : ∃ j,seqIndex? i xs.length = some j ∧ xs[j]? = some v ∧ j < xs.length ∧ -(xs.length : Int) ≤ i ∧ i < xs.length := by
 unfold bB at h
 cases e : jF xs.length i with
 | none=>rw [e] at h; cases h
 | some j =>
  rw [e] at h
  obtain ⟨h1,h2,h3,h4⟩ := vV e
  exact ⟨j,h1,h,h2,h3,h4⟩
theorem J7 {α : Type} {xs : List α} {j : Nat} {v : α} (h : xs[j]? = some v) : bB xs (j : Int) = some v := by
 have hj : j < xs.length := (List.getElem?_eq_some_iff.mp h).1
 have e : jF xs.length (j : Int) = some j := by
  unfold jF
  rw [if_pos (by omega),if_pos (by omega)]; simp
 unfold bB; rw [e]; exact h
theorem AJ5 {α : Type} (xs : List α) (v : α) : bB (xs ++ [v]) (-1) = some v := by
 have hl : (xs ++ [v]).length = xs.length + 1 := by simp
 have e : jF (xs ++ [v]).length (-1) = some xs.length := by
  unfold jF
  rw [hl,if_neg (by decide),if_pos (by omega)]
  congr 1
  omega
 unfold bB
 rw [e]
 show (xs ++ [v])[xs.length]? = some v
 simp
def AU1 (b : Expr) : Prop := ∀ o i,subscripted b false o i = operate [o,i] (getItem o i)
def IxR (X : Cx) (r : R2) : Prop :=
 ∀ (value slice : Expr) (pins : List (Addr × Obj)) (s : Shared) (σ : St) (H : Hp) (x y : V) (v u : Value) (Q : VK),Inv X pins σ H s → RelV x v → RelV y u → r x y H Q →
  subscripted slice false v u = operate [v,u] (getItem v u) → wpAny (model X.prog X.w) X.A (subscriptTail value slice v u) (EP X pins σ Q) X.xe s
def MtR (X : Cx) (id : String) (r : V → List V → Hp → VK → Prop) : Prop :=
 ∀ (pins : List (Addr × Obj)) (s : Shared) (σ : St) (H : Hp) (x : V) (xs : List V) (v : Value) (us : List Value) (Q : VK),Inv X pins σ H s → RelV x v → Vals xs us → r x xs H Q →
  wpAny (model X.prog X.w) X.A (call (.builtin id) (v :: us)) (EP X pins σ Q) X.xe s
section
variable {X : Cx} {a b : Expr} {ta tb : TE} {pos : Pos}
theorem J0 {r : R2} (hr : IxR X r) (ha : PE X a ta) (hb : PE X b tb) (hs : AU1 b) : PE X (.Subscript a b pos) (iG r ta tb) := by
 intro pins s σ H Q I h
 exact Subscript_ (AJ1 ha hb I h fun v u s2 x y H2 I2 rx ry q=>hr a b pins s2 σ H2 x y v u Q I2 rx ry q (hs _ _))
def AW5 (K : PySem.W.Frag) : R2 := fun x y H Q=>∃ p xs i v,x = .ref p ∧ y = .int i ∧ SqL K H p xs ∧ bB xs i = some v ∧ Q v H
def BK2 (K : PySem.W.Frag) : R2 := fun x y H Q=>∃ p xs i v,x = .ref p ∧ y = .int i ∧ SqT K H p xs ∧ bB xs i = some v ∧ Q v H
def BK3 : R2 := fun x y H Q=>∃ z i c,x = .str z ∧ y = .int i ∧ z.length ≤ sizeLine ∧ bB z.cps.toList i = some c ∧ Q (.str ⟨#[c]⟩) H
theorem N4 : IxR X (AW5 X.K) := by
 intro value slice pins s σ H x y v u Q I rx ry h hs
 obtain ⟨p,xs,i,z,rfl,rfl,hq,he,q⟩ := h
 cases rx
 obtain ⟨t,rfl⟩ := ry
 obtain ⟨its,r,pl,hz⟩ := I.list hq
 obtain ⟨j,h1,h2,h3,h4,h5⟩ := pN he
 obtain ⟨w,ew,rw'⟩ := r.get h2
 have hl := r.length
 have hn := fT
 have fin : EP X pins σ Q w s := ⟨z,H,I,rw',q⟩
 by_cases h0 : 0 ≤ i
 ·have hj : i.toNat = j := by
   rw [seqIndex_of h0 h5] at h1
   exact Option.some.inj h1
  exact item_listR pl.isList h0 (by omega) (by rw [hj]; simpa using ew) fin hs
 ·have hj : (i + (its.toArray.size : Int)).toNat = j := by
   rw [seqIndex_neg (by omega) h4] at h1
   rw [List.size_toArray,← hl]
   exact Option.some.inj h1
  exact subscriptTail_builtinR (x := w) pl.isList.typeIs slot_list_getitem.lookup
   (wpAny_getItem_list_neg (Q := fun r s'=>r = w ∧ EP X pins σ Q r s') pl.isList (by omega) (by rw [List.size_toArray] <;> omega) (by omega) (by rw [hj]; simpa using ew) ⟨rfl,fin⟩) hs
theorem R3 : IxR X (BK2 X.K) := by
 intro value slice pins s σ H x y v u Q I rx ry h hs
 obtain ⟨p,xs,i,z,rfl,rfl,hq,he,q⟩ := h
 cases rx
 obtain ⟨t,rfl⟩ := ry
 obtain ⟨its,r,pl,hz⟩ := I.tuple hq
 obtain ⟨j,h1,h2,h3,h4,h5⟩ := pN he
 obtain ⟨w,ew,rw'⟩ := r.get h2
 have hl := r.length
 have hn := fT
 have fin : EP X pins σ Q w s := ⟨z,H,I,rw',q⟩
 exact subscriptTail_builtinR (x := w) pl.typeIs slot_tuple_getitem.lookup
  (getItem_tuple (j := j) (Q := fun r s'=>r = w ∧ EP X pins σ Q r s') pl (by omega) (by omega) (by rw [List.size_toArray,← hl]; exact h1) (by simpa using ew) ⟨rfl,fin⟩) hs
theorem Z9 : IxR X BK3 := by
 intro value slice pins s σ H x y v u Q I rx ry h hs
 obtain ⟨z,i,c,rfl,rfl,hz,he,q⟩ := h
 obtain ⟨t,rfl⟩ := rx
 obtain ⟨t',rfl⟩ := ry
 obtain ⟨j,h1,h2,h3,h4,h5⟩ := pN he
 have hl : z.cps.toList.length = z.length := by simp [Str.length]
 rw [hl] at h1 h4 h5
 have hn := fT
 exact tail_any (typeIs_str s z t) slot_str_getitem.lookup (getItem_str (c := c) (by
  have e1 : decide (i < -(2 ^ 63 : Int)) = false := decide_eq_false (by omega)
  have e2 : decide (i ≥ 2 ^ 63) = false := decide_eq_false (by omega)
  rw [e1,e2,Bool.or_false]) (by rw [h1]; simpa using h2) ⟨.str ⟨#[c]⟩,H,I.tok _,⟨_,rfl⟩,q⟩) hs
theorem xG (its : List Value) (n j : Nat) (u : Value) : Obj.mapSeq (·.setIfInBounds j u) { cls := .type "list",data := .seq its.toArray n } = { cls := .type "list",data := .seq (its.set j u).toArray n } := by
 simp [Obj.mapSeq]
theorem Inv.lst {pins : List (Addr × Obj)} {σ : St} {H : Hp} {s : Shared} {p : Addr} {xs : List V} (I : Inv X pins σ H s) (h : H p = some (.lst xs)) :
  ∃ (its : List Value) (n : Nat),Vals xs its ∧ s.heap.get? p = some { cls := .type "list",data := .seq its.toArray n } ∧ xs.length ≤ sizeLine := by
 obtain ⟨z,its,n,r,e⟩ := I.hok p _ h
 exact ⟨its,n,r,e,z⟩
theorem Inv.lstUpd {pins : List (Addr × Obj)} {σ : St} {H : Hp} {s : Shared} {p : Addr} {xs ys : List V} {its its' : List Value} {n n' : Nat} {f : Obj → Obj} (I : Inv X pins σ H s) (h : H p = some (.lst xs))
  (ho : s.heap.get? p = some { cls := .type "list",data := .seq its.toArray n }) (hf : f { cls := .type "list",data := .seq its.toArray n } = { cls := .type "list",data := .seq its'.toArray n' }) (r : Vals ys its') (hz : ys.length ≤ sizeLine) (t : Nat) :
  Inv X pins σ (E7 H p (.lst ys)) { s with heap := s.heap.update p f,toks := t } := by
 have e : (s.heap.update p f).get? p = some { cls := .type "list",data := .seq its'.toArray n' } := by
  rw [Heap.get?_update_self f ho (by rw [hf] <;> rfl),hf]
 refine I.write (x := p) (e := p) (by rw [h]; trivial) (.inl rfl) (fun b u hb q=>(Heap.get?_update_other _ _ (Ne.symm hb)).trans q) ⟨_,e⟩ ?_
 exact ⟨hz,its',n',r,e⟩
def BF1 : V → V → V → Hp → (Hp → Prop) → Prop := fun o i v H Q=>∃ p xs k j,o = .ref p ∧ i = .int k ∧ H p = some (.lst xs) ∧ jF xs.length k = some j ∧ Q (E7 H p (.lst (xs.set j v)))
theorem sJ : BC9 X BF1 := by
 intro pins s σ H o i v ov iv u Q I ro ri rv h
 obtain ⟨p,xs,k,j,rfl,rfl,hp,hj,q⟩ := h
 cases ro
 obtain ⟨t,rfl⟩ := ri
 obtain ⟨its,n,r,ho,hz⟩ := I.lst hp
 obtain ⟨h1,h2,h3,h4⟩ := vV hj
 have hl := r.length
 have hn := fT
 have I' : Inv X pins σ (E7 H p (.lst (xs.set j v))) { s with heap := s.heap.update p (Obj.mapSeq (·.setIfInBounds j u)) } :=
  I.lstUpd hp ho (xG its n j u) (r.set rv j) (by rw [List.length_set]; exact hz) s.toks
 by_cases h0 : 0 ≤ k
 ·have hk : k.toNat = j := by
   rw [seqIndex_of h0 h4] at h1
   exact Option.some.inj h1
  exact PySem.W.ki_setAt ho h0 (by omega) (by rw [List.size_toArray,← hl]; exact h4) (by rw [hk]; exact ⟨_,I',q⟩)
 ·have hk : (k + (its.toArray.size : Int)).toNat = j := by
   rw [seqIndex_neg (by omega) h3] at h1
   rw [List.size_toArray,← hl]
   exact Option.some.inj h1
  exact PySem.W.ki_setBack ho (by omega) (by rw [List.size_toArray,← hl]; exact h3) (by omega) (by rw [hk]; exact ⟨_,I',q⟩)
theorem sI (lo hi : Option Int) (n : Nat) : (sliceBounds lo hi none n).1 = ((HT.sIx n 0 lo : Nat) : Int) ∧ (sliceBounds lo hi none n).2.1 = ((HT.sIx n n hi : Nat) : Int) ∧ (sliceBounds lo hi none n).2.2 = 1 := by
 refine ⟨?_,?_,rfl⟩
 ·cases lo with
  | none=>simp [sliceBounds,HT.sIx]
  | some i =>
   simp only [sliceBounds,HT.sIx,Option.getD_none,show (1 : Int) > 0 by decide,if_true]
   by_cases h : i < 0
   ·simp only [h,if_true] <;> omega
   ·simp only [h,if_false] <;> omega
 ·cases hi with
  | none=>simp [sliceBounds,HT.sIx]
  | some i =>
   simp only [sliceBounds,HT.sIx,Option.getD_none,show (1 : Int) > 0 by decide,if_true]
   by_cases h : i < 0
   ·simp only [h,if_true] <;> omega
   ·simp only [h,if_false] <;> omega
theorem qT (its : List Value) (lo hi : Option Int) : slicePick its.toArray lo hi none = ((its.drop (HT.sIx its.length 0 lo)).take (HT.sIx its.length its.length hi - HT.sIx its.length 0 lo)).toArray := by
 obtain ⟨h1,h2,h3⟩ := sI lo hi its.toArray.size
 unfold slicePick
 rw [h1,h2,h3]
 simp only [sliceRange_one,pick_run,List.size_toArray] <;> rfl
def BK1 (K : PySem.W.Frag) : V → Option Int → Option Int → Hp → VK → Prop := fun x lo hi H Q=>∃ a xs,x = .ref a ∧ SqL K H a xs ∧ ∀ p,H p = none → Q (.ref p) (E7 H p (.lst (cV xs lo hi)))
theorem bP : SlR X (BK1 X.K) := by
 intro pins s σ H x v vl vu lo hi sl Q I rx hs pl pu h
 obtain ⟨a,xs,rfl,hx,q⟩ := h
 cases rx
 obtain ⟨its,r,ht,hz⟩ := I.list hx
 have hlen := r.length
 refine ⟨"list",_,slot_list_getitem.lookup,ht.isList.typeIs,?_⟩
 refine wpAny_getItem_list_slice ht.isList hs pl pu .none (by simp) ?_ (by rw [List.size_toArray] <;> omega)
 rw [qT,← hlen]
 refine ⟨.ref s.heap.objs.size,_,I.laid (t' := s.toks) (o := .lst (cV xs lo hi)) (fun b ob q=>Heap.get?_push_of_some _ q) (Nat.le_refl _) ?_,rfl,q _ (I.hok.fresh (Nat.le_refl _))⟩
 exact ⟨Nat.le_trans (uT xs lo hi) hz,_,0,(r.drop (HT.sIx xs.length 0 lo)).take (HT.sIx xs.length xs.length hi - HT.sIx xs.length 0 lo),Heap.get?_push_size _ rfl⟩
def bM : V → Bool
 | .non=>true
 | .bl _=>true
 | .int _=>true
 | .str _=>true
 | _=>false
def qK : V → V → Bool
 | .non,.non=>true
 | .bl a,.bl b=>a == b
 | .bl a,.int b=>(if a then 1 else 0) == b
 | .int a,.bl b=>a == (if b then 1 else 0)
 | .int a,.int b=>a == b
 | .str a,.str b=>a == b
 | _,_=>false
theorem BB7 {A : Around} {s : Shared} {y x : V} {u v : Value} (ry : RelV y u) (rx : RelV x v) (fy : bM y = true) (fx : bM x = true) : SeqAt.EqAt A s u v (qK y x) := by
 cases y with
 | non =>
  cases ry
  cases x with
  | non=>cases rx; exact SeqAt.EqAt.same _
  | bl b=>cases rx; exact SeqAt.EqAt.none_bool b
  | int b=>obtain ⟨t,rfl⟩ := rx; exact SeqAt.EqAt.none_int b t
  | str b=>obtain ⟨t,rfl⟩ := rx; exact SeqAt.EqAt.none_str b t
  | _=>exact absurd (show false = true from fx) Bool.false_ne_true
 | bl a =>
  cases ry
  cases x with
  | non=>cases rx; exact SeqAt.EqAt.bool_none a
  | bl b=>cases rx; exact SeqAt.EqAt.bool_bool a b
  | int b=>obtain ⟨t,rfl⟩ := rx; exact SeqAt.EqAt.bool_int a b t
  | str b=>obtain ⟨t,rfl⟩ := rx; exact SeqAt.EqAt.bool_str a b t
  | _=>exact absurd (show false = true from fx) Bool.false_ne_true
 | int a =>
  obtain ⟨t',rfl⟩ := ry
  cases x with
  | non=>cases rx; exact SeqAt.EqAt.int_none a t'
  | bl b=>cases rx; exact SeqAt.EqAt.int_bool a t' b
  | int b=>obtain ⟨t,rfl⟩ := rx; exact SeqAt.EqAt.int_int a t' b t
  | str b=>obtain ⟨t,rfl⟩ := rx; exact SeqAt.EqAt.int_str a t' b t
  | _=>exact absurd (show false = true from fx) Bool.false_ne_true
 | str a =>
  obtain ⟨t',rfl⟩ := ry
  cases x with
  | non=>cases rx; exact SeqAt.EqAt.str_none a t'
  | bl b=>cases rx; exact SeqAt.EqAt.str_bool a t' b
  | int b=>obtain ⟨t,rfl⟩ := rx; exact SeqAt.EqAt.str_int a t' b t
  | str b=>obtain ⟨t,rfl⟩ := rx; exact SeqAt.EqAt.str_str a t' b t
  | _=>exact absurd (show false = true from fx) Bool.false_ne_true
 | _=>exact absurd (show false = true from fy) Bool.false_ne_true
def cT (x : V) (u : Value) : Bool := match u with
 | .none=>qK .non x
 | .bool b=>qK (.bl b) x
 | .int i _=>qK (.int i) x
 | .str z _=>qK (.str z) x
 | _=>false
theorem AA5 {x y : V} {u : Value} (r : RelV y u) (f : bM y = true) : cT x u = qK y x := by
 cases y with
 | non=>cases r; rfl
 | bl b=>cases r; rfl
 | int i=>obtain ⟨t,rfl⟩ := r; rfl
 | str z=>obtain ⟨t,rfl⟩ := r; rfl
 | _=>exact absurd (show false = true from f) Bool.false_ne_true
theorem gA {x : V} : ∀ {xs : List V} {us : List Value},Vals xs us → xs.all bM = true → us.any (cT x) = xs.any fun y=>qK y x
 | _,_,.nil,_=>rfl
 | y :: xs,u :: us,.cons r t,f=>by
  rw [List.all_cons,Bool.and_eq_true] at f
  rw [List.any_cons,List.any_cons,AA5 r f.1,gA t f.2]
theorem cK {A : Around} {s : Shared} {x : V} {v : Value} (rx : RelV x v) (fx : bM x = true) : ∀ {xs : List V} {us : List Value},Vals xs us → xs.all bM = true → ∀ u ∈ us,SeqAt.EqAt A s u v (cT x u)
 | _,_,.nil,_=>fun u hu=>by cases hu
 | y :: xs,u :: us,.cons r t,f=>fun u' hu=>by
  rw [List.all_cons,Bool.and_eq_true] at f
  rcases List.mem_cons.mp hu with rfl | hu
  ·rw [AA5 r f.1]; exact BB7 r rx f.1 fx
  ·exact cK rx fx t f.2 u' hu
def cP (x : V) (xs : List V) : Bool := xs.any fun y=>qK y x
def rIn (K : PySem.W.Frag) (neg : Bool) : R2 := fun x y H Q=>∃ p xs,y = .ref p ∧ (SqL K H p xs ∨ SqT K H p xs) ∧ bM x = true ∧ xs.all bM = true ∧ Q (.bl (if neg then !cP x xs else cP x xs)) H
theorem iV : S8 X (compareOp .In) (rIn X.K false) := by
 intro pins s σ H x y v u Q I rx ry h
 obtain ⟨p,xs,rfl,hq,fx,fs,q⟩ := h
 cases ry
 rcases hq with hq | hq
 ·obtain ⟨its,r,pl,hz⟩ := I.list hq
  refine SeqAt.in_listAt (cT x) pl.isList (fun w hw=>cK rx fx r fs w (by simpa using hw)) ⟨.bl _,H,I,rfl,?_⟩
  rw [show its.toArray.any (cT x) = its.any (cT x) by simp,gA r fs]
  exact q
 ·obtain ⟨its,r,pl,hz⟩ := I.tuple hq
  refine SeqAt.in_tupleAt (cT x) pl (fun w hw=>cK rx fx r fs w (by simpa using hw)) ⟨.bl _,H,I,rfl,?_⟩
  rw [show its.toArray.any (cT x) = its.any (cT x) by simp,gA r fs]
  exact q
theorem cJ : S8 X (compareOp .NotIn) (rIn X.K true) := by
 intro pins s σ H x y v u Q I rx ry h
 obtain ⟨p,xs,rfl,hq,fx,fs,q⟩ := h
 cases ry
 rcases hq with hq | hq
 ·obtain ⟨its,r,pl,hz⟩ := I.list hq
  refine SeqAt.notIn_listAt (cT x) pl.isList (fun w hw=>cK rx fx r fs w (by simpa using hw)) ⟨.bl _,H,I,rfl,?_⟩
  rw [show its.toArray.any (cT x) = its.any (cT x) by simp,gA r fs]
  exact q
 ·obtain ⟨its,r,pl,hz⟩ := I.tuple hq
  refine SeqAt.notIn_tupleAt (cT x) pl (fun w hw=>cK rx fx r fs w (by simpa using hw)) ⟨.bl _,H,I,rfl,?_⟩
  rw [show its.toArray.any (cT x) = its.any (cT x) by simp,gA r fs]
  exact q
theorem N5 : T3 X (.builtin "len") (fun xs H Q=>∃ p ys,xs = [.ref p] ∧ (SqL X.K H p ys ∨ SqT X.K H p ys) ∧ Q (.int ys.length) H) := by
 intro pins s σ H xs us Q I r h
 obtain ⟨p,ys,rfl,hq,q⟩ := h
 obtain ⟨u,rfl,rx⟩ := gC r
 cases rx
 have hn := fT
 rcases hq with hq | hq
 ·obtain ⟨its,r',pl,hz⟩ := I.list hq
  have hlen := r'.length
  exact Calls.call_len_list pl.isList (by simp only [List.size_toArray] <;> omega) ⟨.int ys.length,H,I.tok _,⟨s.toks + 1,by rw [List.size_toArray,hlen]⟩,q⟩
 ·obtain ⟨its,r',pl,hz⟩ := I.tuple hq
  have hlen := r'.length
  exact len_tuple pl (by simp only [List.size_toArray] <;> omega) ⟨.int ys.length,H,I.tok _,⟨s.toks + 1,by rw [List.size_toArray,hlen]⟩,q⟩
theorem T5 : T3 X (.builtin "len") (fun xs H Q=>∃ z,xs = [.str z] ∧ z.length ≤ sizeLine ∧ Q (.int z.length) H) := by
 intro pins s σ H xs us Q I r h
 obtain ⟨z,rfl,hz,q⟩ := h
 obtain ⟨u,rfl,t,rfl⟩ := gC r
 have hn := fT
 exact len_str (by omega) ⟨.int z.length,H,I.tok _,⟨_,rfl⟩,q⟩
theorem O5 : T3 X (.type "tuple") (fun xs H Q=>∃ p ys,xs = [.ref p] ∧ ((SqL X.K H p ys ∧ ∀ l,H l = none → Q (.ref l) (E7 H l (.tup ys))) ∨ (SqT X.K H p ys ∧ Q (.ref p) H))) := by
 intro pins s σ H xs us Q I r h
 obtain ⟨p,ys,rfl,h⟩ := h
 obtain ⟨u,rfl,rx⟩ := gC r
 cases rx
 rcases h with ⟨hq,q⟩ | ⟨hq,q⟩
 ·obtain ⟨its,r',pl,hz⟩ := I.list hq
  have hlen := r'.length
  refine call_tuple_list pl.isList (fun h' kp=>?_) (by simp only [List.size_toArray] <;> omega)
  have I1 : Inv X pins σ H { s with heap := h' } := I.kept (t' := s.toks) kp
  have I2 : Inv X pins σ (E7 H h'.objs.size (.tup ys)) { s with heap := h'.push { cls := .type "tuple",data := .seq its.toArray } } :=
   I1.laid (t' := s.toks) (fun b o e=>Heap.get?_push_of_some _ e) (Nat.le_refl _) (show ObjOk X.prog X.w _ _ _ (.tup ys) from ⟨hz,its,r',IsTup.new _ _⟩)
  exact ⟨.ref h'.objs.size,_,I2,rfl,q _ (I1.hok.fresh (Nat.le_refl _))⟩
 ·obtain ⟨its,r',pl,hz⟩ := I.tuple hq
  exact call_tuple_same pl ⟨.ref p,H,I,rfl,q⟩
def tyV (K : PySem.W.Frag) (T : String) (x : V) (H : Hp) : Prop := match x with
 | .str _=>T = "str"
 | .int _=>T = "int"
 | .ref p=>(T = "list" ∧ ∃ xs,SqL K H p xs) ∨ (T = "tuple" ∧ ∃ o,K.lookup p = some o ∧ o.cls = .type "tuple" ∧ o.dict = none) ∨
   (T = "dict" ∧ ((∃ kvs,H p = some (.dK kvs)) ∨ ∃ kvs,H p = some (.dT kvs))) ∨ (T = "set" ∧ ∃ S n,H p = some (.set S n))
 | _=>False
theorem xY {pins : List (Addr × Obj)} {σ : St} {H : Hp} {s : Shared} {T : String} {x : V} {v : Value} (I : Inv X pins σ H s) (r : RelV x v) (ty : tyV X.K T x H) :
  s.TypeIs v T ∧ ∀ a,v = .ref a → ∃ ob,s.heap.get? a = some ob ∧ ob.dict = none := by
 cases x with
 | str z =>
  obtain ⟨t,rfl⟩ := r
  cases (show T = "str" from ty)
  exact ⟨typeIs_str s z t,fun _ e=>nomatch e⟩
 | int i =>
  obtain ⟨t,rfl⟩ := r
  cases (show T = "int" from ty)
  exact ⟨typeIs_int s i t,fun _ e=>nomatch e⟩
 | ref p =>
  cases r
  rcases ty with ⟨rfl,xs,hq⟩ | ⟨rfl,o,hk,hc,hd⟩ | ⟨rfl,hk⟩ | ⟨rfl,S,n,hk⟩
  ·obtain ⟨its,_,pl,_⟩ := I.list hq
   refine ⟨pl.isList.typeIs,fun a e=>?_⟩
   cases e
   obtain ⟨o,n,e,c,hd,_⟩ := pl
   exact ⟨o,e,hd⟩
  ·refine ⟨⟨o,I.kIn p o hk,hc⟩,fun a e=>?_⟩
   cases e
   exact ⟨o,I.kIn _ o hk,hd⟩
  ·have z : ∃ o,s.heap.get? p = some o ∧ o.ExactDict := by
    rcases hk with ⟨kvs,hk⟩ | ⟨kvs,hk⟩
    ·obtain ⟨_,_,_,_,o,_,_,e,ex,_⟩ := I.hok p _ hk
     exact ⟨o,e,ex⟩
    ·obtain ⟨_,_,_,_,o,_,_,e,ex,_⟩ := I.hok p _ hk
     exact ⟨o,e,ex⟩
   obtain ⟨o,e,ex⟩ := z
   refine ⟨⟨o,e,ex.1⟩,fun a e2=>?_⟩
   cases e2
   exact ⟨o,e,ex.2.1⟩
  ·obtain ⟨o,_,_,_,e,ex,_⟩ := I.hok p _ hk
   refine ⟨⟨o,e,ex.1⟩,fun a e2=>?_⟩
   cases e2
   exact ⟨o,e,ex.2.1⟩
 | _=>exact False.elim ty
def BJ8 (K : PySem.W.Frag) (T : String) (r : V → List V → Hp → VK → Prop) (to : TE) : TE := fun σ H Q=>to σ H fun x H1=>tyV K T x H1 ∧ r x [] H1 Q
def tBM (K : PySem.W.Frag) (T : String) (r : V → List V → Hp → VK → Prop) (to : TE) (t : TA) : TE := fun σ H Q=>to σ H fun x H1=>tyV K T x H1 ∧ t σ H1 fun xs H2=>r x xs H2 Q
variable {o e : Expr} {es : List Expr} {to : TE} {t : TA} {name : Str} {apos cpos : Pos} {T id : String} {r : V → List V → Hp → VK → Prop}
theorem yW (pa : PlainAttrs T) (slot : Slot T name id) (hty : typeOf (.builtin id) = pure (.type "method_descriptor")) (hm : MtR X id r) (ho : PE X o to)
  (hbase : attributeBase o name X.env (eval o X.env) = eval o X.env := by rfl) (hline : (apos.endLine == cpos.line) = true := by rfl) : PE X (.Call (.Attribute o name apos) [] [] cpos) (BJ8 X.K T r to) := by
 intro pins s σ H Q I h
 refine wpAny_Call_method0_late hbase hline (G1 (ho pins s σ H _ I h) fun v s1 ⟨x,H1,I1,r1,ty,q1⟩=>?_)
 obtain ⟨h1,h2⟩ := xY I1 r1 ty
 exact ⟨T,id,pa,slot,hty,h1,h2,Calls.callWith_builtin rfl (PySem.evalArgs_none (hm pins s1 σ H1 x [] v [] Q I1 r1 .nil q1))⟩
theorem S5 (pa : PlainAttrs T) (slot : Slot T name id) (hty : typeOf (.builtin id) = pure (.type "method_descriptor")) (hm : MtR X id r) (ho : PE X o to) (ha : PA X (e :: es) t)
  (hbase : attributeBase o name X.env (eval o X.env) = eval o X.env := by rfl)
  (hfew : ((backTo cpos (starEach (e :: es) X.env)).all (fun x=>!x.1) && (backToKw cpos (keywordEach [] X.env)).all (fun x=>x.1.isSome)
   && decide ((e :: es).length + ([] : List Keyword).length + (if ([] : List Keyword).isEmpty then 0 else 1) < 30)) = true := by rfl)
  (hline : (apos.endLine == cpos.line) = true := by rfl) (hs : starEach (e :: es) X.env = (false,eval e X.env) :: starEach es X.env := by rfl) (hplain : (backTo cpos (starEach es X.env)).any (·.1) = false := by rfl) :
  PE X (.Call (.Attribute o name apos) (e :: es) [] cpos) (tBM X.K T r to t) := by
 intro pins s σ H Q I h
 refine wpAny_Call_method_late hbase hfew hline rfl (G1 (ho pins s σ H _ I h) fun v s1 ⟨x,H1,I1,r1,ty,q1⟩=>?_)
 obtain ⟨h1,h2⟩ := xY I1 r1 ty
 refine ⟨T,id,pa,slot,hty,h1,h2,?_⟩
 have hA := ha cpos pins s1 σ H1 _ I1 q1
 rw [hs] at hA ⊢
 refine Calls.callWith_builtin (by show (false || (backTo cpos (starEach es X.env)).any (·.1)) = false; rw [hplain] <;> rfl) (Calls.evalArgs_plain ?_)
 exact G1 hA fun us s2 ⟨vs,H2,I2,r2,q2⟩=>hm pins s2 σ H2 x vs v us Q I2 r1 r2 q2
end
end L2
namespace L2
open PySem PySem.Spec PyProof.Rows
def MtM (X : Cx) (id : String) (r : V → List V → Hp → VK → Prop) : Prop :=
 ∀ (pins : List (Addr × Obj)) (s : Shared) (σ : St) (H : Hp) (x : V) (xs : List V) (v : Value) (us : List Value) (Q : VK),Inv X pins σ H s → RelV x v → Vals xs us → r x xs H Q →
  wpAny (model X.prog X.w) X.A (call (.builtin id) (v :: us)) (EP X pins σ Q) X.xe s
theorem Vals.one : ∀ {x : V} {us : List Value},Vals [x] us → ∃ u,us = [u] ∧ RelV x u
 | _,_,.cons r .nil=>⟨_,rfl,r⟩
section
variable {X : Cx} {pins : List (Addr × Obj)} {σ : St} {H : Hp} {s : Shared} {l b : Addr} {xs ys zs : List V}
theorem Inv.lset {its its' : List Value} {n : Nat} {f : Array Value → Array Value} {t' : Nat} (I : Inv X pins σ H s) (hH : H l = some (.lst xs))
  (e : s.heap.get? l = some { cls := .type "list",data := .seq its.toArray n }) (hf : f its.toArray = its'.toArray) (hv : Vals ys its') (hz : ys.length ≤ sizeLine) :
  Inv X pins σ (E7 H l (.lst ys)) { s with heap := s.heap.update l (Obj.mapSeq f),toks := t' } := by
 have q := PySem.IsL.update e f
 rw [hf] at q
 refine I.write (x := l) (e := l) (by rw [hH]; exact trivial) (.inl rfl) (fun b' u hb hu=>(Heap.get?_update_other s.heap (Obj.mapSeq f) (Ne.symm hb)).trans hu) ⟨_,q⟩ ?_
 exact ⟨hz,its',_,hv,q⟩
theorem Inv.lnew {its : List Value} {t' : Nat} (I : Inv X pins σ H s) (hv : Vals ys its) (hz : ys.length ≤ sizeLine) :
  Inv X pins σ (E7 H s.heap.objs.size (.lst ys)) { s with heap := s.heap.push { cls := .type "list",data := .seq its.toArray },toks := t' } :=
 I.laid (fun _ _ q=>Heap.get?_push_of_some _ q) (Nat.le_refl _) ⟨hz,its,0,hv,Heap.get?_push_size _ rfl⟩
theorem Inv.fresh (I : Inv X pins σ H s) : H s.heap.objs.size = none := I.hok.fresh (Nat.le_refl _)
theorem Inv.lstM (I : Inv X pins σ H s) (hH : H l = some (.lst xs)) : xs.length ≤ sizeLine ∧ ∃ (its : List Value) (n : Nat),Vals xs its ∧ xs.length = its.length ∧ s.heap.get? l = some { cls := .type "list",data := .seq its.toArray n } := by
 obtain ⟨z,its,n,r,e⟩ := I.hok l _ hH
 exact ⟨z,its,n,r,r.length,e⟩
theorem AF7 {n : Nat} (h : n ≤ sizeLine) : Builtin.List.listTooLong n = false := by
 unfold Builtin.List.listTooLong
 exact decide_eq_false (by omega)
end
section
variable {X : Cx}
def AP7 : V → List V → Hp → VK → Prop := fun x vs H Q=>∃ l xs y,x = .ref l ∧ vs = [y] ∧ H l = some (.lst xs) ∧ xs.length < sizeLine ∧ Q .non (E7 H l (.lst (xs ++ [y])))
theorem M0 : MtM X "list.append" AP7 := by
 intro pins s σ H x vs v us Q I rx rv h
 obtain ⟨l,xs,y,rfl,rfl,hH,hz,q⟩ := h
 cases rx
 obtain ⟨u,rfl,ru⟩ := rv.one
 obtain ⟨z,its,n,r,hl,e⟩ := I.lstM hH
 refine call_meets F.slot_list_append ⟨_,e,rfl⟩ F.entry_list_append (F.args_list_append_2 _ _) (PySem.list_append l its.toArray n u (by rw [List.size_toArray]; omega)) ⟨e,?_⟩
 refine ⟨.non,_,I.lset (its' := its ++ [u]) hH e (by simp) (r.append (.cons ru .nil)) ?_,rfl,q⟩
 rw [List.length_append,List.length_singleton]
 omega
def lE : R2 := fun x y H Q=>∃ l b xs zs,x = .ref l ∧ y = .ref b ∧ H l = some (.lst xs) ∧ H b = some (.lst zs) ∧ xs.length + zs.length ≤ sizeLine ∧ ∀ p,H p = none → Q (.ref p) (E7 H p (.lst (xs ++ zs)))
theorem M6 : S8 X (binaryOp .Add) lE := by
 intro pins s σ H x y v u Q I rx ry h
 obtain ⟨l,b,xs,zs,rfl,rfl,hH,hB,hz,q⟩ := h
 cases rx
 cases ry
 obtain ⟨z,its,n,r,hl,e⟩ := I.lstM hH
 obtain ⟨z2,its2,n2,r2,hl2,e2⟩ := I.lstM hB
 refine PySem.P.add_list e e2 ?_ (by rw [List.size_toArray,List.size_toArray]; omega)
 have ea : its.toArray ++ its2.toArray = (its ++ its2).toArray := by simp
 rw [ea]
 exact ⟨.ref _,_,I.lnew (t' := s.toks) (r.append r2) (by rw [List.length_append]; omega),rfl,q _ I.fresh⟩
end
section
variable {prog : Program} {w : World} {A : Around} {E : Value → Shared → Prop} {s : Shared}
end
section
variable {X : Cx}
end
end L2
namespace Att
open PySem PySem.W PySem.Calls PyProof.Rows
theorem mY {P : Params} {h : Heap} : ∀ (ns : List Int) (vs : List Value),WellAll P h vs (ns.map WData.int) → IntsAre vs ns := by
 intro ns
 induction ns with
 | nil =>
  intro vs w
  rw [List.map_nil] at w
  cases w
  exact .nil
 | cons n ns ih =>
  intro vs w
  rw [List.map_cons] at w
  cases w with
  | cons a b =>
   cases a
   exact .cons _ _ (ih _ b)
theorem yH {l : OpenLaw} {n : Nat} (hn : l.most = some n) {P : Params} {h : Heap} {args : List WData} {vals : List Value}
  (hpre : l.row.toRowW.claim.pre args = true) (hwl : WellAll P h vals args) :
  ∃ a vs ns,vals = [Value.ref a] ∧ args = [WData.list (ns.map WData.int)] ∧ h.get? a = some { cls := .type "list",data := .seq vs.toArray } ∧ IntsAre vs ns ∧ ns.length ≤ n := by
 have hsh : WShape.hasAll [] args [.list .int] = true := (pre_splitW hpre).1
 have hc : l.pre.holds [] { args := args } = true := (pre_splitW hpre).2
 obtain ⟨d,r,rfl,h1,h2⟩ := hasAllW_cons hsh
 obtain rfl := hasAllW_nil h2
 obtain ⟨xs,rfl,h3⟩ := hasW_list h1
 obtain ⟨ns,rfl⟩ := items_int h3
 have hlen : ns.length ≤ n := by
  unfold OpenLaw.pre at hc
  have h4 : (WTm.not (.lt (.lit (.int (n : Int))) (.len (.arg 0)))).holds [] { args := [.list (ns.map .int)] } = true := by
   have h4 := (holds_andW hc).1
   rw [hn] at h4
   exact h4
  have h5 := condW_of h4 (w_not (w_lt w_lit (w_len_list (w_arg rfl))))
  rw [List.length_map] at h5
  refine Nat.le_of_not_lt fun q=>?_
  have q' : (n : Int) < ((ns.length : Nat) : Int) := by omega
  first
   | (rw [decide_eq_true q'] at h5; exact absurd h5 (by decide))
   | (simp at h5; omega)
 cases hwl with
 | cons w1 w2 =>
  cases w2
  cases w1 with
  | list ho hall=>exact ⟨_,_,ns,rfl,rfl,ho,mY ns _ hall,hlen⟩
theorem yS (l : OpenLaw) (args : List WData) : l.row.toRowW.claim.post args (.bool true) args = true :=
 postW_of (r := l.row.toRowW) (X := (true == true))
  (show WShape.has [] (.bool true) .bool = true by first | rfl | decide | simp [WShape.has,WShape.arms,WShape.armsAll])
  (show (WTm.eq .res (.lit (.bool true))).value [] { args := args,res := some (.bool true),after := args } = some (.bool (true == true)) from w_eq_bool (w_res rfl) w_lit) rfl
theorem attach_call {l : OpenLaw} {n : Nat} {q : Program} {loose : List Str} {XP : (Str → Option Value) → Heap → Prop} {YP : World → Heap → Prop} {d : DefRec}
  (hn : l.most = some n) (hdf : d.params.defaults = [])
  (call : ∀ (w : World) (s₀ s₁ : Shared) (mg mb : Str → Option Value) (fa : Addr) (o : Obj) (pm cd doc : Value) (a : Addr) (vs : List Value) (ns : List Int),
   Ground q loose [] XP w s₀ mg mb s₁.heap → YP w s₁.heap →
   s₁.heap.get? fa = some o → o.data = .func (docDef d.name d.params d.body d.scope pm cd doc) → s₁.heap.CodeRec cd d.name → mg d.name = some (.ref fa) →
   s₁.heap.get? a = some { cls := .type "list",data := .seq vs.toArray } → IntsAre vs ns → ns.length ≤ n → s₁.gens = #[] →
   codeAny (model l.prog w) callerA (.call (.ref fa) ⟨[.ref a],[]⟩) (fun r s'=>r = .ok (.ret (.bool true)) ∧ OldK s₁.heap s'.heap ∧ s'.os = s₁.os ∧ AllBare s'.gens) s₁) :
  WalkO q loose XP YP l.row.toRowW d [] (fun f vs=>PySem.call f vs) := by
 intro w s₀ s₁ mg mb G Y fa o pm cd doc dV kV ho hd hcd hD hmg hg args vals as hpre hlay hrd hwl hlo
 obtain rfl : dV = .none := Dflts.none hD hdf
 obtain rfl : kV = .none := Dflts.noKw hD
 obtain ⟨a,vs,ns,rfl,rfl,hobj,hints,hlen⟩ := yH hn hpre hwl
 refine enter_call (codeAny_mono (call w s₀ s₁ mg mb fa o pm cd doc a vs ns G Y ho (fd_plain hd) hcd hmg hobj hints hlen hg) fun r s' hq=>?_)
 obtain ⟨rfl,h2,h3,h4⟩ := hq
 exact ⟨.inl ⟨.bool true,.bool true,[],rfl,fun _=>rfl,.bool true,yS l _,fun _=>⟨List.Pairwise.nil,fun _ hm=>(nomatch hm)⟩⟩,h2,h3,h4⟩
section
variable {prog : Program} {w : World} {A : Around} {E : Value → Shared → Prop} {s : Shared} {K : Frag}
end
end Att
namespace L2
open PySem PySem.Spec PyProof.Rows
theorem pP : ∀ {vs : List Value} {ns : List Int},IntsAre vs ns → Vals (ns.map V.int) vs
 | _,_,.nil=>.nil
 | _,_,.cons n t h=>.cons ⟨t,rfl⟩ (pP h)
def AJ9 (H : Hp) : Prop := ∀ b,H b = none ∨ ∃ o xs,H b = some (.frz o (.lst xs))
theorem AG8 {P : Program} {w : World} {K : PySem.W.Frag} {mg mb : Str → Option Value} {CX : bC} {k : Nat} {fa a : Addr} {fd : FuncData} {x : Str} {sp : Sp} {s₁ : Shared} {vs : List Value} {ns : List Int}
  (KX : K.In s₁.heap) (hns : s₁.heap.Ns mainGlobals mg) (hb : s₁.heap.Ns builtinsNs mb) (hbb : ∀ x : Str,x ≠ "__name__" → mb x = bootBuiltins x) (hlim : s₁.heap.NoLimit) (hg : s₁.gens = #[])
  (ha : s₁.heap.get? a = some { cls := .type "list",data := .seq vs.toArray }) (hi : IntsAre vs ns) (hl : ns.length ≤ sizeLine) (hr : Room k callerA)
  (F : ∀ base : Heap,K.In base → base.Ns mainGlobals mg → FnOk P w K mg base CX k fa fd [x] sp) (hbind : ∀ (s : Shared) (u : Value),BindsTo s fd ⟨[u],[]⟩ [(x,u)])
  (hsp : ∀ H : Hp,AJ9 H → SqL K H a (ns.map V.int) → sp [.ref a] H (fun v _=>v = .bl true) fun _ _ _=>False)
  (hCX : ∀ H e s',CX [] H s₁ (fun _ _ _=>False) e s' → False) :
  codeAny (model P w) callerA (.call (.ref fa) ⟨[.ref a],[]⟩) (fun r s'=>r = .ok (.ret (.bool true)) ∧ OldK s₁.heap s'.heap ∧ s'.os = s₁.os ∧ AllBare s'.gens) s₁ := by
 have rv := pP hi
 have lenV := hi.length
 have core : ∀ H : Hp,AJ9 H → SqL K H a (ns.map V.int) → HOk P w H s₁.heap → (∀ b,H b ≠ none → b = a) → (H a ≠ none → K.lookup a = none) →
   codeAny (model P w) callerA (.call (.ref fa) ⟨[.ref a],[]⟩) (fun r s'=>r = .ok (.ret (.bool true)) ∧ OldK s₁.heap s'.heap ∧ s'.os = s₁.os ∧ AllBare s'.gens) s₁ := by
  intro H hO hS hok hA hK
  have base_of : ∀ {b : Addr} {o : Obj},s₁.heap.get? b = some o → H b = none → (hJ s₁.heap H).get? b = some o := fun e n=>AH5 e n
  have noA : ∀ {b : Addr} {o : Obj} {es : Array DictEntry} {ep : Nat},s₁.heap.get? b = some o → o.data = .dict es ep → H b = none := fun {b o es ep} e d=>by
   cases q : H b with
   | none=>rfl
   | some u =>
    have e' : b = a := hA b (by rw [q]; simp)
    subst e'
    rw [ha] at e; cases e
    have d' : Data.seq vs.toArray _ = Data.dict es ep := d
    cases d'
  have nsK : ∀ {b : Addr} {m : Str → Option Value},s₁.heap.Ns b m → (hJ s₁.heap H).Ns b m := fun {b m} ⟨o,es,ep,e,d,r⟩=>⟨o,es,ep,base_of e (noA e d),d,r⟩
  have hKb : K.In (hJ s₁.heap H) := fun b o e=>base_of (KX b o e) (by
   cases q : H b with
   | none=>rfl
   | some u =>
    have e' : b = a := hA b (by rw [q]; simp)
    subst e'
    rw [hK (by rw [q]; simp)] at e; cases e)
  have hM : Mod K mg (hJ s₁.heap H) := ⟨hKb,nsK hns,⟨mb,nsK hb,hbb⟩,let ⟨mc,h1,h2⟩ := hlim; ⟨mc,nsK h1,h2⟩⟩
  have e0 : Env0 P w K mg (hJ s₁.heap H) callerA [] s₁ H := ⟨rfl,hM,fun b o e=>AR9 e,Nat.le_of_eq (zU _ _),trivial,fun b hb=>absurd (show b ∈ ([] : List Addr) from hb) (by simp),hok,.of_eq hg⟩
  refine codeAny_mono ((F _ hKb (nsK hns)).run callerA [] s₁ H ⟨[.ref a],[]⟩ [.ref a] [.ref a] _ _ hr e0 (hbind s₁ (.ref a)) (.cons rfl .nil) (hsp H hO hS)) fun r s' h=>?_
  cases r with
  | error e=>exact (hCX H e s' h).elim
  | ok fl =>
   cases fl with
   | next=>exact False.elim h
   | brk=>exact False.elim h
   | cont=>exact False.elim h
   | ret u =>
    obtain ⟨v,H',os,bare,un,hok',r',q⟩ := h
    have q' : v = .bl true := q
    subst q'
    obtain rfl : u = Value.bool true := r'
    refine ⟨rfl,OldK.of_keep fun b o e=>?_,os,bare⟩
    cases q : H b with
    | none=>exact un.keep b o e q (by intro z; exact absurd (show b ∈ ([] : List Addr) from z) (by simp)) (by simp)
    | some u =>
     rcases hO b with z | ⟨ob,xs,z⟩
     ·rw [q] at z; cases z
     ·have z2 := un.frzs b ob _ z
      obtain ⟨e1,_⟩ := hok b _ z
      obtain ⟨e2,_⟩ := hok' b _ z2
      rw [e] at e1; cases e1
      exact e2
 cases hk : K.lookup a with
 | some o =>
  have e := KX a o hk
  rw [ha] at e
  cases e
  refine core (fun _=>none) (fun _=>.inl rfl) (.inr ⟨_,vs.toArray,_,hk,rfl,rfl,rfl,by rw [List.size_toArray,lenV]; exact hl,by simpa using rv⟩) (fun b u z=>by have z' : (none : Option HO) = some u := z; cases z') (fun b z=>absurd rfl z) fun z=>absurd rfl z
 | none =>
  refine core (fun b=>if b = a then some (.frz { cls := .type "list",data := .seq vs.toArray } (.lst (ns.map V.int))) else none) (fun b=>?_) (.inl (.inr ⟨{ cls := .type "list",data := .seq vs.toArray },if_pos rfl⟩)) (fun b u z=>?_) (fun b z=>?_) fun _=>hk
  ·by_cases hb : b = a
   ·exact .inr ⟨_,_,if_pos hb⟩
   ·exact .inl (if_neg hb)
  ·by_cases hb : b = a
   ·have z' := (if_pos hb).symm.trans z
    cases z'
    subst hb
    exact ⟨ha,by rw [List.length_map]; exact hl,vs,_,rv,ha⟩
   ·have z' := (if_neg hb).symm.trans z
    cases z'
  ·by_cases hb : b = a
   ·exact hb
   ·exact absurd (if_neg hb) z
end L2
namespace L2
open PySem PySem.Spec PyProof.Rows
theorem walk_of {l : PySem.W.OpenLaw} {n k : Nat} {q : Program} {loose : List Str} {XP : (Str → Option Value) → Heap → Prop} {YP : World → Heap → Prop} {d : DefRec} {K : Params → PySem.W.Frag} {CX : World → bC} {sp : World → Sp} {x : Str}
  (hn : l.most = some n) (hn2 : n ≤ sizeLine) (hdf : d.params.defaults = []) (hr : Room k callerA)
  (hY : ∀ (w : World) (h : Heap),YP w h → (K w.params).In h)
  (F : ∀ (w : World) (mg : Str → Option Value) (fa : Addr) (h : Heap),(K w.params).In h → h.Ns mainGlobals mg → mg d.name = some (.ref fa) →
   ∃ fd : FuncData,(∀ (s : Shared) (u : Value),BindsTo s fd ⟨[u],[]⟩ [(x,u)]) ∧
    ∀ base : Heap,(K w.params).In base → base.Ns mainGlobals mg → FnOk l.prog w (K w.params) mg base (CX w) k fa fd [x] (sp w))
  (hsp : ∀ (w : World) (H : Hp) (a : Addr) (ns : List Int),ns.length ≤ n → AJ9 H → SqL (K w.params) H a (ns.map V.int) → sp w [.ref a] H (fun v _=>v = .bl true) fun _ _ _=>False)
  (hCX : ∀ (w : World) (H : Hp) (s : Shared) (e : Value) (s' : Shared),CX w [] H s (fun _ _ _=>False) e s' → False) :
  PySem.W.WalkO q loose XP YP l.row.toRowW d [] (fun f vs=>PySem.call f vs) := by
 refine Att.attach_call hn hdf fun w s₀ s₁ mg mb fa o pm cd doc a vs ns G Y ho hd hcd hmg hobj hints hlen hg=>?_
 have KX := hY w _ Y
 obtain ⟨fd,hb,hF⟩ := F w mg fa _ KX G.T.g hmg
 exact AG8 KX G.T.g G.T.b G.T.builtins G.T.nolimit hg hobj hints (Nat.le_trans hlen hn2) hr hF hb (fun H hO hS=>hsp w H a ns hlen hO hS) fun H e s'=>hCX w H s₁ e s'
end L2
namespace L2
open PySem PySem.Spec PyProof.Rows
def E3 (s : Stmt) : Arguments := match s with
 | .FunctionDef _ a _ _ _ _ _ _ _ _=>a
 | _=>{ posonlyargs := [],args := [],vararg := none,kwonlyargs := [],kw_defaults := [],kwarg := none,defaults := [] }
def D8 (s : Stmt) : List Stmt := match s with
 | .FunctionDef _ _ b _ _ _ _ _ _ _=>b
 | _=>[]
def B1 (s : Stmt) : Scope := match s with
 | .FunctionDef _ _ _ _ _ _ sc _ _ _=>sc
 | _=>{ kind := .function,names := [],isGenerator := false,isCoroutine := false }
abbrev K1 : bC := fun _ _ _ _ _ _=>False
abbrev E0 : XK := fun _ _ _=>False
theorem P0 {X : Cx} : S7 K1 X E0 := fun _ _ _ _ _ _ _ h=>h.elim
structure Fun (K : PySem.W.Frag) (x qual : Str) (st : Stmt) (f : Addr) (fd : FuncData) : Prop where
 ex : ∃ (oc : Value) (od : Option Addr) (kV doc pm : Value) (an : Option Addr) (cdv ct : Value) (osl : Array (Option Value)),
  fd = PySem.W.fnOf x qual (E3 st) (D8 st) (B1 st) .none kV doc pm an cdv ct ∧ K.lookup f = some ⟨oc,od,.func fd,osl⟩ ∧ PySem.W.codeIn K cdv qual = true
 kp : PySem.W.keepIn K (.ref f) = true
section
variable {P : Program} {w : World} {K : PySem.W.Frag} {mg : Str → Option Value} {base : Heap}
theorem Fun.ok {x qual : Str} {st : Stmt} {f : Addr} {fd : FuncData} {N ps : List Str} {k : Nat} {sp : Sp} (F : Fun K x qual st f fd) (S : E4 N ps (B1 st)) (len : ∀ vs H Q E,sp vs H Q E → vs.length = ps.length)
  (hbody : ∀ (cdv : Value) (A : Around) (outer : List Env) (s : Shared) (H : Hp) (vs : List V) (Q : VK) (E : XK),Room k (A.deeper (envOfC qual (B1 st) s.heap.objs.size f cdv)) → sp vs H Q E →
   ∃ t,PSs (Y2 K1 P w K mg base N qual (B1 st) f cdv A outer s H E).nox (D8 st) t ∧ t { nx := fun _ H'=>Q .non H',rt := Q } (start N vs) H) : FnOk P w K mg base K1 (k + 1) f fd ps sp := by
 obtain ⟨oc,od,kV,doc,pm,an,cdv,ct,osl,rfl,lk,hcd⟩ := F.ex
 refine AM6 lk hcd S len fun A outer s H vs Q E hr hsp=>?_
 obtain ⟨t,h,q⟩ := hbody cdv A outer s H vs Q E hr hsp
 exact ⟨t,h.nox,q⟩
theorem Fun.binds {x qual : Str} {st : Stmt} {f : Addr} {fd : FuncData} {ps : List Str} (F : Fun K x qual st f fd)
  (h : ∀ (kV doc pm : Value) (an : Option Addr) (cdv ct : Value) (us : List Value),us.length = ps.length → bindArgs (PySem.W.fnOf x qual (E3 st) (D8 st) (B1 st) .none kV doc pm an cdv ct) ⟨us,[]⟩ = pure (ps.zip us)) : Binds K fd ps [] := by
 obtain ⟨oc,od,kV,doc,pm,an,cdv,ct,osl,rfl,lk,hcd⟩ := F.ex
 exact .all (h kV doc pm an cdv ct)
theorem E9 {x qual : Str} {st : Stmt} {f : Addr} {oc : Value} {od an : Option Addr} {osl : Array (Option Value)} {kV doc pm cdv ct : Value} (l : K.lookup f = some ⟨oc,od,.func (PySem.W.fnOf x qual (E3 st) (D8 st) (B1 st) .none kV doc pm an cdv ct),osl⟩)
  (c : PySem.W.codeIn K cdv qual = true) (k : PySem.W.keepIn K (.ref f) = true) : Fun K x qual st f (PySem.W.fnOf x qual (E3 st) (D8 st) (B1 st) .none kV doc pm an cdv ct) := ⟨⟨oc,od,kV,doc,pm,an,cdv,ct,osl,rfl,l,c⟩,k⟩
end
theorem AM5 {A : Around} {k : Nat} (hr : Room k A) : A.units + 1 < cLine := Nat.lt_of_le_of_lt (Nat.add_le_add_left (by decide : 1 ≤ 64) _) hr.units
theorem yD {n : Nat} (h : n ≤ 1000) : n < sizeLine := Nat.lt_of_le_of_lt h (by decide)
section
variable {X : Cx}
theorem pv (i : Nat) {x : Str} {pos : Pos} (hN : X.N[i]? = some x := by rfl) (hv : uD X.env.scope x := by first | exact Or.inl rfl | exact Or.inr (Or.inl rfl) | exact Or.inr (Or.inr rfl)) (hd : (x == ("__debug__" : Str)) = false := by decide)
  (hcd : (x == ("__classdict__" : Str)) = false := by decide) : PE X (.Name x pos) (gE i) := AX2 hN hv hd hcd
end
theorem E2 {A B : Prop} (h : B) : if false = true then A else B := by
 rw [if_neg Bool.false_ne_true]
 exact h
theorem G0 {A B : Prop} (h : A) : if true = true then A else B := by
 rw [if_pos rfl]
 exact h
theorem M1 {c A B : Prop} [Decidable c] (h1 : c → A) (h2 : ¬ c → B) : if c then A else B := by
 by_cases h : c
 ·rw [if_pos h]
  exact h1 h
 ·rw [if_neg h]
  exact h2 h
def Same (H H' : Hp) : Prop := ∀ b o,H b = some o → H' b = some o
theorem Same.trans {H H1 H2 : Hp} (a : Same H H1) (b : Same H1 H2) : Same H H2 := fun c o h=>b c o (a c o h)
theorem Same.seq {K : PySem.W.Frag} {H H' : Hp} {a : Addr} {xs : List V} (e : Same H H') (h : SqL K H a xs) : SqL K H' a xs := by
 rcases h with (h | ⟨o,h⟩) | h
 ·exact .inl (.inl (e _ _ h))
 ·exact .inl (.inr ⟨o,e _ _ h⟩)
 ·exact .inr h
end L2
namespace L2
open PySem PySem.Spec PyProof.Rows
def ExL (H : Hp) (g : Heap) (h : Heap) (ex : Addr) (cls : Value) : Prop :=
 ∃ oe vs,h.get? ex = some oe ∧ oe.cls = cls ∧ oe.data = .fields vs ∧ oe.dict = none ∧ g.get? ex = none ∧ H ex = none ∧
  (vs[1]? = some .none ∨ ∃ T oT ts,vs[1]? = some (.ref T) ∧ g.get? T = none ∧ T ≠ ex ∧ H T = none ∧ h.get? T = some oT ∧ oT.data = .fields ts ∧ ts[3]? = some .none)
theorem ExL.mono {H : Hp} {g g' : Heap} {h : Heap} {ex : Addr} {cls : Value} (x : ExL H g h ex cls) (k : ∀ b,g.get? b = none → g'.get? b = none) : ExL H g' h ex cls := by
 obtain ⟨oe,vs,h1,h2,h3,hd,h4,h5,h6⟩ := x
 refine ⟨oe,vs,h1,h2,h3,hd,k _ h4,h5,?_⟩
 rcases h6 with h6 | ⟨T,oT,ts,a,b,c⟩
 ·exact .inl h6
 ·exact .inr ⟨T,oT,ts,a,k _ b,c⟩
def O0 (P : Program) (w : World) : bC := fun outer H s E e s' =>
 ∃ ex cls H',e = .ref ex ∧ s'.os = s.os ∧ AllBare s'.gens ∧ Un (W8 outer) [] H H' s.heap s'.heap ∧ HOk P w H' s'.heap ∧ ExL H' s.heap s'.heap ex cls ∧ E cls none H'
theorem pM (f : Array Value → Array Value) (o : Obj) : (Obj.mapFields f o).dict = o.dict := by
 obtain ⟨c,d,dt,sl⟩ := o
 cases dt <;> rfl
theorem ObjOk.there {P : Program} {w : World} {H : Hp} {h : Heap} {a : Addr} {o : HO} (x : ObjOk P w H h a o) : ∃ u,h.get? a = some u := by
 cases o with
 | lst xs=>obtain ⟨_,_,_,_,e⟩ := x; exact ⟨_,e⟩
 | tup xs=>obtain ⟨_,_,_,_,e,_⟩ := x; exact ⟨_,e⟩
 | dK kvs=>obtain ⟨_,_,_,_,o,_,_,e,_⟩ := x; exact ⟨_,e⟩
 | dT kvs=>obtain ⟨_,_,_,_,o,_,_,e,_⟩ := x; exact ⟨_,e⟩
 | set S n=>obtain ⟨o,_,_,_,e,_⟩ := x; exact ⟨_,e⟩
 | ins C dx fs=>obtain ⟨_,_,_,e,_⟩ := x; exact ⟨_,e⟩
 | own y=>obtain ⟨_,e⟩ := x; exact ⟨_,e⟩
 | xd fs=>obtain ⟨_,⟨_,_,_,e,_⟩,_⟩ := x; exact ⟨_,e⟩
 | rng lo hi=>obtain ⟨_,_,_,e⟩ := x; exact ⟨_,e⟩
 | frz ob u=>obtain ⟨e,_⟩ := x; exact ⟨_,e⟩
 | tbl ps=>exact ⟨_,(show h.get? a = some _ from x)⟩
 | met f y=>exact ⟨_,(show h.get? a = some _ from x)⟩
 | ext φ=>obtain ⟨_,⟨_,e⟩,_⟩ := x; exact ⟨_,e⟩
theorem HOk.none {P : Program} {w : World} {H : Hp} {h : Heap} {a : Addr} (x : HOk P w H h) (e : h.get? a = none) : H a = none := by
 cases q : H a with
 | none=>rfl
 | some o =>
  obtain ⟨u,e'⟩ := (x a o q).there
  rw [e] at e'; cases e'
theorem Inv.new {X : Cx} {pins : List (Addr × Obj)} {σ : St} {H : Hp} {s : Shared} (I : Inv X pins σ H s) (hex : X.ex = []) {b : Addr} (e : s.heap.get? b = none) : X.s₀.heap.get? b = none := by
 cases q : X.s₀.heap.get? b with
 | none=>rfl
 | some o =>
  obtain ⟨o',e'⟩ := I.base.there b o q (by rw [hex]; simp)
  rw [e] at e'; cases e'
section
variable {M : Model} {A : Around} {E : Value → Shared → Prop} {s : Shared}
theorem qA {base : Heap} {env : Env} {outer : List Env} {L e : Addr} {oe : Obj} {vs : Array Value} {head : Value} {hadNext : Bool} {Q : Unit → Shared → Prop}
  (hfr : A.frames = some (env :: outer)) (hl : s.heap.FunFrames base (env :: outer)) (hf : env.frame = some L) (he : s.heap.get? e = some oe) (hd : oe.data = .fields vs) (hsz : 1 < vs.size)
  (h : ∀ h' T,s.heap.objs.size ≤ T → (∀ b o,s.heap.get? b = some o → b ≠ e → b ∉ W8 (env :: outer) → h'.get? b = some o) →
   (∀ b o,s.heap.get? b = some o → b ≠ e → ∃ sl,h'.get? b = some { o with slots := sl }) →
   (∃ oe' vs',h'.get? e = some oe' ∧ oe'.cls = oe.cls ∧ oe'.data = .fields vs' ∧ oe'.dict = oe.dict ∧ vs'[1]? = some (.ref T)) →
   (∃ oT ts,h'.get? T = some oT ∧ oT.data = .fields ts ∧ ts[3]? = some .none) → Q () { s with heap := h' }) :
  wpAny M A (do let a ← frameOf env; let pl ← entryPlaceOf L hadNext; let b ← EntryCells.newEntry head a .none (rawInt L) .none pl; setField (.ref e) 1 b) (fun _ s'=>wpAny M A (setFlight (.ref e) none) Q E s') E s := by
 have hene : e ∉ W8 (env :: outer) := fun hm=>by
  obtain ⟨_,o,ho,hnf⟩ := hl.mem hm
  rw [he] at ho; injection ho with ho; subst ho; exact hnf vs hd
 refine wpAny_bind (wpAny_frameOf_fun hfr hl hf fun h₁ hs₁=>?_)
 refine wpAny_bind (wpAny_entryPlaceOf fun pl hpl=>?_)
 unfold EntryCells.newEntry newFields
 refine wpAny_bind (wpAny_newObj_type ?_ (hpl.sizeOk5 _ _ _ _ _))
 generalize hob : ({ cls := .type "traceback",dict := none,data := .fields ([head,.ref L,.none,rawInt L,.none] ++ (if pl.isEmpty then List.replicate 6 Value.none else pl)).toArray } : Obj) = ob
 have hobd : ob.data = .fields ([head,.ref L,.none,rawInt L,.none] ++ (if pl.isEmpty then List.replicate 6 Value.none else pl)).toArray := by rw [← hob]
 have hobf : ob.isFreed = false := by rw [← hob]; rfl
 have he₁ : h₁.get? e = some oe := (hs₁.2.1 e hene).trans he
 have he₂ : (h₁.push ob).get? e = some oe := Heap.get?_push_of_some _ he₁
 refine wpAny_setField he₂ hd hsz ?_
 have hTe : h₁.objs.size ≠ e := Nat.ne_of_gt (Heap.lt_size he₁)
 have hd₃ := Obj.data_mapFields hd (·.setIfInBounds 1 (Value.ref h₁.objs.size))
 have he₃ := Heap.get?_update_self (Obj.mapFields (·.setIfInBounds 1 (Value.ref h₁.objs.size))) he₂ (Obj.isFreed_of_fields hd₃)
 have hT₃ := (Heap.get?_update_other (h₁.push ob) (Obj.mapFields (·.setIfInBounds 1 (Value.ref h₁.objs.size))) (Ne.symm hTe)).trans (Heap.get?_push_size h₁ hobf)
 unfold setFlight
 refine wpAny_bind (wpAny_field he₃ hd₃ (x := .ref h₁.objs.size) (by simp [hsz]) ?_)
 rw [if_pos (show (Value.ref h₁.objs.size != Value.none) = true from by simp)]
 refine wpAny_setField hT₃ hobd (by simp only [List.size_toArray,List.length_append,List.length_cons,List.length_nil] <;> omega) (h _ h₁.objs.size (Nat.le_of_eq hs₁.1.symm) ?_ ?_ ?_ ?_)
 ·intro b o hb hbe hbf
  have hb₁ := (hs₁.2.1 b hbf).trans hb
  rw [Heap.get?_update_other _ _ (Nat.ne_of_gt (Heap.lt_size hb₁)),Heap.get?_update_other _ _ (Ne.symm hbe)]
  exact Heap.get?_push_of_some _ hb₁
 ·intro b o hb hbe
  obtain ⟨sl,hb₁⟩ := hs₁.2.2 b o hb
  refine ⟨sl,?_⟩
  rw [Heap.get?_update_other _ _ (Nat.ne_of_gt (Heap.lt_size hb₁)),Heap.get?_update_other _ _ (Ne.symm hbe)]
  exact Heap.get?_push_of_some _ hb₁
 ·refine ⟨_,_,?_,Obj.cls_mapFields _ _,hd₃,pM _ _,by simp [hsz]⟩
  rw [Heap.get?_update_other _ _ hTe]; exact he₃
 ·exact ⟨_,_,Heap.get?_update_self _ hT₃ (Obj.isFreed_of_fields (Obj.data_mapFields hobd _)),Obj.data_mapFields hobd _,by first | (simp; done) | (rcases hpl with rfl | ⟨_,_,_,_,_,_,_,rfl⟩ <;> simp)⟩
end
section
variable {X : Cx} {pins : List (Addr × Obj)} {σ : St} {H : Hp} {s : Shared} {E' : Value → Shared → Prop}
theorem mR {Q : Unit → Shared → Prop} {L ex : Addr} {cls : Value} {g : Heap} (I : Inv X pins σ H s) (hst : X.stack = X.env :: X.outer) (hf : X.env.frame = some L) (hx : ExL H g s.heap ex cls) (hn : ∀ b,s.heap.objs.size ≤ b → g.get? b = none)
  (h : ∀ h',(∀ b o,s.heap.get? b = some o → (g.get? b ≠ none ∨ H b ≠ none) → b ∉ W8 X.stack → h'.get? b = some o) → (∀ b o,s.heap.get? b = some o → (g.get? b ≠ none ∨ H b ≠ none) → ∃ sl,h'.get? b = some { o with slots := sl }) →
   (∀ b o,s.heap.get? b = some o → ∃ o',h'.get? b = some o') → ExL H g h' ex cls → Q () { s with heap := h' }) :
  wpAny (model X.prog X.w) X.A (noteFrame (.ref ex) X.env) (fun _ s'=>wpAny (model X.prog X.w) X.A (setFlight (.ref ex) none) Q E' s') E' s := by
 obtain ⟨oe,vs,he,hc,hd,hdi,hne,hHe,hh⟩ := hx
 have hfr : X.A.frames = some (X.env :: X.outer) := by rw [← hst]; exact I.ok.frames
 have hl : s.heap.FunFrames X.base (X.env :: X.outer) := by rw [← hst]; exact I.stack
 unfold noteFrame
 simp only [hf]
 rcases hh with h1 | ⟨T,oT,ts,h1,hnT,hTe,hHT,hT,hdT,h3⟩
 ·refine wpAny_bind (wpAny_field he hd h1 ?_)
  rw [if_neg (by decide)]
  refine qA hfr hl hf he hd (Array.getElem?_eq_some_iff.mp h1).1 fun h' T hT k1 k2 ⟨oe',vs',a1,a2,a3,a5,a4⟩ ⟨oT,ts,c1,c2,c3⟩=>?_
  have ne : ∀ b,(g.get? b ≠ none ∨ H b ≠ none) → b ≠ ex := fun b hb z=>by
   subst z
   rcases hb with hb | hb
   ·exact hb hne
   ·exact hb hHe
  refine h h' (fun b o hb h1 h2=>k1 b o hb (ne b h1) (by rw [← hst]; exact h2)) (fun b o hb h1=>k2 b o hb (ne b h1)) (fun b o hb=>?_) ⟨oe',vs',a1,a2.trans hc,a3,a5.trans hdi,hne,hHe,.inr ⟨T,oT,ts,a4,hn _ hT,?_,I.hok.fresh hT,c1,c2,c3⟩⟩
  ·by_cases hbe : b = ex
   ·subst hbe; exact ⟨_,a1⟩
   ·obtain ⟨sl,q⟩ := k2 b o hb hbe; exact ⟨_,q⟩
  ·exact Nat.ne_of_gt (Nat.lt_of_lt_of_le (Heap.lt_size he) hT)
 ·refine wpAny_bind (wpAny_field he hd h1 ?_)
  rw [if_pos (show (Value.ref T != Value.none) = true from by simp)]
  refine wpAny_bind (wpAny_field hT hdT h3 ?_)
  rw [if_neg (show ¬ ((Value.none == rawInt L) = true) from by simp [rawInt])]
  refine wpAny_bind (wpAny_setField hT hdT (Array.getElem?_eq_some_iff.mp h3).1 ?_)
  have other : ∀ b,b ≠ T → (s.heap.update T (Obj.mapFields (·.setIfInBounds 3 Value.none))).get? b = s.heap.get? b := fun b hb=>Heap.get?_update_other _ _ (Ne.symm hb)
  have hT2 : (s.heap.update T (Obj.mapFields (·.setIfInBounds 3 Value.none))).get? T = some _ := Heap.get?_update_self _ hT (Obj.isFreed_of_fields (Obj.data_mapFields hdT _))
  have hsz : (s.heap.update T (Obj.mapFields (·.setIfInBounds 3 Value.none))).objs.size = s.heap.objs.size := Heap.size_after_update ..
  refine qA hfr (hl.of_keeps fun b o hb hnf=>⟨o,(other b fun z=>?_).trans hb,rfl⟩) hf ((other ex (Ne.symm hTe)).trans he) hd (Array.getElem?_eq_some_iff.mp h1).1 fun h' T' hT' k1 k2 ⟨oe',vs',a1,a2,a3,a5,a4⟩ ⟨oT',ts',c1,c2,c3⟩=>?_
  ·subst z; rw [hT] at hb; cases hb; exact hnf ts hdT
  have hT'' : s.heap.objs.size ≤ T' := by rw [← hsz]; exact hT'
  have ne : ∀ b,(g.get? b ≠ none ∨ H b ≠ none) → b ≠ ex ∧ b ≠ T := fun b hb=>by
   refine ⟨fun z=>?_,fun z=>?_⟩
   ·subst z
    rcases hb with hb | hb
    ·exact hb hne
    ·exact hb hHe
   ·subst z
    rcases hb with hb | hb
    ·exact hb hnT
    ·exact hb hHT
  refine h h' (fun b o hb h1 h2=>k1 b o ((other b (ne b h1).2).trans hb) (ne b h1).1 (by rw [← hst]; exact h2)) (fun b o hb h1=>k2 b o ((other b (ne b h1).2).trans hb) (ne b h1).1) (fun b o hb=>?_)
   ⟨oe',vs',a1,a2.trans hc,a3,a5.trans hdi,hne,hHe,.inr ⟨T',oT',ts',a4,hn _ hT'',?_,I.hok.fresh hT'',c1,c2,c3⟩⟩
  ·by_cases hbe : b = ex
   ·subst hbe; exact ⟨_,a1⟩
   ·by_cases hbT : b = T
    ·subst hbT; obtain ⟨sl,q⟩ := k2 b _ hT2 hbe; exact ⟨_,q⟩
    ·obtain ⟨sl,q⟩ := k2 b o ((other b hbT).trans hb) hbe; exact ⟨_,q⟩
  ·exact Nat.ne_of_gt (Nat.lt_of_lt_of_le (Heap.lt_size he) hT'')
theorem zO {ex : Addr} {cls : Value} {E : XK} (I : Inv X pins σ H s) (hst : X.stack = X.env :: X.outer) (hex : X.ex = []) (hf : X.env.frame = some X.env.locals) (hx : ExL H X.s₀.heap s.heap ex cls) (q : E cls none H) :
  wpAny (model X.prog X.w) X.A (leaving X.env (.ref ex)) (fun _ s''=>O0 X.prog X.w X.outer X.H₀ X.s₀ E (.ref ex) s'') E' s := by
 unfold leaving
 refine wpAny_bind (mR I hst hf hx (fun b z=>Heap.get?_none_of_le (Nat.le_trans I.sz z)) fun h' k1 k2 k3 hx'=>?_)
 have own : ∀ b a,H b = some (.own a) → H b ≠ none := fun b a e z=>by rw [z] at e; cases e
 have hB := I.base
 rw [hex] at hB
 have stk : ∀ b,b < X.s₀.heap.objs.size → b ∉ X.fs → b ∉ W8 X.stack := fun b hb hn hz=>by
  rcases List.mem_cons.mp (I.stkSub b hz) with e | e
  ·exact absurd (Nat.lt_of_lt_of_le hb I.ok.above) (by rw [e]; exact Nat.lt_irrefl _)
  ·exact hn e
 have uV : ∀ b,H b ≠ none → b ∉ W8 X.stack := fun b hb hz=>hb (I.stkFree b hz)
 refine ⟨ex,cls,H,rfl,I.os,I.bare,⟨fun b o e n hb hx=>?_,fun b o e n hb hx=>?_,hB.free,fun b o e hx=>?_,hB.tups,hB.frzs,hB.tbls⟩,fun b o e=>(I.hok b o e).stay (fun c u hc r=>?_) (fun _ q=>q) fun _ _ q=>q,hx',q⟩
 ·exact k1 b o (hB.keep b o e n hb hx) (.inl (by rw [e]; exact fun z=>nomatch z)) (stk b (Heap.lt_size e) hb)
 ·obtain ⟨sl,e1⟩ := hB.slot b o e n hb hx
  obtain ⟨sl',e2⟩ := k2 b _ e1 (.inl (by rw [e]; exact fun z=>nomatch z))
  exact ⟨sl',e2⟩
 ·obtain ⟨o',e1⟩ := hB.there b o e hx
  exact k3 b o' e1
 ·have hc' : H c ≠ none := by
   rcases hc with rfl | hc
   ·intro z; rw [z] at e; cases e
   ·exact own c b hc
  exact k1 c u r (.inr hc') (uV c hc')
end
theorem G5 {P : Program} {w : World} {K : PySem.W.Frag} {mg : Str → Option Value} {base : Heap} {N : List Str} {qual : Str} {scope : Scope} {f : Addr} {cd : Value} {A : Around} {outer : List Env} {s : Shared} {H : Hp} {E E' : XK} (k : ∀ c d H',E' c d H' → E c d H') :
  S7 (O0 P w) (Y2 (O0 P w) P w K mg base N qual scope f cd A outer s H E) E' := by
 intro pins σ H2 s2 e s' I h
 obtain ⟨ex,cls,H',rfl,os,bare,un,hok,hx,q⟩ := h
 obtain ⟨hh,g,d,t,os'⟩ := s'
 obtain rfl : os' = s2.os := os
 have J := I.call (h' := hh) (g' := g) (d' := d) (t' := t) (ch := []) un hok bare (fun b z=>absurd z (by simp))
 exact zO (X := Y2 (O0 P w) P w K mg base N qual scope f cd A outer s H E) J rfl rfl rfl (hx.mono fun b e=>I.new rfl e) (k _ _ _ q)
end L2
namespace L2
open PySem PySem.Spec PyProof.Rows
structure XC (K : PySem.W.Frag) (C : Addr) (bmB : List Value) (newId : String) : Prop where
 ex : PySem.W.excIn K C bmB newId = true
 ga : PySem.W.findIn K (.ref C) "__getattribute__" = some (some (.builtin "BaseException.__getattribute__"))
 gt : PySem.W.findIn K (.ref C) "__getattr__" = some none
 cl : PySem.W.findIn K (.ref C) "__class__" = some (some (.builtin "object.__class__"))
 mo : PySem.W.mroIn K C (.type "object") = some true
 mb : PySem.W.mroIn K C (.type "BaseException") = some true
theorem XC.obj {K : PySem.W.Frag} {C : Addr} {bmB : List Value} {newId : String} (q : PySem.W.excIn K C bmB newId = true) :
  ∃ bm N nm qn bs hdct sn sub ab col dd k0 k1 k2 k3 k5,K.lookup C = some (excClassObj nm qn C N bs bm hdct sn sub ab col dd k0 k1 k2 k3 k5 newId) ∧ PySem.W.nsOkIn K N = true ∧ PySem.W.nsIn K N "__init__" = some none ∧ PySem.W.tailIn K bmB bm = true := by
 unfold PySem.W.excIn at q
 split at q
 ·rename_i dd cd sl ho
  split at q
  ·rename_i C' bm k0 k1 k2 k3 n k5 hm hs
   simp only [Bool.and_eq_true,beq_iff_eq,Bool.not_eq_true'] at q
   obtain ⟨⟨⟨⟨⟨rfl,rfl⟩,hdel⟩,ht⟩,hok⟩,hni⟩ := q
   obtain ⟨nm,bs,mro,ns,qn,hd,sn,sub,ab,col,del⟩ := cd
   dsimp only at hm hdel hok hni
   subst hm hdel
   have hsl : sl = #[k0,k1,k2,k3,some (.builtin n),k5] := by
    obtain ⟨l⟩ := sl
    simp only at hs
    rw [hs]
   subst hsl
   exact ⟨bm,ns,nm,qn,bs,hd,sn,sub,ab,col,dd,k0,k1,k2,k3,k5,ho,hok,hni,ht⟩
  ·cases q
 ·cases q
theorem AS2 {K : PySem.W.Frag} {N : Addr} {h h' : Heap} {m : Str → Option Value} (X : K.In h) (X' : K.In h') (ok : PySem.W.nsOkIn K N = true) (n : h.Ns N m) : h'.Ns N m := by
 unfold PySem.W.nsOkIn at ok
 split at ok
 ·rename_i ho
  obtain ⟨o,es,ep,e,r⟩ := n
  have e1 := X _ _ ho
  rw [e] at e1
  cases e1
  exact ⟨_,es,ep,X' _ _ ho,r⟩
 ·cases ok
def AU8 (C : Addr) (E : XK) (t : TA) : TS := fun _ σ H=>t σ H fun vs H1=>vs.length ≤ sizeLine ∧ E (.ref C) none H1
theorem V3 {P : Program} {w : World} {K : PySem.W.Frag} {mg : Str → Option Value} {base : Heap} {N : List Str} {qual : Str} {scope : Scope} {f : Addr} {cd : Value} {A : Around} {outer : List Env} {s₀ : Shared} {H₀ : Hp} {E : XK}
  {C : Addr} {B newId initId : String} {bmB : List Value} {x : Str} {np cpos pos : Pos} {e : Expr} {es : List Expr} {t : TA}
  (FB : ExcBaseFacts B newId initId bmB) (c : XC K C bmB newId) (hg : Gl (Y2 (O0 P w) P w K mg base N qual scope f cd A outer s₀ H₀ E) x) (hm : mg x = some (.ref C))
  (ha : PA (Y2 (O0 P w) P w K mg base N qual scope f cd A outer s₀ H₀ E) (e :: es) t)
  (he : starEach (e :: es) (envOfC qual scope s₀.heap.objs.size f cd) = (false,eval e (envOfC qual scope s₀.heap.objs.size f cd)) :: starEach es (envOfC qual scope s₀.heap.objs.size f cd) := by rfl)
  (hplain : (backTo cpos (starEach es (envOfC qual scope s₀.heap.objs.size f cd))).any (·.1) = false := by rfl) (hdb : (x == ("__debug__" : Str)) = false := by decide) :
  PS (Y2 (O0 P w) P w K mg base N qual scope f cd A outer s₀ H₀ E) (.Raise (some (.Call (.Name x np) (e :: es) [] cpos)) none pos) (AU8 C E t) := by
 intro pins s σ H D I h
 obtain ⟨bm,Nn,nm,qn,bs,hdct,sn,sub,ab,col,dd,k0,k1,k2,k3,k5,lC,hok,hni,ht⟩ := XC.obj c.ex
 have T := PySem.W.tail_of_in I.kIn ht
 have hN : s.heap.Ns Nn (s.heap.nsMap Nn) := .of_isNs (PySem.W.isNs_of_in I.kIn hok)
 refine wpAny_Raise_call_subT (C := C) (nm := nm) (q := qn) (N := Nn) (bs := bs) (bm := bm) (hdct := hdct) (sn := sn) (sub := sub) (ab := ab) (col := col) (dd := dd) (k0 := k0) (k1 := k1) (k2 := k2) (k3 := k3) (k5 := k5)
  FB (mN := s.heap.nsMap Nn) (T.hasType FB.hasBase) (I.ok.hd rfl) (by
   show (backTo cpos (starEach (e :: es) (envOfC qual scope s₀.heap.objs.size f cd))).any (·.1) = false
   rw [he]; show (false || (backTo cpos (starEach es (envOfC qual scope s₀.heap.objs.size f cd))).any (·.1)) = false; rw [hplain]; rfl) (PySem.W.nsMap_none_of_in I.kIn hok hni) (bX I hg hm ⟨rfl,?_⟩ hdb)
 have hp := ha cpos pins s σ H _ I h
 have he' : starEach (e :: es) (Y2 (O0 P w) P w K mg base N qual scope f cd A outer s₀ H₀ E).env = (false,eval e (envOfC qual scope s₀.heap.objs.size f cd)) :: starEach es (envOfC qual scope s₀.heap.objs.size f cd) := he
 rw [he'] at hp ⊢
 refine Calls.evalArgs_plain (wpAny_mono hp (fun us s2 h2=>?_) fun _ _ y=>y)
 obtain ⟨vs,H1,I1,r,hl,q⟩ := h2
 refine ⟨rfl,by rw [← r.length]; exact hl,I1.kIn _ _ lC,AS2 I.kIn I1.kIn hok hN,PySem.W.tail_of_in I1.kIn ht,fun h' ex mx=>?_⟩
 have J : Inv (Y2 (O0 P w) P w K mg base N qual scope f cd A outer s₀ H₀ E) pins σ H1 { s2 with heap := h' } := I1.un (t' := s2.toks) (Un.kept mx.keeps) (I1.hok.kept mx.keeps)
 obtain ⟨tp,ht1,ht2,ht3⟩ := mx.there
 exact zO (X := Y2 (O0 P w) P w K mg base N qual scope f cd A outer s₀ H₀ E) J rfl rfl rfl ⟨_,_,ht1,rfl,rfl,rfl,I1.new rfl mx.new,I1.hok.none mx.new,.inl rfl⟩ q
section
variable {K : PySem.W.Frag} {C a : Addr} {o : Obj} {bmB : List Value} {newId : String}
theorem tQ {h : Heap} (e : h.get? a = some o) (hc : o.cls = .ref C) (hd : ∃ vs,o.data = .fields vs) (hn : o.dict = none) : PySem.W.InstAt h a o C none := by
 obtain ⟨vs,hd⟩ := hd
 refine ⟨e,hc,?_,?_⟩
 ·obtain ⟨c,d,dt,sl⟩ := o
  cases (show dt = .fields vs from hd)
  rfl
 ·rw [hn]; trivial
theorem AA2 {prog : Program} {w : World} {A : Around} {E : Value → Shared → Prop} {s : Shared} {tk : Tok} {Q : Fin → Shared → Prop} (X : K.In s.heap) (c : XC K C bmB newId) (I : PySem.W.InstAt s.heap a o C none) (hq : Q (.done (.ret (.ref C))) s) :
  wpAny (model prog w) A (Builtin.«object.__getattribute__» ⟨[.ref a,.str "__class__" tk],[]⟩) Q E s := by
 obtain ⟨h,g,d,t,os⟩ := s
 have hx := I.at_
 have hc := I.cls
 have hT5 : (⟨h,g,d,t,os⟩ : Shared).TypeIs (.builtin "object.__class__") "getset_descriptor" := F.typeOf_object_class
 have f5 := F.typeOf_object_class
 have f6 := F.slot_gs_get.lookup
 have f7 := F.slot_gs_set.lookup
 have L1 := PySem.W.looks_findIn (M := model prog w) X c.cl
 repeat (any_goals (first | assumption | (with_reducible refine wpAny_loadPart_at hx ?_; rw [hc]) | with_reducible refine L1.at ?_ | wp_step))
 refine PySem.W.class_get X I c.mo ?_
 repeat (any_goals (first | assumption | wp_step))
end
end L2
namespace L2
open PySem PySem.Spec PyProof.Rows
section
variable {K : PySem.W.Frag} {C D a : Addr} {o : Obj} {bmB : List Value} {newId : String} {prog : Program} {w : World} {A : Around} {E : Value → Shared → Prop} {s : Shared}
theorem AA3 {M : Model} {nameV : Value} {Q : Unit → Shared → Prop} (X : K.In s.heap) (c : XC K C bmB newId) (I : PySem.W.InstAt s.heap a o C none) (hq : Q () s) : wpAny M A (checkBuiltinCall "BaseException.__getattribute__" ⟨[.ref a,nameV],[]⟩) Q E s := by
 obtain ⟨h,g,d,t,os⟩ := s
 have hk : builtinKind "BaseException.__getattribute__" = some .slot := by decide +kernel
 have hsplit : splitId "BaseException.__getattribute__" = some ("BaseException","__getattribute__") := by decide +kernel
 have ha := F.args_bexc_ga (.ref a) nameV
 have L1 := PySem.W.looks_mroIn (M := M) X c.mb
 have hx := I.at_
 have hc := I.cls
 simp only [checkBuiltinCall,hk,hsplit]
 refine wpAny_bind ?_
 unfold isInstance
 repeat (first | (with_reducible refine wpAny_loadPart_at hx ?_; rw [hc]) | with_reducible refine L1.at ?_ | wp_step)
 exact hq
theorem AH9 {tk : Tok} {R : Result → Shared → Prop} (X : K.In s.heap) (c : XC K C bmB newId) (I : PySem.W.InstAt s.heap a o C none) (hq : R (.ok (.ret (.ref C))) s) :
  codeAny (model prog w) A (.call (.builtin "BaseException.__getattribute__") ⟨[.ref a,.str "__class__" tk],[]⟩) R s :=
 codeAny_call_builtin F.excAttr_ValueError.ga.plain F.entry_bexc_ga (AA3 X c I (AA2 X c I hq))
theorem BB4 {tk : Tok} {Q : Value → Shared → Prop} (X : K.In s.heap) (c : XC K C bmB newId) (I : PySem.W.InstAt s.heap a o C none) (hq : Q (.ref C) s) :
  wpAny (model prog w) A (getAttrBy (.ref a) (.str "__class__" tk) false) Q E s := by
 obtain ⟨h,g,d,t,os⟩ := s
 have f3 := F.excAttr_ValueError.ga.bind (.ref a)
 have hx2 : (Value.builtin "BaseException.__getattribute__" == Value.builtin "object.__getattribute__") = false := by decide +kernel
 have hx1 : (onTheHeap (Value.ref C) && Value.builtin "BaseException.__getattribute__" == Value.builtin "object.__getattribute__") = false := by rw [hx2]; rfl
 have hx0 : (false && onTheHeap (Value.builtin "BaseException.__getattribute__")) = false := rfl
 have L1 := PySem.W.looks_findIn (M := model prog w) X c.ga
 have L2 := PySem.W.looks_findIn (M := model prog w) X c.gt
 have hx := I.at_
 have hc := I.cls
 repeat (any_goals (first | assumption | (with_reducible refine wpAny_loadPart_at hx ?_; rw [hc]) | with_reducible refine L1.at ?_ | with_reducible refine L2.at ?_ | wp_step))
 refine AH9 X c I ?_
 repeat (any_goals (first | assumption | wp_step))
theorem AI0 {Q : Option Value → Shared → Prop} (X : K.In s.heap) (c : XC K C bmB newId) (I : PySem.W.InstAt s.heap a o C none) (hq : Q (some (.ref C)) { s with toks := s.toks + 1 }) :
  wpAny (model prog w) A (getAttr? (.ref a) "__class__") Q E s := by
 obtain ⟨h,g,d,t,os⟩ := s
 unfold getAttr? getAttrBy?
 repeat (any_goals (first | assumption | with_reducible apply BB4 (s := ⟨h,g,d,t + 1,os⟩) X c I | wp_step))
theorem XC.cls (c : XC K C bmB newId) : ∃ cd,PySem.W.clsIn K C = some cd := by
 have h := c.mo
 unfold PySem.W.mroIn at h
 cases q : PySem.W.clsIn K C with
 | none=>rw [q] at h; cases h
 | some cd=>exact ⟨cd,rfl⟩
theorem XC.isT {M : Model} {h : Heap} (c : XC K C bmB newId) (X : K.In h) : PySem.W.Looks M h (isType (.ref C)) true := by
 obtain ⟨cd,hc⟩ := c.cls
 unfold PySem.W.clsIn at hc
 split at hc
 ·rename_i c' d' cd' sl' ho
  intro A' Q' E' s' k q
  unfold isType loadHead
  exact wpAny_bind (wpAny_loadPart (k _ _ (X _ _ ho)) (wpAny_pure q))
 ·cases hc
theorem AH2 (c : XC K C bmB newId) : PySem.W.KitX K (.ref a) (.ref C) (fun h=>PySem.W.InstAt h a o C none) where
 ty := fun _ _ _ I=>I.type
 it := fun _ _ X _=>c.isT X
 ne := fun h tp dd its n sl X htp=>by
  obtain ⟨cd,hc⟩ := c.cls
  refine Bool.eq_false_iff.mpr fun q=>?_
  have e : C = tp := Value.ref.inj (beq_iff_eq.mp q)
  subst e
  unfold PySem.W.clsIn at hc
  split at hc
  ·rename_i c' d' cd' sl' ho
   have z := (X _ _ ho).symm.trans htp
   cases z
  ·cases hc
 ca := fun X I k=>AI0 X c I k
theorem uS {M : Model} {b : Bool} {Q : Bool → Shared → Prop} (X : K.In s.heap) (I : PySem.W.InstAt s.heap a o C none) (c : XC K D bmB newId) (hb : PySem.W.mroIn K C (.ref D) = some b) (hq : Q b s) :
  wpAny M A (excMatches (.ref a) (.ref D)) Q E s := by
 obtain ⟨h,g,d,t,os⟩ := s
 obtain ⟨bm,Nn,nm,qn,bs,hdct,sn,sub,ab,col,dd,k0,k1,k2,k3,k5,lD,hok,hni,ht⟩ := XC.obj c.ex
 have hD := X _ _ lD
 have hx := I.at_
 have hc := I.cls
 have f := tc_notTuple
 have L1 := PySem.W.looks_mroIn (M := M) X c.mb
 have L3 := PySem.W.looks_mroIn (M := M) X hb
 unfold excMatches
 repeat (first | (with_reducible refine wpAny_loadPart_at hx ?_; rw [hc]) | with_reducible refine wpAny_loadPart_at hD ?_ | with_reducible refine L1.at ?_ | with_reducible refine L3.at ?_ | wp_step)
 cases b <;> (wp_walk; exact hq)
end
theorem AB0 {X : Cx} {ex C : Addr} {oe : Obj} {bmB : List Value} {newId : String} (c : XC X.K C bmB newId) (hp : (ex,oe) ∈ X.pn) (hc : oe.cls = .ref C) (hd : ∃ vs,oe.data = .fields vs) (hn : oe.dict = none) :
  T3 X (.builtin "isinstance") (fun xs H Q=>∃ v u b,xs = [.ref ex,v] ∧ (∀ z,RelV v z → z = u) ∧ PySem.W.kitOne X.K (.ref C) u = some b ∧ Q (.bl b) H) := by
 intro pins s σ H xs us Q I r h
 obtain ⟨v,u,b,rfl,hv,hb,q⟩ := h
 obtain ⟨u1,w1,rfl,ru,rw'⟩ := qX r
 cases (show u1 = Value.ref ex from ru)
 cases hv w1 rw'
 have hat : s.heap.get? ex = some oe := (I.pin (ex,oe) (List.mem_append_left _ hp)).1
 exact PySem.W.kia_one (AH2 c) I.kIn (tQ hat hc hd hn) hb (fun z=>nomatch z) fun tk=>⟨.bl b,H,I.tok tk,rfl,q⟩
structure Step (fs : List Addr) (g : Heap) (H : Hp) (h h' : Heap) : Prop where
 keep : ∀ b o,h.get? b = some o → (g.get? b ≠ none ∨ H b ≠ none) → b ∉ fs → h'.get? b = some o
 slot : ∀ b o,h.get? b = some o → (g.get? b ≠ none ∨ H b ≠ none) → ∃ sl,h'.get? b = some { o with slots := sl }
 there : ∀ b o,h.get? b = some o → ∃ o',h'.get? b = some o'
section
variable {fs : List Addr} {g h h' : Heap} {H H' : Hp} {P : Program} {w : World}
theorem Step.un (S : Step fs g H' h h') (u : Un fs [] H H' g h) : Un fs [] H H' g h' := by
 refine ⟨fun b o e n hb hx=>?_,fun b o e n hb hx=>?_,u.free,fun b o e hx=>?_,u.tups,u.frzs,u.tbls⟩
 ·exact S.keep b o (u.keep b o e n hb hx) (.inl (by rw [e]; exact fun z=>nomatch z)) hb
 ·obtain ⟨sl,e1⟩ := u.slot b o e n hb hx
  obtain ⟨sl',e2⟩ := S.slot b _ e1 (.inl (by rw [e]; exact fun z=>nomatch z))
  exact ⟨sl',e2⟩
 ·obtain ⟨o',e1⟩ := u.there b o e hx
  exact S.there b o' e1
theorem Step.hok (S : Step fs g H h h') (x : HOk P w H h) (nf : ∀ b ∈ fs,H b = none) : HOk P w H h' := fun b o e=>(x b o e).stay (fun c u hc r=>by
  have hc' : H c ≠ none := by
   rcases hc with rfl | hc
   ·intro z; rw [z] at e; cases e
   ·intro z; rw [z] at hc; cases hc
  exact S.keep c u r (.inr hc') fun z=>hc' (nf c z)) (fun _ q=>q) fun _ _ q=>q
end
theorem AT2 {M : Model} {A : Around} {E : Value → Shared → Prop} {s : Shared} {g : Heap} {H : Hp} {ex : Addr} {cls : Value} {fs : List Addr} {Q : Unit → Shared → Prop} (hx : ExL H g s.heap ex cls)
  (h : ∀ h',Step fs g H s.heap h' → ExL H g h' ex cls → Q () { s with heap := h' }) : wpAny M A (setFlight (.ref ex) none) Q E s := by
 obtain ⟨oe,vs,he,hc,hd,hdi,hne,hHe,hh⟩ := id hx
 unfold setFlight
 rcases hh with h1 | ⟨T,oT,ts,h1,hnT,hTe,hHT,hT,hdT,h3⟩
 ·refine wpAny_bind (wpAny_field he hd h1 ?_)
  rw [if_neg (by decide)]
  exact wpAny_pure (h s.heap ⟨fun _ _ e _ _=>e,fun b o e _=>⟨o.slots,e⟩,fun b o e=>⟨o,e⟩⟩ hx)
 ·refine wpAny_bind (wpAny_field he hd h1 ?_)
  rw [if_pos (show (Value.ref T != Value.none) = true from by simp)]
  have hs3 := (Array.getElem?_eq_some_iff.mp h3).1
  refine wpAny_setField hT hdT hs3 (h _ ?_ ?_)
  ·have ne : ∀ b,(g.get? b ≠ none ∨ H b ≠ none) → T ≠ b := fun b hb z=>by
    subst z
    rcases hb with hb | hb
    ·exact hb hnT
    ·exact hb hHT
   refine ⟨fun b o e hb _=>(Heap.get?_update_other _ _ (ne b hb)).trans e,fun b o e hb=>⟨o.slots,(Heap.get?_update_other _ _ (ne b hb)).trans e⟩,fun b o e=>?_⟩
   by_cases hb : b = T
   ·subst hb; exact ⟨_,Heap.get?_update_self _ hT (Obj.isFreed_of_fields (Obj.data_mapFields hdT _))⟩
   ·exact ⟨o,(Heap.get?_update_other _ _ (Ne.symm hb)).trans e⟩
  ·exact ⟨oe,vs,(Heap.get?_update_other _ _ hTe).trans he,hc,hd,hdi,hne,hHe,.inr ⟨T,_,_,h1,hnT,hTe,hHT,Heap.get?_update_self _ hT (Obj.isFreed_of_fields (Obj.data_mapFields hdT _)),Obj.data_mapFields hdT _,by simp [hs3]⟩⟩
end L2
namespace L2
open PySem PySem.Spec PyProof.Rows
abbrev Cx.suite (X : Cx) (ex : Addr) (oe : Obj) : Cx := { X with A := X.A.mark (some (.ref ex)),calm := false,pn := (ex,oe) :: X.pn,xe := fun _ _=>False }
abbrev Cx.tried (X : Cx) (pn : List (Addr × Obj)) (xe : Value → Shared → Prop) : Cx := { X with pn := X.pn ++ pn,xe := xe }
section
variable {X : Cx} {pins : List (Addr × Obj)} {σ σ' : St} {H : Hp} {s : Shared} {ex : Addr} {oe : Obj}
theorem Inv.suite (I : Inv X pins σ H s) (he : s.heap.get? ex = some oe) (hd : ∃ vs,oe.data = .fields vs) (hH : H ex = none) : Inv (X.suite ex oe) pins σ H s := by
 obtain ⟨vs,hd⟩ := hd
 have ok := I.ok
 refine ⟨⟨ok.mod,ok.kind,ok.glob,ok.blt,ok.above,ok.inj,ok.has,ok.cab,(fun z=>nomatch z),ok.frames,ok.stk,ok.exf,ok.bs,ok.bsz,ok.noex,ok.exfs,ok.funs,ok.frf⟩,I.os,I.bare,I.base,I.loc,I.cell,I.free,I.freeC,fun p hp=>?_,I.hok,I.len⟩
 have hp' : p ∈ ((ex,oe) :: X.pn) ++ pins := hp
 have hp3 : p = (ex,oe) ∨ p ∈ X.pn ∨ p ∈ pins := by simpa using hp'
 rcases hp3 with rfl | hp2
 ·refine ⟨he,hH,fun z=>?_,fun z=>?_,fun v z=>?_⟩
  ·obtain ⟨m,⟨o,es,ep,ho,hd',_⟩,_⟩ := I.loc
   have z' : ex = X.env.locals := z
   rw [← z',he] at ho; cases ho; rw [hd] at hd'; cases hd'
  ·obtain ⟨_,o,ho,hnf⟩ := I.funs.mem z
   have ho' : s.heap.get? ex = some o := ho
   rw [he] at ho'; cases ho'; exact hnf vs hd
  ·have z' : oe.data = .cell v := z
   rw [hd] at z'; cases z'
 ·exact I.pin p (List.mem_append.mpr hp2)
theorem Inv.unsuite (I : Inv (X.suite ex oe) pins σ H s) (ok : X.Ok) : Inv X pins σ H s :=
 ⟨ok,I.os,I.bare,I.base,I.loc,I.cell,I.free,I.freeC,fun p hp=>I.pin p (List.mem_cons_of_mem _ hp),I.hok,I.len⟩
theorem Inv.tried (I : Inv X pins σ H s) (xe : Value → Shared → Prop) : Inv (X.tried pins xe) [] σ H s := by
 have ok := I.ok
 exact ⟨⟨ok.mod,ok.kind,ok.glob,ok.blt,ok.above,ok.inj,ok.has,ok.cab,ok.hd,ok.frames,ok.stk,ok.exf,ok.bs,ok.bsz,ok.noex,ok.exfs,ok.funs,ok.frf⟩,I.os,I.bare,I.base,I.loc,I.cell,I.free,I.freeC,fun p hp=>I.pin p (by simpa using hp),I.hok,I.len⟩
theorem Inv.untried {xe : Value → Shared → Prop} {pins' : List (Addr × Obj)} (I : Inv (X.tried pins xe) pins' σ H s) (ok : X.Ok) : Inv X pins σ H s :=
 ⟨ok,I.os,I.bare,I.base,I.loc,I.cell,I.free,I.freeC,fun p hp=>I.pin p (List.mem_append_left _ hp),I.hok,I.len⟩
theorem dB {M : Model} {A : Around} {E : Value → Shared → Prop} {i : Nat} {x : Str} {pos : Pos} {Q : Unit → Shared → Prop} (I : Inv X pins σ H s) (hN : X.N.Nodup) (hi : X.N[i]? = some x) (hk : X.env.scope.names.lookup x = some .local)
  (h : ∀ s',Inv X pins (σ.set i none) H s' → Q () s') : wpAny M A (do bindName X.env x .none; unbindBehindTheSuite X.env x pos) Q E s := by
 obtain ⟨m,hn,hl⟩ := id I.loc
 have hcls : (X.env.scope.kind == .class || (X.env.scope.kind == .module && X.env.locals != X.env.globals)) = false := by rw [I.ok.kind]; rfl
 have hiσ : i < σ.length := by rw [I.len]; exact (List.getElem?_eq_some_iff.mp hi).1
 have cne := I.cne
 refine wpAny_nameGoes_keeps hk hn hcls fun h' v hn' hs=>?_
 obtain ⟨oL,_,_,hoL,_⟩ := id hn
 have tracked : HOk X.prog X.w H h' := fun b ob e=>by
  refine (I.hok b ob e).stay (fun c w' hc q=>(hs.2 c ?_).trans q) (fun _ q=>q) fun _ _ q=>q
  rintro rfl
  rcases hc with rfl | hc
  ·rw [I.free] at e; cases e
  ·rw [I.free] at hc; cases hc
 refine h _ ⟨I.ok,I.os,I.bare,⟨fun b o e n hb hx=>?_,fun b o e n hb hx=>?_,I.base.free,fun b o e hx=>?_,I.base.tups,I.base.frzs,I.base.tbls⟩,⟨_,hn',fun j y v' e1 e2 e3=>?_⟩,fun y c e=>?_,I.free,I.freeC,fun p hp=>?_,tracked,by simpa using I.len⟩
 ·exact (hs.2 b (Nat.ne_of_lt (Nat.lt_of_lt_of_le (Heap.lt_size e) I.ok.above))).trans (I.base.keep b o e n hb hx)
 ·obtain ⟨sl,e1⟩ := I.base.slot b o e n hb hx
  exact ⟨sl,(hs.2 b (Nat.ne_of_lt (Nat.lt_of_lt_of_le (Heap.lt_size e) I.ok.above))).trans e1⟩
 ·obtain ⟨o',e1⟩ := I.base.there b o e hx
  exact ⟨o',(hs.2 b (Nat.ne_of_lt (Nat.lt_of_lt_of_le (Heap.lt_size e) I.ok.above))).trans e1⟩
 ·by_cases hj : j = i
  ·subst hj
   rw [List.getElem?_set_self hiσ] at e2
   cases e2
  ·rw [List.getElem?_set_ne (Ne.symm hj)] at e2
   obtain ⟨u',r',q⟩ := hl j y v' e1 e2 e3
   refine ⟨u',r',?_⟩
   rcases q with ⟨k,e⟩ | ⟨k,c,e,z⟩
   ·refine .inl ⟨k,?_⟩
    have : y ≠ x := fun e=>hj (lG hN e1 (e ▸ hi))
    simp [this,e]
   ·exact .inr ⟨k,c,e,z.sameBut hs (cne y c e)⟩
 ·obtain ⟨w',z⟩ := I.cell y c e
  exact ⟨w',z.sameBut hs (cne y c e)⟩
 ·obtain ⟨e,n,ne,nf,d⟩ := I.pin p hp
  exact ⟨(hs.2 p.1 ne).trans e,n,ne,nf,d⟩
theorem BC2 {E : XK} {e : Value} {s' : Shared} {Q : Unit → Shared → Prop} {E' : Value → Shared → Prop} (I : Inv X pins σ H s) (hst : X.stack = X.env :: X.outer) (hf : X.env.frame = some X.env.locals) (hx : O0 X.prog X.w X.stack H s E e s')
  (h : ∀ ex cls H' h',e = .ref ex → E cls none H' → Inv X pins σ H' { s' with heap := h' } → ExL H' s.heap h' ex cls → Un (W8 X.stack) [] H H' s.heap h' → Q () { s' with heap := h' }) :
  wpAny (model X.prog X.w) X.A (noteFrame e X.env) (fun _ s1=>wpAny (model X.prog X.w) X.A (setFlight e none) Q E' s1) E' s' := by
 obtain ⟨ex,cls,H',rfl,os,bare,un,hok,hx,q⟩ := hx
 obtain ⟨hh,g,d,t,os'⟩ := s'
 obtain rfl : os' = s.os := os
 have J := I.call (h' := hh) (g' := g) (d' := d) (t' := t) (ch := []) un hok bare (fun b z=>absurd z (by simp))
 refine mR J hst hf hx (fun b z=>?_) fun h' k1 k2 k3 hx'=>?_
 ·cases e : s.heap.get? b with
  | none=>rfl
  | some o =>
   obtain ⟨o',e'⟩ := un.there b o e (by simp)
   exact absurd (Nat.lt_of_lt_of_le (Heap.lt_size e') z) (Nat.lt_irrefl _)
 have S : Step (W8 X.stack) s.heap H' hh h' := ⟨k1,k2,k3⟩
 have un' := S.un un
 have hok' := S.hok hok J.stkFree
 have J' := I.call (h' := h') (g' := g) (d' := d) (t' := t) (ch := []) un' hok' bare (fun b z=>absurd z (by simp))
 exact h ex cls H' h' rfl q J' hx' un'
end
def BI9 (n i : Nat) (C : Addr) (tb : XK → TS) (ts : Addr → TS) : TS := fun D σ H =>
 tb (fun c _ H'=>c = .ref C ∧ ∀ (σ' : St) (ex : Addr),σ'.length = n → H' ex = none → ts ex { nx := fun σ2 H2=>D.nx (σ2.set i none) H2,rt := D.rt,bk := fun σ2 H2=>D.bk (σ2.set i none) H2,ct := fun σ2 H2=>D.ct (σ2.set i none) H2 } (σ'.set i (some (.ref ex))) H') D σ H
theorem AW7 {X : Cx} {C M : Addr} {bmB bmM : List Value} {idC idM : String} {x n : Str} {i : Nat} {body : List Stmt} {b₀ : Stmt} {suite : List Stmt} {np hpos pos : Pos} {tb : XK → TS} {ts : Addr → TS}
  (hst : X.stack = X.env :: X.outer) (hf : X.env.frame = some X.env.locals) (cC : XC X.K C bmB idC) (cM : XC X.K M bmM idM) (hb : PySem.W.mroIn X.K C (.ref M) = some true) (hg : Gl X x) (hm : X.mg x = some (.ref M))
  (hN : X.N.Nodup) (hi : X.N[i]? = some n) (hk : X.env.scope.names.lookup n = some .local)
  (hbody : ∀ (pn : List (Addr × Obj)) (xe : Value → Shared → Prop) (E : XK),S7 (O0 X.prog X.w) (X.tried pn xe) E → PSs (X.tried pn xe) body (tb E))
  (hsuite : ∀ (ex : Addr) (oe : Obj),oe.cls = .ref C → (∃ vs,oe.data = .fields vs) → oe.dict = none → PSs (X.suite ex oe) (b₀ :: suite) (ts ex)) (hdb : (x == ("__debug__" : Str)) = false := by decide) :
  PS X (.Try body [.ExceptHandler (some (.Name x np)) (some n) (b₀ :: suite) hpos] [] [] pos) (BI9 X.N.length i C tb ts) := by
 intro pins s σ H D I h
 refine wpAny_Try_except (wpAny_mono (hbody pins _ _ ?_ [] s σ H D (I.tried _) h) (fun f s1 h1=>?_) fun e s1 h1=>h1)
 ·intro pins' σ' H' s' e s'' I' hx
  have I0 : Inv X pins σ' H' s' := I'.untried I.ok
  refine BC2 I0 hst hf hx fun ex cls H1 h' he hE J hex un=>?_
  subst he
  obtain ⟨rfl,hE⟩ := hE
  obtain ⟨oe,vs,he,hc,hd,hdi,hne,hHe,hh⟩ := id hex
  have Js := J.suite he ⟨vs,hd⟩ hHe
  refine wpAny_handleBy_cons (codeAny_handlers_test (bX (X := X.suite ex oe) Js hg hm ?_ hdb)) (by intro q; cases q)
  refine uS Js.kIn (tQ he hc ⟨vs,hd⟩ hdi) cM hb ?_
  refine codeAny_handlers_suite_as ?_
  refine AT2 (fs := W8 X.stack) hex fun h2 S hex2=>?_
  have un2 := S.un un
  have hok2 := S.hok J.hok J.stkFree
  obtain ⟨oe2,vs2,he2,hc2,hd2,hdi2,hne2,hHe2,hh2⟩ := id hex2
  have J2 : Inv X pins σ' H1 { s'' with heap := h2 } := by
   have os1 : s''.os = s'.os := J.os.trans I0.os.symm
   obtain ⟨hh,gg,dd,tt,oo⟩ := s''
   obtain rfl : oo = s'.os := os1
   have J' := I0.call (h' := h2) (g' := gg) (d' := dd) (t' := tt) (ch := []) un2 hok2 J.bare (fun b z=>absurd z (by simp))
   exact J'
  have J2s := J2.suite he2 ⟨vs2,hd2⟩ hHe2
  refine gH (X := X.suite ex oe2) J2s hN hi (.inl hk) (v := .ref ex) rfl (fun s3 J3=>?_) (.inr hk)
  refine wpAny_mono (hsuite ex oe2 hc2 ⟨vs2,hd2⟩ hdi2 pins s3 _ H1 _ J3 (hE σ' ex J.len hHe2)) (fun f s4 h4=>?_) fun e s4 h4=>False.elim h4
  show wpAny _ X.A (do bindName X.env n .none; unbindBehindTheSuite X.env n hpos) (fun _ s5=>SP X pins D f s5) X.xe s4
  cases f with
  | next=>obtain ⟨σ5,H5,J5,q⟩ := h4; exact dB (J5.unsuite I.ok) hN hi hk fun s6 J6=>⟨_,_,J6,q⟩
  | brk=>obtain ⟨σ5,H5,J5,q⟩ := h4; exact dB (J5.unsuite I.ok) hN hi hk fun s6 J6=>⟨_,_,J6,q⟩
  | cont=>obtain ⟨σ5,H5,J5,q⟩ := h4; exact dB (J5.unsuite I.ok) hN hi hk fun s6 J6=>⟨_,_,J6,q⟩
  | ret u=>obtain ⟨v,σ5,H5,J5,r,q⟩ := h4; exact dB (J5.unsuite I.ok) hN hi hk fun s6 J6=>⟨v,_,_,J6,r,q⟩
 ·cases f with
  | next =>
   obtain ⟨σ5,H5,J5,q⟩ := h1
   exact D6 pins s1 σ5 H5 D (J5.untried I.ok) q
  | brk=>obtain ⟨σ5,H5,J5,q⟩ := h1; exact ⟨σ5,H5,J5.untried I.ok,q⟩
  | cont=>obtain ⟨σ5,H5,J5,q⟩ := h1; exact ⟨σ5,H5,J5.untried I.ok,q⟩
  | ret u=>obtain ⟨v,σ5,H5,J5,r,q⟩ := h1; exact ⟨v,σ5,H5,J5.untried I.ok,r,q⟩
end L2
namespace L2
open PySem PySem.Spec PyProof.Rows
def O3 (cells : List (Str × Addr)) : List (Str × NameKind) → List (Str × Addr) → List (Str × Addr)
 | [],cs=>cs
 | (n,k) :: r,cs=>if k == .free then O3 cells r ((n,(cells.lookup n).getD 0) :: cs) else O3 cells r cs
theorem aZ {env : Env} : ∀ (names : List (Str × NameKind)) (cs : List (Str × Addr)),(∀ x ∈ names,x.2 = .free → ∃ c,env.cells.lookup x.1 = some c) →
  (forIn names cs fun (x : Str × NameKind) (r : List (Str × Addr))=>(match x with | (name,kind)=>if (kind == .free) = true then do let c ← cellOf env name; pure (ForInStep.yield ((name,c) :: r)) else pure (ForInStep.yield r) : Sem (ForInStep (List (Str × Addr))))) = (pure (O3 env.cells names cs) : Sem (List (Str × Addr)))
 | [],cs,_=>rfl
 | (n,k) :: r,cs,h=>by
  rw [List.forIn_cons]
  have hr : ∀ x ∈ r,x.2 = .free → ∃ c,env.cells.lookup x.1 = some c := fun x hx=>h x (List.mem_cons_of_mem _ hx)
  by_cases hk : (k == NameKind.free) = true
  ·obtain ⟨c,hc⟩ := h (n,k) List.mem_cons_self (by simpa using hk)
   have e : cellOf env n = pure c := by unfold cellOf; rw [hc]
   simp only [hk,↓reduceIte,e,pure_bind]
   rw [aZ r _ hr]
   simp only [O3,hk,↓reduceIte,hc,Option.getD_some]
  ·simp only [hk,↓reduceIte,Bool.false_eq_true,pure_bind]
   rw [aZ r _ hr]
   simp only [O3,hk,↓reduceIte,Bool.false_eq_true]
theorem iD {env : Env} {scope : Scope} (h : ∀ x ∈ scope.names,x.2 = .free → ∃ c,env.cells.lookup x.1 = some c) : closureFor scope env = pure (O3 env.cells scope.names []) := by
 unfold closureFor
 have e := aZ (env := env) scope.names [] h
 simp only [bind_pure]
 exact e
theorem aI {cells : List (Str × Addr)} {x : Str} {c : Addr} : ∀ (names : List (Str × NameKind)) (cs : List (Str × Addr)),(∀ y ∈ names,y.2 = .free → ∃ c,cells.lookup y.1 = some c) → (∀ c,cs.lookup x = some c → cells.lookup x = some c) →
  (O3 cells names cs).lookup x = some c → cells.lookup x = some c
 | [],cs,_,h,e=>h c e
 | (n,k) :: r,cs,hh,h,e=>by
  have hr : ∀ x ∈ r,x.2 = .free → ∃ c,cells.lookup x.1 = some c := fun x hx=>hh x (List.mem_cons_of_mem _ hx)
  by_cases hk : (k == NameKind.free) = true
  ·simp only [O3,hk,if_true] at e
   refine aI r _ hr (fun c' e'=>?_) e
   rw [List.lookup_cons] at e'
   obtain ⟨c0,hc0⟩ := hh (n,k) List.mem_cons_self (by simpa using hk)
   cases hx : x == n with
   | true =>
    rw [hx] at e'
    have hxn : x = n := by simpa using hx
    subst hxn
    have hc0' : cells.lookup x = some c0 := hc0
    rw [hc0'] at e'
    simp only [Option.getD_some] at e'
    rw [hc0']; exact e'
   | false=>rw [hx] at e'; exact h c' e'
  ·simp only [O3,hk,if_false] at e
   exact aI r cs hr h e
theorem eM {cells : List (Str × Addr)} {x : Str} : ∀ (names : List (Str × NameKind)) (cs : List (Str × Addr)),(∃ c,cs.lookup x = some c) → ∃ c,(O3 cells names cs).lookup x = some c
 | [],cs,h=>h
 | (n,k) :: r,cs,⟨c,h⟩=>by
  by_cases hk : (k == NameKind.free) = true
  ·simp only [O3,hk,if_true]
   refine eM r _ ?_
   rw [List.lookup_cons]
   cases hx : x == n with
   | true=>exact ⟨_,rfl⟩
   | false=>exact ⟨c,h⟩
  ·simp only [O3,hk,if_false]
   exact eM r cs ⟨c,h⟩
theorem bN {cells : List (Str × Addr)} {x : Str} : ∀ (names : List (Str × NameKind)) (cs : List (Str × Addr)),names.lookup x = some .free → ∃ c,(O3 cells names cs).lookup x = some c
 | [],cs,h=>by simp at h
 | (n,k) :: r,cs,h=>by
  rw [List.lookup_cons] at h
  cases hx : x == n with
  | true =>
   rw [hx] at h
   cases h
   simp only [O3,beq_self_eq_true,if_true]
   refine eM r _ ⟨(cells.lookup n).getD 0,?_⟩
   rw [List.lookup_cons,hx]
  | false =>
   rw [hx] at h
   by_cases hk : (k == NameKind.free) = true
   ·simp only [O3,hk,if_true]
    exact bN r _ h
   ·simp only [O3,hk,if_false]
    exact bN r cs h
theorem cD {env : Env} : ∀ {names : List (Str × NameKind)} {x : Str} {k : NameKind},
  (names.map fun (n,k)=>if (k == NameKind.free && env.scope.kind == .function && env.kindOf n == some .cell) then (n,NameKind.cell) else (n,k)).lookup x = some k → k = .cell ∨ k = .free →
  (∀ y ∈ names,y.2 ≠ .cell) → names.lookup x = some .free
 | [],_,_,h,_,_=>by simp at h
 | (n,k') :: r,x,k,h,hk,hc=>by
  have ih := @cD env r x k
  have hc' : ∀ y ∈ r,y.2 ≠ .cell := fun y hy=>hc y (List.mem_cons_of_mem _ hy)
  have hc0 : k' ≠ .cell := hc (n,k') List.mem_cons_self
  have h : List.lookup x ((if (k' == NameKind.free && env.scope.kind == .function && env.kindOf n == some .cell) = true then (n,NameKind.cell) else (n,k')) :: _) = _ := h
  cases hx : x == n with
  | true =>
   rw [List.lookup_cons,hx]
   by_cases hq : (k' == NameKind.free && env.scope.kind == .function && env.kindOf n == some .cell) = true
   ·have : (k' == NameKind.free) = true := by
     cases hz : (k' == NameKind.free)
     ·rw [hz] at hq; simp at hq
     ·rfl
    have e : k' = .free := by simpa using this
    rw [e]
   ·rw [if_neg hq] at h
    simp only [List.lookup_cons,hx] at h
    cases h
    rcases hk with e | e
    ·exact absurd e hc0
    ·rw [e]
  | false =>
   rw [List.lookup_cons,hx]
   refine ih ?_ hk hc'
   by_cases hq : (k' == NameKind.free && env.scope.kind == .function && env.kindOf n == some .cell) = true
   ·rw [if_pos hq] at h; simp only [List.lookup_cons,hx] at h; exact h
   ·rw [if_neg hq] at h; simp only [List.lookup_cons,hx] at h; exact h
def R4 (X : Cx) (scope : Scope) (N' : List Str) (C : Addr) (fp : List Addr) (s : Shared) (H : Hp) : Cx :=
  { prog := X.prog, w := X.w, K := X.K, mg := X.mg, base := X.base, A := X.A, N := N', s₀ := s, H₀ := H, env := compEnvC scope (O3 X.env.cells scope.names []) C X.env,
    outer := X.stack, stack := X.stack, ex := fp, fn := fun _ => false, calm := X.calm, pn := [], xe := fun _ _ => False }
def xU (own : List Nat) (g : TG) : Prop := ∀ v σ H Q,g v σ H Q → g v σ H fun σ' H'=>Q σ' H' ∧ σ'.length = σ.length ∧ ∀ i,i ∉ own → σ'[i]? = σ[i]?
theorem X7 (j : Nat) : xU [j] (X5 j) := fun v σ H Q h=>⟨h,by simp,fun i hi=>by
 have : j ≠ i := fun e=>hi (by simp [e])
 rw [List.getElem?_set_ne this]⟩
def PTs (X : Cx) (ifs : List Expr) (t : TT) : Prop :=
 ∀ (pins : List (Addr × Obj)) (s : Shared) (σ : St) (H : Hp) (Q : Bool → Hp → Prop),Inv X pins σ H s → t σ H Q →
  wpAny (model X.prog X.w) X.A (forIn ifs true fun c r=>if r = true then do let ok ← isTrue c X.env (eval c X.env); pure (ForInStep.yield ok) else pure (ForInStep.yield r)) (TP X pins σ Q) X.xe s
def AU6 : TT := fun _ H Q=>Q true H
theorem bT {X : Cx} : PTs X [] AU6 := fun _ _ _ H _ I h=>wpAny_tests_nil ⟨H,I,h⟩
theorem AP8 {X : Cx} {c : Expr} {t : TT} (h : PT X c t) : PTs X [c] t := fun pins s σ H Q I q=>wpAny_tests_one (h pins s σ H Q I q)
theorem tY {prog : Program} {w : World} {A : Around} {R : Result → Shared → Prop} {s : Shared} {elt target iter : Expr} {ifs : List Expr} {scope : Scope} {pos : Pos} {it acc : Value} {env : Env} (I : Nat → Shared → Prop)
  (turn : ∀ n s,I n s → wpAny (model prog w) A (pyNext it) (fun r s₁=>match r with
   | none=>R (.ok .next) s₁
   | some v=>wpAny (model prog w) A (letOwnedTupleGo target it v) (fun _ s₁'=>wpAny (model prog w) A (assign target env v) (fun _ s₂ =>
     wpAny (model prog w) A (forIn ifs true fun c r=>if r = true then do let ok ← isTrue c env (eval c env); pure (ForInStep.yield ok) else pure (ForInStep.yield r)) (fun ok s₃ =>
      if ok = true then wpAny (model prog w) A (eval elt env) (fun x s₄ =>
       wpAny (model prog w) A (call (.builtin "list.append") [acc,x]) (fun _ s₅=>∃ m,m < n ∧ I m s₅) (fun _ _=>False) s₄) (fun _ _=>False) s₃
      else ∃ m,m < n ∧ I m s₃) (fun _ _=>False) s₂) (fun _ _=>False) s₁') (fun _ _=>False) s₁) (fun _ _=>False) s)
  (n : Nat) (h : I n s) : codeAny (model prog w) A (.compLoop (.ListComp elt [⟨target,iter,ifs,0⟩] scope pos) 0 it acc env) R s := by
 refine codeAny_loop rfl I (fun n s hI=>?_) n h
 show wpAny _ A ((compTurn (.ListComp elt [⟨target,iter,ifs,0⟩] scope pos) 0 it acc env).onRaise (fun x=>do noteFrame x env; theTreesLotGoes x)) _ _ s
 refine wpAny_noted ?_
 rw [compTurn_list]
 refine wpAny_bind (wpAny_standAt (wpAny_bind (wpAny_mono (turn n s hI) (fun r s₁ h₁=>?_) fun _ _ h'=>h'.elim)))
 cases r with
 | none=>exact wpAny_pure h₁
 | some v =>
  refine wpAny_bind (wpAny_mono h₁ (fun _ s₁' h₁'=>?_) fun _ _ h'=>h'.elim)
  refine wpAny_bind (wpAny_mono h₁' (fun _ s₂ h₂=>wpAny_bind (wpAny_mono h₂ (fun ok s₃ h₃=>?_) fun _ _ h'=>h'.elim)) fun _ _ h'=>h'.elim)
  cases ok with
  | false=>exact wpAny_pure ⟨rfl,h₃⟩
  | true =>
   exact wpAny_bind (wpAny_bind (wpAny_mono h₃ (fun x s₄ h₄=>wpAny_bind (wpAny_mono h₄ (fun _ s₅ h₅=>wpAny_pure (wpAny_pure ⟨rfl,h₅⟩)) fun _ _ h'=>h'.elim)) fun _ _ h'=>h'.elim))
def dR (fr : List (Option Nat)) (σ : St) : St := fr.map fun o=>o.bind fun j=>(σ[j]?).join
def rR (J : It) (fr : List (Option Nat)) (g : TG) (ti : TT) (te : TE) (σ : St) (H1 : Hp) (l : Addr) (Q : VK) : Prop :=
 ∃ W : Nat → Nat → List V → Hp → Prop,(∃ m,W 0 m [] (E7 H1 l (.lst []))) ∧ ∀ i m ys H',W i m ys H' →
  (J.stop i H' ∧ Q (.ref l) H') ∨ (J.go i H' ∧ ∃ N : List V → Hp → Prop,(∀ zs H'',N zs H'' → ∃ m',m' < m ∧ W (i + 1) m' zs H'') ∧ ∀ x H2,J.yld i H' x H2 → g x (dR fr σ) H2 fun σ3 H3=>ti σ3 H3 fun b H4=>if b = true then
   te σ3 H4 fun y H5=>H5 l = some (.lst ys) ∧ ys.length < sizeLine ∧ N (ys ++ [y]) (E7 H5 l (.lst (ys ++ [y]))) else N ys H4)
def AK4 (wi : TI) (fr : List (Option Nat)) (g : TG) (ti : TT) (te : TE) : TE := fun σ H Q=>wi σ H fun J H1=>∀ l,H1 l = none → rR J fr g ti te σ H1 l Q
structure CompOk (X : Cx) (scope : Scope) (N' : List Str) (fr : List (Option Nat)) (own : List Nat) : Prop where
 kind : scope.kind = .function
 cell : (scope.names.all fun x=>x.2 != .cell) = true
 names : (scope.names.all fun x=>x.2 != .local || scope.names.lookup x.1 == some .local) = true
 free : (scope.names.all fun x=>x.2 != .free || X.env.scope.names.lookup x.1 == some .cell || X.env.scope.names.lookup x.1 == some .free) = true
 len : N'.length = fr.length
 from_ : ((N'.zip fr).all fun p=>match p.2 with | none=>true | some j=>X.N[j]? == some p.1 && (scope.names.lookup p.1 == some .free)) = true
 own_ : (own.all fun j=>fr[j]? == some none) = true
section
variable {X : Cx} {scope : Scope} {N' : List Str} {fr : List (Option Nat)} {own : List Nat} {elt tg iter : Expr} {ifs : List Expr} {wi : TI} {g : TG} {ti : TT} {te : TE} {pos : Pos}
theorem CompOk.hcell (c : CompOk X scope N' fr own) : ∀ y ∈ scope.names,y.2 ≠ .cell := fun y hy e=>by
 have := List.all_eq_true.mp c.cell y hy
 rw [e] at this
 exact absurd this (by decide)
theorem CompOk.hnames (c : CompOk X scope N' fr own) : ∀ y ∈ scope.names,y.2 = .local → scope.names.lookup y.1 = some .local := fun y hy e=>by
 have := List.all_eq_true.mp c.names y hy
 rw [e] at this
 simpa using this
theorem CompOk.hfree (c : CompOk X scope N' fr own) {pins : List (Addr × Obj)} {σ : St} {H : Hp} {s : Shared} (I : Inv X pins σ H s) : ∀ y ∈ scope.names,y.2 = .free → ∃ c,X.env.cells.lookup y.1 = some c := fun y hy e=>by
 have := List.all_eq_true.mp c.free y hy
 rw [e] at this
 refine I.ok.has y.1 ?_
 have z : X.env.scope.names.lookup y.1 = some .cell ∨ X.env.scope.names.lookup y.1 = some .free := by simpa using this
 exact z
theorem xQ {pins : List (Addr × Obj)} {σ : St} {H : Hp} {s : Shared} {fp : List Addr} {h₁ : Heap} {m : Str → Option Value} {tk : Nat} (c : CompOk X scope N' fr own) (hc : X.calm = true) (I : Inv X pins σ H s) (hfp : ∀ b ∈ fp,bA X pins H b) (hlt : ∀ b ∈ fp,b < s.heap.objs.size)
  (hns : h₁.Ns s.heap.objs.size m) (hk : ∀ b o,s.heap.get? b = some o → h₁.get? b = some o) :
  Inv (R4 X scope N' s.heap.objs.size fp s H) [] (dR fr σ) H { s with heap := h₁,toks := tk } := by
 have hfree := c.hfree I
 have look : ∀ x cc,(O3 X.env.cells scope.names []).lookup x = some cc → X.env.cells.lookup x = some cc := fun x cc e=>aI _ _ hfree (by intro c' e'; simp at e') e
 have cellAt : ∀ x cc,X.env.cells.lookup x = some cc → ∃ v,h₁.IsCell cc v := fun x cc e=>by
  obtain ⟨v,o,ho,hd⟩ := I.cell x cc e
  exact ⟨v,o,hk _ _ ho,hd⟩
 have ok : (R4 X scope N' s.heap.objs.size fp s H).Ok := by
  refine ⟨I.ok.mod,c.kind,I.ok.glob,I.ok.blt,Nat.le_refl _,fun x y cc h1 h2=>I.ok.inj x y cc (look x cc h1) (look y cc h2),fun x h=>?_,fun x cc h=>absurd h Bool.false_ne_true,I.ok.hd,I.ok.frames,.inl rfl,fun b hb=>⟨Nat.ne_of_lt (hlt b hb),fun x cc e=>(hfp b hb).2.2.2.2.1 x cc (look x cc e)⟩,
   fun b o e=>I.bs b o e,Nat.le_trans I.ok.bsz I.sz,fun b o e hb=>?_,fun b hb hz=>?_,I.stack,I.stkFree⟩
  ·have z : scope.names.lookup x = some .free := by
    rcases h with h | h
    ·exact cD (env := X.env) h (.inl rfl) c.hcell
    ·exact cD (env := X.env) h (.inr rfl) c.hcell
   exact bN _ _ z
  ·rcases (hfp b hb).2.2.2.1 with z | z
   ·exact I.ok.noex b o e z
   ·exact absurd (Nat.lt_of_lt_of_le (Heap.lt_size e) (Nat.le_trans I.ok.bsz z)) (Nat.lt_irrefl _)
  ·rcases List.mem_cons.mp (I.stkSub b hz) with e | e
   ·exact (hfp b hb).2.1 e
   ·exact (hfp b hb).2.2.1 e
 refine ⟨ok,rfl,I.bare,Un.kept hk,⟨m,hns,fun i x v e1 e2 hv=>?_⟩,fun x cc e=>cellAt x cc (look x cc e),I.fresh,fun x cc e=>I.freeC x cc (look x cc e),fun p hp=>by simp [R4] at hp,I.hok.kept hk,?_⟩
 ·
  have e1 : N'[i]? = some x := e1
  have e2 : (fr.map fun o=>o.bind fun j=>(σ[j]?).join)[i]? = some (some v) := e2
  rw [List.getElem?_map] at e2
  cases hfi : fr[i]? with
  | none=>rw [hfi] at e2; simp at e2
  | some o =>
   rw [hfi] at e2
   simp only [Option.map_some,Option.some.injEq] at e2
   cases o with
   | none=>simp at e2
   | some j =>
    have e3 : (σ[j]?).join = some v := by simpa using e2
    have e4 : σ[j]? = some (some v) := by
     cases hz : σ[j]? with
     | none=>rw [hz] at e3; simp at e3
     | some z=>rw [hz] at e3; simp at e3; rw [e3]
    have hm : (x,some j) ∈ N'.zip fr := by
     have : (N'.zip fr)[i]? = some (x,some j) := by rw [List.getElem?_zip_eq_some]; exact ⟨e1,hfi⟩
     exact List.mem_of_getElem? this
    have hz := List.all_eq_true.mp c.from_ _ hm
    have hz : (X.N[j]? == some x && (scope.names.lookup x == some .free)) = true := hz
    have hz1 : X.N[j]? = some x ∧ scope.names.lookup x = some .free := by simpa using hz
    obtain ⟨m0,hn0,hl0⟩ := I.loc
    have hxf : (X.env.scope.names.lookup x = some .cell ∨ X.env.scope.names.lookup x = some .free) := by
     have hmem : (x,NameKind.free) ∈ scope.names := PySem.mem_of_lookup hz1.2
     have := List.all_eq_true.mp c.free _ hmem
     simpa using this
    have vis : uD X.env.scope x := .inr hxf
    obtain ⟨u,ru,lk⟩ := hl0 j x v hz1.1 e4 vis
    refine ⟨u,ru,?_⟩
    rcases lk with ⟨k,_⟩ | ⟨k,cc,ec,hcell⟩
    ·have k : X.env.scope.names.lookup x = some .local := k
     rcases hxf with h | h
     ·rw [h] at k; cases k
     ·rw [h] at k; cases k
    ·obtain ⟨c2,hc2⟩ := bN (cells := X.env.cells) (x := x) scope.names [] hz1.2
     have := look x c2 hc2
     rw [ec] at this
     cases this
     refine .inr ⟨?_,cc,hc2,?_⟩
     ·rcases hv with h | h
      ·
       exfalso
       have hl : ∀ (names : List (Str × NameKind)),names.lookup x = some .free → (names.map fun (n,k)=>if (k == NameKind.free && X.env.scope.kind == .function && X.env.kindOf n == some .cell) then (n,NameKind.cell) else (n,k)).lookup x ≠ some .local := by
        intro names
        induction names with
        | nil=>intro h; simp at h
        | cons p r ih =>
         obtain ⟨n,k⟩ := p
         intro h hh
         have hh : List.lookup x ((if (k == NameKind.free && X.env.scope.kind == .function && X.env.kindOf n == some .cell) = true then (n,NameKind.cell) else (n,k)) :: _) = _ := hh
         rw [List.lookup_cons] at h
         cases hx : x == n with
         | true =>
          rw [hx] at h
          cases h
          by_cases hq : (NameKind.free == NameKind.free && X.env.scope.kind == .function && X.env.kindOf n == some .cell) = true
          ·rw [if_pos hq] at hh; simp [List.lookup_cons,hx] at hh
          ·rw [if_neg hq] at hh; simp [List.lookup_cons,hx] at hh
         | false =>
          rw [hx] at h
          by_cases hq : (k == NameKind.free && X.env.scope.kind == .function && X.env.kindOf n == some .cell) = true
          ·rw [if_pos hq] at hh; simp only [List.lookup_cons,hx] at hh; exact ih h hh
          ·rw [if_neg hq] at hh; simp only [List.lookup_cons,hx] at hh; exact ih h hh
       exact hl _ hz1.2 h
      ·exact h
     ·obtain ⟨o,ho,hd⟩ := hcell
      exact ⟨o,hk _ _ ho,hd⟩
 ·show (fr.map _).length = N'.length
  rw [List.length_map,c.len]
theorem nJ {pins : List (Addr × Obj)} {σ : St} {H2 : Hp} {s2 : Shared} {it : Addr} {fp : List Addr} {tn : Nat → Heap → Prop} {J : It} {Q : VK} {RR : Value → Addr → Result → Shared → Prop} {E : Value → Shared → Prop} (c : CompOk X scope N' fr own) (hc : X.calm = true)
  (hg : ∀ C fp s H,PG (R4 X scope N' C fp s H) tg g) (ho : xU own g) (ht : ∀ C fp s H,PTs (R4 X scope N' C fp s H) ifs ti) (he : ∀ C fp s H,PE (R4 X scope N' C fp s H) elt te)
  (I2 : Inv X pins σ H2 s2) (T : lS X.prog X.w X.K tg J fp it tn) (st2 : tn 0 s2.heap) (f2 : ∀ b ∈ fp,bA X pins H2 b)
  (R : ∀ l,H2 l = none → ∃ W : Nat → Nat → List V → Hp → Prop,(∃ m,W 0 m [] (E7 H2 l (.lst []))) ∧ ∀ i m ys H',W i m ys H' →
   (J.stop i H' ∧ Q (.ref l) H') ∨ (J.go i H' ∧ ∃ N : List V → Hp → Prop,(∀ zs H'',N zs H'' → ∃ m',m' < m ∧ W (i + 1) m' zs H'') ∧ ∀ x H2,J.yld i H' x H2 → g x (dR fr σ) H2 fun σ3 H3=>ti σ3 H3 fun b H4=>if b = true then
    te σ3 H4 fun y H5=>H5 l = some (.lst ys) ∧ ys.length < sizeLine ∧ N (ys ++ [y]) (E7 H5 l (.lst (ys ++ [y]))) else N ys H4))
  (fin : ∀ l C s' H',Inv X pins σ H' s' → (∃ m,s'.heap.Ns C m) → H' C = none → s2.heap.objs.size ≤ C → Q (.ref l) H' → RR (.ref l) C (.ok .next) s') :
  wpAny (model X.prog X.w) X.A (newList []) (fun acc s₃=>wpAny (model X.prog X.w) X.A (newFunctionEnv scope X.env.globals (O3 X.env.cells scope.names []) [] X.env.qual none .none (some X.env)) (fun cenv s₄ =>
   codeAny (model X.prog X.w) X.A (.compStart (.ListComp elt [⟨tg,iter,ifs,0⟩] scope pos) 0 (.ref it) acc { cenv with scope := relabel scope X.env }) (RR acc cenv.locals) s₄) E s₃) E s2 := by
 refine wpAny_newObj_type (wpAny_newFunctionEnv c.hcell (by intro y hy; simp at hy) (fun h₁ hns₁ hsb₁=>?_) c.kind)
 dsimp only at hns₁ hsb₁ ⊢
 have I3 : Inv X pins σ (E7 H2 s2.heap.objs.size (.lst [])) { s2 with heap := s2.heap.push { cls := .type "list",data := .seq ([] : List Value).toArray } } := I2.lnew (its := []) (t' := s2.toks) .nil (Nat.zero_le _)
 have hl := I2.fresh
 obtain ⟨W,⟨m0,w0⟩,turn⟩ := R _ hl
 generalize hs3 : ({ s2 with heap := s2.heap.push { cls := .type "list",data := .seq ([] : List Value).toArray } } : Shared) = s3 at I3
 have hh3 : s2.heap.push { cls := .type "list",dict := none,data := .seq ([] : List Value).toArray } = s3.heap := by rw [← hs3]
 have hz3 : s3.heap.objs.size = s2.heap.objs.size + 1 := by rw [← hs3]; exact Heap.size_push ..
 have up23 : ∀ b o,s2.heap.get? b = some o → s3.heap.get? b = some o := fun b o e=>by rw [← hh3]; exact Heap.get?_push_of_some _ e
 have objs : ∀ b ∈ fp,∃ o,s2.heap.get? b = some o ∧ ∀ v,o.data ≠ .cell v := T.obj _ _ st2
 have lt2 : ∀ b ∈ fp,b < s2.heap.objs.size := fun b hb=>by obtain ⟨o,e,_⟩ := objs b hb; exact Heap.lt_size e
 have f3 : ∀ b ∈ fp,bA X pins (E7 H2 s2.heap.objs.size (.lst [])) b := fun b hb=>⟨by rw [B6 (Nat.ne_of_lt (lt2 b hb))]; exact (f2 b hb).1,(f2 b hb).2⟩
 have st3 : tn 0 s3.heap := T.keep _ _ _ st2 fun b _ o e=>up23 b o e
 rw [hh3] at hns₁ hsb₁ ⊢
 have up34 : ∀ b o,s3.heap.get? b = some o → h₁.get? b = some o := fun b o e=>hsb₁.extBut b o (Nat.ne_of_lt (Heap.lt_size e)) (Heap.get?_push_of_some _ e)
 have I4 : Inv (R4 X scope N' s3.heap.objs.size fp s3 (E7 H2 s2.heap.objs.size (.lst []))) [] (dR fr σ) (E7 H2 s2.heap.objs.size (.lst [])) { s3 with heap := h₁,toks := s2.toks + ([] : List (Str × Value)).length } :=
  xQ c hc I3 f3 (fun b hb=>by rw [hz3]; exact Nat.lt_succ_of_lt (lt2 b hb)) hns₁ up34
 generalize hXX : R4 X scope N' s3.heap.objs.size fp s3 (E7 H2 s2.heap.objs.size (.lst [])) = X' at I4
 have hg' := hg s3.heap.objs.size fp s3 (E7 H2 s2.heap.objs.size (.lst []))
 have ht' := ht s3.heap.objs.size fp s3 (E7 H2 s2.heap.objs.size (.lst []))
 have he' := he s3.heap.objs.size fp s3 (E7 H2 s2.heap.objs.size (.lst []))
 rw [hXX] at hg' ht' he'
 have eP : X'.prog = X.prog := by rw [← hXX]; rfl
 have eW : X'.w = X.w := by rw [← hXX]; rfl
 have eK : X'.K = X.K := by rw [← hXX]; rfl
 have eA : X'.A = X.A := by rw [← hXX]; rfl
 have eC : X'.calm = true := by rw [← hXX]; exact hc
 have eX : X'.xe = fun _ _=>False := by rw [← hXX]; rfl
 have eE : X'.env = compEnvC scope (O3 X.env.cells scope.names []) s3.heap.objs.size X.env := by rw [← hXX]; rfl
 have eN : X'.env.locals = s3.heap.objs.size := by rw [eE]; rfl
 have eF : X'.fs = W8 X.stack := by rw [← hXX]; rfl
 have eEx : X'.ex = fp := by rw [← hXX]; rfl
 have ePn : X'.pn = [] := by rw [← hXX]; rfl
 have eS : X'.s₀ = s3 := by rw [← hXX]; rfl
 have eH : X'.H₀ = E7 H2 s2.heap.objs.size (.lst []) := by rw [← hXX]; rfl
 have fpIn : ∀ {H' : Hp},(∀ b ∈ fp,H' b = none) → ∀ b ∈ fp,bA X' [] H' b := fun {H'} hn b hb=>by
  refine ⟨hn b hb,by rw [eN,hz3]; exact Nat.ne_of_lt (Nat.lt_succ_of_lt (lt2 b hb)),fun z=>?_,.inl (by rw [eEx]; exact hb),fun x cc e=>?_,fun p hp=>by rw [ePn] at hp; simp at hp⟩
  ·rw [eF] at z
   rcases List.mem_cons.mp (I3.stkSub b z) with e | e
   ·exact (f3 b hb).2.1 e
   ·exact (f3 b hb).2.2.1 e
  ·rw [eE] at e
   exact (f3 b hb).2.2.2.2.1 x cc (aI _ _ (c.hfree I3) (by intro c' e'; simp at e') e)
 have loop : ∀ s₅ : Shared,s₅ = { s3 with heap := h₁,toks := s2.toks + ([] : List (Str × Value)).length } →
   codeAny (model X.prog X.w) X.A (.compLoop (.ListComp elt [⟨tg,iter,ifs,0⟩] scope pos) 0 (.ref it) (.ref s2.heap.objs.size) (compEnvC scope (O3 X.env.cells scope.names []) s3.heap.objs.size X.env)) (RR (.ref s2.heap.objs.size) s3.heap.objs.size) s₅ := by
  rintro s₅ rfl
  refine tY (fun n s'=>∃ i ys H',Inv X' [] (dR fr σ) H' s' ∧ tn i s'.heap ∧ (∀ b ∈ fp,H' b = none) ∧ W i n ys H') ?_ m0
   ⟨0,[],_,I4,T.keep _ _ _ st3 fun b _ o e=>up34 b o e,fun b hb=>(f3 b hb).1,w0⟩
  rintro n s6 ⟨i,ys,H6,I6,st6,fr6,w6⟩
  rcases turn i n ys H6 w6 with ⟨stop,q⟩ | ⟨go,NN,hNN,step⟩
  ·have D := T.done X' eP eW eK eC i [] s6 _ H6 (fun _ _=>False) I6 (fpIn fr6) st6 stop
   rw [eA] at D
   refine G1 D fun r s7 ⟨hr,I7⟩=>?_
   subst hr
   have un := I7.base
   rw [eF,eEx,eS,eH] at un
   have os7 : s7.os = s3.os := by rw [I7.os,eS]
   have hok7 := I7.hok
   rw [eP,eW] at hok7
   have J3 : Inv X pins σ H6 s7 := I3.call' os7 un hok7 I7.bare fun b hb=>⟨(f3 b hb).2.2.2.1,(f3 b hb).2.1,(f3 b hb).2.2.2.2.1,(f3 b hb).2.2.2.2.2⟩
   obtain ⟨m7,hn7,_⟩ := I7.loc
   rw [eN] at hn7
   have fr7 := I7.free
   rw [eN] at fr7
   exact fin _ _ s7 H6 J3 ⟨m7,hn7⟩ fr7 (by rw [hz3]; exact Nat.le_succ _) q
  ·have D := T.item X' eP eW eK eC i [] s6 _ H6 (fun _ _=>False) I6 (fpIn fr6) st6 go
   rw [eA] at D
   refine G1 D fun r s7 ⟨u,hr,h7⟩=>?_
   subst hr
   refine G1 h7 fun _ s8 ⟨x,H8,I8,r8,y8,st8,fr8⟩=>?_
   have I8' := I8.pinned (fpIn fr8) (T.obj _ _ st8)
   have q8 := ho _ _ _ _ (step x H8 y8)
   have A1 := hg' _ s8 _ H8 x u _ I8' r8 q8
   rw [eP,eW,eA,eE,eX] at A1
   refine G1 A1 fun _ s9 ⟨σ9,H9,I9,q9,len9,own9⟩=>?_
   have A2 := ht' _ s9 σ9 H9 _ I9 q9
   rw [eP,eW,eA,eE,eX] at A2
   refine G1 A2 fun ok s10 ⟨H10,I10,q10⟩=>?_
   have weak : ∀ {H' : Hp} {s' : Shared},Inv X' ([] ++ cH fp s8.heap) σ9 H' s' → Inv X' ([] ++ cH fp s8.heap) (dR fr σ) H' s' := fun {H' s'} I'=>I'.weak len9.symm fun j v e=>by
    by_cases hj : j ∈ own
    ·exfalso
     have z := List.all_eq_true.mp c.own_ j hj
     have z : fr[j]? = some none := by simpa using z
     have e : (fr.map fun o=>o.bind fun j=>(σ[j]?).join)[j]? = some (some v) := e
     rw [List.getElem?_map,z] at e
     simp at e
    ·rw [own9 j hj]; exact e
   have again : ∀ {H' : Hp} {s' : Shared},Inv X' ([] ++ cH fp s8.heap) σ9 H' s' → tn (i + 1) s'.heap ∧ (∀ b ∈ fp,H' b = none) ∧ Inv X' [] (dR fr σ) H' s' := fun {H' s'} I'=>by
    refine ⟨T.keep _ _ _ st8 fun b hb o e=>(I'.pin (b,o) (List.mem_append_right _ (List.mem_append_right _ (bG hb e)))).1,fun b hb=>?_,(weak I').unpinned⟩
    obtain ⟨o,e,d⟩ := T.obj _ _ st8 b hb
    exact (I'.pin (b,o) (List.mem_append_right _ (List.mem_append_right _ (bG hb e)))).2.1
   cases ok with
   | false =>
    rw [if_neg Bool.false_ne_true] at q10 ⊢
    obtain ⟨m',hm,w'⟩ := hNN _ _ q10
    obtain ⟨t1,t2,t3⟩ := again I10
    exact ⟨m',hm,i + 1,ys,H10,t3,t1,t2,w'⟩
   | true =>
    rw [if_pos rfl] at q10 ⊢
    have A3 := he' _ s10 σ9 H10 _ I10 q10
    rw [eP,eW,eA,eE,eX] at A3
    refine G1 A3 fun yv s11 ⟨y,H11,I11,r11,hl11,hz11,q11⟩=>?_
    have A4 := M0 (X := X') _ s11 σ9 H11 (.ref s2.heap.objs.size) [y] (.ref s2.heap.objs.size) [yv] (fun _ H'=>H' = E7 H11 s2.heap.objs.size (.lst (ys ++ [y]))) I11 rfl (.cons r11 .nil) ⟨_,ys,y,rfl,rfl,hl11,hz11,rfl⟩
    rw [eP,eW,eA,eX] at A4
    refine G1 A4 fun _ s12 ⟨_,H12,I12,_,e12⟩=>?_
    subst e12
    obtain ⟨m',hm,w'⟩ := hNN _ _ q11
    obtain ⟨t1,t2,t3⟩ := again I12
    exact ⟨m',hm,i + 1,_,_,t3,t1,t2,w'⟩
 have e5 : ({ s2 with heap := h₁,toks := s2.toks + ([] : List (Str × Value)).length } : Shared) = { s3 with heap := h₁,toks := s2.toks + ([] : List (Str × Value)).length } := by rw [← hs3]
 exact codeAny_compStart_list (loop _ e5) (T.self _ 0 _ _ _ (T.keep _ _ _ st3 fun b _ o e=>up34 b o e) (loop _ e5))
theorem vH (c : CompOk X scope N' fr own) (hc : X.calm = true) (hi : PI X tg iter wi)
  (hg : ∀ C fp s H,PG (R4 X scope N' C fp s H) tg g) (ho : xU own g) (ht : ∀ C fp s H,PTs (R4 X scope N' C fp s H) ifs ti) (he : ∀ C fp s H,PE (R4 X scope N' C fp s H) elt te)
  (hs : ∀ x,foldedSetIterable iter X.env x = pure x := by intro _; rfl) : PE X (.ListComp elt [⟨tg,iter,ifs,0⟩] scope pos) (AK4 wi fr g ti te) := by
 intro pins s σ H Q I h
 rw [eval_ListComp]
 refine wpAny_comprehension_free (use := none) rfl hs (iD (c.hfree I)) c.kind c.hnames (G1 (hi pins s σ H _ I h) fun v s1 h1=>G1 h1 fun itv s2 h2=>?_)
 obtain ⟨it,fp,tn,J,H2,e,I2,T,st2,f2,R⟩ := h2
 subst e
 refine nJ (RR := fun acc C=>compPost (model X.prog X.w) X.A X.xe none (EP X pins σ Q) acc C) c hc hg ho ht he I2 T st2 f2 R ?_
 intro l C s' H' I' hn hC hle q
 obtain ⟨m,hn⟩ := hn
 refine ⟨m,hn,fun h' hs'=>⟨.ref l,H',?_,rfl,q⟩⟩
 have cl : ∀ x cc,X.env.cells.lookup x = some cc → cc ≠ C := fun x cc e z=>by
  obtain ⟨v,o,ho,_⟩ := I2.cell x cc e
  exact absurd (Nat.lt_of_lt_of_le (Heap.lt_size ho) (by rw [z]; exact hle)) (Nat.lt_irrefl _)
 exact I'.turned (t' := s'.toks) (fun b o hb e=>hs'.extBut b o hb e) hC (Nat.ne_of_gt (Nat.lt_of_lt_of_le I2.lt hle)) (.inr (Nat.le_trans I2.sz hle)) cl fun p hp z =>
  absurd (Nat.lt_of_lt_of_le (Heap.lt_size (I2.pin p hp).1) (by rw [z]; exact hle)) (Nat.lt_irrefl _)
theorem fK {i : Nat} {y : Str} {py spos : Pos} (c : CompOk X scope N' fr own) (hc : X.calm = true) (hN : X.N.Nodup) (hy : X.N[i]? = some y) (hx : X.env.scope.names.lookup y = some .local) (hi : PI X tg iter wi)
  (hg : ∀ C fp s H,PG (R4 X scope N' C fp s H) tg g) (ho : xU own g) (ht : ∀ C fp s H,PTs (R4 X scope N' C fp s H) ifs ti) (he : ∀ C fp s H,PE (R4 X scope N' C fp s H) elt te)
  (hsw : swapsWith (.ListComp elt [⟨tg,iter,ifs,0⟩] scope pos) (some (.Name y py)) spos.line X.env = pure true := by rfl)
  (hs : ∀ x,foldedSetIterable iter X.env x = pure x := by intro _; rfl) : PS X (.Assign [.Name y py] (.ListComp elt [⟨tg,iter,ifs,0⟩] scope pos) spos) (rZ (AK4 wi fr g ti te) (X5 i)) := by
 intro pins s σ H D I h
 rw [exec_Assign_Name_used _ _ _ _ hsw]
 refine wpAny_bind (wpAny_standAt (wpAny_bind ?_))
 show wpAny _ X.A (do let _ ← comprehension (.ListComp elt [⟨tg,iter,ifs,0⟩] scope pos) scope X.env _ (newList []) false (eval iter X.env) (some (assign (.Name y py) X.env))) _ _ s
 refine wpAny_bind (wpAny_mono (wpAny_comprehension_free (use := some (assign (.Name y py) X.env)) (Q := fun _ s'=>SP X pins D .next s') rfl hs (iD (c.hfree I)) c.kind c.hnames
  (G1 (hi pins s σ H _ I h) fun v s1 h1=>G1 h1 fun itv s2 h2=>?_)) (fun _ s' hq=>wpAny_pure (wpAny_pure hq)) fun _ _ e=>e)
 obtain ⟨it,fp,tn,J,H2,e,I2,T,st2,f2,R⟩ := h2
 subst e
 refine nJ (Q := fun x H1=>X5 i x σ H1 D.nx) (RR := fun acc C=>compPost (model X.prog X.w) X.A X.xe (some (assign (.Name y py) X.env)) (fun _ s'=>SP X pins D .next s') acc C) c hc hg ho ht he I2 T st2 f2 R ?_
 intro l C s' H' I' hn hC hle q
 obtain ⟨m,hn⟩ := hn
 have cl : ∀ x cc,X.env.cells.lookup x = some cc → cc ≠ C := fun x cc e z=>by
  obtain ⟨v,o,ho,_⟩ := I2.cell x cc e
  exact absurd (Nat.lt_of_lt_of_le (Heap.lt_size ho) (by rw [z]; exact hle)) (Nat.lt_irrefl _)
 show wpAny _ X.A (assign (.Name y py) X.env (.ref l)) _ _ s'
 refine wpAny_assign_Name (pS I' hN hy (.inl hx) (v := .ref l) rfl (fun s5 I5 hsb=>?_) (.inr hx))
 obtain ⟨a,hsb,ha⟩ := hsb
 have hCa : C ≠ a := by
  rcases ha with e | e
  ·rw [e]; exact Nat.ne_of_gt (Nat.lt_of_lt_of_le I2.lt hle)
  ·exact Ne.symm (cl _ _ e)
 refine ⟨m,hn.sameBut hsb hCa,fun h' hs'=>⟨_,H',?_,q⟩⟩
 exact I5.turned (t' := s5.toks) (fun b o hb e=>hs'.extBut b o hb e) hC (Nat.ne_of_gt (Nat.lt_of_lt_of_le I2.lt hle)) (.inr (Nat.le_trans I2.sz hle)) cl fun p hp z =>
  absurd (Nat.lt_of_lt_of_le (Heap.lt_size (I2.pin p hp).1) (by rw [z]; exact hle)) (Nat.lt_irrefl _)
end
section
variable {fr : List (Option Nat)} {g : TG} {ti : TT} {te : TE} {σ : St} {H1 : Hp} {l : Addr} {Q : VK}
def aL (fr : List (Option Nat)) (g : TG) (ti : TT) (te : TE) (σ : St) (l : Addr) (x : V) (ys : List V) (H : Hp) (N : List V → Hp → Prop) : Prop :=
 g x (dR fr σ) H fun σ3 H3=>ti σ3 H3 fun b H4=>if b = true then te σ3 H4 fun y H5=>H5 l = some (.lst ys) ∧ ys.length < sizeLine ∧ N (ys ++ [y]) (E7 H5 l (.lst (ys ++ [y]))) else N ys H4
theorem AI6 {K : PySem.W.Frag} {a : Addr} {xs : List V} (Pv : Nat → List V → Hp → Prop) (h0 : Pv 0 [] (E7 H1 l (.lst []))) (hl : ∀ i ys H,i ≤ xs.length → Pv i ys H → SqT K H a xs)
  (hs : ∀ i x ys H,xs[i]? = some x → Pv i ys H → aL fr g ti te σ l x ys H (Pv (i + 1))) (hd : ∀ ys H,Pv xs.length ys H → Q (.ref l) H) : rR (wH K a) fr g ti te σ H1 l Q := by
 refine ⟨fun i m ys H=>m = xs.length - i ∧ i ≤ xs.length ∧ Pv i ys H,⟨xs.length,by simp,Nat.zero_le _,h0⟩,?_⟩
 rintro i m ys H ⟨rfl,hi,p⟩
 have q := hl i ys H hi p
 by_cases hlt : i < xs.length
 ·refine .inr ⟨⟨xs,xs[i],q,by simp [hlt]⟩,Pv (i + 1),fun zs H' p'=>⟨xs.length - (i + 1),by omega,rfl,hlt,p'⟩,fun x H' y=>?_⟩
  obtain ⟨e,y⟩ := y
  subst e
  exact hs i x ys _ (y xs q) p
 ·have e : i = xs.length := by omega
  subst e
  exact .inl ⟨⟨xs,q,Nat.le_refl _⟩,hd ys H p⟩
theorem aA {lo : Int} {n : Nat} (Pv : Nat → List V → Hp → Prop) (h0 : Pv 0 [] (E7 H1 l (.lst [])))
  (hs : ∀ i ys H,i < n → Pv i ys H → aL fr g ti te σ l (.int (lo + i)) ys H (Pv (i + 1))) (hd : ∀ ys H,Pv n ys H → Q (.ref l) H) : rR (uH lo n) fr g ti te σ H1 l Q := by
 refine ⟨fun i m ys H=>m = n - i ∧ i ≤ n ∧ Pv i ys H,⟨n,by simp,Nat.zero_le _,h0⟩,?_⟩
 rintro i m ys H ⟨rfl,hi,p⟩
 by_cases hlt : i < n
 ·refine .inr ⟨hlt,Pv (i + 1),fun zs H' p'=>⟨n - (i + 1),by omega,rfl,hlt,p'⟩,fun x H' y=>?_⟩
  obtain ⟨e,y⟩ := y
  subst e y
  exact hs i ys _ hlt p
 ·have e : i = n := by omega
  subst e
  exact .inl ⟨Nat.le_refl _,hd ys H p⟩
end
end L2
namespace L2
open PySem PySem.Spec PyProof.Rows
mutual
def R9 (K : PySem.W.Frag) (H : Hp) : PyData → V → Prop
 | .none,v=>v = .non
 | .bool b,v=>v = .bl b
 | .int i,v=>v = .int i
 | .str x,v=>v = .str x
 | .list ds,v=>∃ a ys,v = .ref a ∧ SqL K H a ys ∧ X1 K H ds ys
 | .tuple ds,v=>∃ a ys,v = .ref a ∧ SqT K H a ys ∧ X1 K H ds ys
 | .dict _,_=>False
def X1 (K : PySem.W.Frag) (H : Hp) : List PyData → List V → Prop
 | [],ys=>ys = []
 | d :: ds,ys=>∃ y r,ys = y :: r ∧ R9 K H d y ∧ X1 K H ds r
end
section
variable {X : Cx} {pins : List (Addr × Obj)} {σ : St} {H : Hp} {s : Shared}
mutual
theorem cF (I : Inv X pins σ H s) : ∀ (d : PyData) (v : V) (u : Value),R9 X.K H d v → RelV v u → ∃ as,Reads s.heap u d as
 | .none,v,u,h,r=>by
  simp only [R9] at h; subst h; cases r; exact ⟨_,.none⟩
 | .bool b,v,u,h,r=>by
  simp only [R9] at h; subst h; cases r; exact ⟨_,.bool b⟩
 | .int i,v,u,h,r=>by
  simp only [R9] at h; subst h; obtain ⟨t,rfl⟩ := r; exact ⟨_,.int i t⟩
 | .str x,v,u,h,r=>by
  simp only [R9] at h; subst h; obtain ⟨t,rfl⟩ := r; exact ⟨_,.str x t⟩
 | .list ds,v,u,h,r=>by
  simp only [R9] at h
  obtain ⟨a,ys,rfl,hq,hd⟩ := h
  cases r
  obtain ⟨its,rv,⟨o,n,e,c,_,dd⟩,_⟩ := I.list hq
  obtain ⟨as,hr⟩ := eD I ds ys its hd rv
  exact ⟨_,.list e c dd (by simpa using hr)⟩
 | .tuple ds,v,u,h,r=>by
  simp only [R9] at h
  obtain ⟨a,ys,rfl,hq,hd⟩ := h
  cases r
  obtain ⟨its,rv,⟨o,e,c,n,dd⟩,_⟩ := I.tuple hq
  obtain ⟨as,hr⟩ := eD I ds ys its hd rv
  exact ⟨_,.tuple e c dd (by simpa using hr)⟩
 | .dict _,v,u,h,r=>by simp only [R9] at h
theorem eD (I : Inv X pins σ H s) : ∀ (ds : List PyData) (vs : List V) (us : List Value),X1 X.K H ds vs → Vals vs us → ∃ as,ReadsAll s.heap us ds as
 | [],vs,us,h,r=>by
  simp only [X1] at h; subst h; cases r; exact ⟨_,.nil⟩
 | d :: ds,vs,us,h,r=>by
  simp only [X1] at h
  obtain ⟨y,rr,rfl,h1,h2⟩ := h
  cases r with
  | cons r1 r2 =>
   obtain ⟨as,q1⟩ := cF I d y _ h1 r1
   obtain ⟨bs,q2⟩ := eD I ds rr _ h2 r2
   exact ⟨_,.cons q1 q2⟩
end
end
theorem SqT.keep {K : PySem.W.Frag} {H H' : Hp} (k : ∀ b u,(H b = some (.tup u) → H' b = some (.tup u)) ∧ ∀ o,H b = some (.frz o (.tup u)) → H' b = some (.frz o (.tup u))) {a : Addr} {ys : List V} (h : SqT K H a ys) : SqT K H' a ys := by
 rcases h with (h | ⟨o,h⟩) | h
 ·exact .inl (.inl ((k a ys).1 h))
 ·exact .inl (.inr ⟨o,(k a ys).2 o h⟩)
 ·exact .inr h
theorem Same.seqT {K : PySem.W.Frag} {H H' : Hp} (e : Same H H') {a : Addr} {xs : List V} (h : SqT K H a xs) : SqT K H' a xs := h.keep fun b u=>⟨fun q=>e _ _ q,fun o q=>e _ _ q⟩
def BK5 (K : PySem.W.Frag) : R2 := fun x y H Q=>∃ dx dy,R9 K H dx x ∧ R9 K H dy y ∧ dx.canLay0 = true ∧ dy.canLay0 = true ∧ min dx.depth dy.depth ≤ 60 ∧ Q (.bl (PyData.eqv dx dy)) H
def BK4 (K : PySem.W.Frag) : R2 := fun x y H Q=>∃ dx dy,R9 K H dx x ∧ R9 K H dy y ∧ dx.canLay0 = true ∧ dy.canLay0 = true ∧ min dx.depth dy.depth ≤ 60 ∧ Q (.bl (!PyData.eqv dx dy)) H
section
variable {X : Cx}
theorem AX6 (hu : X.A.units + 64 < cLine) : S8 X (compareOp .Eq) (BK5 X.K) := by
 intro pins s σ H x y v u Q I rx ry h
 obtain ⟨dx,dy,h1,h2,c1,c2,hm,q⟩ := h
 obtain ⟨as,r1⟩ := cF I dx x v h1 rx
 obtain ⟨bs,r2⟩ := cF I dy y u h2 ry
 exact PySem.SeqAt.eqOverData X.prog X.w X.A X.xe s v u dx dy as bs _ r1 r2 c1 c2 (by omega) ⟨.bl _,H,I,rfl,q⟩
theorem sV (hu : X.A.units + 64 < cLine) : S8 X (compareOp .NotEq) (BK4 X.K) := by
 intro pins s σ H x y v u Q I rx ry h
 obtain ⟨dx,dy,h1,h2,c1,c2,hm,q⟩ := h
 obtain ⟨as,r1⟩ := cF I dx x v h1 rx
 obtain ⟨bs,r2⟩ := cF I dy y u h2 ry
 exact PySem.SeqAt.neOverData X.prog X.w X.A X.xe s v u dx dy as bs _ r1 r2 c1 c2 (by omega) ⟨.bl _,H,I,rfl,q⟩
theorem Vals.bls {bs : List Bool} : ∀ {us : List Value},Vals (bs.map V.bl) us → us = bs.map Value.bool := by
 induction bs with
 | nil=>intro us r; cases r; rfl
 | cons b r ih =>
  intro us h
  cases h with
  | cons r1 r2 =>
   cases r1
   rw [ih r2]
   rfl
theorem yO (bs : List Bool) : (List.range bs.length).all (fun i=>bs.getD i false) = bs.all id := by
 rw [Bool.eq_iff_iff]
 simp only [List.all_eq_true,List.mem_range,id]
 refine ⟨fun h b hb=>?_,fun h i hi=>?_⟩
 ·obtain ⟨i,hi,e⟩ := List.getElem_of_mem hb
  have := h i hi
  simpa [hi,e] using this
 ·have := h bs[i] (List.getElem_mem hi)
  simpa [hi] using this
theorem uJ {prog : Program} {w : World} {A : Around} (bs : List Bool) : TruthOf prog w A (fun i v=>(bs.map Value.bool).toArray[i]? = some v) (fun i=>bs.getD i false) := fun i v s Q E hP hQ=>by
 have hi : i < bs.length := by
  by_cases h : i < bs.length
  ·exact h
  ·have hP' : (bs.map Value.bool)[i]? = some v := by simpa using hP
   rw [List.getElem?_eq_none_iff.mpr (by simp; omega)] at hP'
   cases hP'
 have e : v = .bool (bs.getD i false) := by
  have hP' : (bs.map Value.bool)[i]? = some v := by simpa using hP
  rw [List.getElem?_map,List.getElem?_eq_getElem hi] at hP'
  simp only [Option.map_some,Option.some.injEq] at hP'
  rw [← hP']
  simp [hi]
 subst e
 exact wpAny_truthy_bool hQ
theorem qW (hc : X.calm = true) : T3 X (.builtin "all") (fun xs H Q=>∃ a bs,xs = [.ref a] ∧ SqL X.K H a (List.map V.bl bs) ∧ Q (.bl (bs.all id)) H) := by
 intro pins s σ H xs us Q I r h
 obtain ⟨a,bs,rfl,hq,q⟩ := h
 obtain ⟨u,rfl,ru⟩ := Vals.one r
 cases ru
 obtain ⟨its,rv,p,hz⟩ := I.list hq
 have e := Vals.bls rv
 subst e
 have hlt : a < s.heap.objs.size := by obtain ⟨o,_,eo,_⟩ := p; exact Heap.lt_size eo
 refine call_all_walk (wpAny_pyIter_list p.isList ?_)
 refine ⟨s.heap.objs.size,[s.heap.objs.size,a],[s.heap.objs.size],_,_,_,fun i=>bs.getD i false,rfl,Walks.list (A := X.A.in1) (I.ok.hd hc) s.heap.objs.size a (Nat.ne_of_lt hlt) (bs.map Value.bool).toArray,
  ⟨⟨_,Heap.get?_push_size _ rfl,rfl,rfl⟩,p.isList.push _⟩,uJ bs,fun h' tk hk=>?_⟩
 have I1 : Inv X pins σ H { s with heap := h',toks := tk } := I.kept fun b o e=>hk b o (fun z=>by
  have z' : b = s.heap.objs.size := by simpa using z
  exact absurd (Heap.lt_size e) (by rw [z']; exact Nat.lt_irrefl _)) (Heap.get?_push_of_some _ e)
 refine ⟨.bl (bs.all id),H,I1,?_,q⟩
 show Value.bool _ = Value.bool _
 rw [← yO]
 simp
def BB0 : V → String → Option Bool
 | .int _,"int"=>some true
 | .int _,"bool"=>some false
 | .int _,"str"=>some false
 | .int _,"tuple"=>some false
 | .bl _,"bool"=>some true
 | .bl _,"int"=>some true
 | .bl _,"str"=>some false
 | .bl _,"tuple"=>some false
 | .str _,"str"=>some true
 | .str _,"int"=>some false
 | .str _,"bool"=>some false
 | .str _,"tuple"=>some false
 | _,_=>none
theorem AJ0 : T3 X (.builtin "isinstance") (fun xs H Q=>∃ v T b,xs = [v,.ty T] ∧ BB0 v T = some b ∧ Q (.bl b) H) := by
 intro pins s σ H xs us Q I r h
 obtain ⟨v,T,b,rfl,hb,q⟩ := h
 obtain ⟨u,w,rfl,ru,rw'⟩ := qX r
 cases rw'
 have fin : ∀ t,EP X pins σ Q (.bool b) { s with toks := t } := fun t=>⟨.bl b,H,I.tok t,rfl,q⟩
 unfold BB0 at hb
 split at hb <;> cases hb
 ·obtain ⟨t,rfl⟩ := ru; exact IsiPair.int_int (fin _)
 ·obtain ⟨t,rfl⟩ := ru; exact IsiPair.int_bool (fin _)
 ·obtain ⟨t,rfl⟩ := ru; exact IsiPair.int_str (fin _)
 ·obtain ⟨t,rfl⟩ := ru; exact IsiPair.int_tuple (fin _)
 ·cases ru; exact IsiPair.bool_bool (fin _)
 ·cases ru; exact IsiPair.bool_int (fin _)
 ·cases ru; exact IsiPair.bool_str (fin _)
 ·cases ru; exact IsiPair.bool_tuple (fin _)
 ·obtain ⟨t,rfl⟩ := ru; exact IsiPair.str_str (fin _)
 ·obtain ⟨t,rfl⟩ := ru; exact IsiPair.str_int (fin _)
 ·obtain ⟨t,rfl⟩ := ru; exact IsiPair.str_bool (fin _)
 ·obtain ⟨t,rfl⟩ := ru; exact IsiPair.str_tuple (fin _)
theorem nG : fillsInplaceSlot (.type "list") "add" (Operator.Add == .Add) = pure false := by
 unfold fillsInplaceSlot
 show (typeLookup (.type "list") (dunderI "add") >>= fun fi=>pure (fi.isSome && !isSeqSlot fi)) = pure false
 rw [PySem.F.slot_list_iadd.lookup]
 rfl
theorem qU : seqSlot? (.type "list") (dunderI "add") = pure (some (.builtin "list.__iadd__")) := PySem.seqSlot_of PySem.F.slot_list_iadd.lookup (by decide +kernel)
def AM4 : TIp := fun x y H Q=>∃ l b xs zs,x = .ref l ∧ y = .ref b ∧ H l = some (.lst xs) ∧ H b = some (.lst zs) ∧ xs.length + zs.length ≤ sizeLine ∧ Q (.ref l) (E7 H l (.lst (xs ++ zs)))
theorem W7 : PIp X .Add AM4 := by
 intro pins s σ H x y v u Q I rx ry h
 obtain ⟨l,b,xs,zs,rfl,rfl,hH,hB,hz,q⟩ := h
 cases rx
 cases ry
 obtain ⟨z,its,n,r,hl,e⟩ := I.lstM hH
 obtain ⟨z2,its2,n2,r2,hl2,e2⟩ := I.lstM hB
 have hsz : its.toArray.size + its2.toArray.size ≤ sizeLine := by rw [List.size_toArray,List.size_toArray]; omega
 have hlong : ¬ (!its.toArray.isEmpty && Builtin.List.listTooLong (its.toArray.size + its2.toArray.size)) = true := by
  rw [AF7 hsz,Bool.and_false]
  exact Bool.false_ne_true
 have tl : s.TypeIs (.ref l) "list" := ⟨_,e,rfl⟩
 have tb : s.TypeIs (.ref b) "list" := ⟨_,e2,rfl⟩
 unfold inplaceOp
 refine wpAny_holding ?_
 refine wpAny_bind (wpAny_typeOf tl (wpAny_bind (wpAny_of_eq nG ?_)))
 show wpAny (model X.prog X.w) X.A (if false = true then _ else _) _ _ s
 rw [if_neg Bool.false_ne_true]
 refine wpAny_bind (wpAny_binaryOp1_none (nm := "add") tl tb noFill_list_add ?_)
 refine wpAny_bind (wpAny_of_eq qU ?_)
 refine wpAny_bind (wpAny_rule ?_)
 refine call_meets PySem.F.slot_list_iadd tl PySem.F.entry_list_iadd (PySem.F.args_list_iadd_2 _ _)
  (AutoSeq1.list___iadd___list_list_0 l its.toArray n b its2.toArray n2 hlong (by rw [List.size_toArray]; omega) (by omega)) ⟨e,e2,?_⟩
 refine ⟨.ref l,_,I.lset (its' := its ++ its2) hH e (by simp) (r.append r2) ?_,rfl,q⟩
 rw [List.length_append]
 omega
end
end L2
namespace L2.Sp
end L2.Sp
namespace L2
open PySem PySem.Spec PyProof.Rows
section
variable {κ : Type} [DecidableEq κ]
def R0 (kvs : List (κ × V)) (k : κ) : Option V := (kvs.find? fun kv=>decide (kv.1 = k)).map (·.2)
def W3 (kvs : List (κ × V)) (k : κ) (v : V) : List (κ × V) :=
 if (kvs.any fun kv=>decide (kv.1 = k)) = true then kvs.map (fun kv=>if kv.1 = k then (kv.1,v) else kv) else kvs ++ [(k,v)]
theorem Q8 {p : κ × V} {r : List (κ × V)} {k : κ} (e : p.1 = k) : R0 (p :: r) k = some p.2 := by simp [R0,List.find?_cons,e]
theorem Q9 {p : κ × V} {r : List (κ × V)} {k : κ} (e : ¬ p.1 = k) : R0 (p :: r) k = R0 r k := by simp [R0,List.find?_cons,e]
theorem gD (k : κ) : ∀ kvs : List (κ × V),(kvs.any fun kv=>decide (kv.1 = k)) = (R0 kvs k).isSome
 | []=>rfl
 | p :: r=>by
  rw [List.any_cons]
  by_cases e : p.1 = k
  ·simp only [Q8 e,decide_eq_true e,Bool.true_or,Option.isSome_some]
  ·rw [Q9 e,decide_eq_false e,Bool.false_or]; exact gD k r
theorem rT (k j : κ) (y : V) : ∀ kvs : List (κ × V),R0 (kvs.map fun kv=>if kv.1 = k then (kv.1,y) else kv) j = (R0 kvs j).map fun x=>if j = k then y else x
 | []=>rfl
 | p :: r=>by
  have ih := rT k j y r
  rw [List.map_cons]
  by_cases h : p.1 = k
  ·rw [if_pos h]
   by_cases e : p.1 = j
   ·rw [Q8 (p := (p.1,y)) e,Q8 e,Option.map_some,if_pos (e.symm.trans h)]
   ·rw [Q9 (p := (p.1,y)) e,Q9 e,ih]
  ·rw [if_neg h]
   by_cases e : p.1 = j
   ·rw [Q8 (p := p) e,Q8 e,Option.map_some,if_neg (fun z=>h (e.trans z))]
   ·rw [Q9 (p := p) e,Q9 e,ih]
theorem pQ (k j : κ) (y : V) : ∀ kvs : List (κ × V),R0 kvs k = none → R0 (kvs ++ [(k,y)]) j = if j = k then some y else R0 kvs j
 | [],_=>by
  by_cases e : k = j
  ·rw [if_pos e.symm]; exact Q8 (p := (k,y)) e
  ·rw [if_neg (fun z=>e z.symm)]; exact Q9 (p := (k,y)) e
 | p :: r,hn=>by
  rw [List.cons_append]
  have hk : ¬ p.1 = k := fun z=>by rw [Q8 z] at hn; cases hn
  rw [Q9 hk] at hn
  have ih := pQ k j y r hn
  by_cases e : p.1 = j
  ·rw [Q8 e,Q8 e,if_neg (fun z=>hk (e.trans z))]
  ·rw [Q9 e,Q9 e,ih]
theorem AC5 (kvs : List (κ × V)) (k j : κ) (y : V) : R0 (W3 kvs k y) j = if j = k then some y else R0 kvs j := by
 unfold W3
 by_cases a : (kvs.any fun kv=>decide (kv.1 = k)) = true
 ·rw [if_pos a,rT]
  rw [gD] at a
  by_cases e : j = k
  ·obtain ⟨x,hx⟩ := Option.isSome_iff_exists.mp a
   rw [if_pos e,e,hx,Option.map_some,if_pos rfl]
  ·rw [if_neg e]
   cases R0 kvs j with
   | none=>rfl
   | some x=>rw [Option.map_some,if_neg e]
 ·rw [if_neg a]
  refine pQ k j y kvs ?_
  rw [gD] at a
  cases q : R0 kvs k with
  | none=>rfl
  | some x=>rw [q] at a; exact (a rfl).elim
theorem eG (kvs : List (κ × V)) (k : κ) (v : V) : (W3 kvs k v).length ≤ kvs.length + 1 := by
 unfold W3
 split
 ·rw [List.length_map]; omega
 ·rw [List.length_append,List.length_cons,List.length_nil]; omega
theorem RelO.isSome_eq {o : Option V} {u : Option Value} (r : RelO o u) : o.isSome = u.isSome := by
 cases o with
 | none=>cases u with
  | none=>rfl
  | some _=>exact (show False from r).elim
 | some _=>cases u with
  | none=>exact (show False from r).elim
  | some _=>rfl
theorem KV.val {kvs : List (κ × V)} {vs : List (κ × Value)} (r : KV kvs vs) (k : κ) : RelO (R0 kvs k) (valueAt vs k) := by
 unfold KV at r
 induction r with
 | nil=>exact True.intro
 | @cons p q ps qs h t ih =>
  obtain ⟨h1,h2⟩ := h
  by_cases e : p.1 = k
  ·have e' : q.1 = k := h1.symm.trans e
   have b : valueAt (q :: qs) k = some q.2 := by simp [valueAt,List.find?_cons,e']
   rw [Q8 e,b]; exact h2
  ·have e' : ¬ q.1 = k := fun z=>e (h1.trans z)
   have b : valueAt (q :: qs) k = valueAt qs k := by simp [valueAt,List.find?_cons,e']
   rw [Q9 e,b]; exact ih
theorem KV.any {kvs : List (κ × V)} {vs : List (κ × Value)} (r : KV kvs vs) (k : κ) : (kvs.any fun kv=>decide (kv.1 = k)) = vs.any fun kv=>decide (kv.1 = k) := by
 unfold KV at r
 induction r with
 | nil=>rfl
 | cons h t ih=>rw [List.any_cons,List.any_cons,ih,h.1]
theorem KV.repl {kvs : List (κ × V)} {vs : List (κ × Value)} (r : KV kvs vs) (k : κ) {y : V} {u : Value} (ry : RelV y u) :
  KV (kvs.map fun kv=>if kv.1 = k then (kv.1,y) else kv) (vs.map fun kv=>if kv.1 = k then (kv.1,u) else kv) := by
 unfold KV at r ⊢
 induction r with
 | nil=>exact .nil
 | @cons p q ps qs h t ih =>
  rw [List.map_cons,List.map_cons]
  refine .cons ?_ ih
  obtain ⟨h1,h2⟩ := h
  by_cases e : p.1 = k
  ·rw [if_pos e,if_pos (h1.symm.trans e)]; exact ⟨h1,ry⟩
  ·rw [if_neg e,if_neg (fun z=>e (h1.trans z))]; exact ⟨h1,h2⟩
theorem KV.put {kvs : List (κ × V)} {vs : List (κ × Value)} (r : KV kvs vs) (k : κ) {y : V} {u : Value} (ry : RelV y u) : KV (W3 kvs k y) (stored vs k u) := by
 unfold W3 stored
 rw [r.any k]
 by_cases e : (vs.any fun kv=>decide (kv.1 = k)) = true
 ·rw [if_pos e,if_pos e]; exact r.repl k ry
 ·rw [if_neg e,if_neg e]; exact Paired.snoc r ⟨rfl,ry⟩
theorem KV.length {kvs : List (κ × V)} {vs : List (κ × Value)} (r : KV kvs vs) : kvs.length = vs.length := Paired.length r
end
theorem xK {P : Program} {w : World} {k : M8} {u : Value} (r : RelV (kV k) u) : (Q7 P w).is k u = true := by
 cases k with
 | inl i=>obtain ⟨t,e⟩ := (show ∃ t,u = Value.int i t from r); subst e; exact uQ P w i t
 | inr x=>obtain ⟨t,e⟩ := (show ∃ t,u = Value.str x t from r); subst e; exact uP P w x t
theorem qH {P : Program} {w : World} : ∀ {ks : List M8} {us : List Value},Vals (ks.map kV) us → ItemsAre (Q7 P w) ks us
 | [],_,r=>by rw [List.map_nil] at r; cases r; exact .nil
 | k :: ks,_,r=>by
  rw [List.map_cons] at r
  cases r with
  | cons h t=>exact .cons (xK h) (qH t)
abbrev KT (H : Hp) : List (List M8 × V) → List (List M8 × Addr × Value) → Prop := Paired fun p q=>p.1 = q.1 ∧ H q.2.1 = some (.tup (p.1.map kV)) ∧ RelV p.2 q.2.2
theorem KT.val {H : Hp} {kvs : List (List M8 × V)} {xs : List (List M8 × Addr × Value)} (r : KT H kvs xs) (k : List M8) : RelO (R0 kvs k) ((atKey xs k).map (·.2)) := by
 induction r with
 | nil=>exact True.intro
 | @cons p q ps qs h t ih =>
  obtain ⟨h1,_,h2⟩ := h
  by_cases e : p.1 = k
  ·have e' : q.1 = k := h1.symm.trans e
   have b : atKey (q :: qs) k = some q.2 := by simp [atKey,List.find?_cons,e']
   rw [Q8 e,b]; exact h2
  ·have e' : ¬ q.1 = k := fun z=>e (h1.trans z)
   have b : atKey (q :: qs) k = atKey qs k := by simp [atKey,List.find?_cons,e']
   rw [Q9 e,b]; exact ih
theorem KT.repl {H : Hp} {kvs : List (List M8 × V)} {xs : List (List M8 × Addr × Value)} (r : KT H kvs xs) (k : List M8) {y : V} {u : Value} (ry : RelV y u) :
  KT H (kvs.map fun kv=>if kv.1 = k then (kv.1,y) else kv) (xs.map (putAt k u)) := by
 induction r with
 | nil=>exact .nil
 | @cons p q ps qs h t ih =>
  rw [List.map_cons,List.map_cons]
  refine .cons ?_ ih
  obtain ⟨h1,h2,h3⟩ := h
  unfold putAt
  by_cases e : p.1 = k
  ·rw [if_pos e,if_pos (h1.symm.trans e)]; exact ⟨h1,h2,ry⟩
  ·rw [if_neg e,if_neg (fun z=>e (h1.trans z))]; exact ⟨h1,h2,h3⟩
theorem KT.put {H : Hp} {kvs : List (List M8 × V)} {xs : List (List M8 × Addr × Value)} (r : KT H kvs xs) (k : List M8) {b : Addr} {y : V} {u : Value} (hb : H b = some (.tup (k.map kV))) (ry : RelV y u) :
  KT H (W3 kvs k y) (storedH xs k b u) := by
 have e : (kvs.any fun kv=>decide (kv.1 = k)) = (atKey xs k).isSome := by
  rw [gD,(r.val k).isSome_eq,Option.isSome_map]
 unfold W3 storedH
 rw [e]
 by_cases q : (atKey xs k).isSome = true
 ·rw [if_pos q,if_pos q]; exact r.repl k ry
 ·rw [if_neg q,if_neg q]; exact Paired.snoc r ⟨rfl,hb,ry⟩
theorem KT.keeps {H H' : Hp} {kvs : List (List M8 × V)} {xs : List (List M8 × Addr × Value)} (r : KT H kvs xs) (ht : ∀ b ys,H b = some (.tup ys) → H' b = some (.tup ys)) : KT H' kvs xs :=
 Paired.mapP r fun _ _ z=>⟨z.1,ht _ _ z.2.1,z.2.2⟩
section
variable {P : Program} {w : World} {H : Hp} {h : Heap} {a : Addr}
theorem AK9 {u : HO} (ok : HOk P w H h) (e : Rd H a u) : ObjOk P w H h a u := e.ok ok
theorem AM8 {kvs : List (M8 × V)} (ok : HOk P w H h) (e : Rd H a (.dK kvs)) : kvs.length ≤ sizeLine ∧ (a == sysModules) = false ∧ ∃ vs,KV kvs vs ∧ h.DictOf (Q7 P w) a vs :=
 show ObjOk P w H h a (.dK kvs) from AK9 ok e
theorem AM9 {kvs : List (M8 × V)} (ok : HOk P w H h) (e : H a = some (.dK kvs)) : kvs.length ≤ sizeLine ∧ (a == sysModules) = false ∧ ∃ vs,KV kvs vs ∧ h.DictOf (Q7 P w) a vs := AM8 ok (.inl e)
theorem tI {ks : List M8} (ok : HOk P w H h) (e : H a = some (.tup (ks.map kV))) : (tupleKind (Q7 P w)).is h ks a := by
 obtain ⟨_,its,r,o,h1,h2,n,h3⟩ := (show ObjOk P w H h a (.tup (ks.map kV)) from ok a _ e)
 exact ⟨o,its.toArray,n,h1,h2,h3,by simpa using qH r⟩
theorem AM7 {kvs : List (List M8 × V)} (ok : HOk P w H h) (e : Rd H a (.dT kvs)) : kvs.length ≤ sizeLine ∧ (a == sysModules) = false ∧
  ∃ xs,KT H kvs xs ∧ h.DictOfH (tupleKind (Q7 P w)) a xs := by
 obtain ⟨z,y,xs,r,o,es,ep,h1,h2,h3,h4,h5⟩ := (show ObjOk P w H h a (.dT kvs) from AK9 ok e)
 refine ⟨z,y,xs,r,o,es,ep,h1,h2,h3,h4,fun x hx=>?_,h5⟩
 have all : ∀ {l : List (List M8 × V)} {m : List (List M8 × Addr × Value)},KT H l m → ∀ x ∈ m,(tupleKind (Q7 P w)).is h x.1 x.2.1 := by
  intro l m q
  induction q with
  | nil=>intro x hx; exact nomatch hx
  | @cons p q ps qs hq t ih =>
   intro x hx
   rcases List.mem_cons.mp hx with e | hx
   ·subst e
    exact tI ok (by rw [← hq.1]; exact hq.2.1)
   ·exact ih x hx
 exact all r x hx
theorem BH3 {kvs : List (List M8 × V)} (ok : HOk P w H h) (e : H a = some (.dT kvs)) : kvs.length ≤ sizeLine ∧ (a == sysModules) = false ∧
  ∃ xs,KT H kvs xs ∧ h.DictOfH (tupleKind (Q7 P w)) a xs := AM7 ok (.inl e)
end
def DGet (H : Hp) (a : Addr) (y : V) (r : Option V) : Prop :=
 (∃ kvs k,Rd H a (.dK kvs) ∧ y = kV k ∧ r = R0 kvs k) ∨ ∃ kvs k b,Rd H a (.dT kvs) ∧ y = .ref b ∧ H b = some (.tup (k.map kV)) ∧ r = R0 kvs k
def DPut (H : Hp) (a : Addr) (y v : V) (H' : Hp) : Prop :=
 (∃ kvs k,H a = some (.dK kvs) ∧ y = kV k ∧ kvs.length < sizeLine ∧ H' = E7 H a (.dK (W3 kvs k v))) ∨
 ∃ kvs k b,H a = some (.dT kvs) ∧ y = .ref b ∧ H b = some (.tup (k.map kV)) ∧ kvs.length < sizeLine ∧ H' = E7 H a (.dT (W3 kvs k v))
theorem DGet.k {H : Hp} {a : Addr} {kvs : List (M8 × V)} {k : M8} (e : H a = some (.dK kvs)) : DGet H a (kV k) (R0 kvs k) := .inl ⟨kvs,k,.inl e,rfl,rfl⟩
theorem DPut.k {H : Hp} {a : Addr} {kvs : List (M8 × V)} {k : M8} {v : V} (e : H a = some (.dK kvs)) (hl : kvs.length < sizeLine) : DPut H a (kV k) v (E7 H a (.dK (W3 kvs k v))) := .inl ⟨kvs,k,e,rfl,hl,rfl⟩
section
variable {X : Cx} {pins : List (Addr × Obj)} {σ : St} {H : Hp} {s : Shared} {a : Addr} {y v : V} {u r : Value} {o : Option V} {A : Around} {E : Value → Shared → Prop}
theorem Inv.big (I : Inv X pins σ H s) : sysModules < s.heap.objs.size := by
 have h : mainGlobals < s.heap.objs.size := (I.mod.glob.keeps I.bk).lt
 exact Nat.lt_trans (by decide) h
theorem BL8 {Q : Value → Shared → Prop} (hu : A.units + 1 < cLine) (I : Inv X pins σ H s) (g : DGet H a y o) (ry : RelV y u) (h : ∀ s',Inv X pins σ H s' → Q (.bool o.isSome) s') :
  wpAny (model X.prog X.w) A (compareOp .In u (.ref a)) Q E s := by
 rcases g with ⟨kvs,k,e,ey,l⟩ | ⟨kvs,k,b,e,ey,eb,l⟩
 ·subst ey
  obtain ⟨z,hd,vs,rel,dd⟩ := AM8 I.hok e
  refine wpAny_in_of (xK ry) hd dd.mapOf ?_
  rw [← (rel.val k).isSome_eq,← l]
  exact h _ (I.tok _)
 ·subst ey
  cases (show u = Value.ref b from ry)
  obtain ⟨z,hd,xs,rel,dd⟩ := AM7 I.hok e
  refine wpAny_in_heap (tupleKind_room_in1 hu) (tI I.hok eb) hd dd ?_
  have q := (rel.val k).isSome_eq
  rw [Option.isSome_map] at q
  rw [← q,← l]
  exact h _ (I.tok _)
theorem wD {h' : Heap} {t' : Nat} {ob : HO} (I : Inv X pins σ H s) (mu : Mut (H a)) (hs : Heap.SameBut a s.heap h') (he : ∃ q,h'.get? a = some q) (new : ObjOk X.prog X.w (E7 H a ob) h' a ob) :
  Inv X pins σ (E7 H a ob) { s with heap := h',toks := t' } :=
 I.write (x := a) (e := a) mu (.inl rfl) (fun b q hb z=>(hs.2 b hb).trans z) he new
theorem BC0 {P : Program} {w : World} {H' : Hp} {h' : Heap} {kvs : List (M8 × V)} {vs : List (M8 × Value)} (z : kvs.length ≤ sizeLine) (hd : (a == sysModules) = false) (rel : KV kvs vs) (dd : h'.DictOf (Q7 P w) a vs) :
  ObjOk P w H' h' a (.dK kvs) := ⟨z,hd,vs,rel,dd⟩
theorem AA7 {H' : Hp} {Q : Unit → Shared → Prop} (hu : A.units + 1 < cLine) (I : Inv X pins σ H s) (g : DPut H a y v H') (ry : RelV y u) (rv : RelV v r) (h : ∀ s',Inv X pins σ H' s' → Q () s') :
  wpAny (model X.prog X.w) A (setItem (.ref a) u r) Q E s := by
 rcases g with ⟨kvs,k,e,ey,l,eH⟩ | ⟨kvs,k,b,e,ey,eb,l,eH⟩
 ·subst ey eH
  obtain ⟨z,hd,vs,rel,dd⟩ := AM9 I.hok e
  have hz : vs.length ≤ sizeLine := by rw [← rel.length]; exact z
  have hl : (W3 kvs k v).length ≤ sizeLine := by have := eG kvs k v; omega
  refine wpAny_setItem_pairs (hsz := hz) (xK ry) dd fun h' dd' hs=>h _ ?_
  have he : ∃ q,h'.get? a = some q := let ⟨q,_,_,hq,_⟩ := dd'; ⟨q,hq⟩
  exact wD I (by rw [e]; exact True.intro) hs he (BC0 hl hd (rel.put k rv) dd')
 ·subst ey eH
  cases (show u = Value.ref b from ry)
  obtain ⟨z,hd,xs,rel,dd⟩ := BH3 I.hok e
  have hz : xs.length ≤ sizeLine := by rw [← Paired.length rel]; exact z
  have hl : (W3 kvs k v).length ≤ sizeLine := by have := eG kvs k v; omega
  refine wpAny_setItem_heap (hsz := hz) (tupleKind_room_in1 hu) (tI I.hok eb) dd fun h' dd' hs=>h _ ?_
  obtain ⟨q,es,ep,hq,h2,h3,h4,_,h5⟩ := dd'
  refine wD I (by rw [e]; exact True.intro) hs ⟨q,hq⟩ ⟨hl,hd,_,(rel.put k eb rv).keeps fun c ys ec=>?_,q,es,ep,hq,h2,h3,h4,h5⟩
  rw [B6 (BG0 ec e (fun z=>nomatch z))]
  exact ec
end
section
variable {X : Cx} {pins : List (Addr × Obj)} {σ : St} {H : Hp} {s : Shared} {a : Addr} {kvs : List (M8 × V)} {k : M8} {u : Value} {A : Around} {E : Value → Shared → Prop}
end
def BJ6 (ty td : TE) : TE := fun σ H Q=>ty σ H fun y H1=>td σ H1 fun x H2=>∃ a o,x = .ref a ∧ DGet H2 a y o ∧ Q (.bl o.isSome) H2
def BF0 (td ty tv : TE) : TS := fun D σ H=>tv σ H fun v H1=>td σ H1 fun x H2=>ty σ H2 fun y H3=>∃ a H4,x = .ref a ∧ DPut H3 a y v H4 ∧ D.nx σ H4
section
variable {X : Cx} {o i e value : Expr} {pos pos' tpos : Pos} {td ty tv : TE}
theorem AX4 (hu : X.A.units + 1 < cLine) (hi : PE X i ty) (ho : PE X o td) : PC X .In i o (BJ6 ty td) := by
 intro pins s σ H Q I h
 refine G1 (hi pins s σ H _ I h) fun iv s1 ⟨y,H1,I1,ry,q1⟩=>G1 (ho pins s1 σ H1 _ I1 q1) fun u s2 ⟨x,H2,I2,rx,a,ov,ex,g,q2⟩=>?_
 subst ex
 obtain rfl : u = Value.ref a := rx
 exact BL8 hu I2 g ry fun s3 I3=>⟨.bl ov.isSome,H2,I3,rfl,q2⟩
theorem AP9 (hu : X.A.units + 1 < cLine) (ho : PE X o td) (hi : PE X i ty) (hv : PE X value tv) (hs : swapsWith value (some (.Subscript o i pos')) pos.line X.env = pure false) :
  PS X (.Assign [.Subscript o i pos'] value pos) (BF0 td ty tv) := by
 intro pins s σ H D I h
 refine wpAny_Assign_Subscript (G1 (hv pins s σ H _ I h) fun r s1 ⟨v,H1,I1,rv,q1⟩=>G1 (ho pins s1 σ H1 _ I1 q1) fun u s2 ⟨x,H2,I2,rx,q2⟩=>G1 (hi pins s2 σ H2 _ I2 q2) fun iv s3 ⟨y,H3,I3,ry,a,H4,ex,g,q3⟩=>?_) hs
 subst ex
 obtain rfl : u = Value.ref a := rx
 exact AA7 hu I3 g ry rv fun s4 I4=>⟨σ,H4,I4,q3⟩
end
theorem AI3 {P : Program} {w : World} {H : Hp} (h : Heap) (hb : sysModules < h.objs.size) : ObjOk P w H (h.push { cls := .type "dict",data := .dict #[] }) h.objs.size (.dK []) :=
 ⟨Nat.zero_le _,beq_eq_false_iff_ne.mpr (Ne.symm (Nat.ne_of_lt hb)),[],.nil,Heap.DictOf.new h⟩
def AU9 : TE := fun _ H Q=>∀ p,H p = none → Q (.ref p) (E7 H p (.dK []))
section
variable {X : Cx} {pos : Pos}
theorem AE2 : PE X (.Dict [] [] pos) AU9 := fun pins s σ H Q I h =>
 wpAny_Dict_empty ⟨.ref s.heap.objs.size,_,I.laid (a := s.heap.objs.size) (o := .dK []) (t' := s.toks) (fun _ _ q=>Heap.get?_push_of_some _ q) (Nat.le_refl _) (AI3 s.heap I.big),rfl,h _ (I.hok.fresh (Nat.le_refl _))⟩
end
section
variable {X : Cx} {pins : List (Addr × Obj)} {σ : St} {H : Hp} {s : Shared} {a : Addr} {y d : V} {u r : Value} {o : Option V} {A : Around} {E : Value → Shared → Prop}
end
section
variable {X : Cx} {o e f : Expr} {apos cpos : Pos} {td ty tx : TE}
end
section
variable {X : Cx} {pins : List (Addr × Obj)} {σ : St} {H : Hp} {s : Shared} {a : Addr} {kvs : List (M8 × V)} {A : Around} {E : Value → Shared → Prop}
end
section
variable {X : Cx} {pins : List (Addr × Obj)} {σ : St} {H : Hp} {s : Shared} {a : Addr} {y : V} {u : Value} {A : Around} {E : Value → Shared → Prop}
end
end L2
namespace L2
open PySem PySem.Spec PyProof.Rows
section
variable {κ : Type} [DecidableEq κ]
end
end L2
namespace L2
open PySem PySem.Spec PyProof.Rows
section
variable {X : Cx}
theorem mK : S8 X (binaryOp .Mult) (fun x y H Q=>∃ i n,x = .str i ∧ y = .int n ∧ i.length ≤ 1000 ∧ 0 ≤ n ∧ n ≤ 1000 ∧ Q (.str (Txt.mul i n)) H) := by
 intro pins s σ H x y v u Q I rx ry h
 obtain ⟨i,n,rfl,rfl,h1,h2,h3,q⟩ := h
 obtain ⟨t,rfl⟩ := rx
 obtain ⟨t',rfl⟩ := ry
 exact SB.mul (PyProof.Rows.mulOk_of 1000 1000 h1 (by omega) (by omega) (by decide) (by decide)) fun t2 k=>⟨.str _,H,I.tok k,⟨t2,rfl⟩,q⟩
theorem T7 : S8 X (compareOp .LtE) (fun x y H Q=>∃ i j,x = .str i ∧ y = .str j ∧ Q (.bl (!decide (j.cps.toList < i.cps.toList))) H) := by
 intro pins s σ H x y v u Q I rx ry h
 obtain ⟨i,j,rfl,rfl,q⟩ := h
 obtain ⟨t,rfl⟩ := rx
 obtain ⟨t',rfl⟩ := ry
 exact PySem.P.le_str ⟨.bl _,H,I,rfl,q⟩
def Its (x : Str) : It := ⟨fun i _=>i < x.cps.size,fun i H v H'=>H' = H ∧ ∃ c,x.cps[i]? = some c ∧ v = .str ⟨#[c]⟩,fun i _=>x.cps.size ≤ i⟩
theorem rW {P : Program} {w : World} {K : PySem.W.Frag} {tg : Expr} (it : Addr) (T : String) (x : Str) (t : Tok) (hT : T = "str_ascii_iterator" ∨ T = "str_iterator") : lS P w K tg (Its x) [it] it (fun i h=>h.IsStrIter it T x t i) where
 mem := by simp
 obj := fun i h st b hb=>by
  have e : b = it := by simpa using hb
  subst e
  obtain ⟨o,e,c,d⟩ := st
  exact ⟨o,e,fun v z=>by rw [d] at z; cases z⟩
 keep := fun i h h' st k=>by
  obtain ⟨o,e,r⟩ := st
  exact ⟨o,k it (by simp) o e,r⟩
 item := by
  intro X hP hw hK hc i pins s σ H E I hf st hg
  subst hP hw hK
  have hg : i < x.cps.size := hg
  obtain ⟨f0,f1,f2,f3,f4,f5⟩ := hf it (by simp)
  rcases hT with rfl | rfl
  ·refine wpAny_pyNext_ascii_item st (c := x.cps[i]) (by simp [hg]) fun h' st' sb=>?_
   have I1 : Inv X pins σ H { s with heap := h',toks := s.toks + 1 } := I.turned (t' := s.toks + 1) (fun b o hb e=>(sb.2 b hb).trans e) f0 f1 f3 f4 f5
   obtain ⟨o,e,c,d⟩ := id st'
   exact ⟨_,rfl,mZ (s := { s with heap := h',toks := s.toks + 1 }) e c d (by decide) ⟨.str ⟨#[x.cps[i]]⟩,H,I1,⟨_,rfl⟩,⟨rfl,_,by simp [hg],rfl⟩,st',fun b hb=>(hf b hb).1⟩⟩
  ·refine wpAny_pyNext_wide_item st (c := x.cps[i]) (by simp [hg]) fun h' st' sb=>?_
   have I1 : Inv X pins σ H { s with heap := h',toks := s.toks + 1 } := I.turned (t' := s.toks + 1) (fun b o hb e=>(sb.2 b hb).trans e) f0 f1 f3 f4 f5
   obtain ⟨o,e,c,d⟩ := id st'
   exact ⟨_,rfl,mZ (s := { s with heap := h',toks := s.toks + 1 }) e c d (by decide) ⟨.str ⟨#[x.cps[i]]⟩,H,I1,⟨_,rfl⟩,⟨rfl,_,by simp [hg],rfl⟩,st',fun b hb=>(hf b hb).1⟩⟩
 done := by
  intro X hP hw hK hc i pins s σ H E I hf st hg
  subst hP hw hK
  have hg : x.cps.size ≤ i := hg
  obtain ⟨f0,f1,f2,f3,f4,f5⟩ := hf it (by simp)
  rcases hT with rfl | rfl
  ·exact wpAny_pyNext_ascii_end (I.ok.hd hc) st (by simp [hg]) fun h' eb=>⟨rfl,I.turned (t' := s.toks) (fun b o hb e=>eb b o hb e) f0 f1 f3 f4 f5⟩
  ·exact wpAny_pyNext_wide_end (I.ok.hd hc) st (by simp [hg]) fun h' eb=>⟨rfl,I.turned (t' := s.toks) (fun b o hb e=>eb b o hb e) f0 f1 f3 f4 f5⟩
 self := fun A i s Q E st h=>by
  rcases hT with rfl | rfl
  ·exact wpAny_pyIter_striter_ascii st h
  ·exact wpAny_pyIter_striter_wide st h
def BL4 (tl : TE) : TI := fun σ H R=>tl σ H fun v H1=>∃ x,v = .str x ∧ R (Its x) H1
theorem AX1 {tg l : Expr} {tl : TE} (hl : PE X l tl) : PI X tg l (BL4 tl) := by
 intro pins s σ H R I h
 refine G1 (hl pins s σ H _ I h) fun v s1 ⟨y,H1,I1,r1,q1⟩=>?_
 obtain ⟨x,e,q⟩ := q1
 subst e
 obtain ⟨t,rfl⟩ := r1
 have fp : ∀ (o : Obj) (b : Addr),b ∈ [s1.heap.objs.size] → bA X pins H1 b := fun o b hb=>by
  have e : b = s1.heap.objs.size := by simpa using hb
  subst e
  exact I1.fpOk (Nat.le_refl _) (I1.hok.fresh (Nat.le_refl _))
 cases ha : x.cps.all (· < 128) with
 | false=>exact wpAny_pyIter_wide ha ⟨s1.heap.objs.size,[s1.heap.objs.size],_,_,H1,rfl,I1.kept (t' := s1.toks) fun b o e=>Heap.get?_push_of_some _ e,rW _ "str_iterator" x t (.inr rfl),⟨_,Heap.get?_push_size _ rfl,rfl,rfl⟩,fp default,q⟩
 | true=>exact wpAny_pyIter_ascii ha ⟨s1.heap.objs.size,[s1.heap.objs.size],_,_,H1,rfl,I1.kept (t' := s1.toks) fun b o e=>Heap.get?_push_of_some _ e,rW _ "str_ascii_iterator" x t (.inl rfl),⟨_,Heap.get?_push_size _ rfl,rfl,rfl⟩,fp default,q⟩
theorem AI7 {fr : List (Option Nat)} {g : TG} {ti : TT} {te : TE} {σ : St} {H1 : Hp} {l : Addr} {Q : VK} {x : Str} (Pv : Nat → List V → Hp → Prop) (h0 : Pv 0 [] (E7 H1 l (.lst [])))
  (hs : ∀ i c ys H,x.cps[i]? = some c → Pv i ys H → aL fr g ti te σ l (.str ⟨#[c]⟩) ys H (Pv (i + 1))) (hd : ∀ ys H,Pv x.cps.size ys H → Q (.ref l) H) : rR (Its x) fr g ti te σ H1 l Q := by
 refine ⟨fun i m ys H=>m = x.cps.size - i ∧ i ≤ x.cps.size ∧ Pv i ys H,⟨x.cps.size,by simp,Nat.zero_le _,h0⟩,?_⟩
 rintro i m ys H ⟨rfl,hi,p⟩
 by_cases hlt : i < x.cps.size
 ·refine .inr ⟨hlt,Pv (i + 1),fun zs H' p'=>⟨x.cps.size - (i + 1),by omega,rfl,hlt,p'⟩,fun v H' y=>?_⟩
  obtain ⟨e,c,hc,e2⟩ := y
  subst e e2
  exact hs i c ys _ hc p
 ·have e : i = x.cps.size := by omega
  subst e
  exact .inl ⟨Nat.le_refl _,hd ys H p⟩
end
end L2
namespace L2
open PySem PySem.Spec PyProof.Rows
section
variable {X : Cx} {pins : List (Addr × Obj)} {σ : St} {H : Hp} {s : Shared}
theorem Inv.turnedN {h' : Heap} {t' : Nat} {ch : List Addr} {N : Addr} {xs : List V} {us : List Value} (I : Inv X pins σ H s) (hf : ∀ b ∈ ch,bA X pins H b) (k : ∀ b o,b ∉ ch → s.heap.get? b = some o → h'.get? b = some o)
  (hN : s.heap.objs.size ≤ N) (hz : xs.length ≤ sizeLine) (r : Vals xs us) (hT : IsTup h' N us.toArray) : Inv X pins σ (E7 H N (.tup xs)) { s with heap := h',toks := t' } := by
 have nch : ∀ b u,H b = some u → b ∉ ch := fun b u e z=>by rw [(hf b z).1] at e; cases e
 have fr : H N = none := I.hok.fresh hN
 have ne : ∀ b o,s.heap.get? b = some o → b ≠ N := fun b o e z=>by
  have := Heap.lt_size e
  rw [z] at this
  exact absurd this (Nat.not_lt.mpr hN)
 refine I.step (g' := s.gens) (d' := s.drawn) (ch := ch) (fun b hb=>?_) (fun b o _ _ hc e _=>k b o hc e) (fun b o _ _ hc e _=>⟨o.slots,k b o hc e⟩) (fun b o _ e n=>by rw [B6 (ne b o e)]; exact n)
  (fun b o hc e=>⟨o,k b o hc e⟩) (fun b ys e=>by rw [B6 (D9 e fr)]; exact e) (fun b o u e=>by rw [B6 (D9 e fr)]; exact e) (fun b ps e=>⟨#[],by rw [B6 (D9 e fr),e]; simp⟩) (fun m hm=>?_) (fun b u e=>?_) I.bare
 ·obtain ⟨f0,f1,f2,f3,f4,f5⟩ := hf b hb
  exact ⟨f3,f1,f4,f5⟩
 ·obtain ⟨o,es,ep,ho,rr⟩ := hm
  exact ⟨o,es,ep,k _ o (fun z=>(hf _ z).2.1 rfl) ho,rr⟩
 ·by_cases hb : b = N
  ·subst hb
   rw [A6] at e
   cases e
   exact ⟨hz,us,r,hT⟩
  ·rw [B6 hb] at e
   refine (I.hok b u e).stay (fun c v hc q=>k c v ?_ q) (fun c q=>by rw [B6 (D9 q fr)]; exact q) fun c ys q=>by rw [B6 (D9 q fr)]; exact q
   rcases hc with z | z
   ·rw [z]; exact nch b u e
   ·exact nch c _ z
end
section
variable {X : Cx}
end
end L2
namespace L2
open PySem PySem.Spec PyProof.Rows
def Ite (K : PySem.W.Frag) (a : Addr) : It :=
  ⟨fun i H => ∃ xs x, SqL K H a xs ∧ xs[i]? = some x,
   fun i H v H' => ∃ T x, v = .ref T ∧ H T = none ∧ H' = E7 H T (.tup [.int (i : Int), x]) ∧ ∀ xs, SqL K H a xs → xs[i]? = some x,
   fun i H => ∃ xs, SqL K H a xs ∧ xs.length ≤ i⟩
def BM3 (e it a : Addr) (i : Nat) (h : Heap) : Prop := (∃ old,IsEnum h e it (i : Int) old) ∧ h.IsListIter it a i
theorem yA {P : Program} {w : World} {K : PySem.W.Frag} {elts : List Expr} {x1 : Nat} {pos : Pos} (e it a : Addr) (hne : e ≠ it) : lS P w K (.Tuple elts x1 pos) (Ite K a) [e,it] e (BM3 e it a) where
 mem := by simp
 obj := fun i h st c hc=>by
  obtain ⟨⟨old,he⟩,⟨o1,e1,_,d1⟩⟩ := st
  simp only [List.mem_cons,List.not_mem_nil,or_false] at hc
  rcases hc with rfl | rfl
  ·exact ⟨_,he,fun v y=>by cases y⟩
  ·exact ⟨o1,e1,fun v y=>by rw [d1] at y; cases y⟩
 keep := fun i h h' st k=>by
  obtain ⟨⟨old,he⟩,h1⟩ := st
  exact ⟨⟨old,k e (by simp) _ he⟩,h1.at fun o q=>k it (by simp) o q⟩
 item := by
  intro X hP hw hK hc i pins s σ H E I hf st hg
  subst hP hw hK
  obtain ⟨xs,x,ha,hx⟩ := hg
  obtain ⟨⟨old,he⟩,h1⟩ := st
  obtain ⟨its1,rv1,p1,z1⟩ := I.list ha
  obtain ⟨u1,hu1,ru1⟩ := rv1.get hx
  refine wpAny_pyNext_enum_item he h1 p1.isList (by simpa using hu1) hne fun h' a1 a2 a3 a4 a5=>⟨_,rfl,wpAny_letOwnedTupleGo_enum (s := { s with heap := h',toks := s.toks + 1 }) a1 fun h2' b1 sb=>?_⟩
  have hNe : s.heap.objs.size ≠ e := Nat.ne_of_gt (Heap.lt_size he)
  have hNi : s.heap.objs.size ≠ it := by obtain ⟨o1,e1,_⟩ := h1; exact Nat.ne_of_gt (Heap.lt_size e1)
  have kk : ∀ c o,c ∉ [e,it] → s.heap.get? c = some o → h2'.get? c = some o := fun c o hc q=>by
   simp only [List.mem_cons,List.not_mem_nil,or_false,not_or] at hc
   exact sb.extBut c o hc.1 (a5 c o hc.1 hc.2 q)
  refine ⟨.ref s.heap.objs.size,E7 H s.heap.objs.size (.tup [.int (i : Int),x]),(show Inv X pins σ (E7 H s.heap.objs.size (.tup [.int (i : Int),x])) { s with heap := h2',toks := s.toks + 1 } from I.turnedN (t' := s.toks + 1) (ch := [e,it]) (us := [.int (i : Int) s.toks,u1]) hf kk (Nat.le_refl _) (by show 2 ≤ sizeLine; decide) (.cons ⟨_,rfl⟩ (.cons ru1 .nil)) ⟨_,sb.extBut _ _ hNe a3,rfl,_,rfl⟩),rfl,
   ⟨s.heap.objs.size,x,rfl,I.hok.fresh (Nat.le_refl _),rfl,fun xs' hx'=>by rw [I.list_inj hx' ha]; exact hx⟩,⟨⟨_,b1⟩,a2.extBut sb.extBut (Ne.symm hne)⟩,fun c hc=>?_⟩
  have hcN : c ≠ s.heap.objs.size := by
   simp only [List.mem_cons,List.not_mem_nil,or_false] at hc
   rcases hc with rfl | rfl
   ·exact Ne.symm hNe
   ·exact Ne.symm hNi
  rw [B6 hcN]
  exact (hf c hc).1
 done := by
  intro X hP hw hK hc i pins s σ H E I hf st hg
  subst hP hw hK
  obtain ⟨xs,ha,hend⟩ := hg
  obtain ⟨⟨old,he⟩,h1⟩ := st
  obtain ⟨its1,rv1,p1,z1⟩ := I.list ha
  have l1 := rv1.length
  obtain ⟨f0,f1,f2,f3,f4,f5⟩ := hf it (by simp)
  exact wpAny_pyNext_enum_end (I.ok.hd hc) he h1 p1.isList (by simp; omega) fun h' eb=>⟨rfl,I.turned (t' := s.toks) (fun b o hb e=>eb b o hb e) f0 f1 f3 f4 f5⟩
 self := fun _ _ _ _ _ st h=>by
  obtain ⟨⟨old,he⟩,_⟩ := st
  exact wpAny_pyIter_enum he h
theorem AT9 : bootBuiltins "enumerate" = some (.type "enumerate") := by decide +kernel
def BH0 (K : PySem.W.Frag) (ta : TA) : TI := fun σ H R=>ta σ H fun vs H1=>∃ a,vs = [.ref a] ∧ (∃ xs,SqL K H1 a xs) ∧ R (Ite K a) H1
section
variable {X : Cx}
theorem AQ0 {elts : List Expr} {x1 : Nat} {tpos : Pos} {a : Expr} {ta : TA} {p pos : Pos} (hg : Gl X "enumerate") (hm : X.mg "enumerate" = none) (ha : PA X [a] ta) (hs : starEach [a] X.env = [(false,eval a X.env)] := by rfl) :
  PI X (.Tuple elts x1 tpos) (.Call (.Name "enumerate" p) [a] [] pos) (BH0 X.K ta) := by
 intro pins s σ H R I h
 refine Call_ (jA I hg hm AT9 (PyProof.Rows.callWith_type1 (G1 (ha pos pins s σ H _ I h) fun us s1 ⟨vs,H1,I1,r1,q1⟩=>?_) hs rfl))
 obtain ⟨a,e,⟨xs,hx⟩,q⟩ := q1
 subst e
 cases r1 with
 | cons r rr =>
  cases rr
  cases r
  obtain ⟨its1,rv1,p1,z1⟩ := I1.list hx
  refine call_enumerate_list p1.isList fun h' he hi hsz hk=>?_
  refine wpAny_pyIter_enum (s := { s1 with heap := h' }) he ⟨s1.heap.objs.size + 1,[s1.heap.objs.size + 1,s1.heap.objs.size],_,_,H1,rfl,I1.kept (t' := s1.toks) hk,yA _ _ a (Nat.ne_of_gt (Nat.lt_succ_self _)),⟨⟨_,he⟩,hi⟩,fun c hc=>?_,q⟩
  have hge : s1.heap.objs.size ≤ c := by
   simp only [List.mem_cons,List.not_mem_nil,or_false] at hc
   rcases hc with h | h
   ·rw [h]; exact Nat.le_add_right _ _
   ·rw [h]; exact Nat.le_refl _
  exact I1.fpOk hge (I1.hok.fresh hge)
end
theorem AH7 {K : PySem.W.Frag} {a : Addr} {xs : List V} {g : TG} {tb : TS} {D : iB} {σ : St} {H : Hp} (Pv : Nat → St → Hp → Prop) (h0 : Pv 0 σ H) (hl : ∀ i σ H,Pv i σ H → SqL K H a xs)
  (hs : ∀ i x σ H T,xs[i]? = some x → Pv i σ H → H T = none → g (.ref T) σ (E7 H T (.tup [.int (i : Int),x])) fun σ2 H2=>tb { D with nx := Pv (i + 1),ct := Pv (i + 1),bk := D.nx } σ2 H2) (hd : ∀ σ H,Pv xs.length σ H → D.nx σ H) :
  ∃ W : Nat → Nat → St → Hp → Prop,(∃ m,W 0 m σ H) ∧ ∀ i m σ H,W i m σ H →
   ((Ite K a).stop i H ∧ D.nx σ H) ∨ ((Ite K a).go i H ∧ ∃ N : St → Hp → Prop,(∀ σ' H',N σ' H' → ∃ m',m' < m ∧ W (i + 1) m' σ' H') ∧ ∀ x H',(Ite K a).yld i H x H' → g x σ H' fun σ2 H2=>tb { D with nx := N,ct := N,bk := D.nx } σ2 H2) := by
 refine ⟨fun i m σ H=>m = xs.length - i ∧ i ≤ xs.length ∧ Pv i σ H,⟨xs.length,by simp,Nat.zero_le _,h0⟩,?_⟩
 rintro i m σ H ⟨rfl,hi,p⟩
 have qa := hl i σ H p
 by_cases hlt : i < xs.length
 ·refine .inr ⟨⟨xs,xs[i],qa,by simp [hlt]⟩,Pv (i + 1),fun σ' H' p'=>⟨xs.length - (i + 1),by omega,rfl,hlt,p'⟩,fun x H' y=>?_⟩
  obtain ⟨T,x',rfl,hT,rfl,hxy⟩ := y
  exact hs i x' σ _ T (hxy xs qa) p hT
 ·have e : i = xs.length := by omega
  subst e
  exact .inl ⟨⟨xs,qa,Nat.le_refl _⟩,hd σ H p⟩
section
variable {X : Cx}
end
end L2
namespace L2
open PySem PySem.Spec PyProof.Rows
inductive D where
 | non
 | bl (b : Bool)
 | int (i : Int)
 | str (s : Str)
 | tup (ds : List D)
 | lst
 | dic
mutual
def DV (K : PySem.W.Frag) (H : Hp) : D → V → Prop
 | .non,v=>v = .non
 | .bl b,v=>v = .bl b
 | .int i,v=>v = .int i
 | .str x,v=>v = .str x ∧ x.length ≤ 1000
 | .tup ds,v=>∃ a ys,v = .ref a ∧ SqT K H a ys ∧ DAll K H ds ys ∧ ds.length ≤ 100
 | .lst,v=>∃ a ys,v = .ref a ∧ H a = some (.lst ys)
 | .dic,v=>∃ a,v = .ref a ∧ H a = some (.dK [])
def DAll (K : PySem.W.Frag) (H : Hp) : List D → List V → Prop
 | [],ys=>ys = []
 | d :: ds,ys=>∃ y r,ys = y :: r ∧ DV K H d y ∧ DAll K H ds r
end
structure DKeep (K : PySem.W.Frag) (H H' : Hp) : Prop where
 tup : ∀ a ys,SqT K H a ys → SqT K H' a ys
 lst : ∀ a ys,H a = some (.lst ys) → ∃ zs,H' a = some (.lst zs)
 dic : ∀ a,H a = some (.dK []) → H' a = some (.dK [])
section
variable {K : PySem.W.Frag} {H H' : Hp}
theorem DKeep.same (g : Same H H') : DKeep K H H' := ⟨fun _ _ h=>g.seqT h,fun _ _ h=>⟨_,g _ _ h⟩,fun _ h=>g _ _ h⟩
mutual
theorem DV.mono (k : DKeep K H H') : ∀ (d : D) (v : V),DV K H d v → DV K H' d v
 | .non,v,h=>by simp only [DV] at h ⊢; exact h
 | .bl b,v,h=>by simp only [DV] at h ⊢; exact h
 | .int i,v,h=>by simp only [DV] at h ⊢; exact h
 | .str x,v,h=>by simp only [DV] at h ⊢; exact h
 | .tup ds,v,h=>by
  simp only [DV] at h ⊢
  obtain ⟨a,ys,e,hq,hd,hl⟩ := h
  exact ⟨a,ys,e,k.tup a ys hq,DAll.mono k ds ys hd,hl⟩
 | .lst,v,h=>by
  simp only [DV] at h ⊢
  obtain ⟨a,ys,e,hq⟩ := h
  obtain ⟨zs,hz⟩ := k.lst a ys hq
  exact ⟨a,zs,e,hz⟩
 | .dic,v,h=>by
  simp only [DV] at h ⊢
  obtain ⟨a,e,hq⟩ := h
  exact ⟨a,e,k.dic a hq⟩
theorem DAll.mono (k : DKeep K H H') : ∀ (ds : List D) (vs : List V),DAll K H ds vs → DAll K H' ds vs
 | [],vs,h=>by simp only [DAll] at h ⊢; exact h
 | d :: ds,vs,h=>by
  simp only [DAll] at h ⊢
  obtain ⟨y,r,e,h1,h2⟩ := h
  exact ⟨y,r,e,DV.mono k d y h1,DAll.mono k ds r h2⟩
end
end
def jG : D → String → Bool
 | .tup _,T=>T == "tuple"
 | .str _,T=>T == "str"
 | .int _,T=>T == "int"
 | .bl _,T=>T == "bool" || T == "int"
 | _,_=>false
section
variable {X : Cx}
theorem AB1 : T3 X (.builtin "isinstance") (fun xs H Q=>∃ (v : V) (d : D) (T : String),xs = [v,.ty T] ∧ DV X.K H d v ∧ (T = "tuple" ∨ T = "str" ∨ T = "int" ∨ T = "bool") ∧ Q (.bl (jG d T)) H) := by
 intro pins s σ H xs us Q I r h
 obtain ⟨v,d,T,rfl,hd,hT,q⟩ := h
 obtain ⟨u,w,rfl,ru,rw'⟩ := qX r
 cases rw'
 have fin : ∀ t b,jG d T = b → EP X pins σ Q (.bool b) { s with toks := t } := fun t b e=>⟨.bl b,H,I.tok t,rfl,e ▸ q⟩
 have fin0 : ∀ b,jG d T = b → EP X pins σ Q (.bool b) s := fun b e=>⟨.bl b,H,I,rfl,e ▸ q⟩
 cases d with
 | non =>
  simp only [DV] at hd
  subst hd
  cases ru
  rcases hT with rfl | rfl | rfl | rfl
  ·exact IsiPair.NoneType_tuple (fin _ _ rfl)
  ·exact IsiPair.NoneType_str (fin _ _ rfl)
  ·exact IsiPair.NoneType_int (fin _ _ rfl)
  ·exact IsiPair.NoneType_bool (fin _ _ rfl)
 | bl b =>
  simp only [DV] at hd
  subst hd
  cases ru
  rcases hT with rfl | rfl | rfl | rfl
  ·exact IsiPair.bool_tuple (fin _ _ rfl)
  ·exact IsiPair.bool_str (fin _ _ rfl)
  ·exact IsiPair.bool_int (fin0 _ rfl)
  ·exact IsiPair.bool_bool (fin0 _ rfl)
 | int i =>
  simp only [DV] at hd
  subst hd
  obtain ⟨t,rfl⟩ := ru
  rcases hT with rfl | rfl | rfl | rfl
  ·exact IsiPair.int_tuple (fin _ _ rfl)
  ·exact IsiPair.int_str (fin _ _ rfl)
  ·exact IsiPair.int_int (fin0 _ rfl)
  ·exact IsiPair.int_bool (fin _ _ rfl)
 | str x =>
  simp only [DV] at hd
  obtain ⟨rfl,_⟩ := hd
  obtain ⟨t,rfl⟩ := ru
  rcases hT with rfl | rfl | rfl | rfl
  ·exact IsiPair.str_tuple (fin _ _ rfl)
  ·exact IsiPair.str_str (fin0 _ rfl)
  ·exact IsiPair.str_int (fin _ _ rfl)
  ·exact IsiPair.str_bool (fin _ _ rfl)
 | tup ds =>
  simp only [DV] at hd
  obtain ⟨a,ys,rfl,hq,_⟩ := hd
  cases ru
  obtain ⟨its,rv,⟨o,ho,hc,_⟩,hz⟩ := I.tuple hq
  rcases hT with rfl | rfl | rfl | rfl
  ·exact IsiPair.tuple_tuple ho hc (fin0 _ rfl)
  ·exact IsiPair.tuple_str ho hc (fin _ _ rfl)
  ·exact IsiPair.tuple_int ho hc (fin _ _ rfl)
  ·exact IsiPair.tuple_bool ho hc (fin _ _ rfl)
 | lst =>
  simp only [DV] at hd
  obtain ⟨a,ys,rfl,hq⟩ := hd
  cases ru
  obtain ⟨its,rv,p,hz⟩ := I.list (SqL.of hq)
  obtain ⟨o,ho,hc,_⟩ := p.isList
  rcases hT with rfl | rfl | rfl | rfl
  ·exact IsiPair.list_tuple ho hc (fin _ _ rfl)
  ·exact IsiPair.list_str ho hc (fin _ _ rfl)
  ·exact IsiPair.list_int ho hc (fin _ _ rfl)
  ·exact IsiPair.list_bool ho hc (fin _ _ rfl)
 | dic =>
  simp only [DV] at hd
  obtain ⟨a,rfl,hq⟩ := hd
  cases ru
  obtain ⟨_,_,vs,_,hm⟩ := AM9 I.hok hq
  obtain ⟨o,ho,hc⟩ := hm.typeIs (s := s)
  rcases hT with rfl | rfl | rfl | rfl
  ·exact IsiPair.dict_tuple ho hc (fin _ _ rfl)
  ·exact IsiPair.dict_str ho hc (fin _ _ rfl)
  ·exact IsiPair.dict_int ho hc (fin _ _ rfl)
  ·exact IsiPair.dict_bool ho hc (fin _ _ rfl)
end
section
variable {X : Cx}
end
end L2
namespace L2
open PySem PySem.Spec PyProof.Rows
section
variable {X : Cx}
theorem tX {α : Type} (f : α → V) (us : List α) (n : Nat) : cV (us.map f) none (some (n : Int)) = (us.take n).map f := by
 unfold cV
 rw [HT.sIx_nat,HT.sIx_none]
 simp only [List.length_map,List.drop_zero,Nat.sub_zero]
 rw [← List.map_take]
 congr 1
 rcases Nat.le_total n us.length with h | h
 ·rw [Nat.min_eq_left h]
 ·rw [Nat.min_eq_right h,List.take_length,List.take_of_length_le h]
end
end L2
namespace L2
open PySem PySem.Spec PyProof.Rows
section
variable {X : Cx}
theorem Y9 : SlR X (fun x lo hi H Q=>∃ z,x = .str z ∧ z.length ≤ sizeLine ∧ Q (.str (Txt.slice z lo hi)) H) := by
 intro pins s σ H x v vl vu lo hi sl Q I rx hs pl pu h
 obtain ⟨z,rfl,hz,q⟩ := h
 obtain ⟨t,rfl⟩ := rx
 obtain ⟨o,ho,hoc,hod⟩ := hs
 have fin : ∀ t' k,EP X pins σ Q (.str (Txt.slice z lo hi) t') { s with toks := k } := fun t' k=>⟨.str _,H,I.tok _,⟨_,rfl⟩,q⟩
 refine ⟨"str",_,F.slot_str_getitem.lookup,typeIs_str _ _ _,?_⟩
 cases pl with
 | none =>
  cases pu with
  | none=>exact wpAny_getItem_str_slice (l := none) (u := none) (st := none) ⟨_,ho,hoc,hod⟩ rfl (post_val_or_str ⟨Nat.le_trans (Txt.slice_le z _ _) hz,fin⟩)
  | int j uj=>exact wpAny_getItem_str_slice (l := none) (u := some (j,uj)) (st := none) ⟨_,ho,hoc,hod⟩ rfl (post_val_or_str ⟨Nat.le_trans (Txt.slice_le z _ _) hz,fin⟩)
 | int i ui =>
  cases pu with
  | none=>exact wpAny_getItem_str_slice (l := some (i,ui)) (u := none) (st := none) ⟨_,ho,hoc,hod⟩ rfl (post_val_or_str ⟨Nat.le_trans (Txt.slice_le z _ _) hz,fin⟩)
  | int j uj=>exact wpAny_getItem_str_slice (l := some (i,ui)) (u := some (j,uj)) (st := none) ⟨_,ho,hoc,hod⟩ rfl (post_val_or_str ⟨Nat.le_trans (Txt.slice_le z _ _) hz,fin⟩)
theorem wV {x : Str} {i j : Int} (h0 : 0 ≤ i) (hj : (x.length : Int) ≤ j) : Txt.slice x (some i) (some j) = Txt.slice x (some i) (some (x.length : Int)) := by
 have e : Builtin.Str.strSliceIndices (some i) (some j) 1 x.length = Builtin.Str.strSliceIndices (some i) (some (x.length : Int)) 1 x.length := by
  unfold Builtin.Str.strSliceIndices
  have h1 : ¬ j < 0 := by omega
  have h2 : ¬ ((x.length : Int) < 0) := by omega
  have h3 : min j (x.length : Int) = x.length := by omega
  have h4 : min (x.length : Int) (x.length : Int) = x.length := by omega
  simp only [show (1 : Int) > 0 by decide,if_true,if_neg h1,if_neg h2,h3,h4]
 unfold Txt.slice
 rw [e]
theorem Y5 (l : List Nat) {i j : Nat} (h : i ≤ l.length) (hj : i ≤ j) : Txt.slice ⟨l.toArray⟩ (some (i : Int)) (some (j : Int)) = ⟨((l.drop i).take (j - i)).toArray⟩ := by
 have key : ∀ k : Nat,i ≤ k → k ≤ l.length → Txt.slice ⟨l.toArray⟩ (some (i : Int)) (some (k : Int)) = ⟨((l.drop i).take (k - i)).toArray⟩ := fun k h1 h2=>by
  have e := beq_iff_eq.mp (slice_closes (x := ⟨l.toArray⟩) (i := (i : Int)) (j := (k : Int)) ⟨by omega,by omega,by simpa using h2⟩)
  rw [e]
  have e2 : ((k : Int) - (i : Int)).toNat = k - i := by omega
  rw [e2]
  rfl
 by_cases hk : j ≤ l.length
 ·exact key j hj hk
 ·have hl : (⟨l.toArray⟩ : Str).length = l.length := by simp [Str.length]
  rw [wV (by omega) (by rw [hl]; omega),hl,key l.length h (Nat.le_refl _)]
  rw [List.take_of_length_le (by simp),List.take_of_length_le (by rw [List.length_drop]; omega)]
theorem mE (l : List Nat) {i : Nat} (h : i ≤ l.length) : Txt.slice ⟨l.toArray⟩ (some (i : Int)) none = ⟨(l.drop i).toArray⟩ := by
 have e := beq_iff_eq.mp (slice_closes_from (x := ⟨l.toArray⟩) (i := (i : Int)) ⟨by omega,by simpa using h⟩)
 rw [e,List.take_of_length_le (by rw [List.length_drop]; show _ ≤ ((l.length : Int) - i).toNat; have : (⟨l.toArray⟩ : Str).cps.toList.length = l.length := rfl; have e3 : ((i : Int)).toNat = i := rfl; omega)]
 rfl
theorem dY : T3 X (.type "int") (fun xs H Q=>∃ b,xs = [.bl b] ∧ Q (.int (if b then 1 else 0)) H) := by
 intro pins s σ H xs us Q I r h
 obtain ⟨b,rfl,q⟩ := h
 obtain ⟨u,rfl,ru⟩ := gC r
 cases (show u = Value.bool b from ru)
 exact call_int_bool ⟨.int _,H,I.tok _,⟨_,rfl⟩,q⟩
def AV1 (G : V → (List V → Hp → VK → Prop) → Prop) (tn : TE) (t : TA) : TE := fun σ H Q=>tn σ H fun v H1=>∃ sp,G v sp ∧ t σ H1 fun vs H2=>sp vs H2 Q
def FnV (P : Program) (w : World) (K : PySem.W.Frag) (mg : Str → Option Value) (base : Heap) (k : Nat) (v : V) (sp : List V → Hp → VK → Prop) : Prop :=
 ∃ (f : Addr) (fd : FuncData) (ps : List Str),v = .ref f ∧ FnOk P w K mg base K1 k f fd ps (fun vs H Q _=>sp vs H Q) ∧ PySem.W.keepIn K (.ref f) = true ∧ Binds K fd ps []
theorem AE3 {k : Nat} {x : Str} {p pos : Pos} {e : Expr} {es : List Expr} {tn : TE} {t : TA} (hr : Room k X.A) (hn : PE X (.Name x p) tn) (ha : PA X (e :: es) t)
  (he : starEach (e :: es) X.env = (false,eval e X.env) :: starEach es X.env := by rfl) (hpl : (backTo pos (starEach es X.env)).any (·.1) = false := by rfl) :
  PE X (.Call (.Name x p) (e :: es) [] pos) (AV1 (FnV X.prog X.w X.K X.mg X.base k) tn t) := by
 intro pins s σ H Q I h
 refine wpAny_Call_Name_kw (G1 (hn pins s σ H _ I h) fun v s1 ⟨y,H1,I1,r1,q1⟩=>?_)
 obtain ⟨sp,⟨f,fd,ps,rfl,F,hk,hb⟩,q⟩ := q1
 cases (show v = Value.ref f from r1)
 refine PySem.W.callWith_K (h₀ := X.base) I1.ok.mod.kin hk (G1 (ha pos pins s1 σ H1 _ I1 q) fun us s2 ⟨vs,H2,I2,r2,q2⟩=>⟨I2.kIn,?_⟩) he hpl
 exact iR (dvs := []) (E := E0) F hr hb .nil P0 I2 r2 (by rw [List.append_nil]; exact q2)
def tFr (te : TE) : TE := fun σ H Q=>te σ H fun x H1=>∃ z,x = .str z ∧ z.length ≤ 100000 ∧ (∀ c ∈ z.cps.toList,c < 1114112) ∧ ∀ r,Q (.str r) H1
theorem AL2 {y : Str} {j : Nat} {e : Expr} {te : TE} {p1 p2 pos : Pos} (he : PE X e te) (hy : y.length ≤ 100000 := by decide) : PE X (.JoinedStr [.Constant (.str y) j p1,.FormattedValue e 114 none p2] pos) (tFr te) := by
 intro pins s σ H Q I h
 refine wpAny_JoinedStr ?_
 have e0 : ∀ z : Str,Str.empty ++ z = z := fun z=>by show (⟨#[] ++ z.cps⟩ : Str) = z; simp
 have ln : sizeLine = 16777216 := sizeLine_eq
 show wpAny _ _ (eval (.Constant (.str y) j p1) X.env) _ _ s
 refine Calls.Constant_str ?_
 refine ⟨y,_,rfl,by rw [e0]; omega,?_⟩
 show wpAny _ _ (eval (.FormattedValue e 114 none p2) X.env) _ _ _
 refine wpAny_FormattedValue_repr (G1 (he pins _ σ H _ (I.tok _) h) fun v s1 ⟨x,H1,I1,r1,q1⟩=>?_)
 obtain ⟨z,rfl,hz,hc,q⟩ := q1
 obtain ⟨t,rfl⟩ := r1
 have hl := StrLaws.reprText_len z (fun c hc'=>Nat.lt_trans (hc c hc') (by decide))
 refine wpAny_pyReprObj_str ?_ (by omega)
 refine formatField_str (fun t' tk=>?_) (by omega)
 refine ⟨_,_,rfl,by rw [e0,strLen_append]; omega,?_⟩
 exact ⟨by rw [e0,strLen_append]; omega,.str _,H1,(I1.tok _),⟨_,rfl⟩,q _⟩
end
end L2
namespace Law
open PySem L2 L2.Sp
def N0 (i : Nat) : Stmt := PySem.Challenge.pw_meetvalue_k33_refused_texts.main.body.getD i (.Pass ⟨0,0,0,0⟩)
structure Cal (P : Program) (w : World) (K : PySem.W.Frag) (mg : Str → Option Value) (base : Heap) (k : Nat) (x : Str) (ps : List Str) (sp : Sp) : Prop where
 ex : ∃ (f : Addr) (fd : FuncData),FnOk P w K mg base K1 k f fd ps sp ∧ mg x = some (.ref f) ∧ PySem.W.keepIn K (.ref f) = true ∧ Binds K fd ps []
theorem Cal.mono {P : Program} {w : World} {K : PySem.W.Frag} {mg : Str → Option Value} {base : Heap} {j k : Nat} {x : Str} {ps : List Str} {sp : Sp} (C : Cal P w K mg base j x ps sp) (h : j ≤ k) : Cal P w K mg base k x ps sp := by
 obtain ⟨f,fd,F,a,b,c⟩ := C.ex
 exact ⟨f,fd,F.mono h,a,b,c⟩
theorem B5 {X : Cx} {k : Nat} {x : Str} {ps : List Str} {sp : Sp} {p pos : Pos} {e : Expr} {es : List Expr} {t : TA} (C : Cal X.prog X.w X.K X.mg X.base k x ps sp) (hr : Room k X.A) (hg : Gl X x) (ha : PA X (e :: es) t)
  (hdb : (x == ("__debug__" : Str)) = false := by decide) (he : starEach (e :: es) X.env = (false,eval e X.env) :: starEach es X.env := by rfl) (hpl : (backTo pos (starEach es X.env)).any (·.1) = false := by rfl) :
  PE X (.Call (.Name x p) (e :: es) [] pos) (lY sp [] E0 t) := by
 obtain ⟨f,fd,F,a,b,c⟩ := C.ex
 exact vI F hr hg a b c .nil P0 ha hdb he hpl
theorem A9 {H : Hp} {p : Addr} (h : H p = none) (o : HO) : Same H (E7 H p o) := fun b u q=>by rw [B6 (D9 q h)]; exact q
def Grow (st : Addr) (H H' : Hp) : Prop := ∀ b o,b ≠ st → H b = some o → H' b = some o
theorem Grow.trans {st : Addr} {H H1 H2 : Hp} (a : Grow st H H1) (b : Grow st H1 H2) : Grow st H H2 := fun c o hc h=>b c o hc (a c o hc h)
theorem Grow.of {st : Addr} {H H' : Hp} (a : Same H H') : Grow st H H' := fun c o _ h=>a c o h
theorem X9 {st : Addr} {H : Hp} {o : HO} : Grow st H (E7 H st o) := fun b u hb q=>by rw [B6 hb]; exact q
theorem Grow.refl {st : Addr} {H : Hp} : Grow st H H := fun _ _ _ q=>q
theorem U2 : ([] : List V).length ≤ sizeLine := by decide
theorem L0 {a : V} : ([a] : List V).length ≤ sizeLine := by show 1 ≤ sizeLine; decide
theorem R8 {a b : V} : ([a,b] : List V).length ≤ sizeLine := by show 2 ≤ sizeLine; decide
theorem Z6 {a b c : V} : ([a,b,c] : List V).length ≤ sizeLine := by show 3 ≤ sizeLine; decide
theorem AG7 {a b c d : V} : ([a,b,c,d] : List V).length ≤ sizeLine := by show 4 ≤ sizeLine; decide
theorem T2 {n : Nat} (h : n ≤ 1000) : n < sizeLine := yD h
section
variable {P : Program} {w : World} {K : PySem.W.Frag} {mg : Str → Option Value} {base : Heap} {f : Addr} {fd : FuncData}
def BJ7 (t u : TS) : TS := fun D σ H=>∃ R : St → Hp → Prop,t { D with nx := R } σ H ∧ ∀ σ' H',R σ' H' → u D σ' H'
theorem N3 {X : Cx} {st : Stmt} {rest : List Stmt} {t u : TS} (h1 : PS X st t) (h2 : PSs X rest u) : PSs X (st :: rest) (BJ7 t u) := by
 intro pins s σ H D I h
 obtain ⟨R,ha,hb⟩ := h
 refine wpAny_execs_cons (G1 (h1 pins s σ H { D with nx := R } I ha) fun f s1 q=>?_)
 cases f with
 | next =>
  obtain ⟨σ',H',I',q⟩ := q
  exact h2 pins s1 σ' H' D I' (hb σ' H' q)
 | ret v=>exact q
 | brk=>exact q
 | cont=>exact q
theorem nV {σ : St} {H : Hp} {A B : Hp → Prop} (h : A H) : AU6 σ H (fun b H4=>if b = true then A H4 else B H4) := by
 show (if true = true then A H else B H)
 rw [if_pos rfl]
 exact h
end
theorem S4 {α : Type} {xs : List α} {i : Nat} {x : α} (h : xs[i]? = some x) : xs.take (i + 1) = xs.take i ++ [x] := by
 rw [List.take_add_one,h]; rfl
theorem BC4 : bootBuiltins "max" = some (.builtin "max") := by decide +kernel
theorem BC5 : bootBuiltins "all" = some (.builtin "all") := by decide +kernel
theorem fY : bootBuiltins "isinstance" = some (.builtin "isinstance") := by decide +kernel
theorem U3 : bootBuiltins "tuple" = some (.type "tuple") := by decide +kernel
theorem cW : bootBuiltins "int" = some (.type "int") := by decide +kernel
theorem fX : bootBuiltins "str" = some (.type "str") := by decide +kernel
section
variable {K : PySem.W.Frag}
theorem dH {H : Hp} : Same H H := fun _ _ h=>h
theorem U0 {n : Nat} (h : n ≤ 1000) : n ≤ sizeLine := Nat.le_of_lt (T2 h)
theorem AH4 (t : Str) (ts : List Str) : cP (.str t) (ts.map V.str) = decide (t ∈ ts) := by
 rw [Bool.eq_iff_iff,decide_eq_true_iff]
 unfold cP
 simp only [List.any_map,List.any_eq_true,Function.comp]
 constructor
 ·rintro ⟨y,hy,e⟩
  have e : (y == t) = true := e
  rw [beq_iff_eq] at e
  exact e ▸ hy
 ·intro h
  exact ⟨t,h,by show (t == t) = true; simp⟩
theorem aU {α : Type} {xs : List α} {i : Nat} {x : α} (h : xs[i]? = some x) : xs.drop i = x :: xs.drop (i + 1) := by
 obtain ⟨hi,e⟩ := List.getElem?_eq_some_iff.mp h
 rw [← e]
 exact List.drop_eq_getElem_cons hi
theorem tK {ms : List Int} {i : Nat} {x : V} (hx : (ms.map V.int)[i]? = some x) : ∃ n,x = .int n := by
 rw [List.getElem?_map] at hx
 cases e : ms[i]? with
 | none=>rw [e] at hx; cases hx
 | some n=>rw [e] at hx; cases hx; exact ⟨n,rfl⟩
end
end Law
namespace Law
open PySem L2 L2.Sp
def P2 (c : Nat) : Bool := decide (97 ≤ c) && decide (c ≤ 122)
def K7 (c : Nat) : Bool := decide (48 ≤ c) && decide (c ≤ 57)
def T1 (c : Nat) : Bool := decide (32 ≤ c) && (decide (c ≤ 126) && !(decide (c = 34) || decide (c = 37)))
def P8 : List Nat := [123,125,91,93,40,41,44,58,63,38,124,33,64,46]
def sg (l : List Nat) : Nat := if l.head? = some 45 then 1 else 0
def X4 (l : List Nat) : Option (List Nat) :=
 if ((l.drop (sg l)).takeWhile K7) = [] ∨ 60 < ((l.drop (sg l)).takeWhile K7).length ∨ (((l.drop (sg l)).takeWhile K7).head? = some 48 ∧ l.take (sg l + ((l.drop (sg l)).takeWhile K7).length) ≠ [48]) then none
 else some (l.take (sg l + ((l.drop (sg l)).takeWhile K7).length))
def bE (l : List Nat) : Option (List Nat) :=
 if (l.drop (1 + ((l.drop 1).takeWhile T1).length)).take 1 = [34] then some (l.take (2 + ((l.drop 1).takeWhile T1).length)) else none
def O1 : List Nat → Option (List Nat)
 | []=>none
 | c :: r =>
  if P2 c = true then some ((c :: r).take (((c :: r).takeWhile P2).length))
  else if c = 45 ∨ K7 c = true then X4 (c :: r)
  else if c = 34 then bE (c :: r)
  else if (c :: r).take 2 = [46,46] then some [46,46]
  else if c ∈ P8 then some [c] else none
def G6 : List Nat → Option (List (List Nat))
 | []=>some []
 | c :: r=>if c = 32 then G6 r else match O1 (c :: r) with
  | none=>none
  | some w=>(G6 (r.drop (w.length - 1))).map (w :: ·)
termination_by l=>l.length
decreasing_by all_goals (simp only [List.length_cons,List.length_drop]; omega)
theorem lW (p : Nat → Bool) (l : List Nat) : (l.takeWhile p).length ≤ l.length := (List.takeWhile_sublist p).length_le
theorem uU (p : Nat → Bool) : ∀ l : List Nat,l.take (l.takeWhile p).length = l.takeWhile p
 | []=>rfl
 | c :: r=>by
  by_cases h : p c = true
  ·rw [List.takeWhile_cons_of_pos h,List.length_cons,List.take_succ_cons,uU p r]
  ·rw [List.takeWhile_cons_of_neg h]; rfl
theorem lX (p : Nat → Bool) : ∀ {a s : List Nat},(∀ c ∈ a,p c = true) → (∀ d,s.head? = some d → p d = false) → (a ++ s).takeWhile p = a
 | [],[],_,_=>rfl
 | [],d :: s,_,h=>by
  have := h d rfl
  rw [List.nil_append,List.takeWhile_cons_of_neg (by rw [this]; simp)]
 | c :: a,s,h1,h2=>by
  rw [List.cons_append,List.takeWhile_cons_of_pos (h1 c (by simp)),lX p (fun d hd=>h1 d (by simp [hd])) h2]
theorem AK6 (l : List Nat) : sg l ≤ 1 := by unfold sg; split <;> omega
theorem pO {l w : List Nat} (h : O1 l = some w) : 0 < w.length ∧ w.length ≤ l.length ∧ w = l.take w.length := by
 have key : ∀ n,0 < n → n ≤ l.length → w = l.take n → 0 < w.length ∧ w.length ≤ l.length ∧ w = l.take w.length := fun n h1 h2 h3=>by
  have e : w.length = n := by rw [h3,List.length_take]; omega
  exact ⟨by omega,by omega,by rw [e]; exact h3⟩
 cases l with
 | nil=>cases h
 | cons c r =>
  simp only [O1] at h
  split at h
  ·rename_i hc
   cases h
   refine key _ ?_ (lW P2 (c :: r)) rfl
   rw [List.takeWhile_cons_of_pos hc]; simp
  ·split at h
   ·unfold X4 at h
    split at h
    ·cases h
    ·rename_i hn
     cases h
     have hne : ((c :: r).drop (sg (c :: r))).takeWhile K7 ≠ [] := fun z=>hn (.inl z)
     have h1 := lW K7 ((c :: r).drop (sg (c :: r)))
     rw [List.length_drop] at h1
     have h2 : 0 < (((c :: r).drop (sg (c :: r))).takeWhile K7).length := List.length_pos_iff.mpr hne
     have h3 := AK6 (c :: r)
     refine key _ (by omega) (by simp only [List.length_cons] at h1 ⊢; omega) rfl
   ·split at h
    ·unfold bE at h
     split at h
     ·rename_i hq
      cases h
      have h1 := congrArg List.length hq
      rw [List.length_take,List.length_drop] at h1
      simp only [List.length_cons,List.length_nil] at h1
      refine key _ (by omega) ?_ rfl
      simp only [List.length_cons]
      omega
     ·cases h
    ·split at h
     ·rename_i hd
      cases h
      refine key 2 (by omega) ?_ hd.symm
      have h1 := congrArg List.length hd
      rw [List.length_take] at h1
      simp only [List.length_cons,List.length_nil] at h1 ⊢
      omega
     ·split at h
      ·cases h
       exact key 1 (by omega) (by simp) rfl
      ·cases h
theorem iE : G6 [] = some [] := by rw [G6]
theorem rS (r : List Nat) : G6 (32 :: r) = G6 r := by rw [G6,if_pos rfl]
theorem wJ {l : List Nat} (h0 : l.head? ≠ some 32) (hl : l ≠ []) (h : O1 l = none) : G6 l = none := by
 cases l with
 | nil=>exact absurd rfl hl
 | cons c r =>
  have hc : c ≠ 32 := fun z=>h0 (by rw [z]; rfl)
  rw [G6,if_neg hc,h]
theorem lU {l w : List Nat} (h0 : l.head? ≠ some 32) (h : O1 l = some w) : G6 l = (G6 (l.drop w.length)).map (w :: ·) := by
 cases l with
 | nil=>cases h
 | cons c r =>
  have hc : c ≠ 32 := fun z=>h0 (by rw [z]; rfl)
  obtain ⟨h1,_,_⟩ := pO h
  rw [G6,if_neg hc,h]
  have e : (c :: r).drop w.length = r.drop (w.length - 1) := by
   cases hw : w.length with
   | zero=>omega
   | succ n=>rfl
  rw [e]
end Law
namespace Law
open PySem L2 L2.Sp
theorem cL (a b : Nat) : decide (([a] : List Nat) < [b]) = decide (a < b) := by
 rw [Bool.eq_iff_iff]
 simp [List.cons_lt_cons_iff]
theorem BC3 : bootBuiltins "ord" = some (.builtin "ord") := by decide +kernel
section
variable {P : Program} {w : World} {K : PySem.W.Frag} {mg : Str → Option Value} {base : Heap} {f : Addr} {fd : FuncData}
def X2 (φ : Nat → Bool) : List V → Hp → VK → Prop := fun args H Q=>∃ c : Nat,args = [.str ⟨#[c]⟩] ∧ Q (.bl (φ c)) H
abbrev jV : Stmt := N0 8
theorem AV5 : E4 ["letter"] ["letter"] (B1 jV) := ⟨rfl,rfl,rfl,by decide +kernel,rfl,by decide +kernel,by decide +kernel⟩
theorem AT0 (c : Nat) : cP (.int (c : Int)) [.int 34,.int 37] = (decide (c = 34) || decide (c = 37)) := by
 unfold cP
 simp only [List.any_cons,List.any_nil,Bool.or_false]
 have h1 : ((34 : Int) == (c : Int)) = decide (c = 34) := by
  rw [Bool.eq_iff_iff,beq_iff_eq,decide_eq_true_iff]; omega
 have h2 : ((37 : Int) == (c : Int)) = decide (c = 37) := by
  rw [Bool.eq_iff_iff,beq_iff_eq,decide_eq_true_iff]; omega
 show (((34 : Int) == (c : Int)) || ((37 : Int) == (c : Int))) = _
 rw [h1,h2]
theorem AQ5 (F : Fun K "is_sign" "is_sign" jV f fd) (m1 : mg "ord" = none) {gt : Addr} (hg : mg "NO_SIGNS" = some (.ref gt)) (hK : ∀ H : Hp,SqT K H gt [.int 34,.int 37]) : FnOk P w K mg base K1 1 f fd ["letter"] (fun vs H Q _=>X2 T1 vs H Q) := by
 refine F.ok AV5 (fun vs H Q E h=>?_) (fun cdv A outer s H vs Q E hr h=>?_)
 ·obtain ⟨c,rfl,_⟩ := h
  rfl
 obtain ⟨c,rfl,q⟩ := h
 refine ⟨_,A8 (B4 (fP (gO T7 T7 B3 (pv 0) B3) (fO (Q6 cJ (J8 AI9 rfl m1 BC3 (A0 (pv 0) A5)) (U7 (v := .ref gt) rfl hg rfl) rfl)))),?_⟩
 by_cases h1 : 32 ≤ c
 ·by_cases h2 : c ≤ 126
  ·refine ⟨_,rfl,_,_,rfl,rfl,true,?_,G0 ⟨_,_,rfl,rfl,true,?_,G0 ⟨_,rfl,_,rfl,rfl,gt,_,rfl,.inr (hK _),rfl,rfl,?_⟩⟩⟩
   ·show V.bl (!decide (([c] : List Nat) < [32])) = .bl true
    rw [cL,decide_eq_false (by omega)]; rfl
   ·show V.bl (!decide (([126] : List Nat) < [c])) = .bl true
    rw [cL,decide_eq_false (by omega)]; rfl
   ·have e : cP (.int ((#[c].getD 0 0 : Nat) : Int)) [.int 34,.int 37] = (decide (c = 34) || decide (c = 37)) := AT0 c
    show Q (.bl (!cP (.int ((#[c].getD 0 0 : Nat) : Int)) [.int 34,.int 37])) H
    rw [e]
    have : T1 c = !(decide (c = 34) || decide (c = 37)) := by unfold T1; rw [decide_eq_true h1,decide_eq_true h2]; rfl
    rw [← this]
    exact q
  ·have e : T1 c = false := by unfold T1; rw [decide_eq_true h1,decide_eq_false h2]; rfl
   rw [e] at q
   refine ⟨_,rfl,_,_,rfl,rfl,true,?_,G0 ⟨_,_,rfl,rfl,false,?_,E2 q⟩⟩
   ·show V.bl (!decide (([c] : List Nat) < [32])) = .bl true
    rw [cL,decide_eq_false (by omega)]; rfl
   ·show V.bl (!decide (([126] : List Nat) < [c])) = .bl false
    rw [cL,decide_eq_true (by omega)]; rfl
 ·have e : T1 c = false := by unfold T1; rw [decide_eq_false h1]; rfl
  rw [e] at q
  refine ⟨_,rfl,_,_,rfl,rfl,false,?_,E2 ⟨false,rfl,E2 q⟩⟩
  show V.bl (!decide (([c] : List Nat) < [32])) = .bl false
  rw [cL,decide_eq_true (by omega)]; rfl
def btw (a b c : Nat) : Bool := decide (a ≤ c) && decide (c ≤ b)
theorem jL {a b c : Nat} {H : Hp} {Q : VK} (q : Q (.bl (btw a b c)) H) :
  ∃ i j,(V.str ⟨#[a]⟩ : V) = .str i ∧ (V.str ⟨#[c]⟩ : V) = .str j ∧ ∃ d,V.bl (!decide (j.cps.toList < i.cps.toList)) = .bl d ∧ if d = true then ∃ i' j',(V.str ⟨#[c]⟩ : V) = .str i' ∧ (V.str ⟨#[b]⟩ : V) = .str j' ∧ Q (.bl (!decide (j'.cps.toList < i'.cps.toList))) H else Q (.bl false) H := by
 refine ⟨_,_,rfl,rfl,_,rfl,?_⟩
 show if (!decide (([c] : List Nat) < [a])) = true then _ else _
 rw [cL]
 by_cases h : a ≤ c
 ·rw [decide_eq_false (by omega)]
  refine G0 ⟨_,_,rfl,rfl,?_⟩
  show Q (.bl (!decide (([b] : List Nat) < [c]))) H
  rw [cL]
  have e : (!decide (b < c)) = btw a b c := by
   unfold btw
   rw [decide_eq_true h,Bool.true_and,Bool.eq_iff_iff]
   simp
  rw [e]; exact q
 ·rw [decide_eq_true (by omega)]
  have e : btw a b c = false := by unfold btw; rw [decide_eq_false h]; rfl
  rw [e] at q
  exact E2 q
abbrev bR : Stmt := N0 15
theorem AD5 : E4 ["sign"] ["sign"] (B1 bR) := ⟨rfl,rfl,rfl,by decide +kernel,rfl,by decide +kernel,by decide +kernel⟩
theorem zD (F : Fun K "is_letter" "is_letter" bR f fd) : FnOk P w K mg base K1 1 f fd ["sign"] (fun vs H Q _=>X2 P2 vs H Q) := by
 refine F.ok AD5 (fun vs H Q E h=>?_) (fun cdv A outer s H vs Q E hr h=>?_)
 ·obtain ⟨c,rfl,_⟩ := h
  rfl
 obtain ⟨c,rfl,q⟩ := h
 refine ⟨_,A8 (B4 (gO T7 T7 B3 (pv 0) B3)),?_⟩
 exact ⟨_,rfl,jL (a := 97) (b := 122) q⟩
abbrev bS : Stmt := N0 16
theorem AD6 : E4 ["sign"] ["sign"] (B1 bS) := ⟨rfl,rfl,rfl,by decide +kernel,rfl,by decide +kernel,by decide +kernel⟩
theorem zE (F : Fun K "is_figure" "is_figure" bS f fd) : FnOk P w K mg base K1 1 f fd ["sign"] (fun vs H Q _=>X2 K7 vs H Q) := by
 refine F.ok AD6 (fun vs H Q E h=>?_) (fun cdv A outer s H vs Q E hr h=>?_)
 ·obtain ⟨c,rfl,_⟩ := h
  rfl
 obtain ⟨c,rfl,q⟩ := h
 refine ⟨_,A8 (B4 (gO T7 T7 B3 (pv 0) B3)),?_⟩
 exact ⟨_,rfl,jL (a := 48) (b := 57) q⟩
end
end Law
namespace Law
open PySem L2 L2.Sp
abbrev S (l : List Nat) : Str := ⟨l.toArray⟩
theorem N9 (l : List Nat) : (S l).length = l.length := rfl
theorem O8 {l : List Nat} (h : l.length ≤ 100000) : (S l).length ≤ sizeLine := by rw [N9]; have : sizeLine = 16777216 := sizeLine_eq; omega
theorem AO0 {φ : Nat → Bool} {l : List Nat} {e : Nat} {c : Nat} (h : l[e]? = some c) (hc : φ c = true) : ((l.drop e).takeWhile φ).length = 1 + ((l.drop (e + 1)).takeWhile φ).length := by
 rw [aU h,List.takeWhile_cons_of_pos hc,List.length_cons]; omega
theorem AN9 {φ : Nat → Bool} {l : List Nat} {e : Nat} {c : Nat} (h : l[e]? = some c) (hc : φ c = false) : ((l.drop e).takeWhile φ).length = 0 := by
 rw [aU h,List.takeWhile_cons_of_neg (by rw [hc]; simp)]; rfl
section
variable {P : Program} {w : World} {K : PySem.W.Frag} {mg : Str → Option Value} {base : Heap} {f : Addr} {fd : FuncData}
abbrev oG : Stmt := N0 14
theorem wX : E4 ["text","place","fits","end"] ["text","place","fits"] (B1 oG) := ⟨rfl,rfl,rfl,by decide +kernel,rfl,by decide +kernel,by decide +kernel⟩
def mC (P : Program) (w : World) (K : PySem.W.Frag) (mg : Str → Option Value) (base : Heap) : Sp := fun args H Q _=>∃ (l : List Nat) (p : Nat) (v : V) (φ : Nat → Bool),args = [.str (S l),.int (p : Int),v] ∧ FnV P w K mg base 1 v (X2 φ) ∧ p ≤ l.length ∧ l.length ≤ 100000 ∧
 Q (.int ((p + ((l.drop p).takeWhile φ).length : Nat) : Int)) H
theorem AY1 (F : Fun K "run_end" "run_end" oG f fd) (m1 : mg "len" = none) : FnOk P w K mg base K1 2 f fd ["text","place","fits"] (mC P w K mg base) := by
 refine F.ok wX (fun vs H Q E h=>?_) (fun cdv A outer s H vs Q E hr h=>?_)
 ·obtain ⟨l,p,v,φ,rfl,_⟩ := h
  rfl
 obtain ⟨l,p,v,φ,rfl,hv,hp,hl,q⟩ := h
 refine ⟨_,A7 (B9 (i := 3) wX.nd rfl (Or.inl rfl) (pv 1))
  (A7 (V2 PassesOwn.never (PW.pt (Z1 (B8 aH (pv 3) (J8 T5 rfl m1 PySem.boot_len (A0 (pv 0) A5)) (D5 _))
    (aE (N6 (AE3 hr (pv 2) (A0 (J0 Z9 (pv 0) (pv 3) (fun _ _=>rfl)) A5))))))
   (A8 (P9 (i := 3) wX.nd rfl (Or.inl rfl) B2 mX)))
  (A8 (B4 (pv 3)))),?_⟩
 refine ⟨_,rfl,?_⟩
 refine ⟨fun m σ H'=>∃ e : Nat,σ = [some (.str (S l)),some (.int (p : Int)),some v,some (.int (e : Int))] ∧ H' = H ∧ m = l.length - e ∧ e ≤ l.length ∧ e + ((l.drop e).takeWhile φ).length = p + ((l.drop p).takeWhile φ).length,
  ⟨_,p,rfl,rfl,rfl,hp,rfl⟩,?_⟩
 rintro m σ H' ⟨e,rfl,rfl,rfl,he,hi⟩
 refine ⟨_,rfl,_,rfl,_,rfl,O8 hl,_,_,rfl,rfl,_,rfl,M1 (fun c=>?_) (fun c=>?_)⟩
 ·have c : decide ((e : Int) < ((S l).length : Nat)) = true := c
  have hlt : e < l.length := by have := of_decide_eq_true c; rw [N9] at this; omega
  have hg : l[e]? = some l[e] := List.getElem?_eq_getElem hlt
  refine ⟨_,rfl,_,hv,_,rfl,_,rfl,_,_,l[e],rfl,rfl,O8 hl,J7 hg,l[e],rfl,_,rfl,?_⟩
  cases hφ : φ l[e] with
  | true =>
   refine G0 ⟨fun σ' H''=>σ' = [some (.str (S l)),some (.int (p : Int)),some v,some (.int ((e + 1 : Nat) : Int))] ∧ H'' = H',fun σ' H'' h=>?_,_,rfl,_,_,rfl,rfl,rfl,rfl⟩
   obtain ⟨rfl,rfl⟩ := h
   exact ⟨_,by omega,e + 1,rfl,rfl,rfl,by omega,by have := AO0 hg hφ; omega⟩
  | false =>
   refine E2 ⟨_,rfl,?_⟩
   have h0 := AN9 hg hφ
   have : e = p + ((l.drop p).takeWhile φ).length := by omega
   show Q (.int (e : Int)) H'
   rw [this]; exact q
 ·have c : ¬ decide ((e : Int) < ((S l).length : Nat)) = true := c
  have hge : l.length ≤ e := by
   refine Nat.le_of_not_lt fun z=>c (decide_eq_true ?_)
   rw [N9]; omega
  refine E2 ⟨_,rfl,?_⟩
  have h0 : l.drop e = [] := List.drop_eq_nil_of_le hge
  rw [h0] at hi
  have : e = p + ((l.drop p).takeWhile φ).length := by
   have z : (([] : List Nat).takeWhile φ).length = 0 := rfl
   omega
  show Q (.int (e : Int)) H'
  rw [this]; exact q
end
end Law
namespace Law
open PySem L2 L2.Sp
theorem xS {a b : List Nat} : (V.str (S a) = V.str (S b)) ↔ a = b := by
 constructor
 ·intro h
  have h := V.str.inj h
  have h2 : a.toArray = b.toArray := congrArg Str.cps h
  exact congrArg Array.toList h2
 ·rintro rfl; rfl
theorem N8 {a b : List Nat} : decide (V.str (S a) = V.str (S b)) = decide (a = b) := by
 rw [Bool.eq_iff_iff,decide_eq_true_iff,decide_eq_true_iff]; exact xS
def X6 (l : List Nat) : Prop := l.length ≤ 100000 ∧ ∀ c ∈ l,c < 1114112
structure M2 (P : Program) (w : World) (K : PySem.W.Frag) (mg : Str → Option Value) (base : Heap) (k : Nat) (x : Str) (ps : List Str) (sp : Sp) : Prop where
 ex : ∃ (f : Addr) (fd : FuncData),FnOk P w K mg base (O0 P w) k f fd ps sp ∧ mg x = some (.ref f) ∧ PySem.W.keepIn K (.ref f) = true ∧ Binds K fd ps []
theorem J4 {X : Cx} {k : Nat} {x : Str} {ps : List Str} {sp : Sp} {p pos : Pos} {e : Expr} {es : List Expr} {t : TA} {E : XK} (C : M2 X.prog X.w X.K X.mg X.base k x ps sp) (hr : Room k X.A) (hg : Gl X x) (hx : S7 (O0 X.prog X.w) X E) (ha : PA X (e :: es) t)
  (hdb : (x == ("__debug__" : Str)) = false := by decide) (he : starEach (e :: es) X.env = (false,eval e X.env) :: starEach es X.env := by rfl) (hpl : (backTo pos (starEach es X.env)).any (·.1) = false := by rfl) :
  PE X (.Call (.Name x p) (e :: es) [] pos) (lY sp [] E t) := by
 obtain ⟨f,fd,F,a,b,c⟩ := C.ex
 exact vI F hr hg a b c .nil hx ha hdb he hpl
section
variable {P : Program} {w : World} {K : PySem.W.Frag} {mg : Str → Option Value} {base : Heap} {f : Addr} {fd : FuncData}
theorem Fun.ok1 {x qual : Str} {st : Stmt} {f : Addr} {fd : FuncData} {N ps : List Str} {k : Nat} {sp : Sp} (F : Fun K x qual st f fd) (S : E4 N ps (B1 st)) (len : ∀ vs H Q E,sp vs H Q E → vs.length = ps.length)
  (hbody : ∀ (cdv : Value) (A : Around) (outer : List Env) (s : Shared) (H : Hp) (vs : List V) (Q : VK) (E : XK),Room k (A.deeper (PyProof.Rows.envOfC qual (B1 st) s.heap.objs.size f cdv)) → sp vs H Q E →
   ∃ t,PSs (Y2 (O0 P w) P w K mg base N qual (B1 st) f cdv A outer s H E) (D8 st) t ∧ t { nx := fun _ H'=>Q .non H',rt := Q } (start N vs) H) : FnOk P w K mg base (O0 P w) (k + 1) f fd ps sp := by
 obtain ⟨oc,od,kV,doc,pm,an,cdv,ct,osl,rfl,lk,hcd⟩ := F.ex
 exact AM6 lk hcd S len fun A outer s H vs Q E hr hsp=>hbody cdv A outer s H vs Q E hr hsp
structure NT (K : PySem.W.Frag) (mg : Str → Option Value) (C : Addr) : Prop where
 xc : XC K C [.type "ValueError",.type "Exception",.type "BaseException",.type "object"] "ValueError.__new__"
 mg : mg "NoText" = some (.ref C)
abbrev oP : Stmt := N0 17
theorem rK : E4 ["text","place","start","word","figures"] ["text","place"] (B1 oP) := ⟨rfl,rfl,rfl,by decide +kernel,rfl,by decide +kernel,by decide +kernel⟩
def dZ (g : List Nat → Option (List Nat)) (C : Addr) : Sp := fun args H Q E=>∃ (l : List Nat) (p : Nat),args = [.str (S l),.int (p : Int)] ∧ p < l.length ∧ X6 l ∧ (∀ v,g (l.drop p) = some v → Q (.str (S v)) H) ∧ (g (l.drop p) = none → E (.ref C) none H)
theorem iY : (Str.ofString "" : Str) = S [] := by decide +kernel
theorem BG6 : (Str.ofString "0" : Str) = S [48] := by decide +kernel
theorem xJ : (Str.ofString "-" : Str) = S [45] := by decide +kernel
theorem AY9 {C fF : Addr} {mt : Tok} (F : Fun K "number_at" "number_at" oP f fd) (RUN : Cal P w K mg base 2 "run_end" ["text","place","fits"] (mC P w K mg base)) (n : NT K mg C) (hF : FnV P w K mg base 1 (.ref fF) (X2 K7)) (gF : mg "is_figure" = some (.ref fF))
  (gM : mg "MOST_FIGURES" = some (.int 60 mt)) (m1 : mg "len" = none) : FnOk P w K mg base (O0 P w) 3 f fd ["text","place"] (dZ X4 C) := by
 refine Fun.ok1 F rK (fun vs H Q E h=>?_) (fun cdv A outer s H vs Q E hr h=>?_)
 ·obtain ⟨l,p,rfl,_⟩ := h
  rfl
 obtain ⟨l,p,rfl,hp,hs,q1,q2⟩ := h
 refine ⟨_,N3 (B9 (i := 2) rK.nd rfl (Or.inl rfl) (gK (B8 G7 (J0 Z9 (pv 0) (pv 1) (fun _ _=>rfl)) B3 (D5 _)) (E6 Q2 (pv 1) B2) (pv 1)))
  (N3 (B9 (i := 3) rK.nd rfl (Or.inl rfl) (O6 Y9 (pv 0) (M7 (pv 1)) (M7 (B5 RUN hr rfl (A0 (pv 0) (A0 (pv 2) (A0 (U7 (v := .ref fF) rfl gF rfl) A5)))))))
  (N3 (B9 (i := 4) rK.nd rfl (Or.inl rfl) (O6 Y9 (pv 3) (M7 (E6 Z3 (pv 2) (pv 1))) V7))
  (A7 (E8 (PW.pt (gJ (B8 G7 (pv 4) B3 (D5 _)) (gJ (B8 bF (J8 T5 rfl m1 PySem.boot_len (A0 (pv 4) A5)) (U7 (v := .int 60) rfl gM ⟨_,rfl⟩) (D5 _))
    (fI (PW.pt (Z1 (B8 G7 (J0 Z9 (pv 4) B2 (fun _ _=>rfl)) B3 (D5 _)) (aE (B8 kH (pv 3) B3 (D5 _)))))))))
   (A8 (V3 PySem.F.excBase_ValueError n.xc rfl n.mg (A0 (AL2 (pv 3)) A5))) D6)
  (A8 (B4 (pv 3)))))),?_⟩
 have hg : l[p]? = some l[p] := List.getElem?_eq_getElem hp
 have hr0 : (l.drop p).head? = some l[p] := by rw [aU hg]; rfl
 have hrl : (l.drop p).length = l.length - p := List.length_drop
 have hk1 := AK6 (l.drop p)
 generalize hk : sg (l.drop p) = k at hk1
 have hdd : (l.drop p).drop k = l.drop (p + k) := by rw [List.drop_drop]
 have hpk : p + k ≤ l.length := by omega
 generalize hn : ((l.drop (p + k)).takeWhile K7).length = n
 have hnl : n ≤ l.length - (p + k) := by rw [← hn]; have := lW K7 (l.drop (p + k)); rw [List.length_drop] at this; exact this
 have ew : ((l.drop p).take (k + n)).length = k + n := by rw [List.length_take]; omega
 have ef : ((l.drop p).take (k + n)).drop k = (l.drop (p + k)).takeWhile K7 := by
  rw [List.drop_take,hdd,Nat.add_sub_cancel_left,← hn,uU]
 have wl := hs.1
 refine ⟨fun σ' H'=>σ' = [some (.str (S l)),some (.int (p : Int)),some (.int ((p + k : Nat) : Int)),none,none] ∧ H' = H,?_,?_⟩
 ·refine ⟨_,rfl,_,rfl,_,_,l[p],rfl,rfl,O8 wl,J7 hg,rfl,_,rfl,?_⟩
  have e1 : decide (V.str ⟨#[l[p]]⟩ = V.str (Str.ofString "-")) = decide (k = 1) := by
   rw [xJ]
   have : decide (V.str (S [l[p]]) = V.str (S [45])) = decide ([l[p]] = [45]) := N8
   rw [show (⟨#[l[p]]⟩ : Str) = S [l[p]] from rfl,this]
   rw [Bool.eq_iff_iff,decide_eq_true_iff,decide_eq_true_iff,← hk]
   unfold sg
   rw [hr0]
   constructor
   ·intro h; rw [if_pos (by rw [List.singleton_inj.mp h])]
   ·intro h
    split at h
    ·rename_i h2; rw [Option.some.inj h2]
    ·omega
  rw [e1]
  refine M1 (fun c=>?_) (fun c=>?_)
  ·have c := of_decide_eq_true c
   exact ⟨_,rfl,_,_,rfl,rfl,by rw [c]; rfl,rfl⟩
  ·have c : k = 0 := by
    have : ¬ k = 1 := fun z=>c (decide_eq_true z)
    omega
   exact ⟨_,rfl,by rw [c]; rfl,rfl⟩
 rintro σ1 H1 ⟨rfl,rfl⟩
 refine ⟨fun σ' H'=>σ' = [some (.str (S l)),some (.int (p : Int)),some (.int ((p + k : Nat) : Int)),some (.str (S ((l.drop p).take (k + n)))),none] ∧ H' = H1,?_,?_⟩
 ·refine ⟨_,rfl,_,rfl,_,rfl,_,rfl,_,rfl,l,p + k,.ref fF,K7,rfl,hF,hpk,wl,_,rfl,_,rfl,O8 wl,?_⟩
  have e := Y5 l (i := p) (j := p + k + ((l.drop (p + k)).takeWhile K7).length) (by omega) (by omega)
  rw [e,hn,show p + k + n - p = k + n by omega]
  exact ⟨rfl,rfl⟩
 rintro σ2 H2 ⟨rfl,rfl⟩
 refine ⟨fun σ' H'=>σ' = [some (.str (S l)),some (.int (p : Int)),some (.int ((p + k : Nat) : Int)),some (.str (S ((l.drop p).take (k + n)))),some (.str (S ((l.drop (p + k)).takeWhile K7)))] ∧ H' = H2,?_,?_⟩
 ·refine ⟨_,rfl,_,rfl,_,rfl,_,_,rfl,rfl,_,rfl,_,rfl,O8 (by omega),?_⟩
  have e := mE ((l.drop p).take (k + n)) (i := k) (by omega)
  rw [show ((p + k : Nat) : Int) - (p : Int) = (k : Int) by omega,e,ef]
  exact ⟨rfl,rfl⟩
 rintro σ3 H3 ⟨rfl,rfl⟩
 have hnum : X4 (l.drop p) = if ((l.drop (p + k)).takeWhile K7) = [] ∨ 60 < ((l.drop (p + k)).takeWhile K7).length ∨ (((l.drop (p + k)).takeWhile K7).head? = some 48 ∧ (l.drop p).take (k + n) ≠ [48]) then none else some ((l.drop p).take (k + n)) := by
  unfold X4
  rw [hk,hdd,hn]
 have bad : ((l.drop (p + k)).takeWhile K7) = [] ∨ 60 < ((l.drop (p + k)).takeWhile K7).length ∨ (((l.drop (p + k)).takeWhile K7).head? = some 48 ∧ (l.drop p).take (k + n) ≠ [48]) → E (.ref C) none H3 := fun z=>q2 (by rw [hnum,if_pos z])
 have good : ¬ (((l.drop (p + k)).takeWhile K7) = [] ∨ 60 < ((l.drop (p + k)).takeWhile K7).length ∨ (((l.drop (p + k)).takeWhile K7).head? = some 48 ∧ (l.drop p).take (k + n) ≠ [48])) → Q (.str (S ((l.drop p).take (k + n)))) H3 := fun z=>q1 _ (by rw [hnum,if_neg z])
 have rz : (S ((l.drop p).take (k + n))).length ≤ 100000 ∧ (∀ c ∈ (S ((l.drop p).take (k + n))).cps.toList,c < 1114112) := ⟨by rw [N9]; omega,fun c hc=>hs.2 c (List.mem_of_mem_drop (List.mem_of_mem_take hc))⟩
 have fl : ((l.drop (p + k)).takeWhile K7).length ≤ 100000 := by omega
 generalize (l.drop (p + k)).takeWhile K7 = fs at bad good fl ⊢
 generalize (l.drop p).take (k + n) = wd at bad good rz ⊢
 refine ⟨_,rfl,rfl,_,rfl,?_⟩
 rw [iY,N8]
 refine M1 (fun c=>?_) (fun c0=>?_)
 ·exact G0 ⟨_,rfl,_,rfl,rz.1,rz.2,fun r=>⟨L0,bad (.inl (of_decide_eq_true c))⟩⟩
 have c0 : fs ≠ [] := fun z=>c0 (decide_eq_true z)
 refine ⟨_,rfl,_,rfl,O8 fl,_,_,rfl,rfl,_,rfl,?_⟩
 refine M1 (fun c=>?_) (fun c1=>?_)
 ·have c : decide (((S fs).length : Nat) > (60 : Int)) = true := c
  have c := of_decide_eq_true c
  rw [N9] at c
  exact G0 ⟨_,rfl,_,rfl,rz.1,rz.2,fun r=>⟨L0,bad (.inr (.inl (by omega)))⟩⟩
 have c1 : ¬ 60 < fs.length := fun z=>c1 (decide_eq_true (by show ((S fs).length : Int) > 60; rw [N9]; omega))
 obtain ⟨c,r,rfl⟩ := List.exists_cons_of_ne_nil c0
 refine ⟨_,rfl,_,_,c,rfl,rfl,O8 fl,J7 (j := 0) rfl,rfl,_,rfl,?_⟩
 rw [BG6,show (⟨#[c]⟩ : Str) = S [c] from rfl,N8]
 refine M1 (fun c2=>?_) (fun c2=>?_)
 ·have c2 : c = 48 := List.singleton_inj.mp (of_decide_eq_true c2)
  subst c2
  refine ⟨_,rfl,rfl,_,rfl,?_⟩
  rw [N8]
  by_cases hw : wd = [48]
  ·rw [decide_eq_true hw]
   exact E2 ⟨_,rfl,good (fun z=>by
    rcases z with z | z | z
    ·cases z
    ·exact c1 z
    ·exact z.2 hw)⟩
  ·rw [decide_eq_false hw]
   exact G0 ⟨_,rfl,_,rfl,rz.1,rz.2,fun r=>⟨L0,bad (.inr (.inr ⟨rfl,hw⟩))⟩⟩
 ·have c2 : c ≠ 48 := fun z=>c2 (decide_eq_true (by rw [z]))
  exact E2 ⟨_,rfl,good (fun z=>by
   rcases z with z | z | z
   ·cases z
   ·exact c1 z
   ·exact c2 (Option.some.inj z.1))⟩
end
end Law
namespace Law
open PySem L2 L2.Sp
section
variable {P : Program} {w : World} {K : PySem.W.Frag} {mg : Str → Option Value} {base : Heap} {f : Addr} {fd : FuncData}
abbrev oK : Stmt := N0 18
theorem AK7 : E4 ["text","place","end"] ["text","place"] (B1 oK) := ⟨rfl,rfl,rfl,by decide +kernel,rfl,by decide +kernel,by decide +kernel⟩
theorem AL7 : (Str.ofString "\"" : Str) = S [34] := by decide +kernel
theorem AY4 {C fS : Addr} (F : Fun K "quoted_at" "quoted_at" oK f fd) (RUN : Cal P w K mg base 2 "run_end" ["text","place","fits"] (mC P w K mg base)) (n : NT K mg C) (hF : FnV P w K mg base 1 (.ref fS) (X2 T1)) (gF : mg "is_sign" = some (.ref fS)) :
  FnOk P w K mg base (O0 P w) 3 f fd ["text","place"] (dZ bE C) := by
 refine Fun.ok1 F AK7 (fun vs H Q E h=>?_) (fun cdv A outer s H vs Q E hr h=>?_)
 ·obtain ⟨l,p,rfl,_⟩ := h
  rfl
 obtain ⟨l,p,rfl,hp,hs,q1,q2⟩ := h
 refine ⟨_,A7 (B9 (i := 2) AK7.nd rfl (Or.inl rfl) (B5 RUN hr rfl (A0 (pv 0) (A0 (E6 Q2 (pv 1) B2) (A0 (U7 (v := .ref fS) rfl gF rfl) A5)))))
  (A7 (E8 (B8 kH (O6 Y9 (pv 0) (M7 (pv 2)) (M7 (E6 Q2 (pv 2) B2))) B3 (D5 _))
   (A8 (V3 PySem.F.excBase_ValueError n.xc rfl n.mg (A0 B3 A5))) D6)
  (A8 (B4 (O6 Y9 (pv 0) (M7 (pv 1)) (M7 (E6 Q2 (pv 2) B2)))))),?_⟩
 have wl := hs.1
 have hdd : (l.drop p).drop 1 = l.drop (p + 1) := by rw [List.drop_drop]
 have hnl := lW T1 (l.drop (p + 1))
 rw [List.length_drop] at hnl
 have hquo : bE (l.drop p) = if (l.drop (p + 1 + ((l.drop (p + 1)).takeWhile T1).length)).take 1 = [34] then some ((l.drop p).take (2 + ((l.drop (p + 1)).takeWhile T1).length)) else none := by
  unfold bE
  rw [hdd,List.drop_drop,Nat.add_assoc]
 refine ⟨_,rfl,_,rfl,_,_,rfl,rfl,l,p + 1,.ref fS,T1,rfl,hF,by omega,wl,?_⟩
 generalize ((l.drop (p + 1)).takeWhile T1).length = n at hnl hquo ⊢
 refine ⟨_,rfl,_,rfl,_,rfl,_,rfl,_,_,rfl,rfl,_,rfl,_,rfl,O8 wl,rfl,_,rfl,?_⟩
 have e1 := Y5 l (i := p + 1 + n) (j := p + 1 + n + 1) (by omega) (by omega)
 have e2 := Y5 l (i := p) (j := p + 1 + n + 1) (by omega) (by omega)
 rw [show ((p + 1 + n : Nat) : Int) + 1 = ((p + 1 + n + 1 : Nat) : Int) by omega,e1,show p + 1 + n + 1 - (p + 1 + n) = 1 by omega,AL7]
 have e3 : decide (V.str (S ((l.drop (p + 1 + n)).take 1)) = V.str (S [34])) = decide ((l.drop (p + 1 + n)).take 1 = [34]) := N8
 rw [e3]
 by_cases hq : (l.drop (p + 1 + n)).take 1 = [34]
 ·rw [decide_eq_true hq]
  refine E2 ⟨_,rfl,_,rfl,_,rfl,_,rfl,_,_,rfl,rfl,_,rfl,_,rfl,O8 wl,?_⟩
  rw [show ((p + 1 + n : Nat) : Int) + 1 = ((p + 1 + n + 1 : Nat) : Int) by omega,e2,show p + 1 + n + 1 - p = 2 + n by omega]
  exact q1 _ (by rw [hquo,if_pos hq])
 ·rw [decide_eq_false hq]
  exact G0 ⟨L0,q2 (by rw [hquo,if_neg hq])⟩
abbrev jT : Stmt := N0 13
theorem yI : E4 ["text","place","sign"] ["text","place"] (B1 jT) := ⟨rfl,rfl,rfl,by decide +kernel,rfl,by decide +kernel,by decide +kernel⟩
theorem vU : (Str.ofString ".." : Str) = S [46,46] := by decide +kernel
theorem zM : (Str.ofString "{}[](),:?&|!@." : Str) = S P8 := by decide +kernel
theorem uI {k : Nat} {x : Str} {ps : List Str} {sp : List V → Hp → VK → Prop} (C : Cal P w K mg base k x ps (fun vs H Q _=>sp vs H Q)) : ∃ f,FnV P w K mg base k (.ref f) sp ∧ mg x = some (.ref f) := by
 obtain ⟨f,fd,F,a,b,c⟩ := C.ex
 exact ⟨f,⟨f,fd,ps,rfl,F,b,c⟩,a⟩
theorem AQ3 {C : Addr} {st : Tok} (F : Fun K "word_at" "word_at" jT f fd) (RUN : Cal P w K mg base 2 "run_end" ["text","place","fits"] (mC P w K mg base)) (LET : Cal P w K mg base 1 "is_letter" ["sign"] (fun vs H Q _=>X2 P2 vs H Q))
  (FIG : Cal P w K mg base 1 "is_figure" ["sign"] (fun vs H Q _=>X2 K7 vs H Q)) (NUM : M2 P w K mg base 3 "number_at" ["text","place"] (dZ X4 C)) (QUO : M2 P w K mg base 3 "quoted_at" ["text","place"] (dZ bE C)) (n : NT K mg C)
  (gS : mg "SINGLE_SIGNS" = some (.str (Str.ofString "{}[](),:?&|!@.") st)) : FnOk P w K mg base (O0 P w) 4 f fd ["text","place"] (dZ O1 C) := by
 refine Fun.ok1 F yI (fun vs H Q E h=>?_) (fun cdv A outer s H vs Q E hr h=>?_)
 ·obtain ⟨l,p,rfl,_⟩ := h
  rfl
 obtain ⟨l,p,rfl,hp,hs,q1,q2⟩ := h
 obtain ⟨fL,hL,gL⟩ := uI LET
 refine ⟨_,A7 (B9 (i := 2) yI.nd rfl (Or.inl rfl) (J0 Z9 (pv 0) (pv 1) (fun _ _=>rfl)))
  (A7 (E8 (N6 (B5 (LET.mono (by omega)) hr rfl (A0 (pv 2) A5)))
   (A8 (B4 (O6 Y9 (pv 0) (M7 (pv 1)) (M7 (B5 (RUN.mono (by omega)) hr rfl (A0 (pv 0) (A0 (pv 1) (A0 (U7 (v := .ref fL) rfl gL rfl) A5)))))))) D6)
  (A7 (E8 (PW.pt (gJ (B8 G7 (pv 2) B3 (D5 _)) (fI (N6 (B5 (FIG.mono (by omega)) hr rfl (A0 (pv 2) A5))))))
   (A8 (B4 (J4 NUM hr rfl (G5 (E' := E) fun _ _ _ h=>h) (A0 (pv 0) (A0 (pv 1) A5))))) D6)
  (A7 (E8 (B8 G7 (pv 2) B3 (D5 _))
   (A8 (B4 (J4 QUO hr rfl (G5 (E' := E) fun _ _ _ h=>h) (A0 (pv 0) (A0 (pv 1) A5))))) D6)
  (A7 (E8 (B8 G7 (O6 Y9 (pv 0) (M7 (pv 1)) (M7 (E6 Q2 (pv 1) B2))) B3 (D5 _)) (A8 (B4 B3)) D6)
  (A7 (E8 (B8 zA (pv 2) (U7 (v := .str (S P8)) rfl gS ⟨st,by rw [zM]⟩) rfl) (A8 (B4 (pv 2))) D6)
  (A8 (V3 PySem.F.excBase_ValueError n.xc rfl n.mg (A0 (AL2 (pv 2)) A5)))))))),?_⟩
 have wl := hs.1
 have hg : l[p]? = some l[p] := List.getElem?_eq_getElem hp
 have ed : l.drop p = l[p] :: l.drop (p + 1) := aU hg
 have hc0 := hs.2 l[p] (List.getElem_mem hp)
 refine ⟨_,rfl,_,rfl,_,_,l[p],rfl,rfl,O8 wl,J7 hg,?_⟩
 have hw : O1 (l.drop p) = if P2 l[p] = true then some ((l.drop p).take ((l.drop p).takeWhile P2).length) else if l[p] = 45 ∨ K7 l[p] = true then X4 (l.drop p) else if l[p] = 34 then bE (l.drop p)
   else if (l.drop p).take 2 = [46,46] then some [46,46] else if l[p] ∈ P8 then some [l[p]] else none := by
  rw [ed,O1]
 refine ⟨_,rfl,l[p],rfl,_,rfl,?_⟩
 cases hcl : P2 l[p] with
 | true =>
  rw [hcl,if_pos rfl] at hw
  refine G0 ⟨_,rfl,_,rfl,_,rfl,_,rfl,_,rfl,l,p,.ref fL,P2,rfl,hL,by omega,wl,_,rfl,_,rfl,O8 wl,?_⟩
  have e := Y5 l (i := p) (j := p + ((l.drop p).takeWhile P2).length) (by omega) (by omega)
  rw [e,Nat.add_sub_cancel_left]
  exact q1 _ hw
 | false =>
 rw [hcl,if_neg (by simp)] at hw
 refine E2 ⟨_,rfl,rfl,_,rfl,?_⟩
 rw [xJ,show (⟨#[l[p]]⟩ : Str) = S [l[p]] from rfl,N8]
 have num : (l[p] = 45 ∨ K7 l[p] = true) → dZ X4 C [.str (S l),.int (p : Int)] H Q E := fun z=>by
  rw [if_pos z] at hw
  exact ⟨l,p,rfl,hp,hs,fun v hv=>q1 v (hw.trans hv),fun hv=>q2 (hw.trans hv)⟩
 refine M1 (fun c=>?_) (fun c1=>?_)
 ·exact G0 ⟨_,rfl,_,rfl,num (.inl (List.singleton_inj.mp (of_decide_eq_true c)))⟩
 have c1 : l[p] ≠ 45 := fun z=>c1 (decide_eq_true (by rw [z]))
 refine ⟨_,rfl,l[p],rfl,_,rfl,?_⟩
 cases hcf : K7 l[p] with
 | true=>exact G0 ⟨_,rfl,_,rfl,num (.inr hcf)⟩
 | false =>
 rw [if_neg (by rintro (z | z); exact c1 z; rw [hcf] at z; cases z)] at hw
 refine E2 ⟨_,rfl,rfl,_,rfl,?_⟩
 rw [AL7,N8]
 refine M1 (fun c=>?_) (fun c2=>?_)
 ·have c := List.singleton_inj.mp (of_decide_eq_true c)
  rw [if_pos c] at hw
  exact ⟨_,rfl,_,rfl,l,p,rfl,hp,hs,fun v hv=>q1 v (hw.trans hv),fun hv=>q2 (hw.trans hv)⟩
 have c2 : l[p] ≠ 34 := fun z=>c2 (decide_eq_true (by rw [z]))
 rw [if_neg c2] at hw
 refine ⟨_,rfl,_,rfl,_,rfl,_,rfl,_,_,rfl,rfl,_,rfl,_,rfl,O8 wl,rfl,_,rfl,?_⟩
 have e := Y5 l (i := p) (j := p + 2) (by omega) (by omega)
 rw [show ((p : Int) + 2) = ((p + 2 : Nat) : Int) by omega,e,Nat.add_sub_cancel_left,vU]
 have e3 : decide (V.str (S ((l.drop p).take 2)) = V.str (S [46,46])) = decide ((l.drop p).take 2 = [46,46]) := N8
 rw [e3]
 refine M1 (fun c=>?_) (fun c3=>?_)
 ·rw [if_pos (of_decide_eq_true c)] at hw
  show Q (.str (Str.ofString "..")) H
  rw [vU]
  exact q1 _ hw
 rw [if_neg (fun z=>c3 (decide_eq_true z))] at hw
 refine ⟨_,rfl,_,_,rfl,rfl,_,rfl,?_⟩
 have e4 : (!(Builtin.Str.occurrences (S P8) (S [l[p]]) 0 (S P8).length 1).isEmpty) = decide (l[p] ∈ P8) := StrLaws.found_one _ _
 rw [e4]
 refine M1 (fun c=>?_) (fun c4=>?_)
 ·rw [if_pos (of_decide_eq_true c)] at hw
  exact ⟨_,rfl,q1 _ hw⟩
 rw [if_neg (fun z=>c4 (decide_eq_true z))] at hw
 exact ⟨_,rfl,_,rfl,by show 1 ≤ 100000; omega,fun c hc=>by
  have hc : c ∈ [l[p]] := hc
  rw [List.mem_singleton.mp hc]; exact hc0,fun r=>⟨L0,q2 hw⟩⟩
end
end Law
namespace Law
open PySem L2 L2.Sp
theorem qL {X : Cx} : T3 X (.builtin "isinstance") (fun xs H Q=>∃ v b,xs = [v,.ty "str"] ∧ ((∃ z,v = .str z ∧ b = true) ∨ (∃ d,DV X.K H d v ∧ jG d "str" = b)) ∧ Q (.bl b) H) := by
 intro pins s σ H xs us Q I r h
 obtain ⟨v,b,rfl,h,q⟩ := h
 rcases h with ⟨z,rfl,rfl⟩ | ⟨d,hd,rfl⟩
 ·exact AJ0 pins s σ H _ us Q I r ⟨_,_,true,rfl,rfl,q⟩
 ·exact AB1 pins s σ H _ us Q I r ⟨_,d,_,rfl,hd,.inr (.inl rfl),q⟩
section
variable {P : Program} {w : World} {K : PySem.W.Frag} {mg : Str → Option Value} {base : Heap} {f : Addr} {fd : FuncData}
abbrev eZ : Stmt := N0 12
theorem eU : E4 ["text","words","place"] ["text"] (B1 eZ) := ⟨rfl,rfl,rfl,by decide +kernel,rfl,by decide +kernel,by decide +kernel⟩
abbrev ST (ws : List (List Nat)) : List V := ws.map fun w=>V.str (S w)
def nZ (K : PySem.W.Frag) (C : Addr) : Sp := fun args H Q E=>∃ v,args = [v] ∧ ((∃ d,DV K H d v ∧ jG d "str" = false ∧ E (.ref C) none H) ∨ ∃ l,v = .str (S l) ∧ X6 l ∧
 (∀ ws,G6 l = some ws → ∀ (H' : Hp) (p : Addr),H p = none → Same H H' → H' p = some (.lst (ST ws)) → Q (.ref p) H') ∧ (G6 l = none → ∀ H',Same H H' → E (.ref C) none H'))
theorem BG5 : (Str.ofString " " : Str) = S [32] := by decide +kernel
theorem vS {ws ws' : List (List Nat)} {o : Option (List (List Nat))} : (o.map (ws' ++ ·)).map (ws ++ ·) = o.map ((ws ++ ws') ++ ·) := by
 cases o with
 | none=>rfl
 | some x=>simp
theorem AE6 {C : Addr} (F : Fun K "words_of" "words_of" eZ f fd) (WORD : M2 P w K mg base 4 "word_at" ["text","place"] (dZ O1 C)) (n : NT K mg C) (m1 : mg "len" = none) (m2 : mg "isinstance" = none) (m3 : mg "str" = none) :
  FnOk P w K mg base (O0 P w) 5 f fd ["text"] (nZ K C) := by
 refine Fun.ok1 F eU (fun vs H Q E h=>?_) (fun cdv A outer s H vs Q E hr h=>?_)
 ·obtain ⟨v,rfl,_⟩ := h
  rfl
 obtain ⟨v,rfl,h⟩ := h
 refine ⟨_,A7 (E8 (fJ (N6 (J8 qL rfl m2 fY (A0 (pv 0) (A0 (oY (v := .ty "str") rfl m3 fX rfl) A5)))))
   (A8 (V3 PySem.F.excBase_ValueError n.xc rfl n.mg (A0 B3 A5))) D6)
  (A7 (B9 (i := 1) eU.nd rfl (Or.inl rfl) (E5 A5))
  (A7 (B9 (i := 2) eU.nd rfl (Or.inl rfl) B2)
  (A7 (V2 PassesOwn.leaving (B8 aH (pv 2) (J8 T5 rfl m1 PySem.boot_len (A0 (pv 0) A5)) (D5 _))
   (A8 (E8 (B8 G7 (J0 Z9 (pv 0) (pv 2) (fun _ _=>rfl)) B3 (D5 _))
    (A8 (P9 (i := 2) eU.nd rfl (Or.inl rfl) B2 mX))
    (A7 (K5 (S5 PySem.F.plainAttrs_list PySem.F.slot_list_append PySem.F.type_list_append M0 (pv 1) (A0 (J4 WORD hr rfl (G5 (E' := E) fun _ _ _ h=>h) (A0 (pv 0) (A0 (pv 2) A5))) A5)))
    (A8 (P9 (i := 2) eU.nd rfl (Or.inl rfl) (J8 T5 rfl m1 PySem.boot_len (A0 (J0 N4 (pv 1) (rN lV B2) (fun _ _=>rfl)) A5)) mX))))))
  (A8 (B4 (pv 1)))))),?_⟩
 rcases h with ⟨d,hd,hf,e⟩ | ⟨l,rfl,hs,q1,q2⟩
 ·exact ⟨_,rfl,_,_,rfl,.inr ⟨d,hd,hf⟩,_,rfl,G0 ⟨L0,e⟩⟩
 have wl := hs.1
 refine ⟨_,rfl,_,_,rfl,.inl ⟨_,rfl,rfl⟩,_,rfl,E2 ?_⟩
 refine ⟨U2,fun a ha=>?_⟩
 have g1 := A9 ha (.lst [])
 refine ⟨fun m σ H'=>∃ (p : Nat) (ws : List (List Nat)),σ = [some (.str (S l)),some (.ref a),some (.int (p : Int))] ∧ Same H H' ∧ H' a = some (.lst (ST ws)) ∧ m = l.length - p ∧ p ≤ l.length ∧ ws.length ≤ p ∧ G6 l = (G6 (l.drop p)).map (ws ++ ·),
  ⟨_,0,[],rfl,g1,A6,rfl,by omega,Nat.le_refl _,by
   show G6 l = (G6 l).map ([] ++ ·)
   cases G6 l with
   | none=>rfl
   | some x=>rfl⟩,?_⟩
 rintro m σ H' ⟨p,ws,rfl,g,hl,rfl,hp,hwl,hw⟩
 refine ⟨_,rfl,_,rfl,_,rfl,O8 wl,_,_,rfl,rfl,_,rfl,M1 (fun c=>?_) (fun c=>?_)⟩
 ·have c : decide ((p : Int) < ((S l).length : Nat)) = true := c
  have hlt : p < l.length := by have := of_decide_eq_true c; rw [N9] at this; omega
  have hg : l[p]? = some l[p] := List.getElem?_eq_getElem hlt
  have ed : l.drop p = l[p] :: l.drop (p + 1) := aU hg
  refine ⟨fun σ' H''=>∃ (p' : Nat) (ws : List (List Nat)),σ' = [some (.str (S l)),some (.ref a),some (.int (p' : Int))] ∧ Same H H'' ∧ H'' a = some (.lst (ST ws)) ∧ p < p' ∧ p' ≤ l.length ∧ ws.length ≤ p' ∧ G6 l = (G6 (l.drop p')).map (ws ++ ·),fun σ' H'' h=>?_,?_⟩
  ·obtain ⟨p',ws',rfl,h1,h2,h3,h4,h5,h6⟩ := h
   exact ⟨l.length - p',by omega,p',ws',rfl,h1,h2,rfl,h4,h5,h6⟩
  refine ⟨_,rfl,_,rfl,_,_,l[p],rfl,rfl,O8 wl,J7 hg,rfl,_,rfl,?_⟩
  rw [BG5,show (⟨#[l[p]]⟩ : Str) = S [l[p]] from rfl,N8]
  refine M1 (fun c=>?_) (fun c=>?_)
  ·have c := List.singleton_inj.mp (of_decide_eq_true c)
   refine ⟨_,rfl,_,_,rfl,rfl,p + 1,ws,rfl,g,hl,by omega,by omega,by omega,?_⟩
   rw [hw,ed,c,rS]
  ·have c : l[p] ≠ 32 := fun z=>c (decide_eq_true (by rw [z]))
   have hh : (l.drop p).head? ≠ some 32 := by rw [ed]; intro z; exact c (Option.some.inj z)
   refine ⟨_,rfl,.inl ⟨rfl,_,SqL.of hl⟩,_,rfl,_,rfl,l,p,rfl,hlt,hs,fun v hv=>?_,fun hv=>?_⟩
   ·obtain ⟨v1,v2,v3⟩ := pO hv
    rw [List.length_drop] at v2
    refine ⟨a,_,_,rfl,rfl,hl,?_,?_⟩
    ·rw [List.length_map]; exact Nat.lt_of_le_of_lt (Nat.le_trans hwl (Nat.le_trans hp wl)) (by decide)
    have el : ST ws ++ [V.str (S v)] = ST (ws ++ [v]) := by simp [ST]
    refine ⟨_,rfl,_,rfl,_,rfl,a,_,_,_,rfl,rfl,SqL.of A6,AJ5 _ _,_,rfl,O8 (by omega),_,_,rfl,rfl,p + v.length,ws ++ [v],?_,fun b o h=>by rw [B6 (D9 h ha)]; exact g _ _ h,by rw [A6,el],by omega,by omega,by rw [List.length_append,List.length_singleton]; omega,?_⟩
    ·rfl
    ·rw [hw,lU hh hv,List.drop_drop]
     exact vS (ws' := [v])
   ·have hn : G6 (l.drop p) = none := wJ hh (fun z=>by rw [ed] at z; cases z) hv
    exact q2 (hw.trans (by rw [hn]; rfl)) H' g
 ·have c : ¬ decide ((p : Int) < ((S l).length : Nat)) = true := c
  have hge : l.length ≤ p := by
   refine Nat.le_of_not_lt fun z=>c (decide_eq_true ?_)
   rw [N9]; omega
  have h0 : l.drop p = [] := List.drop_eq_nil_of_le hge
  rw [h0,iE] at hw
  refine ⟨_,rfl,q1 ws ?_ H' a ha g hl⟩
  rw [hw]; simp
end
end Law
namespace Law
open PySem L2 L2.Sp
def Let (w : List Nat) : Prop := w ≠ [] ∧ ∀ c ∈ w,P2 c = true
def Num (w : List Nat) : Prop := ∃ sn fs,w = sn ++ fs ∧ (sn = [] ∨ sn = [45]) ∧ fs ≠ [] ∧ (∀ c ∈ fs,K7 c = true) ∧ fs.length ≤ 60 ∧ (fs.head? ≠ some 48 ∨ w = [48])
def Quo (w : List Nat) : Prop := ∃ b,(∀ c ∈ b,T1 c = true) ∧ w = 34 :: (b ++ [34])
def One (w : List Nat) : Prop := ∃ c,c ∈ P8 ∧ w = [c]
def U4 (w : List Nat) : Prop := Let w ∨ Num w ∨ Quo w ∨ w = [46,46] ∨ One w
def Fol (w s : List Nat) : Prop := ∀ d,s.head? = some d → (Let w → P2 d = false) ∧ (Num w → K7 d = false) ∧ (w = [46] → d ≠ 46)
theorem BG7 {c : Nat} (h : K7 c = true) : P2 c = false := by
 unfold K7 at h; unfold P2
 simp only [Bool.and_eq_true,decide_eq_true_eq] at h
 rw [decide_eq_false (by omega)]; rfl
theorem mW {c : Nat} (h : P2 c = true) : K7 c = false := by
 unfold P2 at h; unfold K7
 simp only [Bool.and_eq_true,decide_eq_true_eq] at h
 rw [decide_eq_false (show ¬ c ≤ 57 by omega),Bool.and_false]
theorem V0 : ∀ c ∈ P8,P2 c = false ∧ K7 c = false ∧ c ≠ 45 ∧ c ≠ 34 ∧ c ≠ 32 := by decide
theorem BD5 {c : Nat} (h : K7 c = true) : c ≠ 45 ∧ c ≠ 32 ∧ c ≠ 34 ∧ c ≠ 46 := by
 unfold K7 at h
 simp only [Bool.and_eq_true,decide_eq_true_eq] at h
 omega
theorem AK1 {c : Nat} (h : P2 c = true) : c ≠ 45 ∧ c ≠ 32 ∧ c ≠ 34 ∧ c ≠ 46 := by
 unfold P2 at h
 simp only [Bool.and_eq_true,decide_eq_true_eq] at h
 omega
theorem Num.head {w : List Nat} (h : Num w) : ∃ c,w.head? = some c ∧ (c = 45 ∨ K7 c = true) := by
 obtain ⟨sn,fs,rfl,hsn,hne,hf,_⟩ := h
 obtain ⟨c,r,rfl⟩ := List.exists_cons_of_ne_nil hne
 rcases hsn with rfl | rfl
 ·exact ⟨c,rfl,.inr (hf c (by simp))⟩
 ·exact ⟨45,rfl,.inl rfl⟩
theorem Let.head {w : List Nat} (h : Let w) : ∃ c,w.head? = some c ∧ P2 c = true := by
 obtain ⟨hne,hl⟩ := h
 obtain ⟨c,r,rfl⟩ := List.exists_cons_of_ne_nil hne
 exact ⟨c,rfl,hl c (by simp)⟩
theorem uM {w : List Nat} (h : Let w) (h' : Num w) : False := by
 obtain ⟨c,e,hc⟩ := h.head
 obtain ⟨c',e',hc'⟩ := h'.head
 rw [e] at e'; cases e'
 rcases hc' with rfl | hc'
 ·cases hc
 ·rw [mW hc] at hc'; cases hc'
theorem zI {w s : List Nat} (h : Num w) (hs : ∀ d,s.head? = some d → K7 d = false) : X4 (w ++ s) = some w := by
 obtain ⟨sn,fs,rfl,hsn,hne,hf,hlen,h0⟩ := h
 obtain ⟨c,r,rfl⟩ := List.exists_cons_of_ne_nil hne
 have htw : ((c :: r) ++ s).takeWhile K7 = c :: r := lX K7 hf hs
 have key : ∀ k,sg (sn ++ (c :: r) ++ s) = k → k = sn.length → X4 (sn ++ (c :: r) ++ s) = some (sn ++ (c :: r)) := fun k hk hl=>by
  have hd : (sn ++ (c :: r) ++ s).drop k = (c :: r) ++ s := by rw [hl,List.append_assoc,List.drop_left]
  have ht : (sn ++ (c :: r) ++ s).take (k + (c :: r).length) = sn ++ (c :: r) := by
   rw [hl,← List.length_append,List.take_left]
  unfold X4
  rw [hk,hd,htw,ht,if_neg]
  rintro (z | z | z)
  ·cases z
  ·omega
  ·rcases h0 with h0 | h0
   ·exact h0 z.1
   ·exact z.2 h0
 rcases hsn with rfl | rfl
 ·refine key 0 ?_ rfl
  unfold sg
  rw [if_neg]
  intro z
  exact (BD5 (hf c (by simp))).1 (Option.some.inj z)
 ·exact key 1 rfl rfl
theorem AU5 {w s : List Nat} (h : U4 w) (hf : Fol w s) : O1 (w ++ s) = some w := by
 rcases h with h | h | h | rfl | h
 ·have htw : (w ++ s).takeWhile P2 = w := lX P2 h.2 fun d hd=>(hf d hd).1 h
  obtain ⟨c,r,rfl⟩ := List.exists_cons_of_ne_nil h.1
  have hc := h.2 c (by simp)
  show O1 (c :: (r ++ s)) = _
  rw [O1,if_pos hc]
  have : (c :: (r ++ s)).takeWhile P2 = c :: r := htw
  rw [this]
  show some ((c :: r ++ s).take (c :: r).length) = _
  rw [List.take_left]
 ·have hn := zI h (s := s) fun d hd=>(hf d hd).2.1 h
  obtain ⟨c,e,hc⟩ := h.head
  obtain ⟨r,rfl⟩ : ∃ r,w = c :: r := by
   cases w with
   | nil=>cases e
   | cons a r=>cases e; exact ⟨r,rfl⟩
  have hl : P2 c = false := by
   rcases hc with rfl | hc
   ·rfl
   ·exact BG7 hc
  show O1 (c :: (r ++ s)) = _
  rw [O1,if_neg (by rw [hl]; simp),if_pos hc]
  exact hn
 ·obtain ⟨b,hb,rfl⟩ := h
  show O1 (34 :: (b ++ [34] ++ s)) = _
  rw [O1,if_neg (by decide),if_neg (by decide),if_pos rfl]
  have htw : (b ++ [34] ++ s).takeWhile T1 = b := by
   rw [List.append_assoc]
   exact lX T1 hb fun d hd=>by cases hd; decide
  unfold bE
  have e1 : (34 :: (b ++ [34] ++ s)).drop 1 = b ++ [34] ++ s := rfl
  rw [e1,htw]
  have e2 : (34 :: (b ++ [34] ++ s)).drop (1 + b.length) = [34] ++ s := by
   rw [Nat.add_comm 1,List.drop_succ_cons,List.append_assoc,List.drop_left]
  have e3 : (34 :: (b ++ [34] ++ s)).take (2 + b.length) = 34 :: (b ++ [34]) := by
   have : 2 + b.length = (34 :: (b ++ [34])).length := by simp; omega
   rw [this]
   show ((34 :: (b ++ [34])) ++ s).take _ = _
   rw [List.take_left]
  rw [e2,e3]
  rfl
 ·show O1 (46 :: 46 :: s) = _
  rw [O1,if_neg (by decide),if_neg (by decide),if_neg (by decide),if_pos (show List.take 2 (46 :: 46 :: s) = [46,46] from rfl)]
 ·obtain ⟨c,hc,rfl⟩ := h
  obtain ⟨h1,h2,h3,h4,_⟩ := V0 c hc
  show O1 (c :: s) = _
  rw [O1,if_neg (by rw [h1]; simp),if_neg (by rintro (z | z); exact h3 z; rw [h2] at z; cases z),if_neg h4,if_neg,if_pos hc]
  intro z
  cases s with
  | nil=>cases z
  | cons d r =>
   have z : c :: d :: [] = [46,46] := z
   cases z
   exact (hf 46 rfl).2.2 rfl rfl
theorem rY {w : List Nat} (h : U4 w) : ∃ c,w.head? = some c ∧ c ≠ 32 := by
 rcases h with h | h | h | rfl | h
 ·obtain ⟨c,e,hc⟩ := h.head
  exact ⟨c,e,(AK1 hc).2.1⟩
 ·obtain ⟨c,e,hc⟩ := h.head
  refine ⟨c,e,?_⟩
  rcases hc with rfl | hc
  ·decide
  ·exact (BD5 hc).2.1
 ·obtain ⟨b,_,rfl⟩ := h
  exact ⟨34,rfl,by decide⟩
 ·exact ⟨46,rfl,by decide⟩
 ·obtain ⟨c,hc,rfl⟩ := h
  exact ⟨c,rfl,(V0 c hc).2.2.2.2⟩
theorem xX {w s : List Nat} (h : U4 w) (hf : Fol w s) : G6 (w ++ s) = (G6 s).map (w :: ·) := by
 obtain ⟨c,e,hc⟩ := rY h
 have hh : (w ++ s).head? ≠ some 32 := by
  cases w with
  | nil=>cases e
  | cons a r =>
   cases e
   intro z
   exact hc (Option.some.inj z)
 rw [lU hh (AU5 h hf),List.drop_left]
def Line (line : List Nat) (due : List (List Nat)) (last : List Nat) : Prop :=
 (line = [] ∧ due = [] ∧ last = []) ∨ ∃ l0 d0 w,line = l0 ++ w ∧ due = d0 ++ [w] ∧ U4 w ∧ U4 last ∧ (∀ s,s.head? = w.head? → G6 (l0 ++ s) = (G6 s).map (d0 ++ ·)) ∧ (w = last ∨ (Let w ∧ Let last))
theorem Line.nil : Line [] [] [] := .inl ⟨rfl,rfl,rfl⟩
theorem Line.all {line last s : List Nat} {due : List (List Nat)} (h : Line line due last) (hf : Fol last s) : G6 (line ++ s) = (G6 s).map (due ++ ·) := by
 rcases h with ⟨rfl,rfl,rfl⟩ | ⟨l0,d0,w,rfl,rfl,hw,hl,ha,hwl⟩
 ·show G6 s = (G6 s).map ([] ++ ·)
  cases G6 s <;> rfl
 ·have hfw : Fol w s := by
   rcases hwl with rfl | ⟨h1,h2⟩
   ·exact hf
   ·exact fun d hd=>⟨fun _=>(hf d hd).1 h2,fun z=>(uM h1 z).elim,fun z=>by
     subst z
     have := h1.2 46 (by simp)
     cases this⟩
  obtain ⟨c,e,hc⟩ := rY hw
  have hh : (w ++ s).head? = w.head? := by
   cases w with
   | nil=>cases e
   | cons a r=>rfl
  rw [List.append_assoc,ha (w ++ s) hh,xX hw hfw]
  exact vS (ws' := [w])
theorem Fol.sp {w s : List Nat} : Fol w (32 :: s) := fun d hd=>by
 cases hd
 exact ⟨fun _=>by decide,fun _=>by decide,fun _=>by decide⟩
theorem Fol.nil {w : List Nat} : Fol w [] := fun d hd=>by cases hd
theorem dA (g : Nat) (s : List Nat) : G6 (List.replicate g 32 ++ s) = G6 s := by
 induction g with
 | zero=>rfl
 | succ g ih =>
  rw [List.replicate_succ,List.cons_append,rS,ih]
theorem Fol.head {w s s' : List Nat} (h : Fol w s) (e : s'.head? = s.head?) : Fol w s' := fun d hd=>h d (e ▸ hd)
theorem Line.gap {line last p : List Nat} {due : List (List Nat)} {g : Nat} (h : Line line due last) (hg : 0 < g) (hp : U4 p) : Line (line ++ List.replicate g 32 ++ p) (due ++ [p]) p := by
 refine .inr ⟨line ++ List.replicate g 32,due,p,rfl,rfl,hp,hp,fun s _=>?_,.inl rfl⟩
 obtain ⟨k,rfl⟩ : ∃ k,g = k + 1 := ⟨g - 1,by omega⟩
 rw [List.append_assoc,h.all (by rw [List.replicate_succ]; exact Fol.sp),dA]
theorem Line.zero {line last p : List Nat} {due : List (List Nat)} (h : Line line due last) (hp : U4 p) (hf : Fol last p) : Line (line ++ p) (due ++ [p]) p :=
 .inr ⟨line,due,p,rfl,rfl,hp,hp,fun s hs=>h.all (hf.head hs),.inl rfl⟩
theorem Line.ends {line last : List Nat} {due : List (List Nat)} (h : Line line due last) : G6 line = some due := by
 have e := h.all (s := []) Fol.nil
 rw [List.append_nil,iE] at e
 rw [e]; simp
end Law
namespace Law
open PySem L2 L2.Sp
inductive Tn where
 | non
 | bl (b : Bool)
 | int (i : Int)
 | str (w : List Nat)
 | tup (ts : List Tn)
mutual
def TV (K : PySem.W.Frag) (H : Hp) : Tn → V → Prop
 | .non,v=>v = .non
 | .bl b,v=>v = .bl b
 | .int i,v=>v = .int i
 | .str w,v=>v = .str (S w)
 | .tup ts,v=>∃ a ys,v = .ref a ∧ SqT K H a ys ∧ TAll K H ts ys
def TAll (K : PySem.W.Frag) (H : Hp) : List Tn → List V → Prop
 | [],ys=>ys = []
 | t :: ts,ys=>∃ y r,ys = y :: r ∧ TV K H t y ∧ TAll K H ts r
end
section
variable {K : PySem.W.Frag} {H H' : Hp}
mutual
theorem TV.mono (k : ∀ a ys,SqT K H a ys → SqT K H' a ys) : ∀ (t : Tn) (v : V),TV K H t v → TV K H' t v
 | .non,v,h=>by simp only [TV] at h ⊢; exact h
 | .bl b,v,h=>by simp only [TV] at h ⊢; exact h
 | .int i,v,h=>by simp only [TV] at h ⊢; exact h
 | .str x,v,h=>by simp only [TV] at h ⊢; exact h
 | .tup ts,v,h=>by
  simp only [TV] at h ⊢
  obtain ⟨a,ys,e,hq,hd⟩ := h
  exact ⟨a,ys,e,k a ys hq,TAll.mono k ts ys hd⟩
theorem TAll.mono (k : ∀ a ys,SqT K H a ys → SqT K H' a ys) : ∀ (ts : List Tn) (vs : List V),TAll K H ts vs → TAll K H' ts vs
 | [],vs,h=>by simp only [TAll] at h ⊢; exact h
 | t :: ts,vs,h=>by
  simp only [TAll] at h ⊢
  obtain ⟨y,r,e,h1,h2⟩ := h
  exact ⟨y,r,e,TV.mono k t y h1,TAll.mono k ts r h2⟩
end
theorem TAll.length : ∀ {ts : List Tn} {vs : List V},TAll K H ts vs → vs.length = ts.length
 | [],vs,h=>by simp only [TAll] at h; subst h; rfl
 | t :: ts,vs,h=>by
  simp only [TAll] at h
  obtain ⟨y,r,e,_,h2⟩ := h
  subst e
  rw [List.length_cons,List.length_cons,TAll.length h2]
theorem TAll.append : ∀ {ts us : List Tn} {vs xs : List V},TAll K H ts vs → TAll K H us xs → TAll K H (ts ++ us) (vs ++ xs)
 | [],us,vs,xs,h,h'=>by simp only [TAll] at h; subst h; exact h'
 | t :: ts,us,vs,xs,h,h'=>by
  simp only [TAll] at h
  obtain ⟨y,r,e,h1,h2⟩ := h
  subst e
  simp only [List.cons_append,TAll]
  exact ⟨y,r ++ xs,rfl,h1,TAll.append h2 h'⟩
theorem TAll.nil : TAll K H [] [] := by simp only [TAll]
theorem TAll.one {t : Tn} {v : V} (h : TV K H t v) : TAll K H [t] [v] := by simp only [TAll]; exact ⟨v,[],rfl,h,rfl⟩
theorem TAll.cons {t : Tn} {v : V} {ts : List Tn} {vs : List V} (h : TV K H t v) (h2 : TAll K H ts vs) : TAll K H (t :: ts) (v :: vs) := by simp only [TAll]; exact ⟨v,vs,rfl,h,h2⟩
theorem TAll.get : ∀ {ts : List Tn} {vs : List V} {i : Nat} {v : V},TAll K H ts vs → vs[i]? = some v → ∃ t,ts[i]? = some t ∧ TV K H t v
 | [],vs,i,v,h,e=>by simp only [TAll] at h; subst h; simp at e
 | t :: ts,vs,i,v,h,e=>by
  simp only [TAll] at h
  obtain ⟨y,r,e1,h1,h2⟩ := h
  subst e1
  cases i with
  | zero=>simp at e; subst e; exact ⟨t,rfl,h1⟩
  | succ i =>
   obtain ⟨t',h3,h4⟩ := TAll.get (i := i) h2 (by simpa using e)
   exact ⟨t',by simpa using h3,h4⟩
theorem TV.tup {a : Addr} {ys : List V} {ts : List Tn} (h : SqT K H a ys) (h2 : TAll K H ts ys) : TV K H (.tup ts) (.ref a) := by simp only [TV]; exact ⟨a,ys,rfl,h,h2⟩
theorem TV.str {w : List Nat} : TV K H (.str w) (.str (S w)) := by simp only [TV]
theorem TV.int {i : Int} : TV K H (.int i) (.int i) := by simp only [TV]
theorem TV.bl {b : Bool} : TV K H (.bl b) (.bl b) := by simp only [TV]
theorem TV.non : TV K H .non .non := by simp only [TV]
theorem TAll.strs (ws : List (List Nat)) : TAll K H (ws.map Tn.str) (ST ws) := by
 induction ws with
 | nil=>exact TAll.nil
 | cons w ws ih=>exact TAll.cons TV.str ih
theorem Grow.tups {st : Addr} (g : Grow st H H') (h1 : ∀ xs,H st ≠ some (.tup xs)) (h2 : ∀ xs o,H st ≠ some (.frz o (.tup xs))) : ∀ a ys,SqT K H a ys → SqT K H' a ys := fun a ys h =>
 h.keep fun b u=>⟨fun q=>g b _ (fun e=>by subst e; exact h1 u q) q,fun o q=>g b _ (fun e=>by subst e; exact h2 u o q) q⟩
end
abbrev Wd := List Nat
abbrev K9 := Option (Tn × List Wd)
def hd (r : List Wd) : Wd := r.headD []
def D7 (w : Wd) : Bool := decide (w ≠ []) && w.all P2
def J9 (w : Wd) : Bool := match w with
 | []=>false
 | c :: _=>decide (c = 45) || K7 c
def pJ (w : List Nat) : Nat := w.foldl (fun n c=>n * 10 + (c - 48)) 0
def P4 (w : Wd) : Int := match w with
 | 45 :: r=>-(pJ r : Int)
 | _=>(pJ w : Int)
def L5 : List Wd := [[110,111,110,101],[121,101,115],[110,111],[116,114,117,116,104],[110,117,109,98,101,114],[116,101,120,116],[108,105,115,116],[114,101,99,111,114,100],[97,110,121],[110,111,116,104,105,110,103]]
def hG : Wd := [119,111,114,100]
def xL : Wd := [115,112,97,110]
def dQ : Wd := [116,101,120,116]
def cO : Wd := [112,108,97,99,101]
def eI : Wd := [110,111,116]
def P3 : Wd := [97,110,100]
def U9 : Wd := [111,114]
def Z8 : Wd := [108,105,115,116]
def aF : Wd := [114,101,99,111,114,100]
def P6 (a b : Tn) : Tn := .tup [.str xL,a,b]
def one (k : Wd) (ts : List Tn) : Tn := match ts with
 | [t]=>t
 | _=>.tup [.str k,.tup ts]
def xE : Nat → Tn → Tn
 | 0,t=>t
 | n + 1,t=>.tup [.str eI,xE n t]
inductive V5 : Nat → List Wd → List Wd → Option (List Wd × List Wd) → Prop
 | stop {ns r} : hd r ≠ [46] → V5 0 ns r (some (ns,r))
 | on {k ns n r res} : D7 n = true → V5 k (ns ++ [n]) r res → V5 (k + 1) ns ([46] :: n :: r) res
 | bad {ns r} : D7 (hd r) = false → V5 1 ns ([46] :: r) none
def T6 (r : List Wd) (res : Option (List Wd × List Wd)) : Prop :=
 if D7 (hd r) = true then ∃ k,V5 k [hd r] r.tail res else res = none
def L6 (close : Wd) (n : Nat) (r : List Wd) : Option (Bool × List Wd) :=
 if hd r = close then some (false,r)
 else if 0 < n then (if hd r = [44] then some (!(decide (hd r.tail = [46,46]) && decide (hd r.tail.tail = close)),r.tail) else none)
 else some (!(decide (hd r = [46,46]) && decide (hd r.tail = close)),r)
def S9 (close : Wd) (r : List Wd) : Option (Bool × List Wd) :=
 if hd r = [46,46] then (if hd r.tail = close then some (true,r.tail.tail) else none) else (if hd r = close then some (false,r.tail) else none)
section
variable (X : Bool → List Wd → K9 → Prop)
def BC8 (free : Bool) (r : List Wd) (res : K9) : Prop := ∃ xres,X free r xres ∧ res = match xres with
 | none=>none
 | some (t,r1)=>if hd r1 = [41] then some (t,r1.tail) else none
inductive ItemsP : Nat → List Tn → List Wd → Option (List Tn × List Wd) → Prop
 | stop {ts r r1} : L6 [93] ts.length r = some (false,r1) → ItemsP 0 ts r (some (ts,r1))
 | on {k ts r r1 t r2 res} : L6 [93] ts.length r = some (true,r1) → X false r1 (some (t,r2)) → ItemsP k (ts ++ [t]) r2 res → ItemsP (k + 1) ts r res
 | bad {ts r} : L6 [93] ts.length r = none → ItemsP 0 ts r none
 | worse {ts r r1} : L6 [93] ts.length r = some (true,r1) → X false r1 none → ItemsP 0 ts r none
def nU (r : List Wd) (res : K9) : Prop := ∃ k ires,ItemsP X k [] r ires ∧ res = match ires with
 | none=>none
 | some (ts,r1)=>(S9 [93] r1).map fun p=>(.tup [.str Z8,.tup ts,.bl p.1],p.2)
def FieldP (r : List Wd) (res : Option ((Wd × Tn × Bool) × List Wd)) : Prop :=
  if D7 (hd r) = true then
    (if hd r.tail = [63] then (if hd r.tail.tail = [58] then ∃ xres, X false r.tail.tail.tail xres ∧ res = xres.map fun p => ((hd r, p.1, false), p.2) else res = none)
     else (if hd r.tail = [58] then ∃ xres, X false r.tail.tail xres ∧ res = xres.map fun p => ((hd r, p.1, true), p.2) else res = none))
  else res = none
inductive FieldsP : Nat → List (Wd × Tn × Bool) → List Wd → Option (List (Wd × Tn × Bool) × List Wd) → Prop
 | stop {fs r r1} : L6 [125] fs.length r = some (false,r1) → FieldsP 0 fs r (some (fs,r1))
 | on {k fs r r1 f r2 res} : L6 [125] fs.length r = some (true,r1) → FieldP X r1 (some (f,r2)) → f.1 ∉ fs.map (·.1) → FieldsP k (fs ++ [f]) r2 res → FieldsP (k + 1) fs r res
 | bad {fs r} : L6 [125] fs.length r = none → FieldsP 0 fs r none
 | worse {fs r r1} : L6 [125] fs.length r = some (true,r1) → FieldP X r1 none → FieldsP 0 fs r none
 | twice {fs r r1 f r2} : L6 [125] fs.length r = some (true,r1) → FieldP X r1 (some (f,r2)) → f.1 ∈ fs.map (·.1) → FieldsP 0 fs r none
def Y0 (f : Wd × Tn × Bool) : Tn := .tup [.str f.1,f.2.1,.bl f.2.2]
def uF (r : List Wd) (res : K9) : Prop := ∃ k fres,FieldsP X k [] r fres ∧ res = match fres with
 | none=>none
 | some (fs,r1)=>(S9 [125] r1).map fun p=>(.tup [.str aF,.tup (fs.map Y0),.bl p.1],p.2)
def SglP (free : Bool) (r : List Wd) (res : K9) : Prop :=
  if hd r = [40] then BC8 X free r.tail res
  else if hd r = [91] then nU X r.tail res
  else if hd r = [123] then uF X r.tail res
  else if hd r = [64] ∧ free = true then ∃ nres, T6 r.tail nres ∧ res = nres.map fun p => (.tup [.str cO, .tup (p.1.map Tn.str)], p.2)
  else if hd r = [46, 46] ∧ J9 (hd r.tail) = true then res = some (P6 .non (.int (P4 (hd r.tail))), r.tail.tail)
  else if J9 (hd r) = true then
    (if hd r.tail = [46, 46] then (if J9 (hd r.tail.tail) = true then res = some (P6 (.int (P4 (hd r))) (.int (P4 (hd r.tail.tail))), r.tail.tail.tail) else res = some (P6 (.int (P4 (hd r))) .non, r.tail.tail))
     else res = some (P6 (.int (P4 (hd r))) (.int (P4 (hd r))), r.tail))
  else if (hd r).take 1 = [34] then res = some (.tup [.str dQ, .str ((hd r).drop 1).dropLast], r.tail)
  else if hd r ∈ L5 then res = some (.tup [.str hG, .str (hd r)], r.tail)
  else res = none
def bangs (r : List Wd) : Nat := (r.takeWhile (· == [33])).length
def NegP (free : Bool) (r : List Wd) (res : K9) : Prop := ∃ sres,SglP X (free && decide (bangs r = 0)) (r.drop (bangs r)) sres ∧ res = sres.map fun p=>(xE (bangs r) p.1,p.2)
inductive MoreP : Nat → Bool → List Tn → List Tn → List Wd → K9 → Prop
 | stop {free alts parts r} : hd r ≠ [38] → hd r ≠ [124] → MoreP 0 free alts parts r (some (one U9 (alts ++ [one P3 parts]),r))
 | and {k free alts parts r t r1 res} : NegP X free r (some (t,r1)) → MoreP k free alts (parts ++ [t]) r1 res → MoreP (k + 1) free alts parts ([38] :: r) res
 | or {k free alts parts r t r1 res} : NegP X free r (some (t,r1)) → MoreP k free (alts ++ [one P3 parts]) [t] r1 res → MoreP (k + 1) free alts parts ([124] :: r) res
 | bad {free alts parts w r} : w = [38] ∨ w = [124] → NegP X free r none → MoreP 1 free alts parts (w :: r) none
def ExpP (free : Bool) (r : List Wd) (res : K9) : Prop := ∃ nres,NegP X free r nres ∧ match nres with
 | none=>res = none
 | some (t,r1)=>∃ k,MoreP X k free [] [t] r1 res
end
def Exn : Nat → Bool → List Wd → K9 → Prop
 | 0=>fun _ _ _=>False
 | n + 1=>ExpP (Exn n)
def bO (n : Nat) (ws : List Wd) (res : Option Tn) : Prop := ∃ xres,Exn n true ws xres ∧ res = match xres with
 | none=>none
 | some (t,r)=>if hd r = [] then some t else none
end Law
namespace L2
open PySem PySem.Spec PyProof.Rows
section
variable {X : Cx}
theorem mP : MtR X "str.isalnum" (fun x xs H Q=>∃ z,x = .str z ∧ xs = [] ∧ Q (.bl (Txt.isalnum z)) H) := by
 intro pins s σ H x xs v us Q I rx rs h
 obtain ⟨z,rfl,rfl,q⟩ := h
 obtain ⟨t,rfl⟩ := rx
 cases rs
 exact SC.isalnum ⟨.bl _,H,I,rfl,q⟩
theorem jM : T3 X (.type "int") (fun xs H Q=>∃ z n,xs = [.str z] ∧ PySem.intText? z = some n ∧ z.length ≤ 640 ∧ Q (.int n) H) := by
 intro pins s σ H xs us Q I r h
 obtain ⟨z,n,rfl,hn,hl,q⟩ := h
 obtain ⟨u,rfl,ru⟩ := gC r
 obtain ⟨t,rfl⟩ := ru
 exact PySem.W.KIN.call_text hn hl ⟨.int n,H,I.tok _,⟨_,rfl⟩,q⟩
theorem dW : T3 X (.type "str") (fun xs H Q=>∃ n,xs = [.int n] ∧ n.natAbs.log2 < 1920 ∧ Q (.str (Str.ofString (toString n))) H) := by
 intro pins s σ H xs us Q I r h
 obtain ⟨n,rfl,hn,q⟩ := h
 obtain ⟨u,rfl,ru⟩ := gC r
 obtain ⟨t,rfl⟩ := ru
 exact P.str_of_int hn ⟨.str _,H,I.tok _,⟨_,rfl⟩,q⟩
def TJ := St → Hp → (Hp → Prop) → Prop
def PJ (X : Cx) (es : List Expr) (n : Nat) (t : TJ) : Prop := ∀ (pins : List (Addr × Obj)) (s : Shared) (σ : St) (H : Hp) (Qh : Hp → Prop) (acc : Str),Inv X pins σ H s → acc.length + n * 1100000 ≤ sizeLine → t σ H Qh →
 Joins (model X.prog X.w) X.A X.xe (evalEach es X.env) acc (fun out s'=>out.length ≤ sizeLine ∧ ∃ H',Inv X pins σ H' s' ∧ Qh H') s
def BL2 : TJ := fun _ H Q=>Q H
def jFr (te : TE) (t : TJ) : TJ := fun σ H Q=>te σ H fun x H1=>∃ z,x = .str z ∧ z.length ≤ 100000 ∧ (∀ c ∈ z.cps.toList,c < 1114112) ∧ t σ H1 Q
theorem mG : PJ X [] 0 BL2 := fun pins s σ H Qh acc I hl h=>⟨by omega,H,I,h⟩
theorem fM {y : Str} {j : Nat} {p : Pos} {es : List Expr} {n : Nat} {t : TJ} (he : PJ X es n t) (hy : y.length ≤ 100000 := by decide) : PJ X (.Constant (.str y) j p :: es) (n + 1) t := by
 intro pins s σ H Qh acc I hl h
 show wpAny _ _ (eval (.Constant (.str y) j p) X.env) _ _ s
 refine Calls.Constant_str ⟨y,_,rfl,by rw [strLen_append]; omega,?_⟩
 exact he pins _ σ H Qh (acc ++ y) (I.tok _) (by rw [strLen_append]; omega) h
theorem mH {e : Expr} {te : TE} {p : Pos} {es : List Expr} {n : Nat} {t : TJ} (hx : PE X e te) (he : PJ X es n t) : PJ X (.FormattedValue e 114 none p :: es) (n + 1) (jFr te t) := by
 intro pins s σ H Qh acc I hl h
 show wpAny _ _ (eval (.FormattedValue e 114 none p) X.env) _ _ s
 have ln : sizeLine = 16777216 := sizeLine_eq
 refine wpAny_FormattedValue_repr (G1 (hx pins s σ H _ I h) fun v s1 ⟨x,H1,I1,r1,q1⟩=>?_)
 obtain ⟨z,rfl,hz,hc,q⟩ := q1
 obtain ⟨t',rfl⟩ := r1
 have hr := StrLaws.reprText_len z (fun c hc'=>Nat.lt_trans (hc c hc') (by decide))
 refine wpAny_pyReprObj_str ?_ (by omega)
 refine formatField_str (fun t' tk=>?_) (by omega)
 refine ⟨_,_,rfl,by rw [strLen_append]; omega,?_⟩
 exact he pins _ σ H1 Qh _ (I1.tok _) (by rw [strLen_append]; omega) q
theorem mU {M : Model} {A : Around} {E : Value → Shared → Prop} : ∀ {parts : List (Sem Value)} {acc : Str} {Q Q' : Str → Shared → Prop} {s : Shared},Joins M A E parts acc Q s → (∀ o s',Q o s' → Q' o s') → Joins M A E parts acc Q' s
 | [],acc,Q,Q',s,h,k=>k _ _ h
 | x :: rest,acc,Q,Q',s,h,k=>wpAny_mono (show wpAny M A x _ E s from h) (fun v s1 ⟨y,t,e,hl,hj⟩=>⟨y,t,e,hl,mU hj k⟩) fun _ _ z=>z
theorem kG {a b : Expr} {es : List Expr} {n : Nat} {t : TJ} {pos : Pos} (h : PJ X (a :: b :: es) n t) (hn : n ≤ 10 := by decide) : PE X (.JoinedStr (a :: b :: es) pos) (fun σ H Q=>t σ H fun H1=>∀ r,Q (.str r) H1) := by
 intro pins s σ H Q I q
 refine wpAny_JoinedStr ?_
 have ln : sizeLine = 16777216 := sizeLine_eq
 have e := h pins s σ H (fun H1=>∀ r,Q (.str r) H1) Str.empty I (by show 0 + n * 1100000 ≤ sizeLine; omega) q
 refine mU e fun out s' hq=>?_
 obtain ⟨hl,H',I',q'⟩ := hq
 exact ⟨hl,.str out,H',I'.tok _,⟨_,rfl⟩,q' out⟩
end
end L2
namespace Law
open PySem L2 L2.Sp
def jK (s : Stmt) (x : Str) : Stmt := match s with
 | .ClassDef _ _ _ body _ _ _ _ _ _ _=>(body.find? fun st=>match st with | .FunctionDef n _ _ _ _ _ _ _ _ _=>n == x | _=>false).getD (.Pass ⟨0,0,0,0⟩)
 | s=>s
abbrev fD : Stmt := N0 21
abbrev kC : Stmt := jK fD "__init__"
abbrev fG : Stmt := jK fD "ahead"
abbrev jU : Stmt := jK fD "take"
abbrev fA : Stmt := jK fD "takes"
abbrev jZ : Stmt := jK fD "must_take"
theorem AW1 : E4 ["self","text"] ["self","text"] (B1 kC) := ⟨rfl,rfl,rfl,by decide +kernel,rfl,by decide +kernel,by decide +kernel⟩
theorem uY : E4 ["self","steps","place"] ["self","steps"] (B1 fG) := ⟨rfl,rfl,rfl,by decide +kernel,rfl,by decide +kernel,by decide +kernel⟩
theorem yJ : E4 ["self","word"] ["self"] (B1 jU) := ⟨rfl,rfl,rfl,by decide +kernel,rfl,by decide +kernel,by decide +kernel⟩
theorem AO9 : E4 ["self","word"] ["self","word"] (B1 fA) := ⟨rfl,rfl,rfl,by decide +kernel,rfl,by decide +kernel,by decide +kernel⟩
theorem yK : E4 ["self","word","found"] ["self","word"] (B1 jZ) := ⟨rfl,rfl,rfl,by decide +kernel,rfl,by decide +kernel,by decide +kernel⟩
structure WsOk (ws : List Wd) : Prop where
 len : ws.length ≤ 100000
 tok : ∀ w ∈ ws,U4 w
 sm : ∀ w ∈ ws,X6 w
def rdF (wl : Addr) (t : Nat) : List (Str × V) := [("words",.ref wl),("taken",.int (t : Int))]
structure RD (H : Hp) (R rd dx wl : Addr) (ws : List Wd) (t : Nat) : Prop where
 ob : H rd = some (.ins R dx (rdF wl t))
 li : H wl = some (.lst (ST ws))
 ok : WsOk ws
structure RK (K : PySem.W.Frag) (R : Addr) : Prop where
 cl : Cls K R
 nw : NoAttr K R "words"
 nt : NoAttr K R "taken"
structure R7 (P : Program) (w : World) (K : PySem.W.Frag) (mg : Str → Option Value) (base : Heap) (CX : bC) (R : Addr) (k : Nat) (m : Str) (ps : List Str) (sp : Sp) : Prop where
 ex : ∃ (f : Addr) (fd : FuncData),FnOk P w K mg base CX k f fd ps sp ∧ xT K R m f ∧ Binds K fd ps []
def P5 (H : Hp) (R rd dx wl : Addr) (t : Nat) : Hp := E7 H rd (.ins R dx (rdF wl t))
theorem BH1 (ws : List Wd) (t k : Nat) : ((ws.drop t)[k]?).getD [] = (ws[t + k]?).getD [] := by rw [List.getElem?_drop]
theorem BB1 (ws : List Wd) (t : Nat) : hd (ws.drop t) = (ws[t]?).getD [] := by
 unfold hd
 rw [List.headD_eq_head?_getD,List.head?_drop]
section
variable {P : Program} {w : World} {K : PySem.W.Frag} {mg : Str → Option Value} {base : Heap} {f : Addr} {fd : FuncData} {R : Addr}
theorem RD.up {H H' : Hp} {rd dx wl : Addr} {ws : List Wd} {t t' : Nat} (h : RD H R rd dx wl ws t) : RD (P5 H R rd dx wl t') R rd dx wl ws t' :=
 ⟨A6,by unfold P5; rw [B6 (fun e=>by have := h.ob; rw [← e,h.li] at this; cases this)]; exact h.li,h.ok⟩
theorem O2 {X : Cx} {CX : bC} {E : XK} {k : Nat} {m : Str} {ps : List Str} {sp : Sp} {apos pos : Pos} {o e : Expr} {es : List Expr} {ta : TE} {t : TA} {pl : Sem Bool} (M : R7 X.prog X.w X.K X.mg X.base CX R k m ps sp) (c : RK X.K R) (hr : Room k X.A) (hx : S7 CX X E) (ho : PE X o ta) (ha : PA X (e :: es) t)
  (hst : starEach (e :: es) X.env = (false,eval e X.env) :: starEach es X.env := by rfl) (hpl : (backTo pos (starEach es X.env)).any (·.1) = false := by rfl)
  (ht : eval (.Call (.Attribute o m apos) (e :: es) [] pos) X.env = (do
   let ov ← eval o X.env
   standAt apos.atName
   let (f,first) ← holding [ov] (getMethod ov m pl)
   callWith pos f first (backTo pos (starEach (e :: es) X.env)) (backToKw pos (keywordEach [] X.env))) := by rfl) :
  PE X (.Call (.Attribute o m apos) (e :: es) [] pos) (qY R m sp [] E ta t) := by
 obtain ⟨f,fd,F,a,b⟩ := M.ex
 exact AQ1 ho c.cl a F hr b .nil hx ha hst hpl ht
theorem bV {X : Cx} {CX : bC} {E : XK} {k : Nat} {m : Str} {ps : List Str} {sp : Sp} {apos pos : Pos} {o : Expr} {ta : TE} {pl : Sem Bool} (M : R7 X.prog X.w X.K X.mg X.base CX R k m ps sp) (c : RK X.K R) (hr : Room k X.A) (hx : S7 CX X E) (ho : PE X o ta)
  (ht : eval (.Call (.Attribute o m apos) [] [] pos) X.env = (do
   let ov ← eval o X.env
   standAt apos.atName
   let (f,first) ← holding [ov] (getMethod ov m pl)
   callWith pos f first (backTo pos (starEach [] X.env)) (backToKw pos (keywordEach [] X.env))) := by rfl) :
  PE X (.Call (.Attribute o m apos) [] [] pos) (qY R m sp [] E ta aB) := by
 obtain ⟨f,fd,F,a,b⟩ := M.ex
 exact AE1 ho c.cl a F hr b .nil hx ht
def V6 (R : Addr) : Sp := fun args H Q _=>∃ rd dx wl ws t k,args = [.ref rd,.int ((k : Nat) : Int)] ∧ RD H R rd dx wl ws t ∧ Q (.str (S (((ws.drop t)[k]?).getD []))) H
theorem AF4 (F : Fun K "ahead" "Reader.ahead" fG f fd) (c : RK K R) (m1 : mg "len" = none) : FnOk P w K mg base K1 1 f fd ["self","steps"] (V6 R) := by
 refine F.ok uY (fun vs H Q E h=>?_) (fun cdv A outer s H vs Q E hr h=>?_)
 ·obtain ⟨rd,dx,wl,ws,t,k,rfl,_⟩ := h
  rfl
 obtain ⟨rd,dx,wl,ws,t,k,rfl,h,q⟩ := h
 refine ⟨_,A7 (B9 (i := 2) uY.nd rfl (Or.inl rfl) (E6 Q2 (sT (pv 0) rfl) (pv 1)))
  (A8 (B4 (gK (B8 aH (pv 2) (J8 N5 rfl m1 PySem.boot_len (A0 (sT (pv 0) rfl) A5)) (D5 _)) (J0 N4 (sT (pv 0) rfl) (pv 2) (fun _ _=>rfl)) B3))),?_⟩
 refine ⟨_,rfl,rd,R,dx,_,_,rfl,h.ob,c.cl,c.nt,rfl,_,rfl,_,_,rfl,rfl,?_⟩
 refine ⟨_,rfl,_,rfl,rd,R,dx,_,_,rfl,h.ob,c.cl,c.nw,rfl,wl,_,rfl,.inl (SqL.of h.li),_,_,rfl,rfl,_,rfl,?_⟩
 rw [BH1] at q
 refine M1 (fun hc=>?_) (fun hc=>?_)
 ·have hc : t + k < ws.length := by
   have := of_decide_eq_true hc
   rw [List.length_map] at this
   omega
  rw [List.getElem?_eq_getElem hc] at q
  refine ⟨_,rfl,rd,R,dx,_,_,rfl,h.ob,c.cl,c.nw,rfl,_,rfl,wl,_,_,_,rfl,rfl,SqL.of h.li,?_,q⟩
  have := J7 (xs := ST ws) (j := t + k) (v := .str (S ws[t + k])) (by rw [List.getElem?_map,List.getElem?_eq_getElem hc]; rfl)
  exact this
 ·have hc : ws.length ≤ t + k := by
   refine Nat.le_of_not_lt fun z=>hc (decide_eq_true ?_)
   rw [List.length_map]; omega
  rw [List.getElem?_eq_none hc] at q
  rw [iY]
  exact q
theorem nO (r : List Wd) : (r[0]?).getD [] = hd r := by cases r <;> rfl
def aM (R : Addr) : Sp := fun args H Q _=>∃ rd dx wl ws t,args = [.ref rd] ∧ RD H R rd dx wl ws t ∧ Q (.str (S (hd (ws.drop t)))) (P5 H R rd dx wl (t + 1))
theorem AQ4 (F : Fun K "take" "Reader.take" jU f fd) (c : RK K R) (AH : R7 P w K mg base K1 R 1 "ahead" ["self","steps"] (V6 R)) : FnOk P w K mg base K1 2 f fd ["self"] (aM R) := by
 refine F.ok yJ (fun vs H Q E h=>?_) (fun cdv A outer s H vs Q E hr h=>?_)
 ·obtain ⟨rd,dx,wl,ws,t,rfl,_⟩ := h
  rfl
 obtain ⟨rd,dx,wl,ws,t,rfl,h,q⟩ := h
 refine ⟨_,A7 (B9 (i := 1) yJ.nd rfl (Or.inl rfl) (O2 AH c hr P0 (pv 0) (A0 B2 A5)))
  (A7 (pX (pv 0) B2 zT)
  (A8 (B4 (pv 1)))),?_⟩
 refine ⟨_,rfl,rd,dx,_,rfl,h.ob,rfl,rd,dx,wl,ws,t,0,rfl,h,?_⟩
 rw [nO]
 refine ⟨_,rfl,rd,R,dx,_,_,rfl,h.ob,c.cl,c.nt,rfl,_,_,rfl,rfl,dx,_,h.ob,(by show 2 < 1000; decide),?_⟩
 exact ⟨_,rfl,q⟩
def Y4 (R : Addr) : Sp := fun args H Q _=>∃ rd dx wl ws t u,args = [.ref rd,.str (S u)] ∧ RD H R rd dx wl ws t ∧ (if hd (ws.drop t) = u then Q (.bl true) (P5 H R rd dx wl (t + 1)) else Q (.bl false) H)
theorem AE7 (F : Fun K "takes" "Reader.takes" fA f fd) (c : RK K R) (AH : R7 P w K mg base K1 R 1 "ahead" ["self","steps"] (V6 R)) : FnOk P w K mg base K1 2 f fd ["self","word"] (Y4 R) := by
 refine F.ok AO9 (fun vs H Q E h=>?_) (fun cdv A outer s H vs Q E hr h=>?_)
 ·obtain ⟨rd,dx,wl,ws,t,u,rfl,_⟩ := h
  rfl
 obtain ⟨rd,dx,wl,ws,t,u,rfl,h,q⟩ := h
 refine ⟨_,A7 (E8 (B8 kH (O2 AH c hr P0 (pv 0) (A0 B2 A5)) (pv 1) (D5 _)) (A8 (B4 N7)) D6)
  (A7 (pX (pv 0) B2 zT)
  (A8 (B4 N7))),?_⟩
 refine ⟨_,rfl,rd,dx,_,rfl,h.ob,rfl,rd,dx,wl,ws,t,0,rfl,h,?_⟩
 rw [nO]
 refine ⟨_,rfl,rfl,_,rfl,?_⟩
 rw [N8]
 by_cases e : hd (ws.drop t) = u
 ·rw [if_pos e] at q
  rw [decide_eq_true e]
  exact E2 ⟨_,rfl,rd,R,dx,_,_,rfl,h.ob,c.cl,c.nt,rfl,_,_,rfl,rfl,dx,_,h.ob,(by show 2 < 1000; decide),q⟩
 ·rw [if_neg e] at q
  rw [decide_eq_false e]
  exact G0 q
def cA (R C : Addr) : Sp := fun args H Q E=>∃ rd dx wl ws t u,args = [.ref rd,.str (S u)] ∧ RD H R rd dx wl ws t ∧ X6 u ∧ (if hd (ws.drop t) = u then Q .non (P5 H R rd dx wl (t + 1)) else E (.ref C) none (P5 H R rd dx wl (t + 1)))
theorem zV {ws : List Wd} {t : Nat} : hd (ws.drop t) = [] ∨ hd (ws.drop t) ∈ ws := by
 rw [BB1]
 cases e : ws[t]? with
 | none=>exact .inl rfl
 | some w=>exact .inr (List.mem_of_getElem? e)
theorem WsOk.small {ws : List Wd} (h : WsOk ws) (t : Nat) : X6 (hd (ws.drop t)) := by
 rcases zV (ws := ws) (t := t) with e | e
 ·rw [e]; exact ⟨by decide,fun c hc=>by cases hc⟩
 ·exact h.sm _ e
theorem AR3 {C : Addr} (F : Fun K "must_take" "Reader.must_take" jZ f fd) (c : RK K R) (n : NT K mg C) (TK : R7 P w K mg base K1 R 2 "take" ["self"] (aM R)) : FnOk P w K mg base (O0 P w) 3 f fd ["self","word"] (cA R C) := by
 refine Fun.ok1 F yK (fun vs H Q E h=>?_) (fun cdv A outer s H vs Q E hr h=>?_)
 ·obtain ⟨rd,dx,wl,ws,t,u,rfl,_⟩ := h
  rfl
 obtain ⟨rd,dx,wl,ws,t,u,rfl,h,hu,q⟩ := h
 refine ⟨_,A7 (B9 (i := 2) yK.nd rfl (Or.inl rfl) (bV TK c hr P0 (pv 0)))
  (A8 (E8 (B8 kH (pv 2) (pv 1) (D5 _)) (A8 (V3 PySem.F.excBase_ValueError n.xc rfl n.mg (A0 (kG (mH (pv 2) (fM (mH (pv 1) (fM mG))))) A5))) D6)),?_⟩
 refine ⟨_,rfl,rd,dx,_,rfl,h.ob,rfl,rd,dx,wl,ws,t,rfl,h,?_⟩
 have hs := h.ok.small t
 refine ⟨_,rfl,_,rfl,rfl,_,rfl,?_⟩
 rw [N8]
 by_cases e : hd (ws.drop t) = u
 ·rw [if_pos e] at q
  rw [decide_eq_true e]
  exact E2 q
 ·rw [if_neg e] at q
  rw [decide_eq_false e]
  exact G0 ⟨_,rfl,_,rfl,by rw [N9]; exact hs.1,hs.2,_,rfl,_,rfl,by rw [N9]; exact hu.1,hu.2,fun r=>⟨L0,q⟩⟩
def sF (K : PySem.W.Frag) (R C : Addr) : Sp := fun args H Q E=>∃ rd dx v,args = [.ref rd,v] ∧ H rd = some (.ins R dx []) ∧ ((∃ d,DV K H d v ∧ jG d "str" = false ∧ E (.ref C) none H) ∨ ∃ l,v = .str (S l) ∧ X6 l ∧
 (∀ ws,G6 l = some ws → ∀ (H' : Hp) (p : Addr),H p = none → Grow rd H H' → H' p = some (.lst (ST ws)) → H' rd = some (.ins R dx (rdF p 0)) → Q .non H') ∧ (G6 l = none → ∀ H',Same H H' → E (.ref C) none H'))
theorem AR5 {C : Addr} (F : Fun K "__init__" "Reader.__init__" kC f fd) (c : RK K R) (WORDS : M2 P w K mg base 5 "words_of" ["text"] (nZ K C)) : FnOk P w K mg base (O0 P w) 6 f fd ["self","text"] (sF K R C) := by
 refine Fun.ok1 F AW1 (fun vs H Q E h=>?_) (fun cdv A outer s H vs Q E hr h=>?_)
 ·obtain ⟨rd,dx,v,rfl,_⟩ := h
  rfl
 obtain ⟨rd,dx,v,rfl,hr0,h⟩ := h
 refine ⟨_,A7 (yQ (pv 0) (J4 WORDS hr rfl (G5 (E' := E) fun _ _ _ h=>h) (A0 (pv 1) A5)) rfl)
  (A8 (yQ (pv 0) B2 rfl)),?_⟩
 rcases h with ⟨d,hd,hf,e⟩ | ⟨l,rfl,hs,q1,q2⟩
 ·exact ⟨_,rfl,_,rfl,.inl ⟨d,hd,hf,e⟩⟩
 ·refine ⟨_,rfl,_,rfl,.inr ⟨l,rfl,hs,fun ws hw H' p hp g hl=>?_,q2⟩⟩
  have nrp : p ≠ rd := fun e=>by rw [e,hr0] at hp; cases hp
  refine ⟨_,rfl,rd,R,dx,_,rfl,g _ _ hr0,c.cl,c.nw,by decide,?_⟩
  refine ⟨_,rfl,rd,R,dx,_,rfl,A6,c.cl,c.nt,(by show 1 < 1000; decide),?_⟩
  refine q1 ws hw _ p hp (fun b o hb h=>?_) ?_ ?_
  ·rw [jP,B6 hb]; exact g _ _ h
  ·rw [jP,B6 nrp]; exact hl
  ·rw [jP,A6]; rfl
end
end Law
namespace Law
open PySem L2 L2.Sp
theorem dC {n : Nat} (h : n ≤ 200000) : n < sizeLine := by have : sizeLine = 16777216 := sizeLine_eq; omega
section
variable {P : Program} {w : World} {K : PySem.W.Frag} {mg : Str → Option Value} {base : Heap} {f : Addr} {fd : FuncData} {R C : Addr}
abbrev jY : Stmt := N0 7
theorem AV8 : E4 ["word"] ["word"] (B1 jY) := ⟨rfl,rfl,rfl,by decide +kernel,rfl,by decide +kernel,by decide +kernel⟩
theorem zJ : (["letter"] : List Str).Nodup := by decide +kernel
def sE : Sp := fun args H Q _=>∃ u,args = [.str (S u)] ∧ u.length ≤ 100000 ∧ ∀ H',Same H H' → Q (.bl (D7 u)) H'
theorem AR2 (F : Fun K "is_name" "is_name" jY f fd) (m1 : mg "isinstance" = none) (m2 : mg "str" = none) (m3 : mg "all" = none) (m4 : mg "len" = none) : FnOk P w K mg base K1 1 f fd ["word"] sE := by
 refine F.ok AV8 (fun vs H Q E h=>?_) (fun cdv A outer s H vs Q E hr h=>?_)
 ·obtain ⟨u,rfl,_⟩ := h
  rfl
 obtain ⟨u,rfl,hu,q⟩ := h
 refine ⟨_,A8 (B4 (fP (J8 qL rfl m1 fY (A0 (pv 0) (A0 (oY (v := .ty "str") rfl m2 fX rfl) A5)))
  (fP (Q6 bF (J8 T5 rfl m4 PySem.boot_len (A0 (pv 0) A5)) B2 (D5 _))
  (fO (J8 (qW rfl) rfl m3 BC5 (A0 (vH (N' := ["letter"]) (fr := [none]) (own := [0]) ⟨rfl,rfl,rfl,rfl,rfl,rfl,rfl⟩ rfl (AX1 (pv 0))
   (fun _ _ _ _=>K8 (i := 0) zJ rfl (Or.inl rfl)) (X7 0) (fun _ _ _ _=>bT)
   (fun _ _ _ _=>gO T7 T7 B3 (pv 0) B3)) A5)))))),?_⟩
 refine ⟨_,rfl,_,_,rfl,.inl ⟨_,rfl,rfl⟩,true,rfl,G0 ?_⟩
 refine ⟨_,rfl,_,rfl,O8 hu,_,_,rfl,rfl,decide ((0 : Int) < ((S u).length : Int)),rfl,?_⟩
 rw [N9]
 by_cases hz : 0 < u.length
 ·rw [decide_eq_true (p := (0 : Int) < (u.length : Int)) (by omega)]
  refine G0 ?_
  refine ⟨_,rfl,S u,rfl,fun l hl=>?_⟩
  refine AI7 (x := S u) (fun i ys H'=>H' = E7 H l (.lst ys) ∧ ys = List.map V.bl ((u.take i).map P2) ∧ i ≤ u.length) ⟨rfl,rfl,Nat.zero_le _⟩ (fun i c ys H' hc ⟨e,ey,hi⟩=>?_) (fun ys H' ⟨e,ey,_⟩=>?_)
  ·subst e
   have hc : u[i]? = some c := by
    have : (S u).cps[i]? = u[i]? := by show u.toArray[i]? = _; simp
    rw [← this]; exact hc
   have hi' := (List.getElem?_eq_some_iff.mp hc).1
   have hlen : ys.length ≤ 200000 := by rw [ey,List.length_map,List.length_map,List.length_take]; omega
   dsimp only [aL,X5]
   refine nV ?_
   refine ⟨_,rfl,jL (a := 97) (b := 122) (c := c) (Q := fun y H5=>H5 l = some (.lst ys) ∧ ys.length < sizeLine ∧ E7 H5 l (.lst (ys ++ [y])) = E7 H l (.lst (ys ++ [y])) ∧ ys ++ [y] = List.map V.bl ((u.take (i + 1)).map P2) ∧ i + 1 ≤ u.length) ?_⟩
   refine ⟨A6,dC hlen,?_,?_,hi'⟩
   ·rw [jP]
   ·rw [ey,S4 hc,List.map_append,List.map_append]; rfl
  ·subst e
   have e1 : (S u).cps.size = u.length := N9 u
   rw [e1] at ey
   refine ⟨l,_,rfl,SqL.of (by rw [ey]; exact A6),?_⟩
   have e2 : (((u.take u.length).map P2).all id) = D7 u := by
    unfold D7
    rw [List.take_length,List.all_map,decide_eq_true (p := u ≠ []) (List.length_pos_iff.mp hz),Bool.true_and]
    rfl
   rw [e2]
   exact q _ (fun z o ho=>by rw [B6 (D9 ho hl)]; exact ho)
 ·have e : u = [] := List.eq_nil_of_length_eq_zero (by omega)
  subst e
  exact E2 (q H fun _ _ h=>h)
abbrev kB : Stmt := N0 28
theorem AW0 : E4 ["word"] ["word"] (B1 kB) := ⟨rfl,rfl,rfl,by decide +kernel,rfl,by decide +kernel,by decide +kernel⟩
def iI : Sp := fun args H Q _=>∃ u,args = [.str (S u)] ∧ u.length ≤ 100000 ∧ Q (.bl (J9 u)) H
theorem AR4 (F : Fun K "is_number" "is_number" kB f fd) (FIG : Cal P w K mg base 1 "is_figure" ["sign"] (fun vs H Q _=>X2 K7 vs H Q)) : FnOk P w K mg base K1 2 f fd ["word"] iI := by
 refine F.ok AW0 (fun vs H Q E h=>?_) (fun cdv A outer s H vs Q E hr h=>?_)
 ·obtain ⟨u,rfl,_⟩ := h
  rfl
 obtain ⟨u,rfl,hu,q⟩ := h
 refine ⟨_,A8 (B4 (fP (Q6 kH (pv 0) B3 (D5 _)) (fO (BF2 (Q6 G7 (J0 Z9 (pv 0) B2 (fun _ _=>rfl)) B3 (D5 _)) (fO (B5 FIG hr rfl (A0 (J0 Z9 (pv 0) B2 (fun _ _=>rfl)) A5))))))),?_⟩
 refine ⟨_,rfl,rfl,_,rfl,?_⟩
 rw [iY,N8]
 cases u with
 | nil=>exact E2 q
 | cons c r =>
  rw [decide_eq_false (by simp)]
  refine G0 ?_
  refine ⟨_,rfl,_,_,c,rfl,rfl,O8 hu,J7 (j := 0) rfl,rfl,_,rfl,?_⟩
  rw [xJ,show (⟨#[c]⟩ : Str) = S [c] from rfl,N8]
  by_cases e : c = 45
  ·subst e
   exact G0 q
  ·rw [decide_eq_false (by simpa using e)]
   refine E2 ⟨_,rfl,_,_,c,rfl,rfl,O8 hu,J7 (j := 0) rfl,c,rfl,?_⟩
   have : J9 (c :: r) = K7 c := by unfold J9; simp [e]
   rw [← this]
   exact q
abbrev bQ : Stmt := N0 36
theorem sN : E4 ["reader","word"] ["reader"] (B1 bQ) := ⟨rfl,rfl,rfl,by decide +kernel,rfl,by decide +kernel,by decide +kernel⟩
def bZ (R C : Addr) : Sp := fun args H Q E=>∃ rd dx wl ws t,args = [.ref rd] ∧ RD H R rd dx wl ws t ∧ ∀ H',Same (P5 H R rd dx wl (t + 1)) H' → (if D7 (hd (ws.drop t)) = true then Q (.str (S (hd (ws.drop t)))) H' else E (.ref C) none H')
theorem zC (F : Fun K "name_of" "name_of" bQ f fd) (c : RK K R) (n : NT K mg C) (TK : R7 P w K mg base K1 R 2 "take" ["self"] (aM R)) (NM : Cal P w K mg base 1 "is_name" ["word"] sE) : FnOk P w K mg base (O0 P w) 3 f fd ["reader"] (bZ R C) := by
 refine Fun.ok1 F sN (fun vs H Q E h=>?_) (fun cdv A outer s H vs Q E hr h=>?_)
 ·obtain ⟨rd,dx,wl,ws,t,rfl,_⟩ := h
  rfl
 obtain ⟨rd,dx,wl,ws,t,rfl,h,q⟩ := h
 refine ⟨_,A7 (B9 (i := 1) sN.nd rfl (Or.inl rfl) (bV TK c hr P0 (pv 0)))
  (A7 (E8 (fJ (N6 (B5 NM (hr.mono (by decide)) rfl (A0 (pv 1) A5)))) (A8 (V3 PySem.F.excBase_ValueError n.xc rfl n.mg (A0 (kG (mH (pv 1) (fM mG))) A5))) D6)
  (A8 (B4 (pv 1)))),?_⟩
 have hs := h.ok.small t
 refine ⟨_,rfl,rd,dx,_,rfl,h.ob,rfl,rd,dx,wl,ws,t,rfl,h,?_⟩
 refine ⟨_,rfl,_,rfl,hs.1,fun H' g=>⟨_,rfl,?_⟩⟩
 have q := q H' g
 cases e : D7 (hd (ws.drop t)) with
 | true =>
  rw [e,if_pos rfl] at q
  exact E2 ⟨_,rfl,q⟩
 | false =>
  rw [e,if_neg (by decide)] at q
  exact G0 ⟨_,rfl,_,rfl,by rw [N9]; exact hs.1,hs.2,fun r=>⟨L0,q⟩⟩
end
end Law
namespace Law
open PySem L2 L2.Sp
theorem G2 {c A B : Prop} [Decidable c] (hc : c) (h : A) : if c then A else B := by rw [if_pos hc]; exact h
theorem B7 {c A B : Prop} [Decidable c] (hc : ¬ c) (h : B) : if c then A else B := by rw [if_neg hc]; exact h
theorem AH0 : (Str.ofString "." : Str) = S [46] := by decide +kernel
theorem dU {ws r : List Wd} {x : Wd} {t : Nat} (h : ws.drop t = x :: r) : ws.drop (t + 1) = r ∧ t + 1 ≤ ws.length := by
 have hl : t < ws.length := by
  refine Nat.lt_of_not_le fun z=>?_
  rw [List.drop_eq_nil_of_le z] at h
  cases h
 refine ⟨?_,hl⟩
 rw [← List.drop_drop,h]; rfl
theorem W1 {ws : List Wd} {t : Nat} : ws.drop (t + 1) = (ws.drop t).tail := by rw [← List.drop_drop,List.drop_one]
theorem dS {ws : List Wd} {t : Nat} (h : hd (ws.drop t) ≠ []) : t + 1 ≤ ws.length := by
 refine Nat.lt_of_not_le fun z=>h ?_
 rw [List.drop_eq_nil_of_le z]; rfl
theorem xM {ws : List Wd} {t : Nat} (h : hd (ws.drop t) ≠ []) : hd (ws.drop t) ∈ ws := by
 rcases zV (ws := ws) (t := t) with e | e
 ·exact absurd e h
 ·exact e
def Kp (K : PySem.W.Frag) (H H' : Hp) : Prop := ∀ a ys,SqT K H a ys → SqT K H' a ys
section
variable {K : PySem.W.Frag} {H H0 H1 H' : Hp} {R rd dx wl : Addr} {ws : List Wd} {t t' : Nat}
theorem Kp.same (g : Same H H') : Kp K H H' := fun _ _ h=>g.seqT h
theorem Kp.trans (a : Kp K H H1) (b : Kp K H1 H') : Kp K H H' := fun x y h=>b x y (a x y h)
theorem Kp.grow (g : Grow rd H H') (h : RD H R rd dx wl ws t) : Kp K H H' := Grow.tups g (fun xs z=>by rw [h.ob] at z; cases z) (fun xs o z=>by rw [h.ob] at z; cases z)
theorem Kp.lst {l : Addr} {xs : List V} {o : HO} (h : H l = some (.lst xs)) : Kp K H (E7 H l o) := Grow.tups X9 (fun xs z=>by rw [h] at z; cases z) (fun xs o z=>by rw [h] at z; cases z)
theorem Kp.dct {l : Addr} {xs : List (M8 × V)} {o : HO} (h : H l = some (.dK xs)) : Kp K H (E7 H l o) := Grow.tups X9 (fun xs z=>by rw [h] at z; cases z) (fun xs o z=>by rw [h] at z; cases z)
structure RS (H0 H : Hp) (R rd dx wl : Addr) (ws : List Wd) (t : Nat) : Prop where
 g : Grow rd H0 H
 st : RD H R rd dx wl ws t
 lw : H0 wl = some (.lst (ST ws))
 ob : ∃ t0,H0 rd = some (.ins R dx (rdF wl t0))
theorem RS.start (h : RD H R rd dx wl ws t) : RS H H R rd dx wl ws t := ⟨Grow.refl,h,h.li,t,h.ob⟩
theorem RS.more (s : RS H0 H R rd dx wl ws t) (g : Grow rd H H') (h : RD H' R rd dx wl ws t') : RS H0 H' R rd dx wl ws t' := ⟨s.g.trans g,h,s.lw,s.ob⟩
theorem RS.same (s : RS H0 H R rd dx wl ws t) (g : Same H H') : RS H0 H' R rd dx wl ws t := s.more (Grow.of g) ⟨g _ _ s.st.ob,g _ _ s.st.li,s.st.ok⟩
theorem RS.up (s : RS H0 H R rd dx wl ws t) (t' : Nat) : RS H0 (P5 H R rd dx wl t') R rd dx wl ws t' := s.more X9 (s.st.up (H' := H))
theorem RS.step (s : RS H0 H R rd dx wl ws t) (g : Same (P5 H R rd dx wl t') H') : RS H0 H' R rd dx wl ws t' := (s.up t').same g
theorem RS.put {l : Addr} {o : HO} (s : RS H0 H R rd dx wl ws t) (hl : H0 l = none) : RS H0 (E7 H l o) R rd dx wl ws t := by
 have n1 : rd ≠ l := fun e=>by obtain ⟨t0,h⟩ := s.ob; rw [e,hl] at h; cases h
 have n2 : wl ≠ l := fun e=>by have h := s.lw; rw [e,hl] at h; cases h
 exact ⟨fun b u hb h=>by rw [B6 (D9 h hl)]; exact s.g b u hb h,⟨by rw [B6 n1]; exact s.st.ob,by rw [B6 n2]; exact s.st.li,s.st.ok⟩,s.lw,s.ob⟩
theorem RS.none {l : Addr} {o : HO} (s : RS H0 H R rd dx wl ws t) (hl : H0 l = none) (h : H l = some o) : l ≠ rd := fun e=>by obtain ⟨t0,h⟩ := s.ob; rw [← e,hl] at h; cases h
theorem dO (h : RD H R rd dx wl ws t) : Kp K H (P5 H R rd dx wl t') := Kp.grow X9 h
end
theorem TV.kp {K : PySem.W.Frag} {H H' : Hp} {x : Tn} {v : V} (k : Kp K H H') (h : TV K H x v) : TV K H' x v := TV.mono k x v h
theorem TAll.kp {K : PySem.W.Frag} {H H' : Hp} {x : List Tn} {v : List V} (k : Kp K H H') (h : TAll K H x v) : TAll K H' x v := TAll.mono k x v h
def PO {α : Type} (C : Addr) (val : Hp → α → V → Prop) (H : Hp) (R rd dx wl : Addr) (ws : List Wd) (t : Nat) (res : Option (α × List Wd)) (Q : VK) (E : XK) : Prop := match res with
 | none=>∀ H',Grow rd H H' → E (.ref C) none H'
 | some (x,r)=>∀ v H' t',Grow rd H H' → RD H' R rd dx wl ws t' → ws.drop t' = r → t < t' → t' ≤ ws.length → val H' x v → Q v H'
section
variable {P : Program} {w : World} {K : PySem.W.Frag} {mg : Str → Option Value} {base : Heap} {f : Addr} {fd : FuncData} {R C : Addr}
abbrev aC : Stmt := N0 35
theorem pT : E4 ["reader","names"] ["reader"] (B1 aC) := ⟨rfl,rfl,rfl,by decide +kernel,rfl,by decide +kernel,by decide +kernel⟩
def BD9 (K : PySem.W.Frag) : Hp → List Wd → V → Prop := fun H ns v=>TV K H (.tup (ns.map Tn.str)) v
def dD (K : PySem.W.Frag) (R C : Addr) : Sp := fun args H Q E=>∃ rd dx wl ws t res,args = [.ref rd] ∧ RD H R rd dx wl ws t ∧ T6 (ws.drop t) res ∧ PO C (BD9 K) H R rd dx wl ws t res Q E
theorem xD (F : Fun K "names_of" "names_of" aC f fd) (c : RK K R) (NAME : M2 P w K mg base 3 "name_of" ["reader"] (bZ R C)) (TS : R7 P w K mg base K1 R 2 "takes" ["self","word"] (Y4 R)) (m1 : mg "tuple" = none) : FnOk P w K mg base (O0 P w) 4 f fd ["reader"] (dD K R C) := by
 refine Fun.ok1 F pT (fun vs H Q E h=>?_) (fun cdv A outer s H vs Q E hr h=>?_)
 ·obtain ⟨rd,dx,wl,ws,t,res,rfl,_⟩ := h
  rfl
 obtain ⟨rd,dx,wl,ws,t,res,rfl,h,hn,q⟩ := h
 refine ⟨_,A7 (B9 (i := 1) pT.nd rfl (Or.inl rfl) (E5 (A0 (J4 NAME hr rfl (G5 (E' := E) fun _ _ _ h=>h) (A0 (pv 0) A5)) A5)))
  (A7 (V2 PassesOwn.leaving (N6 (O2 TS c (hr.mono (by decide)) P0 (pv 0) (A0 B3 A5)))
   (A8 (K5 (S5 PySem.F.plainAttrs_list PySem.F.slot_list_append PySem.F.type_list_append M0 (pv 1) (A0 (J4 NAME hr rfl (G5 (E' := E) fun _ _ _ h=>h) (A0 (pv 0) A5)) A5)))))
  (A8 (B4 (K6 O5 rfl m1 U3 (A0 (pv 1) A5))))),?_⟩
 have S0 := RS.start h
 unfold T6 at hn
 refine ⟨_,rfl,rd,dx,wl,ws,t,rfl,h,fun H1 g1=>?_⟩
 have S1 := S0.step g1
 by_cases hb : D7 (hd (ws.drop t)) = true
 ·rw [if_pos hb] at hn ⊢
  obtain ⟨k,hk⟩ := hn
  have hne : hd (ws.drop t) ≠ [] := fun e=>by rw [e] at hb; cases hb
  rw [← W1] at hk
  refine ⟨L0,fun l hl=>?_⟩
  have hl0 : H l = none := by
   cases e : H l with
   | none=>rfl
   | some o =>
    by_cases e2 : l = rd
    ·rw [e2,S1.st.ob] at hl; cases hl
    ·rw [S1.g l o e2 e] at hl; cases hl
  have S2 := S1.put (o := .lst [.str (S (hd (ws.drop t)))]) hl0
  refine ⟨fun m σ H'=>∃ (ns : List Wd) (t' : Nat),σ = [some (.ref rd),some (.ref l)] ∧ RS H H' R rd dx wl ws t' ∧ H' l = some (.lst (ST ns)) ∧ V5 m ns (ws.drop t') res ∧ ns.length ≤ t' ∧ t < t' ∧ t' ≤ ws.length,⟨k,[hd (ws.drop t)],t + 1,rfl,S2,A6,hk,(by show 1 ≤ t + 1; omega),by omega,dS hne⟩,?_⟩
  rintro m σ H' ⟨ns,t',rfl,s',hl',hp,hns,ht,htl⟩
  have wl0 := h.ok.len
  refine ⟨_,rfl,rd,dx,_,rfl,s'.st.ob,rfl,rd,dx,wl,ws,t',[46],by rw [AH0]; rfl,s'.st,?_⟩
  generalize hdr : ws.drop t' = rr at hp ⊢
  cases hp with
  | stop hh =>
   rw [if_neg hh]
   refine ⟨_,rfl,E2 ⟨_,rfl,l,_,rfl,.inl ⟨SqL.of hl',fun p hp=>?_⟩⟩⟩
   refine q _ _ t' (s'.same (A9 hp _)).g (s'.same (A9 hp _)).st hdr ht htl ?_
   exact TV.tup (SqT.of A6) (TAll.strs ns)
  | @on k' _ n r _ hb2 hk2 =>
   obtain ⟨d1,d2⟩ := dU hdr
   obtain ⟨d3,d4⟩ := dU d1
   refine G2 rfl ⟨_,rfl,G0 ?_⟩
   refine ⟨fun σ' H''=>∃ (t'' : Nat),σ' = [some (.ref rd),some (.ref l)] ∧ RS H H'' R rd dx wl ws t'' ∧ H'' l = some (.lst (ST (ns ++ [n]))) ∧ V5 k' (ns ++ [n]) (ws.drop t'') res ∧ (ns ++ [n]).length ≤ t'' ∧ t < t'' ∧ t'' ≤ ws.length,fun σ' H'' hh=>?_,?_⟩
   ·obtain ⟨t'',a1,a2,a3,a4,a5⟩ := hh
    exact ⟨k',Nat.lt_succ_self _,ns ++ [n],t'',a1,a2,a3,a4,a5⟩
   have nl : l ≠ rd := s'.none hl0 hl'
   have s2 := s'.up (t' + 1)
   have hl2 : P5 H' R rd dx wl (t' + 1) l = some (.lst (ST ns)) := by unfold P5; rw [B6 nl]; exact hl'
   refine ⟨_,rfl,.inl ⟨rfl,_,SqL.of hl2⟩,_,rfl,rd,dx,wl,ws,t' + 1,rfl,s2.st,fun H3 g3=>?_⟩
   rw [d1]
   refine G2 hb2 ?_
   have s3 := s2.step g3
   have hl3 : H3 l = some (.lst (ST ns)) := g3 _ _ (by unfold P5; rw [B6 nl]; exact hl2)
   refine ⟨l,_,_,rfl,rfl,hl3,by rw [List.length_map]; exact dC (by omega),t' + 1 + 1,rfl,s3.put hl0,?_,?_,by rw [List.length_append,List.length_singleton]; omega,by omega,d4⟩
   ·rw [A6]; simp [ST,hd]
   ·rw [d3]; exact hk2
  | @bad _ r hb2 =>
   obtain ⟨d1,d2⟩ := dU hdr
   refine G2 rfl ⟨_,rfl,G0 ?_⟩
   have nl : l ≠ rd := s'.none hl0 hl'
   have s2 := s'.up (t' + 1)
   have hl2 : P5 H' R rd dx wl (t' + 1) l = some (.lst (ST ns)) := by unfold P5; rw [B6 nl]; exact hl'
   refine ⟨fun _ _=>False,fun _ _ z=>z.elim,?_⟩
   refine ⟨_,rfl,.inl ⟨rfl,_,SqL.of hl2⟩,_,rfl,rd,dx,wl,ws,t' + 1,rfl,s2.st,fun H3 g3=>?_⟩
   rw [d1]
   exact B7 (by rw [hb2]; decide) (q _ (s2.step g3).g)
 ·rw [if_neg hb] at hn ⊢
  subst hn
  exact q _ S1.g
end
end Law
namespace Law
open PySem L2 L2.Sp
theorem BA5 : (Str.ofString "," : Str) = S [44] := by decide +kernel
theorem V9 : (Str.ofString ".." : Str) = S [46,46] := by decide +kernel
theorem bK : (Str.ofString "span" : Str) = S xL := by decide +kernel
theorem nX {u : Wd} (h : U4 u) (hn : J9 u = true) : Num u := by
 rcases h with h | h | h | rfl | h
 ·obtain ⟨c,e,hc⟩ := h.head
  cases u with
  | nil=>cases e
  | cons a r =>
   cases e
   have : (decide (c = 45) || K7 c) = true := hn
   rw [mW hc,decide_eq_false (AK1 hc).1] at this
   cases this
 ·exact h
 ·obtain ⟨b,_,rfl⟩ := h
  cases hn
 ·cases hn
 ·obtain ⟨c,hc,rfl⟩ := h
  have : (decide (c = 45) || K7 c) = true := hn
  rw [(V0 c hc).2.1,decide_eq_false (V0 c hc).2.2.1] at this
  cases this
theorem fU {c : Nat} (h : K7 c = true) : 48 ≤ c ∧ c ≤ 57 := by
 unfold K7 at h
 simpa [Bool.and_eq_true,decide_eq_true_eq] using h
theorem pB {u : Wd} (h : Num u) : PySem.intText? (S u) = some (P4 u) ∧ u.length ≤ 61 := by
 obtain ⟨sn,fs,rfl,hsn,hne,hf,hl,_⟩ := h
 have hd : PySem.NumText.AllDigits fs := fun c hc=>fU (hf c hc)
 obtain ⟨c,r,rfl⟩ := List.exists_cons_of_ne_nil hne
 have hc := fU (hf c (by simp))
 rcases hsn with rfl | rfl
 ·refine ⟨?_,by simpa using Nat.le_succ_of_le hl⟩
  have := PySem.intText_digits (x := S (c :: r)) hd hne (by rw [N9]; omega)
  rw [List.nil_append,this]
  have e : P4 (c :: r) = (pJ (c :: r) : Int) := by
   unfold P4
   split
   ·rename_i heq; cases heq; omega
   ·rfl
  rw [e]; rfl
 ·refine ⟨?_,by simp at hl ⊢; omega⟩
  exact PySem.intText_neg (x := S ([45] ++ (c :: r))) (cs := c :: r) rfl hd hne (by rw [N9]; simp at hl ⊢; omega)
theorem fR {u : Wd} (h : J9 u = true) : u ≠ [] := fun e=>by rw [e] at h; cases h
section
variable {P : Program} {w : World} {K : PySem.W.Frag} {mg : Str → Option Value} {base : Heap} {f : Addr} {fd : FuncData} {R C : Addr}
abbrev oS : Stmt := N0 32
theorem BE9 : E4 ["reader","close","count"] ["reader","close","count"] (B1 oS) := ⟨rfl,rfl,rfl,by decide +kernel,rfl,by decide +kernel,by decide +kernel⟩
def EO (C : Addr) (H : Hp) (R rd dx wl : Addr) (ws : List Wd) (t : Nat) (res : Option (Bool × List Wd)) (Q : VK) (E : XK) : Prop := match res with
 | none=>∀ H',Grow rd H H' → E (.ref C) none H'
 | some (b,r)=>∀ H' t',Grow rd H H' → RD H' R rd dx wl ws t' → ws.drop t' = r → t ≤ t' → t' ≤ ws.length → Q (.bl b) H'
def mD (R C : Addr) : Sp := fun args H Q E=>∃ rd dx wl ws t close n,args = [.ref rd,.str (S close),.int ((n : Nat) : Int)] ∧ RD H R rd dx wl ws t ∧ t ≤ ws.length ∧ close ≠ [] ∧ EO C H R rd dx wl ws t (L6 close n (ws.drop t)) Q E
theorem eR (c : Nat) (h : c < 1114112) : X6 [c] := ⟨by show 1 ≤ 100000; decide,fun x hx=>by rw [List.mem_singleton.mp hx]; exact h⟩
theorem at1 (r : List Wd) : (r[1]?).getD [] = hd r.tail := by
 cases r with
 | nil=>rfl
 | cons a r=>cases r <;> rfl
theorem AZ4 (F : Fun K "has_another" "has_another" oS f fd) (c : RK K R) (AH : R7 P w K mg base K1 R 1 "ahead" ["self","steps"] (V6 R)) (MU : R7 P w K mg base (O0 P w) R 3 "must_take" ["self","word"] (cA R C)) : FnOk P w K mg base (O0 P w) 4 f fd ["reader","close","count"] (mD R C) := by
 refine Fun.ok1 F BE9 (fun vs H Q E h=>?_) (fun cdv A outer s H vs Q E hr h=>?_)
 ·obtain ⟨rd,dx,wl,ws,t,close,n,rfl,_⟩ := h
  rfl
 obtain ⟨rd,dx,wl,ws,t,close,n,rfl,h,ht,hc,q⟩ := h
 have hr1 := hr.mono (show 1 ≤ 3 by decide)
 refine ⟨_,A7 (E8 (B8 G7 (O2 AH c hr1 P0 (pv 0) (A0 B2 A5)) (pv 1) (D5 _)) (A8 (B4 N7)) D6)
  (N3 (E8 (B8 bF (pv 2) B2 (D5 _)) (A8 (K5 (O2 MU c hr (G5 (E' := E) fun _ _ _ h=>h) (pv 0) (A0 B3 A5)))) D6)
  (A8 (B4 (sR (fP (Q6 G7 (O2 AH c hr1 P0 (pv 0) (A0 B2 A5)) B3 (D5 _)) (fO (Q6 G7 (O2 AH c hr1 P0 (pv 0) (A0 B2 A5)) (pv 1) (D5 _)))))))),?_⟩
 refine ⟨_,rfl,rd,dx,_,rfl,h.ob,rfl,rd,dx,wl,ws,t,0,rfl,h,_,rfl,rfl,_,rfl,?_⟩
 rw [nO,N8]
 have S0 := RS.start h
 by_cases e : hd (ws.drop t) = close
 ·rw [decide_eq_true e]
  unfold L6 at q
  rw [if_pos e] at q
  exact G0 (q H t Grow.refl h rfl (Nat.le_refl _) ht)
 rw [decide_eq_false e]
 refine E2 ?_
 refine ⟨fun σ' H'=>∃ (t' : Nat),σ' = [some (.ref rd),some (.str (S close)),some (.int (n : Int))] ∧ RS H H' R rd dx wl ws t' ∧ t ≤ t' ∧ t' ≤ ws.length ∧ L6 close n (ws.drop t) = some (!(decide (hd (ws.drop t') = [46,46]) && decide (hd (ws.drop t').tail = close)),ws.drop t'),?_,?_⟩
 ·refine ⟨_,rfl,_,_,rfl,rfl,_,rfl,?_⟩
  by_cases hn : 0 < n
  ·rw [decide_eq_true (by omega)]
   refine G0 ⟨_,rfl,rd,dx,_,rfl,h.ob,rfl,rd,dx,wl,ws,t,[44],by rw [BA5]; rfl,h,eR 44 (by decide),?_⟩
   by_cases e2 : hd (ws.drop t) = [44]
   ·refine G2 e2 ⟨t + 1,rfl,S0.up (t + 1),by omega,dS (by rw [e2]; simp),?_⟩
    unfold L6
    rw [if_neg e,if_pos hn,if_pos e2,W1]
   ·refine B7 e2 ?_
    unfold L6 at q
    rw [if_neg e,if_pos hn,if_neg e2] at q
    exact q _ (S0.up (t + 1)).g
  ·rw [decide_eq_false (by omega)]
   refine E2 ⟨t,rfl,S0,Nat.le_refl _,ht,?_⟩
   unfold L6
   rw [if_neg e,if_neg hn]
 ·rintro σ' H' ⟨t',rfl,s',h1,h2,hq⟩
  rw [hq] at q
  refine ⟨_,rfl,rd,dx,_,rfl,s'.st.ob,rfl,rd,dx,wl,ws,t',0,rfl,s'.st,rfl,_,rfl,?_⟩
  rw [nO,V9,N8]
  have fin := q H' t' s'.g s'.st rfl h1 h2
  cases hd1 : decide (hd (ws.drop t') = [46,46]) with
  | false =>
   rw [hd1] at fin
   exact E2 ⟨_,rfl,fin⟩
  | true =>
   rw [hd1] at fin
   refine G0 ⟨_,rfl,rd,dx,_,rfl,s'.st.ob,rfl,rd,dx,wl,ws,t',1,rfl,s'.st,_,rfl,rfl,_,rfl,?_⟩
   rw [at1,N8]
   exact fin
abbrev kD : Stmt := N0 33
theorem yL : E4 ["reader","close","more"] ["reader","close"] (B1 kD) := ⟨rfl,rfl,rfl,by decide +kernel,rfl,by decide +kernel,by decide +kernel⟩
def iJ (R C : Addr) : Sp := fun args H Q E=>∃ rd dx wl ws t close,args = [.ref rd,.str (S close)] ∧ RD H R rd dx wl ws t ∧ close ≠ [] ∧ X6 close ∧ EO C H R rd dx wl ws (t + 1) (S9 close (ws.drop t)) Q E
theorem AR7 (F : Fun K "takes_end" "takes_end" kD f fd) (c : RK K R) (TS : R7 P w K mg base K1 R 2 "takes" ["self","word"] (Y4 R)) (MU : R7 P w K mg base (O0 P w) R 3 "must_take" ["self","word"] (cA R C)) : FnOk P w K mg base (O0 P w) 4 f fd ["reader","close"] (iJ R C) := by
 refine Fun.ok1 F yL (fun vs H Q E h=>?_) (fun cdv A outer s H vs Q E hr h=>?_)
 ·obtain ⟨rd,dx,wl,ws,t,close,rfl,_⟩ := h
  rfl
 obtain ⟨rd,dx,wl,ws,t,close,rfl,h,hc,hsm,q⟩ := h
 have hr2 := hr.mono (show 2 ≤ 3 by decide)
 refine ⟨_,N3 (B9 (i := 2) yL.nd rfl (Or.inl rfl) (O2 TS c hr2 P0 (pv 0) (A0 B3 A5)))
  (A7 (K5 (O2 MU c hr (G5 (E' := E) fun _ _ _ h=>h) (pv 0) (A0 (pv 1) A5)))
  (A8 (B4 (pv 2)))),?_⟩
 have S0 := RS.start h
 refine ⟨fun σ' H'=>∃ (t' : Nat) (b : Bool),σ' = [some (.ref rd),some (.str (S close)),some (.bl b)] ∧ RS H H' R rd dx wl ws t' ∧ t ≤ t' ∧ S9 close (ws.drop t) = if hd (ws.drop t') = close then some (b,(ws.drop t').tail) else none,?_,?_⟩
 ·refine ⟨_,rfl,rd,dx,_,rfl,h.ob,rfl,rd,dx,wl,ws,t,[46,46],by rw [V9]; rfl,h,?_⟩
  by_cases e : hd (ws.drop t) = [46,46]
  ·refine G2 e ⟨t + 1,true,rfl,S0.up (t + 1),by omega,?_⟩
   unfold S9
   rw [if_pos e,W1]
  ·refine B7 e ⟨t,false,rfl,S0,Nat.le_refl _,?_⟩
   unfold S9
   rw [if_neg e]
 ·rintro σ' H' ⟨t',b,rfl,s',h1,he⟩
  rw [he] at q
  refine ⟨_,rfl,rd,dx,_,rfl,s'.st.ob,rfl,_,rfl,rd,dx,wl,ws,t',close,rfl,s'.st,hsm,?_⟩
  by_cases e : hd (ws.drop t') = close
  ·rw [if_pos e] at q
   refine G2 e ⟨_,rfl,?_⟩
   exact q _ (t' + 1) (s'.up (t' + 1)).g (s'.up (t' + 1)).st W1 (by omega) (dS (by rw [e]; exact hc))
  ·rw [if_neg e] at q
   exact B7 e (q _ (s'.up (t' + 1)).g)
abbrev fB : Stmt := N0 29
theorem AP0 : E4 ["reader","low"] ["reader","low"] (B1 fB) := ⟨rfl,rfl,rfl,by decide +kernel,rfl,by decide +kernel,by decide +kernel⟩
def lZ (n : Int) (r : List Wd) : Tn × List Wd :=
 if hd r = [46,46] then (if J9 (hd r.tail) = true then (P6 (.int n) (.int (P4 (hd r.tail))),r.tail.tail) else (P6 (.int n) .non,r.tail)) else (P6 (.int n) (.int n),r)
def jQ (K : PySem.W.Frag) (R : Addr) : Sp := fun args H Q _=>∃ rd dx wl ws t n,args = [.ref rd,.int n] ∧ RD H R rd dx wl ws t ∧ t ≤ ws.length ∧ ∀ v H' t',Grow rd H H' → RD H' R rd dx wl ws t' → ws.drop t' = (lZ n (ws.drop t)).2 → t ≤ t' → t' ≤ ws.length → TV K H' (lZ n (ws.drop t)).1 v → Q v H'
theorem eO {H : Hp} {a : Addr} {x y : Tn} {v u : V} (h : H a = some (.tup [.str (Str.ofString "span"),v,u])) (h1 : TV K H x v) (h2 : TV K H y u) : TV K H (P6 x y) (.ref a) := by
 rw [bK] at h
 exact TV.tup (SqT.of h) (TAll.cons TV.str (TAll.cons h1 (TAll.one h2)))
theorem AE8 (F : Fun K "span_tree" "span_tree" fB f fd) (c : RK K R) (TS : R7 P w K mg base K1 R 2 "takes" ["self","word"] (Y4 R)) (TK : R7 P w K mg base K1 R 2 "take" ["self"] (aM R)) (AH : R7 P w K mg base K1 R 1 "ahead" ["self","steps"] (V6 R)) (NB : Cal P w K mg base 2 "is_number" ["word"] iI) (m1 : mg "int" = none) : FnOk P w K mg base K1 3 f fd ["reader","low"] (jQ K R) := by
 refine F.ok AP0 (fun vs H Q E h=>?_) (fun cdv A outer s H vs Q E hr h=>?_)
 ·obtain ⟨rd,dx,wl,ws,t,n,rfl,_⟩ := h
  rfl
 obtain ⟨rd,dx,wl,ws,t,n,rfl,h,ht,q⟩ := h
 have hr1 := hr.mono (show 1 ≤ 2 by decide)
 refine ⟨_,A7 (E8 (fJ (N6 (O2 TS c hr P0 (pv 0) (A0 B3 A5)))) (A8 (B4 (K0 (A0 B3 (A0 (pv 1) (A0 (pv 1) A5)))))) D6)
  (A8 (B4 (K0 (A0 B3 (A0 (pv 1) (A0 (gK (N6 (B5 NB hr rfl (A0 (O2 AH c hr1 P0 (pv 0) (A0 B2 A5)) A5)))
   (K6 jM rfl m1 cW (A0 (bV TK c hr P0 (pv 0)) A5)) aR) A5)))))),?_⟩
 have S0 := RS.start h
 refine ⟨_,rfl,rd,dx,_,rfl,h.ob,rfl,rd,dx,wl,ws,t,[46,46],by rw [V9]; rfl,h,?_⟩
 unfold lZ at q
 by_cases e : hd (ws.drop t) = [46,46]
 ·refine G2 e ⟨_,rfl,E2 ?_⟩
  simp only [if_pos e] at q
  have s1 := S0.up (t + 1)
  have hl1 := dS (ws := ws) (t := t) (by rw [e]; simp)
  refine ⟨_,rfl,_,rfl,rd,dx,_,rfl,s1.st.ob,rfl,rd,dx,wl,ws,t + 1,0,rfl,s1.st,_,rfl,?_,_,rfl,?_⟩
  ·rw [nO]; exact (h.ok.small (t + 1)).1
  rw [nO]
  rw [← W1] at q
  cases hb : J9 (hd (ws.drop (t + 1))) with
  | true =>
   simp only [hb,if_true] at q
   have hw := h.ok.tok _ (xM (fR hb))
   obtain ⟨i1,i2⟩ := pB (nX hw hb)
   refine G0 ⟨_,rfl,rd,dx,_,rfl,s1.st.ob,rfl,rd,dx,wl,ws,t + 1,rfl,s1.st,_,_,rfl,i1,by rw [N9]; omega,Z6,fun p hp=>?_⟩
   have s2 := (s1.up (t + 1 + 1)).same (A9 hp (.tup [.str (Str.ofString "span"),.int n,.int (P4 (hd (ws.drop (t + 1))))]))
   exact q _ _ (t + 1 + 1) s2.g s2.st W1 (by omega) (dS (fR hb)) (eO A6 TV.int TV.int)
  | false =>
   simp only [hb,Bool.false_eq_true,if_false] at q
   refine E2 ⟨Z6,fun p hp=>?_⟩
   have s2 := s1.same (A9 hp (.tup [.str (Str.ofString "span"),.int n,.non]))
   exact q _ _ (t + 1) s2.g s2.st rfl (by omega) hl1 (eO A6 TV.int TV.non)
 ·refine B7 e ⟨_,rfl,G0 ?_⟩
  simp only [if_neg e] at q
  refine ⟨_,rfl,_,rfl,Z6,fun p hp=>?_⟩
  have s2 := S0.same (A9 hp (.tup [.str (Str.ofString "span"),.int n,.int n]))
  exact q _ _ t s2.g s2.st rfl (Nat.le_refl _) ht (eO A6 TV.int TV.int)
abbrev oM : Stmt := N0 25
theorem BE8 : E4 ["word","trees"] ["word","trees"] (B1 oM) := ⟨rfl,rfl,rfl,by decide +kernel,rfl,by decide +kernel,by decide +kernel⟩
def rB (K : PySem.W.Frag) : Sp := fun args H Q _=>∃ k l vs ts,args = [.str (S k),.ref l] ∧ H l = some (.lst vs) ∧ TAll K H ts vs ∧ ∀ v H',Same H H' → TV K H' (one k ts) v → Q v H'
theorem AY6 (F : Fun K "one_or_several" "one_or_several" oM f fd) (m1 : mg "len" = none) (m2 : mg "tuple" = none) : FnOk P w K mg base K1 1 f fd ["word","trees"] (rB K) := by
 refine F.ok BE8 (fun vs H Q E h=>?_) (fun cdv A outer s H vs Q E hr h=>?_)
 ·obtain ⟨k,l,us,ts,rfl,_⟩ := h
  rfl
 obtain ⟨k,l,us,ts,rfl,hl,ht,q⟩ := h
 refine ⟨_,A8 (B4 (gK (B8 G7 (J8 N5 rfl m1 PySem.boot_len (A0 (pv 1) A5)) B2 (D5 _)) (J0 N4 (pv 1) B2 (fun _ _=>rfl))
  (K0 (A0 (pv 0) (A0 (K6 O5 rfl m2 U3 (A0 (pv 1) A5)) A5))))),?_⟩
 refine ⟨_,rfl,l,_,rfl,.inl (SqL.of hl),rfl,_,rfl,?_⟩
 have hlen := ht.length
 by_cases e : us.length = 1
 ·rw [decide_eq_true (p := V.int (us.length : Int) = V.int 1) (by rw [e]; rfl)]
  obtain ⟨u,rfl⟩ : ∃ u,us = [u] := by
   match us,e with
   | [u],_=>exact ⟨u,rfl⟩
  obtain ⟨x,rfl⟩ : ∃ x,ts = [x] := by
   match ts,hlen with
   | [x],_=>exact ⟨x,rfl⟩
  simp only [TAll] at ht
  obtain ⟨y,r,e1,h1,e2⟩ := ht
  cases e1
  exact G0 ⟨_,rfl,l,_,_,u,rfl,rfl,SqL.of hl,rfl,q _ _ dH h1⟩
 ·rw [decide_eq_false (fun z=>e (by have := V.int.inj z; omega))]
  refine E2 ⟨_,rfl,_,rfl,l,_,rfl,.inl ⟨SqL.of hl,fun p hp=>⟨R8,fun p2 hp2=>?_⟩⟩⟩
  have k1 := A9 hp (.tup us)
  have k2 := A9 hp2 (.tup [.str (S k),.ref p])
  refine q _ _ (k1.trans k2) ?_
  have e3 : one k ts = .tup [.str k,.tup ts] := by
   unfold one
   split
   ·rename_i t _; exact absurd hlen (by simpa using e)
   ·rfl
  rw [e3]
  exact TV.tup (SqT.of A6) (TAll.cons TV.str (TAll.one (TV.tup (SqT.of (k2 _ _ A6)) (ht.kp (Kp.same (k1.trans k2))))))
end
end Law
namespace Law
open PySem L2 L2.Sp
theorem lRb : (Str.ofString "]" : Str) = S [93] := by decide +kernel
theorem lRc : (Str.ofString "}" : Str) = S [125] := by decide +kernel
theorem lQ : (Str.ofString "?" : Str) = S [63] := by decide +kernel
theorem AH1 : (Str.ofString ":" : Str) = S [58] := by decide +kernel
theorem rO : (Str.ofString "list" : Str) = S Z8 := by decide +kernel
theorem BA0 : (Str.ofString "record" : Str) = S aF := by decide +kernel
section
variable {P : Program} {w : World} {K : PySem.W.Frag} {mg : Str → Option Value} {base : Heap} {f : Addr} {fd : FuncData} {R C : Addr} {X : Bool → List Wd → K9 → Prop}
def rV (K : PySem.W.Frag) : Hp → Tn → V → Prop := fun H x v=>TV K H x v
def mB (K : PySem.W.Frag) (R C : Addr) (X : Bool → List Wd → K9 → Prop) : Sp := fun args H Q E=>∃ rd dx wl ws t free res,args = [.ref rd,.bl free] ∧ RD H R rd dx wl ws t ∧ X free (ws.drop t) res ∧ PO C (rV K) H R rd dx wl ws t res Q E
def uW {α : Type} (val : Hp → α → V → Prop) (R C : Addr) (Y : List Wd → Option (α × List Wd) → Prop) : Sp := fun args H Q E=>∃ rd dx wl ws t res,args = [.ref rd] ∧ RD H R rd dx wl ws t ∧ t ≤ ws.length ∧ Y (ws.drop t) res ∧ PO C val H R rd dx wl ws t res Q E
theorem gY {H H1 : Hp} {rd dx wl l : Addr} {ws : List Wd} {t : Nat} (s : RS H H1 R rd dx wl ws t) (hl : H1 l = none) : H l = none := by
 cases e : H l with
 | none=>rfl
 | some o =>
  by_cases e2 : l = rd
  ·rw [e2,s.st.ob] at hl; cases hl
  ·rw [s.g l o e2 e] at hl; cases hl
abbrev aO : Stmt := N0 30
theorem uX : E4 ["reader","items"] ["reader"] (B1 aO) := ⟨rfl,rfl,rfl,by decide +kernel,rfl,by decide +kernel,by decide +kernel⟩
theorem AF1 {k : Nat} (F : Fun K "list_tree" "list_tree" aO f fd) (EX : M2 P w K mg base k "expression" ["reader","free"] (mB K R C X)) (HAS : M2 P w K mg base 4 "has_another" ["reader","close","count"] (mD R C)) (ENDT : M2 P w K mg base 4 "takes_end" ["reader","close"] (iJ R C)) (m1 : mg "len" = none) (m2 : mg "tuple" = none) (hk : 4 ≤ k) :
  FnOk P w K mg base (O0 P w) (k + 1) f fd ["reader"] (uW (rV K) R C (nU X)) := by
 refine Fun.ok1 F uX (fun vs H Q E h=>?_) (fun cdv A outer s H vs Q E hr h=>?_)
 ·obtain ⟨rd,dx,wl,ws,t,res,rfl,_⟩ := h
  rfl
 obtain ⟨rd,dx,wl,ws,t,res,rfl,h,ht,hp,q⟩ := h
 have hr4 := hr.mono hk
 refine ⟨_,A7 (B9 (i := 1) uX.nd rfl (Or.inl rfl) (E5 A5))
  (A7 (V2 PassesOwn.leaving (N6 (J4 HAS hr4 rfl (G5 (E' := E) fun _ _ _ h=>h) (A0 (pv 0) (A0 B3 (A0 (J8 N5 rfl m1 PySem.boot_len (A0 (pv 1) A5)) A5)))))
   (A8 (K5 (S5 PySem.F.plainAttrs_list PySem.F.slot_list_append PySem.F.type_list_append M0 (pv 1) (A0 (J4 EX hr rfl (G5 (E' := E) fun _ _ _ h=>h) (A0 (pv 0) (A0 N7 A5))) A5)))))
  (A8 (B4 (K0 (A0 B3 (A0 (K6 O5 rfl m2 U3 (A0 (pv 1) A5)) (A0 (J4 ENDT hr4 rfl (G5 (E' := E) fun _ _ _ h=>h) (A0 (pv 0) (A0 B3 A5))) A5))))))),?_⟩
 obtain ⟨k0,ires,hi,rfl⟩ := hp
 have S0 := RS.start h
 have wl0 := h.ok.len
 refine ⟨U2,fun l hl=>?_⟩
 have S1 := S0.put (o := .lst []) hl
 refine ⟨fun m σ H'=>∃ (ts : List Tn) (vs : List V) (t' : Nat),σ = [some (.ref rd),some (.ref l)] ∧ RS H H' R rd dx wl ws t' ∧ H' l = some (.lst vs) ∧ TAll K H' ts vs ∧ ItemsP X m ts (ws.drop t') ires ∧ ts.length ≤ t' ∧ t ≤ t' ∧ t' ≤ ws.length,⟨k0,[],[],t,rfl,S1,A6,TAll.nil,hi,Nat.zero_le _,Nat.le_refl _,ht⟩,?_⟩
 rintro m σ H' ⟨ts,us,t',rfl,s',hl',hts,hip,hlen,h1,h2⟩
 have nl : l ≠ rd := s'.none hl hl'
 have hul := hts.length
 refine ⟨_,rfl,_,rfl,l,_,rfl,.inl (SqL.of hl'),rd,dx,wl,ws,t',[93],ts.length,by rw [lRb,hul]; rfl,s'.st,h2,by simp,?_⟩
 generalize hdr : ws.drop t' = rr at hip ⊢
 cases hip with
 | @stop _ _ r1 hh =>
  rw [hh]
  intro H2 t2 g2 d2 e2 le2 lt2
  refine ⟨_,rfl,E2 ?_⟩
  have s2 := s'.more g2 d2
  have hl2 := g2 _ _ nl hl'
  have hts2 := hts.kp (Kp.grow g2 s'.st)
  refine ⟨_,rfl,l,_,rfl,.inl ⟨SqL.of hl2,fun p hp=>?_⟩⟩
  have kp := A9 hp (.tup us)
  have s3 := s2.same kp
  refine ⟨_,rfl,rd,dx,wl,ws,t2,[93],by rw [lRb]; rfl,s3.st,by simp,eR 93 (by decide),?_⟩
  rw [e2]
  dsimp only at q
  cases he : S9 [93] r1 with
  | none =>
   rw [he] at q
   intro H4 g4
   exact q H4 (s3.g.trans g4)
  | some br =>
   obtain ⟨b,r2⟩ := br
   rw [he] at q
   intro H4 t4 g4 d4 e4 le4 lt4
   have s4 := s3.more g4 d4
   have np : p ≠ rd := fun e=>by rw [e,s2.st.ob] at hp; cases hp
   refine ⟨Z6,fun p2 hp2=>?_⟩
   have kp2 := A9 hp2 (.tup [.str (Str.ofString "list"),.ref p,.bl b])
   have s5 := s4.same kp2
   refine q _ _ t4 s5.g s5.st e4 (by omega) lt4 ?_
   have k5 : Kp K H2 _ := (Kp.same kp).trans ((Kp.grow g4 s3.st).trans (Kp.same kp2))
   have hp4 := kp2 _ _ (g4 p _ np A6)
   refine TV.tup (SqT.of (by rw [A6,rO])) (TAll.cons TV.str (TAll.cons (TV.tup (SqT.of hp4) (hts2.kp k5)) (TAll.one TV.bl)))
 | @on k' _ _ r1 x r2 _ hh hx hk2 =>
  rw [hh]
  intro H2 t2 g2 d2 e2 le2 lt2
  refine ⟨_,rfl,G0 ?_⟩
  have s2 := s'.more g2 d2
  have hl2 := g2 _ _ nl hl'
  have hts2 := hts.kp (Kp.grow g2 s'.st)
  refine ⟨fun σ' H''=>∃ (vs : List V) (t'' : Nat),σ' = [some (.ref rd),some (.ref l)] ∧ RS H H'' R rd dx wl ws t'' ∧ H'' l = some (.lst vs) ∧ TAll K H'' (ts ++ [x]) vs ∧ ItemsP X k' (ts ++ [x]) (ws.drop t'') ires ∧ (ts ++ [x]).length ≤ t'' ∧ t ≤ t'' ∧ t'' ≤ ws.length,fun σ' H'' hh=>?_,?_⟩
  ·obtain ⟨vs,t'',a⟩ := hh
   exact ⟨k',Nat.lt_succ_self _,ts ++ [x],vs,t'',a⟩
  refine ⟨_,rfl,.inl ⟨rfl,_,SqL.of hl2⟩,_,rfl,rd,dx,wl,ws,t2,false,_,rfl,s2.st,by rw [e2]; exact hx,?_⟩
  intro v H3 t3 g3 d3 e3 lt3 le3 hv
  have s3 := s2.more g3 d3
  have hl3 := g3 _ _ nl hl2
  have hts3 := hts2.kp (Kp.grow g3 s2.st)
  have kl : Kp K H3 (E7 H3 l (.lst (us ++ [v]))) := Kp.lst hl3
  exact ⟨l,_,_,rfl,rfl,hl3,dC (by omega),_,t3,rfl,s3.put hl,A6,(hts3.kp kl).append (TAll.one (TV.kp kl hv)),by rw [e3]; exact hk2,by rw [List.length_append,List.length_singleton]; omega,by omega,le3⟩
 | @bad _ _ hh =>
  rw [hh]
  intro H2 g2
  exact q H2 (s'.g.trans g2)
 | @worse _ _ r1 hh hx =>
  rw [hh]
  intro H2 t2 g2 d2 e2 le2 lt2
  refine ⟨_,rfl,G0 ?_⟩
  have s2 := s'.more g2 d2
  have hl2 := g2 _ _ nl hl'
  refine ⟨fun _ _=>False,fun _ _ z=>z.elim,?_⟩
  refine ⟨_,rfl,.inl ⟨rfl,_,SqL.of hl2⟩,_,rfl,rd,dx,wl,ws,t2,false,_,rfl,s2.st,by rw [e2]; exact hx,?_⟩
  intro H3 g3
  exact q H3 (s2.g.trans g3)
abbrev aP : Stmt := N0 34
theorem oC : E4 ["reader","name","must"] ["reader"] (B1 aP) := ⟨rfl,rfl,rfl,by decide +kernel,rfl,by decide +kernel,by decide +kernel⟩
def valF (K : PySem.W.Frag) : Hp → Wd × Tn × Bool → V → Prop := fun H x v=>∃ a u,v = .ref a ∧ SqT K H a [.str (S x.1),u,.bl x.2.2] ∧ TV K H x.2.1 u
theorem AF3 {k : Nat} (F : Fun K "field_of" "field_of" aP f fd) (c : RK K R) (EX : M2 P w K mg base k "expression" ["reader","free"] (mB K R C X)) (NAME : M2 P w K mg base 3 "name_of" ["reader"] (bZ R C)) (TS : R7 P w K mg base K1 R 2 "takes" ["self","word"] (Y4 R)) (MU : R7 P w K mg base (O0 P w) R 3 "must_take" ["self","word"] (cA R C)) (hk : 4 ≤ k) :
  FnOk P w K mg base (O0 P w) (k + 1) f fd ["reader"] (uW (valF K) R C (FieldP X)) := by
 refine Fun.ok1 F oC (fun vs H Q E h=>?_) (fun cdv A outer s H vs Q E hr h=>?_)
 ·obtain ⟨rd,dx,wl,ws,t,res,rfl,_⟩ := h
  rfl
 obtain ⟨rd,dx,wl,ws,t,res,rfl,h,ht,hp,q⟩ := h
 have hr3 := hr.mono (show 3 ≤ k by omega)
 have hr2 := hr.mono (show 2 ≤ k by omega)
 refine ⟨_,A7 (B9 (i := 1) oC.nd rfl (Or.inl rfl) (J4 NAME hr3 rfl (G5 (E' := E) fun _ _ _ h=>h) (A0 (pv 0) A5)))
  (N3 (B9 (i := 2) oC.nd rfl (Or.inl rfl) (sR (O2 TS c hr2 P0 (pv 0) (A0 B3 A5))))
  (A7 (K5 (O2 MU c hr3 (G5 (E' := E) fun _ _ _ h=>h) (pv 0) (A0 B3 A5)))
  (A8 (B4 (K0 (A0 (pv 1) (A0 (J4 EX hr rfl (G5 (E' := E) fun _ _ _ h=>h) (A0 (pv 0) (A0 N7 A5))) (A0 (pv 2) A5)))))))),?_⟩
 have S0 := RS.start h
 unfold FieldP at hp
 refine ⟨_,rfl,rd,dx,wl,ws,t,rfl,h,fun H1 g1=>?_⟩
 have S1 := S0.step g1
 by_cases hb : D7 (hd (ws.drop t)) = true
 ·rw [if_pos hb] at hp ⊢
  rw [← W1,← W1,← W1] at hp
  refine ⟨fun σ' H'=>∃ (t' : Nat) (b : Bool),σ' = [some (.ref rd),some (.str (S (hd (ws.drop t)))),some (.bl b)] ∧ RS H H' R rd dx wl ws t' ∧ t < t' ∧ (if hd (ws.drop t') = [58] then ∃ xres,X false (ws.drop (t' + 1)) xres ∧ res = xres.map fun p=>((hd (ws.drop t),p.1,b),p.2) else res = none),?_,?_⟩
  ·refine ⟨_,rfl,rd,dx,_,rfl,S1.st.ob,rfl,rd,dx,wl,ws,t + 1,[63],by rw [lQ]; rfl,S1.st,?_⟩
   by_cases e : hd (ws.drop (t + 1)) = [63]
   ·rw [if_pos e] at hp
    exact G2 e ⟨_,rfl,t + 1 + 1,false,rfl,S1.up (t + 1 + 1),by omega,hp⟩
   ·rw [if_neg e] at hp
    exact B7 e ⟨_,rfl,t + 1,true,rfl,S1,by omega,hp⟩
  ·rintro σ' H' ⟨t',b,rfl,s',h1,hq⟩
   refine ⟨_,rfl,rd,dx,_,rfl,s'.st.ob,rfl,rd,dx,wl,ws,t',[58],by rw [AH1]; rfl,s'.st,eR 58 (by decide),?_⟩
   by_cases e : hd (ws.drop t') = [58]
   ·rw [if_pos e] at hq
    obtain ⟨xres,hx,rfl⟩ := hq
    have s2 := s'.up (t' + 1)
    refine G2 e ⟨_,rfl,_,rfl,rd,dx,wl,ws,t' + 1,false,xres,rfl,s2.st,hx,?_⟩
    cases xres with
    | none =>
     intro H3 g3
     exact q H3 (s2.g.trans g3)
    | some p =>
     obtain ⟨x,r⟩ := p
     intro v H3 t3 g3 d3 e3 lt3 le3 hv
     have s3 := s2.more g3 d3
     refine ⟨_,rfl,Z6,fun p hp=>?_⟩
     have kp := A9 hp (.tup [.str (S (hd (ws.drop t))),v,.bl b])
     have s4 := s3.same kp
     exact q _ _ t3 s4.g s4.st e3 (by omega) le3 ⟨p,v,rfl,SqT.of A6,TV.kp (Kp.same kp) hv⟩
   ·rw [if_neg e] at hq
    subst hq
    exact B7 e (q _ (s'.up (t' + 1)).g)
 ·rw [if_neg hb] at hp ⊢
  subst hp
  exact q _ S1.g
end
end Law
namespace Law
open PySem L2 L2.Sp
theorem AM0 : (Str.ofString "!" : Str) = S [33] := by decide +kernel
theorem pG : (Str.ofString "&" : Str) = S [38] := by decide +kernel
theorem pF : (Str.ofString "|" : Str) = S [124] := by decide +kernel
theorem gZ : (Str.ofString "not" : Str) = S eI := by decide +kernel
theorem bH : (Str.ofString "and" : Str) = S P3 := by decide +kernel
theorem lI : (Str.ofString "or" : Str) = S U9 := by decide +kernel
theorem AB6 {a b : List Nat} (h : S a = S b) : a = b := xS.mp (by rw [h])
theorem jI (x : Wd) (xs : List Wd) : cP (.str (S x)) (ST xs) = decide (x ∈ xs) := by
 have := AH4 (S x) (xs.map S)
 rw [List.map_map] at this
 rw [show ST xs = xs.map (V.str ∘ S) from rfl,this,Bool.eq_iff_iff,decide_eq_true_iff,decide_eq_true_iff,List.mem_map]
 constructor
 ·rintro ⟨a,ha,e⟩; rw [← AB6 e]; exact ha
 ·intro h; exact ⟨x,h,rfl⟩
theorem kL (xs : List Wd) : (ST xs).all bM = true := by
 rw [List.all_eq_true]
 intro v hv
 obtain ⟨a,_,rfl⟩ := List.mem_map.mp hv
 rfl
theorem AJ2 {r : List Wd} : ∀ {j : Nat},j < bangs r → hd (r.drop j) = [33] := by
 induction r with
 | nil=>intro j h; exact absurd h (Nat.not_lt_zero _)
 | cons x r ih =>
  intro j h
  unfold bangs at h
  by_cases e : x = [33]
  ·rw [List.takeWhile_cons_of_pos (by simpa using e),List.length_cons] at h
   cases j with
   | zero=>exact e
   | succ j=>exact ih (j := j) (by unfold bangs; omega)
  ·rw [List.takeWhile_cons_of_neg (by simpa using e)] at h
   exact absurd h (Nat.not_lt_zero _)
theorem AJ4 {r : List Wd} : hd (r.drop (bangs r)) ≠ [33] := by
 induction r with
 | nil=>intro h; cases h
 | cons x r ih =>
  unfold bangs
  by_cases e : x = [33]
  ·rw [List.takeWhile_cons_of_pos (by simpa using e),List.length_cons,List.drop_succ_cons]
   exact ih
  ·rw [List.takeWhile_cons_of_neg (by simpa using e)]
   exact e
theorem AJ3 (r : List Wd) : bangs r ≤ r.length := (List.takeWhile_sublist _).length_le
section
variable {P : Program} {w : World} {K : PySem.W.Frag} {mg : Str → Option Value} {base : Heap} {f : Addr} {fd : FuncData} {R C : Addr} {X : Bool → List Wd → K9 → Prop}
abbrev dJ : Stmt := N0 31
theorem iM : E4 ["reader","fields","names","field","name"] ["reader"] (B1 dJ) := ⟨rfl,rfl,rfl,by decide +kernel,rfl,by decide +kernel,by decide +kernel⟩
theorem xO {r r2 : List Wd} {x : Wd × Tn × Bool} (h : FieldP X r (some (x,r2))) : x.1 = hd r := by
 unfold FieldP at h
 split at h
 ·split at h
  ·split at h
   ·obtain ⟨xres,_,e⟩ := h
    cases xres with
    | none=>cases e
    | some p=>cases e; rfl
   ·cases h
  ·split at h
   ·obtain ⟨xres,_,e⟩ := h
    cases xres with
    | none=>cases e
    | some p=>cases e; rfl
   ·cases h
 ·cases h
theorem valF.tv {H : Hp} {x : Wd × Tn × Bool} {v : V} (h : valF K H x v) : TV K H (Y0 x) v := by
 obtain ⟨a,u,rfl,h1,h2⟩ := h
 exact TV.tup h1 (TAll.cons TV.str (TAll.cons h2 (TAll.one TV.bl)))
theorem AQ6 {k : Nat} (F : Fun K "record_tree" "record_tree" dJ f fd) (n : NT K mg C) (FI : M2 P w K mg base k "field_of" ["reader"] (uW (valF K) R C (FieldP X))) (HAS : M2 P w K mg base 4 "has_another" ["reader","close","count"] (mD R C)) (ENDT : M2 P w K mg base 4 "takes_end" ["reader","close"] (iJ R C)) (m1 : mg "len" = none) (m2 : mg "tuple" = none) (hk : 4 ≤ k) :
  FnOk P w K mg base (O0 P w) (k + 1) f fd ["reader"] (uW (rV K) R C (uF X)) := by
 refine Fun.ok1 F iM (fun vs H Q E h=>?_) (fun cdv A outer s H vs Q E hr h=>?_)
 ·obtain ⟨rd,dx,wl,ws,t,res,rfl,_⟩ := h
  rfl
 obtain ⟨rd,dx,wl,ws,t,res,rfl,h,ht,hp,q⟩ := h
 have hr4 := hr.mono hk
 refine ⟨_,A7 (B9 (i := 1) iM.nd rfl (Or.inl rfl) (E5 A5))
  (A7 (B9 (i := 2) iM.nd rfl (Or.inl rfl) AE2)
  (A7 (V2 PassesOwn.leaving (N6 (J4 HAS hr4 rfl (G5 (E' := E) fun _ _ _ h=>h) (A0 (pv 0) (A0 B3 (A0 (J8 N5 rfl m1 PySem.boot_len (A0 (pv 1) A5)) A5)))))
   (A7 (B9 (i := 3) iM.nd rfl (Or.inl rfl) (J4 FI hr rfl (G5 (E' := E) fun _ _ _ h=>h) (A0 (pv 0) A5)))
   (A7 (B9 (i := 4) iM.nd rfl (Or.inl rfl) (J0 R3 (pv 3) B2 (fun _ _=>rfl)))
   (A7 (E8 (AW6 (AX4 (AM5 hr) (pv 4) (pv 2))) (A8 (V3 PySem.F.excBase_ValueError n.xc rfl n.mg (A0 (kG (mH (pv 4) (fM mG))) A5))) D6)
   (A7 (AP9 (AM5 hr) (pv 2) (pv 4) N7 rfl)
   (A8 (K5 (S5 PySem.F.plainAttrs_list PySem.F.slot_list_append PySem.F.type_list_append M0 (pv 1) (A0 (pv 3) A5)))))))))
  (A8 (B4 (K0 (A0 B3 (A0 (K6 O5 rfl m2 U3 (A0 (pv 1) A5)) (A0 (J4 ENDT hr4 rfl (G5 (E' := E) fun _ _ _ h=>h) (A0 (pv 0) (A0 B3 A5))) A5)))))))),?_⟩
 obtain ⟨k0,fres,hi,rfl⟩ := hp
 have S0 := RS.start h
 have wl0 := h.ok.len
 refine ⟨U2,fun l hl=>fun dn vW=>?_⟩
 have S1 := S0.put (o := .lst []) hl
 have hdn0 : H dn = none := gY S1 vW
 have nld : l ≠ dn := fun e=>by rw [← e,A6] at vW; cases vW
 have S2 := S1.put (o := .dK []) hdn0
 refine ⟨fun m σ H'=>∃ (fs : List (Wd × Tn × Bool)) (vs : List V) (kvs : List (M8 × V)) (t' : Nat) (b3 b4 : Option V),σ = [some (.ref rd),some (.ref l),some (.ref dn),b3,b4] ∧ RS H H' R rd dx wl ws t' ∧ H' l = some (.lst vs) ∧ TAll K H' (fs.map Y0) vs ∧
   (H' dn = some (.dK kvs) ∧ kvs.length ≤ fs.length ∧ ∀ u : Wd,(R0 kvs (.inr (S u))).isSome = true ↔ u ∈ fs.map (·.1)) ∧ FieldsP X m fs (ws.drop t') fres ∧ fs.length ≤ t' ∧ t ≤ t' ∧ t' ≤ ws.length,
  ⟨k0,[],[],[],t,none,none,rfl,S2,by rw [B6 nld]; exact A6,TAll.nil,⟨A6,Nat.le_refl _,fun u=>⟨fun z=>(by cases z),fun z=>(by cases z)⟩⟩,hi,Nat.zero_le _,Nat.le_refl _,ht⟩,?_⟩
 rintro m σ H' ⟨fs,us,kvs,t',b3,b4,rfl,s',hl',hts,⟨hdn',hkl,hkv⟩,hip,hlen,h1,h2⟩
 have nl : l ≠ rd := s'.none hl hl'
 have nd : dn ≠ rd := s'.none hdn0 hdn'
 have hul := hts.length
 rw [List.length_map] at hul
 refine ⟨_,rfl,_,rfl,l,_,rfl,.inl (SqL.of hl'),rd,dx,wl,ws,t',[125],fs.length,by rw [lRc,hul]; rfl,s'.st,h2,by simp,?_⟩
 generalize hdr : ws.drop t' = rr at hip ⊢
 have turn : ∀ {r1 : List Wd} {x : Wd × Tn × Bool} {r2 : List Wd} {H2 : Hp} {t2 : Nat},FieldP X r1 (some (x,r2)) → ws.drop t2 = r1 → X6 x.1 := fun {r1 x r2 H2 t2} hx e2=>by
  rw [xO hx,← e2]
  exact h.ok.small t2
 cases hip with
 | @stop _ _ r1 hh =>
  rw [hh]
  intro H2 t2 g2 d2 e2 le2 lt2
  refine ⟨_,rfl,E2 ?_⟩
  have s2 := s'.more g2 d2
  have hl2 := g2 _ _ nl hl'
  have hts2 := hts.kp (Kp.grow g2 s'.st)
  refine ⟨_,rfl,l,_,rfl,.inl ⟨SqL.of hl2,fun p hp=>?_⟩⟩
  have kp := A9 hp (.tup us)
  have s3 := s2.same kp
  refine ⟨_,rfl,rd,dx,wl,ws,t2,[125],by rw [lRc]; rfl,s3.st,by simp,eR 125 (by decide),?_⟩
  rw [e2]
  dsimp only at q
  cases he : S9 [125] r1 with
  | none =>
   rw [he] at q
   intro H4 g4
   exact q H4 (s3.g.trans g4)
  | some br =>
   obtain ⟨b,r2⟩ := br
   rw [he] at q
   intro H4 t4 g4 d4 e4 le4 lt4
   have s4 := s3.more g4 d4
   have np : p ≠ rd := fun e=>by rw [e,s2.st.ob] at hp; cases hp
   refine ⟨Z6,fun p2 hp2=>?_⟩
   have kp2 := A9 hp2 (.tup [.str (Str.ofString "record"),.ref p,.bl b])
   have s5 := s4.same kp2
   refine q _ _ t4 s5.g s5.st e4 (by omega) lt4 ?_
   have k5 : Kp K H2 _ := (Kp.same kp).trans ((Kp.grow g4 s3.st).trans (Kp.same kp2))
   have hp4 := kp2 _ _ (g4 p _ np A6)
   refine TV.tup (SqT.of (by rw [A6,BA0])) (TAll.cons TV.str (TAll.cons (TV.tup (SqT.of hp4) (hts2.kp k5)) (TAll.one TV.bl)))
 | @on k' _ _ r1 x r2 _ hh hx hnx hk2 =>
  rw [hh]
  intro H2 t2 g2 d2 e2 le2 lt2
  refine ⟨_,rfl,G0 ?_⟩
  have s2 := s'.more g2 d2
  have hl2 := g2 _ _ nl hl'
  have hdn2 := g2 _ _ nd hdn'
  have hts2 := hts.kp (Kp.grow g2 s'.st)
  refine ⟨fun σ' H''=>∃ (vs : List V) (kvs : List (M8 × V)) (t'' : Nat) (b3 b4 : Option V),σ' = [some (.ref rd),some (.ref l),some (.ref dn),b3,b4] ∧ RS H H'' R rd dx wl ws t'' ∧ H'' l = some (.lst vs) ∧ TAll K H'' ((fs ++ [x]).map Y0) vs ∧
   (H'' dn = some (.dK kvs) ∧ kvs.length ≤ (fs ++ [x]).length ∧ ∀ u : Wd,(R0 kvs (.inr (S u))).isSome = true ↔ u ∈ (fs ++ [x]).map (·.1)) ∧ FieldsP X k' (fs ++ [x]) (ws.drop t'') fres ∧ (fs ++ [x]).length ≤ t'' ∧ t ≤ t'' ∧ t'' ≤ ws.length,fun σ' H'' hh=>?_,?_⟩
  ·obtain ⟨vs,kvs,t'',b3,b4,a⟩ := hh
   exact ⟨k',Nat.lt_succ_self _,fs ++ [x],vs,kvs,t'',b3,b4,a⟩
  refine ⟨_,rfl,rd,dx,wl,ws,t2,_,rfl,s2.st,lt2,by rw [e2]; exact hx,?_⟩
  intro v H3 t3 g3 d3 e3 lt3 le3 hv
  have s3 := s2.more g3 d3
  have hl3 := g3 _ _ nl hl2
  have hdn3 := g3 _ _ nd hdn2
  have hts3 := hts2.kp (Kp.grow g3 s2.st)
  have hv' := hv
  obtain ⟨a,u,rfl,ha,hu⟩ := hv'
  refine ⟨_,rfl,a,_,_,.str (S x.1),rfl,rfl,ha,rfl,?_⟩
  have hno : (R0 kvs (.inr (S x.1))).isSome = false := Bool.eq_false_iff.mpr fun z=>hnx ((hkv x.1).mp z)
  refine ⟨_,rfl,_,rfl,dn,_,rfl,DGet.k (k := .inr (S x.1)) hdn3,_,rfl,?_⟩
  rw [hno]
  refine E2 ⟨_,rfl,_,rfl,dn,_,rfl,DPut.k (k := .inr (S x.1)) hdn3 (dC (by omega)),?_⟩
  have kd : Kp K H3 (E7 H3 dn (.dK (W3 kvs (.inr (S x.1)) (.bl true)))) := Kp.dct hdn3
  have s4 := s3.put (o := .dK (W3 kvs (.inr (S x.1)) (.bl true))) hdn0
  have hl4 : E7 H3 dn (.dK (W3 kvs (.inr (S x.1)) (.bl true))) l = some (.lst us) := by rw [B6 nld]; exact hl3
  refine ⟨_,rfl,.inl ⟨rfl,_,SqL.of hl4⟩,_,rfl,l,_,_,rfl,rfl,hl4,dC (by omega),?_⟩
  have kl := Kp.lst (K := K) (o := .lst (us ++ [.ref a])) hl4
  refine ⟨_,_,t3,_,_,rfl,s4.put hl,A6,?_,⟨by rw [B6 (Ne.symm nld)]; exact A6,?_,fun u=>?_⟩,by rw [e3]; exact hk2,by rw [List.length_append,List.length_singleton]; omega,by omega,le3⟩
  ·rw [List.map_append]
   exact (hts3.kp (kd.trans kl)).append (TAll.one (TV.kp (kd.trans kl) hv.tv))
  ·have := eG kvs (.inr (S x.1)) (.bl true)
   rw [List.length_append,List.length_singleton]; omega
  ·rw [AC5,List.map_append,List.mem_append]
   by_cases e : u = x.1
   ·subst e; simp
   ·rw [if_neg (fun z=>e (AB6 (Sum.inr.inj z))),hkv u]
    simp [e]
 | @bad _ _ hh =>
  rw [hh]
  intro H2 g2
  exact q H2 (s'.g.trans g2)
 | @worse _ _ r1 hh hx =>
  rw [hh]
  intro H2 t2 g2 d2 e2 le2 lt2
  refine ⟨_,rfl,G0 ?_⟩
  have s2 := s'.more g2 d2
  refine ⟨fun _ _=>False,fun _ _ z=>z.elim,?_⟩
  refine ⟨_,rfl,rd,dx,wl,ws,t2,_,rfl,s2.st,lt2,by rw [e2]; exact hx,?_⟩
  intro H3 g3
  exact q H3 (s2.g.trans g3)
 | @twice _ _ r1 x r2 hh hx hnx =>
  rw [hh]
  intro H2 t2 g2 d2 e2 le2 lt2
  refine ⟨_,rfl,G0 ?_⟩
  have s2 := s'.more g2 d2
  have hdn2 := g2 _ _ nd hdn'
  refine ⟨fun _ _=>False,fun _ _ z=>z.elim,?_⟩
  refine ⟨_,rfl,rd,dx,wl,ws,t2,_,rfl,s2.st,lt2,by rw [e2]; exact hx,?_⟩
  intro v H3 t3 g3 d3 e3 lt3 le3 hv
  have s3 := s2.more g3 d3
  have hdn3 := g3 _ _ nd hdn2
  obtain ⟨a,u,rfl,ha,hu⟩ := hv
  have hsm := turn (H2 := H2) hx e2
  refine ⟨_,rfl,a,_,_,.str (S x.1),rfl,rfl,ha,rfl,?_⟩
  refine ⟨_,rfl,_,rfl,dn,_,rfl,DGet.k (k := .inr (S x.1)) hdn3,_,rfl,?_⟩
  rw [(hkv x.1).mpr hnx]
  exact G0 ⟨_,rfl,_,rfl,by rw [N9]; exact hsm.1,hsm.2,fun r=>⟨L0,q _ s3.g⟩⟩
end
end Law
namespace Law
open PySem L2 L2.Sp
section
variable {P : Program} {w : World} {K : PySem.W.Frag} {mg : Str → Option Value} {base : Heap} {f : Addr} {fd : FuncData} {R C : Addr} {X : Bool → List Wd → K9 → Prop}
abbrev dL : Stmt := N0 26
theorem eY : E4 ["reader","free","times","tree","turn"] ["reader","free"] (B1 dL) := ⟨rfl,rfl,rfl,by decide +kernel,rfl,by decide +kernel,by decide +kernel⟩
theorem AR1 {k : Nat} (F : Fun K "negated" "negated" dL f fd) (c : RK K R) (SG : M2 P w K mg base k "single" ["reader","free"] (mB K R C (SglP X))) (TS : R7 P w K mg base K1 R 2 "takes" ["self","word"] (Y4 R)) (m1 : mg "range" = none) (hk : 4 ≤ k) :
  FnOk P w K mg base (O0 P w) (k + 1) f fd ["reader","free"] (mB K R C (NegP X)) := by
 refine Fun.ok1 F eY (fun vs H Q E h=>?_) (fun cdv A outer s H vs Q E hr h=>?_)
 ·obtain ⟨rd,dx,wl,ws,t,free,res,rfl,_⟩ := h
  rfl
 obtain ⟨rd,dx,wl,ws,t,free,res,rfl,h,hp,q⟩ := h
 have hr2 := hr.mono (show 2 ≤ k by omega)
 refine ⟨_,A7 (B9 (i := 2) eY.nd rfl (Or.inl rfl) B2)
  (A7 (V2 PassesOwn.leaving (N6 (O2 TS c hr2 P0 (pv 0) (A0 B3 A5))) (A8 (P9 (i := 2) eY.nd rfl (Or.inl rfl) B2 mX)))
  (A7 (B9 (i := 3) eY.nd rfl (Or.inl rfl) (J4 SG hr rfl (G5 (E' := E) fun _ _ _ h=>h) (A0 (pv 0) (A0 (fP (pv 1) (fO (Q6 G7 (pv 2) B2 (D5 _)))) A5))))
  (A7 (R1 PassesOwn.leaving rfl (Q0 rfl m1 (A0 (pv 2) A5)) (K8 (i := 4) eY.nd rfl (Or.inl rfl)) (A8 (B9 (i := 3) eY.nd rfl (Or.inl rfl) (K0 (A0 B3 (A0 (pv 3) A5))))))
  (A8 (B4 (pv 3)))))),?_⟩
 obtain ⟨sres,hs,rfl⟩ := hp
 have S0 := RS.start h
 have wl0 := h.ok.len
 have hbl := AJ3 (ws.drop t)
 rw [List.length_drop] at hbl
 generalize hb : bangs (ws.drop t) = n at hs q hbl
 refine ⟨fun m σ H'=>∃ (j : Nat),σ = [some (.ref rd),some (.bl free),some (.int (j : Int)),none,none] ∧ RS H H' R rd dx wl ws (t + j) ∧ j ≤ n ∧ m = n - j,⟨n,0,rfl,S0,Nat.zero_le _,rfl⟩,?_⟩
 rintro m σ H' ⟨j,rfl,s',hj,rfl⟩
 refine ⟨_,rfl,rd,dx,_,rfl,s'.st.ob,rfl,rd,dx,wl,ws,t + j,[33],by rw [AM0]; rfl,s'.st,?_⟩
 by_cases e : j < n
 ·have e1 : hd (ws.drop (t + j)) = [33] := by rw [← List.drop_drop]; exact AJ2 (by rw [hb]; exact e)
  refine G2 e1 ⟨_,rfl,G0 ?_⟩
  refine ⟨fun σ' H''=>σ' = [some (.ref rd),some (.bl free),some (.int ((j + 1 : Nat) : Int)),none,none] ∧ RS H H'' R rd dx wl ws (t + (j + 1)),fun σ' H'' hh=>⟨n - (j + 1),by omega,j + 1,hh.1,hh.2,e,rfl⟩,?_⟩
  exact ⟨_,rfl,_,_,rfl,rfl,rfl,s'.up (t + j + 1)⟩
 ·have e0 : j = n := by omega
  subst e0
  have e1 : hd (ws.drop (t + j)) ≠ [33] := by rw [← List.drop_drop,← hb]; exact AJ4
  refine B7 e1 ⟨_,rfl,E2 ?_⟩
  have e2 : ws.drop (t + j) = (ws.drop t).drop j := by rw [List.drop_drop]
  have arg : ∀ {Q' : V → Hp → Prop},Q' (.bl (free && decide (j = 0))) H' → AK5 (gE 1) (iG rEq (gE 2) (tC (.int 0))) [some (.ref rd),some (.bl free),some (.int (j : Int)),none,none] H' Q' := fun {Q'} hq=>by
   refine ⟨_,rfl,free,rfl,?_⟩
   cases free with
   | false=>exact E2 hq
   | true =>
    refine G0 ⟨_,rfl,rfl,?_⟩
    have : decide (V.int (j : Int) = V.int 0) = decide (j = 0) := by
     rw [Bool.eq_iff_iff,decide_eq_true_iff,decide_eq_true_iff]
     constructor
     ·intro z; have := V.int.inj z; omega
     ·intro z; rw [z]; rfl
    rw [this]
    exact hq
  refine ⟨_,rfl,arg ?_⟩
  refine ⟨rd,dx,wl,ws,t + j,_,sres,rfl,s'.st,by rw [e2]; exact hs,?_⟩
  cases sres with
  | none =>
   intro H3 g3
   exact q H3 (s'.g.trans g3)
  | some p =>
   obtain ⟨x,r⟩ := p
   intro v H3 t3 g3 d3 e3 lt3 le3 hv
   have s3 := s'.more g3 d3
   refine ⟨_,rfl,(j : Int),rfl,by omega,by omega,?_⟩
   refine Y7 (fun i σ H4=>∃ (u : V) (b4 : Option V),σ = [some (.ref rd),some (.bl free),some (.int (j : Int)),some u,b4] ∧ RS H H4 R rd dx wl ws t3 ∧ TV K H4 (xE i x) u) ⟨v,none,rfl,s3,hv⟩ (fun i σ H4 hi hinv=>?_) (fun σ H4 hinv=>?_)
   ·obtain ⟨u,b4,rfl,s4,hu⟩ := hinv
    refine ⟨_,rfl,R8,fun p hp=>?_⟩
    have kp := A9 hp (.tup [.str (Str.ofString "not"),u])
    refine ⟨.ref p,_,rfl,s4.same kp,?_⟩
    exact TV.tup (SqT.of (by rw [A6,gZ])) (TAll.cons TV.str (TAll.one (TV.kp (Kp.same kp) hu)))
   ·obtain ⟨u,b4,rfl,s4,hu⟩ := hinv
    exact ⟨_,rfl,q _ _ t3 s4.g s4.st e3 (by omega) le3 hu⟩
abbrev dM : Stmt := N0 24
theorem iN : E4 ["reader","free","alternatives","parts"] ["reader","free"] (B1 dM) := ⟨rfl,rfl,rfl,by decide +kernel,rfl,by decide +kernel,by decide +kernel⟩
theorem in2 {r : Wd} : cP (.str (S r)) [.str (S [38]),.str (S [124])] = (decide (r = [38]) || decide (r = [124])) := by
 have := jI r [[38],[124]]
 rw [show ST [[38],[124]] = [.str (S [38]),.str (S [124])] from rfl] at this
 rw [this,Bool.eq_iff_iff,decide_eq_true_iff,Bool.or_eq_true,decide_eq_true_iff,decide_eq_true_iff]
 simp
theorem AR6 {k : Nat} (F : Fun K "expression" "expression" dM f fd) (c : RK K R) (NG : M2 P w K mg base k "negated" ["reader","free"] (mB K R C (NegP X))) (AH : R7 P w K mg base K1 R 1 "ahead" ["self","steps"] (V6 R)) (TK : R7 P w K mg base K1 R 2 "take" ["self"] (aM R)) (ON : Cal P w K mg base 1 "one_or_several" ["word","trees"] (rB K)) (hk : 4 ≤ k) :
  FnOk P w K mg base (O0 P w) (k + 1) f fd ["reader","free"] (mB K R C (ExpP X)) := by
 refine Fun.ok1 F iN (fun vs H Q E h=>?_) (fun cdv A outer s H vs Q E hr h=>?_)
 ·obtain ⟨rd,dx,wl,ws,t,free,res,rfl,_⟩ := h
  rfl
 obtain ⟨rd,dx,wl,ws,t,free,res,rfl,h,hp,q⟩ := h
 have hr2 := hr.mono (show 2 ≤ k by omega)
 have hr1 := hr.mono (show 1 ≤ k by omega)
 refine ⟨_,A7 (B9 (i := 2) iN.nd rfl (Or.inl rfl) (E5 A5))
  (A7 (B9 (i := 3) iN.nd rfl (Or.inl rfl) (E5 (A0 (J4 NG hr rfl (G5 (E' := E) fun _ _ _ h=>h) (A0 (pv 0) (A0 (pv 1) A5))) A5)))
  (A7 (V2 PassesOwn.leaving (B8 iV (O2 AH c hr1 P0 (pv 0) (A0 B2 A5)) (K0 (A0 B3 (A0 B3 A5))) rfl)
   (N3 (E8 (B8 G7 (bV TK c hr2 P0 (pv 0)) B3 (D5 _))
     (A7 (K5 (S5 PySem.F.plainAttrs_list PySem.F.slot_list_append PySem.F.type_list_append M0 (pv 2) (A0 (B5 ON hr1 rfl (A0 B3 (A0 (pv 3) A5))) A5)))
     (A8 (B9 (i := 3) iN.nd rfl (Or.inl rfl) (E5 A5)))) D6)
   (A8 (K5 (S5 PySem.F.plainAttrs_list PySem.F.slot_list_append PySem.F.type_list_append M0 (pv 3) (A0 (J4 NG hr rfl (G5 (E' := E) fun _ _ _ h=>h) (A0 (pv 0) (A0 (pv 1) A5))) A5))))))
  (A7 (K5 (S5 PySem.F.plainAttrs_list PySem.F.slot_list_append PySem.F.type_list_append M0 (pv 2) (A0 (B5 ON hr1 rfl (A0 B3 (A0 (pv 3) A5))) A5)))
  (A8 (B4 (B5 ON hr1 rfl (A0 B3 (A0 (pv 2) A5)))))))),?_⟩
 obtain ⟨nres,hn,hm⟩ := hp
 have S0 := RS.start h
 have wl0 := h.ok.len
 refine ⟨U2,fun la hla=>?_⟩
 have S1 := S0.put (o := .lst []) hla
 refine ⟨_,rfl,_,rfl,rd,dx,wl,ws,t,free,nres,rfl,S1.st,hn,?_⟩
 cases nres with
 | none =>
  subst hm
  intro H2 g2
  exact q H2 (S1.g.trans g2)
 | some p =>
  obtain ⟨x0,r0⟩ := p
  obtain ⟨k0,hm⟩ := hm
  intro v0 H2 t2 g2 d2 e2 lt2 le2 hv0
  have S2 := S1.more g2 d2
  have nla : la ≠ rd := S1.none hla A6
  have hla2 := g2 _ _ nla A6
  refine ⟨L0,fun lp hlp=>?_⟩
  have hlp0 := gY S2 hlp
  have nap : la ≠ lp := fun e=>by rw [← e,hla2] at hlp; cases hlp
  have kp0 := A9 hlp (.lst [v0])
  refine ⟨fun m σ H'=>∃ (alts parts : List Tn) (us vs : List V) (lp : Addr) (t' : Nat),σ = [some (.ref rd),some (.bl free),some (.ref la),some (.ref lp)] ∧ H lp = none ∧ la ≠ lp ∧ RS H H' R rd dx wl ws t' ∧ H' la = some (.lst us) ∧ H' lp = some (.lst vs) ∧ TAll K H' alts us ∧ TAll K H' parts vs ∧ MoreP X m free alts parts (ws.drop t') res ∧ alts.length + parts.length ≤ t' ∧ t < t' ∧ t' ≤ ws.length,
   ⟨k0,[],[x0],[],[v0],lp,t2,rfl,hlp0,nap,S2.same kp0,kp0 _ _ hla2,A6,TAll.nil,TAll.one (TV.kp (Kp.same kp0) hv0),by rw [e2]; exact hm,(by show 0 + 1 ≤ t2; omega),lt2,le2⟩,?_⟩
  rintro m σ H' ⟨alts,parts,us,vs,lp,t',rfl,hlp0,nap,s',ha,hb,hta,htp,hmm,hlen,h1,h2⟩
  have na : la ≠ rd := s'.none hla ha
  have nb : lp ≠ rd := s'.none hlp0 hb
  have hul := hta.length
  have hvl := htp.length
  refine ⟨_,rfl,rd,dx,_,rfl,s'.st.ob,rfl,rd,dx,wl,ws,t',0,rfl,s'.st,R8,fun pt hpt=>?_⟩
  have kt := A9 hpt (.tup [.str (Str.ofString "&"),.str (Str.ofString "|")])
  refine ⟨pt,_,rfl,.inr (SqT.of A6),rfl,rfl,_,rfl,?_⟩
  rw [nO,pG,pF]
  show if cP (.str (S (hd (ws.drop t')))) [.str (S [38]),.str (S [124])] = true then _ else _
  rw [in2]
  rw [pG,pF] at kt
  have st := s'.same kt
  have ha1 := kt _ _ ha
  have hb1 := kt _ _ hb
  have hta1 := hta.kp (Kp.same kt)
  have htp1 := htp.kp (Kp.same kt)
  generalize E7 H' pt (.tup [.str (S [38]),.str (S [124])]) = H3 at kt st ha1 hb1 hta1 htp1 ⊢
  generalize hdr : ws.drop t' = rr at hmm ⊢
  cases hmm with
  | stop e38 e124 =>
   rw [decide_eq_false e38,decide_eq_false e124]
   refine E2 ?_
   refine ⟨_,rfl,.inl ⟨rfl,_,SqL.of ha1⟩,_,rfl,P3,lp,vs,parts,by rw [bH]; rfl,hb1,htp1,fun v H4 g4 hv=>?_⟩
   have s4 := st.same g4
   have ha4 := g4 _ _ ha1
   have hta4 := hta1.kp (Kp.same g4)
   refine ⟨la,_,_,rfl,rfl,ha4,dC (by omega),?_⟩
   have kl := Kp.lst (K := K) (o := .lst (us ++ [v])) ha4
   have s5 := s4.put (o := .lst (us ++ [v])) hla
   refine ⟨_,rfl,U9,la,us ++ [v],alts ++ [one P3 parts],by rw [lI]; rfl,A6,(hta4.kp kl).append (TAll.one (TV.kp kl hv)),fun v' H6 g6 hv'=>?_⟩
   exact q _ _ t' (s5.same g6).g (s5.same g6).st hdr h1 h2 hv'
  | @and k' _ _ _ r x r1 _ hng hk2 =>
   obtain ⟨dd1,dd2⟩ := dU hdr
   refine G0 ?_
   refine ⟨fun σ' H''=>∃ (alts parts : List Tn) (us vs : List V) (lp : Addr) (t'' : Nat),σ' = [some (.ref rd),some (.bl free),some (.ref la),some (.ref lp)] ∧ H lp = none ∧ la ≠ lp ∧ RS H H'' R rd dx wl ws t'' ∧ H'' la = some (.lst us) ∧ H'' lp = some (.lst vs) ∧ TAll K H'' alts us ∧ TAll K H'' parts vs ∧ MoreP X k' free alts parts (ws.drop t'') res ∧ alts.length + parts.length ≤ t'' ∧ t < t'' ∧ t'' ≤ ws.length,fun σ' H'' hh=>⟨k',Nat.lt_succ_self _,hh⟩,?_⟩
   refine ⟨fun σ' H''=>σ' = [some (.ref rd),some (.bl free),some (.ref la),some (.ref lp)] ∧ H'' = P5 H3 R rd dx wl (t' + 1),?_,?_⟩
   ·refine ⟨_,rfl,rd,dx,_,rfl,st.st.ob,rfl,rd,dx,wl,ws,t',rfl,st.st,rfl,_,rfl,?_⟩
    rw [N8,hdr]
    exact E2 ⟨rfl,rfl⟩
   rintro σ1 H1 ⟨rfl,rfl⟩
   have s4 := st.up (t' + 1)
   have ha4 : P5 H3 R rd dx wl (t' + 1) la = some (.lst us) := by unfold P5; rw [B6 na]; exact ha1
   have hb4 : P5 H3 R rd dx wl (t' + 1) lp = some (.lst vs) := by unfold P5; rw [B6 nb]; exact hb1
   have ku := dO (K := K) (t' := t' + 1) st.st
   refine ⟨_,rfl,.inl ⟨rfl,_,SqL.of hb4⟩,_,rfl,_,rfl,rd,dx,wl,ws,t' + 1,free,_,rfl,s4.st,by rw [dd1]; exact hng,?_⟩
   intro v H5 t5 g5 d5 e5 lt5 le5 hv
   have s5 := s4.more g5 d5
   have ha5 := g5 _ _ na ha4
   have hb5 := g5 _ _ nb hb4
   have k5 := ku.trans (Kp.grow g5 s4.st)
   have kl := Kp.lst (K := K) (o := .lst (vs ++ [v])) hb5
   refine ⟨lp,_,_,rfl,rfl,hb5,dC (by omega),alts,parts ++ [x],us,vs ++ [v],lp,t5,rfl,hlp0,nap,s5.put hlp0,by rw [B6 nap]; exact ha5,A6,hta1.kp (k5.trans kl),(htp1.kp (k5.trans kl)).append (TAll.one (TV.kp kl hv)),by rw [e5]; exact hk2,by rw [List.length_append,List.length_singleton]; omega,by omega,le5⟩
  | @or k' _ _ _ r x r1 _ hng hk2 =>
   obtain ⟨dd1,dd2⟩ := dU hdr
   refine G0 ?_
   refine ⟨fun σ' H''=>∃ (alts parts : List Tn) (us vs : List V) (lp : Addr) (t'' : Nat),σ' = [some (.ref rd),some (.bl free),some (.ref la),some (.ref lp)] ∧ H lp = none ∧ la ≠ lp ∧ RS H H'' R rd dx wl ws t'' ∧ H'' la = some (.lst us) ∧ H'' lp = some (.lst vs) ∧ TAll K H'' alts us ∧ TAll K H'' parts vs ∧ MoreP X k' free alts parts (ws.drop t'') res ∧ alts.length + parts.length ≤ t'' ∧ t < t'' ∧ t'' ≤ ws.length,fun σ' H'' hh=>⟨k',Nat.lt_succ_self _,hh⟩,?_⟩
   refine ⟨fun σ' H''=>∃ (v : V) (lq : Addr),σ' = [some (.ref rd),some (.bl free),some (.ref la),some (.ref lq)] ∧ H lq = none ∧ la ≠ lq ∧ RS H H'' R rd dx wl ws (t' + 1) ∧ H'' la = some (.lst (us ++ [v])) ∧ H'' lq = some (.lst []) ∧ TAll K H'' (alts ++ [one P3 parts]) (us ++ [v]),?_,?_⟩
   ·refine ⟨_,rfl,rd,dx,_,rfl,st.st.ob,rfl,rd,dx,wl,ws,t',rfl,st.st,rfl,_,rfl,?_⟩
    rw [N8,hdr]
    refine G0 ?_
    have s4 := st.up (t' + 1)
    have ha4 : P5 H3 R rd dx wl (t' + 1) la = some (.lst us) := by unfold P5; rw [B6 na]; exact ha1
    have hb4 : P5 H3 R rd dx wl (t' + 1) lp = some (.lst vs) := by unfold P5; rw [B6 nb]; exact hb1
    have ku := dO (K := K) (t' := t' + 1) st.st
    refine ⟨_,rfl,.inl ⟨rfl,_,SqL.of ha4⟩,_,rfl,P3,lp,vs,parts,by rw [bH]; rfl,hb4,htp1.kp ku,fun v H5 g5 hv=>?_⟩
    have s5 := s4.same g5
    have ha5 := g5 _ _ ha4
    have kl := Kp.lst (K := K) (o := .lst (us ++ [v])) ha5
    have s6 := s5.put (o := .lst (us ++ [v])) hla
    refine ⟨la,_,_,rfl,rfl,ha5,dC (by omega),U2,fun lq hlq=>?_⟩
    have kq := A9 hlq (.lst [])
    have hlq0 := gY s6 hlq
    refine ⟨v,lq,rfl,hlq0,fun e=>?_,s6.same kq,kq _ _ A6,A6,?_⟩
    ·rw [← e,A6] at hlq; cases hlq
    ·have kk := kl.trans (Kp.same kq)
     exact (hta1.kp ((ku.trans (Kp.same g5)).trans kk)).append (TAll.one (TV.kp kk hv))
   rintro σ1 H1 ⟨v1,lq,rfl,hlq0,naq,s4,ha4,hq4,hta4⟩
   have nq : lq ≠ rd := s4.none hlq0 hq4
   refine ⟨_,rfl,.inl ⟨rfl,_,SqL.of hq4⟩,_,rfl,_,rfl,rd,dx,wl,ws,t' + 1,free,_,rfl,s4.st,by rw [dd1]; exact hng,?_⟩
   intro v H5 t5 g5 d5 e5 lt5 le5 hv
   have s5 := s4.more g5 d5
   have ha5 := g5 _ _ na ha4
   have hq5 := g5 _ _ nq hq4
   have k5 := Kp.grow (K := K) g5 s4.st
   have kl := Kp.lst (K := K) (o := .lst ([] ++ [v])) hq5
   refine ⟨lq,_,_,rfl,rfl,hq5,dC (by show 0 ≤ 200000; omega),alts ++ [one P3 parts],[x],us ++ [v1],[] ++ [v],lq,t5,rfl,hlq0,naq,s5.put hlq0,by rw [B6 naq]; exact ha5,A6,hta4.kp (k5.trans kl),TAll.one (TV.kp kl hv),by rw [e5]; exact hk2,by rw [List.length_append,List.length_singleton,List.length_singleton]; omega,by omega,le5⟩
  | @bad _ _ _ w1 r hw hng =>
   obtain ⟨dd1,dd2⟩ := dU hdr
   have hin : (decide (hd (w1 :: r) = [38]) || decide (hd (w1 :: r) = [124])) = true := by
    rcases hw with rfl | rfl <;> rfl
   rw [hin]
   refine G0 ?_
   refine ⟨fun _ _=>False,fun _ _ z=>z.elim,?_⟩
   refine ⟨fun σ' H''=>∃ (lq : Addr) (xs : List V),σ' = [some (.ref rd),some (.bl free),some (.ref la),some (.ref lq)] ∧ RS H H'' R rd dx wl ws (t' + 1) ∧ H'' lq = some (.lst xs),?_,?_⟩
   ·refine ⟨_,rfl,rd,dx,_,rfl,st.st.ob,rfl,rd,dx,wl,ws,t',rfl,st.st,rfl,_,rfl,?_⟩
    have s4 := st.up (t' + 1)
    have ha4 : P5 H3 R rd dx wl (t' + 1) la = some (.lst us) := by unfold P5; rw [B6 na]; exact ha1
    have hb4 : P5 H3 R rd dx wl (t' + 1) lp = some (.lst vs) := by unfold P5; rw [B6 nb]; exact hb1
    have ku := dO (K := K) (t' := t' + 1) st.st
    refine M1 (fun _=>?_) (fun _=>⟨lp,vs,rfl,s4,hb4⟩)
    refine ⟨_,rfl,.inl ⟨rfl,_,SqL.of ha4⟩,_,rfl,P3,lp,vs,parts,by rw [bH]; rfl,hb4,htp1.kp ku,fun v H5 g5 hv=>?_⟩
    have s5 := s4.same g5
    have ha5 := g5 _ _ ha4
    have s6 := s5.put (o := .lst (us ++ [v])) hla
    refine ⟨la,_,_,rfl,rfl,ha5,dC (by omega),U2,fun lq hlq=>?_⟩
    exact ⟨lq,[],rfl,s6.same (A9 hlq _),A6⟩
   rintro σ1 H1 ⟨lq,xs,rfl,s4,hq4⟩
   refine ⟨_,rfl,.inl ⟨rfl,_,SqL.of hq4⟩,_,rfl,_,rfl,rd,dx,wl,ws,t' + 1,free,_,rfl,s4.st,by rw [dd1]; exact hng,?_⟩
   intro H5 g5
   exact q H5 (s4.g.trans g5)
end
end Law
namespace Law
open PySem L2 L2.Sp
theorem lLp : (Str.ofString "(" : Str) = S [40] := by decide +kernel
theorem lRp : (Str.ofString ")" : Str) = S [41] := by decide +kernel
theorem lLb : (Str.ofString "[" : Str) = S [91] := by decide +kernel
theorem lLc : (Str.ofString "{" : Str) = S [123] := by decide +kernel
theorem lAt : (Str.ofString "@" : Str) = S [64] := by decide +kernel
theorem BA3 : (Str.ofString "\"" : Str) = S [34] := by decide +kernel
theorem aT : (Str.ofString "place" : Str) = S cO := by decide +kernel
theorem bJ : (Str.ofString "text" : Str) = S dQ := by decide +kernel
theorem Z7 : (Str.ofString "word" : Str) = S hG := by decide +kernel
theorem yE (u : List Nat) : Txt.slice (S u) none (some 1) = S (u.take 1) := by
 cases u with
 | nil=>decide +kernel
 | cons c r =>
  have e := beq_iff_eq.mp (PyProof.Rows.slice_closes_to (x := S (c :: r)) (j := 1) ⟨by decide,by show (1 : Int) ≤ ((c :: r).length : Int); rw [List.length_cons]; omega⟩)
  rw [e]
  rfl
theorem AD0 (u : List Nat) (h : 2 ≤ u.length) : Txt.slice (S u) (some 1) (some (-1)) = S (u.drop 1).dropLast := by
 have hl : (S u).length = u.length := N9 u
 have e0 := StrLaws.sliceText_neg_hi (S u) (some 1) (j := -1) (by decide) (by rw [hl]; omega)
 have e1 : Txt.slice (S u) (some 1) (some (-1)) = Txt.slice (S u) (some ((1 : Nat) : Int)) (some ((u.length - 1 : Nat) : Int)) := by
  show StrLaws.sliceText (S u) (some 1) (some (-1)) = StrLaws.sliceText (S u) _ _
  rw [e0,hl]
  congr 2
  omega
 rw [e1,Y5 u (i := 1) (j := u.length - 1) (by omega) (by omega)]
 show S ((u.drop 1).take (u.length - 1 - 1)) = _
 rw [List.dropLast_eq_take,List.length_drop]
theorem AO1 {u : Wd} (h : U4 u) (e : u.take 1 = [34]) : Quo u := by
 rcases h with h | h | h | rfl | h
 ·obtain ⟨c,e1,hc⟩ := h.head
  cases u with
  | nil=>cases e1
  | cons a r=>cases e1; cases e; cases hc
 ·obtain ⟨c,e1,hc⟩ := h.head
  cases u with
  | nil=>cases e1
  | cons a r =>
   cases e1; cases e
   rcases hc with hc | hc <;> cases hc
 ·exact h
 ·cases e
 ·obtain ⟨c,hc,rfl⟩ := h
  cases e
  exact absurd rfl (V0 34 hc).2.2.2.1
section
variable {P : Program} {w : World} {K : PySem.W.Frag} {mg : Str → Option Value} {base : Heap} {f : Addr} {fd : FuncData} {R C : Addr} {X : Bool → List Wd → K9 → Prop}
theorem PO.lift {α : Type} {val : Hp → α → V → Prop} {H H1 : Hp} {rd dx wl : Addr} {ws : List Wd} {t t1 : Nat} {res : Option (α × List Wd)} {Q : VK} {E : XK} (s : RS H H1 R rd dx wl ws t1) (ht : t ≤ t1) (q : PO C val H R rd dx wl ws t res Q E) : PO C val H1 R rd dx wl ws t1 res Q E := by
 cases res with
 | none=>exact fun H' g=>q H' (s.g.trans g)
 | some p=>exact fun v H' t' g d e lt le hv=>q v H' t' (s.g.trans g) d e (Nat.lt_of_le_of_lt ht lt) le hv
abbrev Y6 : Stmt := N0 27
theorem kZ : E4 ["reader","free","word","tree"] ["reader","free"] (B1 Y6) := ⟨rfl,rfl,rfl,by decide +kernel,rfl,by decide +kernel,by decide +kernel⟩
theorem zB {k : Nat} {gp : Addr} (F : Fun K "single" "single" Y6 f fd) (c : RK K R) (n : NT K mg C) (EX : M2 P w K mg base k "expression" ["reader","free"] (mB K R C X)) (LT : M2 P w K mg base (k + 1) "list_tree" ["reader"] (uW (rV K) R C (nU X))) (RT : M2 P w K mg base (k + 2) "record_tree" ["reader"] (uW (rV K) R C (uF X)))
  (NS : M2 P w K mg base 4 "names_of" ["reader"] (dD K R C)) (NB : Cal P w K mg base 2 "is_number" ["word"] iI) (SP : Cal P w K mg base 3 "span_tree" ["reader","low"] (jQ K R)) (AH : R7 P w K mg base K1 R 1 "ahead" ["self","steps"] (V6 R)) (TK : R7 P w K mg base K1 R 2 "take" ["self"] (aM R))
  (MU : R7 P w K mg base (O0 P w) R 3 "must_take" ["self","word"] (cA R C)) (gP : mg "PLAIN_WORDS" = some (.ref gp)) (hK : ∀ H : Hp,SqT K H gp (ST L5)) (m1 : mg "int" = none) (hk : 4 ≤ k) :
  FnOk P w K mg base (O0 P w) (k + 3) f fd ["reader","free"] (mB K R C (SglP X)) := by
 refine Fun.ok1 F kZ (fun vs H Q E h=>?_) (fun cdv A outer s H vs Q E hr h=>?_)
 ·obtain ⟨rd,dx,wl,ws,t,free,res,rfl,_⟩ := h
  rfl
 obtain ⟨rd,dx,wl,ws,t,free,res,rfl,h,hp,q⟩ := h
 have hr1 := hr.mono (show 1 ≤ k + 2 by omega)
 have hr2 := hr.mono (show 2 ≤ k + 2 by omega)
 have hr3 := hr.mono (show 3 ≤ k + 2 by omega)
 have hr4 := hr.mono (show 4 ≤ k + 2 by omega)
 have hrk := hr.mono (show k ≤ k + 2 by omega)
 have hrk1 := hr.mono (show k + 1 ≤ k + 2 by omega)
 refine ⟨_,A7 (B9 (i := 2) kZ.nd rfl (Or.inl rfl) (bV TK c hr2 P0 (pv 0)))
  (A7 (E8 (B8 G7 (pv 2) B3 (D5 _)) (A7 (B9 (i := 3) kZ.nd rfl (Or.inl rfl) (J4 EX hrk rfl (G5 (E' := E) fun _ _ _ h=>h) (A0 (pv 0) (A0 (pv 1) A5)))) (A7 (K5 (O2 MU c hr3 (G5 (E' := E) fun _ _ _ h=>h) (pv 0) (A0 B3 A5))) (A8 (B4 (pv 3))))) D6)
  (A7 (E8 (B8 G7 (pv 2) B3 (D5 _)) (A8 (B4 (J4 LT hrk1 rfl (G5 (E' := E) fun _ _ _ h=>h) (A0 (pv 0) A5)))) D6)
  (A7 (E8 (B8 G7 (pv 2) B3 (D5 _)) (A8 (B4 (J4 RT hr rfl (G5 (E' := E) fun _ _ _ h=>h) (A0 (pv 0) A5)))) D6)
  (N3 (E8 (PW.pt (Z1 (B8 G7 (pv 2) B3 (D5 _)) (aE (N6 (pv 1))))) (A8 (B4 (K0 (A0 B3 (A0 (J4 NS hr4 rfl (G5 (E' := E) fun _ _ _ h=>h) (A0 (pv 0) A5)) A5))))) D6)
  (N3 (E8 (PW.pt (Z1 (B8 G7 (pv 2) B3 (D5 _)) (aE (N6 (B5 NB hr2 rfl (A0 (O2 AH c hr1 P0 (pv 0) (A0 B2 A5)) A5)))))) (A8 (B4 (K0 (A0 B3 (A0 aR (A0 (K6 jM rfl m1 cW (A0 (bV TK c hr2 P0 (pv 0)) A5)) A5)))))) D6)
  (A7 (E8 (N6 (B5 NB hr2 rfl (A0 (pv 2) A5))) (A8 (B4 (B5 SP hr3 rfl (A0 (pv 0) (A0 (K6 jM rfl m1 cW (A0 (pv 2) A5)) A5))))) D6)
  (A7 (E8 (B8 G7 (O6 Y9 (pv 2) V7 (M7 B2)) B3 (D5 _)) (A8 (B4 (K0 (A0 B3 (A0 (O6 Y9 (pv 2) (M7 B2) (M7 (rN lV B2))) A5))))) D6)
  (A7 (E8 (B8 iV (pv 2) (U7 (v := .ref gp) rfl gP rfl) rfl) (A8 (B4 (K0 (A0 B3 (A0 (pv 2) A5))))) D6)
  (A8 (V3 PySem.F.excBase_ValueError n.xc rfl n.mg (A0 (kG (fM (mH (pv 2) (fM mG)))) A5))))))))))),?_⟩
 have S0 := RS.start h
 have S1 := S0.up (t + 1)
 have hsm := h.ok.small t
 refine ⟨_,rfl,rd,dx,_,rfl,h.ob,rfl,rd,dx,wl,ws,t,rfl,h,?_⟩
 have hmem : hd (ws.drop t) ≠ [] → U4 (hd (ws.drop t)) ∧ t + 1 ≤ ws.length := fun z=>⟨h.ok.tok _ (xM z),dS z⟩
 unfold SglP at hp
 rw [← W1] at hp
 generalize hu : hd (ws.drop t) = u at hp hsm hmem ⊢
 refine ⟨_,rfl,rfl,_,rfl,?_⟩
 rw [lLp,N8]
 by_cases e1 : u = [40]
 ·rw [decide_eq_true e1]
  rw [if_pos e1] at hp
  obtain ⟨xres,hx,rfl⟩ := hp
  refine G0 ⟨_,rfl,_,rfl,rd,dx,wl,ws,t + 1,free,xres,rfl,S1.st,hx,?_⟩
  cases xres with
  | none=>exact fun H3 g3=>q H3 (S1.g.trans g3)
  | some p =>
   obtain ⟨x,r1⟩ := p
   intro v H3 t3 g3 d3 e3 lt3 le3 hv
   have s3 := S1.more g3 d3
   refine ⟨_,rfl,rd,dx,_,rfl,s3.st.ob,rfl,rd,dx,wl,ws,t3,[41],by rw [lRp]; rfl,s3.st,eR 41 (by decide),?_⟩
   dsimp only at q
   have s4 := s3.up (t3 + 1)
   by_cases e : hd (ws.drop t3) = [41]
   ·rw [if_pos (by rw [← e3]; exact e)] at q
    refine G2 e ⟨_,rfl,q _ _ (t3 + 1) s4.g s4.st (by rw [W1,e3]) (by omega) (dS (by rw [e]; simp)) (TV.kp (dO s3.st) hv)⟩
   ·rw [if_neg (by rw [← e3]; exact e)] at q
    exact B7 e (q _ s4.g)
 rw [decide_eq_false e1]
 rw [if_neg e1] at hp
 refine E2 ⟨_,rfl,rfl,_,rfl,?_⟩
 rw [lLb,N8]
 by_cases e2 : u = [91]
 ·rw [decide_eq_true e2]
  rw [if_pos e2] at hp
  exact G0 ⟨_,rfl,rd,dx,wl,ws,t + 1,res,rfl,S1.st,(hmem (by rw [e2]; simp)).2,hp,PO.lift S1 (by omega) q⟩
 rw [decide_eq_false e2]
 rw [if_neg e2] at hp
 refine E2 ⟨_,rfl,rfl,_,rfl,?_⟩
 rw [lLc,N8]
 by_cases e3 : u = [123]
 ·rw [decide_eq_true e3]
  rw [if_pos e3] at hp
  exact G0 ⟨_,rfl,rd,dx,wl,ws,t + 1,res,rfl,S1.st,(hmem (by rw [e3]; simp)).2,hp,PO.lift S1 (by omega) q⟩
 rw [decide_eq_false e3]
 rw [if_neg e3] at hp
 refine E2 ?_
 have q1 := PO.lift S1 (by omega) q
 refine ⟨fun σ' H'=>¬ (u = [64] ∧ free = true) ∧ σ' = [some (.ref rd),some (.bl free),some (.str (S u)),none] ∧ H' = P5 H R rd dx wl (t + 1),?_,?_⟩
 ·refine ⟨_,rfl,rfl,_,rfl,?_⟩
  rw [lAt,N8]
  by_cases e4 : u = [64]
  ·rw [decide_eq_true e4]
   refine G0 ⟨_,rfl,_,rfl,?_⟩
   cases free with
   | false=>exact E2 ⟨fun z=>(by cases z.2),rfl,rfl⟩
   | true =>
    rw [if_pos ⟨e4,rfl⟩] at hp
    obtain ⟨nres,hn,rfl⟩ := hp
    refine G0 ⟨_,rfl,rd,dx,wl,ws,t + 1,nres,rfl,S1.st,hn,?_⟩
    cases nres with
    | none=>exact q1
    | some p =>
     obtain ⟨ns,r1⟩ := p
     intro v H3 t3 g3 d3 e3 lt3 le3 hv
     refine ⟨R8,fun p hp=>?_⟩
     have kp := A9 hp (.tup [.str (Str.ofString "place"),v])
     have s3 := (S1.more g3 d3).same kp
     exact q _ _ t3 s3.g s3.st e3 (by omega) le3 (TV.tup (SqT.of (by rw [A6,aT])) (TAll.cons TV.str (TAll.one (TV.kp (Kp.same kp) hv))))
  ·rw [decide_eq_false e4]
   exact E2 (E2 ⟨fun z=>e4 z.1,rfl,rfl⟩)
 rintro σ1 H1 ⟨e4,rfl,rfl⟩
 rw [if_neg e4] at hp
 refine ⟨fun σ' H'=>¬ (u = [46,46] ∧ J9 (hd (ws.drop (t + 1))) = true) ∧ σ' = [some (.ref rd),some (.bl free),some (.str (S u)),none] ∧ H' = P5 H R rd dx wl (t + 1),?_,?_⟩
 ·refine ⟨_,rfl,rfl,_,rfl,?_⟩
  rw [V9,N8]
  by_cases e5 : u = [46,46]
  ·rw [decide_eq_true e5]
   refine G0 ⟨_,rfl,rd,dx,_,rfl,S1.st.ob,rfl,rd,dx,wl,ws,t + 1,0,rfl,S1.st,_,rfl,?_,_,rfl,?_⟩
   ·rw [nO]; exact (h.ok.small (t + 1)).1
   rw [nO]
   cases hb : J9 (hd (ws.drop (t + 1))) with
   | false=>exact E2 ⟨fun z=>(by cases z.2),rfl,rfl⟩
   | true =>
    rw [if_pos ⟨e5,hb⟩] at hp
    subst hp
    have hw := h.ok.tok _ (xM (fR hb))
    obtain ⟨i1,i2⟩ := pB (nX hw hb)
    refine G0 ⟨_,rfl,rd,dx,_,rfl,S1.st.ob,rfl,rd,dx,wl,ws,t + 1,rfl,S1.st,_,_,rfl,i1,by rw [N9]; omega,Z6,fun p hp=>?_⟩
    have s2 := (S1.up (t + 1 + 1)).same (A9 hp (.tup [.str (Str.ofString "span"),.non,.int (P4 (hd (ws.drop (t + 1))))]))
    exact q _ _ (t + 1 + 1) s2.g s2.st W1 (by omega) (dS (fR hb)) (eO A6 TV.non TV.int)
  ·rw [decide_eq_false e5]
   exact E2 (E2 ⟨fun z=>e5 z.1,rfl,rfl⟩)
 rintro σ2 H2 ⟨e5,rfl,rfl⟩
 rw [if_neg e5] at hp
 refine ⟨_,rfl,_,rfl,hsm.1,_,rfl,?_⟩
 cases hb : J9 u with
 | true =>
  rw [if_pos hb] at hp
  obtain ⟨hw,hl⟩ := hmem (fR hb)
  obtain ⟨i1,i2⟩ := pB (nX hw hb)
  refine G0 ⟨_,rfl,_,rfl,_,_,rfl,i1,by rw [N9]; omega,rd,dx,wl,ws,t + 1,P4 u,rfl,S1.st,hl,?_⟩
  have hres : res = some (lZ (P4 u) (ws.drop (t + 1))) := by
   unfold lZ
   split at hp
   ·split at hp
    ·rename_i a b; rw [if_pos a,if_pos b]; exact hp
    ·rename_i a b; rw [if_pos a,if_neg b]; exact hp
   ·rename_i a; rw [if_neg a]; exact hp
  subst hres
  intro v H3 t3 g3 d3 e3 lt3 le3 hv
  exact q v H3 t3 (S1.g.trans g3) d3 e3 (by omega) le3 hv
 | false =>
 rw [if_neg (by rw [hb]; decide)] at hp
 refine E2 ⟨_,rfl,_,rfl,_,rfl,O8 hsm.1,rfl,_,rfl,?_⟩
 rw [yE,BA3,N8]
 by_cases e7 : u.take 1 = [34]
 ·rw [decide_eq_true e7]
  rw [if_pos e7] at hp
  subst hp
  have une : u ≠ [] := fun z=>by rw [z] at e7; cases e7
  obtain ⟨hw,hl⟩ := hmem une
  have hlen : 2 ≤ u.length := by
   obtain ⟨b,_,e⟩ := AO1 hw e7
   rw [e]; simp
  refine G0 ⟨_,rfl,_,rfl,_,rfl,_,rfl,_,rfl,O8 hsm.1,?_⟩
  rw [show (- (1 : Int)) = -1 from rfl,AD0 u hlen]
  refine ⟨R8,fun p hp=>?_⟩
  have kp := A9 hp (.tup [.str (Str.ofString "text"),.str (S (u.drop 1).dropLast)])
  have s3 := S1.same kp
  exact q _ _ (t + 1) s3.g s3.st rfl (by omega) hl (TV.tup (SqT.of (by rw [A6,bJ])) (TAll.cons TV.str (TAll.one TV.str)))
 rw [decide_eq_false e7]
 rw [if_neg e7] at hp
 refine E2 ⟨_,rfl,gp,_,rfl,.inr (hK _),rfl,kL _,_,rfl,?_⟩
 show if cP (.str (S u)) (ST L5) = true then _ else _
 rw [jI]
 by_cases e8 : u ∈ L5
 ·rw [decide_eq_true e8]
  rw [if_pos e8] at hp
  subst hp
  have une : u ≠ [] := fun z=>by rw [z] at e8; revert e8; decide
  obtain ⟨hw,hl⟩ := hmem une
  refine G0 ⟨_,rfl,R8,fun p hp=>?_⟩
  have kp := A9 hp (.tup [.str (Str.ofString "word"),.str (S u)])
  have s3 := S1.same kp
  exact q _ _ (t + 1) s3.g s3.st rfl (by omega) hl (TV.tup (SqT.of (by rw [A6,Z7])) (TAll.cons TV.str (TAll.one TV.str)))
 ·rw [decide_eq_false e8]
  rw [if_neg e8] at hp
  subst hp
  exact E2 ⟨_,rfl,_,rfl,by rw [N9]; exact hsm.1,hsm.2,fun r=>⟨L0,q _ S1.g⟩⟩
end
end Law
namespace Law
open PySem L2 L2.Sp
structure Nm (K : PySem.W.Frag) (mg : Str → Option Value) (x : Str) (st : Stmt) (ps : List Str) : Prop where
 ex : ∃ (f : Addr) (fd : FuncData),Fun K x x st f fd ∧ mg x = some (.ref f) ∧ PySem.W.keepIn K (.ref f) = true ∧ Binds K fd ps []
section
variable {P : Program} {w : World} {K : PySem.W.Frag} {mg : Str → Option Value} {base : Heap} {f : Addr} {fd : FuncData} {R C : Addr}
theorem Nm.cal1 {x : Str} {st : Stmt} {ps : List Str} {k : Nat} {sp : Sp} (n : Nm K mg x st ps) (h : ∀ f fd,Fun K x x st f fd → FnOk P w K mg base (O0 P w) k f fd ps sp) : M2 P w K mg base k x ps sp := by
 obtain ⟨f,fd,F,a,b,c⟩ := n.ex
 exact ⟨f,fd,h f fd F,a,b,c⟩
structure Rdg (P : Program) (w : World) (K : PySem.W.Frag) (mg : Str → Option Value) (base : Heap) (R C : Addr) : Prop where
 c : RK K R
 n : NT K mg C
 nE : Nm K mg "expression" dM ["reader","free"]
 nN : Nm K mg "negated" dL ["reader","free"]
 nS : Nm K mg "single" Y6 ["reader","free"]
 nL : Nm K mg "list_tree" aO ["reader"]
 nR : Nm K mg "record_tree" dJ ["reader"]
 nF : Nm K mg "field_of" aP ["reader"]
 HAS : M2 P w K mg base 4 "has_another" ["reader","close","count"] (mD R C)
 ENDT : M2 P w K mg base 4 "takes_end" ["reader","close"] (iJ R C)
 NAME : M2 P w K mg base 3 "name_of" ["reader"] (bZ R C)
 NS : M2 P w K mg base 4 "names_of" ["reader"] (dD K R C)
 NB : Cal P w K mg base 2 "is_number" ["word"] iI
 SP : Cal P w K mg base 3 "span_tree" ["reader","low"] (jQ K R)
 ON : Cal P w K mg base 1 "one_or_several" ["word","trees"] (rB K)
 AH : R7 P w K mg base K1 R 1 "ahead" ["self","steps"] (V6 R)
 TK : R7 P w K mg base K1 R 2 "take" ["self"] (aM R)
 TS : R7 P w K mg base K1 R 2 "takes" ["self","word"] (Y4 R)
 MU : R7 P w K mg base (O0 P w) R 3 "must_take" ["self","word"] (cA R C)
 gP : ∃ gp,mg "PLAIN_WORDS" = some (.ref gp) ∧ ∀ H : Hp,SqT K H gp (ST L5)
 m1 : mg "len" = none
 m2 : mg "tuple" = none
 m3 : mg "int" = none
 m4 : mg "range" = none
theorem mM (r : Rdg P w K mg base R C) : ∀ n,M2 P w K mg base (5 * n + 5) "expression" ["reader","free"] (mB K R C (Exn n))
 | 0=>r.nE.cal1 fun f fd F=>by
  refine Fun.ok1 F iN (fun vs H Q E h=>?_) (fun cdv A outer s H vs Q E hr h=>?_)
  ·obtain ⟨rd,dx,wl,ws,t,free,res,rfl,_⟩ := h
   rfl
  ·obtain ⟨rd,dx,wl,ws,t,free,res,rfl,_,hp,_⟩ := h
   exact hp.elim
 | n + 1=>by
  have EX := mM r n
  obtain ⟨gp,g1,g2⟩ := r.gP
  have hk : 4 ≤ 5 * n + 5 := by omega
  have LT := r.nL.cal1 (base := base) (P := P) (w := w) fun f fd F=>AF1 F EX r.HAS r.ENDT r.m1 r.m2 hk
  have FI := r.nF.cal1 (base := base) (P := P) (w := w) fun f fd F=>AF3 F r.c EX r.NAME r.TS r.MU hk
  have RT := r.nR.cal1 (base := base) (P := P) (w := w) fun f fd F=>AQ6 F r.n FI r.HAS r.ENDT r.m1 r.m2 (by omega)
  have SG := r.nS.cal1 (base := base) (P := P) (w := w) fun f fd F=>zB F r.c r.n EX LT RT r.NS r.NB r.SP r.AH r.TK r.MU g1 g2 r.m3 hk
  have NG := r.nN.cal1 (base := base) (P := P) (w := w) fun f fd F=>AR1 F r.c SG r.TS r.m4 (by omega)
  exact r.nE.cal1 (base := base) (P := P) (w := w) fun f fd F=>AR6 F r.c NG r.AH r.TK r.ON (by omega)
abbrev jW : Stmt := N0 22
theorem sM : E4 ["text","reader","tree"] ["text"] (B1 jW) := ⟨rfl,rfl,rfl,by decide +kernel,rfl,by decide +kernel,by decide +kernel⟩
def W5 (K : PySem.W.Frag) (C : Addr) (Y : List Wd → Option Tn → Prop) : Sp := fun args H Q E=>∃ v,args = [v] ∧ ((∃ d,DV K H d v ∧ jG d "str" = false ∧ ∀ H',Same H H' → E (.ref C) none H') ∨ ∃ l,v = .str (S l) ∧ X6 l ∧
 ((G6 l = none ∧ ∀ H',Same H H' → E (.ref C) none H') ∨ ∃ ws res,G6 l = some ws ∧ WsOk ws ∧ Y ws res ∧ match res with
  | none=>∀ H',Same H H' → E (.ref C) none H'
  | some x=>∀ u H',Same H H' → TV K H' x u → Q u H'))
theorem T8 {H H' : Hp} {rd dx : Addr} {o o' : HO} (h1 : H rd = none) (h2 : H dx = none) (g : Grow rd (E7 (E7 H dx o) rd o') H') : Same H H' := fun b u hb=>by
 have n1 := D9 hb h1
 have n2 := D9 hb h2
 refine g b u n1 ?_
 rw [B6 n1,B6 n2]; exact hb
theorem AQ7 {N : Nat} {fi : Addr} {fdi : FuncData} (F : Fun K "read" "read" jW f fd) (r : Rdg P w K mg base R C) (M : Mk K R fi) (FI : FnOk P w K mg base (O0 P w) 6 fi fdi ["self","text"] (sF K R C)) (bi : Binds K fdi ["self","text"] []) (gR : mg "Reader" = some (.ref R)) :
  FnOk P w K mg base (O0 P w) (5 * N + 8) f fd ["text"] (W5 K C (bO N)) := by
 refine Fun.ok1 F sM (fun vs H Q E h=>?_) (fun cdv A outer s H vs Q E hr h=>?_)
 ·obtain ⟨v,rfl,_⟩ := h
  rfl
 obtain ⟨v,rfl,h⟩ := h
 have hr7 := hr.mono (show 6 + 1 ≤ 5 * N + 7 by omega)
 have hrE := hr.mono (show 5 * N + 5 ≤ 5 * N + 7 by omega)
 have hr3 := hr.mono (show 3 ≤ 5 * N + 7 by omega)
 refine ⟨_,A7 (B9 (i := 1) sM.nd rfl (Or.inl rfl) (vG M FI hr7 rfl gR bi .nil (G5 (E' := E) fun _ _ _ h=>h) (A0 (pv 0) A5)))
  (A7 (B9 (i := 2) sM.nd rfl (Or.inl rfl) (J4 (mM r N) hrE rfl (G5 (E' := E) fun _ _ _ h=>h) (A0 (pv 1) (A0 N7 A5))))
  (A7 (K5 (O2 r.MU r.c hr3 (G5 (E' := E) fun _ _ _ h=>h) (pv 1) (A0 B3 A5)))
  (A8 (B4 (pv 2))))),?_⟩
 refine ⟨_,rfl,fun rd dx h1 h2 n12=>⟨rd,dx,v,rfl,A6,?_⟩⟩
 rcases h with ⟨d,hd,hf,e⟩ | ⟨l,rfl,hs,h⟩
 ·refine .inl ⟨d,DV.mono (DKeep.same ?_) _ _ hd,hf,e _ ?_⟩
  ·exact T8 h1 h2 Grow.refl
  ·exact T8 h1 h2 Grow.refl
 refine .inr ⟨l,rfl,hs,fun ws hw H1 p hp g1 hl hrd=>?_,fun hw H1 g1=>?_⟩
 ·rcases h with ⟨hn,_⟩ | ⟨ws',res,hw',ok,hy,q⟩
  ·rw [hn] at hw; cases hw
  ·rw [hw] at hw'; cases hw'
   refine ⟨rfl,?_⟩
   obtain ⟨xres,hx,rfl⟩ := hy
   have D0 : RD H1 R rd dx p ws 0 := ⟨hrd,hl,ok⟩
   have S0 := RS.start D0
   have up : ∀ {H2 : Hp},Grow rd H1 H2 → Same H H2 := fun {H2} g2=>T8 h1 h2 (g1.trans g2)
   refine ⟨_,rfl,rd,dx,p,ws,0,true,xres,rfl,D0,hx,?_⟩
   cases xres with
   | none=>exact fun H2 g2=>q H2 (up g2)
   | some pr =>
    obtain ⟨x,rr⟩ := pr
    intro u H2 t2 g2 d2 e2 lt2 le2 hu
    have s2 := S0.more g2 d2
    have s3 := s2.up (t2 + 1)
    refine ⟨_,rfl,rd,dx,_,rfl,d2.ob,rfl,rd,dx,p,ws,t2,[],by rw [iY]; rfl,d2,⟨by decide,fun c hc=>by cases hc⟩,?_⟩
    rw [e2]
    dsimp only at q
    by_cases e : Law.hd rr = []
    ·rw [if_pos e] at q
     exact G2 e ⟨_,rfl,q _ _ (up s3.g) (TV.kp (dO d2) hu)⟩
    ·rw [if_neg e] at q
     exact B7 e (q _ (up s3.g))
 ·rcases h with ⟨_,q⟩ | ⟨ws',res,hw',ok,hy,q⟩
  ·exact q _ (T8 h1 h2 (Grow.of g1))
  ·rw [hw] at hw'; cases hw'
end
end Law
namespace Law
open PySem L2 L2.Sp
section
variable {X Y : Bool → List Wd → K9 → Prop} (k : ∀ f r res,X f r res → Y f r res)
include k
theorem ItemsP.mono {n : Nat} {ts : List Tn} {r : List Wd} {res : Option (List Tn × List Wd)} (h : ItemsP X n ts r res) : ItemsP Y n ts r res := by
 induction h with
 | stop a=>exact .stop a
 | on a b _ ih=>exact .on a (k _ _ _ b) ih
 | bad a=>exact .bad a
 | worse a b=>exact .worse a (k _ _ _ b)
theorem FieldP.mono {r : List Wd} {res : Option ((Wd × Tn × Bool) × List Wd)} (h : FieldP X r res) : FieldP Y r res := by
 unfold FieldP at h ⊢
 split at h
 ·rename_i h1
  rw [if_pos h1]
  split at h
  ·rename_i h2
   rw [if_pos h2]
   split at h
   ·rename_i h3
    rw [if_pos h3]
    obtain ⟨x,a,b⟩ := h
    exact ⟨x,k _ _ _ a,b⟩
   ·rename_i h3
    rw [if_neg h3]; exact h
  ·rename_i h2
   rw [if_neg h2]
   split at h
   ·rename_i h3
    rw [if_pos h3]
    obtain ⟨x,a,b⟩ := h
    exact ⟨x,k _ _ _ a,b⟩
   ·rename_i h3
    rw [if_neg h3]; exact h
 ·rename_i h1
  rw [if_neg h1]; exact h
theorem FieldsP.mono {n : Nat} {fs : List (Wd × Tn × Bool)} {r : List Wd} {res : Option (List (Wd × Tn × Bool) × List Wd)} (h : FieldsP X n fs r res) : FieldsP Y n fs r res := by
 induction h with
 | stop a=>exact .stop a
 | on a b c _ ih=>exact .on a (FieldP.mono k b) c ih
 | bad a=>exact .bad a
 | worse a b=>exact .worse a (FieldP.mono k b)
 | twice a b c=>exact .twice a (FieldP.mono k b) c
theorem SglP.mono {free : Bool} {r : List Wd} {res : K9} (h : SglP X free r res) : SglP Y free r res := by
 unfold SglP at h ⊢
 split at h
 ·rename_i h1
  rw [if_pos h1]
  obtain ⟨x,a,b⟩ := h
  exact ⟨x,k _ _ _ a,b⟩
 rename_i h1
 rw [if_neg h1]
 split at h
 ·rename_i h2
  rw [if_pos h2]
  obtain ⟨n,x,a,b⟩ := h
  exact ⟨n,x,a.mono k,b⟩
 rename_i h2
 rw [if_neg h2]
 split at h
 ·rename_i h3
  rw [if_pos h3]
  obtain ⟨n,x,a,b⟩ := h
  exact ⟨n,x,a.mono k,b⟩
 rename_i h3
 rw [if_neg h3]
 exact h
theorem NegP.mono {free : Bool} {r : List Wd} {res : K9} (h : NegP X free r res) : NegP Y free r res := by
 obtain ⟨s,a,b⟩ := h
 exact ⟨s,a.mono k,b⟩
theorem MoreP.mono {n : Nat} {free : Bool} {as ps : List Tn} {r : List Wd} {res : K9} (h : MoreP X n free as ps r res) : MoreP Y n free as ps r res := by
 induction h with
 | stop a b=>exact .stop a b
 | and a _ ih=>exact .and (a.mono k) ih
 | or a _ ih=>exact .or (a.mono k) ih
 | bad a b=>exact .bad a (b.mono k)
theorem ExpP.mono {free : Bool} {r : List Wd} {res : K9} (h : ExpP X free r res) : ExpP Y free r res := by
 obtain ⟨s,a,b⟩ := h
 refine ⟨s,a.mono k,?_⟩
 cases s with
 | none=>exact b
 | some p =>
  obtain ⟨n,b⟩ := b
  exact ⟨n,b.mono k⟩
end
theorem Exn.succ : ∀ (n : Nat) (f : Bool) (r : List Wd) (res : K9),Exn n f r res → Exn (n + 1) f r res
 | 0,_,_,_,h=>h.elim
 | n + 1,f,r,res,h=>ExpP.mono (Exn.succ n) h
theorem Exn.mono {m n : Nat} (h : m ≤ n) {f : Bool} {r : List Wd} {res : K9} (x : Exn m f r res) : Exn n f r res := by
 induction h with
 | refl=>exact x
 | step _ ih=>exact Exn.succ _ _ _ _ ih
def wM : List Wd := [[41],[93],[125],[44],[38],[124],[101,108,115,101]]
def xP : List Wd := [[41],[93],[125],[44],[101,108,115,101]]
def TS (r : List Wd) : Prop := hd r ≠ [46,46] ∧ hd r ≠ [46] ∧ J9 (hd r) = false
def ES (r : List Wd) : Prop := TS r ∧ hd r ≠ [38] ∧ hd r ≠ [124]
theorem ES.ts {r : List Wd} (h : ES r) : TS r := h.1
theorem TS.no {r : List Wd} (h : TS r) : hd r ≠ [46,46] ∧ hd r ≠ [46] ∧ J9 (hd r) = false := h
theorem ES.no {r : List Wd} (h : ES r) : hd r ≠ [38] ∧ hd r ≠ [124] := h.2
theorem AC8 : ∀ x ∈ wM,x ≠ [46,46] ∧ x ≠ [46] ∧ J9 x = false := by decide
theorem AI1 : ∀ x ∈ xP,(x ≠ [46,46] ∧ x ≠ [46] ∧ J9 x = false) ∧ x ≠ [38] ∧ x ≠ [124] := by decide
theorem TS.of {u : Wd} {r : List Wd} (h : u ∈ wM) : TS (u :: r) := AC8 u h
theorem ES.of {u : Wd} {r : List Wd} (h : u ∈ xP) : ES (u :: r) := AI1 u h
theorem ES.nil : ES [] := ⟨⟨by decide,by decide,rfl⟩,by decide,by decide⟩
def tails (s : Wd) (rows : List (List Wd)) : List Wd := rows.flatMap (s :: ·)
def G3 (s : Wd) : List (List Wd) → List Wd
 | []=>[]
 | r :: rs=>r ++ tails s rs
theorem N1 (s : Wd) (r : List Wd) (rs : List (List Wd)) : tails s (r :: rs) = s :: (r ++ tails s rs) := by simp [tails]
theorem TS.tails {s : Wd} {rows : List (List Wd)} {r : List Wd} (hs : s ∈ wM) (h : TS r) : TS (tails s rows ++ r) := by
 cases rows with
 | nil=>exact h
 | cons x xs=>rw [N1]; exact TS.of hs
section
variable {X : Bool → List Wd → K9 → Prop} {free : Bool}
def NegAble (X : Bool → List Wd → K9 → Prop) (free : Bool) (x : Tn) (row : List Wd) : Prop := ∀ rest,TS rest → NegP X free (row ++ rest) (some (x,rest))
def ExpAble (X : Bool → List Wd → K9 → Prop) (free : Bool) (x : Tn) (row : List Wd) : Prop := ∀ rest,ES rest → X free (row ++ rest) (some (x,rest))
inductive All2 {α β : Type} (F : α → β → Prop) : List α → List β → Prop
 | nil : All2 F [] []
 | cons {a b as bs} : F a b → All2 F as bs → All2 F (a :: as) (b :: bs)
theorem All2.imp {α β : Type} {F G : α → β → Prop} {as : List α} {bs : List β} (h : All2 F as bs) (k : ∀ a ∈ as,∀ b,F a b → G a b) : All2 G as bs := by
 induction h with
 | nil=>exact .nil
 | cons a _ ih=>exact .cons (k _ (by simp) _ a) (ih fun x hx=>k x (by simp [hx]))
theorem All2.length {α β : Type} {F : α → β → Prop} {as : List α} {bs : List β} (h : All2 F as bs) : as.length = bs.length := by
 induction h with
 | nil=>rfl
 | cons _ _ ih=>simp [ih]
theorem All2.snoc {α β : Type} {F : α → β → Prop} {as : List α} {bs : List β} {a : α} {b : β} (h : All2 F as bs) (h' : F a b) : All2 F (as ++ [a]) (bs ++ [b]) := by
 induction h with
 | nil=>exact .cons h' .nil
 | cons x _ ih=>exact .cons x ih
theorem gB {alts : List Tn} {r : List Wd} {res : K9} (hr : TS r) : ∀ {ys : List Tn} {rows : List (List Wd)} {parts : List Tn} {k : Nat},All2 (NegAble X free) ys rows → MoreP X k free alts (parts ++ ys) r res → ∃ k',MoreP X k' free alts parts (tails [38] rows ++ r) res
 | _,_,parts,k,.nil,h=>⟨k,by simpa [tails] using h⟩
 | _,_,parts,k,@All2.cons _ _ _ y row ys rows a as,h=>by
  obtain ⟨k',h'⟩ := gB hr (parts := parts ++ [y]) as (by simpa using h)
  refine ⟨k' + 1,?_⟩
  rw [N1,List.cons_append,List.append_assoc]
  exact .and (a _ (TS.tails (by decide) hr)) h'
def AndAble (X : Bool → List Wd → K9 → Prop) (free : Bool) (x : Tn) (g : List Wd) : Prop := ∃ y ys row rows,one P3 (y :: ys) = x ∧ NegAble X free y row ∧ All2 (NegAble X free) ys rows ∧ g = row ++ tails [38] rows
theorem yZ {rest : List Wd} (hr : ES rest) : ∀ {xs : List Tn} {gs : List (List Wd)} {alts parts : List Tn},All2 (AndAble X free) xs gs → ∃ k,MoreP X k free alts parts (tails [124] gs ++ rest) (some (one U9 (alts ++ [one P3 parts] ++ xs),rest))
 | _,_,alts,parts,.nil=>⟨0,by
  rw [List.append_nil]
  exact .stop hr.no.1 hr.no.2⟩
 | _,_,alts,parts,@All2.cons _ _ _ x g xs gs a as=>by
  obtain ⟨y,ys,row,rows,e,h1,h2,rfl⟩ := a
  obtain ⟨k,hk⟩ := yZ hr (alts := alts ++ [one P3 parts]) (parts := [y] ++ ys) as
  have hts : TS (tails [124] gs ++ rest) := TS.tails (by decide) hr.ts
  obtain ⟨k',hk'⟩ := gB hts (parts := [y]) h2 hk
  refine ⟨k' + 1,?_⟩
  have e2 : one P3 ([y] ++ ys) = x := e
  rw [e2] at hk'
  rw [N1,List.cons_append,List.append_assoc,List.append_assoc]
  have := MoreP.or (alts := alts) (parts := parts) (h1 _ (TS.tails (s := [38]) (rows := rows) (by decide) hts)) hk'
  simpa using this
theorem AA0 {x : Tn} {g : List Wd} {xs : List Tn} {gs : List (List Wd)} (h : AndAble X free x g) (hs : All2 (AndAble X free) xs gs) : ExpAble (ExpP X) free (one U9 (x :: xs)) (g ++ tails [124] gs) := fun rest hr=>by
 obtain ⟨y,ys,row,rows,e,h1,h2,rfl⟩ := h
 obtain ⟨k,hk⟩ := yZ hr (alts := []) (parts := [y] ++ ys) hs
 have hts : TS (tails [124] gs ++ rest) := TS.tails (by decide) hr.ts
 obtain ⟨k',hk'⟩ := gB hts (parts := [y]) h2 hk
 have e2 : one P3 ([y] ++ ys) = x := e
 rw [e2] at hk'
 refine ⟨some (y,tails [38] rows ++ (tails [124] gs ++ rest)),?_,k',hk'⟩
 have := h1 _ (TS.tails (s := [38]) (rows := rows) (by decide) hts)
 simpa using this
theorem fV {x : Tn} {g : List Wd} (h : AndAble X free x g) : ExpAble (ExpP X) free x g := fun rest hr=>by
 have := AA0 h .nil rest hr
 simpa [tails,one] using this
theorem NegAble.and {x : Tn} {row : List Wd} (h : NegAble X free x row) : AndAble X free x row := ⟨x,[],row,[],rfl,h,.nil,by simp [tails]⟩
theorem aY {u : Wd} {r : List Wd} {res : K9} (hu : u ≠ [33]) (h : SglP X free (u :: r) res) : NegP X free (u :: r) res := by
 have e : bangs (u :: r) = 0 := by unfold bangs; rw [List.takeWhile_cons_of_neg (by simpa using hu)]; rfl
 refine ⟨res,?_,?_⟩
 ·rw [e]; simpa using h
 ·rw [e]; cases res <;> rfl
theorem BK7 {x : Tn} {row : List Wd} (h : NegAble X false x row) : NegAble X free (.tup [.str eI,x]) ([33] :: row) := fun rest hr=>by
 obtain ⟨s,a,b⟩ := h rest hr
 have e : bangs ([33] :: (row ++ rest)) = bangs (row ++ rest) + 1 := by unfold bangs; rw [List.takeWhile_cons_of_pos (by decide)]; rfl
 cases s with
 | none=>cases b
 | some p =>
  obtain ⟨y,r⟩ := p
  simp only [Option.map_some,Option.some.injEq,Prod.mk.injEq] at b
  obtain ⟨b1,b2⟩ := b
  subst b2 b1
  refine ⟨some (y,rest),?_,?_⟩
  ·show SglP X (free && decide (bangs ([33] :: (row ++ rest)) = 0)) (([33] :: (row ++ rest)).drop (bangs ([33] :: (row ++ rest)))) _
   rw [e]
   simpa using a
  ·show some (_,rest) = some (xE (bangs ([33] :: (row ++ rest))) y,rest)
   rw [e]; rfl
theorem iL {x : Tn} {row : List Wd} (h : ExpAble X free x row) : NegAble X free x ([40] :: (row ++ [[41]])) := fun rest hr=>by
 refine aY (by decide) ?_
 unfold SglP
 refine G2 (show hd _ = [40] from rfl) ⟨some (x,[41] :: rest),?_,rfl⟩
 have := h ([41] :: rest) (ES.of (by decide))
 simpa using this
end
end Law
namespace Law
open PySem L2 L2.Sp
section
variable {X : Bool → List Wd → K9 → Prop} {free : Bool}
theorem sQ : ∀ u ∈ L5,u ≠ [40] ∧ u ≠ [91] ∧ u ≠ [123] ∧ u ≠ [64] ∧ u ≠ [46,46] ∧ u ≠ [33] ∧ J9 u = false ∧ u.take 1 ≠ [34] := by decide
theorem S3 {u : Wd} (h : J9 u = true) : u ≠ [40] ∧ u ≠ [91] ∧ u ≠ [123] ∧ u ≠ [64] ∧ u ≠ [46,46] ∧ u ≠ [33] ∧ u ≠ [93] ∧ u ≠ [125] ∧ u ≠ [44] := by
 refine ⟨?_,?_,?_,?_,?_,?_,?_,?_,?_⟩ <;> (rintro rfl; cases h)
theorem AF8 {u : Wd} (h : u ∈ L5) : NegAble X free (.tup [.str hG,.str u]) [u] := fun rest _=>by
 obtain ⟨h1,h2,h3,h4,h5,h6,h7,h8⟩ := sQ u h
 refine aY h6 ?_
 unfold SglP
 exact B7 h1 (B7 h2 (B7 h3 (B7 (fun z=>h4 z.1) (B7 (fun z=>h5 z.1) (B7 (show ¬ J9 u = true by rw [h7]; decide) (B7 h8 (G2 h rfl)))))))
theorem vR {u : Wd} (h : J9 u = true) : NegAble X free (P6 (.int (P4 u)) (.int (P4 u))) [u] := fun rest hr=>by
 obtain ⟨h1,h2,h3,h4,h5,h6,_⟩ := S3 h
 refine aY h6 ?_
 unfold SglP
 exact B7 h1 (B7 h2 (B7 h3 (B7 (fun z=>h4 z.1) (B7 (fun z=>h5 z.1) (G2 h (B7 hr.no.1 rfl))))))
theorem AG2 {u : Wd} (h : J9 u = true) : NegAble X free (P6 (.int (P4 u)) .non) [u,[46,46]] := fun rest hr=>by
 obtain ⟨h1,h2,h3,h4,h5,h6,_⟩ := S3 h
 refine aY h6 ?_
 unfold SglP
 exact B7 h1 (B7 h2 (B7 h3 (B7 (fun z=>h4 z.1) (B7 (fun z=>h5 z.1) (G2 h (G2 rfl (B7 (show ¬ J9 (hd rest) = true by rw [hr.no.2.2]; decide) rfl)))))))
theorem AS5 {u v : Wd} (h : J9 u = true) (hv : J9 v = true) : NegAble X free (P6 (.int (P4 u)) (.int (P4 v))) [u,[46,46],v] := fun rest hr=>by
 obtain ⟨h1,h2,h3,h4,h5,h6,_⟩ := S3 h
 refine aY h6 ?_
 unfold SglP
 exact B7 h1 (B7 h2 (B7 h3 (B7 (fun z=>h4 z.1) (B7 (fun z=>h5 z.1) (G2 h (G2 rfl (G2 hv rfl)))))))
theorem AF9 {v : Wd} (hv : J9 v = true) : NegAble X free (P6 .non (.int (P4 v))) [[46,46],v] := fun rest hr=>by
 refine aY (by decide) ?_
 unfold SglP
 exact B7 (show ([46,46] : Wd) ≠ [40] by decide) (B7 (show ([46,46] : Wd) ≠ [91] by decide) (B7 (show ([46,46] : Wd) ≠ [123] by decide) (B7 (fun z=>(show ([46,46] : Wd) ≠ [64] by decide) z.1) (G2 ⟨rfl,hv⟩ rfl))))
theorem AG0 {b : List Nat} : NegAble X free (.tup [.str dQ,.str b]) [34 :: (b ++ [34])] := fun rest hr=>by
 have no : ∀ u : Wd,u.length ≤ 2 → u.head? ≠ some 34 → (34 :: (b ++ [34]) : Wd) ≠ u := fun u _ h2 e=>h2 (by rw [← e]; rfl)
 refine aY (no _ (by decide) (by decide)) ?_
 unfold SglP
 refine B7 (no _ (by decide) (by decide)) (B7 (no _ (by decide) (by decide)) (B7 (no _ (by decide) (by decide)) (B7 (fun z=>no _ (by decide) (by decide) z.1) (B7 (fun z=>no _ (by decide) (by decide) z.1) (B7 (by show ¬ J9 (34 :: (b ++ [34])) = true; intro z; cases z) (G2 rfl ?_))))))
 show _ = some (Tn.tup [.str dQ,.str (b ++ [34]).dropLast],rest)
 rw [List.dropLast_concat]
def G8 (ns : List Wd) : List Wd := G3 [46] (ns.map ([·]))
theorem iX {rest : List Wd} (hr : hd rest ≠ [46]) : ∀ {ns : List Wd} {ns0 : List Wd},(∀ n ∈ ns,D7 n = true) → ∃ k,V5 k ns0 (tails [46] (ns.map ([·])) ++ rest) (some (ns0 ++ ns,rest))
 | [],ns0,_=>⟨0,by rw [List.append_nil]; exact .stop hr⟩
 | n :: ns,ns0,h=>by
  obtain ⟨k,hk⟩ := iX hr (ns := ns) (ns0 := ns0 ++ [n]) fun x hx=>h x (by simp [hx])
  refine ⟨k + 1,?_⟩
  rw [List.map_cons,N1]
  have := V5.on (ns := ns0) (h n (by simp)) hk
  simpa using this
theorem qB {ns : List Wd} (h0 : ns ≠ []) (h : ∀ n ∈ ns,D7 n = true) : NegAble X true (.tup [.str cO,.tup (ns.map Tn.str)]) ([64] :: G8 ns) := fun rest hr=>by
 refine aY (by decide) ?_
 unfold SglP
 refine B7 (show ([64] : Wd) ≠ [40] by decide) (B7 (show ([64] : Wd) ≠ [91] by decide) (B7 (show ([64] : Wd) ≠ [123] by decide) (G2 ⟨rfl,rfl⟩ ⟨some (ns,rest),?_,rfl⟩)))
 obtain ⟨n,ns,rfl⟩ := List.exists_cons_of_ne_nil h0
 obtain ⟨k,hk⟩ := iX hr.no.2.1 (ns := ns) (ns0 := [n]) fun x hx=>h x (by simp [hx])
 unfold T6
 refine G2 (show D7 n = true from h n (by simp)) ⟨k,?_⟩
 exact hk
structure HeadOk (row : List Wd) : Prop where
 ex : ∃ u r,row = u :: r ∧ u ≠ [93] ∧ u ≠ [125] ∧ (u = [46,46] → ∃ v r',r = v :: r' ∧ J9 v = true)
def G9 (m : Bool) : List (List Wd) := if m then [[[46,46]]] else []
def R5 (m : Bool) : List Wd := if m then [[46,46]] else []
theorem tR {c : Wd} (hc : c ≠ [46,46]) (m : Bool) (rest : List Wd) : S9 c (R5 m ++ c :: rest) = some (m,rest) := by
 unfold S9
 cases m with
 | true=>rw [if_pos (show hd (R5 true ++ c :: rest) = [46,46] from rfl),if_pos (show hd (R5 true ++ c :: rest).tail = c from rfl)]; rfl
 | false=>rw [if_neg (show hd (R5 false ++ c :: rest) ≠ [46,46] from hc),if_pos (show hd (R5 false ++ c :: rest) = c from rfl)]; rfl
theorem bY {c : Wd} (hc : c = [93] ∨ c = [125]) {row rest : List Wd} (h : HeadOk row) : L6 c 0 (row ++ rest) = some (true,row ++ rest) := by
 obtain ⟨u,r,rfl,h1,h2,h3⟩ := h.ex
 have hu : u ≠ c := by rcases hc with rfl | rfl <;> assumption
 unfold L6
 rw [if_neg (show hd (u :: r ++ rest) ≠ c from hu),if_neg (by decide)]
 congr 2
 by_cases e : u = [46,46]
 ·obtain ⟨v,r',rfl,hv⟩ := h3 e
  have : v ≠ c := by
   rcases hc with rfl | rfl
   ·exact (S3 hv).2.2.2.2.2.2.1
   ·exact (S3 hv).2.2.2.2.2.2.2.1
  show (!(decide (u = [46,46]) && decide (v = c))) = true
  rw [decide_eq_false this,Bool.and_false]; rfl
 ·show (!(decide (u = [46,46]) && _)) = true
  rw [decide_eq_false e,Bool.false_and]; rfl
theorem vX {c : Wd} (hc : c = [93] ∨ c = [125]) {n : Nat} (hn : 0 < n) {row rest : List Wd} (h : HeadOk row) : L6 c n ([44] :: (row ++ rest)) = some (true,row ++ rest) := by
 obtain ⟨u,r,rfl,h1,h2,h3⟩ := h.ex
 have h0 : ([44] : Wd) ≠ c := by rcases hc with rfl | rfl <;> decide
 unfold L6
 rw [if_neg (show hd ([44] :: (u :: r ++ rest)) ≠ c from h0),if_pos hn,if_pos (show hd ([44] :: (u :: r ++ rest)) = [44] from rfl)]
 congr 2
 by_cases e : u = [46,46]
 ·obtain ⟨v,r',rfl,hv⟩ := h3 e
  have : v ≠ c := by
   rcases hc with rfl | rfl
   ·exact (S3 hv).2.2.2.2.2.2.1
   ·exact (S3 hv).2.2.2.2.2.2.2.1
  show (!(decide (u = [46,46]) && decide (v = c))) = true
  rw [decide_eq_false this,Bool.and_false]; rfl
 ·show (!(decide (u = [46,46]) && _)) = true
  rw [decide_eq_false e,Bool.false_and]; rfl
theorem tN {c : Wd} (hc : c = [93] ∨ c = [125]) (m : Bool) (rest : List Wd) : L6 c 0 (R5 m ++ c :: rest) = some (false,R5 m ++ c :: rest) := by
 unfold L6
 cases m with
 | false=>rw [if_pos (show hd (R5 false ++ c :: rest) = c from rfl)]
 | true =>
  have h0 : ([46,46] : Wd) ≠ c := by rcases hc with rfl | rfl <;> decide
  rw [if_neg (show hd (R5 true ++ c :: rest) ≠ c from h0),if_neg (by decide)]
  congr 2
  show (!(decide (([46,46] : Wd) = [46,46]) && decide (c = c))) = false
  simp
theorem tL {c : Wd} (hc : c = [93] ∨ c = [125]) {n : Nat} (hn : 0 < n) (m : Bool) (rest : List Wd) : L6 c n (tails [44] (G9 m) ++ c :: rest) = some (false,R5 m ++ c :: rest) := by
 cases m with
 | false =>
  unfold L6
  rw [if_pos (show hd (tails [44] (G9 false) ++ c :: rest) = c from rfl)]
  rfl
 | true =>
  have h0 : ([44] : Wd) ≠ c := by rcases hc with rfl | rfl <;> decide
  show L6 c n ([44] :: [46,46] :: c :: rest) = some (false,[46,46] :: c :: rest)
  unfold L6
  rw [if_neg (show hd ([44] :: [46,46] :: c :: rest) ≠ c from h0),if_pos hn,if_pos (show hd ([44] :: [46,46] :: c :: rest) = [44] from rfl)]
  congr 2
  show (!(decide (([46,46] : Wd) = [46,46]) && decide (c = c))) = false
  simp
theorem hU {c : Wd} (hc : c ∈ xP) {rows : List (List Wd)} {rest : List Wd} : ES (tails [44] rows ++ c :: rest) := by
 cases rows with
 | nil=>exact ES.of hc
 | cons r rs=>rw [N1]; exact ES.of (by decide)
theorem mV {m : Bool} {rest : List Wd} : ∀ {ts : List Tn} {rows : List (List Wd)} {ts0 : List Tn},0 < ts0.length → All2 (ExpAble X false) ts rows → (∀ row ∈ rows,HeadOk row) → ∃ k,ItemsP X k ts0 (tails [44] (rows ++ G9 m) ++ [93] :: rest) (some (ts0 ++ ts,R5 m ++ [93] :: rest))
 | _,_,ts0,hn,.nil,_=>⟨0,by
  rw [List.append_nil,List.nil_append]
  exact .stop (tL (.inl rfl) hn m rest)⟩
 | _,_,ts0,hn,@All2.cons _ _ _ t row ts rows a as,hh=>by
  obtain ⟨k,hk⟩ := mV (m := m) (rest := rest) (ts0 := ts0 ++ [t]) (by simp) as fun x hx=>hh x (by simp [hx])
  refine ⟨k + 1,?_⟩
  rw [List.cons_append,N1,List.cons_append,List.append_assoc]
  have := ItemsP.on (vX (.inl rfl) hn (hh row (by simp))) (a _ (hU (by decide))) hk
  simpa using this
theorem AG1 {ts : List Tn} {rows : List (List Wd)} {m : Bool} (h : All2 (ExpAble X false) ts rows) (hh : ∀ row ∈ rows,HeadOk row) : NegAble X free (.tup [.str Z8,.tup ts,.bl m]) ([91] :: (G3 [44] (rows ++ G9 m) ++ [[93]])) := fun rest hr=>by
 refine aY (by decide) ?_
 unfold SglP
 refine B7 (show ([91] : Wd) ≠ [40] by decide) (G2 rfl ?_)
 show nU X (G3 [44] (rows ++ G9 m) ++ [[93]] ++ rest) _
 have e0 : G3 [44] (rows ++ G9 m) ++ [[93]] ++ rest = G3 [44] (rows ++ G9 m) ++ [93] :: rest := by simp
 rw [e0]
 have fin : ∀ k,ItemsP X k [] (G3 [44] (rows ++ G9 m) ++ [93] :: rest) (some (ts,R5 m ++ [93] :: rest)) → nU X (G3 [44] (rows ++ G9 m) ++ [93] :: rest) (some (.tup [.str Z8,.tup ts,.bl m],rest)) := fun k hk=>⟨k,_,hk,by
  show _ = (S9 [93] (R5 m ++ [93] :: rest)).map _
  rw [tR (by decide)]; rfl⟩
 cases h with
 | nil =>
  refine fin 0 ?_
  have e1 : G3 [44] ([] ++ G9 m) ++ [93] :: rest = R5 m ++ [93] :: rest := by cases m <;> rfl
  rw [e1]
  exact .stop (tN (.inl rfl) m rest)
 | @cons t row ts rows a as =>
  obtain ⟨k,hk⟩ := mV (m := m) (rest := rest) (ts0 := [t]) (by simp) as fun x hx=>hh x (by simp [hx])
  refine fin (k + 1) ?_
  rw [List.cons_append]
  show ItemsP X (k + 1) [] (row ++ tails [44] (rows ++ G9 m) ++ [93] :: rest) _
  rw [List.append_assoc]
  exact ItemsP.on (bY (.inl rfl) (hh row (by simp))) (a _ (hU (by decide))) hk
def T4 (n : Wd) (must : Bool) (row : List Wd) : List Wd := [n] ++ (if must then [] else [[63]]) ++ [[58]] ++ row
theorem tP {n : Wd} {must : Bool} {t : Tn} {row : List Wd} (hn : D7 n = true) (h : ExpAble X false t row) {rest : List Wd} (hr : ES rest) : FieldP X (T4 n must row ++ rest) (some ((n,t,must),rest)) := by
 unfold FieldP
 refine G2 (show D7 n = true from hn) ?_
 cases must with
 | true=>exact B7 (show ([58] : Wd) ≠ [63] by decide) (G2 rfl ⟨_,h rest hr,rfl⟩)
 | false=>exact G2 rfl (G2 rfl ⟨_,h rest hr,rfl⟩)
theorem nI {n : Wd} {must : Bool} {row : List Wd} (hn : D7 n = true) : HeadOk (T4 n must row) := ⟨⟨n,_,rfl,(by rintro rfl; cases hn),(by rintro rfl; cases hn),(by rintro rfl; cases hn)⟩⟩
def BD6 (X : Bool → List Wd → K9 → Prop) (f : Wd × Tn × Bool) (row : List Wd) : Prop := ∃ r,row = T4 f.1 f.2.2 r ∧ D7 f.1 = true ∧ ExpAble X false f.2.1 r
theorem kP {m : Bool} {rest : List Wd} : ∀ {fs : List (Wd × Tn × Bool)} {rows : List (List Wd)} {fs0 : List (Wd × Tn × Bool)},0 < fs0.length → All2 (BD6 X) fs rows → ((fs0 ++ fs).map (·.1)).Nodup → ∃ k,FieldsP X k fs0 (tails [44] (rows ++ G9 m) ++ [125] :: rest) (some (fs0 ++ fs,R5 m ++ [125] :: rest))
 | _,_,fs0,hn,.nil,_=>⟨0,by
  rw [List.append_nil,List.nil_append]
  exact .stop (tL (.inr rfl) hn m rest)⟩
 | _,_,fs0,hn,@All2.cons _ _ _ f row fs rows a as,hh=>by
  obtain ⟨k,hk⟩ := kP (m := m) (rest := rest) (fs0 := fs0 ++ [f]) (by simp) as (by simpa using hh)
  refine ⟨k + 1,?_⟩
  obtain ⟨r,rfl,h1,h2⟩ := a
  rw [List.cons_append,N1,List.cons_append,List.append_assoc]
  have hnot : f.1 ∉ fs0.map (·.1) := by
   rw [List.map_append,List.map_cons,List.nodup_append] at hh
   intro z
   exact hh.2.2 f.1 z f.1 (by simp) rfl
  have := FieldsP.on (vX (.inr rfl) hn (nI h1)) (tP h1 h2 (hU (by decide))) hnot hk
  simpa using this
theorem vQ {fs : List (Wd × Tn × Bool)} {rows : List (List Wd)} {m : Bool} (h : All2 (BD6 X) fs rows) (hh : (fs.map (·.1)).Nodup) : NegAble X free (.tup [.str aF,.tup (fs.map Y0),.bl m]) ([123] :: (G3 [44] (rows ++ G9 m) ++ [[125]])) := fun rest hr=>by
 refine aY (by decide) ?_
 unfold SglP
 refine B7 (show ([123] : Wd) ≠ [40] by decide) (B7 (show ([123] : Wd) ≠ [91] by decide) (G2 rfl ?_))
 show uF X (G3 [44] (rows ++ G9 m) ++ [[125]] ++ rest) _
 have e0 : G3 [44] (rows ++ G9 m) ++ [[125]] ++ rest = G3 [44] (rows ++ G9 m) ++ [125] :: rest := by simp
 rw [e0]
 have fin : ∀ k,FieldsP X k [] (G3 [44] (rows ++ G9 m) ++ [125] :: rest) (some (fs,R5 m ++ [125] :: rest)) → uF X (G3 [44] (rows ++ G9 m) ++ [125] :: rest) (some (.tup [.str aF,.tup (fs.map Y0),.bl m],rest)) := fun k hk=>⟨k,_,hk,by
  show _ = (S9 [125] (R5 m ++ [125] :: rest)).map _
  rw [tR (by decide)]; rfl⟩
 cases h with
 | nil =>
  refine fin 0 ?_
  have e1 : G3 [44] ([] ++ G9 m) ++ [125] :: rest = R5 m ++ [125] :: rest := by cases m <;> rfl
  rw [e1]
  exact .stop (tN (.inr rfl) m rest)
 | @cons f row fs rows a as =>
  obtain ⟨k,hk⟩ := kP (m := m) (rest := rest) (fs0 := [f]) (by simp) as (by simpa using hh)
  refine fin (k + 1) ?_
  obtain ⟨r,rfl,h1,h2⟩ := a
  rw [List.cons_append]
  show FieldsP X (k + 1) [] (T4 f.1 f.2.2 r ++ tails [44] (rows ++ G9 m) ++ [125] :: rest) _
  rw [List.append_assoc]
  exact FieldsP.on (bY (.inr rfl) (nI h1)) (tP h1 h2 (hU (by decide))) (by simp) hk
end
end Law
namespace Law
open PySem L2 L2.Sp
def O7 (n : Int) : Wd := (Str.ofString (toString n)).cps.toList
theorem AB5 (n : Int) : S (O7 n) = Str.ofString (toString n) := rfl
def Q4 (m : Nat) : Wd := (Nat.toDigits 10 m).map Char.toNat
theorem gX (m : Nat) : O7 (m : Int) = Q4 m := PySem.W.KIN.signs_num m
theorem gW (m : Nat) : O7 (Int.negSucc m) = 45 :: Q4 (m + 1) := by
 unfold O7
 rw [PyProof.Rows.signs_ofString]
 have e : toString (Int.negSucc m) = "-" ++ Nat.repr (m + 1) := rfl
 rw [e,String.toList_append,Nat.toList_repr,List.map_append]
 rfl
theorem rP (m : Nat) : ∀ c ∈ Q4 m,K7 c = true := fun c hc=>by
 obtain ⟨ch,hch,e⟩ := List.mem_map.mp hc
 have r := PyProof.Rows.digit_range (Nat.isDigit_of_mem_toDigits (by decide) (by decide) hch)
 rw [← e]
 unfold K7
 simp only [Bool.and_eq_true,decide_eq_true_eq]
 exact r
theorem jJ (m : Nat) : Q4 m ≠ [] := fun e=>by
 have h := PyProof.Rows.tDigits_len_ge 10 m
 rw [List.map_eq_nil_iff.mp e] at h
 exact absurd h (by decide)
theorem tW (m : Nat) : (Q4 m).head? ≠ some 48 ∨ Q4 m = [48] := by
 induction m using Nat.strongRecOn with
 | _ m ih =>
  by_cases h : m < 10
  ·have : ∀ m,m < 10 → (Q4 m).head? ≠ some 48 ∨ Q4 m = [48] := by decide +kernel
   exact this m h
  ·have hm : m % 10 < 10 := Nat.mod_lt m (by decide)
   have t : Nat.toDigits 10 (m / 10) ++ Nat.toDigits 10 (m % 10) = Nat.toDigits 10 (10 * (m / 10) + m % 10) := Nat.toDigits_append_toDigits (by decide) (by omega) hm
   rw [Nat.div_add_mod] at t
   have e : Q4 m = Q4 (m / 10) ++ Q4 (m % 10) := by unfold Q4; rw [← t,List.map_append]
   have hne := jJ (m / 10)
   refine .inl ?_
   rw [e]
   obtain ⟨c,r,er⟩ := List.exists_cons_of_ne_nil hne
   rcases ih (m / 10) (by omega) with hh | hh
   ·rw [er] at hh ⊢; exact hh
   ·exfalso
    have hv := PySem.W.KIN.val_back (m / 10)
    have hh' : (Nat.toDigits 10 (m / 10)).map Char.toNat = [48] := hh
    rw [hh'] at hv
    have : PySem.NumText.digitsVal [48] = 0 := rfl
    omega
theorem kM {m k : Nat} (hk : 1 ≤ k) (h : m < 10 ^ k) : (Q4 m).length ≤ k := by
 unfold Q4
 rw [List.length_map]
 exact PyProof.Rows.digits10_le hk h
theorem AF5 {n : Int} (h : n.natAbs < 10 ^ 60) : Num (O7 n) := by
 cases n with
 | ofNat m =>
  have e : O7 (Int.ofNat m) = Q4 m := gX m
  refine ⟨[],Q4 m,e,.inl rfl,jJ m,rP m,kM (by decide) h,?_⟩
  rw [e]; exact tW m
 | negSucc m =>
  have e := gW m
  refine ⟨[45],Q4 (m + 1),by rw [e]; rfl,.inr rfl,jJ _,rP _,kM (by decide) h,?_⟩
  rcases tW (m + 1) with hh | hh
  ·exact .inl hh
  ·exfalso
   have hv := PySem.W.KIN.val_back (m + 1)
   have hh' : (Nat.toDigits 10 (m + 1)).map Char.toNat = [48] := hh
   rw [hh'] at hv
   have : PySem.NumText.digitsVal [48] = 0 := rfl
   omega
theorem vY (m : Nat) : pJ (Q4 m) = m := PySem.W.KIN.val_back m
theorem Z5 (n : Int) : J9 (O7 n) = true := by
 cases n with
 | ofNat m =>
  have e : O7 (Int.ofNat m) = Q4 m := gX m
  rw [e]
  obtain ⟨c,r,er⟩ := List.exists_cons_of_ne_nil (jJ m)
  have := rP m c (by rw [er]; simp)
  rw [er]
  show (decide (c = 45) || K7 c) = true
  rw [this,Bool.or_true]
 | negSucc m=>rw [gW]; rfl
theorem iW (n : Int) : P4 (O7 n) = n := by
 cases n with
 | ofNat m =>
  have e : O7 (Int.ofNat m) = Q4 m := gX m
  rw [e]
  obtain ⟨c,r,er⟩ := List.exists_cons_of_ne_nil (jJ m)
  have hc := fU (rP m c (by rw [er]; simp))
  have e2 : P4 (Q4 m) = (pJ (Q4 m) : Int) := by
   rw [er]
   unfold P4
   split
   ·rename_i heq; cases heq; omega
   ·rfl
  rw [e2,vY]; rfl
 | negSucc m =>
  rw [gW]
  show -((pJ (Q4 (m + 1)) : Nat) : Int) = _
  rw [vY]; rfl
structure O4 (n : Wd) : Prop where
 nm : D7 n = true
 len : n.length ≤ 20
def oI : Option Int → Tn
 | none=>.non
 | some i=>.int i
def X0 (i : Int) : Prop := i.natAbs < 10 ^ 53
theorem AF6 {i : Int} (h : X0 i) : (O7 i).length ≤ 54 := by
 cases i with
 | ofNat m =>
  have e : O7 (Int.ofNat m) = Q4 m := gX m
  rw [e]
  have := kM (m := m) (k := 53) (by decide) h
  omega
 | negSucc m =>
  rw [gW,List.length_cons]
  have := kM (m := m + 1) (k := 53) (by decide) h
  omega
inductive aX : Tn → Prop
 | word {u} : u ∈ L5 → aX (.tup [.str hG,.str u])
 | span {a b} : (a ≠ none ∨ b ≠ none) → (∀ i,a = some i → X0 i) → (∀ i,b = some i → X0 i) → aX (P6 (oI a) (oI b))
 | text {b} : (∀ c ∈ b,T1 c = true) → b.length ≤ 20 → aX (.tup [.str dQ,.str b])
inductive uG : Tn → Prop
 | mk {ns : List Wd} : ns ≠ [] → ns.length ≤ 4 → (∀ n ∈ ns,O4 n) → uG (.tup [.str cO,.tup (ns.map Tn.str)])
def GT (mx : Nat → Nat) : Nat → Bool → Tn → Prop
 | 0,pl,x=>aX x ∨ (pl = true ∧ uG x)
 | n + 1,pl,x=>aX x ∨ (pl = true ∧ uG x) ∨
  (∃ ts m,x = .tup [.str Z8,.tup ts,.bl m] ∧ ts.length ≤ mx (n + 1) ∧ ∀ t ∈ ts,GT mx n false t) ∨
  (∃ (fs : List (Wd × Tn × Bool)) (m : Bool),x = .tup [.str aF,.tup (fs.map Y0),.bl m] ∧ fs.length ≤ mx (n + 1) ∧ (fs.map (·.1)).Nodup ∧ ∀ f ∈ fs,O4 f.1 ∧ GT mx n false f.2.1) ∨
  (∃ t,x = .tup [.str eI,t] ∧ GT mx n false t) ∨
  (∃ k ts,(k = P3 ∨ k = U9) ∧ x = .tup [.str k,.tup ts] ∧ 2 ≤ ts.length ∧ ts.length ≤ mx (n + 1) ∧ ∀ t ∈ ts,GT mx n pl t)
def oW : Option Int → List Wd
 | none=>[]
 | some i=>[O7 i]
inductive kS : Tn → List Wd → Prop
 | word {u} : u ∈ L5 → kS (.tup [.str hG,.str u]) [u]
 | one {i} : X0 i → kS (P6 (.int i) (.int i)) [O7 i]
 | span {a b} : (a ≠ none ∨ b ≠ none) → (∀ i,a = some i → X0 i) → (∀ i,b = some i → X0 i) → kS (P6 (oI a) (oI b)) (oW a ++ [[46,46]] ++ oW b)
 | text {b} : (∀ c ∈ b,T1 c = true) → b.length ≤ 20 → kS (.tup [.str dQ,.str b]) [34 :: (b ++ [34])]
inductive PlP : Tn → List Wd → Prop
 | mk {ns : List Wd} : ns ≠ [] → ns.length ≤ 4 → (∀ n ∈ ns,O4 n) → PlP (.tup [.str cO,.tup (ns.map Tn.str)]) ([64] :: G8 ns)
def qI (k : Wd) : Tn → Bool
 | .tup (.str u :: _)=>decide (u = k)
 | _=>false
def lN (x : Tn) : Bool := qI P3 x || qI U9 x
def Y8 (P : Tn → List Wd → Prop) (tied : Bool) (x : Tn) (row : List Wd) : Prop := ∃ ws,P x ws ∧ (row = [40] :: (ws ++ [[41]]) ∨ (tied = false ∧ row = ws))
def FRw (P : Tn → List Wd → Prop) (f : Wd × Tn × Bool) (row : List Wd) : Prop := ∃ r,row = T4 f.1 f.2.2 r ∧ O4 f.1 ∧ Y8 P false f.2.1 r
def PrW (mx : Nat → Nat) : Nat → Bool → Tn → List Wd → Prop
 | 0,pl,x,ws=>kS x ws ∨ (pl = true ∧ PlP x ws)
 | n + 1,pl,x,ws=>kS x ws ∨ (pl = true ∧ PlP x ws) ∨
  (∃ ts rows m,x = .tup [.str Z8,.tup ts,.bl m] ∧ ts.length ≤ mx (n + 1) ∧ All2 (Y8 (PrW mx n false) false) ts rows ∧ ws = [91] :: (G3 [44] (rows ++ G9 m) ++ [[93]])) ∨
  (∃ (fs : List (Wd × Tn × Bool)) (rows : List (List Wd)) (m : Bool),x = .tup [.str aF,.tup (fs.map Y0),.bl m] ∧ fs.length ≤ mx (n + 1) ∧ (fs.map (·.1)).Nodup ∧ All2 (FRw (PrW mx n false)) fs rows ∧ ws = [123] :: (G3 [44] (rows ++ G9 m) ++ [[125]])) ∨
  (∃ t row,x = .tup [.str eI,t] ∧ Y8 (PrW mx n false) (lN t) t row ∧ ws = [33] :: row) ∨
  (∃ ts rows,x = .tup [.str P3,.tup ts] ∧ 2 ≤ ts.length ∧ ts.length ≤ mx (n + 1) ∧ All2 (fun t row=>Y8 (PrW mx n pl) (lN t) t row) ts rows ∧ ws = G3 [38] rows) ∨
  (∃ ts rows,x = .tup [.str U9,.tup ts] ∧ 2 ≤ ts.length ∧ ts.length ≤ mx (n + 1) ∧ All2 (fun t row=>Y8 (PrW mx n pl) (qI U9 t) t row) ts rows ∧ ws = G3 [124] rows)
end Law
namespace Law
open PySem L2 L2.Sp
section
variable {X Y : Bool → List Wd → K9 → Prop} {free : Bool}
theorem NegAble.mono (k : ∀ f r res,X f r res → Y f r res) {x : Tn} {row : List Wd} (h : NegAble X free x row) : NegAble Y free x row := fun rest hr=>(h rest hr).mono k
theorem ExpAble.mono (k : ∀ f r res,X f r res → Y f r res) {x : Tn} {row : List Wd} (h : ExpAble X free x row) : ExpAble Y free x row := fun rest hr=>k _ _ _ (h rest hr)
theorem AndAble.mono (k : ∀ f r res,X f r res → Y f r res) {x : Tn} {row : List Wd} (h : AndAble X free x row) : AndAble Y free x row := by
 obtain ⟨y,ys,r,rs,e,h1,h2,h3⟩ := h
 exact ⟨y,ys,r,rs,e,h1.mono k,h2.imp fun a _ b hb=>hb.mono k,h3⟩
theorem HeadOk.app {row r : List Wd} (h : HeadOk row) : HeadOk (row ++ r) := by
 obtain ⟨u,s,rfl,h1,h2,h3⟩ := h.ex
 refine ⟨u,s ++ r,rfl,h1,h2,fun e=>?_⟩
 obtain ⟨v,r',rfl,hv⟩ := h3 e
 exact ⟨v,r' ++ r,rfl,hv⟩
theorem HeadOk.lit {u : Wd} {r : List Wd} (h1 : u ≠ [93]) (h2 : u ≠ [125]) (h3 : u ≠ [46,46]) : HeadOk (u :: r) := ⟨u,r,rfl,h1,h2,fun e=>absurd e h3⟩
theorem HeadOk.join {s : Wd} {r : List Wd} {rs : List (List Wd)} (h : HeadOk r) : HeadOk (G3 s (r :: rs)) := h.app
theorem bW {n : Wd} (h : D7 n = true) : n ≠ [93] ∧ n ≠ [125] ∧ n ≠ [46,46] ∧ n ≠ [46] := by
 refine ⟨?_,?_,?_,?_⟩ <;> (rintro rfl; cases h)
theorem tF {x : Tn} {ws : List Wd} (h : kS x ws) : NegAble X free x ws ∧ HeadOk ws ∧ lN x = false := by
 cases h with
 | word hu =>
  obtain ⟨h1,h2,h3,h4,h5,h6,h7,h8⟩ := sQ _ hu
  refine ⟨AF8 hu,HeadOk.lit ?_ ?_ h5,rfl⟩
  ·rintro rfl; revert hu; decide
  ·rintro rfl; revert hu; decide
 | @one i hi =>
  have hb := Z5 i
  have := vR (X := X) (free := free) hb
  rw [iW] at this
  obtain ⟨h1,h2,h3,h4,h5,h6,h7,h8,h9⟩ := S3 hb
  exact ⟨this,HeadOk.lit h7 h8 h5,rfl⟩
 | @span a b hab ha hb =>
  refine ⟨?_,?_,rfl⟩
  ·cases a with
   | none =>
    cases b with
    | none=>exact (hab.elim (fun z=>z rfl) fun z=>z rfl).elim
    | some j =>
     have := AF9 (X := X) (free := free) (Z5 j)
     rw [iW] at this
     exact this
   | some i =>
    cases b with
    | none =>
     have := AG2 (X := X) (free := free) (Z5 i)
     rw [iW] at this
     exact this
    | some j =>
     have := AS5 (X := X) (free := free) (Z5 i) (Z5 j)
     rw [iW,iW] at this
     exact this
  ·cases a with
   | none =>
    cases b with
    | none=>exact (hab.elim (fun z=>z rfl) fun z=>z rfl).elim
    | some j=>exact ⟨[46,46],[O7 j],rfl,by decide,by decide,fun _=>⟨_,_,rfl,Z5 j⟩⟩
   | some i =>
    obtain ⟨h1,h2,h3,h4,h5,h6,h7,h8,h9⟩ := S3 (Z5 i)
    exact HeadOk.lit h7 h8 h5
 | text hc hl =>
  refine ⟨AG0,HeadOk.lit ?_ ?_ ?_,rfl⟩ <;> (intro e; cases e)
theorem AP5 {mx : Nat → Nat} {n : Nat} {pl free : Bool} {x : Tn} {row : List Wd} {N : Nat} (h : ∀ ws,PrW mx n pl x ws → ExpAble (Exn N) free x ws ∧ HeadOk ws) (hr : Y8 (PrW mx n pl) false x row) : ExpAble (Exn (N + 1)) free x row ∧ HeadOk row := by
 obtain ⟨ws,hw,hr⟩ := hr
 obtain ⟨h1,h2⟩ := h ws hw
 rcases hr with rfl | ⟨_,rfl⟩
 ·exact ⟨fV (iL h1).and,HeadOk.lit (by decide) (by decide) (by decide)⟩
 ·exact ⟨h1.mono (Exn.succ N),h2⟩
theorem AP4 {mx : Nat → Nat} {n : Nat} {pl free tied : Bool} {x : Tn} {row : List Wd} {N : Nat} (h : ∀ ws,PrW mx n pl x ws → (tied = false → NegAble (Exn (N + 1)) free x ws) ∧ ExpAble (Exn (N + 1)) free x ws ∧ HeadOk ws) (hr : Y8 (PrW mx n pl) tied x row) : NegAble (Exn (N + 1)) free x row ∧ HeadOk row := by
 obtain ⟨ws,hw,hr⟩ := hr
 obtain ⟨h1,h2,h3⟩ := h ws hw
 rcases hr with rfl | ⟨e,rfl⟩
 ·exact ⟨iL h2,HeadOk.lit (by decide) (by decide) (by decide)⟩
 ·exact ⟨h1 e,h3⟩
theorem vD {mx : Nat → Nat} {n : Nat} {pl free tied : Bool} {x : Tn} {row : List Wd} {N : Nat} (h : ∀ ws,PrW mx n pl x ws → (tied = false → AndAble (Exn (N + 1)) free x ws) ∧ ExpAble (Exn (N + 1)) free x ws ∧ HeadOk ws) (hr : Y8 (PrW mx n pl) tied x row) : AndAble (Exn (N + 1)) free x row ∧ HeadOk row := by
 obtain ⟨ws,hw,hr⟩ := hr
 obtain ⟨h1,h2,h3⟩ := h ws hw
 rcases hr with rfl | ⟨e,rfl⟩
 ·exact ⟨(iL h2).and,HeadOk.lit (by decide) (by decide) (by decide)⟩
 ·exact ⟨h1 e,h3⟩
end
structure RdOk (N : Nat) (free : Bool) (x : Tn) (ws : List Wd) : Prop where
 neg : lN x = false → NegAble (Exn N) free x ws
 and : qI U9 x = false → AndAble (Exn N) free x ws
 exp : ExpAble (Exn (N + 1)) free x ws
 head : HeadOk ws
theorem RdOk.simple {N : Nat} {free : Bool} {x : Tn} {ws : List Wd} (h : NegAble (Exn N) free x ws) (hh : HeadOk ws) : RdOk N free x ws := ⟨fun _=>h,fun _=>h.and,fV h.and,hh⟩
theorem AU4 {α : Type} {l : List α} (h : 2 ≤ l.length) : ∃ a b r,l = a :: b :: r := by
 match l,h with
 | a :: b :: r,_=>exact ⟨a,b,r,rfl⟩
theorem vN (k : Wd) {ts : List Tn} (h : 2 ≤ ts.length) : one k ts = .tup [.str k,.tup ts] := by
 obtain ⟨a,b,r,rfl⟩ := AU4 h
 rfl
theorem kF (mx : Nat → Nat) : ∀ (n : Nat) (pl free : Bool) (x : Tn) (ws : List Wd),(pl = true → free = true) → PrW mx n pl x ws → RdOk (2 * n) free x ws
 | 0,pl,free,x,ws,hf,h=>by
  rcases h with h | ⟨hp,h⟩
  ·obtain ⟨h1,h2,_⟩ := tF h
   exact .simple h1 h2
  ·rw [hf hp]
   cases h with
   | mk h0 hl hn=>exact .simple (qB h0 fun n h=>(hn n h).nm) (HeadOk.lit (by decide) (by decide) (by decide))
 | n + 1,pl,free,x,ws,hf,h=>by
  have ih := kF mx n
  have up : ∀ f r res,Exn (2 * n) f r res → Exn (2 * (n + 1)) f r res := fun f r res=>Exn.mono (by omega)
  have up1 : ∀ f r res,Exn (2 * n + 1) f r res → Exn (2 * (n + 1)) f r res := fun f r res=>Exn.mono (by omega)
  have child : ∀ {pl free : Bool} {x : Tn} {row : List Wd},(pl = true → free = true) → Y8 (PrW mx n pl) false x row → ExpAble (Exn (2 * (n + 1))) free x row ∧ HeadOk row := fun {pl free x row} hf hr =>
   AP5 (N := 2 * n + 1) (fun ws hw=>⟨(ih pl free x ws hf hw).exp,(ih pl free x ws hf hw).head⟩) hr
  have childN : ∀ {pl free : Bool} {x : Tn} {row : List Wd},(pl = true → free = true) → Y8 (PrW mx n pl) (lN x) x row → NegAble (Exn (2 * (n + 1))) free x row ∧ HeadOk row := fun {pl free x row} hf hr =>
   AP4 (N := 2 * n + 1) (fun ws hw=>⟨fun e=>((ih pl free x ws hf hw).neg e).mono up,(ih pl free x ws hf hw).exp.mono up1,(ih pl free x ws hf hw).head⟩) hr
  have childA : ∀ {pl free : Bool} {x : Tn} {row : List Wd},(pl = true → free = true) → Y8 (PrW mx n pl) (qI U9 x) x row → AndAble (Exn (2 * (n + 1))) free x row ∧ HeadOk row := fun {pl free x row} hf hr =>
   vD (N := 2 * n + 1) (fun ws hw=>⟨fun e=>((ih pl free x ws hf hw).and e).mono up,(ih pl free x ws hf hw).exp.mono up1,(ih pl free x ws hf hw).head⟩) hr
  have ff : (false = true → (false : Bool) = true) := fun z=>z
  rcases h with h | ⟨hp,h⟩ | ⟨ts,rows,m,rfl,hl,ha,rfl⟩ | ⟨fs,rows,m,rfl,hl,hd,ha,rfl⟩ | ⟨t,row,rfl,hr,rfl⟩ | ⟨ts,rows,rfl,h2,hl,ha,rfl⟩ | ⟨ts,rows,rfl,h2,hl,ha,rfl⟩
  ·obtain ⟨h1,h2,_⟩ := tF h
   exact .simple h1 h2
  ·rw [hf hp]
   cases h with
   | mk h0 hl hn=>exact .simple (qB h0 fun n h=>(hn n h).nm) (HeadOk.lit (by decide) (by decide) (by decide))
  ·refine .simple (AG1 (ha.imp fun t _ row hr=>(child ff hr).1) ?_) (HeadOk.lit (by decide) (by decide) (by decide))
   clear hl
   induction ha with
   | nil=>intro row hr; cases hr
   | cons a _ ih2 =>
    intro row hr
    rcases List.mem_cons.mp hr with rfl | hr
    ·exact (child ff a).2
    ·exact ih2 row hr
  ·refine .simple (vQ (ha.imp fun f _ row hr=>?_) hd) (HeadOk.lit (by decide) (by decide) (by decide))
   obtain ⟨r,e,h1,h2⟩ := hr
   exact ⟨r,e,h1.nm,(child ff h2).1⟩
  ·exact .simple (BK7 (childN ff hr).1) (HeadOk.lit (by decide) (by decide) (by decide))
  ·have ha' : All2 (fun t row=>NegAble (Exn (2 * (n + 1))) free t row ∧ HeadOk row) ts rows := ha.imp fun t _ row hr=>childN hf hr
   cases ha' with
   | nil=>exact absurd h2 (by decide)
   | @cons t row ts rows a as =>
    have hA : AndAble (Exn (2 * (n + 1))) free (.tup [.str P3,.tup (t :: ts)]) (G3 [38] (row :: rows)) := ⟨t,ts,row,rows,vN P3 h2,a.1,as.imp fun _ _ _ h=>h.1,rfl⟩
    exact ⟨fun e=>Bool.noConfusion (show true = false from e),fun _=>hA,fV hA,a.2.join⟩
  ·have ha' : All2 (fun t row=>AndAble (Exn (2 * (n + 1))) free t row ∧ HeadOk row) ts rows := ha.imp fun t _ row hr=>childA hf hr
   cases ha' with
   | nil=>exact absurd h2 (by decide)
   | @cons t row ts rows a as =>
    have hE := AA0 a.1 (as.imp fun _ _ _ h=>h.1)
    rw [vN U9 h2] at hE
    exact ⟨fun e=>Bool.noConfusion (show true = false from e),fun e=>Bool.noConfusion (show true = false from e),hE,a.2.join⟩
end Law
namespace Law
open PySem L2 L2.Sp
structure W4 (u : Wd) : Prop where
 tok : U4 u
 len : u.length ≤ 54
 asc : ∀ c ∈ u,c < 128
inductive DotOk : List Wd → Prop
 | nil : DotOk []
 | cons {u r} : u ≠ [46] → DotOk r → DotOk (u :: r)
 | dot {n r} : n.head? ≠ some 46 → DotOk r → DotOk ([46] :: n :: r)
theorem AS7 {p : Wd} (hn : D7 p = true) : p.head? ≠ some 46 := fun z=>by
 cases p with
 | nil=>cases z
 | cons a r =>
  cases z
  unfold D7 at hn
  rw [Bool.and_eq_true,List.all_eq_true] at hn
  have := hn.2 46 (by simp)
  cases this
theorem DotOk.app {xs ys : List Wd} (h : DotOk xs) (h' : DotOk ys) : DotOk (xs ++ ys) := by
 induction h with
 | nil=>exact h'
 | cons a _ ih=>exact .cons a ih
 | dot a _ ih=>exact .dot a ih
structure WsF (B : Nat) (ws : List Wd) : Prop where
 ok : ∀ u ∈ ws,W4 u
 dot : DotOk ws
 len : ws.length ≤ B
theorem WsF.app {a b : Nat} {xs ys : List Wd} (h : WsF a xs) (h' : WsF b ys) : WsF (a + b) (xs ++ ys) :=
 ⟨fun u hu=>(List.mem_append.mp hu).elim (h.ok u) (h'.ok u),h.dot.app h'.dot,by have := h.len; have := h'.len; rw [List.length_append]; omega⟩
theorem WsF.nil : WsF 0 [] := ⟨fun u hu=>(by cases hu),DotOk.nil,Nat.le_refl _⟩
theorem WsF.cons {a : Nat} {u : Wd} {xs : List Wd} (hu : W4 u) (hd : u ≠ [46]) (h : WsF a xs) : WsF (a + 1) (u :: xs) :=
 ⟨fun v hv=>(List.mem_cons.mp hv).elim (fun e=>e ▸ hu) (h.ok v),.cons hd h.dot,by have := h.len; simp; omega⟩
theorem WsF.mono {a b : Nat} {xs : List Wd} (h : WsF a xs) (hab : a ≤ b) : WsF b xs := ⟨h.ok,h.dot,Nat.le_trans h.len hab⟩
theorem WsF.tails {s : Wd} (hs : W4 s) (hd : s ≠ [46]) {b : Nat} : ∀ {rows : List (List Wd)},(∀ row ∈ rows,WsF b row) → WsF (rows.length * (b + 1)) (tails s rows)
 | [],_=>by simpa [Law.tails] using WsF.nil
 | r :: rs,h=>by
  rw [N1,List.length_cons]
  have ih := WsF.tails hs hd (rows := rs) fun row hr=>h row (by simp [hr])
  have := WsF.cons hs hd ((h r (by simp)).app ih)
  refine this.mono ?_
  rw [Nat.succ_mul]; omega
theorem WsF.join {s : Wd} (hs : W4 s) (hd : s ≠ [46]) {b : Nat} {rows : List (List Wd)} (h : ∀ row ∈ rows,WsF b row) : WsF (rows.length * (b + 1)) (G3 s rows) := by
 cases rows with
 | nil=>simpa [G3] using WsF.nil
 | cons r rs =>
  have ih := WsF.tails hs hd (rows := rs) fun row hr=>h row (by simp [hr])
  have := (h r (by simp)).app ih
  refine this.mono ?_
  rw [List.length_cons,Nat.succ_mul]; omega
theorem M5 {c : Nat} (h : c ∈ P8) : W4 [c] := ⟨.inr (.inr (.inr (.inr ⟨c,h,rfl⟩))),by show 1 ≤ 54; decide,fun x hx=>by
 rw [List.mem_singleton.mp hx]
 have : ∀ c ∈ P8,c < 128 := by decide
 exact this c h⟩
theorem fW : W4 [46,46] := ⟨.inr (.inr (.inr (.inl rfl))),by decide,by decide⟩
theorem U6 {u : Wd} (h : D7 u = true) (hl : u.length ≤ 54) : W4 u := by
 unfold D7 at h
 rw [Bool.and_eq_true,decide_eq_true_iff,List.all_eq_true] at h
 refine ⟨.inl ⟨h.1,h.2⟩,hl,fun c hc=>?_⟩
 have := h.2 c hc
 unfold P2 at this
 simp only [Bool.and_eq_true,decide_eq_true_eq] at this
 omega
theorem xB : ∀ u ∈ L5,D7 u = true ∧ u.length ≤ 54 ∧ u ≠ [46] := by decide
theorem fQ {i : Int} (h : X0 i) : W4 (O7 i) ∧ O7 i ≠ [46] := by
 have hn := AF5 (Nat.lt_trans h (by decide))
 refine ⟨⟨.inr (.inl hn),AF6 h,fun c hc=>?_⟩,fun e=>by have := Z5 i; rw [e] at this; cases this⟩
 obtain ⟨sn,fs,e,hsn,_,hf,_⟩ := hn
 rw [e] at hc
 rcases List.mem_append.mp hc with z | z
 ·rcases hsn with rfl | rfl
  ·cases z
  ·rw [List.mem_singleton.mp z]; decide
 ·have := (fU (hf c z)).2; omega
theorem sP {b : List Nat} (h : ∀ c ∈ b,T1 c = true) (hl : b.length ≤ 20) : W4 (34 :: (b ++ [34])) ∧ (34 :: (b ++ [34]) : Wd) ≠ [46] := by
 refine ⟨⟨.inr (.inr (.inl ⟨b,h,rfl⟩)),by simp; omega,fun c hc=>?_⟩,fun e=>by cases e⟩
 rcases List.mem_cons.mp hc with rfl | hc
 ·decide
 ·rcases List.mem_append.mp hc with z | z
  ·have := h c z
   unfold T1 at this
   simp only [Bool.and_eq_true,decide_eq_true_eq] at this
   omega
  ·rw [List.mem_singleton.mp z]; decide
theorem AL8 {x : Tn} {ws : List Wd} (h : kS x ws) : WsF 3 ws := by
 have ow : ∀ {a : Option Int},(∀ i,a = some i → X0 i) → WsF 1 (oW a) := fun {a} h=>by
  cases a with
  | none=>exact WsF.nil.mono (by omega)
  | some i=>exact (WsF.cons (fQ (h i rfl)).1 (fQ (h i rfl)).2 WsF.nil).mono (by omega)
 cases h with
 | word hu =>
  obtain ⟨h1,h2,h3⟩ := xB _ hu
  exact (WsF.cons (U6 h1 h2) h3 WsF.nil).mono (by omega)
 | one hi=>exact (WsF.cons (fQ hi).1 (fQ hi).2 WsF.nil).mono (by omega)
 | span hab ha hb=>exact (((ow ha).app (WsF.cons fW (by decide) WsF.nil)).app (ow hb)).mono (by omega)
 | text hc hl=>exact (WsF.cons (sP hc hl).1 (sP hc hl).2 WsF.nil).mono (by omega)
theorem pY : ∀ {ns : List Wd},(∀ n ∈ ns,O4 n) → WsF (2 * ns.length) (tails [46] (ns.map ([·])))
 | [],_=>by simpa [tails] using WsF.nil
 | n :: ns,h=>by
  have ih := pY (ns := ns) fun x hx=>h x (by simp [hx])
  have hn := h n (by simp)
  have w := U6 hn.nm (by have := hn.len; omega)
  rw [List.map_cons,N1]
  refine ⟨fun u hu=>?_,.dot (AS7 hn.nm) ih.dot,?_⟩
  ·rcases List.mem_cons.mp hu with rfl | hu
   ·exact M5 (by decide)
   ·rcases List.mem_cons.mp hu with rfl | hu
    ·exact w
    ·exact ih.ok u hu
  ·have := ih.len
   simp at this ⊢
   omega
theorem oZ {ns : List Wd} (h : ∀ n ∈ ns,O4 n) (hl : ns.length ≤ 4) : WsF 8 (G8 ns) := by
 cases ns with
 | nil=>simpa [G8,G3] using WsF.nil.mono (by omega)
 | cons n ns =>
  have hn := h n (by simp)
  have w := U6 hn.nm (by have := hn.len; omega)
  have := WsF.cons w (bW hn.nm).2.2.2 (pY (ns := ns) fun x hx=>h x (by simp [hx]))
  refine this.mono ?_
  simp at hl
  omega
def aV (mx : Nat → Nat) : Nat → Nat
 | 0=>9
 | n + 1=>mx (n + 1) * (aV mx n + 6) + 4
theorem All2.right {α β : Type} {F : α → β → Prop} {Q : β → Prop} {as : List α} {bs : List β} (h : All2 F as bs) (k : ∀ a b,F a b → Q b) : ∀ b ∈ bs,Q b := by
 induction h with
 | nil=>intro b hb; cases hb
 | cons a _ ih =>
  intro b hb
  rcases List.mem_cons.mp hb with rfl | hb
  ·exact k _ _ a
  ·exact ih b hb
theorem yM {P : Tn → List Wd → Prop} {b : Nat} {tied : Bool} {x : Tn} {row : List Wd} (h : ∀ ws,P x ws → WsF b ws) (hr : Y8 P tied x row) : WsF (b + 2) row := by
 obtain ⟨ws,hw,hr⟩ := hr
 rcases hr with rfl | ⟨_,rfl⟩
 ·exact (WsF.cons (M5 (by decide)) (by decide) ((h ws hw).app (WsF.cons (M5 (by decide)) (by decide) WsF.nil))).mono (by omega)
 ·exact (h _ hw).mono (by omega)
theorem jE {s : Wd} {rows rs : List (List Wd)} (h : rows ≠ []) : G3 s (rows ++ rs) = G3 s rows ++ tails s rs := by
 obtain ⟨r,rows,rfl⟩ := List.exists_cons_of_ne_nil h
 show r ++ tails s (rows ++ rs) = r ++ tails s rows ++ tails s rs
 rw [List.append_assoc]
 congr 1
 simp [tails]
theorem qF {b : Nat} {rows : List (List Wd)} {m : Bool} {l r : Nat} (hl : l ∈ P8) (hr : r ∈ P8) (h1 : l ≠ 46) (h2 : r ≠ 46) (h : ∀ row ∈ rows,WsF b row) : WsF (rows.length * (b + 1) + 4) ([l] :: (G3 [44] (rows ++ G9 m) ++ [[r]])) := by
 have hd : WsF 2 (tails [44] (G9 m)) := by
  cases m with
  | false=>exact WsF.nil.mono (by omega)
  | true=>exact WsF.cons (M5 (by decide)) (by decide) (WsF.cons fW (by decide) WsF.nil)
 have hj : WsF (rows.length * (b + 1) + 2) (G3 [44] (rows ++ G9 m)) := by
  by_cases e : rows = []
  ·subst e
   cases m with
   | false=>exact WsF.nil.mono (by omega)
   | true=>exact (WsF.cons fW (by decide) WsF.nil).mono (by simp)
  ·rw [jE e]
   exact (WsF.join (s := [44]) (M5 (by decide)) (by decide) h).app hd
 exact (WsF.cons (M5 hl) (by simpa using h1) (hj.app (WsF.cons (M5 hr) (by simpa using h2) WsF.nil))).mono (by omega)
theorem iS {mx : Nat → Nat} (hm : ∀ n,1 ≤ mx n) : ∀ (n : Nat) (pl : Bool) (x : Tn) (ws : List Wd),PrW mx n pl x ws → WsF (aV mx n) ws
 | 0,pl,x,ws,h=>by
  rcases h with h | ⟨_,h⟩
  ·exact (AL8 h).mono (by show 3 ≤ 9; omega)
  ·cases h with
   | mk h0 hl hn=>exact (WsF.cons (M5 (by decide)) (by decide) (oZ hn hl)).mono (by show 8 + 1 ≤ 9; omega)
 | n + 1,pl,x,ws,h=>by
  have ih := iS hm n
  have e : aV mx (n + 1) = mx (n + 1) * (aV mx n + 6) + 4 := rfl
  have h1 := hm (n + 1)
  have big : aV mx n + 10 ≤ aV mx (n + 1) := by
   rw [e]
   have := Nat.mul_le_mul_right (aV mx n + 6) h1
   omega
  have big9 : 9 ≤ aV mx (n + 1) := by omega
  have rw' : ∀ {pl tied : Bool} {x : Tn} {row : List Wd},Y8 (PrW mx n pl) tied x row → WsF (aV mx n + 2) row := fun {pl tied x row} hr=>yM (fun ws hw=>ih pl x ws hw) hr
  have wide : ∀ {a c : Nat},a ≤ mx (n + 1) → c ≤ aV mx n + 6 → a * c + 4 ≤ aV mx (n + 1) := fun {a c} ha hc=>by
   rw [e]
   have := Nat.mul_le_mul ha hc
   omega
  rcases h with h | ⟨hp,h⟩ | ⟨ts,rows,m,rfl,hl,ha,rfl⟩ | ⟨fs,rows,m,rfl,hl,hd,ha,rfl⟩ | ⟨t,row,rfl,hr,rfl⟩ | ⟨ts,rows,rfl,h2,hl,ha,rfl⟩ | ⟨ts,rows,rfl,h2,hl,ha,rfl⟩
  ·exact (AL8 h).mono (by omega)
  ·cases h with
   | mk h0 hl hn=>exact (WsF.cons (M5 (by decide)) (by decide) (oZ hn hl)).mono (by omega)
  ·refine (qF (b := aV mx n + 2) (by decide) (by decide) (by decide) (by decide) (ha.right fun a b hb=>rw' hb)).mono ?_
   rw [← ha.length]
   exact wide hl (by omega)
  ·refine (qF (b := aV mx n + 5) (by decide) (by decide) (by decide) (by decide) (ha.right fun f b hb=>?_)).mono ?_
   ·obtain ⟨r,rfl,hn,hr⟩ := hb
    have w := U6 hn.nm (by have := hn.len; omega)
    have col := WsF.cons (M5 (c := 58) (by decide)) (by decide) (rw' hr)
    have nn := (bW hn.nm).2.2.2
    unfold T4
    cases f.2.2 with
    | true=>exact (WsF.cons w nn col).mono (by omega)
    | false=>exact (WsF.cons w nn (WsF.cons (M5 (c := 63) (by decide)) (by decide) col)).mono (by omega)
   ·rw [← ha.length]
    exact wide hl (by omega)
  ·exact (WsF.cons (M5 (by decide)) (by decide) (rw' hr)).mono (by omega)
  ·refine (WsF.join (s := [38]) (M5 (by decide)) (by decide) (ha.right fun a b hb=>rw' hb)).mono ?_
   rw [← ha.length]
   have := wide hl (c := aV mx n + 2 + 1) (by omega)
   omega
  ·refine (WsF.join (s := [124]) (M5 (by decide)) (by decide) (ha.right fun a b hb=>rw' hb)).mono ?_
   rw [← ha.length]
   have := wide hl (c := aV mx n + 2 + 1) (by omega)
   omega
end Law
namespace Law
open PySem L2 L2.Sp
theorem aJ (a b : List Nat) : (S a ++ S b : Str) = S (a ++ b) := by
 show (⟨a.toArray ++ b.toArray⟩ : Str) = ⟨(a ++ b).toArray⟩
 simp
theorem W9 {a b : List Nat} (h : a.length + b.length ≤ 100000) : (S a).length + (S b).length ≤ sizeLine := by rw [N9,N9]; have : sizeLine = 16777216 := sizeLine_eq; omega
theorem AB3 {α : Type} {xs : List α} {r : Int} (h0 : 0 ≤ r) (h1 : r < xs.length) : ∃ x,x ∈ xs ∧ bB xs r = some x := by
 obtain ⟨k,rfl⟩ := Int.eq_ofNat_of_zero_le h0
 have hk : k < xs.length := by omega
 exact ⟨xs[k],List.getElem_mem hk,J7 (List.getElem?_eq_getElem hk)⟩
theorem AN1 {xs : List Wd} {r : Int} (h0 : 0 ≤ r) (h1 : r < xs.length) : ∃ x,x ∈ xs ∧ bB (ST xs) r = some (.str (S x)) := by
 obtain ⟨k,rfl⟩ := Int.eq_ofNat_of_zero_le h0
 have hk : k < xs.length := by omega
 exact ⟨xs[k],List.getElem_mem hk,J7 (by rw [List.getElem?_map,List.getElem?_eq_getElem hk]; rfl)⟩
structure DS (st : Addr) (H0 H : Hp) : Prop where
 g : Grow st H0 H
 s : ∃ y : Int,H st = some (.lst [.int y])
 b : ∃ x : Int,H0 st = some (.lst [.int x])
section
variable {K : PySem.W.Frag} {H0 H H' : Hp} {st l : Addr} {o : HO}
theorem DS.start {x : Int} (h : H st = some (.lst [.int x])) : DS st H H := ⟨Grow.refl,⟨x,h⟩,⟨x,h⟩⟩
theorem DS.same (d : DS st H0 H) (g : Same H H') : DS st H0 H' := ⟨fun b o hb h=>g _ _ (d.g b o hb h),by obtain ⟨y,h⟩ := d.s; exact ⟨y,g _ _ h⟩,d.b⟩
theorem DS.more (d : DS st H0 H) (d' : DS st H H') : DS st H0 H' := ⟨d.g.trans d'.g,d'.s,d.b⟩
theorem DS.next (d : DS st H0 H) (y : Int) : DS st H0 (E7 H st (.lst [.int y])) := ⟨d.g.trans X9,⟨y,A6⟩,d.b⟩
theorem DS.old (d : DS st H0 H) (hl : H l = none) : H0 l = none := by
 cases e : H0 l with
 | none=>rfl
 | some o =>
  by_cases e2 : l = st
  ·obtain ⟨y,h⟩ := d.s; rw [e2,h] at hl; cases hl
  ·rw [d.g l o e2 e] at hl; cases hl
theorem DS.ne (d : DS st H0 H) (hl : H0 l = none) : l ≠ st := fun e=>by obtain ⟨x,h⟩ := d.b; rw [← e,hl] at h; cases h
theorem DS.put (d : DS st H0 H) (hl : H0 l = none) : DS st H0 (E7 H l o) := by
 have n := d.ne hl
 exact ⟨fun b u hb h=>by rw [B6 (D9 h hl)]; exact d.g b u hb h,by obtain ⟨y,h⟩ := d.s; exact ⟨y,by rw [B6 (Ne.symm n)]; exact h⟩,d.b⟩
theorem DS.kp (d : DS st H0 H) : Kp K H0 H := by
 obtain ⟨x,h⟩ := d.b
 exact Grow.tups d.g (fun xs z=>by rw [h] at z; cases z) (fun xs o z=>by rw [h] at z; cases z)
end
section
variable {P : Program} {w : World} {K : PySem.W.Frag} {mg : Str → Option Value} {base : Heap} {f : Addr} {fd : FuncData}
theorem vJ {X : Cx} {k : Nat} {x : Str} {sp : Sp} {p pos : Pos} (C : Cal X.prog X.w X.K X.mg X.base k x [] sp) (hr : Room k X.A) (hg : Gl X x) (hdb : (x == ("__debug__" : Str)) = false := by decide) :
  PE X (.Call (.Name x p) [] [] pos) (lY sp [] E0 aB) := by
 obtain ⟨f,fd,F,a,b,c⟩ := C.ex
 exact AE4 F hr hg a b c .nil P0 hdb
abbrev jX : Stmt := N0 38
theorem AV7 : E4 ["_law_state","_law_many"] ["_law_state","_law_many"] (B1 jX) := ⟨rfl,rfl,rfl,by decide +kernel,rfl,by decide +kernel,by decide +kernel⟩
def O9 : Sp := fun vs H Q _=>∃ (st : Addr) (x m : Int),vs = [.ref st,.int m] ∧ H st = some (.lst [.int x]) ∧ 0 < m ∧ ∀ y r : Int,0 ≤ r → r < m → Q (.int r) (E7 H st (.lst [.int y]))
theorem AR0 (F : Fun K "_law_next" "_law_next" jX f fd) : FnOk P w K mg base K1 1 f fd ["_law_state","_law_many"] O9 := by
 refine F.ok AV7 (fun vs H Q E h=>?_) (fun cdv A outer s H vs Q E hr h=>?_)
 ·obtain ⟨st,x,m,rfl,_⟩ := h
  rfl
 obtain ⟨st,x,m,rfl,hs,hm,q⟩ := h
 refine ⟨_,A7 (yR (E6 Z4 (E6 Q2 (E6 mL (J0 N4 (pv 0) B2 (fun _ _=>rfl)) B2) B2) (E6 Z3 (E6 iU B2 B2) B2)) (yV (pv 0) B2 sJ))
  (A8 (B4 (E6 Z4 (E6 vM (J0 N4 (pv 0) B2 (fun _ _=>rfl)) B2) (pv 1)))),?_⟩
 refine ⟨_,rfl,st,_,_,_,rfl,rfl,SqL.of hs,rfl,_,_,rfl,rfl,.inr ⟨by decide,by decide⟩,_,_,rfl,rfl,_,_,rfl,rfl,⟨by decide,by decide,by decide⟩,_,_,rfl,rfl,_,_,rfl,rfl,(by show (0 : Int) < 2 ^ Int.toNat 61 - 1; decide),?_⟩
 refine ⟨_,rfl,st,_,_,_,rfl,rfl,hs,rfl,?_⟩
 refine ⟨_,rfl,st,_,_,_,rfl,rfl,SqL.of A6,rfl,_,_,rfl,rfl,⟨by decide,by decide⟩,_,rfl,_,_,rfl,rfl,hm,?_⟩
 exact q _ _ (Int.emod_nonneg _ (by omega)) (Int.emod_lt_of_pos _ hm)
def AG6 : List Nat := [97,98,99,100,101,102,103,104,105,106,107,108,109,110,111,112,113,114,115,116,117,118,119,120,121,122]
theorem AL6 : (Str.ofString "abcdefghijklmnopqrstuvwxyz" : Str) = S AG6 := by decide +kernel
theorem AZ8 : ∀ c ∈ AG6,P2 c = true := by decide
abbrev oQ : Stmt := N0 40
theorem rL : E4 ["_law_state","_law_many","_law_span_here","_law_word","_law_k"] ["_law_state","_law_many","_law_span_here"] (B1 oQ) := ⟨rfl,rfl,rfl,by decide +kernel,rfl,by decide +kernel,by decide +kernel⟩
def rD : Sp := fun args H Q _=>∃ (st : Addr) (x : Int) (m : Nat) (sp : Int),args = [.ref st,.int (m : Int),.int sp] ∧ H st = some (.lst [.int x]) ∧ m ≤ 20 ∧ 0 < sp ∧ sp ≤ 26 ∧
 ∀ (H' : Hp) (v : Wd),DS st H H' → (∀ c ∈ v,P2 c = true) → v.length = m → Q (.str (S v)) H'
theorem AZ1 (F : Fun K "_law_letters" "_law_letters" oQ f fd) (N : Cal P w K mg base 1 "_law_next" ["_law_state","_law_many"] O9) (m1 : mg "range" = none) : FnOk P w K mg base K1 2 f fd ["_law_state","_law_many","_law_span_here"] rD := by
 refine F.ok rL (fun vs H Q E h=>?_) (fun cdv A outer s H vs Q E hr h=>?_)
 ·obtain ⟨st,x,m,sp,rfl,_⟩ := h
  rfl
 obtain ⟨st,x,m,sp,rfl,hs,hm,hp0,hp1,q⟩ := h
 refine ⟨_,A7 (B9 (i := 3) rL.nd rfl (Or.inl rfl) B3)
  (A7 (R1 PassesOwn.never rfl (Q0 rfl m1 (A0 (pv 1) A5)) (K8 (i := 4) rL.nd rfl (Or.inl rfl))
   (A8 (P9 (i := 3) rL.nd rfl (Or.inl rfl) (J0 Z9 B3 (B5 N hr rfl (A0 (pv 0) (A0 (pv 2) A5))) (fun _ _=>rfl)) eJ)))
  (A8 (B4 (pv 3)))),?_⟩
 have D0 := DS.start hs
 refine ⟨_,rfl,(m : Int),rfl,by omega,by omega,?_⟩
 refine Y7 (fun i σ H'=>∃ (v : Wd) (z : Option V),σ = [some (.ref st),some (.int (m : Int)),some (.int sp),some (.str (S v)),z] ∧ DS st H H' ∧ (∀ c ∈ v,P2 c = true) ∧ v.length = i)
  ⟨[],none,by show _ = _; rw [iY]; rfl,D0,fun c hc=>(by cases hc),rfl⟩ (fun i σ H' hi hinv=>?_) (fun σ H' hinv=>?_)
 ·obtain ⟨v,z,rfl,d,hv,hl⟩ := hinv
  obtain ⟨y,hy⟩ := d.s
  refine ⟨_,rfl,_,rfl,_,rfl,st,y,_,rfl,hy,hp0,fun y2 r r0 r1=>?_⟩
  obtain ⟨c,hc,hat⟩ := AB3 (xs := AG6) r0 (by show r < 26; omega)
  refine ⟨_,_,c,rfl,rfl,by rw [AL6]; exact O8 (by decide),by rw [AL6]; exact hat,?_⟩
  refine ⟨_,_,rfl,rfl,W9 (b := [c]) (by simp; omega),v ++ [c],some (.int (0 + (i : Int))),?_,d.next y2,fun x hx=>?_,by simp [hl]⟩
  ·rw [show (⟨#[c]⟩ : Str) = S [c] from rfl,aJ]; rfl
  ·rcases List.mem_append.mp hx with h | h
   ·exact hv x h
   ·rw [List.mem_singleton.mp h]; exact AZ8 c hc
 ·obtain ⟨v,z,rfl,d,hv,hl⟩ := hinv
  exact ⟨_,rfl,q H' v d hv hl⟩
abbrev fE : Stmt := N0 41
theorem AP1 : E4 [] [] (B1 fE) := ⟨rfl,rfl,rfl,by decide +kernel,rfl,by decide +kernel,by decide +kernel⟩
def jR : Sp := fun args H Q _=>args = [] ∧ ∀ l,H l = none → Q (.ref l) (E7 H l (.lst (ST L5)))
theorem lp0 : (Str.ofString "none" : Str) = S [110,111,110,101] := by decide +kernel
theorem lp1 : (Str.ofString "yes" : Str) = S [121,101,115] := by decide +kernel
theorem lp2 : (Str.ofString "no" : Str) = S [110,111] := by decide +kernel
theorem lp3 : (Str.ofString "truth" : Str) = S [116,114,117,116,104] := by decide +kernel
theorem lp4 : (Str.ofString "number" : Str) = S [110,117,109,98,101,114] := by decide +kernel
theorem lp5 : (Str.ofString "text" : Str) = S [116,101,120,116] := by decide +kernel
theorem lp6 : (Str.ofString "list" : Str) = S [108,105,115,116] := by decide +kernel
theorem lp7 : (Str.ofString "record" : Str) = S [114,101,99,111,114,100] := by decide +kernel
theorem lp8 : (Str.ofString "any" : Str) = S [97,110,121] := by decide +kernel
theorem lp9 : (Str.ofString "nothing" : Str) = S [110,111,116,104,105,110,103] := by decide +kernel
theorem BL0 : (Str.ofString "else" : Str) = S [101,108,115,101] := by decide +kernel
theorem BK9 : (Str.ofString "elses" : Str) = S [101,108,115,101,115] := by decide +kernel
theorem tE : [V.str (Str.ofString "none"),.str (Str.ofString "yes"),.str (Str.ofString "no"),.str (Str.ofString "truth"),.str (Str.ofString "number"),.str (Str.ofString "text"),.str (Str.ofString "list"),.str (Str.ofString "record"),.str (Str.ofString "any"),.str (Str.ofString "nothing")] = ST L5 := by rw [lp0,lp1,lp2,lp3,lp4,lp5,lp6,lp7,lp8,lp9]; rfl
theorem AF0 (F : Fun K "_law_plain" "_law_plain" fE f fd) : FnOk P w K mg base K1 1 f fd [] jR := by
 refine F.ok AP1 (fun vs H Q E h=>?_) (fun cdv A outer s H vs Q E hr h=>?_)
 ·obtain ⟨rfl,_⟩ := h
  rfl
 obtain ⟨rfl,q⟩ := h
 refine ⟨_,A8 (B4 (E5 (A0 B3 (A0 B3 (A0 B3 (A0 B3 (A0 B3 (A0 B3 (A0 B3 (A0 B3 (A0 B3 (A0 B3 A5)))))))))))),?_⟩
 refine ⟨by show 10 ≤ sizeLine; decide,fun l hl=>?_⟩
 have := q l hl
 rw [← tE] at this
 exact this
abbrev vB : Stmt := N0 42
theorem AV6 : E4 ["_law_state","_law_way"] ["_law_state"] (B1 vB) := ⟨rfl,rfl,rfl,by decide +kernel,rfl,by decide +kernel,by decide +kernel⟩
def kX : Sp := fun args H Q _=>∃ (st : Addr) (x : Int),args = [.ref st] ∧ H st = some (.lst [.int x]) ∧ ∀ (H' : Hp) (v : Wd),DS st H H' → O4 v → Q (.str (S v)) H'
def hV : List Wd := [[101,108,115,101],[101,108,115,101,115]]
theorem AS9 : [V.str (Str.ofString "else"),.str (Str.ofString "elses")] = ST hV := by rw [BL0,BK9]; rfl
theorem sS : ∀ u ∈ L5 ++ hV,D7 u = true ∧ u.length ≤ 20 := by decide
theorem BF7 (F : Fun K "_law_name" "_law_name" vB f fd) (N : Cal P w K mg base 1 "_law_next" ["_law_state","_law_many"] O9) (L : Cal P w K mg base 2 "_law_letters" ["_law_state","_law_many","_law_span_here"] rD) (PL : Cal P w K mg base 1 "_law_plain" [] jR) : FnOk P w K mg base K1 3 f fd ["_law_state"] kX := by
 refine F.ok AV6 (fun vs H Q E h=>?_) (fun cdv A outer s H vs Q E hr h=>?_)
 ·obtain ⟨st,x,rfl,_⟩ := h
  rfl
 obtain ⟨st,x,rfl,hs,q⟩ := h
 have hr1 := hr.mono (show 1 ≤ 2 by decide)
 refine ⟨_,A7 (B9 (i := 1) AV6.nd rfl (Or.inl rfl) (B5 N hr1 rfl (A0 (pv 0) (A0 B2 A5))))
  (A7 (E8 (B8 G7 (pv 1) B2 (D5 _)) (A8 (B4 (J0 N4 (E6 M6 (vJ PL hr1 rfl) (E5 (A0 B3 (A0 B3 A5)))) (B5 N hr1 rfl (A0 (pv 0) (A0 B2 A5))) (fun _ _=>rfl)))) D6)
  (A8 (B4 (B5 L hr rfl (A0 (pv 0) (A0 (E6 Q2 B2 (B5 N hr1 rfl (A0 (pv 0) (A0 (J0 N4 (E5 (A0 B2 (A0 B2 A5))) (E6 Z4 (pv 1) B2) (fun _ _=>rfl)) A5))))
   (A0 (J0 N4 (E5 (A0 B2 (A0 B2 A5))) (E6 Z4 (E6 vM (pv 1) B2) B2) (fun _ _=>rfl)) A5))))))),?_⟩
 have D0 := DS.start hs
 refine ⟨_,rfl,st,x,8,rfl,hs,by decide,fun y way w0 w1=>?_⟩
 have D1 := D0.next y
 obtain ⟨y1,hy1⟩ := D1.s
 refine ⟨_,rfl,rfl,_,rfl,M1 (fun _=>?_) (fun _=>?_)⟩
 ·refine ⟨rfl,fun l1 hl1=>⟨R8,fun l2 hl2=>?_⟩⟩
  rw [AS9]
  have k1 := A9 hl1 (.lst (ST L5))
  have k2 := A9 hl2 (.lst (ST hV))
  refine ⟨l1,l2,_,_,rfl,rfl,k2 _ _ A6,A6,U0 (by decide),fun l3 hl3=>?_⟩
  have e : ST L5 ++ ST hV = ST (L5 ++ hV) := by simp [ST]
  rw [e]
  have k3 := A9 hl3 (.lst (ST (L5 ++ hV)))
  have D2 := D1.same (k1.trans (k2.trans k3))
  obtain ⟨y2,hy2⟩ := D2.s
  refine ⟨_,rfl,st,y2,12,rfl,hy2,by decide,fun y3 r r0 r1=>?_⟩
  obtain ⟨v,hv,hat⟩ := AN1 (xs := L5 ++ hV) r0 (by show r < 12; exact r1)
  have n3 : l3 ≠ st := Ne.symm (D9 ((k1.trans k2) _ _ hy1) hl3)
  refine ⟨l3,_,_,_,rfl,rfl,SqL.of (by rw [B6 n3]; exact A6),hat,q _ v (D2.next y3) ⟨(sS v hv).1,(sS v hv).2⟩⟩
 ·refine ⟨_,rfl,_,rfl,R8,fun l1 hl1=>?_⟩
  have k1 := A9 hl1 (.lst [.int 3,.int 8])
  have D2 := D1.same k1
  obtain ⟨y2,hy2⟩ := D2.s
  obtain ⟨e1,he1,h38⟩ : ∃ e1 : Int,bB [V.int 3,.int 8] (way % 2) = some (.int e1) ∧ (e1 = 3 ∨ e1 = 8) := by
   have : way % 2 = 0 ∨ way % 2 = 1 := by omega
   rcases this with e | e <;> rw [e]
   ·exact ⟨3,rfl,.inl rfl⟩
   ·exact ⟨8,rfl,.inr rfl⟩
  refine ⟨_,rfl,_,_,rfl,rfl,(by show (0 : Int) < 2; decide),l1,_,_,.int e1,rfl,rfl,SqL.of A6,he1,st,y2,e1,rfl,hy2,by omega,fun y3 r r0 r1=>?_⟩
  have D3 := D2.next y3
  obtain ⟨k,rfl⟩ := Int.eq_ofNat_of_zero_le r0
  refine ⟨_,_,rfl,rfl,R8,fun l2 hl2=>?_⟩
  have k2 := A9 hl2 (.lst [.int 2,.int 26])
  have D4 := D3.same k2
  obtain ⟨y4,hy4⟩ := D4.s
  obtain ⟨e2,he2,h226⟩ : ∃ e2 : Int,bB [V.int 2,.int 26] (way / 2 % 2) = some (.int e2) ∧ (e2 = 2 ∨ e2 = 26) := by
   have : way / 2 % 2 = 0 ∨ way / 2 % 2 = 1 := by omega
   rcases this with e | e <;> rw [e]
   ·exact ⟨2,rfl,.inl rfl⟩
   ·exact ⟨26,rfl,.inr rfl⟩
  refine ⟨_,rfl,_,_,rfl,rfl,⟨by decide,by decide⟩,_,_,rfl,rfl,(by show (0 : Int) < 2; decide),l2,_,_,.int e2,rfl,rfl,SqL.of A6,he2,st,y4,1 + k,e2,by rw [show ((1 + k : Nat) : Int) = 1 + (k : Int) by omega]; rfl,hy4,by omega,by omega,by omega,fun H5 v d5 hv hvl=>?_⟩
  refine q H5 v (D4.more d5) ⟨?_,by omega⟩
  unfold D7
  rw [Bool.and_eq_true,decide_eq_true_iff,List.all_eq_true]
  exact ⟨fun z=>by rw [z] at hvl; simp at hvl; omega,hv⟩
end
end Law
namespace Law
open PySem L2 L2.Sp
section
variable {P : Program} {w : World} {K : PySem.W.Frag} {mg : Str → Option Value} {base : Heap} {f : Addr} {fd : FuncData}
abbrev iQ : Stmt := N0 43
theorem dF : E4 ["_law_state","_law_many","_law_names_here","_law_k","_law_name_here"] ["_law_state","_law_many"] (B1 iQ) := ⟨rfl,rfl,rfl,by decide +kernel,rfl,by decide +kernel,by decide +kernel⟩
def rC : Sp := fun args H Q _=>∃ (st : Addr) (x : Int) (m : Nat),args = [.ref st,.int (m : Int)] ∧ H st = some (.lst [.int x]) ∧ m ≤ 100 ∧ ∀ (H' : Hp) (l : Addr) (ns : List Wd),DS st H H' → H l = none → H' l = some (.lst (ST ns)) → ns.Nodup → ns.length ≤ m → (∀ n ∈ ns,O4 n) → Q (.ref l) H'
theorem AZ0 (F : Fun K "_law_names" "_law_names" iQ f fd) (N : Cal P w K mg base 3 "_law_name" ["_law_state"] kX) (m1 : mg "range" = none) : FnOk P w K mg base K1 4 f fd ["_law_state","_law_many"] rC := by
 refine F.ok dF (fun vs H Q E h=>?_) (fun cdv A outer s H vs Q E hr h=>?_)
 ·obtain ⟨st,x,m,rfl,_⟩ := h
  rfl
 obtain ⟨st,x,m,rfl,hs,hm,q⟩ := h
 refine ⟨_,A7 (B9 (i := 2) dF.nd rfl (Or.inl rfl) (E5 A5))
  (A7 (R1 PassesOwn.never rfl (Q0 rfl m1 (A0 (pv 1) A5)) (K8 (i := 3) dF.nd rfl (Or.inl rfl))
   (A7 (B9 (i := 4) dF.nd rfl (Or.inl rfl) (B5 N hr rfl (A0 (pv 0) A5)))
   (A8 (E8 (B8 cJ (pv 4) (pv 2) rfl) (A8 (K5 (S5 PySem.F.plainAttrs_list PySem.F.slot_list_append PySem.F.type_list_append M0 (pv 2) (A0 (pv 4) A5)))) D6))))
  (A8 (B4 (pv 2)))),?_⟩
 have D0 := DS.start hs
 refine ⟨U2,fun l hl=>?_⟩
 have D1 := D0.put (o := .lst []) hl
 refine ⟨_,rfl,(m : Int),rfl,by omega,by omega,?_⟩
 refine Y7 (fun i σ H'=>∃ (ns : List Wd) (b3 b4 : Option V),σ = [some (.ref st),some (.int (m : Int)),some (.ref l),b3,b4] ∧ DS st H H' ∧ H' l = some (.lst (ST ns)) ∧ ns.Nodup ∧ ns.length ≤ i ∧ ∀ n ∈ ns,O4 n)
  ⟨[],none,none,rfl,D1,A6,List.nodup_nil,Nat.le_refl _,fun n hn=>(by cases hn)⟩ (fun i σ H' hi hinv=>?_) (fun σ H' hinv=>?_)
 ·obtain ⟨ns,b3,b4,rfl,d,hl',hd,hlen,hok⟩ := hinv
  obtain ⟨y,hy⟩ := d.s
  have nl := d.ne hl
  refine ⟨_,rfl,st,y,rfl,hy,fun H2 v d2 hv=>?_⟩
  have d' := d.more d2
  have hl2 := d2.g _ _ nl hl'
  refine ⟨_,rfl,_,rfl,l,_,rfl,.inl (SqL.of hl2),rfl,kL _,_,rfl,?_⟩
  show if (!cP (.str (S v)) (ST ns)) = true then _ else _
  rw [jI]
  by_cases e : v ∈ ns
  ·rw [decide_eq_true e]
   exact E2 ⟨ns,_,_,rfl,d',hl2,hd,by omega,hok⟩
  ·rw [decide_eq_false e]
   refine G0 ⟨_,rfl,.inl ⟨rfl,_,SqL.of hl2⟩,_,rfl,l,_,_,rfl,rfl,hl2,by rw [List.length_map]; exact T2 (by omega),ns ++ [v],some (.int (0 + (i : Int))),_,rfl,d'.put hl,?_,?_,by rw [List.length_append,List.length_singleton]; omega,fun n hn=>?_⟩
   ·rw [A6]; simp [ST]
   ·rw [List.nodup_append]
    exact ⟨hd,by simp,fun a ha b hb=>by rw [List.mem_singleton.mp hb]; exact fun z=>e (z ▸ ha)⟩
   ·rcases List.mem_append.mp hn with z | z
    ·exact hok n z
    ·rw [List.mem_singleton.mp z]; exact hv
 ·obtain ⟨ns,b3,b4,rfl,d,hl',hd,hlen,hok⟩ := hinv
  exact ⟨_,rfl,q H' l ns d hl hl' hd hlen hok⟩
abbrev vA : Stmt := N0 44
theorem wY : E4 ["_law_state","_law_number_here","_law_k"] ["_law_state"] (B1 vA) := ⟨rfl,rfl,rfl,by decide +kernel,rfl,by decide +kernel,by decide +kernel⟩
def wS : Sp := fun args H Q _=>∃ (st : Addr) (x : Int),args = [.ref st] ∧ H st = some (.lst [.int x]) ∧ ∀ (H' : Hp) (i : Int),DS st H H' → i.natAbs < 12 * 10 ^ 50 → Q (.int i) H'
theorem BF6 (F : Fun K "_law_number" "_law_number" vA f fd) (N : Cal P w K mg base 1 "_law_next" ["_law_state","_law_many"] O9) (m1 : mg "range" = none) : FnOk P w K mg base K1 2 f fd ["_law_state"] wS := by
 refine F.ok wY (fun vs H Q E h=>?_) (fun cdv A outer s H vs Q E hr h=>?_)
 ·obtain ⟨st,x,rfl,_⟩ := h
  rfl
 obtain ⟨st,x,rfl,hs,q⟩ := h
 refine ⟨_,A7 (B9 (i := 1) wY.nd rfl (Or.inl rfl) (B5 N hr rfl (A0 (pv 0) (A0 B2 A5))))
  (N3 (E8 (B8 G7 (B5 N hr rfl (A0 (pv 0) (A0 B2 A5))) B2 (D5 _))
   (A8 (R1 PassesOwn.never rfl (Q0 rfl m1 (A0 B2 A5)) (K8 (i := 2) wY.nd rfl (Or.inl rfl))
    (A8 (B9 (i := 1) wY.nd rfl (Or.inl rfl) (E6 Q2 (E6 mL (pv 1) (E6 iU B2 B2)) (B5 N hr rfl (A0 (pv 0) (A0 (E6 iU B2 B2) A5)))))))) D6)
  (A7 (E8 (B8 G7 (B5 N hr rfl (A0 (pv 0) (A0 B2 A5))) B2 (D5 _)) (A8 (B4 (rN lV (pv 1)))) D6)
  (A8 (B4 (pv 1))))),?_⟩
 have D0 := DS.start hs
 refine ⟨_,rfl,st,x,12,rfl,hs,by decide,fun y r0 a0 a1=>?_⟩
 have D1 := D0.next y
 obtain ⟨y1,hy1⟩ := D1.s
 refine ⟨fun σ' H'=>∃ (i : Int) (b2 : Option V),σ' = [some (.ref st),some (.int i),b2] ∧ DS st H H' ∧ 0 ≤ i ∧ i < 12 * 10 ^ 50,?_,?_⟩
 ·refine ⟨_,rfl,st,y1,4,rfl,hy1,by decide,fun y2 r b0 b1=>⟨rfl,_,rfl,M1 (fun _=>?_) (fun _=>⟨r0,none,rfl,D1.next y2,a0,by omega⟩)⟩⟩
  refine ⟨(5 : Int),rfl,by decide,by decide,?_⟩
  refine Y7 (fun i σ H'=>∃ (v : Int) (b2 : Option V),σ = [some (.ref st),some (.int v),b2] ∧ DS st H H' ∧ 0 ≤ v ∧ v < 12 * 10 ^ (10 * i)) ⟨r0,none,rfl,D1.next y2,a0,by simpa using a1⟩ (fun i σ H' hi hinv=>?_) (fun σ H' hinv=>?_)
  ·obtain ⟨v,b2,rfl,d,v0,v1⟩ := hinv
   obtain ⟨y3,hy3⟩ := d.s
   refine ⟨_,rfl,_,_,rfl,rfl,⟨by decide,by decide,by decide⟩,_,_,rfl,rfl,.inr ⟨by decide,by decide⟩,_,rfl,_,_,rfl,rfl,⟨by decide,by decide,by decide⟩,st,y3,_,rfl,hy3,(by show (0 : Int) < 10 ^ Int.toNat 10; decide),fun y4 r c0 c1=>?_⟩
   refine ⟨_,_,rfl,rfl,v * 10 ^ Int.toNat 10 + r,some (.int (0 + (i : Int))),rfl,d.next y4,?_,?_⟩
   ·have : (0 : Int) ≤ v * 10 ^ Int.toNat 10 := Int.mul_nonneg v0 (by decide)
    omega
   ·have e : (12 : Int) * 10 ^ (10 * (i + 1)) = (12 * 10 ^ (10 * i)) * 10 ^ 10 := by
     rw [Nat.mul_add,Int.pow_add,Int.mul_assoc]
    have c1' : r < 10 ^ 10 := c1
    have e2 : v * 10 ^ Int.toNat 10 = v * 10 ^ 10 := rfl
    rw [e,e2]
    generalize (12 : Int) * 10 ^ (10 * i) = B at v1
    omega
  ·obtain ⟨v,b2,rfl,d,v0,v1⟩ := hinv
   exact ⟨v,b2,rfl,d,v0,v1⟩
 ·rintro σ' H' ⟨i,b2,rfl,d,i0,i1⟩
  obtain ⟨y3,hy3⟩ := d.s
  refine ⟨_,rfl,st,y3,2,rfl,hy3,by decide,fun y4 r b0 b1=>⟨rfl,_,rfl,M1 (fun _=>⟨_,rfl,_,rfl,q _ _ (d.next y4) (by omega)⟩) (fun _=>⟨_,rfl,q _ _ (d.next y4) (by omega)⟩)⟩⟩
def iK : List Nat := (List.range 127).filter T1
theorem AG5 : (Str.ofString " !#$&'()*+,-./0123456789:;<=>?@ABCDEFGHIJKLMNOPQRSTUVWXYZ[\\]^_`abcdefghijklmnopqrstuvwxyz{|}~" : Str) = S iK := by decide +kernel
theorem yF : iK.length = 93 := by decide +kernel
theorem AD1 {c : Nat} (h : c ∈ iK) : T1 c = true := (List.mem_filter.mp h).2
abbrev uZ : Stmt := N0 45
theorem sK : E4 ["_law_state","_law_signs","_law_text_here","_law_k"] ["_law_state"] (B1 uZ) := ⟨rfl,rfl,rfl,by decide +kernel,rfl,by decide +kernel,by decide +kernel⟩
def AC9 : Sp := fun args H Q _=>∃ (st : Addr) (x : Int),args = [.ref st] ∧ H st = some (.lst [.int x]) ∧ ∀ (H' : Hp) (v : Wd),DS st H H' → (∀ c ∈ v,T1 c = true) → v.length ≤ 20 → Q (.str (S v)) H'
theorem BF4 (F : Fun K "_law_text" "_law_text" uZ f fd) (N : Cal P w K mg base 1 "_law_next" ["_law_state","_law_many"] O9) (m1 : mg "range" = none) (m2 : mg "len" = none) : FnOk P w K mg base K1 2 f fd ["_law_state"] AC9 := by
 refine F.ok sK (fun vs H Q E h=>?_) (fun cdv A outer s H vs Q E hr h=>?_)
 ·obtain ⟨st,x,rfl,_⟩ := h
  rfl
 obtain ⟨st,x,rfl,hs,q⟩ := h
 refine ⟨_,A7 (B9 (i := 1) sK.nd rfl (Or.inl rfl) B3)
  (A7 (B9 (i := 2) sK.nd rfl (Or.inl rfl) B3)
  (A7 (R1 PassesOwn.never rfl (Q0 rfl m1 (A0 (B5 N hr rfl (A0 (pv 0) (A0 B2 A5))) A5)) (K8 (i := 3) sK.nd rfl (Or.inl rfl))
   (A8 (P9 (i := 2) sK.nd rfl (Or.inl rfl) (J0 Z9 (pv 1) (B5 N hr rfl (A0 (pv 0) (A0 (J0 N4 (E5 (A0 (J8 T5 rfl m2 PySem.boot_len (A0 (pv 1) A5)) (A0 B2 A5))) (B5 N hr rfl (A0 (pv 0) (A0 B2 A5))) (fun _ _=>rfl)) A5))) (fun _ _=>rfl)) eJ)))
  (A8 (B4 (pv 2))))),?_⟩
 have D0 := DS.start hs
 have hsl := yF
 refine ⟨_,rfl,st,x,5,rfl,hs,by decide,fun y m a0 a1=>?_⟩
 obtain ⟨k,rfl⟩ := Int.eq_ofNat_of_zero_le a0
 refine ⟨(k : Int),rfl,by omega,by omega,?_⟩
 rw [AG5]
 refine Y7 (fun i σ H'=>∃ (v : Wd) (z : Option V),σ = [some (.ref st),some (.str (S iK)),some (.str (S v)),z] ∧ DS st H H' ∧ (∀ c ∈ v,T1 c = true) ∧ v.length = i)
  ⟨[],none,by show _ = _; rw [iY]; rfl,D0.next y,fun c hc=>(by cases hc),rfl⟩ (fun i σ H' hi hinv=>?_) (fun σ H' hinv=>?_)
 ·obtain ⟨v,z,rfl,d,hv,hl⟩ := hinv
  refine ⟨_,rfl,_,rfl,_,rfl,_,rfl,_,rfl,O8 (by rw [hsl]; decide),R8,fun l1 hl1=>?_⟩
  rw [N9,hsl]
  have k1 := A9 hl1 (.lst [.int ((93 : Nat) : Int),.int 3])
  have d1 := d.same k1
  have nl := d.ne (d.old hl1)
  obtain ⟨y1,hy1⟩ := d1.s
  refine ⟨_,rfl,st,y1,2,rfl,hy1,by decide,fun y2 r b0 b1=>?_⟩
  obtain ⟨e1,he1,h93⟩ : ∃ e1 : Int,bB [V.int ((93 : Nat) : Int),.int 3] r = some (.int e1) ∧ (e1 = 93 ∨ e1 = 3) := by
   have : r = 0 ∨ r = 1 := by omega
   rcases this with e | e <;> rw [e]
   ·exact ⟨93,rfl,.inl rfl⟩
   ·exact ⟨3,rfl,.inr rfl⟩
  have d2 := d1.next y2
  obtain ⟨y3,hy3⟩ := d2.s
  refine ⟨l1,_,_,.int e1,rfl,rfl,SqL.of (by rw [B6 nl]; exact A6),he1,st,y3,e1,rfl,hy3,by omega,fun y4 r2 c0 c1=>?_⟩
  obtain ⟨c,hc,hat⟩ := AB3 (xs := iK) c0 (by rw [hsl]; omega)
  refine ⟨_,_,c,rfl,rfl,O8 (by rw [hsl]; decide),hat,?_⟩
  refine ⟨_,_,rfl,rfl,W9 (b := [c]) (by simp; omega),v ++ [c],some (.int (0 + (i : Int))),?_,d2.next y4,fun x hx=>?_,by simp [hl]⟩
  ·rw [show (⟨#[c]⟩ : Str) = S [c] from rfl,aJ]; rfl
  ·rcases List.mem_append.mp hx with h | h
   ·exact hv x h
   ·rw [List.mem_singleton.mp h]; exact AD1 hc
 ·obtain ⟨v,z,rfl,d,hv,hl⟩ := hinv
  exact ⟨_,rfl,q H' v d hv (by omega)⟩
def kW (K : PySem.W.Frag) (T : Tn → Prop) : Sp := fun args H Q _=>∃ (st : Addr) (x : Int),args = [.ref st] ∧ H st = some (.lst [.int x]) ∧ ∀ (H' : Hp) (t : Tn) (v : V),DS st H H' → T t → TV K H' t v → Q v H'
abbrev oF : Stmt := N0 46
theorem wW : E4 ["_law_state","_law_low","_law_way"] ["_law_state"] (B1 oF) := ⟨rfl,rfl,rfl,by decide +kernel,rfl,by decide +kernel,by decide +kernel⟩
theorem iok {i : Int} (h : i.natAbs < 24 * 10 ^ 50) : X0 i := Nat.lt_trans h (by decide)
theorem AY0 (F : Fun K "_law_span" "_law_span" oF f fd) (N : Cal P w K mg base 1 "_law_next" ["_law_state","_law_many"] O9) (NO : Cal P w K mg base 2 "_law_number" ["_law_state"] wS) : FnOk P w K mg base K1 3 f fd ["_law_state"] (kW K aX) := by
 refine F.ok wW (fun vs H Q E h=>?_) (fun cdv A outer s H vs Q E hr h=>?_)
 ·obtain ⟨st,x,rfl,_⟩ := h
  rfl
 obtain ⟨st,x,rfl,hs,q⟩ := h
 have hr1 := hr.mono (show 1 ≤ 2 by decide)
 refine ⟨_,A7 (B9 (i := 1) wW.nd rfl (Or.inl rfl) (B5 NO hr rfl (A0 (pv 0) A5)))
  (A7 (B9 (i := 2) wW.nd rfl (Or.inl rfl) (B5 N hr1 rfl (A0 (pv 0) (A0 B2 A5))))
  (A7 (E8 (B8 aH (pv 2) B2 (D5 _)) (A8 (B4 (K0 (A0 B3 (A0 (pv 1) (A0 (pv 1) A5)))))) D6)
  (A7 (E8 (B8 G7 (pv 2) B2 (D5 _)) (A8 (B4 (K0 (A0 B3 (A0 (pv 1) (A0 aR A5)))))) D6)
  (A7 (E8 (B8 G7 (pv 2) B2 (D5 _)) (A8 (B4 (K0 (A0 B3 (A0 aR (A0 (pv 1) A5)))))) D6)
  (A8 (B4 (K0 (A0 B3 (A0 (pv 1) (A0 (E6 Q2 (pv 1) (B5 NO hr rfl (A0 (pv 0) A5))) A5)))))))))),?_⟩
 have D0 := DS.start hs
 have fin : ∀ {H2 : Hp} {a b : Option Int} {va vb : V} {p : Addr},DS st H H2 → H2 p = none → (a ≠ none ∨ b ≠ none) → (∀ i,a = some i → X0 i) → (∀ i,b = some i → X0 i) → (∀ H3,TV K H3 (oI a) va) → (∀ H3,TV K H3 (oI b) vb) → Q (.ref p) (E7 H2 p (.tup [.str (Str.ofString "span"),va,vb])) := fun {H2 a b va vb p} d hp h1 h2 h3 h4 h5 =>
  q _ _ _ (d.same (A9 hp _)) (.span h1 h2 h3) (eO A6 (h4 _) (h5 _))
 refine ⟨_,rfl,st,x,rfl,hs,fun H1 low d1 hlow=>?_⟩
 have il : X0 low := iok (by omega)
 obtain ⟨y1,hy1⟩ := d1.s
 refine ⟨_,rfl,st,y1,5,rfl,hy1,by decide,fun y2 way b0 b1=>?_⟩
 have d2 := d1.next y2
 have s1 : ∀ i,some low = some i → X0 i := fun i e=>by cases e; exact il
 have s0 : ∀ i,(none : Option Int) = some i → X0 i := fun i e=>by cases e
 refine ⟨_,rfl,_,_,rfl,rfl,_,rfl,M1 (fun _=>?_) (fun _=>?_)⟩
 ·exact ⟨_,rfl,_,rfl,Z6,fun p hp=>fin (a := some low) (b := some low) d2 hp (.inl (by simp)) s1 s1 (fun _=>TV.int) (fun _=>TV.int)⟩
 refine ⟨_,rfl,rfl,_,rfl,M1 (fun _=>?_) (fun _=>?_)⟩
 ·exact ⟨_,rfl,Z6,fun p hp=>fin (a := some low) (b := none) d2 hp (.inl (by simp)) s1 s0 (fun _=>TV.int) (fun _=>TV.non)⟩
 refine ⟨_,rfl,rfl,_,rfl,M1 (fun _=>?_) (fun _=>?_)⟩
 ·exact ⟨_,rfl,Z6,fun p hp=>fin (a := none) (b := some low) d2 hp (.inr (by simp)) s0 s1 (fun _=>TV.non) (fun _=>TV.int)⟩
 obtain ⟨y3,hy3⟩ := d2.s
 refine ⟨_,rfl,_,rfl,_,rfl,st,y3,rfl,hy3,fun H4 n d4 hn=>?_⟩
 refine ⟨_,_,rfl,rfl,Z6,fun p hp=>fin (a := some low) (b := some (low + n)) (d2.more d4) hp (.inl (by simp)) s1 (fun i e=>by cases e; exact iok (by omega)) (fun _=>TV.int) (fun _=>TV.int)⟩
abbrev vC : Stmt := N0 47
theorem AV9 : E4 ["_law_state","_law_way"] ["_law_state"] (B1 vC) := ⟨rfl,rfl,rfl,by decide +kernel,rfl,by decide +kernel,by decide +kernel⟩
theorem BF8 (F : Fun K "_law_leaf" "_law_leaf" vC f fd) (N : Cal P w K mg base 1 "_law_next" ["_law_state","_law_many"] O9) (PL : Cal P w K mg base 1 "_law_plain" [] jR) (SP : Cal P w K mg base 3 "_law_span" ["_law_state"] (kW K aX)) (TX : Cal P w K mg base 2 "_law_text" ["_law_state"] AC9) : FnOk P w K mg base K1 4 f fd ["_law_state"] (kW K aX) := by
 refine F.ok AV9 (fun vs H Q E h=>?_) (fun cdv A outer s H vs Q E hr h=>?_)
 ·obtain ⟨st,x,rfl,_⟩ := h
  rfl
 obtain ⟨st,x,rfl,hs,q⟩ := h
 have hr1 := hr.mono (show 1 ≤ 3 by decide)
 have hr2 := hr.mono (show 2 ≤ 3 by decide)
 refine ⟨_,A7 (B9 (i := 1) AV9.nd rfl (Or.inl rfl) (B5 N hr1 rfl (A0 (pv 0) (A0 B2 A5))))
  (A7 (E8 (B8 aH (pv 1) B2 (D5 _)) (A8 (B4 (K0 (A0 B3 (A0 (J0 N4 (vJ PL hr1 rfl) (B5 N hr1 rfl (A0 (pv 0) (A0 B2 A5))) (fun _ _=>rfl)) A5))))) D6)
  (A7 (E8 (B8 aH (pv 1) B2 (D5 _)) (A8 (B4 (B5 SP hr rfl (A0 (pv 0) A5)))) D6)
  (A8 (B4 (K0 (A0 B3 (A0 (B5 TX hr2 rfl (A0 (pv 0) A5)) A5))))))),?_⟩
 have D0 := DS.start hs
 refine ⟨_,rfl,st,x,6,rfl,hs,by decide,fun y way a0 a1=>?_⟩
 have d1 := D0.next y
 obtain ⟨y1,hy1⟩ := d1.s
 refine ⟨_,rfl,_,_,rfl,rfl,_,rfl,M1 (fun _=>?_) (fun _=>?_)⟩
 ·refine ⟨rfl,fun l1 hl1=>?_⟩
  have k1 := A9 hl1 (.lst (ST L5))
  have d2 := d1.same k1
  have nl := d1.ne (d1.old hl1)
  obtain ⟨y2,hy2⟩ := d2.s
  refine ⟨_,rfl,st,y2,10,rfl,hy2,by decide,fun y3 r b0 b1=>?_⟩
  obtain ⟨v,hv,hat⟩ := AN1 (xs := L5) b0 (by show r < 10; exact b1)
  refine ⟨l1,_,_,_,rfl,rfl,SqL.of (by rw [B6 nl]; exact A6),hat,R8,fun p hp=>?_⟩
  exact q _ _ _ ((d2.next y3).same (A9 hp _)) (.word hv) (TV.tup (SqT.of (by rw [A6,Z7])) (TAll.cons TV.str (TAll.one TV.str)))
 refine ⟨_,rfl,_,_,rfl,rfl,_,rfl,M1 (fun _=>?_) (fun _=>?_)⟩
 ·exact ⟨_,rfl,st,y1,rfl,hy1,fun H2 t v d2 ht hv=>q H2 t v (d1.more d2) ht hv⟩
 refine ⟨_,rfl,st,y1,rfl,hy1,fun H2 v d2 hv hl=>⟨R8,fun p hp=>?_⟩⟩
 exact q _ _ _ ((d1.more d2).same (A9 hp _)) (.text hv hl) (TV.tup (SqT.of (by rw [A6,bJ])) (TAll.cons TV.str (TAll.one TV.str)))
end
end Law
namespace Law
open PySem L2 L2.Sp
def J1 (_ : Nat) : Nat := 3
section
variable {P : Program} {w : World} {K : PySem.W.Frag} {mg : Str → Option Value} {base : Heap} {f : Addr} {fd : FuncData}
abbrev dI : Stmt := N0 48
theorem cB : E4 ["_law_state","_law_deep","_law_places","_law_way","_law_items","_law_fields","_law_name_here","_law_trees"] ["_law_state","_law_deep","_law_places"] (B1 dI) := ⟨rfl,rfl,rfl,by decide +kernel,rfl,by decide +kernel,by decide +kernel⟩
theorem BG2 : (["_law_k","_law_state"] : List Str).Nodup := by decide +kernel
theorem AZ7 : (["_law_k","_law_state","_law_deep"] : List Str).Nodup := by decide +kernel
theorem AS6 : (["_law_k","_law_state","_law_deep","_law_places"] : List Str).Nodup := by decide +kernel
def eQ (K : PySem.W.Frag) (n : Nat) : Sp := fun args H Q _=>∃ (st : Addr) (x : Int) (pl : Bool),args = [.ref st,.int (n : Int),.bl pl] ∧ H st = some (.lst [.int x]) ∧ ∀ (H' : Hp) (t : Tn) (v : V),DS st H H' → GT J1 n pl t → TV K H' t v → Q v H'
theorem GT.leaf {mx : Nat → Nat} {n : Nat} {pl : Bool} {t : Tn} (h : aX t) : GT mx n pl t := by cases n <;> exact .inl h
theorem GT.place {mx : Nat → Nat} {n : Nat} {t : Tn} (h : uG t) : GT mx n true t := by
 cases n with
 | zero=>exact .inr ⟨rfl,h⟩
 | succ n=>exact .inr (.inl ⟨rfl,h⟩)
def rQ (K : PySem.W.Frag) (T : Tn → Prop) (st : Addr) (H0 H : Hp) (l : Addr) (ys : List V) (i : Nat) : Prop := DS st H0 H ∧ H l = some (.lst ys) ∧ ∃ ts,TAll K H ts ys ∧ ts.length = i ∧ ∀ t ∈ ts,T t
theorem vO {k n : Nat} {sp : Sp} (F : Fun K "_law_tree" "_law_tree" dI f fd) (TR : Cal P w K mg base k "_law_tree" ["_law_state","_law_deep","_law_places"] sp) (hsp : ∀ n',n = n' + 1 → sp = eQ K n') (N : Cal P w K mg base 1 "_law_next" ["_law_state","_law_many"] O9)
  (NM : Cal P w K mg base 3 "_law_name" ["_law_state"] kX) (NMS : Cal P w K mg base 4 "_law_names" ["_law_state","_law_many"] rC) (LF : Cal P w K mg base 4 "_law_leaf" ["_law_state"] (kW K aX)) (m1 : mg "range" = none) (m2 : mg "tuple" = none) (hk : 4 ≤ k) (hn : n ≤ 3) :
  FnOk P w K mg base K1 (k + 1) f fd ["_law_state","_law_deep","_law_places"] (eQ K n) := by
 refine F.ok cB (fun vs H Q E h=>?_) (fun cdv A outer s H vs Q E hr h=>?_)
 ·obtain ⟨st,x,pl,rfl,_⟩ := h
  rfl
 obtain ⟨st,x,pl,rfl,hs,q⟩ := h
 have hr1 := hr.mono (show 1 ≤ k by omega)
 have hr2 := hr.mono (show 2 ≤ k by omega)
 have hr3 := hr.mono (show 3 ≤ k by omega)
 have hr4 := hr.mono hk
 refine ⟨_,A7 (B9 (i := 3) cB.nd rfl (Or.inl rfl) (B5 N hr1 rfl (A0 (pv 0) (A0 B2 A5))))
  (N3 (E8 (PW.pt (Z1 (N6 (pv 2)) (aE (B8 G7 (pv 3) B2 (D5 _)))))
   (A8 (B4 (K0 (A0 B3 (A0 (K6 O5 rfl m2 U3 (A0 (vH (N' := ["_law_k","_law_state"]) (fr := [none,some 0]) (own := [0]) ⟨rfl,rfl,rfl,rfl,rfl,rfl,rfl⟩ rfl (Q0 rfl m1 (A0 (E6 Q2 B2 (B5 N hr1 rfl (A0 (pv 0) (A0 B2 A5)))) A5))
    (fun _ _ _ _=>K8 (i := 0) BG2 rfl (Or.inl rfl)) (X7 0) (fun _ _ _ _=>bT) (fun _ _ _ _=>B5 NM hr3 rfl (A0 (pv 1) A5))) A5)) A5))))) D6)
  (N3 (E8 (PW.pt (gJ (B8 G7 (pv 1) B2 (D5 _)) (fI (B8 aH (pv 3) B2 (D5 _))))) (A8 (B4 (B5 LF hr4 rfl (A0 (pv 0) A5)))) D6)
  (A7 (E8 (B8 aH (pv 3) B2 (D5 _))
   (A7 (fK (i := 4) (N' := ["_law_k","_law_state","_law_deep"]) (fr := [none,some 0,some 1]) (own := [0]) ⟨rfl,rfl,rfl,rfl,rfl,rfl,rfl⟩ rfl cB.nd rfl rfl (Q0 rfl m1 (A0 (B5 N hr1 rfl (A0 (pv 0) (A0 B2 A5))) A5))
    (fun _ _ _ _=>K8 (i := 0) AZ7 rfl (Or.inl rfl)) (X7 0) (fun _ _ _ _=>bT) (fun _ _ _ _=>B5 TR hr rfl (A0 (pv 1) (A0 (E6 Z3 (pv 2) B2) (A0 N7 A5)))))
   (A8 (B4 (K0 (A0 B3 (A0 (K6 O5 rfl m2 U3 (A0 (pv 4) A5)) (A0 (Q6 G7 (B5 N hr1 rfl (A0 (pv 0) (A0 B2 A5))) B2 (D5 _)) A5))))))) D6)
  (A7 (E8 (B8 aH (pv 3) B2 (D5 _))
   (A7 (B9 (i := 5) cB.nd rfl (Or.inl rfl) (E5 A5))
   (A7 (R1 PassesOwn.never rfl (fN (B5 NMS hr4 rfl (A0 (pv 0) (A0 (B5 N hr1 rfl (A0 (pv 0) (A0 B2 A5))) A5)))) (K8 (i := 6) cB.nd rfl (Or.inl rfl))
    (A8 (K5 (S5 PySem.F.plainAttrs_list PySem.F.slot_list_append PySem.F.type_list_append M0 (pv 5) (A0 (K0 (A0 (pv 6) (A0 (B5 TR hr rfl (A0 (pv 0) (A0 (E6 Z3 (pv 1) B2) (A0 N7 A5)))) (A0 (Q6 G7 (B5 N hr1 rfl (A0 (pv 0) (A0 B2 A5))) B2 (D5 _)) A5)))) A5)))))
   (A8 (B4 (K0 (A0 B3 (A0 (K6 O5 rfl m2 U3 (A0 (pv 5) A5)) (A0 (Q6 G7 (B5 N hr1 rfl (A0 (pv 0) (A0 B2 A5))) B2 (D5 _)) A5)))))))) D6)
  (A7 (E8 (B8 G7 (pv 3) B2 (D5 _)) (A8 (B4 (K0 (A0 B3 (A0 (B5 TR hr rfl (A0 (pv 0) (A0 (E6 Z3 (pv 1) B2) (A0 N7 A5)))) A5))))) D6)
  (A7 (fK (i := 7) (N' := ["_law_k","_law_state","_law_deep","_law_places"]) (fr := [none,some 0,some 1,some 2]) (own := [0]) ⟨rfl,rfl,rfl,rfl,rfl,rfl,rfl⟩ rfl cB.nd rfl rfl (Q0 rfl m1 (A0 (E6 Q2 B2 (B5 N hr1 rfl (A0 (pv 0) (A0 B2 A5)))) A5))
    (fun _ _ _ _=>K8 (i := 0) AS6 rfl (Or.inl rfl)) (X7 0) (fun _ _ _ _=>bT) (fun _ _ _ _=>B5 TR hr rfl (A0 (pv 1) (A0 (E6 Z3 (pv 2) B2) (A0 (pv 3) A5)))))
  (A8 (B4 (K0 (A0 (J0 N4 (E5 (A0 B3 (A0 B3 A5))) (E6 Z3 (pv 3) B2) (fun _ _=>rfl)) (A0 (K6 O5 rfl m2 U3 (A0 (pv 7) A5)) A5))))))))))),?_⟩
 have D0 := DS.start hs
 refine ⟨_,rfl,st,x,10,rfl,hs,by decide,fun y way a0 a1=>?_⟩
 have D1 := D0.next y
 refine ⟨fun σ' H'=>σ' = [some (.ref st),some (.int (n : Int)),some (.bl pl),some (.int way),none,none,none,none] ∧ DS st H H',?_,?_⟩
 ·refine ⟨_,rfl,_,rfl,?_⟩
  cases pl with
  | false=>exact E2 (E2 ⟨rfl,D1⟩)
  | true =>
   refine G0 ⟨_,rfl,rfl,_,rfl,M1 (fun _=>?_) (fun _=>⟨rfl,D1⟩)⟩
   obtain ⟨y1,hy1⟩ := D1.s
   refine ⟨_,rfl,st,y1,3,rfl,hy1,by decide,fun y2 r b0 b1=>?_⟩
   have D2 := D1.next y2
   obtain ⟨c,rfl⟩ := Int.eq_ofNat_of_zero_le b0
   refine ⟨_,_,rfl,rfl,((1 + c : Nat) : Int),by rw [show ((1 + c : Nat) : Int) = 1 + (c : Int) by omega],by omega,by omega,fun l hl=>?_⟩
   have hl0 := D2.old hl
   refine aA (fun i ys H'=>DS st H H' ∧ H' l = some (.lst ys) ∧ ∃ ns,ys = ST ns ∧ ns.length = i ∧ ∀ n ∈ ns,O4 n) ⟨D2.put hl0,A6,[],rfl,rfl,fun n hn=>(by cases hn)⟩ (fun i ys H' hi hinv=>?_) (fun ys H' hinv=>?_)
   ·obtain ⟨d,hl',ns,rfl,hlen,hok⟩ := hinv
    obtain ⟨y3,hy3⟩ := d.s
    have nl := d.ne hl0
    dsimp only [aL,X5]
    refine nV ⟨_,rfl,st,y3,rfl,hy3,fun H4 v d4 hv=>?_⟩
    refine ⟨d4.g _ _ nl hl',by rw [List.length_map]; exact T2 (by omega),(d.more d4).put hl0,A6,ns ++ [v],by simp [ST],by simp [hlen],fun m hm=>?_⟩
    rcases List.mem_append.mp hm with z | z
    ·exact hok m z
    ·rw [List.mem_singleton.mp z]; exact hv
   ·obtain ⟨d,hl',ns,rfl,hlen,hok⟩ := hinv
    refine ⟨l,_,rfl,.inl ⟨SqL.of hl',fun p hp=>⟨R8,fun p2 hp2=>?_⟩⟩⟩
    have k1 := A9 hp (.tup (ST ns))
    have k2 := A9 hp2 (.tup [.str (Str.ofString "place"),.ref p])
    refine q _ _ _ (d.same (k1.trans k2)) (GT.place (.mk (fun z=>by rw [z] at hlen; simp at hlen; omega) (by omega) hok)) ?_
    exact TV.tup (SqT.of (by rw [A6,aT])) (TAll.cons TV.str (TAll.one (TV.tup (SqT.of (k2 _ _ A6)) (TAll.strs ns))))
 rintro σ1 H1 ⟨rfl,d1⟩
 clear D0 D1
 refine ⟨fun σ' H'=>σ' = [some (.ref st),some (.int (n : Int)),some (.bl pl),some (.int way),none,none,none,none] ∧ H' = H1 ∧ n ≠ 0 ∧ 3 ≤ way,?_,?_⟩
 ·obtain ⟨y1,hy1⟩ := d1.s
  have leaf : ∀ {Q' : Prop},(∀ (H' : Hp) (t : Tn) (v : V),DS st H1 H' → aX t → TV K H' t v → Q v H') := fun {Q'} H' t v d ht hv=>q H' t v (d1.more d) (GT.leaf ht) hv
  refine ⟨_,rfl,rfl,_,rfl,M1 (fun _=>G0 ⟨_,rfl,st,y1,rfl,hy1,fun H' t v d ht hv=>q H' t v (d1.more d) (GT.leaf ht) hv⟩) (fun c=>?_)⟩
  refine ⟨_,rfl,_,_,rfl,rfl,_,rfl,M1 (fun _=>⟨_,rfl,st,y1,rfl,hy1,fun H' t v d ht hv=>q H' t v (d1.more d) (GT.leaf ht) hv⟩) (fun c2=>⟨rfl,rfl,fun z=>c (decide_eq_true (by rw [z]; rfl)),?_⟩)⟩
  exact Int.not_lt.mp fun z=>c2 (decide_eq_true z)
 rintro σ2 H2 ⟨rfl,rfl,hn0,hw3⟩
 obtain ⟨n',rfl⟩ : ∃ n',n = n' + 1 := ⟨n - 1,by omega⟩
 have esp := hsp n' rfl
 subst esp
 have em : ((n' + 1 : Nat) : Int) - 1 = (n' : Int) := by omega
 obtain ⟨y1,hy1⟩ := d1.s
 have turn : ∀ {pl' : Bool} {i : Nat} {ys : List V} {H' : Hp} {l : Addr},H l = none → rQ K (GT J1 n' pl') st H H' l ys i → i ≤ 100 → ∀ {N' : List V → Hp → Prop},(∀ zs H'',rQ K (GT J1 n' pl') st H H'' l zs (i + 1) → N' zs H'') →
   eQ K n' [.ref st,.int (((n' + 1 : Nat) : Int) - 1),.bl pl'] H' (fun y H5=>H5 l = some (.lst ys) ∧ ys.length < sizeLine ∧ N' (ys ++ [y]) (E7 H5 l (.lst (ys ++ [y])))) E0 := fun {pl' i ys H' l} hl0 hinv hi {N'} hN=>by
  obtain ⟨d,hl',ts,hts,hlen,hok⟩ := hinv
  obtain ⟨y3,hy3⟩ := d.s
  have nl := d.ne hl0
  refine ⟨st,y3,pl',by rw [em],hy3,fun H5 t v d5 ht hv=>?_⟩
  have hl5 := d5.g _ _ nl hl'
  have kl := Kp.lst (K := K) (o := .lst (ys ++ [v])) hl5
  refine ⟨hl5,T2 (by rw [hts.length]; omega),hN _ _ ⟨(d.more d5).put hl0,A6,ts ++ [t],((hts.kp d5.kp).kp kl).append (TAll.one (TV.kp kl hv)),by simp [hlen],fun m hm=>?_⟩⟩
  rcases List.mem_append.mp hm with z | z
  ·exact hok m z
  ·rw [List.mem_singleton.mp z]; exact ht
 refine ⟨_,rfl,_,_,rfl,rfl,_,rfl,M1 (fun _=>?_) (fun c5=>?_)⟩
 ·refine ⟨_,rfl,st,y1,4,rfl,hy1,by decide,fun y3 r' c0 c1=>?_⟩
  obtain ⟨r,rfl⟩ := Int.eq_ofNat_of_zero_le c0
  have hr3' : r ≤ J1 (n' + 1) := by show r ≤ 3; omega
  have d2 := d1.next y3
  refine ⟨(r : Int),rfl,by omega,by omega,fun l hl=>?_⟩
  have hl0 := d2.old hl
  refine aA (fun i ys H'=>rQ K (GT J1 n' false) st H H' l ys i) ⟨d2.put hl0,A6,[],TAll.nil,rfl,fun t ht=>(by cases ht)⟩ (fun i ys H' hi hinv=>?_) (fun ys H' hinv=>?_)
  ·dsimp only [aL,X5]
   exact nV ⟨_,rfl,_,rfl,_,_,rfl,rfl,turn hl0 hinv (by omega) fun zs H'' h=>h⟩
  ·obtain ⟨d,hl',ts,hts,hlen,hok⟩ := hinv
   refine ⟨_,rfl,l,_,rfl,.inl ⟨SqL.of hl',fun p hp=>?_⟩⟩
   have k1 := A9 hp (.tup ys)
   have d5 := d.same k1
   obtain ⟨y5,hy5⟩ := d5.s
   refine ⟨_,rfl,st,y5,2,rfl,hy5,by decide,fun y6 r2 b0 b1=>⟨rfl,Z6,fun p2 hp2=>?_⟩⟩
   have d6 := d5.next y6
   have np : p ≠ st := d.ne (d.old hp)
   have k2 := A9 hp2 (.tup [.str (Str.ofString "list"),.ref p,.bl (decide (V.int r2 = V.int 0))])
   refine q _ (.tup [.str Z8,.tup ts,.bl (decide (V.int r2 = V.int 0))]) _ (d6.same k2) (.inr (.inr (.inl ⟨ts,_,rfl,by omega,hok⟩))) ?_
   have k5 : Kp K H' _ := (Kp.same k1).trans ((Kp.lst hy5).trans (Kp.same k2))
   exact TV.tup (SqT.of (by rw [A6,rO])) (TAll.cons TV.str (TAll.cons (TV.tup (SqT.of (k2 _ _ (by rw [B6 np]; exact A6))) (hts.kp k5)) (TAll.one TV.bl)))
 refine ⟨_,rfl,_,_,rfl,rfl,_,rfl,M1 (fun _=>?_) (fun c7=>?_)⟩
 ·refine ⟨U2,fun lf hlf=>?_⟩
  have hlf0 := d1.old hlf
  have d2 := d1.put (o := .lst []) hlf0
  obtain ⟨y2,hy2⟩ := d2.s
  refine ⟨_,rfl,_,rfl,st,y2,4,rfl,hy2,by decide,fun yq r' c0 c1=>?_⟩
  obtain ⟨r,rfl⟩ := Int.eq_ofNat_of_zero_le c0
  have hr3' : r ≤ J1 (n' + 1) := by show r ≤ 3; omega
  have hr9 : r ≤ 9 := by omega
  have d23 := d2.next yq
  obtain ⟨y3,hy3⟩ := d23.s
  have nlf := d2.ne hlf0
  have hlf3 : E7 (E7 H2 lf (.lst [])) st (.lst [.int yq]) lf = some (.lst []) := by rw [B6 nlf]; exact A6
  refine ⟨st,y3,r,rfl,hy3,by omega,fun H4 ln ns d4 hln3 hln hnd hnl hnok=>?_⟩
  have hln0 := d23.old hln3
  have nln := d23.ne hln0
  have nfn : lf ≠ ln := D9 hlf3 hln3
  refine ⟨ln,rfl,⟨_,SqL.of hln⟩,?_⟩
  refine cQ (xs := ST ns) (fun i σ H'=>∃ (fs : List (Wd × Tn × Bool)) (vs : List V) (b6 : Option V),σ = [some (.ref st),some (.int ((n' + 1 : Nat) : Int)),some (.bl pl),some (.int way),none,some (.ref lf),b6,none] ∧ DS st H H' ∧ H' lf = some (.lst vs) ∧ H' ln = some (.lst (ST ns)) ∧ TAll K H' (fs.map Y0) vs ∧ fs.map (·.1) = ns.take i ∧ ∀ f ∈ fs,O4 f.1 ∧ GT J1 n' false f.2.1)
   ⟨[],[],none,rfl,d23.more d4,d4.g _ _ nlf hlf3,hln,TAll.nil,rfl,fun f hf=>(by cases hf)⟩ (fun i σ H' _ hinv=>?_) (fun i u σ H' hu hinv=>?_) (fun σ H' hinv=>?_)
  ·obtain ⟨_,_,_,_,_,_,hq,_⟩ := hinv
   exact SqL.of hq
  ·obtain ⟨fs,vs,b6,rfl,d,hlf',hln',hts,hnm,hok⟩ := hinv
   obtain ⟨nm,hnmi,rfl⟩ : ∃ nm,ns[i]? = some nm ∧ u = .str (S nm) := by
    rw [List.getElem?_map] at hu
    cases e : ns[i]? with
    | none=>rw [e] at hu; cases hu
    | some z=>rw [e] at hu; cases hu; exact ⟨z,rfl,rfl⟩
   have hfl : fs.length ≤ 9 := by
    have := congrArg List.length hnm
    rw [List.length_map,List.length_take] at this
    omega
   obtain ⟨y5,hy5⟩ := d.s
   refine ⟨_,rfl,.inl ⟨rfl,_,SqL.of hlf'⟩,_,rfl,_,rfl,_,rfl,_,_,rfl,rfl,st,y5,false,by show [V.ref st,V.int (((n' + 1 : Nat) : Int) - 1),V.bl false] = _; rw [em],hy5,fun H5 t v d5 ht hv=>?_⟩
   obtain ⟨y6,hy6⟩ := d5.s
   have dd := d.more d5
   have hlf5 := d5.g _ _ nlf hlf'
   have hln5 := d5.g _ _ nln hln'
   refine ⟨_,rfl,st,y6,2,rfl,hy6,by decide,fun y7 r2 b0 b1=>⟨rfl,Z6,fun p hp=>?_⟩⟩
   have d7 := dd.next y7
   have k1 := A9 hp (.tup [.str (S nm),v,.bl (decide (V.int r2 = V.int 0))])
   have d8 := d7.same k1
   have hlf8 := k1 _ _ (show E7 H5 st (.lst [.int y7]) lf = some (.lst vs) by rw [B6 nlf]; exact hlf5)
   have hln8 := k1 _ _ (show E7 H5 st (.lst [.int y7]) ln = some (.lst (ST ns)) by rw [B6 nln]; exact hln5)
   have kk : Kp K H5 _ := (Kp.lst hy6).trans (Kp.same k1)
   have kl := Kp.lst (K := K) (o := .lst (vs ++ [.ref p])) hlf8
   refine ⟨lf,_,_,rfl,rfl,hlf8,T2 (by rw [hts.length,List.length_map]; omega),fs ++ [(nm,t,decide (V.int r2 = V.int 0))],_,some (.str (S nm)),rfl,d8.put hlf0,A6,by rw [B6 (Ne.symm nfn)]; exact hln8,?_,?_,fun g hg=>?_⟩
   ·rw [List.map_append]
    refine (hts.kp (d5.kp.trans (kk.trans kl))).append (TAll.one ?_)
    exact TV.kp kl (TV.tup (SqT.of A6) (TAll.cons TV.str (TAll.cons (TV.kp kk hv) (TAll.one TV.bl))))
   ·rw [List.map_append,hnm,S4 hnmi]; rfl
   ·rcases List.mem_append.mp hg with z | z
    ·exact hok g z
    ·rw [List.mem_singleton.mp z]; exact ⟨hnok nm (List.mem_of_getElem? hnmi),ht⟩
  ·obtain ⟨fs,vs,b6,rfl,d,hlf',hln',hts,hnm,hok⟩ := hinv
   have hnm : fs.map (·.1) = ns := by rw [hnm]; simp [ST]
   refine ⟨_,rfl,lf,_,rfl,.inl ⟨SqL.of hlf',fun p hp=>?_⟩⟩
   have k1 := A9 hp (.tup vs)
   have d5 := d.same k1
   obtain ⟨y5,hy5⟩ := d5.s
   refine ⟨_,rfl,st,y5,2,rfl,hy5,by decide,fun y6 r2 b0 b1=>⟨rfl,Z6,fun p2 hp2=>?_⟩⟩
   have d6 := d5.next y6
   have np : p ≠ st := d.ne (d.old hp)
   have k2 := A9 hp2 (.tup [.str (Str.ofString "record"),.ref p,.bl (decide (V.int r2 = V.int 0))])
   have hfl : fs.length = ns.length := by rw [← hnm,List.length_map]
   refine q _ (.tup [.str aF,.tup (fs.map Y0),.bl (decide (V.int r2 = V.int 0))]) _ (d6.same k2) (.inr (.inr (.inr (.inl ⟨fs,_,rfl,by omega,by rw [hnm]; exact hnd,hok⟩)))) ?_
   have k5 : Kp K H' _ := (Kp.same k1).trans ((Kp.lst hy5).trans (Kp.same k2))
   exact TV.tup (SqT.of (by rw [A6,BA0])) (TAll.cons TV.str (TAll.cons (TV.tup (SqT.of (k2 _ _ (by rw [B6 np]; exact A6))) (hts.kp k5)) (TAll.one TV.bl)))
 refine ⟨_,rfl,rfl,_,rfl,M1 (fun _=>?_) (fun c8=>?_)⟩
 ·refine ⟨_,rfl,_,rfl,_,_,rfl,rfl,st,y1,false,by show [V.ref st,V.int (((n' + 1 : Nat) : Int) - 1),V.bl false] = _; rw [em],hy1,fun H3 t v d3 ht hv=>⟨R8,fun p hp=>?_⟩⟩
  have k1 := A9 hp (.tup [.str (Str.ofString "not"),v])
  exact q _ (.tup [.str eI,t]) _ ((d1.more d3).same k1) (.inr (.inr (.inr (.inr (.inl ⟨t,rfl,ht⟩))))) (TV.tup (SqT.of (by rw [A6,gZ])) (TAll.cons TV.str (TAll.one (TV.kp (Kp.same k1) hv))))
 ·refine ⟨_,rfl,st,y1,2,rfl,hy1,by decide,fun y3 r' c0 c1=>?_⟩
  obtain ⟨r,rfl⟩ := Int.eq_ofNat_of_zero_le c0
  have d2 := d1.next y3
  refine ⟨_,_,rfl,rfl,((2 + r : Nat) : Int),by rw [show ((2 + r : Nat) : Int) = 2 + (r : Int) by omega],by omega,by omega,fun l hl=>?_⟩
  have hl0 := d2.old hl
  refine aA (fun i ys H'=>rQ K (GT J1 n' pl) st H H' l ys i) ⟨d2.put hl0,A6,[],TAll.nil,rfl,fun t ht=>(by cases ht)⟩ (fun i ys H' hi hinv=>?_) (fun ys H' hinv=>?_)
  ·dsimp only [aL,X5]
   exact nV ⟨_,rfl,_,rfl,_,_,rfl,rfl,_,rfl,turn hl0 hinv (by omega) fun zs H'' h=>h⟩
  ·obtain ⟨d,hl',ts,hts,hlen,hok⟩ := hinv
   refine ⟨R8,fun l2 hl2=>?_⟩
   have k1 := A9 hl2 (.lst [.str (Str.ofString "and"),.str (Str.ofString "or")])
   obtain ⟨kw,hkw,hat⟩ : ∃ kw,(kw = P3 ∨ kw = U9) ∧ bB [V.str (Str.ofString "and"),.str (Str.ofString "or")] (way - 8) = some (.str (S kw)) := by
    have h5 : ¬ way < 5 := fun z=>c5 (decide_eq_true z)
    have h7 : ¬ way < 7 := fun z=>c7 (decide_eq_true z)
    have h8 : way ≠ 7 := fun z=>c8 (decide_eq_true (by rw [z]))
    have : way = 8 ∨ way = 9 := by omega
    rcases this with e | e <;> rw [e,bH,lI]
    ·exact ⟨P3,.inl rfl,rfl⟩
    ·exact ⟨U9,.inr rfl,rfl⟩
   refine ⟨_,rfl,_,_,rfl,rfl,l2,_,_,_,rfl,rfl,SqL.of A6,hat,_,rfl,l,_,rfl,.inl ⟨SqL.of (k1 _ _ hl'),fun p hp=>⟨R8,fun p2 hp2=>?_⟩⟩⟩
   have k2 := A9 hp (.tup ys)
   have k3 := A9 hp2 (.tup [.str (S kw),.ref p])
   have hr2' : 2 + r ≤ J1 (n' + 1) := by show 2 + r ≤ 3; omega
   refine q _ (.tup [.str kw,.tup ts]) _ (d.same (k1.trans (k2.trans k3))) (.inr (.inr (.inr (.inr (.inr ⟨kw,ts,hkw,rfl,by omega,by omega,hok⟩))))) ?_
   exact TV.tup (SqT.of A6) (TAll.cons TV.str (TAll.one (TV.tup (SqT.of (k3 _ _ A6)) (hts.kp (Kp.same (k1.trans (k2.trans k3)))))))
end
end Law
namespace Law
open PySem L2 L2.Sp
theorem mx1 (n : Nat) : 1 ≤ J1 n := by show 1 ≤ 3; decide
theorem tZ : ∀ n,n ≤ 3 → aV J1 n ≤ 1609 := by decide
theorem AW8 {n : Nat} {pl : Bool} {x : Tn} {ws : List Wd} (h : PrW J1 n pl x ws) : ws ≠ [] := by
 obtain ⟨u,r,e,_⟩ := (kF J1 n pl true x ws (fun _=>rfl) h).head.ex
 rw [e]; simp
theorem yN {n : Nat} {pl tied : Bool} {x : Tn} {row : List Wd} (h : Y8 (PrW J1 n pl) tied x row) : row ≠ [] := by
 obtain ⟨ws,hw,e | ⟨_,e⟩⟩ := h
 ·rw [e]; simp
 ·rw [e]; exact AW8 hw
theorem fH {n : Nat} (hn : n ≤ 3) {pl tied : Bool} {x : Tn} {row : List Wd} (h : Y8 (PrW J1 n pl) tied x row) : row.length ≤ 1611 := by
 have := (yM (fun ws hw=>iS mx1 n pl x ws hw) h).len
 have := tZ n hn
 omega
theorem qE {s : Wd} {rows : List (List Wd)} {r : List Wd} (h : rows ≠ []) : G3 s (rows ++ [r]) = G3 s rows ++ s :: r := by
 rw [jE h]; simp [tails]
theorem kK {s : Wd} {rows : List (List Wd)} (h : rows ≠ []) (hr : ∀ r ∈ rows,r ≠ []) : G3 s rows ≠ [] := by
 obtain ⟨r,rows,rfl⟩ := List.exists_cons_of_ne_nil h
 intro z
 exact hr r (by simp) (List.append_eq_nil_iff.mp z).1
theorem pR {s : Wd} {b : Nat} : ∀ {rows : List (List Wd)},(∀ r ∈ rows,r.length ≤ b) → (tails s rows).length ≤ rows.length * (b + 1)
 | [],_=>by simp [tails]
 | r :: rs,h=>by
  rw [N1,List.length_cons,List.length_append,List.length_cons,Nat.succ_mul]
  have := pR (s := s) (rows := rs) fun x hx=>h x (by simp [hx])
  have := h r (by simp)
  omega
theorem lL {s : Wd} {b : Nat} {rows : List (List Wd)} (h : ∀ r ∈ rows,r.length ≤ b) : (G3 s rows).length ≤ rows.length * (b + 1) := by
 cases rows with
 | nil=>simp [G3]
 | cons r rs =>
  have := pR (s := s) (rows := rs) fun x hx=>h x (by simp [hx])
  have := h r (by simp)
  show (r ++ tails s rs).length ≤ _
  rw [List.length_append,List.length_cons,Nat.succ_mul]
  omega
def P1 : Tn → Wd
 | .tup (.str k :: _)=>k
 | _=>[]
theorem GT.kind {mx : Nat → Nat} {n : Nat} {pl : Bool} {t : Tn} (h : GT mx n pl t) : ∃ r,t = .tup (.str (P1 t) :: r) := by
 have lf : ∀ {t},aX t → ∃ r,t = .tup (.str (P1 t) :: r) := fun {t} h=>by cases h <;> exact ⟨_,rfl⟩
 have pl' : ∀ {t},uG t → ∃ r,t = .tup (.str (P1 t) :: r) := fun {t} h=>by cases h; exact ⟨_,rfl⟩
 cases n with
 | zero =>
  rcases h with h | ⟨_,h⟩
  ·exact lf h
  ·exact pl' h
 | succ n =>
  rcases h with h | ⟨_,h⟩ | ⟨ts,m,rfl,_⟩ | ⟨fs,m,rfl,_⟩ | ⟨t,rfl,_⟩ | ⟨k,ts,_,rfl,_⟩
  ·exact lf h
  ·exact pl' h
  ·exact ⟨_,rfl⟩
  ·exact ⟨_,rfl⟩
  ·exact ⟨_,rfl⟩
  ·exact ⟨_,rfl⟩
theorem lM (k : Wd) (t : Tn) (h : ∃ r,t = .tup (.str (P1 t) :: r)) : qI k t = decide (P1 t = k) := by
 obtain ⟨r,e⟩ := h
 rw [e]; rfl
section
variable {P : Program} {w : World} {K : PySem.W.Frag} {mg : Str → Option Value} {base : Heap} {f : Addr} {fd : FuncData}
abbrev oE : Stmt := N0 51
theorem rG : E4 ["_law_tree_here","_law_state","_law_low","_law_high","_law_words_here"] ["_law_tree_here","_law_state"] (B1 oE) := ⟨rfl,rfl,rfl,by decide +kernel,rfl,by decide +kernel,by decide +kernel⟩
def qZ (K : PySem.W.Frag) : Sp := fun args H Q _=>∃ (v : V) (st : Addr) (x : Int) (a b : Option Int),args = [v,.ref st] ∧ H st = some (.lst [.int x]) ∧ (a ≠ none ∨ b ≠ none) ∧ (∀ i,a = some i → X0 i) ∧ (∀ i,b = some i → X0 i) ∧ TV K H (P6 (oI a) (oI b)) v ∧
 ∀ (H' : Hp) (l : Addr) (ws : List Wd),DS st H H' → H l = none → H' l = some (.lst (ST ws)) → kS (P6 (oI a) (oI b)) ws → Q (.ref l) H'
def oV : Option Int → V
 | none=>.non
 | some i=>.int i
theorem AK3 {H : Hp} {a : Option Int} {v : V} (h : TV K H (oI a) v) : v = oV a := by
 cases a <;> (simp only [oI,TV] at h; exact h)
theorem mQ {i : Int} (h : X0 i) : i.natAbs.log2 < 1920 := by
 have h2 : i.natAbs < 2 ^ 1919 := Nat.lt_trans h (by decide +kernel)
 by_cases e : i.natAbs = 0
 ·rw [e]; decide
 ·have := (Nat.log2_lt e).mpr h2
  omega
theorem AX9 (F : Fun K "_law_span_words" "_law_span_words" oE f fd) (N : Cal P w K mg base 1 "_law_next" ["_law_state","_law_many"] O9) (m1 : mg "str" = none) : FnOk P w K mg base K1 2 f fd ["_law_tree_here","_law_state"] (qZ K) := by
 refine F.ok rG (fun vs H Q E h=>?_) (fun cdv A outer s H vs Q E hr h=>?_)
 ·obtain ⟨v,st,x,a,b,rfl,_⟩ := h
  rfl
 obtain ⟨v,st,x,a,b,rfl,hs,hab,ha,hb,hv,q⟩ := h
 refine ⟨_,A7 (B9 (i := 2) rG.nd rfl (Or.inl rfl) (J0 R3 (pv 0) B2 (fun _ _=>rfl)))
  (A7 (B9 (i := 3) rG.nd rfl (Or.inl rfl) (J0 R3 (pv 0) B2 (fun _ _=>rfl)))
  (N3 (E8 (PW.pt (Z1 (B8 pA (pv 2) aR (D5 _)) (Z1 (B8 G7 (pv 2) (pv 3) (D5 _)) (aE (B8 bF (B5 N hr rfl (A0 (pv 1) (A0 B2 A5))) B2 (D5 _))))))
   (A8 (B4 (E5 (A0 (K6 dW rfl m1 fX (A0 (pv 2) A5)) A5)))) D6)
  (A7 (B9 (i := 4) rG.nd rfl (Or.inl rfl) (E5 A5))
  (N3 (E8 (B8 pA (pv 2) aR (D5 _)) (A8 (K5 (S5 PySem.F.plainAttrs_list PySem.F.slot_list_append PySem.F.type_list_append M0 (pv 4) (A0 (K6 dW rfl m1 fX (A0 (pv 2) A5)) A5)))) D6)
  (A7 (K5 (S5 PySem.F.plainAttrs_list PySem.F.slot_list_append PySem.F.type_list_append M0 (pv 4) (A0 B3 A5)))
  (N3 (E8 (B8 pA (pv 3) aR (D5 _)) (A8 (K5 (S5 PySem.F.plainAttrs_list PySem.F.slot_list_append PySem.F.type_list_append M0 (pv 4) (A0 (K6 dW rfl m1 fX (A0 (pv 3) A5)) A5)))) D6)
  (A8 (B4 (pv 4))))))))),?_⟩
 have D0 := DS.start hs
 unfold P6 at hv
 simp only [TV,TAll] at hv
 obtain ⟨p,ys,rfl,hp,_,_,rfl,rfl,u1,_,rfl,h1,u2,_,rfl,h2,rfl⟩ := hv
 cases AK3 h1
 cases AK3 h2
 refine ⟨_,rfl,p,_,_,oV a,rfl,rfl,hp,rfl,_,rfl,p,_,_,oV b,rfl,rfl,hp,rfl,?_⟩
 refine ⟨fun σ' H'=>σ' = [some (.ref p),some (.ref st),some (oV a),some (oV b),none] ∧ DS st H H',?_,?_⟩
 ·refine ⟨_,rfl,rfl,_,rfl,?_⟩
  cases a with
  | none=>exact E2 (E2 ⟨rfl,D0⟩)
  | some i =>
   refine G0 ⟨_,rfl,_,rfl,?_⟩
   cases b with
   | none=>exact ⟨rfl,_,rfl,E2 (E2 ⟨rfl,D0⟩)⟩
   | some j =>
    refine ⟨rfl,_,rfl,M1 (fun c=>?_) (fun _=>E2 ⟨rfl,D0⟩)⟩
    have hij : i = j := V.int.inj (of_decide_eq_true c)
    subst hij
    refine ⟨_,rfl,st,x,3,rfl,hs,by decide,fun y r b0 b1=>⟨_,_,rfl,rfl,_,rfl,M1 (fun _=>?_) (fun _=>⟨rfl,D0.next y⟩)⟩⟩
    refine ⟨_,rfl,_,rfl,mQ (ha i rfl),L0,fun l hl=>?_⟩
    exact q _ l [O7 i] ((D0.next y).same (A9 hl _)) ((D0.next y).old hl) (by rw [A6]; rfl) (.one (ha i rfl))
 rintro σ1 H1 ⟨rfl,d1⟩
 refine ⟨U2,fun l hl=>?_⟩
 have hl0 := d1.old hl
 have d2 := d1.put (o := .lst []) hl0
 refine ⟨fun σ' H'=>σ' = [some (.ref p),some (.ref st),some (oV a),some (oV b),some (.ref l)] ∧ DS st H H' ∧ H' l = some (.lst (ST (oW a))),?_,?_⟩
 ·refine ⟨_,rfl,rfl,_,rfl,?_⟩
  cases a with
  | none=>exact E2 ⟨rfl,d2,A6⟩
  | some i =>
   refine G0 ⟨_,rfl,.inl ⟨rfl,_,SqL.of A6⟩,_,rfl,_,rfl,mQ (ha i rfl),l,_,_,rfl,rfl,A6,T2 (by decide),rfl,d2.put hl0,?_⟩
   rw [A6]; rfl
 rintro σ2 H2 ⟨rfl,d3,hl3⟩
 refine ⟨_,rfl,.inl ⟨rfl,_,SqL.of hl3⟩,l,_,_,rfl,rfl,hl3,T2 (by rw [List.length_map]; cases a <;> simp [oW]),?_⟩
 rw [V9]
 have d4 := d3.put (o := .lst (ST (oW a) ++ [.str (S [46,46])])) hl0
 refine ⟨fun σ' H'=>σ' = [some (.ref p),some (.ref st),some (oV a),some (oV b),some (.ref l)] ∧ DS st H H' ∧ H' l = some (.lst (ST (oW a ++ [[46,46]] ++ oW b))),?_,?_⟩
 ·refine ⟨_,rfl,rfl,_,rfl,?_⟩
  cases b with
  | none=>exact E2 ⟨rfl,d4,by rw [A6]; simp [ST,oW]⟩
  | some j =>
   refine G0 ⟨_,rfl,.inl ⟨rfl,_,SqL.of A6⟩,_,rfl,_,rfl,mQ (hb j rfl),l,_,_,rfl,rfl,A6,T2 (by rw [List.length_append,List.length_map]; cases a <;> simp [oW]),rfl,d4.put hl0,?_⟩
   rw [A6,← AB5]; simp [ST,oW]
 rintro σ3 H3 ⟨rfl,d5,hl5⟩
 exact ⟨_,rfl,q H3 l _ d5 hl0 hl5 (.span hab ha hb)⟩
abbrev iP : Stmt := N0 54
theorem dE : E4 ["_law_path","_law_words_here","_law_name_here"] ["_law_path"] (B1 iP) := ⟨rfl,rfl,rfl,by decide +kernel,rfl,by decide +kernel,by decide +kernel⟩
def rA (K : PySem.W.Frag) : Sp := fun args H Q _=>∃ (p : Addr) (ns : List Wd),args = [.ref p] ∧ SqT K H p (ST ns) ∧ ns.length ≤ 100 ∧ ∀ (H' : Hp) (l : Addr),Same H H' → H l = none → H' l = some (.lst (ST (G8 ns))) → Q (.ref l) H'
theorem pZ {ns : List Wd} {n : Wd} : G8 (ns ++ [n]) = G8 ns ++ (if ns = [] then [] else [[46]]) ++ [n] := by
 unfold G8
 by_cases e : ns = []
 ·subst e; rfl
 ·rw [if_neg e,List.map_append,jE (by simpa using e)]
  simp [tails]
theorem gQ (ns : List Wd) : (G8 ns).length ≤ 2 * ns.length := by
 unfold G8
 have := lL (s := [46]) (b := 1) (rows := ns.map ([·])) (fun r hr=>by
  obtain ⟨n,_,rfl⟩ := List.mem_map.mp hr
  exact Nat.le_refl _)
 rw [List.length_map] at this
 omega
theorem hW (u : V) (b : Bool) : cV [u] none (some (if b then (1 : Int) else 0)) = if b then [u] else [] := by
 cases b with
 | true=>exact tX id [u] 1
 | false=>exact tX id [u] 0
theorem AY5 (F : Fun K "_law_path_words" "_law_path_words" iP f fd) (m1 : mg "int" = none) (m2 : mg "len" = none) : FnOk P w K mg base K1 1 f fd ["_law_path"] (rA K) := by
 refine F.ok dE (fun vs H Q E h=>?_) (fun cdv A outer s H vs Q E hr h=>?_)
 ·obtain ⟨p,ns,rfl,_⟩ := h
  rfl
 obtain ⟨p,ns,rfl,hp,hn,q⟩ := h
 refine ⟨_,A7 (B9 (i := 1) dE.nd rfl (Or.inl rfl) (E5 A5))
  (A7 (R1 PassesOwn.never rfl (mI (pv 0)) (K8 (i := 2) dE.nd rfl (Or.inl rfl))
   (A8 (P9 (i := 1) dE.nd rfl (Or.inl rfl) (E6 M6 (O6 bP (E5 (A0 B3 A5)) V7 (M7 (K6 dY rfl m1 cW (A0 (Q6 bF (J8 N5 rfl m2 PySem.boot_len (A0 (pv 1) A5)) B2 (D5 _)) A5)))) (E5 (A0 (pv 2) A5))) W7)))
  (A8 (B4 (pv 1)))),?_⟩
 refine ⟨U2,fun l hl=>?_⟩
 have k0 := A9 hl (.lst [])
 refine ⟨_,rfl,p,rfl,⟨_,k0.seqT hp⟩,?_⟩
 refine pI (xs := ST ns) (fun i σ H'=>∃ b2 : Option V,σ = [some (.ref p),some (.ref l),b2] ∧ Same H H' ∧ H' l = some (.lst (ST (G8 (ns.take i))))) ⟨none,rfl,k0,A6⟩ (fun i σ H' _ ⟨_,_,g,_⟩=>g.seqT hp) (fun i u σ H' hu hinv=>?_) (fun σ H' hinv=>?_)
 ·obtain ⟨b2,rfl,g,hl'⟩ := hinv
  obtain ⟨nm,hnm,rfl⟩ : ∃ nm,ns[i]? = some nm ∧ u = .str (S nm) := by
   rw [List.getElem?_map] at hu
   cases e : ns[i]? with
   | none=>rw [e] at hu; cases hu
   | some z=>rw [e] at hu; cases hu; exact ⟨z,rfl,rfl⟩
  refine ⟨_,rfl,L0,fun l1 hl1=>?_⟩
  rw [AH0]
  have k1 := A9 hl1 (.lst [.str (S [46])])
  have hl1' := k1 _ _ hl'
  refine ⟨_,rfl,l,_,rfl,.inl (SqL.of hl1'),_,_,rfl,rfl,_,rfl,_,rfl,l1,_,rfl,SqL.of A6,fun l2 hl2=>?_⟩
  have hfl : (decide ((0 : Int) < ((ST (G8 (ns.take i))).length : Int))) = decide (ns.take i ≠ []) := by
   rw [Bool.eq_iff_iff,decide_eq_true_iff,decide_eq_true_iff,List.length_map]
   constructor
   ·intro z e; rw [e] at z; exact absurd z (by decide)
   ·intro z
    have := kK (s := [46]) (rows := (ns.take i).map ([·])) (by simpa using z) (fun r hr=>by obtain ⟨n,_,rfl⟩ := List.mem_map.mp hr; simp)
    have := List.length_pos_iff.mpr this
    unfold G8
    omega
  have ecut : cV [V.str (S [46])] none (some (if decide ((0 : Int) < ((ST (G8 (ns.take i))).length : Int)) = true then (1 : Int) else 0)) = ST (if ns.take i = [] then [] else [[46]]) := by
   rw [hfl,hW]
   by_cases e : ns.take i = []
   ·rw [if_pos e,decide_eq_false (fun z=>z e)]; rfl
   ·rw [if_neg e,decide_eq_true e]; rfl
  rw [ecut]
  have k2 := A9 hl2 (.lst (ST (if ns.take i = [] then [] else [[46]])))
  refine ⟨_,rfl,L0,fun l3 hl3=>?_⟩
  have k3 := A9 hl3 (.lst [.str (S nm)])
  have hlen2 : (ST (if ns.take i = [] then [] else [[46]])).length ≤ 1 := by split <;> simp [ST]
  refine ⟨l2,l3,_,_,rfl,rfl,k3 _ _ A6,A6,U0 (by rw [List.length_singleton]; omega),fun l4 hl4=>?_⟩
  have k4 := A9 hl4 (.lst (ST (if ns.take i = [] then [] else [[46]]) ++ [.str (S nm)]))
  have kk := k1.trans (k2.trans (k3.trans k4))
  have hpl := gQ (ns.take i)
  rw [List.length_take] at hpl
  refine ⟨l,l4,_,_,rfl,rfl,kk _ _ hl',A6,U0 (by rw [List.length_append,List.length_map,List.length_singleton]; omega),some (.str (S nm)),rfl,fun b o h=>by rw [B6 (D9 h hl)]; exact kk _ _ (g _ _ h),?_⟩
  rw [A6,S4 hnm,pZ]
  simp [ST]
 ·obtain ⟨b2,rfl,g,hl'⟩ := hinv
  have e : ns.take (ST ns).length = ns := by rw [List.length_map,List.take_length]
  rw [e] at hl'
  exact ⟨_,rfl,q H' l g hl hl'⟩
end
end Law
namespace Law
open PySem L2 L2.Sp
theorem L7 {n : Nat} (h : n ≤ 200000) : n ≤ sizeLine := Nat.le_of_lt (dC h)
theorem V4 {H H' : Hp} {l : Addr} (g : Same H H') (h : H' l = none) : H l = none := by
 cases e : H l with
 | none=>rfl
 | some o=>rw [g _ _ e] at h; cases h
def LsR (H : Hp) (refs : List V) (rows : List (List Wd)) : Prop := All2 (fun r row=>∃ a,r = V.ref a ∧ H a = some (.lst (ST row))) refs rows
theorem LsR.same {H H' : Hp} {refs : List V} {rows : List (List Wd)} (g : Same H H') (h : LsR H refs rows) : LsR H' refs rows := h.imp fun r _ row ⟨a,e,ha⟩=>⟨a,e,g _ _ ha⟩
theorem All2.get {α β : Type} {F : α → β → Prop} : ∀ {as : List α} {bs : List β} {i : Nat} {a : α},All2 F as bs → as[i]? = some a → ∃ b,bs[i]? = some b ∧ F a b
 | _,_,i,a,.nil,e=>by simp at e
 | _,_,0,a,.cons h _,e=>by simp at e; subst e; exact ⟨_,rfl,h⟩
 | _,_,i + 1,a,.cons _ hs,e=>by
  obtain ⟨b,h1,h2⟩ := All2.get (i := i) hs (by simpa using e)
  exact ⟨b,by simpa using h1,h2⟩
theorem All2.app {α β : Type} {F : α → β → Prop} {as as' : List α} {bs bs' : List β} (h : All2 F as bs) (h' : All2 F as' bs') : All2 F (as ++ as') (bs ++ bs') := by
 induction h with
 | nil=>exact h'
 | cons a _ ih=>exact .cons a ih
section
variable {P : Program} {w : World} {K : PySem.W.Frag} {mg : Str → Option Value} {base : Heap} {f : Addr} {fd : FuncData}
abbrev oR : Stmt := N0 52
theorem rM : E4 ["_law_rows","_law_more","_law_words_here","_law_row"] ["_law_rows","_law_more"] (B1 oR) := ⟨rfl,rfl,rfl,by decide +kernel,rfl,by decide +kernel,by decide +kernel⟩
def rF : Sp := fun args H Q _=>∃ (lr : Addr) (m : Bool) (refs : List V) (rows : List (List Wd)),args = [.ref lr,.bl m] ∧ H lr = some (.lst refs) ∧ LsR H refs rows ∧ (∀ r ∈ rows,r ≠ [] ∧ r.length ≤ 3000) ∧ rows.length ≤ 20 ∧ ∀ (H' : Hp) (l : Addr),Same H H' → H l = none → H' l = some (.lst (ST (G3 [44] (rows ++ G9 m)))) → Q (.ref l) H'
theorem AZ3 (F : Fun K "_law_items_words" "_law_items_words" oR f fd) (m1 : mg "int" = none) (m2 : mg "len" = none) : FnOk P w K mg base K1 1 f fd ["_law_rows","_law_more"] rF := by
 refine F.ok rM (fun vs H Q E h=>?_) (fun cdv A outer s H vs Q E hr h=>?_)
 ·obtain ⟨lr,m,refs,rows,rfl,_⟩ := h
  rfl
 obtain ⟨lr,m,refs,rows,rfl,hlr,hrs,hok,hn,q⟩ := h
 refine ⟨_,A7 (B9 (i := 2) rM.nd rfl (Or.inl rfl) (E5 A5))
  (A7 (R1 PassesOwn.never rfl (fN (E6 M6 (pv 0) (O6 bP (E5 (A0 (E5 (A0 B3 A5)) A5)) V7 (M7 (K6 dY rfl m1 cW (A0 (pv 1) A5)))))) (K8 (i := 3) rM.nd rfl (Or.inl rfl))
   (N3 (E8 (B8 bF (J8 N5 rfl m2 PySem.boot_len (A0 (pv 2) A5)) B2 (D5 _)) (A8 (K5 (S5 PySem.F.plainAttrs_list PySem.F.slot_list_append PySem.F.type_list_append M0 (pv 2) (A0 B3 A5)))) D6)
   (A8 (P9 (i := 2) rM.nd rfl (Or.inl rfl) (pv 3) W7))))
  (A8 (B4 (pv 2)))),?_⟩
 refine ⟨U2,fun l hl=>?_⟩
 have k0 := A9 hl (.lst [])
 have hrl := hrs.length
 refine ⟨_,rfl,L0,fun la hla=>⟨L0,fun lb hlb=>⟨_,rfl,_,rfl,_,rfl,lb,_,rfl,SqL.of A6,fun lc hlc=>?_⟩⟩⟩
 rw [hW,V9]
 rw [V9] at hlb hlc
 have k1 := A9 hla (.lst [.str (S [46,46])])
 have k2 := A9 hlb (.lst [.ref la])
 have k3 := A9 hlc (.lst (if m then [V.ref la] else []))
 have k03 := k0.trans (k1.trans (k2.trans k3))
 have hmle : (if m then [V.ref la] else []).length ≤ 1 := by cases m <;> simp
 refine ⟨lr,lc,_,_,rfl,rfl,k03 _ _ hlr,A6,U0 (by omega),fun ld hld=>?_⟩
 have k4 := A9 hld (.lst (refs ++ (if m then [V.ref la] else [])))
 have k04 := k03.trans k4
 have nla : la ≠ l := fun e=>by rw [e,A6] at hla; cases hla
 have nld : ld ≠ l := Ne.symm (D9 (k1.trans (k2.trans k3) _ _ A6) hld)
 have hls : LsR (E7 (E7 (E7 (E7 (E7 H l (.lst [])) la (.lst [.str (S [46,46])])) lb (.lst [.ref la])) lc (.lst (if m then [V.ref la] else []))) ld (.lst (refs ++ (if m then [V.ref la] else [])))) (refs ++ (if m then [V.ref la] else [])) (rows ++ G9 m) := by
  refine All2.app (LsR.same k04 hrs) ?_
  cases m with
  | false=>exact .nil
  | true=>exact .cons ⟨la,rfl,(k2.trans (k3.trans k4)) _ _ A6⟩ .nil
 have hne : ∀ a,V.ref a ∈ refs ++ (if m then [V.ref la] else []) → a ≠ l := fun a ha=>by
  rcases List.mem_append.mp ha with z | z
  ·obtain ⟨i,hi⟩ := List.getElem?_of_mem z
   obtain ⟨row,_,a',e,ha'⟩ := hrs.get hi
   cases e
   exact D9 ha' hl
  ·cases m with
   | false=>cases z
   | true=>cases List.mem_singleton.mp z; exact nla
 have hrows : ∀ r ∈ rows ++ G9 m,r ≠ [] ∧ r.length ≤ 3000 := fun r hr=>by
  rcases List.mem_append.mp hr with z | z
  ·exact hok r z
  ·cases m with
   | false=>cases z
   | true=>cases List.mem_singleton.mp z; exact ⟨by simp,by decide⟩
 have hrn : (rows ++ G9 m).length ≤ 21 := by rw [List.length_append]; cases m <;> simp [G9] <;> omega
 have hld4 : E7 (E7 (E7 (E7 (E7 H l (.lst [])) la (.lst [.str (S [46,46])])) lb (.lst [.ref la])) lc (.lst (if m then [V.ref la] else []))) ld (.lst (refs ++ (if m then [V.ref la] else []))) ld = some _ := A6
 have hl4 := (k1.trans (k2.trans (k3.trans k4))) l _ A6
 generalize E7 (E7 (E7 (E7 (E7 H l (.lst [])) la (.lst [.str (S [46,46])])) lb (.lst [.ref la])) lc (.lst (if m then [V.ref la] else []))) ld (.lst (refs ++ (if m then [V.ref la] else []))) = H5 at k04 hls hld4 hl4 ⊢
 generalize hR : refs ++ (if m then [V.ref la] else []) = refs' at hls hne hld4 ⊢
 have hlen' := hls.length
 refine ⟨ld,rfl,⟨_,SqL.of hld4⟩,?_⟩
 refine cQ (xs := refs') (fun i σ H'=>∃ b3 : Option V,σ = [some (.ref lr),some (.bl m),some (.ref l),b3] ∧ Grow l H5 H' ∧ H' l = some (.lst (ST (G3 [44] ((rows ++ G9 m).take i))))) ⟨none,rfl,Grow.refl,hl4⟩ (fun i σ H' _ ⟨_,_,g,_⟩=>SqL.of (g _ _ nld hld4)) (fun i u σ H' hu hinv=>?_) (fun σ H' hinv=>?_)
 ·obtain ⟨b3,rfl,g,hl'⟩ := hinv
  obtain ⟨row,hrow,a,rfl,ha⟩ := hls.get hu
  have hal := hne a (List.mem_of_getElem? hu)
  have ha' := g _ _ hal ha
  obtain ⟨hrne,hrlen⟩ := hrows row (List.mem_of_getElem? hrow)
  have hi : i < (rows ++ G9 m).length := (List.getElem?_eq_some_iff.mp hrow).1
  have hmem : ∀ r ∈ (rows ++ G9 m).take i,r ≠ [] ∧ r.length ≤ 3000 := fun r hr=>hrows r (List.mem_of_mem_take hr)
  have hjl : (G3 [44] ((rows ++ G9 m).take i)).length ≤ 63021 := by
   have := lL (s := [44]) (b := 3000) (rows := (rows ++ G9 m).take i) fun r hr=>(hmem r hr).2
   rw [List.length_take] at this
   have h2 : min i (rows ++ G9 m).length * 3001 ≤ 21 * 3001 := Nat.mul_le_mul_right _ (by omega)
   omega
  refine ⟨fun σ' H''=>σ' = [some (.ref lr),some (.bl m),some (.ref l),some (.ref a)] ∧ Grow l H5 H'' ∧ H'' l = some (.lst (ST (G3 [44] ((rows ++ G9 m).take i) ++ (if i = 0 then [] else [[44]])))),?_,?_⟩
  ·refine ⟨_,rfl,l,_,rfl,.inl (SqL.of hl'),_,_,rfl,rfl,_,rfl,?_⟩
   rw [List.length_map]
   by_cases e : i = 0
   ·subst e
    exact E2 ⟨rfl,g,by simpa [G3] using hl'⟩
   ·have hpos : 0 < (G3 [44] ((rows ++ G9 m).take i)).length := List.length_pos_iff.mpr (kK (fun z=>by
     have := congrArg List.length z
     rw [List.length_take,List.length_nil] at this
     omega) fun r hr=>(hmem r hr).1)
    rw [decide_eq_true (p := (0 : Int) < ((G3 [44] ((rows ++ G9 m).take i)).length : Int)) (by omega)]
    refine G0 ⟨_,rfl,.inl ⟨rfl,_,SqL.of hl'⟩,l,_,_,rfl,rfl,hl',dC (by rw [List.length_map]; omega),rfl,g.trans X9,?_⟩
    rw [A6,BA5,if_neg e]; simp [ST]
  ·rintro σ' H'' ⟨rfl,g2,hl2⟩
   have ha2 := g2 _ _ hal ha
   refine ⟨_,rfl,_,rfl,l,a,_,_,rfl,rfl,hl2,ha2,L7 ?_,some (.ref a),rfl,g2.trans X9,?_⟩
   ·rw [List.length_map,List.length_map,List.length_append]
    split <;> simp <;> omega
   ·rw [A6,S4 hrow]
    by_cases e : i = 0
    ·subst e; simp [G3,tails,ST]
    ·rw [if_neg e,qE (fun z=>by
      have := congrArg List.length z
      rw [List.length_take,List.length_nil] at this
      omega)]
     simp [ST]
 ·obtain ⟨b3,rfl,g,hl'⟩ := hinv
  rw [hlen',List.take_length] at hl'
  exact ⟨_,rfl,q H' l (fun b o h=>g _ _ (D9 h hl) (k04 _ _ h)) hl hl'⟩
def nY (K : PySem.W.Frag) (n : Nat) : Sp := fun args H Q _=>∃ (v : V) (st : Addr) (x : Int) (pl : Bool) (t : Tn),args = [v,.ref st] ∧ H st = some (.lst [.int x]) ∧ GT J1 n pl t ∧ TV K H t v ∧
 ∀ (H' : Hp) (l : Addr) (ws : List Wd),DS st H H' → H l = none → H' l = some (.lst (ST ws)) → PrW J1 n pl t ws → Q (.ref l) H'
def sG (K : PySem.W.Frag) (n : Nat) : Sp := fun args H Q _=>∃ (v : V) (tg st : Addr) (x : Int) (pl : Bool) (t : Tn) (ks : List Wd),args = [v,.ref tg,.ref st] ∧ H st = some (.lst [.int x]) ∧ GT J1 n pl t ∧ TV K H t v ∧ SqT K H tg (ST ks) ∧
 ∀ (H' : Hp) (l : Addr) (row : List Wd),DS st H H' → H l = none → H' l = some (.lst (ST row)) → Y8 (PrW J1 n pl) (decide (P1 t ∈ ks)) t row → Q (.ref l) H'
abbrev pW : Stmt := N0 49
theorem AD7 : E4 ["_law_tree_here","_law_tying","_law_state","_law_words_here"] ["_law_tree_here","_law_tying","_law_state"] (B1 pW) := ⟨rfl,rfl,rfl,by decide +kernel,rfl,by decide +kernel,by decide +kernel⟩
theorem BF9 {k n : Nat} (F : Fun K "_law_braced" "_law_braced" pW f fd) (WS : Cal P w K mg base k "_law_words" ["_law_tree_here","_law_state"] (nY K n)) (N : Cal P w K mg base 1 "_law_next" ["_law_state","_law_many"] O9) (hk : 1 ≤ k) (hn : n ≤ 3) : FnOk P w K mg base K1 (k + 1) f fd ["_law_tree_here","_law_tying","_law_state"] (sG K n) := by
 refine F.ok AD7 (fun vs H Q E h=>?_) (fun cdv A outer s H vs Q E hr h=>?_)
 ·obtain ⟨v,tg,st,x,pl,t,ks,rfl,_⟩ := h
  rfl
 obtain ⟨v,tg,st,x,pl,t,ks,rfl,hs,hg,hv,htg,q⟩ := h
 have hr1 := hr.mono hk
 refine ⟨_,A7 (B9 (i := 3) AD7.nd rfl (Or.inl rfl) (B5 WS hr rfl (A0 (pv 0) (A0 (pv 2) A5))))
  (N3 (E8 (PW.pt (gJ (B8 iV (J0 R3 (pv 0) B2 (fun _ _=>rfl)) (pv 1) rfl) (fI (B8 G7 (B5 N hr1 rfl (A0 (pv 2) (A0 B2 A5))) B2 (D5 _)))))
   (A8 (B4 (E6 M6 (E6 M6 (E5 (A0 B3 A5)) (pv 3)) (E5 (A0 B3 A5))))) D6)
  (A8 (B4 (pv 3)))),?_⟩
 have D0 := DS.start hs
 refine ⟨_,rfl,_,rfl,v,st,x,pl,t,rfl,hs,hg,hv,fun H1 l ws d1 hl0 hl hw=>?_⟩
 have hwl : ws.length ≤ 1611 := by have := (iS mx1 n pl t ws hw).len; have := tZ n hn; omega
 have hv1 := TV.kp d1.kp hv
 obtain ⟨r,et⟩ := hg.kind
 have hv2 := hv1
 rw [et] at hv2
 simp only [TV,TAll] at hv2
 obtain ⟨p,ys,rfl,hp,y0,ys',rfl,rfl,hy'⟩ := hv2
 obtain ⟨y1,hy1⟩ := d1.s
 refine ⟨fun σ' H'=>σ' = [some (.ref p),some (.ref tg),some (.ref st),some (.ref l)] ∧ DS st H H' ∧ H' l = some (.lst (ST ws)) ∧ P1 t ∉ ks,?_,?_⟩
 ·refine ⟨_,rfl,p,_,_,.str (S (P1 t)),rfl,rfl,hp,J7 (j := 0) rfl,_,rfl,tg,_,rfl,.inr (d1.kp _ _ htg),rfl,kL _,_,rfl,?_⟩
  show if cP (.str (S (P1 t))) (ST ks) = true then _ else _
  rw [jI]
  refine M1 (fun c=>G0 ?_) (fun c=>?_)
  ·refine ⟨L0,fun l1 hl1=>⟨_,rfl,l1,l,_,_,rfl,rfl,A6,A9 hl1 _ _ _ hl,L7 (by rw [List.length_map,List.length_singleton]; omega),fun l2 hl2=>⟨L0,fun l3 hl3=>?_⟩⟩⟩
   have k1 := A9 hl1 (.lst [.str (Str.ofString "(")])
   have k2 := A9 hl2 (.lst ([.str (Str.ofString "(")] ++ ST ws))
   have k3 := A9 hl3 (.lst [.str (Str.ofString ")")])
   refine ⟨l2,l3,_,_,rfl,rfl,k3 _ _ A6,A6,L7 (by rw [List.length_append,List.length_map,List.length_singleton,List.length_singleton]; omega),fun l4 hl4=>?_⟩
   have k4 := A9 hl4 (.lst ([.str (Str.ofString "(")] ++ ST ws ++ [.str (Str.ofString ")")]))
   have kk := k1.trans (k2.trans (k3.trans k4))
   refine q _ l4 ([40] :: (ws ++ [[41]])) (d1.same kk) (d1.old (V4 (k1.trans (k2.trans k3)) hl4)) ?_ ⟨ws,hw,.inl rfl⟩
   rw [A6,lLp,lRp]; simp [ST]
  have hk' : P1 t ∉ ks := fun z=>c (decide_eq_true z)
  have nl := d1.ne hl0
  refine ⟨_,rfl,st,y1,8,rfl,hy1,by decide,fun y2 r2 b0 b1=>⟨rfl,_,rfl,M1 (fun _=>?_) (fun _=>⟨rfl,d1.next y2,by rw [B6 nl]; exact hl,hk'⟩)⟩⟩
  have hl2 : E7 H1 st (.lst [.int y2]) l = some (.lst (ST ws)) := by rw [B6 nl]; exact hl
  have d2 := d1.next y2
  refine ⟨L0,fun l1 hl1=>⟨_,rfl,l1,l,_,_,rfl,rfl,A6,A9 hl1 _ _ _ hl2,L7 (by rw [List.length_map,List.length_singleton]; omega),fun l2 hl2=>⟨L0,fun l3 hl3=>?_⟩⟩⟩
  have k1 := A9 hl1 (.lst [.str (Str.ofString "(")])
  have k2 := A9 hl2 (.lst ([.str (Str.ofString "(")] ++ ST ws))
  have k3 := A9 hl3 (.lst [.str (Str.ofString ")")])
  refine ⟨l2,l3,_,_,rfl,rfl,k3 _ _ A6,A6,L7 (by rw [List.length_append,List.length_map,List.length_singleton,List.length_singleton]; omega),fun l4 hl4=>?_⟩
  have k4 := A9 hl4 (.lst ([.str (Str.ofString "(")] ++ ST ws ++ [.str (Str.ofString ")")]))
  have kk := k1.trans (k2.trans (k3.trans k4))
  refine q _ l4 ([40] :: (ws ++ [[41]])) (d2.same kk) (d2.old (V4 (k1.trans (k2.trans k3)) hl4)) ?_ ⟨ws,hw,.inl rfl⟩
  rw [A6,lLp,lRp]; simp [ST]
 ·rintro σ' H' ⟨rfl,d2,hl2,hk'⟩
  exact ⟨_,rfl,q H' l ws d2 hl0 hl2 ⟨ws,hw,.inr ⟨decide_eq_false hk',rfl⟩⟩⟩
def wO (K : PySem.W.Frag) (n : Nat) : Sp := fun args H Q _=>∃ (sg : Wd) (tp tg st : Addr) (x : Int) (pl : Bool) (vs : List V) (ts : List Tn) (ks : List Wd),args = [.str (S sg),.ref tp,.ref tg,.ref st] ∧ H st = some (.lst [.int x]) ∧ SqT K H tp vs ∧ TAll K H ts vs ∧ (∀ t ∈ ts,GT J1 n pl t) ∧ ts.length ≤ 20 ∧ SqT K H tg (ST ks) ∧
 ∀ (H' : Hp) (l : Addr) (rows : List (List Wd)),DS st H H' → H l = none → H' l = some (.lst (ST (G3 sg rows))) → All2 (fun t row=>Y8 (PrW J1 n pl) (decide (P1 t ∈ ks)) t row) ts rows → Q (.ref l) H'
abbrev pV : Stmt := N0 50
theorem sL : E4 ["_law_sign","_law_trees","_law_tying","_law_state","_law_words_here","_law_tree_here"] ["_law_sign","_law_trees","_law_tying","_law_state"] (B1 pV) := ⟨rfl,rfl,rfl,by decide +kernel,rfl,by decide +kernel,by decide +kernel⟩
theorem BF5 {k n : Nat} (F : Fun K "_law_tied" "_law_tied" pV f fd) (BR : Cal P w K mg base k "_law_braced" ["_law_tree_here","_law_tying","_law_state"] (sG K n)) (m2 : mg "len" = none) (hn : n ≤ 3) : FnOk P w K mg base K1 (k + 1) f fd ["_law_sign","_law_trees","_law_tying","_law_state"] (wO K n) := by
 refine F.ok sL (fun vs H Q E h=>?_) (fun cdv A outer s H vs Q E hr h=>?_)
 ·obtain ⟨sg,tp,tg,st,x,pl,us,ts,ks,rfl,_⟩ := h
  rfl
 obtain ⟨sg,tp,tg,st,x,pl,us,ts,ks,rfl,hs,htp,hts,hgt,hlen,htg,q⟩ := h
 refine ⟨_,A7 (B9 (i := 4) sL.nd rfl (Or.inl rfl) (E5 A5))
  (A7 (R1 PassesOwn.never rfl (mI (pv 1)) (K8 (i := 5) sL.nd rfl (Or.inl rfl))
   (N3 (E8 (B8 bF (J8 N5 rfl m2 PySem.boot_len (A0 (pv 4) A5)) B2 (D5 _)) (A8 (K5 (S5 PySem.F.plainAttrs_list PySem.F.slot_list_append PySem.F.type_list_append M0 (pv 4) (A0 (pv 0) A5)))) D6)
   (A8 (P9 (i := 4) sL.nd rfl (Or.inl rfl) (B5 BR hr rfl (A0 (pv 5) (A0 (pv 2) (A0 (pv 3) A5)))) W7))))
  (A8 (B4 (pv 4)))),?_⟩
 have D0 := DS.start hs
 refine ⟨U2,fun l hl=>?_⟩
 have D1 := D0.put (o := .lst []) hl
 have htl := hts.length
 refine ⟨_,rfl,tp,rfl,⟨_,D1.kp _ _ htp⟩,?_⟩
 refine pI (xs := us) (fun i σ H'=>∃ (rows : List (List Wd)) (b5 : Option V),σ = [some (.str (S sg)),some (.ref tp),some (.ref tg),some (.ref st),some (.ref l),b5] ∧ DS st H H' ∧ H' l = some (.lst (ST (G3 sg rows))) ∧ All2 (fun t row=>Y8 (PrW J1 n pl) (decide (P1 t ∈ ks)) t row) (ts.take i) rows)
  ⟨[],none,rfl,D1,A6,.nil⟩ (fun i σ H' _ ⟨_,_,_,d,_⟩=>d.kp _ _ htp) (fun i u σ H' hu hinv=>?_) (fun σ H' hinv=>?_)
 ·obtain ⟨rows,b5,rfl,d,hl',ha⟩ := hinv
  obtain ⟨t,ht,htv⟩ := hts.get hu
  have hi : i < us.length := (List.getElem?_eq_some_iff.mp hu).1
  have nl := d.ne hl
  have hrl := ha.length
  rw [List.length_take] at hrl
  have hrow : ∀ r ∈ rows,r ≠ [] ∧ r.length ≤ 1611 := ha.right fun t row h=>⟨yN h,fH hn h⟩
  have hjl : (G3 sg rows).length ≤ 32240 := by
   have := lL (s := sg) (b := 1611) (rows := rows) fun r hr=>(hrow r hr).2
   have h2 : rows.length * 1612 ≤ 20 * 1612 := Nat.mul_le_mul_right _ (by omega)
   omega
  refine ⟨fun σ' H''=>σ' = [some (.str (S sg)),some (.ref tp),some (.ref tg),some (.ref st),some (.ref l),some u] ∧ DS st H H'' ∧ H'' l = some (.lst (ST (G3 sg rows ++ (if rows = [] then [] else [sg])))),?_,?_⟩
  ·refine ⟨_,rfl,l,_,rfl,.inl (SqL.of hl'),_,_,rfl,rfl,_,rfl,?_⟩
   rw [List.length_map]
   by_cases e : rows = []
   ·subst e
    exact E2 ⟨rfl,d,by simpa [G3] using hl'⟩
   ·have hpos : 0 < (G3 sg rows).length := List.length_pos_iff.mpr (kK e fun r hr=>(hrow r hr).1)
    rw [decide_eq_true (p := (0 : Int) < ((G3 sg rows).length : Int)) (by omega)]
    refine G0 ⟨_,rfl,.inl ⟨rfl,_,SqL.of hl'⟩,_,rfl,l,_,_,rfl,rfl,hl',dC (by rw [List.length_map]; omega),rfl,d.put hl,?_⟩
    rw [A6,if_neg e]; simp [ST]
  ·rintro σ' H'' ⟨rfl,d2,hl2⟩
   obtain ⟨y2,hy2⟩ := d2.s
   refine ⟨_,rfl,_,rfl,_,rfl,_,rfl,u,tg,st,y2,pl,t,ks,rfl,hy2,hgt t (List.mem_of_getElem? ht),TV.kp d2.kp htv,d2.kp _ _ htg,fun H3 lb row d3 hlb0 hlb hrw=>?_⟩
   have hl3 := d3.g _ _ nl hl2
   have hr2 := fH hn hrw
   refine ⟨l,lb,_,_,rfl,rfl,hl3,hlb,L7 ?_,rows ++ [row],some u,rfl,(d2.more d3).put hl,?_,?_⟩
   ·rw [List.length_map,List.length_map,List.length_append]
    split <;> simp <;> omega
   ·rw [A6]
    by_cases e : rows = []
    ·subst e; simp [G3,tails,ST]
    ·rw [if_neg e,qE e]; simp [ST]
   ·rw [S4 ht]
    exact ha.snoc hrw
 ·obtain ⟨rows,b5,rfl,d,hl',ha⟩ := hinv
  rw [htl,List.take_length] at ha
  exact ⟨_,rfl,q H' l rows d hl hl' ha⟩
end
end Law
namespace Law
open PySem L2 L2.Sp
theorem N2 {a b : Wd} {s : Str} (h : s = S b) (hne : a ≠ b) : decide (V.str (S a) = V.str s) = false := by rw [h,N8]; exact decide_eq_false hne
theorem cZ {a : Wd} {s : Str} (h : s = S a) : decide (V.str (S a) = V.str s) = true := by rw [h,N8]; exact decide_eq_true rfl
theorem aoK : [V.str (Str.ofString "and"),.str (Str.ofString "or")] = ST [P3,U9] := by rw [bH,lI]; rfl
theorem orK : [V.str (Str.ofString "or")] = ST [U9] := by rw [lI]; rfl
theorem qJ {mx : Nat → Nat} {n : Nat} {pl : Bool} {t : Tn} (h : GT mx n pl t) : lN t = decide (P1 t ∈ [P3,U9]) := by
 unfold lN
 rw [lM _ _ h.kind,lM _ _ h.kind,Bool.eq_iff_iff,Bool.or_eq_true,decide_eq_true_iff,decide_eq_true_iff,decide_eq_true_iff]
 simp
theorem zR {mx : Nat → Nat} {n : Nat} {pl : Bool} {t : Tn} (h : GT mx n pl t) : qI U9 t = decide (P1 t ∈ [U9]) := by
 rw [lM _ _ h.kind,Bool.eq_iff_iff,decide_eq_true_iff,decide_eq_true_iff]
 simp
theorem sA {K : PySem.W.Frag} {H : Hp} : ∀ {ns : List Wd} {us : List V},TAll K H (ns.map Tn.str) us → us = ST ns
 | [],us,h=>by simp only [List.map_nil,TAll] at h; exact h
 | n :: ns,us,h=>by
  simp only [List.map_cons,TAll,TV] at h
  obtain ⟨y,r,rfl,rfl,h2⟩ := h
  rw [sA h2]; rfl
def LsN (H0 : Hp) (l : Addr) (H : Hp) (refs : List V) (rows : List (List Wd)) : Prop := All2 (fun r row=>∃ a,r = V.ref a ∧ H0 a = none ∧ a ≠ l ∧ H a = some (.lst (ST row))) refs rows
theorem LsN.same {H0 H H' : Hp} {l : Addr} {refs : List V} {rows : List (List Wd)} (h : LsN H0 l H refs rows) (g : Same H H') : LsN H0 l H' refs rows := h.imp fun r _ row ⟨a,e,h1,h2,ha⟩=>⟨a,e,h1,h2,g _ _ ha⟩
theorem LsN.more {H0 H H' : Hp} {l st : Addr} {refs : List V} {rows : List (List Wd)} (h : LsN H0 l H refs rows) (d : DS st H0 H) (d' : DS st H H') : LsN H0 l H' refs rows := h.imp fun r _ row ⟨a,e,h1,h2,ha⟩=>⟨a,e,h1,h2,d'.g _ _ (d.ne h1) ha⟩
theorem LsN.put {H0 H : Hp} {l : Addr} {o : HO} {refs : List V} {rows : List (List Wd)} (h : LsN H0 l H refs rows) : LsN H0 l (E7 H l o) refs rows := h.imp fun r _ row ⟨a,e,h1,h2,ha⟩=>⟨a,e,h1,h2,by rw [B6 h2]; exact ha⟩
theorem LsN.ls {H0 H : Hp} {l : Addr} {refs : List V} {rows : List (List Wd)} (h : LsN H0 l H refs rows) : LsR H refs rows := h.imp fun r _ row ⟨a,e,h1,h2,ha⟩=>⟨a,e,ha⟩
theorem BG3 : (["_law_item","_law_state"] : List Str).Nodup := by decide +kernel
theorem PrW.leaf {mx : Nat → Nat} {n : Nat} {pl : Bool} {t : Tn} {ws : List Wd} (h : kS t ws) : PrW mx n pl t ws := by cases n <;> exact .inl h
theorem PrW.place {mx : Nat → Nat} {n : Nat} {t : Tn} {ws : List Wd} (h : PlP t ws) : PrW mx n true t ws := by
 cases n with
 | zero=>exact .inr ⟨rfl,h⟩
 | succ n=>exact .inr (.inl ⟨rfl,h⟩)
section
variable {P : Program} {w : World} {K : PySem.W.Frag} {mg : Str → Option Value} {base : Heap} {f : Addr} {fd : FuncData}
abbrev pU : Stmt := N0 53
theorem kY : E4 ["_law_tree_here","_law_state","_law_word","_law_rows","_law_name_here","_law_held","_law_must"] ["_law_tree_here","_law_state"] (B1 pU) := ⟨rfl,rfl,rfl,by decide +kernel,rfl,by decide +kernel,by decide +kernel⟩
theorem iZ {n : Nat} (hn : n ≤ 3) {pl : Bool} {t : Tn} {ws : List Wd} (h : PrW J1 n pl t ws) : ws.length ≤ 1609 := by
 have := (iS mx1 n pl t ws h).len
 have := tZ n hn
 omega
theorem AL4 {k n : Nat} {spB spT : Sp} (F : Fun K "_law_words" "_law_words" pU f fd) (BR : Cal P w K mg base k "_law_braced" ["_law_tree_here", "_law_tying", "_law_state"] spB) (TD : Cal P w K mg base k "_law_tied" ["_law_sign", "_law_trees", "_law_tying", "_law_state"] spT) (hB : ∀ n', n = n' + 1 → spB = sG K n') (hT : ∀ n', n = n' + 1 → spT = wO K n')
    (SPW : Cal P w K mg base 2 "_law_span_words" ["_law_tree_here", "_law_state"] (qZ K)) (PTW : Cal P w K mg base 1 "_law_path_words" ["_law_path"] (rA K)) (ITW : Cal P w K mg base 1 "_law_items_words" ["_law_rows", "_law_more"] rF) (m1 : mg "int" = none) (hk : 2 ≤ k) (hn : n ≤ 3) :
    FnOk P w K mg base K1 (k + 1) f fd ["_law_tree_here", "_law_state"] (nY K n) := by
  refine F.ok kY (fun vs H Q E h => ?_) (fun cdv A outer s H vs Q E hr h => ?_)
  · obtain ⟨v, st, x, pl, t, rfl, _⟩ := h
    rfl
  obtain ⟨v, st, x, pl, t, rfl, hs, hg, hv, q⟩ := h
  have hr1 := hr.mono (show 1 ≤ k by omega)
  have hr2 := hr.mono hk
  refine ⟨_, A7 (B9 (i := 2) kY.nd rfl (Or.inl rfl) (J0 R3 (pv 0) B2 (fun _ _ => rfl)))
    (A7 (E8 (B8 G7 (pv 2) B3 (D5 _)) (A8 (B4 (E5 (A0 (J0 R3 (pv 0) B2 (fun _ _ => rfl)) A5)))) D6)
    (A7 (E8 (B8 G7 (pv 2) B3 (D5 _)) (A8 (B4 (B5 SPW hr2 rfl (A0 (pv 0) (A0 (pv 1) A5))))) D6)
    (A7 (E8 (B8 G7 (pv 2) B3 (D5 _)) (A8 (B4 (E5 (A0 (E6 U1 (E6 U1 B3 (J0 R3 (pv 0) B2 (fun _ _ => rfl))) B3) A5)))) D6)
    (A7 (E8 (B8 G7 (pv 2) B3 (D5 _)) (A8 (B4 (E6 M6 (E5 (A0 B3 A5)) (B5 PTW hr1 rfl (A0 (J0 R3 (pv 0) B2 (fun _ _ => rfl)) A5))))) D6)
    (A7 (E8 (B8 G7 (pv 2) B3 (D5 _)) (A8 (B4 (E6 M6 (E5 (A0 B3 A5)) (B5 BR hr rfl (A0 (J0 R3 (pv 0) B2 (fun _ _ => rfl)) (A0 (K0 (A0 B3 (A0 B3 A5))) (A0 (pv 1) A5))))))) D6)
    (A7 (E8 (B8 G7 (pv 2) B3 (D5 _)) (A8 (B4 (B5 TD hr rfl (A0 B3 (A0 (J0 R3 (pv 0) B2 (fun _ _ => rfl)) (A0 (K0 (A0 B3 (A0 B3 A5))) (A0 (pv 1) A5))))))) D6)
    (A7 (E8 (B8 G7 (pv 2) B3 (D5 _)) (A8 (B4 (B5 TD hr rfl (A0 B3 (A0 (J0 R3 (pv 0) B2 (fun _ _ => rfl)) (A0 (K0 (A0 B3 A5)) (A0 (pv 1) A5))))))) D6)
    (A7 (E8 (B8 G7 (pv 2) B3 (D5 _))
      (A7 (fK (i := 3) (N' := ["_law_item", "_law_state"]) (fr := [none, some 1]) (own := [0]) ⟨rfl, rfl, rfl, rfl, rfl, rfl, rfl⟩ rfl kY.nd rfl rfl (mI (J0 R3 (pv 0) B2 (fun _ _ => rfl)))
        (fun _ _ _ _ => K8 (i := 0) BG3 rfl (Or.inl rfl)) (X7 0) (fun _ _ _ _ => bT) (fun _ _ _ _ => B5 BR hr rfl (A0 (pv 0) (A0 (K0 A5) (A0 (pv 1) A5)))))
      (A8 (B4 (E6 M6 (E6 M6 (E5 (A0 B3 A5)) (B5 ITW hr1 rfl (A0 (pv 3) (A0 (J0 R3 (pv 0) B2 (fun _ _ => rfl)) A5)))) (E5 (A0 B3 A5)))))) D6)
    (A7 (B9 (i := 3) kY.nd rfl (Or.inl rfl) (E5 A5))
    (A7 (R1 PassesOwn.never rfl (mI (J0 R3 (pv 0) B2 (fun _ _ => rfl))) (yU (n := 3) rfl (cI (K8 (i := 4) kY.nd rfl (Or.inl rfl)) (cI (K8 (i := 5) kY.nd rfl (Or.inl rfl)) (cI (K8 (i := 6) kY.nd rfl (Or.inl rfl)) vF))))
      (A8 (K5 (S5 PySem.F.plainAttrs_list PySem.F.slot_list_append PySem.F.type_list_append M0 (pv 3) (A0 (E6 M6 (E6 M6 (E6 M6 (E5 (A0 (pv 4) A5)) (O6 bP (E5 (A0 B3 A5)) V7 (M7 (K6 dY rfl m1 cW (A0 (sR (pv 6)) A5))))) (E5 (A0 B3 A5)))
        (B5 BR hr rfl (A0 (pv 5) (A0 (K0 A5) (A0 (pv 1) A5))))) A5)))))
    (A8 (B4 (E6 M6 (E6 M6 (E5 (A0 B3 A5)) (B5 ITW hr1 rfl (A0 (pv 3) (A0 (J0 R3 (pv 0) B2 (fun _ _ => rfl)) A5)))) (E5 (A0 B3 A5))))))))))))))), ?_⟩
  have D0 := DS.start hs
  obtain ⟨r0, et⟩ := hg.kind
  have hv2 := hv
  rw [et] at hv2
  simp only [TV, TAll] at hv2
  obtain ⟨p, ys, rfl, hp, y0, ys', rfl, rfl, hy'⟩ := hv2
  refine ⟨_, rfl, p, _, _, .str (S (P1 t)), rfl, rfl, hp, J7 (j := 0) rfl, ?_⟩
  have shape : aX t ∨ (pl = true ∧ uG t) ∨ ∃ n', n = n' + 1 ∧ ((∃ ts m, t = .tup [.str Z8, .tup ts, .bl m] ∧ ts.length ≤ J1 (n' + 1) ∧ ∀ t ∈ ts, GT J1 n' false t) ∨
    (∃ (fs : List (Wd × Tn × Bool)) (m : Bool), t = .tup [.str aF, .tup (fs.map Y0), .bl m] ∧ fs.length ≤ J1 (n' + 1) ∧ (fs.map (·.1)).Nodup ∧ ∀ f ∈ fs, O4 f.1 ∧ GT J1 n' false f.2.1) ∨
    (∃ t', t = .tup [.str eI, t'] ∧ GT J1 n' false t') ∨
    (∃ k ts, (k = P3 ∨ k = U9) ∧ t = .tup [.str k, .tup ts] ∧ 2 ≤ ts.length ∧ ts.length ≤ J1 (n' + 1) ∧ ∀ t ∈ ts, GT J1 n' pl t)) := by
    cases n with
    | zero => rcases hg with h | h
              · exact .inl h
              · exact .inr (.inl h)
    | succ n => rcases hg with h | h | h
                · exact .inl h
                · exact .inr (.inl h)
                · exact .inr (.inr ⟨n, rfl, h⟩)
  rcases shape with h | ⟨rfl, h⟩ | ⟨n', rfl, h⟩
  · cases h with
    | @word u hu =>
      have er := (List.cons.inj (Tn.tup.inj et)).2
      subst er
      rw [show P1 (.tup [.str hG, .str u]) = hG from rfl] at hp ⊢
      simp only [TAll, TV] at hy'
      obtain ⟨_, _, rfl, rfl, rfl⟩ := hy'
      refine ⟨_, rfl, rfl, _, rfl, ?_⟩
      rw [cZ Z7]
      refine G0 ?_
      exact ⟨_, rfl, p, _, _, .str (S u), rfl, rfl, hp, J7 (j := 1) rfl, L0, fun l hl => q _ l [u] (D0.same (A9 hl _)) hl (by rw [A6]; rfl) (PrW.leaf (.word hu))⟩
    | @span a b hab ha hb =>
      have er := (List.cons.inj (Tn.tup.inj et)).2
      subst er
      rw [show P1 (P6 (oI a) (oI b)) = xL from rfl] at hp ⊢
      refine ⟨_, rfl, rfl, _, rfl, ?_⟩
      rw [N2 Z7 (by decide)]
      refine E2 ?_
      refine ⟨_, rfl, rfl, _, rfl, ?_⟩
      rw [cZ bK]
      refine G0 ?_
      exact ⟨_, rfl, _, rfl, .ref p, st, x, a, b, rfl, hs, hab, ha, hb, hv, fun H' l ws d hl0 hl hw => q H' l ws d hl0 hl (PrW.leaf hw)⟩
    | @text b hc hl =>
      have er := (List.cons.inj (Tn.tup.inj et)).2
      subst er
      rw [show P1 (.tup [.str dQ, .str b]) = dQ from rfl] at hp ⊢
      simp only [TAll, TV] at hy'
      obtain ⟨_, _, rfl, rfl, rfl⟩ := hy'
      refine ⟨_, rfl, rfl, _, rfl, ?_⟩
      rw [N2 Z7 (by decide)]
      refine E2 ?_
      refine ⟨_, rfl, rfl, _, rfl, ?_⟩
      rw [N2 bK (by decide)]
      refine E2 ?_
      refine ⟨_, rfl, rfl, _, rfl, ?_⟩
      rw [cZ bJ]
      refine G0 ?_
      refine ⟨_, rfl, p, _, _, .str (S b), rfl, rfl, hp, J7 (j := 1) rfl, ?_⟩
      rw [BA3]
      refine ⟨_, _, rfl, rfl, W9 (by show 1 + b.length ≤ 100000; omega), ?_⟩
      rw [aJ]
      refine ⟨_, _, rfl, rfl, W9 (by simp; omega), ?_⟩
      rw [aJ]
      exact ⟨L0, fun l hl' => q _ l [34 :: (b ++ [34])] (D0.same (A9 hl' _)) hl' (by rw [A6]; rfl) (PrW.leaf (.text hc hl))⟩
  · cases h with
    | @mk ns h0 hl hok =>
      have er := (List.cons.inj (Tn.tup.inj et)).2
      subst er
      rw [show P1 (.tup [.str cO, .tup (ns.map Tn.str)]) = cO from rfl] at hp ⊢
      simp only [TAll] at hy'
      obtain ⟨_, _, rfl, hns, rfl⟩ := hy'
      simp only [TV] at hns
      obtain ⟨a, us, rfl, ha, hus⟩ := hns
      have eus := sA hus
      subst eus
      refine ⟨_, rfl, rfl, _, rfl, ?_⟩
      rw [N2 Z7 (by decide)]
      refine E2 ?_
      refine ⟨_, rfl, rfl, _, rfl, ?_⟩
      rw [N2 bK (by decide)]
      refine E2 ?_
      refine ⟨_, rfl, rfl, _, rfl, ?_⟩
      rw [N2 bJ (by decide)]
      refine E2 ?_
      refine ⟨_, rfl, rfl, _, rfl, ?_⟩
      rw [cZ aT]
      refine G0 ?_
      refine ⟨L0, fun l1 hl1 => ?_⟩
      have k1 := A9 hl1 (.lst [.str (Str.ofString "@")])
      have hpl := gQ ns
      refine ⟨_, rfl, p, _, _, .ref a, rfl, rfl, k1.seqT hp, J7 (j := 1) rfl, a, ns, rfl, k1.seqT ha, by omega, fun H2 l2 g2 hl20 hl2 => ?_⟩
      refine ⟨l1, l2, _, _, rfl, rfl, g2 _ _ A6, hl2, U0 (by rw [List.length_map, List.length_singleton]; omega), fun l3 hl3 => ?_⟩
      have k3 := A9 hl3 (.lst ([.str (Str.ofString "@")] ++ ST (G8 ns)))
      refine q _ l3 ([64] :: G8 ns) (D0.same (k1.trans (g2.trans k3))) (V4 (k1.trans g2) hl3) ?_ (PrW.place (.mk h0 hl hok))
      rw [A6, lAt]; rfl
  · have eB := hB n' rfl
    have eT := hT n' rfl
    subst eB eT
    rcases h with ⟨ts, m, rfl, htl, hgt⟩ | ⟨fs, m, rfl, hfl, hnd, hgt⟩ | ⟨t', rfl, hgt⟩ | ⟨kw, ts, hkw, rfl, h2, htl, hgt⟩
    · have er := (List.cons.inj (Tn.tup.inj et)).2
      subst er
      rw [show P1 (.tup [.str Z8, .tup ts, .bl m]) = Z8 from rfl] at hp ⊢
      simp only [TAll] at hy'
      obtain ⟨_, _, rfl, hns, _, _, rfl, hm, rfl⟩ := hy'
      simp only [TV] at hns hm
      subst hm
      obtain ⟨a, us, rfl, ha, hus⟩ := hns
      have hul := hus.length
      have htl9 : ts.length ≤ 11 := Nat.le_trans htl (by show 3 ≤ 11; decide)
      refine ⟨_, rfl, rfl, _, rfl, ?_⟩
      rw [N2 Z7 (by decide)]
      refine E2 ?_
      refine ⟨_, rfl, rfl, _, rfl, ?_⟩
      rw [N2 bK (by decide)]
      refine E2 ?_
      refine ⟨_, rfl, rfl, _, rfl, ?_⟩
      rw [N2 bJ (by decide)]
      refine E2 ?_
      refine ⟨_, rfl, rfl, _, rfl, ?_⟩
      rw [N2 aT (by decide)]
      refine E2 ?_
      refine ⟨_, rfl, rfl, _, rfl, ?_⟩
      rw [N2 gZ (by decide)]
      refine E2 ?_
      refine ⟨_, rfl, rfl, _, rfl, ?_⟩
      rw [N2 bH (by decide)]
      refine E2 ?_
      refine ⟨_, rfl, rfl, _, rfl, ?_⟩
      rw [N2 lI (by decide)]
      refine E2 ?_
      refine ⟨_, rfl, rfl, _, rfl, ?_⟩
      rw [cZ rO]
      refine G0 ?_
      refine ⟨_, rfl, p, _, _, .ref a, rfl, rfl, hp, J7 (j := 1) rfl, a, rfl, ⟨_, ha⟩, fun l hl => ?_⟩
      have D1 := D0.put (o := .lst []) hl
      refine AI6 (xs := us) (fun i ys H' => DS st H H' ∧ H' l = some (.lst ys) ∧ ∃ rows, LsN H l H' ys rows ∧ All2 (Y8 (PrW J1 n' false) false) (ts.take i) rows) ⟨D1, A6, [], .nil, .nil⟩ (fun i ys H' _ ⟨d, _⟩ => d.kp _ _ ha) (fun i u ys H' hu hinv => ?_) (fun ys H' hinv => ?_)
      · obtain ⟨d, hl', rows, hls, hrw⟩ := hinv
        obtain ⟨t, ht, htv⟩ := hus.get hu
        have hi : i < us.length := (List.getElem?_eq_some_iff.mp hu).1
        have hyl := hls.length
        have hrl := hrw.length
        rw [List.length_take] at hrl
        have nl := d.ne hl
        dsimp only [aL, X5]
        refine nV ⟨_, rfl, U2, fun tg htg => ?_⟩
        have kt := A9 htg (.tup [])
        have dt := d.same kt
        obtain ⟨y2, hy2⟩ := dt.s
        refine ⟨_, rfl, u, tg, st, y2, false, t, [], rfl, hy2, hgt t (List.mem_of_getElem? ht), TV.kp dt.kp htv, SqT.of A6, fun H5 lb row d5 hlb0 hlb hrow => ?_⟩
        have hl5 := d5.g _ _ nl (kt _ _ hl')
        have hlbl : lb ≠ l := Ne.symm (D9 (kt _ _ hl') hlb0)
        refine ⟨hl5, T2 (by omega), (dt.more d5).put hl, A6, rows ++ [row], ?_, ?_⟩
        · refine (((hls.same kt).more dt d5).put).snoc ⟨lb, rfl, dt.old hlb0, hlbl, by rw [B6 hlbl]; exact hlb⟩
        · rw [S4 ht]; exact hrw.snoc hrow
      · obtain ⟨d, hl', rows, hls, hrw⟩ := hinv
        rw [hul, List.take_length] at hrw
        have hrl := hrw.length
        have hrok := hrw.right (Q := fun r => r ≠ [] ∧ r.length ≤ 3000) fun t row h => ⟨yN h, Nat.le_trans (fH (by omega) h) (by decide)⟩
        have hR : PrW J1 (n' + 1) pl (.tup [.str Z8, .tup ts, .bl m]) ([91] :: (G3 [44] (rows ++ G9 m) ++ [[93]])) := .inr (.inr (.inl ⟨ts, rows, m, rfl, htl, hrw, rfl⟩))
        have hwl := iZ hn hR
        simp only [List.length_cons, List.length_append, List.length_nil] at hwl
        refine ⟨L0, fun l1 hl1 => ?_⟩
        have k1 := A9 hl1 (.lst [.str (Str.ofString "[")])
        refine ⟨_, rfl, _, rfl, p, _, _, .bl m, rfl, rfl, k1.seqT (d.kp _ _ hp), J7 (j := 2) rfl, l, m, ys, rows, rfl, k1 _ _ hl', (hls.ls).same k1, hrok, by omega, fun H6 l6 g6 hl60 hl6 => ?_⟩
        refine ⟨l1, l6, _, _, rfl, rfl, g6 _ _ A6, hl6, L7 (by rw [List.length_map, List.length_singleton]; omega), fun l7 hl7 => ⟨L0, fun l8 hl8 => ?_⟩⟩
        have k7 := A9 hl7 (.lst ([.str (Str.ofString "[")] ++ ST (G3 [44] (rows ++ G9 m))))
        have k8 := A9 hl8 (.lst [.str (Str.ofString "]")])
        refine ⟨l7, l8, _, _, rfl, rfl, k8 _ _ A6, A6, L7 (by rw [List.length_append, List.length_map, List.length_singleton, List.length_singleton]; omega), fun l9 hl9 => ?_⟩
        have k9 := A9 hl9 (.lst ([.str (Str.ofString "[")] ++ ST (G3 [44] (rows ++ G9 m)) ++ [.str (Str.ofString "]")]))
        have kk := k1.trans (g6.trans (k7.trans k8))
        refine q _ l9 _ (d.same (kk.trans k9)) (d.old (V4 kk hl9)) ?_ hR
        rw [A6, lLb, lRb]; simp [ST]
    · have er := (List.cons.inj (Tn.tup.inj et)).2
      subst er
      rw [show P1 (.tup [.str aF, .tup (fs.map Y0), .bl m]) = aF from rfl] at hp ⊢
      simp only [TAll] at hy'
      obtain ⟨_, _, rfl, hns, _, _, rfl, hm, rfl⟩ := hy'
      simp only [TV] at hns hm
      subst hm
      obtain ⟨a, us, rfl, ha, hus⟩ := hns
      have hul := hus.length
      rw [List.length_map] at hul
      have hfl9 : fs.length ≤ 11 := Nat.le_trans hfl (by show 3 ≤ 11; decide)
      refine ⟨_, rfl, rfl, _, rfl, ?_⟩
      rw [N2 Z7 (by decide)]
      refine E2 ?_
      refine ⟨_, rfl, rfl, _, rfl, ?_⟩
      rw [N2 bK (by decide)]
      refine E2 ?_
      refine ⟨_, rfl, rfl, _, rfl, ?_⟩
      rw [N2 bJ (by decide)]
      refine E2 ?_
      refine ⟨_, rfl, rfl, _, rfl, ?_⟩
      rw [N2 aT (by decide)]
      refine E2 ?_
      refine ⟨_, rfl, rfl, _, rfl, ?_⟩
      rw [N2 gZ (by decide)]
      refine E2 ?_
      refine ⟨_, rfl, rfl, _, rfl, ?_⟩
      rw [N2 bH (by decide)]
      refine E2 ?_
      refine ⟨_, rfl, rfl, _, rfl, ?_⟩
      rw [N2 lI (by decide)]
      refine E2 ?_
      refine ⟨_, rfl, rfl, _, rfl, ?_⟩
      rw [N2 rO (by decide)]
      refine E2 ?_
      refine ⟨U2, fun l hl => ?_⟩
      have D1 := D0.put (o := .lst []) hl
      refine ⟨_, rfl, p, _, _, .ref a, rfl, rfl, D1.kp _ _ hp, J7 (j := 1) rfl, a, rfl, ⟨_, D1.kp _ _ ha⟩, ?_⟩
      refine pI (xs := us) (fun i σ H' => ∃ (ys : List V) (rows : List (List Wd)) (b4 b5 b6 : Option V), σ = [some (.ref p), some (.ref st), some (.str (S aF)), some (.ref l), b4, b5, b6] ∧ DS st H H' ∧ H' l = some (.lst ys) ∧ LsN H l H' ys rows ∧ All2 (FRw (PrW J1 n' false)) (fs.take i) rows)
        ⟨[], [], none, none, none, rfl, D1, A6, .nil, .nil⟩ (fun i σ H' _ ⟨_, _, _, _, _, _, d, _⟩ => d.kp _ _ ha) (fun i u σ H' hu hinv => ?_) (fun σ H' hinv => ?_)
      · obtain ⟨ys, rows, b4, b5, b6, rfl, d, hl', hls, hrw⟩ := hinv
        obtain ⟨tf, htf, htv⟩ := hus.get hu
        rw [List.getElem?_map] at htf
        obtain ⟨fl, hfl', rfl⟩ : ∃ fl, fs[i]? = some fl ∧ tf = Y0 fl := by
          cases e : fs[i]? with
          | none => rw [e] at htf; cases htf
          | some z => rw [e] at htf; cases htf; exact ⟨z, rfl, rfl⟩
        obtain ⟨nm, t, must⟩ := fl
        obtain ⟨hnm, hg'⟩ := hgt _ (List.mem_of_getElem? hfl')
        unfold Y0 at htv
        simp only [TV, TAll] at htv
        obtain ⟨fa, _, rfl, hfa, _, _, rfl, rfl, hv', _, rfl, htv', _, _, rfl, rfl, rfl⟩ := htv
        have hi : i < us.length := (List.getElem?_eq_some_iff.mp hu).1
        have hyl := hls.length
        have hrl := hrw.length
        rw [List.length_take] at hrl
        have nl := d.ne hl
        refine ⟨fa, _, rfl, d.kp _ _ hfa, rfl, _, _, rfl, _, _, rfl, _, _, rfl, rfl, ?_⟩
        refine ⟨_, rfl, .inl ⟨rfl, _, SqL.of hl'⟩, _, rfl, L0, fun l1 hl1 => ⟨L0, fun l2 hl2 => ⟨_, rfl, _, rfl, _, rfl, _, rfl, l2, _, rfl, SqL.of A6, fun l3 hl3 => ?_⟩⟩⟩
        rw [hW]
        have k1 := A9 hl1 (.lst [.str (S nm)])
        have k2 := A9 hl2 (.lst [.str (Str.ofString "?")])
        have k3 := A9 hl3 (.lst (if (!must) = true then [V.str (Str.ofString "?")] else []))
        have hq1 : (if (!must) = true then [V.str (Str.ofString "?")] else []).length ≤ 1 := by cases must <;> simp
        refine ⟨l1, l3, _, _, rfl, rfl, (k2.trans k3) _ _ A6, A6, U0 (by rw [List.length_singleton]; omega), fun l4 hl4 => ⟨L0, fun l5 hl5 => ?_⟩⟩
        have k4 := A9 hl4 (.lst ([.str (S nm)] ++ (if (!must) = true then [V.str (Str.ofString "?")] else [])))
        have k5 := A9 hl5 (.lst [.str (Str.ofString ":")])
        refine ⟨l4, l5, _, _, rfl, rfl, k5 _ _ A6, A6, U0 (by rw [List.length_append, List.length_singleton, List.length_singleton]; omega), fun l6 hl6 => ?_⟩
        have k6 := A9 hl6 (.lst ([.str (S nm)] ++ (if (!must) = true then [V.str (Str.ofString "?")] else []) ++ [.str (Str.ofString ":")]))
        refine ⟨_, rfl, U2, fun tg htg => ?_⟩
        have k7 := A9 htg (.tup [])
        have kk := k1.trans (k2.trans (k3.trans (k4.trans (k5.trans (k6.trans k7)))))
        have dt := d.same kk
        obtain ⟨y2, hy2⟩ := dt.s
        have hl6' := k7 l6 _ A6
        have n6 : l6 ≠ st := d.ne (d.old (V4 (k1.trans (k2.trans (k3.trans (k4.trans k5)))) hl6))
        refine ⟨_, rfl, hv', tg, st, y2, false, t, [], rfl, hy2, hg', TV.kp dt.kp htv', SqT.of A6, fun H8 lb row d8 hlb0 hlb hrow => ?_⟩
        have hrl3 := fH (show n' ≤ 3 by omega) hrow
        refine ⟨l6, lb, _, _, rfl, rfl, d8.g _ _ n6 hl6', hlb, L7 (by rw [List.length_append, List.length_append, List.length_map, List.length_singleton, List.length_singleton]; omega), fun l9 hl9 => ?_⟩
        have k9 := A9 hl9 (.lst ([.str (S nm)] ++ (if (!must) = true then [V.str (Str.ofString "?")] else []) ++ [.str (Str.ofString ":")] ++ ST row))
        have hl8 := k9 _ _ (d8.g _ _ nl (kk _ _ hl'))
        have hl9l : l9 ≠ l := Ne.symm (D9 (d8.g _ _ nl (kk _ _ hl')) hl9)
        have dd := (dt.more d8).same k9
        refine ⟨l, _, _, rfl, rfl, hl8, T2 (by omega), ys ++ [.ref l9], rows ++ [T4 nm must row], _, _, _, rfl, dd.put hl, A6, ?_, ?_⟩
        · refine ((((hls.same kk).more dt d8).same k9).put).snoc ⟨l9, rfl, (dt.more d8).old hl9, hl9l, ?_⟩
          rw [B6 hl9l, A6, lQ, AH1]
          cases must <;> simp [ST, T4]
        · rw [S4 hfl']
          exact hrw.snoc ⟨row, rfl, hnm, hrow⟩
      · obtain ⟨ys, rows, b4, b5, b6, rfl, d, hl', hls, hrw⟩ := hinv
        rw [hul, List.take_length] at hrw
        have hrl := hrw.length
        have hrok := hrw.right (Q := fun r => r ≠ [] ∧ r.length ≤ 3000) fun f row ⟨r, e, _, h⟩ => by
          have h1 := fH (show n' ≤ 3 by omega) h
          rw [e]
          refine ⟨by simp [T4], ?_⟩
          unfold T4
          simp only [List.length_append, List.length_cons, List.length_nil]
          split <;> simp <;> omega
        have hR : PrW J1 (n' + 1) pl (.tup [.str aF, .tup (fs.map Y0), .bl m]) ([123] :: (G3 [44] (rows ++ G9 m) ++ [[125]])) := .inr (.inr (.inr (.inl ⟨fs, rows, m, rfl, hfl, hnd, hrw, rfl⟩)))
        have hwl := iZ hn hR
        simp only [List.length_cons, List.length_append, List.length_nil] at hwl
        refine ⟨L0, fun l1 hl1 => ?_⟩
        have k1 := A9 hl1 (.lst [.str (Str.ofString "{")])
        refine ⟨_, rfl, _, rfl, p, _, _, .bl m, rfl, rfl, k1.seqT (d.kp _ _ hp), J7 (j := 2) rfl, l, m, ys, rows, rfl, k1 _ _ hl', (hls.ls).same k1, hrok, by omega, fun H6 l6 g6 hl60 hl6 => ?_⟩
        refine ⟨l1, l6, _, _, rfl, rfl, g6 _ _ A6, hl6, L7 (by rw [List.length_map, List.length_singleton]; omega), fun l7 hl7 => ⟨L0, fun l8 hl8 => ?_⟩⟩
        have k7 := A9 hl7 (.lst ([.str (Str.ofString "{")] ++ ST (G3 [44] (rows ++ G9 m))))
        have k8 := A9 hl8 (.lst [.str (Str.ofString "}")])
        refine ⟨l7, l8, _, _, rfl, rfl, k8 _ _ A6, A6, L7 (by rw [List.length_append, List.length_map, List.length_singleton, List.length_singleton]; omega), fun l9 hl9 => ?_⟩
        have k9 := A9 hl9 (.lst ([.str (Str.ofString "{")] ++ ST (G3 [44] (rows ++ G9 m)) ++ [.str (Str.ofString "}")]))
        have kk := k1.trans (g6.trans (k7.trans k8))
        refine q _ l9 _ (d.same (kk.trans k9)) (d.old (V4 kk hl9)) ?_ hR
        rw [A6, lLc, lRc]; simp [ST]
    · have er := (List.cons.inj (Tn.tup.inj et)).2
      subst er
      rw [show P1 (.tup [.str eI, t']) = eI from rfl] at hp ⊢
      simp only [TAll] at hy'
      obtain ⟨u, _, rfl, hu, rfl⟩ := hy'
      refine ⟨_, rfl, rfl, _, rfl, ?_⟩
      rw [N2 Z7 (by decide)]
      refine E2 ?_
      refine ⟨_, rfl, rfl, _, rfl, ?_⟩
      rw [N2 bK (by decide)]
      refine E2 ?_
      refine ⟨_, rfl, rfl, _, rfl, ?_⟩
      rw [N2 bJ (by decide)]
      refine E2 ?_
      refine ⟨_, rfl, rfl, _, rfl, ?_⟩
      rw [N2 aT (by decide)]
      refine E2 ?_
      refine ⟨_, rfl, rfl, _, rfl, ?_⟩
      rw [cZ gZ]
      refine G0 ?_
      refine ⟨L0, fun l1 hl1 => ?_⟩
      have k1 := A9 hl1 (.lst [.str (Str.ofString "!")])
      refine ⟨_, rfl, p, _, _, u, rfl, rfl, k1.seqT hp, J7 (j := 1) rfl, R8, fun tg htg => ?_⟩
      have k2 := A9 htg (.tup [.str (Str.ofString "and"), .str (Str.ofString "or")])
      have dt := D0.same (k1.trans k2)
      obtain ⟨y2, hy2⟩ := dt.s
      have n1 : l1 ≠ st := D0.ne hl1
      refine ⟨_, rfl, u, tg, st, y2, false, t', [P3, U9], rfl, hy2, hgt, TV.kp dt.kp hu, SqT.of (by rw [A6, aoK]), fun H5 lb row d5 hlb0 hlb hrow => ?_⟩
      rw [← qJ hgt] at hrow
      have hR : PrW J1 (n' + 1) pl (.tup [.str eI, t']) ([33] :: row) := .inr (.inr (.inr (.inr (.inl ⟨t', row, rfl, hrow, rfl⟩))))
      have hwl := iZ hn hR
      rw [List.length_cons] at hwl
      refine ⟨l1, lb, _, _, rfl, rfl, d5.g _ _ n1 (k2 _ _ A6), hlb, L7 (by rw [List.length_map, List.length_singleton]; omega), fun l9 hl9 => ?_⟩
      have k9 := A9 hl9 (.lst ([.str (Str.ofString "!")] ++ ST row))
      refine q _ l9 _ ((dt.more d5).same k9) ((dt.more d5).old hl9) ?_ hR
      rw [A6, AM0]; rfl
    · have er := (List.cons.inj (Tn.tup.inj et)).2
      subst er
      rw [show P1 (.tup [.str kw, .tup ts]) = kw from rfl] at hp ⊢
      simp only [TAll] at hy'
      obtain ⟨_, _, rfl, hns, rfl⟩ := hy'
      simp only [TV] at hns
      obtain ⟨a, us, rfl, ha, hus⟩ := hns
      have htl9 : ts.length ≤ 11 := Nat.le_trans htl (by show 3 ≤ 11; decide)
      rcases hkw with rfl | rfl
      · refine ⟨_, rfl, rfl, _, rfl, ?_⟩
        rw [N2 Z7 (by decide)]
        refine E2 ?_
        refine ⟨_, rfl, rfl, _, rfl, ?_⟩
        rw [N2 bK (by decide)]
        refine E2 ?_
        refine ⟨_, rfl, rfl, _, rfl, ?_⟩
        rw [N2 bJ (by decide)]
        refine E2 ?_
        refine ⟨_, rfl, rfl, _, rfl, ?_⟩
        rw [N2 aT (by decide)]
        refine E2 ?_
        refine ⟨_, rfl, rfl, _, rfl, ?_⟩
        rw [N2 gZ (by decide)]
        refine E2 ?_
        refine ⟨_, rfl, rfl, _, rfl, ?_⟩
        rw [cZ bH]
        refine G0 ?_
        refine ⟨_, rfl, p, _, _, .ref a, rfl, rfl, hp, J7 (j := 1) rfl, R8, fun tg htg => ?_⟩
        have k2 := A9 htg (.tup [.str (Str.ofString "and"), .str (Str.ofString "or")])
        have dt := D0.same k2
        obtain ⟨y2, hy2⟩ := dt.s
        refine ⟨_, rfl, [38], a, tg, st, y2, pl, us, ts, [P3, U9], by rw [pG]; rfl, hy2, dt.kp _ _ ha, hus.kp dt.kp, hgt, by omega, SqT.of (by rw [A6, aoK]), fun H5 lb rows d5 hlb0 hlb hrw => ?_⟩
        exact q H5 lb _ (dt.more d5) (dt.old hlb0) hlb (.inr (.inr (.inr (.inr (.inr (.inl ⟨ts, rows, rfl, h2, htl, hrw.imp fun t ht row h => by rw [qJ (hgt t ht)]; exact h, rfl⟩))))))
      · refine ⟨_, rfl, rfl, _, rfl, ?_⟩
        rw [N2 Z7 (by decide)]
        refine E2 ?_
        refine ⟨_, rfl, rfl, _, rfl, ?_⟩
        rw [N2 bK (by decide)]
        refine E2 ?_
        refine ⟨_, rfl, rfl, _, rfl, ?_⟩
        rw [N2 bJ (by decide)]
        refine E2 ?_
        refine ⟨_, rfl, rfl, _, rfl, ?_⟩
        rw [N2 aT (by decide)]
        refine E2 ?_
        refine ⟨_, rfl, rfl, _, rfl, ?_⟩
        rw [N2 gZ (by decide)]
        refine E2 ?_
        refine ⟨_, rfl, rfl, _, rfl, ?_⟩
        rw [N2 bH (by decide)]
        refine E2 ?_
        refine ⟨_, rfl, rfl, _, rfl, ?_⟩
        rw [cZ lI]
        refine G0 ?_
        refine ⟨_, rfl, p, _, _, .ref a, rfl, rfl, hp, J7 (j := 1) rfl, L0, fun tg htg => ?_⟩
        have k2 := A9 htg (.tup [.str (Str.ofString "or")])
        have dt := D0.same k2
        obtain ⟨y2, hy2⟩ := dt.s
        refine ⟨_, rfl, [124], a, tg, st, y2, pl, us, ts, [U9], by rw [pF]; rfl, hy2, dt.kp _ _ ha, hus.kp dt.kp, hgt, by omega, SqT.of (by rw [A6, orK]), fun H5 lb rows d5 hlb0 hlb hrw => ?_⟩
        exact q H5 lb _ (dt.more d5) (dt.old hlb0) hlb (.inr (.inr (.inr (.inr (.inr (.inr ⟨ts, rows, rfl, h2, htl, hrw.imp fun t ht row h => by rw [zR (hgt t ht)]; exact h, rfl⟩))))))
end
end Law
namespace Law
open PySem L2 L2.Sp
theorem wF {c : Nat} (h : P2 c = true) : Unicode.isAlnum c = true := by
 unfold P2 at h
 simp only [Bool.and_eq_true,decide_eq_true_eq] at h
 obtain ⟨k,rfl⟩ : ∃ k,c = 97 + k := ⟨c - 97,by omega⟩
 have : ∀ k,k < 26 → Unicode.isAlnum (97 + k) = true := by decide +kernel
 exact this k (by omega)
theorem wG {c : Nat} (h : K7 c = true) : Unicode.isAlnum c = true := by
 obtain ⟨h1,h2⟩ := fU h
 obtain ⟨k,rfl⟩ : ∃ k,c = 48 + k := ⟨c - 48,by omega⟩
 have : ∀ k,k < 10 → Unicode.isAlnum (48 + k) = true := by decide +kernel
 exact this k (by omega)
theorem jH (v : List Nat) : Txt.isalnum (S v) = (decide (0 < v.length) && v.all Unicode.isAlnum) := by
 unfold Txt.isalnum
 rw [N9]
 congr 1
 simp
theorem BE0 {p : List Nat} {d : Nat} (h : U4 p) (hd : p.head? = some d) (hl : P2 d = true) : Let p := by
 rcases h with h | h | h | rfl | h
 ·exact h
 ·obtain ⟨c,e,hc⟩ := h.head
  rw [hd] at e; cases e
  rcases hc with rfl | hc
  ·cases hl
  ·rw [mW hl] at hc; cases hc
 ·obtain ⟨b,_,rfl⟩ := h
  cases hd; cases hl
 ·cases hd; cases hl
 ·obtain ⟨c,hc,rfl⟩ := h
  cases hd
  rw [(V0 _ hc).1] at hl; cases hl
theorem BE1 {p : List Nat} {d : Nat} (h : U4 p) (hd : p.head? = some d) (hl : K7 d = true) : Num p := by
 rcases h with h | h | h | rfl | h
 ·obtain ⟨c,e,hc⟩ := h.head
  rw [hd] at e; cases e
  rw [mW hc] at hl; cases hl
 ·exact h
 ·obtain ⟨b,_,rfl⟩ := h
  cases hd; cases hl
 ·cases hd; cases hl
 ·obtain ⟨c,hc,rfl⟩ := h
  cases hd
  rw [(V0 _ hc).2.1] at hl; cases hl
theorem zN {p : List Nat} (h : Let p) : Txt.isalnum (S p) = true := by
 rw [jH,Bool.and_eq_true]
 exact ⟨decide_eq_true (List.length_pos_iff.mpr h.1),List.all_eq_true.mpr fun c hc=>wF (h.2 c hc)⟩
theorem zH {p : List Nat} {d : Nat} (h : Num p) (hd : p.head? = some d) (hl : K7 d = true) : Txt.isalnum (S p) = true := by
 obtain ⟨sn,fs,rfl,hsn,hne,hf,_⟩ := h
 rcases hsn with rfl | rfl
 ·rw [jH,Bool.and_eq_true]
  exact ⟨decide_eq_true (List.length_pos_iff.mpr (by simpa using hne)),List.all_eq_true.mpr fun c hc=>wG (hf c (by simpa using hc))⟩
 ·cases hd; cases hl
def bI (u : Wd) : Wd := u.drop (u.length - 1)
theorem wU (u : Wd) : Txt.slice (S u) (some (-1)) none = S (bI u) := by
 by_cases e : u = []
 ·subst e; decide +kernel
 ·have hl : (S u).length = u.length := N9 u
  have hp := List.length_pos_iff.mpr e
  have e0 := StrLaws.sliceText_neg_lo (S u) none (i := -1) (by decide) (by rw [hl]; omega)
  have e1 : Txt.slice (S u) (some (-1)) none = Txt.slice (S u) (some ((u.length - 1 : Nat) : Int)) none := by
   show StrLaws.sliceText (S u) (some (-1)) none = StrLaws.sliceText (S u) _ none
   rw [e0,hl]
   congr 2
   omega
  rw [e1]
  exact mE u (i := u.length - 1) (by omega)
theorem AG9 {u : Wd} (h : u ≠ []) : ∃ c,bI u = [c] ∧ c ∈ u := by
 obtain ⟨c,u',rfl⟩ : ∃ c u',u = u' ++ [c] := ⟨_,_,(List.dropLast_concat_getLast h).symm⟩
 exact ⟨c,by unfold bI; simp,by simp⟩
theorem mS {u : Wd} {c : Nat} (e : bI u = [c]) (h : Unicode.isAlnum c = true) : Txt.isalnum (S (bI u)) = true := by
 rw [jH,e]; simp [h]
theorem lP {last p : Wd} (hp : U4 p) (hd : last = [46] → p.head? ≠ some 46) (ha : ¬ (Txt.isalnum (S (bI last)) = true ∧ Txt.isalnum (S p) = true)) : Fol last p := by
 intro d hd'
 refine ⟨fun h=>Bool.eq_false_iff.mpr fun z=>ha ⟨?_,zN (BE0 hp hd' z)⟩,fun h=>Bool.eq_false_iff.mpr fun z=>ha ⟨?_,zH (BE1 hp hd' z) hd' z⟩,fun h z=>?_⟩
 ·obtain ⟨c,e,hc⟩ := AG9 h.1
  exact mS e (wF (h.2 c hc))
 ·obtain ⟨sn,fs,rfl,hsn,hne,hf,_⟩ := h
  have hne' : sn ++ fs ≠ [] := fun z=>hne (List.append_eq_nil_iff.mp z).2
  obtain ⟨f,fs',rfl⟩ : ∃ f fs',fs = fs' ++ [f] := ⟨_,_,(List.dropLast_concat_getLast hne).symm⟩
  refine mS (c := f) ?_ (wG (hf f (by simp)))
  unfold bI
  rw [← List.append_assoc]
  simp
 ·subst z
  exact hd h hd'
theorem zK (g : Nat) (h : g ≤ 2) : Txt.mul (Str.ofString " ") (g : Int) = S (List.replicate g 32) := by
 have : g = 0 ∨ g = 1 ∨ g = 2 := by omega
 rcases this with rfl | rfl | rfl <;> decide +kernel
theorem AT4 {line last : List Nat} {due : List (List Nat)} (h : Line line due last) (g : Nat) : G6 (line ++ List.replicate g 32) = some due := by
 cases g with
 | zero=>rw [List.replicate_zero,List.append_nil]; exact h.ends
 | succ g =>
  have e := h.all (s := List.replicate (g + 1) 32) (by rw [List.replicate_succ]; exact Fol.sp)
  have e2 := dA (g + 1) []
  rw [List.append_nil,iE] at e2
  rw [e,e2]; simp
section
variable {P : Program} {w : World} {K : PySem.W.Frag} {mg : Str → Option Value} {base : Heap} {f : Addr} {fd : FuncData}
abbrev kA : Stmt := N0 55
theorem aN : E4 ["_law_words_here","_law_state","_law_line_here","_law_last","_law_word","_law_gap"] ["_law_words_here","_law_state"] (B1 kA) := ⟨rfl,rfl,rfl,by decide +kernel,rfl,by decide +kernel,by decide +kernel⟩
end
end Law
namespace Law
open PySem L2 L2.Sp
def K4 : Wd := [101,108,115,101]
theorem AM1 : (Str.ofString "else" : Str) = S K4 := by decide +kernel
section
variable (X : Bool → List Wd → K9 → Prop)
inductive aK : Nat → List Tn → List Wd → Option (List Tn × List Wd) → Prop
 | stop {ts r} : hd r ≠ K4 → aK 0 ts r (some (ts,r))
 | on {k ts r t r1 res} : X true r (some (t,r1)) → aK k (ts ++ [t]) r1 res → aK (k + 1) ts (K4 :: r) res
 | bad {ts r} : X true r none → aK 1 ts (K4 :: r) none
def cY (ws : List Wd) (res : Option Tn) : Prop := ∃ nres,T6 ws nres ∧ match nres with
 | none=>res = none
 | some (ns,r)=>if hd r = [58] then ∃ xres,X true r.tail xres ∧ (match xres with
   | none=>res = none
   | some (t,r1)=>∃ k eres,aK X k [t] r1 eres ∧ res = match eres with
    | none=>none
    | some (ts,r2)=>if hd r2 = [] then some (.tup [.tup (ns.map Tn.str),.tup ts]) else none) else res = none
end
section
variable {P : Program} {w : World} {K : PySem.W.Frag} {mg : Str → Option Value} {base : Heap} {f : Addr} {fd : FuncData} {R C : Addr}
abbrev oH : Stmt := N0 23
theorem rH : E4 ["line","reader","path","trees"] ["line"] (B1 oH) := ⟨rfl,rfl,rfl,by decide +kernel,rfl,by decide +kernel,by decide +kernel⟩
theorem AY2 {N : Nat} {fi : Addr} {fdi : FuncData} (F : Fun K "read_row" "read_row" oH f fd) (r : Rdg P w K mg base R C) (M : Mk K R fi) (FI : FnOk P w K mg base (O0 P w) 6 fi fdi ["self","text"] (sF K R C)) (bi : Binds K fdi ["self","text"] []) (gR : mg "Reader" = some (.ref R)) :
  FnOk P w K mg base (O0 P w) (5 * N + 8) f fd ["line"] (W5 K C (cY (Exn N))) := by
 refine Fun.ok1 F rH (fun vs H Q E h=>?_) (fun cdv A outer s H vs Q E hr h=>?_)
 ·obtain ⟨v,rfl,_⟩ := h
  rfl
 obtain ⟨v,rfl,h⟩ := h
 have hr7 := hr.mono (show 6 + 1 ≤ 5 * N + 7 by omega)
 have hrE := hr.mono (show 5 * N + 5 ≤ 5 * N + 7 by omega)
 have hr4 := hr.mono (show 4 ≤ 5 * N + 7 by omega)
 have hr3 := hr.mono (show 3 ≤ 5 * N + 7 by omega)
 have hr2 := hr.mono (show 2 ≤ 5 * N + 7 by omega)
 refine ⟨_,A7 (B9 (i := 1) rH.nd rfl (Or.inl rfl) (vG M FI hr7 rfl gR bi .nil (G5 (E' := E) fun _ _ _ h=>h) (A0 (pv 0) A5)))
  (A7 (B9 (i := 2) rH.nd rfl (Or.inl rfl) (J4 r.NS hr4 rfl (G5 (E' := E) fun _ _ _ h=>h) (A0 (pv 1) A5)))
  (A7 (K5 (O2 r.MU r.c hr3 (G5 (E' := E) fun _ _ _ h=>h) (pv 1) (A0 B3 A5)))
  (A7 (B9 (i := 3) rH.nd rfl (Or.inl rfl) (E5 (A0 (J4 (mM r N) hrE rfl (G5 (E' := E) fun _ _ _ h=>h) (A0 (pv 1) (A0 N7 A5))) A5)))
  (A7 (V2 PassesOwn.leaving (N6 (O2 r.TS r.c hr2 P0 (pv 1) (A0 B3 A5)))
   (A8 (K5 (S5 PySem.F.plainAttrs_list PySem.F.slot_list_append PySem.F.type_list_append M0 (pv 3) (A0 (J4 (mM r N) hrE rfl (G5 (E' := E) fun _ _ _ h=>h) (A0 (pv 1) (A0 N7 A5))) A5)))))
  (A7 (K5 (O2 r.MU r.c hr3 (G5 (E' := E) fun _ _ _ h=>h) (pv 1) (A0 B3 A5)))
  (A8 (B4 (K0 (A0 (pv 2) (A0 (K6 O5 rfl r.m2 U3 (A0 (pv 3) A5)) A5)))))))))),?_⟩
 refine ⟨_,rfl,fun rd dx h1 h2 n12=>⟨rd,dx,v,rfl,A6,?_⟩⟩
 rcases h with ⟨d,hd',hf,e⟩ | ⟨l,rfl,hs,h⟩
 ·refine .inl ⟨d,DV.mono (DKeep.same ?_) _ _ hd',hf,e _ ?_⟩
  ·exact T8 h1 h2 Grow.refl
  ·exact T8 h1 h2 Grow.refl
 refine .inr ⟨l,rfl,hs,fun ws hw H1 p hp g1 hl hrd=>?_,fun hw H1 g1=>?_⟩
 ·rcases h with ⟨hn,_⟩ | ⟨ws',res,hw',ok,hy,q⟩
  ·rw [hn] at hw; cases hw
  ·rw [hw] at hw'; cases hw'
   refine ⟨rfl,?_⟩
   obtain ⟨nres,hnm,hy⟩ := hy
   have D0 : RD H1 R rd dx p ws 0 := ⟨hrd,hl,ok⟩
   have S0 := RS.start D0
   have wl0 := ok.len
   have up : ∀ {H2 : Hp},Grow rd H1 H2 → Same H H2 := fun {H2} g2=>T8 h1 h2 (g1.trans g2)
   refine ⟨_,rfl,rd,dx,p,ws,0,nres,rfl,D0,hnm,?_⟩
   cases nres with
   | none =>
    subst hy
    exact fun H2 g2=>q H2 (up g2)
   | some nr =>
    obtain ⟨ns,r1⟩ := nr
    intro vp H2 t2 g2 d2 e2 lt2 le2 hvp
    have s2 := S0.more g2 d2
    dsimp only at hy
    refine ⟨_,rfl,rd,dx,_,rfl,d2.ob,rfl,rd,dx,p,ws,t2,[58],by rw [AH1]; rfl,d2,eR 58 (by decide),?_⟩
    by_cases ec : Law.hd (ws.drop t2) = [58]
    ·rw [if_pos (by rw [← e2]; exact ec)] at hy
     obtain ⟨xres,hx,hy⟩ := hy
     have s3 := s2.up (t2 + 1)
     have hvp3 := TV.kp (dO (t' := t2 + 1) d2) hvp
     refine G2 ec ⟨_,rfl,rd,dx,p,ws,t2 + 1,true,xres,rfl,s3.st,by rw [W1,e2]; exact hx,?_⟩
     cases xres with
     | none =>
      dsimp only at hy
      subst hy
      exact fun H4 g4=>q H4 (up (s3.g.trans g4))
     | some xr =>
      obtain ⟨x,r2⟩ := xr
      obtain ⟨k,eres,he,rfl⟩ := hy
      intro vx H4 t4 g4 d4 e4 lt4 le4 hvx
      have s4 := s3.more g4 d4
      have hvp4 := TV.kp (Kp.grow g4 s3.st) hvp3
      refine ⟨L0,fun lt hlt=>?_⟩
      have hlt0 := gY s4 hlt
      have kt := A9 hlt (.lst [vx])
      refine ⟨fun m σ H'=>∃ (ts : List Tn) (vs : List V) (t' : Nat),σ = [some (.str (S l)),some (.ref rd),some vp,some (.ref lt)] ∧ RS H1 H' R rd dx p ws t' ∧ H' lt = some (.lst vs) ∧ TAll K H' ts vs ∧ TV K H' (.tup (ns.map Tn.str)) vp ∧ aK (Exn N) m ts (ws.drop t') eres ∧ ts.length ≤ t' ∧ t' ≤ ws.length,
       ⟨k,[x],[vx],t4,rfl,s4.same kt,A6,TAll.one (TV.kp (Kp.same kt) hvx),TV.kp (Kp.same kt) hvp4,by rw [e4]; exact he,(by show 1 ≤ t4; omega),le4⟩,?_⟩
      rintro m σ H' ⟨ts,vs,t',rfl,s',hl',hts,hvp',hep,hlen,htl⟩
      have nl : lt ≠ rd := s'.none hlt0 hl'
      have hvl := hts.length
      refine ⟨_,rfl,rd,dx,_,rfl,s'.st.ob,rfl,rd,dx,p,ws,t',K4,by rw [AM1]; rfl,s'.st,?_⟩
      generalize hdr : ws.drop t' = rr at hep ⊢
      cases hep with
      | stop hh =>
       refine B7 hh ⟨_,rfl,E2 ?_⟩
       refine ⟨_,rfl,rd,dx,_,rfl,s'.st.ob,rfl,rd,dx,p,ws,t',[],by rw [iY]; rfl,s'.st,⟨by decide,fun c hc=>by cases hc⟩,?_⟩
       rw [hdr]
       dsimp only at q
       have s5 := s'.up (t' + 1)
       by_cases e5 : Law.hd rr = []
       ·rw [if_pos e5] at q
        have ku := dO (K := K) (t' := t' + 1) s'.st
        have hl5 : P5 H' R rd dx p (t' + 1) lt = some (.lst vs) := by unfold P5; rw [B6 nl]; exact hl'
        refine G2 e5 ⟨_,rfl,_,rfl,lt,_,rfl,.inl ⟨SqL.of hl5,fun p6 hp6=>⟨R8,fun p7 hp7=>?_⟩⟩⟩
        have k6 := A9 hp6 (.tup vs)
        have k7 := A9 hp7 (.tup [vp,.ref p6])
        have k67 := Kp.same (K := K) (k6.trans k7)
        refine q _ _ (fun b o hb=>(k6.trans k7) _ _ (up s5.g b o hb)) ?_
        exact TV.tup (SqT.of A6) (TAll.cons (TV.kp k67 (TV.kp ku hvp')) (TAll.one (TV.tup (SqT.of (k7 _ _ A6)) (hts.kp (ku.trans k67)))))
       ·rw [if_neg e5] at q
        exact B7 e5 (q _ (up s5.g))
      | @on k' _ r3 t r4 _ hx2 hk2 =>
       obtain ⟨dd1,dd2⟩ := dU hdr
       refine G2 rfl ⟨_,rfl,G0 ?_⟩
       refine ⟨fun σ' H''=>∃ (vs : List V) (t'' : Nat),σ' = [some (.str (S l)),some (.ref rd),some vp,some (.ref lt)] ∧ RS H1 H'' R rd dx p ws t'' ∧ H'' lt = some (.lst vs) ∧ TAll K H'' (ts ++ [t]) vs ∧ TV K H'' (.tup (ns.map Tn.str)) vp ∧ aK (Exn N) k' (ts ++ [t]) (ws.drop t'') eres ∧ (ts ++ [t]).length ≤ t'' ∧ t'' ≤ ws.length,fun σ' H'' hh=>?_,?_⟩
       ·obtain ⟨vs,t'',a⟩ := hh
        exact ⟨k',Nat.lt_succ_self _,ts ++ [t],vs,t'',a⟩
       have s5 := s'.up (t' + 1)
       have ku := dO (K := K) (t' := t' + 1) s'.st
       have hl5 : P5 H' R rd dx p (t' + 1) lt = some (.lst vs) := by unfold P5; rw [B6 nl]; exact hl'
       refine ⟨_,rfl,.inl ⟨rfl,_,SqL.of hl5⟩,_,rfl,rd,dx,p,ws,t' + 1,true,_,rfl,s5.st,by rw [dd1]; exact hx2,?_⟩
       intro v6 H6 t6 g6 d6 e6 lt6 le6 hv6
       have s6 := s5.more g6 d6
       have hl6 := g6 _ _ nl hl5
       have k6 := ku.trans (Kp.grow (K := K) g6 s5.st)
       have kl := Kp.lst (K := K) (o := .lst (vs ++ [v6])) hl6
       exact ⟨lt,_,_,rfl,rfl,hl6,dC (by omega),_,t6,rfl,s6.put hlt0,A6,(hts.kp (k6.trans kl)).append (TAll.one (TV.kp kl hv6)),TV.kp (k6.trans kl) hvp',by rw [e6]; exact hk2,by rw [List.length_append,List.length_singleton]; omega,le6⟩
      | @bad _ r3 hx2 =>
       obtain ⟨dd1,dd2⟩ := dU hdr
       refine G2 rfl ⟨_,rfl,G0 ?_⟩
       have s5 := s'.up (t' + 1)
       have hl5 : P5 H' R rd dx p (t' + 1) lt = some (.lst vs) := by unfold P5; rw [B6 nl]; exact hl'
       refine ⟨fun _ _=>False,fun _ _ z=>z.elim,?_⟩
       refine ⟨_,rfl,.inl ⟨rfl,_,SqL.of hl5⟩,_,rfl,rd,dx,p,ws,t' + 1,true,_,rfl,s5.st,by rw [dd1]; exact hx2,?_⟩
       intro H6 g6
       exact q H6 (up (s5.g.trans g6))
    ·rw [if_neg (by rw [← e2]; exact ec)] at hy
     subst hy
     exact B7 ec (q _ (up (s2.up (t2 + 1)).g))
 ·rcases h with ⟨_,q⟩ | ⟨ws',res,hw',ok,hy,q⟩
  ·exact q _ (T8 h1 h2 (Grow.of g1))
  ·rw [hw] at hw'; cases hw'
end
end Law
namespace Law
open PySem L2 L2.Sp
def jN (u : Wd) : Prop := u ≠ [40] ∧ u ≠ [91] ∧ u ≠ [123] ∧ u ≠ [64] ∧ u ≠ [46,46] ∧ u ≠ [33] ∧ J9 u = false ∧ u.take 1 ≠ [34] ∧ u ∉ L5
instance (u : Wd) : Decidable (jN u) := by unfold jN; infer_instance
theorem jS {X : Bool → List Wd → K9 → Prop} {free : Bool} {r : List Wd} {res : K9} (h : jN (hd r)) : SglP X free r res ↔ res = none := by
 obtain ⟨h1,h2,h3,h4,h5,h6,h7,h8,h9⟩ := h
 unfold SglP
 rw [if_neg h1,if_neg h2,if_neg h3,if_neg (fun z=>h4 z.1),if_neg (fun z=>h5 z.1),if_neg (by rw [h7]; decide),if_neg h8,if_neg h9]
theorem qQ {r : List Wd} (h : hd r ≠ [33]) : bangs r = 0 := by
 unfold bangs
 cases r with
 | nil=>rfl
 | cons u r=>rw [List.takeWhile_cons_of_neg (by have h : u ≠ [33] := h; simpa using h)]; rfl
theorem aG {n : Nat} {free : Bool} {r : List Wd} (h : jN (hd r)) : Exn (n + 1) free r none := by
 refine ⟨none,⟨none,?_,rfl⟩,rfl⟩
 rw [qQ h.2.2.2.2.2.1,List.drop_zero]
 exact (jS h).mpr rfl
theorem vW {u v : Wd} {r : List Wd} (h : u ≠ v) : hd (u :: r) ≠ v := h
theorem sW {ns rest : List Wd} (h0 : ns ≠ []) (h : ∀ n ∈ ns,D7 n = true) (hr : hd rest ≠ [46]) : T6 (G8 ns ++ rest) (some (ns,rest)) := by
 obtain ⟨n,ns,rfl⟩ := List.exists_cons_of_ne_nil h0
 obtain ⟨k,hk⟩ := iX hr (ns := ns) (ns0 := [n]) fun x hx=>h x (by simp [hx])
 unfold T6
 exact G2 (show D7 n = true from h n (by simp)) ⟨k,hk⟩
def AW3 (ns : List Wd) (w : List Wd) (ws : List (List Wd)) : List Wd := G8 ns ++ ([58] :: (w ++ tails K4 ws))
theorem tJ {r : List Wd} : ES (K4 :: r) := ES.of (by decide)
section
variable {X : Bool → List Wd → K9 → Prop}
theorem tT {rest : List Wd} (hr : ES rest) (hk : hd rest ≠ K4) : ∀ {ts ts0 : List Tn} {ws : List (List Wd)},All2 (ExpAble X true) ts ws → ∃ k,aK X k ts0 (tails K4 ws ++ rest) (some (ts0 ++ ts,rest))
 | _,ts0,_,.nil=>⟨0,by rw [List.append_nil]; exact .stop hk⟩
 | _,ts0,_,@All2.cons _ _ _ t w ts ws a as=>by
  obtain ⟨k,hk'⟩ := tT hr hk (ts0 := ts0 ++ [t]) as
  refine ⟨k + 1,?_⟩
  rw [N1,List.cons_append,List.append_assoc]
  have hes : ES (tails K4 ws ++ rest) := by
   cases ws with
   | nil=>exact hr
   | cons x xs=>rw [N1]; exact tJ
  have := aK.on (ts := ts0) (a _ hes) hk'
  simpa using this
theorem AW2 {ns : List Wd} {t : Tn} {w : List Wd} {ts : List Tn} {ws : List (List Wd)} (h0 : ns ≠ []) (h : ∀ n ∈ ns,D7 n = true) (ha : ExpAble X true t w) (hs : All2 (ExpAble X true) ts ws) :
  cY X (AW3 ns w ws) (some (.tup [.tup (ns.map Tn.str),.tup (t :: ts)])) := by
 refine ⟨some (ns,[58] :: (w ++ tails K4 ws)),sW h0 h (vW (by decide)),?_⟩
 refine G2 rfl ⟨some (t,tails K4 ws),?_,?_⟩
 ·have hes : ES (tails K4 ws) := by
   cases ws with
   | nil=>exact ES.nil
   | cons x xs=>rw [N1]; exact tJ
  exact ha _ hes
 ·obtain ⟨k,hk⟩ := tT ES.nil (show hd [] ≠ K4 by decide) (ts0 := [t]) hs
  rw [List.append_nil] at hk
  exact ⟨k,_,hk,rfl⟩
end
def Q5 : Wd := [122,122]
end Law
namespace Law
open PySem L2 L2.Sp
def R6 (u : Wd) : Int := if u = [40] ∨ u = [91] ∨ u = [123] then 1 else if u = [41] ∨ u = [93] ∨ u = [125] then -1 else 0
def net (ws : List Wd) : Int := (ws.map R6).sum
theorem kI (a b : List Wd) : net (a ++ b) = net a + net b := by simp [net]
theorem M9 (u : Wd) (b : List Wd) : net (u :: b) = R6 u + net b := by simp [net]
theorem pC : net [] = 0 := rfl
def Dp : Int → List Wd → Prop
 | d,[]=>0 ≤ d
 | d,u :: r=>0 ≤ d ∧ Dp (d - R6 u) r
theorem Dp.pos {d : Int} {a : List Wd} (h : Dp d a) : 0 ≤ d := by
 cases a with
 | nil=>exact h
 | cons u r=>exact h.1
theorem Dp.mono : ∀ {a : List Wd} {d e : Int},d ≤ e → Dp d a → Dp e a
 | [],d,e,h,x=>by have : 0 ≤ d := x; show 0 ≤ e; omega
 | u :: r,d,e,h,x=>⟨by have := x.1; omega,Dp.mono (by omega) x.2⟩
theorem cU : ∀ {a b : List Wd} {d : Int},Dp d (a ++ b) ↔ Dp d a ∧ Dp (d - net a) b
 | [],b,d=>by
  rw [List.nil_append,pC,Int.sub_zero]
  exact ⟨fun h=>⟨h.pos,h⟩,fun h=>h.2⟩
 | u :: a,b,d=>by
  have ih := cU (a := a) (b := b) (d := d - R6 u)
  rw [M9,show d - (R6 u + net a) = d - R6 u - net a by omega]
  constructor
  ·intro h
   obtain ⟨h1,h2⟩ := ih.mp h.2
   exact ⟨⟨h.1,h1⟩,h2⟩
  ·intro h
   exact ⟨h.1.1,ih.mpr ⟨h.1.2,h.2⟩⟩
theorem Dp.app0 {a b : List Wd} {d : Int} (h : Dp d a) (h0 : net a = 0) (hb : Dp d b) : Dp d (a ++ b) := cU.mpr ⟨h,by rw [h0,Int.sub_zero]; exact hb⟩
theorem Dp.drop0 {a b : List Wd} {d : Int} (h : Dp d (a ++ b)) (h0 : net a = 0) : Dp d b := by
 have := (cU.mp h).2
 rwa [h0,Int.sub_zero] at this
theorem pL : ∀ {a : List Wd} {d : Int},0 ≤ d → (∀ u ∈ a,R6 u = 0) → Dp d a ∧ net a = 0
 | [],d,h,_=>⟨h,rfl⟩
 | u :: r,d,h,z=>by
  obtain ⟨h1,h2⟩ := pL (a := r) (d := d) h fun x hx=>z x (by simp [hx])
  have hu := z u (by simp)
  exact ⟨⟨h,by rw [hu,Int.sub_zero]; exact h1⟩,by rw [M9,hu,h2]; rfl⟩
def AD4 : List Wd := [[38],[124],[44],[58]]
def exW : List Wd := [[33],[40],[41],[91],[93],[123],[125]]
def bL : List Wd := [[38],[124],[44],[58],[46]]
def AX0 : List Wd := [[64],[46],[123],[44]]
def U8 : List Wd := [[38],[124],[44],[58],[64],[46],[123]]
def M4 (u : Wd) : Bool := decide (u ∈ L5) || J9 u || decide (u.take 1 = [34]) || decide (u ∈ ([[40],[91],[123],[64],[46,46],[33]] : List Wd))
structure OkP (u v : Wd) : Prop where
 tw : u = v → u ∈ exW
 nm : D7 u = true → M4 v = false
 el : v = K4 → u ∈ AX0
 dt : v = [46] → D7 u = true
theorem wN : M4 K4 = false := by decide
theorem sB {v : Wd} (h : M4 v = true) : v ≠ [46] := fun e=>by rw [e] at h; revert h; decide
theorem kU {v : Wd} (h : M4 v = true) : v ≠ K4 := fun e=>by rw [e,wN] at h; cases h
inductive Adj : List Wd → Prop
 | nil : Adj []
 | one {u} : Adj [u]
 | two {u v r} : OkP u v → Adj (v :: r) → Adj (u :: v :: r)
theorem Adj.app {a b : List Wd} {u v : Wd} (ha : Adj (a ++ [u])) (hb : Adj (v :: b)) (h : OkP u v) : Adj (a ++ u :: v :: b) := by
 induction a with
 | nil=>exact .two h hb
 | cons x a ih =>
  cases a with
  | nil =>
   cases ha with
   | two h1 h2=>exact .two h1 (ih h2)
  | cons y a =>
   cases ha with
   | two h1 h2=>exact .two h1 (ih h2)
theorem Adj.get : ∀ {p : List Wd} {u v : Wd} {s cs : List Wd},Adj cs → cs = p ++ u :: v :: s → OkP u v
 | [],u,v,s,cs,h,e=>by
  subst e
  cases h with
  | two a _=>exact a
 | x :: p,u,v,s,cs,h,e=>by
  subst e
  cases p with
  | nil =>
   cases h with
   | two _ b=>exact Adj.get (p := []) b rfl
  | cons y p =>
   cases h with
   | two _ b=>exact Adj.get (p := y :: p) b rfl
structure Bs (k : Bool) (d : Int) (cs : List Wd) : Prop where
 net : net cs = 0
 dp : Dp d cs
 adj : Adj cs
 fst : ∃ u r,cs = u :: r ∧ u ∉ bL ∧ (k = true ∨ u ≠ K4)
 lst : ∃ a u,cs = a ++ [u] ∧ u ∉ U8
structure Sg (d : Int) (cs : List Wd) : Prop extends Bs false d cs where
 st : M4 (hd cs) = true
theorem yC : ∀ u ∈ AD4,M4 u = false ∧ R6 u = 0 ∧ D7 u = false ∧ u ≠ K4 ∧ u ∈ U8 ∧ u ∈ bL ∧ u ≠ [46] := by decide
theorem Bs.sep {k k' : Bool} {d : Int} {a b : List Wd} {s : Wd} (ha : Bs k d a) (hs : s ∈ AD4) (hb : Bs k' d b) (hk : s = [44] ∨ k' = false) : Bs k d (a ++ s :: b) := by
 obtain ⟨h1,h2,h3,h4,h5,h6,h7⟩ := yC s hs
 have nd : ∀ {v : Wd},v ∉ bL → v ≠ [46] := fun h e=>h (by rw [e]; decide)
 obtain ⟨a',u,rfl,hu⟩ := ha.lst
 obtain ⟨v,b',rfl,hv,hv2⟩ := hb.fst
 refine ⟨?_,?_,?_,?_,?_⟩
 ·rw [kI,ha.net,M9,hb.net,h2]; rfl
 ·exact ha.dp.app0 ha.net ⟨ha.dp.pos,by rw [h2,Int.sub_zero]; exact hb.dp⟩
 ·rw [List.append_assoc]
  refine Adj.app ha.adj (.two ⟨fun e=>?_,fun e=>?_,fun e=>?_,fun e=>absurd e (nd hv)⟩ hb.adj) ⟨fun e=>?_,fun _=>h1,fun e=>absurd e h4,fun e=>absurd e h7⟩
  ·exact absurd (e ▸ h6) hv
  ·rw [h3] at e; cases e
  ·rcases hk with rfl | hk
   ·decide
   ·rcases hv2 with z | z
    ·rw [hk] at z; cases z
    ·exact absurd e z
  ·exact absurd (e ▸ h5) hu
 ·obtain ⟨w,r,e,hw,hw2⟩ := ha.fst
  exact ⟨w,r ++ s :: v :: b',by rw [e]; rfl,hw,hw2⟩
 ·obtain ⟨c,w,e,hw⟩ := hb.lst
  exact ⟨a' ++ [u] ++ s :: c,w,by rw [e]; simp,hw⟩
theorem Sg.sep {d : Int} {a b : List Wd} {s : Wd} (ha : Sg d a) (hs : s ∈ AD4) (hb : Sg d b) : Sg d (a ++ s :: b) := by
 refine ⟨ha.toBs.sep hs hb.toBs (.inr rfl),?_⟩
 obtain ⟨u,r,e,_⟩ := ha.fst
 have := ha.st
 rw [e] at this ⊢
 exact this
theorem zX : ∀ u ∈ bL,M4 u = false := by decide
theorem uK {u : Wd} (h : M4 u = true) : u ∉ bL := fun z=>by rw [zX u z] at h; cases h
theorem Sg.of {d : Int} {cs : List Wd} (hn : Law.net cs = 0) (hd' : Dp d cs) (ha : Adj cs) (hs : M4 (hd cs) = true) (h0 : cs ≠ []) (hl : ∃ a u,cs = a ++ [u] ∧ u ∉ U8) : Sg d cs := by
 obtain ⟨u,r,rfl⟩ := List.exists_cons_of_ne_nil h0
 exact ⟨⟨hn,hd',ha,⟨u,r,rfl,uK hs,.inr (kU hs)⟩,hl⟩,hs⟩
theorem Sg.one {d : Int} {u : Wd} (hd' : 0 ≤ d) (h1 : R6 u = 0) (h2 : M4 u = true) (h3 : u ∉ U8) : Sg d [u] := Sg.of (by rw [M9,h1]; rfl) ⟨hd',by rw [h1,Int.sub_zero]; exact hd'⟩ .one h2 (by simp) ⟨[],u,rfl,h3⟩
theorem AC4 {k : Bool} {d : Int} {o c : Wd} {a : List Wd} (hd' : 0 ≤ d) (h : a = [] ∨ Bs k d a) (ho : o = [40] ∧ c = [41] ∧ k = false ∨ o = [91] ∧ c = [93] ∧ k = false ∨ o = [123] ∧ c = [125]) : Sg (d + 1) (o :: (a ++ [c])) := by
 obtain ⟨o1,c1,oe,ce,os,cs,cp,on,ck,cd⟩ : R6 o = 1 ∧ R6 c = -1 ∧ o ∈ exW ∧ c ∈ exW ∧ M4 o = true ∧ M4 c = false ∧ c ∉ U8 ∧ D7 o = false ∧ c ≠ K4 ∧ c ≠ [46] := by
  rcases ho with ⟨rfl,rfl,_⟩ | ⟨rfl,rfl,_⟩ | ⟨rfl,rfl⟩ <;> decide
 have hc : Dp d [c] := ⟨hd',by rw [c1]; show 0 ≤ d - -1; omega⟩
 have hin : Dp d (a ++ [c]) := by
  rcases h with rfl | h
  ·exact hc
  ·exact h.dp.app0 h.net hc
 refine Sg.of ?_ ⟨by omega,by rw [o1,show d + 1 - 1 = d by omega]; exact hin⟩ ?_ os (by simp) ⟨o :: a,c,rfl,cp⟩
 ·rcases h with rfl | h
  ·show Law.net [o,c] = 0
   rw [M9,M9,pC,o1,c1]; rfl
  ·rw [M9,kI,h.net,M9,pC,o1,c1]; rfl
 ·rcases h with rfl | h
  ·exact .two ⟨fun _=>oe,fun e=>(by rw [on] at e; cases e),fun e=>absurd e ck,fun e=>absurd e cd⟩ .one
  ·obtain ⟨a',u,ea,hu⟩ := h.lst
   obtain ⟨v,b',eb,hv,hv2⟩ := h.fst
   have h1 : Adj (a ++ [c]) := by
    rw [ea,List.append_assoc]
    exact Adj.app (by rw [← ea]; exact h.adj) .one ⟨fun e=>e ▸ ce,fun _=>cs,fun e=>absurd e ck,fun e=>absurd e cd⟩
   rw [eb] at h1 ⊢
   refine .two ⟨fun e=>oe,fun e=>(by rw [on] at e; cases e),fun e=>?_,fun e=>absurd (e ▸ (by decide : ([46] : Wd) ∈ bL)) hv⟩ h1
   rcases ho with ⟨rfl,_,hk⟩ | ⟨rfl,_,hk⟩ | ⟨rfl,_⟩
   ·rcases hv2 with z | z
    ·rw [hk] at z; cases z
    ·exact absurd e z
   ·rcases hv2 with z | z
    ·rw [hk] at z; cases z
    ·exact absurd e z
   ·decide
theorem Sg.bang {d : Int} {a : List Wd} (h : Sg d a) : Sg d ([33] :: a) := by
 obtain ⟨v,b',rfl,hv,hv2⟩ := h.fst
 refine Sg.of (by rw [M9,h.net]; rfl) ⟨h.dp.pos,by rw [show R6 [33] = 0 from rfl,Int.sub_zero]; exact h.dp⟩ (.two ⟨fun e=>by decide,fun e=>(by cases e),fun e=>absurd e (kU h.st),fun e=>absurd e (sB h.st)⟩ h.adj) (show M4 [33] = true by decide) (by simp) ?_
 obtain ⟨a',u,e,hu⟩ := h.lst
 exact ⟨[33] :: a',u,by rw [e]; rfl,hu⟩
theorem G4 {r : List Wd} {u : Wd} (h : hd r = u) (hu : u ≠ []) : r = u :: r.tail := by
 cases r with
 | nil=>exact absurd h.symm hu
 | cons a b=>cases h; rfl
theorem V8 {u : Wd} (h : J9 u = true) : R6 u = 0 ∧ M4 u = true ∧ u ∉ U8 ∧ D7 u = false ∧ u ≠ [46,46] ∧ u ≠ K4 ∧ u ≠ [46] := by
 have no := S3 h
 refine ⟨?_,by unfold M4; rw [h]; simp,?_,?_,no.2.2.2.2.1,fun e=>(by rw [e] at h; cases h),fun e=>(by rw [e] at h; cases h)⟩
 ·unfold R6
  rw [if_neg,if_neg]
  ·rintro (e | e | e)
   ·subst e; cases h
   ·exact no.2.2.2.2.2.2.1 e
   ·exact no.2.2.2.2.2.2.2.1 e
  ·rintro (e | e | e)
   ·exact no.1 e
   ·exact no.2.1 e
   ·exact no.2.2.1 e
 ·intro z
  have : ∀ x ∈ U8,J9 x = false := by decide
  rw [this u z] at h; cases h
 ·cases u with
  | nil=>cases h
  | cons c r =>
   refine Bool.eq_false_iff.mpr fun z=>?_
   unfold D7 at z
   rw [Bool.and_eq_true,List.all_eq_true] at z
   have hc := z.2 c (by simp)
   have : (decide (c = 45) || K7 c) = true := h
   rw [mW hc,decide_eq_false (AK1 hc).1] at this
   cases this
theorem z3 {d : Int} {cs : List Wd} (hd' : 0 ≤ d) (h : ∀ u ∈ cs,R6 u = 0) (ha : Adj cs) (hs : M4 (hd cs) = true) (h0 : cs ≠ []) (hl : ∃ a u,cs = a ++ [u] ∧ u ∉ U8) : Sg d cs := Sg.of (pL hd' h).2 (pL hd' h).1 ha hs h0 hl
theorem AD2 {d : Int} (hd' : 0 ≤ d) {u v : Wd} (hu : J9 u = true) (hv : J9 v = true) : Sg d [u,[46,46],v] := by
 obtain ⟨a1,a2,a3,a4,a5,a6,a7⟩ := V8 hu
 obtain ⟨b1,b2,b3,b4,b5,b6,b7⟩ := V8 hv
 exact z3 hd' (by intro x hx; simp at hx; rcases hx with rfl | rfl | rfl; exact a1; exact rfl; exact b1) (.two ⟨fun e=>absurd e a5,fun e=>(by rw [a4] at e; cases e),fun e=>(by cases e),fun e=>(by cases e)⟩ (.two ⟨fun e=>absurd e.symm b5,fun e=>(by cases e),fun e=>absurd e b6,fun e=>absurd e b7⟩ .one)) a2 (by simp) ⟨[u,[46,46]],v,rfl,b3⟩
theorem AO7 {d : Int} (hd' : 0 ≤ d) {u : Wd} (hu : J9 u = true) : Sg d [u,[46,46]] := by
 obtain ⟨a1,a2,a3,a4,a5,a6,a7⟩ := V8 hu
 exact z3 hd' (by intro x hx; simp at hx; rcases hx with rfl | rfl; exact a1; exact rfl) (.two ⟨fun e=>absurd e a5,fun e=>(by rw [a4] at e; cases e),fun e=>(by cases e),fun e=>(by cases e)⟩ .one) a2 (by simp) ⟨[u],[46,46],rfl,by decide⟩
theorem AO6 {d : Int} (hd' : 0 ≤ d) {v : Wd} (hv : J9 v = true) : Sg d [[46,46],v] := by
 obtain ⟨b1,b2,b3,b4,b5,b6,b7⟩ := V8 hv
 exact z3 hd' (by intro x hx; simp at hx; rcases hx with rfl | rfl; exact rfl; exact b1) (.two ⟨fun e=>absurd e.symm b5,fun e=>(by cases e),fun e=>absurd e b6,fun e=>absurd e b7⟩ .one) (show M4 [46,46] = true by decide) (by simp) ⟨[[46,46]],v,rfl,b3⟩
theorem Q3 {n : Wd} (h : D7 n = true) : R6 n = 0 ∧ n ∉ U8 ∧ n ≠ [46] ∧ n ≠ [64] ∧ n ≠ [63] ∧ n ≠ [58] ∧ n ∉ bL := by
 have no : ∀ x ∈ ([[40],[91],[123],[41],[93],[125],[38],[124],[44],[58],[46],[64],[63]] : List Wd),D7 x = false := by decide
 have ne : ∀ x ∈ ([[40],[91],[123],[41],[93],[125],[38],[124],[44],[58],[46],[64],[63]] : List Wd),n ≠ x := fun x hx e=>by rw [e,no x hx] at h; cases h
 refine ⟨?_,fun z=>?_,ne _ (by decide),ne _ (by decide),ne _ (by decide),ne _ (by decide),fun z=>?_⟩
 ·unfold R6
  rw [if_neg,if_neg]
  ·rintro (e | e | e) <;> exact ne _ (by decide) e
  ·rintro (e | e | e) <;> exact ne _ (by decide) e
 ·have : ∀ x ∈ U8,D7 x = false := by decide
  rw [this n z] at h; cases h
 ·have : ∀ x ∈ bL,D7 x = false := by decide
  rw [this n z] at h; cases h
structure PSeg (cs : List Wd) : Prop where
 z : ∀ u ∈ cs,R6 u = 0
 adj : Adj cs
 fst : ∃ u r,cs = u :: r ∧ D7 u = true
 lst : ∃ a u,cs = a ++ [u] ∧ D7 u = true
theorem PSeg.one {n : Wd} (hn : D7 n = true) : PSeg [n] := ⟨fun u hu=>by rw [List.mem_singleton.mp hu]; exact (Q3 hn).1,.one,⟨n,[],rfl,hn⟩,⟨[],n,rfl,hn⟩⟩
theorem PSeg.more {n : Wd} {s : List Wd} (hn : D7 n = true) (hs : PSeg s) : PSeg (n :: [46] :: s) := by
 obtain ⟨f1,f2,f3,f4,_⟩ := Q3 hn
 refine ⟨fun u hu=>?_,?_,⟨n,_,rfl,hn⟩,?_⟩
 ·rcases List.mem_cons.mp hu with rfl | hu
  ·exact f1
  ·rcases List.mem_cons.mp hu with rfl | hu
   ·rfl
   ·exact hs.z u hu
 ·obtain ⟨u,q,e3,hu⟩ := hs.fst
  have ha := hs.adj
  rw [e3] at ha ⊢
  exact .two ⟨fun e=>absurd e f3,fun _=>by decide,fun e=>(by cases e),fun _=>hn⟩ (.two ⟨fun e=>absurd e.symm (Q3 hu).2.2.1,fun e=>(by cases e),fun _=>by decide,fun e=>absurd e (Q3 hu).2.2.1⟩ ha)
 ·obtain ⟨a,u,e3,hu⟩ := hs.lst
  exact ⟨n :: [46] :: a,u,by rw [e3]; rfl,hu⟩
theorem uO {k : Nat} {ns r : List Wd} {res : Option (List Wd × List Wd)} (h : V5 k ns r res) : ∀ ns' r',res = some (ns',r') → ∃ tl,r = tl ++ r' ∧ (tl = [] ∨ ∃ s,tl = [46] :: s ∧ PSeg s) := by
 induction h with
 | stop _=>rintro ns' r' ⟨⟩; exact ⟨[],rfl,.inl rfl⟩
 | @on k ns n r res hn _ ih =>
  intro ns' r' e
  obtain ⟨tl,e2,h2⟩ := ih ns' r' e
  rcases h2 with rfl | ⟨s,rfl,hs⟩
  ·exact ⟨[[46],n],by rw [e2]; rfl,.inr ⟨[n],rfl,.one hn⟩⟩
  ·exact ⟨[46] :: n :: [46] :: s,by rw [e2]; rfl,.inr ⟨n :: [46] :: s,rfl,.more hn hs⟩⟩
 | bad _=>rintro ns' r' ⟨⟩
theorem qV {r : List Wd} {ns r' : List Wd} (h : T6 r (some (ns,r'))) : ∃ cs,r = cs ++ r' ∧ PSeg cs := by
 unfold T6 at h
 split at h
 ·rename_i hn
  obtain ⟨k,hk⟩ := h
  have hne : hd r ≠ [] := fun e=>by rw [e] at hn; cases hn
  obtain ⟨tl,e2,h2⟩ := uO hk ns r' rfl
  have er := G4 rfl hne
  rcases h2 with rfl | ⟨s,rfl,hs⟩
  ·exact ⟨[hd r],by rw [er,e2]; rfl,.one hn⟩
  ·exact ⟨hd r :: [46] :: s,by rw [List.cons_append,List.cons_append,← List.cons_append,← e2]; exact er,.more hn hs⟩
 ·cases h
theorem AD3 {d : Int} (hd' : 0 ≤ d) {cs : List Wd} (h : PSeg cs) : Sg d ([64] :: cs) := by
 obtain ⟨u,r,e,hu⟩ := h.fst
 refine z3 hd' (fun x hx=>?_) ?_ (show M4 [64] = true by decide) (by simp) ?_
 ·rcases List.mem_cons.mp hx with rfl | hx
  ·rfl
  ·exact h.z x hx
 ·have ha := h.adj
  rw [e] at ha ⊢
  exact .two ⟨fun z=>absurd z.symm (Q3 hu).2.2.2.1,fun z=>(by cases z),fun _=>by decide,fun e=>absurd e (Q3 hu).2.2.1⟩ ha
 ·obtain ⟨a,w,e2,hw⟩ := h.lst
  exact ⟨[64] :: a,w,by rw [e2]; rfl,(Q3 hw).2.1⟩
theorem uB {d : Int} {n : Wd} {cs : List Wd} (must : Bool) (hn : D7 n = true) (h : Sg d cs) : Bs true d (T4 n must cs) := by
 obtain ⟨f1,f2,f3,f4,f5,f6,f7⟩ := Q3 hn
 obtain ⟨v,r,e,hv,_⟩ := h.fst
 have hsv : M4 v = true := by have := h.st; rw [e] at this; exact this
 have hne := kU hsv
 have h58 : Dp d ([58] :: cs) := ⟨h.dp.pos,by rw [show R6 [58] = 0 from rfl,Int.sub_zero]; exact h.dp⟩
 have a58 : Adj ([58] :: cs) := by
  rw [e]
  refine .two ⟨fun z=>?_,fun z=>(by cases z),fun z=>absurd z hne,fun z=>absurd z (sB hsv)⟩ (by rw [← e]; exact h.adj)
  exact absurd (z ▸ (by decide : ([58] : Wd) ∈ bL)) hv
 obtain ⟨a,w,e2,hw⟩ := h.lst
 cases must with
 | true =>
  show Bs true d (n :: [58] :: cs)
  refine ⟨by rw [M9,M9,h.net,f1]; rfl,⟨h.dp.pos,by rw [f1,Int.sub_zero]; exact h58⟩,.two ⟨fun z=>absurd z f6,fun _=>by decide,fun z=>(by cases z),fun z=>(by cases z)⟩ a58,⟨n,_,rfl,f7,.inl rfl⟩,⟨n :: [58] :: a,w,by rw [e2]; rfl,hw⟩⟩
 | false =>
  show Bs true d (n :: [63] :: [58] :: cs)
  refine ⟨by rw [M9,M9,M9,h.net,f1]; rfl,⟨h.dp.pos,by rw [f1,Int.sub_zero]; exact ⟨h.dp.pos,by rw [show R6 [63] = 0 from rfl,Int.sub_zero]; exact h58⟩⟩,.two ⟨fun z=>absurd z f5,fun _=>by decide,fun z=>(by cases z),fun z=>(by cases z)⟩ (.two ⟨fun z=>(by cases z),fun z=>(by cases z),fun z=>(by cases z),fun z=>(by cases z)⟩ a58),⟨n,_,rfl,f7,.inl rfl⟩,⟨n :: [63] :: [58] :: a,w,by rw [e2]; rfl,hw⟩⟩
end Law
namespace Law
open PySem L2 L2.Sp
def xV (d : Int) (r r' : List Wd) : Prop := ∃ cs,r = cs ++ r' ∧ Sg d cs
def U5 (d : Int) (X : Bool → List Wd → K9 → Prop) : Prop := ∀ f r t r',X f r (some (t,r')) → xV d r r'
theorem AI8 {c : Wd} (hc : c = [93] ∨ c = [125]) : c ≠ [46,46] ∧ c ≠ [44] ∧ c ≠ [] := by rcases hc with rfl | rfl <;> decide
theorem AG4 {c : Wd} (hc : c = [93] ∨ c = [125]) {n : Nat} {r r1 r' : List Wd} {m : Bool} (hh : L6 c n r = some (false,r1)) (he : S9 c r1 = some (m,r')) : r = c :: r' ∨ (n = 0 ∧ r = [46,46] :: c :: r') ∨ (0 < n ∧ r = [44] :: [46,46] :: c :: r') := by
 obtain ⟨c1,c2,c3⟩ := AI8 hc
 have dots : ∀ {q q1 : List Wd},some ((!(decide (hd q = [46,46]) && decide (hd q.tail = c))),q) = some (false,q1) → S9 c q1 = some (m,r') → q = [46,46] :: c :: r' := fun {q q1} h he=>by
  injection h with h
  injection h with h1 h2
  subst h2
  rw [Bool.not_eq_false',Bool.and_eq_true,decide_eq_true_iff,decide_eq_true_iff] at h1
  unfold S9 at he
  rw [if_pos h1.1,if_pos h1.2] at he
  injection he with he
  injection he with _ he
  have e1 := G4 h1.1 (by decide)
  have e2 := G4 h1.2 c3
  rw [e1,← he]
  congr 1
 unfold L6 at hh
 split at hh
 ·rename_i h1
  injection hh with hh
  injection hh with _ hh
  subst hh
  unfold S9 at he
  rw [if_neg (by rw [h1]; exact c1),if_pos h1] at he
  injection he with he
  injection he with _ he
  left
  rw [← he]
  exact G4 h1 c3
 ·split at hh
  ·rename_i hn
   split at hh
   ·rename_i h2
    right; right
    refine ⟨hn,?_⟩
    rw [← dots hh he]
    exact G4 h2 (by decide)
   ·cases hh
  ·rename_i hn
   right; left
   exact ⟨by omega,dots hh he⟩
theorem sZ {c : Wd} {n : Nat} {r r1 : List Wd} (hh : L6 c n r = some (true,r1)) : (n = 0 ∧ r = r1) ∨ (0 < n ∧ r = [44] :: r1) := by
 unfold L6 at hh
 split at hh
 ·injection hh with hh
  injection hh with h _
  cases h
 ·split at hh
  ·rename_i hn
   split at hh
   ·rename_i h2
    injection hh with hh
    injection hh with _ hh
    exact .inr ⟨hn,by rw [← hh]; exact G4 h2 (by decide)⟩
   ·cases hh
  ·rename_i hn
   injection hh with hh
   injection hh with _ hh
   exact .inl ⟨by omega,hh⟩
theorem tD {k : Bool} {d : Int} {c : Wd} {n : Nat} {r r1 r2 cs tl2 r' : List Wd} (hh : L6 c n r = some (true,r1)) (e : r1 = cs ++ r2) (hb : Bs k d cs) (e2 : r2 = tl2 ++ c :: r') (h2 : tl2 = [] ∨ ∃ b,tl2 = [44] :: b ∧ Bs k d b) : ∃ tl,r = tl ++ c :: r' ∧ ((n = 0 ∧ Bs k d tl) ∨ (0 < n ∧ ∃ b,tl = [44] :: b ∧ Bs k d b)) := by
 obtain ⟨bd,eb,hbd⟩ : ∃ bd,r1 = bd ++ c :: r' ∧ Bs k d bd := by
  rcases h2 with rfl | ⟨b,rfl,hb2⟩
  ·exact ⟨cs,by rw [e,e2]; rfl,hb⟩
  ·exact ⟨cs ++ [44] :: b,by rw [e,e2]; simp,hb.sep (by decide) hb2 (.inl rfl)⟩
 rcases sZ hh with ⟨hn,er⟩ | ⟨hn,er⟩
 ·exact ⟨bd,by rw [er,eb],.inl ⟨hn,hbd⟩⟩
 ·exact ⟨[44] :: bd,by rw [er,eb]; rfl,.inr ⟨hn,bd,rfl,hbd⟩⟩
theorem wE {k : Bool} {d : Int} (h0 : 0 ≤ d) : Bs k d [[46,46]] := ⟨rfl,⟨h0,by show 0 ≤ d - 0; omega⟩,.one,⟨[46,46],[],rfl,by decide,.inr (by decide)⟩,⟨[],[46,46],rfl,by decide⟩⟩
theorem vT {k : Bool} {d : Int} (h0 : 0 ≤ d) {c : Wd} (hc : c = [93] ∨ c = [125]) {n : Nat} {r r1 r' : List Wd} {m : Bool} (hh : L6 c n r = some (false,r1)) (he : S9 c r1 = some (m,r')) : ∃ tl,r = tl ++ c :: r' ∧ (tl = [] ∨ (n = 0 ∧ Bs k d tl) ∨ (0 < n ∧ ∃ b,tl = [44] :: b ∧ Bs k d b)) := by
 rcases AG4 hc hh he with e | ⟨hn,e⟩ | ⟨hn,e⟩
 ·exact ⟨[],e,.inl rfl⟩
 ·exact ⟨[[46,46]],e,.inr (.inl ⟨hn,wE h0⟩)⟩
 ·exact ⟨[[44],[46,46]],e,.inr (.inr ⟨hn,[[46,46]],rfl,wE h0⟩)⟩
section
variable {X : Bool → List Wd → K9 → Prop} {d : Int}
theorem uR (h0 : 0 ≤ d) (hX : U5 d X) {k : Nat} {ts : List Tn} {r : List Wd} {res : Option (List Tn × List Wd)} (h : ItemsP X k ts r res) : ∀ ts' r1 m r',res = some (ts',r1) → S9 [93] r1 = some (m,r') →
  ∃ tl,r = tl ++ [93] :: r' ∧ (tl = [] ∨ (ts.length = 0 ∧ Bs false d tl) ∨ (0 < ts.length ∧ ∃ b,tl = [44] :: b ∧ Bs false d b)) := by
 induction h with
 | stop hh =>
  rintro ts' r1 m r' ⟨⟩ he
  exact vT h0 (.inl rfl) hh he
 | @on k ts r r1 t r2 res hh hx _ ih =>
  intro ts' r1' m r' e he
  obtain ⟨tl2,e2,h2⟩ := ih ts' r1' m r' e he
  obtain ⟨cs,e1,hs⟩ := hX _ _ _ _ hx
  obtain ⟨tl,e3,h3⟩ := tD hh e1 hs.toBs e2 (by
   rcases h2 with z | ⟨z,_⟩ | ⟨_,z⟩
   ·exact .inl z
   ·simp at z
   ·exact .inr z)
  exact ⟨tl,e3,.inr h3⟩
 | bad _=>rintro ts' r1 m r' ⟨⟩
 | worse _ _=>rintro ts' r1 m r' ⟨⟩
theorem kQ (hX : U5 d X) {r r2 : List Wd} {f : Wd × Tn × Bool} (h : FieldP X r (some (f,r2))) : ∃ cs,r = cs ++ r2 ∧ Bs true d cs := by
 unfold FieldP at h
 split at h
 ·rename_i hn
  have hne : hd r ≠ [] := fun e=>by rw [e] at hn; cases hn
  have er := G4 rfl hne
  split at h
  ·rename_i h1
   have e1 := G4 h1 (by decide)
   split at h
   ·rename_i h2
    have e2 := G4 h2 (by decide)
    obtain ⟨xres,hx,e⟩ := h
    cases xres with
    | none=>cases e
    | some p =>
     cases e
     obtain ⟨cs,e3,hs⟩ := hX _ _ _ _ hx
     refine ⟨T4 (hd r) false cs,?_,uB false hn hs⟩
     show r = hd r :: [63] :: [58] :: (cs ++ p.2)
     rw [← e3,← e2,← e1]
     exact er
   ·cases h
  ·split at h
   ·rename_i h2
    have e2 := G4 h2 (by decide)
    obtain ⟨xres,hx,e⟩ := h
    cases xres with
    | none=>cases e
    | some p =>
     cases e
     obtain ⟨cs,e3,hs⟩ := hX _ _ _ _ hx
     refine ⟨T4 (hd r) true cs,?_,uB true hn hs⟩
     show r = hd r :: [58] :: (cs ++ p.2)
     rw [← e3,← e2]
     exact er
   ·cases h
 ·cases h
theorem tO (h0 : 0 ≤ d) (hX : U5 d X) {k : Nat} {fs : List (Wd × Tn × Bool)} {r : List Wd} {res : Option (List (Wd × Tn × Bool) × List Wd)} (h : FieldsP X k fs r res) : ∀ fs' r1 m r',res = some (fs',r1) → S9 [125] r1 = some (m,r') →
  ∃ tl,r = tl ++ [125] :: r' ∧ (tl = [] ∨ (fs.length = 0 ∧ Bs true d tl) ∨ (0 < fs.length ∧ ∃ b,tl = [44] :: b ∧ Bs true d b)) := by
 induction h with
 | stop hh =>
  rintro ts' r1 m r' ⟨⟩ he
  exact vT h0 (.inr rfl) hh he
 | @on k fs r r1 f r2 res hh hx _ _ ih =>
  intro ts' r1' m r' e he
  obtain ⟨tl2,e2,h2⟩ := ih ts' r1' m r' e he
  obtain ⟨cs,e1,hs⟩ := kQ hX hx
  obtain ⟨tl,e3,h3⟩ := tD hh e1 hs e2 (by
   rcases h2 with z | ⟨z,_⟩ | ⟨_,z⟩
   ·exact .inl z
   ·simp at z
   ·exact .inr z)
  exact ⟨tl,e3,.inr h3⟩
 | bad _=>rintro ts' r1 m r' ⟨⟩
 | worse _ _=>rintro ts' r1 m r' ⟨⟩
 | twice _ _ _=>rintro ts' r1 m r' ⟨⟩
theorem uL : ∀ u ∈ L5,R6 u = 0 ∧ M4 u = true ∧ u ∉ U8 := by decide
theorem yP {u : Wd} (h : u.take 1 = [34]) : R6 u = 0 ∧ M4 u = true ∧ u ∉ U8 := by
 have ne : ∀ x : Wd,x.take 1 ≠ [34] → u ≠ x := fun x hx e=>hx (e ▸ h)
 refine ⟨?_,by unfold M4; rw [decide_eq_true h]; simp,fun z=>?_⟩
 ·unfold R6
  rw [if_neg,if_neg]
  ·rintro (e | e | e) <;> exact ne _ (by decide) e
  ·rintro (e | e | e) <;> exact ne _ (by decide) e
 ·have : ∀ x ∈ U8,x.take 1 ≠ [34] := by decide
  exact this u z h
theorem yG (h0 : 0 ≤ d) (hX : U5 d X) {f : Bool} {r r' : List Wd} {t : Tn} (h : SglP X f r (some (t,r'))) : xV (d + 1) r r' := by
 have h01 : 0 ≤ d + 1 := by omega
 unfold SglP at h
 split at h
 ·rename_i h1
  obtain ⟨xres,hx,e⟩ := h
  cases xres with
  | none=>cases e
  | some p =>
   obtain ⟨t1,r1⟩ := p
   dsimp only at e
   split at e
   ·rename_i h2
    cases e
    obtain ⟨cs,e1,hs⟩ := hX _ _ _ _ hx
    refine ⟨[40] :: (cs ++ [[41]]),?_,AC4 h0 (.inr hs.toBs) (.inl ⟨rfl,rfl,rfl⟩)⟩
    have e2 := G4 h2 (by decide)
    show r = [40] :: ((cs ++ [[41]]) ++ r1.tail)
    rw [List.append_assoc]
    show r = [40] :: (cs ++ ([41] :: r1.tail))
    rw [← e2,← e1]
    exact G4 h1 (by decide)
   ·cases e
 split at h
 ·rename_i h1
  obtain ⟨k,ires,hi,e⟩ := h
  cases ires with
  | none=>cases e
  | some p =>
   obtain ⟨ts,r1⟩ := p
   cases he : S9 [93] r1 with
   | none=>dsimp only at e; rw [he] at e; cases e
   | some q =>
    dsimp only at e
    rw [he] at e
    cases e
    obtain ⟨tl,e1,h2⟩ := uR h0 hX hi _ _ q.1 q.2 rfl he
    refine ⟨[91] :: (tl ++ [[93]]),?_,AC4 (k := false) h0 (by
     rcases h2 with z | ⟨_,z⟩ | ⟨z,_⟩
     ·exact .inl z
     ·exact .inr z
     ·simp at z) (.inr (.inl ⟨rfl,rfl,rfl⟩))⟩
    show r = [91] :: ((tl ++ [[93]]) ++ q.2)
    rw [List.append_assoc]
    show r = [91] :: (tl ++ ([93] :: q.2))
    rw [← e1]
    exact G4 h1 (by decide)
 split at h
 ·rename_i h1
  obtain ⟨k,ires,hi,e⟩ := h
  cases ires with
  | none=>cases e
  | some p =>
   obtain ⟨ts,r1⟩ := p
   cases he : S9 [125] r1 with
   | none=>dsimp only at e; rw [he] at e; cases e
   | some q =>
    dsimp only at e
    rw [he] at e
    cases e
    obtain ⟨tl,e1,h2⟩ := tO h0 hX hi _ _ q.1 q.2 rfl he
    refine ⟨[123] :: (tl ++ [[125]]),?_,AC4 (k := true) h0 (by
     rcases h2 with z | ⟨_,z⟩ | ⟨z,_⟩
     ·exact .inl z
     ·exact .inr z
     ·simp at z) (.inr (.inr ⟨rfl,rfl⟩))⟩
    show r = [123] :: ((tl ++ [[125]]) ++ q.2)
    rw [List.append_assoc]
    show r = [123] :: (tl ++ ([125] :: q.2))
    rw [← e1]
    exact G4 h1 (by decide)
 split at h
 ·rename_i h1
  obtain ⟨nres,hn,e⟩ := h
  cases nres with
  | none=>cases e
  | some p =>
   cases e
   obtain ⟨cs,e1,hs⟩ := qV hn
   refine ⟨[64] :: cs,?_,AD3 h01 hs⟩
   show r = [64] :: (cs ++ p.2)
   rw [← e1]
   exact G4 h1.1 (by decide)
 split at h
 ·rename_i h1
  cases h
  refine ⟨[[46,46],hd r.tail],?_,AO6 h01 h1.2⟩
  have hne : hd r.tail ≠ [] := fun e=>by have := h1.2; rw [e] at this; cases this
  show r = [46,46] :: hd r.tail :: r.tail.tail
  rw [← G4 rfl hne]
  exact G4 h1.1 (by decide)
 split at h
 ·rename_i h1
  have hne : hd r ≠ [] := fun e=>by rw [e] at h1; cases h1
  split at h
  ·rename_i h2
   split at h
   ·rename_i h3
    cases h
    have hne3 : hd r.tail.tail ≠ [] := fun e=>by rw [e] at h3; cases h3
    refine ⟨[hd r,[46,46],hd r.tail.tail],?_,AD2 h01 h1 h3⟩
    show r = hd r :: [46,46] :: hd r.tail.tail :: r.tail.tail.tail
    rw [← G4 rfl hne3,← G4 h2 (by decide)]
    exact G4 rfl hne
   ·cases h
    refine ⟨[hd r,[46,46]],?_,AO7 h01 h1⟩
    show r = hd r :: [46,46] :: r.tail.tail
    rw [← G4 h2 (by decide)]
    exact G4 rfl hne
  ·cases h
   obtain ⟨a1,a2,a3,_⟩ := V8 h1
   exact ⟨[hd r],G4 rfl hne,Sg.one h01 a1 a2 a3⟩
 split at h
 ·rename_i h1
  cases h
  obtain ⟨a1,a2,a3⟩ := yP h1
  exact ⟨[hd r],G4 rfl (fun e=>by rw [e] at h1; cases h1),Sg.one h01 a1 a2 a3⟩
 split at h
 ·rename_i h1
  cases h
  obtain ⟨a1,a2,a3⟩ := uL _ h1
  exact ⟨[hd r],G4 rfl (fun e=>by rw [e] at h1; revert h1; decide),Sg.one h01 a1 a2 a3⟩
 cases h
theorem hZ : ∀ r : List Wd,r = List.replicate (bangs r) [33] ++ r.drop (bangs r)
 | []=>rfl
 | u :: r=>by
  by_cases e : u = [33]
  ·subst e
   have eb : bangs ([33] :: r) = bangs r + 1 := by unfold bangs; rw [List.takeWhile_cons_of_pos (by decide)]; rfl
   rw [eb,List.replicate_succ,List.drop_succ_cons,List.cons_append]
   congr 1
   exact hZ r
  ·have eb : bangs (u :: r) = 0 := qQ (r := u :: r) e
   rw [eb]; rfl
theorem Sg.bangs {cs : List Wd} (h : Sg d cs) : ∀ n : Nat,Sg d (List.replicate n [33] ++ cs)
 | 0=>h
 | n + 1=>by rw [List.replicate_succ,List.cons_append]; exact (Sg.bangs h n).bang
theorem aS (h0 : 0 ≤ d) (hX : U5 d X) {f : Bool} {r r' : List Wd} {t : Tn} (h : NegP X f r (some (t,r'))) : xV (d + 1) r r' := by
 obtain ⟨sres,hs,e⟩ := h
 cases sres with
 | none=>cases e
 | some p =>
  obtain ⟨t1,r1⟩ := p
  cases e
  obtain ⟨cs,e1,hc⟩ := yG h0 hX hs
  refine ⟨List.replicate (Law.bangs r) [33] ++ cs,?_,hc.bangs _⟩
  rw [List.append_assoc,← e1]
  exact hZ r
theorem xF (h0 : 0 ≤ d) (hX : U5 d X) {k : Nat} {f : Bool} {as ps : List Tn} {r : List Wd} {res : K9} (h : MoreP X k f as ps r res) : ∀ t r',res = some (t,r') → ∃ tl,r = tl ++ r' ∧ (tl = [] ∨ ∃ s b,tl = s :: b ∧ (s = [38] ∨ s = [124]) ∧ Sg (d + 1) b) := by
 have glue : ∀ {s : Wd} {r r1 r' tl : List Wd},(s = [38] ∨ s = [124]) → xV (d + 1) r r1 → r1 = tl ++ r' → (tl = [] ∨ ∃ s b,tl = s :: b ∧ (s = [38] ∨ s = [124]) ∧ Sg (d + 1) b) → ∃ tl,s :: r = tl ++ r' ∧ (tl = [] ∨ ∃ s b,tl = s :: b ∧ (s = [38] ∨ s = [124]) ∧ Sg (d + 1) b) := fun {s r r1 r' tl} hs hc e h=>by
  obtain ⟨cs,e1,hc⟩ := hc
  rcases h with rfl | ⟨s2,b,rfl,hs2,hb⟩
  ·exact ⟨s :: cs,by rw [e1,e]; rfl,.inr ⟨s,cs,rfl,hs,hc⟩⟩
  ·exact ⟨s :: (cs ++ s2 :: b),by rw [e1,e]; simp,.inr ⟨s,_,rfl,hs,hc.sep (by rcases hs2 with rfl | rfl <;> decide) hb⟩⟩
 induction h with
 | stop _ _=>rintro t r' ⟨⟩; exact ⟨[],rfl,.inl rfl⟩
 | and hn _ ih =>
  intro t r' e
  obtain ⟨tl,e1,h1⟩ := ih t r' e
  exact glue (.inl rfl) (aS h0 hX hn) e1 h1
 | or hn _ ih =>
  intro t r' e
  obtain ⟨tl,e1,h1⟩ := ih t r' e
  exact glue (.inr rfl) (aS h0 hX hn) e1 h1
 | bad _ _=>rintro t r' ⟨⟩
theorem zZ (h0 : 0 ≤ d) (hX : U5 d X) : U5 (d + 1) (ExpP X) := fun f r t r' h=>by
 obtain ⟨nres,hn,h⟩ := h
 cases nres with
 | none=>cases h
 | some p =>
  obtain ⟨t1,r1⟩ := p
  obtain ⟨k,hk⟩ := h
  obtain ⟨cs,e1,hc⟩ := aS h0 hX hn
  obtain ⟨tl,e2,h2⟩ := xF h0 hX hk t r' rfl
  rcases h2 with rfl | ⟨s,b,rfl,hs,hb⟩
  ·exact ⟨cs,by rw [e1,e2]; rfl,hc⟩
  ·exact ⟨cs ++ s :: b,by rw [e1,e2]; simp,hc.sep (by rcases hs with rfl | rfl <;> decide) hb⟩
end
theorem T9 : ∀ n : Nat,U5 (n : Int) (Exn n)
 | 0=>fun f r t r' h=>h.elim
 | n + 1=>zZ (by omega) (T9 n)
end Law
namespace Law
open PySem L2 L2.Sp
def nQ (d : Int) (X : Bool → List Wd → K9 → Prop) : Prop := ∀ f r,Dp d r → ∃ res,X f r res
theorem AT6 {d : Int} {u : Wd} {r : List Wd} (h : Dp d (u :: r)) : Dp (d - R6 u) r := h.2
theorem Y1 {d : Int} {u : Wd} {r : List Wd} (hu : R6 u = 0) (h : Dp d (u :: r)) : Dp d r := by have := h.2; rwa [hu,Int.sub_zero] at this
theorem qC : ∀ (L : Nat) (ns r : List Wd),r.length ≤ L → ∃ k res,V5 k ns r res
 | L,ns,r,hl=>by
  by_cases h : hd r = [46]
  ·have e := G4 h (by decide)
   by_cases hn : D7 (hd r.tail) = true
   ·have hne : hd r.tail ≠ [] := fun e=>by rw [e] at hn; cases hn
    have e2 := G4 rfl hne
    cases L with
    | zero=>rw [e] at hl; simp at hl
    | succ L =>
     have hl2 : r.tail.tail.length ≤ L := by
      have : r.length = r.tail.tail.length + 2 := by rw [e,e2]; rfl
      omega
     obtain ⟨k,res,h2⟩ := qC L (ns ++ [hd r.tail]) r.tail.tail hl2
     refine ⟨k + 1,res,?_⟩
     rw [e,e2]
     exact .on hn h2
   ·refine ⟨1,none,?_⟩
    rw [e]
    exact .bad (by simpa using hn)
  ·exact ⟨0,_,.stop h⟩
theorem uN (r : List Wd) : ∃ res,T6 r res := by
 unfold T6
 by_cases h : D7 (hd r) = true
 ·obtain ⟨k,res,h2⟩ := qC r.tail.length [hd r] r.tail (Nat.le_refl _)
  exact ⟨res,G2 h ⟨k,h2⟩⟩
 ·exact ⟨none,B7 h rfl⟩
theorem Sg.len {d : Int} {cs : List Wd} (h : Sg d cs) : 0 < cs.length := by
 obtain ⟨u,r,rfl,_⟩ := h.fst
 simp
theorem Bs.len {k : Bool} {d : Int} {cs : List Wd} (h : Bs k d cs) : 0 < cs.length := by
 obtain ⟨u,r,rfl,_⟩ := h.fst
 simp
section
variable {X : Bool → List Wd → K9 → Prop} {d e : Int}
theorem qG (hX : U5 e X) (hT : nQ d X) : ∀ (L : Nat) (ts : List Tn) (r : List Wd),r.length ≤ L → Dp d r → ∃ k res,ItemsP X k ts r res
 | L,ts,r,hl,hd'=>by
  cases hh : L6 [93] ts.length r with
  | none=>exact ⟨0,none,.bad hh⟩
  | some p =>
   obtain ⟨b,r1⟩ := p
   cases b with
   | false=>exact ⟨0,_,.stop hh⟩
   | true =>
    have h1 : Dp d r1 ∧ r1.length ≤ r.length := by
     rcases sZ hh with ⟨_,e⟩ | ⟨_,e⟩
     ·rw [← e]; exact ⟨hd',Nat.le_refl _⟩
     ·rw [e] at hd' ⊢; exact ⟨Y1 rfl hd',by simp⟩
    obtain ⟨res,hx⟩ := hT false r1 h1.1
    cases res with
    | none=>exact ⟨0,none,.worse hh hx⟩
    | some q =>
     obtain ⟨t,r2⟩ := q
     obtain ⟨cs,e1,hs⟩ := hX _ _ _ _ hx
     have hl2 : r2.length < r1.length := by rw [e1,List.length_append]; have := hs.len; omega
     have hd2 : Dp d r2 := by have := h1.1; rw [e1] at this; exact this.drop0 hs.net
     cases L with
     | zero=>omega
     | succ L =>
      obtain ⟨k,res,h⟩ := qG hX hT L (ts ++ [t]) r2 (by omega) hd2
      exact ⟨k + 1,res,.on hh hx h⟩
theorem zY (hT : nQ d X) (r : List Wd) (hd' : Dp d r) : ∃ res,FieldP X r res := by
 unfold FieldP
 by_cases hn : D7 (hd r) = true
 ·have hne : hd r ≠ [] := fun e=>by rw [e] at hn; cases hn
  have h1 : Dp d r.tail := by rw [G4 rfl hne] at hd'; exact Y1 (Q3 hn).1 hd'
  by_cases h2 : hd r.tail = [63]
  ·have h3 : Dp d r.tail.tail := by rw [G4 h2 (by decide)] at h1; exact Y1 rfl h1
   by_cases h4 : hd r.tail.tail = [58]
   ·have h5 : Dp d r.tail.tail.tail := by rw [G4 h4 (by decide)] at h3; exact Y1 rfl h3
    obtain ⟨res,hx⟩ := hT false _ h5
    exact ⟨_,G2 hn (G2 h2 (G2 h4 ⟨res,hx,rfl⟩))⟩
   ·exact ⟨none,G2 hn (G2 h2 (B7 h4 rfl))⟩
  ·by_cases h4 : hd r.tail = [58]
   ·have h5 : Dp d r.tail.tail := by rw [G4 h4 (by decide)] at h1; exact Y1 rfl h1
    obtain ⟨res,hx⟩ := hT false _ h5
    exact ⟨_,G2 hn (B7 h2 (G2 h4 ⟨res,hx,rfl⟩))⟩
   ·exact ⟨none,G2 hn (B7 h2 (B7 h4 rfl))⟩
 ·exact ⟨none,B7 hn rfl⟩
theorem nH (hX : U5 e X) (hT : nQ d X) : ∀ (L : Nat) (fs : List (Wd × Tn × Bool)) (r : List Wd),r.length ≤ L → Dp d r → ∃ k res,FieldsP X k fs r res
 | L,fs,r,hl,hd'=>by
  cases hh : L6 [125] fs.length r with
  | none=>exact ⟨0,none,.bad hh⟩
  | some p =>
   obtain ⟨b,r1⟩ := p
   cases b with
   | false=>exact ⟨0,_,.stop hh⟩
   | true =>
    have h1 : Dp d r1 ∧ r1.length ≤ r.length := by
     rcases sZ hh with ⟨_,e⟩ | ⟨_,e⟩
     ·rw [← e]; exact ⟨hd',Nat.le_refl _⟩
     ·rw [e] at hd' ⊢; exact ⟨Y1 rfl hd',by simp⟩
    obtain ⟨res,hx⟩ := zY hT r1 h1.1
    cases res with
    | none=>exact ⟨0,none,.worse hh hx⟩
    | some q =>
     obtain ⟨f,r2⟩ := q
     by_cases hin : f.1 ∈ fs.map (·.1)
     ·exact ⟨0,none,.twice hh hx hin⟩
     obtain ⟨cs,e1,hs⟩ := kQ hX hx
     have hl2 : r2.length < r1.length := by rw [e1,List.length_append]; have := hs.len; omega
     have hd2 : Dp d r2 := by have := h1.1; rw [e1] at this; exact this.drop0 hs.net
     cases L with
     | zero=>omega
     | succ L =>
      obtain ⟨k,res,h⟩ := nH hX hT L (fs ++ [f]) r2 (by omega) hd2
      exact ⟨k + 1,res,.on hh hx hin h⟩
theorem AO5 (hX : U5 e X) (hT : nQ d X) (f : Bool) (r : List Wd) (hd' : Dp (d + 1) r) : ∃ res,SglP X f r res := by
 have op : ∀ {u : Wd},hd r = u → u ≠ [] → R6 u = 1 → Dp d r.tail := fun {u} h h0 h1=>by
  rw [G4 h h0] at hd'
  have := AT6 hd'
  rwa [h1,show d + 1 - 1 = d by omega] at this
 unfold SglP
 by_cases h1 : hd r = [40]
 ·obtain ⟨res,hx⟩ := hT f _ (op h1 (by decide) rfl)
  exact ⟨_,G2 h1 ⟨res,hx,rfl⟩⟩
 by_cases h2 : hd r = [91]
 ·obtain ⟨k,res,hx⟩ := qG hX hT _ [] r.tail (Nat.le_refl _) (op h2 (by decide) rfl)
  exact ⟨_,B7 h1 (G2 h2 ⟨k,res,hx,rfl⟩)⟩
 by_cases h3 : hd r = [123]
 ·obtain ⟨k,res,hx⟩ := nH hX hT _ [] r.tail (Nat.le_refl _) (op h3 (by decide) rfl)
  exact ⟨_,B7 h1 (B7 h2 (G2 h3 ⟨k,res,hx,rfl⟩))⟩
 by_cases h4 : hd r = [64] ∧ f = true
 ·obtain ⟨res,hx⟩ := uN r.tail
  exact ⟨_,B7 h1 (B7 h2 (B7 h3 (G2 h4 ⟨res,hx,rfl⟩)))⟩
 by_cases h5 : hd r = [46,46] ∧ J9 (hd r.tail) = true
 ·exact ⟨_,B7 h1 (B7 h2 (B7 h3 (B7 h4 (G2 h5 rfl))))⟩
 by_cases h6 : J9 (hd r) = true
 ·by_cases h7 : hd r.tail = [46,46]
  ·by_cases h8 : J9 (hd r.tail.tail) = true
   ·exact ⟨_,B7 h1 (B7 h2 (B7 h3 (B7 h4 (B7 h5 (G2 h6 (G2 h7 (G2 h8 rfl)))))))⟩
   ·exact ⟨_,B7 h1 (B7 h2 (B7 h3 (B7 h4 (B7 h5 (G2 h6 (G2 h7 (B7 h8 rfl)))))))⟩
  ·exact ⟨_,B7 h1 (B7 h2 (B7 h3 (B7 h4 (B7 h5 (G2 h6 (B7 h7 rfl))))))⟩
 by_cases h7 : (hd r).take 1 = [34]
 ·exact ⟨_,B7 h1 (B7 h2 (B7 h3 (B7 h4 (B7 h5 (B7 h6 (G2 h7 rfl))))))⟩
 by_cases h8 : hd r ∈ L5
 ·exact ⟨_,B7 h1 (B7 h2 (B7 h3 (B7 h4 (B7 h5 (B7 h6 (B7 h7 (G2 h8 rfl)))))))⟩
 exact ⟨none,B7 h1 (B7 h2 (B7 h3 (B7 h4 (B7 h5 (B7 h6 (B7 h7 (B7 h8 rfl)))))))⟩
theorem qR : ∀ n : Nat,net (List.replicate n [33]) = 0
 | 0=>rfl
 | n + 1=>by rw [List.replicate_succ,M9,qR n]; rfl
theorem vP (hX : U5 e X) (hT : nQ d X) (f : Bool) (r : List Wd) (hd' : Dp (d + 1) r) : ∃ res,NegP X f r res := by
 have h : Dp (d + 1) (r.drop (bangs r)) := by
  rw [hZ r] at hd'
  exact hd'.drop0 (qR _)
 obtain ⟨res,hx⟩ := AO5 hX hT (f && decide (bangs r = 0)) _ h
 exact ⟨_,res,hx,rfl⟩
theorem lH (he : 0 ≤ e) (hX : U5 e X) (hT : nQ d X) (f : Bool) : ∀ (L : Nat) (as ps : List Tn) (r : List Wd),r.length ≤ L → Dp (d + 1) r → ∃ k res,MoreP X k f as ps r res
 | L,as,ps,r,hl,hd'=>by
  have go : ∀ {s : Wd},(s = [38] ∨ s = [124]) → hd r = s → ∃ k res,MoreP X k f as ps r res := fun {s} hs h=>by
   have hs0 : s ≠ [] ∧ R6 s = 0 := by rcases hs with rfl | rfl <;> decide
   have er := G4 h hs0.1
   have h1 : Dp (d + 1) r.tail := by rw [er] at hd'; exact Y1 hs0.2 hd'
   obtain ⟨res,hx⟩ := vP hX hT f r.tail h1
   cases res with
   | none=>exact ⟨1,none,by rw [er]; exact .bad hs hx⟩
   | some p =>
    obtain ⟨t,r2⟩ := p
    obtain ⟨cs,e1,hc⟩ := aS he hX hx
    have hlr : r.length = r.tail.length + 1 := by rw [er]; rfl
    have hl2 : r2.length < r.tail.length := by rw [e1,List.length_append]; have := hc.len; omega
    have hd2 : Dp (d + 1) r2 := by rw [e1] at h1; exact h1.drop0 hc.net
    cases L with
    | zero=>omega
    | succ L =>
     rcases hs with rfl | rfl
     ·obtain ⟨k,res,h⟩ := lH he hX hT f L as (ps ++ [t]) r2 (by omega) hd2
      exact ⟨k + 1,res,by rw [er]; exact .and hx h⟩
     ·obtain ⟨k,res,h⟩ := lH he hX hT f L (as ++ [one P3 ps]) [t] r2 (by omega) hd2
      exact ⟨k + 1,res,by rw [er]; exact .or hx h⟩
  by_cases h1 : hd r = [38]
  ·exact go (.inl rfl) h1
  by_cases h2 : hd r = [124]
  ·exact go (.inr rfl) h2
  exact ⟨0,_,.stop h1 h2⟩
theorem vZ (he : 0 ≤ e) (hX : U5 e X) (hT : nQ d X) : nQ (d + 1) (ExpP X) := fun f r hd'=>by
 obtain ⟨nres,hn⟩ := vP hX hT f r hd'
 cases nres with
 | none=>exact ⟨none,none,hn,rfl⟩
 | some p =>
  obtain ⟨t,r1⟩ := p
  obtain ⟨cs,e1,hc⟩ := aS he hX hn
  have h1 : Dp (d + 1) r1 := by rw [e1] at hd'; exact hd'.drop0 hc.net
  obtain ⟨k,res,h⟩ := lH he hX hT f _ [] [t] r1 (Nat.le_refl _) h1
  exact ⟨res,some (t,r1),hn,k,h⟩
end
theorem pK : ∀ n : Nat,nQ (n : Int) (Exn (n + 1))
 | 0=>by
  have := vZ (e := 0) (d := -1) (by decide) (T9 0) fun f r h=>absurd h.pos (by decide)
  exact this
 | n + 1=>vZ (e := ((n + 1 : Nat) : Int)) (d := (n : Int)) (by omega) (T9 (n + 1)) (pK n)
theorem lR : ∀ {a p b s : List Wd} {u w v : Wd},a ++ u :: u :: b = p ++ w :: v :: s → (∃ s',a ++ u :: b = p ++ w :: v :: s') ∨ (w = u ∧ v = u ∧ p = a ∧ s = b) ∨ ∃ p',a ++ u :: b = p' ++ w :: v :: s
 | [],[],b,s,u,w,v,e=>by
  cases e
  exact .inr (.inl ⟨rfl,rfl,rfl,rfl⟩)
 | [],x :: p,b,s,u,w,v,e=>by
  injection e with e1 e2
  exact .inr (.inr ⟨p,e2⟩)
 | y :: a,[],b,s,u,w,v,e=>by
  injection e with e1 e2
  subst e1
  cases a with
  | nil=>cases e2; exact .inl ⟨b,rfl⟩
  | cons z a=>cases e2; exact .inl ⟨a ++ u :: b,rfl⟩
 | y :: a,x :: p,b,s,u,w,v,e=>by
  injection e with e1 e2
  subst e1
  rcases lR e2 with ⟨s',h⟩ | ⟨h1,h2,h3,h4⟩ | ⟨p',h⟩
  ·exact .inl ⟨s',by rw [List.cons_append,h]; rfl⟩
  ·exact .inr (.inl ⟨h1,h2,by rw [h3],h4⟩)
  ·exact .inr (.inr ⟨y :: p',by rw [List.cons_append,h]; rfl⟩)
theorem BB9 (u : Wd) : R6 u ≤ 1 := by unfold R6; split; decide; split <;> decide
theorem BB5 : ∀ u ∈ exW,u ≠ [33] → R6 u ≠ 0 := by decide
theorem BC1 {a b : List Wd} {u : Wd} {d d' : Int} (h : Sg d (a ++ u :: b)) (hu : u ≠ [33]) : ¬ Sg d' (a ++ u :: u :: b) := fun h'=>by
 by_cases e : u ∈ exW
 ·have h1 := h.net
  have h2 := h'.net
  rw [kI,M9] at h1
  rw [kI,M9,M9] at h2
  exact BB5 u e hu (by omega)
 ·exact e ((h'.adj.get rfl).tw rfl)
theorem BB8 {a b : List Wd} {u : Wd} {d : Int} (h : Dp d (a ++ u :: b)) : Dp (d + 1) (a ++ u :: u :: b) := by
 obtain ⟨h1,h2⟩ := cU.mp h
 have hu := BB9 u
 have p := h2.pos
 refine cU.mpr ⟨h1.mono (by omega),by omega,by omega,h2.2.mono (by omega)⟩
theorem zG {u : Wd} (h : M4 u = false) : jN u := by
 unfold M4 at h
 simp only [Bool.or_eq_false_iff,decide_eq_false_iff_not] at h
 obtain ⟨⟨⟨h1,h2⟩,h3⟩,h4⟩ := h
 have ne : ∀ x ∈ ([[40],[91],[123],[64],[46,46],[33]] : List Wd),u ≠ x := fun x hx e=>h4 (e ▸ hx)
 exact ⟨ne _ (by decide),ne _ (by decide),ne _ (by decide),ne _ (by decide),ne _ (by decide),ne _ (by decide),h2,h3,h1⟩
theorem oX : ∀ u ∈ AX0,u ∈ U8 := by decide
def aW : Wd := [97]
def BM1 (X : Bool → List Wd → K9 → Prop) (ns : List Wd) (res : Option Tn) (xres : K9) : Prop := match xres with
 | none=>res = none
 | some (t,r1)=>∃ k eres,aK X k [t] r1 eres ∧ res = match eres with
  | none=>none
  | some (ts,r2)=>if hd r2 = [] then some (.tup [.tup (ns.map Tn.str),.tup ts]) else none
theorem aD {n : Nat} {T : List Wd} {res : Option Tn} {xres : K9} (hx : Exn n true T xres) (h : BM1 (Exn n) [aW] res xres) : cY (Exn n) (aW :: [58] :: T) res := by
 refine ⟨some ([aW],[58] :: T),?_,G2 rfl ⟨xres,hx,h⟩⟩
 have := sW (ns := [aW]) (rest := [58] :: T) (by simp) (fun m hm=>by rw [List.mem_singleton.mp hm]; decide) (vW (by decide))
 exact this
theorem AI4 {n : Nat} {a b : List Wd} {u : Wd} {t : Tn} (hT : Exn n true (a ++ u :: b) (some (t,[]))) (hu : u ≠ [33]) (hw : ∀ w ∈ a ++ u :: b,w ≠ []) : bO (n + 2) (a ++ u :: u :: b) none ∧ cY (Exn (n + 2)) (aW :: [58] :: (a ++ u :: u :: b)) none := by
 obtain ⟨cs,e,hs⟩ := T9 n _ _ _ _ hT
 rw [List.append_nil] at e
 rw [← e] at hs
 obtain ⟨res,hx⟩ := pK (n + 1) true _ (BB8 hs.dp)
 cases res with
 | none=>exact ⟨⟨none,hx,rfl⟩,aD hx rfl⟩
 | some p =>
  obtain ⟨t',r'⟩ := p
  obtain ⟨cs',e',hs'⟩ := T9 (n + 2) _ _ _ _ hx
  have hne : hd r' ≠ [] := fun z=>by
   cases r' with
   | nil =>
    rw [List.append_nil] at e'
    rw [← e'] at hs'
    exact BC1 hs hu hs'
   | cons x r' =>
    have hx0 : x = [] := z
    have hm : x ∈ a ++ u :: u :: b := by rw [e']; simp
    refine hw x ?_ hx0
    simp only [List.mem_append,List.mem_cons] at hm ⊢
    rcases hm with h | h | h | h
    ·exact .inl h
    ·exact .inr (.inl h)
    ·exact .inr (.inl h)
    ·exact .inr (.inr h)
  refine ⟨⟨_,hx,by show none = if hd r' = [] then _ else none; rw [if_neg hne]⟩,aD hx ?_⟩
  by_cases hk : hd r' = K4
  ·have er := G4 hk (by decide)
   obtain ⟨a',w,ec,hwl⟩ := hs'.lst
   rw [er,ec,List.append_assoc] at e'
   have no : ∀ {s p : List Wd},a ++ u :: b = p ++ w :: K4 :: s → False := fun {s p} h=>hwl (oX _ ((hs.adj.get h).el rfl))
   rcases lR e' with ⟨s',h⟩ | ⟨h1,h2,h3,h4⟩ | ⟨p',h⟩
   ·exact (no h).elim
   ·have hodd : Exn (n + 2) true r'.tail none := by
     refine aG ?_
     rw [h4]
     cases b with
     | nil=>decide
     | cons v b=>exact zG ((hs.adj.get rfl).nm (by rw [← h2]; decide))
    refine ⟨1,none,?_,rfl⟩
    rw [er]
    exact .bad hodd
   ·exact (no h).elim
  ·exact ⟨0,some ([t'],r'),.stop hk,by show none = if hd r' = [] then _ else none; rw [if_neg hne]⟩
theorem sU : ∀ {a p b s : List Wd} {u u' w v : Wd},a ++ u' :: b = p ++ w :: v :: s → (∃ s',a ++ u :: b = p ++ w :: v :: s') ∨ (v = u' ∧ a = p ++ [w]) ∨ (w = u' ∧ p = a ∧ b = v :: s) ∨ ∃ p',a ++ u :: b = p' ++ w :: v :: s
 | [],[],b,s,u,u',w,v,e=>by
  cases e
  exact .inr (.inr (.inl ⟨rfl,rfl,rfl⟩))
 | [],x :: p,b,s,u,u',w,v,e=>by
  injection e with e1 e2
  exact .inr (.inr (.inr ⟨u :: p,by rw [e2]; rfl⟩))
 | y :: a,[],b,s,u,u',w,v,e=>by
  injection e with e1 e2
  subst e1
  cases a with
  | nil=>cases e2; exact .inr (.inl ⟨rfl,rfl⟩)
  | cons z a=>cases e2; exact .inl ⟨a ++ u :: b,rfl⟩
 | y :: a,x :: p,b,s,u,u',w,v,e=>by
  injection e with e1 e2
  subst e1
  rcases sU (u := u) e2 with ⟨s',h⟩ | ⟨h1,h2⟩ | ⟨h1,h2,h3⟩ | ⟨p',h⟩
  ·exact .inl ⟨s',by rw [List.cons_append,h]; rfl⟩
  ·exact .inr (.inl ⟨h1,by rw [h2]; rfl⟩)
  ·exact .inr (.inr (.inl ⟨h1,by rw [h2],h3⟩))
  ·exact .inr (.inr (.inr ⟨y :: p',by rw [List.cons_append,h]; rfl⟩))
theorem AI2 {n : Nat} {a b : List Wd} {t : Tn} (hT : Exn n true (a ++ [46] :: b) (some (t,[]))) (hw : ∀ w ∈ a ++ [46] :: b,w ≠ []) : bO (n + 2) (a ++ [46,46] :: b) none ∧ cY (Exn (n + 2)) (aW :: [58] :: (a ++ [46,46] :: b)) none := by
 obtain ⟨cs,e,hs⟩ := T9 n _ _ _ _ hT
 rw [List.append_nil] at e
 rw [← e] at hs
 obtain ⟨a0,m,rfl,hm⟩ : ∃ a0 m,a = a0 ++ [m] ∧ D7 m = true := by
  by_cases h0 : a = []
  ·subst h0
   have := hs.st
   exact absurd this (show ¬ M4 [46] = true by decide)
  ·obtain ⟨a0,m,rfl⟩ : ∃ a0 m,a = a0 ++ [m] := ⟨_,_,(List.dropLast_concat_getLast h0).symm⟩
   exact ⟨a0,m,rfl,(hs.adj.get (p := a0) (u := m) (v := [46]) (s := b) (by simp)).dt rfl⟩
 have nope : ∀ {d : Int} {cs' : List Wd} {p s : List Wd},Sg d cs' → cs' = p ++ m :: [46,46] :: s → False := fun h e=>by
  have := (h.adj.get e).nm hm
  revert this; decide
 have hdp : Dp ((n + 1 : Nat) : Int) (a0 ++ [m] ++ [46,46] :: b) := by
  obtain ⟨h1,h2⟩ := cU.mp hs.dp
  exact Dp.mono (by omega) (cU.mpr ⟨h1,h2⟩)
 obtain ⟨res,hx⟩ := pK (n + 1) true _ hdp
 cases res with
 | none=>exact ⟨⟨none,hx,rfl⟩,aD hx rfl⟩
 | some q =>
  obtain ⟨t',r'⟩ := q
  obtain ⟨cs',e',hs'⟩ := T9 (n + 2) _ _ _ _ hx
  have hne : hd r' ≠ [] := fun z=>by
   cases r' with
   | nil =>
    rw [List.append_nil] at e'
    exact nope (p := a0) (s := b) hs' (by rw [← e']; simp)
   | cons x r' =>
    have hx0 : x = [] := z
    have hm' : x ∈ a0 ++ [m] ++ [46,46] :: b := by rw [e']; simp
    rcases List.mem_append.mp hm' with h | h
    ·exact hw x (by simp at h ⊢; rcases h with h | h; exact .inl h; exact .inr (.inl h)) hx0
    ·rcases List.mem_cons.mp h with h | h
     ·rw [h] at hx0; cases hx0
     ·exact hw x (by simp [h]) hx0
  refine ⟨⟨_,hx,by show none = if hd r' = [] then _ else none; rw [if_neg hne]⟩,aD hx ?_⟩
  refine ⟨0,some ([t'],r'),.stop fun hk=>?_,by show none = if hd r' = [] then _ else none; rw [if_neg hne]⟩
  have er := G4 hk (by decide)
  obtain ⟨a',w,ec,hwl⟩ := hs'.lst
  rw [er,ec,List.append_assoc a'] at e'
  rcases sU (u := [46]) (p := a') (w := w) (v := K4) e' with ⟨s',h⟩ | ⟨h1,h2⟩ | ⟨h1,h2,h3⟩ | ⟨p',h⟩
  ·exact hwl (oX _ ((hs.adj.get h).el rfl))
  ·cases h1
  ·exact nope (p := a0) (s := []) hs' (by rw [ec,h1,h2]; simp)
  ·exact hwl (oX _ ((hs.adj.get h).el rfl))
end Law
namespace Law
open PySem L2 L2.Sp
def AK2 (res : K9) : Prop := res = none ∨ ∃ t u r,res = some (t,u :: r) ∧ u ≠ [] ∧ u ≠ K4
def kR (N : Nat) (ws : List Wd) : Prop := bO N ws none ∧ cY (Exn N) (aW :: [58] :: ws) none
theorem Z0 {N : Nat} {ws : List Wd} {res : K9} (hx : Exn N true ws res) (h : AK2 res) : kR N ws := by
 rcases h with rfl | ⟨t,u,r,rfl,h1,h2⟩
 ·exact ⟨⟨none,hx,rfl⟩,aD hx rfl⟩
 ·refine ⟨⟨_,hx,by show none = if hd (u :: r) = [] then _ else none; rw [if_neg (show hd (u :: r) ≠ [] from h1)]⟩,aD hx ⟨0,some ([t],u :: r),.stop h2,?_⟩⟩
  show none = if hd (u :: r) = [] then _ else none
  rw [if_neg (show hd (u :: r) ≠ [] from h1)]
theorem AD9 {N : Nat} {ws : List Wd} {t : Tn} {r : List Wd} (hx : Exn N true ws (some (t,K4 :: r))) (h : Exn N true r none) : kR N ws :=
 ⟨⟨_,hx,by show none = if hd (K4 :: r) = [] then _ else none; rw [if_neg (show hd (K4 :: r) ≠ [] from by show K4 ≠ []; decide)]⟩,aD hx ⟨1,none,.bad h,rfl⟩⟩
def FF (X : Bool → List Wd → K9 → Prop) : Prop := ∀ r res,X true r res → X false r res ∨ X false r none
section
variable {X : Bool → List Wd → K9 → Prop}
theorem nK {r : List Wd} : SglP X false ([64] :: r) none := by
 unfold SglP
 exact B7 (show ([64] : Wd) ≠ [40] by decide) (B7 (show ([64] : Wd) ≠ [91] by decide) (B7 (show ([64] : Wd) ≠ [123] by decide) (B7 (fun z=>by cases z.2) (B7 (fun z=>absurd z.1 (show ([64] : Wd) ≠ [46,46] by decide)) (B7 (show ¬ J9 [64] = true by decide) (B7 (show ([64] : Wd).take 1 ≠ [34] by decide) (B7 (show ([64] : Wd) ∉ L5 by decide) rfl)))))))
theorem AV3 (h : FF X) {r : List Wd} {res : K9} (x : SglP X true r res) : SglP X false r res ∨ SglP X false r none := by
 by_cases h4 : hd r = [64]
 ·rw [G4 h4 (by decide)]
  exact .inr nK
 unfold SglP at x ⊢
 by_cases h1 : hd r = [40]
 ·rw [if_pos h1] at x ⊢
  rw [if_pos h1]
  obtain ⟨xres,hx,e⟩ := x
  rcases h _ _ hx with h | h
  ·exact .inl ⟨xres,h,e⟩
  ·exact .inr ⟨none,h,rfl⟩
 left
 rw [if_neg h1] at x ⊢
 by_cases h2 : hd r = [91]
 ·rw [if_pos h2] at x ⊢; exact x
 rw [if_neg h2] at x ⊢
 by_cases h3 : hd r = [123]
 ·rw [if_pos h3] at x ⊢; exact x
 rw [if_neg h3] at x ⊢
 rw [if_neg fun z=>h4 z.1] at x
 rw [if_neg fun z=>h4 z.1]
 exact x
theorem mO (h : FF X) {r : List Wd} {res : K9} (x : NegP X true r res) : NegP X false r res ∨ NegP X false r none := by
 obtain ⟨sres,hs,e⟩ := x
 by_cases b : bangs r = 0
 ·rw [decide_eq_true b] at hs
  rcases AV3 h hs with h | h
  ·exact .inl ⟨sres,h,e⟩
  ·exact .inr ⟨none,h,rfl⟩
 ·rw [decide_eq_false b] at hs
  exact .inl ⟨sres,by rw [decide_eq_false b]; exact hs,e⟩
theorem AS8 (h : FF X) {k : Nat} {f : Bool} {as ps : List Tn} {r : List Wd} {res : K9} (x : MoreP X k f as ps r res) : f = true → (∃ k,MoreP X k false as ps r res) ∨ ∃ k,MoreP X k false as ps r none := by
 induction x with
 | stop a b=>exact fun _=>.inl ⟨0,.stop a b⟩
 | and hn _ ih =>
  intro hf
  subst hf
  rcases mO h hn with hn | hn
  ·rcases ih rfl with ⟨k,ih⟩ | ⟨k,ih⟩
   ·exact .inl ⟨k + 1,.and hn ih⟩
   ·exact .inr ⟨k + 1,.and hn ih⟩
  ·exact .inr ⟨1,.bad (.inl rfl) hn⟩
 | or hn _ ih =>
  intro hf
  subst hf
  rcases mO h hn with hn | hn
  ·rcases ih rfl with ⟨k,ih⟩ | ⟨k,ih⟩
   ·exact .inl ⟨k + 1,.or hn ih⟩
   ·exact .inr ⟨k + 1,.or hn ih⟩
  ·exact .inr ⟨1,.bad (.inr rfl) hn⟩
 | bad hw hn =>
  intro hf
  subst hf
  rcases mO h hn with hn | hn
  ·exact .inl ⟨1,.bad hw hn⟩
  ·exact .inl ⟨1,.bad hw hn⟩
theorem BB3 (h : FF X) : FF (ExpP X) := fun r res x=>by
 obtain ⟨nres,hn,x⟩ := x
 rcases mO h hn with hn | hn
 ·cases nres with
  | none=>exact .inl ⟨none,hn,x⟩
  | some p =>
   obtain ⟨t,r1⟩ := p
   obtain ⟨k,x⟩ := x
   rcases AS8 h x rfl with ⟨k,x⟩ | ⟨k,x⟩
   ·exact .inl ⟨_,hn,k,x⟩
   ·exact .inr ⟨_,hn,k,x⟩
 ·exact .inr ⟨none,hn,rfl⟩
end
theorem AA1 : ∀ n,FF (Exn n)
 | 0=>fun r res h=>h.elim
 | n + 1=>BB3 (AA1 n)
section
variable {X : Bool → List Wd → K9 → Prop} {free : Bool}
theorem vL {rest : List Wd} {G : K9 → Prop} (hts : TS rest) (hm : ∀ alts parts,∃ k res,MoreP X k free alts parts rest res ∧ G res) : ∀ {xs : List Tn} {gs : List (List Wd)} {alts parts : List Tn},All2 (AndAble X free) xs gs → ∃ k res,MoreP X k free alts parts (tails [124] gs ++ rest) res ∧ G res
 | _,_,alts,parts,.nil=>by
  obtain ⟨k,res,h,g⟩ := hm alts parts
  exact ⟨k,res,by simpa [tails] using h,g⟩
 | _,_,alts,parts,@All2.cons _ _ _ x g xs gs a as=>by
  obtain ⟨y,ys,row,rows,e,h1,h2,rfl⟩ := a
  obtain ⟨k,res,hk,hg⟩ := vL hts hm (alts := alts ++ [one P3 parts]) (parts := [y] ++ ys) as
  have hts' : TS (tails [124] gs ++ rest) := TS.tails (by decide) hts
  obtain ⟨k',hk'⟩ := gB hts' (parts := [y]) h2 hk
  refine ⟨k' + 1,res,?_,hg⟩
  rw [N1,List.cons_append,List.append_assoc,List.append_assoc]
  have := MoreP.or (alts := alts) (parts := parts) (h1 _ (TS.tails (s := [38]) (rows := rows) (by decide) hts')) hk'
  simpa using this
theorem yB {rest : List Wd} {G : K9 → Prop} (hts : TS rest) (hm : ∀ alts parts,∃ k res,MoreP X k free alts parts rest res ∧ G res) {x : Tn} {g : List Wd} {xs : List Tn} {gs : List (List Wd)} (h : AndAble X free x g) (hs : All2 (AndAble X free) xs gs) : ∃ res,ExpP X free (g ++ tails [124] gs ++ rest) res ∧ G res := by
 obtain ⟨y,ys,row,rows,e,h1,h2,rfl⟩ := h
 obtain ⟨k,res,hk,hg⟩ := vL hts hm (alts := []) (parts := [y] ++ ys) hs
 have hts' : TS (tails [124] gs ++ rest) := TS.tails (by decide) hts
 obtain ⟨k',hk'⟩ := gB hts' (parts := [y]) h2 hk
 refine ⟨res,⟨some (y,tails [38] rows ++ (tails [124] gs ++ rest)),?_,k',hk'⟩,hg⟩
 have := h1 _ (TS.tails (s := [38]) (rows := rows) (by decide) hts')
 simpa using this
end
theorem AW4 (mx : Nat → Nat) {n : Nat} {pl free : Bool} {x : Tn} {ws : List Wd} {M : Nat} (hM : 2 * n ≤ M) (hf : pl = true → free = true) (h : PrW mx n pl x ws) {rest : List Wd} {G : K9 → Prop} (hts : TS rest) (hm : ∀ alts parts,∃ k res,MoreP (Exn M) k free alts parts rest res ∧ G res) : ∃ res,Exn (M + 1) free (ws ++ rest) res ∧ G res := by
 have up : ∀ f r res,Exn (2 * n) f r res → Exn M f r res := fun f r res=>Exn.mono hM
 have fin : AndAble (Exn (2 * n)) free x ws → ∃ res,Exn (M + 1) free (ws ++ rest) res ∧ G res := fun ha=>by
  obtain ⟨res,h1,h2⟩ := yB hts hm (ha.mono up) .nil
  have h1' : ExpP (Exn M) free (ws ++ rest) res := by simpa [tails] using h1
  exact ⟨res,h1',h2⟩
 have rd := kF mx n pl free x ws hf h
 cases n with
 | zero =>
  refine fin (rd.and ?_)
  rcases h with h | ⟨_,h⟩
  ·cases h <;> rfl
  ·cases h; rfl
 | succ n =>
  rcases h with h | ⟨hp,h⟩ | ⟨ts,rows,m,rfl,hl,ha,rfl⟩ | ⟨fs,rows,m,rfl,hl,hd,ha,rfl⟩ | ⟨t,row,rfl,hr,rfl⟩ | ⟨ts,rows,rfl,h2,hl,ha,rfl⟩ | ⟨ts,rows,rfl,h2,hl,ha,rfl⟩
  ·refine fin (rd.and ?_)
   cases h <;> rfl
  ·refine fin (rd.and ?_)
   cases h; rfl
  ·exact fin (rd.and rfl)
  ·exact fin (rd.and rfl)
  ·exact fin (rd.and rfl)
  ·exact fin (rd.and rfl)
  ·have ih := kF mx n
   have up0 : ∀ f r res,Exn (2 * n) f r res → Exn (2 * (n + 1)) f r res := fun f r res=>Exn.mono (by omega)
   have up1 : ∀ f r res,Exn (2 * n + 1) f r res → Exn (2 * (n + 1)) f r res := fun f r res=>Exn.mono (by omega)
   have childA : ∀ {pl free : Bool} {x : Tn} {row : List Wd},(pl = true → free = true) → Y8 (PrW mx n pl) (qI U9 x) x row → AndAble (Exn (2 * (n + 1))) free x row := fun {pl free x row} hf hr =>
    (vD (N := 2 * n + 1) (fun ws hw=>⟨fun e=>((ih pl free x ws hf hw).and e).mono up0,(ih pl free x ws hf hw).exp.mono up1,(ih pl free x ws hf hw).head⟩) hr).1
   have ha' : All2 (AndAble (Exn M) free) ts rows := ha.imp fun t _ row hr=>(childA hf hr).mono up
   cases ha' with
   | nil=>exact absurd h2 (by decide)
   | @cons t row ts rows a as =>
    obtain ⟨res,h1,h2⟩ := yB hts hm a as
    exact ⟨res,h1,h2⟩
end Law
namespace Law
open PySem L2 L2.Sp
def BD7 (res : K9) : Prop := res = none ∨ ∃ t u r,res = some (t,u :: r) ∧ u ≠ [] ∧ u ≠ K4 ∧ u ≠ [38] ∧ u ≠ [124]
def PB (M : Nat) (p rest : List Wd) : Prop := ∃ res,NegP (Exn M) true (p ++ rest) res ∧ BD7 res
theorem AE5 {M : Nat} {p rest : List Wd} (h : PB M p rest) : kR (M + 1) (p ++ rest) := by
 obtain ⟨res,hn,h⟩ := h
 rcases h with rfl | ⟨t,u,r,rfl,h1,h2,h3,h4⟩
 ·exact Z0 (res := none) ⟨none,hn,rfl⟩ (.inl rfl)
 ·exact Z0 (N := M + 1) ⟨_,hn,0,.stop h3 h4⟩ (.inr ⟨_,u,r,rfl,h1,h2⟩)
theorem AQ2 {M : Nat} {p : List Wd} {w : Wd} (hw : w = [38] ∨ w = [124]) (h : PB M p []) : ∀ alts parts,∃ k res,MoreP (Exn M) k true alts parts (w :: p) res ∧ AK2 res := fun alts parts=>by
 obtain ⟨res,hn,h⟩ := h
 rw [List.append_nil] at hn
 rcases h with rfl | ⟨t,u,r,rfl,h1,h2,h3,h4⟩
 ·exact ⟨1,none,.bad hw hn,.inl rfl⟩
 ·rcases hw with rfl | rfl
  ·exact ⟨1,_,.and hn (.stop h3 h4),.inr ⟨_,u,r,rfl,h1,h2⟩⟩
  ·exact ⟨1,_,.or hn (.stop h3 h4),.inr ⟨_,u,r,rfl,h1,h2⟩⟩
theorem iT {mx : Nat → Nat} {n M : Nat} {x : Tn} {T p : List Wd} {w : Wd} (hM : 2 * n ≤ M) (hT : PrW mx n true x T) (hw : w = [38] ∨ w = [124]) (h : PB M p []) : kR (M + 1) (T ++ w :: p) := by
 obtain ⟨res,h1,h2⟩ := AW4 mx (free := true) hM (fun _=>rfl) hT (rest := w :: p) (G := AK2) (TS.of (by rcases hw with rfl | rfl <;> decide)) (AQ2 hw h)
 exact Z0 h1 h2
section
variable {X : Bool → List Wd → K9 → Prop} {free : Bool}
theorem lF {r : List Wd} (h : X free r none) : SglP X free ([40] :: r) none := by
 unfold SglP
 exact G2 rfl ⟨none,h,rfl⟩
theorem X8 {r : List Wd} (h : ∃ k,ItemsP X k [] r none) : SglP X free ([91] :: r) none := by
 obtain ⟨k,h⟩ := h
 unfold SglP
 exact B7 (show ([91] : Wd) ≠ [40] by decide) (G2 rfl ⟨k,none,h,rfl⟩)
theorem cE {r : List Wd} (h : ∃ k,FieldsP X k [] r none) : SglP X free ([123] :: r) none := by
 obtain ⟨k,h⟩ := h
 unfold SglP
 exact B7 (show ([123] : Wd) ≠ [40] by decide) (B7 (show ([123] : Wd) ≠ [91] by decide) (G2 rfl ⟨k,none,h,rfl⟩))
theorem eL {c u : Wd} {r : List Wd} (h1 : u ≠ c) (h2 : u ≠ [46,46] ∨ hd r ≠ c) : L6 c 0 (u :: r) = some (true,u :: r) := by
 unfold L6
 rw [if_neg (show hd (u :: r) ≠ c from h1),if_neg (by decide)]
 congr 2
 show (!(decide (u = [46,46]) && decide (hd r = c))) = true
 rcases h2 with h | h
 ·rw [decide_eq_false h,Bool.false_and]; rfl
 ·rw [decide_eq_false h,Bool.and_false]; rfl
theorem lO {c : Wd} {r : List Wd} {n : Nat} (hc : ([44] : Wd) ≠ c) (hn : 0 < n) (h2 : hd r ≠ [46,46] ∨ hd r.tail ≠ c) : L6 c n ([44] :: r) = some (true,r) := by
 unfold L6
 rw [if_neg (show hd ([44] :: r) ≠ c from hc),if_pos hn,if_pos (show hd ([44] :: r) = [44] from rfl)]
 congr 2
 show (!(decide (hd r = [46,46]) && decide (hd r.tail = c))) = true
 rcases h2 with h | h
 ·rw [decide_eq_false h,Bool.false_and]; rfl
 ·rw [decide_eq_false h,Bool.and_false]; rfl
theorem cS {nm : Wd} {r : List Wd} {xres : K9} (hn : D7 nm = true) (hx : X false r xres) : FieldP X (nm :: [58] :: r) (xres.map fun p=>((nm,p.1,true),p.2)) := by
 unfold FieldP
 exact G2 (show D7 nm = true from hn) (B7 (show ([58] : Wd) ≠ [63] by decide) (G2 rfl ⟨xres,hx,rfl⟩))
theorem AH8 {nm : Wd} {r : List Wd} {xres : K9} (hn : D7 nm = true) (hx : X false r xres) : FieldP X (nm :: [63] :: [58] :: r) (xres.map fun p=>((nm,p.1,false),p.2)) := by
 unfold FieldP
 exact G2 (show D7 nm = true from hn) (G2 rfl (G2 rfl ⟨xres,hx,rfl⟩))
theorem M3 {u : Wd} {r : List Wd} (hu : u ≠ [33]) (h : SglP X free (u :: r) none) : NegP X free (u :: r) none := aY hu h
theorem iA {r : List Wd} (h : NegP X false r none) : NegP X free ([33] :: r) none := by
 obtain ⟨s,a,b⟩ := h
 have e : bangs ([33] :: r) = bangs r + 1 := by unfold bangs; rw [List.takeWhile_cons_of_pos (by decide)]; rfl
 cases s with
 | some p=>cases b
 | none =>
  refine ⟨none,?_,rfl⟩
  rw [e,decide_eq_false (by omega),Bool.and_false,List.drop_succ_cons]
  exact a
end
theorem nM {n : Nat} {r : List Wd} : Exn (n + 1) false ([64] :: r) none := ⟨none,M3 (by decide) nK,rfl⟩
theorem tU {X : Bool → List Wd → K9 → Prop} {f : Bool} {r : List Wd} (h : J9 (hd r) = false) : SglP X f ([46,46] :: r) none := by
 unfold SglP
 exact B7 (show ([46,46] : Wd) ≠ [40] by decide) (B7 (show ([46,46] : Wd) ≠ [91] by decide) (B7 (show ([46,46] : Wd) ≠ [123] by decide) (B7 (fun z=>absurd z.1 (show ([46,46] : Wd) ≠ [64] by decide)) (B7 (fun z=>by have : J9 (hd r) = true := z.2; rw [h] at this; cases this) (B7 (show ¬ J9 [46,46] = true by decide) (B7 (show ([46,46] : Wd).take 1 ≠ [34] by decide) (B7 (show ([46,46] : Wd) ∉ L5 by decide) rfl)))))))
theorem tV {n : Nat} {f : Bool} {r : List Wd} (h : J9 (hd r) = false) : Exn (n + 1) f ([46,46] :: r) none := ⟨none,M3 (by decide) (tU h),rfl⟩
theorem lT {n : Nat} {f : Bool} {r : List Wd} : Exn (n + 1) f (Q5 :: r) none := aG (by show jN Q5; decide)
theorem AN8 {X : Bool → List Wd → K9 → Prop} {free : Bool} {u v : Wd} (h : J9 u = true) (hv : J9 v = true) (rest : List Wd) : NegP X free (u :: [46,46] :: v :: rest) (some (P6 (.int (P4 u)) (.int (P4 v)),rest)) := by
 obtain ⟨h1,h2,h3,h4,h5,h6,_⟩ := S3 h
 refine aY h6 ?_
 unfold SglP
 exact B7 h1 (B7 h2 (B7 h3 (B7 (fun z=>h4 z.1) (B7 (fun z=>h5 z.1) (G2 h (G2 rfl (G2 hv rfl)))))))
def iC (Q : List Wd) (nm num : Wd) (T : List Wd) : List (List Wd) := [
 [33] :: [64] :: Q,[91] :: [64] :: (Q ++ [[93]]),[123] :: aW :: [58] :: [64] :: (Q ++ [[125]]),
 [33] :: [40] :: [64] :: (Q ++ [[41]]),[91] :: [123] :: [125] :: [44] :: [64] :: (Q ++ [[93]]),
 [40] :: [33] :: [33] :: [64] :: (Q ++ [[41]]),[123] :: nm :: [58] :: (T ++ ([44] :: nm :: [58] :: (T ++ [[125]]))),
 [123] :: nm :: [63] :: [58] :: (T ++ ([44] :: nm :: [58] :: (T ++ [[125]]))),
 [91] :: (T ++ [[44],[93]]),[123] :: nm :: [58] :: (T ++ [[44],[125]]),[91] :: [46,46] :: [44] :: (T ++ [[93]]),
 [91] :: (T ++ [[44],[46,46],[44],[46,46],[93]]),[[46,46]],[num,[46,46],num,[46,46],num],
 [[91],Q5,[93]],[[123],nm,[58],Q5,[125]],[[40],Q5,[41]],[[91],num,[44],Q5,[93]]]
theorem AX3 {Q T : List Wd} {nm num : Wd} {x : Tn} {M : Nat} (hn : D7 nm = true) (hm : J9 num = true) (hT : ExpAble (Exn (M + 2)) true x T) (hH : HeadOk T) {rest : List Wd} (hr : J9 (hd rest) = false) : ∀ p ∈ iC Q nm num T,PB (M + 2) p rest := by
 obtain ⟨n1,n2,n3,n4⟩ := bW hn
 have TX : ∀ rest',ES rest' → Exn (M + 2) false (T ++ rest') (some (x,rest')) ∨ Exn (M + 2) false (T ++ rest') none := fun rest' h=>AA1 (M + 2) _ _ (hT rest' h)
 have no : ∀ {q : List Wd},NegP (Exn (M + 2)) true q none → ∃ res,NegP (Exn (M + 2)) true q res ∧ BD7 res := fun h=>⟨none,h,.inl rfl⟩
 have E44 : ∀ {r : List Wd},ES ([44] :: r) := fun {r}=>ES.of (by decide)
 have c44 : ([44] : Wd) ≠ [93] := by decide
 have c44' : ([44] : Wd) ≠ [125] := by decide
 intro p hp
 simp only [iC,List.mem_cons,List.not_mem_nil,or_false] at hp
 rcases hp with rfl | rfl | rfl | rfl | rfl | rfl | rfl | rfl | rfl | rfl | rfl | rfl | rfl | rfl | rfl | rfl | rfl | rfl <;> simp only [PB,List.cons_append,List.append_assoc,List.nil_append]
 ·exact no (iA (M3 (by decide) nK))
 ·exact no (M3 (by decide) (X8 ⟨0,.worse (eL (by decide) (.inl (by decide))) nM⟩))
 ·exact no (M3 (by decide) (cE ⟨0,.worse (eL (u := aW) (by decide) (.inl (by decide))) (cS (nm := aW) (xres := none) (by decide) nM)⟩))
 ·exact no (iA (M3 (by decide) (lF nM)))
 ·have h0 : Exn (M + 2) false ([123] :: [125] :: ([44] :: [64] :: (Q ++ ([93] :: rest)))) (some (.tup [.str aF,.tup [],.bl false],[44] :: [64] :: (Q ++ ([93] :: rest)))) := fV (NegAble.and (vQ (X := Exn (M + 1)) (free := false) (fs := []) (rows := []) (m := false) .nil (by simp))) _ E44
  exact no (M3 (by decide) (X8 ⟨1,.on (eL (by decide) (.inl (by decide))) h0 (.worse (lO c44 (by simp) (.inl (by show ([64] : Wd) ≠ _; decide))) nM)⟩))
 ·refine no (M3 (by decide) (lF ?_))
  exact ⟨none,iA (iA (M3 (by decide) nK)),rfl⟩
 ·refine no (M3 (by decide) (cE ?_))
  have hh : ∀ r,L6 [125] 0 (nm :: r) = some (true,nm :: r) := fun r=>eL n2 (.inl n3)
  rcases TX ([44] :: nm :: [58] :: (T ++ ([125] :: rest))) E44 with h | h
  ·have hh2 : L6 [125] 1 ([44] :: nm :: [58] :: (T ++ ([125] :: rest))) = some (true,nm :: [58] :: (T ++ ([125] :: rest))) := lO c44' (by decide) (.inl n3)
   rcases TX ([125] :: rest) (ES.of (by decide)) with h2 | h2
   ·exact ⟨1,.on (hh _) (cS hn h) (by simp) (.twice hh2 (cS hn h2) (by simp))⟩
   ·exact ⟨1,.on (hh _) (cS hn h) (by simp) (.worse hh2 (cS (xres := none) hn h2))⟩
  ·exact ⟨0,.worse (hh _) (cS (xres := none) hn h)⟩
 ·refine no (M3 (by decide) (cE ?_))
  have hh : ∀ r,L6 [125] 0 (nm :: r) = some (true,nm :: r) := fun r=>eL n2 (.inl n3)
  rcases TX ([44] :: nm :: [58] :: (T ++ ([125] :: rest))) E44 with h | h
  ·have hh2 : L6 [125] 1 ([44] :: nm :: [58] :: (T ++ ([125] :: rest))) = some (true,nm :: [58] :: (T ++ ([125] :: rest))) := lO c44' (by decide) (.inl n3)
   rcases TX ([125] :: rest) (ES.of (by decide)) with h2 | h2
   ·exact ⟨1,.on (hh _) (AH8 hn h) (by simp) (.twice hh2 (cS hn h2) (by simp))⟩
   ·exact ⟨1,.on (hh _) (AH8 hn h) (by simp) (.worse hh2 (cS (xres := none) hn h2))⟩
  ·exact ⟨0,.worse (hh _) (AH8 (xres := none) hn h)⟩
 ·refine no (M3 (by decide) (X8 ?_))
  rcases TX ([44] :: [93] :: rest) E44 with h | h
  ·exact ⟨1,.on (bY (.inl rfl) hH) h (.worse (lO c44 (by simp) (.inl (by show ([93] : Wd) ≠ _; decide))) (aG (by show jN [93]; decide)))⟩
  ·exact ⟨0,.worse (bY (.inl rfl) hH) h⟩
 ·refine no (M3 (by decide) (cE ?_))
  have hh : ∀ r,L6 [125] 0 (nm :: r) = some (true,nm :: r) := fun r=>eL n2 (.inl n3)
  rcases TX ([44] :: [125] :: rest) E44 with h | h
  ·refine ⟨1,.on (hh _) (cS hn h) (by simp) (.worse (lO c44' (by simp) (.inl (by show ([125] : Wd) ≠ _; decide))) ?_)⟩
   unfold FieldP
   exact B7 (show ¬ D7 [125] = true by decide) rfl
  ·exact ⟨0,.worse (hh _) (cS (xres := none) hn h)⟩
 ·exact no (M3 (by decide) (X8 ⟨0,.worse (eL (by decide) (.inr (by show ([44] : Wd) ≠ _; decide))) (tV rfl)⟩))
 ·refine no (M3 (by decide) (X8 ?_))
  rcases TX ([44] :: [46,46] :: [44] :: [46,46] :: [93] :: rest) E44 with h | h
  ·exact ⟨1,.on (bY (.inl rfl) hH) h (.worse (lO c44 (by simp) (.inr (by show ([44] : Wd) ≠ _; decide))) (tV rfl))⟩
  ·exact ⟨0,.worse (bY (.inl rfl) hH) h⟩
 ·exact no (M3 (by decide) (tU hr))
 ·exact ⟨_,AN8 hm hm ([46,46] :: num :: rest),.inr ⟨_,[46,46],num :: rest,rfl,by decide,by decide,by decide,by decide⟩⟩
 ·exact no (M3 (by decide) (X8 ⟨0,.worse (eL (by decide) (.inl (by decide))) lT⟩))
 ·exact no (M3 (by decide) (cE ⟨0,.worse (eL n2 (.inl n3)) (cS (xres := none) hn lT)⟩))
 ·exact no (M3 (by decide) (lF lT))
 ·obtain ⟨a1,a2,a3,a4,a5,a6,a7,a8,a9⟩ := S3 hm
  have h0 : Exn (M + 2) false ([num] ++ ([44] :: Q5 :: [93] :: rest)) (some (P6 (.int (P4 num)) (.int (P4 num)),[44] :: Q5 :: [93] :: rest)) := fV (NegAble.and (vR (X := Exn (M + 1)) (free := false) hm)) _ E44
  exact no (M3 (by decide) (X8 ⟨1,.on (eL a7 (.inl a5)) h0 (.worse (lO c44 (by simp) (.inl (by show Q5 ≠ _; decide))) lT)⟩))
end Law
namespace Law
open PySem L2 L2.Sp
theorem bU {n : Nat} {pl : Bool} {t : Tn} {ws : List Wd} (h : PrW J1 n pl t ws) : ExpAble (Exn (2 * n + 1)) true t ws := (kF J1 n pl true t ws (fun _=>rfl) h).exp
def gU (z : Wd) : List Wd := [z,[58],[63],[44],[41],[93],[125],[34,97,34],K4,[64]]
theorem AT3 {z : Wd} (h : D7 z = true) : ES [z] := by
 have hn : J9 z = false := Bool.eq_false_iff.mpr fun e=>by rw [(V8 e).2.2.2.1] at h; cases h
 obtain ⟨_,_,h3,h4⟩ := bW h
 refine ⟨⟨h3,h4,hn⟩,fun e=>?_,fun e=>?_⟩
 ·have e : z = [38] := e
  rw [e] at h; cases h
 ·have e : z = [124] := e
  rw [e] at h; cases h
theorem BB6 : ∀ u ∈ ([[58],[63],[44],[41],[93],[125],[34,97,34],K4,[64]] : List Wd),(u ≠ [46,46] ∧ u ≠ [46] ∧ J9 u = false) ∧ u ≠ [38] ∧ u ≠ [124] := by decide
theorem AS0 {N : Nat} {T : List Wd} {x : Tn} {u z : Wd} (hT : ExpAble (Exn (N + 1)) true x T) (hz : D7 z = true) (hk : z ≠ K4) (hu : u ∈ gU z) : kR (N + 1) (T ++ [u]) := by
 rcases List.mem_cons.mp hu with rfl | hu
 ·exact Z0 (hT [u] (AT3 hz)) (.inr ⟨x,u,[],rfl,fun e=>(by rw [e] at hz; cases hz),hk⟩)
 ·have hx := hT [u] (BB6 u hu)
  by_cases e : u = K4
  ·subst e
   exact AD9 hx (aG (by decide))
  ·refine Z0 hx (.inr ⟨x,u,[],rfl,fun z=>?_,e⟩)
   subst z
   revert hu; decide
def iF (T : List Wd) : List (List Wd) := [[40] :: T,T ++ [[38]],[124] :: T,T ++ [[124],Q5],Q5 :: [38] :: T]
theorem AX5 {M : Nat} : PB (M + 1) [] [] := ⟨none,⟨none,(jS (by decide)).mpr rfl,rfl⟩,.inl rfl⟩
theorem BF3 {M : Nat} : PB (M + 1) [Q5] [] := ⟨none,M3 (by decide) ((jS (by show jN Q5; decide)).mpr rfl),.inl rfl⟩
theorem AO2 {n M : Nat} {T : List Wd} {x : Tn} (hM : 2 * n + 1 ≤ M + 1) (hT : PrW J1 n true x T) : ∀ ws ∈ iF T,kR (M + 2) ws := by
 have hE : ExpAble (Exn (M + 1)) true x T := (bU hT).mono fun f r res=>Exn.mono hM
 intro ws hw
 simp only [iF,List.mem_cons,List.not_mem_nil,or_false] at hw
 rcases hw with rfl | rfl | rfl | rfl | rfl
 ·have h0 := hE [] ES.nil
  rw [List.append_nil] at h0
  refine Z0 (N := M + 2) (res := none) ⟨none,M3 (by decide) ?_,rfl⟩ (.inl rfl)
  unfold SglP
  exact G2 rfl ⟨_,h0,rfl⟩
 ·exact iT (M := M + 1) (by omega) hT (.inl rfl) AX5
 ·exact Z0 (N := M + 2) (aG (by show jN [124]; decide)) (.inl rfl)
 ·exact iT (M := M + 1) (by omega) hT (.inr rfl) BF3
 ·exact Z0 (N := M + 2) (aG (by show jN Q5; decide)) (.inl rfl)
theorem AS3 {N : Nat} : kR (N + 1) [] := Z0 (aG (by decide)) (.inl rfl)
inductive D2 : List Wd → Prop
 | nil : D2 []
 | cons {u r} : u ≠ [46] → D2 r → D2 (u :: r)
 | dot {n r} : n.head? ≠ some 46 → D2 r → D2 ([46] :: n :: r)
 | two {n r} : n.head? ≠ some 46 → D2 r → D2 ([46] :: [46] :: n :: r)
theorem DotOk.d2 {ws : List Wd} (h : DotOk ws) : D2 ws := by
 induction h with
 | nil=>exact .nil
 | cons a _ ih=>exact .cons a ih
 | dot a _ ih=>exact .dot a ih
theorem DotOk.dbl : ∀ {a b : List Wd} {u : Wd},DotOk (a ++ u :: b) → D2 (a ++ u :: u :: b)
 | [],b,u,h=>by
  cases h with
  | cons h1 h2=>exact .cons h1 (.cons h1 h2.d2)
  | dot h1 h2=>exact .two h1 h2.d2
 | [x],b,u,h=>by
  cases h with
  | cons h1 h2=>exact .cons h1 (DotOk.dbl (a := []) h2)
  | dot h1 h2=>exact .dot h1 (.cons (fun e=>h1 (by rw [e]; rfl)) h2.d2)
 | x :: y :: a,b,u,h=>by
  cases h with
  | cons h1 h2=>exact .cons h1 (DotOk.dbl (a := y :: a) h2)
  | dot h1 h2=>exact .dot h1 (DotOk.dbl (a := a) h2)
theorem DotOk.no : ∀ {a b ws : List Wd},DotOk ws → ws = a ++ [46] :: [46] :: b → False
 | [],b,ws,h,e=>by
  subst e
  cases h with
  | cons h1 _=>exact h1 rfl
  | dot h1 _=>exact h1 rfl
 | [x],b,ws,h,e=>by
  subst e
  cases h with
  | cons h1 h2=>exact DotOk.no (a := []) h2 rfl
  | dot h1 h2=>exact h1 rfl
 | x :: y :: a,b,ws,h,e=>by
  subst e
  cases h with
  | cons h1 h2=>exact DotOk.no (a := y :: a) h2 rfl
  | dot h1 h2=>exact DotOk.no (a := a) h2 rfl
inductive Mr : List Wd → List Wd → Prop
 | nil : Mr [] []
 | cons {u a b} : Mr a b → Mr (u :: a) (u :: b)
 | two {a b} : Mr a b → Mr ([46] :: [46] :: a) ([46,46] :: b)
theorem Mr.app {a b c d : List Wd} (h : Mr a b) (h' : Mr c d) : Mr (a ++ c) (b ++ d) := by
 induction h with
 | nil=>exact h'
 | cons _ ih=>exact .cons ih
 | two _ ih=>exact .two ih
theorem Mr.inv {a b : List Wd} (h : Mr a b) : b = a ∨ ∃ p q q',a = p ++ [46] :: [46] :: q ∧ b = p ++ [46,46] :: q' ∧ Mr q q' := by
 induction h with
 | nil=>exact .inl rfl
 | @cons u a b _ ih =>
  rcases ih with rfl | ⟨p,q,q',rfl,rfl,h⟩
  ·exact .inl rfl
  ·exact .inr ⟨u :: p,q,q',rfl,rfl,h⟩
 | @two a b h _=>exact .inr ⟨[],a,b,rfl,rfl,h⟩
theorem DotOk.mr {a b : List Wd} (h : DotOk a) (m : Mr a b) : b = a := by
 rcases m.inv with e | ⟨p,q,q',e,_⟩
 ·exact e
 ·exact (h.no e).elim
theorem DotOk.tl : ∀ {a b : List Wd},DotOk (a ++ [46] :: b) → DotOk b ∨ ∃ n r,b = n :: r ∧ DotOk r ∧ n.head? ≠ some 46
 | [],b,h=>by
  cases h with
  | cons h1 _=>exact absurd rfl h1
  | dot h1 h2=>exact .inr ⟨_,_,rfl,h2,h1⟩
 | [x],b,h=>by
  cases h with
  | cons h1 h2=>exact DotOk.tl (a := []) h2
  | dot h1 h2=>exact .inl h2
 | x :: y :: a,b,h=>by
  cases h with
  | cons h1 h2=>exact DotOk.tl (a := y :: a) h2
  | dot h1 h2=>exact DotOk.tl (a := a) h2
theorem BG4 {a b b' : List Wd} (h : DotOk (a ++ [46] :: b)) (m : Mr b b') : b' = b := by
 rcases h.tl with h | ⟨n,r,rfl,h,hn⟩
 ·exact h.mr m
 ·rcases m.inv with e | ⟨p,q,q',e,_⟩
  ·exact e
  ·cases p with
   | nil=>cases e; exact absurd rfl hn
   | cons x p=>injection e with _ e; exact (h.no e).elim
theorem AT7 {n : Nat} {a b ws' : List Wd} {u : Wd} {t : Tn} (hT : Exn n true (a ++ u :: b) (some (t,[]))) (hu : u ≠ [33]) (hw : ∀ w ∈ a ++ u :: b,w ≠ []) (hd' : DotOk (a ++ u :: b)) (m : Mr (a ++ u :: u :: b) ws') : kR (n + 2) ws' := by
 rcases m.inv with rfl | ⟨p,q,q',e,rfl,hq⟩
 ·exact AI4 hT hu hw
 ·rcases lR e with ⟨s',h⟩ | ⟨h1,h2,h3,h4⟩ | ⟨p',h⟩
  ·exact (hd'.no h).elim
  ·subst h1 h3 h4
   rw [BG4 hd' hq]
   exact AI2 hT hw
  ·exact (hd'.no h).elim
theorem AC6 : U4 [46,46] := .inr (.inr (.inr (.inl rfl)))
theorem BB2 {p : Wd} : Fol [46,46] p := fun d _=>by
 refine ⟨fun h=>?_,fun h=>?_,fun h=>?_⟩
 ·have := h.2 46 (by simp)
  cases this
 ·obtain ⟨c,e,hc⟩ := h.head
  cases e
  rcases hc with hc | hc <;> cases hc
 ·cases h
def AK0 (rest : List Wd) : Prop := ∃ n r,rest = n :: r ∧ n.head? ≠ some 46 ∧ D2 r
inductive LS (ws : List Wd) (i : Nat) (line : List Nat) (last : Wd) : Prop
 | no {due} : last ≠ [46] → Mr (ws.take i) due → Line line due last → D2 (ws.drop i) → LS ws i line last
 | fst {j line0 due0 last0 g} : last = [46] → i = j + 1 → line = line0 ++ (List.replicate g 32 ++ [46]) → Mr (ws.take j) due0 → ws.take i = ws.take j ++ [[46]] → Line line0 due0 last0 → (g = 0 → Fol last0 [46]) → Line line (due0 ++ [[46]]) [46] → (AK0 (ws.drop i) ∨ ∃ r,ws.drop i = [46] :: r ∧ AK0 r) → LS ws i line last
 | snd {due lt} : last = [46] → Mr (ws.take i) due → Line line due lt → (lt = [46] ∨ lt = [46,46]) → AK0 (ws.drop i) → LS ws i line last
theorem LS.start {ws : List Wd} (h : D2 ws) : LS ws 0 [] [] := .no (by decide) (by rw [List.take_zero]; exact .nil) Line.nil h
theorem Line.add {line last p : List Nat} {due : List (List Nat)} {g : Nat} (h : Line line due last) (hp : U4 p) (hf : g = 0 → Fol last p) : Line (line ++ (List.replicate g 32 ++ p)) (due ++ [p]) p := by
 by_cases e : g = 0
 ·subst e
  exact h.zero hp (hf rfl)
 ·have := h.gap (g := g) (by omega) hp
  rw [List.append_assoc] at this
  exact this
theorem LS.step {ws : List Wd} {i g : Nat} {line : List Nat} {last p : Wd} (h : LS ws i line last) (hpi : ws[i]? = some p) (hp : U4 p) (ha : g = 0 → ¬ (Txt.isalnum (S (bI last)) = true ∧ Txt.isalnum (S p) = true)) : LS ws (i + 1) (line ++ (List.replicate g 32 ++ p)) p := by
 have et : ws.take (i + 1) = ws.take i ++ [p] := S4 hpi
 have hi := (List.getElem?_eq_some_iff.mp hpi).1
 have ed : ws.drop i = p :: ws.drop (i + 1) := by
  rw [List.drop_eq_getElem_cons hi]
  congr 1
  have := List.getElem?_eq_getElem hi
  rw [hpi] at this
  exact (Option.some.inj this).symm
 have nx : ∀ {n : Wd} {r : List Wd},n.head? ≠ some 46 → n ≠ [46] := fun h e=>h (by rw [e]; rfl)
 cases h with
 | @no due h1 h2 h3 h4 =>
  have hf : g = 0 → Fol last p := fun e=>lP hp (fun z=>absurd z h1) (ha e)
  have hl := h3.add hp hf
  rw [ed] at h4
  generalize hr' : ws.drop (i + 1) = rr at h4
  by_cases e : p = [46]
  ·subst e
   refine .fst (j := i) rfl rfl rfl h2 et h3 hf hl ?_
   rw [hr']
   cases h4 with
   | cons z _=>exact absurd rfl z
   | dot hn hr=>exact .inl ⟨_,_,rfl,hn,hr⟩
   | two hn hr=>exact .inr ⟨_,rfl,_,_,rfl,hn,hr⟩
  ·refine .no e (by rw [et]; exact h2.app (.cons .nil)) hl ?_
   rw [hr']
   cases h4 with
   | cons _ z=>exact z
   | dot hn hr=>exact absurd rfl e
   | two hn hr=>exact absurd rfl e
 | @fst j line0 due0 last0 g0 h1 h2 h3 h4 h5 h6 h7 h8 h9 =>
  subst h1
  rw [ed] at h9
  have hm : Mr (ws.take i) (due0 ++ [[46]]) := by rw [h5]; exact h4.app (.cons .nil)
  rcases h9 with ⟨n,r,e,hn,hr⟩ | ⟨r,e,hr⟩
  ·injection e with e1 e2
   subst e1
   have hf : g = 0 → Fol [46] p := fun e=>lP hp (fun _=>hn) (ha e)
   exact .no (nx (r := r) hn) (by rw [et]; exact hm.app (.cons .nil)) (h8.add hp hf) (by rw [e2]; exact hr)
  ·injection e with e1 e2
   subst e1
   by_cases eg : g = 0
   ·subst eg
    refine .snd (due := due0 ++ [[46,46]]) (lt := [46,46]) rfl ?_ ?_ (.inr rfl) (by rw [e2]; exact hr)
    ·rw [et,h5,List.append_assoc]
     exact h4.app (.two .nil)
    ·have := h6.add (g := g0) AC6 fun e=>(h7 e).head rfl
     rw [h3]
     have e3 : line0 ++ (List.replicate g0 32 ++ [46]) ++ (List.replicate 0 32 ++ [46]) = line0 ++ (List.replicate g0 32 ++ [46,46]) := by simp
     rw [e3]
     exact this
   ·exact .snd rfl (by rw [et]; exact hm.app (.cons .nil)) (h8.add hp fun e=>absurd e eg) (.inl rfl) (by rw [e2]; exact hr)
 | @snd due lt h1 h2 h3 h4 h5 =>
  subst h1
  rw [ed] at h5
  obtain ⟨n,r,e,hn,hr⟩ := h5
  injection e with e1 e2
  subst e1
  have hf : g = 0 → Fol lt p := fun e=>by
   rcases h4 with rfl | rfl
   ·exact lP hp (fun _=>hn) (ha e)
   ·exact BB2
  exact .no (nx (r := r) hn) (by rw [et]; exact h2.app (.cons .nil)) (h3.add hp hf) (by rw [e2]; exact hr)
theorem LS.ends {ws : List Wd} {line : List Nat} {last : Wd} (h : LS ws ws.length line last) : ∃ ws' lt,Mr ws ws' ∧ Line line ws' lt := by
 cases h with
 | no _ h2 h3 _=>rw [List.take_length] at h2; exact ⟨_,_,h2,h3⟩
 | fst _ _ _ h4 h5 _ _ h8 _ =>
  rw [List.take_length] at h5
  exact ⟨_,_,by rw [h5]; exact h4.app (.cons .nil),h8⟩
 | snd _ h2 h3 _ _=>rw [List.take_length] at h2; exact ⟨_,_,h2,h3⟩
end Law
namespace L2
open PySem PySem.Spec PyProof.Rows
section
variable {X : Cx}
def AJ6 (X : Cx) (es : List Expr) : TA := fun σ H Q=>∃ t,PA X es t ∧ t σ H Q
theorem Z2 {es : List Expr} : PA X es (AJ6 X es) := fun pos pins s σ H Q I ⟨_,h,g⟩=>h pos pins s σ H Q I g
def BL9 (X : Cx) (ss : List Stmt) : TS := fun D σ H=>∃ t,PSs X ss t ∧ t D σ H
theorem K3 {ss : List Stmt} : PSs X ss (BL9 X ss) := fun pins s σ H D I ⟨_,h,g⟩=>h pins s σ H D I g
end
end L2
namespace Law
open PySem L2 L2.Sp
section
variable {P : Program} {w : World} {K : PySem.W.Frag} {mg : Str → Option Value} {base : Heap} {f : Addr} {fd : FuncData}
def sD : Sp := fun args H Q _=>∃ (st : Addr) (x : Int) (m : Nat),args = [.ref st,.int (m : Int)] ∧ H st = some (.lst [.int x]) ∧ m ≤ 100 ∧ ∀ (H' : Hp) (l : Addr) (ns : List Wd),DS st H H' → H l = none → H' l = some (.lst (ST ns)) → ns.Nodup → ns.length ≤ m → (∀ n ∈ ns,O4 n) → (0 < m → ns ≠ []) → Q (.ref l) H'
theorem AQ9 (F : Fun K "_law_names" "_law_names" iQ f fd) (N : Cal P w K mg base 3 "_law_name" ["_law_state"] kX) (m1 : mg "range" = none) : FnOk P w K mg base K1 4 f fd ["_law_state","_law_many"] sD := by
 refine F.ok dF (fun vs H Q E h=>?_) (fun cdv A outer s H vs Q E hr h=>?_)
 ·obtain ⟨st,x,m,rfl,_⟩ := h
  rfl
 obtain ⟨st,x,m,rfl,hs,hm,q⟩ := h
 refine ⟨_,A7 (B9 (i := 2) dF.nd rfl (Or.inl rfl) (E5 A5))
  (A7 (R1 PassesOwn.never rfl (Q0 rfl m1 (A0 (pv 1) A5)) (K8 (i := 3) dF.nd rfl (Or.inl rfl))
   (A7 (B9 (i := 4) dF.nd rfl (Or.inl rfl) (B5 N hr rfl (A0 (pv 0) A5)))
   (A8 (E8 (B8 cJ (pv 4) (pv 2) rfl) (A8 (K5 (S5 PySem.F.plainAttrs_list PySem.F.slot_list_append PySem.F.type_list_append M0 (pv 2) (A0 (pv 4) A5)))) D6))))
  (A8 (B4 (pv 2)))),?_⟩
 have D0 := DS.start hs
 refine ⟨U2,fun l hl=>?_⟩
 have D1 := D0.put (o := .lst []) hl
 refine ⟨_,rfl,(m : Int),rfl,by omega,by omega,?_⟩
 refine Y7 (fun i σ H'=>∃ (ns : List Wd) (b3 b4 : Option V),σ = [some (.ref st),some (.int (m : Int)),some (.ref l),b3,b4] ∧ DS st H H' ∧ H' l = some (.lst (ST ns)) ∧ ns.Nodup ∧ ns.length ≤ i ∧ (∀ n ∈ ns,O4 n) ∧ (0 < i → ns ≠ []))
  ⟨[],none,none,rfl,D1,A6,List.nodup_nil,Nat.le_refl _,fun n hn=>(by cases hn),fun z=>absurd z (by decide)⟩ (fun i σ H' hi hinv=>?_) (fun σ H' hinv=>?_)
 ·obtain ⟨ns,b3,b4,rfl,d,hl',hd,hlen,hok,hnn⟩ := hinv
  obtain ⟨y,hy⟩ := d.s
  have nl := d.ne hl
  refine ⟨_,rfl,st,y,rfl,hy,fun H2 v d2 hv=>?_⟩
  have d' := d.more d2
  have hl2 := d2.g _ _ nl hl'
  refine ⟨_,rfl,_,rfl,l,_,rfl,.inl (SqL.of hl2),rfl,kL _,_,rfl,?_⟩
  show if (!cP (.str (S v)) (ST ns)) = true then _ else _
  rw [jI]
  by_cases e : v ∈ ns
  ·rw [decide_eq_true e]
   exact E2 ⟨ns,_,_,rfl,d',hl2,hd,by omega,hok,fun _ z=>by rw [z] at e; cases e⟩
  ·rw [decide_eq_false e]
   refine G0 ⟨_,rfl,.inl ⟨rfl,_,SqL.of hl2⟩,_,rfl,l,_,_,rfl,rfl,hl2,by rw [List.length_map]; exact T2 (by omega),ns ++ [v],some (.int (0 + (i : Int))),_,rfl,d'.put hl,?_,?_,by rw [List.length_append,List.length_singleton]; omega,fun n hn=>?_,fun _=>by simp⟩
   ·rw [A6]; simp [ST]
   ·rw [List.nodup_append]
    exact ⟨hd,by simp,fun a ha b hb=>by rw [List.mem_singleton.mp hb]; exact fun z=>e (z ▸ ha)⟩
   ·rcases List.mem_append.mp hn with z | z
    ·exact hok n z
    ·rw [List.mem_singleton.mp z]; exact hv
 ·obtain ⟨ns,b3,b4,rfl,d,hl',hd,hlen,hok,hnn⟩ := hinv
  exact ⟨_,rfl,q H' l ns d hl hl' hd hlen hok hnn⟩
def sC (K : PySem.W.Frag) : Sp := fun args H Q _=>∃ (p : Addr) (ns : List Wd),args = [.ref p] ∧ H p = some (.lst (ST ns)) ∧ ns.length ≤ 100 ∧ ∀ (H' : Hp) (l : Addr),Same H H' → H l = none → H' l = some (.lst (ST (G8 ns))) → Q (.ref l) H'
theorem AQ8 (F : Fun K "_law_path_words" "_law_path_words" iP f fd) (m1 : mg "int" = none) (m2 : mg "len" = none) : FnOk P w K mg base K1 1 f fd ["_law_path"] (sC K) := by
 refine F.ok dE (fun vs H Q E h=>?_) (fun cdv A outer s H vs Q E hr h=>?_)
 ·obtain ⟨p,ns,rfl,_⟩ := h
  rfl
 obtain ⟨p,ns,rfl,hp,hn,q⟩ := h
 refine ⟨_,A7 (B9 (i := 1) dE.nd rfl (Or.inl rfl) (E5 A5))
  (A7 (R1 PassesOwn.never rfl (fN (pv 0)) (K8 (i := 2) dE.nd rfl (Or.inl rfl))
   (A8 (P9 (i := 1) dE.nd rfl (Or.inl rfl) (E6 M6 (O6 bP (E5 (A0 B3 A5)) V7 (M7 (K6 dY rfl m1 cW (A0 (Q6 bF (J8 N5 rfl m2 PySem.boot_len (A0 (pv 1) A5)) B2 (D5 _)) A5)))) (E5 (A0 (pv 2) A5))) W7)))
  (A8 (B4 (pv 1)))),?_⟩
 refine ⟨U2,fun l hl=>?_⟩
 have k0 := A9 hl (.lst [])
 refine ⟨_,rfl,p,rfl,⟨_,SqL.of (k0 _ _ hp)⟩,?_⟩
 refine cQ (xs := ST ns) (fun i σ H'=>∃ b2 : Option V,σ = [some (.ref p),some (.ref l),b2] ∧ Same H H' ∧ H' l = some (.lst (ST (G8 (ns.take i))))) ⟨none,rfl,k0,A6⟩ (fun i σ H' _ ⟨_,_,g,_⟩=>SqL.of (g _ _ hp)) (fun i u σ H' hu hinv=>?_) (fun σ H' hinv=>?_)
 ·obtain ⟨b2,rfl,g,hl'⟩ := hinv
  obtain ⟨nm,hnm,rfl⟩ : ∃ nm,ns[i]? = some nm ∧ u = .str (S nm) := by
   rw [List.getElem?_map] at hu
   cases e : ns[i]? with
   | none=>rw [e] at hu; cases hu
   | some z=>rw [e] at hu; cases hu; exact ⟨z,rfl,rfl⟩
  refine ⟨_,rfl,L0,fun l1 hl1=>?_⟩
  rw [AH0]
  have k1 := A9 hl1 (.lst [.str (S [46])])
  have hl1' := k1 _ _ hl'
  refine ⟨_,rfl,l,_,rfl,.inl (SqL.of hl1'),_,_,rfl,rfl,_,rfl,_,rfl,l1,_,rfl,SqL.of A6,fun l2 hl2=>?_⟩
  have hfl : (decide ((0 : Int) < ((ST (G8 (ns.take i))).length : Int))) = decide (ns.take i ≠ []) := by
   rw [Bool.eq_iff_iff,decide_eq_true_iff,decide_eq_true_iff,List.length_map]
   constructor
   ·intro z e; rw [e] at z; exact absurd z (by decide)
   ·intro z
    have := kK (s := [46]) (rows := (ns.take i).map ([·])) (by simpa using z) (fun r hr=>by obtain ⟨n,_,rfl⟩ := List.mem_map.mp hr; simp)
    have := List.length_pos_iff.mpr this
    unfold G8
    omega
  have ecut : cV [V.str (S [46])] none (some (if decide ((0 : Int) < ((ST (G8 (ns.take i))).length : Int)) = true then (1 : Int) else 0)) = ST (if ns.take i = [] then [] else [[46]]) := by
   rw [hfl,hW]
   by_cases e : ns.take i = []
   ·rw [if_pos e,decide_eq_false (fun z=>z e)]; rfl
   ·rw [if_neg e,decide_eq_true e]; rfl
  rw [ecut]
  have k2 := A9 hl2 (.lst (ST (if ns.take i = [] then [] else [[46]])))
  refine ⟨_,rfl,L0,fun l3 hl3=>?_⟩
  have k3 := A9 hl3 (.lst [.str (S nm)])
  have hlen2 : (ST (if ns.take i = [] then [] else [[46]])).length ≤ 1 := by split <;> simp [ST]
  refine ⟨l2,l3,_,_,rfl,rfl,k3 _ _ A6,A6,U0 (by rw [List.length_singleton]; omega),fun l4 hl4=>?_⟩
  have k4 := A9 hl4 (.lst (ST (if ns.take i = [] then [] else [[46]]) ++ [.str (S nm)]))
  have kk := k1.trans (k2.trans (k3.trans k4))
  have hpl := gQ (ns.take i)
  rw [List.length_take] at hpl
  refine ⟨l,l4,_,_,rfl,rfl,kk _ _ hl',A6,U0 (by rw [List.length_append,List.length_map,List.length_singleton]; omega),some (.str (S nm)),rfl,fun b o h=>by rw [B6 (D9 h hl)]; exact kk _ _ (g _ _ h),?_⟩
  rw [A6,S4 hnm,pZ]
  simp [ST]
 ·obtain ⟨b2,rfl,g,hl'⟩ := hinv
  have e : ns.take (ST ns).length = ns := by rw [List.length_map,List.take_length]
  rw [e] at hl'
  exact ⟨_,rfl,q H' l g hl hl'⟩
end
theorem jC : (Str.ofString ":" : Str) = S [58] := by decide +kernel
theorem AT5 : W4 K4 := U6 (by decide) (by decide)
theorem wI : W4 Q5 := U6 (by decide) (by decide)
theorem WsF.sg {a c : Nat} {xs : List Wd} (hc : c ∈ P8) (hne : ([c] : Wd) ≠ [46]) (h : WsF a xs) : WsF (a + 1) ([c] :: xs) := WsF.cons (M5 hc) hne h
def WL (σ : St) (H0 : Hp) (t : TE) (ws : List Wd) (n : Nat) : Prop := ws.length ≤ n ∧ ∀ (H : Hp) (Q : VK),Same H0 H → (∀ l H',Same H H' → H' l = some (.lst (ST ws)) → Q (.ref l) H') → t σ H Q
section
variable {σ : St} {H0 : Hp}
theorem WL.var {i : Nat} {l : Addr} {ws : List Wd} {n : Nat} (hi : σ[i]? = some (some (.ref l))) (hl : H0 l = some (.lst (ST ws))) (hn : ws.length ≤ n) : WL σ H0 (gE i) ws n := ⟨hn,fun H Q g q=>⟨_,hi,q l H dH (g _ _ hl)⟩⟩
theorem WL.go {t : TE} {ws : List Wd} {n : Nat} {H : Hp} {Q : VK} (h : WL σ H0 t ws n) (g : Same H0 H) (q : ∀ l H',Same H H' → H' l = some (.lst (ST ws)) → Q (.ref l) H') : t σ H Q := h.2 H Q g q
theorem WL.cat {a b : TE} {wa wb : List Wd} {n m : Nat} (ha : WL σ H0 a wa n) (hb : WL σ H0 b wb m) (h : n + m ≤ 200000) : WL σ H0 (iG lE a b) (wa ++ wb) (n + m) := by
 refine ⟨by rw [List.length_append]; have := ha.1; have := hb.1; omega,fun H Q g q=>ha.2 H _ g fun l H1 g1 hl=>hb.2 H1 _ (g.trans g1) fun l2 H2 g2 hl2=>⟨l,l2,_,_,rfl,rfl,g2 _ _ hl,hl2,L7 ?_,fun p hp=>q p _ (g1.trans (g2.trans (A9 hp _))) ?_⟩⟩
 ·rw [List.length_map,List.length_map]; have := ha.1; have := hb.1; omega
 ·rw [A6]; simp [ST]
theorem WL.s1 {x : Str} {u : Wd} (h : x = S u) : WL σ H0 (iH (bD (tC (.str x)) aB)) [u] 1 := by
 subst h
 exact ⟨Nat.le_refl _,fun H Q g q=>⟨L0,fun p hp=>q p _ (A9 hp _) A6⟩⟩
theorem WL.s2 {x y : Str} {u v : Wd} (h : x = S u) (h' : y = S v) : WL σ H0 (iH (bD (tC (.str x)) (bD (tC (.str y)) aB))) [u,v] 2 := by
 subst h; subst h'
 exact ⟨Nat.le_refl _,fun H Q g q=>⟨R8,fun p hp=>q p _ (A9 hp _) A6⟩⟩
def EWL (X : Cx) (σ : St) (H0 : Hp) (e : Expr) (ws : List Wd) (n : Nat) : Prop := ∃ t,PE X e t ∧ WL σ H0 t ws n
section
variable {X : Cx}
theorem EWL.var (i : Nat) {x : Str} {pos : Pos} {l : Addr} {ws : List Wd} {n : Nat} (hi : σ[i]? = some (some (.ref l))) (hl : H0 l = some (.lst (ST ws))) (hn : ws.length ≤ n) (hN : X.N[i]? = some x := by rfl) (hv : uD X.env.scope x := by first | exact Or.inl rfl | exact Or.inr (Or.inl rfl) | exact Or.inr (Or.inr rfl)) (hd : (x == ("__debug__" : Str)) = false := by decide)
  (hcd : (x == ("__classdict__" : Str)) = false := by decide) : EWL X σ H0 (.Name x pos) ws n := ⟨_,pv i hN hv hd hcd,WL.var hi hl hn⟩
theorem EWL.cat {a b : Expr} {pos : Pos} {wa wb : List Wd} {n m : Nat} (ha : EWL X σ H0 a wa n) (hb : EWL X σ H0 b wb m) (h : n + m ≤ 200000) : EWL X σ H0 (.BinOp a .Add b pos) (wa ++ wb) (n + m) := by
 obtain ⟨ta,pa,wa⟩ := ha
 obtain ⟨tb,pb,wb⟩ := hb
 exact ⟨_,E6 M6 pa pb,WL.cat wa wb h⟩
theorem EWL.s1 {x : Str} {u : Wd} {j} {p pos : Pos} (h : x = S u) : EWL X σ H0 (.List [.Constant (.str x) j p] pos) [u] 1 := ⟨_,E5 (A0 B3 A5),WL.s1 h⟩
theorem EWL.s2 {x y : Str} {u v : Wd} {j j'} {p p' pos : Pos} (h : x = S u) (h' : y = S v) : EWL X σ H0 (.List [.Constant (.str x) j p,.Constant (.str y) j' p'] pos) [u,v] 2 := ⟨_,E5 (A0 B3 (A0 B3 A5)),WL.s2 h h'⟩
end
def LW (H : Hp) (l : Addr) (ws : List Wd) : Prop := H l = some (.lst (ST ws))
theorem LW.same {H H' : Hp} (g : Same H H') {ls : List Addr} {wss : List (List Wd)} (h : All2 (LW H) ls wss) : All2 (LW H') ls wss := by
 induction h with
 | nil=>exact .nil
 | cons a _ ih=>exact .cons (g _ _ a) ih
def WA (σ : St) (H0 : Hp) (t : TA) (wss : List (List Wd)) : Prop := ∀ (H : Hp) (Q : List V → Hp → Prop),Same H0 H → (∀ (ls : List Addr) H',Same H H' → All2 (LW H') ls wss → Q (ls.map V.ref) H') → t σ H Q
theorem WA.nil : WA σ H0 aB [] := fun H Q g q=>q [] H dH .nil
theorem WA.cons {a : TE} {r : TA} {ws : List Wd} {n : Nat} {wss : List (List Wd)} (ha : WL σ H0 a ws n) (hr : WA σ H0 r wss) : WA σ H0 (bD a r) (ws :: wss) :=
 fun H Q g q=>ha.2 H _ g fun l H1 g1 hl=>hr H1 _ (g.trans g1) fun ls H2 g2 hls=>q (l :: ls) H2 (g1.trans g2) (.cons (g2 _ _ hl) hls)
def EWA (X : Cx) (σ : St) (H0 : Hp) (es : List Expr) (wss : List (List Wd)) : Prop := ∃ t,PA X es t ∧ WA σ H0 t wss
theorem EWA.nil {X : Cx} : EWA X σ H0 [] [] := ⟨_,A5,WA.nil⟩
theorem EWA.cons {X : Cx} {e : Expr} {es : List Expr} {ws : List Wd} {n : Nat} {wss : List (List Wd)} (ha : EWL X σ H0 e ws n) (hr : EWA X σ H0 es wss) (hs : starEach (e :: es) X.env = (false,eval e X.env) :: starEach es X.env := by rfl) : EWA X σ H0 (e :: es) (ws :: wss) := by
 obtain ⟨ta,pa,wa⟩ := ha
 obtain ⟨tb,pb,wb⟩ := hr
 exact ⟨_,A0 pa pb hs,WA.cons wa wb⟩
theorem EWA.wa {X : Cx} {es : List Expr} {wss : List (List Wd)} (h : EWA X σ H0 es wss) : WA σ H0 (AJ6 X es) wss := by
 obtain ⟨t,p,w⟩ := h
 exact fun H Q g q=>⟨t,p,w H Q g q⟩
structure LL (H0 H : Hp) (a : Addr) (wss : List (List Wd)) : Prop where
 g : Same H0 H
 n : H0 a = none
 ex : ∃ ls : List Addr,ls ≠ [] ∧ H a = some (.lst (ls.map V.ref)) ∧ All2 (LW H) ls wss
theorem LW.put {H : Hp} {a : Addr} {ls0 : List Addr} {o : HO} (h0 : ls0 ≠ []) (ha : H a = some (.lst (ls0.map V.ref))) {ls : List Addr} {wss : List (List Wd)} (h : All2 (LW H) ls wss) : All2 (LW (E7 H a o)) ls wss := by
 induction h with
 | nil=>exact .nil
 | @cons l ws ls wss x _ ih =>
  refine .cons ?_ ih
  show E7 H a o l = _
  rw [B6]
  ·exact x
  ·intro e
   have x : H l = some (.lst (ST ws)) := x
   rw [e,ha] at x
   obtain ⟨b,bs,rfl⟩ := List.exists_cons_of_ne_nil h0
   cases ws <;> simp [ST] at x
theorem LL.start {t : TA} {wss : List (List Wd)} {H : Hp} {Q : VK} (h : WA σ H0 t wss) (g : Same H0 H) (h0 : wss ≠ []) (hl : wss.length ≤ 1000) (q : ∀ a H',LL H0 H' a wss → Q (.ref a) H') : iH t σ H Q := by
 refine h H _ g fun ls H1 g1 hls=>⟨Nat.le_of_lt (T2 (by rw [List.length_map,hls.length]; exact hl)),fun p hp=>q p _ ⟨g.trans (g1.trans (A9 hp _)),V4 (g.trans g1) hp,ls,fun z=>?_,A6,LW.same (A9 hp _) hls⟩⟩
 subst z
 cases hls
 exact h0 rfl
theorem LL.more {t : TA} {wss wss2 : List (List Wd)} {H : Hp} {a : Addr} {Q : VK} (L : LL H0 H a wss) (h : WA σ H0 t wss2) (hl : wss.length + wss2.length ≤ 1000) (q : ∀ H',LL H0 H' a (wss ++ wss2) → Q (.ref a) H') : iH t σ H fun y H1=>AM4 (.ref a) y H1 Q := by
 obtain ⟨ls0,h0,ha,hls0⟩ := L.ex
 refine h H _ L.g fun ls H1 g1 hls=>⟨Nat.le_of_lt (T2 (by rw [List.length_map,hls.length]; omega)),fun p hp=>?_⟩
 have gp := A9 hp (.lst (ls.map V.ref))
 have hap := gp _ _ (g1 _ _ ha)
 refine ⟨a,p,_,_,rfl,rfl,hap,A6,Nat.le_of_lt (T2 (by rw [List.length_map,List.length_map,hls.length,hls0.length]; exact hl)),q _ ⟨fun b o hb=>?_,L.n,ls0 ++ ls,by simp [h0],?_,?_⟩⟩
 ·rw [B6 (D9 hb L.n)]; exact gp _ _ (g1 _ _ (L.g _ _ hb))
 ·rw [A6,List.map_append]
 ·have e1 := LW.put (o := .lst (ls0.map V.ref ++ ls.map V.ref)) h0 hap (LW.same gp (LW.same g1 hls0))
  have e2 := LW.put (o := .lst (ls0.map V.ref ++ ls.map V.ref)) h0 hap (LW.same gp hls)
  exact e1.app e2
end
theorem tH : (Str.ofString "(" : Str) = S [40] := by decide +kernel
theorem tG : (Str.ofString ")" : Str) = S [41] := by decide +kernel
theorem lQm : (Str.ofString "?" : Str) = S [63] := by decide +kernel
theorem qD : (Str.ofString "zz" : Str) = S Q5 := by decide +kernel
theorem All2.at {α β : Type} {F : α → β → Prop} {as : List α} {bs : List β} (h : All2 F as bs) {i : Nat} {b : β} (hb : bs[i]? = some b) : ∃ a,as[i]? = some a ∧ F a b := by
 induction h generalizing i with
 | nil=>cases hb
 | @cons x y as bs a _ ih =>
  cases i with
  | zero=>cases hb; exact ⟨_,rfl,a⟩
  | succ i=>exact ih hb
structure W2 (B : Nat) (ws : List Wd) : Prop where
 ok : ∀ u ∈ ws,W4 u
 dot : D2 ws
 len : ws.length ≤ B
theorem WsF.w2 {B : Nat} {ws : List Wd} (h : WsF B ws) : W2 B ws := ⟨h.ok,h.dot.d2,h.len⟩
section
variable {P : Program} {w : World} {K : PySem.W.Frag} {mg : Str → Option Value} {base : Heap} {f : Addr} {fd : FuncData}
def oB : Sp := fun args H Q _=>∃ (lw st : Addr) (x : Int) (ws : List Wd),args = [.ref lw,.ref st] ∧ H st = some (.lst [.int x]) ∧ H lw = some (.lst (ST ws)) ∧ lw ≠ st ∧ W2 1700 ws ∧ ∀ (H' : Hp) (l : List Nat),DS st H H' → X6 l → l.length ≤ 99000 → (∀ c ∈ l,c < 128) → (∃ ws',Mr ws ws' ∧ G6 l = some ws') → Q (.str (S l)) H'
theorem AF2 (F : Fun K "_law_line" "_law_line" kA f fd) (N : Cal P w K mg base 1 "_law_next" ["_law_state","_law_many"] O9) (m1 : mg "max" = none) : FnOk P w K mg base K1 2 f fd ["_law_words_here","_law_state"] oB := by
 refine F.ok aN (fun vs H Q E h=>?_) (fun cdv A outer s H vs Q E hr h=>?_)
 ·obtain ⟨lw,st,x,ws,rfl,_⟩ := h
  rfl
 obtain ⟨lw,st,x,ws,rfl,hs,hlw,nls,hws,q⟩ := h
 refine ⟨_,A7 (B9 (i := 2) aN.nd rfl (Or.inl rfl) B3)
  (A7 (B9 (i := 3) aN.nd rfl (Or.inl rfl) B3)
  (A7 (R1 PassesOwn.never rfl (fN (pv 0)) (K8 (i := 4) aN.nd rfl (Or.inl rfl))
   (A7 (B9 (i := 5) aN.nd rfl (Or.inl rfl) (J8 (AA9 rfl) rfl m1 BC4 (A0 B2 (A0 (E6 Z3 (B5 N hr rfl (A0 (pv 1) (A0 B2 A5))) B2) A5))))
   (N3 (E8 (PW.pt (Z1 (B8 G7 (pv 5) B2 (D5 _)) (Z1 (N6 (yW PySem.F.plainAttrs_str PySem.F.slot_str_isalnum PySem.F.type_str_isalnum mP (O6 Y9 (pv 3) (M7 (rN lV B2)) V7))) (aE (N6 (yW PySem.F.plainAttrs_str PySem.F.slot_str_isalnum PySem.F.type_str_isalnum mP (pv 4)))))))
    (A8 (B9 (i := 5) aN.nd rfl (Or.inl rfl) B2)) D6)
   (A7 (P9 (i := 2) aN.nd rfl (Or.inl rfl) (E6 U1 (E6 mK B3 (pv 5)) (pv 4)) eJ)
   (A8 (B9 (i := 3) aN.nd rfl (Or.inl rfl) (pv 4)))))))
  (A8 (B4 (E6 U1 (pv 2) (E6 mK B3 (B5 N hr rfl (A0 (pv 1) (A0 B2 A5))))))))),?_⟩
 have D0 := DS.start hs
 have hwl := hws.len
 refine ⟨_,rfl,lw,rfl,⟨_,SqL.of hlw⟩,?_⟩
 refine cQ (xs := ST ws) (fun i σ H'=>∃ (line last : List Nat) (b4 b5 : Option V),σ = [some (.ref lw),some (.ref st),some (.str (S line)),some (.str (S last)),b4,b5] ∧ DS st H H' ∧ LS ws i line last ∧ line.length ≤ 56 * i ∧ last.length ≤ 54 ∧ ∀ c ∈ line,c < 128)
  ⟨[],[],none,none,by show _ = _; rw [iY]; rfl,D0,LS.start hws.dot,by simp,by simp,fun c hc=>(by cases hc)⟩ (fun i σ H' _ ⟨_,_,_,_,_,d,_⟩=>SqL.of (d.g _ _ nls hlw)) (fun i u σ H' hu hinv=>?_) (fun σ H' hinv=>?_)
 ·obtain ⟨line,last,b4,b5,rfl,d,hL,hll,hla,hasc⟩ := hinv
  obtain ⟨p,hpi,rfl⟩ : ∃ p,ws[i]? = some p ∧ u = .str (S p) := by
   rw [List.getElem?_map] at hu
   cases e : ws[i]? with
   | none=>rw [e] at hu; cases hu
   | some z=>rw [e] at hu; cases hu; exact ⟨z,rfl,rfl⟩
  have hi := (List.getElem?_eq_some_iff.mp hpi).1
  have hpo := hws.ok p (List.mem_of_getElem? hpi)
  have hpl := hpo.len
  obtain ⟨y,hy⟩ := d.s
  refine ⟨_,rfl,st,y,4,rfl,hy,by decide,fun y2 r b0 b1=>⟨_,_,rfl,rfl,_,_,rfl,?_⟩⟩
  have d2 := d.next y2
  obtain ⟨g0,hg0,eg0⟩ : ∃ g0 : Nat,g0 ≤ 2 ∧ (if r - 1 > 0 then r - 1 else 0) = (g0 : Int) := by
   have : r = 0 ∨ r = 1 ∨ r = 2 ∨ r = 3 := by omega
   rcases this with rfl | rfl | rfl | rfl
   ·exact ⟨0,by decide,by decide⟩
   ·exact ⟨0,by decide,by decide⟩
   ·exact ⟨1,by decide,by decide⟩
   ·exact ⟨2,by decide,by decide⟩
  rw [eg0]
  refine ⟨fun σ' H''=>∃ g : Nat,g ≤ 2 ∧ (g = 0 → ¬ (Txt.isalnum (S (bI last)) = true ∧ Txt.isalnum (S p) = true)) ∧ σ' = [some (.ref lw),some (.ref st),some (.str (S line)),some (.str (S last)),some (.str (S p)),some (.int (g : Int))] ∧ H'' = E7 H' st (.lst [.int y2]),?_,?_⟩
  ·refine ⟨_,rfl,rfl,_,rfl,M1 (fun c0=>?_) (fun c0=>E2 ⟨g0,hg0,fun z=>absurd (decide_eq_true (by rw [z]; rfl)) c0,rfl,rfl⟩)⟩
   refine ⟨_,rfl,_,rfl,_,rfl,_,rfl,O8 (by omega),?_⟩
   rw [show (- (1 : Int)) = -1 from rfl,wU]
   refine ⟨rfl,_,rfl,rfl,_,rfl,M1 (fun c1=>?_) (fun c1=>E2 ⟨g0,hg0,fun _ z=>c1 z.1,rfl,rfl⟩)⟩
   refine ⟨_,rfl,rfl,_,rfl,rfl,_,rfl,M1 (fun c2=>⟨1,by omega,fun z=>by omega,rfl,rfl⟩) (fun c2=>⟨g0,hg0,fun _ z=>c2 z.2,rfl,rfl⟩)⟩
  ·rintro σ' H'' ⟨g,hg,ha,rfl,rfl⟩
   refine ⟨_,rfl,_,rfl,_,_,rfl,rfl,by decide,by omega,by omega,_,rfl,?_⟩
   rw [zK g hg]
   have hrl : (List.replicate g 32).length ≤ 2 := by simp; omega
   refine ⟨_,_,rfl,rfl,W9 (by omega),?_⟩
   rw [aJ]
   have hrp : (List.replicate g 32 ++ p).length ≤ 56 := by rw [List.length_append]; omega
   refine ⟨_,_,rfl,rfl,W9 (by omega),?_⟩
   rw [aJ]
   refine ⟨_,rfl,line ++ (List.replicate g 32 ++ p),p,some (.str (S p)),some (.int (g : Int)),rfl,d2,hL.step hpi hpo.tok ha,by rw [List.length_append]; omega,hpl,fun c hc=>?_⟩
   ·rcases List.mem_append.mp hc with z | z
    ·exact hasc c z
    ·rcases List.mem_append.mp z with z | z
     ·rw [(List.mem_replicate.mp z).2]; decide
     ·exact hpo.asc c z
 ·obtain ⟨line,last,b4,b5,rfl,d,hL,hll,hla,hasc⟩ := hinv
  obtain ⟨y,hy⟩ := d.s
  rw [List.length_map] at hL
  obtain ⟨ws2,lt,hm2,hL⟩ := hL.ends
  rw [List.length_map] at hll
  refine ⟨_,rfl,_,rfl,st,y,2,rfl,hy,by decide,fun y2 r b0 b1=>?_⟩
  obtain ⟨g,rfl⟩ := Int.eq_ofNat_of_zero_le b0
  refine ⟨_,_,rfl,rfl,by decide,by omega,by omega,?_⟩
  rw [zK g (by omega)]
  refine ⟨_,_,rfl,rfl,W9 (by simp; omega),?_⟩
  rw [aJ]
  have hasc2 : ∀ c ∈ line ++ List.replicate g 32,c < 128 := fun c hc=>by
   rcases List.mem_append.mp hc with z | z
   ·exact hasc c z
   ·rw [(List.mem_replicate.mp z).2]; decide
  exact q _ _ (d.next y2) ⟨by simp; omega,fun c hc=>by have := hasc2 c hc; omega⟩ (by simp; omega) hasc2 ⟨ws2,hm2,AT4 hL g⟩
end
end Law
namespace Law
open PySem L2 L2.Sp
def EWS (X : Cx) (σ : St) (es : List Expr) (ws : List Wd) : Prop := ∃ t,PA X es t ∧ ∀ (H : Hp) (Q : List V → Hp → Prop),Q (ST ws) H → t σ H Q
section
variable {X : Cx} {σ : St} {H0 : Hp}
theorem EWS.nil : EWS X σ [] [] := ⟨_,A5,fun H Q q=>q⟩
theorem EWS.str {x : Str} {u : Wd} {j} {p : Pos} {es : List Expr} {ws : List Wd} (h : x = S u) (hr : EWS X σ es ws) (hs : starEach (.Constant (.str x) j p :: es) X.env = (false,eval (.Constant (.str x) j p) X.env) :: starEach es X.env := by rfl) : EWS X σ (.Constant (.str x) j p :: es) (u :: ws) := by
 subst h
 obtain ⟨t,pt,ht⟩ := hr
 exact ⟨_,A0 B3 pt hs,fun H Q q=>ht H _ q⟩
theorem EWS.var (i : Nat) {x : Str} {p : Pos} {u : Wd} {es : List Expr} {ws : List Wd} (hi : σ[i]? = some (some (.str (S u)))) (hr : EWS X σ es ws) (hN : X.N[i]? = some x := by rfl) (hv : uD X.env.scope x := by first | exact Or.inl rfl | exact Or.inr (Or.inl rfl) | exact Or.inr (Or.inr rfl)) (hd : (x == ("__debug__" : Str)) = false := by decide)
  (hcd : (x == ("__classdict__" : Str)) = false := by decide) (hs : starEach (.Name x p :: es) X.env = (false,eval (.Name x p) X.env) :: starEach es X.env := by rfl) : EWS X σ (.Name x p :: es) (u :: ws) := by
 obtain ⟨t,pt,ht⟩ := hr
 exact ⟨_,A0 (pv i hN hv hd hcd) pt hs,fun H Q q=>⟨_,hi,ht H _ q⟩⟩
theorem EWL.l {es : List Expr} {pos : Pos} {ws : List Wd} {n : Nat} (h : EWS X σ es ws) (hn : ws.length ≤ n) (hb : n ≤ 200000) : EWL X σ H0 (.List es pos) ws n := by
 obtain ⟨t,pt,ht⟩ := h
 exact ⟨_,E5 pt,hn,fun H Q g q=>ht H _ ⟨L7 (by rw [List.length_map]; omega),fun p hp=>q p _ (A9 hp _) A6⟩⟩
theorem EWS.any {es : List Expr} {ws : List Wd} {H : Hp} {Q : List V → Hp → Prop} (h : EWS X σ es ws) (q : Q (ST ws) H) : AJ6 X es σ H Q := by
 obtain ⟨t,pt,ht⟩ := h
 exact ⟨t,pt,ht H Q q⟩
end
theorem AI5 {α : Type} (f : α → V) (us : List α) (n : Nat) : cV (us.map f) (some (n : Int)) none = (us.drop n).map f := by
 unfold cV
 rw [HT.sIx_nat,HT.sIx_none]
 simp only [List.length_map]
 rw [← List.map_drop,← List.map_take]
 congr 1
 rcases Nat.le_total n us.length with h | h
 ·rw [Nat.min_eq_left h,List.take_of_length_le (by simp)]
 ·rw [Nat.min_eq_right h]
  simp [List.drop_of_length_le h]
theorem AH3 {X : Cx} {scope : Scope} {N' : List Str} {C : Addr} {fp : List Addr} {s : Shared} {H : Hp} : IxR (R4 X scope N' C fp s H) (AW5 X.K) := N4
theorem BG1 : (["_law_k","_law_words_here"] : List Str).Nodup := by decide +kernel
theorem mT : (Str.ofString "!" : Str) = S [33] := by decide +kernel
section
variable {P : Program} {w : World} {K : PySem.W.Frag} {mg : Str → Option Value} {base : Heap} {f : Addr} {fd : FuncData}
abbrev oU : Stmt := N0 56
theorem wZ : E4 ["_law_words_here","_law_state","_law_spots","_law_spot"] ["_law_words_here","_law_state"] (B1 oU) := ⟨rfl,rfl,rfl,by decide +kernel,rfl,by decide +kernel,by decide +kernel⟩
def wT : Sp := fun args H Q _=>∃ (lw st : Addr) (x : Int) (ws : List Wd),args = [.ref lw,.ref st] ∧ H st = some (.lst [.int x]) ∧ H lw = some (.lst (ST ws)) ∧ lw ≠ st ∧ ws.length ≤ 1000 ∧ (∃ u ∈ ws,u ≠ [33]) ∧
 ∀ (H' : Hp) (l : Addr) (a b : List Wd) (u : Wd),DS st H H' → H' l = some (.lst (ST (a ++ u :: u :: b))) → l ≠ st → ws = a ++ u :: b → u ≠ [33] → Q (.ref l) H'
theorem AZ5 (F : Fun K "_law_doubled" "_law_doubled" oU f fd) (N : Cal P w K mg base 1 "_law_next" ["_law_state","_law_many"] O9) (m1 : mg "range" = none) (m2 : mg "len" = none) : FnOk P w K mg base K1 2 f fd ["_law_words_here","_law_state"] wT := by
 refine F.ok wZ (fun vs H Q E h=>?_) (fun cdv A outer s H vs Q E hr h=>?_)
 ·obtain ⟨lw,st,x,ws,rfl,_⟩ := h
  rfl
 obtain ⟨lw,st,x,ws,rfl,hs,hlw,nls,hlen,hex,q⟩ := h
 refine ⟨_,A7 (fK (i := 2) (N' := ["_law_k","_law_words_here"]) (fr := [none,some 0]) (own := [0]) ⟨rfl,rfl,rfl,rfl,rfl,rfl,rfl⟩ rfl wZ.nd rfl rfl (Q0 rfl m1 (A0 (J8 N5 rfl m2 PySem.boot_len (A0 (pv 0) A5)) A5))
   (fun _ _ _ _=>K8 (i := 0) BG1 rfl (Or.inl rfl)) (X7 0) (fun _ _ _ _=>AP8 (B8 kH (J0 AH3 (pv 1) (pv 0) (fun _ _=>rfl)) B3 (D5 _))) (fun _ _ _ _=>pv 0)) K3,?_⟩
 refine ⟨_,rfl,lw,_,rfl,.inl (SqL.of hlw),(ws.length : Int),by rw [List.length_map],by omega,by omega,fun l hl=>?_⟩
 have D0 := DS.start hs
 refine aA (fun i ys H'=>Same H H' ∧ H' l = some (.lst ys) ∧ ∃ ks : List Nat,ys = ks.map (fun k : Nat=>V.int (k : Int)) ∧ ks.length ≤ i ∧ (∀ k ∈ ks,∃ u,ws[k]? = some u ∧ u ≠ [33]) ∧ ∀ k,k < i → (∃ u,ws[k]? = some u ∧ u ≠ [33]) → k ∈ ks)
  ⟨A9 hl _,A6,[],rfl,Nat.le_refl _,fun k hk=>(by cases hk),fun k hk=>(by omega)⟩ (fun i ys H' hi hinv=>?_) (fun ys H' hinv=>?_)
 ·obtain ⟨g,hl',ks,rfl,hkl,hks,hall⟩ := hinv
  have hi' : i < ws.length := by omega
  have hil := hi'
  dsimp only [aL,X5]
  refine ⟨_,rfl,_,rfl,lw,_,_,.str (S ws[i]),rfl,rfl,SqL.of (g _ _ hlw),?_,rfl,_,rfl,?_⟩
  ·rw [show (0 : Int) + (i : Int) = (i : Int) by omega]
   exact J7 (by rw [List.getElem?_map,List.getElem?_eq_getElem hi']; rfl)
  have eb : (!decide (V.str (S ws[i]) = V.str (Str.ofString "!"))) = !decide (ws[i] = [33]) := by
   congr 1
   rw [mT]
   by_cases e : ws[i] = [33]
   ·rw [e]; simp
   ·rw [decide_eq_false e,decide_eq_false fun z=>e (xS.mp z)]
  show if (!decide (V.str (S ws[i]) = V.str (Str.ofString "!"))) = true then _ else _
  rw [eb]
  by_cases e : ws[i] = [33]
  ·rw [decide_eq_true e]
   refine E2 ⟨g,hl',ks,rfl,by omega,hks,fun k hk hu=>?_⟩
   by_cases ek : k = i
   ·subst ek
    obtain ⟨u,hu,hne⟩ := hu
    rw [List.getElem?_eq_getElem hi'] at hu
    cases hu
    exact absurd e hne
   ·exact hall k (by omega) hu
  ·rw [decide_eq_false e]
   refine G0 ⟨_,rfl,hl',T2 (by rw [List.length_map]; omega),fun b o hb=>by rw [B6 (D9 hb hl)]; exact g _ _ hb,A6,ks ++ [i],by simp,by simp; omega,fun k hk=>?_,fun k hk hu=>?_⟩
   ·rcases List.mem_append.mp hk with z | z
    ·exact hks k z
    ·rw [List.mem_singleton.mp z]; exact ⟨_,List.getElem?_eq_getElem hi',e⟩
   ·by_cases ek : k = i
    ·subst ek; simp
    ·exact List.mem_append_left _ (hall k (by omega) hu)
 obtain ⟨g,hl',ks,rfl,hkl,hks,hall⟩ := hinv
 have hpos : 0 < ks.length := by
  obtain ⟨u,hu,hne⟩ := hex
  obtain ⟨k,hk⟩ := List.getElem?_of_mem hu
  have hkl := (List.getElem?_eq_some_iff.mp hk).1
  have := hall k (by omega) ⟨u,hk,hne⟩
  exact List.length_pos_iff.mpr fun z=>by rw [z] at this; cases this
 have d1 := D0.same g
 obtain ⟨y1,hy1⟩ := d1.s
 have nl : l ≠ st := D0.ne hl
 refine ⟨_,A7 (B9 (i := 3) wZ.nd rfl (Or.inl rfl) (J0 N4 (pv 2) (B5 N hr rfl (A0 (pv 1) (A0 (J8 N5 rfl m2 PySem.boot_len (A0 (pv 2) A5)) A5))) (fun _ _=>rfl)))
  (A8 (B4 (E6 M6 (E6 M6 (O6 bP (pv 0) V7 (M7 (pv 3))) (E5 (A0 (J0 N4 (pv 0) (pv 3) (fun _ _=>rfl)) A5))) (O6 bP (pv 0) (M7 (pv 3)) V7)))),?_⟩
 refine ⟨_,rfl,_,rfl,_,rfl,l,_,rfl,.inl (SqL.of hl'),st,y1,(ks.length : Int),by simp,hy1,by omega,fun y2 r b0 b1=>?_⟩
 have d2 := d1.next y2
 obtain ⟨j,rfl⟩ := Int.eq_ofNat_of_zero_le b0
 have hj : j < ks.length := by omega
 obtain ⟨u,hu,hne⟩ := hks ks[j] (List.getElem_mem hj)
 have hk := (List.getElem?_eq_some_iff.mp hu).1
 refine ⟨l,_,_,.int ((ks[j] : Nat) : Int),rfl,rfl,SqL.of (by rw [B6 nl]; exact hl'),J7 (by rw [List.getElem?_map,List.getElem?_eq_getElem hj]; rfl),?_⟩
 generalize ks[j] = k at hu hk
 have hlw2 : E7 H' st (.lst [.int y2]) lw = some (.lst (ST ws)) := by rw [B6 nls]; exact g _ _ hlw
 generalize E7 H' st (.lst [.int y2]) = H2 at d2 hlw2 ⊢
 obtain ⟨z2,hz2⟩ := d2.s
 refine ⟨_,rfl,_,rfl,_,rfl,lw,_,rfl,SqL.of hlw2,fun l1 hl1=>?_⟩
 rw [tX (fun w=>V.str (S w)) ws k]
 have e1 := A9 hl1 (.lst ((ws.take k).map fun w=>V.str (S w)))
 refine ⟨_,rfl,_,rfl,lw,_,_,.str (S u),rfl,rfl,SqL.of (e1 _ _ hlw2),J7 (by rw [List.getElem?_map,hu]; rfl),L0,fun l2 hl2=>?_⟩
 have e2 := A9 hl2 (.lst [.str (S u)])
 refine ⟨l1,l2,_,_,rfl,rfl,e2 _ _ A6,A6,L7 (by simp; omega),fun l3 hl3=>?_⟩
 have e3 := A9 hl3 (.lst ((ws.take k).map (fun w=>V.str (S w)) ++ [.str (S u)]))
 refine ⟨_,rfl,_,rfl,_,rfl,lw,_,rfl,SqL.of (e3 _ _ (e2 _ _ (e1 _ _ hlw2))),fun l4 hl4=>?_⟩
 rw [AI5 (fun w=>V.str (S w)) ws k]
 have e4 := A9 hl4 (.lst ((ws.drop k).map fun w=>V.str (S w)))
 refine ⟨l3,l4,_,_,rfl,rfl,e4 _ _ A6,A6,L7 (by simp; omega),fun l5 hl5=>?_⟩
 have ed : ws.drop k = u :: ws.drop (k + 1) := by
  rw [List.drop_eq_getElem_cons hk]
  congr 1
  have := List.getElem?_eq_getElem hk
  rw [hu] at this
  exact (Option.some.inj this).symm
 have g5 := e1.trans (e2.trans (e3.trans (e4.trans (A9 hl5 (.lst ((ws.take k).map (fun w=>V.str (S w)) ++ [.str (S u)] ++ (ws.drop k).map (fun w=>V.str (S w))))))))
 refine q _ l5 (ws.take k) (ws.drop (k + 1)) u (d2.same g5) ?_ ?_ ?_ hne
 ·rw [A6,ed]; simp [ST]
 ·exact Ne.symm (D9 (e4 _ _ (e3 _ _ (e2 _ _ (e1 _ _ hz2)))) hl5)
 ·rw [← ed,List.take_append_drop]
end
end Law
namespace Law
open PySem L2 L2.Sp
theorem lJ : (Str.ofString "[" : Str) = S [91] := by decide +kernel
theorem jB : (Str.ofString "]" : Str) = S [93] := by decide +kernel
theorem pE : (Str.ofString "{" : Str) = S [123] := by decide +kernel
theorem lK : (Str.ofString "}" : Str) = S [125] := by decide +kernel
theorem W6 : (Str.ofString "," : Str) = S [44] := by decide +kernel
theorem lA : (Str.ofString "a" : Str) = S aW := by decide +kernel
theorem lQa : (Str.ofString "\"a\"" : Str) = S [34,97,34] := by decide +kernel
section
variable {P : Program} {w : World} {K : PySem.W.Frag} {mg : Str → Option Value} {base : Heap} {f : Addr} {fd : FuncData}
abbrev oN : Stmt := N0 58
theorem AK8 : E4 ["_law_state","_law_name_here"] ["_law_state"] (B1 oN) := ⟨rfl,rfl,rfl,by decide +kernel,rfl,by decide +kernel,by decide +kernel⟩
def wQ : Sp := fun args H Q _=>∃ (st : Addr) (x : Int),args = [.ref st] ∧ H st = some (.lst [.int x]) ∧ ∀ (H' : Hp) (z u : Wd),DS st H H' → D7 z = true → z.length ≤ 20 → z ≠ K4 → u ∈ gU z → Q (.str (S u)) H'
theorem AY7 (F : Fun K "_law_odd_word" "_law_odd_word" oN f fd) (N : Cal P w K mg base 1 "_law_next" ["_law_state","_law_many"] O9) (LT : Cal P w K mg base 2 "_law_letters" ["_law_state","_law_many","_law_span_here"] rD) : FnOk P w K mg base K1 3 f fd ["_law_state"] wQ := by
 refine F.ok AK8 (fun vs H Q E h=>?_) (fun cdv A outer s H vs Q E hr h=>?_)
 ·obtain ⟨st,x,rfl,_⟩ := h
  rfl
 obtain ⟨st,x,rfl,hs,q⟩ := h
 have hr1 := hr.mono (show 1 ≤ 2 by decide)
 refine ⟨_,A7 (B9 (i := 1) AK8.nd rfl (Or.inl rfl) (E6 U1 B3 (B5 LT hr rfl (A0 (pv 0) (A0 (B5 N hr1 rfl (A0 (pv 0) (A0 B2 A5))) (A0 B2 A5)))))) K3,?_⟩
 have D0 := DS.start hs
 refine ⟨_,rfl,_,rfl,st,x,6,rfl,hs,by decide,fun y1 r b0 b1=>?_⟩
 have d1 := D0.next y1
 obtain ⟨m,rfl⟩ := Int.eq_ofNat_of_zero_le b0
 refine ⟨st,y1,m,26,rfl,A6,by omega,by decide,by decide,fun H2 v d2 hv hvl=>?_⟩
 have d12 := d1.more d2
 refine ⟨_,_,rfl,rfl,by rw [qD]; exact W9 (by show 2 + v.length ≤ _; omega),?_⟩
 rw [qD,aJ]
 have hz : D7 (Q5 ++ v) = true := by
  unfold D7
  rw [Bool.and_eq_true,decide_eq_true_iff,List.all_eq_true]
  refine ⟨by simp [Q5],fun c hc=>?_⟩
  rcases List.mem_append.mp hc with z | z
  ·revert z
   have : ∀ c ∈ Q5,P2 c = true := by decide
   exact this c
  ·exact hv c z
 have hzk : Q5 ++ v ≠ K4 := fun e=>by
  have := congrArg List.head? e
  cases this
 refine ⟨_,A8 (B4 (J0 N4 (E5 Z2) (B5 N hr1 rfl (A0 (pv 0) (A0 B2 A5))) (fun _ _=>rfl))),?_⟩
 refine EWS.any (ws := gU (Q5 ++ v)) ?ews ?_
 case ews=>exact EWS.var 1 rfl (EWS.str jC (EWS.str lQm (EWS.str W6 (EWS.str tG (EWS.str jB (EWS.str lK (EWS.str lQa (EWS.str AM1 (EWS.str lAt EWS.nil)))))))))
 refine ⟨by show 10 ≤ sizeLine; decide,fun l hl=>?_⟩
 have e1 := A9 hl (.lst (ST (gU (Q5 ++ v))))
 have d3 := d12.same e1
 obtain ⟨y3,hy3⟩ := d3.s
 refine ⟨_,rfl,st,y3,10,rfl,hy3,by decide,fun y4 r' c0 c1=>?_⟩
 obtain ⟨j,rfl⟩ := Int.eq_ofNat_of_zero_le c0
 have hj : j < (gU (Q5 ++ v)).length := by show j < 10; omega
 have nl : l ≠ st := by
  obtain ⟨y,hy⟩ := d12.s
  exact Ne.symm (D9 hy hl)
 refine ⟨l,_,_,.str (S (gU (Q5 ++ v))[j]),rfl,rfl,SqL.of (by rw [B6 nl]; exact A6),J7 (by rw [List.getElem?_map,List.getElem?_eq_getElem hj]; rfl),?_⟩
 exact q _ (Q5 ++ v) _ (d3.next y4) hz (by rw [List.length_append]; show 2 + v.length ≤ 20; omega) hzk (List.getElem_mem hj)
abbrev oO : Stmt := N0 57
theorem X3 : E4 ["_law_state","_law_tree_here","_law_words_here","_law_place","_law_name_here","_law_number_here","_law_some"] ["_law_state","_law_tree_here"] (B1 oO) := ⟨rfl,rfl,rfl,by decide +kernel,rfl,by decide +kernel,by decide +kernel⟩
def wR (K : PySem.W.Frag) : Sp := fun args H Q _=>∃ (st : Addr) (x : Int) (v : V) (pl : Bool) (t : Tn),args = [.ref st,v] ∧ H st = some (.lst [.int x]) ∧ GT J1 3 pl t ∧ TV K H t v ∧
 ∀ (H' : Hp) (l : Addr) (ns T p : List Wd) (nm : Wd) (i : Int),DS st H H' → H' l = some (.lst (ST p)) → l ≠ st → ns ≠ [] → ns.length ≤ 2 → (∀ n ∈ ns,O4 n) → O4 nm → X0 i → PrW J1 3 pl t T → p ∈ iC (G8 ns) nm (O7 i) T → Q (.ref l) H'
theorem AY8 (F : Fun K "_law_odd_part" "_law_odd_part" oO f fd) (N : Cal P w K mg base 1 "_law_next" ["_law_state","_law_many"] O9) (WS : Cal P w K mg base 12 "_law_words" ["_law_tree_here","_law_state"] (nY K 3)) (NMS : Cal P w K mg base 4 "_law_names" ["_law_state","_law_many"] sD) (PTW : Cal P w K mg base 1 "_law_path_words" ["_law_path"] (sC K))
  (NM : Cal P w K mg base 3 "_law_name" ["_law_state"] kX) (NO : Cal P w K mg base 2 "_law_number" ["_law_state"] wS) (m1 : mg "str" = none) : FnOk P w K mg base K1 13 f fd ["_law_state","_law_tree_here"] (wR K) := by
 refine F.ok X3 (fun vs H Q E h=>?_) (fun cdv A outer s H vs Q E hr h=>?_)
 ·obtain ⟨st,x,v,pl,t,rfl,_⟩ := h
  rfl
 obtain ⟨st,x,v,pl,t,rfl,hs,ht,hv,q⟩ := h
 have hr1 := hr.mono (show 1 ≤ 12 by decide)
 have hr2 := hr.mono (show 2 ≤ 12 by decide)
 have hr3 := hr.mono (show 3 ≤ 12 by decide)
 have hr4 := hr.mono (show 4 ≤ 12 by decide)
 refine ⟨_,A7 (B9 (i := 2) X3.nd rfl (Or.inl rfl) (B5 WS hr rfl (A0 (pv 1) (A0 (pv 0) A5)))) K3,?_⟩
 have D0 := DS.start hs
 refine ⟨_,rfl,_,rfl,v,st,x,pl,t,rfl,hs,ht,hv,fun H1 lt T d1 hlt0 hlt hw=>?_⟩
 obtain ⟨y1,hy1⟩ := d1.s
 refine ⟨_,A7 (B9 (i := 3) X3.nd rfl (Or.inl rfl) (E6 M6 (E5 (A0 B3 A5)) (B5 PTW hr1 rfl (A0 (B5 NMS hr4 rfl (A0 (pv 0) (A0 B2 A5))) A5)))) K3,?_⟩
 refine ⟨L0,fun l0 hl0=>?_⟩
 have g0 := A9 hl0 (.lst [.str (Str.ofString "@")])
 have d1' := d1.same g0
 obtain ⟨y2,hy2⟩ := d1'.s
 refine ⟨_,rfl,st,y2,2,rfl,hy2,by decide,fun H3 ln ns d3 hln0 hln hnd hn2 hnok hne=>?_⟩
 have n0 : l0 ≠ st := by
  obtain ⟨y,hy⟩ := d1.s
  exact Ne.symm (D9 hy hl0)
 have h03 := d3.g _ _ n0 (A6 (H := H1) (a := l0) (o := .lst [.str (Str.ofString "@")]))
 refine ⟨ln,ns,rfl,hln,by omega,fun H4 lq g4 hlq0 hlq=>?_⟩
 have hP : (G8 ns).length ≤ 100 := by have := gQ ns; omega
 refine ⟨l0,lq,_,_,rfl,rfl,g4 _ _ h03,hlq,L7 (by simp; omega),fun lp hlp=>?_⟩
 rw [lAt]
 have hpl : E7 H4 lp (.lst ([V.str (S [64])] ++ ST (G8 ns))) lp = some (.lst (ST ([64] :: G8 ns))) := by rw [A6]; rfl
 have g5 := A9 hlp (.lst ([V.str (S [64])] ++ ST (G8 ns)))
 have nlt : lt ≠ st := d1.ne hlt0
 have hlt5 := g5 _ _ (g4 _ _ (d3.g _ _ nlt (g0 _ _ hlt)))
 have d5 := ((d1'.more d3).same g4).same g5
 have nlp : lp ≠ st := by
  obtain ⟨y,hy⟩ := ((d1'.more d3).same g4).s
  exact Ne.symm (D9 hy hlp)
 generalize E7 H4 lp (.lst ([V.str (S [64])] ++ ST (G8 ns))) = H5 at hpl g5 hlt5 d5 ⊢
 obtain ⟨y5,hy5⟩ := d5.s
 refine ⟨_,A7 (B9 (i := 4) X3.nd rfl (Or.inl rfl) (B5 NM hr3 rfl (A0 (pv 0) A5)))
  (A7 (B9 (i := 5) X3.nd rfl (Or.inl rfl) (K6 dW rfl m1 fX (A0 (B5 NO hr2 rfl (A0 (pv 0) A5)) A5))) K3),?_⟩
 refine ⟨_,rfl,st,y5,rfl,hy5,fun H6 nm d6 hnm=>?_⟩
 obtain ⟨y6,hy6⟩ := d6.s
 refine ⟨_,rfl,st,y6,rfl,hy6,fun H7 i d7 hi=>?_⟩
 have hio : X0 i := Nat.lt_trans hi (by decide)
 refine ⟨_,rfl,mQ hio,?_⟩
 rw [← AB5]
 have d67 := d6.more d7
 have hT7 : H7 lt = some (.lst (ST T)) := d67.g _ _ nlt hlt5
 have hP7 : H7 lp = some (.lst (ST ([64] :: G8 ns))) := d67.g _ _ nlp hpl
 have d8 := d5.more d67
 obtain ⟨y7,hy7⟩ := d8.s
 have hT : T.length ≤ 1609 := iZ (by decide) hw
 have hP' : ([64] :: G8 ns : List Wd).length ≤ 101 := by simp; omega
 clear hpl hlt5 g0 g4 g5 hy1 hy2 hln hlq
 refine ⟨_,A7 (B9 (i := 6) X3.nd rfl (Or.inl rfl) (E5 Z2)) K3,?_⟩
 dsimp only [gG,rZ]
 refine LL.start (H0 := H7) (wss := [[[33]] ++ ([64] :: G8 ns),[[91]] ++ ([64] :: G8 ns) ++ [[93]],[[123],aW,[58]] ++ ([64] :: G8 ns) ++ [[125]]]) ?wa dH (by simp) (by simp) fun ls H8 L8=>?_
 case wa=>exact EWA.wa (EWA.cons ((EWL.s1 mT).cat (EWL.var 3 rfl hP7 hP') (by decide)) (EWA.cons (((EWL.s1 lJ).cat (EWL.var 3 rfl hP7 hP') (by decide)).cat (EWL.s1 jB) (by decide)) (EWA.cons (((EWL.l (n := 3) (EWS.str pE (EWS.str lA (EWS.str jC EWS.nil))) (by decide) (by decide)).cat (EWL.var 3 rfl hP7 hP') (by decide)).cat (EWL.s1 lK) (by decide)) EWA.nil)))
 refine ⟨_,A7 (P9 (i := 6) X3.nd rfl (Or.inl rfl) (E5 Z2) W7) K3,?_⟩
 dsimp only [gG,kT]
 refine ⟨_,rfl,?_⟩
 refine LL.more L8 (wss2 := [[[33],[40]] ++ ([64] :: G8 ns) ++ [[41]],[[91],[123],[125],[44]] ++ ([64] :: G8 ns) ++ [[93]]]) ?wa (by simp) fun H9 L9=>?_
 case wa=>exact EWA.wa (EWA.cons (((EWL.s2 mT tH).cat (EWL.var 3 rfl hP7 hP') (by decide)).cat (EWL.s1 tG) (by decide)) (EWA.cons (((EWL.l (n := 4) (EWS.str lJ (EWS.str pE (EWS.str lK (EWS.str W6 EWS.nil)))) (by decide) (by decide)).cat (EWL.var 3 rfl hP7 hP') (by decide)).cat (EWL.s1 jB) (by decide)) EWA.nil))
 refine ⟨_,A7 (P9 (i := 6) X3.nd rfl (Or.inl rfl) (E5 Z2) W7) K3,?_⟩
 dsimp only [gG,kT]
 refine ⟨_,rfl,?_⟩
 refine LL.more L9 (wss2 := [[[40],[33],[33]] ++ ([64] :: G8 ns) ++ [[41]],[[123],nm,[58]] ++ T ++ [[44],nm,[58]] ++ T ++ [[125]]]) ?wa (by simp) fun H10 L10=>?_
 case wa=>exact EWA.wa (EWA.cons (((EWL.l (n := 3) (EWS.str tH (EWS.str mT (EWS.str mT EWS.nil))) (by decide) (by decide)).cat (EWL.var 3 rfl hP7 hP') (by decide)).cat (EWL.s1 tG) (by decide)) (EWA.cons (((((EWL.l (n := 3) (EWS.str pE (EWS.var 4 rfl (EWS.str jC EWS.nil))) (Nat.le_refl _) (by decide)).cat (EWL.var 2 rfl hT7 hT) (by decide)).cat (EWL.l (n := 3) (EWS.str W6 (EWS.var 4 rfl (EWS.str jC EWS.nil))) (Nat.le_refl _) (by decide)) (by decide)).cat (EWL.var 2 rfl hT7 hT) (by decide)).cat (EWL.s1 lK) (by decide)) EWA.nil))
 refine ⟨_,A7 (P9 (i := 6) X3.nd rfl (Or.inl rfl) (E5 Z2) W7) K3,?_⟩
 dsimp only [gG,kT]
 refine ⟨_,rfl,?_⟩
 refine LL.more L10 (wss2 := [[[123],nm,[63],[58]] ++ T ++ [[44],nm,[58]] ++ T ++ [[125]]]) ?wa (by simp) fun H11 L11=>?_
 case wa=>exact EWA.wa (EWA.cons (((((EWL.l (n := 4) (EWS.str pE (EWS.var 4 rfl (EWS.str lQm (EWS.str jC EWS.nil)))) (Nat.le_refl _) (by decide)).cat (EWL.var 2 rfl hT7 hT) (by decide)).cat (EWL.l (n := 3) (EWS.str W6 (EWS.var 4 rfl (EWS.str jC EWS.nil))) (Nat.le_refl _) (by decide)) (by decide)).cat (EWL.var 2 rfl hT7 hT) (by decide)).cat (EWL.s1 lK) (by decide)) EWA.nil)
 refine ⟨_,A7 (P9 (i := 6) X3.nd rfl (Or.inl rfl) (E5 Z2) W7) K3,?_⟩
 dsimp only [gG,kT]
 refine ⟨_,rfl,?_⟩
 refine LL.more L11 (wss2 := [[[91]] ++ T ++ [[44],[93]],[[123],nm,[58]] ++ T ++ [[44],[125]],[[91],[46,46],[44]] ++ T ++ [[93]]]) ?wa (by simp) fun H12 L12=>?_
 case wa=>exact EWA.wa (EWA.cons (((EWL.s1 lJ).cat (EWL.var 2 rfl hT7 hT) (by decide)).cat (EWL.s2 W6 jB) (by decide)) (EWA.cons (((EWL.l (n := 3) (EWS.str pE (EWS.var 4 rfl (EWS.str jC EWS.nil))) (Nat.le_refl _) (by decide)).cat (EWL.var 2 rfl hT7 hT) (by decide)).cat (EWL.s2 W6 lK) (by decide)) (EWA.cons (((EWL.l (n := 3) (EWS.str lJ (EWS.str V9 (EWS.str W6 EWS.nil))) (by decide) (by decide)).cat (EWL.var 2 rfl hT7 hT) (by decide)).cat (EWL.s1 jB) (by decide)) EWA.nil)))
 refine ⟨_,A7 (P9 (i := 6) X3.nd rfl (Or.inl rfl) (E5 Z2) W7) K3,?_⟩
 dsimp only [gG,kT]
 refine ⟨_,rfl,?_⟩
 refine LL.more L12 (wss2 := [[[91]] ++ T ++ [[44],[46,46],[44],[46,46],[93]],[[46,46]],[O7 i,[46,46],O7 i,[46,46],O7 i]]) ?wa (by simp) fun H13 L13=>?_
 case wa=>exact EWA.wa (EWA.cons (((EWL.s1 lJ).cat (EWL.var 2 rfl hT7 hT) (by decide)).cat (EWL.l (n := 5) (EWS.str W6 (EWS.str V9 (EWS.str W6 (EWS.str V9 (EWS.str jB EWS.nil))))) (by decide) (by decide)) (by decide)) (EWA.cons (EWL.s1 V9) (EWA.cons (EWL.l (n := 5) (EWS.var 5 rfl (EWS.str V9 (EWS.var 5 rfl (EWS.str V9 (EWS.var 5 rfl EWS.nil))))) (Nat.le_refl _) (by decide)) EWA.nil)))
 refine ⟨_,A7 (P9 (i := 6) X3.nd rfl (Or.inl rfl) (E5 Z2) W7) K3,?_⟩
 dsimp only [gG,kT]
 refine ⟨_,rfl,?_⟩
 refine LL.more L13 (wss2 := [[[91],Q5,[93]],[[123],nm,[58],Q5,[125]],[[40],Q5,[41]],[[91],O7 i,[44],Q5,[93]]]) ?wa (by simp) fun H14 L14=>?_
 case wa=>exact EWA.wa (EWA.cons (EWL.l (n := 3) (EWS.str lJ (EWS.str qD (EWS.str jB EWS.nil))) (by decide) (by decide)) (EWA.cons (EWL.l (n := 5) (EWS.str pE (EWS.var 4 rfl (EWS.str jC (EWS.str qD (EWS.str lK EWS.nil))))) (Nat.le_refl _) (by decide)) (EWA.cons (EWL.l (n := 3) (EWS.str tH (EWS.str qD (EWS.str tG EWS.nil))) (by decide) (by decide)) (EWA.cons (EWL.l (n := 5) (EWS.str lJ (EWS.var 5 rfl (EWS.str W6 (EWS.str qD (EWS.str jB EWS.nil))))) (Nat.le_refl _) (by decide)) EWA.nil))))
 refine ⟨_,A8 (B4 (J0 N4 (pv 6) (B5 N hr1 rfl (A0 (pv 0) (A0 B2 A5))) (fun _ _=>rfl))),?_⟩
 obtain ⟨refs,hr0,hrl,hall0⟩ := L14.ex
 have hall : All2 (LW H14) refs (iC (G8 ns) nm (O7 i) T) := Eq.mp (congrArg (All2 _ _) (by simp [iC])) hall0
 have d14 := d8.same L14.g
 obtain ⟨y14,hy14⟩ := d14.s
 refine ⟨_,rfl,_,rfl,st,y14,18,rfl,hy14,by decide,fun y15 r b0 b1=>?_⟩
 obtain ⟨j,rfl⟩ := Int.eq_ofNat_of_zero_le b0
 have nls : ls ≠ st := Ne.symm (D9 hy7 L14.n)
 have hj : j < (iC (G8 ns) nm (O7 i) T).length := by show j < 18; omega
 obtain ⟨la,hla,hlw⟩ := hall.at (List.getElem?_eq_getElem hj)
 have hlw : H14 la = some (.lst (ST (iC (G8 ns) nm (O7 i) T)[j])) := hlw
 have nla : la ≠ st := fun e=>by
  rw [e,hy14] at hlw
  cases hh : (iC (G8 ns) nm (O7 i) T)[j] <;> rw [hh] at hlw <;> simp [ST] at hlw
 refine ⟨ls,_,_,.ref la,rfl,rfl,SqL.of (by rw [B6 nls]; exact hrl),?_,q _ la ns T _ nm i (d14.next y15) (by rw [B6 nla]; exact hlw) nla (hne (by decide)) hn2 hnok hnm hio hw (List.getElem_mem hj)⟩
 refine J7 ?_
 rw [List.getElem?_map,hla]
 rfl
end
end Law
namespace Law
open PySem L2 L2.Sp
theorem sY {ws ws' : List Wd} (m : Mr ws ws') : ws'.length ≤ ws.length ∧ ∀ u ∈ ws',u ∈ ws ∨ u = [46,46] := by
 induction m with
 | nil=>exact ⟨Nat.le_refl _,fun u hu=>(by cases hu)⟩
 | cons _ ih =>
  refine ⟨by simp; exact ih.1,fun u hu=>?_⟩
  rcases List.mem_cons.mp hu with rfl | hu
  ·exact .inl (by simp)
  ·rcases ih.2 u hu with h | h
   ·exact .inl (by simp [h])
   ·exact .inr h
 | two _ ih =>
  refine ⟨by simp; have := ih.1; omega,fun u hu=>?_⟩
  rcases List.mem_cons.mp hu with rfl | hu
  ·exact .inr rfl
  ·rcases ih.2 u hu with h | h
   ·exact .inl (by simp [h])
   ·exact .inr h
theorem W2.wsok {B : Nat} {ws ws' : List Wd} (h : W2 B ws) (hb : B ≤ 100000) (m : Mr ws ws') : WsOk ws' := by
 obtain ⟨h1,h2⟩ := sY m
 have ok : ∀ u ∈ ws',W4 u := fun u hu=>by
  rcases h2 u hu with h' | rfl
  ·exact h.ok u h'
  ·exact fW
 exact ⟨by have := h.len; omega,fun u hu=>(ok u hu).tok,fun u hu=>⟨by have := (ok u hu).len; omega,fun c hc=>by have := (ok u hu).asc c hc; omega⟩⟩
structure jO (ws : List Wd) : Prop where
 w : W2 1700 ws
 r : ∀ ws',Mr ws ws' → kR 9 ws'
theorem fZ {ws : List Wd} {B : Nat} (h : WsF B ws) (hB : B ≤ 1700) (hr : kR 9 ws) : jO ws := ⟨(h.mono hB).w2,fun ws' m=>by rw [h.dot.mr m]; exact hr⟩
theorem BD8 {u : Wd} (h : W4 u) : u ≠ [] := fun e=>by
 subst e
 rcases h.tok with h | h | h | h | h
 ·exact h.1 rfl
 ·obtain ⟨c,e,_⟩ := h.head
  cases e
 ·obtain ⟨b,_,e⟩ := h
  cases e
 ·cases h
 ·obtain ⟨c,_,e⟩ := h
  cases e
section
variable {t : Tn} {T : List Wd}
theorem BH4 : aV J1 3 = 529 := by decide
theorem aQ (h : PrW J1 3 true t T) : WsF 529 T := by have := iS mx1 3 true t T h; rwa [BH4] at this
theorem AT8 (h : PrW J1 3 true t T) {a b : List Wd} {u : Wd} (e : T = a ++ u :: b) (hu : u ≠ [33]) : jO (a ++ u :: u :: b) := by
 have hw := aQ h
 have hx := (bU h) [] ES.nil
 rw [List.append_nil] at hx
 subst e
 refine ⟨⟨fun v hv=>hw.ok v ?_,hw.dot.dbl,by have := hw.len; simp at this ⊢; omega⟩,fun ws' m=>AT7 (n := 7) hx hu (fun v hv=>BD8 (hw.ok v hv)) hw.dot m⟩
 simp only [List.mem_append,List.mem_cons] at hv ⊢
 rcases hv with h | h | h | h
 ·exact .inl h
 ·exact .inr (.inl h)
 ·exact .inr (.inl h)
 ·exact .inr (.inr h)
theorem AN3 (h : PrW J1 3 true t T) : ExpAble (Exn 8) true t T := (bU h).mono fun f r res=>Exn.mono (by decide)
theorem AZ6 {z u : Wd} (hz : D7 z = true) (hl : z.length ≤ 20) (hu : u ∈ gU z) : W4 u ∧ u ≠ [46] := by
 simp only [gU,List.mem_cons,List.not_mem_nil,or_false] at hu
 rcases hu with rfl | rfl | rfl | rfl | rfl | rfl | rfl | rfl | rfl | rfl
 ·exact ⟨U6 hz (by omega),(bW hz).2.2.2⟩
 ·exact ⟨M5 (by decide),by decide⟩
 ·exact ⟨M5 (by decide),by decide⟩
 ·exact ⟨M5 (by decide),by decide⟩
 ·exact ⟨M5 (by decide),by decide⟩
 ·exact ⟨M5 (by decide),by decide⟩
 ·exact ⟨M5 (by decide),by decide⟩
 ·exact ⟨(sP (b := [97]) (by decide) (by decide)).1,by decide⟩
 ·exact ⟨AT5,by decide⟩
 ·exact ⟨M5 (by decide),by decide⟩
theorem AS1 (h : PrW J1 3 true t T) {z u : Wd} (hz : D7 z = true) (hl : z.length ≤ 20) (hk : z ≠ K4) (hu : u ∈ gU z) : jO (T ++ [u]) := by
 obtain ⟨w1,w2⟩ := AZ6 hz hl hu
 exact fZ ((aQ h).app (WsF.cons w1 w2 WsF.nil)) (by decide) (AS0 (N := 8) ((AN3 h).mono (Exn.succ 8)) hz hk hu)
theorem AO3 (h : PrW J1 3 true t T) : ∀ ws ∈ iF T,jO ws := by
 have hw := aQ h
 intro ws hws
 refine fZ (B := 540) ?_ (by decide) (AO2 (n := 3) (M := 7) (by decide) h ws hws)
 have sg : ∀ {a : Nat} {xs : List Wd} (c : Nat),c ∈ P8 → ([c] : Wd) ≠ [46] → WsF a xs → WsF (a + 1) ([c] :: xs) := fun c h1 h2 h=>WsF.sg h1 h2 h
 simp only [iF,List.mem_cons,List.not_mem_nil,or_false] at hws
 rcases hws with rfl | rfl | rfl | rfl | rfl
 ·exact (sg 40 (by decide) (by decide) hw).mono (by decide)
 ·exact (hw.app (sg 38 (by decide) (by decide) WsF.nil)).mono (by decide)
 ·exact (sg 124 (by decide) (by decide) hw).mono (by decide)
 ·exact (hw.app (sg 124 (by decide) (by decide) (WsF.cons wI (by decide) WsF.nil))).mono (by decide)
 ·exact (WsF.cons wI (by decide) (sg 38 (by decide) (by decide) hw)).mono (by decide)
theorem AS4 : jO [] := fZ WsF.nil (by decide) AS3
theorem vK {ns T' : List Wd} {nm : Wd} {i : Int} (hn : ∀ n ∈ ns,O4 n) (hl : ns.length ≤ 2) (hnm : O4 nm) (hi : X0 i) (hT : WsF 529 T') : ∀ p ∈ iC (G8 ns) nm (O7 i) T',WsF 1080 p := by
 have hP := oZ hn (by omega)
 have sg : ∀ {a : Nat} {xs : List Wd} (c : Nat),c ∈ P8 → ([c] : Wd) ≠ [46] → WsF a xs → WsF (a + 1) ([c] :: xs) := fun c h1 h2 h=>WsF.sg h1 h2 h
 have w := U6 hnm.nm (by have := hnm.len; omega)
 have nn := (bW hnm.nm).2.2.2
 have cn : ∀ {a : Nat} {xs : List Wd},WsF a xs → WsF (a + 1) (nm :: xs) := fun h=>WsF.cons w nn h
 have ca : ∀ {a : Nat} {xs : List Wd},WsF a xs → WsF (a + 1) (aW :: xs) := fun h=>WsF.cons (U6 (by decide) (by decide)) (by decide) h
 have cz : ∀ {a : Nat} {xs : List Wd},WsF a xs → WsF (a + 1) (Q5 :: xs) := fun h=>WsF.cons wI (by decide) h
 have ci : ∀ {a : Nat} {xs : List Wd},WsF a xs → WsF (a + 1) (O7 i :: xs) := fun h=>WsF.cons (fQ hi).1 (fQ hi).2 h
 have cd : ∀ {a : Nat} {xs : List Wd},WsF a xs → WsF (a + 1) ([46,46] :: xs) := fun h=>WsF.cons fW (by decide) h
 have c33 : ∀ {a : Nat} {xs : List Wd},WsF a xs → WsF (a + 1) ([33] :: xs) := fun h=>sg 33 (by decide) (by decide) h
 have c40 : ∀ {a : Nat} {xs : List Wd},WsF a xs → WsF (a + 1) ([40] :: xs) := fun h=>sg 40 (by decide) (by decide) h
 have c41 : ∀ {a : Nat} {xs : List Wd},WsF a xs → WsF (a + 1) ([41] :: xs) := fun h=>sg 41 (by decide) (by decide) h
 have c91 : ∀ {a : Nat} {xs : List Wd},WsF a xs → WsF (a + 1) ([91] :: xs) := fun h=>sg 91 (by decide) (by decide) h
 have c93 : ∀ {a : Nat} {xs : List Wd},WsF a xs → WsF (a + 1) ([93] :: xs) := fun h=>sg 93 (by decide) (by decide) h
 have c123 : ∀ {a : Nat} {xs : List Wd},WsF a xs → WsF (a + 1) ([123] :: xs) := fun h=>sg 123 (by decide) (by decide) h
 have c125 : ∀ {a : Nat} {xs : List Wd},WsF a xs → WsF (a + 1) ([125] :: xs) := fun h=>sg 125 (by decide) (by decide) h
 have c44 : ∀ {a : Nat} {xs : List Wd},WsF a xs → WsF (a + 1) ([44] :: xs) := fun h=>sg 44 (by decide) (by decide) h
 have c58 : ∀ {a : Nat} {xs : List Wd},WsF a xs → WsF (a + 1) ([58] :: xs) := fun h=>sg 58 (by decide) (by decide) h
 have c63 : ∀ {a : Nat} {xs : List Wd},WsF a xs → WsF (a + 1) ([63] :: xs) := fun h=>sg 63 (by decide) (by decide) h
 have c64 : ∀ {a : Nat} {xs : List Wd},WsF a xs → WsF (a + 1) ([64] :: xs) := fun h=>sg 64 (by decide) (by decide) h
 intro p hp
 simp only [iC,List.mem_cons,List.not_mem_nil,or_false] at hp
 rcases hp with rfl | rfl | rfl | rfl | rfl | rfl | rfl | rfl | rfl | rfl | rfl | rfl | rfl | rfl | rfl | rfl | rfl | rfl
 ·exact (c33 (c64 hP)).mono (by decide)
 ·exact (c91 (c64 (hP.app (c93 WsF.nil)))).mono (by decide)
 ·exact (c123 (ca (c58 (c64 (hP.app (c125 WsF.nil)))))).mono (by decide)
 ·exact (c33 (c40 (c64 (hP.app (c41 WsF.nil))))).mono (by decide)
 ·exact (c91 (c123 (c125 (c44 (c64 (hP.app (c93 WsF.nil))))))).mono (by decide)
 ·exact (c40 (c33 (c33 (c64 (hP.app (c41 WsF.nil)))))).mono (by decide)
 ·exact (c123 (cn (c58 (hT.app (c44 (cn (c58 (hT.app (c125 WsF.nil))))))))).mono (by decide)
 ·exact (c123 (cn (c63 (c58 (hT.app (c44 (cn (c58 (hT.app (c125 WsF.nil)))))))))).mono (by decide)
 ·exact (c91 (hT.app (c44 (c93 WsF.nil)))).mono (by decide)
 ·exact (c123 (cn (c58 (hT.app (c44 (c125 WsF.nil)))))).mono (by decide)
 ·exact (c91 (cd (c44 (hT.app (c93 WsF.nil))))).mono (by decide)
 ·exact (c91 (hT.app (c44 (cd (c44 (cd (c93 WsF.nil))))))).mono (by decide)
 ·exact (cd WsF.nil).mono (by decide)
 ·exact (ci (cd (ci (cd (ci WsF.nil))))).mono (by decide)
 ·exact (c91 (cz (c93 WsF.nil))).mono (by decide)
 ·exact (c123 (cn (c58 (cz (c125 WsF.nil))))).mono (by decide)
 ·exact (c40 (cz (c41 WsF.nil))).mono (by decide)
 ·exact (c91 (ci (c44 (cz (c93 WsF.nil))))).mono (by decide)
theorem yY {ns T' : List Wd} {nm : Wd} {i : Int} (hnm : O4 nm) (hT : PrW J1 3 true t T') {rest : List Wd} (hr : J9 (hd rest) = false) : ∀ p ∈ iC (G8 ns) nm (O7 i) T',PB 8 p rest :=
 AX3 (M := 6) hnm.nm (Z5 i) (AN3 hT) (kF J1 3 true true t T' (fun _=>rfl) hT).head hr
theorem AC7 (h : PrW J1 3 true t T) {ns T' p : List Wd} {nm : Wd} {i : Int} (hn : ∀ n ∈ ns,O4 n) (hl : ns.length ≤ 2) (hnm : O4 nm) (hi : X0 i) (hT : PrW J1 3 true t T') (hp : p ∈ iC (G8 ns) nm (O7 i) T') : jO (T ++ [[124]] ++ p) ∧ jO (p ++ [[38],[40]] ++ T ++ [[41]]) := by
 have hw := vK hn hl hnm hi (aQ hT) p hp
 have hwT := aQ h
 constructor
 ·refine fZ ((hwT.app (WsF.sg (c := 124) (by decide) (by decide) WsF.nil)).app hw) (by decide) ?_
  rw [List.append_assoc]
  exact iT (M := 8) (n := 3) (by decide) h (.inr rfl) (yY hnm hT rfl p hp)
 ·refine fZ (((hw.app (WsF.sg (c := 38) (by decide) (by decide) (WsF.sg (c := 40) (by decide) (by decide) WsF.nil))).app hwT).app (WsF.sg (c := 41) (by decide) (by decide) WsF.nil)) (by decide) ?_
  rw [List.append_assoc,List.append_assoc]
  exact AE5 (M := 8) (yY hnm hT rfl p hp)
end
section
variable {P : Program} {w : World} {K : PySem.W.Frag} {mg : Str → Option Value} {base : Heap} {f : Addr} {fd : FuncData}
theorem qS : ∀ {T : List Wd},(∀ u ∈ T,u = [33]) → bangs T = T.length
 | [],_=>rfl
 | u :: T,h=>by
  have hu := h u (by simp)
  subst hu
  have ih := qS (T := T) fun v hv=>h v (by simp [hv])
  have eb : bangs ([33] :: T) = bangs T + 1 := by unfold bangs; rw [List.takeWhile_cons_of_pos (by decide)]; rfl
  rw [eb,ih]; rfl
theorem AW9 {t : Tn} {T : List Wd} (h : PrW J1 3 true t T) : ∃ u ∈ T,u ≠ [33] := by
 have hx := (bU h) [] ES.nil
 rw [List.append_nil] at hx
 obtain ⟨cs,e,hs⟩ := T9 7 _ _ _ _ hx
 rw [List.append_nil] at e
 subst e
 exact Classical.byContradiction fun hc=>by
  have hall : ∀ u ∈ T,u = [33] := fun u hu=>Classical.byContradiction fun z=>hc ⟨u,hu,z⟩
  obtain ⟨nres,⟨sres,hsg,e2⟩,hx⟩ := hx
  have eb : bangs T = T.length := qS hall
  rw [eb,List.drop_length] at hsg
  have := (jS (show jN (hd []) by decide)).mp hsg
  subst this
  subst e2
  cases hx
abbrev kE : Stmt := N0 59
theorem iO : E4 ["_law_tree_here","_law_state","_law_words_here","_law_way","_law_some","_law_piece"] ["_law_tree_here","_law_state"] (B1 kE) := ⟨rfl,rfl,rfl,by decide +kernel,rfl,by decide +kernel,by decide +kernel⟩
def sH (K : PySem.W.Frag) : Sp := fun args H Q _=>∃ (v : V) (st : Addr) (x : Int) (t : Tn),args = [v,.ref st] ∧ H st = some (.lst [.int x]) ∧ GT J1 3 true t ∧ TV K H t v ∧
 ∀ (H' : Hp) (l : Addr) (ws : List Wd),DS st H H' → H' l = some (.lst (ST ws)) → l ≠ st → jO ws → Q (.ref l) H'
theorem AR8 (F : Fun K "_law_bad" "_law_bad" kE f fd) (N : Cal P w K mg base 1 "_law_next" ["_law_state","_law_many"] O9) (WS : Cal P w K mg base 12 "_law_words" ["_law_tree_here","_law_state"] (nY K 3)) (DBL : Cal P w K mg base 2 "_law_doubled" ["_law_words_here","_law_state"] wT) (ODW : Cal P w K mg base 3 "_law_odd_word" ["_law_state"] wQ)
  (ODP : Cal P w K mg base 13 "_law_odd_part" ["_law_state","_law_tree_here"] (wR K)) : FnOk P w K mg base K1 14 f fd ["_law_tree_here","_law_state"] (sH K) := by
 refine F.ok iO (fun vs H Q E h=>?_) (fun cdv A outer s H vs Q E hr h=>?_)
 ·obtain ⟨v,st,x,t,rfl,_⟩ := h
  rfl
 obtain ⟨v,st,x,t,rfl,hs,ht,hv,q⟩ := h
 have hr1 := hr.mono (show 1 ≤ 13 by decide)
 have hr2 := hr.mono (show 2 ≤ 13 by decide)
 have hr3 := hr.mono (show 3 ≤ 13 by decide)
 have hr12 := hr.mono (show 12 ≤ 13 by decide)
 refine ⟨_,A7 (B9 (i := 2) iO.nd rfl (Or.inl rfl) (B5 WS hr12 rfl (A0 (pv 0) (A0 (pv 1) A5))))
  (A7 (B9 (i := 3) iO.nd rfl (Or.inl rfl) (B5 N hr1 rfl (A0 (pv 1) (A0 B2 A5)))) K3),?_⟩
 have D0 := DS.start hs
 refine ⟨_,rfl,_,rfl,v,st,x,true,t,rfl,hs,ht,hv,fun H1 lt T d1 hlt0 hlt hw=>?_⟩
 have nlt : lt ≠ st := d1.ne hlt0
 have hT : T.length ≤ 1609 := iZ (by decide) hw
 have hT5 : T.length ≤ 529 := (aQ hw).len
 obtain ⟨y1,hy1⟩ := d1.s
 refine ⟨_,rfl,st,y1,7,rfl,hy1,by decide,fun y2 way b0 b1=>?_⟩
 have d2 := (D0.more d1).next y2
 have hlt2 : E7 H1 st (.lst [.int y2]) lt = some (.lst (ST T)) := by rw [B6 nlt]; exact hlt
 have hv2 : TV K (E7 H1 st (.lst [.int y2])) t v := TV.kp d2.kp hv
 generalize E7 H1 st (.lst [.int y2]) = H2 at d2 hlt2 hv2 ⊢
 obtain ⟨z2,hz2⟩ := d2.s
 refine ⟨_,A7 (E8 (B8 aH (pv 3) B2 (D5 _)) (A8 (B4 (B5 DBL hr2 rfl (A0 (pv 2) (A0 (pv 1) A5))))) D6) K3,?_⟩
 refine ⟨_,rfl,_,_,rfl,rfl,_,rfl,M1 (fun _=>?_) (fun _=>?_)⟩
 ·refine ⟨_,rfl,_,rfl,lt,st,z2,T,rfl,hz2,hlt2,nlt,by omega,AW9 hw,fun H3 l a b u d3 hl nl e hu=>?_⟩
  exact q H3 l _ (d2.more d3) hl nl (AT8 hw e hu)
 refine ⟨_,A7 (E8 (B8 G7 (pv 3) B2 (D5 _)) (A8 (B4 (E6 M6 (pv 2) (E5 (A0 (B5 ODW hr3 rfl (A0 (pv 1) A5)) A5))))) D6) K3,?_⟩
 refine ⟨_,rfl,rfl,_,rfl,M1 (fun _=>?_) (fun _=>?_)⟩
 ·refine ⟨_,rfl,_,rfl,st,z2,rfl,hz2,fun H3 z u d3 hz hzl hzk hu=>⟨L0,fun l1 hl1=>?_⟩⟩
  have hlt3 := d3.g _ _ nlt hlt2
  have e1 := A9 hl1 (.lst [.str (S u)])
  refine ⟨lt,l1,_,_,rfl,rfl,e1 _ _ hlt3,A6,L7 (by simp; omega),fun l2 hl2=>?_⟩
  have e2 := A9 hl2 (.lst (ST T ++ [.str (S u)]))
  have d4 := ((d2.more d3).same e1)
  obtain ⟨z4,hz4⟩ := d4.s
  refine q _ l2 (T ++ [u]) (d4.same e2) (by rw [A6]; simp [ST]) (Ne.symm (D9 hz4 hl2)) (AS1 hw hz hzl hzk hu)
 refine ⟨_,A7 (E8 (B8 G7 (pv 3) B2 (D5 _)) K3 D6) K3,?_⟩
 refine ⟨_,rfl,rfl,_,rfl,M1 (fun _=>?_) (fun _=>?_)⟩
 ·refine ⟨_,A7 (B9 (i := 4) iO.nd rfl (Or.inl rfl) (E5 Z2)) K3,?_⟩
  dsimp only [gG,rZ]
  refine LL.start (H0 := H2) (wss := [[[40]] ++ T,T ++ [[38]],[[124]] ++ T,T ++ [[124],Q5],[Q5,[38]] ++ T]) ?wa dH (by simp) (by simp) fun ls H3 L3=>?_
  case wa=>exact EWA.wa (EWA.cons ((EWL.s1 tH).cat (EWL.var 2 rfl hlt2 hT) (by decide)) (EWA.cons ((EWL.var 2 rfl hlt2 hT).cat (EWL.s1 pG) (by decide)) (EWA.cons ((EWL.s1 pF).cat (EWL.var 2 rfl hlt2 hT) (by decide)) (EWA.cons ((EWL.var 2 rfl hlt2 hT).cat (EWL.s2 pF qD) (by decide)) (EWA.cons ((EWL.s2 qD pG).cat (EWL.var 2 rfl hlt2 hT) (by decide)) EWA.nil)))))
  refine ⟨_,A8 (B4 (J0 N4 (pv 4) (B5 N hr1 rfl (A0 (pv 1) (A0 B2 A5))) (fun _ _=>rfl))),?_⟩
  obtain ⟨refs,hr0,hrl,hall0⟩ := L3.ex
  have hall : All2 (LW H3) refs (iF T) := hall0
  have d3 := d2.same L3.g
  obtain ⟨y3,hy3⟩ := d3.s
  refine ⟨_,rfl,_,rfl,st,y3,5,rfl,hy3,by decide,fun y4 r c0 c1=>?_⟩
  obtain ⟨j,rfl⟩ := Int.eq_ofNat_of_zero_le c0
  have nls : ls ≠ st := Ne.symm (D9 hz2 L3.n)
  have hj : j < (iF T).length := by show j < 5; omega
  obtain ⟨la,hla,hlw⟩ := hall.at (List.getElem?_eq_getElem hj)
  have hlw : H3 la = some (.lst (ST (iF T)[j])) := hlw
  have nla : la ≠ st := fun e=>by
   rw [e,hy3] at hlw
   cases hh : (iF T)[j] <;> rw [hh] at hlw <;> simp [ST] at hlw
  refine ⟨ls,_,_,.ref la,rfl,rfl,SqL.of (by rw [B6 nls]; exact hrl),?_,q _ la _ (d3.next y4) (by rw [B6 nla]; exact hlw) nla (AO3 hw _ (List.getElem_mem hj))⟩
  refine J7 ?_
  rw [List.getElem?_map,hla]
  rfl
 refine ⟨_,A7 (E8 (B8 G7 (pv 3) B2 (D5 _)) (A8 (B4 (E5 A5))) D6) K3,?_⟩
 refine ⟨_,rfl,rfl,_,rfl,M1 (fun _=>?_) (fun _=>?_)⟩
 ·exact ⟨U2,fun l hl=>q _ l [] (d2.same (A9 hl _)) A6 (Ne.symm (D9 hz2 hl)) AS4⟩
 refine ⟨_,A7 (B9 (i := 5) iO.nd rfl (Or.inl rfl) (B5 ODP hr rfl (A0 (pv 1) (A0 (pv 0) A5)))) K3,?_⟩
 refine ⟨_,rfl,_,rfl,st,z2,v,true,t,rfl,hz2,ht,hv2,fun H3 lo ns T' p nm i d3 hlo nlo hn0 hn2 hnok hnm hi hT' hp=>?_⟩
 have hlt3 := d3.g _ _ nlt hlt2
 have d23 := d2.more d3
 obtain ⟨z3,hz3⟩ := d23.s
 obtain ⟨bad1,bad2⟩ := AC7 hw hnok hn2 hnm hi hT' hp
 have hpl := (vK hnok hn2 hnm hi (aQ hT') p hp).len
 refine ⟨_,A7 (E8 (B8 G7 (pv 3) B2 (D5 _)) (A8 (B4 (E6 M6 (E6 M6 (pv 2) (E5 (A0 B3 A5))) (pv 5)))) D6) K3,?_⟩
 refine ⟨_,rfl,rfl,_,rfl,M1 (fun _=>?_) (fun _=>?_)⟩
 ·have r1 : WL [some v,some (.ref st),some (.ref lt),some (.int way),none,some (.ref lo)] H3 (iG lE (iG lE (gE 2) (iH (bD (tC (.str (Str.ofString "|"))) aB))) (gE 5)) (T ++ [[124]] ++ p) (529 + 1 + 1080) := ((WL.var rfl hlt3 hT5).cat (WL.s1 pF) (by decide)).cat (WL.var rfl hlo hpl) (by decide)
  exact r1.go dH fun l H4 g4 hl=>q H4 l _ (d23.same g4) hl (fun e=>by
   have := g4 _ _ hz3
   rw [← e,hl] at this
   cases hT2 : T <;> rw [hT2] at this <;> simp [ST] at this) bad1
 refine ⟨_,A8 (B4 (E6 M6 (E6 M6 (E6 M6 (pv 5) (E5 (A0 B3 (A0 B3 A5)))) (pv 2)) (E5 (A0 B3 A5)))),?_⟩
 have r2 : WL [some v,some (.ref st),some (.ref lt),some (.int way),none,some (.ref lo)] H3 (iG lE (iG lE (iG lE (gE 5) (iH (bD (tC (.str (Str.ofString "&"))) (bD (tC (.str (Str.ofString "("))) aB)))) (gE 2)) (iH (bD (tC (.str (Str.ofString ")"))) aB))) (p ++ [[38],[40]] ++ T ++ [[41]]) (1080 + 2 + 529 + 1) := (((WL.var rfl hlo hpl).cat (WL.s2 pG tH) (by decide)).cat (WL.var rfl hlt3 hT5) (by decide)).cat (WL.s1 tG) (by decide)
 exact r2.go dH fun l H4 g4 hl=>q H4 l _ (d23.same g4) hl (fun e=>by
   have := g4 _ _ hz3
   rw [← e,hl] at this
   cases hp2 : p <;> rw [hp2] at this <;> simp [ST] at this) bad2
end
end Law
namespace Law
open PySem L2 L2.Sp
theorem BH5 : bootBuiltins "ValueError" = some (.type "ValueError") := by decide +kernel
section
variable {P : Program} {w : World} {K : PySem.W.Frag} {mg : Str → Option Value} {base : Heap} {f : Addr} {fd : FuncData} {R C : Addr}
abbrev fC : Stmt := N0 39
theorem eV : E4 ["_law_script","_law_many","_law_seeds_here","_law_k","_law_cell","_law_seed"] ["_law_script","_law_many"] (B1 fC) := ⟨rfl,rfl,rfl,by decide +kernel,rfl,by decide +kernel,by decide +kernel⟩
theorem BK8 : (["_law_k"] : List Str).Nodup := by decide +kernel
def oA (K : PySem.W.Frag) : Sp := fun args H Q _=>∃ (a : Addr) (ns : List Int) (m : Nat),args = [.ref a,.int (m : Int)] ∧ SqL K H a (ns.map V.int) ∧ ns.length ≤ 63 ∧ 1 ≤ m ∧ m ≤ 100 ∧ ∀ (H' : Hp) (l : Addr) (xs : List Int),Same H H' → H l = none → H' l = some (.lst (xs.map V.int)) → xs.length = m → Q (.ref l) H'
theorem AE9 (F : Fun K "_law_seeds" "_law_seeds" fC f fd) (m1 : mg "range" = none) (m2 : mg "enumerate" = none) : FnOk P w K mg base K1 1 f fd ["_law_script","_law_many"] (oA K) := by
 refine F.ok eV (fun vs H Q E h=>?_) (fun cdv A outer s H vs Q E hr h=>?_)
 ·obtain ⟨a,ns,m,rfl,_⟩ := h
  rfl
 obtain ⟨a,ns,m,rfl,hq,h63,hm1,hm2,q⟩ := h
 refine ⟨_,A7 (fK (i := 2) (N' := ["_law_k"]) (fr := [none]) (own := [0]) ⟨rfl,rfl,rfl,rfl,rfl,rfl,rfl⟩ rfl eV.nd rfl rfl (Q0 rfl m1 (A0 (pv 1) A5))
   (fun _ _ _ _=>K8 (i := 0) BK8 rfl (Or.inl rfl)) (X7 0) (fun _ _ _ _=>bT) (fun _ _ _ _=>E6 Q2 (E6 mL (pv 0) B2) B2))
  (A7 (R1 PassesOwn.never rfl (AQ0 rfl m2 (A0 (pv 0) A5)) (yU (n := 2) rfl (cI (K8 (i := 3) eV.nd rfl (Or.inl rfl)) (cI (K8 (i := 4) eV.nd rfl (Or.inl rfl)) vF)))
   (A7 (B9 (i := 5) eV.nd rfl (Or.inl rfl) (E6 Q2 (E6 mL (J0 N4 (pv 2) (E6 Z4 (pv 3) (pv 1)) (fun _ _=>rfl)) B2) (E6 Z4 (pv 4) (E6 iU B2 B2))))
   (A8 (yR (E6 Z4 (E6 Q2 (pv 5) (pv 3)) (E6 Z3 (E6 iU B2 B2) B2)) (yV (pv 2) (E6 Z4 (pv 3) (pv 1)) sJ)))))
  (A8 (B4 (pv 2)))),?_⟩
 refine ⟨_,rfl,(m : Int),rfl,by omega,by omega,fun l hl=>?_⟩
 refine aA (fun i ys H'=>Same H H' ∧ H' l = some (.lst ys) ∧ ∃ xs : List Int,ys = xs.map V.int ∧ xs.length = i) ⟨A9 hl _,A6,[],rfl,rfl⟩ (fun i ys H' hi ⟨g,h1,xs,e,hx⟩=>?_) (fun ys H' ⟨g,h1,xs,e,hx⟩=>?_)
 ·subst e
  dsimp only [aL,X5]
  refine nV ⟨_,rfl,_,_,rfl,rfl,.inr ⟨by decide,by decide⟩,_,_,rfl,rfl,h1,T2 (by rw [List.length_map]; omega),fun b o h=>by rw [B6 (D9 h hl)]; exact g _ _ h,A6,xs ++ [_],by rw [List.map_append]; rfl,by simp [hx]⟩
 ·subst e
  have hxm : xs.length = m := by simpa using hx
  refine ⟨_,rfl,a,rfl,⟨_,g.seq hq⟩,?_⟩
  refine AH7 (xs := ns.map V.int) (fun i σ Hx=>∃ (xs : List Int) (b3 b4 b5 : Option V),σ = [some (.ref a),some (.int (m : Int)),some (.ref l),b3,b4,b5] ∧ Same H Hx ∧ Hx l = some (.lst (xs.map V.int)) ∧ xs.length = m) ⟨xs,none,none,none,rfl,g,h1,hxm⟩
   (fun i σ Hx ⟨_,_,_,_,_,gx,_⟩=>gx.seq hq) (fun i y σ Hx T hy hinv hT=>?_) (fun σ Hx ⟨xs,b3,b4,b5,e,gx,hx,hl2⟩=>?_)
  ·obtain ⟨xs,b3,b4,b5,rfl,gx,hx,hxl⟩ := hinv
   obtain ⟨c,rfl⟩ := tK hy
   have hne : l ≠ T := fun e=>by rw [e,hT] at hx; cases hx
   obtain ⟨j,hj⟩ := Int.eq_ofNat_of_zero_le (Int.emod_nonneg (i : Int) (show (m : Int) ≠ 0 by omega))
   have hjm : j < xs.length := by have := Int.emod_lt_of_pos (i : Int) (show (0 : Int) < (m : Int) by omega); omega
   have hx2 : E7 Hx T (.tup [.int (i : Int),.int c]) l = some (.lst (xs.map V.int)) := by rw [B6 hne]; exact hx
   have gT : Same H (E7 Hx T (.tup [.int (i : Int),.int c])) := fun b o h=>A9 hT _ _ _ (gx _ _ h)
   have hixn : jF (xs.map V.int).length ((i : Int) % (m : Int)) = some j := by
    rw [hj,List.length_map]
    unfold jF
    rw [if_pos (by omega),if_pos (by omega)]; rfl
   refine ⟨T,_,rfl,SqT.of A6,rfl,_,_,rfl,_,_,rfl,rfl,?_⟩
   refine ⟨_,rfl,_,rfl,_,rfl,_,_,rfl,rfl,(by show (0 : Int) < (m : Int); omega),l,_,_,.int xs[j],rfl,rfl,SqL.of hx2,?_,_,_,rfl,rfl,.inr ⟨by decide,by decide⟩,_,rfl,_,_,rfl,rfl,⟨by decide,by decide,by decide⟩,_,_,rfl,rfl,(by show (0 : Int) < 10 ^ Int.toNat 30; decide),_,_,rfl,rfl,?_⟩
   ·rw [hj]; exact J7 (by rw [List.getElem?_map,List.getElem?_eq_getElem hjm]; rfl)
   refine ⟨_,rfl,_,rfl,_,_,rfl,rfl,_,_,rfl,rfl,⟨by decide,by decide,by decide⟩,_,_,rfl,rfl,_,_,rfl,rfl,(by show (0 : Int) < 2 ^ Int.toNat 61 - 1; decide),?_⟩
   refine ⟨_,rfl,_,rfl,_,rfl,_,_,rfl,rfl,(by show (0 : Int) < (m : Int); omega),l,_,_,j,rfl,rfl,hx2,hixn,?_⟩
   exact ⟨xs.set j _,_,_,_,rfl,fun b o h=>by rw [B6 (D9 h hl)]; exact gT _ _ h,by rw [A6,List.map_set],by rw [List.length_set]; exact hxl⟩
  ·subst e
   exact ⟨_,rfl,q Hx l xs gx hl hx hl2⟩
theorem Nm.cal {x : Str} {st : Stmt} {ps : List Str} {k : Nat} {sp : Sp} (n : Nm K mg x st ps) (h : ∀ f fd,Fun K x x st f fd → FnOk P w K mg base K1 k f fd ps sp) : Cal P w K mg base k x ps sp := by
 obtain ⟨f,fd,F,a,b,c⟩ := n.ex
 exact ⟨f,fd,h f fd F,a,b,c⟩
theorem Nm.no {x : Str} {st : Stmt} {ps N : List Str} (n : Nm K mg x st ps) (S : E4 N ps (B1 st)) (k : Nat) : Cal P w K mg base (k + 1) x ps (fun _ _ _ _=>False) :=
 n.cal fun f fd F=>F.ok S (fun vs H Q E h=>h.elim) (fun cdv A outer s H vs Q E hr h=>h.elim)
theorem rX (nT : Nm K mg "_law_tree" dI ["_law_state","_law_deep","_law_places"]) (N : Cal P w K mg base 1 "_law_next" ["_law_state","_law_many"] O9) (NM : Cal P w K mg base 3 "_law_name" ["_law_state"] kX) (NMS : Cal P w K mg base 4 "_law_names" ["_law_state","_law_many"] rC)
  (LF : Cal P w K mg base 4 "_law_leaf" ["_law_state"] (kW K aX)) (m1 : mg "range" = none) (m2 : mg "tuple" = none) : ∀ n,n ≤ 3 → Cal P w K mg base (5 + n) "_law_tree" ["_law_state","_law_deep","_law_places"] (eQ K n)
 | 0,h=>nT.cal fun f fd F=>vO F (nT.no cB 3) (fun n' e=>by omega) N NM NMS LF m1 m2 (by decide) h
 | n + 1,h=>nT.cal fun f fd F=>vO F (rX nT N NM NMS LF m1 m2 n (by omega)) (fun n' e=>congrArg (eQ K) (Nat.succ.inj e)) N NM NMS LF m1 m2 (show 4 ≤ 5 + n by omega) h
theorem xW (nW : Nm K mg "_law_words" pU ["_law_tree_here","_law_state"]) (nB : Nm K mg "_law_braced" pW ["_law_tree_here","_law_tying","_law_state"]) (nD : Nm K mg "_law_tied" pV ["_law_sign","_law_trees","_law_tying","_law_state"]) (N : Cal P w K mg base 1 "_law_next" ["_law_state","_law_many"] O9)
  (SPW : Cal P w K mg base 2 "_law_span_words" ["_law_tree_here","_law_state"] (qZ K)) (PTW : Cal P w K mg base 1 "_law_path_words" ["_law_path"] (rA K)) (ITW : Cal P w K mg base 1 "_law_items_words" ["_law_rows","_law_more"] rF) (m1 : mg "int" = none) (m2 : mg "len" = none) : ∀ n,n ≤ 3 → Cal P w K mg base (3 * n + 3) "_law_words" ["_law_tree_here","_law_state"] (nY K n)
 | 0,h=>nW.cal fun f fd F=>AL4 F (nB.no AD7 1) (nD.no sL 1) (fun n' e=>by omega) (fun n' e=>by omega) SPW PTW ITW m1 (by decide) h
 | n + 1,h=>by
  have W0 := xW nW nB nD N SPW PTW ITW m1 m2 n (by omega)
  have B0 : Cal P w K mg base (3 * n + 3 + 1) "_law_braced" ["_law_tree_here","_law_tying","_law_state"] (sG K n) := nB.cal fun f fd F=>BF9 F W0 N (by omega) (by omega)
  have T0 : Cal P w K mg base (3 * n + 3 + 1 + 1) "_law_tied" ["_law_sign","_law_trees","_law_tying","_law_state"] (wO K n) := nD.cal fun f fd F=>BF5 F B0 m2 (by omega)
  exact nW.cal fun f fd F=>AL4 F (B0.mono (Nat.le_succ _)) T0 (fun n' e=>congrArg (sG K) (Nat.succ.inj e)) (fun n' e=>congrArg (wO K) (Nat.succ.inj e)) SPW PTW ITW m1 (by omega) h
theorem never {X : Cx} : S7 (O0 X.prog X.w) X (fun _ _ _=>False) := by
 intro pins σ H s e s' I h
 obtain ⟨ex,cls,H',_,_,_,_,_,_,z⟩ := h
 exact z.elim
theorem AN7 {B : Nat} {ws : List Wd} (h : WsF B ws) (hb : B ≤ 100000) : WsOk ws := ⟨Nat.le_trans h.len hb,fun u hu=>(h.ok u hu).tok,fun u hu=>⟨by have := (h.ok u hu).len; omega,fun c hc=>by have := (h.ok u hu).asc c hc; omega⟩⟩
structure RF (K : PySem.W.Frag) (mg : Str → Option Value) (C : Addr) : Prop where
 nt : NT K mg C
 ex : ∃ M R N : Addr,XC K M [.type "ValueError",.type "Exception",.type "BaseException",.type "object"] "ValueError.__new__" ∧ PySem.W.mroIn K C (.ref M) = some true ∧ mg "MeetError" = some (.ref M) ∧ mg "Ring" = some (.ref R) ∧ mg "NoRow" = some (.ref N) ∧
  PySem.W.kitOne K (.ref C) (.ref C) = some true ∧ PySem.W.kitOne K (.ref C) (.type "ValueError") = some true ∧ PySem.W.kitOne K (.ref C) (.ref R) = some false ∧ PySem.W.kitOne K (.ref C) (.ref N) = some false
def xA : PyData := .list [.bool true,.bool true,.bool false,.bool false]
theorem sO {H : Hp} {l : Addr} (h : H l = some (.lst [.bl true,.bl true,.bl false,.bl false])) : R9 K H xA (.ref l) := by
 unfold xA
 simp only [R9]
 refine ⟨l,_,rfl,SqL.of h,?_⟩
 simp [X1,R9]
theorem AU2 {H H' : Hp} {d : D} {v : V} (g : Same H H') (h : DV K H d v) : DV K H' d v := DV.mono (DKeep.same g) _ _ h
theorem dX {X : Cx} {K : PySem.W.Frag} {ex C : Addr} {oe : Obj} {bmB : List Value} {newId : String} (c : XC K C bmB newId) (hK : X.K = K) (hp : (ex,oe) ∈ X.pn) (hc : oe.cls = .ref C) (hd : ∃ vs,oe.data = .fields vs) (hn : oe.dict = none) :
  T3 X (.builtin "isinstance") (fun xs H Q=>∃ v u b,xs = [.ref ex,v] ∧ (∀ z,RelV v z → z = u) ∧ PySem.W.kitOne K (.ref C) u = some b ∧ Q (.bl b) H) := by
 subst hK
 exact AB0 c hp hc hd hn
def AT : Nat → Tn → Prop
 | _,.non=>True
 | _,.bl _=>True
 | _,.int _=>True
 | _,.str w=>∀ c ∈ w,c < 1114112
 | 0,.tup _=>False
 | n + 1,.tup ts=>∀ t ∈ ts,AT n t
theorem AT.succ : ∀ (n : Nat) (t : Tn),AT n t → AT (n + 1) t
 | _,.non,_=>by simp [AT]
 | _,.bl _,_=>by simp [AT]
 | _,.int _,_=>by simp [AT]
 | n,.str w,h=>by cases n <;> simpa [AT] using h
 | 0,.tup _,h=>by simp [AT] at h
 | n + 1,.tup ts,h=>by
  simp only [AT] at h ⊢
  exact fun t ht=>AT.succ n t (h t ht)
theorem AT.mono {m n : Nat} (h : m ≤ n) {t : Tn} (x : AT m t) : AT n t := by
 induction h with
 | refl=>exact x
 | step _ ih=>exact AT.succ _ _ ih
mutual
def pd : Tn → PyData
 | .non=>.none
 | .bl b=>.bool b
 | .int i=>.int i
 | .str w=>.str (S w)
 | .tup ts=>.tuple (mJ ts)
def mJ : List Tn → List PyData
 | []=>[]
 | t :: ts=>pd t :: mJ ts
end
theorem AV2 {w : Wd} (h : ∀ c ∈ w,c < 1114112) : PyData.strOk (S w) = true := by
 unfold PyData.strOk
 simpa [S] using h
mutual
theorem TV.pd {H : Hp} : ∀ (t : Tn) (v : V),TV K H t v → R9 K H (Law.pd t) v
 | .non,v,h=>by simp only [TV] at h; simp only [Law.pd,R9]; exact h
 | .bl b,v,h=>by simp only [TV] at h; simp only [Law.pd,R9]; exact h
 | .int i,v,h=>by simp only [TV] at h; simp only [Law.pd,R9]; exact h
 | .str w,v,h=>by simp only [TV] at h; simp only [Law.pd,R9]; exact h
 | .tup ts,v,h=>by
  simp only [TV] at h; simp only [Law.pd,R9]
  obtain ⟨a,ys,e,h1,h2⟩ := h
  exact ⟨a,ys,e,h1,TAll.pd ts ys h2⟩
theorem TAll.pd {H : Hp} : ∀ (ts : List Tn) (vs : List V),TAll K H ts vs → X1 K H (mJ ts) vs
 | [],vs,h=>by simp only [TAll] at h; simp only [mJ,X1]; exact h
 | t :: ts,vs,h=>by
  simp only [TAll] at h; simp only [mJ,X1]
  obtain ⟨y,r,e,h1,h2⟩ := h
  exact ⟨y,r,e,TV.pd t y h1,TAll.pd ts r h2⟩
end
mutual
theorem xC : ∀ (n : Nat) (t : Tn),AT n t → (Law.pd t).canLay0 = true ∧ (Law.pd t).depth ≤ n
 | n,.non,_=>by simp [Law.pd,PyData.canLay0,PyData.depth]
 | n,.bl b,_=>by simp [Law.pd,PyData.canLay0,PyData.depth]
 | n,.int i,_=>by simp [Law.pd,PyData.canLay0,PyData.depth]
 | n,.str w,h=>by
  have : ∀ c ∈ w,c < 1114112 := by cases n <;> simpa [AT] using h
  simp [Law.pd,PyData.canLay0,PyData.depth,AV2 this]
 | 0,.tup ts,h=>by simp [AT] at h
 | n + 1,.tup ts,h=>by
  simp only [AT] at h
  have := yX n ts h
  simp only [Law.pd,PyData.canLay0,PyData.depth]
  exact ⟨this.1,by omega⟩
theorem yX : ∀ (n : Nat) (ts : List Tn),(∀ t ∈ ts,AT n t) → PyData.canLayAll0 (mJ ts) = true ∧ PyData.depthAll (mJ ts) ≤ n
 | n,[],_=>by simp [mJ,PyData.canLayAll0,PyData.depthAll]
 | n,t :: ts,h=>by
  have h1 := xC n t (h t (by simp))
  have h2 := yX n ts fun x hx=>h x (by simp [hx])
  simp only [mJ,PyData.canLayAll0,PyData.depthAll,h1.1,h2.1]
  exact ⟨rfl,by have := h1.2; have := h2.2; omega⟩
end
theorem pD {d : PyData} (h : d.canLay0 = true) : (!PyData.eqv d d) = false := by rw [PySem.SeqAt.eqv_refl d h]; rfl
theorem S6 {n : Nat} {w : Wd} (h : ∀ c ∈ w,c < 128) : AT n (.str w) := by cases n <;> simpa [AT] using fun c hc=>Nat.lt_trans (h c hc) (by decide)
theorem xR {n : Nat} {b : Bool} : AT n (.bl b) := by cases n <;> simp [AT]
theorem AN0 {n : Nat} {a : Option Int} : AT n (oI a) := by cases a <;> cases n <;> simp [AT,oI]
theorem cX {n : Nat} {ts : List Tn} (h : ∀ t ∈ ts,AT n t) : AT (n + 1) (.tup ts) := by simp only [AT]; exact h
theorem uC {n : Nat} {a b : Tn} (h1 : AT n a) (h2 : AT n b) : AT (n + 1) (.tup [a,b]) := cX fun t ht=>by
 simp at ht
 rcases ht with rfl | rfl
 ·exact h1
 ·exact h2
theorem at3 {n : Nat} {a b c : Tn} (h1 : AT n a) (h2 : AT n b) (h3 : AT n c) : AT (n + 1) (.tup [a,b,c]) := cX fun t ht=>by
 simp at ht
 rcases ht with rfl | rfl | rfl
 ·exact h1
 ·exact h2
 ·exact h3
theorem sX {n : Wd} (h : D7 n = true) : ∀ c ∈ n,c < 128 := fun c hc=>by
 unfold D7 at h
 rw [Bool.and_eq_true,List.all_eq_true] at h
 have := h.2 c hc
 unfold P2 at this
 simp only [Bool.and_eq_true,decide_eq_true_eq] at this
 omega
theorem yT : ∀ u ∈ L5,∀ c ∈ u,c < 128 := by decide
theorem AL9 {t : Tn} (h : aX t) : AT 1 t := by
 cases h with
 | word hu=>exact uC (S6 (by decide)) (S6 (yT _ hu))
 | span _ _ _=>exact at3 (S6 (by decide)) AN0 AN0
 | text hc hl=>exact uC (S6 (by decide)) (S6 fun c hm=>by
   have := hc c hm
   unfold T1 at this
   simp only [Bool.and_eq_true,decide_eq_true_eq] at this
   omega)
theorem AL1 {t : Tn} (h : uG t) : AT 2 t := by
 cases h with
 | mk h0 hl hn =>
  refine uC (S6 (by decide)) (cX fun t ht=>?_)
  obtain ⟨n,hn',rfl⟩ := List.mem_map.mp ht
  exact S6 (sX (hn n hn').nm)
theorem xN {mx : Nat → Nat} : ∀ (n : Nat) (pl : Bool) (t : Tn),GT mx n pl t → AT (3 * n + 2) t
 | 0,pl,t,h=>by
  rcases h with h | ⟨_,h⟩
  ·exact (AL9 h).mono (by omega)
  ·exact AL1 h
 | n + 1,pl,t,h=>by
  have ih := xN (mx := mx) n
  have e : 3 * (n + 1) + 2 = (3 * n + 2) + 1 + 1 + 1 := by omega
  rcases h with h | ⟨_,h⟩ | ⟨ts,m,rfl,hl,hg⟩ | ⟨fs,m,rfl,hl,_,hg⟩ | ⟨t',rfl,hg⟩ | ⟨k,ts,hk,rfl,_,hl,hg⟩
  ·exact (AL9 h).mono (by omega)
  ·exact (AL1 h).mono (by omega)
  ·rw [e]
   exact AT.succ _ _ (at3 (S6 (by decide)) (cX fun t ht=>ih false t (hg t ht)) xR)
  ·rw [e]
   refine at3 (S6 (by decide)) (cX fun t ht=>?_) xR
   obtain ⟨f,hf,rfl⟩ := List.mem_map.mp ht
   exact at3 (S6 (sX (hg f hf).1.nm)) (ih false _ (hg f hf).2) xR
  ·rw [e]
   exact AT.succ _ _ (AT.succ _ _ (uC (S6 (by decide)) (ih false t' hg)))
  ·rw [e]
   exact AT.succ _ _ (uC (S6 (by rcases hk with rfl | rfl <;> decide)) (cX fun t ht=>ih pl t (hg t ht)))
abbrev oJ : Stmt := N0 60
theorem rJ : E4 ["_law_text_here","_law_by_row","_law_found","e"] ["_law_text_here","_law_by_row"] (B1 oJ) := ⟨rfl,rfl,rfl,by decide +kernel,rfl,by decide +kernel,by decide +kernel⟩
def Rf3 (K : PySem.W.Frag) (C : Addr) (N : Nat) (v : V) (b : Bool) (H : Hp) : Prop := ∀ (H1 : Hp) (Q : VK) (E : XK),Same H H1 → (∀ H',Same H1 H' → E (.ref C) none H') →
 (b = true → W5 K C (cY (Exn N)) [v] H1 Q E) ∧ (b = false → W5 K C (bO N) [v] H1 Q E)
def wP (K : PySem.W.Frag) (C : Addr) (N : Nat) : Sp := fun args H Q _=>∃ (v : V) (b : Bool),args = [v,.bl b] ∧ Rf3 K C N v b H ∧ ∀ H',Same H H' → Q (.bl true) H'
theorem AY3 {N : Nat} (F : Fun K "_law_refused" "_law_refused" oJ f fd) (ROW : M2 P w K mg base (5 * N + 8) "read_row" ["line"] (W5 K C (cY (Exn N)))) (READ : M2 P w K mg base (5 * N + 8) "read" ["text"] (W5 K C (bO N)))
  (n : RF K mg C) (m1 : mg "isinstance" = none) (m2 : mg "ValueError" = none) : FnOk P w K mg base K1 (5 * N + 9) f fd ["_law_text_here","_law_by_row"] (wP K C N) := by
 refine F.ok rJ (fun vs H Q E h=>?_) (fun cdv A outer s H vs Q E hr h=>?_)
 ·obtain ⟨v,b,rfl,_⟩ := h
  rfl
 obtain ⟨v,b,rfl,h,q⟩ := h
 obtain ⟨M,R,N',cM,hb,gM,gR,gN,k1,k2,k3,k4⟩ := n.ex
 refine ⟨_,A7 (B9 (i := 2) rJ.nd rfl (Or.inl rfl) (E5 A5))
  (A7 (AW7 (i := 3) rfl rfl n.nt.xc cM hb rfl gM rJ.nd rfl rfl (fun pn xe E' hP=>A8 (E8 (N6 (pv 1)) (A8 (K5 (J4 ROW hr rfl hP (A0 (pv 0) A5))))
    (A8 (K5 (J4 READ hr rfl hP (A0 (pv 0) A5))))))
   (fun ex oe h1 h2 h3=>A8 (B9 (i := 2) rJ.nd rfl (Or.inl rfl) (E5 (A0 (J8 (dX n.nt.xc rfl List.mem_cons_self h1 h2 h3) rfl m1 fY (A0 (pv 3) (A0 (U7 (v := .ref C) rfl n.nt.mg rfl) A5)))
    (A0 (J8 (dX n.nt.xc rfl List.mem_cons_self h1 h2 h3) rfl m1 fY (A0 (pv 3) (A0 (oY (v := .ty "ValueError") rfl m2 BH5 rfl) A5)))
    (A0 (J8 (dX n.nt.xc rfl List.mem_cons_self h1 h2 h3) rfl m1 fY (A0 (pv 3) (A0 (U7 (v := .ref R) rfl gR rfl) A5)))
    (A0 (J8 (dX n.nt.xc rfl List.mem_cons_self h1 h2 h3) rfl m1 fY (A0 (pv 3) (A0 (U7 (v := .ref N') rfl gN rfl) A5))) A5))))))))
  (A8 (B4 (Q6 (AX6 hr.units) (pv 2) (E5 (A0 N7 (A0 N7 (A0 N7 (A0 N7 A5))))) (D5 _))))),?_⟩
 refine ⟨U2,fun l0 hl0=>?_⟩
 have g0 := A9 hl0 (.lst [])
 refine ⟨_,rfl,_,rfl,?_⟩
 cases b
 refine E2 ⟨_,rfl,?_⟩
 dsimp only [aB,List.cons_append,List.nil_append]
 refine (h _ _ _ g0 ?_).2 rfl
 rotate_left
 refine G0 ⟨_,rfl,?_⟩
 dsimp only [aB,List.cons_append,List.nil_append]
 refine (h _ _ _ g0 ?_).1 rfl
 rotate_left
 all_goals
  intro H' g
  refine ⟨rfl,fun σ' ex hσ hx=>?_⟩
  obtain ⟨a0,a1,a2,a3,rfl⟩ : ∃ a0 a1 a2 a3,σ' = [a0,a1,a2,a3] := by
   match σ',hσ with
   | [a0,a1,a2,a3],_=>exact ⟨a0,a1,a2,a3,rfl⟩
  refine ⟨_,rfl,.ref C,.ref C,true,rfl,fun z hz=>hz,k1,_,rfl,.ty "ValueError",.type "ValueError",true,rfl,fun z hz=>hz,k2,_,rfl,.ref R,.ref R,false,rfl,fun z hz=>hz,k3,_,rfl,.ref N',.ref N',false,rfl,fun z hz=>hz,k4,AG7,fun l1 hl1=>?_⟩
  have e1 := A9 hl1 (.lst [.bl true,.bl true,.bl false,.bl false])
  refine ⟨_,rfl,AG7,fun l2 hl2=>?_⟩
  have e2 := A9 hl2 (.lst [.bl true,.bl true,.bl false,.bl false])
  exact ⟨xA,xA,sO (e2 _ _ A6),sO A6,rfl,rfl,by decide,q _ fun b o h=>e2 _ _ (e1 _ _ (g _ _ (g0 _ _ h)))⟩
theorem AA8 (l : List Nat) : G6 ([97,58,32] ++ l) = (G6 l).map ([aW,[58]] ++ ·) := by
 have L1 : Line [97] [aW] aW := Line.nil.zero (p := aW) (.inl ⟨by decide,by decide⟩) (fun d hd=>by cases hd; exact ⟨fun h=>absurd rfl h.1,fun h=>(by obtain ⟨c,e,_⟩ := h.head; cases e),fun h=>by cases h⟩)
 have L2 : Line [97,58] [aW,[58]] [58] := L1.zero (p := [58]) (.inr (.inr (.inr (.inr ⟨58,by decide,rfl⟩)))) (fun d hd=>by cases hd; exact ⟨fun _=>by decide,fun _=>by decide,fun _=>by decide⟩)
 have e := L2.all (s := 32 :: l) Fol.sp
 have e2 := dA 1 l
 rw [show List.replicate 1 32 ++ l = 32 :: l from rfl] at e2
 rw [e2] at e
 exact e
theorem AJ7 (l : List Nat) : G6 ([97,46,98,58,32] ++ l) = (G6 l).map ([aW,[46],[98],[58]] ++ ·) := by
 have tk : ∀ c ∈ P8,U4 [c] := fun c hc=>.inr (.inr (.inr (.inr ⟨c,hc,rfl⟩)))
 have L1 : Line [97] [aW] aW := Line.nil.zero (p := aW) (.inl ⟨by decide,by decide⟩) (fun d hd=>by cases hd; exact ⟨fun h=>absurd rfl h.1,fun h=>(by obtain ⟨c,e,_⟩ := h.head; cases e),fun h=>by cases h⟩)
 have L2 : Line [97,46] [aW,[46]] [46] := L1.zero (p := [46]) (tk 46 (by decide)) (fun d hd=>by cases hd; exact ⟨fun _=>by decide,fun _=>by decide,fun h=>by cases h⟩)
 have L3 : Line [97,46,98] [aW,[46],[98]] [98] := L2.zero (p := [98]) (.inl ⟨by decide,by decide⟩) (fun d hd=>by cases hd; exact ⟨fun h=>(by have := h.2 46 (by simp); cases this),fun h=>(by obtain ⟨c,e,hc⟩ := h.head; cases e; rcases hc with hc | hc <;> cases hc),fun _=>by decide⟩)
 have L4 : Line [97,46,98,58] [aW,[46],[98],[58]] [58] := L3.zero (p := [58]) (tk 58 (by decide)) (fun d hd=>by cases hd; exact ⟨fun _=>by decide,fun _=>by decide,fun _=>by decide⟩)
 have e := L4.all (s := 32 :: l) Fol.sp
 have e2 := dA 1 l
 rw [show List.replicate 1 32 ++ l = 32 :: l from rfl] at e2
 rw [e2] at e
 exact e
theorem AM3 : (Str.ofString "a: " : Str) = S [97,58,32] := by decide +kernel
theorem lAb : (Str.ofString "a.b: " : Str) = S [97,46,98,58,32] := by decide +kernel
theorem lB : (Str.ofString "b" : Str) = S [98] := by decide +kernel
theorem Y3 {u : Wd} {ws : List Wd} (hu : W4 u) (h : WsOk ws) (hl : ws.length ≤ 50000) : WsOk (u :: ws) := by
 obtain ⟨h1,h2,h3⟩ := h
 refine ⟨by simp; omega,fun v hv=>?_,fun v hv=>?_⟩
 ·rcases List.mem_cons.mp hv with rfl | hv
  ·exact hu.tok
  ·exact h2 v hv
 ·rcases List.mem_cons.mp hv with rfl | hv
  ·exact ⟨by have := hu.len; omega,fun c hc=>by have := hu.asc c hc; omega⟩
  ·exact h3 v hv
theorem AP6 {t : Tn} {ws : List Wd} (h : PrW J1 3 true t ws) : bO 9 ws (some t) := by
 have := ((bU h).mono fun f r res=>Exn.mono (show 2 * 3 + 1 ≤ 9 by decide)) [] ES.nil
 rw [List.append_nil] at this
 exact ⟨_,this,rfl⟩
theorem AP3 {t : Tn} {ws : List Wd} (h : PrW J1 3 true t ws) : cY (Exn 9) (aW :: [46] :: [98] :: [58] :: ws) (some (.tup [.tup [.str aW,.str [98]],.tup [t]])) := by
 have := AW2 (X := Exn 9) (ns := [aW,[98]]) (t := t) (w := ws) (ts := []) (ws := []) (by simp) (fun n hn=>by simp at hn; rcases hn with rfl | rfl <;> decide) ((bU h).mono fun f r res=>Exn.mono (show 2 * 3 + 1 ≤ 9 by decide)) .nil
 simpa [AW3,G8,G3,tails] using this
abbrev gI : Stmt := N0 61
theorem dG : E4 ["_law_script","_law_many","_law_seed","_law_state","_law_tree_here","_law_good","_law_bad_here"] ["_law_script"] (B1 gI) := ⟨rfl,rfl,rfl,by decide +kernel,rfl,by decide +kernel,by decide +kernel⟩
def rE (K : PySem.W.Frag) : Sp := fun vs H Q _=>∃ (a : Addr) (ns : List Int),vs = [.ref a] ∧ SqL K H a (ns.map V.int) ∧ ns.length ≤ 63 ∧ ∀ H',Q (.bl true) H'
theorem AZ2 (F : Fun K "law" "law" gI f fd) (N : Cal P w K mg base 1 "_law_next" ["_law_state","_law_many"] O9) (SEEDS : Cal P w K mg base 1 "_law_seeds" ["_law_script","_law_many"] (oA K)) (TR : Cal P w K mg base 8 "_law_tree" ["_law_state","_law_deep","_law_places"] (eQ K 3)) (WS : Cal P w K mg base 12 "_law_words" ["_law_tree_here","_law_state"] (nY K 3))
  (LINE : Cal P w K mg base 2 "_law_line" ["_law_words_here","_law_state"] oB) (BAD : Cal P w K mg base 14 "_law_bad" ["_law_tree_here","_law_state"] (sH K)) (RFD : Cal P w K mg base 54 "_law_refused" ["_law_text_here","_law_by_row"] (wP K C 9)) (READ : M2 P w K mg base 53 "read" ["text"] (W5 K C (bO 9))) (ROW : M2 P w K mg base 53 "read_row" ["line"] (W5 K C (cY (Exn 9)))) (m1 : mg "len" = none) : FnOk P w K mg base K1 55 f fd ["_law_script"] (rE K) := by
 refine F.ok dG (fun vs H Q E h=>?_) (fun cdv A outer s H vs Q E hr h=>?_)
 ·obtain ⟨a,ns,rfl,_⟩ := h
  rfl
 obtain ⟨a,ns,rfl,hq,h63,q⟩ := h
 have hr1 := hr.mono (show 1 ≤ 54 by decide)
 have hr2 := hr.mono (show 2 ≤ 54 by decide)
 have hr8 := hr.mono (show 8 ≤ 54 by decide)
 have hr12 := hr.mono (show 12 ≤ 54 by decide)
 have hr14 := hr.mono (show 14 ≤ 54 by decide)
 have hr53 := hr.mono (show 53 ≤ 54 by decide)
 refine ⟨_,A7 (B9 (i := 1) dG.nd rfl (Or.inl rfl) B2)
  (N3 (E8 (B8 bF (J8 N5 rfl m1 PySem.boot_len (A0 (pv 0) A5)) B2 (D5 _)) (A8 (B9 (i := 1) dG.nd rfl (Or.inl rfl) (E6 Q2 B2 (E6 Z4 (J0 N4 (pv 0) B2 (fun _ _=>rfl)) B2)))) D6) K3),?_⟩
 refine ⟨fun σ' H'=>∃ m : Nat,1 ≤ m ∧ m ≤ 3 ∧ σ' = [some (.ref a),some (.int (m : Int)),none,none,none,none,none] ∧ H' = H,?_,?_⟩
 ·refine ⟨_,rfl,a,_,rfl,.inl hq,_,_,rfl,rfl,_,rfl,M1 (fun c=>?_) (fun _=>⟨1,by decide,by decide,rfl,rfl⟩)⟩
  have hpos : 0 < ns.length := by
   have := of_decide_eq_true c
   rw [List.length_map] at this
   omega
  refine ⟨_,rfl,a,_,_,.int ns[0],rfl,rfl,hq,J7 (j := 0) (by rw [List.getElem?_map,List.getElem?_eq_getElem hpos]; rfl),_,_,rfl,rfl,(by show (0 : Int) < 3; decide),_,_,rfl,rfl,?_⟩
  have h0 := Int.emod_nonneg ns[0] (show (3 : Int) ≠ 0 by decide)
  have h1 := Int.emod_lt_of_pos ns[0] (show (0 : Int) < 3 by decide)
  obtain ⟨j,hj⟩ := Int.eq_ofNat_of_zero_le h0
  refine ⟨1 + j,by omega,by omega,?_,rfl⟩
  rw [hj,show ((1 + j : Nat) : Int) = 1 + (j : Int) by omega]
  rfl
 rintro σ1 H1 ⟨m,hm1,hm3,rfl,rfl⟩
 refine ⟨_,A7 (R1 PassesOwn.never rfl (fN (B5 SEEDS hr1 rfl (A0 (pv 0) (A0 (pv 1) A5)))) (K8 (i := 2) dG.nd rfl (Or.inl rfl)) K3) (A8 (B4 N7)),?_⟩
 refine ⟨_,rfl,_,rfl,a,ns,m,rfl,hq,h63,hm1,by omega,fun H2 l xs g2 hl0 hl hxs=>?_⟩
 refine ⟨l,rfl,⟨_,SqL.of hl⟩,?_⟩
 refine cQ (xs := xs.map V.int) (fun i σ H'=>∃ b2 b3 b4 b5 b6 : Option V,σ = [some (.ref a),some (.int (m : Int)),b2,b3,b4,b5,b6] ∧ Same H2 H') ⟨none,none,none,none,none,rfl,dH⟩ (fun i σ H' _ ⟨_,_,_,_,_,_,g⟩=>SqL.of (g _ _ hl)) (fun i u σ H' hu hinv=>?_) (fun σ H' _=>q H')
 obtain ⟨b2,b3,b4,b5,b6,rfl,g⟩ := hinv
 obtain ⟨sd,rfl⟩ := tK hu
 refine ⟨_,A7 (B9 (i := 3) dG.nd rfl (Or.inl rfl) (E5 (A0 (pv 2) A5)))
  (A7 (B9 (i := 4) dG.nd rfl (Or.inl rfl) (B5 TR hr8 rfl (A0 (pv 3) (A0 B2 (A0 N7 A5)))))
  (A7 (B9 (i := 5) dG.nd rfl (Or.inl rfl) (B5 LINE hr2 rfl (A0 (B5 WS hr12 rfl (A0 (pv 4) (A0 (pv 3) A5))) (A0 (pv 3) A5))))
  (A7 (B9 (i := 6) dG.nd rfl (Or.inl rfl) (B5 LINE hr2 rfl (A0 (B5 BAD hr14 rfl (A0 (pv 4) (A0 (pv 3) A5))) (A0 (pv 3) A5)))) K3))),?_⟩
 refine ⟨_,rfl,L0,fun st hst=>?_⟩
 have k1 := A9 hst (.lst [.int sd])
 refine ⟨_,rfl,st,sd,true,rfl,A6,fun H3 t v d3 ht hv=>?_⟩
 obtain ⟨y3,hy3⟩ := d3.s
 refine ⟨_,rfl,_,rfl,v,st,y3,true,t,rfl,hy3,ht,hv,fun H4 lw ws d4 hlw0 hlw hw=>?_⟩
 obtain ⟨y4,hy4⟩ := d4.s
 have hwf := aQ hw
 have nlw : lw ≠ st := d4.ne hlw0
 refine ⟨_,rfl,lw,st,y4,ws,rfl,hy4,hlw,nlw,(hwf.mono (by decide)).w2,fun H5 tx d5 htx htxl hasc hwd=>?_⟩
 obtain ⟨ws1,hm1',hwd⟩ := hwd
 have ews := hwf.dot.mr hm1'
 rw [ews] at hwd
 obtain ⟨y5,hy5⟩ := d5.s
 have hv5 := TV.kp (d4.more d5).kp hv
 refine ⟨_,rfl,_,rfl,v,st,y5,t,rfl,hy5,ht,hv5,fun H6 lb wb d6 hlb nlb hbad=>?_⟩
 obtain ⟨y6,hy6⟩ := d6.s
 refine ⟨_,rfl,lb,st,y6,wb,rfl,hy6,hlb,nlb,hbad.w,fun H7 tb d7 htb htbl hascb hwb=>?_⟩
 obtain ⟨wb',hmb,hwb⟩ := hwb
 obtain ⟨rf1,rf2⟩ := hbad.r wb' hmb
 have wkb := hbad.w.wsok (by decide) hmb
 have hv7 := TV.kp (d6.more d7).kp hv5
 have dd := ((d3.more d4).more d5).more (d6.more d7)
 have wk := AN7 hwf (by decide)
 obtain ⟨hlay,hdep⟩ := xC _ t (xN 3 true t ht)
 have hat3 := xN 3 true t ht
 have back : ∀ {H6 : Hp},DS st (E7 H' st (.lst [.int sd])) H6 → Same H2 H6 := fun {H6} d b o h=>d.g b o (D9 (g _ _ h) hst) (k1 _ _ (g _ _ h))
 have hrd := AP6 hw
 refine ⟨_,A7 (E8 (PW.pt (gJ (B8 (sV hr.units) (J4 READ hr53 rfl never (A0 (pv 5) A5)) (pv 4) (D5 _)) (fI (fJ (N6 (B5 RFD hr rfl (A0 (pv 6) (A0 N7 A5)))))))) (A8 (B4 N7)) D6) K3,?_⟩
 refine ⟨_,rfl,_,rfl,.inr ⟨tx,rfl,htx,.inr ⟨ws,some t,hwd,wk,hrd,fun u8 H8 g8 hu8=>?_⟩⟩⟩
 have hv8 := TV.kp (Kp.same g8) hv7
 refine ⟨_,rfl,pd t,pd t,TV.pd t u8 hu8,TV.pd t v hv8,hlay,hlay,by omega,false,by rw [pD hlay],E2 ?_⟩
 refine ⟨_,rfl,.str (S tb),false,rfl,fun H1' Q1 E1 _ hE=>⟨fun z=>(by cases z),fun _=>⟨_,rfl,.inr ⟨tb,rfl,htb,.inr ⟨wb',none,hwb,wkb,rf1,hE⟩⟩⟩⟩,fun H9 g9=>⟨_,rfl,E2 ?_⟩⟩
 have d9 := dd.same (g8.trans g9)
 have hv9 := TV.kp (Kp.same g9) hv8
 clear g8 g9 hu8 hv8 hv7 hv5 dd
 refine ⟨_,A7 (E8 (fJ (N6 (B5 RFD hr rfl (A0 (E6 U1 B3 (pv 6)) (A0 N7 A5))))) (A8 (B4 N7)) D6) K3,?_⟩
 have smc : ∀ {p l : List Nat},(∀ c ∈ p,c < 128) → p.length ≤ 10 → l.length ≤ 99000 → (∀ c ∈ l,c < 128) → X6 (p ++ l) := fun {p l} h1 h2 h3 h4=>⟨by rw [List.length_append]; omega,fun c hc=>by
  rcases List.mem_append.mp hc with z | z
  ·have := h1 c z; omega
  ·have := h4 c z; omega⟩
 have hwb3 : G6 ([97,58,32] ++ tb) = some (aW :: [58] :: wb') := by rw [AA8,hwb]; rfl
 have wl := (sY hmb).1
 have wl2 := hbad.w.len
 have wk3 : WsOk (aW :: [58] :: wb') := Y3 (U6 (by decide) (by decide)) (Y3 (M5 (by decide)) wkb (by omega)) (by simp; omega)
 refine ⟨_,rfl,_,_,rfl,rfl,by rw [AM3]; exact W9 (by show 3 + tb.length ≤ _; omega),?_⟩
 rw [AM3,aJ]
 refine ⟨.str (S ([97,58,32] ++ tb)),true,rfl,fun H1' Q1 E1 _ hE=>⟨fun _=>⟨_,rfl,.inr ⟨_,rfl,smc (by decide) (by decide) htbl hascb,.inr ⟨_,none,hwb3,wk3,rf2,hE⟩⟩⟩,fun z=>(by cases z)⟩,fun H10 g10=>⟨_,rfl,E2 ?_⟩⟩
 have d10 := d9.same g10
 have hv10 := TV.kp (Kp.same g10) hv9
 obtain ⟨y10,hy10⟩ := d10.s
 refine ⟨_,A7 (E8 (fJ (N6 (B5 RFD hr rfl (A0 (J0 N4 (E5 (A0 B2 (A0 aR (A0 (K0 (A0 B3 A5)) (A0 N7 A5))))) (B5 N hr1 rfl (A0 (pv 3) (A0 B2 A5))) (fun _ _=>rfl)) (A0 N7 A5))))) (A8 (B4 N7)) D6) K3,?_⟩
 refine ⟨L0,fun t1 ht1=>⟨AG7,fun l2 hl2=>?_⟩⟩
 have e1 := A9 ht1 (.tup [V.str (Str.ofString "a")])
 have e2 := A9 hl2 (.lst [.int 3,.non,.ref t1,.bl false])
 have d12 := d10.same (e1.trans e2)
 have hv12 := TV.kp (Kp.same (e1.trans e2)) hv10
 obtain ⟨y12,hy12⟩ := d12.s
 have n1 : t1 ≠ st := Ne.symm (D9 hy10 ht1)
 have nl2 : l2 ≠ st := Ne.symm (D9 (e1 _ _ hy10) hl2)
 have w1 := e2 _ _ (A6 (H := H10) (a := t1) (o := .tup [V.str (Str.ofString "a")]))
 refine ⟨_,rfl,st,y12,4,rfl,hy12,by decide,fun y13 r b0 b1=>?_⟩
 obtain ⟨vv,dv,hat,hdv,his⟩ : ∃ v d,bB [V.int 3,.non,.ref t1,.bl false] r = some v ∧ (∀ H : Hp,H t1 = some (.tup [V.str (Str.ofString "a")]) → DV K H d v) ∧ jG d "str" = false := by
  have : r = 0 ∨ r = 1 ∨ r = 2 ∨ r = 3 := by omega
  rcases this with rfl | rfl | rfl | rfl
  ·exact ⟨_,.int 3,rfl,fun H _=>by simp only [DV],rfl⟩
  ·exact ⟨_,.non,rfl,fun H _=>by simp only [DV],rfl⟩
  ·exact ⟨_,.tup [.str (Str.ofString "a")],rfl,fun H h=>by
    simp only [DV,DAll]
    exact ⟨t1,_,rfl,SqT.of h,⟨_,_,rfl,⟨rfl,by decide⟩,rfl⟩,by decide⟩,rfl⟩
  ·exact ⟨_,.bl false,rfl,fun H _=>by simp only [DV],rfl⟩
 refine ⟨l2,_,_,vv,rfl,rfl,SqL.of (by rw [B6 nl2]; exact A6),hat,?_⟩
 have d13 := d12.next y13
 have hv13 := TV.kp ((DS.start hy12).next y13).kp hv12
 have hdv13 := hdv (E7 (E7 (E7 H10 t1 (.tup [V.str (Str.ofString "a")])) l2 (.lst [.int 3,.non,.ref t1,.bl false])) st (.lst [.int y13])) (by rw [B6 n1]; exact w1)
 refine ⟨vv,false,rfl,fun H1' Q1 E1 g1 hE=>⟨fun z=>(by cases z),fun _=>⟨_,rfl,.inl ⟨dv,AU2 g1 hdv13,his,hE⟩⟩⟩,fun H14 g14=>⟨_,rfl,E2 ?_⟩⟩
 have d14 := d13.same g14
 have hv14 := TV.kp (Kp.same g14) hv13
 clear d13 d12 hv12 hv13 e1 e2 w1 hdv13 hdv
 refine ⟨_,A8 (E8 (PW.pt (gJ (B8 (sV hr.units) (J4 READ hr53 rfl never (A0 (pv 5) A5)) (pv 4) (D5 _)) (fI (B8 (sV hr.units) (J4 ROW hr53 rfl never (A0 (E6 U1 B3 (pv 5)) A5)) (K0 (A0 (K0 (A0 B3 (A0 B3 A5))) (A0 (K0 (A0 (pv 4) A5)) A5))) (D5 _))))) (A8 (B4 N7)) D6),?_⟩
 refine ⟨_,rfl,_,rfl,.inr ⟨tx,rfl,htx,.inr ⟨ws,some t,hwd,wk,hrd,fun u15 H15 g15 hu15=>?_⟩⟩⟩
 have hv15 := TV.kp (Kp.same g15) hv14
 refine ⟨_,rfl,pd t,pd t,TV.pd t u15 hu15,TV.pd t v hv15,hlay,hlay,by omega,false,by rw [pD hlay],E2 ?_⟩
 have hwx : G6 ([97,46,98,58,32] ++ tx) = some (aW :: [46] :: [98] :: [58] :: ws) := by rw [AJ7,hwd]; rfl
 have hwl := hwf.len
 have wkx : WsOk (aW :: [46] :: [98] :: [58] :: ws) := Y3 (U6 (by decide) (by decide)) (Y3 (M5 (by decide)) (Y3 (U6 (by decide) (by decide)) (Y3 (M5 (by decide)) wk (by omega)) (by simp; omega)) (by simp; omega)) (by simp; omega)
 refine ⟨_,rfl,_,_,rfl,rfl,by rw [lAb]; exact W9 (by show 5 + tx.length ≤ _; omega),?_⟩
 rw [lAb,aJ]
 refine ⟨_,rfl,.inr ⟨_,rfl,smc (by decide) (by decide) htxl hasc,.inr ⟨_,_,hwx,wkx,AP3 hw,fun u16 H16 g16 hu16=>?_⟩⟩⟩
 refine ⟨R8,fun p1 hp1=>⟨_,rfl,L0,fun p2 hp2=>⟨R8,fun p3 hp3=>?_⟩⟩⟩
 rw [lA,lB] at hp2 hp3 ⊢
 have k1 := A9 hp1 (.tup [.str (S aW),.str (S [98])])
 have k2 := A9 hp2 (.tup [v])
 have k3 := A9 hp3 (.tup [.ref p1,.ref p2])
 have k := k1.trans (k2.trans k3)
 have hvk := TV.kp (Kp.same (g16.trans k)) hv15
 have hdis : TV K (E7 (E7 (E7 H16 p1 (.tup [.str (S aW),.str (S [98])])) p2 (.tup [v])) p3 (.tup [.ref p1,.ref p2])) (.tup [.tup [.str aW,.str [98]],.tup [t]]) (.ref p3) :=
  TV.tup (SqT.of A6) (TAll.cons (TV.tup (SqT.of (k3 _ _ (k2 _ _ A6))) (TAll.strs [aW,[98]])) (TAll.one (TV.tup (SqT.of (k3 _ _ A6)) (TAll.one hvk))))
 have hatr : AT 13 (.tup [.tup [.str aW,.str [98]],.tup [t]]) := uC (uC (S6 (by decide)) (S6 (by decide))) (cX fun x hx=>by rw [List.mem_singleton.mp hx]; exact hat3)
 obtain ⟨hlr,hdr⟩ := xC _ _ hatr
 refine ⟨_,_,TV.pd _ u16 (TV.kp (Kp.same k) hu16),TV.pd _ _ hdis,hlr,hlr,by omega,false,by rw [pD hlr],E2 ?_⟩
 exact ⟨_,_,_,_,_,rfl,back (d14.same (g15.trans (g16.trans k)))⟩
end
end Law
namespace Law
open PySem L2 L2.Sp
theorem all_mk {l : PySem.W.OpenLaw} {w : World} {K : PySem.W.Frag} {h : Heap} {mg : Str → Option Value} {fa : Addr} (X : K.In h) (G : h.Ns mainGlobals mg) (hfa : mg "law" = some (.ref fa))
  {f0 : Addr} {od0 an0 : Option Addr} {sl0 : Array (Option Value)} {oc0 kV0 dc0 pm0 cd0 ct0 : Value}
  {f1 : Addr} {od1 an1 : Option Addr} {sl1 : Array (Option Value)} {oc1 kV1 dc1 pm1 cd1 ct1 : Value}
  {f5 : Addr} {od5 an5 : Option Addr} {sl5 : Array (Option Value)} {oc5 kV5 dc5 pm5 cd5 ct5 : Value}
  {f6 : Addr} {od6 an6 : Option Addr} {sl6 : Array (Option Value)} {oc6 kV6 dc6 pm6 cd6 ct6 : Value}
  {f4 : Addr} {od4 an4 : Option Addr} {sl4 : Array (Option Value)} {oc4 kV4 dc4 pm4 cd4 ct4 : Value}
  {f7 : Addr} {od7 an7 : Option Addr} {sl7 : Array (Option Value)} {oc7 kV7 dc7 pm7 cd7 ct7 : Value}
  {f8 : Addr} {od8 an8 : Option Addr} {sl8 : Array (Option Value)} {oc8 kV8 dc8 pm8 cd8 ct8 : Value}
  {f3 : Addr} {od3 an3 : Option Addr} {sl3 : Array (Option Value)} {oc3 kV3 dc3 pm3 cd3 ct3 : Value}
  {f2 : Addr} {od2 an2 : Option Addr} {sl2 : Array (Option Value)} {oc2 kV2 dc2 pm2 cd2 ct2 : Value}
  {f15 : Addr} {od15 an15 : Option Addr} {sl15 : Array (Option Value)} {oc15 kV15 dc15 pm15 cd15 ct15 : Value}
  {f23 : Addr} {od23 an23 : Option Addr} {sl23 : Array (Option Value)} {oc23 kV23 dc23 pm23 cd23 ct23 : Value}
  {f22 : Addr} {od22 an22 : Option Addr} {sl22 : Array (Option Value)} {oc22 kV22 dc22 pm22 cd22 ct22 : Value}
  {f19 : Addr} {od19 an19 : Option Addr} {sl19 : Array (Option Value)} {oc19 kV19 dc19 pm19 cd19 ct19 : Value}
  {f20 : Addr} {od20 an20 : Option Addr} {sl20 : Array (Option Value)} {oc20 kV20 dc20 pm20 cd20 ct20 : Value}
  {f16 : Addr} {od16 an16 : Option Addr} {sl16 : Array (Option Value)} {oc16 kV16 dc16 pm16 cd16 ct16 : Value}
  {f12 : Addr} {od12 an12 : Option Addr} {sl12 : Array (Option Value)} {oc12 kV12 dc12 pm12 cd12 ct12 : Value}
  {f11 : Addr} {od11 an11 : Option Addr} {sl11 : Array (Option Value)} {oc11 kV11 dc11 pm11 cd11 ct11 : Value}
  {f13 : Addr} {od13 an13 : Option Addr} {sl13 : Array (Option Value)} {oc13 kV13 dc13 pm13 cd13 ct13 : Value}
  {f14 : Addr} {od14 an14 : Option Addr} {sl14 : Array (Option Value)} {oc14 kV14 dc14 pm14 cd14 ct14 : Value}
  {f17 : Addr} {od17 an17 : Option Addr} {sl17 : Array (Option Value)} {oc17 kV17 dc17 pm17 cd17 ct17 : Value}
  {f18 : Addr} {od18 an18 : Option Addr} {sl18 : Array (Option Value)} {oc18 kV18 dc18 pm18 cd18 ct18 : Value}
  {f21 : Addr} {od21 an21 : Option Addr} {sl21 : Array (Option Value)} {oc21 kV21 dc21 pm21 cd21 ct21 : Value}
  {f9 : Addr} {od9 an9 : Option Addr} {sl9 : Array (Option Value)} {oc9 kV9 dc9 pm9 cd9 ct9 : Value}
  {f10 : Addr} {od10 an10 : Option Addr} {sl10 : Array (Option Value)} {oc10 kV10 dc10 pm10 cd10 ct10 : Value}
  {f24 : Addr} {od24 an24 : Option Addr} {sl24 : Array (Option Value)} {oc24 kV24 dc24 pm24 cd24 ct24 : Value}
  {f25 : Addr} {od25 an25 : Option Addr} {sl25 : Array (Option Value)} {oc25 kV25 dc25 pm25 cd25 ct25 : Value}
  {f26 : Addr} {od26 an26 : Option Addr} {sl26 : Array (Option Value)} {oc26 kV26 dc26 pm26 cd26 ct26 : Value}
  {f27 : Addr} {od27 an27 : Option Addr} {sl27 : Array (Option Value)} {oc27 kV27 dc27 pm27 cd27 ct27 : Value}
  {f28 : Addr} {od28 an28 : Option Addr} {sl28 : Array (Option Value)} {oc28 kV28 dc28 pm28 cd28 ct28 : Value}
  {f29 : Addr} {od29 an29 : Option Addr} {sl29 : Array (Option Value)} {oc29 kV29 dc29 pm29 cd29 ct29 : Value}
  {f30 : Addr} {od30 an30 : Option Addr} {sl30 : Array (Option Value)} {oc30 kV30 dc30 pm30 cd30 ct30 : Value}
  {f31 : Addr} {od31 an31 : Option Addr} {sl31 : Array (Option Value)} {oc31 kV31 dc31 pm31 cd31 ct31 : Value}
  {f32 : Addr} {od32 an32 : Option Addr} {sl32 : Array (Option Value)} {oc32 kV32 dc32 pm32 cd32 ct32 : Value}
  {f33 : Addr} {od33 an33 : Option Addr} {sl33 : Array (Option Value)} {oc33 kV33 dc33 pm33 cd33 ct33 : Value}
  {f34 : Addr} {od34 an34 : Option Addr} {sl34 : Array (Option Value)} {oc34 kV34 dc34 pm34 cd34 ct34 : Value}
  {f35 : Addr} {od35 an35 : Option Addr} {sl35 : Array (Option Value)} {oc35 kV35 dc35 pm35 cd35 ct35 : Value}
  {f36 : Addr} {od36 an36 : Option Addr} {sl36 : Array (Option Value)} {oc36 kV36 dc36 pm36 cd36 ct36 : Value}
  {f39 : Addr} {od39 an39 : Option Addr} {sl39 : Array (Option Value)} {oc39 kV39 dc39 pm39 cd39 ct39 : Value}
  {f37 : Addr} {od37 an37 : Option Addr} {sl37 : Array (Option Value)} {oc37 kV37 dc37 pm37 cd37 ct37 : Value}
  {f38 : Addr} {od38 an38 : Option Addr} {sl38 : Array (Option Value)} {oc38 kV38 dc38 pm38 cd38 ct38 : Value}
  {f40 : Addr} {od40 an40 : Option Addr} {sl40 : Array (Option Value)} {oc40 kV40 dc40 pm40 cd40 ct40 : Value}
  {f41 : Addr} {od41 an41 : Option Addr} {sl41 : Array (Option Value)} {oc41 kV41 dc41 pm41 cd41 ct41 : Value}
  {f42 : Addr} {od42 an42 : Option Addr} {sl42 : Array (Option Value)} {oc42 kV42 dc42 pm42 cd42 ct42 : Value}
  {f44 : Addr} {od44 an44 : Option Addr} {sl44 : Array (Option Value)} {oc44 kV44 dc44 pm44 cd44 ct44 : Value}
  {f43 : Addr} {od43 an43 : Option Addr} {sl43 : Array (Option Value)} {oc43 kV43 dc43 pm43 cd43 ct43 : Value}
  {f45 : Addr} {od45 an45 : Option Addr} {sl45 : Array (Option Value)} {oc45 kV45 dc45 pm45 cd45 ct45 : Value}
  {f46 : Addr} {od46 an46 : Option Addr} {sl46 : Array (Option Value)} {oc46 kV46 dc46 pm46 cd46 ct46 : Value}
  {f47 : Addr} {od47 an47 : Option Addr} {sl47 : Array (Option Value)} {oc47 kV47 dc47 pm47 cd47 ct47 : Value}
  {gt : Addr} {dN : Option Addr} {slN : Array (Option Value)} {tA tB : Tok} {nN : Nat}
  {cC cR gp : Addr} {tM tS p0 p1 p2 p3 p4 p5 p6 p7 p8 p9 : Tok} {dP : Option Addr} {slP : Array (Option Value)} {nP : Nat} {f48 : Addr} {od48 an48 : Option Addr} {sl48 : Array (Option Value)} {oc48 kV48 dc48 pm48 cd48 ct48 : Value} {f49 : Addr} {od49 an49 : Option Addr} {sl49 : Array (Option Value)} {oc49 kV49 dc49 pm49 cd49 ct49 : Value} {f50 : Addr} {od50 an50 : Option Addr} {sl50 : Array (Option Value)} {oc50 kV50 dc50 pm50 cd50 ct50 : Value} {f51 : Addr} {od51 an51 : Option Addr} {sl51 : Array (Option Value)} {oc51 kV51 dc51 pm51 cd51 ct51 : Value} {f52 : Addr} {od52 an52 : Option Addr} {sl52 : Array (Option Value)} {oc52 kV52 dc52 pm52 cd52 ct52 : Value} {cM cG cN : Addr}
  (a0 : PySem.W.nsIn K mainGlobals "is_name" = some (some (.ref f0))) (l0 : K.lookup f0 = some ⟨oc0,od0,.func (PySem.W.fnOf "is_name" "is_name" (E3 jY) (D8 jY) (B1 jY) .none kV0 dc0 pm0 an0 cd0 ct0),sl0⟩) (c0 : PySem.W.codeIn K cd0 "is_name" = true) (k0 : PySem.W.keepIn K (.ref f0) = true)
  (a1 : PySem.W.nsIn K mainGlobals "is_sign" = some (some (.ref f1))) (l1 : K.lookup f1 = some ⟨oc1,od1,.func (PySem.W.fnOf "is_sign" "is_sign" (E3 jV) (D8 jV) (B1 jV) .none kV1 dc1 pm1 an1 cd1 ct1),sl1⟩) (c1 : PySem.W.codeIn K cd1 "is_sign" = true) (k1 : PySem.W.keepIn K (.ref f1) = true)
  (a5 : PySem.W.nsIn K mainGlobals "is_letter" = some (some (.ref f5))) (l5 : K.lookup f5 = some ⟨oc5,od5,.func (PySem.W.fnOf "is_letter" "is_letter" (E3 bR) (D8 bR) (B1 bR) .none kV5 dc5 pm5 an5 cd5 ct5),sl5⟩) (c5 : PySem.W.codeIn K cd5 "is_letter" = true) (k5 : PySem.W.keepIn K (.ref f5) = true)
  (a6 : PySem.W.nsIn K mainGlobals "is_figure" = some (some (.ref f6))) (l6 : K.lookup f6 = some ⟨oc6,od6,.func (PySem.W.fnOf "is_figure" "is_figure" (E3 bS) (D8 bS) (B1 bS) .none kV6 dc6 pm6 an6 cd6 ct6),sl6⟩) (c6 : PySem.W.codeIn K cd6 "is_figure" = true) (k6 : PySem.W.keepIn K (.ref f6) = true)
  (a4 : PySem.W.nsIn K mainGlobals "run_end" = some (some (.ref f4))) (l4 : K.lookup f4 = some ⟨oc4,od4,.func (PySem.W.fnOf "run_end" "run_end" (E3 oG) (D8 oG) (B1 oG) .none kV4 dc4 pm4 an4 cd4 ct4),sl4⟩) (c4 : PySem.W.codeIn K cd4 "run_end" = true) (k4 : PySem.W.keepIn K (.ref f4) = true)
  (a7 : PySem.W.nsIn K mainGlobals "number_at" = some (some (.ref f7))) (l7 : K.lookup f7 = some ⟨oc7,od7,.func (PySem.W.fnOf "number_at" "number_at" (E3 oP) (D8 oP) (B1 oP) .none kV7 dc7 pm7 an7 cd7 ct7),sl7⟩) (c7 : PySem.W.codeIn K cd7 "number_at" = true) (k7 : PySem.W.keepIn K (.ref f7) = true)
  (a8 : PySem.W.nsIn K mainGlobals "quoted_at" = some (some (.ref f8))) (l8 : K.lookup f8 = some ⟨oc8,od8,.func (PySem.W.fnOf "quoted_at" "quoted_at" (E3 oK) (D8 oK) (B1 oK) .none kV8 dc8 pm8 an8 cd8 ct8),sl8⟩) (c8 : PySem.W.codeIn K cd8 "quoted_at" = true) (k8 : PySem.W.keepIn K (.ref f8) = true)
  (a3 : PySem.W.nsIn K mainGlobals "word_at" = some (some (.ref f3))) (l3 : K.lookup f3 = some ⟨oc3,od3,.func (PySem.W.fnOf "word_at" "word_at" (E3 jT) (D8 jT) (B1 jT) .none kV3 dc3 pm3 an3 cd3 ct3),sl3⟩) (c3 : PySem.W.codeIn K cd3 "word_at" = true) (k3 : PySem.W.keepIn K (.ref f3) = true)
  (a2 : PySem.W.nsIn K mainGlobals "words_of" = some (some (.ref f2))) (l2 : K.lookup f2 = some ⟨oc2,od2,.func (PySem.W.fnOf "words_of" "words_of" (E3 eZ) (D8 eZ) (B1 eZ) .none kV2 dc2 pm2 an2 cd2 ct2),sl2⟩) (c2 : PySem.W.codeIn K cd2 "words_of" = true) (k2 : PySem.W.keepIn K (.ref f2) = true)
  (a15 : PySem.W.nsIn K mainGlobals "is_number" = some (some (.ref f15))) (l15 : K.lookup f15 = some ⟨oc15,od15,.func (PySem.W.fnOf "is_number" "is_number" (E3 kB) (D8 kB) (B1 kB) .none kV15 dc15 pm15 an15 cd15 ct15),sl15⟩) (c15 : PySem.W.codeIn K cd15 "is_number" = true) (k15 : PySem.W.keepIn K (.ref f15) = true)
  (a23 : PySem.W.nsIn K mainGlobals "name_of" = some (some (.ref f23))) (l23 : K.lookup f23 = some ⟨oc23,od23,.func (PySem.W.fnOf "name_of" "name_of" (E3 bQ) (D8 bQ) (B1 bQ) .none kV23 dc23 pm23 an23 cd23 ct23),sl23⟩) (c23 : PySem.W.codeIn K cd23 "name_of" = true) (k23 : PySem.W.keepIn K (.ref f23) = true)
  (a22 : PySem.W.nsIn K mainGlobals "names_of" = some (some (.ref f22))) (l22 : K.lookup f22 = some ⟨oc22,od22,.func (PySem.W.fnOf "names_of" "names_of" (E3 aC) (D8 aC) (B1 aC) .none kV22 dc22 pm22 an22 cd22 ct22),sl22⟩) (c22 : PySem.W.codeIn K cd22 "names_of" = true) (k22 : PySem.W.keepIn K (.ref f22) = true)
  (a19 : PySem.W.nsIn K mainGlobals "has_another" = some (some (.ref f19))) (l19 : K.lookup f19 = some ⟨oc19,od19,.func (PySem.W.fnOf "has_another" "has_another" (E3 oS) (D8 oS) (B1 oS) .none kV19 dc19 pm19 an19 cd19 ct19),sl19⟩) (c19 : PySem.W.codeIn K cd19 "has_another" = true) (k19 : PySem.W.keepIn K (.ref f19) = true)
  (a20 : PySem.W.nsIn K mainGlobals "takes_end" = some (some (.ref f20))) (l20 : K.lookup f20 = some ⟨oc20,od20,.func (PySem.W.fnOf "takes_end" "takes_end" (E3 kD) (D8 kD) (B1 kD) .none kV20 dc20 pm20 an20 cd20 ct20),sl20⟩) (c20 : PySem.W.codeIn K cd20 "takes_end" = true) (k20 : PySem.W.keepIn K (.ref f20) = true)
  (a16 : PySem.W.nsIn K mainGlobals "span_tree" = some (some (.ref f16))) (l16 : K.lookup f16 = some ⟨oc16,od16,.func (PySem.W.fnOf "span_tree" "span_tree" (E3 fB) (D8 fB) (B1 fB) .none kV16 dc16 pm16 an16 cd16 ct16),sl16⟩) (c16 : PySem.W.codeIn K cd16 "span_tree" = true) (k16 : PySem.W.keepIn K (.ref f16) = true)
  (a12 : PySem.W.nsIn K mainGlobals "one_or_several" = some (some (.ref f12))) (l12 : K.lookup f12 = some ⟨oc12,od12,.func (PySem.W.fnOf "one_or_several" "one_or_several" (E3 oM) (D8 oM) (B1 oM) .none kV12 dc12 pm12 an12 cd12 ct12),sl12⟩) (c12 : PySem.W.codeIn K cd12 "one_or_several" = true) (k12 : PySem.W.keepIn K (.ref f12) = true)
  (a11 : PySem.W.nsIn K mainGlobals "expression" = some (some (.ref f11))) (l11 : K.lookup f11 = some ⟨oc11,od11,.func (PySem.W.fnOf "expression" "expression" (E3 dM) (D8 dM) (B1 dM) .none kV11 dc11 pm11 an11 cd11 ct11),sl11⟩) (c11 : PySem.W.codeIn K cd11 "expression" = true) (k11 : PySem.W.keepIn K (.ref f11) = true)
  (a13 : PySem.W.nsIn K mainGlobals "negated" = some (some (.ref f13))) (l13 : K.lookup f13 = some ⟨oc13,od13,.func (PySem.W.fnOf "negated" "negated" (E3 dL) (D8 dL) (B1 dL) .none kV13 dc13 pm13 an13 cd13 ct13),sl13⟩) (c13 : PySem.W.codeIn K cd13 "negated" = true) (k13 : PySem.W.keepIn K (.ref f13) = true)
  (a14 : PySem.W.nsIn K mainGlobals "single" = some (some (.ref f14))) (l14 : K.lookup f14 = some ⟨oc14,od14,.func (PySem.W.fnOf "single" "single" (E3 Y6) (D8 Y6) (B1 Y6) .none kV14 dc14 pm14 an14 cd14 ct14),sl14⟩) (c14 : PySem.W.codeIn K cd14 "single" = true) (k14 : PySem.W.keepIn K (.ref f14) = true)
  (a17 : PySem.W.nsIn K mainGlobals "list_tree" = some (some (.ref f17))) (l17 : K.lookup f17 = some ⟨oc17,od17,.func (PySem.W.fnOf "list_tree" "list_tree" (E3 aO) (D8 aO) (B1 aO) .none kV17 dc17 pm17 an17 cd17 ct17),sl17⟩) (c17 : PySem.W.codeIn K cd17 "list_tree" = true) (k17 : PySem.W.keepIn K (.ref f17) = true)
  (a18 : PySem.W.nsIn K mainGlobals "record_tree" = some (some (.ref f18))) (l18 : K.lookup f18 = some ⟨oc18,od18,.func (PySem.W.fnOf "record_tree" "record_tree" (E3 dJ) (D8 dJ) (B1 dJ) .none kV18 dc18 pm18 an18 cd18 ct18),sl18⟩) (c18 : PySem.W.codeIn K cd18 "record_tree" = true) (k18 : PySem.W.keepIn K (.ref f18) = true)
  (a21 : PySem.W.nsIn K mainGlobals "field_of" = some (some (.ref f21))) (l21 : K.lookup f21 = some ⟨oc21,od21,.func (PySem.W.fnOf "field_of" "field_of" (E3 aP) (D8 aP) (B1 aP) .none kV21 dc21 pm21 an21 cd21 ct21),sl21⟩) (c21 : PySem.W.codeIn K cd21 "field_of" = true) (k21 : PySem.W.keepIn K (.ref f21) = true)
  (a9 : PySem.W.nsIn K mainGlobals "read" = some (some (.ref f9))) (l9 : K.lookup f9 = some ⟨oc9,od9,.func (PySem.W.fnOf "read" "read" (E3 jW) (D8 jW) (B1 jW) .none kV9 dc9 pm9 an9 cd9 ct9),sl9⟩) (c9 : PySem.W.codeIn K cd9 "read" = true) (k9 : PySem.W.keepIn K (.ref f9) = true)
  (a10 : PySem.W.nsIn K mainGlobals "read_row" = some (some (.ref f10))) (l10 : K.lookup f10 = some ⟨oc10,od10,.func (PySem.W.fnOf "read_row" "read_row" (E3 oH) (D8 oH) (B1 oH) .none kV10 dc10 pm10 an10 cd10 ct10),sl10⟩) (c10 : PySem.W.codeIn K cd10 "read_row" = true) (k10 : PySem.W.keepIn K (.ref f10) = true)
  (a24 : PySem.W.nsIn K mainGlobals "_law_next" = some (some (.ref f24))) (l24 : K.lookup f24 = some ⟨oc24,od24,.func (PySem.W.fnOf "_law_next" "_law_next" (E3 jX) (D8 jX) (B1 jX) .none kV24 dc24 pm24 an24 cd24 ct24),sl24⟩) (c24 : PySem.W.codeIn K cd24 "_law_next" = true) (k24 : PySem.W.keepIn K (.ref f24) = true)
  (a25 : PySem.W.nsIn K mainGlobals "_law_seeds" = some (some (.ref f25))) (l25 : K.lookup f25 = some ⟨oc25,od25,.func (PySem.W.fnOf "_law_seeds" "_law_seeds" (E3 fC) (D8 fC) (B1 fC) .none kV25 dc25 pm25 an25 cd25 ct25),sl25⟩) (c25 : PySem.W.codeIn K cd25 "_law_seeds" = true) (k25 : PySem.W.keepIn K (.ref f25) = true)
  (a26 : PySem.W.nsIn K mainGlobals "_law_letters" = some (some (.ref f26))) (l26 : K.lookup f26 = some ⟨oc26,od26,.func (PySem.W.fnOf "_law_letters" "_law_letters" (E3 oQ) (D8 oQ) (B1 oQ) .none kV26 dc26 pm26 an26 cd26 ct26),sl26⟩) (c26 : PySem.W.codeIn K cd26 "_law_letters" = true) (k26 : PySem.W.keepIn K (.ref f26) = true)
  (a27 : PySem.W.nsIn K mainGlobals "_law_plain" = some (some (.ref f27))) (l27 : K.lookup f27 = some ⟨oc27,od27,.func (PySem.W.fnOf "_law_plain" "_law_plain" (E3 fE) (D8 fE) (B1 fE) .none kV27 dc27 pm27 an27 cd27 ct27),sl27⟩) (c27 : PySem.W.codeIn K cd27 "_law_plain" = true) (k27 : PySem.W.keepIn K (.ref f27) = true)
  (a28 : PySem.W.nsIn K mainGlobals "_law_name" = some (some (.ref f28))) (l28 : K.lookup f28 = some ⟨oc28,od28,.func (PySem.W.fnOf "_law_name" "_law_name" (E3 vB) (D8 vB) (B1 vB) .none kV28 dc28 pm28 an28 cd28 ct28),sl28⟩) (c28 : PySem.W.codeIn K cd28 "_law_name" = true) (k28 : PySem.W.keepIn K (.ref f28) = true)
  (a29 : PySem.W.nsIn K mainGlobals "_law_names" = some (some (.ref f29))) (l29 : K.lookup f29 = some ⟨oc29,od29,.func (PySem.W.fnOf "_law_names" "_law_names" (E3 iQ) (D8 iQ) (B1 iQ) .none kV29 dc29 pm29 an29 cd29 ct29),sl29⟩) (c29 : PySem.W.codeIn K cd29 "_law_names" = true) (k29 : PySem.W.keepIn K (.ref f29) = true)
  (a30 : PySem.W.nsIn K mainGlobals "_law_number" = some (some (.ref f30))) (l30 : K.lookup f30 = some ⟨oc30,od30,.func (PySem.W.fnOf "_law_number" "_law_number" (E3 vA) (D8 vA) (B1 vA) .none kV30 dc30 pm30 an30 cd30 ct30),sl30⟩) (c30 : PySem.W.codeIn K cd30 "_law_number" = true) (k30 : PySem.W.keepIn K (.ref f30) = true)
  (a31 : PySem.W.nsIn K mainGlobals "_law_text" = some (some (.ref f31))) (l31 : K.lookup f31 = some ⟨oc31,od31,.func (PySem.W.fnOf "_law_text" "_law_text" (E3 uZ) (D8 uZ) (B1 uZ) .none kV31 dc31 pm31 an31 cd31 ct31),sl31⟩) (c31 : PySem.W.codeIn K cd31 "_law_text" = true) (k31 : PySem.W.keepIn K (.ref f31) = true)
  (a32 : PySem.W.nsIn K mainGlobals "_law_span" = some (some (.ref f32))) (l32 : K.lookup f32 = some ⟨oc32,od32,.func (PySem.W.fnOf "_law_span" "_law_span" (E3 oF) (D8 oF) (B1 oF) .none kV32 dc32 pm32 an32 cd32 ct32),sl32⟩) (c32 : PySem.W.codeIn K cd32 "_law_span" = true) (k32 : PySem.W.keepIn K (.ref f32) = true)
  (a33 : PySem.W.nsIn K mainGlobals "_law_leaf" = some (some (.ref f33))) (l33 : K.lookup f33 = some ⟨oc33,od33,.func (PySem.W.fnOf "_law_leaf" "_law_leaf" (E3 vC) (D8 vC) (B1 vC) .none kV33 dc33 pm33 an33 cd33 ct33),sl33⟩) (c33 : PySem.W.codeIn K cd33 "_law_leaf" = true) (k33 : PySem.W.keepIn K (.ref f33) = true)
  (a34 : PySem.W.nsIn K mainGlobals "_law_tree" = some (some (.ref f34))) (l34 : K.lookup f34 = some ⟨oc34,od34,.func (PySem.W.fnOf "_law_tree" "_law_tree" (E3 dI) (D8 dI) (B1 dI) .none kV34 dc34 pm34 an34 cd34 ct34),sl34⟩) (c34 : PySem.W.codeIn K cd34 "_law_tree" = true) (k34 : PySem.W.keepIn K (.ref f34) = true)
  (a35 : PySem.W.nsIn K mainGlobals "_law_braced" = some (some (.ref f35))) (l35 : K.lookup f35 = some ⟨oc35,od35,.func (PySem.W.fnOf "_law_braced" "_law_braced" (E3 pW) (D8 pW) (B1 pW) .none kV35 dc35 pm35 an35 cd35 ct35),sl35⟩) (c35 : PySem.W.codeIn K cd35 "_law_braced" = true) (k35 : PySem.W.keepIn K (.ref f35) = true)
  (a36 : PySem.W.nsIn K mainGlobals "_law_tied" = some (some (.ref f36))) (l36 : K.lookup f36 = some ⟨oc36,od36,.func (PySem.W.fnOf "_law_tied" "_law_tied" (E3 pV) (D8 pV) (B1 pV) .none kV36 dc36 pm36 an36 cd36 ct36),sl36⟩) (c36 : PySem.W.codeIn K cd36 "_law_tied" = true) (k36 : PySem.W.keepIn K (.ref f36) = true)
  (a39 : PySem.W.nsIn K mainGlobals "_law_words" = some (some (.ref f39))) (l39 : K.lookup f39 = some ⟨oc39,od39,.func (PySem.W.fnOf "_law_words" "_law_words" (E3 pU) (D8 pU) (B1 pU) .none kV39 dc39 pm39 an39 cd39 ct39),sl39⟩) (c39 : PySem.W.codeIn K cd39 "_law_words" = true) (k39 : PySem.W.keepIn K (.ref f39) = true)
  (a37 : PySem.W.nsIn K mainGlobals "_law_span_words" = some (some (.ref f37))) (l37 : K.lookup f37 = some ⟨oc37,od37,.func (PySem.W.fnOf "_law_span_words" "_law_span_words" (E3 oE) (D8 oE) (B1 oE) .none kV37 dc37 pm37 an37 cd37 ct37),sl37⟩) (c37 : PySem.W.codeIn K cd37 "_law_span_words" = true) (k37 : PySem.W.keepIn K (.ref f37) = true)
  (a38 : PySem.W.nsIn K mainGlobals "_law_items_words" = some (some (.ref f38))) (l38 : K.lookup f38 = some ⟨oc38,od38,.func (PySem.W.fnOf "_law_items_words" "_law_items_words" (E3 oR) (D8 oR) (B1 oR) .none kV38 dc38 pm38 an38 cd38 ct38),sl38⟩) (c38 : PySem.W.codeIn K cd38 "_law_items_words" = true) (k38 : PySem.W.keepIn K (.ref f38) = true)
  (a40 : PySem.W.nsIn K mainGlobals "_law_path_words" = some (some (.ref f40))) (l40 : K.lookup f40 = some ⟨oc40,od40,.func (PySem.W.fnOf "_law_path_words" "_law_path_words" (E3 iP) (D8 iP) (B1 iP) .none kV40 dc40 pm40 an40 cd40 ct40),sl40⟩) (c40 : PySem.W.codeIn K cd40 "_law_path_words" = true) (k40 : PySem.W.keepIn K (.ref f40) = true)
  (a41 : PySem.W.nsIn K mainGlobals "_law_line" = some (some (.ref f41))) (l41 : K.lookup f41 = some ⟨oc41,od41,.func (PySem.W.fnOf "_law_line" "_law_line" (E3 kA) (D8 kA) (B1 kA) .none kV41 dc41 pm41 an41 cd41 ct41),sl41⟩) (c41 : PySem.W.codeIn K cd41 "_law_line" = true) (k41 : PySem.W.keepIn K (.ref f41) = true)
  (a42 : PySem.W.nsIn K mainGlobals "_law_doubled" = some (some (.ref f42))) (l42 : K.lookup f42 = some ⟨oc42,od42,.func (PySem.W.fnOf "_law_doubled" "_law_doubled" (E3 oU) (D8 oU) (B1 oU) .none kV42 dc42 pm42 an42 cd42 ct42),sl42⟩) (c42 : PySem.W.codeIn K cd42 "_law_doubled" = true) (k42 : PySem.W.keepIn K (.ref f42) = true)
  (a44 : PySem.W.nsIn K mainGlobals "_law_odd_word" = some (some (.ref f44))) (l44 : K.lookup f44 = some ⟨oc44,od44,.func (PySem.W.fnOf "_law_odd_word" "_law_odd_word" (E3 oN) (D8 oN) (B1 oN) .none kV44 dc44 pm44 an44 cd44 ct44),sl44⟩) (c44 : PySem.W.codeIn K cd44 "_law_odd_word" = true) (k44 : PySem.W.keepIn K (.ref f44) = true)
  (a43 : PySem.W.nsIn K mainGlobals "_law_odd_part" = some (some (.ref f43))) (l43 : K.lookup f43 = some ⟨oc43,od43,.func (PySem.W.fnOf "_law_odd_part" "_law_odd_part" (E3 oO) (D8 oO) (B1 oO) .none kV43 dc43 pm43 an43 cd43 ct43),sl43⟩) (c43 : PySem.W.codeIn K cd43 "_law_odd_part" = true) (k43 : PySem.W.keepIn K (.ref f43) = true)
  (a45 : PySem.W.nsIn K mainGlobals "_law_bad" = some (some (.ref f45))) (l45 : K.lookup f45 = some ⟨oc45,od45,.func (PySem.W.fnOf "_law_bad" "_law_bad" (E3 kE) (D8 kE) (B1 kE) .none kV45 dc45 pm45 an45 cd45 ct45),sl45⟩) (c45 : PySem.W.codeIn K cd45 "_law_bad" = true) (k45 : PySem.W.keepIn K (.ref f45) = true)
  (a46 : PySem.W.nsIn K mainGlobals "_law_refused" = some (some (.ref f46))) (l46 : K.lookup f46 = some ⟨oc46,od46,.func (PySem.W.fnOf "_law_refused" "_law_refused" (E3 oJ) (D8 oJ) (B1 oJ) .none kV46 dc46 pm46 an46 cd46 ct46),sl46⟩) (c46 : PySem.W.codeIn K cd46 "_law_refused" = true) (k46 : PySem.W.keepIn K (.ref f46) = true)
  (a47 : PySem.W.nsIn K mainGlobals "law" = some (some (.ref f47))) (l47 : K.lookup f47 = some ⟨oc47,od47,.func (PySem.W.fnOf "law" "law" (E3 gI) (D8 gI) (B1 gI) .none kV47 dc47 pm47 an47 cd47 ct47),sl47⟩) (c47 : PySem.W.codeIn K cd47 "law" = true) (k47 : PySem.W.keepIn K (.ref f47) = true)
  (z53 : PySem.W.nsIn K mainGlobals "ValueError" = some none)
  (z54 : PySem.W.nsIn K mainGlobals "all" = some none)
  (z55 : PySem.W.nsIn K mainGlobals "enumerate" = some none)
  (z56 : PySem.W.nsIn K mainGlobals "int" = some none)
  (z57 : PySem.W.nsIn K mainGlobals "isinstance" = some none)
  (z58 : PySem.W.nsIn K mainGlobals "len" = some none)
  (z59 : PySem.W.nsIn K mainGlobals "max" = some none)
  (z60 : PySem.W.nsIn K mainGlobals "ord" = some none)
  (z61 : PySem.W.nsIn K mainGlobals "range" = some none)
  (z62 : PySem.W.nsIn K mainGlobals "str" = some none)
  (z63 : PySem.W.nsIn K mainGlobals "tuple" = some none)
  (a_NO : PySem.W.nsIn K mainGlobals "NO_SIGNS" = some (some (.ref gt))) (l_NO : K.lookup gt = some ⟨.type "tuple",dN,.seq #[.int 34 tA,.int 37 tB] nN,slN⟩)
  (gNT : PySem.W.nsIn K mainGlobals "NoText" = some (some (.ref cC))) (gRD : PySem.W.nsIn K mainGlobals "Reader" = some (some (.ref cR))) (gMF : PySem.W.nsIn K mainGlobals "MOST_FIGURES" = some (some (.int 60 tM))) (gSS : PySem.W.nsIn K mainGlobals "SINGLE_SIGNS" = some (some (.str (Str.ofString "{}[](),:?&|!@.") tS))) (gPW : PySem.W.nsIn K mainGlobals "PLAIN_WORDS" = some (some (.ref gp))) (lPW : K.lookup gp = some ⟨.type "tuple",dP,.seq #[.str (Str.ofString "none") p0,.str (Str.ofString "yes") p1,.str (Str.ofString "no") p2,.str (Str.ofString "truth") p3,.str (Str.ofString "number") p4,.str (Str.ofString "text") p5,.str (Str.ofString "list") p6,.str (Str.ofString "record") p7,.str (Str.ofString "any") p8,.str (Str.ofString "nothing") p9] nP,slP⟩) (x1cC : PySem.W.excIn K cC [.type "ValueError",.type "Exception",.type "BaseException",.type "object"] "ValueError.__new__" = true) (x2cC : PySem.W.findIn K (.ref cC) "__getattribute__" = some (some (.builtin "BaseException.__getattribute__"))) (x3cC : PySem.W.findIn K (.ref cC) "__getattr__" = some none) (x4cC : PySem.W.findIn K (.ref cC) "__class__" = some (some (.builtin "object.__class__"))) (x5cC : PySem.W.mroIn K cC (.type "object") = some true) (x6cC : PySem.W.mroIn K cC (.type "BaseException") = some true) (y1 : PySem.W.plainGet K cR Str.empty = true) (y2 : PySem.W.hasDictIn K cR = true) (y3 : PySem.W.plainOver K cR = true) (y4 : PySem.W.findIn K (.ref cR) "__setattr__" = some (some (.builtin "object.__setattr__"))) (y5 : PySem.W.findIn K (.ref cR) "words" = some none) (y6 : PySem.W.findIn K (.ref cR) "taken" = some none) (y7 : PySem.W.makesIn K cR = true) (y8 : PySem.W.keepIn K (.ref cR) = true) (a48 : PySem.W.findIn K (.ref cR) "__init__" = some (some (.ref f48))) (l48 : K.lookup f48 = some ⟨oc48,od48,.func (PySem.W.fnOf "__init__" "Reader.__init__" (E3 kC) (D8 kC) (B1 kC) .none kV48 dc48 pm48 an48 cd48 ct48),sl48⟩) (c48 : PySem.W.codeIn K cd48 "Reader.__init__" = true) (k48 : PySem.W.keepIn K (.ref f48) = true) (i48 : PySem.W.isFn K (.ref f48) = true) (a49 : PySem.W.findIn K (.ref cR) "ahead" = some (some (.ref f49))) (l49 : K.lookup f49 = some ⟨oc49,od49,.func (PySem.W.fnOf "ahead" "Reader.ahead" (E3 fG) (D8 fG) (B1 fG) .none kV49 dc49 pm49 an49 cd49 ct49),sl49⟩) (c49 : PySem.W.codeIn K cd49 "Reader.ahead" = true) (k49 : PySem.W.keepIn K (.ref f49) = true) (i49 : PySem.W.isFn K (.ref f49) = true) (a50 : PySem.W.findIn K (.ref cR) "take" = some (some (.ref f50))) (l50 : K.lookup f50 = some ⟨oc50,od50,.func (PySem.W.fnOf "take" "Reader.take" (E3 jU) (D8 jU) (B1 jU) .none kV50 dc50 pm50 an50 cd50 ct50),sl50⟩) (c50 : PySem.W.codeIn K cd50 "Reader.take" = true) (k50 : PySem.W.keepIn K (.ref f50) = true) (i50 : PySem.W.isFn K (.ref f50) = true) (a51 : PySem.W.findIn K (.ref cR) "takes" = some (some (.ref f51))) (l51 : K.lookup f51 = some ⟨oc51,od51,.func (PySem.W.fnOf "takes" "Reader.takes" (E3 fA) (D8 fA) (B1 fA) .none kV51 dc51 pm51 an51 cd51 ct51),sl51⟩) (c51 : PySem.W.codeIn K cd51 "Reader.takes" = true) (k51 : PySem.W.keepIn K (.ref f51) = true) (i51 : PySem.W.isFn K (.ref f51) = true) (a52 : PySem.W.findIn K (.ref cR) "must_take" = some (some (.ref f52))) (l52 : K.lookup f52 = some ⟨oc52,od52,.func (PySem.W.fnOf "must_take" "Reader.must_take" (E3 jZ) (D8 jZ) (B1 jZ) .none kV52 dc52 pm52 an52 cd52 ct52),sl52⟩) (c52 : PySem.W.codeIn K cd52 "Reader.must_take" = true) (k52 : PySem.W.keepIn K (.ref f52) = true) (i52 : PySem.W.isFn K (.ref f52) = true) (gME : PySem.W.nsIn K mainGlobals "MeetError" = some (some (.ref cM))) (gRI : PySem.W.nsIn K mainGlobals "Ring" = some (some (.ref cG))) (gNR : PySem.W.nsIn K mainGlobals "NoRow" = some (some (.ref cN))) (x1cM : PySem.W.excIn K cM [.type "ValueError",.type "Exception",.type "BaseException",.type "object"] "ValueError.__new__" = true) (x2cM : PySem.W.findIn K (.ref cM) "__getattribute__" = some (some (.builtin "BaseException.__getattribute__"))) (x3cM : PySem.W.findIn K (.ref cM) "__getattr__" = some none) (x4cM : PySem.W.findIn K (.ref cM) "__class__" = some (some (.builtin "object.__class__"))) (x5cM : PySem.W.mroIn K cM (.type "object") = some true) (x6cM : PySem.W.mroIn K cM (.type "BaseException") = some true) (r1 : PySem.W.mroIn K cC (.ref cM) = some true) (q1 : PySem.W.kitOne K (.ref cC) (.ref cC) = some true) (q2 : PySem.W.kitOne K (.ref cC) (.type "ValueError") = some true) (q3 : PySem.W.kitOne K (.ref cC) (.ref cG) = some false) (q4 : PySem.W.kitOne K (.ref cC) (.ref cN) = some false) :
  ∃ fd : FuncData,(∀ (s : Shared) (v : Value),BindsTo s fd ⟨[v],[]⟩ [("_law_script",v)]) ∧ ∀ base : Heap,K.In base → base.Ns mainGlobals mg → FnOk l.prog w K mg base K1 55 fa fd ["_law_script"] (rE K) := by
 have e := hfa.symm.trans (PySem.W.mg_of X G a47)
 cases e
 have F0 := E9 (st := jY) l0 c0 k0
 have F1 := E9 (st := jV) l1 c1 k1
 have F5 := E9 (st := bR) l5 c5 k5
 have F6 := E9 (st := bS) l6 c6 k6
 have F4 := E9 (st := oG) l4 c4 k4
 have F7 := E9 (st := oP) l7 c7 k7
 have F8 := E9 (st := oK) l8 c8 k8
 have F3 := E9 (st := jT) l3 c3 k3
 have F2 := E9 (st := eZ) l2 c2 k2
 have F15 := E9 (st := kB) l15 c15 k15
 have F23 := E9 (st := bQ) l23 c23 k23
 have F22 := E9 (st := aC) l22 c22 k22
 have F19 := E9 (st := oS) l19 c19 k19
 have F20 := E9 (st := kD) l20 c20 k20
 have F16 := E9 (st := fB) l16 c16 k16
 have F12 := E9 (st := oM) l12 c12 k12
 have F11 := E9 (st := dM) l11 c11 k11
 have F13 := E9 (st := dL) l13 c13 k13
 have F14 := E9 (st := Y6) l14 c14 k14
 have F17 := E9 (st := aO) l17 c17 k17
 have F18 := E9 (st := dJ) l18 c18 k18
 have F21 := E9 (st := aP) l21 c21 k21
 have F9 := E9 (st := jW) l9 c9 k9
 have F10 := E9 (st := oH) l10 c10 k10
 have F24 := E9 (st := jX) l24 c24 k24
 have F25 := E9 (st := fC) l25 c25 k25
 have F26 := E9 (st := oQ) l26 c26 k26
 have F27 := E9 (st := fE) l27 c27 k27
 have F28 := E9 (st := vB) l28 c28 k28
 have F29 := E9 (st := iQ) l29 c29 k29
 have F30 := E9 (st := vA) l30 c30 k30
 have F31 := E9 (st := uZ) l31 c31 k31
 have F32 := E9 (st := oF) l32 c32 k32
 have F33 := E9 (st := vC) l33 c33 k33
 have F34 := E9 (st := dI) l34 c34 k34
 have F35 := E9 (st := pW) l35 c35 k35
 have F36 := E9 (st := pV) l36 c36 k36
 have F39 := E9 (st := pU) l39 c39 k39
 have F37 := E9 (st := oE) l37 c37 k37
 have F38 := E9 (st := oR) l38 c38 k38
 have F40 := E9 (st := iP) l40 c40 k40
 have F41 := E9 (st := kA) l41 c41 k41
 have F42 := E9 (st := oU) l42 c42 k42
 have F44 := E9 (st := oN) l44 c44 k44
 have F43 := E9 (st := oO) l43 c43 k43
 have F45 := E9 (st := kE) l45 c45 k45
 have F46 := E9 (st := oJ) l46 c46 k46
 have F47 := E9 (st := gI) l47 c47 k47
 have b0 := F0.binds (ps := ["word"]) fun _ _ _ _ _ _ us hl=>match us,hl with | [_],_=>rfl
 have b1 := F1.binds (ps := ["letter"]) fun _ _ _ _ _ _ us hl=>match us,hl with | [_],_=>rfl
 have b5 := F5.binds (ps := ["sign"]) fun _ _ _ _ _ _ us hl=>match us,hl with | [_],_=>rfl
 have b6 := F6.binds (ps := ["sign"]) fun _ _ _ _ _ _ us hl=>match us,hl with | [_],_=>rfl
 have b4 := F4.binds (ps := ["text","place","fits"]) fun _ _ _ _ _ _ us hl=>match us,hl with | [_,_,_],_=>rfl
 have b7 := F7.binds (ps := ["text","place"]) fun _ _ _ _ _ _ us hl=>match us,hl with | [_,_],_=>rfl
 have b8 := F8.binds (ps := ["text","place"]) fun _ _ _ _ _ _ us hl=>match us,hl with | [_,_],_=>rfl
 have b3 := F3.binds (ps := ["text","place"]) fun _ _ _ _ _ _ us hl=>match us,hl with | [_,_],_=>rfl
 have b2 := F2.binds (ps := ["text"]) fun _ _ _ _ _ _ us hl=>match us,hl with | [_],_=>rfl
 have b15 := F15.binds (ps := ["word"]) fun _ _ _ _ _ _ us hl=>match us,hl with | [_],_=>rfl
 have b23 := F23.binds (ps := ["reader"]) fun _ _ _ _ _ _ us hl=>match us,hl with | [_],_=>rfl
 have b22 := F22.binds (ps := ["reader"]) fun _ _ _ _ _ _ us hl=>match us,hl with | [_],_=>rfl
 have b19 := F19.binds (ps := ["reader","close","count"]) fun _ _ _ _ _ _ us hl=>match us,hl with | [_,_,_],_=>rfl
 have b20 := F20.binds (ps := ["reader","close"]) fun _ _ _ _ _ _ us hl=>match us,hl with | [_,_],_=>rfl
 have b16 := F16.binds (ps := ["reader","low"]) fun _ _ _ _ _ _ us hl=>match us,hl with | [_,_],_=>rfl
 have b12 := F12.binds (ps := ["word","trees"]) fun _ _ _ _ _ _ us hl=>match us,hl with | [_,_],_=>rfl
 have b11 := F11.binds (ps := ["reader","free"]) fun _ _ _ _ _ _ us hl=>match us,hl with | [_,_],_=>rfl
 have b13 := F13.binds (ps := ["reader","free"]) fun _ _ _ _ _ _ us hl=>match us,hl with | [_,_],_=>rfl
 have b14 := F14.binds (ps := ["reader","free"]) fun _ _ _ _ _ _ us hl=>match us,hl with | [_,_],_=>rfl
 have b17 := F17.binds (ps := ["reader"]) fun _ _ _ _ _ _ us hl=>match us,hl with | [_],_=>rfl
 have b18 := F18.binds (ps := ["reader"]) fun _ _ _ _ _ _ us hl=>match us,hl with | [_],_=>rfl
 have b21 := F21.binds (ps := ["reader"]) fun _ _ _ _ _ _ us hl=>match us,hl with | [_],_=>rfl
 have b9 := F9.binds (ps := ["text"]) fun _ _ _ _ _ _ us hl=>match us,hl with | [_],_=>rfl
 have b10 := F10.binds (ps := ["line"]) fun _ _ _ _ _ _ us hl=>match us,hl with | [_],_=>rfl
 have b24 := F24.binds (ps := ["_law_state","_law_many"]) fun _ _ _ _ _ _ us hl=>match us,hl with | [_,_],_=>rfl
 have b25 := F25.binds (ps := ["_law_script","_law_many"]) fun _ _ _ _ _ _ us hl=>match us,hl with | [_,_],_=>rfl
 have b26 := F26.binds (ps := ["_law_state","_law_many","_law_span_here"]) fun _ _ _ _ _ _ us hl=>match us,hl with | [_,_,_],_=>rfl
 have b27 := F27.binds (ps := []) fun _ _ _ _ _ _ us hl=>match us,hl with | [],_=>rfl
 have b28 := F28.binds (ps := ["_law_state"]) fun _ _ _ _ _ _ us hl=>match us,hl with | [_],_=>rfl
 have b29 := F29.binds (ps := ["_law_state","_law_many"]) fun _ _ _ _ _ _ us hl=>match us,hl with | [_,_],_=>rfl
 have b30 := F30.binds (ps := ["_law_state"]) fun _ _ _ _ _ _ us hl=>match us,hl with | [_],_=>rfl
 have b31 := F31.binds (ps := ["_law_state"]) fun _ _ _ _ _ _ us hl=>match us,hl with | [_],_=>rfl
 have b32 := F32.binds (ps := ["_law_state"]) fun _ _ _ _ _ _ us hl=>match us,hl with | [_],_=>rfl
 have b33 := F33.binds (ps := ["_law_state"]) fun _ _ _ _ _ _ us hl=>match us,hl with | [_],_=>rfl
 have b34 := F34.binds (ps := ["_law_state","_law_deep","_law_places"]) fun _ _ _ _ _ _ us hl=>match us,hl with | [_,_,_],_=>rfl
 have b35 := F35.binds (ps := ["_law_tree_here","_law_tying","_law_state"]) fun _ _ _ _ _ _ us hl=>match us,hl with | [_,_,_],_=>rfl
 have b36 := F36.binds (ps := ["_law_sign","_law_trees","_law_tying","_law_state"]) fun _ _ _ _ _ _ us hl=>match us,hl with | [_,_,_,_],_=>rfl
 have b39 := F39.binds (ps := ["_law_tree_here","_law_state"]) fun _ _ _ _ _ _ us hl=>match us,hl with | [_,_],_=>rfl
 have b37 := F37.binds (ps := ["_law_tree_here","_law_state"]) fun _ _ _ _ _ _ us hl=>match us,hl with | [_,_],_=>rfl
 have b38 := F38.binds (ps := ["_law_rows","_law_more"]) fun _ _ _ _ _ _ us hl=>match us,hl with | [_,_],_=>rfl
 have b40 := F40.binds (ps := ["_law_path"]) fun _ _ _ _ _ _ us hl=>match us,hl with | [_],_=>rfl
 have b41 := F41.binds (ps := ["_law_words_here","_law_state"]) fun _ _ _ _ _ _ us hl=>match us,hl with | [_,_],_=>rfl
 have b42 := F42.binds (ps := ["_law_words_here","_law_state"]) fun _ _ _ _ _ _ us hl=>match us,hl with | [_,_],_=>rfl
 have b44 := F44.binds (ps := ["_law_state"]) fun _ _ _ _ _ _ us hl=>match us,hl with | [_],_=>rfl
 have b43 := F43.binds (ps := ["_law_state","_law_tree_here"]) fun _ _ _ _ _ _ us hl=>match us,hl with | [_,_],_=>rfl
 have b45 := F45.binds (ps := ["_law_tree_here","_law_state"]) fun _ _ _ _ _ _ us hl=>match us,hl with | [_,_],_=>rfl
 have b46 := F46.binds (ps := ["_law_text_here","_law_by_row"]) fun _ _ _ _ _ _ us hl=>match us,hl with | [_,_],_=>rfl
 have m53 := PySem.W.mg_none_of X G z53
 have m54 := PySem.W.mg_none_of X G z54
 have m55 := PySem.W.mg_none_of X G z55
 have m56 := PySem.W.mg_none_of X G z56
 have m57 := PySem.W.mg_none_of X G z57
 have m58 := PySem.W.mg_none_of X G z58
 have m59 := PySem.W.mg_none_of X G z59
 have m60 := PySem.W.mg_none_of X G z60
 have m61 := PySem.W.mg_none_of X G z61
 have m62 := PySem.W.mg_none_of X G z62
 have m63 := PySem.W.mg_none_of X G z63
 have G_no := PySem.W.mg_of X G a_NO
 have K_no : ∀ H : Hp,SqT K H gt [.int 34,.int 37] := fun H=>.inr ⟨_,#[.int 34 tA,.int 37 tB],nN,l_NO,rfl,rfl,(by show 2 ≤ sizeLine; decide),.cons ⟨tA,rfl⟩ (.cons ⟨tB,rfl⟩ .nil)⟩
 have hNT : NT K mg cC := ⟨⟨x1cC,x2cC,x3cC,x4cC,x5cC,x6cC⟩,PySem.W.mg_of X G gNT⟩
 have G_most := PySem.W.mg_of X G gMF
 have G_sing := PySem.W.mg_of X G gSS
 have G_reader := PySem.W.mg_of X G gRD
 have G_plain := PySem.W.mg_of X G gPW
 have hRK : RK K cR := ⟨⟨y1,y2,y3,y4⟩,y5,y6⟩
 have hMk : Mk K cR f48 := ⟨y7,a48,i48,y8⟩
 have K_plain : ∀ H : Hp,SqT K H gp (ST L5) := fun H=>by
  rw [← tE]
  exact .inr ⟨_,#[.str (Str.ofString "none") p0,.str (Str.ofString "yes") p1,.str (Str.ofString "no") p2,.str (Str.ofString "truth") p3,.str (Str.ofString "number") p4,.str (Str.ofString "text") p5,.str (Str.ofString "list") p6,.str (Str.ofString "record") p7,.str (Str.ofString "any") p8,.str (Str.ofString "nothing") p9],nP,lPW,rfl,rfl,(by show 10 ≤ sizeLine; decide),.cons ⟨p0,rfl⟩ (.cons ⟨p1,rfl⟩ (.cons ⟨p2,rfl⟩ (.cons ⟨p3,rfl⟩ (.cons ⟨p4,rfl⟩ (.cons ⟨p5,rfl⟩ (.cons ⟨p6,rfl⟩ (.cons ⟨p7,rfl⟩ (.cons ⟨p8,rfl⟩ (.cons ⟨p9,rfl⟩ .nil)))))))))⟩
 have hRF : RF K mg cC := ⟨hNT,cM,cG,cN,⟨x1cM,x2cM,x3cM,x4cM,x5cM,x6cM⟩,r1,PySem.W.mg_of X G gME,PySem.W.mg_of X G gRI,PySem.W.mg_of X G gNR,q1,q2,q3,q4⟩
 have F48 := E9 (st := kC) l48 c48 k48
 have b48 := F48.binds (ps := ["self","text"]) fun _ _ _ _ _ _ us hl=>match us,hl with | [_,_],_=>rfl
 have F49 := E9 (st := fG) l49 c49 k49
 have b49 := F49.binds (ps := ["self","steps"]) fun _ _ _ _ _ _ us hl=>match us,hl with | [_,_],_=>rfl
 have F50 := E9 (st := jU) l50 c50 k50
 have b50 := F50.binds (ps := ["self"]) fun _ _ _ _ _ _ us hl=>match us,hl with | [_],_=>rfl
 have F51 := E9 (st := fA) l51 c51 k51
 have b51 := F51.binds (ps := ["self","word"]) fun _ _ _ _ _ _ us hl=>match us,hl with | [_,_],_=>rfl
 have F52 := E9 (st := jZ) l52 c52 k52
 have b52 := F52.binds (ps := ["self","word"]) fun _ _ _ _ _ _ us hl=>match us,hl with | [_,_],_=>rfl
 refine ⟨PySem.W.fnOf "law" "law" (E3 gI) (D8 gI) (B1 gI) .none kV47 dc47 pm47 an47 cd47 ct47,fun s v=>.of_eq rfl,fun base _ _=>?_⟩
 have C0 : Cal l.prog w K mg base 1 "is_name" ["word"] sE := ⟨_,_,AR2 F0 m57 m62 m54 m58,PySem.W.mg_of X G a0,k0,b0⟩
 have C1 : Cal l.prog w K mg base 1 "is_sign" ["letter"] (fun vs H Q _=>X2 T1 vs H Q) := ⟨_,_,AQ5 F1 m60 G_no K_no,PySem.W.mg_of X G a1,k1,b1⟩
 have C5 : Cal l.prog w K mg base 1 "is_letter" ["sign"] (fun vs H Q _=>X2 P2 vs H Q) := ⟨_,_,zD F5,PySem.W.mg_of X G a5,k5,b5⟩
 have C6 : Cal l.prog w K mg base 1 "is_figure" ["sign"] (fun vs H Q _=>X2 K7 vs H Q) := ⟨_,_,zE F6,PySem.W.mg_of X G a6,k6,b6⟩
 have C4 : Cal l.prog w K mg base 2 "run_end" ["text","place","fits"] (mC l.prog w K mg base) := ⟨_,_,AY1 F4 m58,PySem.W.mg_of X G a4,k4,b4⟩
 obtain ⟨vfig,V_fig⟩ := uI C6
 obtain ⟨vsig,V_sig⟩ := uI C1
 have C7 : M2 l.prog w K mg base 3 "number_at" ["text","place"] (dZ X4 cC) := ⟨_,_,AY9 F7 C4 hNT V_fig.1 V_fig.2 G_most m58,PySem.W.mg_of X G a7,k7,b7⟩
 have C8 : M2 l.prog w K mg base 3 "quoted_at" ["text","place"] (dZ bE cC) := ⟨_,_,AY4 F8 C4 hNT V_sig.1 V_sig.2,PySem.W.mg_of X G a8,k8,b8⟩
 have C3 : M2 l.prog w K mg base 4 "word_at" ["text","place"] (dZ O1 cC) := ⟨_,_,AQ3 F3 C4 C5 C6 C7 C8 hNT G_sing,PySem.W.mg_of X G a3,k3,b3⟩
 have C2 : M2 l.prog w K mg base 5 "words_of" ["text"] (nZ K cC) := ⟨_,_,AE6 F2 C3 hNT m58 m57 m62,PySem.W.mg_of X G a2,k2,b2⟩
 have C15 : Cal l.prog w K mg base 2 "is_number" ["word"] iI := ⟨_,_,AR4 F15 C6,PySem.W.mg_of X G a15,k15,b15⟩
 have M49 : R7 l.prog w K mg base K1 cR 1 "ahead" ["self","steps"] (V6 cR) := ⟨_,_,AF4 F49 hRK m58,⟨a49,i49,k49⟩,b49⟩
 have M50 : R7 l.prog w K mg base K1 cR 2 "take" ["self"] (aM cR) := ⟨_,_,AQ4 F50 hRK M49,⟨a50,i50,k50⟩,b50⟩
 have M51 : R7 l.prog w K mg base K1 cR 2 "takes" ["self","word"] (Y4 cR) := ⟨_,_,AE7 F51 hRK M49,⟨a51,i51,k51⟩,b51⟩
 have M52 : R7 l.prog w K mg base (O0 l.prog w) cR 3 "must_take" ["self","word"] (cA cR cC) := ⟨_,_,AR3 F52 hRK hNT M50,⟨a52,i52,k52⟩,b52⟩
 have C23 : M2 l.prog w K mg base 3 "name_of" ["reader"] (bZ cR cC) := ⟨_,_,zC F23 hRK hNT M50 C0,PySem.W.mg_of X G a23,k23,b23⟩
 have C22 : M2 l.prog w K mg base 4 "names_of" ["reader"] (dD K cR cC) := ⟨_,_,xD F22 hRK C23 M51 m63,PySem.W.mg_of X G a22,k22,b22⟩
 have C19 : M2 l.prog w K mg base 4 "has_another" ["reader","close","count"] (mD cR cC) := ⟨_,_,AZ4 F19 hRK M49 M52,PySem.W.mg_of X G a19,k19,b19⟩
 have C20 : M2 l.prog w K mg base 4 "takes_end" ["reader","close"] (iJ cR cC) := ⟨_,_,AR7 F20 hRK M51 M52,PySem.W.mg_of X G a20,k20,b20⟩
 have C16 : Cal l.prog w K mg base 3 "span_tree" ["reader","low"] (jQ K cR) := ⟨_,_,AE8 F16 hRK M51 M50 M49 C15 m56,PySem.W.mg_of X G a16,k16,b16⟩
 have C12 : Cal l.prog w K mg base 1 "one_or_several" ["word","trees"] (rB K) := ⟨_,_,AY6 F12 m58 m63,PySem.W.mg_of X G a12,k12,b12⟩
 have N11 : Nm K mg "expression" dM ["reader","free"] := ⟨_,_,F11,PySem.W.mg_of X G a11,k11,b11⟩
 have N13 : Nm K mg "negated" dL ["reader","free"] := ⟨_,_,F13,PySem.W.mg_of X G a13,k13,b13⟩
 have N14 : Nm K mg "single" Y6 ["reader","free"] := ⟨_,_,F14,PySem.W.mg_of X G a14,k14,b14⟩
 have N17 : Nm K mg "list_tree" aO ["reader"] := ⟨_,_,F17,PySem.W.mg_of X G a17,k17,b17⟩
 have N18 : Nm K mg "record_tree" dJ ["reader"] := ⟨_,_,F18,PySem.W.mg_of X G a18,k18,b18⟩
 have N21 : Nm K mg "field_of" aP ["reader"] := ⟨_,_,F21,PySem.W.mg_of X G a21,k21,b21⟩
 have hRdg : Rdg l.prog w K mg base cR cC := ⟨hRK,hNT,N11,N13,N14,N17,N18,N21,C19,C20,C23,C22,C15,C16,C12,M49,M50,M51,M52,⟨gp,G_plain,K_plain⟩,m58,m63,m56,m61⟩
 have FIni := AR5 (P := l.prog) (w := w) (base := base) F48 hRK C2
 have C9 : M2 l.prog w K mg base 53 "read" ["text"] (W5 K cC (bO 9)) := ⟨_,_,AQ7 (N := 9) F9 hRdg hMk FIni b48 G_reader,PySem.W.mg_of X G a9,k9,b9⟩
 have C10 : M2 l.prog w K mg base 53 "read_row" ["line"] (W5 K cC (cY (Exn 9))) := ⟨_,_,AY2 (N := 9) F10 hRdg hMk FIni b48 G_reader,PySem.W.mg_of X G a10,k10,b10⟩
 have C24 : Cal l.prog w K mg base 1 "_law_next" ["_law_state","_law_many"] O9 := ⟨_,_,AR0 F24,PySem.W.mg_of X G a24,k24,b24⟩
 have C25 : Cal l.prog w K mg base 1 "_law_seeds" ["_law_script","_law_many"] (oA K) := ⟨_,_,AE9 F25 m61 m55,PySem.W.mg_of X G a25,k25,b25⟩
 have C26 : Cal l.prog w K mg base 2 "_law_letters" ["_law_state","_law_many","_law_span_here"] rD := ⟨_,_,AZ1 F26 C24 m61,PySem.W.mg_of X G a26,k26,b26⟩
 have C27 : Cal l.prog w K mg base 1 "_law_plain" [] jR := ⟨_,_,AF0 F27,PySem.W.mg_of X G a27,k27,b27⟩
 have C28 : Cal l.prog w K mg base 3 "_law_name" ["_law_state"] kX := ⟨_,_,BF7 F28 C24 C26 C27,PySem.W.mg_of X G a28,k28,b28⟩
 have N29 : Nm K mg "_law_names" iQ ["_law_state","_law_many"] := ⟨_,_,F29,PySem.W.mg_of X G a29,k29,b29⟩
 have C30 : Cal l.prog w K mg base 2 "_law_number" ["_law_state"] wS := ⟨_,_,BF6 F30 C24 m61,PySem.W.mg_of X G a30,k30,b30⟩
 have C31 : Cal l.prog w K mg base 2 "_law_text" ["_law_state"] AC9 := ⟨_,_,BF4 F31 C24 m61 m58,PySem.W.mg_of X G a31,k31,b31⟩
 have C32 : Cal l.prog w K mg base 3 "_law_span" ["_law_state"] (kW K aX) := ⟨_,_,AY0 F32 C24 C30,PySem.W.mg_of X G a32,k32,b32⟩
 have C33 : Cal l.prog w K mg base 4 "_law_leaf" ["_law_state"] (kW K aX) := ⟨_,_,BF8 F33 C24 C27 C32 C31,PySem.W.mg_of X G a33,k33,b33⟩
 have N34 : Nm K mg "_law_tree" dI ["_law_state","_law_deep","_law_places"] := ⟨_,_,F34,PySem.W.mg_of X G a34,k34,b34⟩
 have N35 : Nm K mg "_law_braced" pW ["_law_tree_here","_law_tying","_law_state"] := ⟨_,_,F35,PySem.W.mg_of X G a35,k35,b35⟩
 have N36 : Nm K mg "_law_tied" pV ["_law_sign","_law_trees","_law_tying","_law_state"] := ⟨_,_,F36,PySem.W.mg_of X G a36,k36,b36⟩
 have N39 : Nm K mg "_law_words" pU ["_law_tree_here","_law_state"] := ⟨_,_,F39,PySem.W.mg_of X G a39,k39,b39⟩
 have C37 : Cal l.prog w K mg base 2 "_law_span_words" ["_law_tree_here","_law_state"] (qZ K) := ⟨_,_,AX9 F37 C24 m62,PySem.W.mg_of X G a37,k37,b37⟩
 have C38 : Cal l.prog w K mg base 1 "_law_items_words" ["_law_rows","_law_more"] rF := ⟨_,_,AZ3 F38 m56 m58,PySem.W.mg_of X G a38,k38,b38⟩
 have N40 : Nm K mg "_law_path_words" iP ["_law_path"] := ⟨_,_,F40,PySem.W.mg_of X G a40,k40,b40⟩
 have C41 : Cal l.prog w K mg base 2 "_law_line" ["_law_words_here","_law_state"] oB := ⟨_,_,AF2 F41 C24 m59,PySem.W.mg_of X G a41,k41,b41⟩
 have hNMS : Cal l.prog w K mg base 4 "_law_names" ["_law_state","_law_many"] rC := N29.cal fun f fd F=>AZ0 F C28 m61
 have hNMSN : Cal l.prog w K mg base 4 "_law_names" ["_law_state","_law_many"] sD := N29.cal fun f fd F=>AQ9 F C28 m61
 have hPTW : Cal l.prog w K mg base 1 "_law_path_words" ["_law_path"] (rA K) := N40.cal fun f fd F=>AY5 F m56 m58
 have hPTWL : Cal l.prog w K mg base 1 "_law_path_words" ["_law_path"] (sC K) := N40.cal fun f fd F=>AQ8 F m56 m58
 have hTR3 := rX N34 C24 C28 hNMS C33 m61 m63 3 (by decide)
 have hWS3 := xW N39 N35 N36 C24 C37 hPTW C38 m56 m58 3 (by decide)
 have C42 : Cal l.prog w K mg base 2 "_law_doubled" ["_law_words_here","_law_state"] wT := ⟨_,_,AZ5 F42 C24 m61 m58,PySem.W.mg_of X G a42,k42,b42⟩
 have C44 : Cal l.prog w K mg base 3 "_law_odd_word" ["_law_state"] wQ := ⟨_,_,AY7 F44 C24 C26,PySem.W.mg_of X G a44,k44,b44⟩
 have C43 : Cal l.prog w K mg base 13 "_law_odd_part" ["_law_state","_law_tree_here"] (wR K) := ⟨_,_,AY8 F43 C24 hWS3 hNMSN hPTWL C28 C30 m62,PySem.W.mg_of X G a43,k43,b43⟩
 have C45 : Cal l.prog w K mg base 14 "_law_bad" ["_law_tree_here","_law_state"] (sH K) := ⟨_,_,AR8 F45 C24 hWS3 C42 C44 C43,PySem.W.mg_of X G a45,k45,b45⟩
 have C46 : Cal l.prog w K mg base 54 "_law_refused" ["_law_text_here","_law_by_row"] (wP K cC 9) := ⟨_,_,AY3 (N := 9) F46 C10 C9 hRF m57 m53,PySem.W.mg_of X G a46,k46,b46⟩
 exact AZ2 (C := cC) F47 C24 C25 hTR3 hWS3 C41 C45 C46 C9 C10 m58
theorem walk {l : PySem.W.OpenLaw} {q : Program} {loose : List Str} {XP : (Str → Option Value) → Heap → Prop} {YP : World → Heap → Prop} {d : DefRec} {K : Params → PySem.W.Frag} (hn : l.most = some 63) (hdf : d.params.defaults = [])
  (hY : ∀ (w : World) (h : Heap),YP w h → (K w.params).In h)
  (F : ∀ (w : World) (mg : Str → Option Value) (fa : Addr) (h : Heap),(K w.params).In h → h.Ns mainGlobals mg → mg d.name = some (.ref fa) →
   ∃ fd : FuncData,(∀ (s : Shared) (u : Value),BindsTo s fd ⟨[u],[]⟩ [("_law_script",u)]) ∧ ∀ base : Heap,(K w.params).In base → base.Ns mainGlobals mg → FnOk l.prog w (K w.params) mg base K1 55 fa fd ["_law_script"] (rE (K w.params))) :
  PySem.W.WalkO q loose XP YP l.row.toRowW d [] (fun f vs=>PySem.call f vs) :=
 L2.walk_of (n := 63) (k := 55) (x := "_law_script") (CX := fun _=>K1) (sp := fun w=>rE (K w.params)) hn (by decide) hdf ⟨rfl,by decide,by decide⟩ hY F (fun _ _ a ns hl _ hS=>⟨a,ns,rfl,hS,hl,fun _=>rfl⟩) fun _ _ _ _ _ z=>z
end Law
def PySem.W.Fast.tw4287354522691438074 : Unit := ()
def PySem.W.Fast.tw8291847959161657403 : Unit := ()
def PySem.W.Fast.tw15437437593355602412 : Unit := ()
def PySem.W.Fast.tw2297515052555424290 : Unit := ()
def PySem.W.Fast.tw12952916612101222806 : Unit := ()
def PySem.W.Fast.tw1193881354208372166 : Unit := ()
def PySem.W.Fast.tw2892453804995789560 : Unit := ()
def PySem.W.Fast.tw15455206900661994555 : Unit := ()
def PySem.W.Fast.tw5119138756323145199 : Unit := ()
def PySem.W.Fast.tw9652162022379605344 : Unit := ()
def PySem.W.Fast.tw18280828779460575259 : Unit := ()
def PySem.W.Fast.tw5099518884641908050 : Unit := ()
def PySem.W.Fast.tw14182198385689944978 : Unit := ()
def PySem.W.Fast.tw15943016892632592254 : Unit := ()
def PySem.W.Fast.tw15111140999773629467 : Unit := ()
def PySem.W.Fast.tw2755215552280079453 : Unit := ()
def PySem.W.Fast.tw11929706655558259140 : Unit := ()
def PySem.W.Fast.tw3536412712804992698 : Unit := ()
def PySem.W.Fast.tw11858718535719500838 : Unit := ()
def PySem.W.Fast.tw1557286656596618912 : Unit := ()
def PySem.W.Fast.tw9492982176154753672 : Unit := ()
def PySem.W.Fast.tw7190219224798706738 : Unit := ()
def PySem.W.Fast.tw10073582216687636314 : Unit := ()
def PySem.W.Fast.tw13897399381356257486 : Unit := ()
open PySem PySem.W PyProof.Rows
set_option maxRecDepth 100000 in
set_option maxHeartbeats 0 in
theorem PySem.Challenge.cw_meetvalue_k33_refused_texts_holds : PySem.Challenge.rw_meetvalue_k33_refused_texts.Holds := by
 w_on; o_law; k_head; (case hw=>w_witness2)
 k_fill
 refine Law.walk (l := PySem.Challenge.rw_meetvalue_k33_refused_texts) rfl rfl (fun w h Y=>PySem.W.kIn_of Y) ?F
 case F =>
  intro w mg fa h KX G hmg
  refine' Law.all_mk KX G hmg ?a0 ?l0 ?c0 ?k0 ?a1 ?l1 ?c1 ?k1 ?a5 ?l5 ?c5 ?k5 ?a6 ?l6 ?c6 ?k6 ?a4 ?l4 ?c4 ?k4 ?a7 ?l7 ?c7 ?k7 ?a8 ?l8 ?c8 ?k8 ?a3 ?l3 ?c3 ?k3 ?a2 ?l2 ?c2 ?k2 ?a15 ?l15 ?c15 ?k15 ?a23 ?l23 ?c23 ?k23 ?a22 ?l22 ?c22 ?k22 ?a19 ?l19 ?c19 ?k19 ?a20 ?l20 ?c20 ?k20 ?a16 ?l16 ?c16 ?k16 ?a12 ?l12 ?c12 ?k12 ?a11 ?l11 ?c11 ?k11 ?a13 ?l13 ?c13 ?k13 ?a14 ?l14 ?c14 ?k14 ?a17 ?l17 ?c17 ?k17 ?a18 ?l18 ?c18 ?k18 ?a21 ?l21 ?c21 ?k21 ?a9 ?l9 ?c9 ?k9 ?a10 ?l10 ?c10 ?k10 ?a24 ?l24 ?c24 ?k24 ?a25 ?l25 ?c25 ?k25 ?a26 ?l26 ?c26 ?k26 ?a27 ?l27 ?c27 ?k27 ?a28 ?l28 ?c28 ?k28 ?a29 ?l29 ?c29 ?k29 ?a30 ?l30 ?c30 ?k30 ?a31 ?l31 ?c31 ?k31 ?a32 ?l32 ?c32 ?k32 ?a33 ?l33 ?c33 ?k33 ?a34 ?l34 ?c34 ?k34 ?a35 ?l35 ?c35 ?k35 ?a36 ?l36 ?c36 ?k36 ?a39 ?l39 ?c39 ?k39 ?a37 ?l37 ?c37 ?k37 ?a38 ?l38 ?c38 ?k38 ?a40 ?l40 ?c40 ?k40 ?a41 ?l41 ?c41 ?k41 ?a42 ?l42 ?c42 ?k42 ?a44 ?l44 ?c44 ?k44 ?a43 ?l43 ?c43 ?k43 ?a45 ?l45 ?c45 ?k45 ?a46 ?l46 ?c46 ?k46 ?a47 ?l47 ?c47 ?k47 ?z53 ?z54 ?z55 ?z56 ?z57 ?z58 ?z59 ?z60 ?z61 ?z62 ?z63 ?a_NO ?l_NO ?gNT ?gRD ?gMF ?gSS ?gPW ?lPW ?x1cC ?x2cC ?x3cC ?x4cC ?x5cC ?x6cC ?y1 ?y2 ?y3 ?y4 ?y5 ?y6 ?y7 ?y8 ?a48 ?l48 ?c48 ?k48 ?i48 ?a49 ?l49 ?c49 ?k49 ?i49 ?a50 ?l50 ?c50 ?k50 ?i50 ?a51 ?l51 ?c51 ?k51 ?i51 ?a52 ?l52 ?c52 ?k52 ?i52 ?gME ?gRI ?gNR ?x1cM ?x2cM ?x3cM ?x4cM ?x5cM ?x6cM ?r1 ?q1 ?q2 ?q3 ?q4
  (case a0=>k_is); (case l0=>k_is); (case c0=>k_is); (case k0=>k_is)
  (case a1=>k_is); (case l1=>k_is); (case c1=>k_is); (case k1=>k_is)
  (case a5=>k_is); (case l5=>k_is); (case c5=>k_is); (case k5=>k_is)
  (case a6=>k_is); (case l6=>k_is); (case c6=>k_is); (case k6=>k_is)
  (case a4=>k_is); (case l4=>k_is); (case c4=>k_is); (case k4=>k_is)
  (case a7=>k_is); (case l7=>k_is); (case c7=>k_is); (case k7=>k_is)
  (case a8=>k_is); (case l8=>k_is); (case c8=>k_is); (case k8=>k_is)
  (case a3=>k_is); (case l3=>k_is); (case c3=>k_is); (case k3=>k_is)
  (case a2=>k_is); (case l2=>k_is); (case c2=>k_is); (case k2=>k_is)
  (case a15=>k_is); (case l15=>k_is); (case c15=>k_is); (case k15=>k_is)
  (case a23=>k_is); (case l23=>k_is); (case c23=>k_is); (case k23=>k_is)
  (case a22=>k_is); (case l22=>k_is); (case c22=>k_is); (case k22=>k_is)
  (case a19=>k_is); (case l19=>k_is); (case c19=>k_is); (case k19=>k_is)
  (case a20=>k_is); (case l20=>k_is); (case c20=>k_is); (case k20=>k_is)
  (case a16=>k_is); (case l16=>k_is); (case c16=>k_is); (case k16=>k_is)
  (case a12=>k_is); (case l12=>k_is); (case c12=>k_is); (case k12=>k_is)
  (case a11=>k_is); (case l11=>k_is); (case c11=>k_is); (case k11=>k_is)
  (case a13=>k_is); (case l13=>k_is); (case c13=>k_is); (case k13=>k_is)
  (case a14=>k_is); (case l14=>k_is); (case c14=>k_is); (case k14=>k_is)
  (case a17=>k_is); (case l17=>k_is); (case c17=>k_is); (case k17=>k_is)
  (case a18=>k_is); (case l18=>k_is); (case c18=>k_is); (case k18=>k_is)
  (case a21=>k_is); (case l21=>k_is); (case c21=>k_is); (case k21=>k_is)
  (case a9=>k_is); (case l9=>k_is); (case c9=>k_is); (case k9=>k_is)
  (case a10=>k_is); (case l10=>k_is); (case c10=>k_is); (case k10=>k_is)
  (case a24=>k_is); (case l24=>k_is); (case c24=>k_is); (case k24=>k_is)
  (case a25=>k_is); (case l25=>k_is); (case c25=>k_is); (case k25=>k_is)
  (case a26=>k_is); (case l26=>k_is); (case c26=>k_is); (case k26=>k_is)
  (case a27=>k_is); (case l27=>k_is); (case c27=>k_is); (case k27=>k_is)
  (case a28=>k_is); (case l28=>k_is); (case c28=>k_is); (case k28=>k_is)
  (case a29=>k_is); (case l29=>k_is); (case c29=>k_is); (case k29=>k_is)
  (case a30=>k_is); (case l30=>k_is); (case c30=>k_is); (case k30=>k_is)
  (case a31=>k_is); (case l31=>k_is); (case c31=>k_is); (case k31=>k_is)
  (case a32=>k_is); (case l32=>k_is); (case c32=>k_is); (case k32=>k_is)
  (case a33=>k_is); (case l33=>k_is); (case c33=>k_is); (case k33=>k_is)
  (case a34=>k_is); (case l34=>k_is); (case c34=>k_is); (case k34=>k_is)
  (case a35=>k_is); (case l35=>k_is); (case c35=>k_is); (case k35=>k_is)
  (case a36=>k_is); (case l36=>k_is); (case c36=>k_is); (case k36=>k_is)
  (case a39=>k_is); (case l39=>k_is); (case c39=>k_is); (case k39=>k_is)
  (case a37=>k_is); (case l37=>k_is); (case c37=>k_is); (case k37=>k_is)
  (case a38=>k_is); (case l38=>k_is); (case c38=>k_is); (case k38=>k_is)
  (case a40=>k_is); (case l40=>k_is); (case c40=>k_is); (case k40=>k_is)
  (case a41=>k_is); (case l41=>k_is); (case c41=>k_is); (case k41=>k_is)
  (case a42=>k_is); (case l42=>k_is); (case c42=>k_is); (case k42=>k_is)
  (case a44=>k_is); (case l44=>k_is); (case c44=>k_is); (case k44=>k_is)
  (case a43=>k_is); (case l43=>k_is); (case c43=>k_is); (case k43=>k_is)
  (case a45=>k_is); (case l45=>k_is); (case c45=>k_is); (case k45=>k_is)
  (case a46=>k_is); (case l46=>k_is); (case c46=>k_is); (case k46=>k_is)
  (case a47=>k_is); (case l47=>k_is); (case c47=>k_is); (case k47=>k_is)
  (case z53=>k_is)
  (case z54=>k_is)
  (case z55=>k_is)
  (case z56=>k_is)
  (case z57=>k_is)
  (case z58=>k_is)
  (case z59=>k_is)
  (case z60=>k_is)
  (case z61=>k_is)
  (case z62=>k_is)
  (case z63=>k_is)
  (case a_NO=>k_is); (case l_NO=>k_is)
  (case gNT=>first | k_is | k_exc | kit_is)
  (case gRD=>first | k_is | k_exc | kit_is)
  (case gMF=>first | k_is | k_exc | kit_is)
  (case gSS=>first | k_is | k_exc | kit_is)
  (case gPW=>first | k_is | k_exc | kit_is)
  (case lPW=>first | k_is | k_exc | kit_is)
  (case x1cC=>first | k_is | k_exc | kit_is)
  (case x2cC=>first | k_is | k_exc | kit_is)
  (case x3cC=>first | k_is | k_exc | kit_is)
  (case x4cC=>first | k_is | k_exc | kit_is)
  (case x5cC=>first | k_is | k_exc | kit_is)
  (case x6cC=>first | k_is | k_exc | kit_is)
  (case y1=>first | k_is | k_exc | kit_is)
  (case y2=>first | k_is | k_exc | kit_is)
  (case y3=>first | k_is | k_exc | kit_is)
  (case y4=>first | k_is | k_exc | kit_is)
  (case y5=>first | k_is | k_exc | kit_is)
  (case y6=>first | k_is | k_exc | kit_is)
  (case y7=>first | k_is | k_exc | kit_is)
  (case y8=>first | k_is | k_exc | kit_is)
  (case a48=>first | k_is | k_exc | kit_is)
  (case l48=>first | k_is | k_exc | kit_is)
  (case c48=>first | k_is | k_exc | kit_is)
  (case k48=>first | k_is | k_exc | kit_is)
  (case i48=>first | k_is | k_exc | kit_is)
  (case a49=>first | k_is | k_exc | kit_is)
  (case l49=>first | k_is | k_exc | kit_is)
  (case c49=>first | k_is | k_exc | kit_is)
  (case k49=>first | k_is | k_exc | kit_is)
  (case i49=>first | k_is | k_exc | kit_is)
  (case a50=>first | k_is | k_exc | kit_is)
  (case l50=>first | k_is | k_exc | kit_is)
  (case c50=>first | k_is | k_exc | kit_is)
  (case k50=>first | k_is | k_exc | kit_is)
  (case i50=>first | k_is | k_exc | kit_is)
  (case a51=>first | k_is | k_exc | kit_is)
  (case l51=>first | k_is | k_exc | kit_is)
  (case c51=>first | k_is | k_exc | kit_is)
  (case k51=>first | k_is | k_exc | kit_is)
  (case i51=>first | k_is | k_exc | kit_is)
  (case a52=>first | k_is | k_exc | kit_is)
  (case l52=>first | k_is | k_exc | kit_is)
  (case c52=>first | k_is | k_exc | kit_is)
  (case k52=>first | k_is | k_exc | kit_is)
  (case i52=>first | k_is | k_exc | kit_is)
  (case gME=>first | k_is | k_exc | kit_is)
  (case gRI=>first | k_is | k_exc | kit_is)
  (case gNR=>first | k_is | k_exc | kit_is)
  (case x1cM=>first | k_is | k_exc | kit_is)
  (case x2cM=>first | k_is | k_exc | kit_is)
  (case x3cM=>first | k_is | k_exc | kit_is)
  (case x4cM=>first | k_is | k_exc | kit_is)
  (case x5cM=>first | k_is | k_exc | kit_is)
  (case x6cM=>first | k_is | k_exc | kit_is)
  (case r1=>first | k_is | k_exc | kit_is)
  (case q1=>first | k_is | k_exc | kit_is)
  (case q2=>first | k_is | k_exc | kit_is)
  (case q3=>first | k_is | k_exc | kit_is)
  (case q4=>first | k_is | k_exc | kit_is)
