import PyProof.Rows.All
import Wide.All
import OpenK.AllK
import Wide.FinOn
import Lean
import PyProof.EqAt
import PyProof.EqKinds
import PyProof.TupleCall
import PySem.Challenge.RW_meetvalue_k32_trees_read
set_option Elab.async false
set_option linter.all false
set_option maxRecDepth 100000
namespace L2
open PySem PySem.Spec PyProof.Rows

/-- a key: an int or a str -/
abbrev Key := Sum Int Str
def keyIs : Key → Value → Bool
  | .inl k, v => Value.isInt k v
  | .inr x, v => Value.isStrOf x v
def keyH (w : World) : Key → Int
  | .inl k => hashInt k
  | .inr x => hashStr w x
theorem keyIs_shape : ∀ {k : Key} {v : Value}, keyIs k v = true → (∃ i t, k = Sum.inl i ∧ v = Value.int i t) ∨ (∃ x t, k = Sum.inr x ∧ v = Value.str x t)
  | .inl i, v, h => by
    obtain ⟨t, e⟩ := Value.isInt_shape (k := i) (v := v) h
    exact .inl ⟨i, t, rfl, e⟩
  | .inr x, v, h => by
    obtain ⟨t, e⟩ := Value.isStrOf_shape (x := x) (v := v) h
    exact .inr ⟨x, t, rfl, e⟩
theorem keyIs_int (i : Int) (t : Tok) : keyIs (.inl i) (.int i t) = true := by simp [keyIs, Value.isInt]
theorem keyIs_str (x : Str) (t : Tok) : keyIs (.inr x) (.str x t) = true := by simp [keyIs, Value.isStrOf]
theorem key_ll (a b : Int) : decide ((Sum.inl a : Key) = Sum.inl b) = (a == b) := by
  by_cases e : a = b
  · subst e; simp
  · have h : ¬ (Sum.inl a : Key) = Sum.inl b := fun q => e (Sum.inl.inj q)
    rw [decide_eq_false h]
    exact (beq_eq_false_iff_ne.mpr e).symm
theorem key_rr (a b : Str) : decide ((Sum.inr a : Key) = Sum.inr b) = decide (a = b) := by
  by_cases e : a = b
  · subst e; simp
  · have h : ¬ (Sum.inr a : Key) = Sum.inr b := fun q => e (Sum.inr.inj q)
    rw [decide_eq_false h, decide_eq_false e]
theorem key_lr (a : Int) (b : Str) : decide ((Sum.inl a : Key) = Sum.inr b) = false := decide_eq_false (fun q => nomatch q)
theorem key_rl (a : Str) (b : Int) : decide ((Sum.inr a : Key) = Sum.inl b) = false := decide_eq_false (fun q => nomatch q)

def mixKind (prog : Program) (w : World) : PySem.KeyKind prog w Key where
  is := keyIs
  hash := keyH w
  inj := fun v a b ha hb => by
    rcases keyIs_shape ha with ⟨i, t, rfl, rfl⟩ | ⟨x, t, rfl, rfl⟩
    · rcases keyIs_shape hb with ⟨j, u, rfl, e⟩ | ⟨y, u, rfl, e⟩
      · injection e with e1 _; rw [e1]
      · exact nomatch e
    · rcases keyIs_shape hb with ⟨j, u, rfl, e⟩ | ⟨y, u, rfl, e⟩
      · exact nomatch e
      · injection e with e1 _; rw [e1]
  byValue := fun k v h => by
    rcases keyIs_shape h with ⟨i, t, rfl, rfl⟩ | ⟨x, t, rfl, rfl⟩ <;> rfl
  pyHash := fun hv h => by
    rcases keyIs_shape hv with ⟨i, t, rfl, rfl⟩ | ⟨x, t, rfl, rfl⟩
    · exact wpAny_pyHash_int h
    · exact wpAny_pyHash_str h
  eqBool := fun hu hv h => by
    rcases keyIs_shape hu with ⟨i, t, rfl, rfl⟩ | ⟨x, t, rfl, rfl⟩
    · rcases keyIs_shape hv with ⟨j, u, rfl, rfl⟩ | ⟨y, u, rfl, rfl⟩
      · rw [key_ll] at h; exact wpAny_eqBool_int h
      · rw [key_lr] at h; exact SeqAt.EqAt.int_str i t y u _ _ _ _ h
    · rcases keyIs_shape hv with ⟨j, u, rfl, rfl⟩ | ⟨y, u, rfl, rfl⟩
      · rw [key_rl] at h; exact SeqAt.EqAt.str_int x t j u _ _ _ _ h
      · rw [key_rr] at h; exact wpAny_eqBool_str h
  «strs» := fun k x t v h => by
    rcases keyIs_shape h with ⟨i, u, rfl, e⟩ | ⟨y, u, rfl, e⟩
    · exact nomatch e
    · injection e with e1 _
      subst e1
      cases v <;> rfl

theorem mixKind_int (prog : Program) (w : World) (i : Int) (t : Tok) : (mixKind prog w).is (.inl i) (.int i t) = true := keyIs_int i t
theorem mixKind_str (prog : Program) (w : World) (x : Str) (t : Tok) : (mixKind prog w).is (.inr x) (.str x t) = true := keyIs_str x t
end L2

namespace L2
open PySem PySem.Spec PyProof.Rows

/-- a value, without the heap -/
inductive V where
  | non | bl (b : Bool) | int (i : Int) | str (x : Str) | byt (b : Array UInt8) | flt (b : UInt64) | ref (a : Addr) | ty (n : String)
  deriving DecidableEq

def RelV : V → Value → Prop
  | .non, u => u = Value.none
  | .bl b, u => u = Value.bool b
  | .int i, u => ∃ t, u = Value.int i t
  | .str x, u => ∃ t, u = Value.str x t
  | .byt b, u => ∃ t, u = Value.bytes b t
  | .flt b, u => ∃ t, u = Value.float b t
  | .ref a, u => u = Value.ref a
  | .ty n, u => u = Value.type n

abbrev Vals : List V → List Value → Prop := Paired RelV
theorem Vals.length {xs : List V} {us : List Value} (r : Vals xs us) : xs.length = us.length := Paired.length r
theorem Vals.get : ∀ {xs : List V} {us : List Value} {i : Nat} {x : V}, Vals xs us → xs[i]? = some x → ∃ u, us[i]? = some u ∧ RelV x u
  | _, _, _, _, .nil, e => by simp at e
  | _, _, 0, _, .cons r _, e => by simp at e; subst e; exact ⟨_, rfl, r⟩
  | _, _, i + 1, x, .cons _ t, e => by
    obtain ⟨u, h1, h2⟩ := Vals.get (i := i) (x := x) t (by simpa using e)
    exact ⟨u, by simpa using h1, h2⟩
theorem Vals.set {x : V} {u : Value} (r : RelV x u) : ∀ {xs : List V} {us : List Value} (i : Nat), Vals xs us → Vals (xs.set i x) (us.set i u)
  | _, _, _, .nil => .nil
  | _, _, 0, .cons _ t => .cons r t
  | _, _, i + 1, .cons q t => .cons q (Vals.set r i t)
theorem Vals.append : ∀ {xs ys : List V} {us ws : List Value}, Vals xs us → Vals ys ws → Vals (xs ++ ys) (us ++ ws)
  | _, _, _, _, .nil, s => s
  | _, _, _, _, .cons r t, s => .cons r (Vals.append t s)
theorem Vals.take : ∀ {xs : List V} {us : List Value} (n : Nat), Vals xs us → Vals (xs.take n) (us.take n)
  | _, _, 0, _ => .nil
  | _, _, _ + 1, .nil => .nil
  | _, _, n + 1, .cons r t => .cons r (Vals.take n t)
theorem Vals.drop : ∀ {xs : List V} {us : List Value} (n : Nat), Vals xs us → Vals (xs.drop n) (us.drop n)
  | _, _, 0, r => r
  | _, _, _ + 1, .nil => .nil
  | _, _, n + 1, .cons _ t => Vals.drop n t
def RelO : Option V → Option Value → Prop
  | some v, some u => RelV v u
  | none, none => True
  | _, _ => False
def KV {κ : Type} : List (κ × V) → List (κ × Value) → Prop := Paired fun (p : κ × V) (q : κ × Value) => p.1 = q.1 ∧ RelV p.2 q.2

/-- a key of a dict (00_mix): an int or a text -/
def kV : Key → V
  | .inl i => .int i
  | .inr x => .str x

/-- what stands at a tracked address -/
inductive HO where
  /-- a list -/
  | lst (xs : List V)
  /-- a tuple (never changes) -/
  | tup (xs : List V)
  /-- a dict whose keys are ints and texts; one whose keys are tuples of ints and texts (the empty one is both) -/
  | dK (kvs : List (Key × V)) | dT (kvs : List (List Key × V))
  /-- a set of ints: its members, its size -/
  | set (S : Int → Bool) (n : Nat)
  /-- an instance of the class at C, its dict at dx, its attributes -/
  | ins (C dx : Addr) (fs : List (Str × V))
  /-- the dict of the instance at x -/
  | own (x : Addr)
  /-- the dict of an exception -/
  | xd (fs : List (Str × V))
  /-- a bound method, f of x -/
  | met (f x : Addr)
  /-- a range object lo, lo + 1, .. below hi -/
  | rng (lo hi : Int)
  /-- a thing that is known to the object (the script; a dict while a loop walks it): read, never written while it is so -/
  | frz (o : Obj) (u : HO)
  /-- a code object's table -/
  | tbl (ps : Array Value)
  /-- any other thing, by what is true of its one object (a def of one's own: SetO a S n := HO.ext fun h => ..) -/
  | ext (φ : Heap → Prop)

abbrev Hp := Addr → Option HO
def upd (H : Hp) (a : Addr) (o : HO) : Hp := fun b => if b = a then some o else H b
theorem upd_same {H : Hp} {a : Addr} {o : HO} : upd H a o a = some o := by unfold upd; rw [if_pos rfl]
theorem upd_ne {H : Hp} {a b : Addr} {o : HO} (h : b ≠ a) : upd H a o b = H b := by unfold upd; rw [if_neg h]
theorem upd_upd {H : Hp} {a : Addr} {o u : HO} : upd (upd H a o) a u = upd H a u := by
  funext b; unfold upd; split <;> rfl
/-- two objects of different content stand apart -/
theorem ne_of {H : Hp} {a b : Addr} {o u : HO} (h : H a = some o) (h' : H b = some u) (d : o ≠ u) : a ≠ b := by
  intro e; subst e; rw [h] at h'; exact d (Option.some.inj h')
theorem ne_of_none {H : Hp} {a b : Addr} {o : HO} (h : H a = some o) (h' : H b = none) : a ≠ b := by
  intro e; subst e; rw [h] at h'; cases h'

section
variable (P : Program) (w : World)
def ObjOk (H : Hp) (h : Heap) (a : Addr) : HO → Prop
  | .lst xs => xs.length ≤ sizeLine ∧ ∃ (its : List Value) (n : Nat), Vals xs its ∧ h.get? a = some { cls := .type "list", data := .seq its.toArray n }
  | .tup xs => xs.length ≤ sizeLine ∧ ∃ its : List Value, Vals xs its ∧ IsTup h a its.toArray
  | .dK kvs => kvs.length ≤ sizeLine ∧ (a == sysModules) = false ∧ ∃ vs, KV kvs vs ∧ h.DictOf (mixKind P w) a vs
  | .dT kvs => kvs.length ≤ sizeLine ∧ (a == sysModules) = false ∧ ∃ xs : List (List Key × Addr × Value),
      Paired (fun (p : List Key × V) (q : List Key × Addr × Value) => p.1 = q.1 ∧ H q.2.1 = some (.tup (p.1.map kV)) ∧ RelV p.2 q.2.2) kvs xs ∧
      ∃ o es ep, h.get? a = some o ∧ o.ExactDict ∧ o.data = .dict es ep ∧ es.toList = xs.map (entryOfKey (tupleKind (mixKind P w))) ∧ (xs.map (·.1)).Nodup
  | .set S n => h.SetOf (intKind P w) a S n
  | .ins C dx fs => H dx = some (.own a) ∧ fs.length ≤ 1000 ∧ dx ≠ a ∧ h.get? a = some (PySem.W.instObj C dx) ∧
      ∃ mA, h.Ns1 dx mA ∧ (∀ f, RelO (fs.lookup f) (mA f)) ∧ PySem.Within mA (fs.map (·.1))
  | .own _ => ∃ o, h.get? a = some o
  | .xd fs => ∃ mA, h.Ns1 a mA ∧ ∀ f, RelO (fs.lookup f) (mA f)
  | .rng lo hi => ∃ t u v, h.get? a = some { cls := .type "range", data := .fields #[.int lo t, .int hi u, .int 1 v] }
  | .frz o u => h.get? a = some o ∧ ObjOk H h a u
  | .tbl ps => h.get? a = some { cls := .none, data := .fields ps }
  | .met f x => h.get? a = some (PySem.W.methodObj (.ref f) (.ref x))
  | .ext φ => φ h ∧ (∃ o, h.get? a = some o) ∧ ∀ h1 h2 : Heap, φ h1 → (∀ o, h1.get? a = some o → h2.get? a = some o) → φ h2
/-- the abstract heap is held -/
def HOk (H : Hp) (h : Heap) : Prop := ∀ a o, H a = some o → ObjOk P w H h a o
end

section
variable {P : Program} {w : World} {H H' : Hp} {h h' : Heap} {a : Addr} {o : HO}
theorem ObjOk.lt (x : ObjOk P w H h a o) : a < h.objs.size := by
  cases o with
  | lst xs => obtain ⟨_, _, _, _, e⟩ := x; exact Heap.lt_size e
  | tup xs => obtain ⟨_, _, _, p⟩ := x; exact p.lt
  | dK kvs => obtain ⟨_, _, _, _, o, _, _, e, _⟩ := x; exact Heap.lt_size e
  | dT kvs => obtain ⟨_, _, _, _, o, _, _, e, _⟩ := x; exact Heap.lt_size e
  | set S n => obtain ⟨o, _, _, _, e, _⟩ := x; exact Heap.lt_size e
  | ins C dx fs => obtain ⟨_, _, _, e, _⟩ := x; exact Heap.lt_size e
  | own y => obtain ⟨_, e⟩ := x; exact Heap.lt_size e
  | xd fs => obtain ⟨_, ⟨_, _, _, e, _⟩, _⟩ := x; exact Heap.lt_size e
  | rng lo hi => obtain ⟨_, _, _, e⟩ := x; exact Heap.lt_size e
  | frz ob u => obtain ⟨e, _⟩ := x; exact Heap.lt_size e
  | tbl ps => exact Heap.lt_size (show h.get? a = some _ from x)
  | met f y => exact Heap.lt_size (show h.get? a = some _ from x)
  | ext φ => obtain ⟨_, ⟨_, e⟩, _⟩ := x; exact Heap.lt_size e
theorem Paired.mapP {α β : Type} {F G : α → β → Prop} : ∀ {l₁ : List α} {l₂ : List β}, Paired F l₁ l₂ → (∀ a b, F a b → G a b) → Paired G l₁ l₂
  | _, _, .nil, _ => .nil
  | _, _, .cons r t, f => .cons (f _ _ r) (Paired.mapP t f)
/-- what an object's description leans on: its own object, its own dict, the tuples -/
theorem ObjOk.stay (x : ObjOk P w H h a o) (k : ∀ b u, (b = a ∨ H b = some (.own a)) → h.get? b = some u → h'.get? b = some u)
    (ho : ∀ b, H b = some (.own a) → H' b = some (.own a)) (ht : ∀ b xs, H b = some (.tup xs) → H' b = some (.tup xs)) : ObjOk P w H' h' a o := by
  induction o with
  | lst xs => obtain ⟨z, its, n, r, e⟩ := x; exact ⟨z, its, n, r, k _ _ (.inl rfl) e⟩
  | tup xs => obtain ⟨z, its, r, ob, e, c⟩ := x; exact ⟨z, its, r, ob, k _ _ (.inl rfl) e, c⟩
  | dK kvs => obtain ⟨z, y, vs, r, ob, es, ep, e, c⟩ := x; exact ⟨z, y, vs, r, ob, es, ep, k _ _ (.inl rfl) e, c⟩
  | dT kvs =>
    obtain ⟨z, y, xs, r, ob, es, ep, e, c⟩ := x
    exact ⟨z, y, xs, Paired.mapP r fun p q z => ⟨z.1, ht _ _ z.2.1, z.2.2⟩, ob, es, ep, k _ _ (.inl rfl) e, c⟩
  | set S n => obtain ⟨ob, es, ep, t, e, c⟩ := x; exact ⟨ob, es, ep, t, k _ _ (.inl rfl) e, c⟩
  | ins C dx fs =>
    obtain ⟨d, z, ne, e, mA, ⟨od, es, ep, e2, c⟩, r⟩ := x
    exact ⟨ho _ d, z, ne, k _ _ (.inl rfl) e, mA, ⟨od, es, ep, k _ _ (.inr d) e2, c⟩, r⟩
  | own y => obtain ⟨ob, e⟩ := x; exact ⟨ob, k _ _ (.inl rfl) e⟩
  | xd fs => obtain ⟨mA, ⟨od, es, ep, e, c⟩, r⟩ := x; exact ⟨mA, ⟨od, es, ep, k _ _ (.inl rfl) e, c⟩, r⟩
  | rng lo hi => obtain ⟨t, u, v, e⟩ := x; exact ⟨t, u, v, k _ _ (.inl rfl) e⟩
  | frz ob u ih => obtain ⟨e, q⟩ := x; exact ⟨k _ _ (.inl rfl) e, ih q⟩
  | tbl ps =>
    have e : h.get? a = some { cls := .none, data := .fields ps } := x
    show h'.get? a = some { cls := .none, data := .fields ps }
    exact k a _ (.inl rfl) e
  | met f y =>
    have e : h.get? a = some (PySem.W.methodObj (.ref f) (.ref y)) := x
    show h'.get? a = some (PySem.W.methodObj (.ref f) (.ref y))
    exact k a _ (.inl rfl) e
  | ext φ => obtain ⟨p, ⟨o, e⟩, st⟩ := x; exact ⟨st _ _ p fun o q => k _ _ (.inl rfl) q, ⟨o, k _ _ (.inl rfl) e⟩, st⟩
theorem HOk.lt (x : HOk P w H h) (e : H a = some o) : a < h.objs.size := (x a o e).lt
theorem HOk.fresh (x : HOk P w H h) (e : h.objs.size ≤ a) : H a = none := by
  cases q : H a with
  | none => rfl
  | some u => exact absurd (Nat.lt_of_lt_of_le (x.lt q) e) (Nat.lt_irrefl _)
/-- every object of the heap is kept -/
theorem HOk.kept (x : HOk P w H h) (k : ∀ b u, h.get? b = some u → h'.get? b = some u) : HOk P w H h' := fun a o e =>
  (x a o e).stay (fun b u _ q => k b u q) (fun _ q => q) fun _ _ q => q
/-- a new object is laid and tracked -/
theorem HOk.laid (x : HOk P w H h) (k : ∀ b u, h.get? b = some u → h'.get? b = some u) (hp : h.objs.size ≤ a) (new : ObjOk P w (upd H a o) h' a o) : HOk P w (upd H a o) h' := fun b u e => by
  have hn := x.fresh hp
  by_cases hb : b = a
  · subst hb; rw [upd_same] at e; cases e; exact new
  · rw [upd_ne hb] at e
    exact (x b u e).stay (fun c v _ q => k c v q) (fun c q => by rw [upd_ne (ne_of_none q hn)]; exact q) fun c xs q => by rw [upd_ne (ne_of_none q hn)]; exact q
end

/-- what may be read as u: it is u, or a known u -/
def Rd (H : Hp) (a : Addr) (u : HO) : Prop := H a = some u ∨ ∃ o, H a = some (.frz o u)
theorem Rd.ok {P : Program} {w : World} {H : Hp} {h : Heap} {a : Addr} {u : HO} (r : Rd H a u) (x : HOk P w H h) : ObjOk P w H h a u := by
  rcases r with r | ⟨o, r⟩
  · exact x a u r
  · obtain ⟨_, q⟩ := x a _ r
    exact q
/-- what may be written -/
def Mut : Option HO → Prop
  | some (.lst _) => True
  | some (.dK _) => True
  | some (.dT _) => True
  | some (.set _ _) => True
  | some (.ins _ _ _) => True
  | some (.ext _) => True
  | _ => False
section
variable {P : Program} {w : World} {H : Hp} {h h' : Heap} {x e : Addr} {o' : HO}
/-- the object at e is changed: x itself, or the dict of the instance x -/
theorem HOk.write (ok : HOk P w H h) (mu : Mut (H x)) (he : e = x ∨ H e = some (.own x)) (k : ∀ b u, b ≠ e → h.get? b = some u → h'.get? b = some u) (heo : ∃ u, h'.get? e = some u)
    (new : ObjOk P w (upd H x o') h' x o') : HOk P w (upd H x o') h' := fun b u q => by
  have nown : ∀ c y, H c = some (.own y) → c ≠ x := fun c y r z => by subst z; rw [r] at mu; exact mu
  have ntup : ∀ c xs, H c = some (.tup xs) → c ≠ x := fun c xs r z => by subst z; rw [r] at mu; exact mu
  by_cases hb : b = x
  · subst hb; rw [upd_same] at q; cases q; exact new
  · rw [upd_ne hb] at q
    by_cases hbe : b = e
    · have q' : H b = some (.own x) := by
        rcases he with z | z
        · exact absurd (hbe.trans z) hb
        · rw [hbe]; exact z
      rw [q] at q'; cases q'
      obtain ⟨v, hv⟩ := heo
      exact ⟨v, by rw [hbe]; exact hv⟩
    · refine (ok b u q).stay (fun c v hc r => k c v ?_ r) (fun c r => by rw [upd_ne (nown c b r)]; exact r) fun c xs r => by rw [upd_ne (ntup c xs r)]; exact r
      rcases hc with rfl | hc
      · exact hbe
      · rintro rfl
        rcases he with z | z
        · exact nown c b hc z
        · rw [hc] at z; cases z; exact hb rfl
end

structure Un (fs ex : List Addr) (H H' : Hp) (h h' : Heap) : Prop where
  keep : ∀ b o, h.get? b = some o → H b = none → b ∉ fs → b ∉ ex → h'.get? b = some o
  slot : ∀ b o, h.get? b = some o → H b = none → b ∈ fs → b ∉ ex → ∃ sl, h'.get? b = some { o with slots := sl }
  free : ∀ b o, h.get? b = some o → H b = none → b ∉ ex → H' b = none
  there : ∀ b o, h.get? b = some o → b ∉ ex → ∃ o', h'.get? b = some o'
  tups : ∀ b xs, H b = some (.tup xs) → H' b = some (.tup xs)
  frzs : ∀ b o u, H b = some (.frz o u) → H' b = some (.frz o u)
  tbls : ∀ b ps, H b = some (.tbl ps) → ∃ more, H' b = some (.tbl (ps ++ more))
section
variable {fs fs' ex ex' : List Addr} {H H1 H2 : Hp} {h h1 h2 h' : Heap} {a x e : Addr} {o : HO}
theorem Un.any (u : Un fs ex H H1 h h1) {b : Addr} {ob : Obj} (q : h.get? b = some ob) (n : H b = none) (hx : b ∉ ex) : ∃ sl, h1.get? b = some { ob with slots := sl } := by
  by_cases hb : b ∈ fs
  · exact u.slot b ob q n hb hx
  · exact ⟨ob.slots, u.keep b ob q n hb hx⟩
theorem Un.kept (k : ∀ b u, h.get? b = some u → h'.get? b = some u) : Un fs ex H H h h' :=
  ⟨fun b ob q _ _ _ => k b ob q, fun b ob q _ _ _ => ⟨ob.slots, k b ob q⟩, fun _ _ _ n _ => n, fun b ob q _ => ⟨ob, k b ob q⟩, fun _ _ q => q, fun _ _ _ q => q, fun _ ps q => ⟨#[], by rw [q]; simp⟩⟩
theorem Un.refl : Un fs ex H H h h := Un.kept fun _ _ q => q
theorem Un.laid (k : ∀ b u, h.get? b = some u → h'.get? b = some u) (hp : h.objs.size ≤ a) (hn : H a = none) : Un fs ex H (upd H a o) h h' where
  keep := fun b u q _ _ _ => k b u q
  slot := fun b u q _ _ _ => ⟨u.slots, k b u q⟩
  free := fun b u q n _ => by rw [upd_ne (Nat.ne_of_lt (Nat.lt_of_lt_of_le (Heap.lt_size q) hp))]; exact n
  there := fun b u q _ => ⟨u, k b u q⟩
  tups := fun b xs q => by rw [upd_ne (ne_of_none q hn)]; exact q
  frzs := fun b u xs q => by rw [upd_ne (ne_of_none q hn)]; exact q
  tbls := fun b ps q => ⟨#[], by rw [upd_ne (ne_of_none q hn), q]; simp⟩
theorem Un.write (mu : Mut (H x)) (he : e = x ∨ H e = some (.own x)) (k : ∀ b u, b ≠ e → h.get? b = some u → h'.get? b = some u) (heo : ∃ u, h'.get? e = some u) : Un fs ex H (upd H x o) h h' := by
  have hx : ∀ b, H b = none → b ≠ x := fun b n z => by subst z; rw [n] at mu; exact mu
  have hb : ∀ b, H b = none → b ≠ e := fun b n z => by
    subst z
    rcases he with r | r
    · exact hx b n r
    · rw [n] at r; cases r
  have hm : ∀ b u, H b = some u → ¬ Mut (some u) → b ≠ x := fun b u q nm z => by subst z; rw [q] at mu; exact nm mu
  refine ⟨fun b u q n _ _ => k b u (hb b n) q, fun b u q n _ _ => ⟨u.slots, k b u (hb b n) q⟩, fun b u q n _ => by rw [upd_ne (hx b n)]; exact n, fun b u q _ => ?_,
    fun b xs q => by rw [upd_ne (hm b _ q fun z => z)]; exact q, fun b u xs q => by rw [upd_ne (hm b _ q fun z => z)]; exact q, fun b ps q => ⟨#[], by rw [upd_ne (hm b _ q fun z => z), q]; simp⟩⟩
  by_cases hbe : b = e
  · subst hbe; exact heo
  · exact ⟨u, k b u hbe q⟩
end

def trk (h : Heap) (H : Hp) : List Addr := (List.range h.objs.size).filter fun a => (H a).isSome
def hidT (h : Heap) (H : Hp) : Heap := PySem.W.hideAll h (trk h H)
theorem hidT_size (h : Heap) (H : Hp) : (hidT h H).objs.size = h.objs.size := PySem.W.hideAll_size _ _
theorem hidT_get {h : Heap} {H : Hp} {b : Addr} {o : Obj} (e : h.get? b = some o) (n : H b = none) : (hidT h H).get? b = some o :=
  PySem.W.hideAll_get _ e fun hm => by
    have q : (H b).isSome = true := (List.mem_filter.mp hm).2
    rw [n] at q; simp at q
theorem of_hidT {h : Heap} {H : Hp} {b : Addr} {o : Obj} (e : (hidT h H).get? b = some o) : h.get? b = some o ∧ H b = none := by
  have e' : h.get? b = some o := PySem.W.of_hideAll (trk h H) e
  refine ⟨e', ?_⟩
  cases q : H b with
  | none => rfl
  | some x =>
    have hm : b ∈ trk h H := List.mem_filter.mpr ⟨List.mem_range.mpr (Heap.lt_size e'), by simp [q]⟩
    have z : (hidT h H).get? b = none := PySem.W.hideAll_none (trk h H) hm
    rw [z] at e; cases e

end L2

namespace L2
open PySem PySem.Spec PyProof.Rows

/-- the module's facts, over the base: the heap at the law's entry without what is tracked there -/
structure Mod (K : PySem.W.Frag) (mg : Str → Option Value) (base : Heap) : Prop where
  kin : K.In base
  glob : base.Ns mainGlobals mg
  blt : ∃ mb, base.Ns builtinsNs mb ∧ ∀ x : Str, x ≠ "__name__" → mb x = bootBuiltins x
  nolimit : base.NoLimit

/-- the context: a def's body (or a comprehension's block) running. base: fixed through the whole law; s₀, H₀: the entry; outer: the frames whose slots others may change (a def's callers); stack: all frames that run;
   ex: iterators that were made ahead of the entry and are walked here (a comprehension's); fn: the names whose cells were made at the entry (a def: all; a comprehension's block: its own); calm: not within an except suite; pn: pins that every state bears; xe: what is wanted of an exception that leaves the code -/
structure Cx where
  prog : Program
  w : World
  K : PySem.W.Frag
  mg : Str → Option Value
  base : Heap
  A : Around
  N : List Str
  s₀ : Shared
  H₀ : Hp
  env : Env
  outer : List Env
  stack : List Env
  ex : List Addr
  fn : Str → Bool
  calm : Bool
  pn : List (Addr × Obj)
  xe : Value → Shared → Prop
/-- the callers' frames -/
def frs (l : List Env) : List Addr := l.filterMap (·.frame)
abbrev Cx.fs (X : Cx) : List Addr := frs X.outer

def Vis (sc : Scope) (x : Str) : Prop := sc.names.lookup x = some .local ∨ sc.names.lookup x = some .cell ∨ sc.names.lookup x = some .free
def Loc (sc : Scope) (x : Str) : Prop := sc.names.lookup x = some .local ∨ sc.names.lookup x = some .cell
def Look (env : Env) (h : Heap) (m : Str → Option Value) (x : Str) (u : Value) : Prop :=
  (env.kindOf x = some .local ∧ m x = some u) ∨ ((env.kindOf x = some .cell ∨ env.kindOf x = some .free) ∧ ∃ c, env.cells.lookup x = some c ∧ h.IsCell c (some u))

structure Cx.Ok (X : Cx) : Prop where
  mod : Mod X.K X.mg X.base
  kind : X.env.scope.kind = .function
  glob : X.env.globals = mainGlobals
  blt : X.env.builtins = builtinsNs
  above : X.s₀.heap.objs.size ≤ X.env.locals
  inj : ∀ x y c, X.env.cells.lookup x = some c → X.env.cells.lookup y = some c → x = y
  has : ∀ x, (X.env.kindOf x = some .cell ∨ X.env.kindOf x = some .free) → ∃ c, X.env.cells.lookup x = some c
  cab : ∀ x c, X.fn x = true → X.env.cells.lookup x = some c → X.s₀.heap.objs.size ≤ c
  hd : X.calm = true → X.A.handled = none
  frames : X.A.frames = some X.stack
  stk : X.stack = X.outer ∨ (X.stack = X.env :: X.outer ∧ X.env.frame = some X.env.locals)
  exf : ∀ b ∈ X.ex, b ≠ X.env.locals ∧ ∀ x c, X.env.cells.lookup x = some c → c ≠ b
  bs : ∀ b o, X.base.get? b = some o → X.s₀.heap.get? b = some o ∧ X.H₀ b = none
  bsz : X.base.objs.size ≤ X.s₀.heap.objs.size
  noex : ∀ b o, X.base.get? b = some o → b ∉ X.ex
  exfs : ∀ b ∈ X.ex, b ∉ X.fs
  funs : X.s₀.heap.FunFrames X.base X.outer
  frf : ∀ b ∈ X.fs, X.H₀ b = none

structure Inv (X : Cx) (pins : List (Addr × Obj)) (σ : List (Option V)) (H : Hp) (s : Shared) : Prop where
  ok : X.Ok
  os : s.os = X.s₀.os
  bare : AllBare s.gens
  base : Un X.fs X.ex X.H₀ H X.s₀.heap s.heap
  loc : ∃ m, s.heap.Ns X.env.locals m ∧ ∀ (i : Nat) (x : Str) (v : V), X.N[i]? = some x → σ[i]? = some (some v) → Vis X.env.scope x → ∃ u, RelV v u ∧ Look X.env s.heap m x u
  cell : ∀ x c, X.env.cells.lookup x = some c → ∃ v, s.heap.IsCell c v
  free : H X.env.locals = none
  freeC : ∀ x c, X.env.cells.lookup x = some c → H c = none
  pin : ∀ p ∈ X.pn ++ pins, s.heap.get? p.1 = some p.2 ∧ H p.1 = none ∧ p.1 ≠ X.env.locals ∧ p.1 ∉ X.fs ∧ ∀ v, p.2.data ≠ .cell v
  hok : HOk X.prog X.w H s.heap
  len : σ.length = X.N.length

section
variable {X : Cx} {pins : List (Addr × Obj)} {σ : List (Option V)} {H H' : Hp} {s : Shared} {h' : Heap}

theorem Cx.Ok.nofr (ok : X.Ok) {b : Addr} {o : Obj} (e : X.base.get? b = some o) : b ∉ X.fs := fun hb => by
  have := (ok.funs.mem hb).1
  rw [e] at this; cases this
theorem Inv.bs (I : Inv X pins σ H s) : ∀ b o, X.base.get? b = some o → s.heap.get? b = some o ∧ H b = none := fun b o e =>
  ⟨I.base.keep b o (I.ok.bs b o e).1 (I.ok.bs b o e).2 (I.ok.nofr e) (I.ok.noex b o e), I.base.free b o (I.ok.bs b o e).1 (I.ok.bs b o e).2 (I.ok.noex b o e)⟩
theorem Inv.bk (I : Inv X pins σ H s) : ∀ b o, X.base.get? b = some o → s.heap.get? b = some o := fun b o e => (I.bs b o e).1
theorem Inv.mod (I : Inv X pins σ H s) : Mod X.K X.mg X.base := I.ok.mod
theorem Inv.kIn (I : Inv X pins σ H s) : X.K.In s.heap := I.ok.mod.kin.keeps I.bk
theorem Inv.lt (I : Inv X pins σ H s) : X.env.locals < s.heap.objs.size := let ⟨_, hn, _⟩ := I.loc; hn.lt
theorem Inv.sz (I : Inv X pins σ H s) : X.s₀.heap.objs.size ≤ s.heap.objs.size := Nat.le_trans I.ok.above (Nat.le_of_lt I.lt)
theorem Inv.nofs (I : Inv X pins σ H s) {a : Addr} (h : s.heap.objs.size ≤ a) : a ∉ X.fs := fun hb => by
  obtain ⟨_, o, ho, _⟩ := I.ok.funs.mem hb
  exact absurd (Nat.lt_of_lt_of_le (Heap.lt_size ho) (Nat.le_trans I.sz h)) (Nat.lt_irrefl _)
theorem Inv.cne (I : Inv X pins σ H s) : ∀ x c, X.env.cells.lookup x = some c → c ≠ X.env.locals := fun x c e z => by
  obtain ⟨v, o, ho, hd⟩ := I.cell x c e
  obtain ⟨m, ⟨o', es, ep, ho', hd', _⟩, _⟩ := I.loc
  rw [z, ho'] at ho; cases ho; rw [hd'] at hd; cases hd
theorem Inv.funs (I : Inv X pins σ H s) : s.heap.FunFrames X.base X.outer := by
  have all : ∀ (l : List Env), (∀ b ∈ frs l, b ∈ X.fs) → X.s₀.heap.FunFrames X.base l → s.heap.FunFrames X.base l := by
    intro l
    induction l with
    | nil => intro _ _; trivial
    | cons env r ih =>
      intro hs hl
      obtain ⟨hk, ⟨L, o, hf, hn, ho, hd⟩, hr⟩ := hl
      have hL : L ∈ X.fs := hs L (by unfold frs; rw [List.filterMap_cons, hf]; exact List.mem_cons_self)
      obtain ⟨sl, e⟩ := I.base.slot L o ho (I.ok.frf L hL) hL fun z => I.ok.exfs L z hL
      exact ⟨hk, ⟨L, _, hf, hn, e, hd⟩, ih (fun b hb => hs b (by unfold frs; rw [List.filterMap_cons, hf]; exact List.mem_cons_of_mem _ hb)) hr⟩
  exact all X.outer (fun _ hb => hb) I.ok.funs

/-- the frames that run, for a call -/
theorem Inv.stack (I : Inv X pins σ H s) : s.heap.FunFrames X.base X.stack := by
  rcases I.ok.stk with e | ⟨e, hf⟩
  · rw [e]; exact I.funs
  · rw [e]
    obtain ⟨m, hn, _⟩ := I.loc
    refine .cons (by rw [I.ok.kind]; decide) hf hn ?_ I.funs
    exact Heap.get?_none_of_le (Nat.le_trans I.ok.bsz I.ok.above)
theorem Inv.stkSub (I : Inv X pins σ H s) : ∀ b ∈ frs X.stack, b ∈ X.env.locals :: X.fs := fun b hb => by
  rcases I.ok.stk with e | ⟨e, hf⟩
  · rw [e] at hb; exact List.mem_cons_of_mem _ hb
  · rw [e] at hb
    unfold frs at hb
    rw [List.filterMap_cons, hf] at hb
    exact hb
theorem Inv.stkFree (I : Inv X pins σ H s) : ∀ b ∈ frs X.stack, H b = none := fun b hb => by
  rcases List.mem_cons.mp (I.stkSub b hb) with e | hb
  · rw [e]; exact I.free
  · obtain ⟨_, o, ho, _⟩ := I.ok.funs.mem hb
    exact I.base.free b o ho (I.ok.frf b hb) fun z => I.ok.exfs b z hb

/-- THE STEP: the untracked objects but the frame and the records at ch are kept (the callers' frames up to slots), the frame's map is kept, the new abstract heap is held -/
theorem Inv.step {g' : Array GenState} {t' : Nat} {d' : Drawn} {ch : List Addr} (I : Inv X pins σ H s)
    (hch : ∀ b ∈ ch, (b ∈ X.ex ∨ X.s₀.heap.objs.size ≤ b) ∧ b ≠ X.env.locals ∧ (∀ x c, X.env.cells.lookup x = some c → c ≠ b) ∧ ∀ p ∈ X.pn ++ pins, p.1 ≠ b)
    (keep : ∀ b o, b ≠ X.env.locals → b ∉ X.fs → b ∉ ch → s.heap.get? b = some o → H b = none → h'.get? b = some o)
    (slot : ∀ b o, b ≠ X.env.locals → b ∈ X.fs → b ∉ ch → s.heap.get? b = some o → H b = none → ∃ sl, h'.get? b = some { o with slots := sl }) (free : ∀ b o, b ∉ ch → s.heap.get? b = some o → H b = none → H' b = none)
    (there : ∀ b o, b ∉ ch → s.heap.get? b = some o → ∃ o', h'.get? b = some o')
    (tups : ∀ b xs, H b = some (.tup xs) → H' b = some (.tup xs)) (frzs : ∀ b o u, H b = some (.frz o u) → H' b = some (.frz o u)) (tbls : ∀ b ps, H b = some (.tbl ps) → ∃ more, H' b = some (.tbl (ps ++ more)))
    (ns : ∀ m, s.heap.Ns X.env.locals m → h'.Ns X.env.locals m) (hok : HOk X.prog X.w H' h') (hg : AllBare g') :
    Inv X pins σ H' { s with heap := h', gens := g', drawn := d', toks := t' } := by
  have neL : ∀ b o, X.s₀.heap.get? b = some o → b ≠ X.env.locals := fun b o e => Nat.ne_of_lt (Nat.lt_of_lt_of_le (Heap.lt_size e) I.ok.above)
  have neC : ∀ b o, X.s₀.heap.get? b = some o → b ∉ X.ex → b ∉ ch := fun b o e hx hb => by
    rcases (hch b hb).1 with z | z
    · exact hx z
    · exact absurd (Nat.lt_of_lt_of_le (Heap.lt_size e) z) (Nat.lt_irrefl _)
  have cellK : ∀ x c, X.env.cells.lookup x = some c → ∀ v, s.heap.IsCell c v → h'.IsCell c v := fun x c e v ⟨o, ho, hd⟩ => by
    have nch : c ∉ ch := fun z => (hch c z).2.2.1 x c e rfl
    by_cases hc : c ∈ X.fs
    · obtain ⟨sl, q⟩ := slot c o (I.cne x c e) hc nch ho (I.freeC x c e)
      exact ⟨_, q, hd⟩
    · exact ⟨o, keep c o (I.cne x c e) hc nch ho (I.freeC x c e), hd⟩
  refine ⟨I.ok, I.os, hg, ⟨fun b o e n hb hx => ?_, fun b o e n hb hx => ?_, fun b o e n hx => ?_, fun b o e hx => ?_, fun b xs e => tups b xs (I.base.tups b xs e), fun b o xs e => frzs b o xs (I.base.frzs b o xs e), fun b ps e => ?_⟩, ?_, fun x c e => ?_, ?_, fun x c e => ?_, fun p hp => ?_, hok, I.len⟩
  · exact keep b o (neL b o e) hb (neC b o e hx) (I.base.keep b o e n hb hx) (I.base.free b o e n hx)
  · obtain ⟨sl, e1⟩ := I.base.slot b o e n hb hx
    obtain ⟨sl', e2⟩ := slot b _ (neL b o e) hb (neC b o e hx) e1 (I.base.free b o e n hx)
    exact ⟨sl', e2⟩
  · obtain ⟨o', e1⟩ := I.base.there b o e hx
    exact free b o' (neC b o e hx) e1 (I.base.free b o e n hx)
  · obtain ⟨o', e1⟩ := I.base.there b o e hx
    exact there b o' (neC b o e hx) e1
  · obtain ⟨m1, e1⟩ := I.base.tbls b ps e
    obtain ⟨m2, e2⟩ := tbls b _ e1
    exact ⟨m1 ++ m2, by rw [e2, Array.append_assoc]⟩
  · obtain ⟨m, hn, hl⟩ := I.loc
    refine ⟨m, ns m hn, fun i x v e1 e2 e3 => ?_⟩
    obtain ⟨u, r, l⟩ := hl i x v e1 e2 e3
    refine ⟨u, r, ?_⟩
    rcases l with l | ⟨k, c, e, z⟩
    · exact .inl l
    · exact .inr ⟨k, c, e, cellK x c e _ z⟩
  · obtain ⟨v, z⟩ := I.cell x c e
    exact ⟨v, cellK x c e v z⟩
  · obtain ⟨m, ⟨o, _, _, ho, _⟩, _⟩ := I.loc
    exact free _ o (fun z => (hch _ z).2.1 rfl) ho I.free
  · obtain ⟨v, o, ho, hd⟩ := I.cell x c e
    exact free c o (fun z => (hch c z).2.2.1 x c e rfl) ho (I.freeC x c e)
  · obtain ⟨e, n, ne, nf, d⟩ := I.pin p hp
    have nch : p.1 ∉ ch := fun z => (hch p.1 z).2.2.2 p hp rfl
    exact ⟨keep p.1 p.2 ne nf nch e n, free p.1 p.2 nch e n, ne, nf, d⟩
/-- .. where the frame's own object is kept too -/
theorem Inv.un {t' : Nat} (I : Inv X pins σ H s) (u : Un X.fs [] H H' s.heap h') (hok : HOk X.prog X.w H' h') : Inv X pins σ H' { s with heap := h', toks := t' } := by
  obtain ⟨m, ⟨o, es, ep, ho, r⟩, _⟩ := id I.loc
  obtain ⟨sl, hL⟩ := u.any ho I.free (by simp)
  exact I.step (g' := s.gens) (d' := s.drawn) (ch := []) (fun _ z => nomatch z) (fun b o _ hb _ e n => u.keep b o e n hb (by simp)) (fun b o _ hb _ e n => u.slot b o e n hb (by simp)) (fun b o _ e n => u.free b o e n (by simp)) (fun b o _ e => u.there b o e (by simp)) u.tups u.frzs u.tbls (fun m' hm => by
    obtain ⟨o', es', ep', ho', r'⟩ := hm
    rw [ho] at ho'; cases ho'
    exact ⟨_, es', ep', hL, r'⟩) hok I.bare
/-- behind a call (or a comprehension's block): the slots of this frame may have changed too, the records at ch may have turned -/
theorem Inv.call {g' : Array GenState} {t' : Nat} {d' : Drawn} {ch : List Addr} (I : Inv X pins σ H s) (u : Un (frs X.stack) ch H H' s.heap h') (hok : HOk X.prog X.w H' h') (hg : AllBare g')
    (hch : ∀ b ∈ ch, (b ∈ X.ex ∨ X.s₀.heap.objs.size ≤ b) ∧ b ≠ X.env.locals ∧ (∀ x c, X.env.cells.lookup x = some c → c ≠ b) ∧ ∀ p ∈ X.pn ++ pins, p.1 ≠ b) :
    Inv X pins σ H' { s with heap := h', gens := g', drawn := d', toks := t' } := by
  obtain ⟨m, ⟨o, es, ep, ho, r⟩, _⟩ := id I.loc
  obtain ⟨sl, hL⟩ := u.any ho I.free fun z => (hch _ z).2.1 rfl
  exact I.step (ch := ch) hch (fun b o hL hb hc e n => u.keep b o e n (fun z => (List.mem_cons.mp (I.stkSub b z)).elim hL hb) hc) (fun b o _ _ hc e n => u.any e n hc) (fun b o hc e n => u.free b o e n hc) (fun b o hc e => u.there b o e hc) u.tups u.frzs u.tbls (fun m' hm => by
    obtain ⟨o', es', ep', ho', r'⟩ := hm
    rw [ho] at ho'; cases ho'
    exact ⟨_, es', ep', hL, r'⟩) hok hg
/-- an untracked record of ours (an iterator) has turned -/
theorem Inv.turned {t' : Nat} {it : Addr} (I : Inv X pins σ H s) (k : ∀ b o, b ≠ it → s.heap.get? b = some o → h'.get? b = some o) (hn : H it = none) (hL : it ≠ X.env.locals)
    (h1 : it ∈ X.ex ∨ X.s₀.heap.objs.size ≤ it) (h2 : ∀ x c, X.env.cells.lookup x = some c → c ≠ it) (h3 : ∀ p ∈ X.pn ++ pins, p.1 ≠ it) : Inv X pins σ H { s with heap := h', toks := t' } := by
  have nit : ∀ b u, H b = some u → b ≠ it := fun b u e z => by rw [z, hn] at e; cases e
  refine I.step (g' := s.gens) (d' := s.drawn) (ch := [it]) (fun b hb => ?_) (fun b o _ _ hc e _ => k b o (fun z => hc (by simp [z])) e) (fun b o _ _ hc e _ => ⟨o.slots, k b o (fun z => hc (by simp [z])) e⟩) (fun _ _ _ _ n => n)
    (fun b o hc e => ⟨o, k b o (fun z => hc (by simp [z])) e⟩) (fun _ _ e => e) (fun _ _ _ e => e) (fun b ps e => ⟨#[], by rw [e]; simp⟩) (fun m hm => ?_) (fun b u e => ?_) I.bare
  · have e : b = it := by simpa using hb
    subst e
    exact ⟨h1, hL, h2, h3⟩
  · obtain ⟨o, es, ep, ho, r⟩ := hm
    exact ⟨o, es, ep, k _ o (Ne.symm hL) ho, r⟩
  · refine (I.hok b u e).stay (fun c v hc q => k c v ?_ q) (fun _ q => q) fun _ _ q => q
    rcases hc with z | z
    · rw [z]; exact nit b u e
    · exact nit c _ z
theorem Inv.tok (I : Inv X pins σ H s) (t : Nat) : Inv X pins σ H { s with toks := t } := I.un (h' := s.heap) (t' := t) Un.refl I.hok
/-- all objects kept -/
theorem Inv.kept {t' : Nat} (I : Inv X pins σ H s) (k : ∀ b u, s.heap.get? b = some u → h'.get? b = some u) : Inv X pins σ H { s with heap := h', toks := t' } := I.un (Un.kept k) (I.hok.kept k)
/-- a new object laid and tracked -/
theorem Inv.laid {a : Addr} {o : HO} {t' : Nat} (I : Inv X pins σ H s) (k : ∀ b u, s.heap.get? b = some u → h'.get? b = some u) (hp : s.heap.objs.size ≤ a) (new : ObjOk X.prog X.w (upd H a o) h' a o) :
    Inv X pins σ (upd H a o) { s with heap := h', toks := t' } := I.un (Un.laid k hp (I.hok.fresh hp)) (I.hok.laid k hp new)
/-- an object written -/
theorem Inv.write {x e : Addr} {o : HO} {t' : Nat} (I : Inv X pins σ H s) (mu : Mut (H x)) (he : e = x ∨ H e = some (.own x)) (k : ∀ b u, b ≠ e → s.heap.get? b = some u → h'.get? b = some u) (heo : ∃ u, h'.get? e = some u)
    (new : ObjOk X.prog X.w (upd H x o) h' x o) : Inv X pins σ (upd H x o) { s with heap := h', toks := t' } := I.un (Un.write mu he k heo) (I.hok.write mu he k heo new)
/-- forgetting slots, pins -/
theorem Inv.weak {σ' : List (Option V)} (I : Inv X pins σ H s) (hl : σ'.length = σ.length) (w : ∀ (i : Nat) v, σ'[i]? = some (some v) → σ[i]? = some (some v)) : Inv X pins σ' H s :=
  ⟨I.ok, I.os, I.bare, I.base, let ⟨m, hn, hl'⟩ := I.loc; ⟨m, hn, fun i x v e1 e2 e3 => hl' i x v e1 (w i v e2) e3⟩, I.cell, I.free, I.freeC, I.pin, I.hok, hl.trans I.len⟩
theorem Inv.pins_of {pins' : List (Addr × Obj)} (I : Inv X pins σ H s) (h : ∀ p ∈ pins', s.heap.get? p.1 = some p.2 ∧ H p.1 = none ∧ p.1 ≠ X.env.locals ∧ p.1 ∉ X.fs ∧ ∀ v, p.2.data ≠ .cell v) : Inv X pins' σ H s :=
  ⟨I.ok, I.os, I.bare, I.base, I.loc, I.cell, I.free, I.freeC, fun p hp => (List.mem_append.mp hp).elim (fun z => I.pin p (List.mem_append_left _ z)) (h p), I.hok, I.len⟩

theorem nodup_ix {N : List Str} (hN : N.Nodup) {i j : Nat} {x : Str} (a : N[i]? = some x) (b : N[j]? = some x) : i = j := by
  obtain ⟨h1, e1⟩ := List.getElem?_eq_some_iff.mp a
  obtain ⟨h2, e2⟩ := List.getElem?_eq_some_iff.mp b
  exact (List.getElem_inj hN).mp (e1.trans e2.symm)

/-- a name is stored; what changed -/
theorem store_ok2 {M : Model} {A : Around} {E : Value → Shared → Prop} {i : Nat} {x : Str} {v : V} {u : Value} {Q : Unit → Shared → Prop} (I : Inv X pins σ H s) (hN : X.N.Nodup) (hi : X.N[i]? = some x) (hx : Loc X.env.scope x) (r : RelV v u)
    (h : ∀ s', Inv X pins (σ.set i (some v)) H s' → (∃ a, Heap.SameBut a s.heap s'.heap ∧ (a = X.env.locals ∨ X.env.cells.lookup x = some a)) → Q () s') (hf : X.fn x = true ∨ X.env.scope.names.lookup x = some .local := by first | exact .inl rfl | exact .inr rfl | assumption) : wpAny M A (storeName X.env x u) Q E s := by
  obtain ⟨m, hn, hl⟩ := id I.loc
  have hcls : (X.env.scope.kind == .class || (X.env.scope.kind == .module && X.env.locals != X.env.globals)) = false := by rw [I.ok.kind]; rfl
  have hiσ : i < σ.length := by rw [I.len]; exact (List.getElem?_eq_some_iff.mp hi).1
  have cne := I.cne
  have tracked : ∀ {a : Addr} {h' : Heap}, (∃ o, s.heap.get? a = some o ∧ H a = none) → Heap.SameBut a s.heap h' → HOk X.prog X.w H h' := fun {a h'} ha hs b ob e => by
    obtain ⟨_, _, hfree⟩ := ha
    refine (I.hok b ob e).stay (fun c w' hc q => (hs.2 c ?_).trans q) (fun _ q => q) fun _ _ q => q
    rintro rfl
    rcases hc with rfl | hc
    · rw [hfree] at e; cases e
    · rw [hfree] at hc; cases hc
  rcases hx with hk | hk
  · refine wpAny_storeName_local hk hn (fun h' hn' hs => ?_) hcls
    obtain ⟨oL, _, _, hoL, _⟩ := id hn
    refine h _ ⟨I.ok, I.os, I.bare, ⟨fun b o e n hb hx => ?_, fun b o e n hb hx => ?_, I.base.free, fun b o e hx => ?_, I.base.tups, I.base.frzs, I.base.tbls⟩, ⟨_, hn', fun j y v' e1 e2 e3 => ?_⟩, fun y c e => ?_, I.free, I.freeC, fun p hp => ?_, tracked ⟨oL, hoL, I.free⟩ hs, by simpa using I.len⟩ ⟨_, hs, .inl rfl⟩
    · exact (hs.2 b (Nat.ne_of_lt (Nat.lt_of_lt_of_le (Heap.lt_size e) I.ok.above))).trans (I.base.keep b o e n hb hx)
    · obtain ⟨sl, e1⟩ := I.base.slot b o e n hb hx
      exact ⟨sl, (hs.2 b (Nat.ne_of_lt (Nat.lt_of_lt_of_le (Heap.lt_size e) I.ok.above))).trans e1⟩
    · obtain ⟨o', e1⟩ := I.base.there b o e hx
      exact ⟨o', (hs.2 b (Nat.ne_of_lt (Nat.lt_of_lt_of_le (Heap.lt_size e) I.ok.above))).trans e1⟩
    · by_cases hj : j = i
      · subst hj
        rw [hi] at e1; cases e1
        rw [List.getElem?_set_self hiσ] at e2
        cases e2
        exact ⟨u, r, .inl ⟨hk, by simp⟩⟩
      · rw [List.getElem?_set_ne (Ne.symm hj)] at e2
        obtain ⟨u', r', q⟩ := hl j y v' e1 e2 e3
        refine ⟨u', r', ?_⟩
        rcases q with ⟨k, e⟩ | ⟨k, c, e, z⟩
        · refine .inl ⟨k, ?_⟩
          have : y ≠ x := fun e => hj (nodup_ix hN e1 (e ▸ hi))
          simp [this, e]
        · exact .inr ⟨k, c, e, z.sameBut hs (cne y c e)⟩
    · obtain ⟨w', z⟩ := I.cell y c e
      exact ⟨w', z.sameBut hs (cne y c e)⟩
    · obtain ⟨e, n, ne, nf, d⟩ := I.pin p hp
      exact ⟨(hs.2 p.1 ne).trans e, n, ne, nf, d⟩
  · have hfn : X.fn x = true := by
      rcases hf with z | z
      · exact z
      · rw [z] at hk; cases hk
    obtain ⟨c, hc⟩ := I.ok.has x (.inl hk)
    obtain ⟨w', z⟩ := I.cell x c hc
    refine wpAny_storeName_cell I.ok.kind hk hc z (fun h' hc' hs => ?_)
    obtain ⟨oc, hoc, hocd⟩ := id z
    refine h { s with heap := h' } ⟨I.ok, I.os, I.bare, ⟨fun b o e n hb hx => ?_, fun b o e n hb hx => ?_, I.base.free, fun b o e hx => ?_, I.base.tups, I.base.frzs, I.base.tbls⟩, ⟨m, hn.sameBut hs (Ne.symm (cne x c hc)), fun j y v' e1 e2 e3 => ?_⟩, fun y c' e => ?_, I.free, I.freeC, fun p hp => ?_, tracked ⟨oc, hoc, I.freeC x c hc⟩ hs, by simpa using I.len⟩ ⟨c, hs, .inr hc⟩
    · exact (hs.2 b (Nat.ne_of_lt (Nat.lt_of_lt_of_le (Heap.lt_size e) (I.ok.cab x c hfn hc)))).trans (I.base.keep b o e n hb hx)
    · obtain ⟨sl, e1⟩ := I.base.slot b o e n hb hx
      exact ⟨sl, (hs.2 b (Nat.ne_of_lt (Nat.lt_of_lt_of_le (Heap.lt_size e) (I.ok.cab x c hfn hc)))).trans e1⟩
    · obtain ⟨o', e1⟩ := I.base.there b o e hx
      exact ⟨o', (hs.2 b (Nat.ne_of_lt (Nat.lt_of_lt_of_le (Heap.lt_size e) (I.ok.cab x c hfn hc)))).trans e1⟩
    · by_cases hj : j = i
      · subst hj
        rw [hi] at e1; cases e1
        rw [List.getElem?_set_self hiσ] at e2
        cases e2
        exact ⟨u, r, .inr ⟨.inl hk, c, hc, hc'⟩⟩
      · rw [List.getElem?_set_ne (Ne.symm hj)] at e2
        obtain ⟨u', r', q⟩ := hl j y v' e1 e2 e3
        refine ⟨u', r', ?_⟩
        rcases q with q | ⟨k, c', e, z'⟩
        · exact .inl q
        · refine .inr ⟨k, c', e, z'.sameBut hs ?_⟩
          rintro rfl
          exact hj (nodup_ix hN e1 (I.ok.inj _ _ _ e hc ▸ hi))
    · by_cases hcc : c' = c
      · subst hcc; exact ⟨_, hc'⟩
      · obtain ⟨w2, z2⟩ := I.cell y c' e
        exact ⟨w2, z2.sameBut hs hcc⟩
    · obtain ⟨e, n, ne, nf, d⟩ := I.pin p hp
      refine ⟨(hs.2 p.1 ?_).trans e, n, ne, nf, d⟩
      intro q
      rw [q, hoc] at e
      have q' : oc = p.2 := Option.some.inj e
      exact d w' (by rw [← q']; exact hocd)
theorem store_ok {M : Model} {A : Around} {E : Value → Shared → Prop} {i : Nat} {x : Str} {v : V} {u : Value} {Q : Unit → Shared → Prop} (I : Inv X pins σ H s) (hN : X.N.Nodup) (hi : X.N[i]? = some x) (hx : Loc X.env.scope x) (r : RelV v u)
    (h : ∀ s', Inv X pins (σ.set i (some v)) H s' → Q () s') (hf : X.fn x = true ∨ X.env.scope.names.lookup x = some .local := by first | exact .inl rfl | exact .inr rfl | assumption) : wpAny M A (storeName X.env x u) Q E s :=
  store_ok2 I hN hi hx r (fun s' I' _ => h s' I') hf
/-- behind a call or a block, the state as it is -/
theorem Inv.call' {s' : Shared} {ch : List Addr} (I : Inv X pins σ H s) (ho : s'.os = s.os) (u : Un (frs X.stack) ch H H' s.heap s'.heap) (hok : HOk X.prog X.w H' s'.heap) (hg : AllBare s'.gens)
    (hch : ∀ b ∈ ch, (b ∈ X.ex ∨ X.s₀.heap.objs.size ≤ b) ∧ b ≠ X.env.locals ∧ (∀ x c, X.env.cells.lookup x = some c → c ≠ b) ∧ ∀ p ∈ X.pn ++ pins, p.1 ≠ b) : Inv X pins σ H' s' := by
  obtain ⟨h', g', d', t', o'⟩ := s'
  have e : o' = s.os := ho
  subst e
  exact I.call (g' := g') (t' := t') (d' := d') u hok hg hch
end

/-- an exception: its class, its own dict's address (where it has one), the abstract heap behind it -/
abbrev XK := Value → Option Addr → Hp → Prop
abbrev St := List (Option V)
abbrev VK := V → Hp → Prop
/-- an expression's reading; a test's; an argument list's -/
abbrev TE := St → Hp → VK → Prop
abbrev TT := St → Hp → (Bool → Hp → Prop) → Prop
abbrev TA := St → Hp → (List V → Hp → Prop) → Prop
/-- what is wanted behind a statement -/
structure Ends where
  nx : St → Hp → Prop
  rt : VK
  bk : St → Hp → Prop := fun _ _ => False
  ct : St → Hp → Prop := fun _ _ => False
abbrev TS := Ends → St → Hp → Prop

def EP (X : Cx) (pins : List (Addr × Obj)) (σ : St) (Q : VK) (u : Value) (s' : Shared) : Prop := ∃ v H', Inv X pins σ H' s' ∧ RelV v u ∧ Q v H'
def TP (X : Cx) (pins : List (Addr × Obj)) (σ : St) (Q : Bool → Hp → Prop) (b : Bool) (s' : Shared) : Prop := ∃ H', Inv X pins σ H' s' ∧ Q b H'
def AP (X : Cx) (pins : List (Addr × Obj)) (σ : St) (Q : List V → Hp → Prop) (us : List Value) (s' : Shared) : Prop := ∃ vs H', Inv X pins σ H' s' ∧ Vals vs us ∧ Q vs H'
def SP (X : Cx) (pins : List (Addr × Obj)) (D : Ends) (f : Flow) (s' : Shared) : Prop :=
  match f with
  | .next => ∃ σ' H', Inv X pins σ' H' s' ∧ D.nx σ' H'
  | .brk => ∃ σ' H', Inv X pins σ' H' s' ∧ D.bk σ' H'
  | .cont => ∃ σ' H', Inv X pins σ' H' s' ∧ D.ct σ' H'
  | .ret u => ∃ v σ' H', Inv X pins σ' H' s' ∧ RelV v u ∧ D.rt v H'

def PE (X : Cx) (e : Expr) (t : TE) : Prop :=
  ∀ (pins : List (Addr × Obj)) (s : Shared) (σ : St) (H : Hp) (Q : VK), Inv X pins σ H s → t σ H Q → wpAny (model X.prog X.w) X.A (eval e X.env) (EP X pins σ Q) X.xe s
def PT (X : Cx) (e : Expr) (t : TT) : Prop :=
  ∀ (pins : List (Addr × Obj)) (s : Shared) (σ : St) (H : Hp) (Q : Bool → Hp → Prop), Inv X pins σ H s → t σ H Q → wpAny (model X.prog X.w) X.A (isTrue e X.env (eval e X.env)) (TP X pins σ Q) X.xe s
/-- a test whatever its 'whole' is (and, or) -/
def PW (X : Cx) (e : Expr) (t : TT) : Prop :=
  ∀ (whole : Sem Value) (pins : List (Addr × Obj)) (s : Shared) (σ : St) (H : Hp) (Q : Bool → Hp → Prop), Inv X pins σ H s → t σ H Q → wpAny (model X.prog X.w) X.A (isTrue e X.env whole) (TP X pins σ Q) X.xe s
theorem PW.pt {X : Cx} {e : Expr} {t : TT} (h : PW X e t) : PT X e t := h _
/-- an argument list (no star), from the left -/
def PA (X : Cx) (es : List Expr) (t : TA) : Prop :=
  ∀ (pos : Pos) (pins : List (Addr × Obj)) (s : Shared) (σ : St) (H : Hp) (Q : List V → Hp → Prop), Inv X pins σ H s → t σ H Q → wpAny (model X.prog X.w) X.A (spliced (backTo pos (starEach es X.env))) (AP X pins σ Q) X.xe s
def PS (X : Cx) (st : Stmt) (t : TS) : Prop :=
  ∀ (pins : List (Addr × Obj)) (s : Shared) (σ : St) (H : Hp) (D : Ends), Inv X pins σ H s → t D σ H → wpAny (model X.prog X.w) X.A (exec st X.env) (SP X pins D) X.xe s
def PSs (X : Cx) (st : List Stmt) (t : TS) : Prop :=
  ∀ (pins : List (Addr × Obj)) (s : Shared) (σ : St) (H : Hp) (D : Ends), Inv X pins σ H s → t D σ H → wpAny (model X.prog X.w) X.A (execs st X.env) (SP X pins D) X.xe s
/-- weaken the end -/
theorem thn {α : Type} {t : Sem α} {Q Q' : α → Shared → Prop} {M : Model} {A : Around} {E : Value → Shared → Prop} {s : Shared} (h : wpAny M A t Q E s) (hQ : ∀ a s, Q a s → Q' a s) : wpAny M A t Q' E s := wpAny_mono h hQ fun _ _ x => x
end L2

namespace L2
open PySem PySem.Spec PyProof.Rows
section
variable {X : Cx}

def tVar (i : Nat) : TE := fun σ H Q => ∃ v, σ[i]? = some (some v) ∧ Q v H
def tC (v : V) : TE := fun _ H Q => Q v H
theorem pe_var {i : Nat} {x : Str} {pos : Pos} (hN : X.N[i]? = some x) (hv : Vis X.env.scope x) (hd : (x == ("__debug__" : Str)) = false := by decide) (hcd : (x == ("__classdict__" : Str)) = false := by decide) : PE X (.Name x pos) (tVar i) := by
  intro pins s σ H Q I h
  obtain ⟨v, e, h⟩ := h
  obtain ⟨m, hn, hl⟩ := I.loc
  obtain ⟨u, r, l⟩ := hl i x v hN e hv
  have fin : EP X pins σ Q u s := ⟨v, H, I, r, h⟩
  rcases l with ⟨hk, hm⟩ | ⟨hk, c, hc, hcell⟩
  · exact wpAny_Name (wpAny_loadName_local I.ok.kind hk hn hm fin) hd
  · rcases hk with hk | hk
    · exact wpAny_Name (wpAny_loadName_cell I.ok.kind hk hc hcell fin) hd
    · exact wpAny_Name (wpAny_loadName_free I.ok.kind hk hc hcell fin hcd) hd
theorem pe_int {i j pos} : PE X (.Constant (.int i) j pos) (tC (.int i)) := fun _ _ _ H _ I h => wpAny_Constant_int ⟨.int i, H, I.tok _, ⟨_, rfl⟩, h⟩
theorem pe_bl {b j pos} : PE X (.Constant (.bool b) j pos) (tC (.bl b)) := fun _ _ _ H _ I h => Constant_bool ⟨.bl b, H, I, rfl, h⟩
theorem pe_non {j pos} : PE X (.Constant .none j pos) (tC .non) := fun _ _ _ H _ I h => Constant_none ⟨.non, H, I, rfl, h⟩
theorem pe_str {x j pos} : PE X (.Constant (.str x) j pos) (tC (.str x)) := fun _ _ _ H _ I h => Calls.Constant_str ⟨.str x, H, I.tok _, ⟨_, rfl⟩, h⟩

/-- a global name of the def -/
def Gl (X : Cx) (x : Str) : Prop := X.env.kindOf x = some .globalImplicit
theorem ld_glob {E : Value → Shared → Prop} {pins : List (Addr × Obj)} {s : Shared} {σ : St} {H : Hp} {x : Str} {u : Value} {pos : Pos} {Q : Value → Shared → Prop} (I : Inv X pins σ H s) (hg : Gl X x) (hm : X.mg x = some u) (h : Q u s)
    (hd : (x == ("__debug__" : Str)) = false := by decide) : wpAny (model X.prog X.w) X.A (eval (.Name x pos) X.env) Q E s :=
  Calls.Name_function_global I.ok.kind hg (Calls.loadGlobal_global (by rw [I.ok.glob]; exact I.mod.glob.keeps I.bk) hm h) hd
theorem ld_blt {E : Value → Shared → Prop} {pins : List (Addr × Obj)} {s : Shared} {σ : St} {H : Hp} {x : Str} {u : Value} {pos : Pos} {Q : Value → Shared → Prop} (I : Inv X pins σ H s) (hg : Gl X x) (hm : X.mg x = none) (hv : bootBuiltins x = some u) (h : Q u s)
    (hn : x ≠ "__name__" := by decide) (hd : (x == ("__debug__" : Str)) = false := by decide) : wpAny (model X.prog X.w) X.A (eval (.Name x pos) X.env) Q E s := by
  obtain ⟨mb, h1, h2⟩ := I.mod.blt
  exact Calls.Name_function_global I.ok.kind hg (Calls.loadGlobal_builtin (by rw [I.ok.glob]; exact I.mod.glob.keeps I.bk) hm (by rw [I.ok.blt]; exact h1.keeps I.bk) ((h2 x hn).trans hv) h) hd
/-- a module's constant, a class, a function, as a value -/
theorem pe_glob {x : Str} {v : V} {u : Value} {pos : Pos} (hg : Gl X x) (hm : X.mg x = some u) (r : RelV v u) (hd : (x == ("__debug__" : Str)) = false := by decide) : PE X (.Name x pos) (tC v) :=
  fun _ _ _ H _ I h => ld_glob I hg hm ⟨v, H, I, r, h⟩ hd
theorem pe_bltn {x : Str} {v : V} {u : Value} {pos : Pos} (hg : Gl X x) (hm : X.mg x = none) (hv : bootBuiltins x = some u) (r : RelV v u) (hn : x ≠ "__name__" := by decide) (hd : (x == ("__debug__" : Str)) = false := by decide) : PE X (.Name x pos) (tC v) :=
  fun _ _ _ H _ I h => ld_blt I hg hm hv ⟨v, H, I, r, h⟩ hn hd

variable {a b : Expr} {ta tb : TE} {pos : Pos}
def PC (X : Cx) (op : CmpOp) (a b : Expr) (t : TE) : Prop :=
  ∀ (pins : List (Addr × Obj)) (s : Shared) (σ : St) (H : Hp) (Q : VK), Inv X pins σ H s → t σ H Q →
    wpAny (model X.prog X.w) X.A (eval a X.env) (fun v s₁ => wpAny (model X.prog X.w) X.A (eval b X.env) (fun u s₂ => wpAny (model X.prog X.w) X.A (compareOp op v u) (EP X pins σ Q) X.xe s₂) X.xe s₁) X.xe s
/-- a comparison as a value, as a test -/
def tB (t : TE) : TT := fun σ H Q => t σ H fun x H1 => ∃ c, x = .bl c ∧ Q c H1
theorem pt_cmp {op : CmpOp} {t : TE} (h : PC X op a b t) (h1 : behindInMarks op b = false := by first | exact nobehind _ (by decide) (by decide) | rfl) : PT X (.Compare a [op] [b] pos) (tB t) := by
  intro pins s σ H Q I hw
  refine wpAny_isTrue_Compare1 (thn (h pins s σ H _ I hw) fun v s1 h1 => thn h1 fun u s2 h2 => thn h2 fun c s3 ⟨x, H1, I1, r1, q1⟩ => ?_) h1
  obtain ⟨d, rfl, q⟩ := q1
  cases r1
  exact wpAny_truthy_bool ⟨H1, I1, q⟩
/-- an expression whose value is a bool, as a test -/
theorem pt_val {e : Expr} {t : TE} (h : PE X e t) (he : ∀ whole, isTrue e X.env whole = (do let v ← whole; standAt e.pos; holding [v] (truthy v)) := by intro _; rfl) : PT X e (tB t) := by
  intro pins s σ H Q I hw
  refine isTrue_plain (thn (h pins s σ H _ I hw) fun v s1 ⟨x, H1, I1, r1, q1⟩ => ?_) (he _)
  obtain ⟨d, rfl, q⟩ := q1
  cases r1
  exact wpAny_truthy_bool ⟨H1, I1, q⟩

variable {tA tB' : TT} {rest : List Expr}
def tAnd (t u : TT) : TT := fun σ H Q => t σ H fun c H1 => if c = true then u σ H1 Q else Q false H1
def tOr (t u : TT) : TT := fun σ H Q => t σ H fun c H1 => if c = true then Q true H1 else u σ H1 Q
def tNot (t : TT) : TT := fun σ H Q => t σ H fun c H1 => Q (!c) H1
theorem pw_and1 (ha : PT X a tA) : PW X (.BoolOp .And [a] pos) tA := by
  intro wh pins s σ H Q I h
  refine isTrue_and (thn (ha pins s σ H Q I h) fun c s1 e => ?_)
  cases c with
  | true => exact isTrue_and_nil e
  | false => exact e
theorem pw_or1 (ha : PT X a tA) : PW X (.BoolOp .Or [a] pos) tA := by
  intro wh pins s σ H Q I h
  refine isTrue_or (thn (ha pins s σ H Q I h) fun c s1 e => ?_)
  cases c with
  | false => exact isTrue_or_nil e
  | true => exact e
theorem pw_and (ha : PT X a tA) (hb : PW X (.BoolOp .And (b :: rest) pos) tB') : PW X (.BoolOp .And (a :: b :: rest) pos) (tAnd tA tB') := by
  intro wh pins s σ H Q I h
  refine isTrue_and (thn (ha pins s σ H _ I h) fun c s1 ⟨H1, I1, q1⟩ => ?_)
  cases c with
  | true => exact hb wh pins s1 σ H1 Q I1 q1
  | false => exact ⟨H1, I1, q1⟩
theorem pw_or (ha : PT X a tA) (hb : PW X (.BoolOp .Or (b :: rest) pos) tB') : PW X (.BoolOp .Or (a :: b :: rest) pos) (tOr tA tB') := by
  intro wh pins s σ H Q I h
  refine isTrue_or (thn (ha pins s σ H _ I h) fun c s1 ⟨H1, I1, q1⟩ => ?_)
  cases c with
  | true => exact ⟨H1, I1, q1⟩
  | false => exact hb wh pins s1 σ H1 Q I1 q1
theorem pt_not (ha : PT X a tA) : PT X (.UnaryOp .Not a pos) (tNot tA) := by
  intro pins s σ H Q I h
  exact isTrue_not (ha pins s σ H (fun c H1 => Q (!c) H1) I h)
/-- .. as values (bools) -/
def tAndV (ta tb : TE) : TE := fun σ H Q => ta σ H fun x H1 => ∃ c, x = .bl c ∧ if c = true then tb σ H1 Q else Q (.bl false) H1
def tOrV (ta tb : TE) : TE := fun σ H Q => ta σ H fun x H1 => ∃ c, x = .bl c ∧ if c = true then Q (.bl true) H1 else tb σ H1 Q
def tNotV (ta : TE) : TE := fun σ H Q => ta σ H fun x H1 => ∃ c, x = .bl c ∧ Q (.bl (!c)) H1
theorem pe_one {op} {t : TE} (h : PE X a t) : PE X (.BoolOp op [a] pos) t := fun pins s σ H Q I hw => BoolOp_one (h pins s σ H Q I hw)
theorem pe_and (ha : PE X a ta) (hb : PE X (.BoolOp .And (b :: rest) pos) tb) : PE X (.BoolOp .And (a :: b :: rest) pos) (tAndV ta tb) := by
  intro pins s σ H Q I h
  refine BoolOp_and (thn (ha pins s σ H _ I h) fun v s1 ⟨x, H1, I1, r1, q1⟩ => ?_)
  obtain ⟨c, rfl, q1⟩ := q1
  cases r1
  refine wpAny_truthy_bool ?_
  cases c with
  | true => exact hb pins s1 σ H1 Q I1 q1
  | false => exact ⟨.bl false, H1, I1, rfl, q1⟩
theorem pe_or (ha : PE X a ta) (hb : PE X (.BoolOp .Or (b :: rest) pos) tb) : PE X (.BoolOp .Or (a :: b :: rest) pos) (tOrV ta tb) := by
  intro pins s σ H Q I h
  refine BoolOp_or (thn (ha pins s σ H _ I h) fun v s1 ⟨x, H1, I1, r1, q1⟩ => ?_)
  obtain ⟨c, rfl, q1⟩ := q1
  cases r1
  refine wpAny_truthy_bool ?_
  cases c with
  | false => exact hb pins s1 σ H1 Q I1 q1
  | true => exact ⟨.bl true, H1, I1, rfl, q1⟩
theorem pe_not (ha : PE X a ta) : PE X (.UnaryOp .Not a pos) (tNotV ta) := by
  intro pins s σ H Q I h
  refine UnaryOp_ (thn (ha pins s σ H _ I h) fun v s1 ⟨x, H1, I1, r1, q1⟩ => ?_)
  obtain ⟨c, rfl, q1⟩ := q1
  cases r1
  exact not_of (wpAny_truthy_bool ⟨.bl (!c), H1, I1, rfl, q1⟩)
/-- a if t else b -/
def tIf (t : TT) (ta tb : TE) : TE := fun σ H Q => t σ H fun c H1 => if c = true then ta σ H1 Q else tb σ H1 Q
theorem pe_ifExp {c : Expr} (hc : PT X c tA) (ha : PE X a ta) (hb : PE X b tb) : PE X (.IfExp c a b pos) (tIf tA ta tb) := by
  intro pins s σ H Q I h
  refine wpAny_IfExp (thn (hc pins s σ H _ I h) fun d s1 ⟨H1, I1, q1⟩ => ?_)
  cases d with
  | true => exact ha pins s1 σ H1 Q I1 q1
  | false => exact hb pins s1 σ H1 Q I1 q1
end
end L2

namespace L2
open PySem PySem.Spec PyProof.Rows

def SqL (K : PySem.W.Frag) (H : Hp) (a : Addr) (xs : List V) : Prop :=
  Rd H a (.lst xs) ∨
    ∃ (o : Obj) (its : Array Value) (n : Nat), K.lookup a = some o ∧ o.cls = .type "list" ∧ o.dict = none ∧ o.data = .seq its n ∧ its.size ≤ sizeLine ∧ Vals xs its.toList
def SqT (K : PySem.W.Frag) (H : Hp) (a : Addr) (xs : List V) : Prop :=
  Rd H a (.tup xs) ∨
    ∃ (o : Obj) (its : Array Value) (n : Nat), K.lookup a = some o ∧ o.cls = .type "tuple" ∧ o.data = .seq its n ∧ its.size ≤ sizeLine ∧ Vals xs its.toList
def absV : Value → Option V
  | .none => some .non
  | .bool b => some (.bl b)
  | .int i _ => some (.int i)
  | .str x _ => some (.str x)
  | .bytes b _ => some (.byt b)
  | .float b _ => some (.flt b)
  | .ref a => some (.ref a)
  | .type n => some (.ty n)
  | _ => none
theorem RelV.abs {x : V} {u : Value} (r : RelV x u) : absV u = some x := by
  cases x with
  | non => cases r; rfl
  | bl _ => cases r; rfl
  | int _ => obtain ⟨t, rfl⟩ := r; rfl
  | str _ => obtain ⟨t, rfl⟩ := r; rfl
  | byt _ => obtain ⟨t, rfl⟩ := r; rfl
  | flt _ => obtain ⟨t, rfl⟩ := r; rfl
  | ref _ => cases r; rfl
  | ty _ => cases r; rfl
theorem RelV.inj {x y : V} {u : Value} (r : RelV x u) (q : RelV y u) : x = y := Option.some.inj (r.abs.symm.trans q.abs)
theorem Vals.inj : ∀ {xs ys : List V} {us : List Value}, Vals xs us → Vals ys us → xs = ys
  | _, _, _, .nil, .nil => rfl
  | _, _, _, .cons r t, .cons r' t' => by rw [r.inj r', Vals.inj t t']
section
variable {X : Cx} {pins : List (Addr × Obj)} {σ : St} {H : Hp} {s : Shared} {a : Addr} {xs ys : List V}
theorem SqL.of {K : PySem.W.Frag} (h : H a = some (.lst xs)) : SqL K H a xs := .inl (.inl h)
theorem SqT.of {K : PySem.W.Frag} (h : H a = some (.tup xs)) : SqT K H a xs := .inl (.inl h)
theorem Inv.list (I : Inv X pins σ H s) (h : SqL X.K H a xs) : ∃ its : List Value, Vals xs its ∧ PlainL s.heap a its.toArray ∧ xs.length ≤ sizeLine := by
  rcases h with h | ⟨o, its, n, hk, hc, hd, hs, hz, r⟩
  · obtain ⟨z, its, n, r, e⟩ := h.ok I.hok
    exact ⟨its, r, ⟨_, n, e, rfl, rfl, rfl⟩, z⟩
  · refine ⟨its.toList, r, ⟨o, n, I.kIn a o hk, hc, hd, by simpa using hs⟩, ?_⟩
    have e := r.length
    simp only [Array.length_toList] at e
    omega
theorem Inv.tuple (I : Inv X pins σ H s) (h : SqT X.K H a xs) : ∃ its : List Value, Vals xs its ∧ IsTup s.heap a its.toArray ∧ xs.length ≤ sizeLine := by
  rcases h with h | ⟨o, its, n, hk, hc, hs, hz, r⟩
  · obtain ⟨z, its, r, p⟩ := h.ok I.hok
    exact ⟨its, r, p, z⟩
  · refine ⟨its.toList, r, ⟨o, I.kIn a o hk, hc, n, by simpa using hs⟩, ?_⟩
    have e := r.length
    simp only [Array.length_toList] at e
    omega
theorem Inv.list_inj (I : Inv X pins σ H s) (h : SqL X.K H a xs) (h' : SqL X.K H a ys) : xs = ys := by
  obtain ⟨its, r, ⟨o, n, e, _, _, d⟩, _⟩ := I.list h
  obtain ⟨its', r', ⟨o', n', e', _, _, d'⟩, _⟩ := I.list h'
  rw [e] at e'; cases e'
  rw [d] at d'
  injection d' with d1 _
  have : its = its' := by simpa using congrArg Array.toList d1
  subst this
  exact r.inj r'
theorem Inv.tuple_inj (I : Inv X pins σ H s) (h : SqT X.K H a xs) (h' : SqT X.K H a ys) : xs = ys := by
  obtain ⟨its, r, ⟨o, e, _, n, d⟩, _⟩ := I.tuple h
  obtain ⟨its', r', ⟨o', e', _, n', d'⟩, _⟩ := I.tuple h'
  rw [e] at e'; cases e'
  rw [d] at d'
  injection d' with d1 _
  have : its = its' := by simpa using congrArg Array.toList d1
  subst this
  exact r.inj r'
end

abbrev Cx.wish (X : Cx) (E : Value → Shared → Prop) : Cx := { X with xe := E }
/-- no exception leaves -/
abbrev Cx.nox (X : Cx) : Cx := X.wish fun _ _ => False
theorem Cx.Ok.wish {X : Cx} (ok : X.Ok) (E : Value → Shared → Prop) : (X.wish E).Ok :=
  ⟨ok.mod, ok.kind, ok.glob, ok.blt, ok.above, ok.inj, ok.has, ok.cab, ok.hd, ok.frames, ok.stk, ok.exf, ok.bs, ok.bsz, ok.noex, ok.exfs, ok.funs, ok.frf⟩
theorem Cx.Ok.unwish {X : Cx} {E : Value → Shared → Prop} (ok : (X.wish E).Ok) : X.Ok :=
  ⟨ok.mod, ok.kind, ok.glob, ok.blt, ok.above, ok.inj, ok.has, ok.cab, ok.hd, ok.frames, ok.stk, ok.exf, ok.bs, ok.bsz, ok.noex, ok.exfs, ok.funs, ok.frf⟩
section
variable {X : Cx} {pins : List (Addr × Obj)} {σ : St} {H : Hp} {s : Shared} {E : Value → Shared → Prop}
theorem Inv.wish (I : Inv X pins σ H s) (E : Value → Shared → Prop) : Inv (X.wish E) pins σ H s := ⟨I.ok.wish E, I.os, I.bare, I.base, I.loc, I.cell, I.free, I.freeC, I.pin, I.hok, I.len⟩
theorem Inv.unwish (I : Inv (X.wish E) pins σ H s) : Inv X pins σ H s := ⟨I.ok.unwish, I.os, I.bare, I.base, I.loc, I.cell, I.free, I.freeC, I.pin, I.hok, I.len⟩
theorem SP.unwish {D : Ends} {f : Flow} {s' : Shared} (h : SP (X.wish E) pins D f s') : SP X pins D f s' := by
  cases f with
  | next => obtain ⟨σ', H', I, q⟩ := h; exact ⟨σ', H', I.unwish, q⟩
  | brk => obtain ⟨σ', H', I, q⟩ := h; exact ⟨σ', H', I.unwish, q⟩
  | cont => obtain ⟨σ', H', I, q⟩ := h; exact ⟨σ', H', I.unwish, q⟩
  | ret u => obtain ⟨v, σ', H', I, r, q⟩ := h; exact ⟨v, σ', H', I.unwish, r, q⟩
theorem PSs.nox {st : List Stmt} {t : TS} (h : PSs X.nox st t) : PSs X st t := fun pins s σ H D I hw =>
  wpAny_mono (h pins s σ H D (I.wish _) hw) (fun _ _ q => q.unwish) fun _ _ z => False.elim z
end

section
variable {X : Cx} {st : Stmt} {rest : List Stmt} {t u : TS} {e : Expr} {te : TE} {pos : Pos}
def tNext : TS := fun D σ H => D.nx σ H
def tSeq (t u : TS) : TS := fun D σ H => t { D with nx := u D } σ H
theorem pss_nil : PSs X [] tNext := fun _ _ σ H _ I h => wpAny_execs_nil ⟨σ, H, I, h⟩
theorem pss_cons (h1 : PS X st t) (h2 : PSs X rest u) : PSs X (st :: rest) (tSeq t u) := by
  intro pins s σ H D I h
  refine wpAny_execs_cons (thn (h1 pins s σ H { D with nx := u D } I h) fun f s1 q => ?_)
  cases f with
  | next =>
    obtain ⟨σ', H', I', q⟩ := q
    exact h2 pins s1 σ' H' D I' q
  | ret v => exact q
  | brk => exact q
  | cont => exact q
theorem pss_one (h1 : PS X st t) : PSs X [st] t := by
  intro pins s σ H D I h
  refine wpAny_execs_cons (thn (h1 pins s σ H D I h) fun f s1 q => ?_)
  cases f with
  | next => exact wpAny_execs_nil q
  | ret v => exact q
  | brk => exact q
  | cont => exact q
/-- in a def's body nothing is shown -/
theorem Inv.quiet {pins : List (Addr × Obj)} {σ : St} {H : Hp} {s : Shared} (I : Inv X pins σ H s) : interactive X.env = false := by simp [interactive, I.ok.kind]
/-- an expression whose value is dropped -/
def tDrop (te : TE) : TS := fun D σ H => te σ H fun _ H1 => D.nx σ H1
theorem ps_expr (he : PE X e te) (hs : swapsWith e none pos.line X.env = pure false := by rfl) : PS X (.Expr e pos) (tDrop te) := by
  intro pins s σ H D I h
  exact wpAny_Expr_any (thn (he pins s σ H _ I h) fun v s1 ⟨x, H1, I1, r1, q1⟩ => ⟨σ, H1, I1, q1⟩) I.quiet hs
def tRet (te : TE) : TS := fun D σ H => te σ H D.rt
theorem ps_ret (he : PE X e te) : PS X (.Return (some e) pos) (tRet te) := by
  intro pins s σ H D I h
  exact wpAny_Return_some (thn (he pins s σ H _ I h) fun v s1 ⟨x, H1, I1, r1, q1⟩ => ⟨x, σ, H1, I1, r1, q1⟩)
def tIfS (c : TT) (t u : TS) : TS := fun D σ H => c σ H fun b H1 => if b = true then t D σ H1 else u D σ H1
theorem ps_if {c : Expr} {a b : List Stmt} {tc : TT} (hc : PT X c tc) (ha : PSs X a t) (hb : PSs X b u) : PS X (.If c a b pos) (tIfS tc t u) := by
  intro pins s σ H D I h
  refine wpAny_If (thn (hc pins s σ H _ I h) fun d s1 ⟨H1, I1, q1⟩ => ?_)
  cases d with
  | true => exact ha pins s1 σ H1 D I1 q1
  | false => exact hb pins s1 σ H1 D I1 q1
end

abbrev TG := V → St → Hp → (St → Hp → Prop) → Prop
abbrev TGs := List V → St → Hp → (St → Hp → Prop) → Prop
def PG (X : Cx) (target : Expr) (t : TG) : Prop :=
  ∀ (pins : List (Addr × Obj)) (s : Shared) (σ : St) (H : Hp) (v : V) (u : Value) (Q : St → Hp → Prop), Inv X pins σ H s → RelV v u → t v σ H Q →
    wpAny (model X.prog X.w) X.A (assign target X.env u) (fun _ s' => ∃ σ' H', Inv X pins σ' H' s' ∧ Q σ' H') X.xe s
/-- several targets, one after another -/
def PGs (X : Cx) (ts : List Expr) (t : TGs) : Prop :=
  ∀ (pins : List (Addr × Obj)) (s : Shared) (σ : St) (H : Hp) (vs : List V) (us : List Value) (Q : St → Hp → Prop), Inv X pins σ H s → Vals vs us → t vs σ H Q →
    wpAny (model X.prog X.w) X.A (assignInOrder ((assignEach ts X.env).map (·.2)) us) (fun _ s' => ∃ σ' H', Inv X pins σ' H' s' ∧ Q σ' H') X.xe s
/-- o[i] = v, by values -/
abbrev TSet := V → V → V → Hp → (Hp → Prop) → Prop
def PSet (X : Cx) (t : TSet) : Prop :=
  ∀ (pins : List (Addr × Obj)) (s : Shared) (σ : St) (H : Hp) (o i v : V) (ov iv u : Value) (Q : Hp → Prop), Inv X pins σ H s → RelV o ov → RelV i iv → RelV v u → t o i v H Q →
    wpAny (model X.prog X.w) X.A (setItem ov iv u) (fun _ s' => ∃ H', Inv X pins σ H' s' ∧ Q H') X.xe s
/-- a op= b, by values -/
abbrev TIp := V → V → Hp → VK → Prop
def PIp (X : Cx) (op : Operator) (t : TIp) : Prop :=
  ∀ (pins : List (Addr × Obj)) (s : Shared) (σ : St) (H : Hp) (x y : V) (v u : Value) (Q : VK), Inv X pins σ H s → RelV x v → RelV y u → t x y H Q →
    wpAny (model X.prog X.w) X.A (inplaceOp op v u) (EP X pins σ Q) X.xe s
section
variable {X : Cx} {pos : Pos}
def gName (i : Nat) : TG := fun v σ H Q => Q (σ.set i (some v)) H
theorem pg_name {i : Nat} {x : Str} (hN : X.N.Nodup) (hi : X.N[i]? = some x) (hx : Loc X.env.scope x) (hf : X.fn x = true ∨ X.env.scope.names.lookup x = some .local := by first | exact .inl rfl | exact .inr rfl | assumption) : PG X (.Name x pos) (gName i) := by
  intro pins s σ H v u Q I r h
  exact wpAny_assign_Name (store_ok I hN hi hx r (fun s' I' => ⟨_, H, I', h⟩) hf)
def gNil : TGs := fun vs σ H Q => vs = [] ∧ Q σ H
def gCons (t : TG) (u : TGs) : TGs := fun vs σ H Q => ∃ v r, vs = v :: r ∧ t v σ H fun σ' H' => u r σ' H' Q
theorem pgs_nil : PGs X [] gNil := by
  intro pins s σ H vs us Q I r h
  obtain ⟨e, h⟩ := h
  subst e
  cases r
  exact assignInOrder_nil ⟨σ, H, I, h⟩
theorem pgs_cons {e : Expr} {es : List Expr} {t : TG} {u : TGs} (h1 : PG X e t) (h2 : PGs X es u)
    (hs : (assignEach (e :: es) X.env).map (·.2) = assign e X.env :: (assignEach es X.env).map (·.2) := by rfl) : PGs X (e :: es) (gCons t u) := by
  intro pins s σ H vs us Q I r h
  obtain ⟨v, vr, e1, h⟩ := h
  subst e1
  cases r with
  | cons r rr =>
    rw [hs]
    refine assignInOrder_cons (thn (h1 pins s σ H _ _ _ I r h) fun _ s1 ⟨σ1, H1, I1, q1⟩ => ?_)
    exact h2 pins s1 σ1 H1 _ _ Q I1 rr q1
/-- (a, b, ..) = a tuple of that length -/
def gTup (K : PySem.W.Frag) (n : Nat) (t : TGs) : TG := fun v σ H Q => ∃ a xs, v = .ref a ∧ SqT K H a xs ∧ xs.length = n ∧ t xs σ H Q
theorem pg_tup {es : List Expr} {k : Nat} {t : TGs} {n : Nat} (hc : X.calm = true) (h : PGs X es t)
    (hn : (assignEach es X.env).length = n := by rfl) (hst : (assignEach es X.env).findIdx? (·.1) = none := by rfl) : PG X (.Tuple es k pos) (gTup X.K n t) := by
  intro pins s σ H v u Q I r hw
  obtain ⟨a, xs, e1, hq, hl, hw⟩ := hw
  subst e1
  cases r
  obtain ⟨its, rv, ht, hz⟩ := I.tuple hq
  refine assign_Tuple_tuple (I.ok.hd hc) ht (by simp [hn, ← hl, rv.length]) hst fun h' hx => ?_
  have I1 : Inv X pins σ H { s with heap := h' } := I.kept (t' := s.toks) fun b o e => hx b o (Nat.ne_of_lt (Heap.lt_size e)) e
  exact h pins _ σ H xs _ Q I1 (by simpa using rv) hw
/-- o[i] = .. -/
def gSub (to ti : TE) (t : TSet) : TG := fun v σ H Q => to σ H fun o H1 => ti σ H1 fun i H2 => t o i v H2 fun H3 => Q σ H3
theorem pg_sub {o i : Expr} {to ti : TE} {t : TSet} (ho : PE X o to) (hi : PE X i ti) (hs : PSet X t)
    (ha : ∀ v, assign (.Subscript o i pos) X.env v = (do
      let ov ← holding [v] (eval o X.env)
      let iv ← holding [v, ov] (eval i X.env)
      standAt pos
      holding [v, ov, iv] (setItem ov iv v)
      release [v, ov, iv] []) := by intro _; rfl) : PG X (.Subscript o i pos) (gSub to ti t) := by
  intro pins s σ H v u Q I r h
  rw [ha]
  refine wpAny_bind (wpAny_holding (thn (ho pins s σ H _ I h) fun ov s1 ⟨x, H1, I1, r1, q1⟩ => ?_))
  refine wpAny_bind (wpAny_holding (thn (hi pins s1 σ H1 _ I1 q1) fun iv s2 ⟨y, H2, I2, r2, q2⟩ => ?_))
  refine wpAny_bind (wpAny_standAt (wpAny_bind (wpAny_holding (thn (hs pins s2 σ H2 x y v ov iv u _ I2 r1 r2 r q2) fun _ s3 ⟨H3, I3, q3⟩ => ?_))))
  exact wpAny_release ⟨σ, H3, I3, q3⟩
/-- target = value -/
def tAsg (te : TE) (g : TG) : TS := fun D σ H => te σ H fun x H1 => g x σ H1 D.nx
theorem ps_asg {tg e : Expr} {te : TE} {g : TG} (he : PE X e te) (hg : PG X tg g) (hs : swapsWithSole [tg] e pos.line X.env = pure false := by rfl) (hw : swappedStores [tg] e X.env = pure none := by rfl)
    (h1 : (assignEach [tg] X.env).map (·.2) = [assign tg X.env] := by rfl) : PS X (.Assign [tg] e pos) (tAsg te g) := by
  intro pins s σ H D I h
  refine wpAny_Assign_stores (thn (he pins s σ H _ I h) fun v s1 ⟨x, H1, I1, r1, q1⟩ => ?_) hs hw
  rw [h1]
  exact thn (hg pins s1 σ H1 x v _ I1 r1 q1) fun _ s2 q => q
/-- name = value -/
theorem ps_set {i : Nat} {x : Str} {e : Expr} {te : TE} {pos' : Pos} (hN : X.N.Nodup) (hi : X.N[i]? = some x) (hx : Loc X.env.scope x) (he : PE X e te) (hs : swapsWith e (some (.Name x pos')) pos.line X.env = pure false := by rfl) (hf : X.fn x = true ∨ X.env.scope.names.lookup x = some .local := by first | exact .inl rfl | exact .inr rfl | assumption) :
    PS X (.Assign [.Name x pos'] e pos) (tAsg te (gName i)) := by
  intro pins s σ H D I h
  refine wpAny_Assign_Name (thn (he pins s σ H _ I h) fun v s1 ⟨y, H1, I1, r1, q1⟩ => ?_) hs
  exact store_ok I1 hN hi hx r1 (fun s2 I2 => ⟨_, H1, I2, q1⟩) hf
/-- name op= e -/
def tAug (i : Nat) (te : TE) (ti : TIp) : TS := fun D σ H => ∃ x, σ[i]? = some (some x) ∧ te σ H fun y H1 => ti x y H1 fun z H2 => D.nx (σ.set i (some z)) H2
theorem ps_aug {i : Nat} {x : Str} {e : Expr} {te : TE} {op : Operator} {ti : TIp} {pos' : Pos} (hN : X.N.Nodup) (hi : X.N[i]? = some x) (hx : Loc X.env.scope x) (he : PE X e te) (ho : PIp X op ti) (hf : X.fn x = true ∨ X.env.scope.names.lookup x = some .local := by first | exact .inl rfl | exact .inr rfl | assumption) :
    PS X (.AugAssign (.Name x pos') op e pos) (tAug i te ti) := by
  intro pins s σ H D I h
  obtain ⟨v, e1, h⟩ := h
  obtain ⟨m, hn, hl⟩ := I.loc
  have vis : Vis X.env.scope x := by rcases hx with k | k; exact .inl k; exact .inr (.inl k)
  obtain ⟨u, r, l⟩ := hl i x v hi e1 vis
  refine wpAny_AugAssign_Name ?_
  have go : wpAny (model X.prog X.w) X.A (eval e X.env) (fun w s₂ => wpAny (model X.prog X.w) X.A (inplaceOp op u w) (fun r s₃ => wpAny (model X.prog X.w) X.A (storeName X.env x r) (fun _ => SP X pins D .next) X.xe s₃) X.xe s₂) X.xe s := by
    refine thn (he pins s σ H _ I h) fun w s1 ⟨y, H1, I1, r1, q1⟩ => ?_
    refine thn (ho pins s1 σ H1 v y u w _ I1 r r1 q1) fun z s2 ⟨zv, H2, I2, r2, q2⟩ => ?_
    exact store_ok I2 hN hi hx r2 (fun s3 I3 => ⟨_, H2, I3, q2⟩) hf
  rcases l with ⟨hk, hm⟩ | ⟨hk, c, hc, hcell⟩
  · exact wpAny_loadName_local I.ok.kind hk hn hm go
  · rcases hk with hk | hk
    · exact wpAny_loadName_cell I.ok.kind hk hc hcell go
    · rcases hx with k | k
      · have : X.env.scope.names.lookup x = some .free := hk
        rw [k] at this; cases this
      · have : X.env.scope.names.lookup x = some .free := hk
        rw [k] at this; cases this
/-- ints -/
def ipI (f : Int → Int → Int) : TIp := fun x y H Q => ∃ i j, x = .int i ∧ y = .int j ∧ Q (.int (f i j)) H
theorem ip_add : PIp X .Add (ipI fun i j => i + j) := by
  intro pins s σ H x y v u Q I r1 r2 h
  obtain ⟨i, j, e1, e2, q⟩ := h
  subst e1; subst e2
  obtain ⟨t, rfl⟩ := r1
  obtain ⟨t', rfl⟩ := r2
  exact iadd_int ⟨.int _, H, I.tok _, ⟨_, rfl⟩, q⟩
end

section
variable {X : Cx} {pos : Pos}
/-- the invariant W with its measure -/
def tWhile (c : TT) (tb : TS) : TS := fun D σ H => ∃ W : Nat → St → Hp → Prop, (∃ m, W m σ H) ∧ ∀ m σ H, W m σ H →
  c σ H fun b H1 => if b = true then ∃ N : St → Hp → Prop, (∀ σ' H', N σ' H' → ∃ m', m' < m ∧ W m' σ' H') ∧ tb { D with nx := N, ct := N, bk := D.nx } σ H1 else D.nx σ H1
theorem ps_while {c : Expr} {body : List Stmt} {tc : TT} {tb : TS} (hp : PassesOwn (model X.prog X.w) X.A X.env X.xe) (hc : PT X c tc) (hb : PSs X body tb) : PS X (.While c body [] pos) (tWhile tc tb) := by
  intro pins s σ H D I h
  obtain ⟨W, ⟨m0, w0⟩, turn⟩ := h
  refine wpAny_While (codeAny_whileLoop (fun n s' => ∃ σ' H', Inv X pins σ' H' s' ∧ W n σ' H') ?_ m0 ⟨σ, H, I, w0⟩)
  rintro n s1 ⟨σ1, H1, I1, w1⟩
  refine wpAny_passesOwn hp (thn (hc pins s1 σ1 H1 _ I1 (turn n σ1 H1 w1)) fun b s2 ⟨H2, I2, q2⟩ => ?_)
  cases b with
  | true =>
    obtain ⟨N, hN, q2⟩ := q2
    rw [if_pos rfl]
    refine wpAny_passesOwn hp (thn (hb pins s2 σ1 H2 _ I2 q2) fun f s3 q3 => ?_)
    cases f with
    | next =>
      obtain ⟨σ3, H3, I3, n3⟩ := q3
      obtain ⟨m', hm, w3⟩ := hN σ3 H3 n3
      exact ⟨m', hm, σ3, H3, I3, w3⟩
    | cont =>
      obtain ⟨σ3, H3, I3, n3⟩ := q3
      obtain ⟨m', hm, w3⟩ := hN σ3 H3 n3
      exact ⟨m', hm, σ3, H3, I3, w3⟩
    | brk => exact q3
    | ret v => exact q3
  | false =>
    rw [if_neg Bool.false_ne_true]
    exact wpAny_execs_nil ⟨σ1, H2, I2, q2⟩
end

/-- at turn i: it yields x (the heap may grow), or it stops -/
structure It where
  go : Nat → Hp → Prop
  yld : Nat → Hp → V → Hp → Prop
  stop : Nat → Hp → Prop
/-- the iterator's own objects may turn: they are not the frame's, not pinned, younger than the entry (or a comprehension's own) -/
def FpOk (X : Cx) (pins : List (Addr × Obj)) (H : Hp) (b : Addr) : Prop :=
  H b = none ∧ b ≠ X.env.locals ∧ b ∉ X.fs ∧ (b ∈ X.ex ∨ X.s₀.heap.objs.size ≤ b) ∧ (∀ x c, X.env.cells.lookup x = some c → c ≠ b) ∧ ∀ p ∈ X.pn ++ pins, p.1 ≠ b
theorem Inv.fpOk {X : Cx} {pins : List (Addr × Obj)} {σ : St} {H H' : Hp} {s : Shared} {b : Addr} (I : Inv X pins σ H s) (hb : s.heap.objs.size ≤ b) (hn : H' b = none) : FpOk X pins H' b := by
  refine ⟨hn, Nat.ne_of_gt (Nat.lt_of_lt_of_le I.lt hb), I.nofs hb, .inr (Nat.le_trans I.sz hb), fun x c e z => ?_, fun p hp z => ?_⟩
  · obtain ⟨v, q⟩ := I.cell x c e
    exact absurd (Nat.lt_of_lt_of_le q.lt (by rw [z]; exact hb)) (Nat.lt_irrefl _)
  · exact absurd (Nat.lt_of_lt_of_le (Heap.lt_size (I.pin p hp).1) (by rw [z]; exact hb)) (Nat.lt_irrefl _)
structure Turn (P : Program) (w : World) (K : PySem.W.Frag) (tg : Expr) (J : It) (fp : List Addr) (it : Addr) (tn : Nat → Heap → Prop) : Prop where
  mem : it ∈ fp
  obj : ∀ i h, tn i h → ∀ b ∈ fp, ∃ o, h.get? b = some o ∧ ∀ v, o.data ≠ .cell v
  keep : ∀ i h h', tn i h → (∀ b ∈ fp, ∀ o, h.get? b = some o → h'.get? b = some o) → tn i h'
  item : ∀ (X : Cx), X.prog = P → X.w = w → X.K = K → X.calm = true → ∀ (i : Nat) (pins : List (Addr × Obj)) (s : Shared) (σ : St) (H : Hp) (E : Value → Shared → Prop), Inv X pins σ H s → (∀ b ∈ fp, FpOk X pins H b) → tn i s.heap → J.go i H →
    wpAny (model P w) X.A (pyNext (.ref it)) (fun r s1 => ∃ u, r = some u ∧
      wpAny (model P w) X.A (letOwnedTupleGo tg (.ref it) u) (fun _ s2 => ∃ x H', Inv X pins σ H' s2 ∧ RelV x u ∧ J.yld i H x H' ∧ tn (i + 1) s2.heap ∧ ∀ b ∈ fp, H' b = none) E s1) E s
  done : ∀ (X : Cx), X.prog = P → X.w = w → X.K = K → X.calm = true → ∀ (i : Nat) (pins : List (Addr × Obj)) (s : Shared) (σ : St) (H : Hp) (E : Value → Shared → Prop), Inv X pins σ H s → (∀ b ∈ fp, FpOk X pins H b) → tn i s.heap → J.stop i H →
    wpAny (model P w) X.A (pyNext (.ref it)) (fun r s1 => r = none ∧ Inv X pins σ H s1) E s
  self : ∀ (A : Around) (i : Nat) (s : Shared) (Q : Value → Shared → Prop) (E : Value → Shared → Prop), tn i s.heap → Q (.ref it) s → wpAny (model P w) A (pyIter (.ref it)) Q E s
abbrev TI := St → Hp → (It → Hp → Prop) → Prop
/-- an iterator has come -/
def PIE (X : Cx) (pins : List (Addr × Obj)) (σ : St) (tg : Expr) (R : It → Hp → Prop) (itv : Value) (s2 : Shared) : Prop :=
  ∃ (it : Addr) (fp : List Addr) (tn : Nat → Heap → Prop) (J : It) (H' : Hp), itv = .ref it ∧ Inv X pins σ H' s2 ∧ Turn X.prog X.w X.K tg J fp it tn ∧ tn 0 s2.heap ∧ (∀ b ∈ fp, FpOk X pins H' b) ∧ R J H'
def PI (X : Cx) (tg iter : Expr) (wi : TI) : Prop :=
  ∀ (pins : List (Addr × Obj)) (s : Shared) (σ : St) (H : Hp) (R : It → Hp → Prop), Inv X pins σ H s → wi σ H R →
    wpAny (model X.prog X.w) X.A (eval iter X.env) (fun v s1 => wpAny (model X.prog X.w) X.A (pyIter v) (PIE X pins σ tg R) X.xe s1) X.xe s

/-- the step ahead of the store is nothing for an iterator that keeps no tuple -/
theorem go_of {M : Model} {A : Around} {E : Value → Shared → Prop} {s : Shared} {tg : Expr} {it : Addr} {u : Value} {o : Obj} {n : String} {vs : Array Value} {Q : Unit → Shared → Prop} (ho : s.heap.get? it = some o) (hc : o.cls = .type n) (hd : o.data = .fields vs)
    (hn : ["enumerate", "zip", "dict_itemiterator", "dict_reverseitemiterator", "odict_iterator", "itertools.zip_longest", "itertools.pairwise"].contains n = false) (hQ : Q () s) : wpAny M A (letOwnedTupleGo tg (.ref it) u) Q E s := by
  unfold letOwnedTupleGo
  cases tg <;> first
    | exact wpAny_pure hQ
    | (cases u <;> first
        | exact wpAny_pure hQ
        | (refine wpAny_bind (wpAny_load ho ?_)
           rw [hc, hd]
           show wpAny M A (if (["enumerate", "zip", "dict_itemiterator", "dict_reverseitemiterator", "odict_iterator", "itertools.zip_longest", "itertools.pairwise"].contains n && vs[0]? == some (rawInt _)) = true then _ else _) Q E s
           rw [if_neg (by intro h; rw [hn, Bool.false_and] at h; cases h)]
           exact wpAny_pure hQ))

/-- the list at a, as it stands at each turn (a loop may append to it) -/
def Itl (K : PySem.W.Frag) (a : Addr) : It :=
  ⟨fun i H => ∃ xs x, SqL K H a xs ∧ xs[i]? = some x, fun i H x H' => H' = H ∧ ∀ xs, SqL K H a xs → xs[i]? = some x, fun i H => ∃ xs, SqL K H a xs ∧ xs.length ≤ i⟩
def Itt (K : PySem.W.Frag) (a : Addr) : It :=
  ⟨fun i H => ∃ xs x, SqT K H a xs ∧ xs[i]? = some x, fun i H x H' => H' = H ∧ ∀ xs, SqT K H a xs → xs[i]? = some x, fun i H => ∃ xs, SqT K H a xs ∧ xs.length ≤ i⟩
/-- lo, lo + 1, .. (n of them) -/
def Itr (lo : Int) (n : Nat) : It := ⟨fun i _ => i < n, fun i H x H' => H' = H ∧ x = .int (lo + i), fun i _ => n ≤ i⟩
theorem turn_list {P : Program} {w : World} {K : PySem.W.Frag} {tg : Expr} (a it : Addr) : Turn P w K tg (Itl K a) [it] it (fun i h => h.IsListIter it a i) where
  mem := by simp
  obj := fun i h st b hb => by
    have e : b = it := by simpa using hb
    subst e
    obtain ⟨o, e, c, d⟩ := st
    exact ⟨o, e, fun v z => by rw [d] at z; cases z⟩
  keep := fun i h h' st k => st.at fun o e => k it (by simp) o e
  item := by
    intro X hP hw hK hc i pins s σ H E I hf st hg
    subst hP hw hK
    obtain ⟨xs, x, hq, hx⟩ := hg
    obtain ⟨its, rv, p, hz⟩ := I.list hq
    obtain ⟨u, hu, ru⟩ := rv.get hx
    obtain ⟨f0, f1, f2, f3, f4, f5⟩ := hf it (by simp)
    refine wpAny_pyNext_list_item st p.isList (x := u) (by simpa using hu) fun h' st' sb => ?_
    have I1 : Inv X pins σ H { s with heap := h' } := I.turned (t' := s.toks) (fun b o hb e => (sb.2 b hb).trans e) f0 f1 f3 f4 f5
    obtain ⟨o, e, c, d⟩ := id st'
    exact ⟨u, rfl, go_of (s := { s with heap := h' }) e c d (by decide) ⟨x, H, I1, ru, ⟨rfl, fun ys hy => by rw [I.list_inj hy hq]; exact hx⟩, st', fun b hb => (hf b hb).1⟩⟩
  done := by
    intro X hP hw hK hc i pins s σ H E I hf st hg
    subst hP hw hK
    obtain ⟨xs, hq, hx⟩ := hg
    obtain ⟨its, rv, p, hz⟩ := I.list hq
    obtain ⟨f0, f1, f2, f3, f4, f5⟩ := hf it (by simp)
    have hl := rv.length
    exact wpAny_pyNext_list_end (I.ok.hd hc) st p.isList (by simp; omega) fun h' eb => ⟨rfl, I.turned (t' := s.toks) (fun b o hb e => eb b o hb e) f0 f1 f3 f4 f5⟩
  self := fun _ _ _ _ _ st h => wpAny_pyIter_listiter st h
theorem turn_tuple {P : Program} {w : World} {K : PySem.W.Frag} {tg : Expr} (a it : Addr) : Turn P w K tg (Itt K a) [it] it (fun i h => h.IsTupleIter it a i) where
  mem := by simp
  obj := fun i h st b hb => by
    have e : b = it := by simpa using hb
    subst e
    obtain ⟨o, e, c, d⟩ := st
    exact ⟨o, e, fun v z => by rw [d] at z; cases z⟩
  keep := fun i h h' st k => st.at fun o e => k it (by simp) o e
  item := by
    intro X hP hw hK hc i pins s σ H E I hf st hg
    subst hP hw hK
    obtain ⟨xs, x, hq, hx⟩ := hg
    obtain ⟨its, rv, p, hz⟩ := I.tuple hq
    obtain ⟨u, hu, ru⟩ := rv.get hx
    obtain ⟨f0, f1, f2, f3, f4, f5⟩ := hf it (by simp)
    refine wpAny_pyNext_tuple_item st (show s.heap.IsTuple a its.toArray from p) (x := u) (by simpa using hu) fun h' st' sb => ?_
    have I1 : Inv X pins σ H { s with heap := h' } := I.turned (t' := s.toks) (fun b o hb e => (sb.2 b hb).trans e) f0 f1 f3 f4 f5
    obtain ⟨o, e, c, d⟩ := id st'
    exact ⟨u, rfl, go_of (s := { s with heap := h' }) e c d (by decide) ⟨x, H, I1, ru, ⟨rfl, fun ys hy => by rw [I.tuple_inj hy hq]; exact hx⟩, st', fun b hb => (hf b hb).1⟩⟩
  done := by
    intro X hP hw hK hc i pins s σ H E I hf st hg
    subst hP hw hK
    obtain ⟨xs, hq, hx⟩ := hg
    obtain ⟨its, rv, p, hz⟩ := I.tuple hq
    obtain ⟨f0, f1, f2, f3, f4, f5⟩ := hf it (by simp)
    have hl := rv.length
    exact wpAny_pyNext_tuple_end (I.ok.hd hc) st (show s.heap.IsTuple a its.toArray from p) (by simp; omega) fun h' eb => ⟨rfl, I.turned (t' := s.toks) (fun b o hb e => eb b o hb e) f0 f1 f3 f4 f5⟩
  self := fun _ _ _ _ _ st h => wpAny_pyIter_tupleiter st h
theorem turn_range {P : Program} {w : World} {K : PySem.W.Frag} {tg : Expr} (it : Addr) (lo : Int) (n : Nat) : Turn P w K tg (Itr lo n) [it] it (fun i h => IsRangeIter h it (lo + (i : Nat) * 1) ((n : Int) - (i : Nat)) 1) where
  mem := by simp
  obj := fun i h st b hb => by
    have e : b = it := by simpa using hb
    subst e
    exact ⟨_, st, fun v z => by
      have z' : Data.fields _ = Data.cell v := z
      cases z'⟩
  keep := fun i h h' st k => k it (by simp) _ st
  item := by
    intro X hP hw hK hc i pins s σ H E I hf st hg
    subst hP hw hK
    obtain ⟨f0, f1, f2, f3, f4, f5⟩ := hf it (by simp)
    have W := Walks.range (prog := X.prog) (w := X.w) (I.ok.hd hc) it lo 1 n
    refine W.item i s _ _ hg st fun v h' tk hv st' kk => ?_
    obtain ⟨t, rfl⟩ := hv
    have I1 : Inv X pins σ H { s with heap := h', toks := tk } := I.turned (fun b o hb e => kk b o (by simpa using hb) e) f0 f1 f3 f4 f5
    refine ⟨_, rfl, go_of (s := { s with heap := h', toks := tk }) (n := "range_iterator") st' rfl rfl (by decide) ⟨.int (lo + i), H, I1, ⟨t, ?_⟩, ⟨rfl, rfl⟩, st', fun b hb => (hf b hb).1⟩⟩
    rw [Int.mul_one]
  done := by
    intro X hP hw hK hc i pins s σ H E I hf st hg
    subst hP hw hK
    obtain ⟨f0, f1, f2, f3, f4, f5⟩ := hf it (by simp)
    exact wpAny_pyNext_range_end (I.ok.hd hc) st (by have : n ≤ i := hg; omega) fun h' eb => ⟨rfl, I.turned (t' := s.toks) (fun b o hb e => eb b o hb e) f0 f1 f3 f4 f5⟩
  self := fun _ _ _ _ _ st h => wpAny_pyIter_rangeiter st h
end L2

namespace L2
open PySem PySem.Spec PyProof.Rows
section
variable {X : Cx} {tg : Expr}
def iList (K : PySem.W.Frag) (tl : TE) : TI := fun σ H R => tl σ H fun x H1 => ∃ a, x = .ref a ∧ (∃ xs, SqL K H1 a xs) ∧ R (Itl K a) H1
def iTup (K : PySem.W.Frag) (tl : TE) : TI := fun σ H R => tl σ H fun x H1 => ∃ a, x = .ref a ∧ (∃ xs, SqT K H1 a xs) ∧ R (Itt K a) H1
theorem pi_list {l : Expr} {tl : TE} (hl : PE X l tl) : PI X tg l (iList X.K tl) := by
  intro pins s σ H R I h
  refine thn (hl pins s σ H _ I h) fun v s1 ⟨x, H1, I1, r1, q1⟩ => ?_
  obtain ⟨a, e, ⟨xs, hq⟩, q⟩ := q1
  subst e
  cases r1
  obtain ⟨its, rv, p, hz⟩ := I1.list hq
  refine wpAny_pyIter_list p.isList ?_
  refine ⟨s1.heap.objs.size, [s1.heap.objs.size], _, _, H1, rfl, I1.kept (t' := s1.toks) fun b o e => Heap.get?_push_of_some _ e, turn_list a _, ⟨_, Heap.get?_push_size _ rfl, rfl, rfl⟩, fun b hb => ?_, q⟩
  have e : b = s1.heap.objs.size := by simpa using hb
  subst e
  exact I1.fpOk (Nat.le_refl _) (I1.hok.fresh (Nat.le_refl _))
theorem pi_tup {l : Expr} {tl : TE} (hl : PE X l tl) : PI X tg l (iTup X.K tl) := by
  intro pins s σ H R I h
  refine thn (hl pins s σ H _ I h) fun v s1 ⟨x, H1, I1, r1, q1⟩ => ?_
  obtain ⟨a, e, ⟨xs, hq⟩, q⟩ := q1
  subst e
  cases r1
  obtain ⟨its, rv, p, hz⟩ := I1.tuple hq
  refine wpAny_pyIter_tuple (show s1.heap.IsTuple a its.toArray from p) ?_
  refine ⟨s1.heap.objs.size, [s1.heap.objs.size], _, _, H1, rfl, I1.kept (t' := s1.toks) fun b o e => Heap.get?_push_of_some _ e, turn_tuple a _, ⟨_, Heap.get?_push_size _ rfl, rfl, rfl⟩, fun b hb => ?_, q⟩
  have e : b = s1.heap.objs.size := by simpa using hb
  subst e
  exact I1.fpOk (Nat.le_refl _) (I1.hok.fresh (Nat.le_refl _))
/-- a range object just made, walked -/
theorem range_it {pins : List (Addr × Obj)} {σ : St} {H : Hp} {s : Shared} {R : It → Hp → Prop} {E : Value → Shared → Prop} {lo hi : Int} {t u v : Tok} {tk : Nat} (I : Inv X pins σ H s) (h1 : -(2 ^ 62) ≤ lo) (h2 : lo < 2 ^ 62) (h3 : -(2 ^ 62) ≤ hi) (h4 : hi < 2 ^ 62)
    (q : R (Itr lo (hi - lo).toNat) H) : wpAny (model X.prog X.w) X.A (pyIter (.ref s.heap.objs.size)) (PIE X pins σ tg R) E { s with heap := s.heap.push { cls := .type "range", data := .fields #[.int lo t, .int hi u, .int 1 v] }, toks := tk } := by
  refine wpAny_pyIter_range (IsRange.new ..) (small_one h1 h2 h3 h4) ?_
  have I1 : Inv X pins σ H { s with heap := s.heap.push { cls := .type "range", data := .fields #[.int lo t, .int hi u, .int 1 v] }, toks := tk } := I.kept fun b o e => Heap.get?_push_of_some _ e
  refine ⟨(s.heap.push { cls := .type "range", data := .fields #[.int lo t, .int hi u, .int 1 v] }).objs.size, [(s.heap.push { cls := .type "range", data := .fields #[.int lo t, .int hi u, .int 1 v] }).objs.size], _, _, H, rfl,
    I1.kept (t' := tk) fun b o e => Heap.get?_push_of_some _ e, turn_range _ lo (hi - lo).toNat, ?_, fun b hb => ?_, q⟩
  · have e1 : lo + ((0 : Nat) : Int) * 1 = lo := by simp
    have e2 : (((hi - lo).toNat : Nat) : Int) - ((0 : Nat) : Int) = Builtin.Range.rangeSize lo hi 1 := by rw [rangeSize_one]; split <;> omega
    show IsRangeIter _ _ (lo + ((0 : Nat) : Int) * 1) ((((hi - lo).toNat : Nat) : Int) - ((0 : Nat) : Int)) 1
    rw [e1, e2]
    exact Heap.get?_push_size _ rfl
  · have e : b = (s.heap.push { cls := .type "range", data := .fields #[.int lo t, .int hi u, .int 1 v] }).objs.size := by simpa using hb
    subst e
    exact I1.fpOk (Nat.le_refl _) (I1.hok.fresh (Nat.le_refl _))
def iRng1 (ta : TA) : TI := fun σ H R => ta σ H fun vs H1 => ∃ j : Int, vs = [.int j] ∧ -(2 ^ 62) ≤ j ∧ j < 2 ^ 62 ∧ R (Itr 0 j.toNat) H1
theorem pi_range1 {a : Expr} {ta : TA} {p pos : Pos} (hg : Gl X "range") (hm : X.mg "range" = none) (ha : PA X [a] ta) (hs : starEach [a] X.env = [(false, eval a X.env)] := by rfl) : PI X tg (.Call (.Name "range" p) [a] [] pos) (iRng1 ta) := by
  intro pins s σ H R I h
  refine Call_ (ld_blt I hg hm boot_range (PyProof.Rows.callWith_type1 (thn (ha pos pins s σ H _ I h) fun us s1 ⟨vs, H1, I1, r1, q1⟩ => ?_) hs rfl))
  obtain ⟨j, e, q1, q2, q⟩ := q1
  subst e
  cases r1 with
  | cons r rr =>
    cases rr
    obtain ⟨t, rfl⟩ := r
    exact call_range_1 (range_it I1 (by omega) (by omega) q1 q2 (by simpa using q))
/-- W: the invariant by the turn and a measure; N: what the body is to reach -/
def tFor (wi : TI) (g : TG) (tb : TS) : TS := fun D σ H => wi σ H fun J H1 => ∃ W : Nat → Nat → St → Hp → Prop, (∃ m, W 0 m σ H1) ∧ ∀ i m σ H, W i m σ H →
  (J.stop i H ∧ D.nx σ H) ∨ (J.go i H ∧ ∃ N : St → Hp → Prop, (∀ σ' H', N σ' H' → ∃ m', m' < m ∧ W (i + 1) m' σ' H') ∧ ∀ x H', J.yld i H x H' → g x σ H' fun σ2 H2 => tb { D with nx := N, ct := N, bk := D.nx } σ2 H2)
/-- the records at fp as they stand -/
def pinsAt (fp : List Addr) (h : Heap) : List (Addr × Obj) := fp.filterMap fun b => (h.get? b).map fun o => (b, o)
theorem mem_pinsAt {fp : List Addr} {h : Heap} {b : Addr} {o : Obj} (hb : b ∈ fp) (e : h.get? b = some o) : (b, o) ∈ pinsAt fp h := List.mem_filterMap.mpr ⟨b, hb, by rw [e]; rfl⟩
theorem of_pinsAt {fp : List Addr} {h : Heap} {p : Addr × Obj} (hp : p ∈ pinsAt fp h) : p.1 ∈ fp ∧ h.get? p.1 = some p.2 := by
  obtain ⟨b, hb, e⟩ := List.mem_filterMap.mp hp
  cases q : h.get? b with
  | none => rw [q] at e; cases e
  | some o =>
    rw [q] at e
    have e' : (b, o) = p := Option.some.inj e
    subst e'
    exact ⟨hb, q⟩
theorem Inv.pinned {pins : List (Addr × Obj)} {σ : St} {H : Hp} {s : Shared} {fp : List Addr} (I : Inv X pins σ H s) (hf : ∀ b ∈ fp, FpOk X pins H b) (ho : ∀ b ∈ fp, ∃ o, s.heap.get? b = some o ∧ ∀ v, o.data ≠ .cell v) : Inv X (pins ++ pinsAt fp s.heap) σ H s :=
  I.pins_of fun p hp => (List.mem_append.mp hp).elim (fun z => I.pin p (List.mem_append_right _ z)) fun z => by
    obtain ⟨hb, e⟩ := of_pinsAt z
    obtain ⟨f0, f1, f2, _⟩ := hf p.1 hb
    obtain ⟨o, e', d⟩ := ho p.1 hb
    rw [e] at e'; cases e'
    exact ⟨e, f0, f1, f2, d⟩
theorem Inv.unpinned {pins pl : List (Addr × Obj)} {σ : St} {H : Hp} {s : Shared} (I : Inv X (pins ++ pl) σ H s) : Inv X pins σ H s := I.pins_of fun p hp => I.pin p (List.mem_append_right _ (List.mem_append_left _ hp))
theorem ps_for {iter : Expr} {body : List Stmt} {wi : TI} {g : TG} {tb : TS} {pos : Pos} (hp : PassesOwn (model X.prog X.w) X.A X.env X.xe) (hc : X.calm = true) (hi : PI X tg iter wi) (hg : PG X tg g) (hb : PSs X body tb)
    (hs : ∀ x, foldedSetIterable iter X.env x = pure x := by intro _; rfl) : PS X (.For tg iter body [] pos) (tFor wi g tb) := by
  intro pins s σ H D I h
  refine wpAny_For (thn (hi pins s σ H _ I h) fun v s1 h1 => thn h1 fun itv s2 h2 => ?_) hs
  obtain ⟨it, fp, tn, J, H2, e, I2, T, st2, f2, W, ⟨m0, w0⟩, turn⟩ := h2
  subst e
  -- what stays true of the iterator's objects through the loop
  have stat : ∀ {H' : Hp}, (∀ b ∈ fp, H' b = none) → ∀ b ∈ fp, FpOk X pins H' b := fun hn b hb => ⟨hn b hb, (f2 b hb).2⟩
  refine codeAny_forLoop_any (fun n s' => ∃ i σ' H', Inv X pins σ' H' s' ∧ tn i s'.heap ∧ (∀ b ∈ fp, H' b = none) ∧ W i n σ' H') ?_ m0 ⟨0, σ, H2, I2, st2, fun b hb => (f2 b hb).1, w0⟩
  rintro n s3 ⟨i, σ3, H3, I3, st3, fr3, w3⟩
  rcases turn i n σ3 H3 w3 with ⟨stop, qn⟩ | ⟨go, N, hN, step⟩
  · refine wpAny_passesOwn hp (thn (T.done X rfl rfl rfl hc i pins s3 σ3 H3 X.xe I3 (stat fr3) st3 stop) fun r s4 ⟨hr, I4⟩ => ?_)
    subst hr
    exact wpAny_execs_nil ⟨σ3, H3, I4, qn⟩
  · refine wpAny_passesOwn hp (thn (T.item X rfl rfl rfl hc i pins s3 σ3 H3 X.xe I3 (stat fr3) st3 go) fun r s4 ⟨u, hr, h4⟩ => ?_)
    subst hr
    refine wpAny_passesOwn hp (thn h4 fun _ s5 ⟨x, H5, I5, r5, y5, st5, fr5⟩ => ?_)
    have I5' := I5.pinned (stat fr5) (T.obj _ _ st5)
    refine wpAny_passesOwn hp (thn (hg _ s5 σ3 H5 x u _ I5' r5 (step x H5 y5)) fun _ s6 ⟨σ6, H6, I6, q6⟩ => ?_)
    refine wpAny_passesOwn hp (thn (hb _ s6 σ6 H6 _ I6 q6) fun f s7 q7 => ?_)
    have again : ∀ {σ7 : St} {H7 : Hp}, Inv X (pins ++ pinsAt fp s5.heap) σ7 H7 s7 → N σ7 H7 → ∃ m, m < n ∧ ∃ i σ' H', Inv X pins σ' H' s7 ∧ tn i s7.heap ∧ (∀ b ∈ fp, H' b = none) ∧ W i m σ' H' := fun {σ7 H7} I7 n7 => by
      obtain ⟨m', hm, w7⟩ := hN σ7 H7 n7
      refine ⟨m', hm, i + 1, σ7, H7, I7.unpinned, T.keep _ _ _ st5 fun b hb o e => (I7.pin (b, o) (List.mem_append_right _ (List.mem_append_right _ (mem_pinsAt hb e)))).1, fun b hb => ?_, w7⟩
      obtain ⟨o, e, d⟩ := T.obj _ _ st5 b hb
      exact (I7.pin (b, o) (List.mem_append_right _ (List.mem_append_right _ (mem_pinsAt hb e)))).2.1
    cases f with
    | next => obtain ⟨σ7, H7, I7, n7⟩ := q7; exact again I7 n7
    | cont => obtain ⟨σ7, H7, I7, n7⟩ := q7; exact again I7 n7
    | brk => obtain ⟨σ7, H7, I7, q7⟩ := q7; exact ⟨σ7, H7, I7.unpinned, q7⟩
    | ret v => obtain ⟨x7, σ7, H7, I7, r7, q7⟩ := q7; exact ⟨x7, σ7, H7, I7.unpinned, r7, q7⟩
end

/-- over a list that the body leaves as it is -/
theorem for_list {K : PySem.W.Frag} {a : Addr} {xs : List V} {g : TG} {tb : TS} {D : Ends} {σ : St} {H : Hp} (Pv : Nat → St → Hp → Prop) (h0 : Pv 0 σ H) (hl : ∀ i σ H, i ≤ xs.length → Pv i σ H → SqL K H a xs)
    (hs : ∀ i x σ H, xs[i]? = some x → Pv i σ H → g x σ H fun σ2 H2 => tb { D with nx := Pv (i + 1), ct := Pv (i + 1), bk := D.nx } σ2 H2) (hd : ∀ σ H, Pv xs.length σ H → D.nx σ H) :
    ∃ W : Nat → Nat → St → Hp → Prop, (∃ m, W 0 m σ H) ∧ ∀ i m σ H, W i m σ H →
      ((Itl K a).stop i H ∧ D.nx σ H) ∨ ((Itl K a).go i H ∧ ∃ N : St → Hp → Prop, (∀ σ' H', N σ' H' → ∃ m', m' < m ∧ W (i + 1) m' σ' H') ∧ ∀ x H', (Itl K a).yld i H x H' → g x σ H' fun σ2 H2 => tb { D with nx := N, ct := N, bk := D.nx } σ2 H2) := by
  refine ⟨fun i m σ H => m = xs.length - i ∧ i ≤ xs.length ∧ Pv i σ H, ⟨xs.length, by simp, Nat.zero_le _, h0⟩, ?_⟩
  rintro i m σ H ⟨rfl, hi, p⟩
  have q := hl i σ H hi p
  by_cases hlt : i < xs.length
  · refine .inr ⟨⟨xs, xs[i], q, by simp [hlt]⟩, Pv (i + 1), fun σ' H' p' => ⟨xs.length - (i + 1), by omega, rfl, hlt, p'⟩, fun x H' y => ?_⟩
    obtain ⟨e, y⟩ := y
    subst e
    exact hs i x σ _ (y xs q) p
  · have e : i = xs.length := by omega
    subst e
    exact .inl ⟨⟨xs, q, Nat.le_refl _⟩, hd σ H p⟩
theorem for_tup {K : PySem.W.Frag} {a : Addr} {xs : List V} {g : TG} {tb : TS} {D : Ends} {σ : St} {H : Hp} (Pv : Nat → St → Hp → Prop) (h0 : Pv 0 σ H) (hl : ∀ i σ H, i ≤ xs.length → Pv i σ H → SqT K H a xs)
    (hs : ∀ i x σ H, xs[i]? = some x → Pv i σ H → g x σ H fun σ2 H2 => tb { D with nx := Pv (i + 1), ct := Pv (i + 1), bk := D.nx } σ2 H2) (hd : ∀ σ H, Pv xs.length σ H → D.nx σ H) :
    ∃ W : Nat → Nat → St → Hp → Prop, (∃ m, W 0 m σ H) ∧ ∀ i m σ H, W i m σ H →
      ((Itt K a).stop i H ∧ D.nx σ H) ∨ ((Itt K a).go i H ∧ ∃ N : St → Hp → Prop, (∀ σ' H', N σ' H' → ∃ m', m' < m ∧ W (i + 1) m' σ' H') ∧ ∀ x H', (Itt K a).yld i H x H' → g x σ H' fun σ2 H2 => tb { D with nx := N, ct := N, bk := D.nx } σ2 H2) := by
  refine ⟨fun i m σ H => m = xs.length - i ∧ i ≤ xs.length ∧ Pv i σ H, ⟨xs.length, by simp, Nat.zero_le _, h0⟩, ?_⟩
  rintro i m σ H ⟨rfl, hi, p⟩
  have q := hl i σ H hi p
  by_cases hlt : i < xs.length
  · refine .inr ⟨⟨xs, xs[i], q, by simp [hlt]⟩, Pv (i + 1), fun σ' H' p' => ⟨xs.length - (i + 1), by omega, rfl, hlt, p'⟩, fun x H' y => ?_⟩
    obtain ⟨e, y⟩ := y
    subst e
    exact hs i x σ _ (y xs q) p
  · have e : i = xs.length := by omega
    subst e
    exact .inl ⟨⟨xs, q, Nat.le_refl _⟩, hd σ H p⟩
theorem for_range {lo : Int} {n : Nat} {g : TG} {tb : TS} {D : Ends} {σ : St} {H : Hp} (Pv : Nat → St → Hp → Prop) (h0 : Pv 0 σ H)
    (hs : ∀ i σ H, i < n → Pv i σ H → g (.int (lo + i)) σ H fun σ2 H2 => tb { D with nx := Pv (i + 1), ct := Pv (i + 1), bk := D.nx } σ2 H2) (hd : ∀ σ H, Pv n σ H → D.nx σ H) :
    ∃ W : Nat → Nat → St → Hp → Prop, (∃ m, W 0 m σ H) ∧ ∀ i m σ H, W i m σ H →
      ((Itr lo n).stop i H ∧ D.nx σ H) ∨ ((Itr lo n).go i H ∧ ∃ N : St → Hp → Prop, (∀ σ' H', N σ' H' → ∃ m', m' < m ∧ W (i + 1) m' σ' H') ∧ ∀ x H', (Itr lo n).yld i H x H' → g x σ H' fun σ2 H2 => tb { D with nx := N, ct := N, bk := D.nx } σ2 H2) := by
  refine ⟨fun i m σ H => m = n - i ∧ i ≤ n ∧ Pv i σ H, ⟨n, by simp, Nat.zero_le _, h0⟩, ?_⟩
  rintro i m σ H ⟨rfl, hi, p⟩
  by_cases hlt : i < n
  · refine .inr ⟨hlt, Pv (i + 1), fun σ' H' p' => ⟨n - (i + 1), by omega, rfl, hlt, p'⟩, fun x H' y => ?_⟩
    obtain ⟨e, y⟩ := y
    subst e y
    exact hs i σ _ hlt p
  · have e : i = n := by omega
    subst e
    exact .inl ⟨Nat.le_refl _, hd σ H p⟩
end L2

namespace L2
open PySem PySem.Spec PyProof.Rows

abbrev R2 := V → V → Hp → VK → Prop
/-- a two-place operation on values: f is binaryOp op, inplaceOp op or compareOp op -/
def OpR (X : Cx) (f : Value → Value → Sem Value) (r : R2) : Prop :=
  ∀ (pins : List (Addr × Obj)) (s : Shared) (σ : St) (H : Hp) (x y : V) (v u : Value) (Q : VK), Inv X pins σ H s → RelV x v → RelV y u → r x y H Q →
    wpAny (model X.prog X.w) X.A (f v u) (EP X pins σ Q) X.xe s
/-- a one-place operation -/
def UnR (X : Cx) (f : Value → Sem Value) (r : V → Hp → VK → Prop) : Prop :=
  ∀ (pins : List (Addr × Obj)) (s : Shared) (σ : St) (H : Hp) (x : V) (v : Value) (Q : VK), Inv X pins σ H s → RelV x v → r x H Q →
    wpAny (model X.prog X.w) X.A (f v) (EP X pins σ Q) X.xe s
/-- a call of a value that is known (a builtin, a type) with values -/
def CallR (X : Cx) (f : Value) (r : List V → Hp → VK → Prop) : Prop :=
  ∀ (pins : List (Addr × Obj)) (s : Shared) (σ : St) (H : Hp) (xs : List V) (us : List Value) (Q : VK), Inv X pins σ H s → Vals xs us → r xs H Q →
    wpAny (model X.prog X.w) X.A (call f us) (EP X pins σ Q) X.xe s
def tOp (r : R2) (ta tb : TE) : TE := fun σ H Q => ta σ H fun x H1 => tb σ H1 fun y H2 => r x y H2 Q
def tUn (r : V → Hp → VK → Prop) (ta : TE) : TE := fun σ H Q => ta σ H fun x H1 => r x H1 Q
/-- ints in, under C, and a value out -/
def rI (C : Int → Int → Prop) (g : Int → Int → V) : R2 := fun x y H Q => ∃ i j, x = .int i ∧ y = .int j ∧ C i j ∧ Q (g i j) H
def rI0 (g : Int → Int → V) : R2 := fun x y H Q => ∃ i j, x = .int i ∧ y = .int j ∧ Q (g i j) H
def rU (g : Int → V) : V → Hp → VK → Prop := fun x H Q => ∃ i, x = .int i ∧ Q (g i) H

section
variable {X : Cx} {a b c : Expr} {ta tb tc : TE} {pos : Pos}

theorem binT (ha : PE X a ta) (hb : PE X b tb) {pins : List (Addr × Obj)} {s : Shared} {σ : St} {H : Hp} {R : V → V → Hp → Prop} (I : Inv X pins σ H s)
    (h : ta σ H fun x H1 => tb σ H1 fun y H2 => R x y H2) {Q : Value → Shared → Prop} {f : Value → Value → Sem Value}
    (hf : ∀ v u s2 x y H2, Inv X pins σ H2 s2 → RelV x v → RelV y u → R x y H2 → wpAny (model X.prog X.w) X.A (f v u) Q X.xe s2) :
    wpAny (model X.prog X.w) X.A (eval a X.env) (fun v s₁ => wpAny (model X.prog X.w) X.A (eval b X.env) (fun u s₂ => wpAny (model X.prog X.w) X.A (f v u) Q X.xe s₂) X.xe s₁) X.xe s := by
  refine thn (ha pins s σ H _ I h) fun v s1 ⟨x, H1, I1, r1, q1⟩ => ?_
  refine thn (hb pins s1 σ H1 _ I1 q1) fun u s2 ⟨y, H2, I2, r2, q2⟩ => ?_
  exact hf v u s2 x y H2 I2 r1 r2 q2

theorem pe_op {op : Operator} {r : R2} (ho : OpR X (binaryOp op) r) (ha : PE X a ta) (hb : PE X b tb) : PE X (.BinOp a op b pos) (tOp r ta tb) := by
  intro pins s σ H Q I h
  exact wpAny_BinOp (binT ha hb I h fun v u s2 x y H2 I2 rx ry q => ho pins s2 σ H2 x y v u Q I2 rx ry q)
theorem pe_un {op : UnaryOp} {r : V → Hp → VK → Prop} (ho : UnR X (unaryOp op) r) (ha : PE X a ta) : PE X (.UnaryOp op a pos) (tUn r ta) := by
  intro pins s σ H Q I h
  exact UnaryOp_ (thn (ha pins s σ H _ I h) fun v s1 ⟨x, H1, I1, r1, q1⟩ => ho pins s1 σ H1 x v Q I1 r1 q1)
theorem opI {f : Value → Value → Sem Value} {C : Int → Int → Prop} {g : Int → Int → Int}
    (rule : ∀ (i j : Int) (t u : Tok) (s : Shared) (Q : Value → Shared → Prop) (E : Value → Shared → Prop), C i j → Q (.int (g i j) s.toks) { s with toks := s.toks + 1 } → wpAny (model X.prog X.w) X.A (f (.int i t) (.int j u)) Q E s) :
    OpR X f (rI C fun i j => .int (g i j)) := by
  intro pins s σ H x y v u Q I rx ry h
  obtain ⟨i, j, rfl, rfl, hc, q⟩ := h
  obtain ⟨t, rfl⟩ := rx
  obtain ⟨t', rfl⟩ := ry
  exact rule i j t t' s _ _ hc ⟨.int (g i j), H, I.tok _, ⟨_, rfl⟩, q⟩
theorem opI0 {f : Value → Value → Sem Value} {g : Int → Int → Int}
    (rule : ∀ (i j : Int) (t u : Tok) (s : Shared) (Q : Value → Shared → Prop) (E : Value → Shared → Prop), Q (.int (g i j) s.toks) { s with toks := s.toks + 1 } → wpAny (model X.prog X.w) X.A (f (.int i t) (.int j u)) Q E s) :
    OpR X f (rI0 fun i j => .int (g i j)) := by
  intro pins s σ H x y v u Q I rx ry h
  obtain ⟨i, j, rfl, rfl, q⟩ := h
  obtain ⟨t, rfl⟩ := rx
  obtain ⟨t', rfl⟩ := ry
  exact rule i j t t' s _ _ ⟨.int (g i j), H, I.tok _, ⟨_, rfl⟩, q⟩
theorem opB0 {f : Value → Value → Sem Value} {g : Int → Int → Bool}
    (rule : ∀ (i j : Int) (t u : Tok) (s : Shared) (Q : Value → Shared → Prop) (E : Value → Shared → Prop), Q (.bool (g i j)) s → wpAny (model X.prog X.w) X.A (f (.int i t) (.int j u)) Q E s) :
    OpR X f (rI0 fun i j => .bl (g i j)) := by
  intro pins s σ H x y v u Q I rx ry h
  obtain ⟨i, j, rfl, rfl, q⟩ := h
  obtain ⟨t, rfl⟩ := rx
  obtain ⟨t', rfl⟩ := ry
  exact rule i j t t' s _ _ ⟨.bl (g i j), H, I, rfl, q⟩

def CDiv (i j : Int) : Prop := 0 < j ∧ j < 1073741824
def CPow (i j : Int) : Prop := 0 ≤ j ∧ j ≤ 1000000 ∧ i.natAbs < 2 ^ 64
def CMul (i j : Int) : Prop := (-(2 ^ 64) < i ∧ i < 2 ^ 64) ∨ (-(2 ^ 64) < j ∧ j < 2 ^ 64)
theorem CMul.ok {i j : Int} (h : CMul i j) : IntMulOk i j := by
  rcases h with ⟨h1, h2⟩ | ⟨h1, h2⟩
  · exact .of_left (intBits_le_64 h1 h2)
  · exact .of_right (intBits_le_64 h1 h2)
theorem op_add : OpR X (binaryOp .Add) (rI0 fun i j => .int (i + j)) := opI0 fun _ _ _ _ _ _ _ q => add_int q
theorem op_sub : OpR X (binaryOp .Sub) (rI0 fun i j => .int (i - j)) := opI0 fun _ _ _ _ _ _ _ q => sub_int q
theorem op_mul : OpR X (binaryOp .Mult) (rI CMul fun i j => .int (i * j)) := opI fun _ _ _ _ _ _ _ hc q => mul_int q hc.ok
/-- // by a positive divisor -/
theorem op_fdiv : OpR X (binaryOp .FloorDiv) (rI CDiv fun i j => .int (i / j)) := opI fun i j _ _ _ _ _ hc q => by
  have h1 : (0 : Int) < j := hc.1
  have h2 : j < 1073741824 := hc.2
  exact floordiv_int (by omega) (by rw [Int.fdiv_eq_ediv_of_nonneg i (by omega)]; exact q) (.inl (PyProof.noPylong_small (by omega)))
/-- % by a positive divisor of any size -/
theorem op_mod : OpR X (binaryOp .Mod) (rI (fun _ j => 0 < j) fun i j => .int (i % j)) := opI fun i j _ _ _ _ _ hc q => by
  have h1 : (0 : Int) < j := hc
  exact mod_int' (by omega) (by rw [Int.fmod_eq_emod_of_nonneg i (by omega)]; exact q)
theorem op_pow : OpR X (binaryOp .Pow) (rI CPow fun i j => .int (i ^ j.toNat)) := opI fun _ _ _ _ _ _ _ hc q => pow_int_small hc.1 hc.2.1 hc.2.2 q
theorem unI {f : Value → Sem Value} {g : Int → Int}
    (rule : ∀ (i : Int) (t : Tok) (s : Shared) (Q : Value → Shared → Prop) (E : Value → Shared → Prop), Q (.int (g i) s.toks) { s with toks := s.toks + 1 } → wpAny (model X.prog X.w) X.A (f (.int i t)) Q E s) :
    UnR X f (rU fun i => .int (g i)) := by
  intro pins s σ H x v Q I rx h
  obtain ⟨i, rfl, q⟩ := h
  obtain ⟨t, rfl⟩ := rx
  exact rule i t s _ _ ⟨.int (g i), H, I.tok _, ⟨_, rfl⟩, q⟩
theorem un_neg : UnR X (unaryOp .USub) (rU fun i => .int (-i)) := unI fun _ _ _ _ _ q => neg_int q
end

/-- the scalars that == tells apart as data does -/
def scal : V → V → Bool
  | .non, .non => true | .non, .int _ => true | .int _, .non => true | .non, .bl _ => true | .bl _, .non => true | .non, .str _ => true | .str _, .non => true
  | .int _, .int _ => true | .bl _, .bl _ => true | .str _, .str _ => true | .byt _, .byt _ => true
  | .int _, .str _ => true | .str _, .int _ => true | .bl _, .str _ => true | .str _, .bl _ => true
  | _, _ => false
def rEq : R2 := fun x y H Q => scal x y = true ∧ Q (.bl (decide (x = y))) H
def rNe : R2 := fun x y H Q => scal x y = true ∧ Q (.bl (!decide (x = y))) H

theorem dec_int {i j : Int} : decide (V.int i = V.int j) = (i == j) := by
  rw [Bool.eq_iff_iff]
  simp
theorem dec_bl {i j : Bool} : decide (V.bl i = V.bl j) = (i == j) := by
  rw [Bool.eq_iff_iff]
  simp
theorem dec_str {i j : Str} : decide (V.str i = V.str j) = (i == j) := by
  rw [Bool.eq_iff_iff]
  simp
theorem dec_byt {i j : Array UInt8} : decide (V.byt i = V.byt j) = (i.toList == j.toList) := by
  rw [Bool.eq_iff_iff]
  cases i
  cases j
  simp

section
variable {X : Cx} {a b c : Expr} {ta tb tc : TE} {pos : Pos}
theorem fin_bl {pins : List (Addr × Obj)} {σ : St} {H : Hp} {s : Shared} {Q : VK} {k k' : Bool} (I : Inv X pins σ H s) (q : Q (.bl k) H) (e : k = k') : EP X pins σ Q (.bool k') s := by
  subst e
  exact ⟨.bl k, H, I, rfl, q⟩
theorem op_eq : OpR X (compareOp .Eq) rEq := by
  intro pins s σ H x y v u Q I rx ry h
  obtain ⟨hs, q⟩ := h
  cases x with
  | non =>
    cases rx
    cases y with
    | non => cases ry; exact PySem.EqNone.eq_none_none (fin_bl I q (by simp))
    | bl j => cases ry; exact PySem.EqNone.eq_none_bool (fin_bl I q (by simp))
    | int j => obtain ⟨t', rfl⟩ := ry; exact PySem.EqNone.eq_none_int (fin_bl I q (by simp))
    | str j => obtain ⟨t', rfl⟩ := ry; exact PySem.EqNone.eq_none_str (fin_bl I q (by simp))
    | _ => exact absurd (show false = true from hs) Bool.false_ne_true
  | bl i =>
    cases rx
    cases y with
    | non => cases ry; exact PySem.EqNone.eq_bool_none (fin_bl I q (by simp))
    | bl j => cases ry; exact eq_bool (fin_bl I q dec_bl)
    | str j => obtain ⟨t', rfl⟩ := ry; exact PySem.EqMixed.eq_bool_str (fin_bl I q (by simp))
    | _ => exact absurd (show false = true from hs) Bool.false_ne_true
  | int i =>
    obtain ⟨t, rfl⟩ := rx
    cases y with
    | non => cases ry; exact PySem.EqNone.eq_int_none (fin_bl I q (by simp))
    | int j => obtain ⟨t', rfl⟩ := ry; exact eq_int (fin_bl I q dec_int)
    | str j => obtain ⟨t', rfl⟩ := ry; exact PySem.EqMixed.eq_int_str (fin_bl I q (by simp))
    | _ => exact absurd (show false = true from hs) Bool.false_ne_true
  | str i =>
    obtain ⟨t, rfl⟩ := rx
    cases y with
    | non => cases ry; exact PySem.EqNone.eq_str_none (fin_bl I q (by simp))
    | bl j => cases ry; exact PySem.EqMixed.eq_str_bool (fin_bl I q (by simp))
    | int j => obtain ⟨t', rfl⟩ := ry; exact PySem.EqMixed.eq_str_int (fin_bl I q (by simp))
    | str j => obtain ⟨t', rfl⟩ := ry; exact eq_str (fin_bl I q dec_str)
    | _ => exact absurd (show false = true from hs) Bool.false_ne_true
  | byt i =>
    obtain ⟨t, rfl⟩ := rx
    cases y with
    | byt j => obtain ⟨t', rfl⟩ := ry; exact PySem.W.eq_bytes (fin_bl I q dec_byt)
    | _ => exact absurd (show false = true from hs) Bool.false_ne_true
  | _ => cases y <;> exact absurd (show false = true from hs) Bool.false_ne_true
theorem op_ne : OpR X (compareOp .NotEq) rNe := by
  intro pins s σ H x y v u Q I rx ry h
  obtain ⟨hs, q⟩ := h
  cases x with
  | non =>
    cases rx
    cases y with
    | non => cases ry; exact PySem.EqNone.ne_none_none (fin_bl I q (by simp))
    | bl j => cases ry; exact PySem.EqNone.ne_none_bool (fin_bl I q (by simp))
    | int j => obtain ⟨t', rfl⟩ := ry; exact PySem.EqNone.ne_none_int (fin_bl I q (by simp))
    | str j => obtain ⟨t', rfl⟩ := ry; exact PySem.EqNone.ne_none_str (fin_bl I q (by simp))
    | _ => exact absurd (show false = true from hs) Bool.false_ne_true
  | bl i =>
    cases rx
    cases y with
    | non => cases ry; exact PySem.EqNone.ne_bool_none (fin_bl I q (by simp))
    | bl j => cases ry; exact ne_bool (fin_bl I q (congrArg not dec_bl))
    | str j => obtain ⟨t', rfl⟩ := ry; exact PySem.EqMixed.ne_bool_str (fin_bl I q (by simp))
    | _ => exact absurd (show false = true from hs) Bool.false_ne_true
  | int i =>
    obtain ⟨t, rfl⟩ := rx
    cases y with
    | non => cases ry; exact PySem.EqNone.ne_int_none (fin_bl I q (by simp))
    | int j => obtain ⟨t', rfl⟩ := ry; exact ne_int (fin_bl I q (congrArg not dec_int))
    | str j => obtain ⟨t', rfl⟩ := ry; exact PySem.EqMixed.ne_int_str (fin_bl I q (by simp))
    | _ => exact absurd (show false = true from hs) Bool.false_ne_true
  | str i =>
    obtain ⟨t, rfl⟩ := rx
    cases y with
    | non => cases ry; exact PySem.EqNone.ne_str_none (fin_bl I q (by simp))
    | bl j => cases ry; exact PySem.EqMixed.ne_str_bool (fin_bl I q (by simp))
    | int j => obtain ⟨t', rfl⟩ := ry; exact PySem.EqMixed.ne_str_int (fin_bl I q (by simp))
    | str j => obtain ⟨t', rfl⟩ := ry; exact ne_str (fin_bl I q (congrArg not dec_str))
    | _ => exact absurd (show false = true from hs) Bool.false_ne_true
  | byt i =>
    obtain ⟨t, rfl⟩ := rx
    cases y with
    | byt j => obtain ⟨t', rfl⟩ := ry; exact PySem.W.ne_bytes (fin_bl I q (congrArg not dec_byt))
    | _ => exact absurd (show false = true from hs) Bool.false_ne_true
  | _ => cases y <;> exact absurd (show false = true from hs) Bool.false_ne_true

theorem op_lt : OpR X (compareOp .Lt) (rI0 fun i j => .bl (decide (i < j))) := opB0 fun _ _ _ _ _ _ _ q => lt_int q
theorem op_gt : OpR X (compareOp .Gt) (rI0 fun i j => .bl (decide (j < i))) := opB0 fun _ _ _ _ _ _ _ q => gt_int q
/-- the one string within the other -/
theorem op_in_str : OpR X (compareOp .In) (fun x y H Q => ∃ i j, x = .str i ∧ y = .str j ∧ Q (.bl (!(Builtin.Str.occurrences j i 0 j.length 1).isEmpty)) H) := by
  intro pins s σ H x y v u Q I rx ry h
  obtain ⟨i, j, rfl, rfl, q⟩ := h
  obtain ⟨t, rfl⟩ := rx
  obtain ⟨t', rfl⟩ := ry
  exact in_str (fin_bl I q rfl)

/-- is None, is not None: the right side a value none -/
theorem op_isN : OpR X (compareOp .Is) (fun x y H Q => y = .non ∧ Q (.bl (decide (x = .non))) H) := by
  intro pins s σ H x y v u Q I rx ry h
  obtain ⟨rfl, q⟩ := h
  cases ry
  refine is_none_gen (fin_bl I q ?_)
  cases x <;> first
    | (cases rx; rfl)
    | (obtain ⟨t, rfl⟩ := rx; rfl)
theorem op_notN : OpR X (compareOp .IsNot) (fun x y H Q => y = .non ∧ Q (.bl (!decide (x = .non))) H) := by
  intro pins s σ H x y v u Q I rx ry h
  obtain ⟨rfl, q⟩ := h
  cases ry
  refine isnot_none_gen (fin_bl I q ?_)
  cases x <;> first
    | (cases rx; rfl)
    | (obtain ⟨t, rfl⟩ := rx; rfl)

theorem nomark (b : Expr) {op : CmpOp} (h : op ≠ .In := by decide) (h2 : op ≠ .NotIn := by decide) : behindInMarks op b = false := by
  have e1 : (op == CmpOp.In) = false := by cases op <;> first | rfl | exact absurd rfl h
  have e2 : (op == CmpOp.NotIn) = false := by cases op <;> first | rfl | exact absurd rfl h2
  cases b <;> simp [behindInMarks, e1, e2]
/-- a comparison as a value; hm: nomark b, or (for in, not in) by with_unfolding_all rfl -/
theorem pe_cmpR {op : CmpOp} {r : R2} (ho : OpR X (compareOp op) r) (ha : PE X a ta) (hb : PE X b tb) (hm : behindInMarks op b = false) : PE X (.Compare a [op] [b] pos) (tOp r ta tb) := by
  intro pins s σ H Q I h
  exact wpAny_Compare1 (binT ha hb I h fun v u s2 x y H2 I2 rx ry q => ho pins s2 σ H2 x y v u Q I2 rx ry q) hm
/-- a reading of a value as a test -/
def tTest (t : TE) : TT := fun σ H Q => t σ H fun x H' => ∃ k, x = .bl k ∧ Q k H'
theorem pt_cmpR {op : CmpOp} {r : R2} (ho : OpR X (compareOp op) r) (ha : PE X a ta) (hb : PE X b tb) (hm : behindInMarks op b = false) : PT X (.Compare a [op] [b] pos) (tTest (tOp r ta tb)) := by
  intro pins s σ H Q I h
  refine wpAny_isTrue_Compare1 (thn (ha pins s σ H _ I h) fun v s1 ⟨x, H1, I1, r1, q1⟩ => thn (hb pins s1 σ H1 _ I1 q1) fun u s2 ⟨y, H2, I2, r2, q2⟩ =>
    thn (ho pins s2 σ H2 x y v u _ I2 r1 r2 q2) fun c s3 ⟨z, H3, I3, r3, k, e, q3⟩ => ?_) hm
  subst e
  cases r3
  exact wpAny_truthy_bool ⟨H3, I3, q3⟩
/-- a op1 b op2 c -/
def tChain (r r' : R2) (ta tb tc : TE) : TE := fun σ H Q => ta σ H fun x H1 => tb σ H1 fun y H2 => r x y H2 fun z H3 => ∃ k, z = .bl k ∧
  (if k = true then tc σ H3 fun w' H4 => r' y w' H4 Q else Q (.bl false) H3)
theorem pe_chain {op op' : CmpOp} {r r' : R2} (ho : OpR X (compareOp op) r) (ho' : OpR X (compareOp op') r') (ha : PE X a ta) (hb : PE X b tb) (hc : PE X c tc)
    (hm : lastMarks [op, op'] [b, c] = false := by with_unfolding_all rfl) : PE X (.Compare a [op, op'] [b, c] pos) (tChain r r' ta tb tc) := by
  intro pins s σ H Q I h
  refine Compare_chain (thn (ha pins s σ H _ I h) fun v s1 ⟨x, H1, I1, r1, q1⟩ => chain_link (thn (hb pins s1 σ H1 _ I1 q1) fun u s2 ⟨y, H2, I2, r2, q2⟩ =>
    thn (ho pins s2 σ H2 x y v u _ I2 r1 r2 q2) fun d s3 ⟨z, H3, I3, r3, k, e, q3⟩ => ?_)) hm
  subst e
  cases r3
  refine wpAny_truthy_bool ?_
  cases k with
  | false => exact ite_ff ⟨.bl false, H3, I3, rfl, q3⟩
  | true => exact ite_tt (chain_last (thn (hc pins s3 σ H3 _ I3 q3) fun w' s4 ⟨z', H4, I4, r4, q4⟩ => ho' pins s4 σ H4 y z' u w' Q I4 r2 r4 q4))
theorem line63 : (sizeLine : Nat) < 2 ^ 63 := by rw [sizeLine_eq]; decide
theorem op_add_str : OpR X (binaryOp .Add) (fun x y H Q => ∃ i j, x = .str i ∧ y = .str j ∧ i.length + j.length ≤ sizeLine ∧ Q (.str (i ++ j)) H) := by
  intro pins s σ H x y v u Q I rx ry h
  obtain ⟨i, j, rfl, rfl, hz, q⟩ := h
  obtain ⟨t, rfl⟩ := rx
  obtain ⟨t', rfl⟩ := ry
  exact add_str (fun t' tk => ⟨.str (i ++ j), H, I.tok _, ⟨_, rfl⟩, q⟩) hz
theorem iop_add_str : OpR X (inplaceOp .Add) (fun x y H Q => ∃ i j, x = .str i ∧ y = .str j ∧ i.length + j.length ≤ sizeLine ∧ Q (.str (i ++ j)) H) := by
  intro pins s σ H x y v u Q I rx ry h
  obtain ⟨i, j, rfl, rfl, hz, q⟩ := h
  obtain ⟨t, rfl⟩ := rx
  obtain ⟨t', rfl⟩ := ry
  exact iadd_str (fun t' tk => ⟨.str (i ++ j), H, I.tok _, ⟨_, rfl⟩, q⟩) hz
theorem vals1 {x : V} {us : List Value} (r : Vals [x] us) : ∃ u, us = [u] ∧ RelV x u := by
  cases r with
  | cons r1 r2 => cases r2; exact ⟨_, rfl, r1⟩
theorem vals2 {x y : V} {us : List Value} (r : Vals [x, y] us) : ∃ u w', us = [u, w'] ∧ RelV x u ∧ RelV y w' := by
  cases r with
  | cons r1 r2 =>
    cases r2 with
    | cons r3 r4 => cases r4; exact ⟨_, _, rfl, r1, r3⟩
theorem call_max2 (hc : X.calm = true) : CallR X (.builtin "max") (fun xs H Q => ∃ i j, xs = [.int i, .int j] ∧ Q (.int (if j > i then j else i)) H) := by
  intro pins s σ H xs us Q I r h
  obtain ⟨i, j, rfl, q⟩ := h
  obtain ⟨u, w', rfl, ⟨t, rfl⟩, ⟨t', rfl⟩⟩ := vals2 r
  refine max_two_ints (I.ok.hd hc) fun h' tk k => ⟨_, H, I.kept k, ?_, q⟩
  by_cases hj : j > i
  · rw [if_pos hj, if_pos hj]; exact ⟨_, rfl⟩
  · rw [if_neg hj, if_neg hj]; exact ⟨_, rfl⟩
theorem call_ord : CallR X (.builtin "ord") (fun xs H Q => ∃ x, xs = [.str x] ∧ x.length = 1 ∧ Q (.int (x.cps.getD 0 0 : Nat)) H) := by
  intro pins s σ H xs us Q I r h
  obtain ⟨x, rfl, hz, q⟩ := h
  obtain ⟨u, rfl, t, rfl⟩ := vals1 r
  exact ord_of_one hz ⟨.int _, H, I.tok _, ⟨_, rfl⟩, q⟩
end
end L2

namespace L2
open PySem PySem.Spec PyProof.Rows

structure ObjM (h : Heap) (x dx C : Addr) (mA : Str → Option Value) : Prop where
  obj : h.get? x = some (PySem.W.instObj C dx)
  ns : h.Ns1 dx mA
  ne : dx ≠ x

theorem lookIn_ns {h : Heap} {dx : Addr} {mA : Str → Option Value} (n : h.Ns1 dx mA) : ∃ od, h.get? dx = some od ∧ ∀ name, PySem.W.lookIn name od = some (mA name) := by
  obtain ⟨o, es, ep, ho, hd, hk, _, hm⟩ := n
  refine ⟨o, ho, fun name => ?_⟩
  have e := hm name
  unfold nsFind findBy at e
  rw [← Array.find?_toList] at e
  unfold PySem.W.lookIn
  rw [hd]
  dsimp only
  split
  · rename_i y q
    rw [q] at e
    exact congrArg some e
  · rename_i q
    rw [q] at e
    have a : es.toList.any (·.refKey) = false := by
      rw [List.any_eq_false]
      intro y hy
      obtain ⟨z, t, hkey⟩ := hk y (Array.mem_toList_iff.mp hy)
      simp [DictEntry.refKey, hkey]
    have a' : ¬ es.toList.any (·.refKey) = true := by rw [a]; exact Bool.false_ne_true
    rw [if_neg a']
    exact congrArg some e

theorem ObjM.look {h : Heap} {x dx C : Addr} {mA : Str → Option Value} (I : ObjM h x dx C mA) : ∃ od, PySem.W.InstAt h x (PySem.W.instObj C dx) C (some od) ∧ ∀ name, PySem.W.lookIn name od = some (mA name) :=
  let ⟨od, ho, hl⟩ := lookIn_ns I.ns
  ⟨od, ⟨I.obj, rfl, rfl, ho⟩, hl⟩

section
variable {prog : Program} {w : World} {A : Around} {E : Value → Shared → Prop} {s : Shared} {K : PySem.W.Frag} {x dx C f : Addr} {mA : Str → Option Value} {name : Str} {v : Value}

theorem get_map {expr : Bool} {Q : Value → Shared → Prop} (X : K.In s.heap) (I : ObjM s.heap x dx C mA) (hg : PySem.W.plainGet K C name = true) (hh : PySem.W.hasDictIn K C = true)
    (ha : PySem.W.findIn K (.ref C) name = some none) (hv : mA name = some v) (hv' : PySem.W.handedIn v = true) (h : Q v { s with toks := s.toks + 1 }) :
    wpAny (model prog w) A (getAttr (.ref x) name expr) Q E s := by
  obtain ⟨od, J, hl⟩ := I.look
  exact PySem.W.get_value X J (PySem.W.plainGet_of hg).1 (PySem.W.findObj_own hh ha rfl (by rw [hl, hv])) hv' h

theorem get_meth {pl : Sem Bool} {Q : Value × List Value → Shared → Prop} (X : K.In s.heap) (I : ObjM s.heap x dx C mA) (hg : PySem.W.plainGet K C name = true)
    (hf : PySem.W.findIn K (.ref C) name = some (some (.ref f))) (ht : PySem.W.isFn K (.ref f) = true) (hv : mA name = none) (h : Q (.ref f, [.ref x]) s) :
    wpAny (model prog w) A (getMethod (.ref x) name pl) Q E s := by
  obtain ⟨od, J, hl⟩ := I.look
  exact PySem.W.method_fn X J (PySem.W.plainGet_of hg).1 (PySem.W.plainGet_of hg).2 hf (beq_iff_eq.mp ht) (by show (PySem.W.lookIn name od).map (·.isSome) = some false; rw [hl, hv]; rfl) h

theorem set_map {ns : List Str} {Q : Unit → Shared → Prop} (X : K.In s.heap) (I : ObjM s.heap x dx C mA)
    (hs : PySem.W.findIn K (.ref C) "__setattr__" = some (some (.builtin "object.__setattr__"))) (hp : PySem.W.plainOver K C = true) (ht : PySem.W.takerIn K C name = some none) (hh : PySem.W.hasDictIn K C = true)
    (hw : PySem.Within mA ns) (hsz : ns.length ≤ sizeLine)
    (h : ∀ h', ObjM h' x dx C (fun y => if y = name then some v else mA y) → Heap.SameBut dx s.heap h' → Q () { s with heap := h', toks := s.toks + 2 }) :
    wpAny (model prog w) A (setAttr (.ref x) name v) Q E s := by
  obtain ⟨od, J, hl⟩ := I.look
  refine PySem.W.set_plain X J hs (PySem.W.osa_open (s := { s with toks := s.toks + 1 }) (r := none) X J hp ht fun b => ?_)
  obtain ⟨cd, hc, hd'⟩ := PySem.W.any_some hh
  have hx : s.heap.get? x = some ⟨.ref C, some dx, .plain, #[]⟩ := I.obj
  refine wpAny_bind (wpAny_pure (wpAny_bind (wpAny_bind (wpAny_loadPart hx (wpAny_bind (PySem.W.Looks.here (s := { s with toks := s.toks + 1 }) (PySem.W.looks_clsIn X hc) ?_))))))
  rw [hd']
  refine wpAny_pure (a := some dx) (wpAny_bind (wpAny_pure (wpAny_bind ?_)))
  refine wpAny_nsSet1 (s := { s with toks := s.toks + 1 }) I.ns fun h' hn2 hs2 => ?_
  obtain ⟨oD, esD, epD, hoD, hdD, hcD⟩ := hn2.count (PySem.Within.cons name v hw)
  refine wpAny_bind (wpAny_lookBehind hoD (by rw [hdD]; exact pastItsLine_dict (Nat.le_trans hcD (by rw [List.length_cons]; omega))) ?_)
  exact wpAny_pure (h _ ⟨(hs2.2 _ (Ne.symm I.ne)).trans I.obj, hn2, I.ne⟩ hs2)

/-- C(..): the dict at the heap's end, the instance behind it; then its __init__ -/
theorem make_map {R : Result → Shared → Prop} {vs : List Value} {kw : List (Str × Value)} (X : K.In s.heap) (hm : PySem.W.makesIn K C = true)
    (hi : PySem.W.findIn K (.ref C) "__init__" = some (some (.ref f))) (hf : PySem.W.typeIn K (.ref f) = some (.type "function"))
    (h : codeAny (model prog w) (A.under (.builtin "type.__call__" ⟨.ref C :: vs, kw⟩)) (.call (.ref f) ⟨.ref (s.heap.objs.size + 1) :: vs, kw⟩) (PySem.W.InitBack (s.heap.objs.size + 1) R)
      { s with heap := (s.heap.push PySem.W.emptyDict).push (PySem.W.instObj C s.heap.objs.size) }) :
    codeAny (model prog w) A (.call (.ref C) ⟨vs, kw⟩) R s := by
  obtain ⟨hh, g, d, t, os⟩ := s
  exact PySem.W.make_core (PySem.W.makes_of X hm) (PySem.W.looks_findIn X hi) (fun self => PySem.W.bind_fn X self hf) (.inl rfl) h
end

def putF (f : Str) (v : V) : List (Str × V) → List (Str × V)
  | [] => [(f, v)]
  | (g, x) :: r => if g = f then (g, v) :: r else (g, x) :: putF f v r
theorem lookup_putF (f g : Str) (v : V) : ∀ fs : List (Str × V), (putF f v fs).lookup g = if g = f then some v else fs.lookup g
  | [] => by
    show List.lookup g [(f, v)] = _
    by_cases h : g = f
    · have hb : (g == f) = true := beq_iff_eq.mpr h
      simp only [List.lookup, hb, if_pos h]
    · have hb : (g == f) = false := beq_eq_false_iff_ne.mpr h
      simp only [List.lookup, hb, if_neg h]
  | (k, x) :: r => by
    have ih := lookup_putF f g v r
    rw [show putF f v ((k, x) :: r) = (if k = f then (k, v) :: r else (k, x) :: putF f v r) from rfl]
    by_cases hk : k = f
    · rw [if_pos hk]
      by_cases h : g = k
      · have hb : (g == k) = true := beq_iff_eq.mpr h
        simp only [List.lookup, hb, if_pos (h.trans hk)]
      · have hb : (g == k) = false := beq_eq_false_iff_ne.mpr h
        simp only [List.lookup, hb, if_neg (fun e : g = f => h (e.trans hk.symm))]
    · rw [if_neg hk]
      by_cases h : g = k
      · have hb : (g == k) = true := beq_iff_eq.mpr h
        simp only [List.lookup, hb, if_neg (fun e : g = f => hk (h.symm.trans e))]
      · have hb : (g == k) = false := beq_eq_false_iff_ne.mpr h
        simp only [List.lookup, hb]
        exact ih
theorem keys_putF (f : Str) (v : V) : ∀ fs : List (Str × V), f ∈ (putF f v fs).map (·.1) ∧ ∀ g, g ∈ fs.map (·.1) → g ∈ (putF f v fs).map (·.1)
  | [] => ⟨by simp [putF], fun g h => by simp at h⟩
  | (k, x) :: r => by
    obtain ⟨i1, i2⟩ := keys_putF f v r
    rw [show putF f v ((k, x) :: r) = (if k = f then (k, v) :: r else (k, x) :: putF f v r) from rfl]
    by_cases hk : k = f
    · rw [if_pos hk]
      subst hk
      exact ⟨by simp, fun g h => by simpa using h⟩
    · rw [if_neg hk]
      refine ⟨?_, fun g h => ?_⟩
      · rw [List.map_cons]
        exact List.mem_cons_of_mem _ i1
      · rw [List.map_cons] at h ⊢
        rcases List.mem_cons.mp h with e | e
        · exact List.mem_cons.mpr (.inl e)
        · exact List.mem_cons_of_mem _ (i2 g e)
theorem length_putF (f : Str) (v : V) : ∀ fs : List (Str × V), (putF f v fs).length ≤ fs.length + 1
  | [] => by simp [putF]
  | (k, x) :: r => by
    have ih := length_putF f v r
    rw [show putF f v ((k, x) :: r) = (if k = f then (k, v) :: r else (k, x) :: putF f v r) from rfl]
    by_cases hk : k = f
    · rw [if_pos hk, List.length_cons, List.length_cons]; omega
    · rw [if_neg hk, List.length_cons, List.length_cons]; omega

theorem RelO.some_of {v : V} {o : Option Value} (r : RelO (some v) o) : ∃ u, o = some u ∧ RelV v u := by
  cases o with
  | none => exact (show False from r).elim
  | some u => exact ⟨u, rfl, r⟩
theorem RelO.none_of {o : Option Value} (r : RelO none o) : o = none := by
  cases o with
  | none => rfl
  | some u => exact (show False from r).elim
theorem handed_of {v : V} {u : Value} (r : RelV v u) : PySem.W.handedIn u = true := by
  cases v with
  | non => cases (show u = Value.none from r); rfl
  | bl b => cases (show u = Value.bool b from r); rfl
  | int i => obtain ⟨t, e⟩ := (show ∃ t, u = Value.int i t from r); cases e; rfl
  | str x => obtain ⟨t, e⟩ := (show ∃ t, u = Value.str x t from r); cases e; rfl
  | byt b => obtain ⟨t, e⟩ := (show ∃ t, u = Value.bytes b t from r); cases e; rfl
  | flt b => obtain ⟨t, e⟩ := (show ∃ t, u = Value.float b t from r); cases e; rfl
  | ref a => cases (show u = Value.ref a from r); rfl
  | ty n => cases (show u = Value.type n from r); rfl

section
variable {P : Program} {w : World} {H H' : Hp} {h h' : Heap} {a C dx : Addr} {fs fs' : List (Str × V)}
theorem ins_get (hok : HOk P w H h) (e : H a = some (.ins C dx fs)) : ∃ mA, ObjM h a dx C mA ∧ (∀ f, RelO (fs.lookup f) (mA f)) ∧ PySem.Within mA (fs.map (·.1)) ∧ fs.length ≤ 1000 ∧ H dx = some (.own a) := by
  obtain ⟨d, z, ne, ob, mA, n, r, q⟩ := (show ObjOk P w H h a (.ins C dx fs) from hok a _ e)
  exact ⟨mA, ⟨ob, n, ne⟩, r, q, z, d⟩
end

structure Cls (K : PySem.W.Frag) (C : Addr) : Prop where
  pg : PySem.W.plainGet K C Str.empty = true
  hd : PySem.W.hasDictIn K C = true
  po : PySem.W.plainOver K C = true
  sa : PySem.W.findIn K (.ref C) "__setattr__" = some (some (.builtin "object.__setattr__"))
theorem Cls.get {K : PySem.W.Frag} {C : Addr} (c : Cls K C) (f : Str) : PySem.W.plainGet K C f = true := c.pg
/-- no class of it has the name -/
def NoAttr (K : PySem.W.Frag) (C : Addr) (f : Str) : Prop := PySem.W.findIn K (.ref C) f = some none
theorem NoAttr.taker {K : PySem.W.Frag} {C : Addr} {f : Str} (n : NoAttr K C f) : PySem.W.takerIn K C f = some none := by
  unfold PySem.W.takerIn
  rw [show PySem.W.findIn K (.ref C) f = some none from n]
  rfl
/-- a method: a plain def of the class or of one above it -/
structure Meth (K : PySem.W.Frag) (C : Addr) (m : Str) (f : Addr) : Prop where
  at_ : PySem.W.findIn K (.ref C) m = some (some (.ref f))
  fn : PySem.W.isFn K (.ref f) = true
  kp : PySem.W.keepIn K (.ref f) = true

section
variable {X : Cx} {pins : List (Addr × Obj)} {σ : St} {H : Hp} {s : Shared} {a C dx : Addr} {fs : List (Str × V)} {f : Str} {v : V} {A : Around} {E : Value → Shared → Prop}

theorem getattr_ok {b : Bool} {Q : Value → Shared → Prop} (I : Inv X pins σ H s) (e : H a = some (.ins C dx fs)) (c : Cls X.K C) (n : NoAttr X.K C f) (l : fs.lookup f = some v)
    (h : ∀ u s', Inv X pins σ H s' → RelV v u → Q u s') : wpAny (model X.prog X.w) A (getAttr (.ref a) f b) Q E s := by
  obtain ⟨mA, O, r, _, _, _⟩ := ins_get I.hok e
  obtain ⟨u, hu, ru⟩ := RelO.some_of (v := v) (o := mA f) (by rw [← l]; exact r f)
  exact get_map I.kIn O (c.get f) c.hd n hu (handed_of ru) (h u _ (I.tok _) ru)

theorem getmeth_ok {m : Str} {g : Addr} {pl : Sem Bool} {Q : Value × List Value → Shared → Prop} (I : Inv X pins σ H s) (e : H a = some (.ins C dx fs)) (c : Cls X.K C) (k : Meth X.K C m g) (l : fs.lookup m = none)
    (h : Q (.ref g, [.ref a]) s) : wpAny (model X.prog X.w) A (getMethod (.ref a) m pl) Q E s := by
  obtain ⟨mA, O, r, _, _, _⟩ := ins_get I.hok e
  have hn : mA m = none := RelO.none_of (by rw [← l]; exact r m)
  exact get_meth I.kIn O (c.get m) k.at_ k.fn hn h

theorem setattr_ok {y : V} {u : Value} {Q : Unit → Shared → Prop} (I : Inv X pins σ H s) (e : H a = some (.ins C dx fs)) (c : Cls X.K C) (n : NoAttr X.K C f) (hl : fs.length < 1000) (ry : RelV y u)
    (h : ∀ s', Inv X pins σ (upd H a (.ins C dx (putF f y fs))) s' → Q () s') : wpAny (model X.prog X.w) A (setAttr (.ref a) f u) Q E s := by
  obtain ⟨mA, O, r, wi, _, ho⟩ := ins_get I.hok e
  have hz : (fs.map (·.1)).length ≤ sizeLine := by rw [List.length_map, sizeLine_eq]; omega
  refine set_map I.kIn O c.sa c.po n.taker c.hd wi hz fun h' O' sb => h _ ?_
  have hd : ∃ o, h'.get? dx = some o := let ⟨o, _, _, e', _⟩ := O'.ns; ⟨o, e'⟩
  refine I.write (x := a) (e := dx) (by rw [e]; exact True.intro) (.inr ho) (fun b q hb z => (sb.2 b hb).trans z) hd ?_
  refine ⟨by rw [upd_ne O.ne]; exact ho, ?_, O.ne, O'.obj, _, O'.ns, fun g => ?_, fun g hg => ?_⟩
  · have := length_putF f y fs; omega
  · show RelO ((putF f y fs).lookup g) (if g = f then some u else mA g)
    rw [lookup_putF]
    by_cases q : g = f
    · rw [if_pos q, if_pos q]; exact ry
    · rw [if_neg q, if_neg q]; exact r g
  · by_cases q : g = f
    · rw [q]; exact (keys_putF f y fs).1
    · refine (keys_putF f y fs).2 g (wi g fun z => hg ?_)
      show (if g = f then some u else mA g) = none
      rw [if_neg q]; exact z

/-- a new instance, tracked, without attributes -/
theorem Inv.made (I : Inv X pins σ H s) : Inv X pins σ (upd (upd H s.heap.objs.size (.own (s.heap.objs.size + 1))) (s.heap.objs.size + 1) (.ins C s.heap.objs.size []))
    { s with heap := (s.heap.push PySem.W.emptyDict).push (PySem.W.instObj C s.heap.objs.size) } := by
  have e1 : (s.heap.push PySem.W.emptyDict).get? s.heap.objs.size = some PySem.W.emptyDict := Heap.get?_push_size s.heap rfl
  have e2 : ((s.heap.push PySem.W.emptyDict).push (PySem.W.instObj C s.heap.objs.size)).get? (s.heap.objs.size + 1) = some (PySem.W.instObj C s.heap.objs.size) := by
    have := Heap.get?_push_size (s.heap.push PySem.W.emptyDict) (o := PySem.W.instObj C s.heap.objs.size) rfl
    rwa [Heap.size_push] at this
  have e3 : (s.heap.push PySem.W.emptyDict).Ns s.heap.objs.size (fun _ => none) := ⟨PySem.W.emptyDict, #[], _, e1, rfl, (fun e he => absurd he (by simp)), fun _ => rfl⟩
  have I1 := I.laid (a := s.heap.objs.size) (o := .own (s.heap.objs.size + 1)) (h' := s.heap.push PySem.W.emptyDict) (t' := s.toks) (fun b u q => Heap.get?_push_of_some _ q) (Nat.le_refl _) ⟨_, e1⟩
  refine I1.laid (a := s.heap.objs.size + 1) (o := .ins C s.heap.objs.size []) (t' := s.toks) (fun b u q => Heap.get?_push_of_some _ q) (Nat.le_of_eq (Heap.size_push _ _)) ?_
  have ne : s.heap.objs.size ≠ s.heap.objs.size + 1 := Nat.ne_of_lt (Nat.lt_succ_self _)
  refine ⟨by rw [upd_ne ne, upd_same], Nat.zero_le _, ne, e2, fun _ => none, (Heap.Ns1.of_empty e3).at fun o q => Heap.get?_push_of_some _ q, fun _ => True.intro, fun y hy => absurd rfl hy⟩

/-- e.f where nothing but the object is asked: through attributeBase (super) and the last hold -/
theorem attr_of {prog : Program} {w : World} {env : Env} {e : Expr} {f : Str} {pos : Pos} {s : Shared} {Q : Value → Shared → Prop} (hb : attributeBase e f env (eval e env) = eval e env)
    (h : wpAny (model prog w) A (eval e env) (fun o s₁ => wpAny (model prog w) A (getAttr o f true) Q E s₁) E s) : wpAny (model prog w) A (eval (.Attribute e f pos) env) Q E s :=
  Attribute_any_ h (by rw [arm_eval_Attribute, hb])
end

/-- e.f, an attribute of the instance -/
def tFld (K : PySem.W.Frag) (ta : TE) (f : Str) : TE := fun σ H Q => ta σ H fun x H1 => ∃ a C dx fs v, x = .ref a ∧ H1 a = some (.ins C dx fs) ∧ Cls K C ∧ NoAttr K C f ∧ fs.lookup f = some v ∧ Q v H1
/-- e.f = value -/
def sFld (K : PySem.W.Frag) (ta tv : TE) (f : Str) : TS := fun D σ H => tv σ H fun y H1 => ta σ H1 fun x H2 => ∃ a C dx fs, x = .ref a ∧ H2 a = some (.ins C dx fs) ∧ Cls K C ∧ NoAttr K C f ∧ fs.length < 1000 ∧
  D.nx σ (upd H2 a (.ins C dx (putF f y fs)))
/-- an augmented operator on two values -/
def InOp (X : Cx) (op : Operator) (rd : V → V → Hp → VK → Prop) : Prop :=
  ∀ (pins : List (Addr × Obj)) (s : Shared) (σ : St) (H : Hp) (x y : V) (u v : Value) (Q : VK), Inv X pins σ H s → RelV x u → RelV y v → rd x y H Q → wpAny (model X.prog X.w) X.A (inplaceOp op u v) (EP X pins σ Q) X.xe s
/-- e.f op= value -/
def sFldAug (K : PySem.W.Frag) (ta tv : TE) (rd : V → V → Hp → VK → Prop) (f : Str) : TS := fun D σ H => ta σ H fun x H1 => ∃ a C dx fs v, x = .ref a ∧ H1 a = some (.ins C dx fs) ∧ Cls K C ∧ NoAttr K C f ∧ fs.lookup f = some v ∧
  tv σ H1 fun y H2 => rd v y H2 fun z H3 => ∃ dx' fs', H3 a = some (.ins C dx' fs') ∧ fs'.length < 1000 ∧ D.nx σ (upd H3 a (.ins C dx' (putF f z fs')))

section
variable {X : Cx} {o e value : Expr} {f : Str} {pos pos' tpos : Pos} {ta tv : TE}
theorem pe_fld (he : PE X e ta) (hb : attributeBase e f X.env (eval e X.env) = eval e X.env) : PE X (.Attribute e f pos) (tFld X.K ta f) := by
  intro pins s σ H Q I h
  refine attr_of hb (thn (he pins s σ H _ I h) fun u s1 ⟨x, H1, I1, rx, a, C, dx, fs, v, ex, ea, c, n, l, q⟩ => ?_)
  subst ex
  obtain rfl : u = Value.ref a := rx
  exact getattr_ok I1 ea c n l fun u' s2 I2 ru => ⟨v, H1, I2, ru, q⟩
theorem ps_fld (ha : PE X o ta) (hv : PE X value tv) (hs : swapsWith value (some (.Attribute o f pos')) pos.line X.env = pure false) : PS X (.Assign [.Attribute o f pos'] value pos) (sFld X.K ta tv f) := by
  intro pins s σ H D I h
  refine plainObj_wpAny_Assign_Attribute (thn (hv pins s σ H _ I h) fun u s1 ⟨y, H1, I1, ry, q⟩ => thn (ha pins s1 σ H1 _ I1 q) fun ov s2 ⟨x, H2, I2, rx, a, C, dx, fs, ex, ea, c, n, l, q2⟩ => ?_) hs
  subst ex
  obtain rfl : ov = Value.ref a := rx
  exact setattr_ok I2 ea c n l ry fun s3 I3 => ⟨σ, _, I3, q2⟩
theorem ps_fldaug {op : Operator} {rd : V → V → Hp → VK → Prop} (ha : PE X o ta) (hv : PE X value tv) (hop : InOp X op rd) : PS X (.AugAssign (.Attribute o f tpos) op value pos) (sFldAug X.K ta tv rd f) := by
  intro pins s σ H D I h
  refine wpAny_AugAssign_AttributeAny (thn (ha pins s σ H _ I h) fun ov s1 ⟨x, H1, I1, rx, a, C, dx, fs, v, ex, ea, c, n, l, q⟩ => ?_)
  subst ex
  obtain rfl : ov = Value.ref a := rx
  refine getattr_ok I1 ea c n l fun u s2 I2 ru => thn (hv pins s2 σ H1 _ I2 q) fun w3 s3 ⟨y, H2, I3, ry, q3⟩ => thn (hop pins s3 σ H2 v y u w3 _ I3 ru ry q3) fun w4 s4 ⟨z, H3, I4, rz, dx', fs', ea', l', q4⟩ => ?_
  exact setattr_ok I4 ea' c n l' rz fun s5 I5 => ⟨σ, _, I5, q4⟩
def rAdd : V → V → Hp → VK → Prop := fun x y H Q => ∃ i j, x = .int i ∧ y = .int j ∧ Q (.int (i + j)) H
theorem in_add : InOp X .Add rAdd := by
  rintro pins s σ H x y u v Q I rx ry ⟨i, j, rfl, rfl, q⟩
  obtain ⟨t, rfl⟩ := (show ∃ t, u = Value.int i t from rx)
  obtain ⟨t', rfl⟩ := (show ∃ t', v = Value.int j t' from ry)
  exact PyProof.Rows.iadd_int ⟨.int (i + j), H, I.tok _, ⟨_, rfl⟩, q⟩
end

section
variable {X : Cx} {pins : List (Addr × Obj)} {σ : St} {H : Hp} {s : Shared} {A : Around} {E : Value → Shared → Prop} {Q : Value → Shared → Prop} {c : Value} {b : Bool}
end
end L2

namespace L2
open PySem PySem.Spec PyProof.Rows

structure Room (k : Nat) (A : Around) : Prop where
  hd : A.handled = none
  dp : A.depth + 3 * k + 5 < recursionLimit
  un : A.units + 16 * k + 200 < cLine
theorem Room.mono {j k : Nat} {A : Around} (r : Room k A) (h : j ≤ k) : Room j A := ⟨r.hd, by have := r.dp; omega, by have := r.un; omega⟩
theorem Room.deeper {k : Nat} {A : Around} (r : Room (k + 1) A) (env : Env) : Room k (A.deeper env) :=
  ⟨r.hd, by have := r.dp; show A.depth + 1 + 3 * k + 5 < _; omega, by have := r.un; show A.units + 3 + 16 * k + 200 < _; omega⟩
theorem make_depth {A : Around} {C : Addr} {us : List Value} {kw : List (Str × Value)} : (A.under (.builtin "type.__call__" ⟨.ref C :: us, kw⟩)).depth = A.depth + 1 := by
  first | rfl | simp [Around.under, Code.weight, Code.isCreation, Code.isGuard, Code.isCaller, Code.frames, Code.isFrame, guardIds]
theorem make_units {A : Around} {C : Addr} {us : List Value} {kw : List (Str × Value)} : (A.under (.builtin "type.__call__" ⟨.ref C :: us, kw⟩)).units = A.units + 1 := by
  first | rfl | simp [Around.under, Code.cUnits, Code.frames, Code.isFrame]
theorem Room.make {k : Nat} {A : Around} (r : Room (k + 1) A) (C : Addr) (us : List Value) (kw : List (Str × Value)) : Room k (A.under (.builtin "type.__call__" ⟨.ref C :: us, kw⟩)) :=
  ⟨r.hd, by have := r.dp; rw [make_depth]; omega, by have := r.un; rw [make_units]; omega⟩
theorem Room.depth {k : Nat} {A : Around} (r : Room k A) : A.depth < recursionLimit := by have := r.dp; omega
theorem Room.units {k : Nat} {A : Around} (r : Room k A) : A.units + 64 < cLine := by have := r.un; omega
def tNil : TA := fun _ H Q => Q [] H
def tCons (ta : TE) (tr : TA) : TA := fun σ H Q => ta σ H fun x H1 => tr σ H1 fun xs H2 => Q (x :: xs) H2
section
variable {X : Cx} {e : Expr} {es : List Expr} {te : TE} {t : TA} {pos : Pos}
theorem pa_nil : PA X [] tNil := fun _ _ _ _ H Q I h => Calls.spliced_nil ⟨[], H, I, .nil, h⟩
theorem pa_cons (ha : PE X e te) (hr : PA X es t) (hs : starEach (e :: es) X.env = (false, eval e X.env) :: starEach es X.env := by rfl) : PA X (e :: es) (tCons te t) := by
  intro pos pins s σ H Q I h
  rw [hs]
  show wpAny _ _ (spliced ((false, eval e X.env) :: backTo pos (starEach es X.env))) _ _ s
  refine Calls.spliced_cons (thn (ha pins s σ H _ I h) fun u s1 ⟨x, H1, I1, r1, q1⟩ => ?_)
  exact thn (hr pos pins s1 σ H1 _ I1 q1) fun us s2 ⟨xs, H2, I2, r2, q2⟩ => ⟨x :: xs, H2, I2, .cons r1 r2, q2⟩

/-- a tuple, a list of written items -/
def tTup (t : TA) : TE := fun σ H Q => t σ H fun xs H1 => xs.length ≤ sizeLine ∧ ∀ p, H1 p = none → Q (.ref p) (upd H1 p (.tup xs))
def tLst (t : TA) : TE := fun σ H Q => t σ H fun xs H1 => xs.length ≤ sizeLine ∧ ∀ p, H1 p = none → Q (.ref p) (upd H1 p (.lst xs))
theorem pe_tup {x1} (h : PA X es t) : PE X (.Tuple es x1 pos) (tTup t) := by
  intro pins s σ H Q I hq
  refine wpAny_Tuple_spliced (thn (h pos pins s σ H _ I hq) fun us s1 ⟨xs, H1, I1, r, z, q⟩ => ⟨by rw [← r.length]; exact z, ?_⟩)
  have hf : H1 s1.heap.objs.size = none := I1.hok.fresh (Nat.le_refl _)
  refine ⟨.ref s1.heap.objs.size, upd H1 s1.heap.objs.size (.tup xs), I1.laid (t' := s1.toks) (fun b u e => Heap.get?_push_of_some _ e) (Nat.le_refl _) ?_, rfl, q _ hf⟩
  exact ⟨z, us, r, ⟨_, Heap.get?_push_size _ rfl, rfl, _, rfl⟩⟩
theorem pe_lst (h : PA X es t) : PE X (.List es pos) (tLst t) := by
  intro pins s σ H Q I hq
  refine wpAny_List_spliced (thn (h pos pins s σ H _ I hq) fun us s1 ⟨xs, H1, I1, r, z, q⟩ => ⟨by rw [← r.length]; exact z, ?_⟩)
  have hf : H1 s1.heap.objs.size = none := I1.hok.fresh (Nat.le_refl _)
  refine ⟨.ref s1.heap.objs.size, upd H1 s1.heap.objs.size (.lst xs), I1.laid (t' := s1.toks) (fun b u e => Heap.get?_push_of_some _ e) (Nat.le_refl _) ?_, rfl, q _ hf⟩
  exact ⟨z, us, 0, r, Heap.get?_push_size _ rfl⟩
end

/-- a def's promise: the bound arguments in the parameters' order, the heap, the wanted end, the wanted exception -/
abbrev Sp := List V → Hp → VK → XK → Prop
/-- how an exception lies behind a call (file 08 gives it): the callers' frames, abstract heap and state ahead of the call, the wish, the exception, the state -/
abbrev CXT := List Env → Hp → Shared → XK → Value → Shared → Prop

/-- the state at a call -/
structure Env0 (P : Program) (w : World) (K : PySem.W.Frag) (mg : Str → Option Value) (base : Heap) (A : Around) (outer : List Env) (s : Shared) (H : Hp) : Prop where
  frames : A.frames = some outer
  mod : Mod K mg base
  bs : ∀ b o, base.get? b = some o → s.heap.get? b = some o ∧ H b = none
  bsz : base.objs.size ≤ s.heap.objs.size
  funs : s.heap.FunFrames base outer
  frf : ∀ b ∈ frs outer, H b = none
  hok : HOk P w H s.heap
  bare : AllBare s.gens
/-- a call's end -/
def CE (outer : List Env) (P : Program) (w : World) (H : Hp) (s : Shared) (Q : VK) (u : Value) (s' : Shared) : Prop :=
  ∃ v H', s'.os = s.os ∧ AllBare s'.gens ∧ Un (frs outer) [] H H' s.heap s'.heap ∧ HOk P w H' s'.heap ∧ RelV v u ∧ Q v H'
def CR (CX : CXT) (outer : List Env) (P : Program) (w : World) (H : Hp) (s : Shared) (Q : VK) (E : XK) (r : Result) (s' : Shared) : Prop :=
  match r with
  | .ok (.ret u) => CE outer P w H s Q u s'
  | .ok _ => False
  | .error e => CX outer H s E e s'
structure FnOk (P : Program) (w : World) (K : PySem.W.Frag) (mg : Str → Option Value) (base : Heap) (CX : CXT) (k : Nat) (f : Addr) (fd : FuncData) (ps : List Str) (sp : Sp) : Prop where
  len : ∀ vs H Q E, sp vs H Q E → vs.length = ps.length
  run : ∀ (A : Around) (outer : List Env) (s : Shared) (H : Hp) (args : Args) (us : List Value) (vs : List V) (Q : VK) (E : XK), Room k A → Env0 P w K mg base A outer s H → BindsTo s fd args (ps.zip us) → Vals vs us → sp vs H Q E →
    codeAny (model P w) A (.call (.ref f) args) (CR CX outer P w H s Q E) s
theorem FnOk.mono {P : Program} {w : World} {K : PySem.W.Frag} {mg : Str → Option Value} {base : Heap} {CX : CXT} {j k : Nat} {f : Addr} {fd : FuncData} {ps : List Str} {sp : Sp} (F : FnOk P w K mg base CX j f fd ps sp) (h : j ≤ k) :
    FnOk P w K mg base CX k f fd ps sp := ⟨F.len, fun A outer s H args us vs Q E hr => F.run A outer s H args us vs Q E (hr.mono h)⟩
theorem Env0.make {P : Program} {w : World} {K : PySem.W.Frag} {mg : Str → Option Value} {base : Heap} {A : Around} {outer : List Env} {s : Shared} {H : Hp} (e : Env0 P w K mg base A outer s H) (C : Addr) (us : List Value) (kw : List (Str × Value)) :
    Env0 P w K mg base (A.under (.builtin "type.__call__" ⟨.ref C :: us, kw⟩)) outer s H := ⟨by first | exact e.frames | (simpa [Around.under, Code.envs, Code.isFrame, pushEnvs] using e.frames), e.mod, e.bs, e.bsz, e.funs, e.frf, e.hok, e.bare⟩
section
variable {X : Cx} {pins : List (Addr × Obj)} {σ : St} {H : Hp} {s s' : Shared}
/-- from a body: what a callee wants -/
theorem Inv.env0 (I : Inv X pins σ H s) : Env0 X.prog X.w X.K X.mg X.base X.A X.stack s H :=
  ⟨I.ok.frames, I.ok.mod, I.bs, Nat.le_trans I.ok.bsz I.sz, I.stack, I.stkFree, I.hok, I.bare⟩
/-- behind a call -/
theorem Inv.after {Q : VK} {u : Value} (I : Inv X pins σ H s) (h : CE X.stack X.prog X.w H s Q u s') : EP X pins σ Q u s' := by
  obtain ⟨v, H', os, bare, un, hok, r, q⟩ := h
  obtain ⟨hh, g, d, t, os'⟩ := s'
  obtain rfl : os' = s.os := os
  exact ⟨v, H', I.call (h' := hh) (g' := g) (d' := d) (t' := t) (ch := []) un hok bare (fun b z => absurd z (by simp)), r, q⟩
end

/-- f(..): the written arguments, then the defaults dvs; E: what is wanted of an exception -/
def tCall (sp : Sp) (dvs : List V) (E : XK) (t : TA) : TE := fun σ H Q => t σ H fun vs H1 => sp (vs ++ dvs) H1 Q E
/-- o.m(..) of an instance of the class at C -/
def tMeth (C : Addr) (m : Str) (sp : Sp) (dvs : List V) (E : XK) (ta : TE) (t : TA) : TE := fun σ H Q => ta σ H fun x H1 => ∃ a dx fs, x = .ref a ∧ H1 a = some (.ins C dx fs) ∧ fs.lookup m = none ∧
  t σ H1 fun vs H2 => sp (x :: (vs ++ dvs)) H2 Q E
/-- C(..): a new instance and its dict, then __init__ -/
def tMake (C : Addr) (sp : Sp) (dvs : List V) (E : XK) (t : TA) : TE := fun σ H Q => t σ H fun vs H1 => ∀ x dx, H1 x = none → H1 dx = none → dx ≠ x →
  sp (.ref x :: (vs ++ dvs)) (upd (upd H1 dx (.own x)) x (.ins C dx [])) (fun v H2 => v = .non ∧ Q (.ref x) H2) E

/-- how the parameters are bound: us the positional arguments, kw the keywords' values by name, ds the defaults that fill up -/
def Binds (K : PySem.W.Frag) (fd : FuncData) (ps : List Str) (ds : List Value) : Prop :=
  ∀ (s : Shared) (us : List Value), K.In s.heap → (us ++ ds).length = ps.length → BindsTo s fd ⟨us, []⟩ (ps.zip (us ++ ds))
/-- every parameter is given -/
theorem Binds.all {K : PySem.W.Frag} {fd : FuncData} {ps : List Str} (h : ∀ us : List Value, us.length = ps.length → bindArgs fd ⟨us, []⟩ = pure (ps.zip us)) : Binds K fd ps [] := fun s us _ hl => by
  rw [List.append_nil] at hl ⊢
  exact .of_eq (h us hl)

/-- an exception of a callee reaches what this body wants of exceptions -/
def Passes (CX : CXT) (X : Cx) (E : XK) : Prop := ∀ (pins : List (Addr × Obj)) (σ : St) (H : Hp) (s : Shared) (e : Value) (s' : Shared), Inv X pins σ H s → CX X.stack H s E e s' → X.xe e s'

section
variable {X : Cx} {CX : CXT} {k : Nat} {f C : Addr} {fd : FuncData} {ps : List Str} {sp : Sp} {dvs : List V} {ds : List Value} {E : XK} {x m : Str} {p pos apos : Pos} {e o : Expr} {es : List Expr} {ta : TE} {t : TA}

/-- the callee runs -/
theorem run_fn {pins : List (Addr × Obj)} {σ : St} {H : Hp} {s : Shared} {Q : VK} {us : List Value} {vs : List V} (F : FnOk X.prog X.w X.K X.mg X.base CX k f fd ps sp) (hr : Room k X.A) (hb : Binds X.K fd ps ds) (hd : Vals dvs ds) (hx : Passes CX X E)
    (I : Inv X pins σ H s) (r : Vals vs us) (h : sp (vs ++ dvs) H Q E) : wpAny (model X.prog X.w) X.A (call (.ref f) us) (EP X pins σ Q) X.xe s := by
  have r2 : Vals (vs ++ dvs) (us ++ ds) := r.append hd
  have hl : (us ++ ds).length = ps.length := by rw [← r2.length]; exact F.len _ _ _ _ h
  refine wpAny_call (codeAny_mono (F.run X.A X.stack s H ⟨us, []⟩ (us ++ ds) (vs ++ dvs) Q E hr I.env0 (hb s us I.kIn hl) r2 h) fun r s' hq => ?_)
  cases r with
  | error e => exact hx pins σ H s e s' I hq
  | ok fl =>
    cases fl with
    | ret u => exact I.after hq
    | next => exact False.elim hq
    | brk => exact False.elim hq
    | cont => exact False.elim hq

theorem pe_call (F : FnOk X.prog X.w X.K X.mg X.base CX k f fd ps sp) (hr : Room k X.A) (hg : Gl X x) (hm : X.mg x = some (.ref f)) (hk : PySem.W.keepIn X.K (.ref f) = true) (hb : Binds X.K fd ps ds) (hd : Vals dvs ds) (hx : Passes CX X E)
    (ha : PA X (e :: es) t) (hdb : (x == ("__debug__" : Str)) = false := by decide) (he : starEach (e :: es) X.env = (false, eval e X.env) :: starEach es X.env := by rfl) (hpl : (backTo pos (starEach es X.env)).any (·.1) = false := by rfl) :
    PE X (.Call (.Name x p) (e :: es) [] pos) (tCall sp dvs E t) := by
  intro pins s σ H Q I h
  refine wpAny_Call_Name_kw (ld_glob I hg hm ?_ hdb)
  refine PySem.W.callWith_K (h₀ := X.base) I.ok.mod.kin hk (thn (ha pos pins s σ H _ I h) fun us s1 ⟨vs, H1, I1, r, q⟩ => ⟨I1.kIn, ?_⟩) he hpl
  exact run_fn F hr hb hd hx I1 r q
theorem pe_call0 (F : FnOk X.prog X.w X.K X.mg X.base CX k f fd ps sp) (hr : Room k X.A) (hg : Gl X x) (hm : X.mg x = some (.ref f)) (hk : PySem.W.keepIn X.K (.ref f) = true) (hb : Binds X.K fd ps ds) (hd : Vals dvs ds) (hx : Passes CX X E)
    (hdb : (x == ("__debug__" : Str)) = false := by decide) : PE X (.Call (.Name x p) [] [] pos) (tCall sp dvs E tNil) := by
  intro pins s σ H Q I h
  refine wpAny_Call_Name_kw (ld_glob I hg hm ?_ hdb)
  exact PySem.W.callWith_K0 I.kIn hk (run_fn (us := []) F hr hb hd hx I .nil h)

/-- o.m(e, ..) -/
theorem pe_meth {pl : Sem Bool} (he : PE X o ta) (c : Cls X.K C) (hm : Meth X.K C m f) (F : FnOk X.prog X.w X.K X.mg X.base CX k f fd ps sp) (hr : Room k X.A) (hb : Binds X.K fd ps ds) (hd : Vals dvs ds) (hx : Passes CX X E) (ha : PA X (e :: es) t)
    (hst : starEach (e :: es) X.env = (false, eval e X.env) :: starEach es X.env := by rfl) (hpl : (backTo pos (starEach es X.env)).any (·.1) = false := by rfl)
    (ht : eval (.Call (.Attribute o m apos) (e :: es) [] pos) X.env = (do
      let ov ← eval o X.env
      standAt apos.atName
      let (f, first) ← holding [ov] (getMethod ov m pl)
      callWith pos f first (backTo pos (starEach (e :: es) X.env)) (backToKw pos (keywordEach [] X.env))) := by rfl) :
    PE X (.Call (.Attribute o m apos) (e :: es) [] pos) (tMeth C m sp dvs E ta t) := by
  intro pins s σ H Q I h
  refine PySem.W.methodCall_KW (pl := pl) (thn (he pins s σ H _ I h) fun u s1 ⟨x, H1, I1, rx, a, dx, fs, ex, ea, l, q⟩ => ?_) ht
  subst ex
  obtain rfl : u = Value.ref a := rx
  refine getmeth_ok I1 ea c hm l ?_
  refine PySem.W.callWith_K (first := [.ref a]) (h₀ := X.base) I.ok.mod.kin hm.kp (thn (ha pos pins s1 σ H1 _ I1 q) fun us s2 ⟨vs, H2, I2, r, q2⟩ => ⟨I2.kIn, ?_⟩) hst hpl
  exact run_fn (us := .ref a :: us) (vs := .ref a :: vs) F hr hb hd hx I2 (.cons rfl r) q2
/-- o.m() -/
theorem pe_meth0 {pl : Sem Bool} (he : PE X o ta) (c : Cls X.K C) (hm : Meth X.K C m f) (F : FnOk X.prog X.w X.K X.mg X.base CX k f fd ps sp) (hr : Room k X.A) (hb : Binds X.K fd ps ds) (hd : Vals dvs ds) (hx : Passes CX X E)
    (ht : eval (.Call (.Attribute o m apos) [] [] pos) X.env = (do
      let ov ← eval o X.env
      standAt apos.atName
      let (f, first) ← holding [ov] (getMethod ov m pl)
      callWith pos f first (backTo pos (starEach [] X.env)) (backToKw pos (keywordEach [] X.env))) := by rfl) :
    PE X (.Call (.Attribute o m apos) [] [] pos) (tMeth C m sp dvs E ta tNil) := by
  intro pins s σ H Q I h
  refine PySem.W.methodCall_KW (pl := pl) (thn (he pins s σ H _ I h) fun u s1 ⟨x, H1, I1, rx, a, dx, fs, ex, ea, l, q⟩ => ?_) ht
  subst ex
  obtain rfl : u = Value.ref a := rx
  refine getmeth_ok I1 ea c hm l ?_
  exact PySem.W.callWith_K0 (first := [.ref a]) I1.kIn hm.kp (run_fn (us := [.ref a]) (vs := [.ref a]) F hr hb hd hx I1 (.cons rfl .nil) q)

/-- what a class must have to be made -/
structure Mk (K : PySem.W.Frag) (C f : Addr) : Prop where
  makes : PySem.W.makesIn K C = true
  init : PySem.W.findIn K (.ref C) "__init__" = some (some (.ref f))
  fn : PySem.W.isFn K (.ref f) = true
  kp : PySem.W.keepIn K (.ref C) = true

theorem run_make {pins : List (Addr × Obj)} {σ : St} {H : Hp} {s : Shared} {Q : VK} {us : List Value} {vs : List V} (M : Mk X.K C f) (F : FnOk X.prog X.w X.K X.mg X.base CX k f fd ps sp) (hr : Room (k + 1) X.A) (hb : Binds X.K fd ps ds) (hd : Vals dvs ds)
    (hx : Passes CX X E) (I : Inv X pins σ H s) (r : Vals vs us)
    (h : ∀ x dx, H x = none → H dx = none → dx ≠ x → sp (.ref x :: (vs ++ dvs)) (upd (upd H dx (.own x)) x (.ins C dx [])) (fun v H2 => v = .non ∧ Q (.ref x) H2) E) :
    wpAny (model X.prog X.w) X.A (call (.ref C) us) (EP X pins σ Q) X.xe s := by
  have hq := h (s.heap.objs.size + 1) s.heap.objs.size (I.hok.fresh (Nat.le_succ _)) (I.hok.fresh (Nat.le_refl _)) (Nat.ne_of_lt (Nat.lt_succ_self _))
  have I2 := Inv.made (C := C) I
  have r2 : Vals (V.ref (s.heap.objs.size + 1) :: (vs ++ dvs)) (Value.ref (s.heap.objs.size + 1) :: (us ++ ds)) := .cons rfl (r.append hd)
  have hl : (Value.ref (s.heap.objs.size + 1) :: us ++ ds).length = ps.length := by
    have e := r2.length
    rw [F.len _ _ _ _ hq] at e
    exact e.symm
  refine wpAny_call (make_map (f := f) I.kIn M.makes M.init (beq_iff_eq.mp M.fn) (codeAny_mono (F.run _ X.stack _ _ ⟨Value.ref (s.heap.objs.size + 1) :: us, []⟩ (Value.ref (s.heap.objs.size + 1) :: (us ++ ds)) _ _ E (hr.make C us [])
    (I2.env0.make C us []) (hb _ (Value.ref (s.heap.objs.size + 1) :: us) I2.kIn hl) r2 hq) fun r s' hq' => ?_))
  cases r with
  | error e => exact hx pins σ _ _ e s' I2 hq'
  | ok fl =>
    cases fl with
    | ret u =>
      obtain ⟨v, H', I3, rv, ev, q3⟩ := I2.after hq'
      subst ev
      exact ⟨rv, ⟨V.ref (s.heap.objs.size + 1), H', I3, rfl, q3⟩⟩
    | next => exact False.elim hq'
    | brk => exact False.elim hq'
    | cont => exact False.elim hq'
theorem pe_make (M : Mk X.K C f) (F : FnOk X.prog X.w X.K X.mg X.base CX k f fd ps sp) (hr : Room (k + 1) X.A) (hg : Gl X x) (hm : X.mg x = some (.ref C)) (hb : Binds X.K fd ps ds) (hd : Vals dvs ds) (hx : Passes CX X E)
    (ha : PA X (e :: es) t) (hdb : (x == ("__debug__" : Str)) = false := by decide) (he : starEach (e :: es) X.env = (false, eval e X.env) :: starEach es X.env := by rfl) (hpl : (backTo pos (starEach es X.env)).any (·.1) = false := by rfl) :
    PE X (.Call (.Name x p) (e :: es) [] pos) (tMake C sp dvs E t) := by
  intro pins s σ H Q I h
  refine wpAny_Call_Name_kw (ld_glob I hg hm ?_ hdb)
  refine PySem.W.callWith_K (h₀ := X.base) I.ok.mod.kin M.kp (thn (ha pos pins s σ H _ I h) fun us s1 ⟨vs, H1, I1, r, q⟩ => ⟨I1.kIn, ?_⟩) he hpl
  exact run_make M F hr hb hd hx I1 r q
end

section
variable {X : Cx} {CX : CXT} {k : Nat} {f C : Addr} {fd : FuncData} {ps ks : List Str} {sp : Sp} {E : XK} {x m : Str} {p pos apos kpos : Pos} {e o : Expr} {es : List Expr} {kws : List Keyword} {te ta : TE} {t tk : TA} {nm : Option Str}
variable {g : List Value → List Value → List Value} {gV : List V → List V → List V}
end

/-- names: the parameters first -/
structure FnScope (N P : List Str) (sc : Scope) : Prop where
  kind : sc.kind = .function
  co : sc.isCoroutine = false
  gen : sc.isGenerator = false
  nd : N.Nodup
  pre : N.take P.length = P
  par : ∀ x ∈ P, sc.names.lookup x = some .local ∨ sc.names.lookup x = some .cell
  nofree : ∀ y ∈ sc.names, y.2 ≠ .free

theorem bindL_out {kindOf : Str → Option NameKind} {x : Str} : ∀ {binds : List (Str × Value)} {m : Str → Option Value}, (∀ v, (x, v) ∉ binds) → bindL kindOf binds m x = m x
  | [], _, _ => rfl
  | (n, v) :: r, m, h => by
    unfold bindL
    rw [bindL_out fun w hw => h w (List.mem_cons_of_mem _ hw)]
    split
    · have : x ≠ n := by rintro rfl; exact h v List.mem_cons_self
      simp [this]
    · rfl
theorem bindC_out {kindOf : Str → Option NameKind} {x : Str} : ∀ {binds : List (Str × Value)} {m : Str → Option Value}, (∀ v, (x, v) ∉ binds) → bindC kindOf binds m x = m x
  | [], _, _ => rfl
  | (n, v) :: r, m, h => by
    unfold bindC
    rw [bindC_out fun w hw => h w (List.mem_cons_of_mem _ hw)]
    split
    · rfl
    · have : x ≠ n := by rintro rfl; exact h v List.mem_cons_self
      simp [this]
theorem bindL_get {kindOf : Str → Option NameKind} {x : Str} {v : Value} : ∀ {P : List Str} {vs : List Value} {i : Nat} {m : Str → Option Value}, P.Nodup → P[i]? = some x → vs[i]? = some v → kindOf x = some .local →
    bindL kindOf (P.zip vs) m x = some v
  | [], _, _, _, _, h, _, _ => by simp at h
  | _ :: _, [], _, _, _, _, h, _ => by simp at h
  | p :: P, w :: vs, 0, m, nd, h1, h2, hk => by
    simp at h1 h2; subst h1; subst h2
    show bindL kindOf ((p, w) :: P.zip vs) m p = _
    unfold bindL
    rw [bindL_out fun v hv => (List.nodup_cons.mp nd).1 (List.of_mem_zip hv).1, if_pos hk]
    simp
  | p :: P, w :: vs, i + 1, m, nd, h1, h2, hk => by
    show bindL kindOf ((p, w) :: P.zip vs) m x = _
    unfold bindL
    exact bindL_get (i := i) (List.nodup_cons.mp nd).2 (by simpa using h1) (by simpa using h2) hk
theorem bindC_get {kindOf : Str → Option NameKind} {x : Str} {v : Value} : ∀ {P : List Str} {vs : List Value} {i : Nat} {m : Str → Option Value}, P.Nodup → P[i]? = some x → vs[i]? = some v → kindOf x ≠ some .local →
    bindC kindOf (P.zip vs) m x = some v
  | [], _, _, _, _, h, _, _ => by simp at h
  | _ :: _, [], _, _, _, _, h, _ => by simp at h
  | p :: P, w :: vs, 0, m, nd, h1, h2, hk => by
    simp at h1 h2; subst h1; subst h2
    show bindC kindOf ((p, w) :: P.zip vs) m p = _
    unfold bindC
    rw [bindC_out fun v hv => (List.nodup_cons.mp nd).1 (List.of_mem_zip hv).1, if_neg hk]
    simp
  | p :: P, w :: vs, i + 1, m, nd, h1, h2, hk => by
    show bindC kindOf ((p, w) :: P.zip vs) m x = _
    unfold bindC
    exact bindC_get (i := i) (List.nodup_cons.mp nd).2 (by simpa using h1) (by simpa using h2) hk

/-- the names' values at the entry -/
def start (N : List Str) (vs : List V) : St := vs.map some ++ List.replicate (N.length - vs.length) none

/-- the context of a def's body, at its entry; an exception leaves the frame, then lies as CX says -/
def cxOf (CX : CXT) (P : Program) (w : World) (K : PySem.W.Frag) (mg : Str → Option Value) (base : Heap) (N : List Str) (qual : Str) (scope : Scope) (f : Addr) (cd : Value) (A : Around) (outer : List Env) (s : Shared) (H : Hp) (E : XK) : Cx where
  prog := P
  w := w
  K := K
  mg := mg
  base := base
  A := A.deeper (envOfC qual scope s.heap.objs.size f cd)
  N := N
  s₀ := s
  H₀ := H
  env := envOfC qual scope s.heap.objs.size f cd
  outer := outer
  stack := envOfC qual scope s.heap.objs.size f cd :: outer
  ex := []
  calm := true
  fn := fun _ => true
  pn := []
  xe := fun e s' => wpAny (model P w) (A.deeper (envOfC qual scope s.heap.objs.size f cd)) (leaving (envOfC qual scope s.heap.objs.size f cd) e) (fun _ s'' => CX outer H s E e s'') (fun e' s'' => CX outer H s E e' s'') s'

theorem cell_has {sc : Scope} {n : Nat} {x : Str} (h : sc.names.lookup x = some .cell) : ∃ c, (cellsFrom n sc.names []).lookup x = some c := by
  have q := PySem.W.cellsFrom_some sc.names n [] (.inl h)
  exact Option.isSome_iff_exists.mp q

theorem inv_start {CX : CXT} {P : Program} {w : World} {K : PySem.W.Frag} {mg : Str → Option Value} {base : Heap} {N ps : List Str} {qual : Str} {scope : Scope} {f : Addr} {cd : Value} {A : Around} {outer : List Env} {s s1 : Shared} {H : Hp} {E : XK} {us : List Value} {vs : List V}
    (S : FnScope N ps scope) (hd : A.handled = none) (e0 : Env0 P w K mg base A outer s H) (hl : vs.length = ps.length) (r : Vals vs us)
    (x : InCallC s s.heap.objs.size (bindL (envOfC qual scope s.heap.objs.size f cd).kindOf (ps.zip us) fun _ => none) (cellsFrom (s.heap.objs.size + 1) scope.names []) (bindC (envOfC qual scope s.heap.objs.size f cd).kindOf (ps.zip us) fun _ => none) s1) :
    Inv (cxOf CX P w K mg base N qual scope f cd A outer s H E) [] (start N vs) H s1 := by
  have hpl : ps.length ≤ N.length := by have := congrArg List.length S.pre; rw [List.length_take] at this; omega
  obtain ⟨h1, tk, rfl, hk⟩ := x.done
  have noA : ∀ b : Addr, b ∉ (cxOf CX P w K mg base N qual scope f cd A outer s H E).ex := fun b z => absurd (show b ∈ ([] : List Addr) from z) (by simp)
  refine ⟨⟨e0.mod, S.kind, rfl, rfl, Nat.le_refl _, fun y z c h1 h2 => ?_, fun y hy => ?_, fun y c _ h => ?_, fun _ => hd, Around.frames_deeper e0.frames, .inr ⟨rfl, rfl⟩, fun b z => absurd z (noA b), e0.bs, e0.bsz, fun b _ _ => noA b, fun b z => absurd z (noA b), e0.funs, e0.frf⟩,
    rfl, e0.bare, Un.kept hk, ⟨_, x.toInCall.ns, fun i y v h1 h2 h3 => ?_⟩, fun y c h => ⟨_, x.cell y c h⟩, e0.hok.fresh (Nat.le_refl _), fun y c h => ?_, fun p hp => absurd (show p ∈ ([] : List (Addr × Obj)) from hp) (by simp), e0.hok.kept hk, ?_⟩
  · exact name_of_addr x.apart (PySem.mem_of_lookup h1) (PySem.mem_of_lookup h2)
  · have hy : scope.names.lookup y = some .cell ∨ scope.names.lookup y = some .free := hy
    rcases hy with hy | hy
    · exact cell_has hy
    · exact absurd rfl (S.nofree _ (PySem.mem_of_lookup hy))
  · exact Nat.le_of_lt (x.above y c (PySem.mem_of_lookup h))
  · have hi : i < vs.length := by
      unfold start at h2
      by_cases hi : i < vs.length
      · exact hi
      · rw [List.getElem?_append_right (by simpa using hi)] at h2
        rw [List.getElem?_replicate] at h2
        split at h2 <;> cases h2
    have ha : vs[i]? = some v := by
      unfold start at h2
      rw [List.getElem?_append_left (by simpa using hi), List.getElem?_map] at h2
      cases e : vs[i]? with
      | none => rw [e] at h2; cases h2
      | some a => rw [e] at h2; cases h2; rfl
    obtain ⟨u, hu, rv⟩ := r.get ha
    have hp : ps[i]? = some y := by
      rw [← S.pre, List.getElem?_take_of_lt (by omega)]; exact h1
    have ndP : ps.Nodup := by rw [← S.pre]; exact S.nd.sublist (List.take_sublist _ _)
    refine ⟨u, rv, ?_⟩
    rcases S.par y (List.mem_of_getElem? hp) with k | k
    · exact .inl ⟨k, bindL_get ndP hp hu k⟩
    · obtain ⟨c, e⟩ := cell_has (n := s.heap.objs.size + 1) k
      refine .inr ⟨.inl k, c, e, ?_⟩
      have q := x.cell y c e
      rw [bindC_get ndP hp hu (by show scope.names.lookup y ≠ _; rw [k]; decide)] at q
      exact q
  · exact e0.hok.fresh (Nat.le_of_lt (x.above y c (PySem.mem_of_lookup h)))
  · unfold start
    show _ = N.length
    rw [List.length_append, List.length_map, List.length_replicate]
    omega

/-- THE RULE: a def (or a method) of the text, by its body. The body's reading t is chosen for each entry; it is run at the parameters' values -/
theorem fn_of {CX : CXT} {P : Program} {w : World} {K : PySem.W.Frag} {mg : Str → Option Value} {base : Heap} {k : Nat} {f : Addr} {name qual : Str} {params : Arguments} {body : List Stmt} {scope : Scope} {dV kV doc pm cdv ct oc : Value} {an od : Option Addr}
    {osl : Array (Option Value)} {N ps : List Str} {sp : Sp} (lk : K.lookup f = some ⟨oc, od, .func (PySem.W.fnOf name qual params body scope dV kV doc pm an cdv ct), osl⟩) (hcd : PySem.W.codeIn K cdv qual = true) (S : FnScope N ps scope)
    (len : ∀ vs H Q E, sp vs H Q E → vs.length = ps.length)
    (hbody : ∀ (A : Around) (outer : List Env) (s : Shared) (H : Hp) (vs : List V) (Q : VK) (E : XK), Room k (A.deeper (envOfC qual scope s.heap.objs.size f cdv)) → sp vs H Q E →
      ∃ t, PSs (cxOf CX P w K mg base N qual scope f cdv A outer s H E) body t ∧ t { nx := fun _ H' => Q .non H', rt := Q } (start N vs) H) :
    FnOk P w K mg base CX (k + 1) f (PySem.W.fnOf name qual params body scope dV kV doc pm an cdv ct) ps sp := by
  refine ⟨len, fun A outer s H args us vs Q E hr e0 hb r hsp => ?_⟩
  have hl := len _ _ _ _ hsp
  have KX : K.In s.heap := e0.mod.kin.keeps fun b o e => (e0.bs b o e).1
  have lim : s.heap.NoLimit := e0.mod.nolimit.keeps fun b o e => (e0.bs b o e).1
  have hkind : ∀ y ∈ ps.zip us, scope.names.lookup y.1 = some .local ∨ (scope.names.lookup y.1 = some .cell ∧ ((cellsFrom (s.heap.objs.size + 1) scope.names []).lookup y.1).isSome = true) := fun ⟨n, v⟩ hy => by
    rcases S.par n (List.of_mem_zip hy).1 with q | q
    · exact .inl q
    · exact .inr ⟨q, PySem.W.cellsFrom_some _ _ _ (.inl q)⟩
  refine codeAny_call_function hr.depth (KX _ _ lk) rfl S.co S.gen rfl (PySem.W.codeRec_of KX hcd) (hb _ _ _ _ ?_)
  refine wpAny_newFunctionEnv_cells S.kind hkind fun env he s1 x => ?_
  subst he
  refine ⟨lim.keeps x.toInCall.keep, codeAny_func ?_⟩
  obtain ⟨t, ht, hq⟩ := hbody A outer s H vs Q E (hr.deeper _) hsp
  have I : Inv (cxOf CX P w K mg base N qual scope f cdv A outer s H E) [] (start N vs) H s1 := inv_start S hr.hd e0 hl r x
  refine wpAny_mono (ht [] s1 (start N vs) H _ I hq) (fun fl s' hs => ?_) fun e s' hs => hs
  have fin : ∀ {σ' : St} {H' : Hp} {v : V} {u : Value}, Inv (cxOf CX P w K mg base N qual scope f cdv A outer s H E) [] σ' H' s' → RelV v u → Q v H' → CE outer P w H s Q u s' :=
    fun {σ' H' v u} J rv q => ⟨v, H', J.os, J.bare, J.base, J.hok, rv, q⟩
  cases fl with
  | ret u =>
    obtain ⟨v, σ', H', J, rv, q⟩ := hs
    exact fin J rv q
  | next =>
    obtain ⟨σ', H', J, q⟩ := hs
    exact fin (v := V.non) (u := Value.none) J rfl q
  | brk =>
    obtain ⟨_, _, _, q⟩ := hs
    exact False.elim q
  | cont =>
    obtain ⟨_, _, _, q⟩ := hs
    exact False.elim q
end L2

namespace L2
open PySem PySem.Spec PyProof.Rows
section
variable {X : Cx} {x : Str} {p pos : Pos} {e : Expr} {es : List Expr} {t : TA} {id T : String} {r : List V → Hp → VK → Prop}

def tCB (r : List V → Hp → VK → Prop) (t : TA) : TE := fun σ H Q => t σ H fun vs H1 => r vs H1 Q
/-- f(e, ..), f a built-in function -/
theorem pe_callB (hc : CallR X (.builtin id) r) (hg : Gl X x) (hm : X.mg x = none) (hv : bootBuiltins x = some (.builtin id)) (ha : PA X (e :: es) t) (hn : x ≠ "__name__" := by decide) (hdb : (x == ("__debug__" : Str)) = false := by decide)
    (he : starEach (e :: es) X.env = (false, eval e X.env) :: starEach es X.env := by rfl) (hpl : (backTo pos (starEach es X.env)).any (·.1) = false := by rfl) : PE X (.Call (.Name x p) (e :: es) [] pos) (tCB r t) := by
  intro pins s σ H Q I h
  refine wpAny_Call_Name_kw (ld_blt I hg hm hv ?_ hn hdb)
  exact PyProof.Rows.callWith_builtin1 (thn (ha pos pins s σ H _ I h) fun us s1 ⟨vs, H1, I1, r1, q1⟩ => hc pins s1 σ H1 vs us Q I1 r1 q1) he hpl
/-- T(e, ..), T a built-in type -/
theorem pe_callTy (hc : CallR X (.type T) r) (hg : Gl X x) (hm : X.mg x = none) (hv : bootBuiltins x = some (.type T)) (ha : PA X (e :: es) t) (hn : x ≠ "__name__" := by decide) (hdb : (x == ("__debug__" : Str)) = false := by decide)
    (he : starEach (e :: es) X.env = (false, eval e X.env) :: starEach es X.env := by rfl) (hpl : (backTo pos (starEach es X.env)).any (·.1) = false := by rfl) : PE X (.Call (.Name x p) (e :: es) [] pos) (tCB r t) := by
  intro pins s σ H Q I h
  refine wpAny_Call_Name_kw (ld_blt I hg hm hv ?_ hn hdb)
  exact PyProof.Rows.callWith_type1 (thn (ha pos pins s σ H _ I h) fun us s1 ⟨vs, H1, I1, r1, q1⟩ => hc pins s1 σ H1 vs us Q I1 r1 q1) he hpl
end
end L2

namespace HT
open PySem PyProof.Rows

section
open PySem.SeqAt
open PySem.AutoSeq1 (wpAny_loadPart')
open PySem.MeetsSeq PySem.MeetsSeq2 PySem.MeetsSeq3

end

section
variable {prog : Program} {w : World} {A : Around} {E : Value → Shared → Prop} {s : Shared}

/-- a slice's bound as a place among n (d where it is left out) -/
def sIx (n d : Nat) : Option Int → Nat
  | none => d
  | some v => if v < 0 then (v + (n : Int)).toNat else min v.toNat n
theorem sIx_none (n d : Nat) : sIx n d none = d := rfl
theorem sIx_nat (n d k : Nat) : sIx n d (some (k : Int)) = min k n := by
  show (if (k : Int) < 0 then ((k : Int) + (n : Int)).toNat else min (k : Int).toNat n) = min k n
  rw [if_neg (by omega), Int.toNat_natCast]
end
end HT

namespace L2
open PySem PySem.Spec PyProof.Rows

abbrev TO := St → Hp → (Option Int → Hp → Prop) → Prop
/-- a slice's part (left out, or an int) -/
def PO (X : Cx) (e : Option Expr) (t : TO) : Prop :=
  ∀ (pins : List (Addr × Obj)) (s : Shared) (σ : St) (H : Hp) (Q : Option Int → Hp → Prop), Inv X pins σ H s → t σ H Q →
    wpAny (model X.prog X.w) X.A (evalPart e X.env) (fun u s' => ∃ o H', Inv X pins σ H' s' ∧ IsPart u o ∧ Q o H') X.xe s
def tNoPart : TO := fun _ H Q => Q none H
def tPart (t : TE) : TO := fun σ H Q => t σ H fun x H1 => ∃ i, x = .int i ∧ Q (some i) H1

section
variable {X : Cx} {e : Expr} {te : TE} {lo hi : Option Expr} {tl th : TO} {pos p2 : Pos}

theorem po_none : PO X none tNoPart := by
  intro pins s σ H Q I h
  rw [evalPart_none]
  exact wpAny_pure ⟨none, H, I, .none, h⟩
theorem po_some (h : PE X e te) : PO X (some e) (tPart te) := by
  intro pins s σ H Q I hw
  rw [evalPart_some]
  refine thn (h pins s σ H _ I hw) fun u s1 ⟨x, H1, I1, r1, q1⟩ => ?_
  obtain ⟨i, rfl, q⟩ := q1
  obtain ⟨t, rfl⟩ := r1
  exact ⟨some i, H1, I1, .int i t, q⟩

/-- what a slice of a value is, by values: the slice object stands at sl -/
def SlR (X : Cx) (r : V → Option Int → Option Int → Hp → VK → Prop) : Prop :=
  ∀ (pins : List (Addr × Obj)) (s : Shared) (σ : St) (H : Hp) (x : V) (v vl vu : Value) (lo hi : Option Int) (sl : Addr) (Q : VK), Inv X pins σ H s → RelV x v → s.heap.IsSliceOf sl vl vu .none → IsPart vl lo → IsPart vu hi → r x lo hi H Q →
    ∃ T id, typeLookup (.type T) "__getitem__" = pure (some (.builtin id)) ∧ s.TypeIs v T ∧ wpAny (model X.prog X.w) X.A (getItem v (.ref sl)) (EP X pins σ Q) X.xe s
def tSl (r : V → Option Int → Option Int → Hp → VK → Prop) (te : TE) (tl th : TO) : TE := fun σ H Q => te σ H fun x H1 => tl σ H1 fun l H2 => th σ H2 fun u H3 => r x l u H3 Q
/-- a[lo:hi], any a -/
theorem pe_slice {r : V → Option Int → Option Int → Hp → VK → Prop} (hr : SlR X r) (he : PE X e te) (hl : PO X lo tl) (hu : PO X hi th) : PE X (.Subscript e (.Slice lo hi none p2) pos) (tSl r te tl th) := by
  intro pins s σ H Q I h
  refine Subscript_ (thn (he pins s σ H _ I h) fun v s1 ⟨x, H1, I1, r1, q1⟩ => ?_)
  refine wpAny_Slice (thn (hl pins s1 σ H1 _ I1 q1) fun vl s2 ⟨l, H2, I2, pl, q2⟩ => thn (hu pins s2 σ H2 _ I2 q2) fun vu s3 ⟨u, H3, I3, pu, q3⟩ => ?_)
  rw [evalPart_none]
  refine wpAny_pure ?_
  have I4 : Inv X pins σ H3 { s3 with heap := s3.heap.push { cls := .type "slice", data := .fields #[vl, vu, .none] } } := I3.kept (t' := s3.toks) fun b ob q => Heap.get?_push_of_some _ q
  obtain ⟨T, id, hT, ht, hg⟩ := hr pins { s3 with heap := s3.heap.push { cls := .type "slice", data := .fields #[vl, vu, .none] } } σ H3 x v vl vu l u s3.heap.objs.size Q I4 r1 (Heap.IsSliceOf.new ..) pl pu q3
  show wpAny (model X.prog X.w) X.A (subscriptTail e (.Slice lo hi none p2) v (.ref s3.heap.objs.size)) (EP X pins σ Q) X.xe { s3 with heap := s3.heap.push { cls := .type "slice", data := .fields #[vl, vu, .none] } }
  exact tail_any (ops := [.ref s3.heap.objs.size, v]) ht hT hg (by with_unfolding_all rfl)

/-- the items of xs[lo:hi] -/
def cutV (xs : List V) (lo hi : Option Int) : List V := (xs.drop (HT.sIx xs.length 0 lo)).take (HT.sIx xs.length xs.length hi - HT.sIx xs.length 0 lo)
theorem cutV_length (xs : List V) (lo hi : Option Int) : (cutV xs lo hi).length ≤ xs.length := by
  unfold cutV
  rw [List.length_take, List.length_drop]
  omega
end
end L2

namespace L2
open PySem PySem.Spec PyProof.Rows

/-- the place that an index of any sign means -/
def ixN (n : Nat) (i : Int) : Option Nat := if 0 ≤ i then (if i < n then some i.toNat else none) else if -(n : Int) ≤ i then some (i + n).toNat else none
def atI {α : Type} (xs : List α) (i : Int) : Option α := (ixN xs.length i).bind fun j => xs[j]?
theorem ixN_seq {n : Nat} {i : Int} {j : Nat} (h : ixN n i = some j) : seqIndex? i n = some j ∧ j < n ∧ -(n : Int) ≤ i ∧ i < n := by
  unfold ixN at h
  by_cases h0 : 0 ≤ i
  · rw [if_pos h0] at h
    by_cases h1 : i < n
    · rw [if_pos h1] at h
      have e : i.toNat = j := Option.some.inj h
      exact ⟨by rw [seqIndex_of h0 h1, e], by omega, by omega, h1⟩
    · rw [if_neg h1] at h; cases h
  · rw [if_neg h0] at h
    by_cases h1 : -(n : Int) ≤ i
    · rw [if_pos h1] at h
      have e : (i + n).toNat = j := Option.some.inj h
      exact ⟨by rw [seqIndex_neg (by omega) h1, e], by omega, h1, by omega⟩
    · rw [if_neg h1] at h; cases h
theorem atI_get {α : Type} {xs : List α} {i : Int} {v : α} (h : atI xs i = some v) : ∃ j, seqIndex? i xs.length = some j ∧ xs[j]? = some v ∧ j < xs.length ∧ -(xs.length : Int) ≤ i ∧ i < xs.length := by
  unfold atI at h
  cases e : ixN xs.length i with
  | none => rw [e] at h; cases h
  | some j =>
    rw [e] at h
    obtain ⟨h1, h2, h3, h4⟩ := ixN_seq e
    exact ⟨j, h1, h, h2, h3, h4⟩
theorem atI_nat {α : Type} {xs : List α} {j : Nat} {v : α} (h : xs[j]? = some v) : atI xs (j : Int) = some v := by
  have hj : j < xs.length := (List.getElem?_eq_some_iff.mp h).1
  have e : ixN xs.length (j : Int) = some j := by
    unfold ixN
    rw [if_pos (by omega), if_pos (by omega)]; simp
  unfold atI; rw [e]; exact h
theorem atI_last {α : Type} (xs : List α) (v : α) : atI (xs ++ [v]) (-1) = some v := by
  have hl : (xs ++ [v]).length = xs.length + 1 := by simp
  have e : ixN (xs ++ [v]).length (-1) = some xs.length := by
    unfold ixN
    rw [hl, if_neg (by decide), if_pos (by omega)]
    congr 1
    omega
  unfold atI
  rw [e]
  show (xs ++ [v])[xs.length]? = some v
  simp

/-- what stands as an index of a plain subscript -/
def PlainIx (b : Expr) : Prop := ∀ o i, subscripted b false o i = operate [o, i] (getItem o i)
/-- a subscript by values -/
def IxR (X : Cx) (r : R2) : Prop :=
  ∀ (value slice : Expr) (pins : List (Addr × Obj)) (s : Shared) (σ : St) (H : Hp) (x y : V) (v u : Value) (Q : VK), Inv X pins σ H s → RelV x v → RelV y u → r x y H Q →
    subscripted slice false v u = operate [v, u] (getItem v u) → wpAny (model X.prog X.w) X.A (subscriptTail value slice v u) (EP X pins σ Q) X.xe s
/-- a call of a builtin's method by values: the receiver, the arguments -/
def MtR (X : Cx) (id : String) (r : V → List V → Hp → VK → Prop) : Prop :=
  ∀ (pins : List (Addr × Obj)) (s : Shared) (σ : St) (H : Hp) (x : V) (xs : List V) (v : Value) (us : List Value) (Q : VK), Inv X pins σ H s → RelV x v → Vals xs us → r x xs H Q →
    wpAny (model X.prog X.w) X.A (call (.builtin id) (v :: us)) (EP X pins σ Q) X.xe s
section
variable {X : Cx} {a b : Expr} {ta tb : TE} {pos : Pos}
/-- a[b] -/
theorem pe_ix {r : R2} (hr : IxR X r) (ha : PE X a ta) (hb : PE X b tb) (hs : PlainIx b) : PE X (.Subscript a b pos) (tOp r ta tb) := by
  intro pins s σ H Q I h
  exact Subscript_ (binT ha hb I h fun v u s2 x y H2 I2 rx ry q => hr a b pins s2 σ H2 x y v u Q I2 rx ry q (hs _ _))

def rIxL (K : PySem.W.Frag) : R2 := fun x y H Q => ∃ p xs i v, x = .ref p ∧ y = .int i ∧ SqL K H p xs ∧ atI xs i = some v ∧ Q v H
def rIxT (K : PySem.W.Frag) : R2 := fun x y H Q => ∃ p xs i v, x = .ref p ∧ y = .int i ∧ SqT K H p xs ∧ atI xs i = some v ∧ Q v H
def rIxS : R2 := fun x y H Q => ∃ z i c, x = .str z ∧ y = .int i ∧ z.length ≤ sizeLine ∧ atI z.cps.toList i = some c ∧ Q (.str ⟨#[c]⟩) H
theorem ix_list : IxR X (rIxL X.K) := by
  intro value slice pins s σ H x y v u Q I rx ry h hs
  obtain ⟨p, xs, i, z, rfl, rfl, hq, he, q⟩ := h
  cases rx
  obtain ⟨t, rfl⟩ := ry
  obtain ⟨its, r, pl, hz⟩ := I.list hq
  obtain ⟨j, h1, h2, h3, h4, h5⟩ := atI_get he
  obtain ⟨w, ew, rw'⟩ := r.get h2
  have hl := r.length
  have hn := line63
  have fin : EP X pins σ Q w s := ⟨z, H, I, rw', q⟩
  by_cases h0 : 0 ≤ i
  · have hj : i.toNat = j := by
      rw [seqIndex_of h0 h5] at h1
      exact Option.some.inj h1
    exact item_listR pl.isList h0 (by omega) (by rw [hj]; simpa using ew) fin hs
  · have hj : (i + (its.toArray.size : Int)).toNat = j := by
      rw [seqIndex_neg (by omega) h4] at h1
      rw [List.size_toArray, ← hl]
      exact Option.some.inj h1
    exact subscriptTail_builtinR (x := w) pl.isList.typeIs slot_list_getitem.lookup
      (wpAny_getItem_list_neg (Q := fun r s' => r = w ∧ EP X pins σ Q r s') pl.isList (by omega) (by rw [List.size_toArray] <;> omega) (by omega) (by rw [hj]; simpa using ew) ⟨rfl, fin⟩) hs
theorem ix_tup : IxR X (rIxT X.K) := by
  intro value slice pins s σ H x y v u Q I rx ry h hs
  obtain ⟨p, xs, i, z, rfl, rfl, hq, he, q⟩ := h
  cases rx
  obtain ⟨t, rfl⟩ := ry
  obtain ⟨its, r, pl, hz⟩ := I.tuple hq
  obtain ⟨j, h1, h2, h3, h4, h5⟩ := atI_get he
  obtain ⟨w, ew, rw'⟩ := r.get h2
  have hl := r.length
  have hn := line63
  have fin : EP X pins σ Q w s := ⟨z, H, I, rw', q⟩
  exact subscriptTail_builtinR (x := w) pl.typeIs slot_tuple_getitem.lookup
    (getItem_tuple (j := j) (Q := fun r s' => r = w ∧ EP X pins σ Q r s') pl (by omega) (by omega) (by rw [List.size_toArray, ← hl]; exact h1) (by simpa using ew) ⟨rfl, fin⟩) hs
theorem ix_str : IxR X rIxS := by
  intro value slice pins s σ H x y v u Q I rx ry h hs
  obtain ⟨z, i, c, rfl, rfl, hz, he, q⟩ := h
  obtain ⟨t, rfl⟩ := rx
  obtain ⟨t', rfl⟩ := ry
  obtain ⟨j, h1, h2, h3, h4, h5⟩ := atI_get he
  have hl : z.cps.toList.length = z.length := by simp [Str.length]
  rw [hl] at h1 h4 h5
  have hn := line63
  exact tail_any (typeIs_str s z t) slot_str_getitem.lookup (getItem_str (c := c) (by
    have e1 : decide (i < -(2 ^ 63 : Int)) = false := decide_eq_false (by omega)
    have e2 : decide (i ≥ 2 ^ 63) = false := decide_eq_false (by omega)
    rw [e1, e2, Bool.or_false]) (by rw [h1]; simpa using h2) ⟨.str ⟨#[c]⟩, H, I.tok _, ⟨_, rfl⟩, q⟩) hs
/-- the list's object behind a store -/
theorem mapSeq_set (its : List Value) (n j : Nat) (u : Value) : Obj.mapSeq (·.setIfInBounds j u) { cls := .type "list", data := .seq its.toArray n } = { cls := .type "list", data := .seq (its.set j u).toArray n } := by
  simp [Obj.mapSeq]
theorem Inv.lst {pins : List (Addr × Obj)} {σ : St} {H : Hp} {s : Shared} {p : Addr} {xs : List V} (I : Inv X pins σ H s) (h : H p = some (.lst xs)) :
    ∃ (its : List Value) (n : Nat), Vals xs its ∧ s.heap.get? p = some { cls := .type "list", data := .seq its.toArray n } ∧ xs.length ≤ sizeLine := by
  obtain ⟨z, its, n, r, e⟩ := I.hok p _ h
  exact ⟨its, n, r, e, z⟩
/-- the list at p is written by an update of its object -/
theorem Inv.lstUpd {pins : List (Addr × Obj)} {σ : St} {H : Hp} {s : Shared} {p : Addr} {xs ys : List V} {its its' : List Value} {n n' : Nat} {f : Obj → Obj} (I : Inv X pins σ H s) (h : H p = some (.lst xs))
    (ho : s.heap.get? p = some { cls := .type "list", data := .seq its.toArray n }) (hf : f { cls := .type "list", data := .seq its.toArray n } = { cls := .type "list", data := .seq its'.toArray n' }) (r : Vals ys its') (hz : ys.length ≤ sizeLine) (t : Nat) :
    Inv X pins σ (upd H p (.lst ys)) { s with heap := s.heap.update p f, toks := t } := by
  have e : (s.heap.update p f).get? p = some { cls := .type "list", data := .seq its'.toArray n' } := by
    rw [Heap.get?_update_self f ho (by rw [hf] <;> rfl), hf]
  refine I.write (x := p) (e := p) (by rw [h]; trivial) (.inl rfl) (fun b u hb q => (Heap.get?_update_other _ _ (Ne.symm hb)).trans q) ⟨_, e⟩ ?_
  exact ⟨hz, its', n', r, e⟩
def rSetL : V → V → V → Hp → (Hp → Prop) → Prop := fun o i v H Q => ∃ p xs k j, o = .ref p ∧ i = .int k ∧ H p = some (.lst xs) ∧ ixN xs.length k = some j ∧ Q (upd H p (.lst (xs.set j v)))
theorem set_list : PSet X rSetL := by
  intro pins s σ H o i v ov iv u Q I ro ri rv h
  obtain ⟨p, xs, k, j, rfl, rfl, hp, hj, q⟩ := h
  cases ro
  obtain ⟨t, rfl⟩ := ri
  obtain ⟨its, n, r, ho, hz⟩ := I.lst hp
  obtain ⟨h1, h2, h3, h4⟩ := ixN_seq hj
  have hl := r.length
  have hn := line63
  have I' : Inv X pins σ (upd H p (.lst (xs.set j v))) { s with heap := s.heap.update p (Obj.mapSeq (·.setIfInBounds j u)) } :=
    I.lstUpd hp ho (mapSeq_set its n j u) (r.set rv j) (by rw [List.length_set]; exact hz) s.toks
  by_cases h0 : 0 ≤ k
  · have hk : k.toNat = j := by
      rw [seqIndex_of h0 h4] at h1
      exact Option.some.inj h1
    exact PySem.W.ki_setAt ho h0 (by omega) (by rw [List.size_toArray, ← hl]; exact h4) (by rw [hk]; exact ⟨_, I', q⟩)
  · have hk : (k + (its.toArray.size : Int)).toNat = j := by
      rw [seqIndex_neg (by omega) h3] at h1
      rw [List.size_toArray, ← hl]
      exact Option.some.inj h1
    exact PySem.W.ki_setBack ho (by omega) (by rw [List.size_toArray, ← hl]; exact h3) (by omega) (by rw [hk]; exact ⟨_, I', q⟩)

theorem slice_bounds (lo hi : Option Int) (n : Nat) : (sliceBounds lo hi none n).1 = ((HT.sIx n 0 lo : Nat) : Int) ∧ (sliceBounds lo hi none n).2.1 = ((HT.sIx n n hi : Nat) : Int) ∧ (sliceBounds lo hi none n).2.2 = 1 := by
  refine ⟨?_, ?_, rfl⟩
  · cases lo with
    | none => simp [sliceBounds, HT.sIx]
    | some i =>
      simp only [sliceBounds, HT.sIx, Option.getD_none, show (1 : Int) > 0 by decide, if_true]
      by_cases h : i < 0
      · simp only [h, if_true] <;> omega
      · simp only [h, if_false] <;> omega
  · cases hi with
    | none => simp [sliceBounds, HT.sIx]
    | some i =>
      simp only [sliceBounds, HT.sIx, Option.getD_none, show (1 : Int) > 0 by decide, if_true]
      by_cases h : i < 0
      · simp only [h, if_true] <;> omega
      · simp only [h, if_false] <;> omega
theorem slicePick_cut (its : List Value) (lo hi : Option Int) : slicePick its.toArray lo hi none = ((its.drop (HT.sIx its.length 0 lo)).take (HT.sIx its.length its.length hi - HT.sIx its.length 0 lo)).toArray := by
  obtain ⟨h1, h2, h3⟩ := slice_bounds lo hi its.toArray.size
  unfold slicePick
  rw [h1, h2, h3]
  simp only [sliceRange_one, pick_run, List.size_toArray] <;> rfl
/-- xs[lo:hi] of a list: a new list -/
def rSlL (K : PySem.W.Frag) : V → Option Int → Option Int → Hp → VK → Prop := fun x lo hi H Q => ∃ a xs, x = .ref a ∧ SqL K H a xs ∧ ∀ p, H p = none → Q (.ref p) (upd H p (.lst (cutV xs lo hi)))
theorem sl_list : SlR X (rSlL X.K) := by
  intro pins s σ H x v vl vu lo hi sl Q I rx hs pl pu h
  obtain ⟨a, xs, rfl, hx, q⟩ := h
  cases rx
  obtain ⟨its, r, ht, hz⟩ := I.list hx
  have hlen := r.length
  refine ⟨"list", _, slot_list_getitem.lookup, ht.isList.typeIs, ?_⟩
  refine wpAny_getItem_list_slice ht.isList hs pl pu .none (by simp) ?_ (by rw [List.size_toArray] <;> omega)
  rw [slicePick_cut, ← hlen]
  refine ⟨.ref s.heap.objs.size, _, I.laid (t' := s.toks) (o := .lst (cutV xs lo hi)) (fun b ob q => Heap.get?_push_of_some _ q) (Nat.le_refl _) ?_, rfl, q _ (I.hok.fresh (Nat.le_refl _))⟩
  exact ⟨Nat.le_trans (cutV_length xs lo hi) hz, _, 0, (r.drop (HT.sIx xs.length 0 lo)).take (HT.sIx xs.length xs.length hi - HT.sIx xs.length 0 lo), Heap.get?_push_size _ rfl⟩

def flatV : V → Bool
  | .non => true
  | .bl _ => true
  | .int _ => true
  | .str _ => true
  | _ => false
/-- == of flat values -/
def eqV : V → V → Bool
  | .non, .non => true
  | .bl a, .bl b => a == b
  | .bl a, .int b => (if a then 1 else 0) == b
  | .int a, .bl b => a == (if b then 1 else 0)
  | .int a, .int b => a == b
  | .str a, .str b => a == b
  | _, _ => false
theorem eqAt_V {A : Around} {s : Shared} {y x : V} {u v : Value} (ry : RelV y u) (rx : RelV x v) (fy : flatV y = true) (fx : flatV x = true) : SeqAt.EqAt A s u v (eqV y x) := by
  cases y with
  | non =>
    cases ry
    cases x with
    | non => cases rx; exact SeqAt.EqAt.same _
    | bl b => cases rx; exact SeqAt.EqAt.none_bool b
    | int b => obtain ⟨t, rfl⟩ := rx; exact SeqAt.EqAt.none_int b t
    | str b => obtain ⟨t, rfl⟩ := rx; exact SeqAt.EqAt.none_str b t
    | _ => exact absurd (show false = true from fx) Bool.false_ne_true
  | bl a =>
    cases ry
    cases x with
    | non => cases rx; exact SeqAt.EqAt.bool_none a
    | bl b => cases rx; exact SeqAt.EqAt.bool_bool a b
    | int b => obtain ⟨t, rfl⟩ := rx; exact SeqAt.EqAt.bool_int a b t
    | str b => obtain ⟨t, rfl⟩ := rx; exact SeqAt.EqAt.bool_str a b t
    | _ => exact absurd (show false = true from fx) Bool.false_ne_true
  | int a =>
    obtain ⟨t', rfl⟩ := ry
    cases x with
    | non => cases rx; exact SeqAt.EqAt.int_none a t'
    | bl b => cases rx; exact SeqAt.EqAt.int_bool a t' b
    | int b => obtain ⟨t, rfl⟩ := rx; exact SeqAt.EqAt.int_int a t' b t
    | str b => obtain ⟨t, rfl⟩ := rx; exact SeqAt.EqAt.int_str a t' b t
    | _ => exact absurd (show false = true from fx) Bool.false_ne_true
  | str a =>
    obtain ⟨t', rfl⟩ := ry
    cases x with
    | non => cases rx; exact SeqAt.EqAt.str_none a t'
    | bl b => cases rx; exact SeqAt.EqAt.str_bool a t' b
    | int b => obtain ⟨t, rfl⟩ := rx; exact SeqAt.EqAt.str_int a t' b t
    | str b => obtain ⟨t, rfl⟩ := rx; exact SeqAt.EqAt.str_str a t' b t
    | _ => exact absurd (show false = true from fx) Bool.false_ne_true
  | _ => exact absurd (show false = true from fy) Bool.false_ne_true
/-- the items' answers, read off the values (a value's own answer does not lean on its token) -/
def eqU (x : V) (u : Value) : Bool := match u with
  | .none => eqV .non x
  | .bool b => eqV (.bl b) x
  | .int i _ => eqV (.int i) x
  | .str z _ => eqV (.str z) x
  | _ => false
theorem eqU_of {x y : V} {u : Value} (r : RelV y u) (f : flatV y = true) : eqU x u = eqV y x := by
  cases y with
  | non => cases r; rfl
  | bl b => cases r; rfl
  | int i => obtain ⟨t, rfl⟩ := r; rfl
  | str z => obtain ⟨t, rfl⟩ := r; rfl
  | _ => exact absurd (show false = true from f) Bool.false_ne_true
theorem any_eqU {x : V} : ∀ {xs : List V} {us : List Value}, Vals xs us → xs.all flatV = true → us.any (eqU x) = xs.any fun y => eqV y x
  | _, _, .nil, _ => rfl
  | y :: xs, u :: us, .cons r t, f => by
    rw [List.all_cons, Bool.and_eq_true] at f
    rw [List.any_cons, List.any_cons, eqU_of r f.1, any_eqU t f.2]
theorem mem_eqAt {A : Around} {s : Shared} {x : V} {v : Value} (rx : RelV x v) (fx : flatV x = true) : ∀ {xs : List V} {us : List Value}, Vals xs us → xs.all flatV = true → ∀ u ∈ us, SeqAt.EqAt A s u v (eqU x u)
  | _, _, .nil, _ => fun u hu => by cases hu
  | y :: xs, u :: us, .cons r t, f => fun u' hu => by
    rw [List.all_cons, Bool.and_eq_true] at f
    rcases List.mem_cons.mp hu with rfl | hu
    · rw [eqU_of r f.1]; exact eqAt_V r rx f.1 fx
    · exact mem_eqAt rx fx t f.2 u' hu
def inV (x : V) (xs : List V) : Bool := xs.any fun y => eqV y x
/-- x in a list or tuple of flat items -/
def rIn (K : PySem.W.Frag) (neg : Bool) : R2 := fun x y H Q => ∃ p xs, y = .ref p ∧ (SqL K H p xs ∨ SqT K H p xs) ∧ flatV x = true ∧ xs.all flatV = true ∧ Q (.bl (if neg then !inV x xs else inV x xs)) H
theorem op_in_seq : OpR X (compareOp .In) (rIn X.K false) := by
  intro pins s σ H x y v u Q I rx ry h
  obtain ⟨p, xs, rfl, hq, fx, fs, q⟩ := h
  cases ry
  rcases hq with hq | hq
  · obtain ⟨its, r, pl, hz⟩ := I.list hq
    refine SeqAt.in_listAt (eqU x) pl.isList (fun w hw => mem_eqAt rx fx r fs w (by simpa using hw)) ⟨.bl _, H, I, rfl, ?_⟩
    rw [show its.toArray.any (eqU x) = its.any (eqU x) by simp, any_eqU r fs]
    exact q
  · obtain ⟨its, r, pl, hz⟩ := I.tuple hq
    refine SeqAt.in_tupleAt (eqU x) pl (fun w hw => mem_eqAt rx fx r fs w (by simpa using hw)) ⟨.bl _, H, I, rfl, ?_⟩
    rw [show its.toArray.any (eqU x) = its.any (eqU x) by simp, any_eqU r fs]
    exact q
theorem op_notIn_seq : OpR X (compareOp .NotIn) (rIn X.K true) := by
  intro pins s σ H x y v u Q I rx ry h
  obtain ⟨p, xs, rfl, hq, fx, fs, q⟩ := h
  cases ry
  rcases hq with hq | hq
  · obtain ⟨its, r, pl, hz⟩ := I.list hq
    refine SeqAt.notIn_listAt (eqU x) pl.isList (fun w hw => mem_eqAt rx fx r fs w (by simpa using hw)) ⟨.bl _, H, I, rfl, ?_⟩
    rw [show its.toArray.any (eqU x) = its.any (eqU x) by simp, any_eqU r fs]
    exact q
  · obtain ⟨its, r, pl, hz⟩ := I.tuple hq
    refine SeqAt.notIn_tupleAt (eqU x) pl (fun w hw => mem_eqAt rx fx r fs w (by simpa using hw)) ⟨.bl _, H, I, rfl, ?_⟩
    rw [show its.toArray.any (eqU x) = its.any (eqU x) by simp, any_eqU r fs]
    exact q
theorem call_len_seq : CallR X (.builtin "len") (fun xs H Q => ∃ p ys, xs = [.ref p] ∧ (SqL X.K H p ys ∨ SqT X.K H p ys) ∧ Q (.int ys.length) H) := by
  intro pins s σ H xs us Q I r h
  obtain ⟨p, ys, rfl, hq, q⟩ := h
  obtain ⟨u, rfl, rx⟩ := vals1 r
  cases rx
  have hn := line63
  rcases hq with hq | hq
  · obtain ⟨its, r', pl, hz⟩ := I.list hq
    have hlen := r'.length
    exact Calls.call_len_list pl.isList (by simp only [List.size_toArray] <;> omega) ⟨.int ys.length, H, I.tok _, ⟨s.toks + 1, by rw [List.size_toArray, hlen]⟩, q⟩
  · obtain ⟨its, r', pl, hz⟩ := I.tuple hq
    have hlen := r'.length
    exact len_tuple pl (by simp only [List.size_toArray] <;> omega) ⟨.int ys.length, H, I.tok _, ⟨s.toks + 1, by rw [List.size_toArray, hlen]⟩, q⟩
theorem call_len_str : CallR X (.builtin "len") (fun xs H Q => ∃ z, xs = [.str z] ∧ z.length ≤ sizeLine ∧ Q (.int z.length) H) := by
  intro pins s σ H xs us Q I r h
  obtain ⟨z, rfl, hz, q⟩ := h
  obtain ⟨u, rfl, t, rfl⟩ := vals1 r
  have hn := line63
  exact len_str (by omega) ⟨.int z.length, H, I.tok _, ⟨_, rfl⟩, q⟩
theorem call_tuple_of : CallR X (.type "tuple") (fun xs H Q => ∃ p ys, xs = [.ref p] ∧ ((SqL X.K H p ys ∧ ∀ l, H l = none → Q (.ref l) (upd H l (.tup ys))) ∨ (SqT X.K H p ys ∧ Q (.ref p) H))) := by
  intro pins s σ H xs us Q I r h
  obtain ⟨p, ys, rfl, h⟩ := h
  obtain ⟨u, rfl, rx⟩ := vals1 r
  cases rx
  rcases h with ⟨hq, q⟩ | ⟨hq, q⟩
  · obtain ⟨its, r', pl, hz⟩ := I.list hq
    have hlen := r'.length
    refine call_tuple_list pl.isList (fun h' kp => ?_) (by simp only [List.size_toArray] <;> omega)
    have I1 : Inv X pins σ H { s with heap := h' } := I.kept (t' := s.toks) kp
    have I2 : Inv X pins σ (upd H h'.objs.size (.tup ys)) { s with heap := h'.push { cls := .type "tuple", data := .seq its.toArray } } :=
      I1.laid (t' := s.toks) (fun b o e => Heap.get?_push_of_some _ e) (Nat.le_refl _) (show ObjOk X.prog X.w _ _ _ (.tup ys) from ⟨hz, its, r', IsTup.new _ _⟩)
    exact ⟨.ref h'.objs.size, _, I2, rfl, q _ (I1.hok.fresh (Nat.le_refl _))⟩
  · obtain ⟨its, r', pl, hz⟩ := I.tuple hq
    exact call_tuple_same pl ⟨.ref p, H, I, rfl, q⟩

/-- the value is of that builtin type -/
def tyV (K : PySem.W.Frag) (T : String) (x : V) (H : Hp) : Prop := match x with
  | .str _ => T = "str"
  | .int _ => T = "int"
  | .ref p => (T = "list" ∧ ∃ xs, SqL K H p xs) ∨ (T = "tuple" ∧ ∃ o, K.lookup p = some o ∧ o.cls = .type "tuple" ∧ o.dict = none) ∨
      (T = "dict" ∧ ((∃ kvs, H p = some (.dK kvs)) ∨ ∃ kvs, H p = some (.dT kvs))) ∨ (T = "set" ∧ ∃ S n, H p = some (.set S n))
  | _ => False
theorem tyV_is {pins : List (Addr × Obj)} {σ : St} {H : Hp} {s : Shared} {T : String} {x : V} {v : Value} (I : Inv X pins σ H s) (r : RelV x v) (ty : tyV X.K T x H) :
    s.TypeIs v T ∧ ∀ a, v = .ref a → ∃ ob, s.heap.get? a = some ob ∧ ob.dict = none := by
  cases x with
  | str z =>
    obtain ⟨t, rfl⟩ := r
    cases (show T = "str" from ty)
    exact ⟨typeIs_str s z t, fun _ e => nomatch e⟩
  | int i =>
    obtain ⟨t, rfl⟩ := r
    cases (show T = "int" from ty)
    exact ⟨typeIs_int s i t, fun _ e => nomatch e⟩
  | ref p =>
    cases r
    rcases ty with ⟨rfl, xs, hq⟩ | ⟨rfl, o, hk, hc, hd⟩ | ⟨rfl, hk⟩ | ⟨rfl, S, n, hk⟩
    · obtain ⟨its, _, pl, _⟩ := I.list hq
      refine ⟨pl.isList.typeIs, fun a e => ?_⟩
      cases e
      obtain ⟨o, n, e, c, hd, _⟩ := pl
      exact ⟨o, e, hd⟩
    · refine ⟨⟨o, I.kIn p o hk, hc⟩, fun a e => ?_⟩
      cases e
      exact ⟨o, I.kIn _ o hk, hd⟩
    · have z : ∃ o, s.heap.get? p = some o ∧ o.ExactDict := by
        rcases hk with ⟨kvs, hk⟩ | ⟨kvs, hk⟩
        · obtain ⟨_, _, _, _, o, _, _, e, ex, _⟩ := I.hok p _ hk
          exact ⟨o, e, ex⟩
        · obtain ⟨_, _, _, _, o, _, _, e, ex, _⟩ := I.hok p _ hk
          exact ⟨o, e, ex⟩
      obtain ⟨o, e, ex⟩ := z
      refine ⟨⟨o, e, ex.1⟩, fun a e2 => ?_⟩
      cases e2
      exact ⟨o, e, ex.2.1⟩
    · obtain ⟨o, _, _, _, e, ex, _⟩ := I.hok p _ hk
      refine ⟨⟨o, e, ex.1⟩, fun a e2 => ?_⟩
      cases e2
      exact ⟨o, e, ex.2.1⟩
  | _ => exact False.elim ty
def tBM0 (K : PySem.W.Frag) (T : String) (r : V → List V → Hp → VK → Prop) (to : TE) : TE := fun σ H Q => to σ H fun x H1 => tyV K T x H1 ∧ r x [] H1 Q
def tBM (K : PySem.W.Frag) (T : String) (r : V → List V → Hp → VK → Prop) (to : TE) (t : TA) : TE := fun σ H Q => to σ H fun x H1 => tyV K T x H1 ∧ t σ H1 fun xs H2 => r x xs H2 Q
variable {o e : Expr} {es : List Expr} {to : TE} {t : TA} {name : Str} {apos cpos : Pos} {T id : String} {r : V → List V → Hp → VK → Prop}
theorem pe_bm0 (pa : PlainAttrs T) (slot : Slot T name id) (hty : typeOf (.builtin id) = pure (.type "method_descriptor")) (hm : MtR X id r) (ho : PE X o to)
    (hbase : attributeBase o name X.env (eval o X.env) = eval o X.env := by rfl) (hline : (apos.endLine == cpos.line) = true := by rfl) : PE X (.Call (.Attribute o name apos) [] [] cpos) (tBM0 X.K T r to) := by
  intro pins s σ H Q I h
  refine wpAny_Call_method0_late hbase hline (thn (ho pins s σ H _ I h) fun v s1 ⟨x, H1, I1, r1, ty, q1⟩ => ?_)
  obtain ⟨h1, h2⟩ := tyV_is I1 r1 ty
  exact ⟨T, id, pa, slot, hty, h1, h2, Calls.callWith_builtin rfl (PySem.evalArgs_none (hm pins s1 σ H1 x [] v [] Q I1 r1 .nil q1))⟩
theorem pe_bm (pa : PlainAttrs T) (slot : Slot T name id) (hty : typeOf (.builtin id) = pure (.type "method_descriptor")) (hm : MtR X id r) (ho : PE X o to) (ha : PA X (e :: es) t)
    (hbase : attributeBase o name X.env (eval o X.env) = eval o X.env := by rfl)
    (hfew : ((backTo cpos (starEach (e :: es) X.env)).all (fun x => !x.1) && (backToKw cpos (keywordEach [] X.env)).all (fun x => x.1.isSome)
      && decide ((e :: es).length + ([] : List Keyword).length + (if ([] : List Keyword).isEmpty then 0 else 1) < 30)) = true := by rfl)
    (hline : (apos.endLine == cpos.line) = true := by rfl) (hs : starEach (e :: es) X.env = (false, eval e X.env) :: starEach es X.env := by rfl) (hplain : (backTo cpos (starEach es X.env)).any (·.1) = false := by rfl) :
    PE X (.Call (.Attribute o name apos) (e :: es) [] cpos) (tBM X.K T r to t) := by
  intro pins s σ H Q I h
  refine wpAny_Call_method_late hbase hfew hline rfl (thn (ho pins s σ H _ I h) fun v s1 ⟨x, H1, I1, r1, ty, q1⟩ => ?_)
  obtain ⟨h1, h2⟩ := tyV_is I1 r1 ty
  refine ⟨T, id, pa, slot, hty, h1, h2, ?_⟩
  have hA := ha cpos pins s1 σ H1 _ I1 q1
  rw [hs] at hA ⊢
  refine Calls.callWith_builtin (by show (false || (backTo cpos (starEach es X.env)).any (·.1)) = false; rw [hplain] <;> rfl) (Calls.evalArgs_plain ?_)
  exact thn hA fun us s2 ⟨vs, H2, I2, r2, q2⟩ => hm pins s2 σ H2 x vs v us Q I2 r1 r2 q2
end
end L2

namespace L2
open PySem PySem.Spec PyProof.Rows

def MtM (X : Cx) (id : String) (r : V → List V → Hp → VK → Prop) : Prop :=
  ∀ (pins : List (Addr × Obj)) (s : Shared) (σ : St) (H : Hp) (x : V) (xs : List V) (v : Value) (us : List Value) (Q : VK), Inv X pins σ H s → RelV x v → Vals xs us → r x xs H Q →
    wpAny (model X.prog X.w) X.A (call (.builtin id) (v :: us)) (EP X pins σ Q) X.xe s

theorem Vals.one : ∀ {x : V} {us : List Value}, Vals [x] us → ∃ u, us = [u] ∧ RelV x u
  | _, _, .cons r .nil => ⟨_, rfl, r⟩
section
variable {X : Cx} {pins : List (Addr × Obj)} {σ : St} {H : Hp} {s : Shared} {l b : Addr} {xs ys zs : List V}

theorem Inv.lset {its its' : List Value} {n : Nat} {f : Array Value → Array Value} {t' : Nat} (I : Inv X pins σ H s) (hH : H l = some (.lst xs))
    (e : s.heap.get? l = some { cls := .type "list", data := .seq its.toArray n }) (hf : f its.toArray = its'.toArray) (hv : Vals ys its') (hz : ys.length ≤ sizeLine) :
    Inv X pins σ (upd H l (.lst ys)) { s with heap := s.heap.update l (Obj.mapSeq f), toks := t' } := by
  have q := PySem.IsL.update e f
  rw [hf] at q
  refine I.write (x := l) (e := l) (by rw [hH]; exact trivial) (.inl rfl) (fun b' u hb hu => (Heap.get?_update_other s.heap (Obj.mapSeq f) (Ne.symm hb)).trans hu) ⟨_, q⟩ ?_
  exact ⟨hz, its', _, hv, q⟩
theorem Inv.lnew {its : List Value} {t' : Nat} (I : Inv X pins σ H s) (hv : Vals ys its) (hz : ys.length ≤ sizeLine) :
    Inv X pins σ (upd H s.heap.objs.size (.lst ys)) { s with heap := s.heap.push { cls := .type "list", data := .seq its.toArray }, toks := t' } :=
  I.laid (fun _ _ q => Heap.get?_push_of_some _ q) (Nat.le_refl _) ⟨hz, its, 0, hv, Heap.get?_push_size _ rfl⟩
theorem Inv.fresh (I : Inv X pins σ H s) : H s.heap.objs.size = none := I.hok.fresh (Nat.le_refl _)
theorem Inv.lstM (I : Inv X pins σ H s) (hH : H l = some (.lst xs)) : xs.length ≤ sizeLine ∧ ∃ (its : List Value) (n : Nat), Vals xs its ∧ xs.length = its.length ∧ s.heap.get? l = some { cls := .type "list", data := .seq its.toArray n } := by
  obtain ⟨z, its, n, r, e⟩ := I.hok l _ hH
  exact ⟨z, its, n, r, r.length, e⟩

theorem notLongL {n : Nat} (h : n ≤ sizeLine) : Builtin.List.listTooLong n = false := by
  unfold Builtin.List.listTooLong
  exact decide_eq_false (by omega)
end

section
variable {X : Cx}

def rAppend : V → List V → Hp → VK → Prop := fun x vs H Q => ∃ l xs y, x = .ref l ∧ vs = [y] ∧ H l = some (.lst xs) ∧ xs.length < sizeLine ∧ Q .non (upd H l (.lst (xs ++ [y])))
theorem mt_append : MtM X "list.append" rAppend := by
  intro pins s σ H x vs v us Q I rx rv h
  obtain ⟨l, xs, y, rfl, rfl, hH, hz, q⟩ := h
  cases rx
  obtain ⟨u, rfl, ru⟩ := rv.one
  obtain ⟨z, its, n, r, hl, e⟩ := I.lstM hH
  refine call_meets F.slot_list_append ⟨_, e, rfl⟩ F.entry_list_append (F.args_list_append_2 _ _) (PySem.list_append l its.toArray n u (by rw [List.size_toArray]; omega)) ⟨e, ?_⟩
  refine ⟨.non, _, I.lset (its' := its ++ [u]) hH e (by simp) (r.append (.cons ru .nil)) ?_, rfl, q⟩
  rw [List.length_append, List.length_singleton]
  omega

def rCat : R2 := fun x y H Q => ∃ l b xs zs, x = .ref l ∧ y = .ref b ∧ H l = some (.lst xs) ∧ H b = some (.lst zs) ∧ xs.length + zs.length ≤ sizeLine ∧ ∀ p, H p = none → Q (.ref p) (upd H p (.lst (xs ++ zs)))
theorem op_cat : OpR X (binaryOp .Add) rCat := by
  intro pins s σ H x y v u Q I rx ry h
  obtain ⟨l, b, xs, zs, rfl, rfl, hH, hB, hz, q⟩ := h
  cases rx
  cases ry
  obtain ⟨z, its, n, r, hl, e⟩ := I.lstM hH
  obtain ⟨z2, its2, n2, r2, hl2, e2⟩ := I.lstM hB
  refine PySem.P.add_list e e2 ?_ (by rw [List.size_toArray, List.size_toArray]; omega)
  have ea : its.toArray ++ its2.toArray = (its ++ its2).toArray := by simp
  rw [ea]
  exact ⟨.ref _, _, I.lnew (t' := s.toks) (r.append r2) (by rw [List.length_append]; omega), rfl, q _ I.fresh⟩
end

section
variable {prog : Program} {w : World} {A : Around} {E : Value → Shared → Prop} {s : Shared}
end

section
variable {X : Cx}
end
end L2

namespace Att
open PySem PySem.W PySem.Calls PyProof.Rows

theorem ints_of_wellAll {P : Params} {h : Heap} : ∀ (ns : List Int) (vs : List Value), WellAll P h vs (ns.map WData.int) → IntsAre vs ns := by
  intro ns
  induction ns with
  | nil =>
    intro vs w
    rw [List.map_nil] at w
    cases w
    exact .nil
  | cons n ns ih =>
    intro vs w
    rw [List.map_cons] at w
    cases w with
    | cons a b =>
      cases a
      exact .cons _ _ (ih _ b)

theorem script_of {l : OpenLaw} {n : Nat} (hn : l.most = some n) {P : Params} {h : Heap} {args : List WData} {vals : List Value}
    (hpre : l.row.toRowW.claim.pre args = true) (hwl : WellAll P h vals args) :
    ∃ a vs ns, vals = [Value.ref a] ∧ args = [WData.list (ns.map WData.int)] ∧ h.get? a = some { cls := .type "list", data := .seq vs.toArray } ∧ IntsAre vs ns ∧ ns.length ≤ n := by
  have hsh : WShape.hasAll [] args [.list .int] = true := (pre_splitW hpre).1
  have hc : l.pre.holds [] { args := args } = true := (pre_splitW hpre).2
  obtain ⟨d, r, rfl, h1, h2⟩ := hasAllW_cons hsh
  obtain rfl := hasAllW_nil h2
  obtain ⟨xs, rfl, h3⟩ := hasW_list h1
  obtain ⟨ns, rfl⟩ := items_int h3
  have hlen : ns.length ≤ n := by
    unfold OpenLaw.pre at hc
    have h4 : (WTm.not (.lt (.lit (.int (n : Int))) (.len (.arg 0)))).holds [] { args := [.list (ns.map .int)] } = true := by
      have h4 := (holds_andW hc).1
      rw [hn] at h4
      exact h4
    have h5 := condW_of h4 (w_not (w_lt w_lit (w_len_list (w_arg rfl))))
    rw [List.length_map] at h5
    refine Nat.le_of_not_lt fun q => ?_
    have q' : (n : Int) < ((ns.length : Nat) : Int) := by omega
    first
      | (rw [decide_eq_true q'] at h5; exact absurd h5 (by decide))
      | (simp at h5; omega)
  cases hwl with
  | cons w1 w2 =>
    cases w2
    cases w1 with
    | list ho hall => exact ⟨_, _, ns, rfl, rfl, ho, ints_of_wellAll ns _ hall, hlen⟩

theorem post_true (l : OpenLaw) (args : List WData) : l.row.toRowW.claim.post args (.bool true) args = true :=
  postW_of (r := l.row.toRowW) (X := (true == true))
    (show WShape.has [] (.bool true) .bool = true by first | rfl | decide | simp [WShape.has, WShape.arms, WShape.armsAll])
    (show (WTm.eq .res (.lit (.bool true))).value [] { args := args, res := some (.bool true), after := args } = some (.bool (true == true)) from w_eq_bool (w_res rfl) w_lit) rfl

/-- the same from a codeAny of the CALL (for a layer whose function contracts speak of calls) -/
theorem attach_call {l : OpenLaw} {n : Nat} {q : Program} {loose : List Str} {XP : (Str → Option Value) → Heap → Prop} {YP : World → Heap → Prop} {d : DefRec}
    (hn : l.most = some n) (hdf : d.params.defaults = [])
    (call : ∀ (w : World) (s₀ s₁ : Shared) (mg mb : Str → Option Value) (fa : Addr) (o : Obj) (pm cd doc : Value) (a : Addr) (vs : List Value) (ns : List Int),
      Ground q loose [] XP w s₀ mg mb s₁.heap → YP w s₁.heap →
      s₁.heap.get? fa = some o → o.data = .func (docDef d.name d.params d.body d.scope pm cd doc) → s₁.heap.CodeRec cd d.name → mg d.name = some (.ref fa) →
      s₁.heap.get? a = some { cls := .type "list", data := .seq vs.toArray } → IntsAre vs ns → ns.length ≤ n → s₁.gens = #[] →
      codeAny (model l.prog w) callerA (.call (.ref fa) ⟨[.ref a], []⟩) (fun r s' => r = .ok (.ret (.bool true)) ∧ OldK s₁.heap s'.heap ∧ s'.os = s₁.os ∧ AllBare s'.gens) s₁) :
    WalkO q loose XP YP l.row.toRowW d [] (fun f vs => PySem.call f vs) := by
  intro w s₀ s₁ mg mb G Y fa o pm cd doc dV kV ho hd hcd hD hmg hg args vals as hpre hlay hrd hwl hlo
  obtain rfl : dV = .none := Dflts.none hD hdf
  obtain rfl : kV = .none := Dflts.noKw hD
  obtain ⟨a, vs, ns, rfl, rfl, hobj, hints, hlen⟩ := script_of hn hpre hwl
  refine enter_call (codeAny_mono (call w s₀ s₁ mg mb fa o pm cd doc a vs ns G Y ho (fd_plain hd) hcd hmg hobj hints hlen hg) fun r s' hq => ?_)
  obtain ⟨rfl, h2, h3, h4⟩ := hq
  exact ⟨.inl ⟨.bool true, .bool true, [], rfl, fun _ => rfl, .bool true, post_true l _, fun _ => ⟨List.Pairwise.nil, fun _ hm => (nomatch hm)⟩⟩, h2, h3, h4⟩

section
variable {prog : Program} {w : World} {A : Around} {E : Value → Shared → Prop} {s : Shared} {K : Frag}

end
end Att

namespace L2
open PySem PySem.Spec PyProof.Rows

theorem vals_ints : ∀ {vs : List Value} {ns : List Int}, IntsAre vs ns → Vals (ns.map V.int) vs
  | _, _, .nil => .nil
  | _, _, .cons n t h => .cons ⟨t, rfl⟩ (vals_ints h)

/-- nothing is tracked but the script, known to the object (or it is an object of the module) -/
def Only (H : Hp) : Prop := ∀ b, H b = none ∨ ∃ o xs, H b = some (.frz o (.lst xs))

/-- THE HEAD: the law's promise, at the heap behind the top. F, the promise of the law's def, may use that base is part of the heap (so K.In base, base.Ns mainGlobals mg stand in Mod) -/
theorem law_call {P : Program} {w : World} {K : PySem.W.Frag} {mg mb : Str → Option Value} {CX : CXT} {k : Nat} {fa a : Addr} {fd : FuncData} {x : Str} {sp : Sp} {s₁ : Shared} {vs : List Value} {ns : List Int}
    (KX : K.In s₁.heap) (hns : s₁.heap.Ns mainGlobals mg) (hb : s₁.heap.Ns builtinsNs mb) (hbb : ∀ x : Str, x ≠ "__name__" → mb x = bootBuiltins x) (hlim : s₁.heap.NoLimit) (hg : s₁.gens = #[])
    (ha : s₁.heap.get? a = some { cls := .type "list", data := .seq vs.toArray }) (hi : IntsAre vs ns) (hl : ns.length ≤ sizeLine) (hr : Room k callerA)
    (F : ∀ base : Heap, K.In base → base.Ns mainGlobals mg → FnOk P w K mg base CX k fa fd [x] sp) (hbind : ∀ (s : Shared) (u : Value), BindsTo s fd ⟨[u], []⟩ [(x, u)])
    (hsp : ∀ H : Hp, Only H → SqL K H a (ns.map V.int) → sp [.ref a] H (fun v _ => v = .bl true) fun _ _ _ => False)
    (hCX : ∀ H e s', CX [] H s₁ (fun _ _ _ => False) e s' → False) :
    codeAny (model P w) callerA (.call (.ref fa) ⟨[.ref a], []⟩) (fun r s' => r = .ok (.ret (.bool true)) ∧ OldK s₁.heap s'.heap ∧ s'.os = s₁.os ∧ AllBare s'.gens) s₁ := by
  have rv := vals_ints hi
  have lenV := hi.length
  -- from an abstract heap in which nothing but the script may be tracked
  have core : ∀ H : Hp, Only H → SqL K H a (ns.map V.int) → HOk P w H s₁.heap → (∀ b, H b ≠ none → b = a) → (H a ≠ none → K.lookup a = none) →
      codeAny (model P w) callerA (.call (.ref fa) ⟨[.ref a], []⟩) (fun r s' => r = .ok (.ret (.bool true)) ∧ OldK s₁.heap s'.heap ∧ s'.os = s₁.os ∧ AllBare s'.gens) s₁ := by
    intro H hO hS hok hA hK
    have base_of : ∀ {b : Addr} {o : Obj}, s₁.heap.get? b = some o → H b = none → (hidT s₁.heap H).get? b = some o := fun e n => hidT_get e n
    have noA : ∀ {b : Addr} {o : Obj} {es : Array DictEntry} {ep : Nat}, s₁.heap.get? b = some o → o.data = .dict es ep → H b = none := fun {b o es ep} e d => by
      cases q : H b with
      | none => rfl
      | some u =>
        have e' : b = a := hA b (by rw [q]; simp)
        subst e'
        rw [ha] at e; cases e
        have d' : Data.seq vs.toArray _ = Data.dict es ep := d
        cases d'
    have nsK : ∀ {b : Addr} {m : Str → Option Value}, s₁.heap.Ns b m → (hidT s₁.heap H).Ns b m := fun {b m} ⟨o, es, ep, e, d, r⟩ => ⟨o, es, ep, base_of e (noA e d), d, r⟩
    have hKb : K.In (hidT s₁.heap H) := fun b o e => base_of (KX b o e) (by
      cases q : H b with
      | none => rfl
      | some u =>
        have e' : b = a := hA b (by rw [q]; simp)
        subst e'
        rw [hK (by rw [q]; simp)] at e; cases e)
    have hM : Mod K mg (hidT s₁.heap H) := ⟨hKb, nsK hns, ⟨mb, nsK hb, hbb⟩, let ⟨mc, h1, h2⟩ := hlim; ⟨mc, nsK h1, h2⟩⟩
    have e0 : Env0 P w K mg (hidT s₁.heap H) callerA [] s₁ H := ⟨rfl, hM, fun b o e => of_hidT e, Nat.le_of_eq (hidT_size _ _), trivial, fun b hb => absurd (show b ∈ ([] : List Addr) from hb) (by simp), hok, .of_eq hg⟩
    refine codeAny_mono ((F _ hKb (nsK hns)).run callerA [] s₁ H ⟨[.ref a], []⟩ [.ref a] [.ref a] _ _ hr e0 (hbind s₁ (.ref a)) (.cons rfl .nil) (hsp H hO hS)) fun r s' h => ?_
    cases r with
    | error e => exact (hCX H e s' h).elim
    | ok fl =>
      cases fl with
      | next => exact False.elim h
      | brk => exact False.elim h
      | cont => exact False.elim h
      | ret u =>
        obtain ⟨v, H', os, bare, un, hok', r', q⟩ := h
        have q' : v = .bl true := q
        subst q'
        obtain rfl : u = Value.bool true := r'
        refine ⟨rfl, OldK.of_keep fun b o e => ?_, os, bare⟩
        cases q : H b with
        | none => exact un.keep b o e q (by intro z; exact absurd (show b ∈ ([] : List Addr) from z) (by simp)) (by simp)
        | some u =>
          rcases hO b with z | ⟨ob, xs, z⟩
          · rw [q] at z; cases z
          · have z2 := un.frzs b ob _ z
            obtain ⟨e1, _⟩ := hok b _ z
            obtain ⟨e2, _⟩ := hok' b _ z2
            rw [e] at e1; cases e1
            exact e2
  cases hk : K.lookup a with
  | some o =>
    -- the script is one of the module's own objects
    have e := KX a o hk
    rw [ha] at e
    cases e
    refine core (fun _ => none) (fun _ => .inl rfl) (.inr ⟨_, vs.toArray, _, hk, rfl, rfl, rfl, by rw [List.size_toArray, lenV]; exact hl, by simpa using rv⟩) (fun b u z => by have z' : (none : Option HO) = some u := z; cases z') (fun b z => absurd rfl z) fun z => absurd rfl z
  | none =>
    refine core (fun b => if b = a then some (.frz { cls := .type "list", data := .seq vs.toArray } (.lst (ns.map V.int))) else none) (fun b => ?_) (.inl (.inr ⟨{ cls := .type "list", data := .seq vs.toArray }, if_pos rfl⟩)) (fun b u z => ?_) (fun b z => ?_) fun _ => hk
    · by_cases hb : b = a
      · exact .inr ⟨_, _, if_pos hb⟩
      · exact .inl (if_neg hb)
    · by_cases hb : b = a
      · have z' := (if_pos hb).symm.trans z
        cases z'
        subst hb
        exact ⟨ha, by rw [List.length_map]; exact hl, vs, _, rv, ha⟩
      · have z' := (if_neg hb).symm.trans z
        cases z'
    · by_cases hb : b = a
      · exact hb
      · exact absurd (if_neg hb) z
end L2

namespace L2
open PySem PySem.Spec PyProof.Rows

/-- the goal that k_head leaves (case hc), from the law's promise. F gives the function object fd (K's own) once, then the promise over every base -/
theorem walk_of {l : PySem.W.OpenLaw} {n k : Nat} {q : Program} {loose : List Str} {XP : (Str → Option Value) → Heap → Prop} {YP : World → Heap → Prop} {d : DefRec} {K : Params → PySem.W.Frag} {CX : World → CXT} {sp : World → Sp} {x : Str}
    (hn : l.most = some n) (hn2 : n ≤ sizeLine) (hdf : d.params.defaults = []) (hr : Room k callerA)
    (hY : ∀ (w : World) (h : Heap), YP w h → (K w.params).In h)
    (F : ∀ (w : World) (mg : Str → Option Value) (fa : Addr) (h : Heap), (K w.params).In h → h.Ns mainGlobals mg → mg d.name = some (.ref fa) →
      ∃ fd : FuncData, (∀ (s : Shared) (u : Value), BindsTo s fd ⟨[u], []⟩ [(x, u)]) ∧
        ∀ base : Heap, (K w.params).In base → base.Ns mainGlobals mg → FnOk l.prog w (K w.params) mg base (CX w) k fa fd [x] (sp w))
    (hsp : ∀ (w : World) (H : Hp) (a : Addr) (ns : List Int), ns.length ≤ n → Only H → SqL (K w.params) H a (ns.map V.int) → sp w [.ref a] H (fun v _ => v = .bl true) fun _ _ _ => False)
    (hCX : ∀ (w : World) (H : Hp) (s : Shared) (e : Value) (s' : Shared), CX w [] H s (fun _ _ _ => False) e s' → False) :
    PySem.W.WalkO q loose XP YP l.row.toRowW d [] (fun f vs => PySem.call f vs) := by
  refine Att.attach_call hn hdf fun w s₀ s₁ mg mb fa o pm cd doc a vs ns G Y ho hd hcd hmg hobj hints hlen hg => ?_
  have KX := hY w _ Y
  obtain ⟨fd, hb, hF⟩ := F w mg fa _ KX G.T.g hmg
  exact law_call KX G.T.g G.T.b G.T.builtins G.T.nolimit hg hobj hints (Nat.le_trans hlen hn2) hr hF hb (fun H hO hS => hsp w H a ns hlen hO hS) fun H e s' => hCX w H s₁ e s'
end L2

namespace L2
open PySem PySem.Spec PyProof.Rows

def defArgs (s : Stmt) : Arguments := match s with
  | .FunctionDef _ a _ _ _ _ _ _ _ _ => a
  | _ => { posonlyargs := [], args := [], vararg := none, kwonlyargs := [], kw_defaults := [], kwarg := none, defaults := [] }
def defBody (s : Stmt) : List Stmt := match s with
  | .FunctionDef _ _ b _ _ _ _ _ _ _ => b
  | _ => []
def defScope (s : Stmt) : Scope := match s with
  | .FunctionDef _ _ _ _ _ _ sc _ _ _ => sc
  | _ => { kind := .function, names := [], isGenerator := false, isCoroutine := false }

abbrev CX0 : CXT := fun _ _ _ _ _ _ => False
abbrev E0 : XK := fun _ _ _ => False
theorem pass0 {X : Cx} : Passes CX0 X E0 := fun _ _ _ _ _ _ _ h => h.elim

structure Fun (K : PySem.W.Frag) (x qual : Str) (st : Stmt) (f : Addr) (fd : FuncData) : Prop where
  ex : ∃ (oc : Value) (od : Option Addr) (kV doc pm : Value) (an : Option Addr) (cdv ct : Value) (osl : Array (Option Value)),
    fd = PySem.W.fnOf x qual (defArgs st) (defBody st) (defScope st) .none kV doc pm an cdv ct ∧ K.lookup f = some ⟨oc, od, .func fd, osl⟩ ∧ PySem.W.codeIn K cdv qual = true
  kp : PySem.W.keepIn K (.ref f) = true
section
variable {P : Program} {w : World} {K : PySem.W.Frag} {mg : Str → Option Value} {base : Heap}
/-- THE RULE for a def: its body as a term of rules, and the reading of that term -/
theorem Fun.ok {x qual : Str} {st : Stmt} {f : Addr} {fd : FuncData} {N ps : List Str} {k : Nat} {sp : Sp} (F : Fun K x qual st f fd) (S : FnScope N ps (defScope st)) (len : ∀ vs H Q E, sp vs H Q E → vs.length = ps.length)
    (hbody : ∀ (cdv : Value) (A : Around) (outer : List Env) (s : Shared) (H : Hp) (vs : List V) (Q : VK) (E : XK), Room k (A.deeper (envOfC qual (defScope st) s.heap.objs.size f cdv)) → sp vs H Q E →
      ∃ t, PSs (cxOf CX0 P w K mg base N qual (defScope st) f cdv A outer s H E).nox (defBody st) t ∧ t { nx := fun _ H' => Q .non H', rt := Q } (start N vs) H) : FnOk P w K mg base CX0 (k + 1) f fd ps sp := by
  obtain ⟨oc, od, kV, doc, pm, an, cdv, ct, osl, rfl, lk, hcd⟩ := F.ex
  refine fn_of lk hcd S len fun A outer s H vs Q E hr hsp => ?_
  obtain ⟨t, h, q⟩ := hbody cdv A outer s H vs Q E hr hsp
  exact ⟨t, h.nox, q⟩
/-- how its arguments bind (no defaults): h is «fun _ _ _ _ _ _ us hl => match us, hl with | [_, _], _ => rfl», one _ a parameter -/
theorem Fun.binds {x qual : Str} {st : Stmt} {f : Addr} {fd : FuncData} {ps : List Str} (F : Fun K x qual st f fd)
    (h : ∀ (kV doc pm : Value) (an : Option Addr) (cdv ct : Value) (us : List Value), us.length = ps.length → bindArgs (PySem.W.fnOf x qual (defArgs st) (defBody st) (defScope st) .none kV doc pm an cdv ct) ⟨us, []⟩ = pure (ps.zip us)) : Binds K fd ps [] := by
  obtain ⟨oc, od, kV, doc, pm, an, cdv, ct, osl, rfl, lk, hcd⟩ := F.ex
  exact .all (h kV doc pm an cdv ct)
theorem fun_mk {x qual : Str} {st : Stmt} {f : Addr} {oc : Value} {od an : Option Addr} {osl : Array (Option Value)} {kV doc pm cdv ct : Value} (l : K.lookup f = some ⟨oc, od, .func (PySem.W.fnOf x qual (defArgs st) (defBody st) (defScope st) .none kV doc pm an cdv ct), osl⟩)
    (c : PySem.W.codeIn K cdv qual = true) (k : PySem.W.keepIn K (.ref f) = true) : Fun K x qual st f (PySem.W.fnOf x qual (defArgs st) (defBody st) (defScope st) .none kV doc pm an cdv ct) := ⟨⟨oc, od, kV, doc, pm, an, cdv, ct, osl, rfl, l, c⟩, k⟩
end
theorem hu_of {A : Around} {k : Nat} (hr : Room k A) : A.units + 1 < cLine := Nat.lt_of_le_of_lt (Nat.add_le_add_left (by decide : 1 ≤ 64) _) hr.units
theorem small1000 {n : Nat} (h : n ≤ 1000) : n < sizeLine := Nat.lt_of_le_of_lt h (by decide)

section
variable {X : Cx}
theorem pv (i : Nat) {x : Str} {pos : Pos} (hN : X.N[i]? = some x := by rfl) (hv : Vis X.env.scope x := by first | exact Or.inl rfl | exact Or.inr (Or.inl rfl) | exact Or.inr (Or.inr rfl)) (hd : (x == ("__debug__" : Str)) = false := by decide)
    (hcd : (x == ("__classdict__" : Str)) = false := by decide) : PE X (.Name x pos) (tVar i) := pe_var hN hv hd hcd
end

theorem iteF {A B : Prop} (h : B) : if false = true then A else B := by
  rw [if_neg Bool.false_ne_true]
  exact h
theorem iteT {A B : Prop} (h : A) : if true = true then A else B := by
  rw [if_pos rfl]
  exact h
theorem ite2 {c A B : Prop} [Decidable c] (h1 : c → A) (h2 : ¬ c → B) : if c then A else B := by
  by_cases h : c
  · rw [if_pos h]
    exact h1 h
  · rw [if_neg h]
    exact h2 h
/-- all that was tracked is as it was -/
def Same (H H' : Hp) : Prop := ∀ b o, H b = some o → H' b = some o
theorem Same.trans {H H1 H2 : Hp} (a : Same H H1) (b : Same H1 H2) : Same H H2 := fun c o h => b c o (a c o h)
theorem Same.seq {K : PySem.W.Frag} {H H' : Hp} {a : Addr} {xs : List V} (e : Same H H') (h : SqL K H a xs) : SqL K H' a xs := by
  rcases h with (h | ⟨o, h⟩) | h
  · exact .inl (.inl (e _ _ h))
  · exact .inl (.inr ⟨o, e _ _ h⟩)
  · exact .inr h

end L2


set_option Elab.async false
set_option linter.all false
set_option maxRecDepth 100000
namespace L2
open PySem PySem.Spec PyProof.Rows

/-- the cells that a block closes over -/
def closOf (cells : List (Str × Addr)) : List (Str × NameKind) → List (Str × Addr) → List (Str × Addr)
  | [], cs => cs
  | (n, k) :: r, cs => if k == .free then closOf cells r ((n, (cells.lookup n).getD 0) :: cs) else closOf cells r cs
theorem closureFor_go {env : Env} : ∀ (names : List (Str × NameKind)) (cs : List (Str × Addr)), (∀ x ∈ names, x.2 = .free → ∃ c, env.cells.lookup x.1 = some c) →
    (forIn names cs fun (x : Str × NameKind) (r : List (Str × Addr)) => (match x with | (name, kind) => if (kind == .free) = true then do let c ← cellOf env name; pure (ForInStep.yield ((name, c) :: r)) else pure (ForInStep.yield r) : Sem (ForInStep (List (Str × Addr))))) = (pure (closOf env.cells names cs) : Sem (List (Str × Addr)))
  | [], cs, _ => rfl
  | (n, k) :: r, cs, h => by
    rw [List.forIn_cons]
    have hr : ∀ x ∈ r, x.2 = .free → ∃ c, env.cells.lookup x.1 = some c := fun x hx => h x (List.mem_cons_of_mem _ hx)
    by_cases hk : (k == NameKind.free) = true
    · obtain ⟨c, hc⟩ := h (n, k) List.mem_cons_self (by simpa using hk)
      have e : cellOf env n = pure c := by unfold cellOf; rw [hc]
      simp only [hk, ↓reduceIte, e, pure_bind]
      rw [closureFor_go r _ hr]
      simp only [closOf, hk, ↓reduceIte, hc, Option.getD_some]
    · simp only [hk, ↓reduceIte, Bool.false_eq_true, pure_bind]
      rw [closureFor_go r _ hr]
      simp only [closOf, hk, ↓reduceIte, Bool.false_eq_true]
theorem closureFor_eq {env : Env} {scope : Scope} (h : ∀ x ∈ scope.names, x.2 = .free → ∃ c, env.cells.lookup x.1 = some c) : closureFor scope env = pure (closOf env.cells scope.names []) := by
  unfold closureFor
  have e := closureFor_go (env := env) scope.names [] h
  simp only [bind_pure] 
  exact e
theorem closOf_look {cells : List (Str × Addr)} {x : Str} {c : Addr} : ∀ (names : List (Str × NameKind)) (cs : List (Str × Addr)), (∀ y ∈ names, y.2 = .free → ∃ c, cells.lookup y.1 = some c) → (∀ c, cs.lookup x = some c → cells.lookup x = some c) →
    (closOf cells names cs).lookup x = some c → cells.lookup x = some c
  | [], cs, _, h, e => h c e
  | (n, k) :: r, cs, hh, h, e => by
    have hr : ∀ x ∈ r, x.2 = .free → ∃ c, cells.lookup x.1 = some c := fun x hx => hh x (List.mem_cons_of_mem _ hx)
    by_cases hk : (k == NameKind.free) = true
    · simp only [closOf, hk, if_true] at e
      refine closOf_look r _ hr (fun c' e' => ?_) e
      rw [List.lookup_cons] at e'
      obtain ⟨c0, hc0⟩ := hh (n, k) List.mem_cons_self (by simpa using hk)
      cases hx : x == n with
      | true =>
        rw [hx] at e'
        have hxn : x = n := by simpa using hx
        subst hxn
        have hc0' : cells.lookup x = some c0 := hc0
        rw [hc0'] at e'
        simp only [Option.getD_some] at e'
        rw [hc0']; exact e'
      | false => rw [hx] at e'; exact h c' e'
    · simp only [closOf, hk, if_false] at e
      exact closOf_look r cs hr h e
theorem closOf_keep {cells : List (Str × Addr)} {x : Str} : ∀ (names : List (Str × NameKind)) (cs : List (Str × Addr)), (∃ c, cs.lookup x = some c) → ∃ c, (closOf cells names cs).lookup x = some c
  | [], cs, h => h
  | (n, k) :: r, cs, ⟨c, h⟩ => by
    by_cases hk : (k == NameKind.free) = true
    · simp only [closOf, hk, if_true]
      refine closOf_keep r _ ?_
      rw [List.lookup_cons]
      cases hx : x == n with
      | true => exact ⟨_, rfl⟩
      | false => exact ⟨c, h⟩
    · simp only [closOf, hk, if_false]
      exact closOf_keep r cs ⟨c, h⟩
theorem closOf_has {cells : List (Str × Addr)} {x : Str} : ∀ (names : List (Str × NameKind)) (cs : List (Str × Addr)), names.lookup x = some .free → ∃ c, (closOf cells names cs).lookup x = some c
  | [], cs, h => by simp at h
  | (n, k) :: r, cs, h => by
    rw [List.lookup_cons] at h
    cases hx : x == n with
    | true =>
      rw [hx] at h
      cases h
      simp only [closOf, beq_self_eq_true, if_true]
      refine closOf_keep r _ ⟨(cells.lookup n).getD 0, ?_⟩
      rw [List.lookup_cons, hx]
    | false =>
      rw [hx] at h
      by_cases hk : (k == NameKind.free) = true
      · simp only [closOf, hk, if_true]
        exact closOf_has r _ h
      · simp only [closOf, hk, if_false]
        exact closOf_has r cs h

/-- what a relabelled block's name was -/
theorem relabel_look {env : Env} : ∀ {names : List (Str × NameKind)} {x : Str} {k : NameKind},
    (names.map fun (n, k) => if (k == NameKind.free && env.scope.kind == .function && env.kindOf n == some .cell) then (n, NameKind.cell) else (n, k)).lookup x = some k → k = .cell ∨ k = .free →
    (∀ y ∈ names, y.2 ≠ .cell) → names.lookup x = some .free
  | [], _, _, h, _, _ => by simp at h
  | (n, k') :: r, x, k, h, hk, hc => by
    have ih := @relabel_look env r x k
    have hc' : ∀ y ∈ r, y.2 ≠ .cell := fun y hy => hc y (List.mem_cons_of_mem _ hy)
    have hc0 : k' ≠ .cell := hc (n, k') List.mem_cons_self
    have h : List.lookup x ((if (k' == NameKind.free && env.scope.kind == .function && env.kindOf n == some .cell) = true then (n, NameKind.cell) else (n, k')) :: _) = _ := h
    cases hx : x == n with
    | true =>
      rw [List.lookup_cons, hx]
      by_cases hq : (k' == NameKind.free && env.scope.kind == .function && env.kindOf n == some .cell) = true
      · have : (k' == NameKind.free) = true := by
          cases hz : (k' == NameKind.free)
          · rw [hz] at hq; simp at hq
          · rfl
        have e : k' = .free := by simpa using this
        rw [e]
      · rw [if_neg hq] at h
        simp only [List.lookup_cons, hx] at h
        cases h
        rcases hk with e | e
        · exact absurd e hc0
        · rw [e]
    | false =>
      rw [List.lookup_cons, hx]
      refine ih ?_ hk hc'
      by_cases hq : (k' == NameKind.free && env.scope.kind == .function && env.kindOf n == some .cell) = true
      · rw [if_pos hq] at h; simp only [List.lookup_cons, hx] at h; exact h
      · rw [if_neg hq] at h; simp only [List.lookup_cons, hx] at h; exact h

/-- the block's context -/
def compCx (X : Cx) (scope : Scope) (N' : List Str) (C : Addr) (fp : List Addr) (s : Shared) (H : Hp) : Cx :=
  { prog := X.prog, w := X.w, K := X.K, mg := X.mg, base := X.base, A := X.A, N := N', s₀ := s, H₀ := H, env := compEnvC scope (closOf X.env.cells scope.names []) C X.env,
    outer := X.stack, stack := X.stack, ex := fp, fn := fun _ => false, calm := X.calm, pn := [], xe := fun _ _ => False }

/-- a target that writes its own slots alone -/
def GOwn (own : List Nat) (g : TG) : Prop := ∀ v σ H Q, g v σ H Q → g v σ H fun σ' H' => Q σ' H' ∧ σ'.length = σ.length ∧ ∀ i, i ∉ own → σ'[i]? = σ[i]?
theorem own_name (j : Nat) : GOwn [j] (gName j) := fun v σ H Q h => ⟨h, by simp, fun i hi => by
  have : j ≠ i := fun e => hi (by simp [e])
  rw [List.getElem?_set_ne this]⟩
/-- a block's tests -/
def PTs (X : Cx) (ifs : List Expr) (t : TT) : Prop :=
  ∀ (pins : List (Addr × Obj)) (s : Shared) (σ : St) (H : Hp) (Q : Bool → Hp → Prop), Inv X pins σ H s → t σ H Q →
    wpAny (model X.prog X.w) X.A (forIn ifs true fun c r => if r = true then do let ok ← isTrue c X.env (eval c X.env); pure (ForInStep.yield ok) else pure (ForInStep.yield r)) (TP X pins σ Q) X.xe s
def tYes : TT := fun _ H Q => Q true H
theorem pts_nil {X : Cx} : PTs X [] tYes := fun _ _ _ H _ I h => wpAny_tests_nil ⟨H, I, h⟩
/-- one turn after another -/
theorem compLoop_any {prog : Program} {w : World} {A : Around} {R : Result → Shared → Prop} {s : Shared} {elt target iter : Expr} {ifs : List Expr} {scope : Scope} {pos : Pos} {it acc : Value} {env : Env} (I : Nat → Shared → Prop)
    (turn : ∀ n s, I n s → wpAny (model prog w) A (pyNext it) (fun r s₁ => match r with
      | none => R (.ok .next) s₁
      | some v => wpAny (model prog w) A (letOwnedTupleGo target it v) (fun _ s₁' => wpAny (model prog w) A (assign target env v) (fun _ s₂ =>
          wpAny (model prog w) A (forIn ifs true fun c r => if r = true then do let ok ← isTrue c env (eval c env); pure (ForInStep.yield ok) else pure (ForInStep.yield r)) (fun ok s₃ =>
            if ok = true then wpAny (model prog w) A (eval elt env) (fun x s₄ =>
              wpAny (model prog w) A (call (.builtin "list.append") [acc, x]) (fun _ s₅ => ∃ m, m < n ∧ I m s₅) (fun _ _ => False) s₄) (fun _ _ => False) s₃
            else ∃ m, m < n ∧ I m s₃) (fun _ _ => False) s₂) (fun _ _ => False) s₁') (fun _ _ => False) s₁) (fun _ _ => False) s)
    (n : Nat) (h : I n s) : codeAny (model prog w) A (.compLoop (.ListComp elt [⟨target, iter, ifs, 0⟩] scope pos) 0 it acc env) R s := by
  refine codeAny_loop rfl I (fun n s hI => ?_) n h
  show wpAny _ A ((compTurn (.ListComp elt [⟨target, iter, ifs, 0⟩] scope pos) 0 it acc env).onRaise (fun x => do noteFrame x env; theTreesLotGoes x)) _ _ s
  refine wpAny_noted ?_
  rw [compTurn_list]
  refine wpAny_bind (wpAny_standAt (wpAny_bind (wpAny_mono (turn n s hI) (fun r s₁ h₁ => ?_) fun _ _ h' => h'.elim)))
  cases r with
  | none => exact wpAny_pure h₁
  | some v =>
    refine wpAny_bind (wpAny_mono h₁ (fun _ s₁' h₁' => ?_) fun _ _ h' => h'.elim)
    refine wpAny_bind (wpAny_mono h₁' (fun _ s₂ h₂ => wpAny_bind (wpAny_mono h₂ (fun ok s₃ h₃ => ?_) fun _ _ h' => h'.elim)) fun _ _ h' => h'.elim)
    cases ok with
    | false => exact wpAny_pure ⟨rfl, h₃⟩
    | true =>
      exact wpAny_bind (wpAny_bind (wpAny_mono h₃ (fun x s₄ h₄ => wpAny_bind (wpAny_mono h₄ (fun _ s₅ h₅ => wpAny_pure (wpAny_pure ⟨rfl, h₅⟩)) fun _ _ h' => h'.elim)) fun _ _ h' => h'.elim))

/-- the block's slots at each turn's start: outer names' values, its own none -/
def inner (fr : List (Option Nat)) (σ : St) : St := fr.map fun o => o.bind fun j => (σ[j]?).join
/-- the reading: W is the invariant by the turn, a measure, the items so far -/
def CGoal (J : It) (fr : List (Option Nat)) (g : TG) (ti : TT) (te : TE) (σ : St) (H1 : Hp) (l : Addr) (Q : VK) : Prop :=
  ∃ W : Nat → Nat → List V → Hp → Prop, (∃ m, W 0 m [] (upd H1 l (.lst []))) ∧ ∀ i m ys H', W i m ys H' →
    (J.stop i H' ∧ Q (.ref l) H') ∨ (J.go i H' ∧ ∃ N : List V → Hp → Prop, (∀ zs H'', N zs H'' → ∃ m', m' < m ∧ W (i + 1) m' zs H'') ∧ ∀ x H2, J.yld i H' x H2 → g x (inner fr σ) H2 fun σ3 H3 => ti σ3 H3 fun b H4 => if b = true then
      te σ3 H4 fun y H5 => H5 l = some (.lst ys) ∧ ys.length < sizeLine ∧ N (ys ++ [y]) (upd H5 l (.lst (ys ++ [y]))) else N ys H4)
def tComp (wi : TI) (fr : List (Option Nat)) (g : TG) (ti : TT) (te : TE) : TE := fun σ H Q => wi σ H fun J H1 => ∀ l, H1 l = none → CGoal J fr g ti te σ H1 l Q

/-- how a block's scope must look: seen by rfl -/
structure CompOk (X : Cx) (scope : Scope) (N' : List Str) (fr : List (Option Nat)) (own : List Nat) : Prop where
  kind : scope.kind = .function
  cell : (scope.names.all fun x => x.2 != .cell) = true
  names : (scope.names.all fun x => x.2 != .local || scope.names.lookup x.1 == some .local) = true
  free : (scope.names.all fun x => x.2 != .free || X.env.scope.names.lookup x.1 == some .cell || X.env.scope.names.lookup x.1 == some .free) = true
  len : N'.length = fr.length
  from_ : ((N'.zip fr).all fun p => match p.2 with | none => true | some j => X.N[j]? == some p.1 && (scope.names.lookup p.1 == some .free)) = true
  own_ : (own.all fun j => fr[j]? == some none) = true

section
variable {X : Cx} {scope : Scope} {N' : List Str} {fr : List (Option Nat)} {own : List Nat} {elt tg iter : Expr} {ifs : List Expr} {wi : TI} {g : TG} {ti : TT} {te : TE} {pos : Pos}
theorem CompOk.hcell (c : CompOk X scope N' fr own) : ∀ y ∈ scope.names, y.2 ≠ .cell := fun y hy e => by
  have := List.all_eq_true.mp c.cell y hy
  rw [e] at this
  exact absurd this (by decide)
theorem CompOk.hnames (c : CompOk X scope N' fr own) : ∀ y ∈ scope.names, y.2 = .local → scope.names.lookup y.1 = some .local := fun y hy e => by
  have := List.all_eq_true.mp c.names y hy
  rw [e] at this
  simpa using this
theorem CompOk.hfree (c : CompOk X scope N' fr own) {pins : List (Addr × Obj)} {σ : St} {H : Hp} {s : Shared} (I : Inv X pins σ H s) : ∀ y ∈ scope.names, y.2 = .free → ∃ c, X.env.cells.lookup y.1 = some c := fun y hy e => by
  have := List.all_eq_true.mp c.free y hy
  rw [e] at this
  refine I.ok.has y.1 ?_
  have z : X.env.scope.names.lookup y.1 = some .cell ∨ X.env.scope.names.lookup y.1 = some .free := by simpa using this
  exact z

/-- the block's state at its start -/
theorem comp_start {pins : List (Addr × Obj)} {σ : St} {H : Hp} {s : Shared} {fp : List Addr} {h₁ : Heap} {m : Str → Option Value} {tk : Nat} (c : CompOk X scope N' fr own) (hc : X.calm = true) (I : Inv X pins σ H s) (hfp : ∀ b ∈ fp, FpOk X pins H b) (hlt : ∀ b ∈ fp, b < s.heap.objs.size)
    (hns : h₁.Ns s.heap.objs.size m) (hk : ∀ b o, s.heap.get? b = some o → h₁.get? b = some o) :
    Inv (compCx X scope N' s.heap.objs.size fp s H) [] (inner fr σ) H { s with heap := h₁, toks := tk } := by
  have hfree := c.hfree I
  have look : ∀ x cc, (closOf X.env.cells scope.names []).lookup x = some cc → X.env.cells.lookup x = some cc := fun x cc e => closOf_look _ _ hfree (by intro c' e'; simp at e') e
  have cellAt : ∀ x cc, X.env.cells.lookup x = some cc → ∃ v, h₁.IsCell cc v := fun x cc e => by
    obtain ⟨v, o, ho, hd⟩ := I.cell x cc e
    exact ⟨v, o, hk _ _ ho, hd⟩
  have ok : (compCx X scope N' s.heap.objs.size fp s H).Ok := by
    refine ⟨I.ok.mod, c.kind, I.ok.glob, I.ok.blt, Nat.le_refl _, fun x y cc h1 h2 => I.ok.inj x y cc (look x cc h1) (look y cc h2), fun x h => ?_, fun x cc h => absurd h Bool.false_ne_true, I.ok.hd, I.ok.frames, .inl rfl, fun b hb => ⟨Nat.ne_of_lt (hlt b hb), fun x cc e => (hfp b hb).2.2.2.2.1 x cc (look x cc e)⟩,
      fun b o e => I.bs b o e, Nat.le_trans I.ok.bsz I.sz, fun b o e hb => ?_, fun b hb hz => ?_, I.stack, I.stkFree⟩
    · have z : scope.names.lookup x = some .free := by
        rcases h with h | h
        · exact relabel_look (env := X.env) h (.inl rfl) c.hcell
        · exact relabel_look (env := X.env) h (.inr rfl) c.hcell
      exact closOf_has _ _ z
    · rcases (hfp b hb).2.2.2.1 with z | z
      · exact I.ok.noex b o e z
      · exact absurd (Nat.lt_of_lt_of_le (Heap.lt_size e) (Nat.le_trans I.ok.bsz z)) (Nat.lt_irrefl _)
    · rcases List.mem_cons.mp (I.stkSub b hz) with e | e
      · exact (hfp b hb).2.1 e
      · exact (hfp b hb).2.2.1 e
  refine ⟨ok, rfl, I.bare, Un.kept hk, ⟨m, hns, fun i x v e1 e2 hv => ?_⟩, fun x cc e => cellAt x cc (look x cc e), I.fresh, fun x cc e => I.freeC x cc (look x cc e), fun p hp => by simp [compCx] at hp, I.hok.kept hk, ?_⟩
  · -- an outer name
    have e1 : N'[i]? = some x := e1
    have e2 : (fr.map fun o => o.bind fun j => (σ[j]?).join)[i]? = some (some v) := e2
    rw [List.getElem?_map] at e2
    cases hfi : fr[i]? with
    | none => rw [hfi] at e2; simp at e2
    | some o =>
      rw [hfi] at e2
      simp only [Option.map_some, Option.some.injEq] at e2
      cases o with
      | none => simp at e2
      | some j =>
        have e3 : (σ[j]?).join = some v := by simpa using e2
        have e4 : σ[j]? = some (some v) := by
          cases hz : σ[j]? with
          | none => rw [hz] at e3; simp at e3
          | some z => rw [hz] at e3; simp at e3; rw [e3]
        have hm : (x, some j) ∈ N'.zip fr := by
          have : (N'.zip fr)[i]? = some (x, some j) := by rw [List.getElem?_zip_eq_some]; exact ⟨e1, hfi⟩
          exact List.mem_of_getElem? this
        have hz := List.all_eq_true.mp c.from_ _ hm
        have hz : (X.N[j]? == some x && (scope.names.lookup x == some .free)) = true := hz
        have hz1 : X.N[j]? = some x ∧ scope.names.lookup x = some .free := by simpa using hz
        obtain ⟨m0, hn0, hl0⟩ := I.loc
        have hxf : (X.env.scope.names.lookup x = some .cell ∨ X.env.scope.names.lookup x = some .free) := by
          have hmem : (x, NameKind.free) ∈ scope.names := PySem.mem_of_lookup hz1.2
          have := List.all_eq_true.mp c.free _ hmem
          simpa using this
        have vis : Vis X.env.scope x := .inr hxf
        obtain ⟨u, ru, lk⟩ := hl0 j x v hz1.1 e4 vis
        refine ⟨u, ru, ?_⟩
        rcases lk with ⟨k, _⟩ | ⟨k, cc, ec, hcell⟩
        · have k : X.env.scope.names.lookup x = some .local := k
          rcases hxf with h | h
          · rw [h] at k; cases k
          · rw [h] at k; cases k
        · obtain ⟨c2, hc2⟩ := closOf_has (cells := X.env.cells) (x := x) scope.names [] hz1.2
          have := look x c2 hc2
          rw [ec] at this
          cases this
          refine .inr ⟨?_, cc, hc2, ?_⟩
          · rcases hv with h | h
            · -- local in the relabelled scope: impossible
              exfalso
              have hl : ∀ (names : List (Str × NameKind)), names.lookup x = some .free → (names.map fun (n, k) => if (k == NameKind.free && X.env.scope.kind == .function && X.env.kindOf n == some .cell) then (n, NameKind.cell) else (n, k)).lookup x ≠ some .local := by
                intro names
                induction names with
                | nil => intro h; simp at h
                | cons p r ih =>
                  obtain ⟨n, k⟩ := p
                  intro h hh
                  have hh : List.lookup x ((if (k == NameKind.free && X.env.scope.kind == .function && X.env.kindOf n == some .cell) = true then (n, NameKind.cell) else (n, k)) :: _) = _ := hh
                  rw [List.lookup_cons] at h
                  cases hx : x == n with
                  | true =>
                    rw [hx] at h
                    cases h
                    by_cases hq : (NameKind.free == NameKind.free && X.env.scope.kind == .function && X.env.kindOf n == some .cell) = true
                    · rw [if_pos hq] at hh; simp [List.lookup_cons, hx] at hh
                    · rw [if_neg hq] at hh; simp [List.lookup_cons, hx] at hh
                  | false =>
                    rw [hx] at h
                    by_cases hq : (k == NameKind.free && X.env.scope.kind == .function && X.env.kindOf n == some .cell) = true
                    · rw [if_pos hq] at hh; simp only [List.lookup_cons, hx] at hh; exact ih h hh
                    · rw [if_neg hq] at hh; simp only [List.lookup_cons, hx] at hh; exact ih h hh
              exact hl _ hz1.2 h
            · exact h
          · obtain ⟨o, ho, hd⟩ := hcell
            exact ⟨o, hk _ _ ho, hd⟩
  · show (fr.map _).length = N'.length
    rw [List.length_map, c.len]

/-- the block run: fin says what is wanted of the outer state behind it -/
theorem comp_block {pins : List (Addr × Obj)} {σ : St} {H2 : Hp} {s2 : Shared} {it : Addr} {fp : List Addr} {tn : Nat → Heap → Prop} {J : It} {Q : VK} {RR : Value → Addr → Result → Shared → Prop} {E : Value → Shared → Prop} (c : CompOk X scope N' fr own) (hc : X.calm = true)
    (hg : ∀ C fp s H, PG (compCx X scope N' C fp s H) tg g) (ho : GOwn own g) (ht : ∀ C fp s H, PTs (compCx X scope N' C fp s H) ifs ti) (he : ∀ C fp s H, PE (compCx X scope N' C fp s H) elt te)
    (I2 : Inv X pins σ H2 s2) (T : Turn X.prog X.w X.K tg J fp it tn) (st2 : tn 0 s2.heap) (f2 : ∀ b ∈ fp, FpOk X pins H2 b)
    (R : ∀ l, H2 l = none → ∃ W : Nat → Nat → List V → Hp → Prop, (∃ m, W 0 m [] (upd H2 l (.lst []))) ∧ ∀ i m ys H', W i m ys H' →
      (J.stop i H' ∧ Q (.ref l) H') ∨ (J.go i H' ∧ ∃ N : List V → Hp → Prop, (∀ zs H'', N zs H'' → ∃ m', m' < m ∧ W (i + 1) m' zs H'') ∧ ∀ x H2, J.yld i H' x H2 → g x (inner fr σ) H2 fun σ3 H3 => ti σ3 H3 fun b H4 => if b = true then
        te σ3 H4 fun y H5 => H5 l = some (.lst ys) ∧ ys.length < sizeLine ∧ N (ys ++ [y]) (upd H5 l (.lst (ys ++ [y]))) else N ys H4))
    (fin : ∀ l C s' H', Inv X pins σ H' s' → (∃ m, s'.heap.Ns C m) → H' C = none → s2.heap.objs.size ≤ C → Q (.ref l) H' → RR (.ref l) C (.ok .next) s') :
    wpAny (model X.prog X.w) X.A (newList []) (fun acc s₃ => wpAny (model X.prog X.w) X.A (newFunctionEnv scope X.env.globals (closOf X.env.cells scope.names []) [] X.env.qual none .none (some X.env)) (fun cenv s₄ =>
      codeAny (model X.prog X.w) X.A (.compStart (.ListComp elt [⟨tg, iter, ifs, 0⟩] scope pos) 0 (.ref it) acc { cenv with scope := relabel scope X.env }) (RR acc cenv.locals) s₄) E s₃) E s2 := by
  refine wpAny_newObj_type (wpAny_newFunctionEnv c.hcell (by intro y hy; simp at hy) (fun h₁ hns₁ hsb₁ => ?_) c.kind)
  dsimp only at hns₁ hsb₁ ⊢
  have I3 : Inv X pins σ (upd H2 s2.heap.objs.size (.lst [])) { s2 with heap := s2.heap.push { cls := .type "list", data := .seq ([] : List Value).toArray } } := I2.lnew (its := []) (t' := s2.toks) .nil (Nat.zero_le _)
  have hl := I2.fresh
  obtain ⟨W, ⟨m0, w0⟩, turn⟩ := R _ hl
  -- the block's context
  generalize hs3 : ({ s2 with heap := s2.heap.push { cls := .type "list", data := .seq ([] : List Value).toArray } } : Shared) = s3 at I3
  have hh3 : s2.heap.push { cls := .type "list", dict := none, data := .seq ([] : List Value).toArray } = s3.heap := by rw [← hs3]
  have hz3 : s3.heap.objs.size = s2.heap.objs.size + 1 := by rw [← hs3]; exact Heap.size_push ..
  have up23 : ∀ b o, s2.heap.get? b = some o → s3.heap.get? b = some o := fun b o e => by rw [← hh3]; exact Heap.get?_push_of_some _ e
  have objs : ∀ b ∈ fp, ∃ o, s2.heap.get? b = some o ∧ ∀ v, o.data ≠ .cell v := T.obj _ _ st2
  have lt2 : ∀ b ∈ fp, b < s2.heap.objs.size := fun b hb => by obtain ⟨o, e, _⟩ := objs b hb; exact Heap.lt_size e
  have f3 : ∀ b ∈ fp, FpOk X pins (upd H2 s2.heap.objs.size (.lst [])) b := fun b hb => ⟨by rw [upd_ne (Nat.ne_of_lt (lt2 b hb))]; exact (f2 b hb).1, (f2 b hb).2⟩
  have st3 : tn 0 s3.heap := T.keep _ _ _ st2 fun b _ o e => up23 b o e
  rw [hh3] at hns₁ hsb₁ ⊢
  have up34 : ∀ b o, s3.heap.get? b = some o → h₁.get? b = some o := fun b o e => hsb₁.extBut b o (Nat.ne_of_lt (Heap.lt_size e)) (Heap.get?_push_of_some _ e)
  have I4 : Inv (compCx X scope N' s3.heap.objs.size fp s3 (upd H2 s2.heap.objs.size (.lst []))) [] (inner fr σ) (upd H2 s2.heap.objs.size (.lst [])) { s3 with heap := h₁, toks := s2.toks + ([] : List (Str × Value)).length } :=
    comp_start c hc I3 f3 (fun b hb => by rw [hz3]; exact Nat.lt_succ_of_lt (lt2 b hb)) hns₁ up34
  generalize hXX : compCx X scope N' s3.heap.objs.size fp s3 (upd H2 s2.heap.objs.size (.lst [])) = X' at I4
  have hg' := hg s3.heap.objs.size fp s3 (upd H2 s2.heap.objs.size (.lst []))
  have ht' := ht s3.heap.objs.size fp s3 (upd H2 s2.heap.objs.size (.lst []))
  have he' := he s3.heap.objs.size fp s3 (upd H2 s2.heap.objs.size (.lst []))
  rw [hXX] at hg' ht' he'
  have eP : X'.prog = X.prog := by rw [← hXX]; rfl
  have eW : X'.w = X.w := by rw [← hXX]; rfl
  have eK : X'.K = X.K := by rw [← hXX]; rfl
  have eA : X'.A = X.A := by rw [← hXX]; rfl
  have eC : X'.calm = true := by rw [← hXX]; exact hc
  have eX : X'.xe = fun _ _ => False := by rw [← hXX]; rfl
  have eE : X'.env = compEnvC scope (closOf X.env.cells scope.names []) s3.heap.objs.size X.env := by rw [← hXX]; rfl
  have eN : X'.env.locals = s3.heap.objs.size := by rw [eE]; rfl
  have eF : X'.fs = frs X.stack := by rw [← hXX]; rfl
  have eEx : X'.ex = fp := by rw [← hXX]; rfl
  have ePn : X'.pn = [] := by rw [← hXX]; rfl
  have eS : X'.s₀ = s3 := by rw [← hXX]; rfl
  have eH : X'.H₀ = upd H2 s2.heap.objs.size (.lst []) := by rw [← hXX]; rfl
  have fpIn : ∀ {H' : Hp}, (∀ b ∈ fp, H' b = none) → ∀ b ∈ fp, FpOk X' [] H' b := fun {H'} hn b hb => by
    refine ⟨hn b hb, by rw [eN, hz3]; exact Nat.ne_of_lt (Nat.lt_succ_of_lt (lt2 b hb)), fun z => ?_, .inl (by rw [eEx]; exact hb), fun x cc e => ?_, fun p hp => by rw [ePn] at hp; simp at hp⟩
    · rw [eF] at z
      rcases List.mem_cons.mp (I3.stkSub b z) with e | e
      · exact (f3 b hb).2.1 e
      · exact (f3 b hb).2.2.1 e
    · rw [eE] at e
      exact (f3 b hb).2.2.2.2.1 x cc (closOf_look _ _ (c.hfree I3) (by intro c' e'; simp at e') e)
  have loop : ∀ s₅ : Shared, s₅ = { s3 with heap := h₁, toks := s2.toks + ([] : List (Str × Value)).length } →
      codeAny (model X.prog X.w) X.A (.compLoop (.ListComp elt [⟨tg, iter, ifs, 0⟩] scope pos) 0 (.ref it) (.ref s2.heap.objs.size) (compEnvC scope (closOf X.env.cells scope.names []) s3.heap.objs.size X.env)) (RR (.ref s2.heap.objs.size) s3.heap.objs.size) s₅ := by
    rintro s₅ rfl
    refine compLoop_any (fun n s' => ∃ i ys H', Inv X' [] (inner fr σ) H' s' ∧ tn i s'.heap ∧ (∀ b ∈ fp, H' b = none) ∧ W i n ys H') ?_ m0
      ⟨0, [], _, I4, T.keep _ _ _ st3 fun b _ o e => up34 b o e, fun b hb => (f3 b hb).1, w0⟩
    rintro n s6 ⟨i, ys, H6, I6, st6, fr6, w6⟩
    rcases turn i n ys H6 w6 with ⟨stop, q⟩ | ⟨go, NN, hNN, step⟩
    · have D := T.done X' eP eW eK eC i [] s6 _ H6 (fun _ _ => False) I6 (fpIn fr6) st6 stop
      rw [eA] at D
      refine thn D fun r s7 ⟨hr, I7⟩ => ?_
      subst hr
      have un := I7.base
      rw [eF, eEx, eS, eH] at un
      have os7 : s7.os = s3.os := by rw [I7.os, eS]
      have hok7 := I7.hok
      rw [eP, eW] at hok7
      have J3 : Inv X pins σ H6 s7 := I3.call' os7 un hok7 I7.bare fun b hb => ⟨(f3 b hb).2.2.2.1, (f3 b hb).2.1, (f3 b hb).2.2.2.2.1, (f3 b hb).2.2.2.2.2⟩
      obtain ⟨m7, hn7, _⟩ := I7.loc
      rw [eN] at hn7
      have fr7 := I7.free
      rw [eN] at fr7
      exact fin _ _ s7 H6 J3 ⟨m7, hn7⟩ fr7 (by rw [hz3]; exact Nat.le_succ _) q
    · have D := T.item X' eP eW eK eC i [] s6 _ H6 (fun _ _ => False) I6 (fpIn fr6) st6 go
      rw [eA] at D
      refine thn D fun r s7 ⟨u, hr, h7⟩ => ?_
      subst hr
      refine thn h7 fun _ s8 ⟨x, H8, I8, r8, y8, st8, fr8⟩ => ?_
      have I8' := I8.pinned (fpIn fr8) (T.obj _ _ st8)
      have q8 := ho _ _ _ _ (step x H8 y8)
      have A1 := hg' _ s8 _ H8 x u _ I8' r8 q8
      rw [eP, eW, eA, eE, eX] at A1
      refine thn A1 fun _ s9 ⟨σ9, H9, I9, q9, len9, own9⟩ => ?_
      have A2 := ht' _ s9 σ9 H9 _ I9 q9
      rw [eP, eW, eA, eE, eX] at A2
      refine thn A2 fun ok s10 ⟨H10, I10, q10⟩ => ?_
      -- back to the turn's start
      have weak : ∀ {H' : Hp} {s' : Shared}, Inv X' ([] ++ pinsAt fp s8.heap) σ9 H' s' → Inv X' ([] ++ pinsAt fp s8.heap) (inner fr σ) H' s' := fun {H' s'} I' => I'.weak len9.symm fun j v e => by
        by_cases hj : j ∈ own
        · exfalso
          have z := List.all_eq_true.mp c.own_ j hj
          have z : fr[j]? = some none := by simpa using z
          have e : (fr.map fun o => o.bind fun j => (σ[j]?).join)[j]? = some (some v) := e
          rw [List.getElem?_map, z] at e
          simp at e
        · rw [own9 j hj]; exact e
      have again : ∀ {H' : Hp} {s' : Shared}, Inv X' ([] ++ pinsAt fp s8.heap) σ9 H' s' → tn (i + 1) s'.heap ∧ (∀ b ∈ fp, H' b = none) ∧ Inv X' [] (inner fr σ) H' s' := fun {H' s'} I' => by
        refine ⟨T.keep _ _ _ st8 fun b hb o e => (I'.pin (b, o) (List.mem_append_right _ (List.mem_append_right _ (mem_pinsAt hb e)))).1, fun b hb => ?_, (weak I').unpinned⟩
        obtain ⟨o, e, d⟩ := T.obj _ _ st8 b hb
        exact (I'.pin (b, o) (List.mem_append_right _ (List.mem_append_right _ (mem_pinsAt hb e)))).2.1
      cases ok with
      | false =>
        rw [if_neg Bool.false_ne_true] at q10 ⊢
        obtain ⟨m', hm, w'⟩ := hNN _ _ q10
        obtain ⟨t1, t2, t3⟩ := again I10
        exact ⟨m', hm, i + 1, ys, H10, t3, t1, t2, w'⟩
      | true =>
        rw [if_pos rfl] at q10 ⊢
        have A3 := he' _ s10 σ9 H10 _ I10 q10
        rw [eP, eW, eA, eE, eX] at A3
        refine thn A3 fun yv s11 ⟨y, H11, I11, r11, hl11, hz11, q11⟩ => ?_
        have A4 := mt_append (X := X') _ s11 σ9 H11 (.ref s2.heap.objs.size) [y] (.ref s2.heap.objs.size) [yv] (fun _ H' => H' = upd H11 s2.heap.objs.size (.lst (ys ++ [y]))) I11 rfl (.cons r11 .nil) ⟨_, ys, y, rfl, rfl, hl11, hz11, rfl⟩
        rw [eP, eW, eA, eX] at A4
        refine thn A4 fun _ s12 ⟨_, H12, I12, _, e12⟩ => ?_
        subst e12
        obtain ⟨m', hm, w'⟩ := hNN _ _ q11
        obtain ⟨t1, t2, t3⟩ := again I12
        exact ⟨m', hm, i + 1, _, _, t3, t1, t2, w'⟩
  have e5 : ({ s2 with heap := h₁, toks := s2.toks + ([] : List (Str × Value)).length } : Shared) = { s3 with heap := h₁, toks := s2.toks + ([] : List (Str × Value)).length } := by rw [← hs3]
  exact codeAny_compStart_list (loop _ e5) (T.self _ 0 _ _ _ (T.keep _ _ _ st3 fun b _ o e => up34 b o e) (loop _ e5))

/-- [elt for tg in iter if c] -/
theorem pe_comp (c : CompOk X scope N' fr own) (hc : X.calm = true) (hi : PI X tg iter wi)
    (hg : ∀ C fp s H, PG (compCx X scope N' C fp s H) tg g) (ho : GOwn own g) (ht : ∀ C fp s H, PTs (compCx X scope N' C fp s H) ifs ti) (he : ∀ C fp s H, PE (compCx X scope N' C fp s H) elt te)
    (hs : ∀ x, foldedSetIterable iter X.env x = pure x := by intro _; rfl) : PE X (.ListComp elt [⟨tg, iter, ifs, 0⟩] scope pos) (tComp wi fr g ti te) := by
  intro pins s σ H Q I h
  rw [eval_ListComp]
  refine wpAny_comprehension_free (use := none) rfl hs (closureFor_eq (c.hfree I)) c.kind c.hnames (thn (hi pins s σ H _ I h) fun v s1 h1 => thn h1 fun itv s2 h2 => ?_)
  obtain ⟨it, fp, tn, J, H2, e, I2, T, st2, f2, R⟩ := h2
  subst e
  refine comp_block (RR := fun acc C => compPost (model X.prog X.w) X.A X.xe none (EP X pins σ Q) acc C) c hc hg ho ht he I2 T st2 f2 R ?_
  intro l C s' H' I' hn hC hle q
  obtain ⟨m, hn⟩ := hn
  refine ⟨m, hn, fun h' hs' => ⟨.ref l, H', ?_, rfl, q⟩⟩
  have cl : ∀ x cc, X.env.cells.lookup x = some cc → cc ≠ C := fun x cc e z => by
    obtain ⟨v, o, ho, _⟩ := I2.cell x cc e
    exact absurd (Nat.lt_of_lt_of_le (Heap.lt_size ho) (by rw [z]; exact hle)) (Nat.lt_irrefl _)
  exact I'.turned (t' := s'.toks) (fun b o hb e => hs'.extBut b o hb e) hC (Nat.ne_of_gt (Nat.lt_of_lt_of_le I2.lt hle)) (.inr (Nat.le_trans I2.sz hle)) cl fun p hp z =>
    absurd (Nat.lt_of_lt_of_le (Heap.lt_size (I2.pin p hp).1) (by rw [z]; exact hle)) (Nat.lt_irrefl _)

/-- y = [elt for tg in iter if c], where the stores are exchanged -/
theorem ps_comp {i : Nat} {y : Str} {py spos : Pos} (c : CompOk X scope N' fr own) (hc : X.calm = true) (hN : X.N.Nodup) (hy : X.N[i]? = some y) (hx : X.env.scope.names.lookup y = some .local) (hi : PI X tg iter wi)
    (hg : ∀ C fp s H, PG (compCx X scope N' C fp s H) tg g) (ho : GOwn own g) (ht : ∀ C fp s H, PTs (compCx X scope N' C fp s H) ifs ti) (he : ∀ C fp s H, PE (compCx X scope N' C fp s H) elt te)
    (hsw : swapsWith (.ListComp elt [⟨tg, iter, ifs, 0⟩] scope pos) (some (.Name y py)) spos.line X.env = pure true := by rfl)
    (hs : ∀ x, foldedSetIterable iter X.env x = pure x := by intro _; rfl) : PS X (.Assign [.Name y py] (.ListComp elt [⟨tg, iter, ifs, 0⟩] scope pos) spos) (tAsg (tComp wi fr g ti te) (gName i)) := by
  intro pins s σ H D I h
  rw [exec_Assign_Name_used _ _ _ _ hsw]
  refine wpAny_bind (wpAny_standAt (wpAny_bind ?_))
  show wpAny _ X.A (do let _ ← comprehension (.ListComp elt [⟨tg, iter, ifs, 0⟩] scope pos) scope X.env _ (newList []) false (eval iter X.env) (some (assign (.Name y py) X.env))) _ _ s
  refine wpAny_bind (wpAny_mono (wpAny_comprehension_free (use := some (assign (.Name y py) X.env)) (Q := fun _ s' => SP X pins D .next s') rfl hs (closureFor_eq (c.hfree I)) c.kind c.hnames
    (thn (hi pins s σ H _ I h) fun v s1 h1 => thn h1 fun itv s2 h2 => ?_)) (fun _ s' hq => wpAny_pure (wpAny_pure hq)) fun _ _ e => e)
  obtain ⟨it, fp, tn, J, H2, e, I2, T, st2, f2, R⟩ := h2
  subst e
  refine comp_block (Q := fun x H1 => gName i x σ H1 D.nx) (RR := fun acc C => compPost (model X.prog X.w) X.A X.xe (some (assign (.Name y py) X.env)) (fun _ s' => SP X pins D .next s') acc C) c hc hg ho ht he I2 T st2 f2 R ?_
  intro l C s' H' I' hn hC hle q
  obtain ⟨m, hn⟩ := hn
  have cl : ∀ x cc, X.env.cells.lookup x = some cc → cc ≠ C := fun x cc e z => by
    obtain ⟨v, o, ho, _⟩ := I2.cell x cc e
    exact absurd (Nat.lt_of_lt_of_le (Heap.lt_size ho) (by rw [z]; exact hle)) (Nat.lt_irrefl _)
  show wpAny _ X.A (assign (.Name y py) X.env (.ref l)) _ _ s'
  refine wpAny_assign_Name (store_ok2 I' hN hy (.inl hx) (v := .ref l) rfl (fun s5 I5 hsb => ?_) (.inr hx))
  obtain ⟨a, hsb, ha⟩ := hsb
  have hCa : C ≠ a := by
    rcases ha with e | e
    · rw [e]; exact Nat.ne_of_gt (Nat.lt_of_lt_of_le I2.lt hle)
    · exact Ne.symm (cl _ _ e)
  refine ⟨m, hn.sameBut hsb hCa, fun h' hs' => ⟨_, H', ?_, q⟩⟩
  exact I5.turned (t' := s5.toks) (fun b o hb e => hs'.extBut b o hb e) hC (Nat.ne_of_gt (Nat.lt_of_lt_of_le I2.lt hle)) (.inr (Nat.le_trans I2.sz hle)) cl fun p hp z =>
    absurd (Nat.lt_of_lt_of_le (Heap.lt_size (I2.pin p hp).1) (by rw [z]; exact hle)) (Nat.lt_irrefl _)

end
section
variable {fr : List (Option Nat)} {g : TG} {ti : TT} {te : TE} {σ : St} {H1 : Hp} {l : Addr} {Q : VK}
/-- one turn: Pv at i, the items so far -/
def CTurn (fr : List (Option Nat)) (g : TG) (ti : TT) (te : TE) (σ : St) (l : Addr) (x : V) (ys : List V) (H : Hp) (N : List V → Hp → Prop) : Prop :=
  g x (inner fr σ) H fun σ3 H3 => ti σ3 H3 fun b H4 => if b = true then te σ3 H4 fun y H5 => H5 l = some (.lst ys) ∧ ys.length < sizeLine ∧ N (ys ++ [y]) (upd H5 l (.lst (ys ++ [y]))) else N ys H4
theorem comp_tup {K : PySem.W.Frag} {a : Addr} {xs : List V} (Pv : Nat → List V → Hp → Prop) (h0 : Pv 0 [] (upd H1 l (.lst []))) (hl : ∀ i ys H, i ≤ xs.length → Pv i ys H → SqT K H a xs)
    (hs : ∀ i x ys H, xs[i]? = some x → Pv i ys H → CTurn fr g ti te σ l x ys H (Pv (i + 1))) (hd : ∀ ys H, Pv xs.length ys H → Q (.ref l) H) : CGoal (Itt K a) fr g ti te σ H1 l Q := by
  refine ⟨fun i m ys H => m = xs.length - i ∧ i ≤ xs.length ∧ Pv i ys H, ⟨xs.length, by simp, Nat.zero_le _, h0⟩, ?_⟩
  rintro i m ys H ⟨rfl, hi, p⟩
  have q := hl i ys H hi p
  by_cases hlt : i < xs.length
  · refine .inr ⟨⟨xs, xs[i], q, by simp [hlt]⟩, Pv (i + 1), fun zs H' p' => ⟨xs.length - (i + 1), by omega, rfl, hlt, p'⟩, fun x H' y => ?_⟩
    obtain ⟨e, y⟩ := y
    subst e
    exact hs i x ys _ (y xs q) p
  · have e : i = xs.length := by omega
    subst e
    exact .inl ⟨⟨xs, q, Nat.le_refl _⟩, hd ys H p⟩
theorem comp_range {lo : Int} {n : Nat} (Pv : Nat → List V → Hp → Prop) (h0 : Pv 0 [] (upd H1 l (.lst [])))
    (hs : ∀ i ys H, i < n → Pv i ys H → CTurn fr g ti te σ l (.int (lo + i)) ys H (Pv (i + 1))) (hd : ∀ ys H, Pv n ys H → Q (.ref l) H) : CGoal (Itr lo n) fr g ti te σ H1 l Q := by
  refine ⟨fun i m ys H => m = n - i ∧ i ≤ n ∧ Pv i ys H, ⟨n, by simp, Nat.zero_le _, h0⟩, ?_⟩
  rintro i m ys H ⟨rfl, hi, p⟩
  by_cases hlt : i < n
  · refine .inr ⟨hlt, Pv (i + 1), fun zs H' p' => ⟨n - (i + 1), by omega, rfl, hlt, p'⟩, fun x H' y => ?_⟩
    obtain ⟨e, y⟩ := y
    subst e y
    exact hs i ys _ hlt p
  · have e : i = n := by omega
    subst e
    exact .inl ⟨Nat.le_refl _, hd ys H p⟩

end
end L2


set_option Elab.async false
set_option linter.all false
set_option maxRecDepth 100000
namespace L2
open PySem PySem.Spec PyProof.Rows

section
variable {X : Cx} {pins : List (Addr × Obj)} {σ : St} {H : Hp} {s : Shared}
end
theorem SqT.keep {K : PySem.W.Frag} {H H' : Hp} (k : ∀ b u, (H b = some (.tup u) → H' b = some (.tup u)) ∧ ∀ o, H b = some (.frz o (.tup u)) → H' b = some (.frz o (.tup u))) {a : Addr} {ys : List V} (h : SqT K H a ys) : SqT K H' a ys := by
  rcases h with (h | ⟨o, h⟩) | h
  · exact .inl (.inl ((k a ys).1 h))
  · exact .inl (.inr ⟨o, (k a ys).2 o h⟩)
  · exact .inr h
theorem Same.seqT {K : PySem.W.Frag} {H H' : Hp} (e : Same H H') {a : Addr} {xs : List V} (h : SqT K H a xs) : SqT K H' a xs := h.keep fun b u => ⟨fun q => e _ _ q, fun o q => e _ _ q⟩
section
variable {X : Cx}
theorem Vals.bls {bs : List Bool} : ∀ {us : List Value}, Vals (bs.map V.bl) us → us = bs.map Value.bool := by
  induction bs with
  | nil => intro us r; cases r; rfl
  | cons b r ih =>
    intro us h
    cases h with
    | cons r1 r2 =>
      cases r1
      rw [ih r2]
      rfl
theorem range_all (bs : List Bool) : (List.range bs.length).all (fun i => bs.getD i false) = bs.all id := by
  rw [Bool.eq_iff_iff]
  simp only [List.all_eq_true, List.mem_range, id]
  refine ⟨fun h b hb => ?_, fun h i hi => ?_⟩
  · obtain ⟨i, hi, e⟩ := List.getElem_of_mem hb
    have := h i hi
    simpa [hi, e] using this
  · have := h bs[i] (List.getElem_mem hi)
    simpa [hi] using this
theorem truth_bools {prog : Program} {w : World} {A : Around} (bs : List Bool) : TruthOf prog w A (fun i v => (bs.map Value.bool).toArray[i]? = some v) (fun i => bs.getD i false) := fun i v s Q E hP hQ => by
  have hi : i < bs.length := by
    by_cases h : i < bs.length
    · exact h
    · have hP' : (bs.map Value.bool)[i]? = some v := by simpa using hP
      rw [List.getElem?_eq_none_iff.mpr (by simp; omega)] at hP'
      cases hP'
  have e : v = .bool (bs.getD i false) := by
    have hP' : (bs.map Value.bool)[i]? = some v := by simpa using hP
    rw [List.getElem?_map, List.getElem?_eq_getElem hi] at hP'
    simp only [Option.map_some, Option.some.injEq] at hP'
    rw [← hP']
    simp [hi]
  subst e
  exact wpAny_truthy_bool hQ
theorem call_all_list (hc : X.calm = true) : CallR X (.builtin "all") (fun xs H Q => ∃ a bs, xs = [.ref a] ∧ SqL X.K H a (List.map V.bl bs) ∧ Q (.bl (bs.all id)) H) := by
  intro pins s σ H xs us Q I r h
  obtain ⟨a, bs, rfl, hq, q⟩ := h
  obtain ⟨u, rfl, ru⟩ := Vals.one r
  cases ru
  obtain ⟨its, rv, p, hz⟩ := I.list hq
  have e := Vals.bls rv
  subst e
  have hlt : a < s.heap.objs.size := by obtain ⟨o, _, eo, _⟩ := p; exact Heap.lt_size eo
  refine call_all_walk (wpAny_pyIter_list p.isList ?_)
  refine ⟨s.heap.objs.size, [s.heap.objs.size, a], [s.heap.objs.size], _, _, _, fun i => bs.getD i false, rfl, Walks.list (A := X.A.in1) (I.ok.hd hc) s.heap.objs.size a (Nat.ne_of_lt hlt) (bs.map Value.bool).toArray,
    ⟨⟨_, Heap.get?_push_size _ rfl, rfl, rfl⟩, p.isList.push _⟩, truth_bools bs, fun h' tk hk => ?_⟩
  have I1 : Inv X pins σ H { s with heap := h', toks := tk } := I.kept fun b o e => hk b o (fun z => by
    have z' : b = s.heap.objs.size := by simpa using z
    exact absurd (Heap.lt_size e) (by rw [z']; exact Nat.lt_irrefl _)) (Heap.get?_push_of_some _ e)
  refine ⟨.bl (bs.all id), H, I1, ?_, q⟩
  show Value.bool _ = Value.bool _
  rw [← range_all]
  simp
/-- of plain values -/
def isiP : V → String → Option Bool
  | .int _, "int" => some true
  | .int _, "bool" => some false
  | .int _, "str" => some false
  | .int _, "tuple" => some false
  | .bl _, "bool" => some true
  | .bl _, "int" => some true
  | .bl _, "str" => some false
  | .bl _, "tuple" => some false
  | .str _, "str" => some true
  | .str _, "int" => some false
  | .str _, "bool" => some false
  | .str _, "tuple" => some false
  | _, _ => none
theorem call_isi : CallR X (.builtin "isinstance") (fun xs H Q => ∃ v T b, xs = [v, .ty T] ∧ isiP v T = some b ∧ Q (.bl b) H) := by
  intro pins s σ H xs us Q I r h
  obtain ⟨v, T, b, rfl, hb, q⟩ := h
  obtain ⟨u, w, rfl, ru, rw'⟩ := vals2 r
  cases rw'
  have fin : ∀ t, EP X pins σ Q (.bool b) { s with toks := t } := fun t => ⟨.bl b, H, I.tok t, rfl, q⟩
  unfold isiP at hb
  split at hb <;> cases hb
  · obtain ⟨t, rfl⟩ := ru; exact IsiPair.int_int (fin _)
  · obtain ⟨t, rfl⟩ := ru; exact IsiPair.int_bool (fin _)
  · obtain ⟨t, rfl⟩ := ru; exact IsiPair.int_str (fin _)
  · obtain ⟨t, rfl⟩ := ru; exact IsiPair.int_tuple (fin _)
  · cases ru; exact IsiPair.bool_bool (fin _)
  · cases ru; exact IsiPair.bool_int (fin _)
  · cases ru; exact IsiPair.bool_str (fin _)
  · cases ru; exact IsiPair.bool_tuple (fin _)
  · obtain ⟨t, rfl⟩ := ru; exact IsiPair.str_str (fin _)
  · obtain ⟨t, rfl⟩ := ru; exact IsiPair.str_int (fin _)
  · obtain ⟨t, rfl⟩ := ru; exact IsiPair.str_bool (fin _)
  · obtain ⟨t, rfl⟩ := ru; exact IsiPair.str_tuple (fin _)
theorem fills_list_iadd : fillsInplaceSlot (.type "list") "add" (Operator.Add == .Add) = pure false := by
  unfold fillsInplaceSlot
  show (typeLookup (.type "list") (dunderI "add") >>= fun fi => pure (fi.isSome && !isSeqSlot fi)) = pure false
  rw [PySem.F.slot_list_iadd.lookup]
  rfl
theorem seq_list_iadd : seqSlot? (.type "list") (dunderI "add") = pure (some (.builtin "list.__iadd__")) := PySem.seqSlot_of PySem.F.slot_list_iadd.lookup (by decide +kernel)
def ipCat : TIp := fun x y H Q => ∃ l b xs zs, x = .ref l ∧ y = .ref b ∧ H l = some (.lst xs) ∧ H b = some (.lst zs) ∧ xs.length + zs.length ≤ sizeLine ∧ Q (.ref l) (upd H l (.lst (xs ++ zs)))
theorem ip_cat : PIp X .Add ipCat := by
  intro pins s σ H x y v u Q I rx ry h
  obtain ⟨l, b, xs, zs, rfl, rfl, hH, hB, hz, q⟩ := h
  cases rx
  cases ry
  obtain ⟨z, its, n, r, hl, e⟩ := I.lstM hH
  obtain ⟨z2, its2, n2, r2, hl2, e2⟩ := I.lstM hB
  have hsz : its.toArray.size + its2.toArray.size ≤ sizeLine := by rw [List.size_toArray, List.size_toArray]; omega
  have hlong : ¬ (!its.toArray.isEmpty && Builtin.List.listTooLong (its.toArray.size + its2.toArray.size)) = true := by
    rw [notLongL hsz, Bool.and_false]
    exact Bool.false_ne_true
  have tl : s.TypeIs (.ref l) "list" := ⟨_, e, rfl⟩
  have tb : s.TypeIs (.ref b) "list" := ⟨_, e2, rfl⟩
  unfold inplaceOp
  refine wpAny_holding ?_
  refine wpAny_bind (wpAny_typeOf tl (wpAny_bind (wpAny_of_eq fills_list_iadd ?_)))
  show wpAny (model X.prog X.w) X.A (if false = true then _ else _) _ _ s
  rw [if_neg Bool.false_ne_true]
  refine wpAny_bind (wpAny_binaryOp1_none (nm := "add") tl tb noFill_list_add ?_)
  refine wpAny_bind (wpAny_of_eq seq_list_iadd ?_)
  refine wpAny_bind (wpAny_rule ?_)
  refine call_meets PySem.F.slot_list_iadd tl PySem.F.entry_list_iadd (PySem.F.args_list_iadd_2 _ _)
    (AutoSeq1.list___iadd___list_list_0 l its.toArray n b its2.toArray n2 hlong (by rw [List.size_toArray]; omega) (by omega)) ⟨e, e2, ?_⟩
  refine ⟨.ref l, _, I.lset (its' := its ++ its2) hH e (by simp) (r.append r2) ?_, rfl, q⟩
  rw [List.length_append]
  omega
end
end L2


namespace L2.Sp
end L2.Sp
set_option Elab.async false
set_option linter.all false
set_option maxRecDepth 100000
namespace L2
open PySem PySem.Spec PyProof.Rows

section
variable {κ : Type} [DecidableEq κ]
def valV (kvs : List (κ × V)) (k : κ) : Option V := (kvs.find? fun kv => decide (kv.1 = k)).map (·.2)
/-- in its place, or at the end -/
def putK (kvs : List (κ × V)) (k : κ) (v : V) : List (κ × V) :=
  if (kvs.any fun kv => decide (kv.1 = k)) = true then kvs.map (fun kv => if kv.1 = k then (kv.1, v) else kv) else kvs ++ [(k, v)]
theorem valV_pos {p : κ × V} {r : List (κ × V)} {k : κ} (e : p.1 = k) : valV (p :: r) k = some p.2 := by simp [valV, List.find?_cons, e]
theorem valV_neg {p : κ × V} {r : List (κ × V)} {k : κ} (e : ¬ p.1 = k) : valV (p :: r) k = valV r k := by simp [valV, List.find?_cons, e]
theorem valV_any (k : κ) : ∀ kvs : List (κ × V), (kvs.any fun kv => decide (kv.1 = k)) = (valV kvs k).isSome
  | [] => rfl
  | p :: r => by
    rw [List.any_cons]
    by_cases e : p.1 = k
    · simp only [valV_pos e, decide_eq_true e, Bool.true_or, Option.isSome_some]
    · rw [valV_neg e, decide_eq_false e, Bool.false_or]; exact valV_any k r
theorem valV_map (k j : κ) (y : V) : ∀ kvs : List (κ × V), valV (kvs.map fun kv => if kv.1 = k then (kv.1, y) else kv) j = (valV kvs j).map fun x => if j = k then y else x
  | [] => rfl
  | p :: r => by
    have ih := valV_map k j y r
    rw [List.map_cons]
    by_cases h : p.1 = k
    · rw [if_pos h]
      by_cases e : p.1 = j
      · rw [valV_pos (p := (p.1, y)) e, valV_pos e, Option.map_some, if_pos (e.symm.trans h)]
      · rw [valV_neg (p := (p.1, y)) e, valV_neg e, ih]
    · rw [if_neg h]
      by_cases e : p.1 = j
      · rw [valV_pos (p := p) e, valV_pos e, Option.map_some, if_neg (fun z => h (e.trans z))]
      · rw [valV_neg (p := p) e, valV_neg e, ih]
theorem valV_snoc (k j : κ) (y : V) : ∀ kvs : List (κ × V), valV kvs k = none → valV (kvs ++ [(k, y)]) j = if j = k then some y else valV kvs j
  | [], _ => by
    by_cases e : k = j
    · rw [if_pos e.symm]; exact valV_pos (p := (k, y)) e
    · rw [if_neg (fun z => e z.symm)]; exact valV_neg (p := (k, y)) e
  | p :: r, hn => by
    rw [List.cons_append]
    have hk : ¬ p.1 = k := fun z => by rw [valV_pos z] at hn; cases hn
    rw [valV_neg hk] at hn
    have ih := valV_snoc k j y r hn
    by_cases e : p.1 = j
    · rw [valV_pos e, valV_pos e, if_neg (fun z => hk (e.trans z))]
    · rw [valV_neg e, valV_neg e, ih]
theorem valV_put (kvs : List (κ × V)) (k j : κ) (y : V) : valV (putK kvs k y) j = if j = k then some y else valV kvs j := by
  unfold putK
  by_cases a : (kvs.any fun kv => decide (kv.1 = k)) = true
  · rw [if_pos a, valV_map]
    rw [valV_any] at a
    by_cases e : j = k
    · obtain ⟨x, hx⟩ := Option.isSome_iff_exists.mp a
      rw [if_pos e, e, hx, Option.map_some, if_pos rfl]
    · rw [if_neg e]
      cases valV kvs j with
      | none => rfl
      | some x => rw [Option.map_some, if_neg e]
  · rw [if_neg a]
    refine valV_snoc k j y kvs ?_
    rw [valV_any] at a
    cases q : valV kvs k with
    | none => rfl
    | some x => rw [q] at a; exact (a rfl).elim
theorem length_putK (kvs : List (κ × V)) (k : κ) (v : V) : (putK kvs k v).length ≤ kvs.length + 1 := by
  unfold putK
  split
  · rw [List.length_map]; omega
  · rw [List.length_append, List.length_cons, List.length_nil]; omega
theorem RelO.isSome_eq {o : Option V} {u : Option Value} (r : RelO o u) : o.isSome = u.isSome := by
  cases o with
  | none => cases u with
    | none => rfl
    | some _ => exact (show False from r).elim
  | some _ => cases u with
    | none => exact (show False from r).elim
    | some _ => rfl
/-- raw tables of the same keys -/
theorem KV.val {kvs : List (κ × V)} {vs : List (κ × Value)} (r : KV kvs vs) (k : κ) : RelO (valV kvs k) (valueAt vs k) := by
  unfold KV at r
  induction r with
  | nil => exact True.intro
  | @cons p q ps qs h t ih =>
    obtain ⟨h1, h2⟩ := h
    by_cases e : p.1 = k
    · have e' : q.1 = k := h1.symm.trans e
      have b : valueAt (q :: qs) k = some q.2 := by simp [valueAt, List.find?_cons, e']
      rw [valV_pos e, b]; exact h2
    · have e' : ¬ q.1 = k := fun z => e (h1.trans z)
      have b : valueAt (q :: qs) k = valueAt qs k := by simp [valueAt, List.find?_cons, e']
      rw [valV_neg e, b]; exact ih
theorem KV.any {kvs : List (κ × V)} {vs : List (κ × Value)} (r : KV kvs vs) (k : κ) : (kvs.any fun kv => decide (kv.1 = k)) = vs.any fun kv => decide (kv.1 = k) := by
  unfold KV at r
  induction r with
  | nil => rfl
  | cons h t ih => rw [List.any_cons, List.any_cons, ih, h.1]
theorem KV.repl {kvs : List (κ × V)} {vs : List (κ × Value)} (r : KV kvs vs) (k : κ) {y : V} {u : Value} (ry : RelV y u) :
    KV (kvs.map fun kv => if kv.1 = k then (kv.1, y) else kv) (vs.map fun kv => if kv.1 = k then (kv.1, u) else kv) := by
  unfold KV at r ⊢
  induction r with
  | nil => exact .nil
  | @cons p q ps qs h t ih =>
    rw [List.map_cons, List.map_cons]
    refine .cons ?_ ih
    obtain ⟨h1, h2⟩ := h
    by_cases e : p.1 = k
    · rw [if_pos e, if_pos (h1.symm.trans e)]; exact ⟨h1, ry⟩
    · rw [if_neg e, if_neg (fun z => e (h1.trans z))]; exact ⟨h1, h2⟩
theorem KV.put {kvs : List (κ × V)} {vs : List (κ × Value)} (r : KV kvs vs) (k : κ) {y : V} {u : Value} (ry : RelV y u) : KV (putK kvs k y) (stored vs k u) := by
  unfold putK stored
  rw [r.any k]
  by_cases e : (vs.any fun kv => decide (kv.1 = k)) = true
  · rw [if_pos e, if_pos e]; exact r.repl k ry
  · rw [if_neg e, if_neg e]; exact Paired.snoc r ⟨rfl, ry⟩
theorem KV.length {kvs : List (κ × V)} {vs : List (κ × Value)} (r : KV kvs vs) : kvs.length = vs.length := Paired.length r
end


theorem kV_is {P : Program} {w : World} {k : Key} {u : Value} (r : RelV (kV k) u) : (mixKind P w).is k u = true := by
  cases k with
  | inl i => obtain ⟨t, e⟩ := (show ∃ t, u = Value.int i t from r); subst e; exact mixKind_int P w i t
  | inr x => obtain ⟨t, e⟩ := (show ∃ t, u = Value.str x t from r); subst e; exact mixKind_str P w x t
theorem items_are {P : Program} {w : World} : ∀ {ks : List Key} {us : List Value}, Vals (ks.map kV) us → ItemsAre (mixKind P w) ks us
  | [], _, r => by rw [List.map_nil] at r; cases r; exact .nil
  | k :: ks, _, r => by
    rw [List.map_cons] at r
    cases r with
    | cons h t => exact .cons (kV_is h) (items_are t)

/-- raw entries of a dict with tuple keys -/
abbrev KT (H : Hp) : List (List Key × V) → List (List Key × Addr × Value) → Prop := Paired fun p q => p.1 = q.1 ∧ H q.2.1 = some (.tup (p.1.map kV)) ∧ RelV p.2 q.2.2
theorem KT.val {H : Hp} {kvs : List (List Key × V)} {xs : List (List Key × Addr × Value)} (r : KT H kvs xs) (k : List Key) : RelO (valV kvs k) ((atKey xs k).map (·.2)) := by
  induction r with
  | nil => exact True.intro
  | @cons p q ps qs h t ih =>
    obtain ⟨h1, _, h2⟩ := h
    by_cases e : p.1 = k
    · have e' : q.1 = k := h1.symm.trans e
      have b : atKey (q :: qs) k = some q.2 := by simp [atKey, List.find?_cons, e']
      rw [valV_pos e, b]; exact h2
    · have e' : ¬ q.1 = k := fun z => e (h1.trans z)
      have b : atKey (q :: qs) k = atKey qs k := by simp [atKey, List.find?_cons, e']
      rw [valV_neg e, b]; exact ih
theorem KT.repl {H : Hp} {kvs : List (List Key × V)} {xs : List (List Key × Addr × Value)} (r : KT H kvs xs) (k : List Key) {y : V} {u : Value} (ry : RelV y u) :
    KT H (kvs.map fun kv => if kv.1 = k then (kv.1, y) else kv) (xs.map (putAt k u)) := by
  induction r with
  | nil => exact .nil
  | @cons p q ps qs h t ih =>
    rw [List.map_cons, List.map_cons]
    refine .cons ?_ ih
    obtain ⟨h1, h2, h3⟩ := h
    unfold putAt
    by_cases e : p.1 = k
    · rw [if_pos e, if_pos (h1.symm.trans e)]; exact ⟨h1, h2, ry⟩
    · rw [if_neg e, if_neg (fun z => e (h1.trans z))]; exact ⟨h1, h2, h3⟩
theorem KT.put {H : Hp} {kvs : List (List Key × V)} {xs : List (List Key × Addr × Value)} (r : KT H kvs xs) (k : List Key) {b : Addr} {y : V} {u : Value} (hb : H b = some (.tup (k.map kV))) (ry : RelV y u) :
    KT H (putK kvs k y) (storedH xs k b u) := by
  have e : (kvs.any fun kv => decide (kv.1 = k)) = (atKey xs k).isSome := by
    rw [valV_any, (r.val k).isSome_eq, Option.isSome_map]
  unfold putK storedH
  rw [e]
  by_cases q : (atKey xs k).isSome = true
  · rw [if_pos q, if_pos q]; exact r.repl k ry
  · rw [if_neg q, if_neg q]; exact Paired.snoc r ⟨rfl, hb, ry⟩
theorem KT.keeps {H H' : Hp} {kvs : List (List Key × V)} {xs : List (List Key × Addr × Value)} (r : KT H kvs xs) (ht : ∀ b ys, H b = some (.tup ys) → H' b = some (.tup ys)) : KT H' kvs xs :=
  Paired.mapP r fun _ _ z => ⟨z.1, ht _ _ z.2.1, z.2.2⟩

section
variable {P : Program} {w : World} {H : Hp} {h : Heap} {a : Addr}
theorem rd_of {u : HO} (ok : HOk P w H h) (e : Rd H a u) : ObjOk P w H h a u := e.ok ok
theorem dk_rd {kvs : List (Key × V)} (ok : HOk P w H h) (e : Rd H a (.dK kvs)) : kvs.length ≤ sizeLine ∧ (a == sysModules) = false ∧ ∃ vs, KV kvs vs ∧ h.DictOf (mixKind P w) a vs :=
  show ObjOk P w H h a (.dK kvs) from rd_of ok e
theorem dk_of {kvs : List (Key × V)} (ok : HOk P w H h) (e : H a = some (.dK kvs)) : kvs.length ≤ sizeLine ∧ (a == sysModules) = false ∧ ∃ vs, KV kvs vs ∧ h.DictOf (mixKind P w) a vs := dk_rd ok (.inl e)
/-- a tracked tuple of ints and texts is a key -/
theorem key_of {ks : List Key} (ok : HOk P w H h) (e : H a = some (.tup (ks.map kV))) : (tupleKind (mixKind P w)).is h ks a := by
  obtain ⟨_, its, r, o, h1, h2, n, h3⟩ := (show ObjOk P w H h a (.tup (ks.map kV)) from ok a _ e)
  exact ⟨o, its.toArray, n, h1, h2, h3, by simpa using items_are r⟩
theorem dt_rd {kvs : List (List Key × V)} (ok : HOk P w H h) (e : Rd H a (.dT kvs)) : kvs.length ≤ sizeLine ∧ (a == sysModules) = false ∧
    ∃ xs, KT H kvs xs ∧ h.DictOfH (tupleKind (mixKind P w)) a xs := by
  obtain ⟨z, y, xs, r, o, es, ep, h1, h2, h3, h4, h5⟩ := (show ObjOk P w H h a (.dT kvs) from rd_of ok e)
  refine ⟨z, y, xs, r, o, es, ep, h1, h2, h3, h4, fun x hx => ?_, h5⟩
  have all : ∀ {l : List (List Key × V)} {m : List (List Key × Addr × Value)}, KT H l m → ∀ x ∈ m, (tupleKind (mixKind P w)).is h x.1 x.2.1 := by
    intro l m q
    induction q with
    | nil => intro x hx; exact nomatch hx
    | @cons p q ps qs hq t ih =>
      intro x hx
      rcases List.mem_cons.mp hx with e | hx
      · subst e
        exact key_of ok (by rw [← hq.1]; exact hq.2.1)
      · exact ih x hx
  exact all r x hx
theorem dt_of {kvs : List (List Key × V)} (ok : HOk P w H h) (e : H a = some (.dT kvs)) : kvs.length ≤ sizeLine ∧ (a == sysModules) = false ∧
    ∃ xs, KT H kvs xs ∧ h.DictOfH (tupleKind (mixKind P w)) a xs := dt_rd ok (.inl e)
end

/-- what the dict at a holds at the key y -/
def DGet (H : Hp) (a : Addr) (y : V) (r : Option V) : Prop :=
  (∃ kvs k, Rd H a (.dK kvs) ∧ y = kV k ∧ r = valV kvs k) ∨ ∃ kvs k b, Rd H a (.dT kvs) ∧ y = .ref b ∧ H b = some (.tup (k.map kV)) ∧ r = valV kvs k
/-- the heap behind a[y] = v -/
def DPut (H : Hp) (a : Addr) (y v : V) (H' : Hp) : Prop :=
  (∃ kvs k, H a = some (.dK kvs) ∧ y = kV k ∧ kvs.length < sizeLine ∧ H' = upd H a (.dK (putK kvs k v))) ∨
  ∃ kvs k b, H a = some (.dT kvs) ∧ y = .ref b ∧ H b = some (.tup (k.map kV)) ∧ kvs.length < sizeLine ∧ H' = upd H a (.dT (putK kvs k v))
theorem DGet.k {H : Hp} {a : Addr} {kvs : List (Key × V)} {k : Key} (e : H a = some (.dK kvs)) : DGet H a (kV k) (valV kvs k) := .inl ⟨kvs, k, .inl e, rfl, rfl⟩
theorem DPut.k {H : Hp} {a : Addr} {kvs : List (Key × V)} {k : Key} {v : V} (e : H a = some (.dK kvs)) (hl : kvs.length < sizeLine) : DPut H a (kV k) v (upd H a (.dK (putK kvs k v))) := .inl ⟨kvs, k, e, rfl, hl, rfl⟩
section
variable {X : Cx} {pins : List (Addr × Obj)} {σ : St} {H : Hp} {s : Shared} {a : Addr} {y v : V} {u r : Value} {o : Option V} {A : Around} {E : Value → Shared → Prop}

theorem Inv.big (I : Inv X pins σ H s) : sysModules < s.heap.objs.size := by
  have h : mainGlobals < s.heap.objs.size := (I.mod.glob.keeps I.bk).lt
  exact Nat.lt_trans (by decide) h

/-- y in d -/
theorem d_in {Q : Value → Shared → Prop} (hu : A.units + 1 < cLine) (I : Inv X pins σ H s) (g : DGet H a y o) (ry : RelV y u) (h : ∀ s', Inv X pins σ H s' → Q (.bool o.isSome) s') :
    wpAny (model X.prog X.w) A (compareOp .In u (.ref a)) Q E s := by
  rcases g with ⟨kvs, k, e, ey, l⟩ | ⟨kvs, k, b, e, ey, eb, l⟩
  · subst ey
    obtain ⟨z, hd, vs, rel, dd⟩ := dk_rd I.hok e
    refine wpAny_in_of (kV_is ry) hd dd.mapOf ?_
    rw [← (rel.val k).isSome_eq, ← l]
    exact h _ (I.tok _)
  · subst ey
    cases (show u = Value.ref b from ry)
    obtain ⟨z, hd, xs, rel, dd⟩ := dt_rd I.hok e
    refine wpAny_in_heap (tupleKind_room_in1 hu) (key_of I.hok eb) hd dd ?_
    have q := (rel.val k).isSome_eq
    rw [Option.isSome_map] at q
    rw [← q, ← l]
    exact h _ (I.tok _)
/-- a dict's object is replaced -/
theorem d_write {h' : Heap} {t' : Nat} {ob : HO} (I : Inv X pins σ H s) (mu : Mut (H a)) (hs : Heap.SameBut a s.heap h') (he : ∃ q, h'.get? a = some q) (new : ObjOk X.prog X.w (upd H a ob) h' a ob) :
    Inv X pins σ (upd H a ob) { s with heap := h', toks := t' } :=
  I.write (x := a) (e := a) mu (.inl rfl) (fun b q hb z => (hs.2 b hb).trans z) he new
theorem dk_new {P : Program} {w : World} {H' : Hp} {h' : Heap} {kvs : List (Key × V)} {vs : List (Key × Value)} (z : kvs.length ≤ sizeLine) (hd : (a == sysModules) = false) (rel : KV kvs vs) (dd : h'.DictOf (mixKind P w) a vs) :
    ObjOk P w H' h' a (.dK kvs) := ⟨z, hd, vs, rel, dd⟩
/-- d[y] = v -/
theorem d_setItem {H' : Hp} {Q : Unit → Shared → Prop} (hu : A.units + 1 < cLine) (I : Inv X pins σ H s) (g : DPut H a y v H') (ry : RelV y u) (rv : RelV v r) (h : ∀ s', Inv X pins σ H' s' → Q () s') :
    wpAny (model X.prog X.w) A (setItem (.ref a) u r) Q E s := by
  rcases g with ⟨kvs, k, e, ey, l, eH⟩ | ⟨kvs, k, b, e, ey, eb, l, eH⟩
  · subst ey eH
    obtain ⟨z, hd, vs, rel, dd⟩ := dk_of I.hok e
    have hz : vs.length ≤ sizeLine := by rw [← rel.length]; exact z
    have hl : (putK kvs k v).length ≤ sizeLine := by have := length_putK kvs k v; omega
    refine wpAny_setItem_pairs (hsz := hz) (kV_is ry) dd fun h' dd' hs => h _ ?_
    have he : ∃ q, h'.get? a = some q := let ⟨q, _, _, hq, _⟩ := dd'; ⟨q, hq⟩
    exact d_write I (by rw [e]; exact True.intro) hs he (dk_new hl hd (rel.put k rv) dd')
  · subst ey eH
    cases (show u = Value.ref b from ry)
    obtain ⟨z, hd, xs, rel, dd⟩ := dt_of I.hok e
    have hz : xs.length ≤ sizeLine := by rw [← Paired.length rel]; exact z
    have hl : (putK kvs k v).length ≤ sizeLine := by have := length_putK kvs k v; omega
    refine wpAny_setItem_heap (hsz := hz) (tupleKind_room_in1 hu) (key_of I.hok eb) dd fun h' dd' hs => h _ ?_
    obtain ⟨q, es, ep, hq, h2, h3, h4, _, h5⟩ := dd'
    refine d_write I (by rw [e]; exact True.intro) hs ⟨q, hq⟩ ⟨hl, hd, _, (rel.put k eb rv).keeps fun c ys ec => ?_, q, es, ep, hq, h2, h3, h4, h5⟩
    rw [upd_ne (ne_of ec e (fun z => nomatch z))]
    exact ec
end

section
variable {X : Cx} {pins : List (Addr × Obj)} {σ : St} {H : Hp} {s : Shared} {a : Addr} {kvs : List (Key × V)} {k : Key} {u : Value} {A : Around} {E : Value → Shared → Prop}
end


/-- y in d, y not in d -/
def tDIn (ty td : TE) : TE := fun σ H Q => ty σ H fun y H1 => td σ H1 fun x H2 => ∃ a o, x = .ref a ∧ DGet H2 a y o ∧ Q (.bl o.isSome) H2
/-- d[y] = v -/
def sDPut (td ty tv : TE) : TS := fun D σ H => tv σ H fun v H1 => td σ H1 fun x H2 => ty σ H2 fun y H3 => ∃ a H4, x = .ref a ∧ DPut H3 a y v H4 ∧ D.nx σ H4
section
variable {X : Cx} {o i e value : Expr} {pos pos' tpos : Pos} {td ty tv : TE}
theorem pc_din (hu : X.A.units + 1 < cLine) (hi : PE X i ty) (ho : PE X o td) : PC X .In i o (tDIn ty td) := by
  intro pins s σ H Q I h
  refine thn (hi pins s σ H _ I h) fun iv s1 ⟨y, H1, I1, ry, q1⟩ => thn (ho pins s1 σ H1 _ I1 q1) fun u s2 ⟨x, H2, I2, rx, a, ov, ex, g, q2⟩ => ?_
  subst ex
  obtain rfl : u = Value.ref a := rx
  exact d_in hu I2 g ry fun s3 I3 => ⟨.bl ov.isSome, H2, I3, rfl, q2⟩
theorem ps_dput (hu : X.A.units + 1 < cLine) (ho : PE X o td) (hi : PE X i ty) (hv : PE X value tv) (hs : swapsWith value (some (.Subscript o i pos')) pos.line X.env = pure false) :
    PS X (.Assign [.Subscript o i pos'] value pos) (sDPut td ty tv) := by
  intro pins s σ H D I h
  refine wpAny_Assign_Subscript (thn (hv pins s σ H _ I h) fun r s1 ⟨v, H1, I1, rv, q1⟩ => thn (ho pins s1 σ H1 _ I1 q1) fun u s2 ⟨x, H2, I2, rx, q2⟩ => thn (hi pins s2 σ H2 _ I2 q2) fun iv s3 ⟨y, H3, I3, ry, a, H4, ex, g, q3⟩ => ?_) hs
  subst ex
  obtain rfl : u = Value.ref a := rx
  exact d_setItem hu I3 g ry rv fun s4 I4 => ⟨σ, H4, I4, q3⟩
end


theorem dk_empty {P : Program} {w : World} {H : Hp} (h : Heap) (hb : sysModules < h.objs.size) : ObjOk P w H (h.push { cls := .type "dict", data := .dict #[] }) h.objs.size (.dK []) :=
  ⟨Nat.zero_le _, beq_eq_false_iff_ne.mpr (Ne.symm (Nat.ne_of_lt hb)), [], .nil, Heap.DictOf.new h⟩
/-- {}, to be a dict of the kind that is wanted -/
def tDNewK : TE := fun _ H Q => ∀ p, H p = none → Q (.ref p) (upd H p (.dK []))
section
variable {X : Cx} {pos : Pos}
theorem pe_dnewK : PE X (.Dict [] [] pos) tDNewK := fun pins s σ H Q I h =>
  wpAny_Dict_empty ⟨.ref s.heap.objs.size, _, I.laid (a := s.heap.objs.size) (o := .dK []) (t' := s.toks) (fun _ _ q => Heap.get?_push_of_some _ q) (Nat.le_refl _) (dk_empty s.heap I.big), rfl, h _ (I.hok.fresh (Nat.le_refl _))⟩
end

section
variable {X : Cx} {pins : List (Addr × Obj)} {σ : St} {H : Hp} {s : Shared} {a : Addr} {y d : V} {u r : Value} {o : Option V} {A : Around} {E : Value → Shared → Prop}
end

section
variable {X : Cx} {o e f : Expr} {apos cpos : Pos} {td ty tx : TE}
end

section
variable {X : Cx} {pins : List (Addr × Obj)} {σ : St} {H : Hp} {s : Shared} {a : Addr} {kvs : List (Key × V)} {A : Around} {E : Value → Shared → Prop}
end


section
variable {X : Cx} {pins : List (Addr × Obj)} {σ : St} {H : Hp} {s : Shared} {a : Addr} {y : V} {u : Value} {A : Around} {E : Value → Shared → Prop}
end
end L2
namespace L2
open PySem PySem.Spec PyProof.Rows
section
variable {κ : Type} [DecidableEq κ]
end
end L2


set_option Elab.async false
set_option linter.all false
set_option maxRecDepth 100000
namespace L2
open PySem PySem.Spec PyProof.Rows
section
variable {X : Cx}
theorem op_mul_str : OpR X (binaryOp .Mult) (fun x y H Q => ∃ i n, x = .str i ∧ y = .int n ∧ i.length ≤ 1000 ∧ 0 ≤ n ∧ n ≤ 1000 ∧ Q (.str (Txt.mul i n)) H) := by
  intro pins s σ H x y v u Q I rx ry h
  obtain ⟨i, n, rfl, rfl, h1, h2, h3, q⟩ := h
  obtain ⟨t, rfl⟩ := rx
  obtain ⟨t', rfl⟩ := ry
  exact SB.mul (PyProof.Rows.mulOk_of 1000 1000 h1 (by omega) (by omega) (by decide) (by decide)) fun t2 k => ⟨.str _, H, I.tok k, ⟨t2, rfl⟩, q⟩
theorem op_le_str : OpR X (compareOp .LtE) (fun x y H Q => ∃ i j, x = .str i ∧ y = .str j ∧ Q (.bl (!decide (j.cps.toList < i.cps.toList))) H) := by
  intro pins s σ H x y v u Q I rx ry h
  obtain ⟨i, j, rfl, rfl, q⟩ := h
  obtain ⟨t, rfl⟩ := rx
  obtain ⟨t', rfl⟩ := ry
  exact PySem.P.le_str ⟨.bl _, H, I, rfl, q⟩

def Its (x : Str) : It := ⟨fun i _ => i < x.cps.size, fun i H v H' => H' = H ∧ ∃ c, x.cps[i]? = some c ∧ v = .str ⟨#[c]⟩, fun i _ => x.cps.size ≤ i⟩
theorem turn_str {P : Program} {w : World} {K : PySem.W.Frag} {tg : Expr} (it : Addr) (T : String) (x : Str) (t : Tok) (hT : T = "str_ascii_iterator" ∨ T = "str_iterator") : Turn P w K tg (Its x) [it] it (fun i h => h.IsStrIter it T x t i) where
  mem := by simp
  obj := fun i h st b hb => by
    have e : b = it := by simpa using hb
    subst e
    obtain ⟨o, e, c, d⟩ := st
    exact ⟨o, e, fun v z => by rw [d] at z; cases z⟩
  keep := fun i h h' st k => by
    obtain ⟨o, e, r⟩ := st
    exact ⟨o, k it (by simp) o e, r⟩
  item := by
    intro X hP hw hK hc i pins s σ H E I hf st hg
    subst hP hw hK
    have hg : i < x.cps.size := hg
    obtain ⟨f0, f1, f2, f3, f4, f5⟩ := hf it (by simp)
    rcases hT with rfl | rfl
    · refine wpAny_pyNext_ascii_item st (c := x.cps[i]) (by simp [hg]) fun h' st' sb => ?_
      have I1 : Inv X pins σ H { s with heap := h', toks := s.toks + 1 } := I.turned (t' := s.toks + 1) (fun b o hb e => (sb.2 b hb).trans e) f0 f1 f3 f4 f5
      obtain ⟨o, e, c, d⟩ := id st'
      exact ⟨_, rfl, go_of (s := { s with heap := h', toks := s.toks + 1 }) e c d (by decide) ⟨.str ⟨#[x.cps[i]]⟩, H, I1, ⟨_, rfl⟩, ⟨rfl, _, by simp [hg], rfl⟩, st', fun b hb => (hf b hb).1⟩⟩
    · refine wpAny_pyNext_wide_item st (c := x.cps[i]) (by simp [hg]) fun h' st' sb => ?_
      have I1 : Inv X pins σ H { s with heap := h', toks := s.toks + 1 } := I.turned (t' := s.toks + 1) (fun b o hb e => (sb.2 b hb).trans e) f0 f1 f3 f4 f5
      obtain ⟨o, e, c, d⟩ := id st'
      exact ⟨_, rfl, go_of (s := { s with heap := h', toks := s.toks + 1 }) e c d (by decide) ⟨.str ⟨#[x.cps[i]]⟩, H, I1, ⟨_, rfl⟩, ⟨rfl, _, by simp [hg], rfl⟩, st', fun b hb => (hf b hb).1⟩⟩
  done := by
    intro X hP hw hK hc i pins s σ H E I hf st hg
    subst hP hw hK
    have hg : x.cps.size ≤ i := hg
    obtain ⟨f0, f1, f2, f3, f4, f5⟩ := hf it (by simp)
    rcases hT with rfl | rfl
    · exact wpAny_pyNext_ascii_end (I.ok.hd hc) st (by simp [hg]) fun h' eb => ⟨rfl, I.turned (t' := s.toks) (fun b o hb e => eb b o hb e) f0 f1 f3 f4 f5⟩
    · exact wpAny_pyNext_wide_end (I.ok.hd hc) st (by simp [hg]) fun h' eb => ⟨rfl, I.turned (t' := s.toks) (fun b o hb e => eb b o hb e) f0 f1 f3 f4 f5⟩
  self := fun A i s Q E st h => by
    rcases hT with rfl | rfl
    · exact wpAny_pyIter_striter_ascii st h
    · exact wpAny_pyIter_striter_wide st h
def iStr (tl : TE) : TI := fun σ H R => tl σ H fun v H1 => ∃ x, v = .str x ∧ R (Its x) H1
theorem pi_str {tg l : Expr} {tl : TE} (hl : PE X l tl) : PI X tg l (iStr tl) := by
  intro pins s σ H R I h
  refine thn (hl pins s σ H _ I h) fun v s1 ⟨y, H1, I1, r1, q1⟩ => ?_
  obtain ⟨x, e, q⟩ := q1
  subst e
  obtain ⟨t, rfl⟩ := r1
  have fp : ∀ (o : Obj) (b : Addr), b ∈ [s1.heap.objs.size] → FpOk X pins H1 b := fun o b hb => by
    have e : b = s1.heap.objs.size := by simpa using hb
    subst e
    exact I1.fpOk (Nat.le_refl _) (I1.hok.fresh (Nat.le_refl _))
  cases ha : x.cps.all (· < 128) with
  | false => exact wpAny_pyIter_wide ha ⟨s1.heap.objs.size, [s1.heap.objs.size], _, _, H1, rfl, I1.kept (t' := s1.toks) fun b o e => Heap.get?_push_of_some _ e, turn_str _ "str_iterator" x t (.inr rfl), ⟨_, Heap.get?_push_size _ rfl, rfl, rfl⟩, fp default, q⟩
  | true => exact wpAny_pyIter_ascii ha ⟨s1.heap.objs.size, [s1.heap.objs.size], _, _, H1, rfl, I1.kept (t' := s1.toks) fun b o e => Heap.get?_push_of_some _ e, turn_str _ "str_ascii_iterator" x t (.inl rfl), ⟨_, Heap.get?_push_size _ rfl, rfl, rfl⟩, fp default, q⟩
theorem comp_str {fr : List (Option Nat)} {g : TG} {ti : TT} {te : TE} {σ : St} {H1 : Hp} {l : Addr} {Q : VK} {x : Str} (Pv : Nat → List V → Hp → Prop) (h0 : Pv 0 [] (upd H1 l (.lst [])))
    (hs : ∀ i c ys H, x.cps[i]? = some c → Pv i ys H → CTurn fr g ti te σ l (.str ⟨#[c]⟩) ys H (Pv (i + 1))) (hd : ∀ ys H, Pv x.cps.size ys H → Q (.ref l) H) : CGoal (Its x) fr g ti te σ H1 l Q := by
  refine ⟨fun i m ys H => m = x.cps.size - i ∧ i ≤ x.cps.size ∧ Pv i ys H, ⟨x.cps.size, by simp, Nat.zero_le _, h0⟩, ?_⟩
  rintro i m ys H ⟨rfl, hi, p⟩
  by_cases hlt : i < x.cps.size
  · refine .inr ⟨hlt, Pv (i + 1), fun zs H' p' => ⟨x.cps.size - (i + 1), by omega, rfl, hlt, p'⟩, fun v H' y => ?_⟩
    obtain ⟨e, c, hc, e2⟩ := y
    subst e e2
    exact hs i c ys _ hc p
  · have e : i = x.cps.size := by omega
    subst e
    exact .inl ⟨Nat.le_refl _, hd ys H p⟩

end
end L2


set_option Elab.async false
set_option linter.all false
set_option maxRecDepth 100000
namespace L2
open PySem PySem.Spec PyProof.Rows
section
variable {X : Cx} {pins : List (Addr × Obj)} {σ : St} {H : Hp} {s : Shared}
/-- some of the iterator's own objects have turned, and a tuple is new -/
theorem Inv.turnedN {h' : Heap} {t' : Nat} {ch : List Addr} {N : Addr} {xs : List V} {us : List Value} (I : Inv X pins σ H s) (hf : ∀ b ∈ ch, FpOk X pins H b) (k : ∀ b o, b ∉ ch → s.heap.get? b = some o → h'.get? b = some o)
    (hN : s.heap.objs.size ≤ N) (hz : xs.length ≤ sizeLine) (r : Vals xs us) (hT : IsTup h' N us.toArray) : Inv X pins σ (upd H N (.tup xs)) { s with heap := h', toks := t' } := by
  have nch : ∀ b u, H b = some u → b ∉ ch := fun b u e z => by rw [(hf b z).1] at e; cases e
  have fr : H N = none := I.hok.fresh hN
  have ne : ∀ b o, s.heap.get? b = some o → b ≠ N := fun b o e z => by
    have := Heap.lt_size e
    rw [z] at this
    exact absurd this (Nat.not_lt.mpr hN)
  refine I.step (g' := s.gens) (d' := s.drawn) (ch := ch) (fun b hb => ?_) (fun b o _ _ hc e _ => k b o hc e) (fun b o _ _ hc e _ => ⟨o.slots, k b o hc e⟩) (fun b o _ e n => by rw [upd_ne (ne b o e)]; exact n)
    (fun b o hc e => ⟨o, k b o hc e⟩) (fun b ys e => by rw [upd_ne (ne_of_none e fr)]; exact e) (fun b o u e => by rw [upd_ne (ne_of_none e fr)]; exact e) (fun b ps e => ⟨#[], by rw [upd_ne (ne_of_none e fr), e]; simp⟩) (fun m hm => ?_) (fun b u e => ?_) I.bare
  · obtain ⟨f0, f1, f2, f3, f4, f5⟩ := hf b hb
    exact ⟨f3, f1, f4, f5⟩
  · obtain ⟨o, es, ep, ho, rr⟩ := hm
    exact ⟨o, es, ep, k _ o (fun z => (hf _ z).2.1 rfl) ho, rr⟩
  · by_cases hb : b = N
    · subst hb
      rw [upd_same] at e
      cases e
      exact ⟨hz, us, r, hT⟩
    · rw [upd_ne hb] at e
      refine (I.hok b u e).stay (fun c v hc q => k c v ?_ q) (fun c q => by rw [upd_ne (ne_of_none q fr)]; exact q) fun c ys q => by rw [upd_ne (ne_of_none q fr)]; exact q
      rcases hc with z | z
      · rw [z]; exact nch b u e
      · exact nch c _ z
end
section
variable {X : Cx}
end
end L2


set_option Elab.async false
set_option linter.all false
set_option maxRecDepth 100000
namespace L2
open PySem PySem.Spec PyProof.Rows
def Ite (K : PySem.W.Frag) (a : Addr) : It :=
  ⟨fun i H => ∃ xs x, SqL K H a xs ∧ xs[i]? = some x,
   fun i H v H' => ∃ T x, v = .ref T ∧ H T = none ∧ H' = upd H T (.tup [.int (i : Int), x]) ∧ ∀ xs, SqL K H a xs → xs[i]? = some x,
   fun i H => ∃ xs, SqL K H a xs ∧ xs.length ≤ i⟩
def EnSt (e it a : Addr) (i : Nat) (h : Heap) : Prop := (∃ old, IsEnum h e it (i : Int) old) ∧ h.IsListIter it a i
theorem turn_enum {P : Program} {w : World} {K : PySem.W.Frag} {elts : List Expr} {x1 : Nat} {pos : Pos} (e it a : Addr) (hne : e ≠ it) : Turn P w K (.Tuple elts x1 pos) (Ite K a) [e, it] e (EnSt e it a) where
  mem := by simp
  obj := fun i h st c hc => by
    obtain ⟨⟨old, he⟩, ⟨o1, e1, _, d1⟩⟩ := st
    simp only [List.mem_cons, List.not_mem_nil, or_false] at hc
    rcases hc with rfl | rfl
    · exact ⟨_, he, fun v y => by cases y⟩
    · exact ⟨o1, e1, fun v y => by rw [d1] at y; cases y⟩
  keep := fun i h h' st k => by
    obtain ⟨⟨old, he⟩, h1⟩ := st
    exact ⟨⟨old, k e (by simp) _ he⟩, h1.at fun o q => k it (by simp) o q⟩
  item := by
    intro X hP hw hK hc i pins s σ H E I hf st hg
    subst hP hw hK
    obtain ⟨xs, x, ha, hx⟩ := hg
    obtain ⟨⟨old, he⟩, h1⟩ := st
    obtain ⟨its1, rv1, p1, z1⟩ := I.list ha
    obtain ⟨u1, hu1, ru1⟩ := rv1.get hx
    refine wpAny_pyNext_enum_item he h1 p1.isList (by simpa using hu1) hne fun h' a1 a2 a3 a4 a5 => ⟨_, rfl, wpAny_letOwnedTupleGo_enum (s := { s with heap := h', toks := s.toks + 1 }) a1 fun h2' b1 sb => ?_⟩
    have hNe : s.heap.objs.size ≠ e := Nat.ne_of_gt (Heap.lt_size he)
    have hNi : s.heap.objs.size ≠ it := by obtain ⟨o1, e1, _⟩ := h1; exact Nat.ne_of_gt (Heap.lt_size e1)
    have kk : ∀ c o, c ∉ [e, it] → s.heap.get? c = some o → h2'.get? c = some o := fun c o hc q => by
      simp only [List.mem_cons, List.not_mem_nil, or_false, not_or] at hc
      exact sb.extBut c o hc.1 (a5 c o hc.1 hc.2 q)
    refine ⟨.ref s.heap.objs.size, upd H s.heap.objs.size (.tup [.int (i : Int), x]), (show Inv X pins σ (upd H s.heap.objs.size (.tup [.int (i : Int), x])) { s with heap := h2', toks := s.toks + 1 } from I.turnedN (t' := s.toks + 1) (ch := [e, it]) (us := [.int (i : Int) s.toks, u1]) hf kk (Nat.le_refl _) (by show 2 ≤ sizeLine; decide) (.cons ⟨_, rfl⟩ (.cons ru1 .nil)) ⟨_, sb.extBut _ _ hNe a3, rfl, _, rfl⟩), rfl,
      ⟨s.heap.objs.size, x, rfl, I.hok.fresh (Nat.le_refl _), rfl, fun xs' hx' => by rw [I.list_inj hx' ha]; exact hx⟩, ⟨⟨_, b1⟩, a2.extBut sb.extBut (Ne.symm hne)⟩, fun c hc => ?_⟩
    have hcN : c ≠ s.heap.objs.size := by
      simp only [List.mem_cons, List.not_mem_nil, or_false] at hc
      rcases hc with rfl | rfl
      · exact Ne.symm hNe
      · exact Ne.symm hNi
    rw [upd_ne hcN]
    exact (hf c hc).1
  done := by
    intro X hP hw hK hc i pins s σ H E I hf st hg
    subst hP hw hK
    obtain ⟨xs, ha, hend⟩ := hg
    obtain ⟨⟨old, he⟩, h1⟩ := st
    obtain ⟨its1, rv1, p1, z1⟩ := I.list ha
    have l1 := rv1.length
    obtain ⟨f0, f1, f2, f3, f4, f5⟩ := hf it (by simp)
    exact wpAny_pyNext_enum_end (I.ok.hd hc) he h1 p1.isList (by simp; omega) fun h' eb => ⟨rfl, I.turned (t' := s.toks) (fun b o hb e => eb b o hb e) f0 f1 f3 f4 f5⟩
  self := fun _ _ _ _ _ st h => by
    obtain ⟨⟨old, he⟩, _⟩ := st
    exact wpAny_pyIter_enum he h
theorem bt_enum : bootBuiltins "enumerate" = some (.type "enumerate") := by decide +kernel
def iEnum (K : PySem.W.Frag) (ta : TA) : TI := fun σ H R => ta σ H fun vs H1 => ∃ a, vs = [.ref a] ∧ (∃ xs, SqL K H1 a xs) ∧ R (Ite K a) H1
section
variable {X : Cx}
theorem pi_enum {elts : List Expr} {x1 : Nat} {tpos : Pos} {a : Expr} {ta : TA} {p pos : Pos} (hg : Gl X "enumerate") (hm : X.mg "enumerate" = none) (ha : PA X [a] ta) (hs : starEach [a] X.env = [(false, eval a X.env)] := by rfl) :
    PI X (.Tuple elts x1 tpos) (.Call (.Name "enumerate" p) [a] [] pos) (iEnum X.K ta) := by
  intro pins s σ H R I h
  refine Call_ (ld_blt I hg hm bt_enum (PyProof.Rows.callWith_type1 (thn (ha pos pins s σ H _ I h) fun us s1 ⟨vs, H1, I1, r1, q1⟩ => ?_) hs rfl))
  obtain ⟨a, e, ⟨xs, hx⟩, q⟩ := q1
  subst e
  cases r1 with
  | cons r rr =>
    cases rr
    cases r
    obtain ⟨its1, rv1, p1, z1⟩ := I1.list hx
    refine call_enumerate_list p1.isList fun h' he hi hsz hk => ?_
    refine wpAny_pyIter_enum (s := { s1 with heap := h' }) he ⟨s1.heap.objs.size + 1, [s1.heap.objs.size + 1, s1.heap.objs.size], _, _, H1, rfl, I1.kept (t' := s1.toks) hk, turn_enum _ _ a (Nat.ne_of_gt (Nat.lt_succ_self _)), ⟨⟨_, he⟩, hi⟩, fun c hc => ?_, q⟩
    have hge : s1.heap.objs.size ≤ c := by
      simp only [List.mem_cons, List.not_mem_nil, or_false] at hc
      rcases hc with h | h
      · rw [h]; exact Nat.le_add_right _ _
      · rw [h]; exact Nat.le_refl _
    exact I1.fpOk hge (I1.hok.fresh hge)
end
theorem for_enum {K : PySem.W.Frag} {a : Addr} {xs : List V} {g : TG} {tb : TS} {D : Ends} {σ : St} {H : Hp} (Pv : Nat → St → Hp → Prop) (h0 : Pv 0 σ H) (hl : ∀ i σ H, Pv i σ H → SqL K H a xs)
    (hs : ∀ i x σ H T, xs[i]? = some x → Pv i σ H → H T = none → g (.ref T) σ (upd H T (.tup [.int (i : Int), x])) fun σ2 H2 => tb { D with nx := Pv (i + 1), ct := Pv (i + 1), bk := D.nx } σ2 H2) (hd : ∀ σ H, Pv xs.length σ H → D.nx σ H) :
    ∃ W : Nat → Nat → St → Hp → Prop, (∃ m, W 0 m σ H) ∧ ∀ i m σ H, W i m σ H →
      ((Ite K a).stop i H ∧ D.nx σ H) ∨ ((Ite K a).go i H ∧ ∃ N : St → Hp → Prop, (∀ σ' H', N σ' H' → ∃ m', m' < m ∧ W (i + 1) m' σ' H') ∧ ∀ x H', (Ite K a).yld i H x H' → g x σ H' fun σ2 H2 => tb { D with nx := N, ct := N, bk := D.nx } σ2 H2) := by
  refine ⟨fun i m σ H => m = xs.length - i ∧ i ≤ xs.length ∧ Pv i σ H, ⟨xs.length, by simp, Nat.zero_le _, h0⟩, ?_⟩
  rintro i m σ H ⟨rfl, hi, p⟩
  have qa := hl i σ H p
  by_cases hlt : i < xs.length
  · refine .inr ⟨⟨xs, xs[i], qa, by simp [hlt]⟩, Pv (i + 1), fun σ' H' p' => ⟨xs.length - (i + 1), by omega, rfl, hlt, p'⟩, fun x H' y => ?_⟩
    obtain ⟨T, x', rfl, hT, rfl, hxy⟩ := y
    exact hs i x' σ _ T (hxy xs qa) p hT
  · have e : i = xs.length := by omega
    subst e
    exact .inl ⟨⟨xs, qa, Nat.le_refl _⟩, hd σ H p⟩
section
variable {X : Cx}
end
end L2


set_option Elab.async false
set_option linter.all false
set_option maxRecDepth 100000
namespace L2
open PySem PySem.Spec PyProof.Rows
inductive D where
  | non
  | bl (b : Bool)
  | int (i : Int)
  | str (s : Str)
  | tup (ds : List D)
  | lst
  | dic
mutual
def DV (K : PySem.W.Frag) (H : Hp) : D → V → Prop
  | .non, v => v = .non
  | .bl b, v => v = .bl b
  | .int i, v => v = .int i
  | .str x, v => v = .str x ∧ x.length ≤ 1000
  | .tup ds, v => ∃ a ys, v = .ref a ∧ SqT K H a ys ∧ DAll K H ds ys ∧ ds.length ≤ 100
  | .lst, v => ∃ a ys, v = .ref a ∧ H a = some (.lst ys)
  | .dic, v => ∃ a, v = .ref a ∧ H a = some (.dK [])
def DAll (K : PySem.W.Frag) (H : Hp) : List D → List V → Prop
  | [], ys => ys = []
  | d :: ds, ys => ∃ y r, ys = y :: r ∧ DV K H d y ∧ DAll K H ds r
end
structure DKeep (K : PySem.W.Frag) (H H' : Hp) : Prop where
  tup : ∀ a ys, SqT K H a ys → SqT K H' a ys
  lst : ∀ a ys, H a = some (.lst ys) → ∃ zs, H' a = some (.lst zs)
  dic : ∀ a, H a = some (.dK []) → H' a = some (.dK [])
section
variable {K : PySem.W.Frag} {H H' : Hp}
theorem DKeep.same (g : Same H H') : DKeep K H H' := ⟨fun _ _ h => g.seqT h, fun _ _ h => ⟨_, g _ _ h⟩, fun _ h => g _ _ h⟩
mutual
theorem DV.mono (k : DKeep K H H') : ∀ (d : D) (v : V), DV K H d v → DV K H' d v
  | .non, v, h => by simp only [DV] at h ⊢; exact h
  | .bl b, v, h => by simp only [DV] at h ⊢; exact h
  | .int i, v, h => by simp only [DV] at h ⊢; exact h
  | .str x, v, h => by simp only [DV] at h ⊢; exact h
  | .tup ds, v, h => by
    simp only [DV] at h ⊢
    obtain ⟨a, ys, e, hq, hd, hl⟩ := h
    exact ⟨a, ys, e, k.tup a ys hq, DAll.mono k ds ys hd, hl⟩
  | .lst, v, h => by
    simp only [DV] at h ⊢
    obtain ⟨a, ys, e, hq⟩ := h
    obtain ⟨zs, hz⟩ := k.lst a ys hq
    exact ⟨a, zs, e, hz⟩
  | .dic, v, h => by
    simp only [DV] at h ⊢
    obtain ⟨a, e, hq⟩ := h
    exact ⟨a, e, k.dic a hq⟩
theorem DAll.mono (k : DKeep K H H') : ∀ (ds : List D) (vs : List V), DAll K H ds vs → DAll K H' ds vs
  | [], vs, h => by simp only [DAll] at h ⊢; exact h
  | d :: ds, vs, h => by
    simp only [DAll] at h ⊢
    obtain ⟨y, r, e, h1, h2⟩ := h
    exact ⟨y, r, e, DV.mono k d y h1, DAll.mono k ds r h2⟩
end
end
/-- whether it is of the type -/
def isiD : D → String → Bool
  | .tup _, T => T == "tuple"
  | .str _, T => T == "str"
  | .int _, T => T == "int"
  | .bl _, T => T == "bool" || T == "int"
  | _, _ => false
section
variable {X : Cx}
theorem call_isiD : CallR X (.builtin "isinstance") (fun xs H Q => ∃ (v : V) (d : D) (T : String), xs = [v, .ty T] ∧ DV X.K H d v ∧ (T = "tuple" ∨ T = "str" ∨ T = "int" ∨ T = "bool") ∧ Q (.bl (isiD d T)) H) := by
  intro pins s σ H xs us Q I r h
  obtain ⟨v, d, T, rfl, hd, hT, q⟩ := h
  obtain ⟨u, w, rfl, ru, rw'⟩ := vals2 r
  cases rw'
  have fin : ∀ t b, isiD d T = b → EP X pins σ Q (.bool b) { s with toks := t } := fun t b e => ⟨.bl b, H, I.tok t, rfl, e ▸ q⟩
  have fin0 : ∀ b, isiD d T = b → EP X pins σ Q (.bool b) s := fun b e => ⟨.bl b, H, I, rfl, e ▸ q⟩
  cases d with
  | non =>
    simp only [DV] at hd
    subst hd
    cases ru
    rcases hT with rfl | rfl | rfl | rfl
    · exact IsiPair.NoneType_tuple (fin _ _ rfl)
    · exact IsiPair.NoneType_str (fin _ _ rfl)
    · exact IsiPair.NoneType_int (fin _ _ rfl)
    · exact IsiPair.NoneType_bool (fin _ _ rfl)
  | bl b =>
    simp only [DV] at hd
    subst hd
    cases ru
    rcases hT with rfl | rfl | rfl | rfl
    · exact IsiPair.bool_tuple (fin _ _ rfl)
    · exact IsiPair.bool_str (fin _ _ rfl)
    · exact IsiPair.bool_int (fin0 _ rfl)
    · exact IsiPair.bool_bool (fin0 _ rfl)
  | int i =>
    simp only [DV] at hd
    subst hd
    obtain ⟨t, rfl⟩ := ru
    rcases hT with rfl | rfl | rfl | rfl
    · exact IsiPair.int_tuple (fin _ _ rfl)
    · exact IsiPair.int_str (fin _ _ rfl)
    · exact IsiPair.int_int (fin0 _ rfl)
    · exact IsiPair.int_bool (fin _ _ rfl)
  | str x =>
    simp only [DV] at hd
    obtain ⟨rfl, _⟩ := hd
    obtain ⟨t, rfl⟩ := ru
    rcases hT with rfl | rfl | rfl | rfl
    · exact IsiPair.str_tuple (fin _ _ rfl)
    · exact IsiPair.str_str (fin0 _ rfl)
    · exact IsiPair.str_int (fin _ _ rfl)
    · exact IsiPair.str_bool (fin _ _ rfl)
  | tup ds =>
    simp only [DV] at hd
    obtain ⟨a, ys, rfl, hq, _⟩ := hd
    cases ru
    obtain ⟨its, rv, ⟨o, ho, hc, _⟩, hz⟩ := I.tuple hq
    rcases hT with rfl | rfl | rfl | rfl
    · exact IsiPair.tuple_tuple ho hc (fin0 _ rfl)
    · exact IsiPair.tuple_str ho hc (fin _ _ rfl)
    · exact IsiPair.tuple_int ho hc (fin _ _ rfl)
    · exact IsiPair.tuple_bool ho hc (fin _ _ rfl)
  | lst =>
    simp only [DV] at hd
    obtain ⟨a, ys, rfl, hq⟩ := hd
    cases ru
    obtain ⟨its, rv, p, hz⟩ := I.list (SqL.of hq)
    obtain ⟨o, ho, hc, _⟩ := p.isList
    rcases hT with rfl | rfl | rfl | rfl
    · exact IsiPair.list_tuple ho hc (fin _ _ rfl)
    · exact IsiPair.list_str ho hc (fin _ _ rfl)
    · exact IsiPair.list_int ho hc (fin _ _ rfl)
    · exact IsiPair.list_bool ho hc (fin _ _ rfl)
  | dic =>
    simp only [DV] at hd
    obtain ⟨a, rfl, hq⟩ := hd
    cases ru
    obtain ⟨_, _, vs, _, hm⟩ := dk_of I.hok hq
    obtain ⟨o, ho, hc⟩ := hm.typeIs (s := s)
    rcases hT with rfl | rfl | rfl | rfl
    · exact IsiPair.dict_tuple ho hc (fin _ _ rfl)
    · exact IsiPair.dict_str ho hc (fin _ _ rfl)
    · exact IsiPair.dict_int ho hc (fin _ _ rfl)
    · exact IsiPair.dict_bool ho hc (fin _ _ rfl)
end
section
variable {X : Cx}
end
end L2


set_option Elab.async false
set_option linter.all false
set_option maxRecDepth 100000
namespace L2
open PySem PySem.Spec PyProof.Rows
section
variable {X : Cx}
theorem cut_to {α : Type} (f : α → V) (us : List α) (n : Nat) : cutV (us.map f) none (some (n : Int)) = (us.take n).map f := by
  unfold cutV
  rw [HT.sIx_nat, HT.sIx_none]
  simp only [List.length_map, List.drop_zero, Nat.sub_zero]
  rw [← List.map_take]
  congr 1
  rcases Nat.le_total n us.length with h | h
  · rw [Nat.min_eq_left h]
  · rw [Nat.min_eq_right h, List.take_length, List.take_of_length_le h]
end
end L2


set_option Elab.async false
set_option linter.all false
set_option maxRecDepth 100000
namespace L2
open PySem PySem.Spec PyProof.Rows

/-- an exception's object, new since n; its traceback, if it has one, is not in flight -/
def ExL (H : Hp) (g : Heap) (h : Heap) (ex : Addr) (cls : Value) : Prop :=
  ∃ oe vs, h.get? ex = some oe ∧ oe.cls = cls ∧ oe.data = .fields vs ∧ oe.dict = none ∧ g.get? ex = none ∧ H ex = none ∧
    (vs[1]? = some .none ∨ ∃ T oT ts, vs[1]? = some (.ref T) ∧ g.get? T = none ∧ T ≠ ex ∧ H T = none ∧ h.get? T = some oT ∧ oT.data = .fields ts ∧ ts[3]? = some .none)
theorem ExL.mono {H : Hp} {g g' : Heap} {h : Heap} {ex : Addr} {cls : Value} (x : ExL H g h ex cls) (k : ∀ b, g.get? b = none → g'.get? b = none) : ExL H g' h ex cls := by
  obtain ⟨oe, vs, h1, h2, h3, hd, h4, h5, h6⟩ := x
  refine ⟨oe, vs, h1, h2, h3, hd, k _ h4, h5, ?_⟩
  rcases h6 with h6 | ⟨T, oT, ts, a, b, c⟩
  · exact .inl h6
  · exact .inr ⟨T, oT, ts, a, k _ b, c⟩

/-- how an exception of a callee lies: its class, the wish -/
def CX1 (P : Program) (w : World) : CXT := fun outer H s E e s' =>
  ∃ ex cls H', e = .ref ex ∧ s'.os = s.os ∧ AllBare s'.gens ∧ Un (frs outer) [] H H' s.heap s'.heap ∧ HOk P w H' s'.heap ∧ ExL H' s.heap s'.heap ex cls ∧ E cls none H'

theorem dict_mapFields (f : Array Value → Array Value) (o : Obj) : (Obj.mapFields f o).dict = o.dict := by
  obtain ⟨c, d, dt, sl⟩ := o
  cases dt <;> rfl
theorem ObjOk.there {P : Program} {w : World} {H : Hp} {h : Heap} {a : Addr} {o : HO} (x : ObjOk P w H h a o) : ∃ u, h.get? a = some u := by
  cases o with
  | lst xs => obtain ⟨_, _, _, _, e⟩ := x; exact ⟨_, e⟩
  | tup xs => obtain ⟨_, _, _, _, e, _⟩ := x; exact ⟨_, e⟩
  | dK kvs => obtain ⟨_, _, _, _, o, _, _, e, _⟩ := x; exact ⟨_, e⟩
  | dT kvs => obtain ⟨_, _, _, _, o, _, _, e, _⟩ := x; exact ⟨_, e⟩
  | set S n => obtain ⟨o, _, _, _, e, _⟩ := x; exact ⟨_, e⟩
  | ins C dx fs => obtain ⟨_, _, _, e, _⟩ := x; exact ⟨_, e⟩
  | own y => obtain ⟨_, e⟩ := x; exact ⟨_, e⟩
  | xd fs => obtain ⟨_, ⟨_, _, _, e, _⟩, _⟩ := x; exact ⟨_, e⟩
  | rng lo hi => obtain ⟨_, _, _, e⟩ := x; exact ⟨_, e⟩
  | frz ob u => obtain ⟨e, _⟩ := x; exact ⟨_, e⟩
  | tbl ps => exact ⟨_, (show h.get? a = some _ from x)⟩
  | met f y => exact ⟨_, (show h.get? a = some _ from x)⟩
  | ext φ => obtain ⟨_, ⟨_, e⟩, _⟩ := x; exact ⟨_, e⟩
theorem HOk.none {P : Program} {w : World} {H : Hp} {h : Heap} {a : Addr} (x : HOk P w H h) (e : h.get? a = none) : H a = none := by
  cases q : H a with
  | none => rfl
  | some o =>
    obtain ⟨u, e'⟩ := (x a o q).there
    rw [e] at e'; cases e'
theorem Inv.new {X : Cx} {pins : List (Addr × Obj)} {σ : St} {H : Hp} {s : Shared} (I : Inv X pins σ H s) (hex : X.ex = []) {b : Addr} (e : s.heap.get? b = none) : X.s₀.heap.get? b = none := by
  cases q : X.s₀.heap.get? b with
  | none => rfl
  | some o =>
    obtain ⟨o', e'⟩ := I.base.there b o q (by rw [hex]; simp)
    rw [e] at e'; cases e'

section
variable {M : Model} {A : Around} {E : Value → Shared → Prop} {s : Shared}
theorem newEntry1 {base : Heap} {env : Env} {outer : List Env} {L e : Addr} {oe : Obj} {vs : Array Value} {head : Value} {hadNext : Bool} {Q : Unit → Shared → Prop}
    (hfr : A.frames = some (env :: outer)) (hl : s.heap.FunFrames base (env :: outer)) (hf : env.frame = some L) (he : s.heap.get? e = some oe) (hd : oe.data = .fields vs) (hsz : 1 < vs.size)
    (h : ∀ h' T, s.heap.objs.size ≤ T → (∀ b o, s.heap.get? b = some o → b ≠ e → b ∉ frs (env :: outer) → h'.get? b = some o) →
      (∀ b o, s.heap.get? b = some o → b ≠ e → ∃ sl, h'.get? b = some { o with slots := sl }) →
      (∃ oe' vs', h'.get? e = some oe' ∧ oe'.cls = oe.cls ∧ oe'.data = .fields vs' ∧ oe'.dict = oe.dict ∧ vs'[1]? = some (.ref T)) →
      (∃ oT ts, h'.get? T = some oT ∧ oT.data = .fields ts ∧ ts[3]? = some .none) → Q () { s with heap := h' }) :
    wpAny M A (do let a ← frameOf env; let pl ← entryPlaceOf L hadNext; let b ← EntryCells.newEntry head a .none (rawInt L) .none pl; setField (.ref e) 1 b) (fun _ s' => wpAny M A (setFlight (.ref e) none) Q E s') E s := by
  have hene : e ∉ frs (env :: outer) := fun hm => by
    obtain ⟨_, o, ho, hnf⟩ := hl.mem hm
    rw [he] at ho; injection ho with ho; subst ho; exact hnf vs hd
  refine wpAny_bind (wpAny_frameOf_fun hfr hl hf fun h₁ hs₁ => ?_)
  refine wpAny_bind (wpAny_entryPlaceOf fun pl hpl => ?_)
  unfold EntryCells.newEntry newFields
  refine wpAny_bind (wpAny_newObj_type ?_ (hpl.sizeOk5 _ _ _ _ _))
  generalize hob : ({ cls := .type "traceback", dict := none, data := .fields ([head, .ref L, .none, rawInt L, .none] ++ (if pl.isEmpty then List.replicate 6 Value.none else pl)).toArray } : Obj) = ob
  have hobd : ob.data = .fields ([head, .ref L, .none, rawInt L, .none] ++ (if pl.isEmpty then List.replicate 6 Value.none else pl)).toArray := by rw [← hob]
  have hobf : ob.isFreed = false := by rw [← hob]; rfl
  have he₁ : h₁.get? e = some oe := (hs₁.2.1 e hene).trans he
  have he₂ : (h₁.push ob).get? e = some oe := Heap.get?_push_of_some _ he₁
  refine wpAny_setField he₂ hd hsz ?_
  have hTe : h₁.objs.size ≠ e := Nat.ne_of_gt (Heap.lt_size he₁)
  have hd₃ := Obj.data_mapFields hd (·.setIfInBounds 1 (Value.ref h₁.objs.size))
  have he₃ := Heap.get?_update_self (Obj.mapFields (·.setIfInBounds 1 (Value.ref h₁.objs.size))) he₂ (Obj.isFreed_of_fields hd₃)
  have hT₃ := (Heap.get?_update_other (h₁.push ob) (Obj.mapFields (·.setIfInBounds 1 (Value.ref h₁.objs.size))) (Ne.symm hTe)).trans (Heap.get?_push_size h₁ hobf)
  unfold setFlight
  refine wpAny_bind (wpAny_field he₃ hd₃ (x := .ref h₁.objs.size) (by simp [hsz]) ?_)
  rw [if_pos (show (Value.ref h₁.objs.size != Value.none) = true from by simp)]
  refine wpAny_setField hT₃ hobd (by simp only [List.size_toArray, List.length_append, List.length_cons, List.length_nil] <;> omega) (h _ h₁.objs.size (Nat.le_of_eq hs₁.1.symm) ?_ ?_ ?_ ?_)
  · intro b o hb hbe hbf
    have hb₁ := (hs₁.2.1 b hbf).trans hb
    rw [Heap.get?_update_other _ _ (Nat.ne_of_gt (Heap.lt_size hb₁)), Heap.get?_update_other _ _ (Ne.symm hbe)]
    exact Heap.get?_push_of_some _ hb₁
  · intro b o hb hbe
    obtain ⟨sl, hb₁⟩ := hs₁.2.2 b o hb
    refine ⟨sl, ?_⟩
    rw [Heap.get?_update_other _ _ (Nat.ne_of_gt (Heap.lt_size hb₁)), Heap.get?_update_other _ _ (Ne.symm hbe)]
    exact Heap.get?_push_of_some _ hb₁
  · refine ⟨_, _, ?_, Obj.cls_mapFields _ _, hd₃, dict_mapFields _ _, by simp [hsz]⟩
    rw [Heap.get?_update_other _ _ hTe]; exact he₃
  · exact ⟨_, _, Heap.get?_update_self _ hT₃ (Obj.isFreed_of_fields (Obj.data_mapFields hobd _)), Obj.data_mapFields hobd _, by first | (simp; done) | (rcases hpl with rfl | ⟨_, _, _, _, _, _, _, rfl⟩ <;> simp)⟩
end

section
variable {X : Cx} {pins : List (Addr × Obj)} {σ : St} {H : Hp} {s : Shared} {E' : Value → Shared → Prop}
/-- what is left of the heap when an exception has passed the frame -/
theorem leave_heap {Q : Unit → Shared → Prop} {L ex : Addr} {cls : Value} {g : Heap} (I : Inv X pins σ H s) (hst : X.stack = X.env :: X.outer) (hf : X.env.frame = some L) (hx : ExL H g s.heap ex cls) (hn : ∀ b, s.heap.objs.size ≤ b → g.get? b = none)
    (h : ∀ h', (∀ b o, s.heap.get? b = some o → (g.get? b ≠ none ∨ H b ≠ none) → b ∉ frs X.stack → h'.get? b = some o) → (∀ b o, s.heap.get? b = some o → (g.get? b ≠ none ∨ H b ≠ none) → ∃ sl, h'.get? b = some { o with slots := sl }) →
      (∀ b o, s.heap.get? b = some o → ∃ o', h'.get? b = some o') → ExL H g h' ex cls → Q () { s with heap := h' }) :
    wpAny (model X.prog X.w) X.A (noteFrame (.ref ex) X.env) (fun _ s' => wpAny (model X.prog X.w) X.A (setFlight (.ref ex) none) Q E' s') E' s := by
  obtain ⟨oe, vs, he, hc, hd, hdi, hne, hHe, hh⟩ := hx
  have hfr : X.A.frames = some (X.env :: X.outer) := by rw [← hst]; exact I.ok.frames
  have hl : s.heap.FunFrames X.base (X.env :: X.outer) := by rw [← hst]; exact I.stack
  unfold noteFrame
  simp only [hf]
  rcases hh with h1 | ⟨T, oT, ts, h1, hnT, hTe, hHT, hT, hdT, h3⟩
  · refine wpAny_bind (wpAny_field he hd h1 ?_)
    rw [if_neg (by decide)]
    refine newEntry1 hfr hl hf he hd (Array.getElem?_eq_some_iff.mp h1).1 fun h' T hT k1 k2 ⟨oe', vs', a1, a2, a3, a5, a4⟩ ⟨oT, ts, c1, c2, c3⟩ => ?_
    have ne : ∀ b, (g.get? b ≠ none ∨ H b ≠ none) → b ≠ ex := fun b hb z => by
      subst z
      rcases hb with hb | hb
      · exact hb hne
      · exact hb hHe
    refine h h' (fun b o hb h1 h2 => k1 b o hb (ne b h1) (by rw [← hst]; exact h2)) (fun b o hb h1 => k2 b o hb (ne b h1)) (fun b o hb => ?_) ⟨oe', vs', a1, a2.trans hc, a3, a5.trans hdi, hne, hHe, .inr ⟨T, oT, ts, a4, hn _ hT, ?_, I.hok.fresh hT, c1, c2, c3⟩⟩
    · by_cases hbe : b = ex
      · subst hbe; exact ⟨_, a1⟩
      · obtain ⟨sl, q⟩ := k2 b o hb hbe; exact ⟨_, q⟩
    · exact Nat.ne_of_gt (Nat.lt_of_lt_of_le (Heap.lt_size he) hT)
  · refine wpAny_bind (wpAny_field he hd h1 ?_)
    rw [if_pos (show (Value.ref T != Value.none) = true from by simp)]
    refine wpAny_bind (wpAny_field hT hdT h3 ?_)
    rw [if_neg (show ¬ ((Value.none == rawInt L) = true) from by simp [rawInt])]
    refine wpAny_bind (wpAny_setField hT hdT (Array.getElem?_eq_some_iff.mp h3).1 ?_)
    have other : ∀ b, b ≠ T → (s.heap.update T (Obj.mapFields (·.setIfInBounds 3 Value.none))).get? b = s.heap.get? b := fun b hb => Heap.get?_update_other _ _ (Ne.symm hb)
    have hT2 : (s.heap.update T (Obj.mapFields (·.setIfInBounds 3 Value.none))).get? T = some _ := Heap.get?_update_self _ hT (Obj.isFreed_of_fields (Obj.data_mapFields hdT _))
    have hsz : (s.heap.update T (Obj.mapFields (·.setIfInBounds 3 Value.none))).objs.size = s.heap.objs.size := Heap.size_after_update ..
    refine newEntry1 hfr (hl.of_keeps fun b o hb hnf => ⟨o, (other b fun z => ?_).trans hb, rfl⟩) hf ((other ex (Ne.symm hTe)).trans he) hd (Array.getElem?_eq_some_iff.mp h1).1 fun h' T' hT' k1 k2 ⟨oe', vs', a1, a2, a3, a5, a4⟩ ⟨oT', ts', c1, c2, c3⟩ => ?_
    · subst z; rw [hT] at hb; cases hb; exact hnf ts hdT
    have hT'' : s.heap.objs.size ≤ T' := by rw [← hsz]; exact hT'
    have ne : ∀ b, (g.get? b ≠ none ∨ H b ≠ none) → b ≠ ex ∧ b ≠ T := fun b hb => by
      refine ⟨fun z => ?_, fun z => ?_⟩
      · subst z
        rcases hb with hb | hb
        · exact hb hne
        · exact hb hHe
      · subst z
        rcases hb with hb | hb
        · exact hb hnT
        · exact hb hHT
    refine h h' (fun b o hb h1 h2 => k1 b o ((other b (ne b h1).2).trans hb) (ne b h1).1 (by rw [← hst]; exact h2)) (fun b o hb h1 => k2 b o ((other b (ne b h1).2).trans hb) (ne b h1).1) (fun b o hb => ?_)
      ⟨oe', vs', a1, a2.trans hc, a3, a5.trans hdi, hne, hHe, .inr ⟨T', oT', ts', a4, hn _ hT'', ?_, I.hok.fresh hT'', c1, c2, c3⟩⟩
    · by_cases hbe : b = ex
      · subst hbe; exact ⟨_, a1⟩
      · by_cases hbT : b = T
        · subst hbT; obtain ⟨sl, q⟩ := k2 b _ hT2 hbe; exact ⟨_, q⟩
        · obtain ⟨sl, q⟩ := k2 b o ((other b hbT).trans hb) hbe; exact ⟨_, q⟩
    · exact Nat.ne_of_gt (Nat.lt_of_lt_of_le (Heap.lt_size he) hT'')

/-- an exception leaves the def -/
theorem leave1 {ex : Addr} {cls : Value} {E : XK} (I : Inv X pins σ H s) (hst : X.stack = X.env :: X.outer) (hex : X.ex = []) (hf : X.env.frame = some X.env.locals) (hx : ExL H X.s₀.heap s.heap ex cls) (q : E cls none H) :
    wpAny (model X.prog X.w) X.A (leaving X.env (.ref ex)) (fun _ s'' => CX1 X.prog X.w X.outer X.H₀ X.s₀ E (.ref ex) s'') E' s := by
  unfold leaving
  refine wpAny_bind (leave_heap I hst hf hx (fun b z => Heap.get?_none_of_le (Nat.le_trans I.sz z)) fun h' k1 k2 k3 hx' => ?_)
  have own : ∀ b a, H b = some (.own a) → H b ≠ none := fun b a e z => by rw [z] at e; cases e
  have hB := I.base
  rw [hex] at hB
  have stk : ∀ b, b < X.s₀.heap.objs.size → b ∉ X.fs → b ∉ frs X.stack := fun b hb hn hz => by
    rcases List.mem_cons.mp (I.stkSub b hz) with e | e
    · exact absurd (Nat.lt_of_lt_of_le hb I.ok.above) (by rw [e]; exact Nat.lt_irrefl _)
    · exact hn e
  have trk : ∀ b, H b ≠ none → b ∉ frs X.stack := fun b hb hz => hb (I.stkFree b hz)
  refine ⟨ex, cls, H, rfl, I.os, I.bare, ⟨fun b o e n hb hx => ?_, fun b o e n hb hx => ?_, hB.free, fun b o e hx => ?_, hB.tups, hB.frzs, hB.tbls⟩, fun b o e => (I.hok b o e).stay (fun c u hc r => ?_) (fun _ q => q) fun _ _ q => q, hx', q⟩
  · exact k1 b o (hB.keep b o e n hb hx) (.inl (by rw [e]; exact fun z => nomatch z)) (stk b (Heap.lt_size e) hb)
  · obtain ⟨sl, e1⟩ := hB.slot b o e n hb hx
    obtain ⟨sl', e2⟩ := k2 b _ e1 (.inl (by rw [e]; exact fun z => nomatch z))
    exact ⟨sl', e2⟩
  · obtain ⟨o', e1⟩ := hB.there b o e hx
    exact k3 b o' e1
  · have hc' : H c ≠ none := by
      rcases hc with rfl | hc
      · intro z; rw [z] at e; cases e
      · exact own c b hc
    exact k1 c u r (.inr hc') (trk c hc')
end

/-- a callee's exception passes through the body of a def -/
theorem passes1 {P : Program} {w : World} {K : PySem.W.Frag} {mg : Str → Option Value} {base : Heap} {N : List Str} {qual : Str} {scope : Scope} {f : Addr} {cd : Value} {A : Around} {outer : List Env} {s : Shared} {H : Hp} {E E' : XK} (k : ∀ c d H', E' c d H' → E c d H') :
    Passes (CX1 P w) (cxOf (CX1 P w) P w K mg base N qual scope f cd A outer s H E) E' := by
  intro pins σ H2 s2 e s' I h
  obtain ⟨ex, cls, H', rfl, os, bare, un, hok, hx, q⟩ := h
  obtain ⟨hh, g, d, t, os'⟩ := s'
  obtain rfl : os' = s2.os := os
  have J := I.call (h' := hh) (g' := g) (d' := d) (t' := t) (ch := []) un hok bare (fun b z => absurd z (by simp))
  exact leave1 (X := cxOf (CX1 P w) P w K mg base N qual scope f cd A outer s H E) J rfl rfl rfl (hx.mono fun b e => I.new rfl e) (k _ _ _ q)
end L2


set_option Elab.async false
set_option linter.all false
set_option maxRecDepth 100000
namespace L2
open PySem PySem.Spec PyProof.Rows

/-- an own class of exceptions, as it lies in the written part: bm its classes behind itself, bmB the built-in ones at their end -/
structure XC (K : PySem.W.Frag) (C : Addr) (bmB : List Value) (newId : String) : Prop where
  ex : PySem.W.excIn K C bmB newId = true
  ga : PySem.W.findIn K (.ref C) "__getattribute__" = some (some (.builtin "BaseException.__getattribute__"))
  gt : PySem.W.findIn K (.ref C) "__getattr__" = some none
  cl : PySem.W.findIn K (.ref C) "__class__" = some (some (.builtin "object.__class__"))
  mo : PySem.W.mroIn K C (.type "object") = some true
  mb : PySem.W.mroIn K C (.type "BaseException") = some true

theorem XC.obj {K : PySem.W.Frag} {C : Addr} {bmB : List Value} {newId : String} (q : PySem.W.excIn K C bmB newId = true) :
    ∃ bm N nm qn bs hdct sn sub ab col dd k0 k1 k2 k3 k5, K.lookup C = some (excClassObj nm qn C N bs bm hdct sn sub ab col dd k0 k1 k2 k3 k5 newId) ∧ PySem.W.nsOkIn K N = true ∧ PySem.W.nsIn K N "__init__" = some none ∧ PySem.W.tailIn K bmB bm = true := by
  unfold PySem.W.excIn at q
  split at q
  · rename_i dd cd sl ho
    split at q
    · rename_i C' bm k0 k1 k2 k3 n k5 hm hs
      simp only [Bool.and_eq_true, beq_iff_eq, Bool.not_eq_true'] at q
      obtain ⟨⟨⟨⟨⟨rfl, rfl⟩, hdel⟩, ht⟩, hok⟩, hni⟩ := q
      obtain ⟨nm, bs, mro, ns, qn, hd, sn, sub, ab, col, del⟩ := cd
      dsimp only at hm hdel hok hni
      subst hm hdel
      have hsl : sl = #[k0, k1, k2, k3, some (.builtin n), k5] := by
        obtain ⟨l⟩ := sl
        simp only at hs
        rw [hs]
      subst hsl
      exact ⟨bm, ns, nm, qn, bs, hd, sn, sub, ab, col, dd, k0, k1, k2, k3, k5, ho, hok, hni, ht⟩
    · cases q
  · cases q
theorem ns_same {K : PySem.W.Frag} {N : Addr} {h h' : Heap} {m : Str → Option Value} (X : K.In h) (X' : K.In h') (ok : PySem.W.nsOkIn K N = true) (n : h.Ns N m) : h'.Ns N m := by
  unfold PySem.W.nsOkIn at ok
  split at ok
  · rename_i ho
    obtain ⟨o, es, ep, e, r⟩ := n
    have e1 := X _ _ ho
    rw [e] at e1
    cases e1
    exact ⟨_, es, ep, X' _ _ ho, r⟩
  · cases ok

/-- raise C(e, ..) in a def -/
def tRaise (C : Addr) (E : XK) (t : TA) : TS := fun _ σ H => t σ H fun vs H1 => vs.length ≤ sizeLine ∧ E (.ref C) none H1
theorem ps_raise {P : Program} {w : World} {K : PySem.W.Frag} {mg : Str → Option Value} {base : Heap} {N : List Str} {qual : Str} {scope : Scope} {f : Addr} {cd : Value} {A : Around} {outer : List Env} {s₀ : Shared} {H₀ : Hp} {E : XK}
    {C : Addr} {B newId initId : String} {bmB : List Value} {x : Str} {np cpos pos : Pos} {e : Expr} {es : List Expr} {t : TA}
    (FB : ExcBaseFacts B newId initId bmB) (c : XC K C bmB newId) (hg : Gl (cxOf (CX1 P w) P w K mg base N qual scope f cd A outer s₀ H₀ E) x) (hm : mg x = some (.ref C))
    (ha : PA (cxOf (CX1 P w) P w K mg base N qual scope f cd A outer s₀ H₀ E) (e :: es) t)
    (he : starEach (e :: es) (envOfC qual scope s₀.heap.objs.size f cd) = (false, eval e (envOfC qual scope s₀.heap.objs.size f cd)) :: starEach es (envOfC qual scope s₀.heap.objs.size f cd) := by rfl)
    (hplain : (backTo cpos (starEach es (envOfC qual scope s₀.heap.objs.size f cd))).any (·.1) = false := by rfl) (hdb : (x == ("__debug__" : Str)) = false := by decide) :
    PS (cxOf (CX1 P w) P w K mg base N qual scope f cd A outer s₀ H₀ E) (.Raise (some (.Call (.Name x np) (e :: es) [] cpos)) none pos) (tRaise C E t) := by
  intro pins s σ H D I h
  obtain ⟨bm, Nn, nm, qn, bs, hdct, sn, sub, ab, col, dd, k0, k1, k2, k3, k5, lC, hok, hni, ht⟩ := XC.obj c.ex
  have T := PySem.W.tail_of_in I.kIn ht
  have hN : s.heap.Ns Nn (s.heap.nsMap Nn) := .of_isNs (PySem.W.isNs_of_in I.kIn hok)
  refine wpAny_Raise_call_subT (C := C) (nm := nm) (q := qn) (N := Nn) (bs := bs) (bm := bm) (hdct := hdct) (sn := sn) (sub := sub) (ab := ab) (col := col) (dd := dd) (k0 := k0) (k1 := k1) (k2 := k2) (k3 := k3) (k5 := k5)
    FB (mN := s.heap.nsMap Nn) (T.hasType FB.hasBase) (I.ok.hd rfl) (by
      show (backTo cpos (starEach (e :: es) (envOfC qual scope s₀.heap.objs.size f cd))).any (·.1) = false
      rw [he]; show (false || (backTo cpos (starEach es (envOfC qual scope s₀.heap.objs.size f cd))).any (·.1)) = false; rw [hplain]; rfl) (PySem.W.nsMap_none_of_in I.kIn hok hni) (ld_glob I hg hm ⟨rfl, ?_⟩ hdb)
  have hp := ha cpos pins s σ H _ I h
  have he' : starEach (e :: es) (cxOf (CX1 P w) P w K mg base N qual scope f cd A outer s₀ H₀ E).env = (false, eval e (envOfC qual scope s₀.heap.objs.size f cd)) :: starEach es (envOfC qual scope s₀.heap.objs.size f cd) := he
  rw [he'] at hp ⊢
  refine Calls.evalArgs_plain (wpAny_mono hp (fun us s2 h2 => ?_) fun _ _ y => y)
  obtain ⟨vs, H1, I1, r, hl, q⟩ := h2
  refine ⟨rfl, by rw [← r.length]; exact hl, I1.kIn _ _ lC, ns_same I.kIn I1.kIn hok hN, PySem.W.tail_of_in I1.kIn ht, fun h' ex mx => ?_⟩
  have J : Inv (cxOf (CX1 P w) P w K mg base N qual scope f cd A outer s₀ H₀ E) pins σ H1 { s2 with heap := h' } := I1.un (t' := s2.toks) (Un.kept mx.keeps) (I1.hok.kept mx.keeps)
  obtain ⟨tp, ht1, ht2, ht3⟩ := mx.there
  exact leave1 (X := cxOf (CX1 P w) P w K mg base N qual scope f cd A outer s₀ H₀ E) J rfl rfl rfl ⟨_, _, ht1, rfl, rfl, rfl, I1.new rfl mx.new, I1.hok.none mx.new, .inl rfl⟩ q

section
variable {K : PySem.W.Frag} {C a : Addr} {o : Obj} {bmB : List Value} {newId : String}
end
end L2


set_option Elab.async false
set_option linter.all false
set_option maxRecDepth 100000
namespace L2
open PySem PySem.Spec PyProof.Rows
section
variable {X : Cx}
/-- s[lo:hi] -/
theorem sl_str : SlR X (fun x lo hi H Q => ∃ z, x = .str z ∧ z.length ≤ sizeLine ∧ Q (.str (Txt.slice z lo hi)) H) := by
  intro pins s σ H x v vl vu lo hi sl Q I rx hs pl pu h
  obtain ⟨z, rfl, hz, q⟩ := h
  obtain ⟨t, rfl⟩ := rx
  obtain ⟨o, ho, hoc, hod⟩ := hs
  have fin : ∀ t' k, EP X pins σ Q (.str (Txt.slice z lo hi) t') { s with toks := k } := fun t' k => ⟨.str _, H, I.tok _, ⟨_, rfl⟩, q⟩
  refine ⟨"str", _, F.slot_str_getitem.lookup, typeIs_str _ _ _, ?_⟩
  cases pl with
  | none =>
    cases pu with
    | none => exact wpAny_getItem_str_slice (l := none) (u := none) (st := none) ⟨_, ho, hoc, hod⟩ rfl (post_val_or_str ⟨Nat.le_trans (Txt.slice_le z _ _) hz, fin⟩)
    | int j uj => exact wpAny_getItem_str_slice (l := none) (u := some (j, uj)) (st := none) ⟨_, ho, hoc, hod⟩ rfl (post_val_or_str ⟨Nat.le_trans (Txt.slice_le z _ _) hz, fin⟩)
  | int i ui =>
    cases pu with
    | none => exact wpAny_getItem_str_slice (l := some (i, ui)) (u := none) (st := none) ⟨_, ho, hoc, hod⟩ rfl (post_val_or_str ⟨Nat.le_trans (Txt.slice_le z _ _) hz, fin⟩)
    | int j uj => exact wpAny_getItem_str_slice (l := some (i, ui)) (u := some (j, uj)) (st := none) ⟨_, ho, hoc, hod⟩ rfl (post_val_or_str ⟨Nat.le_trans (Txt.slice_le z _ _) hz, fin⟩)
theorem slice_clip {x : Str} {i j : Int} (h0 : 0 ≤ i) (hj : (x.length : Int) ≤ j) : Txt.slice x (some i) (some j) = Txt.slice x (some i) (some (x.length : Int)) := by
  have e : Builtin.Str.strSliceIndices (some i) (some j) 1 x.length = Builtin.Str.strSliceIndices (some i) (some (x.length : Int)) 1 x.length := by
    unfold Builtin.Str.strSliceIndices
    have h1 : ¬ j < 0 := by omega
    have h2 : ¬ ((x.length : Int) < 0) := by omega
    have h3 : min j (x.length : Int) = x.length := by omega
    have h4 : min (x.length : Int) (x.length : Int) = x.length := by omega
    simp only [show (1 : Int) > 0 by decide, if_true, if_neg h1, if_neg h2, h3, h4]
  unfold Txt.slice
  rw [e]
theorem slice_nat (l : List Nat) {i j : Nat} (h : i ≤ l.length) (hj : i ≤ j) : Txt.slice ⟨l.toArray⟩ (some (i : Int)) (some (j : Int)) = ⟨((l.drop i).take (j - i)).toArray⟩ := by
  have key : ∀ k : Nat, i ≤ k → k ≤ l.length → Txt.slice ⟨l.toArray⟩ (some (i : Int)) (some (k : Int)) = ⟨((l.drop i).take (k - i)).toArray⟩ := fun k h1 h2 => by
    have e := beq_iff_eq.mp (slice_closes (x := ⟨l.toArray⟩) (i := (i : Int)) (j := (k : Int)) ⟨by omega, by omega, by simpa using h2⟩)
    rw [e]
    have e2 : ((k : Int) - (i : Int)).toNat = k - i := by omega
    rw [e2]
    rfl
  by_cases hk : j ≤ l.length
  · exact key j hj hk
  · have hl : (⟨l.toArray⟩ : Str).length = l.length := by simp [Str.length]
    rw [slice_clip (by omega) (by rw [hl]; omega), hl, key l.length h (Nat.le_refl _)]
    rw [List.take_of_length_le (by simp), List.take_of_length_le (by rw [List.length_drop]; omega)]
theorem slice_from (l : List Nat) {i : Nat} (h : i ≤ l.length) : Txt.slice ⟨l.toArray⟩ (some (i : Int)) none = ⟨(l.drop i).toArray⟩ := by
  have e := beq_iff_eq.mp (slice_closes_from (x := ⟨l.toArray⟩) (i := (i : Int)) ⟨by omega, by simpa using h⟩)
  rw [e, List.take_of_length_le (by rw [List.length_drop]; show _ ≤ ((l.length : Int) - i).toNat; have : (⟨l.toArray⟩ : Str).cps.toList.length = l.length := rfl; have e3 : ((i : Int)).toNat = i := rfl; omega)]
  rfl
theorem call_intB : CallR X (.type "int") (fun xs H Q => ∃ b, xs = [.bl b] ∧ Q (.int (if b then 1 else 0)) H) := by
  intro pins s σ H xs us Q I r h
  obtain ⟨b, rfl, q⟩ := h
  obtain ⟨u, rfl, ru⟩ := vals1 r
  cases (show u = Value.bool b from ru)
  exact call_int_bool ⟨.int _, H, I.tok _, ⟨_, rfl⟩, q⟩
def tCallV (G : V → (List V → Hp → VK → Prop) → Prop) (tn : TE) (t : TA) : TE := fun σ H Q => tn σ H fun v H1 => ∃ sp, G v sp ∧ t σ H1 fun vs H2 => sp vs H2 Q
/-- v is a function that keeps sp -/
def FnV (P : Program) (w : World) (K : PySem.W.Frag) (mg : Str → Option Value) (base : Heap) (k : Nat) (v : V) (sp : List V → Hp → VK → Prop) : Prop :=
  ∃ (f : Addr) (fd : FuncData) (ps : List Str), v = .ref f ∧ FnOk P w K mg base CX0 k f fd ps (fun vs H Q _ => sp vs H Q) ∧ PySem.W.keepIn K (.ref f) = true ∧ Binds K fd ps []
theorem pe_callV {k : Nat} {x : Str} {p pos : Pos} {e : Expr} {es : List Expr} {tn : TE} {t : TA} (hr : Room k X.A) (hn : PE X (.Name x p) tn) (ha : PA X (e :: es) t)
    (he : starEach (e :: es) X.env = (false, eval e X.env) :: starEach es X.env := by rfl) (hpl : (backTo pos (starEach es X.env)).any (·.1) = false := by rfl) :
    PE X (.Call (.Name x p) (e :: es) [] pos) (tCallV (FnV X.prog X.w X.K X.mg X.base k) tn t) := by
  intro pins s σ H Q I h
  refine wpAny_Call_Name_kw (thn (hn pins s σ H _ I h) fun v s1 ⟨y, H1, I1, r1, q1⟩ => ?_)
  obtain ⟨sp, ⟨f, fd, ps, rfl, F, hk, hb⟩, q⟩ := q1
  cases (show v = Value.ref f from r1)
  refine PySem.W.callWith_K (h₀ := X.base) I1.ok.mod.kin hk (thn (ha pos pins s1 σ H1 _ I1 q) fun us s2 ⟨vs, H2, I2, r2, q2⟩ => ⟨I2.kIn, ?_⟩) he hpl
  exact run_fn (dvs := []) (E := E0) F hr hb .nil pass0 I2 r2 (by rw [List.append_nil]; exact q2)
def tFr (te : TE) : TE := fun σ H Q => te σ H fun x H1 => ∃ z, x = .str z ∧ z.length ≤ 100000 ∧ (∀ c ∈ z.cps.toList, c < 1114112) ∧ ∀ r, Q (.str r) H1
theorem pe_fr {y : Str} {j : Nat} {e : Expr} {te : TE} {p1 p2 pos : Pos} (he : PE X e te) (hy : y.length ≤ 100000 := by decide) : PE X (.JoinedStr [.Constant (.str y) j p1, .FormattedValue e 114 none p2] pos) (tFr te) := by
  intro pins s σ H Q I h
  refine wpAny_JoinedStr ?_
  have e0 : ∀ z : Str, Str.empty ++ z = z := fun z => by show (⟨#[] ++ z.cps⟩ : Str) = z; simp
  have ln : sizeLine = 16777216 := sizeLine_eq
  show wpAny _ _ (eval (.Constant (.str y) j p1) X.env) _ _ s
  refine Calls.Constant_str ?_
  refine ⟨y, _, rfl, by rw [e0]; omega, ?_⟩
  show wpAny _ _ (eval (.FormattedValue e 114 none p2) X.env) _ _ _
  refine wpAny_FormattedValue_repr (thn (he pins _ σ H _ (I.tok _) h) fun v s1 ⟨x, H1, I1, r1, q1⟩ => ?_)
  obtain ⟨z, rfl, hz, hc, q⟩ := q1
  obtain ⟨t, rfl⟩ := r1
  have hl := StrLaws.reprText_len z (fun c hc' => Nat.lt_trans (hc c hc') (by decide))
  refine wpAny_pyReprObj_str ?_ (by omega)
  refine formatField_str (fun t' tk => ?_) (by omega)
  refine ⟨_, _, rfl, by rw [e0, strLen_append]; omega, ?_⟩
  exact ⟨by rw [e0, strLen_append]; omega, .str _, H1, (I1.tok _), ⟨_, rfl⟩, q _⟩
end
end L2


set_option Elab.async false
set_option linter.all false
set_option maxRecDepth 100000
namespace L2
open PySem PySem.Spec PyProof.Rows
section
variable {X : Cx}
theorem mt_isalnum : MtR X "str.isalnum" (fun x xs H Q => ∃ z, x = .str z ∧ xs = [] ∧ Q (.bl (Txt.isalnum z)) H) := by
  intro pins s σ H x xs v us Q I rx rs h
  obtain ⟨z, rfl, rfl, q⟩ := h
  obtain ⟨t, rfl⟩ := rx
  cases rs
  exact SC.isalnum ⟨.bl _, H, I, rfl, q⟩
theorem call_intS : CallR X (.type "int") (fun xs H Q => ∃ z n, xs = [.str z] ∧ PySem.intText? z = some n ∧ z.length ≤ 640 ∧ Q (.int n) H) := by
  intro pins s σ H xs us Q I r h
  obtain ⟨z, n, rfl, hn, hl, q⟩ := h
  obtain ⟨u, rfl, ru⟩ := vals1 r
  obtain ⟨t, rfl⟩ := ru
  exact PySem.W.KIN.call_text hn hl ⟨.int n, H, I.tok _, ⟨_, rfl⟩, q⟩
theorem call_strI : CallR X (.type "str") (fun xs H Q => ∃ n, xs = [.int n] ∧ n.natAbs.log2 < 1920 ∧ Q (.str (Str.ofString (toString n))) H) := by
  intro pins s σ H xs us Q I r h
  obtain ⟨n, rfl, hn, q⟩ := h
  obtain ⟨u, rfl, ru⟩ := vals1 r
  obtain ⟨t, rfl⟩ := ru
  exact P.str_of_int hn ⟨.str _, H, I.tok _, ⟨_, rfl⟩, q⟩
def TJ := St → Hp → (Hp → Prop) → Prop
def PJ (X : Cx) (es : List Expr) (n : Nat) (t : TJ) : Prop := ∀ (pins : List (Addr × Obj)) (s : Shared) (σ : St) (H : Hp) (Qh : Hp → Prop) (acc : Str), Inv X pins σ H s → acc.length + n * 1100000 ≤ sizeLine → t σ H Qh →
  Joins (model X.prog X.w) X.A X.xe (evalEach es X.env) acc (fun out s' => out.length ≤ sizeLine ∧ ∃ H', Inv X pins σ H' s' ∧ Qh H') s
def jNil : TJ := fun _ H Q => Q H
def jFr (te : TE) (t : TJ) : TJ := fun σ H Q => te σ H fun x H1 => ∃ z, x = .str z ∧ z.length ≤ 100000 ∧ (∀ c ∈ z.cps.toList, c < 1114112) ∧ t σ H1 Q
theorem pj_nil : PJ X [] 0 jNil := fun pins s σ H Qh acc I hl h => ⟨by omega, H, I, h⟩
theorem pj_con {y : Str} {j : Nat} {p : Pos} {es : List Expr} {n : Nat} {t : TJ} (he : PJ X es n t) (hy : y.length ≤ 100000 := by decide) : PJ X (.Constant (.str y) j p :: es) (n + 1) t := by
  intro pins s σ H Qh acc I hl h
  show wpAny _ _ (eval (.Constant (.str y) j p) X.env) _ _ s
  refine Calls.Constant_str ⟨y, _, rfl, by rw [strLen_append]; omega, ?_⟩
  exact he pins _ σ H Qh (acc ++ y) (I.tok _) (by rw [strLen_append]; omega) h
theorem pj_fr {e : Expr} {te : TE} {p : Pos} {es : List Expr} {n : Nat} {t : TJ} (hx : PE X e te) (he : PJ X es n t) : PJ X (.FormattedValue e 114 none p :: es) (n + 1) (jFr te t) := by
  intro pins s σ H Qh acc I hl h
  show wpAny _ _ (eval (.FormattedValue e 114 none p) X.env) _ _ s
  have ln : sizeLine = 16777216 := sizeLine_eq
  refine wpAny_FormattedValue_repr (thn (hx pins s σ H _ I h) fun v s1 ⟨x, H1, I1, r1, q1⟩ => ?_)
  obtain ⟨z, rfl, hz, hc, q⟩ := q1
  obtain ⟨t', rfl⟩ := r1
  have hr := StrLaws.reprText_len z (fun c hc' => Nat.lt_trans (hc c hc') (by decide))
  refine wpAny_pyReprObj_str ?_ (by omega)
  refine formatField_str (fun t' tk => ?_) (by omega)
  refine ⟨_, _, rfl, by rw [strLen_append]; omega, ?_⟩
  exact he pins _ σ H1 Qh _ (I1.tok _) (by rw [strLen_append]; omega) q
theorem joins_mono {M : Model} {A : Around} {E : Value → Shared → Prop} : ∀ {parts : List (Sem Value)} {acc : Str} {Q Q' : Str → Shared → Prop} {s : Shared}, Joins M A E parts acc Q s → (∀ o s', Q o s' → Q' o s') → Joins M A E parts acc Q' s
  | [], acc, Q, Q', s, h, k => k _ _ h
  | x :: rest, acc, Q, Q', s, h, k => wpAny_mono (show wpAny M A x _ E s from h) (fun v s1 ⟨y, t, e, hl, hj⟩ => ⟨y, t, e, hl, joins_mono hj k⟩) fun _ _ z => z
theorem pe_join {a b : Expr} {es : List Expr} {n : Nat} {t : TJ} {pos : Pos} (h : PJ X (a :: b :: es) n t) (hn : n ≤ 10 := by decide) : PE X (.JoinedStr (a :: b :: es) pos) (fun σ H Q => t σ H fun H1 => ∀ r, Q (.str r) H1) := by
  intro pins s σ H Q I q
  refine wpAny_JoinedStr ?_
  have ln : sizeLine = 16777216 := sizeLine_eq
  have e := h pins s σ H (fun H1 => ∀ r, Q (.str r) H1) Str.empty I (by show 0 + n * 1100000 ≤ sizeLine; omega) q
  refine joins_mono e fun out s' hq => ?_
  obtain ⟨hl, H', I', q'⟩ := hq
  exact ⟨hl, .str out, H', I'.tok _, ⟨_, rfl⟩, q' out⟩
end
end L2


set_option Elab.async false
set_option linter.all false
set_option maxRecDepth 100000
set_option maxHeartbeats 4000000
namespace Law
open PySem L2 L2.Sp
def top (i : Nat) : Stmt := PySem.Challenge.pw_meetvalue_k32_trees_read.main.body.getD i (.Pass ⟨0, 0, 0, 0⟩)
/-- a def that keeps its promise, under its name -/
structure Cal (P : Program) (w : World) (K : PySem.W.Frag) (mg : Str → Option Value) (base : Heap) (k : Nat) (x : Str) (ps : List Str) (sp : Sp) : Prop where
  ex : ∃ (f : Addr) (fd : FuncData), FnOk P w K mg base CX0 k f fd ps sp ∧ mg x = some (.ref f) ∧ PySem.W.keepIn K (.ref f) = true ∧ Binds K fd ps []
theorem Cal.mono {P : Program} {w : World} {K : PySem.W.Frag} {mg : Str → Option Value} {base : Heap} {j k : Nat} {x : Str} {ps : List Str} {sp : Sp} (C : Cal P w K mg base j x ps sp) (h : j ≤ k) : Cal P w K mg base k x ps sp := by
  obtain ⟨f, fd, F, a, b, c⟩ := C.ex
  exact ⟨f, fd, F.mono h, a, b, c⟩
theorem pe_cal {X : Cx} {k : Nat} {x : Str} {ps : List Str} {sp : Sp} {p pos : Pos} {e : Expr} {es : List Expr} {t : TA} (C : Cal X.prog X.w X.K X.mg X.base k x ps sp) (hr : Room k X.A) (hg : Gl X x) (ha : PA X (e :: es) t)
    (hdb : (x == ("__debug__" : Str)) = false := by decide) (he : starEach (e :: es) X.env = (false, eval e X.env) :: starEach es X.env := by rfl) (hpl : (backTo pos (starEach es X.env)).any (·.1) = false := by rfl) :
    PE X (.Call (.Name x p) (e :: es) [] pos) (tCall sp [] E0 t) := by
  obtain ⟨f, fd, F, a, b, c⟩ := C.ex
  exact pe_call F hr hg a b c .nil pass0 ha hdb he hpl
theorem same_new {H : Hp} {p : Addr} (h : H p = none) (o : HO) : Same H (upd H p o) := fun b u q => by rw [upd_ne (ne_of_none q h)]; exact q
/-- all but the drawing state -/
def Grow (st : Addr) (H H' : Hp) : Prop := ∀ b o, b ≠ st → H b = some o → H' b = some o
theorem Grow.trans {st : Addr} {H H1 H2 : Hp} (a : Grow st H H1) (b : Grow st H1 H2) : Grow st H H2 := fun c o hc h => b c o hc (a c o hc h)
theorem Grow.of {st : Addr} {H H' : Hp} (a : Same H H') : Grow st H H' := fun c o _ h => a c o h
theorem grow_upd {st : Addr} {H : Hp} {o : HO} : Grow st H (upd H st o) := fun b u hb q => by rw [upd_ne hb]; exact q
theorem Grow.refl {st : Addr} {H : Hp} : Grow st H H := fun _ _ _ q => q
theorem len0 : ([] : List V).length ≤ sizeLine := by decide
theorem len1 {a : V} : ([a] : List V).length ≤ sizeLine := by show 1 ≤ sizeLine; decide
theorem len2 {a b : V} : ([a, b] : List V).length ≤ sizeLine := by show 2 ≤ sizeLine; decide
theorem len3 {a b c : V} : ([a, b, c] : List V).length ≤ sizeLine := by show 3 ≤ sizeLine; decide
theorem sz_of {n : Nat} (h : n ≤ 1000) : n < sizeLine := small1000 h
section
variable {P : Program} {w : World} {K : PySem.W.Frag} {mg : Str → Option Value} {base : Heap} {f : Addr} {fd : FuncData}
/-- a statement, then the rest from what is told between -/
def tCut (t u : TS) : TS := fun D σ H => ∃ R : St → Hp → Prop, t { D with nx := R } σ H ∧ ∀ σ' H', R σ' H' → u D σ' H'
theorem pss_cut {X : Cx} {st : Stmt} {rest : List Stmt} {t u : TS} (h1 : PS X st t) (h2 : PSs X rest u) : PSs X (st :: rest) (tCut t u) := by
  intro pins s σ H D I h
  obtain ⟨R, ha, hb⟩ := h
  refine wpAny_execs_cons (thn (h1 pins s σ H { D with nx := R } I ha) fun f s1 q => ?_)
  cases f with
  | next =>
    obtain ⟨σ', H', I', q⟩ := q
    exact h2 pins s1 σ' H' D I' (hb σ' H' q)
  | ret v => exact q
  | brk => exact q
  | cont => exact q
theorem yesT {σ : St} {H : Hp} {A B : Hp → Prop} (h : A H) : tYes σ H (fun b H4 => if b = true then A H4 else B H4) := by
  show (if true = true then A H else B H)
  rw [if_pos rfl]
  exact h
end
theorem take_snoc {α : Type} {xs : List α} {i : Nat} {x : α} (h : xs[i]? = some x) : xs.take (i + 1) = xs.take i ++ [x] := by
  rw [List.take_add_one, h]; rfl
theorem bt_max : bootBuiltins "max" = some (.builtin "max") := by decide +kernel
theorem bt_all : bootBuiltins "all" = some (.builtin "all") := by decide +kernel
theorem bt_isi : bootBuiltins "isinstance" = some (.builtin "isinstance") := by decide +kernel
theorem bt_tuple : bootBuiltins "tuple" = some (.type "tuple") := by decide +kernel
theorem bt_int : bootBuiltins "int" = some (.type "int") := by decide +kernel
theorem bt_bool : bootBuiltins "bool" = some (.type "bool") := by decide +kernel
theorem bt_str : bootBuiltins "str" = some (.type "str") := by decide +kernel
section
variable {K : PySem.W.Frag}
theorem ix_tupC {X : Cx} {scope : Scope} {N' : List Str} {C : Addr} {fp : List Addr} {s : Shared} {H : Hp} : IxR (compCx X scope N' C fp s H) (rIxT X.K) := ix_tup
theorem sameR {H : Hp} : Same H H := fun _ _ h => h
theorem small_le {n : Nat} (h : n ≤ 1000) : n ≤ sizeLine := Nat.le_of_lt (sz_of h)
theorem inV_strs (t : Str) (ts : List Str) : inV (.str t) (ts.map V.str) = decide (t ∈ ts) := by
  rw [Bool.eq_iff_iff, decide_eq_true_iff]
  unfold inV
  simp only [List.any_map, List.any_eq_true, Function.comp]
  constructor
  · rintro ⟨y, hy, e⟩
    have e : (y == t) = true := e
    rw [beq_iff_eq] at e
    exact e ▸ hy
  · intro h
    exact ⟨t, h, by show (t == t) = true; simp⟩
theorem drop_cons {α : Type} {xs : List α} {i : Nat} {x : α} (h : xs[i]? = some x) : xs.drop i = x :: xs.drop (i + 1) := by
  obtain ⟨hi, e⟩ := List.getElem?_eq_some_iff.mp h
  rw [← e]
  exact List.drop_eq_getElem_cons hi
theorem ne_self {b : V} : (!decide (b = b)) = false := by rw [decide_eq_true rfl]; rfl
theorem item_int {ms : List Int} {i : Nat} {x : V} (hx : (ms.map V.int)[i]? = some x) : ∃ n, x = .int n := by
  rw [List.getElem?_map] at hx
  cases e : ms[i]? with
  | none => rw [e] at hx; cases hx
  | some n => rw [e] at hx; cases hx; exact ⟨n, rfl⟩
end
end Law


set_option Elab.async false
set_option linter.all false
set_option maxRecDepth 100000
set_option maxHeartbeats 4000000
namespace Law
open PySem L2 L2.Sp
def isL (c : Nat) : Bool := decide (97 ≤ c) && decide (c ≤ 122)
def isF (c : Nat) : Bool := decide (48 ≤ c) && decide (c ≤ 57)
def sgB (c : Nat) : Bool := decide (32 ≤ c) && (decide (c ≤ 126) && !(decide (c = 34) || decide (c = 37)))
def single : List Nat := [123, 125, 91, 93, 40, 41, 44, 58, 63, 38, 124, 33, 64, 46]
def sg (l : List Nat) : Nat := if l.head? = some 45 then 1 else 0
def numAt (l : List Nat) : Option (List Nat) :=
  if ((l.drop (sg l)).takeWhile isF) = [] ∨ 60 < ((l.drop (sg l)).takeWhile isF).length ∨ (((l.drop (sg l)).takeWhile isF).head? = some 48 ∧ l.take (sg l + ((l.drop (sg l)).takeWhile isF).length) ≠ [48]) then none
  else some (l.take (sg l + ((l.drop (sg l)).takeWhile isF).length))
def quoAt (l : List Nat) : Option (List Nat) :=
  if (l.drop (1 + ((l.drop 1).takeWhile sgB).length)).take 1 = [34] then some (l.take (2 + ((l.drop 1).takeWhile sgB).length)) else none
def wordAt : List Nat → Option (List Nat)
  | [] => none
  | c :: r =>
    if isL c = true then some ((c :: r).take (((c :: r).takeWhile isL).length))
    else if c = 45 ∨ isF c = true then numAt (c :: r)
    else if c = 34 then quoAt (c :: r)
    else if (c :: r).take 2 = [46, 46] then some [46, 46]
    else if c ∈ single then some [c] else none
def words : List Nat → Option (List (List Nat))
  | [] => some []
  | c :: r => if c = 32 then words r else match wordAt (c :: r) with
    | none => none
    | some w => (words (r.drop (w.length - 1))).map (w :: ·)
termination_by l => l.length
decreasing_by all_goals (simp only [List.length_cons, List.length_drop]; omega)

theorem tw_len (p : Nat → Bool) (l : List Nat) : (l.takeWhile p).length ≤ l.length := (List.takeWhile_sublist p).length_le
theorem tw_take (p : Nat → Bool) : ∀ l : List Nat, l.take (l.takeWhile p).length = l.takeWhile p
  | [] => rfl
  | c :: r => by
    by_cases h : p c = true
    · rw [List.takeWhile_cons_of_pos h, List.length_cons, List.take_succ_cons, tw_take p r]
    · rw [List.takeWhile_cons_of_neg h]; rfl
/-- the run ends at what does not fit -/
theorem tw_app (p : Nat → Bool) : ∀ {a s : List Nat}, (∀ c ∈ a, p c = true) → (∀ d, s.head? = some d → p d = false) → (a ++ s).takeWhile p = a
  | [], [], _, _ => rfl
  | [], d :: s, _, h => by
    have := h d rfl
    rw [List.nil_append, List.takeWhile_cons_of_neg (by rw [this]; simp)]
  | c :: a, s, h1, h2 => by
    rw [List.cons_append, List.takeWhile_cons_of_pos (h1 c (by simp)), tw_app p (fun d hd => h1 d (by simp [hd])) h2]
theorem sg_le (l : List Nat) : sg l ≤ 1 := by unfold sg; split <;> omega
theorem wordAt_ok {l w : List Nat} (h : wordAt l = some w) : 0 < w.length ∧ w.length ≤ l.length ∧ w = l.take w.length := by
  have key : ∀ n, 0 < n → n ≤ l.length → w = l.take n → 0 < w.length ∧ w.length ≤ l.length ∧ w = l.take w.length := fun n h1 h2 h3 => by
    have e : w.length = n := by rw [h3, List.length_take]; omega
    exact ⟨by omega, by omega, by rw [e]; exact h3⟩
  cases l with
  | nil => cases h
  | cons c r =>
    simp only [wordAt] at h
    split at h
    · rename_i hc
      cases h
      refine key _ ?_ (tw_len isL (c :: r)) rfl
      rw [List.takeWhile_cons_of_pos hc]; simp
    · split at h
      · unfold numAt at h
        split at h
        · cases h
        · rename_i hn
          cases h
          have hne : ((c :: r).drop (sg (c :: r))).takeWhile isF ≠ [] := fun z => hn (.inl z)
          have h1 := tw_len isF ((c :: r).drop (sg (c :: r)))
          rw [List.length_drop] at h1
          have h2 : 0 < (((c :: r).drop (sg (c :: r))).takeWhile isF).length := List.length_pos_iff.mpr hne
          have h3 := sg_le (c :: r)
          refine key _ (by omega) (by simp only [List.length_cons] at h1 ⊢; omega) rfl
      · split at h
        · unfold quoAt at h
          split at h
          · rename_i hq
            cases h
            have h1 := congrArg List.length hq
            rw [List.length_take, List.length_drop] at h1
            simp only [List.length_cons, List.length_nil] at h1
            refine key _ (by omega) ?_ rfl
            simp only [List.length_cons]
            omega
          · cases h
        · split at h
          · rename_i hd
            cases h
            refine key 2 (by omega) ?_ hd.symm
            have h1 := congrArg List.length hd
            rw [List.length_take] at h1
            simp only [List.length_cons, List.length_nil] at h1 ⊢
            omega
          · split at h
            · cases h
              exact key 1 (by omega) (by simp) rfl
            · cases h
theorem words_nil : words [] = some [] := by rw [words]
theorem words_sp (r : List Nat) : words (32 :: r) = words r := by rw [words, if_pos rfl]
theorem words_none {l : List Nat} (h0 : l.head? ≠ some 32) (hl : l ≠ []) (h : wordAt l = none) : words l = none := by
  cases l with
  | nil => exact absurd rfl hl
  | cons c r =>
    have hc : c ≠ 32 := fun z => h0 (by rw [z]; rfl)
    rw [words, if_neg hc, h]
theorem words_some {l w : List Nat} (h0 : l.head? ≠ some 32) (h : wordAt l = some w) : words l = (words (l.drop w.length)).map (w :: ·) := by
  cases l with
  | nil => cases h
  | cons c r =>
    have hc : c ≠ 32 := fun z => h0 (by rw [z]; rfl)
    obtain ⟨h1, _, _⟩ := wordAt_ok h
    rw [words, if_neg hc, h]
    have e : (c :: r).drop w.length = r.drop (w.length - 1) := by
      cases hw : w.length with
      | zero => omega
      | succ n => rfl
    rw [e]
end Law


set_option Elab.async false
set_option linter.all false
set_option maxRecDepth 100000
set_option maxHeartbeats 4000000
namespace Law
open PySem L2 L2.Sp
theorem lt_one (a b : Nat) : decide (([a] : List Nat) < [b]) = decide (a < b) := by
  rw [Bool.eq_iff_iff]
  simp [List.cons_lt_cons_iff]
theorem bt_ord : bootBuiltins "ord" = some (.builtin "ord") := by decide +kernel
section
variable {P : Program} {w : World} {K : PySem.W.Frag} {mg : Str → Option Value} {base : Heap} {f : Addr} {fd : FuncData}
/-- a test of one letter -/
def spFit (φ : Nat → Bool) : List V → Hp → VK → Prop := fun args H Q => ∃ c : Nat, args = [.str ⟨#[c]⟩] ∧ Q (.bl (φ c)) H
abbrev sSign : Stmt := top 6
theorem scSign : FnScope ["letter"] ["letter"] (defScope sSign) := ⟨rfl, rfl, rfl, by decide +kernel, rfl, by decide +kernel, by decide +kernel⟩
theorem inV_two (c : Nat) : inV (.int (c : Int)) [.int 34, .int 37] = (decide (c = 34) || decide (c = 37)) := by
  unfold inV
  simp only [List.any_cons, List.any_nil, Bool.or_false]
  have h1 : ((34 : Int) == (c : Int)) = decide (c = 34) := by
    rw [Bool.eq_iff_iff, beq_iff_eq, decide_eq_true_iff]; omega
  have h2 : ((37 : Int) == (c : Int)) = decide (c = 37) := by
    rw [Bool.eq_iff_iff, beq_iff_eq, decide_eq_true_iff]; omega
  show (((34 : Int) == (c : Int)) || ((37 : Int) == (c : Int))) = _
  rw [h1, h2]
theorem ok_sign (F : Fun K "is_sign" "is_sign" sSign f fd) (m1 : mg "ord" = none) {gt : Addr} (hg : mg "NO_SIGNS" = some (.ref gt)) (hK : ∀ H : Hp, SqT K H gt [.int 34, .int 37]) : FnOk P w K mg base CX0 1 f fd ["letter"] (fun vs H Q _ => spFit sgB vs H Q) := by
  refine F.ok scSign (fun vs H Q E h => ?_) (fun cdv A outer s H vs Q E hr h => ?_)
  · obtain ⟨c, rfl, _⟩ := h
    rfl
  obtain ⟨c, rfl, q⟩ := h
  refine ⟨_, pss_one (ps_ret (pe_and (pe_chain op_le_str op_le_str pe_str (pv 0) pe_str) (pe_one (pe_cmpR op_notIn_seq (pe_callB call_ord rfl m1 bt_ord (pa_cons (pv 0) pa_nil)) (pe_glob (v := .ref gt) rfl hg rfl) rfl)))), ?_⟩
  by_cases h1 : 32 ≤ c
  · by_cases h2 : c ≤ 126
    · refine ⟨_, rfl, _, _, rfl, rfl, true, ?_, iteT ⟨_, _, rfl, rfl, true, ?_, iteT ⟨_, rfl, _, rfl, rfl, gt, _, rfl, .inr (hK _), rfl, rfl, ?_⟩⟩⟩
      · show V.bl (!decide (([c] : List Nat) < [32])) = .bl true
        rw [lt_one, decide_eq_false (by omega)]; rfl
      · show V.bl (!decide (([126] : List Nat) < [c])) = .bl true
        rw [lt_one, decide_eq_false (by omega)]; rfl
      · have e : inV (.int ((#[c].getD 0 0 : Nat) : Int)) [.int 34, .int 37] = (decide (c = 34) || decide (c = 37)) := inV_two c
        show Q (.bl (!inV (.int ((#[c].getD 0 0 : Nat) : Int)) [.int 34, .int 37])) H
        rw [e]
        have : sgB c = !(decide (c = 34) || decide (c = 37)) := by unfold sgB; rw [decide_eq_true h1, decide_eq_true h2]; rfl
        rw [← this]
        exact q
    · have e : sgB c = false := by unfold sgB; rw [decide_eq_true h1, decide_eq_false h2]; rfl
      rw [e] at q
      refine ⟨_, rfl, _, _, rfl, rfl, true, ?_, iteT ⟨_, _, rfl, rfl, false, ?_, iteF q⟩⟩
      · show V.bl (!decide (([c] : List Nat) < [32])) = .bl true
        rw [lt_one, decide_eq_false (by omega)]; rfl
      · show V.bl (!decide (([126] : List Nat) < [c])) = .bl false
        rw [lt_one, decide_eq_true (by omega)]; rfl
  · have e : sgB c = false := by unfold sgB; rw [decide_eq_false h1]; rfl
    rw [e] at q
    refine ⟨_, rfl, _, _, rfl, rfl, false, ?_, iteF ⟨false, rfl, iteF q⟩⟩
    show V.bl (!decide (([c] : List Nat) < [32])) = .bl false
    rw [lt_one, decide_eq_true (by omega)]; rfl
def btw (a b c : Nat) : Bool := decide (a ≤ c) && decide (c ≤ b)
theorem chain_btw {a b c : Nat} {H : Hp} {Q : VK} (q : Q (.bl (btw a b c)) H) :
    ∃ i j, (V.str ⟨#[a]⟩ : V) = .str i ∧ (V.str ⟨#[c]⟩ : V) = .str j ∧ ∃ d, V.bl (!decide (j.cps.toList < i.cps.toList)) = .bl d ∧ if d = true then ∃ i' j', (V.str ⟨#[c]⟩ : V) = .str i' ∧ (V.str ⟨#[b]⟩ : V) = .str j' ∧ Q (.bl (!decide (j'.cps.toList < i'.cps.toList))) H else Q (.bl false) H := by
  refine ⟨_, _, rfl, rfl, _, rfl, ?_⟩
  show if (!decide (([c] : List Nat) < [a])) = true then _ else _
  rw [lt_one]
  by_cases h : a ≤ c
  · rw [decide_eq_false (by omega)]
    refine iteT ⟨_, _, rfl, rfl, ?_⟩
    show Q (.bl (!decide (([b] : List Nat) < [c]))) H
    rw [lt_one]
    have e : (!decide (b < c)) = btw a b c := by
      unfold btw
      rw [decide_eq_true h, Bool.true_and, Bool.eq_iff_iff]
      simp
    rw [e]; exact q
  · rw [decide_eq_true (by omega)]
    have e : btw a b c = false := by unfold btw; rw [decide_eq_false h]; rfl
    rw [e] at q
    exact iteF q
abbrev sLetter : Stmt := top 13
theorem scLetter : FnScope ["sign"] ["sign"] (defScope sLetter) := ⟨rfl, rfl, rfl, by decide +kernel, rfl, by decide +kernel, by decide +kernel⟩
theorem ok_letter (F : Fun K "is_letter" "is_letter" sLetter f fd) : FnOk P w K mg base CX0 1 f fd ["sign"] (fun vs H Q _ => spFit isL vs H Q) := by
  refine F.ok scLetter (fun vs H Q E h => ?_) (fun cdv A outer s H vs Q E hr h => ?_)
  · obtain ⟨c, rfl, _⟩ := h
    rfl
  obtain ⟨c, rfl, q⟩ := h
  refine ⟨_, pss_one (ps_ret (pe_chain op_le_str op_le_str pe_str (pv 0) pe_str)), ?_⟩
  exact ⟨_, rfl, chain_btw (a := 97) (b := 122) q⟩
abbrev sFigure : Stmt := top 14
theorem scFigure : FnScope ["sign"] ["sign"] (defScope sFigure) := ⟨rfl, rfl, rfl, by decide +kernel, rfl, by decide +kernel, by decide +kernel⟩
theorem ok_figure (F : Fun K "is_figure" "is_figure" sFigure f fd) : FnOk P w K mg base CX0 1 f fd ["sign"] (fun vs H Q _ => spFit isF vs H Q) := by
  refine F.ok scFigure (fun vs H Q E h => ?_) (fun cdv A outer s H vs Q E hr h => ?_)
  · obtain ⟨c, rfl, _⟩ := h
    rfl
  obtain ⟨c, rfl, q⟩ := h
  refine ⟨_, pss_one (ps_ret (pe_chain op_le_str op_le_str pe_str (pv 0) pe_str)), ?_⟩
  exact ⟨_, rfl, chain_btw (a := 48) (b := 57) q⟩
end
end Law


set_option Elab.async false
set_option linter.all false
set_option maxRecDepth 100000
set_option maxHeartbeats 4000000
namespace Law
open PySem L2 L2.Sp
/-- a text by its code points -/
abbrev S (l : List Nat) : Str := ⟨l.toArray⟩
theorem S_len (l : List Nat) : (S l).length = l.length := rfl
theorem S_fit {l : List Nat} (h : l.length ≤ 100000) : (S l).length ≤ sizeLine := by rw [S_len]; have : sizeLine = 16777216 := sizeLine_eq; omega
theorem tw_step {φ : Nat → Bool} {l : List Nat} {e : Nat} {c : Nat} (h : l[e]? = some c) (hc : φ c = true) : ((l.drop e).takeWhile φ).length = 1 + ((l.drop (e + 1)).takeWhile φ).length := by
  rw [drop_cons h, List.takeWhile_cons_of_pos hc, List.length_cons]; omega
theorem tw_stop {φ : Nat → Bool} {l : List Nat} {e : Nat} {c : Nat} (h : l[e]? = some c) (hc : φ c = false) : ((l.drop e).takeWhile φ).length = 0 := by
  rw [drop_cons h, List.takeWhile_cons_of_neg (by rw [hc]; simp)]; rfl
section
variable {P : Program} {w : World} {K : PySem.W.Frag} {mg : Str → Option Value} {base : Heap} {f : Addr} {fd : FuncData}
abbrev sRun : Stmt := top 12
theorem scRun : FnScope ["text", "place", "fits", "end"] ["text", "place", "fits"] (defScope sRun) := ⟨rfl, rfl, rfl, by decide +kernel, rfl, by decide +kernel, by decide +kernel⟩
def spRun (P : Program) (w : World) (K : PySem.W.Frag) (mg : Str → Option Value) (base : Heap) : Sp := fun args H Q _ => ∃ (l : List Nat) (p : Nat) (v : V) (φ : Nat → Bool), args = [.str (S l), .int (p : Int), v] ∧ FnV P w K mg base 1 v (spFit φ) ∧ p ≤ l.length ∧ l.length ≤ 100000 ∧
  Q (.int ((p + ((l.drop p).takeWhile φ).length : Nat) : Int)) H
theorem ok_run (F : Fun K "run_end" "run_end" sRun f fd) (m1 : mg "len" = none) : FnOk P w K mg base CX0 2 f fd ["text", "place", "fits"] (spRun P w K mg base) := by
  refine F.ok scRun (fun vs H Q E h => ?_) (fun cdv A outer s H vs Q E hr h => ?_)
  · obtain ⟨l, p, v, φ, rfl, _⟩ := h
    rfl
  obtain ⟨l, p, v, φ, rfl, hv, hp, hl, q⟩ := h
  refine ⟨_, pss_cons (ps_set (i := 3) scRun.nd rfl (Or.inl rfl) (pv 1))
    (pss_cons (ps_while PassesOwn.never (PW.pt (pw_and (pt_cmpR op_lt (pv 3) (pe_callB call_len_str rfl m1 PySem.boot_len (pa_cons (pv 0) pa_nil)) (nomark _))
        (pw_and1 (pt_val (pe_callV hr (pv 2) (pa_cons (pe_ix ix_str (pv 0) (pv 3) (fun _ _ => rfl)) pa_nil))))))
      (pss_one (ps_aug (i := 3) scRun.nd rfl (Or.inl rfl) pe_int ip_add)))
    (pss_one (ps_ret (pv 3)))), ?_⟩
  refine ⟨_, rfl, ?_⟩
  refine ⟨fun m σ H' => ∃ e : Nat, σ = [some (.str (S l)), some (.int (p : Int)), some v, some (.int (e : Int))] ∧ H' = H ∧ m = l.length - e ∧ e ≤ l.length ∧ e + ((l.drop e).takeWhile φ).length = p + ((l.drop p).takeWhile φ).length,
    ⟨_, p, rfl, rfl, rfl, hp, rfl⟩, ?_⟩
  rintro m σ H' ⟨e, rfl, rfl, rfl, he, hi⟩
  refine ⟨_, rfl, _, rfl, _, rfl, S_fit hl, _, _, rfl, rfl, _, rfl, ite2 (fun c => ?_) (fun c => ?_)⟩
  · have c : decide ((e : Int) < ((S l).length : Nat)) = true := c
    have hlt : e < l.length := by have := of_decide_eq_true c; rw [S_len] at this; omega
    have hg : l[e]? = some l[e] := List.getElem?_eq_getElem hlt
    refine ⟨_, rfl, _, hv, _, rfl, _, rfl, _, _, l[e], rfl, rfl, S_fit hl, atI_nat hg, l[e], rfl, _, rfl, ?_⟩
    cases hφ : φ l[e] with
    | true =>
      refine iteT ⟨fun σ' H'' => σ' = [some (.str (S l)), some (.int (p : Int)), some v, some (.int ((e + 1 : Nat) : Int))] ∧ H'' = H', fun σ' H'' h => ?_, _, rfl, _, _, rfl, rfl, rfl, rfl⟩
      obtain ⟨rfl, rfl⟩ := h
      exact ⟨_, by omega, e + 1, rfl, rfl, rfl, by omega, by have := tw_step hg hφ; omega⟩
    | false =>
      refine iteF ⟨_, rfl, ?_⟩
      have h0 := tw_stop hg hφ
      have : e = p + ((l.drop p).takeWhile φ).length := by omega
      show Q (.int (e : Int)) H'
      rw [this]; exact q
  · have c : ¬ decide ((e : Int) < ((S l).length : Nat)) = true := c
    have hge : l.length ≤ e := by
      refine Nat.le_of_not_lt fun z => c (decide_eq_true ?_)
      rw [S_len]; omega
    refine iteF ⟨_, rfl, ?_⟩
    have h0 : l.drop e = [] := List.drop_eq_nil_of_le hge
    rw [h0] at hi
    have : e = p + ((l.drop p).takeWhile φ).length := by
      have z : (([] : List Nat).takeWhile φ).length = 0 := rfl
      omega
    show Q (.int (e : Int)) H'
    rw [this]; exact q
end
end Law


set_option Elab.async false
set_option linter.all false
set_option maxRecDepth 100000
set_option maxHeartbeats 4000000
namespace Law
open PySem L2 L2.Sp
theorem S_inj {a b : List Nat} : (V.str (S a) = V.str (S b)) ↔ a = b := by
  constructor
  · intro h
    have h := V.str.inj h
    have h2 : a.toArray = b.toArray := congrArg Str.cps h
    exact congrArg Array.toList h2
  · rintro rfl; rfl
theorem dec_S {a b : List Nat} : decide (V.str (S a) = V.str (S b)) = decide (a = b) := by
  rw [Bool.eq_iff_iff, decide_eq_true_iff, decide_eq_true_iff]; exact S_inj
/-- texts whose code points can be written -/
def Small (l : List Nat) : Prop := l.length ≤ 100000 ∧ ∀ c ∈ l, c < 1114112
/-- a def that may raise, under its name -/
structure Cal1 (P : Program) (w : World) (K : PySem.W.Frag) (mg : Str → Option Value) (base : Heap) (k : Nat) (x : Str) (ps : List Str) (sp : Sp) : Prop where
  ex : ∃ (f : Addr) (fd : FuncData), FnOk P w K mg base (CX1 P w) k f fd ps sp ∧ mg x = some (.ref f) ∧ PySem.W.keepIn K (.ref f) = true ∧ Binds K fd ps []
theorem pe_cal1 {X : Cx} {k : Nat} {x : Str} {ps : List Str} {sp : Sp} {p pos : Pos} {e : Expr} {es : List Expr} {t : TA} {E : XK} (C : Cal1 X.prog X.w X.K X.mg X.base k x ps sp) (hr : Room k X.A) (hg : Gl X x) (hx : Passes (CX1 X.prog X.w) X E) (ha : PA X (e :: es) t)
    (hdb : (x == ("__debug__" : Str)) = false := by decide) (he : starEach (e :: es) X.env = (false, eval e X.env) :: starEach es X.env := by rfl) (hpl : (backTo pos (starEach es X.env)).any (·.1) = false := by rfl) :
    PE X (.Call (.Name x p) (e :: es) [] pos) (tCall sp [] E t) := by
  obtain ⟨f, fd, F, a, b, c⟩ := C.ex
  exact pe_call F hr hg a b c .nil hx ha hdb he hpl
section
variable {P : Program} {w : World} {K : PySem.W.Frag} {mg : Str → Option Value} {base : Heap} {f : Addr} {fd : FuncData}
theorem Fun.ok1 {x qual : Str} {st : Stmt} {f : Addr} {fd : FuncData} {N ps : List Str} {k : Nat} {sp : Sp} (F : Fun K x qual st f fd) (S : FnScope N ps (defScope st)) (len : ∀ vs H Q E, sp vs H Q E → vs.length = ps.length)
    (hbody : ∀ (cdv : Value) (A : Around) (outer : List Env) (s : Shared) (H : Hp) (vs : List V) (Q : VK) (E : XK), Room k (A.deeper (PyProof.Rows.envOfC qual (defScope st) s.heap.objs.size f cdv)) → sp vs H Q E →
      ∃ t, PSs (cxOf (CX1 P w) P w K mg base N qual (defScope st) f cdv A outer s H E) (defBody st) t ∧ t { nx := fun _ H' => Q .non H', rt := Q } (start N vs) H) : FnOk P w K mg base (CX1 P w) (k + 1) f fd ps sp := by
  obtain ⟨oc, od, kV, doc, pm, an, cdv, ct, osl, rfl, lk, hcd⟩ := F.ex
  exact fn_of lk hcd S len fun A outer s H vs Q E hr hsp => hbody cdv A outer s H vs Q E hr hsp
/-- the class NoText -/
structure NT (K : PySem.W.Frag) (mg : Str → Option Value) (C : Addr) : Prop where
  xc : XC K C [.type "ValueError", .type "Exception", .type "BaseException", .type "object"] "ValueError.__new__"
  mg : mg "NoText" = some (.ref C)
abbrev sNum : Stmt := top 15
theorem scNum : FnScope ["text", "place", "start", "word", "figures"] ["text", "place"] (defScope sNum) := ⟨rfl, rfl, rfl, by decide +kernel, rfl, by decide +kernel, by decide +kernel⟩
/-- a word found at a place, or a refusal -/
def spAt (g : List Nat → Option (List Nat)) (C : Addr) : Sp := fun args H Q E => ∃ (l : List Nat) (p : Nat), args = [.str (S l), .int (p : Int)] ∧ p < l.length ∧ Small l ∧ (∀ v, g (l.drop p) = some v → Q (.str (S v)) H) ∧ (g (l.drop p) = none → E (.ref C) none H)
theorem lit0 : (Str.ofString "" : Str) = S [] := by decide +kernel
theorem lit48 : (Str.ofString "0" : Str) = S [48] := by decide +kernel
theorem lit45 : (Str.ofString "-" : Str) = S [45] := by decide +kernel
theorem ok_num {C fF : Addr} {mt : Tok} (F : Fun K "number_at" "number_at" sNum f fd) (RUN : Cal P w K mg base 2 "run_end" ["text", "place", "fits"] (spRun P w K mg base)) (n : NT K mg C) (hF : FnV P w K mg base 1 (.ref fF) (spFit isF)) (gF : mg "is_figure" = some (.ref fF))
    (gM : mg "MOST_FIGURES" = some (.int 60 mt)) (m1 : mg "len" = none) : FnOk P w K mg base (CX1 P w) 3 f fd ["text", "place"] (spAt numAt C) := by
  refine Fun.ok1 F scNum (fun vs H Q E h => ?_) (fun cdv A outer s H vs Q E hr h => ?_)
  · obtain ⟨l, p, rfl, _⟩ := h
    rfl
  obtain ⟨l, p, rfl, hp, hs, q1, q2⟩ := h
  refine ⟨_, pss_cut (ps_set (i := 2) scNum.nd rfl (Or.inl rfl) (pe_ifExp (pt_cmpR op_eq (pe_ix ix_str (pv 0) (pv 1) (fun _ _ => rfl)) pe_str (nomark _)) (pe_op op_add (pv 1) pe_int) (pv 1)))
    (pss_cut (ps_set (i := 3) scNum.nd rfl (Or.inl rfl) (pe_slice sl_str (pv 0) (po_some (pv 1)) (po_some (pe_cal RUN hr rfl (pa_cons (pv 0) (pa_cons (pv 2) (pa_cons (pe_glob (v := .ref fF) rfl gF rfl) pa_nil)))))))
    (pss_cut (ps_set (i := 4) scNum.nd rfl (Or.inl rfl) (pe_slice sl_str (pv 3) (po_some (pe_op op_sub (pv 2) (pv 1))) po_none))
    (pss_cons (ps_if (PW.pt (pw_or (pt_cmpR op_eq (pv 4) pe_str (nomark _)) (pw_or (pt_cmpR op_gt (pe_callB call_len_str rfl m1 PySem.boot_len (pa_cons (pv 4) pa_nil)) (pe_glob (v := .int 60) rfl gM ⟨_, rfl⟩) (nomark _))
        (pw_or1 (PW.pt (pw_and (pt_cmpR op_eq (pe_ix ix_str (pv 4) pe_int (fun _ _ => rfl)) pe_str (nomark _)) (pw_and1 (pt_cmpR op_ne (pv 3) pe_str (nomark _)))))))))
      (pss_one (ps_raise PySem.F.excBase_ValueError n.xc rfl n.mg (pa_cons (pe_fr (pv 3)) pa_nil))) pss_nil)
    (pss_one (ps_ret (pv 3)))))), ?_⟩
  have hg : l[p]? = some l[p] := List.getElem?_eq_getElem hp
  have hr0 : (l.drop p).head? = some l[p] := by rw [drop_cons hg]; rfl
  have hrl : (l.drop p).length = l.length - p := List.length_drop
  have hk1 := sg_le (l.drop p)
  generalize hk : sg (l.drop p) = k at hk1
  have hdd : (l.drop p).drop k = l.drop (p + k) := by rw [List.drop_drop]
  have hpk : p + k ≤ l.length := by omega
  generalize hn : ((l.drop (p + k)).takeWhile isF).length = n
  have hnl : n ≤ l.length - (p + k) := by rw [← hn]; have := tw_len isF (l.drop (p + k)); rw [List.length_drop] at this; exact this
  have ew : ((l.drop p).take (k + n)).length = k + n := by rw [List.length_take]; omega
  have ef : ((l.drop p).take (k + n)).drop k = (l.drop (p + k)).takeWhile isF := by
    rw [List.drop_take, hdd, Nat.add_sub_cancel_left, ← hn, tw_take]
  have wl := hs.1
  refine ⟨fun σ' H' => σ' = [some (.str (S l)), some (.int (p : Int)), some (.int ((p + k : Nat) : Int)), none, none] ∧ H' = H, ?_, ?_⟩
  · refine ⟨_, rfl, _, rfl, _, _, l[p], rfl, rfl, S_fit wl, atI_nat hg, rfl, _, rfl, ?_⟩
    have e1 : decide (V.str ⟨#[l[p]]⟩ = V.str (Str.ofString "-")) = decide (k = 1) := by
      rw [lit45]
      have : decide (V.str (S [l[p]]) = V.str (S [45])) = decide ([l[p]] = [45]) := dec_S
      rw [show (⟨#[l[p]]⟩ : Str) = S [l[p]] from rfl, this]
      rw [Bool.eq_iff_iff, decide_eq_true_iff, decide_eq_true_iff, ← hk]
      unfold sg
      rw [hr0]
      constructor
      · intro h; rw [if_pos (by rw [List.singleton_inj.mp h])]
      · intro h
        split at h
        · rename_i h2; rw [Option.some.inj h2]
        · omega
    rw [e1]
    refine ite2 (fun c => ?_) (fun c => ?_)
    · have c := of_decide_eq_true c
      exact ⟨_, rfl, _, _, rfl, rfl, by rw [c]; rfl, rfl⟩
    · have c : k = 0 := by
        have : ¬ k = 1 := fun z => c (decide_eq_true z)
        omega
      exact ⟨_, rfl, by rw [c]; rfl, rfl⟩
  rintro σ1 H1 ⟨rfl, rfl⟩
  refine ⟨fun σ' H' => σ' = [some (.str (S l)), some (.int (p : Int)), some (.int ((p + k : Nat) : Int)), some (.str (S ((l.drop p).take (k + n)))), none] ∧ H' = H1, ?_, ?_⟩
  · refine ⟨_, rfl, _, rfl, _, rfl, _, rfl, _, rfl, l, p + k, .ref fF, isF, rfl, hF, hpk, wl, _, rfl, _, rfl, S_fit wl, ?_⟩
    have e := slice_nat l (i := p) (j := p + k + ((l.drop (p + k)).takeWhile isF).length) (by omega) (by omega)
    rw [e, hn, show p + k + n - p = k + n by omega]
    exact ⟨rfl, rfl⟩
  rintro σ2 H2 ⟨rfl, rfl⟩
  refine ⟨fun σ' H' => σ' = [some (.str (S l)), some (.int (p : Int)), some (.int ((p + k : Nat) : Int)), some (.str (S ((l.drop p).take (k + n)))), some (.str (S ((l.drop (p + k)).takeWhile isF)))] ∧ H' = H2, ?_, ?_⟩
  · refine ⟨_, rfl, _, rfl, _, rfl, _, _, rfl, rfl, _, rfl, _, rfl, S_fit (by omega), ?_⟩
    have e := slice_from ((l.drop p).take (k + n)) (i := k) (by omega)
    rw [show ((p + k : Nat) : Int) - (p : Int) = (k : Int) by omega, e, ef]
    exact ⟨rfl, rfl⟩
  rintro σ3 H3 ⟨rfl, rfl⟩
  have hnum : numAt (l.drop p) = if ((l.drop (p + k)).takeWhile isF) = [] ∨ 60 < ((l.drop (p + k)).takeWhile isF).length ∨ (((l.drop (p + k)).takeWhile isF).head? = some 48 ∧ (l.drop p).take (k + n) ≠ [48]) then none else some ((l.drop p).take (k + n)) := by
    unfold numAt
    rw [hk, hdd, hn]
  have bad : ((l.drop (p + k)).takeWhile isF) = [] ∨ 60 < ((l.drop (p + k)).takeWhile isF).length ∨ (((l.drop (p + k)).takeWhile isF).head? = some 48 ∧ (l.drop p).take (k + n) ≠ [48]) → E (.ref C) none H3 := fun z => q2 (by rw [hnum, if_pos z])
  have good : ¬ (((l.drop (p + k)).takeWhile isF) = [] ∨ 60 < ((l.drop (p + k)).takeWhile isF).length ∨ (((l.drop (p + k)).takeWhile isF).head? = some 48 ∧ (l.drop p).take (k + n) ≠ [48])) → Q (.str (S ((l.drop p).take (k + n)))) H3 := fun z => q1 _ (by rw [hnum, if_neg z])
  have rz : (S ((l.drop p).take (k + n))).length ≤ 100000 ∧ (∀ c ∈ (S ((l.drop p).take (k + n))).cps.toList, c < 1114112) := ⟨by rw [S_len]; omega, fun c hc => hs.2 c (List.mem_of_mem_drop (List.mem_of_mem_take hc))⟩
  have fl : ((l.drop (p + k)).takeWhile isF).length ≤ 100000 := by omega
  generalize (l.drop (p + k)).takeWhile isF = fs at bad good fl ⊢
  generalize (l.drop p).take (k + n) = wd at bad good rz ⊢
  refine ⟨_, rfl, rfl, _, rfl, ?_⟩
  rw [lit0, dec_S]
  refine ite2 (fun c => ?_) (fun c0 => ?_)
  · exact iteT ⟨_, rfl, _, rfl, rz.1, rz.2, fun r => ⟨len1, bad (.inl (of_decide_eq_true c))⟩⟩
  have c0 : fs ≠ [] := fun z => c0 (decide_eq_true z)
  refine ⟨_, rfl, _, rfl, S_fit fl, _, _, rfl, rfl, _, rfl, ?_⟩
  refine ite2 (fun c => ?_) (fun c1 => ?_)
  · have c : decide (((S fs).length : Nat) > (60 : Int)) = true := c
    have c := of_decide_eq_true c
    rw [S_len] at c
    exact iteT ⟨_, rfl, _, rfl, rz.1, rz.2, fun r => ⟨len1, bad (.inr (.inl (by omega)))⟩⟩
  have c1 : ¬ 60 < fs.length := fun z => c1 (decide_eq_true (by show ((S fs).length : Int) > 60; rw [S_len]; omega))
  obtain ⟨c, r, rfl⟩ := List.exists_cons_of_ne_nil c0
  refine ⟨_, rfl, _, _, c, rfl, rfl, S_fit fl, atI_nat (j := 0) rfl, rfl, _, rfl, ?_⟩
  rw [lit48, show (⟨#[c]⟩ : Str) = S [c] from rfl, dec_S]
  refine ite2 (fun c2 => ?_) (fun c2 => ?_)
  · have c2 : c = 48 := List.singleton_inj.mp (of_decide_eq_true c2)
    subst c2
    refine ⟨_, rfl, rfl, _, rfl, ?_⟩
    rw [dec_S]
    by_cases hw : wd = [48]
    · rw [decide_eq_true hw]
      exact iteF ⟨_, rfl, good (fun z => by
        rcases z with z | z | z
        · cases z
        · exact c1 z
        · exact z.2 hw)⟩
    · rw [decide_eq_false hw]
      exact iteT ⟨_, rfl, _, rfl, rz.1, rz.2, fun r => ⟨len1, bad (.inr (.inr ⟨rfl, hw⟩))⟩⟩
  · have c2 : c ≠ 48 := fun z => c2 (decide_eq_true (by rw [z]))
    exact iteF ⟨_, rfl, good (fun z => by
      rcases z with z | z | z
      · cases z
      · exact c1 z
      · exact c2 (Option.some.inj z.1))⟩
end
end Law


set_option Elab.async false
set_option linter.all false
set_option maxRecDepth 100000
set_option maxHeartbeats 4000000
namespace Law
open PySem L2 L2.Sp
section
variable {P : Program} {w : World} {K : PySem.W.Frag} {mg : Str → Option Value} {base : Heap} {f : Addr} {fd : FuncData}
abbrev sQuo : Stmt := top 16
theorem scQuo : FnScope ["text", "place", "end"] ["text", "place"] (defScope sQuo) := ⟨rfl, rfl, rfl, by decide +kernel, rfl, by decide +kernel, by decide +kernel⟩
theorem lit34 : (Str.ofString "\"" : Str) = S [34] := by decide +kernel
theorem ok_quo {C fS : Addr} (F : Fun K "quoted_at" "quoted_at" sQuo f fd) (RUN : Cal P w K mg base 2 "run_end" ["text", "place", "fits"] (spRun P w K mg base)) (n : NT K mg C) (hF : FnV P w K mg base 1 (.ref fS) (spFit sgB)) (gF : mg "is_sign" = some (.ref fS)) :
    FnOk P w K mg base (CX1 P w) 3 f fd ["text", "place"] (spAt quoAt C) := by
  refine Fun.ok1 F scQuo (fun vs H Q E h => ?_) (fun cdv A outer s H vs Q E hr h => ?_)
  · obtain ⟨l, p, rfl, _⟩ := h
    rfl
  obtain ⟨l, p, rfl, hp, hs, q1, q2⟩ := h
  refine ⟨_, pss_cons (ps_set (i := 2) scQuo.nd rfl (Or.inl rfl) (pe_cal RUN hr rfl (pa_cons (pv 0) (pa_cons (pe_op op_add (pv 1) pe_int) (pa_cons (pe_glob (v := .ref fS) rfl gF rfl) pa_nil)))))
    (pss_cons (ps_if (pt_cmpR op_ne (pe_slice sl_str (pv 0) (po_some (pv 2)) (po_some (pe_op op_add (pv 2) pe_int))) pe_str (nomark _))
      (pss_one (ps_raise PySem.F.excBase_ValueError n.xc rfl n.mg (pa_cons pe_str pa_nil))) pss_nil)
    (pss_one (ps_ret (pe_slice sl_str (pv 0) (po_some (pv 1)) (po_some (pe_op op_add (pv 2) pe_int)))))), ?_⟩
  have wl := hs.1
  have hdd : (l.drop p).drop 1 = l.drop (p + 1) := by rw [List.drop_drop]
  have hnl := tw_len sgB (l.drop (p + 1))
  rw [List.length_drop] at hnl
  have hquo : quoAt (l.drop p) = if (l.drop (p + 1 + ((l.drop (p + 1)).takeWhile sgB).length)).take 1 = [34] then some ((l.drop p).take (2 + ((l.drop (p + 1)).takeWhile sgB).length)) else none := by
    unfold quoAt
    rw [hdd, List.drop_drop, Nat.add_assoc]
  refine ⟨_, rfl, _, rfl, _, _, rfl, rfl, l, p + 1, .ref fS, sgB, rfl, hF, by omega, wl, ?_⟩
  generalize ((l.drop (p + 1)).takeWhile sgB).length = n at hnl hquo ⊢
  refine ⟨_, rfl, _, rfl, _, rfl, _, rfl, _, _, rfl, rfl, _, rfl, _, rfl, S_fit wl, rfl, _, rfl, ?_⟩
  have e1 := slice_nat l (i := p + 1 + n) (j := p + 1 + n + 1) (by omega) (by omega)
  have e2 := slice_nat l (i := p) (j := p + 1 + n + 1) (by omega) (by omega)
  rw [show ((p + 1 + n : Nat) : Int) + 1 = ((p + 1 + n + 1 : Nat) : Int) by omega, e1, show p + 1 + n + 1 - (p + 1 + n) = 1 by omega, lit34]
  have e3 : decide (V.str (S ((l.drop (p + 1 + n)).take 1)) = V.str (S [34])) = decide ((l.drop (p + 1 + n)).take 1 = [34]) := dec_S
  rw [e3]
  by_cases hq : (l.drop (p + 1 + n)).take 1 = [34]
  · rw [decide_eq_true hq]
    refine iteF ⟨_, rfl, _, rfl, _, rfl, _, rfl, _, _, rfl, rfl, _, rfl, _, rfl, S_fit wl, ?_⟩
    rw [show ((p + 1 + n : Nat) : Int) + 1 = ((p + 1 + n + 1 : Nat) : Int) by omega, e2, show p + 1 + n + 1 - p = 2 + n by omega]
    exact q1 _ (by rw [hquo, if_pos hq])
  · rw [decide_eq_false hq]
    exact iteT ⟨len1, q2 (by rw [hquo, if_neg hq])⟩
abbrev sWord : Stmt := top 11
theorem scWord : FnScope ["text", "place", "sign"] ["text", "place"] (defScope sWord) := ⟨rfl, rfl, rfl, by decide +kernel, rfl, by decide +kernel, by decide +kernel⟩
theorem litDots : (Str.ofString ".." : Str) = S [46, 46] := by decide +kernel
theorem litSingle : (Str.ofString "{}[](),:?&|!@." : Str) = S single := by decide +kernel
theorem FnV_of {k : Nat} {x : Str} {ps : List Str} {sp : List V → Hp → VK → Prop} (C : Cal P w K mg base k x ps (fun vs H Q _ => sp vs H Q)) : ∃ f, FnV P w K mg base k (.ref f) sp ∧ mg x = some (.ref f) := by
  obtain ⟨f, fd, F, a, b, c⟩ := C.ex
  exact ⟨f, ⟨f, fd, ps, rfl, F, b, c⟩, a⟩
theorem ok_word {C : Addr} {st : Tok} (F : Fun K "word_at" "word_at" sWord f fd) (RUN : Cal P w K mg base 2 "run_end" ["text", "place", "fits"] (spRun P w K mg base)) (LET : Cal P w K mg base 1 "is_letter" ["sign"] (fun vs H Q _ => spFit isL vs H Q))
    (FIG : Cal P w K mg base 1 "is_figure" ["sign"] (fun vs H Q _ => spFit isF vs H Q)) (NUM : Cal1 P w K mg base 3 "number_at" ["text", "place"] (spAt numAt C)) (QUO : Cal1 P w K mg base 3 "quoted_at" ["text", "place"] (spAt quoAt C)) (n : NT K mg C)
    (gS : mg "SINGLE_SIGNS" = some (.str (Str.ofString "{}[](),:?&|!@.") st)) : FnOk P w K mg base (CX1 P w) 4 f fd ["text", "place"] (spAt wordAt C) := by
  refine Fun.ok1 F scWord (fun vs H Q E h => ?_) (fun cdv A outer s H vs Q E hr h => ?_)
  · obtain ⟨l, p, rfl, _⟩ := h
    rfl
  obtain ⟨l, p, rfl, hp, hs, q1, q2⟩ := h
  obtain ⟨fL, hL, gL⟩ := FnV_of LET
  refine ⟨_, pss_cons (ps_set (i := 2) scWord.nd rfl (Or.inl rfl) (pe_ix ix_str (pv 0) (pv 1) (fun _ _ => rfl)))
    (pss_cons (ps_if (pt_val (pe_cal (LET.mono (by omega)) hr rfl (pa_cons (pv 2) pa_nil)))
      (pss_one (ps_ret (pe_slice sl_str (pv 0) (po_some (pv 1)) (po_some (pe_cal (RUN.mono (by omega)) hr rfl (pa_cons (pv 0) (pa_cons (pv 1) (pa_cons (pe_glob (v := .ref fL) rfl gL rfl) pa_nil)))))))) pss_nil)
    (pss_cons (ps_if (PW.pt (pw_or (pt_cmpR op_eq (pv 2) pe_str (nomark _)) (pw_or1 (pt_val (pe_cal (FIG.mono (by omega)) hr rfl (pa_cons (pv 2) pa_nil))))))
      (pss_one (ps_ret (pe_cal1 NUM hr rfl (passes1 (E' := E) fun _ _ _ h => h) (pa_cons (pv 0) (pa_cons (pv 1) pa_nil))))) pss_nil)
    (pss_cons (ps_if (pt_cmpR op_eq (pv 2) pe_str (nomark _))
      (pss_one (ps_ret (pe_cal1 QUO hr rfl (passes1 (E' := E) fun _ _ _ h => h) (pa_cons (pv 0) (pa_cons (pv 1) pa_nil))))) pss_nil)
    (pss_cons (ps_if (pt_cmpR op_eq (pe_slice sl_str (pv 0) (po_some (pv 1)) (po_some (pe_op op_add (pv 1) pe_int))) pe_str (nomark _)) (pss_one (ps_ret pe_str)) pss_nil)
    (pss_cons (ps_if (pt_cmpR op_in_str (pv 2) (pe_glob (v := .str (S single)) rfl gS ⟨st, by rw [litSingle]⟩) rfl) (pss_one (ps_ret (pv 2))) pss_nil)
    (pss_one (ps_raise PySem.F.excBase_ValueError n.xc rfl n.mg (pa_cons (pe_fr (pv 2)) pa_nil)))))))), ?_⟩
  have wl := hs.1
  have hg : l[p]? = some l[p] := List.getElem?_eq_getElem hp
  have ed : l.drop p = l[p] :: l.drop (p + 1) := drop_cons hg
  have hc0 := hs.2 l[p] (List.getElem_mem hp)
  refine ⟨_, rfl, _, rfl, _, _, l[p], rfl, rfl, S_fit wl, atI_nat hg, ?_⟩
  have hw : wordAt (l.drop p) = if isL l[p] = true then some ((l.drop p).take ((l.drop p).takeWhile isL).length) else if l[p] = 45 ∨ isF l[p] = true then numAt (l.drop p) else if l[p] = 34 then quoAt (l.drop p)
      else if (l.drop p).take 2 = [46, 46] then some [46, 46] else if l[p] ∈ single then some [l[p]] else none := by
    rw [ed, wordAt]
  refine ⟨_, rfl, l[p], rfl, _, rfl, ?_⟩
  cases hcl : isL l[p] with
  | true =>
    rw [hcl, if_pos rfl] at hw
    refine iteT ⟨_, rfl, _, rfl, _, rfl, _, rfl, _, rfl, l, p, .ref fL, isL, rfl, hL, by omega, wl, _, rfl, _, rfl, S_fit wl, ?_⟩
    have e := slice_nat l (i := p) (j := p + ((l.drop p).takeWhile isL).length) (by omega) (by omega)
    rw [e, Nat.add_sub_cancel_left]
    exact q1 _ hw
  | false =>
  rw [hcl, if_neg (by simp)] at hw
  refine iteF ⟨_, rfl, rfl, _, rfl, ?_⟩
  rw [lit45, show (⟨#[l[p]]⟩ : Str) = S [l[p]] from rfl, dec_S]
  have num : (l[p] = 45 ∨ isF l[p] = true) → spAt numAt C [.str (S l), .int (p : Int)] H Q E := fun z => by
    rw [if_pos z] at hw
    exact ⟨l, p, rfl, hp, hs, fun v hv => q1 v (hw.trans hv), fun hv => q2 (hw.trans hv)⟩
  refine ite2 (fun c => ?_) (fun c1 => ?_)
  · exact iteT ⟨_, rfl, _, rfl, num (.inl (List.singleton_inj.mp (of_decide_eq_true c)))⟩
  have c1 : l[p] ≠ 45 := fun z => c1 (decide_eq_true (by rw [z]))
  refine ⟨_, rfl, l[p], rfl, _, rfl, ?_⟩
  cases hcf : isF l[p] with
  | true => exact iteT ⟨_, rfl, _, rfl, num (.inr hcf)⟩
  | false =>
  rw [if_neg (by rintro (z | z); exact c1 z; rw [hcf] at z; cases z)] at hw
  refine iteF ⟨_, rfl, rfl, _, rfl, ?_⟩
  rw [lit34, dec_S]
  refine ite2 (fun c => ?_) (fun c2 => ?_)
  · have c := List.singleton_inj.mp (of_decide_eq_true c)
    rw [if_pos c] at hw
    exact ⟨_, rfl, _, rfl, l, p, rfl, hp, hs, fun v hv => q1 v (hw.trans hv), fun hv => q2 (hw.trans hv)⟩
  have c2 : l[p] ≠ 34 := fun z => c2 (decide_eq_true (by rw [z]))
  rw [if_neg c2] at hw
  refine ⟨_, rfl, _, rfl, _, rfl, _, rfl, _, _, rfl, rfl, _, rfl, _, rfl, S_fit wl, rfl, _, rfl, ?_⟩
  have e := slice_nat l (i := p) (j := p + 2) (by omega) (by omega)
  rw [show ((p : Int) + 2) = ((p + 2 : Nat) : Int) by omega, e, Nat.add_sub_cancel_left, litDots]
  have e3 : decide (V.str (S ((l.drop p).take 2)) = V.str (S [46, 46])) = decide ((l.drop p).take 2 = [46, 46]) := dec_S
  rw [e3]
  refine ite2 (fun c => ?_) (fun c3 => ?_)
  · rw [if_pos (of_decide_eq_true c)] at hw
    show Q (.str (Str.ofString "..")) H
    rw [litDots]
    exact q1 _ hw
  rw [if_neg (fun z => c3 (decide_eq_true z))] at hw
  refine ⟨_, rfl, _, _, rfl, rfl, _, rfl, ?_⟩
  have e4 : (!(Builtin.Str.occurrences (S single) (S [l[p]]) 0 (S single).length 1).isEmpty) = decide (l[p] ∈ single) := StrLaws.found_one _ _
  rw [e4]
  refine ite2 (fun c => ?_) (fun c4 => ?_)
  · rw [if_pos (of_decide_eq_true c)] at hw
    exact ⟨_, rfl, q1 _ hw⟩
  rw [if_neg (fun z => c4 (decide_eq_true z))] at hw
  exact ⟨_, rfl, _, rfl, by show 1 ≤ 100000; omega, fun c hc => by
    have hc : c ∈ [l[p]] := hc
    rw [List.mem_singleton.mp hc]; exact hc0, fun r => ⟨len1, q2 hw⟩⟩
end
end Law


set_option Elab.async false
set_option linter.all false
set_option maxRecDepth 100000
set_option maxHeartbeats 4000000
namespace Law
open PySem L2 L2.Sp
theorem call_isiW {X : Cx} : CallR X (.builtin "isinstance") (fun xs H Q => ∃ v b, xs = [v, .ty "str"] ∧ ((∃ z, v = .str z ∧ b = true) ∨ (∃ d, DV X.K H d v ∧ isiD d "str" = b)) ∧ Q (.bl b) H) := by
  intro pins s σ H xs us Q I r h
  obtain ⟨v, b, rfl, h, q⟩ := h
  rcases h with ⟨z, rfl, rfl⟩ | ⟨d, hd, rfl⟩
  · exact call_isi pins s σ H _ us Q I r ⟨_, _, true, rfl, rfl, q⟩
  · exact call_isiD pins s σ H _ us Q I r ⟨_, d, _, rfl, hd, .inr (.inl rfl), q⟩
section
variable {P : Program} {w : World} {K : PySem.W.Frag} {mg : Str → Option Value} {base : Heap} {f : Addr} {fd : FuncData}
abbrev sWords : Stmt := top 10
theorem scWords : FnScope ["text", "words", "place"] ["text"] (defScope sWords) := ⟨rfl, rfl, rfl, by decide +kernel, rfl, by decide +kernel, by decide +kernel⟩
abbrev ST (ws : List (List Nat)) : List V := ws.map fun w => V.str (S w)
def spWords (K : PySem.W.Frag) (C : Addr) : Sp := fun args H Q E => ∃ v, args = [v] ∧ ((∃ d, DV K H d v ∧ isiD d "str" = false ∧ E (.ref C) none H) ∨ ∃ l, v = .str (S l) ∧ Small l ∧
  (∀ ws, words l = some ws → ∀ (H' : Hp) (p : Addr), H p = none → Same H H' → H' p = some (.lst (ST ws)) → Q (.ref p) H') ∧ (words l = none → ∀ H', Same H H' → E (.ref C) none H'))
theorem litSp : (Str.ofString " " : Str) = S [32] := by decide +kernel
theorem map_app {ws ws' : List (List Nat)} {o : Option (List (List Nat))} : (o.map (ws' ++ ·)).map (ws ++ ·) = o.map ((ws ++ ws') ++ ·) := by
  cases o with
  | none => rfl
  | some x => simp
theorem ok_words {C : Addr} (F : Fun K "words_of" "words_of" sWords f fd) (WORD : Cal1 P w K mg base 4 "word_at" ["text", "place"] (spAt wordAt C)) (n : NT K mg C) (m1 : mg "len" = none) (m2 : mg "isinstance" = none) (m3 : mg "str" = none) :
    FnOk P w K mg base (CX1 P w) 5 f fd ["text"] (spWords K C) := by
  refine Fun.ok1 F scWords (fun vs H Q E h => ?_) (fun cdv A outer s H vs Q E hr h => ?_)
  · obtain ⟨v, rfl, _⟩ := h
    rfl
  obtain ⟨v, rfl, h⟩ := h
  refine ⟨_, pss_cons (ps_if (pt_not (pt_val (pe_callB call_isiW rfl m2 bt_isi (pa_cons (pv 0) (pa_cons (pe_bltn (v := .ty "str") rfl m3 bt_str rfl) pa_nil)))))
      (pss_one (ps_raise PySem.F.excBase_ValueError n.xc rfl n.mg (pa_cons pe_str pa_nil))) pss_nil)
    (pss_cons (ps_set (i := 1) scWords.nd rfl (Or.inl rfl) (pe_lst pa_nil))
    (pss_cons (ps_set (i := 2) scWords.nd rfl (Or.inl rfl) pe_int)
    (pss_cons (ps_while PassesOwn.leaving (pt_cmpR op_lt (pv 2) (pe_callB call_len_str rfl m1 PySem.boot_len (pa_cons (pv 0) pa_nil)) (nomark _))
      (pss_one (ps_if (pt_cmpR op_eq (pe_ix ix_str (pv 0) (pv 2) (fun _ _ => rfl)) pe_str (nomark _))
        (pss_one (ps_aug (i := 2) scWords.nd rfl (Or.inl rfl) pe_int ip_add))
        (pss_cons (ps_expr (pe_bm PySem.F.plainAttrs_list PySem.F.slot_list_append PySem.F.type_list_append mt_append (pv 1) (pa_cons (pe_cal1 WORD hr rfl (passes1 (E' := E) fun _ _ _ h => h) (pa_cons (pv 0) (pa_cons (pv 2) pa_nil))) pa_nil)))
        (pss_one (ps_aug (i := 2) scWords.nd rfl (Or.inl rfl) (pe_callB call_len_str rfl m1 PySem.boot_len (pa_cons (pe_ix ix_list (pv 1) (pe_un un_neg pe_int) (fun _ _ => rfl)) pa_nil)) ip_add))))))
    (pss_one (ps_ret (pv 1)))))), ?_⟩
  rcases h with ⟨d, hd, hf, e⟩ | ⟨l, rfl, hs, q1, q2⟩
  · exact ⟨_, rfl, _, _, rfl, .inr ⟨d, hd, hf⟩, _, rfl, iteT ⟨len1, e⟩⟩
  have wl := hs.1
  refine ⟨_, rfl, _, _, rfl, .inl ⟨_, rfl, rfl⟩, _, rfl, iteF ?_⟩
  refine ⟨len0, fun a ha => ?_⟩
  have g1 := same_new ha (.lst [])
  refine ⟨fun m σ H' => ∃ (p : Nat) (ws : List (List Nat)), σ = [some (.str (S l)), some (.ref a), some (.int (p : Int))] ∧ Same H H' ∧ H' a = some (.lst (ST ws)) ∧ m = l.length - p ∧ p ≤ l.length ∧ ws.length ≤ p ∧ words l = (words (l.drop p)).map (ws ++ ·),
    ⟨_, 0, [], rfl, g1, upd_same, rfl, by omega, Nat.le_refl _, by
      show words l = (words l).map ([] ++ ·)
      cases words l with
      | none => rfl
      | some x => rfl⟩, ?_⟩
  rintro m σ H' ⟨p, ws, rfl, g, hl, rfl, hp, hwl, hw⟩
  refine ⟨_, rfl, _, rfl, _, rfl, S_fit wl, _, _, rfl, rfl, _, rfl, ite2 (fun c => ?_) (fun c => ?_)⟩
  · have c : decide ((p : Int) < ((S l).length : Nat)) = true := c
    have hlt : p < l.length := by have := of_decide_eq_true c; rw [S_len] at this; omega
    have hg : l[p]? = some l[p] := List.getElem?_eq_getElem hlt
    have ed : l.drop p = l[p] :: l.drop (p + 1) := drop_cons hg
    refine ⟨fun σ' H'' => ∃ (p' : Nat) (ws : List (List Nat)), σ' = [some (.str (S l)), some (.ref a), some (.int (p' : Int))] ∧ Same H H'' ∧ H'' a = some (.lst (ST ws)) ∧ p < p' ∧ p' ≤ l.length ∧ ws.length ≤ p' ∧ words l = (words (l.drop p')).map (ws ++ ·), fun σ' H'' h => ?_, ?_⟩
    · obtain ⟨p', ws', rfl, h1, h2, h3, h4, h5, h6⟩ := h
      exact ⟨l.length - p', by omega, p', ws', rfl, h1, h2, rfl, h4, h5, h6⟩
    refine ⟨_, rfl, _, rfl, _, _, l[p], rfl, rfl, S_fit wl, atI_nat hg, rfl, _, rfl, ?_⟩
    rw [litSp, show (⟨#[l[p]]⟩ : Str) = S [l[p]] from rfl, dec_S]
    refine ite2 (fun c => ?_) (fun c => ?_)
    · have c := List.singleton_inj.mp (of_decide_eq_true c)
      refine ⟨_, rfl, _, _, rfl, rfl, p + 1, ws, rfl, g, hl, by omega, by omega, by omega, ?_⟩
      rw [hw, ed, c, words_sp]
    · have c : l[p] ≠ 32 := fun z => c (decide_eq_true (by rw [z]))
      have hh : (l.drop p).head? ≠ some 32 := by rw [ed]; intro z; exact c (Option.some.inj z)
      refine ⟨_, rfl, .inl ⟨rfl, _, SqL.of hl⟩, _, rfl, _, rfl, l, p, rfl, hlt, hs, fun v hv => ?_, fun hv => ?_⟩
      · obtain ⟨v1, v2, v3⟩ := wordAt_ok hv
        rw [List.length_drop] at v2
        refine ⟨a, _, _, rfl, rfl, hl, ?_, ?_⟩
        · rw [List.length_map]; exact Nat.lt_of_le_of_lt (Nat.le_trans hwl (Nat.le_trans hp wl)) (by decide)
        have el : ST ws ++ [V.str (S v)] = ST (ws ++ [v]) := by simp [ST]
        refine ⟨_, rfl, _, rfl, _, rfl, a, _, _, _, rfl, rfl, SqL.of upd_same, atI_last _ _, _, rfl, S_fit (by omega), _, _, rfl, rfl, p + v.length, ws ++ [v], ?_, fun b o h => by rw [upd_ne (ne_of_none h ha)]; exact g _ _ h, by rw [upd_same, el], by omega, by omega, by rw [List.length_append, List.length_singleton]; omega, ?_⟩
        · rfl
        · rw [hw, words_some hh hv, List.drop_drop]
          exact map_app (ws' := [v])
      · have hn : words (l.drop p) = none := words_none hh (fun z => by rw [ed] at z; cases z) hv
        exact q2 (hw.trans (by rw [hn]; rfl)) H' g
  · have c : ¬ decide ((p : Int) < ((S l).length : Nat)) = true := c
    have hge : l.length ≤ p := by
      refine Nat.le_of_not_lt fun z => c (decide_eq_true ?_)
      rw [S_len]; omega
    have h0 : l.drop p = [] := List.drop_eq_nil_of_le hge
    rw [h0, words_nil] at hw
    refine ⟨_, rfl, q1 ws ?_ H' a ha g hl⟩
    rw [hw]; simp
end
end Law


set_option Elab.async false
set_option linter.all false
set_option maxRecDepth 100000
set_option maxHeartbeats 4000000
namespace Law
open PySem L2 L2.Sp
def Let (w : List Nat) : Prop := w ≠ [] ∧ ∀ c ∈ w, isL c = true
def Num (w : List Nat) : Prop := ∃ sn fs, w = sn ++ fs ∧ (sn = [] ∨ sn = [45]) ∧ fs ≠ [] ∧ (∀ c ∈ fs, isF c = true) ∧ fs.length ≤ 60 ∧ (fs.head? ≠ some 48 ∨ w = [48])
def Quo (w : List Nat) : Prop := ∃ b, (∀ c ∈ b, sgB c = true) ∧ w = 34 :: (b ++ [34])
def One (w : List Nat) : Prop := ∃ c, c ∈ single ∧ w = [c]
def TokW (w : List Nat) : Prop := Let w ∨ Num w ∨ Quo w ∨ w = [46, 46] ∨ One w
def Fol (w s : List Nat) : Prop := ∀ d, s.head? = some d → (Let w → isL d = false) ∧ (Num w → isF d = false) ∧ (w = [46] → d ≠ 46)
theorem isL_F {c : Nat} (h : isF c = true) : isL c = false := by
  unfold isF at h; unfold isL
  simp only [Bool.and_eq_true, decide_eq_true_eq] at h
  rw [decide_eq_false (by omega)]; rfl
theorem isF_L {c : Nat} (h : isL c = true) : isF c = false := by
  unfold isL at h; unfold isF
  simp only [Bool.and_eq_true, decide_eq_true_eq] at h
  rw [decide_eq_false (show ¬ c ≤ 57 by omega), Bool.and_false]
theorem single_no : ∀ c ∈ single, isL c = false ∧ isF c = false ∧ c ≠ 45 ∧ c ≠ 34 ∧ c ≠ 32 := by decide
theorem F_no {c : Nat} (h : isF c = true) : c ≠ 45 ∧ c ≠ 32 ∧ c ≠ 34 ∧ c ≠ 46 := by
  unfold isF at h
  simp only [Bool.and_eq_true, decide_eq_true_eq] at h
  omega
theorem L_no {c : Nat} (h : isL c = true) : c ≠ 45 ∧ c ≠ 32 ∧ c ≠ 34 ∧ c ≠ 46 := by
  unfold isL at h
  simp only [Bool.and_eq_true, decide_eq_true_eq] at h
  omega
theorem Num.head {w : List Nat} (h : Num w) : ∃ c, w.head? = some c ∧ (c = 45 ∨ isF c = true) := by
  obtain ⟨sn, fs, rfl, hsn, hne, hf, _⟩ := h
  obtain ⟨c, r, rfl⟩ := List.exists_cons_of_ne_nil hne
  rcases hsn with rfl | rfl
  · exact ⟨c, rfl, .inr (hf c (by simp))⟩
  · exact ⟨45, rfl, .inl rfl⟩
theorem Let.head {w : List Nat} (h : Let w) : ∃ c, w.head? = some c ∧ isL c = true := by
  obtain ⟨hne, hl⟩ := h
  obtain ⟨c, r, rfl⟩ := List.exists_cons_of_ne_nil hne
  exact ⟨c, rfl, hl c (by simp)⟩
theorem not_let_num {w : List Nat} (h : Let w) (h' : Num w) : False := by
  obtain ⟨c, e, hc⟩ := h.head
  obtain ⟨c', e', hc'⟩ := h'.head
  rw [e] at e'; cases e'
  rcases hc' with rfl | hc'
  · cases hc
  · rw [isF_L hc] at hc'; cases hc'
theorem numAt_tok {w s : List Nat} (h : Num w) (hs : ∀ d, s.head? = some d → isF d = false) : numAt (w ++ s) = some w := by
  obtain ⟨sn, fs, rfl, hsn, hne, hf, hlen, h0⟩ := h
  obtain ⟨c, r, rfl⟩ := List.exists_cons_of_ne_nil hne
  have htw : ((c :: r) ++ s).takeWhile isF = c :: r := tw_app isF hf hs
  have key : ∀ k, sg (sn ++ (c :: r) ++ s) = k → k = sn.length → numAt (sn ++ (c :: r) ++ s) = some (sn ++ (c :: r)) := fun k hk hl => by
    have hd : (sn ++ (c :: r) ++ s).drop k = (c :: r) ++ s := by rw [hl, List.append_assoc, List.drop_left]
    have ht : (sn ++ (c :: r) ++ s).take (k + (c :: r).length) = sn ++ (c :: r) := by
      rw [hl, ← List.length_append, List.take_left]
    unfold numAt
    rw [hk, hd, htw, ht, if_neg]
    rintro (z | z | z)
    · cases z
    · omega
    · rcases h0 with h0 | h0
      · exact h0 z.1
      · exact z.2 h0
  rcases hsn with rfl | rfl
  · refine key 0 ?_ rfl
    unfold sg
    rw [if_neg]
    intro z
    exact (F_no (hf c (by simp))).1 (Option.some.inj z)
  · exact key 1 rfl rfl
theorem tok_at {w s : List Nat} (h : TokW w) (hf : Fol w s) : wordAt (w ++ s) = some w := by
  rcases h with h | h | h | rfl | h
  · have htw : (w ++ s).takeWhile isL = w := tw_app isL h.2 fun d hd => (hf d hd).1 h
    obtain ⟨c, r, rfl⟩ := List.exists_cons_of_ne_nil h.1
    have hc := h.2 c (by simp)
    show wordAt (c :: (r ++ s)) = _
    rw [wordAt, if_pos hc]
    have : (c :: (r ++ s)).takeWhile isL = c :: r := htw
    rw [this]
    show some ((c :: r ++ s).take (c :: r).length) = _
    rw [List.take_left]
  · have hn := numAt_tok h (s := s) fun d hd => (hf d hd).2.1 h
    obtain ⟨c, e, hc⟩ := h.head
    obtain ⟨r, rfl⟩ : ∃ r, w = c :: r := by
      cases w with
      | nil => cases e
      | cons a r => cases e; exact ⟨r, rfl⟩
    have hl : isL c = false := by
      rcases hc with rfl | hc
      · rfl
      · exact isL_F hc
    show wordAt (c :: (r ++ s)) = _
    rw [wordAt, if_neg (by rw [hl]; simp), if_pos hc]
    exact hn
  · obtain ⟨b, hb, rfl⟩ := h
    show wordAt (34 :: (b ++ [34] ++ s)) = _
    rw [wordAt, if_neg (by decide), if_neg (by decide), if_pos rfl]
    have htw : (b ++ [34] ++ s).takeWhile sgB = b := by
      rw [List.append_assoc]
      exact tw_app sgB hb fun d hd => by cases hd; decide
    unfold quoAt
    have e1 : (34 :: (b ++ [34] ++ s)).drop 1 = b ++ [34] ++ s := rfl
    rw [e1, htw]
    have e2 : (34 :: (b ++ [34] ++ s)).drop (1 + b.length) = [34] ++ s := by
      rw [Nat.add_comm 1, List.drop_succ_cons, List.append_assoc, List.drop_left]
    have e3 : (34 :: (b ++ [34] ++ s)).take (2 + b.length) = 34 :: (b ++ [34]) := by
      have : 2 + b.length = (34 :: (b ++ [34])).length := by simp; omega
      rw [this]
      show ((34 :: (b ++ [34])) ++ s).take _ = _
      rw [List.take_left]
    rw [e2, e3]
    rfl
  · show wordAt (46 :: 46 :: s) = _
    rw [wordAt, if_neg (by decide), if_neg (by decide), if_neg (by decide), if_pos (show List.take 2 (46 :: 46 :: s) = [46, 46] from rfl)]
  · obtain ⟨c, hc, rfl⟩ := h
    obtain ⟨h1, h2, h3, h4, _⟩ := single_no c hc
    show wordAt (c :: s) = _
    rw [wordAt, if_neg (by rw [h1]; simp), if_neg (by rintro (z | z); exact h3 z; rw [h2] at z; cases z), if_neg h4, if_neg, if_pos hc]
    intro z
    cases s with
    | nil => cases z
    | cons d r =>
      have z : c :: d :: [] = [46, 46] := z
      cases z
      exact (hf 46 rfl).2.2 rfl rfl
theorem tok_head {w : List Nat} (h : TokW w) : ∃ c, w.head? = some c ∧ c ≠ 32 := by
  rcases h with h | h | h | rfl | h
  · obtain ⟨c, e, hc⟩ := h.head
    exact ⟨c, e, (L_no hc).2.1⟩
  · obtain ⟨c, e, hc⟩ := h.head
    refine ⟨c, e, ?_⟩
    rcases hc with rfl | hc
    · decide
    · exact (F_no hc).2.1
  · obtain ⟨b, _, rfl⟩ := h
    exact ⟨34, rfl, by decide⟩
  · exact ⟨46, rfl, by decide⟩
  · obtain ⟨c, hc, rfl⟩ := h
    exact ⟨c, rfl, (single_no c hc).2.2.2.2⟩
theorem words_tok {w s : List Nat} (h : TokW w) (hf : Fol w s) : words (w ++ s) = (words s).map (w :: ·) := by
  obtain ⟨c, e, hc⟩ := tok_head h
  have hh : (w ++ s).head? ≠ some 32 := by
    cases w with
    | nil => cases e
    | cons a r =>
      cases e
      intro z
      exact hc (Option.some.inj z)
  rw [words_some hh (tok_at h hf), List.drop_left]
def Line (line : List Nat) (due : List (List Nat)) (last : List Nat) : Prop :=
  (line = [] ∧ due = [] ∧ last = []) ∨ ∃ l0 d0 w, line = l0 ++ w ∧ due = d0 ++ [w] ∧ TokW w ∧ TokW last ∧ (∀ s, s.head? = w.head? → words (l0 ++ s) = (words s).map (d0 ++ ·)) ∧ (w = last ∨ (Let w ∧ Let last))
theorem Line.nil : Line [] [] [] := .inl ⟨rfl, rfl, rfl⟩
theorem Line.all {line last s : List Nat} {due : List (List Nat)} (h : Line line due last) (hf : Fol last s) : words (line ++ s) = (words s).map (due ++ ·) := by
  rcases h with ⟨rfl, rfl, rfl⟩ | ⟨l0, d0, w, rfl, rfl, hw, hl, ha, hwl⟩
  · show words s = (words s).map ([] ++ ·)
    cases words s <;> rfl
  · have hfw : Fol w s := by
      rcases hwl with rfl | ⟨h1, h2⟩
      · exact hf
      · exact fun d hd => ⟨fun _ => (hf d hd).1 h2, fun z => (not_let_num h1 z).elim, fun z => by
          subst z
          have := h1.2 46 (by simp)
          cases this⟩
    obtain ⟨c, e, hc⟩ := tok_head hw
    have hh : (w ++ s).head? = w.head? := by
      cases w with
      | nil => cases e
      | cons a r => rfl
    rw [List.append_assoc, ha (w ++ s) hh, words_tok hw hfw]
    exact map_app (ws' := [w])
theorem Fol.sp {w s : List Nat} : Fol w (32 :: s) := fun d hd => by
  cases hd
  exact ⟨fun _ => by decide, fun _ => by decide, fun _ => by decide⟩
theorem Fol.nil {w : List Nat} : Fol w [] := fun d hd => by cases hd
theorem words_sps (g : Nat) (s : List Nat) : words (List.replicate g 32 ++ s) = words s := by
  induction g with
  | zero => rfl
  | succ g ih =>
    rw [List.replicate_succ, List.cons_append, words_sp, ih]
theorem Fol.head {w s s' : List Nat} (h : Fol w s) (e : s'.head? = s.head?) : Fol w s' := fun d hd => h d (e ▸ hd)
theorem Line.gap {line last p : List Nat} {due : List (List Nat)} {g : Nat} (h : Line line due last) (hg : 0 < g) (hp : TokW p) : Line (line ++ List.replicate g 32 ++ p) (due ++ [p]) p := by
  refine .inr ⟨line ++ List.replicate g 32, due, p, rfl, rfl, hp, hp, fun s _ => ?_, .inl rfl⟩
  obtain ⟨k, rfl⟩ : ∃ k, g = k + 1 := ⟨g - 1, by omega⟩
  rw [List.append_assoc, h.all (by rw [List.replicate_succ]; exact Fol.sp), words_sps]
theorem Line.zero {line last p : List Nat} {due : List (List Nat)} (h : Line line due last) (hp : TokW p) (hf : Fol last p) : Line (line ++ p) (due ++ [p]) p :=
  .inr ⟨line, due, p, rfl, rfl, hp, hp, fun s hs => h.all (hf.head hs), .inl rfl⟩
theorem Line.ends {line last : List Nat} {due : List (List Nat)} (h : Line line due last) : words line = some due := by
  have e := h.all (s := []) Fol.nil
  rw [List.append_nil, words_nil] at e
  rw [e]; simp
end Law


set_option Elab.async false
set_option linter.all false
set_option maxRecDepth 100000
set_option maxHeartbeats 4000000
namespace Law
open PySem L2 L2.Sp
inductive Tn where
  | non
  | bl (b : Bool)
  | int (i : Int)
  | str (w : List Nat)
  | tup (ts : List Tn)
mutual
def TV (K : PySem.W.Frag) (H : Hp) : Tn → V → Prop
  | .non, v => v = .non
  | .bl b, v => v = .bl b
  | .int i, v => v = .int i
  | .str w, v => v = .str (S w)
  | .tup ts, v => ∃ a ys, v = .ref a ∧ SqT K H a ys ∧ TAll K H ts ys
def TAll (K : PySem.W.Frag) (H : Hp) : List Tn → List V → Prop
  | [], ys => ys = []
  | t :: ts, ys => ∃ y r, ys = y :: r ∧ TV K H t y ∧ TAll K H ts r
end
section
variable {K : PySem.W.Frag} {H H' : Hp}
mutual
theorem TV.mono (k : ∀ a ys, SqT K H a ys → SqT K H' a ys) : ∀ (t : Tn) (v : V), TV K H t v → TV K H' t v
  | .non, v, h => by simp only [TV] at h ⊢; exact h
  | .bl b, v, h => by simp only [TV] at h ⊢; exact h
  | .int i, v, h => by simp only [TV] at h ⊢; exact h
  | .str x, v, h => by simp only [TV] at h ⊢; exact h
  | .tup ts, v, h => by
    simp only [TV] at h ⊢
    obtain ⟨a, ys, e, hq, hd⟩ := h
    exact ⟨a, ys, e, k a ys hq, TAll.mono k ts ys hd⟩
theorem TAll.mono (k : ∀ a ys, SqT K H a ys → SqT K H' a ys) : ∀ (ts : List Tn) (vs : List V), TAll K H ts vs → TAll K H' ts vs
  | [], vs, h => by simp only [TAll] at h ⊢; exact h
  | t :: ts, vs, h => by
    simp only [TAll] at h ⊢
    obtain ⟨y, r, e, h1, h2⟩ := h
    exact ⟨y, r, e, TV.mono k t y h1, TAll.mono k ts r h2⟩
end
theorem TAll.length : ∀ {ts : List Tn} {vs : List V}, TAll K H ts vs → vs.length = ts.length
  | [], vs, h => by simp only [TAll] at h; subst h; rfl
  | t :: ts, vs, h => by
    simp only [TAll] at h
    obtain ⟨y, r, e, _, h2⟩ := h
    subst e
    rw [List.length_cons, List.length_cons, TAll.length h2]
theorem TAll.append : ∀ {ts us : List Tn} {vs xs : List V}, TAll K H ts vs → TAll K H us xs → TAll K H (ts ++ us) (vs ++ xs)
  | [], us, vs, xs, h, h' => by simp only [TAll] at h; subst h; exact h'
  | t :: ts, us, vs, xs, h, h' => by
    simp only [TAll] at h
    obtain ⟨y, r, e, h1, h2⟩ := h
    subst e
    simp only [List.cons_append, TAll]
    exact ⟨y, r ++ xs, rfl, h1, TAll.append h2 h'⟩
theorem TAll.nil : TAll K H [] [] := by simp only [TAll]
theorem TAll.one {t : Tn} {v : V} (h : TV K H t v) : TAll K H [t] [v] := by simp only [TAll]; exact ⟨v, [], rfl, h, rfl⟩
theorem TAll.cons {t : Tn} {v : V} {ts : List Tn} {vs : List V} (h : TV K H t v) (h2 : TAll K H ts vs) : TAll K H (t :: ts) (v :: vs) := by simp only [TAll]; exact ⟨v, vs, rfl, h, h2⟩
theorem TAll.get : ∀ {ts : List Tn} {vs : List V} {i : Nat} {v : V}, TAll K H ts vs → vs[i]? = some v → ∃ t, ts[i]? = some t ∧ TV K H t v
  | [], vs, i, v, h, e => by simp only [TAll] at h; subst h; simp at e
  | t :: ts, vs, i, v, h, e => by
    simp only [TAll] at h
    obtain ⟨y, r, e1, h1, h2⟩ := h
    subst e1
    cases i with
    | zero => simp at e; subst e; exact ⟨t, rfl, h1⟩
    | succ i =>
      obtain ⟨t', h3, h4⟩ := TAll.get (i := i) h2 (by simpa using e)
      exact ⟨t', by simpa using h3, h4⟩
theorem TV.tup {a : Addr} {ys : List V} {ts : List Tn} (h : SqT K H a ys) (h2 : TAll K H ts ys) : TV K H (.tup ts) (.ref a) := by simp only [TV]; exact ⟨a, ys, rfl, h, h2⟩
theorem TV.str {w : List Nat} : TV K H (.str w) (.str (S w)) := by simp only [TV]
theorem TV.int {i : Int} : TV K H (.int i) (.int i) := by simp only [TV]
theorem TV.bl {b : Bool} : TV K H (.bl b) (.bl b) := by simp only [TV]
theorem TV.non : TV K H .non .non := by simp only [TV]
theorem TAll.strs (ws : List (List Nat)) : TAll K H (ws.map Tn.str) (ST ws) := by
  induction ws with
  | nil => exact TAll.nil
  | cons w ws ih => exact TAll.cons TV.str ih
/-- all but what is no tuple -/
theorem Grow.tups {st : Addr} (g : Grow st H H') (h1 : ∀ xs, H st ≠ some (.tup xs)) (h2 : ∀ xs o, H st ≠ some (.frz o (.tup xs))) : ∀ a ys, SqT K H a ys → SqT K H' a ys := fun a ys h =>
  h.keep fun b u => ⟨fun q => g b _ (fun e => by subst e; exact h1 u q) q, fun o q => g b _ (fun e => by subst e; exact h2 u o q) q⟩
end
abbrev Wd := List Nat
abbrev Res := Option (Tn × List Wd)
def hd (r : List Wd) : Wd := r.headD []
def isNameB (w : Wd) : Bool := decide (w ≠ []) && w.all isL
def numB (w : Wd) : Bool := match w with
  | [] => false
  | c :: _ => decide (c = 45) || isF c
def figV (w : List Nat) : Nat := w.foldl (fun n c => n * 10 + (c - 48)) 0
def numV (w : Wd) : Int := match w with
  | 45 :: r => -(figV r : Int)
  | _ => (figV w : Int)
def plainW : List Wd := [[110, 111, 110, 101], [121, 101, 115], [110, 111], [116, 114, 117, 116, 104], [110, 117, 109, 98, 101, 114], [116, 101, 120, 116], [108, 105, 115, 116], [114, 101, 99, 111, 114, 100], [97, 110, 121], [110, 111, 116, 104, 105, 110, 103]]
def kWord : Wd := [119, 111, 114, 100]
def kSpan : Wd := [115, 112, 97, 110]
def kText : Wd := [116, 101, 120, 116]
def kPlace : Wd := [112, 108, 97, 99, 101]
def kNot : Wd := [110, 111, 116]
def kAnd : Wd := [97, 110, 100]
def kOr : Wd := [111, 114]
def kList : Wd := [108, 105, 115, 116]
def kRec : Wd := [114, 101, 99, 111, 114, 100]
def tSpan (a b : Tn) : Tn := .tup [.str kSpan, a, b]
def one (k : Wd) (ts : List Tn) : Tn := match ts with
  | [t] => t
  | _ => .tup [.str k, .tup ts]
def nots : Nat → Tn → Tn
  | 0, t => t
  | n + 1, t => .tup [.str kNot, nots n t]
inductive NamesP : Nat → List Wd → List Wd → Option (List Wd × List Wd) → Prop
  | stop {ns r} : hd r ≠ [46] → NamesP 0 ns r (some (ns, r))
  | on {k ns n r res} : isNameB n = true → NamesP k (ns ++ [n]) r res → NamesP (k + 1) ns ([46] :: n :: r) res
  | bad {ns r} : isNameB (hd r) = false → NamesP 1 ns ([46] :: r) none
def NamesOf (r : List Wd) (res : Option (List Wd × List Wd)) : Prop :=
  if isNameB (hd r) = true then ∃ k, NamesP k [hd r] r.tail res else res = none
def hasF (close : Wd) (n : Nat) (r : List Wd) : Option (Bool × List Wd) :=
  if hd r = close then some (false, r)
  else if 0 < n then (if hd r = [44] then some (!(decide (hd r.tail = [46, 46]) && decide (hd r.tail.tail = close)), r.tail) else none)
  else some (!(decide (hd r = [46, 46]) && decide (hd r.tail = close)), r)
def endF (close : Wd) (r : List Wd) : Option (Bool × List Wd) :=
  if hd r = [46, 46] then (if hd r.tail = close then some (true, r.tail.tail) else none) else (if hd r = close then some (false, r.tail) else none)
section
variable (X : Bool → List Wd → Res → Prop)
def ParenP (free : Bool) (r : List Wd) (res : Res) : Prop := ∃ xres, X free r xres ∧ res = match xres with
  | none => none
  | some (t, r1) => if hd r1 = [41] then some (t, r1.tail) else none
inductive ItemsP : Nat → List Tn → List Wd → Option (List Tn × List Wd) → Prop
  | stop {ts r r1} : hasF [93] ts.length r = some (false, r1) → ItemsP 0 ts r (some (ts, r1))
  | on {k ts r r1 t r2 res} : hasF [93] ts.length r = some (true, r1) → X false r1 (some (t, r2)) → ItemsP k (ts ++ [t]) r2 res → ItemsP (k + 1) ts r res
  | bad {ts r} : hasF [93] ts.length r = none → ItemsP 0 ts r none
  | worse {ts r r1} : hasF [93] ts.length r = some (true, r1) → X false r1 none → ItemsP 0 ts r none
def ListP (r : List Wd) (res : Res) : Prop := ∃ k ires, ItemsP X k [] r ires ∧ res = match ires with
  | none => none
  | some (ts, r1) => (endF [93] r1).map fun p => (.tup [.str kList, .tup ts, .bl p.1], p.2)
def FieldP (r : List Wd) (res : Option ((Wd × Tn × Bool) × List Wd)) : Prop :=
  if isNameB (hd r) = true then
    (if hd r.tail = [63] then (if hd r.tail.tail = [58] then ∃ xres, X false r.tail.tail.tail xres ∧ res = xres.map fun p => ((hd r, p.1, false), p.2) else res = none)
     else (if hd r.tail = [58] then ∃ xres, X false r.tail.tail xres ∧ res = xres.map fun p => ((hd r, p.1, true), p.2) else res = none))
  else res = none
inductive FieldsP : Nat → List (Wd × Tn × Bool) → List Wd → Option (List (Wd × Tn × Bool) × List Wd) → Prop
  | stop {fs r r1} : hasF [125] fs.length r = some (false, r1) → FieldsP 0 fs r (some (fs, r1))
  | on {k fs r r1 f r2 res} : hasF [125] fs.length r = some (true, r1) → FieldP X r1 (some (f, r2)) → f.1 ∉ fs.map (·.1) → FieldsP k (fs ++ [f]) r2 res → FieldsP (k + 1) fs r res
  | bad {fs r} : hasF [125] fs.length r = none → FieldsP 0 fs r none
  | worse {fs r r1} : hasF [125] fs.length r = some (true, r1) → FieldP X r1 none → FieldsP 0 fs r none
  | twice {fs r r1 f r2} : hasF [125] fs.length r = some (true, r1) → FieldP X r1 (some (f, r2)) → f.1 ∈ fs.map (·.1) → FieldsP 0 fs r none
def fldT (f : Wd × Tn × Bool) : Tn := .tup [.str f.1, f.2.1, .bl f.2.2]
def RecP (r : List Wd) (res : Res) : Prop := ∃ k fres, FieldsP X k [] r fres ∧ res = match fres with
  | none => none
  | some (fs, r1) => (endF [125] r1).map fun p => (.tup [.str kRec, .tup (fs.map fldT), .bl p.1], p.2)
def SglP (free : Bool) (r : List Wd) (res : Res) : Prop :=
  if hd r = [40] then ParenP X free r.tail res
  else if hd r = [91] then ListP X r.tail res
  else if hd r = [123] then RecP X r.tail res
  else if hd r = [64] ∧ free = true then ∃ nres, NamesOf r.tail nres ∧ res = nres.map fun p => (.tup [.str kPlace, .tup (p.1.map Tn.str)], p.2)
  else if hd r = [46, 46] ∧ numB (hd r.tail) = true then res = some (tSpan .non (.int (numV (hd r.tail))), r.tail.tail)
  else if numB (hd r) = true then
    (if hd r.tail = [46, 46] then (if numB (hd r.tail.tail) = true then res = some (tSpan (.int (numV (hd r))) (.int (numV (hd r.tail.tail))), r.tail.tail.tail) else res = some (tSpan (.int (numV (hd r))) .non, r.tail.tail))
     else res = some (tSpan (.int (numV (hd r))) (.int (numV (hd r))), r.tail))
  else if (hd r).take 1 = [34] then res = some (.tup [.str kText, .str ((hd r).drop 1).dropLast], r.tail)
  else if hd r ∈ plainW then res = some (.tup [.str kWord, .str (hd r)], r.tail)
  else res = none
def bangs (r : List Wd) : Nat := (r.takeWhile (· == [33])).length
def NegP (free : Bool) (r : List Wd) (res : Res) : Prop := ∃ sres, SglP X (free && decide (bangs r = 0)) (r.drop (bangs r)) sres ∧ res = sres.map fun p => (nots (bangs r) p.1, p.2)
inductive MoreP : Nat → Bool → List Tn → List Tn → List Wd → Res → Prop
  | stop {free alts parts r} : hd r ≠ [38] → hd r ≠ [124] → MoreP 0 free alts parts r (some (one kOr (alts ++ [one kAnd parts]), r))
  | and {k free alts parts r t r1 res} : NegP X free r (some (t, r1)) → MoreP k free alts (parts ++ [t]) r1 res → MoreP (k + 1) free alts parts ([38] :: r) res
  | or {k free alts parts r t r1 res} : NegP X free r (some (t, r1)) → MoreP k free (alts ++ [one kAnd parts]) [t] r1 res → MoreP (k + 1) free alts parts ([124] :: r) res
  | bad {free alts parts w r} : w = [38] ∨ w = [124] → NegP X free r none → MoreP 1 free alts parts (w :: r) none
def ExpP (free : Bool) (r : List Wd) (res : Res) : Prop := ∃ nres, NegP X free r nres ∧ match nres with
  | none => res = none
  | some (t, r1) => ∃ k, MoreP X k free [] [t] r1 res
end
def Exn : Nat → Bool → List Wd → Res → Prop
  | 0 => fun _ _ _ => False
  | n + 1 => ExpP (Exn n)
def ReadP (n : Nat) (ws : List Wd) (res : Option Tn) : Prop := ∃ xres, Exn n true ws xres ∧ res = match xres with
  | none => none
  | some (t, r) => if hd r = [] then some t else none
end Law


set_option Elab.async false
set_option linter.all false
set_option maxRecDepth 100000
set_option maxHeartbeats 4000000
namespace Law
open PySem L2 L2.Sp
def clsDef (s : Stmt) (x : Str) : Stmt := match s with
  | .ClassDef _ _ _ body _ _ _ _ _ _ _ => (body.find? fun st => match st with | .FunctionDef n _ _ _ _ _ _ _ _ _ => n == x | _ => false).getD (.Pass ⟨0, 0, 0, 0⟩)
  | s => s
abbrev sReader : Stmt := top 19
abbrev sInit : Stmt := clsDef sReader "__init__"
abbrev sAhead : Stmt := clsDef sReader "ahead"
abbrev sTake : Stmt := clsDef sReader "take"
abbrev sTakes : Stmt := clsDef sReader "takes"
abbrev sMust : Stmt := clsDef sReader "must_take"
theorem scInit : FnScope ["self", "text"] ["self", "text"] (defScope sInit) := ⟨rfl, rfl, rfl, by decide +kernel, rfl, by decide +kernel, by decide +kernel⟩
theorem scAhead : FnScope ["self", "steps", "place"] ["self", "steps"] (defScope sAhead) := ⟨rfl, rfl, rfl, by decide +kernel, rfl, by decide +kernel, by decide +kernel⟩
theorem scTake : FnScope ["self", "word"] ["self"] (defScope sTake) := ⟨rfl, rfl, rfl, by decide +kernel, rfl, by decide +kernel, by decide +kernel⟩
theorem scTakes : FnScope ["self", "word"] ["self", "word"] (defScope sTakes) := ⟨rfl, rfl, rfl, by decide +kernel, rfl, by decide +kernel, by decide +kernel⟩
theorem scMust : FnScope ["self", "word", "found"] ["self", "word"] (defScope sMust) := ⟨rfl, rfl, rfl, by decide +kernel, rfl, by decide +kernel, by decide +kernel⟩
/-- words that reading meets -/
structure WsOk (ws : List Wd) : Prop where
  len : ws.length ≤ 100000
  tok : ∀ w ∈ ws, TokW w
  sm : ∀ w ∈ ws, Small w
def rdF (wl : Addr) (t : Nat) : List (Str × V) := [("words", .ref wl), ("taken", .int (t : Int))]
/-- a reader of the words ws, of which t are taken -/
structure RD (H : Hp) (R rd dx wl : Addr) (ws : List Wd) (t : Nat) : Prop where
  ob : H rd = some (.ins R dx (rdF wl t))
  li : H wl = some (.lst (ST ws))
  ok : WsOk ws
/-- the class -/
structure RK (K : PySem.W.Frag) (R : Addr) : Prop where
  cl : Cls K R
  nw : NoAttr K R "words"
  nt : NoAttr K R "taken"
structure Mth (P : Program) (w : World) (K : PySem.W.Frag) (mg : Str → Option Value) (base : Heap) (CX : CXT) (R : Addr) (k : Nat) (m : Str) (ps : List Str) (sp : Sp) : Prop where
  ex : ∃ (f : Addr) (fd : FuncData), FnOk P w K mg base CX k f fd ps sp ∧ Meth K R m f ∧ Binds K fd ps []
def rdU (H : Hp) (R rd dx wl : Addr) (t : Nat) : Hp := upd H rd (.ins R dx (rdF wl t))
theorem hd_at (ws : List Wd) (t k : Nat) : ((ws.drop t)[k]?).getD [] = (ws[t + k]?).getD [] := by rw [List.getElem?_drop]
theorem hd_get (ws : List Wd) (t : Nat) : hd (ws.drop t) = (ws[t]?).getD [] := by
  unfold hd
  rw [List.headD_eq_head?_getD, List.head?_drop]
section
variable {P : Program} {w : World} {K : PySem.W.Frag} {mg : Str → Option Value} {base : Heap} {f : Addr} {fd : FuncData} {R : Addr}
theorem RD.up {H H' : Hp} {rd dx wl : Addr} {ws : List Wd} {t t' : Nat} (h : RD H R rd dx wl ws t) : RD (rdU H R rd dx wl t') R rd dx wl ws t' :=
  ⟨upd_same, by unfold rdU; rw [upd_ne (fun e => by have := h.ob; rw [← e, h.li] at this; cases this)]; exact h.li, h.ok⟩
theorem pe_mth {X : Cx} {CX : CXT} {E : XK} {k : Nat} {m : Str} {ps : List Str} {sp : Sp} {apos pos : Pos} {o e : Expr} {es : List Expr} {ta : TE} {t : TA} {pl : Sem Bool} (M : Mth X.prog X.w X.K X.mg X.base CX R k m ps sp) (c : RK X.K R) (hr : Room k X.A) (hx : Passes CX X E) (ho : PE X o ta) (ha : PA X (e :: es) t)
    (hst : starEach (e :: es) X.env = (false, eval e X.env) :: starEach es X.env := by rfl) (hpl : (backTo pos (starEach es X.env)).any (·.1) = false := by rfl)
    (ht : eval (.Call (.Attribute o m apos) (e :: es) [] pos) X.env = (do
      let ov ← eval o X.env
      standAt apos.atName
      let (f, first) ← holding [ov] (getMethod ov m pl)
      callWith pos f first (backTo pos (starEach (e :: es) X.env)) (backToKw pos (keywordEach [] X.env))) := by rfl) :
    PE X (.Call (.Attribute o m apos) (e :: es) [] pos) (tMeth R m sp [] E ta t) := by
  obtain ⟨f, fd, F, a, b⟩ := M.ex
  exact pe_meth ho c.cl a F hr b .nil hx ha hst hpl ht
theorem pe_mth0 {X : Cx} {CX : CXT} {E : XK} {k : Nat} {m : Str} {ps : List Str} {sp : Sp} {apos pos : Pos} {o : Expr} {ta : TE} {pl : Sem Bool} (M : Mth X.prog X.w X.K X.mg X.base CX R k m ps sp) (c : RK X.K R) (hr : Room k X.A) (hx : Passes CX X E) (ho : PE X o ta)
    (ht : eval (.Call (.Attribute o m apos) [] [] pos) X.env = (do
      let ov ← eval o X.env
      standAt apos.atName
      let (f, first) ← holding [ov] (getMethod ov m pl)
      callWith pos f first (backTo pos (starEach [] X.env)) (backToKw pos (keywordEach [] X.env))) := by rfl) :
    PE X (.Call (.Attribute o m apos) [] [] pos) (tMeth R m sp [] E ta tNil) := by
  obtain ⟨f, fd, F, a, b⟩ := M.ex
  exact pe_meth0 ho c.cl a F hr b .nil hx ht
def spAhead (R : Addr) : Sp := fun args H Q _ => ∃ rd dx wl ws t k, args = [.ref rd, .int ((k : Nat) : Int)] ∧ RD H R rd dx wl ws t ∧ Q (.str (S (((ws.drop t)[k]?).getD []))) H
theorem ok_ahead (F : Fun K "ahead" "Reader.ahead" sAhead f fd) (c : RK K R) (m1 : mg "len" = none) : FnOk P w K mg base CX0 1 f fd ["self", "steps"] (spAhead R) := by
  refine F.ok scAhead (fun vs H Q E h => ?_) (fun cdv A outer s H vs Q E hr h => ?_)
  · obtain ⟨rd, dx, wl, ws, t, k, rfl, _⟩ := h
    rfl
  obtain ⟨rd, dx, wl, ws, t, k, rfl, h, q⟩ := h
  refine ⟨_, pss_cons (ps_set (i := 2) scAhead.nd rfl (Or.inl rfl) (pe_op op_add (pe_fld (pv 0) rfl) (pv 1)))
    (pss_one (ps_ret (pe_ifExp (pt_cmpR op_lt (pv 2) (pe_callB call_len_seq rfl m1 PySem.boot_len (pa_cons (pe_fld (pv 0) rfl) pa_nil)) (nomark _)) (pe_ix ix_list (pe_fld (pv 0) rfl) (pv 2) (fun _ _ => rfl)) pe_str))), ?_⟩
  refine ⟨_, rfl, rd, R, dx, _, _, rfl, h.ob, c.cl, c.nt, rfl, _, rfl, _, _, rfl, rfl, ?_⟩
  refine ⟨_, rfl, _, rfl, rd, R, dx, _, _, rfl, h.ob, c.cl, c.nw, rfl, wl, _, rfl, .inl (SqL.of h.li), _, _, rfl, rfl, _, rfl, ?_⟩
  rw [hd_at] at q
  refine ite2 (fun hc => ?_) (fun hc => ?_)
  · have hc : t + k < ws.length := by
      have := of_decide_eq_true hc
      rw [List.length_map] at this
      omega
    rw [List.getElem?_eq_getElem hc] at q
    refine ⟨_, rfl, rd, R, dx, _, _, rfl, h.ob, c.cl, c.nw, rfl, _, rfl, wl, _, _, _, rfl, rfl, SqL.of h.li, ?_, q⟩
    have := atI_nat (xs := ST ws) (j := t + k) (v := .str (S ws[t + k])) (by rw [List.getElem?_map, List.getElem?_eq_getElem hc]; rfl)
    exact this
  · have hc : ws.length ≤ t + k := by
      refine Nat.le_of_not_lt fun z => hc (decide_eq_true ?_)
      rw [List.length_map]; omega
    rw [List.getElem?_eq_none hc] at q
    rw [lit0]
    exact q
theorem at0 (r : List Wd) : (r[0]?).getD [] = hd r := by cases r <;> rfl
def spTake (R : Addr) : Sp := fun args H Q _ => ∃ rd dx wl ws t, args = [.ref rd] ∧ RD H R rd dx wl ws t ∧ Q (.str (S (hd (ws.drop t)))) (rdU H R rd dx wl (t + 1))
theorem ok_take (F : Fun K "take" "Reader.take" sTake f fd) (c : RK K R) (AH : Mth P w K mg base CX0 R 1 "ahead" ["self", "steps"] (spAhead R)) : FnOk P w K mg base CX0 2 f fd ["self"] (spTake R) := by
  refine F.ok scTake (fun vs H Q E h => ?_) (fun cdv A outer s H vs Q E hr h => ?_)
  · obtain ⟨rd, dx, wl, ws, t, rfl, _⟩ := h
    rfl
  obtain ⟨rd, dx, wl, ws, t, rfl, h, q⟩ := h
  refine ⟨_, pss_cons (ps_set (i := 1) scTake.nd rfl (Or.inl rfl) (pe_mth AH c hr pass0 (pv 0) (pa_cons pe_int pa_nil)))
    (pss_cons (ps_fldaug (pv 0) pe_int in_add)
    (pss_one (ps_ret (pv 1)))), ?_⟩
  refine ⟨_, rfl, rd, dx, _, rfl, h.ob, rfl, rd, dx, wl, ws, t, 0, rfl, h, ?_⟩
  rw [at0]
  refine ⟨_, rfl, rd, R, dx, _, _, rfl, h.ob, c.cl, c.nt, rfl, _, _, rfl, rfl, dx, _, h.ob, (by show 2 < 1000; decide), ?_⟩
  exact ⟨_, rfl, q⟩
def spTakes (R : Addr) : Sp := fun args H Q _ => ∃ rd dx wl ws t u, args = [.ref rd, .str (S u)] ∧ RD H R rd dx wl ws t ∧ (if hd (ws.drop t) = u then Q (.bl true) (rdU H R rd dx wl (t + 1)) else Q (.bl false) H)
theorem ok_takes (F : Fun K "takes" "Reader.takes" sTakes f fd) (c : RK K R) (AH : Mth P w K mg base CX0 R 1 "ahead" ["self", "steps"] (spAhead R)) : FnOk P w K mg base CX0 2 f fd ["self", "word"] (spTakes R) := by
  refine F.ok scTakes (fun vs H Q E h => ?_) (fun cdv A outer s H vs Q E hr h => ?_)
  · obtain ⟨rd, dx, wl, ws, t, u, rfl, _⟩ := h
    rfl
  obtain ⟨rd, dx, wl, ws, t, u, rfl, h, q⟩ := h
  refine ⟨_, pss_cons (ps_if (pt_cmpR op_ne (pe_mth AH c hr pass0 (pv 0) (pa_cons pe_int pa_nil)) (pv 1) (nomark _)) (pss_one (ps_ret pe_bl)) pss_nil)
    (pss_cons (ps_fldaug (pv 0) pe_int in_add)
    (pss_one (ps_ret pe_bl))), ?_⟩
  refine ⟨_, rfl, rd, dx, _, rfl, h.ob, rfl, rd, dx, wl, ws, t, 0, rfl, h, ?_⟩
  rw [at0]
  refine ⟨_, rfl, rfl, _, rfl, ?_⟩
  rw [dec_S]
  by_cases e : hd (ws.drop t) = u
  · rw [if_pos e] at q
    rw [decide_eq_true e]
    exact iteF ⟨_, rfl, rd, R, dx, _, _, rfl, h.ob, c.cl, c.nt, rfl, _, _, rfl, rfl, dx, _, h.ob, (by show 2 < 1000; decide), q⟩
  · rw [if_neg e] at q
    rw [decide_eq_false e]
    exact iteT q
def spMust (R C : Addr) : Sp := fun args H Q E => ∃ rd dx wl ws t u, args = [.ref rd, .str (S u)] ∧ RD H R rd dx wl ws t ∧ Small u ∧ (if hd (ws.drop t) = u then Q .non (rdU H R rd dx wl (t + 1)) else E (.ref C) none (rdU H R rd dx wl (t + 1)))
theorem hd_mem {ws : List Wd} {t : Nat} : hd (ws.drop t) = [] ∨ hd (ws.drop t) ∈ ws := by
  rw [hd_get]
  cases e : ws[t]? with
  | none => exact .inl rfl
  | some w => exact .inr (List.mem_of_getElem? e)
theorem WsOk.small {ws : List Wd} (h : WsOk ws) (t : Nat) : Small (hd (ws.drop t)) := by
  rcases hd_mem (ws := ws) (t := t) with e | e
  · rw [e]; exact ⟨by decide, fun c hc => by cases hc⟩
  · exact h.sm _ e
theorem ok_must {C : Addr} (F : Fun K "must_take" "Reader.must_take" sMust f fd) (c : RK K R) (n : NT K mg C) (TK : Mth P w K mg base CX0 R 2 "take" ["self"] (spTake R)) : FnOk P w K mg base (CX1 P w) 3 f fd ["self", "word"] (spMust R C) := by
  refine Fun.ok1 F scMust (fun vs H Q E h => ?_) (fun cdv A outer s H vs Q E hr h => ?_)
  · obtain ⟨rd, dx, wl, ws, t, u, rfl, _⟩ := h
    rfl
  obtain ⟨rd, dx, wl, ws, t, u, rfl, h, hu, q⟩ := h
  refine ⟨_, pss_cons (ps_set (i := 2) scMust.nd rfl (Or.inl rfl) (pe_mth0 TK c hr pass0 (pv 0)))
    (pss_one (ps_if (pt_cmpR op_ne (pv 2) (pv 1) (nomark _)) (pss_one (ps_raise PySem.F.excBase_ValueError n.xc rfl n.mg (pa_cons (pe_join (pj_fr (pv 2) (pj_con (pj_fr (pv 1) (pj_con pj_nil))))) pa_nil))) pss_nil)), ?_⟩
  refine ⟨_, rfl, rd, dx, _, rfl, h.ob, rfl, rd, dx, wl, ws, t, rfl, h, ?_⟩
  have hs := h.ok.small t
  refine ⟨_, rfl, _, rfl, rfl, _, rfl, ?_⟩
  rw [dec_S]
  by_cases e : hd (ws.drop t) = u
  · rw [if_pos e] at q
    rw [decide_eq_true e]
    exact iteF q
  · rw [if_neg e] at q
    rw [decide_eq_false e]
    exact iteT ⟨_, rfl, _, rfl, by rw [S_len]; exact hs.1, hs.2, _, rfl, _, rfl, by rw [S_len]; exact hu.1, hu.2, fun r => ⟨len1, q⟩⟩
/-- the reader is made -/
def spInit (K : PySem.W.Frag) (R C : Addr) : Sp := fun args H Q E => ∃ rd dx v, args = [.ref rd, v] ∧ H rd = some (.ins R dx []) ∧ ((∃ d, DV K H d v ∧ isiD d "str" = false ∧ E (.ref C) none H) ∨ ∃ l, v = .str (S l) ∧ Small l ∧
  (∀ ws, words l = some ws → ∀ (H' : Hp) (p : Addr), H p = none → Grow rd H H' → H' p = some (.lst (ST ws)) → H' rd = some (.ins R dx (rdF p 0)) → Q .non H') ∧ (words l = none → ∀ H', Same H H' → E (.ref C) none H'))
theorem ok_init {C : Addr} (F : Fun K "__init__" "Reader.__init__" sInit f fd) (c : RK K R) (WORDS : Cal1 P w K mg base 5 "words_of" ["text"] (spWords K C)) : FnOk P w K mg base (CX1 P w) 6 f fd ["self", "text"] (spInit K R C) := by
  refine Fun.ok1 F scInit (fun vs H Q E h => ?_) (fun cdv A outer s H vs Q E hr h => ?_)
  · obtain ⟨rd, dx, v, rfl, _⟩ := h
    rfl
  obtain ⟨rd, dx, v, rfl, hr0, h⟩ := h
  refine ⟨_, pss_cons (ps_fld (pv 0) (pe_cal1 WORDS hr rfl (passes1 (E' := E) fun _ _ _ h => h) (pa_cons (pv 1) pa_nil)) rfl)
    (pss_one (ps_fld (pv 0) pe_int rfl)), ?_⟩
  rcases h with ⟨d, hd, hf, e⟩ | ⟨l, rfl, hs, q1, q2⟩
  · exact ⟨_, rfl, _, rfl, .inl ⟨d, hd, hf, e⟩⟩
  · refine ⟨_, rfl, _, rfl, .inr ⟨l, rfl, hs, fun ws hw H' p hp g hl => ?_, q2⟩⟩
    have nrp : p ≠ rd := fun e => by rw [e, hr0] at hp; cases hp
    refine ⟨_, rfl, rd, R, dx, _, rfl, g _ _ hr0, c.cl, c.nw, by decide, ?_⟩
    refine ⟨_, rfl, rd, R, dx, _, rfl, upd_same, c.cl, c.nt, (by show 1 < 1000; decide), ?_⟩
    refine q1 ws hw _ p hp (fun b o hb h => ?_) ?_ ?_
    · rw [upd_upd, upd_ne hb]; exact g _ _ h
    · rw [upd_upd, upd_ne nrp]; exact hl
    · rw [upd_upd, upd_same]; rfl
end
end Law


set_option Elab.async false
set_option linter.all false
set_option maxRecDepth 100000
set_option maxHeartbeats 4000000
namespace Law
open PySem L2 L2.Sp
theorem sz5 {n : Nat} (h : n ≤ 200000) : n < sizeLine := by have : sizeLine = 16777216 := sizeLine_eq; omega
section
variable {P : Program} {w : World} {K : PySem.W.Frag} {mg : Str → Option Value} {base : Heap} {f : Addr} {fd : FuncData} {R C : Addr}
abbrev sName : Stmt := top 5
theorem scName : FnScope ["word"] ["word"] (defScope sName) := ⟨rfl, rfl, rfl, by decide +kernel, rfl, by decide +kernel, by decide +kernel⟩
theorem nd_letter : (["letter"] : List Str).Nodup := by decide +kernel
def spName : Sp := fun args H Q _ => ∃ u, args = [.str (S u)] ∧ u.length ≤ 100000 ∧ ∀ H', Same H H' → Q (.bl (isNameB u)) H'
theorem ok_name (F : Fun K "is_name" "is_name" sName f fd) (m1 : mg "isinstance" = none) (m2 : mg "str" = none) (m3 : mg "all" = none) (m4 : mg "len" = none) : FnOk P w K mg base CX0 1 f fd ["word"] spName := by
  refine F.ok scName (fun vs H Q E h => ?_) (fun cdv A outer s H vs Q E hr h => ?_)
  · obtain ⟨u, rfl, _⟩ := h
    rfl
  obtain ⟨u, rfl, hu, q⟩ := h
  refine ⟨_, pss_one (ps_ret (pe_and (pe_callB call_isiW rfl m1 bt_isi (pa_cons (pv 0) (pa_cons (pe_bltn (v := .ty "str") rfl m2 bt_str rfl) pa_nil)))
    (pe_and (pe_cmpR op_gt (pe_callB call_len_str rfl m4 PySem.boot_len (pa_cons (pv 0) pa_nil)) pe_int (nomark _))
    (pe_one (pe_callB (call_all_list rfl) rfl m3 bt_all (pa_cons (pe_comp (N' := ["letter"]) (fr := [none]) (own := [0]) ⟨rfl, rfl, rfl, rfl, rfl, rfl, rfl⟩ rfl (pi_str (pv 0))
      (fun _ _ _ _ => pg_name (i := 0) nd_letter rfl (Or.inl rfl)) (own_name 0) (fun _ _ _ _ => pts_nil)
      (fun _ _ _ _ => pe_chain op_le_str op_le_str pe_str (pv 0) pe_str)) pa_nil)))))), ?_⟩
  refine ⟨_, rfl, _, _, rfl, .inl ⟨_, rfl, rfl⟩, true, rfl, iteT ?_⟩
  refine ⟨_, rfl, _, rfl, S_fit hu, _, _, rfl, rfl, decide ((0 : Int) < ((S u).length : Int)), rfl, ?_⟩
  rw [S_len]
  by_cases hz : 0 < u.length
  · rw [decide_eq_true (p := (0 : Int) < (u.length : Int)) (by omega)]
    refine iteT ?_
    refine ⟨_, rfl, S u, rfl, fun l hl => ?_⟩
    refine comp_str (x := S u) (fun i ys H' => H' = upd H l (.lst ys) ∧ ys = List.map V.bl ((u.take i).map isL) ∧ i ≤ u.length) ⟨rfl, rfl, Nat.zero_le _⟩ (fun i c ys H' hc ⟨e, ey, hi⟩ => ?_) (fun ys H' ⟨e, ey, _⟩ => ?_)
    · subst e
      have hc : u[i]? = some c := by
        have : (S u).cps[i]? = u[i]? := by show u.toArray[i]? = _; simp
        rw [← this]; exact hc
      have hi' := (List.getElem?_eq_some_iff.mp hc).1
      have hlen : ys.length ≤ 200000 := by rw [ey, List.length_map, List.length_map, List.length_take]; omega
      dsimp only [CTurn, gName]
      refine yesT ?_
      refine ⟨_, rfl, chain_btw (a := 97) (b := 122) (c := c) (Q := fun y H5 => H5 l = some (.lst ys) ∧ ys.length < sizeLine ∧ upd H5 l (.lst (ys ++ [y])) = upd H l (.lst (ys ++ [y])) ∧ ys ++ [y] = List.map V.bl ((u.take (i + 1)).map isL) ∧ i + 1 ≤ u.length) ?_⟩
      refine ⟨upd_same, sz5 hlen, ?_, ?_, hi'⟩
      · rw [upd_upd]
      · rw [ey, take_snoc hc, List.map_append, List.map_append]; rfl
    · subst e
      have e1 : (S u).cps.size = u.length := S_len u
      rw [e1] at ey
      refine ⟨l, _, rfl, SqL.of (by rw [ey]; exact upd_same), ?_⟩
      have e2 : (((u.take u.length).map isL).all id) = isNameB u := by
        unfold isNameB
        rw [List.take_length, List.all_map, decide_eq_true (p := u ≠ []) (List.length_pos_iff.mp hz), Bool.true_and]
        rfl
      rw [e2]
      exact q _ (fun z o ho => by rw [upd_ne (ne_of_none ho hl)]; exact ho)
  · have e : u = [] := List.eq_nil_of_length_eq_zero (by omega)
    subst e
    exact iteF (q H fun _ _ h => h)
abbrev sIsNo : Stmt := top 25
theorem scIsNo : FnScope ["word"] ["word"] (defScope sIsNo) := ⟨rfl, rfl, rfl, by decide +kernel, rfl, by decide +kernel, by decide +kernel⟩
def spIsNo : Sp := fun args H Q _ => ∃ u, args = [.str (S u)] ∧ u.length ≤ 100000 ∧ Q (.bl (numB u)) H
theorem ok_isno (F : Fun K "is_number" "is_number" sIsNo f fd) (FIG : Cal P w K mg base 1 "is_figure" ["sign"] (fun vs H Q _ => spFit isF vs H Q)) : FnOk P w K mg base CX0 2 f fd ["word"] spIsNo := by
  refine F.ok scIsNo (fun vs H Q E h => ?_) (fun cdv A outer s H vs Q E hr h => ?_)
  · obtain ⟨u, rfl, _⟩ := h
    rfl
  obtain ⟨u, rfl, hu, q⟩ := h
  refine ⟨_, pss_one (ps_ret (pe_and (pe_cmpR op_ne (pv 0) pe_str (nomark _)) (pe_one (pe_or (pe_cmpR op_eq (pe_ix ix_str (pv 0) pe_int (fun _ _ => rfl)) pe_str (nomark _)) (pe_one (pe_cal FIG hr rfl (pa_cons (pe_ix ix_str (pv 0) pe_int (fun _ _ => rfl)) pa_nil))))))), ?_⟩
  refine ⟨_, rfl, rfl, _, rfl, ?_⟩
  rw [lit0, dec_S]
  cases u with
  | nil => exact iteF q
  | cons c r =>
    rw [decide_eq_false (by simp)]
    refine iteT ?_
    refine ⟨_, rfl, _, _, c, rfl, rfl, S_fit hu, atI_nat (j := 0) rfl, rfl, _, rfl, ?_⟩
    rw [lit45, show (⟨#[c]⟩ : Str) = S [c] from rfl, dec_S]
    by_cases e : c = 45
    · subst e
      exact iteT q
    · rw [decide_eq_false (by simpa using e)]
      refine iteF ⟨_, rfl, _, _, c, rfl, rfl, S_fit hu, atI_nat (j := 0) rfl, c, rfl, ?_⟩
      have : numB (c :: r) = isF c := by unfold numB; simp [e]
      rw [← this]
      exact q
abbrev sNameOf : Stmt := top 33
theorem scNameOf : FnScope ["reader", "word"] ["reader"] (defScope sNameOf) := ⟨rfl, rfl, rfl, by decide +kernel, rfl, by decide +kernel, by decide +kernel⟩
def spNameOf (R C : Addr) : Sp := fun args H Q E => ∃ rd dx wl ws t, args = [.ref rd] ∧ RD H R rd dx wl ws t ∧ ∀ H', Same (rdU H R rd dx wl (t + 1)) H' → (if isNameB (hd (ws.drop t)) = true then Q (.str (S (hd (ws.drop t)))) H' else E (.ref C) none H')
theorem ok_nameof (F : Fun K "name_of" "name_of" sNameOf f fd) (c : RK K R) (n : NT K mg C) (TK : Mth P w K mg base CX0 R 2 "take" ["self"] (spTake R)) (NM : Cal P w K mg base 1 "is_name" ["word"] spName) : FnOk P w K mg base (CX1 P w) 3 f fd ["reader"] (spNameOf R C) := by
  refine Fun.ok1 F scNameOf (fun vs H Q E h => ?_) (fun cdv A outer s H vs Q E hr h => ?_)
  · obtain ⟨rd, dx, wl, ws, t, rfl, _⟩ := h
    rfl
  obtain ⟨rd, dx, wl, ws, t, rfl, h, q⟩ := h
  refine ⟨_, pss_cons (ps_set (i := 1) scNameOf.nd rfl (Or.inl rfl) (pe_mth0 TK c hr pass0 (pv 0)))
    (pss_cons (ps_if (pt_not (pt_val (pe_cal NM (hr.mono (by decide)) rfl (pa_cons (pv 1) pa_nil)))) (pss_one (ps_raise PySem.F.excBase_ValueError n.xc rfl n.mg (pa_cons (pe_join (pj_fr (pv 1) (pj_con pj_nil))) pa_nil))) pss_nil)
    (pss_one (ps_ret (pv 1)))), ?_⟩
  have hs := h.ok.small t
  refine ⟨_, rfl, rd, dx, _, rfl, h.ob, rfl, rd, dx, wl, ws, t, rfl, h, ?_⟩
  refine ⟨_, rfl, _, rfl, hs.1, fun H' g => ⟨_, rfl, ?_⟩⟩
  have q := q H' g
  cases e : isNameB (hd (ws.drop t)) with
  | true =>
    rw [e, if_pos rfl] at q
    exact iteF ⟨_, rfl, q⟩
  | false =>
    rw [e, if_neg (by decide)] at q
    exact iteT ⟨_, rfl, _, rfl, by rw [S_len]; exact hs.1, hs.2, fun r => ⟨len1, q⟩⟩
end
end Law


set_option Elab.async false
set_option linter.all false
set_option maxRecDepth 100000
set_option maxHeartbeats 4000000
namespace Law
open PySem L2 L2.Sp
theorem iteP {c A B : Prop} [Decidable c] (hc : c) (h : A) : if c then A else B := by rw [if_pos hc]; exact h
theorem iteN {c A B : Prop} [Decidable c] (hc : ¬ c) (h : B) : if c then A else B := by rw [if_neg hc]; exact h
theorem lDot : (Str.ofString "." : Str) = S [46] := by decide +kernel
theorem dropS {ws r : List Wd} {x : Wd} {t : Nat} (h : ws.drop t = x :: r) : ws.drop (t + 1) = r ∧ t + 1 ≤ ws.length := by
  have hl : t < ws.length := by
    refine Nat.lt_of_not_le fun z => ?_
    rw [List.drop_eq_nil_of_le z] at h
    cases h
  refine ⟨?_, hl⟩
  rw [← List.drop_drop, h]; rfl
theorem dropT {ws : List Wd} {t : Nat} : ws.drop (t + 1) = (ws.drop t).tail := by rw [← List.drop_drop, List.drop_one]
theorem hd_lt {ws : List Wd} {t : Nat} (h : hd (ws.drop t) ≠ []) : t + 1 ≤ ws.length := by
  refine Nat.lt_of_not_le fun z => h ?_
  rw [List.drop_eq_nil_of_le z]; rfl
theorem hd_in {ws : List Wd} {t : Nat} (h : hd (ws.drop t) ≠ []) : hd (ws.drop t) ∈ ws := by
  rcases hd_mem (ws := ws) (t := t) with e | e
  · exact absurd e h
  · exact e
/-- tuples stay -/
def Kp (K : PySem.W.Frag) (H H' : Hp) : Prop := ∀ a ys, SqT K H a ys → SqT K H' a ys
section
variable {K : PySem.W.Frag} {H H0 H1 H' : Hp} {R rd dx wl : Addr} {ws : List Wd} {t t' : Nat}
theorem Kp.same (g : Same H H') : Kp K H H' := fun _ _ h => g.seqT h
theorem Kp.trans (a : Kp K H H1) (b : Kp K H1 H') : Kp K H H' := fun x y h => b x y (a x y h)
theorem Kp.grow (g : Grow rd H H') (h : RD H R rd dx wl ws t) : Kp K H H' := Grow.tups g (fun xs z => by rw [h.ob] at z; cases z) (fun xs o z => by rw [h.ob] at z; cases z)
theorem Kp.lst {l : Addr} {xs : List V} {o : HO} (h : H l = some (.lst xs)) : Kp K H (upd H l o) := Grow.tups grow_upd (fun xs z => by rw [h] at z; cases z) (fun xs o z => by rw [h] at z; cases z)
theorem Kp.dct {l : Addr} {xs : List (Key × V)} {o : HO} (h : H l = some (.dK xs)) : Kp K H (upd H l o) := Grow.tups grow_upd (fun xs z => by rw [h] at z; cases z) (fun xs o z => by rw [h] at z; cases z)
/-- a reader, since the start H0 -/
structure RS (H0 H : Hp) (R rd dx wl : Addr) (ws : List Wd) (t : Nat) : Prop where
  g : Grow rd H0 H
  st : RD H R rd dx wl ws t
  lw : H0 wl = some (.lst (ST ws))
  ob : ∃ t0, H0 rd = some (.ins R dx (rdF wl t0))
theorem RS.start (h : RD H R rd dx wl ws t) : RS H H R rd dx wl ws t := ⟨Grow.refl, h, h.li, t, h.ob⟩
theorem RS.more (s : RS H0 H R rd dx wl ws t) (g : Grow rd H H') (h : RD H' R rd dx wl ws t') : RS H0 H' R rd dx wl ws t' := ⟨s.g.trans g, h, s.lw, s.ob⟩
theorem RS.same (s : RS H0 H R rd dx wl ws t) (g : Same H H') : RS H0 H' R rd dx wl ws t := s.more (Grow.of g) ⟨g _ _ s.st.ob, g _ _ s.st.li, s.st.ok⟩
theorem RS.up (s : RS H0 H R rd dx wl ws t) (t' : Nat) : RS H0 (rdU H R rd dx wl t') R rd dx wl ws t' := s.more grow_upd (s.st.up (H' := H))
theorem RS.step (s : RS H0 H R rd dx wl ws t) (g : Same (rdU H R rd dx wl t') H') : RS H0 H' R rd dx wl ws t' := (s.up t').same g
/-- a new thing is changed -/
theorem RS.put {l : Addr} {o : HO} (s : RS H0 H R rd dx wl ws t) (hl : H0 l = none) : RS H0 (upd H l o) R rd dx wl ws t := by
  have n1 : rd ≠ l := fun e => by obtain ⟨t0, h⟩ := s.ob; rw [e, hl] at h; cases h
  have n2 : wl ≠ l := fun e => by have h := s.lw; rw [e, hl] at h; cases h
  exact ⟨fun b u hb h => by rw [upd_ne (ne_of_none h hl)]; exact s.g b u hb h, ⟨by rw [upd_ne n1]; exact s.st.ob, by rw [upd_ne n2]; exact s.st.li, s.st.ok⟩, s.lw, s.ob⟩
/-- what was new at the start and is there is kept by what follows -/
theorem RS.none {l : Addr} {o : HO} (s : RS H0 H R rd dx wl ws t) (hl : H0 l = none) (h : H l = some o) : l ≠ rd := fun e => by obtain ⟨t0, h⟩ := s.ob; rw [← e, hl] at h; cases h
theorem kp_up (h : RD H R rd dx wl ws t) : Kp K H (rdU H R rd dx wl t') := Kp.grow grow_upd h
end
theorem TV.kp {K : PySem.W.Frag} {H H' : Hp} {x : Tn} {v : V} (k : Kp K H H') (h : TV K H x v) : TV K H' x v := TV.mono k x v h
theorem TAll.kp {K : PySem.W.Frag} {H H' : Hp} {x : List Tn} {v : List V} (k : Kp K H H') (h : TAll K H x v) : TAll K H' x v := TAll.mono k x v h
/-- the end of a reading -/
def PO {α : Type} (C : Addr) (val : Hp → α → V → Prop) (H : Hp) (R rd dx wl : Addr) (ws : List Wd) (t : Nat) (res : Option (α × List Wd)) (Q : VK) (E : XK) : Prop := match res with
  | none => ∀ H', Grow rd H H' → E (.ref C) none H'
  | some (x, r) => ∀ v H' t', Grow rd H H' → RD H' R rd dx wl ws t' → ws.drop t' = r → t < t' → t' ≤ ws.length → val H' x v → Q v H'
section
variable {P : Program} {w : World} {K : PySem.W.Frag} {mg : Str → Option Value} {base : Heap} {f : Addr} {fd : FuncData} {R C : Addr}
abbrev sNamesOf : Stmt := top 32
theorem scNamesOf : FnScope ["reader", "names"] ["reader"] (defScope sNamesOf) := ⟨rfl, rfl, rfl, by decide +kernel, rfl, by decide +kernel, by decide +kernel⟩
def valNs (K : PySem.W.Frag) : Hp → List Wd → V → Prop := fun H ns v => TV K H (.tup (ns.map Tn.str)) v
def spNamesOf (K : PySem.W.Frag) (R C : Addr) : Sp := fun args H Q E => ∃ rd dx wl ws t res, args = [.ref rd] ∧ RD H R rd dx wl ws t ∧ NamesOf (ws.drop t) res ∧ PO C (valNs K) H R rd dx wl ws t res Q E
theorem ok_namesof (F : Fun K "names_of" "names_of" sNamesOf f fd) (c : RK K R) (NAME : Cal1 P w K mg base 3 "name_of" ["reader"] (spNameOf R C)) (TS : Mth P w K mg base CX0 R 2 "takes" ["self", "word"] (spTakes R)) (m1 : mg "tuple" = none) : FnOk P w K mg base (CX1 P w) 4 f fd ["reader"] (spNamesOf K R C) := by
  refine Fun.ok1 F scNamesOf (fun vs H Q E h => ?_) (fun cdv A outer s H vs Q E hr h => ?_)
  · obtain ⟨rd, dx, wl, ws, t, res, rfl, _⟩ := h
    rfl
  obtain ⟨rd, dx, wl, ws, t, res, rfl, h, hn, q⟩ := h
  refine ⟨_, pss_cons (ps_set (i := 1) scNamesOf.nd rfl (Or.inl rfl) (pe_lst (pa_cons (pe_cal1 NAME hr rfl (passes1 (E' := E) fun _ _ _ h => h) (pa_cons (pv 0) pa_nil)) pa_nil)))
    (pss_cons (ps_while PassesOwn.leaving (pt_val (pe_mth TS c (hr.mono (by decide)) pass0 (pv 0) (pa_cons pe_str pa_nil)))
      (pss_one (ps_expr (pe_bm PySem.F.plainAttrs_list PySem.F.slot_list_append PySem.F.type_list_append mt_append (pv 1) (pa_cons (pe_cal1 NAME hr rfl (passes1 (E' := E) fun _ _ _ h => h) (pa_cons (pv 0) pa_nil)) pa_nil)))))
    (pss_one (ps_ret (pe_callTy call_tuple_of rfl m1 bt_tuple (pa_cons (pv 1) pa_nil))))), ?_⟩
  have S0 := RS.start h
  unfold NamesOf at hn
  refine ⟨_, rfl, rd, dx, wl, ws, t, rfl, h, fun H1 g1 => ?_⟩
  have S1 := S0.step g1
  by_cases hb : isNameB (hd (ws.drop t)) = true
  · rw [if_pos hb] at hn ⊢
    obtain ⟨k, hk⟩ := hn
    have hne : hd (ws.drop t) ≠ [] := fun e => by rw [e] at hb; cases hb
    rw [← dropT] at hk
    refine ⟨len1, fun l hl => ?_⟩
    have hl0 : H l = none := by
      cases e : H l with
      | none => rfl
      | some o =>
        by_cases e2 : l = rd
        · rw [e2, S1.st.ob] at hl; cases hl
        · rw [S1.g l o e2 e] at hl; cases hl
    have S2 := S1.put (o := .lst [.str (S (hd (ws.drop t)))]) hl0
    refine ⟨fun m σ H' => ∃ (ns : List Wd) (t' : Nat), σ = [some (.ref rd), some (.ref l)] ∧ RS H H' R rd dx wl ws t' ∧ H' l = some (.lst (ST ns)) ∧ NamesP m ns (ws.drop t') res ∧ ns.length ≤ t' ∧ t < t' ∧ t' ≤ ws.length, ⟨k, [hd (ws.drop t)], t + 1, rfl, S2, upd_same, hk, (by show 1 ≤ t + 1; omega), by omega, hd_lt hne⟩, ?_⟩
    rintro m σ H' ⟨ns, t', rfl, s', hl', hp, hns, ht, htl⟩
    have wl0 := h.ok.len
    refine ⟨_, rfl, rd, dx, _, rfl, s'.st.ob, rfl, rd, dx, wl, ws, t', [46], by rw [lDot]; rfl, s'.st, ?_⟩
    generalize hdr : ws.drop t' = rr at hp ⊢
    cases hp with
    | stop hh =>
      rw [if_neg hh]
      refine ⟨_, rfl, iteF ⟨_, rfl, l, _, rfl, .inl ⟨SqL.of hl', fun p hp => ?_⟩⟩⟩
      refine q _ _ t' (s'.same (same_new hp _)).g (s'.same (same_new hp _)).st hdr ht htl ?_
      exact TV.tup (SqT.of upd_same) (TAll.strs ns)
    | @on k' _ n r _ hb2 hk2 =>
      obtain ⟨d1, d2⟩ := dropS hdr
      obtain ⟨d3, d4⟩ := dropS d1
      refine iteP rfl ⟨_, rfl, iteT ?_⟩
      refine ⟨fun σ' H'' => ∃ (t'' : Nat), σ' = [some (.ref rd), some (.ref l)] ∧ RS H H'' R rd dx wl ws t'' ∧ H'' l = some (.lst (ST (ns ++ [n]))) ∧ NamesP k' (ns ++ [n]) (ws.drop t'') res ∧ (ns ++ [n]).length ≤ t'' ∧ t < t'' ∧ t'' ≤ ws.length, fun σ' H'' hh => ?_, ?_⟩
      · obtain ⟨t'', a1, a2, a3, a4, a5⟩ := hh
        exact ⟨k', Nat.lt_succ_self _, ns ++ [n], t'', a1, a2, a3, a4, a5⟩
      have nl : l ≠ rd := s'.none hl0 hl'
      have s2 := s'.up (t' + 1)
      have hl2 : rdU H' R rd dx wl (t' + 1) l = some (.lst (ST ns)) := by unfold rdU; rw [upd_ne nl]; exact hl'
      refine ⟨_, rfl, .inl ⟨rfl, _, SqL.of hl2⟩, _, rfl, rd, dx, wl, ws, t' + 1, rfl, s2.st, fun H3 g3 => ?_⟩
      rw [d1]
      refine iteP hb2 ?_
      have s3 := s2.step g3
      have hl3 : H3 l = some (.lst (ST ns)) := g3 _ _ (by unfold rdU; rw [upd_ne nl]; exact hl2)
      refine ⟨l, _, _, rfl, rfl, hl3, by rw [List.length_map]; exact sz5 (by omega), t' + 1 + 1, rfl, s3.put hl0, ?_, ?_, by rw [List.length_append, List.length_singleton]; omega, by omega, d4⟩
      · rw [upd_same]; simp [ST, hd]
      · rw [d3]; exact hk2
    | @bad _ r hb2 =>
      obtain ⟨d1, d2⟩ := dropS hdr
      refine iteP rfl ⟨_, rfl, iteT ?_⟩
      have nl : l ≠ rd := s'.none hl0 hl'
      have s2 := s'.up (t' + 1)
      have hl2 : rdU H' R rd dx wl (t' + 1) l = some (.lst (ST ns)) := by unfold rdU; rw [upd_ne nl]; exact hl'
      refine ⟨fun _ _ => False, fun _ _ z => z.elim, ?_⟩
      refine ⟨_, rfl, .inl ⟨rfl, _, SqL.of hl2⟩, _, rfl, rd, dx, wl, ws, t' + 1, rfl, s2.st, fun H3 g3 => ?_⟩
      rw [d1]
      exact iteN (by rw [hb2]; decide) (q _ (s2.step g3).g)
  · rw [if_neg hb] at hn ⊢
    subst hn
    exact q _ S1.g
end
end Law


set_option Elab.async false
set_option linter.all false
set_option maxRecDepth 100000
set_option maxHeartbeats 4000000
namespace Law
open PySem L2 L2.Sp
theorem lCom : (Str.ofString "," : Str) = S [44] := by decide +kernel
theorem lDots : (Str.ofString ".." : Str) = S [46, 46] := by decide +kernel
theorem lSpan : (Str.ofString "span" : Str) = S kSpan := by decide +kernel
theorem tok_num {u : Wd} (h : TokW u) (hn : numB u = true) : Num u := by
  rcases h with h | h | h | rfl | h
  · obtain ⟨c, e, hc⟩ := h.head
    cases u with
    | nil => cases e
    | cons a r =>
      cases e
      have : (decide (c = 45) || isF c) = true := hn
      rw [isF_L hc, decide_eq_false (L_no hc).1] at this
      cases this
  · exact h
  · obtain ⟨b, _, rfl⟩ := h
    cases hn
  · cases hn
  · obtain ⟨c, hc, rfl⟩ := h
    have : (decide (c = 45) || isF c) = true := hn
    rw [(single_no c hc).2.1, decide_eq_false (single_no c hc).2.2.1] at this
    cases this
theorem isF_rng {c : Nat} (h : isF c = true) : 48 ≤ c ∧ c ≤ 57 := by
  unfold isF at h
  simpa [Bool.and_eq_true, decide_eq_true_eq] using h
theorem num_int {u : Wd} (h : Num u) : PySem.intText? (S u) = some (numV u) ∧ u.length ≤ 61 := by
  obtain ⟨sn, fs, rfl, hsn, hne, hf, hl, _⟩ := h
  have hd : PySem.NumText.AllDigits fs := fun c hc => isF_rng (hf c hc)
  obtain ⟨c, r, rfl⟩ := List.exists_cons_of_ne_nil hne
  have hc := isF_rng (hf c (by simp))
  rcases hsn with rfl | rfl
  · refine ⟨?_, by simpa using Nat.le_succ_of_le hl⟩
    have := PySem.intText_digits (x := S (c :: r)) hd hne (by rw [S_len]; omega)
    rw [List.nil_append, this]
    have e : numV (c :: r) = (figV (c :: r) : Int) := by
      unfold numV
      split
      · rename_i heq; cases heq; omega
      · rfl
    rw [e]; rfl
  · refine ⟨?_, by simp at hl ⊢; omega⟩
    exact PySem.intText_neg (x := S ([45] ++ (c :: r))) (cs := c :: r) rfl hd hne (by rw [S_len]; simp at hl ⊢; omega)
theorem numB_ne {u : Wd} (h : numB u = true) : u ≠ [] := fun e => by rw [e] at h; cases h
section
variable {P : Program} {w : World} {K : PySem.W.Frag} {mg : Str → Option Value} {base : Heap} {f : Addr} {fd : FuncData} {R C : Addr}
abbrev sHas : Stmt := top 29
theorem scHas : FnScope ["reader", "close", "count"] ["reader", "close", "count"] (defScope sHas) := ⟨rfl, rfl, rfl, by decide +kernel, rfl, by decide +kernel, by decide +kernel⟩
def EO (C : Addr) (H : Hp) (R rd dx wl : Addr) (ws : List Wd) (t : Nat) (res : Option (Bool × List Wd)) (Q : VK) (E : XK) : Prop := match res with
  | none => ∀ H', Grow rd H H' → E (.ref C) none H'
  | some (b, r) => ∀ H' t', Grow rd H H' → RD H' R rd dx wl ws t' → ws.drop t' = r → t ≤ t' → t' ≤ ws.length → Q (.bl b) H'
def spHas (R C : Addr) : Sp := fun args H Q E => ∃ rd dx wl ws t close n, args = [.ref rd, .str (S close), .int ((n : Nat) : Int)] ∧ RD H R rd dx wl ws t ∧ t ≤ ws.length ∧ close ≠ [] ∧ EO C H R rd dx wl ws t (hasF close n (ws.drop t)) Q E
theorem small1 (c : Nat) (h : c < 1114112) : Small [c] := ⟨by show 1 ≤ 100000; decide, fun x hx => by rw [List.mem_singleton.mp hx]; exact h⟩
theorem at1 (r : List Wd) : (r[1]?).getD [] = hd r.tail := by
  cases r with
  | nil => rfl
  | cons a r => cases r <;> rfl
theorem ok_has (F : Fun K "has_another" "has_another" sHas f fd) (c : RK K R) (AH : Mth P w K mg base CX0 R 1 "ahead" ["self", "steps"] (spAhead R)) (MU : Mth P w K mg base (CX1 P w) R 3 "must_take" ["self", "word"] (spMust R C)) : FnOk P w K mg base (CX1 P w) 4 f fd ["reader", "close", "count"] (spHas R C) := by
  refine Fun.ok1 F scHas (fun vs H Q E h => ?_) (fun cdv A outer s H vs Q E hr h => ?_)
  · obtain ⟨rd, dx, wl, ws, t, close, n, rfl, _⟩ := h
    rfl
  obtain ⟨rd, dx, wl, ws, t, close, n, rfl, h, ht, hc, q⟩ := h
  have hr1 := hr.mono (show 1 ≤ 3 by decide)
  refine ⟨_, pss_cons (ps_if (pt_cmpR op_eq (pe_mth AH c hr1 pass0 (pv 0) (pa_cons pe_int pa_nil)) (pv 1) (nomark _)) (pss_one (ps_ret pe_bl)) pss_nil)
    (pss_cut (ps_if (pt_cmpR op_gt (pv 2) pe_int (nomark _)) (pss_one (ps_expr (pe_mth MU c hr (passes1 (E' := E) fun _ _ _ h => h) (pv 0) (pa_cons pe_str pa_nil)))) pss_nil)
    (pss_one (ps_ret (pe_not (pe_and (pe_cmpR op_eq (pe_mth AH c hr1 pass0 (pv 0) (pa_cons pe_int pa_nil)) pe_str (nomark _)) (pe_one (pe_cmpR op_eq (pe_mth AH c hr1 pass0 (pv 0) (pa_cons pe_int pa_nil)) (pv 1) (nomark _)))))))), ?_⟩
  refine ⟨_, rfl, rd, dx, _, rfl, h.ob, rfl, rd, dx, wl, ws, t, 0, rfl, h, _, rfl, rfl, _, rfl, ?_⟩
  rw [at0, dec_S]
  have S0 := RS.start h
  by_cases e : hd (ws.drop t) = close
  · rw [decide_eq_true e]
    unfold hasF at q
    rw [if_pos e] at q
    exact iteT (q H t Grow.refl h rfl (Nat.le_refl _) ht)
  rw [decide_eq_false e]
  refine iteF ?_
  refine ⟨fun σ' H' => ∃ (t' : Nat), σ' = [some (.ref rd), some (.str (S close)), some (.int (n : Int))] ∧ RS H H' R rd dx wl ws t' ∧ t ≤ t' ∧ t' ≤ ws.length ∧ hasF close n (ws.drop t) = some (!(decide (hd (ws.drop t') = [46, 46]) && decide (hd (ws.drop t').tail = close)), ws.drop t'), ?_, ?_⟩
  · refine ⟨_, rfl, _, _, rfl, rfl, _, rfl, ?_⟩
    by_cases hn : 0 < n
    · rw [decide_eq_true (by omega)]
      refine iteT ⟨_, rfl, rd, dx, _, rfl, h.ob, rfl, rd, dx, wl, ws, t, [44], by rw [lCom]; rfl, h, small1 44 (by decide), ?_⟩
      by_cases e2 : hd (ws.drop t) = [44]
      · refine iteP e2 ⟨t + 1, rfl, S0.up (t + 1), by omega, hd_lt (by rw [e2]; simp), ?_⟩
        unfold hasF
        rw [if_neg e, if_pos hn, if_pos e2, dropT]
      · refine iteN e2 ?_
        unfold hasF at q
        rw [if_neg e, if_pos hn, if_neg e2] at q
        exact q _ (S0.up (t + 1)).g
    · rw [decide_eq_false (by omega)]
      refine iteF ⟨t, rfl, S0, Nat.le_refl _, ht, ?_⟩
      unfold hasF
      rw [if_neg e, if_neg hn]
  · rintro σ' H' ⟨t', rfl, s', h1, h2, hq⟩
    rw [hq] at q
    refine ⟨_, rfl, rd, dx, _, rfl, s'.st.ob, rfl, rd, dx, wl, ws, t', 0, rfl, s'.st, rfl, _, rfl, ?_⟩
    rw [at0, lDots, dec_S]
    have fin := q H' t' s'.g s'.st rfl h1 h2
    cases hd1 : decide (hd (ws.drop t') = [46, 46]) with
    | false =>
      rw [hd1] at fin
      exact iteF ⟨_, rfl, fin⟩
    | true =>
      rw [hd1] at fin
      refine iteT ⟨_, rfl, rd, dx, _, rfl, s'.st.ob, rfl, rd, dx, wl, ws, t', 1, rfl, s'.st, _, rfl, rfl, _, rfl, ?_⟩
      rw [at1, dec_S]
      exact fin
abbrev sEndT : Stmt := top 30
theorem scEndT : FnScope ["reader", "close", "more"] ["reader", "close"] (defScope sEndT) := ⟨rfl, rfl, rfl, by decide +kernel, rfl, by decide +kernel, by decide +kernel⟩
def spEndT (R C : Addr) : Sp := fun args H Q E => ∃ rd dx wl ws t close, args = [.ref rd, .str (S close)] ∧ RD H R rd dx wl ws t ∧ close ≠ [] ∧ Small close ∧ EO C H R rd dx wl ws (t + 1) (endF close (ws.drop t)) Q E
theorem ok_endt (F : Fun K "takes_end" "takes_end" sEndT f fd) (c : RK K R) (TS : Mth P w K mg base CX0 R 2 "takes" ["self", "word"] (spTakes R)) (MU : Mth P w K mg base (CX1 P w) R 3 "must_take" ["self", "word"] (spMust R C)) : FnOk P w K mg base (CX1 P w) 4 f fd ["reader", "close"] (spEndT R C) := by
  refine Fun.ok1 F scEndT (fun vs H Q E h => ?_) (fun cdv A outer s H vs Q E hr h => ?_)
  · obtain ⟨rd, dx, wl, ws, t, close, rfl, _⟩ := h
    rfl
  obtain ⟨rd, dx, wl, ws, t, close, rfl, h, hc, hsm, q⟩ := h
  have hr2 := hr.mono (show 2 ≤ 3 by decide)
  refine ⟨_, pss_cut (ps_set (i := 2) scEndT.nd rfl (Or.inl rfl) (pe_mth TS c hr2 pass0 (pv 0) (pa_cons pe_str pa_nil)))
    (pss_cons (ps_expr (pe_mth MU c hr (passes1 (E' := E) fun _ _ _ h => h) (pv 0) (pa_cons (pv 1) pa_nil)))
    (pss_one (ps_ret (pv 2)))), ?_⟩
  have S0 := RS.start h
  refine ⟨fun σ' H' => ∃ (t' : Nat) (b : Bool), σ' = [some (.ref rd), some (.str (S close)), some (.bl b)] ∧ RS H H' R rd dx wl ws t' ∧ t ≤ t' ∧ endF close (ws.drop t) = if hd (ws.drop t') = close then some (b, (ws.drop t').tail) else none, ?_, ?_⟩
  · refine ⟨_, rfl, rd, dx, _, rfl, h.ob, rfl, rd, dx, wl, ws, t, [46, 46], by rw [lDots]; rfl, h, ?_⟩
    by_cases e : hd (ws.drop t) = [46, 46]
    · refine iteP e ⟨t + 1, true, rfl, S0.up (t + 1), by omega, ?_⟩
      unfold endF
      rw [if_pos e, dropT]
    · refine iteN e ⟨t, false, rfl, S0, Nat.le_refl _, ?_⟩
      unfold endF
      rw [if_neg e]
  · rintro σ' H' ⟨t', b, rfl, s', h1, he⟩
    rw [he] at q
    refine ⟨_, rfl, rd, dx, _, rfl, s'.st.ob, rfl, _, rfl, rd, dx, wl, ws, t', close, rfl, s'.st, hsm, ?_⟩
    by_cases e : hd (ws.drop t') = close
    · rw [if_pos e] at q
      refine iteP e ⟨_, rfl, ?_⟩
      exact q _ (t' + 1) (s'.up (t' + 1)).g (s'.up (t' + 1)).st dropT (by omega) (hd_lt (by rw [e]; exact hc))
    · rw [if_neg e] at q
      exact iteN e (q _ (s'.up (t' + 1)).g)
abbrev sSpanT : Stmt := top 26
theorem scSpanT : FnScope ["reader", "low"] ["reader", "low"] (defScope sSpanT) := ⟨rfl, rfl, rfl, by decide +kernel, rfl, by decide +kernel, by decide +kernel⟩
def spanR (n : Int) (r : List Wd) : Tn × List Wd :=
  if hd r = [46, 46] then (if numB (hd r.tail) = true then (tSpan (.int n) (.int (numV (hd r.tail))), r.tail.tail) else (tSpan (.int n) .non, r.tail)) else (tSpan (.int n) (.int n), r)
def spSpanT (K : PySem.W.Frag) (R : Addr) : Sp := fun args H Q _ => ∃ rd dx wl ws t n, args = [.ref rd, .int n] ∧ RD H R rd dx wl ws t ∧ t ≤ ws.length ∧ ∀ v H' t', Grow rd H H' → RD H' R rd dx wl ws t' → ws.drop t' = (spanR n (ws.drop t)).2 → t ≤ t' → t' ≤ ws.length → TV K H' (spanR n (ws.drop t)).1 v → Q v H'
theorem tv_span {H : Hp} {a : Addr} {x y : Tn} {v u : V} (h : H a = some (.tup [.str (Str.ofString "span"), v, u])) (h1 : TV K H x v) (h2 : TV K H y u) : TV K H (tSpan x y) (.ref a) := by
  rw [lSpan] at h
  exact TV.tup (SqT.of h) (TAll.cons TV.str (TAll.cons h1 (TAll.one h2)))
theorem ok_spant (F : Fun K "span_tree" "span_tree" sSpanT f fd) (c : RK K R) (TS : Mth P w K mg base CX0 R 2 "takes" ["self", "word"] (spTakes R)) (TK : Mth P w K mg base CX0 R 2 "take" ["self"] (spTake R)) (AH : Mth P w K mg base CX0 R 1 "ahead" ["self", "steps"] (spAhead R)) (NB : Cal P w K mg base 2 "is_number" ["word"] spIsNo) (m1 : mg "int" = none) : FnOk P w K mg base CX0 3 f fd ["reader", "low"] (spSpanT K R) := by
  refine F.ok scSpanT (fun vs H Q E h => ?_) (fun cdv A outer s H vs Q E hr h => ?_)
  · obtain ⟨rd, dx, wl, ws, t, n, rfl, _⟩ := h
    rfl
  obtain ⟨rd, dx, wl, ws, t, n, rfl, h, ht, q⟩ := h
  have hr1 := hr.mono (show 1 ≤ 2 by decide)
  refine ⟨_, pss_cons (ps_if (pt_not (pt_val (pe_mth TS c hr pass0 (pv 0) (pa_cons pe_str pa_nil)))) (pss_one (ps_ret (pe_tup (pa_cons pe_str (pa_cons (pv 1) (pa_cons (pv 1) pa_nil)))))) pss_nil)
    (pss_one (ps_ret (pe_tup (pa_cons pe_str (pa_cons (pv 1) (pa_cons (pe_ifExp (pt_val (pe_cal NB hr rfl (pa_cons (pe_mth AH c hr1 pass0 (pv 0) (pa_cons pe_int pa_nil)) pa_nil)))
      (pe_callTy call_intS rfl m1 bt_int (pa_cons (pe_mth0 TK c hr pass0 (pv 0)) pa_nil)) pe_non) pa_nil)))))), ?_⟩
  have S0 := RS.start h
  refine ⟨_, rfl, rd, dx, _, rfl, h.ob, rfl, rd, dx, wl, ws, t, [46, 46], by rw [lDots]; rfl, h, ?_⟩
  unfold spanR at q
  by_cases e : hd (ws.drop t) = [46, 46]
  · refine iteP e ⟨_, rfl, iteF ?_⟩
    simp only [if_pos e] at q
    have s1 := S0.up (t + 1)
    have hl1 := hd_lt (ws := ws) (t := t) (by rw [e]; simp)
    refine ⟨_, rfl, _, rfl, rd, dx, _, rfl, s1.st.ob, rfl, rd, dx, wl, ws, t + 1, 0, rfl, s1.st, _, rfl, ?_, _, rfl, ?_⟩
    · rw [at0]; exact (h.ok.small (t + 1)).1
    rw [at0]
    rw [← dropT] at q
    cases hb : numB (hd (ws.drop (t + 1))) with
    | true =>
      simp only [hb, if_true] at q
      have hw := h.ok.tok _ (hd_in (numB_ne hb))
      obtain ⟨i1, i2⟩ := num_int (tok_num hw hb)
      refine iteT ⟨_, rfl, rd, dx, _, rfl, s1.st.ob, rfl, rd, dx, wl, ws, t + 1, rfl, s1.st, _, _, rfl, i1, by rw [S_len]; omega, len3, fun p hp => ?_⟩
      have s2 := (s1.up (t + 1 + 1)).same (same_new hp (.tup [.str (Str.ofString "span"), .int n, .int (numV (hd (ws.drop (t + 1))))]))
      exact q _ _ (t + 1 + 1) s2.g s2.st dropT (by omega) (hd_lt (numB_ne hb)) (tv_span upd_same TV.int TV.int)
    | false =>
      simp only [hb, Bool.false_eq_true, if_false] at q
      refine iteF ⟨len3, fun p hp => ?_⟩
      have s2 := s1.same (same_new hp (.tup [.str (Str.ofString "span"), .int n, .non]))
      exact q _ _ (t + 1) s2.g s2.st rfl (by omega) hl1 (tv_span upd_same TV.int TV.non)
  · refine iteN e ⟨_, rfl, iteT ?_⟩
    simp only [if_neg e] at q
    refine ⟨_, rfl, _, rfl, len3, fun p hp => ?_⟩
    have s2 := S0.same (same_new hp (.tup [.str (Str.ofString "span"), .int n, .int n]))
    exact q _ _ t s2.g s2.st rfl (Nat.le_refl _) ht (tv_span upd_same TV.int TV.int)
abbrev sOne : Stmt := top 22
theorem scOne : FnScope ["word", "trees"] ["word", "trees"] (defScope sOne) := ⟨rfl, rfl, rfl, by decide +kernel, rfl, by decide +kernel, by decide +kernel⟩
def spOne (K : PySem.W.Frag) : Sp := fun args H Q _ => ∃ k l vs ts, args = [.str (S k), .ref l] ∧ H l = some (.lst vs) ∧ TAll K H ts vs ∧ ∀ v H', Same H H' → TV K H' (one k ts) v → Q v H'
theorem ok_one (F : Fun K "one_or_several" "one_or_several" sOne f fd) (m1 : mg "len" = none) (m2 : mg "tuple" = none) : FnOk P w K mg base CX0 1 f fd ["word", "trees"] (spOne K) := by
  refine F.ok scOne (fun vs H Q E h => ?_) (fun cdv A outer s H vs Q E hr h => ?_)
  · obtain ⟨k, l, us, ts, rfl, _⟩ := h
    rfl
  obtain ⟨k, l, us, ts, rfl, hl, ht, q⟩ := h
  refine ⟨_, pss_one (ps_ret (pe_ifExp (pt_cmpR op_eq (pe_callB call_len_seq rfl m1 PySem.boot_len (pa_cons (pv 1) pa_nil)) pe_int (nomark _)) (pe_ix ix_list (pv 1) pe_int (fun _ _ => rfl))
    (pe_tup (pa_cons (pv 0) (pa_cons (pe_callTy call_tuple_of rfl m2 bt_tuple (pa_cons (pv 1) pa_nil)) pa_nil))))), ?_⟩
  refine ⟨_, rfl, l, _, rfl, .inl (SqL.of hl), rfl, _, rfl, ?_⟩
  have hlen := ht.length
  by_cases e : us.length = 1
  · rw [decide_eq_true (p := V.int (us.length : Int) = V.int 1) (by rw [e]; rfl)]
    obtain ⟨u, rfl⟩ : ∃ u, us = [u] := by
      match us, e with
      | [u], _ => exact ⟨u, rfl⟩
    obtain ⟨x, rfl⟩ : ∃ x, ts = [x] := by
      match ts, hlen with
      | [x], _ => exact ⟨x, rfl⟩
    simp only [TAll] at ht
    obtain ⟨y, r, e1, h1, e2⟩ := ht
    cases e1
    exact iteT ⟨_, rfl, l, _, _, u, rfl, rfl, SqL.of hl, rfl, q _ _ sameR h1⟩
  · rw [decide_eq_false (fun z => e (by have := V.int.inj z; omega))]
    refine iteF ⟨_, rfl, _, rfl, l, _, rfl, .inl ⟨SqL.of hl, fun p hp => ⟨len2, fun p2 hp2 => ?_⟩⟩⟩
    have k1 := same_new hp (.tup us)
    have k2 := same_new hp2 (.tup [.str (S k), .ref p])
    refine q _ _ (k1.trans k2) ?_
    have e3 : one k ts = .tup [.str k, .tup ts] := by
      unfold one
      split
      · rename_i t _; exact absurd hlen (by simpa using e)
      · rfl
    rw [e3]
    exact TV.tup (SqT.of upd_same) (TAll.cons TV.str (TAll.one (TV.tup (SqT.of (k2 _ _ upd_same)) (ht.kp (Kp.same (k1.trans k2))))))
end
end Law


set_option Elab.async false
set_option linter.all false
set_option maxRecDepth 100000
set_option maxHeartbeats 4000000
namespace Law
open PySem L2 L2.Sp
theorem lRb : (Str.ofString "]" : Str) = S [93] := by decide +kernel
theorem lRc : (Str.ofString "}" : Str) = S [125] := by decide +kernel
theorem lQ : (Str.ofString "?" : Str) = S [63] := by decide +kernel
theorem lCol : (Str.ofString ":" : Str) = S [58] := by decide +kernel
theorem lList : (Str.ofString "list" : Str) = S kList := by decide +kernel
theorem lRec : (Str.ofString "record" : Str) = S kRec := by decide +kernel
section
variable {P : Program} {w : World} {K : PySem.W.Frag} {mg : Str → Option Value} {base : Heap} {f : Addr} {fd : FuncData} {R C : Addr} {X : Bool → List Wd → Res → Prop}
def valT (K : PySem.W.Frag) : Hp → Tn → V → Prop := fun H x v => TV K H x v
def spX (K : PySem.W.Frag) (R C : Addr) (X : Bool → List Wd → Res → Prop) : Sp := fun args H Q E => ∃ rd dx wl ws t free res, args = [.ref rd, .bl free] ∧ RD H R rd dx wl ws t ∧ X free (ws.drop t) res ∧ PO C (valT K) H R rd dx wl ws t res Q E
/-- what a reader's function without more does -/
def sp1 {α : Type} (val : Hp → α → V → Prop) (R C : Addr) (Y : List Wd → Option (α × List Wd) → Prop) : Sp := fun args H Q E => ∃ rd dx wl ws t res, args = [.ref rd] ∧ RD H R rd dx wl ws t ∧ t ≤ ws.length ∧ Y (ws.drop t) res ∧ PO C val H R rd dx wl ws t res Q E
theorem new_none {H H1 : Hp} {rd dx wl l : Addr} {ws : List Wd} {t : Nat} (s : RS H H1 R rd dx wl ws t) (hl : H1 l = none) : H l = none := by
  cases e : H l with
  | none => rfl
  | some o =>
    by_cases e2 : l = rd
    · rw [e2, s.st.ob] at hl; cases hl
    · rw [s.g l o e2 e] at hl; cases hl
abbrev sListT : Stmt := top 27
theorem scListT : FnScope ["reader", "items"] ["reader"] (defScope sListT) := ⟨rfl, rfl, rfl, by decide +kernel, rfl, by decide +kernel, by decide +kernel⟩
theorem ok_listt {k : Nat} (F : Fun K "list_tree" "list_tree" sListT f fd) (EX : Cal1 P w K mg base k "expression" ["reader", "free"] (spX K R C X)) (HAS : Cal1 P w K mg base 4 "has_another" ["reader", "close", "count"] (spHas R C)) (ENDT : Cal1 P w K mg base 4 "takes_end" ["reader", "close"] (spEndT R C)) (m1 : mg "len" = none) (m2 : mg "tuple" = none) (hk : 4 ≤ k) :
    FnOk P w K mg base (CX1 P w) (k + 1) f fd ["reader"] (sp1 (valT K) R C (ListP X)) := by
  refine Fun.ok1 F scListT (fun vs H Q E h => ?_) (fun cdv A outer s H vs Q E hr h => ?_)
  · obtain ⟨rd, dx, wl, ws, t, res, rfl, _⟩ := h
    rfl
  obtain ⟨rd, dx, wl, ws, t, res, rfl, h, ht, hp, q⟩ := h
  have hr4 := hr.mono hk
  refine ⟨_, pss_cons (ps_set (i := 1) scListT.nd rfl (Or.inl rfl) (pe_lst pa_nil))
    (pss_cons (ps_while PassesOwn.leaving (pt_val (pe_cal1 HAS hr4 rfl (passes1 (E' := E) fun _ _ _ h => h) (pa_cons (pv 0) (pa_cons pe_str (pa_cons (pe_callB call_len_seq rfl m1 PySem.boot_len (pa_cons (pv 1) pa_nil)) pa_nil)))))
      (pss_one (ps_expr (pe_bm PySem.F.plainAttrs_list PySem.F.slot_list_append PySem.F.type_list_append mt_append (pv 1) (pa_cons (pe_cal1 EX hr rfl (passes1 (E' := E) fun _ _ _ h => h) (pa_cons (pv 0) (pa_cons pe_bl pa_nil))) pa_nil)))))
    (pss_one (ps_ret (pe_tup (pa_cons pe_str (pa_cons (pe_callTy call_tuple_of rfl m2 bt_tuple (pa_cons (pv 1) pa_nil)) (pa_cons (pe_cal1 ENDT hr4 rfl (passes1 (E' := E) fun _ _ _ h => h) (pa_cons (pv 0) (pa_cons pe_str pa_nil))) pa_nil))))))), ?_⟩
  obtain ⟨k0, ires, hi, rfl⟩ := hp
  have S0 := RS.start h
  have wl0 := h.ok.len
  refine ⟨len0, fun l hl => ?_⟩
  have S1 := S0.put (o := .lst []) hl
  refine ⟨fun m σ H' => ∃ (ts : List Tn) (vs : List V) (t' : Nat), σ = [some (.ref rd), some (.ref l)] ∧ RS H H' R rd dx wl ws t' ∧ H' l = some (.lst vs) ∧ TAll K H' ts vs ∧ ItemsP X m ts (ws.drop t') ires ∧ ts.length ≤ t' ∧ t ≤ t' ∧ t' ≤ ws.length, ⟨k0, [], [], t, rfl, S1, upd_same, TAll.nil, hi, Nat.zero_le _, Nat.le_refl _, ht⟩, ?_⟩
  rintro m σ H' ⟨ts, us, t', rfl, s', hl', hts, hip, hlen, h1, h2⟩
  have nl : l ≠ rd := s'.none hl hl'
  have hul := hts.length
  refine ⟨_, rfl, _, rfl, l, _, rfl, .inl (SqL.of hl'), rd, dx, wl, ws, t', [93], ts.length, by rw [lRb, hul]; rfl, s'.st, h2, by simp, ?_⟩
  generalize hdr : ws.drop t' = rr at hip ⊢
  cases hip with
  | @stop _ _ r1 hh =>
    rw [hh]
    intro H2 t2 g2 d2 e2 le2 lt2
    refine ⟨_, rfl, iteF ?_⟩
    have s2 := s'.more g2 d2
    have hl2 := g2 _ _ nl hl'
    have hts2 := hts.kp (Kp.grow g2 s'.st)
    refine ⟨_, rfl, l, _, rfl, .inl ⟨SqL.of hl2, fun p hp => ?_⟩⟩
    have kp := same_new hp (.tup us)
    have s3 := s2.same kp
    refine ⟨_, rfl, rd, dx, wl, ws, t2, [93], by rw [lRb]; rfl, s3.st, by simp, small1 93 (by decide), ?_⟩
    rw [e2]
    dsimp only at q
    cases he : endF [93] r1 with
    | none =>
      rw [he] at q
      intro H4 g4
      exact q H4 (s3.g.trans g4)
    | some br =>
      obtain ⟨b, r2⟩ := br
      rw [he] at q
      intro H4 t4 g4 d4 e4 le4 lt4
      have s4 := s3.more g4 d4
      have np : p ≠ rd := fun e => by rw [e, s2.st.ob] at hp; cases hp
      refine ⟨len3, fun p2 hp2 => ?_⟩
      have kp2 := same_new hp2 (.tup [.str (Str.ofString "list"), .ref p, .bl b])
      have s5 := s4.same kp2
      refine q _ _ t4 s5.g s5.st e4 (by omega) lt4 ?_
      have k5 : Kp K H2 _ := (Kp.same kp).trans ((Kp.grow g4 s3.st).trans (Kp.same kp2))
      have hp4 := kp2 _ _ (g4 p _ np upd_same)
      refine TV.tup (SqT.of (by rw [upd_same, lList])) (TAll.cons TV.str (TAll.cons (TV.tup (SqT.of hp4) (hts2.kp k5)) (TAll.one TV.bl)))
  | @on k' _ _ r1 x r2 _ hh hx hk2 =>
    rw [hh]
    intro H2 t2 g2 d2 e2 le2 lt2
    refine ⟨_, rfl, iteT ?_⟩
    have s2 := s'.more g2 d2
    have hl2 := g2 _ _ nl hl'
    have hts2 := hts.kp (Kp.grow g2 s'.st)
    refine ⟨fun σ' H'' => ∃ (vs : List V) (t'' : Nat), σ' = [some (.ref rd), some (.ref l)] ∧ RS H H'' R rd dx wl ws t'' ∧ H'' l = some (.lst vs) ∧ TAll K H'' (ts ++ [x]) vs ∧ ItemsP X k' (ts ++ [x]) (ws.drop t'') ires ∧ (ts ++ [x]).length ≤ t'' ∧ t ≤ t'' ∧ t'' ≤ ws.length, fun σ' H'' hh => ?_, ?_⟩
    · obtain ⟨vs, t'', a⟩ := hh
      exact ⟨k', Nat.lt_succ_self _, ts ++ [x], vs, t'', a⟩
    refine ⟨_, rfl, .inl ⟨rfl, _, SqL.of hl2⟩, _, rfl, rd, dx, wl, ws, t2, false, _, rfl, s2.st, by rw [e2]; exact hx, ?_⟩
    intro v H3 t3 g3 d3 e3 lt3 le3 hv
    have s3 := s2.more g3 d3
    have hl3 := g3 _ _ nl hl2
    have hts3 := hts2.kp (Kp.grow g3 s2.st)
    have kl : Kp K H3 (upd H3 l (.lst (us ++ [v]))) := Kp.lst hl3
    exact ⟨l, _, _, rfl, rfl, hl3, sz5 (by omega), _, t3, rfl, s3.put hl, upd_same, (hts3.kp kl).append (TAll.one (TV.kp kl hv)), by rw [e3]; exact hk2, by rw [List.length_append, List.length_singleton]; omega, by omega, le3⟩
  | @bad _ _ hh =>
    rw [hh]
    intro H2 g2
    exact q H2 (s'.g.trans g2)
  | @worse _ _ r1 hh hx =>
    rw [hh]
    intro H2 t2 g2 d2 e2 le2 lt2
    refine ⟨_, rfl, iteT ?_⟩
    have s2 := s'.more g2 d2
    have hl2 := g2 _ _ nl hl'
    refine ⟨fun _ _ => False, fun _ _ z => z.elim, ?_⟩
    refine ⟨_, rfl, .inl ⟨rfl, _, SqL.of hl2⟩, _, rfl, rd, dx, wl, ws, t2, false, _, rfl, s2.st, by rw [e2]; exact hx, ?_⟩
    intro H3 g3
    exact q H3 (s2.g.trans g3)
abbrev sField : Stmt := top 31
theorem scField : FnScope ["reader", "name", "must"] ["reader"] (defScope sField) := ⟨rfl, rfl, rfl, by decide +kernel, rfl, by decide +kernel, by decide +kernel⟩
/-- the tuple of a field -/
def valF (K : PySem.W.Frag) : Hp → Wd × Tn × Bool → V → Prop := fun H x v => ∃ a u, v = .ref a ∧ SqT K H a [.str (S x.1), u, .bl x.2.2] ∧ TV K H x.2.1 u
theorem ok_field {k : Nat} (F : Fun K "field_of" "field_of" sField f fd) (c : RK K R) (EX : Cal1 P w K mg base k "expression" ["reader", "free"] (spX K R C X)) (NAME : Cal1 P w K mg base 3 "name_of" ["reader"] (spNameOf R C)) (TS : Mth P w K mg base CX0 R 2 "takes" ["self", "word"] (spTakes R)) (MU : Mth P w K mg base (CX1 P w) R 3 "must_take" ["self", "word"] (spMust R C)) (hk : 4 ≤ k) :
    FnOk P w K mg base (CX1 P w) (k + 1) f fd ["reader"] (sp1 (valF K) R C (FieldP X)) := by
  refine Fun.ok1 F scField (fun vs H Q E h => ?_) (fun cdv A outer s H vs Q E hr h => ?_)
  · obtain ⟨rd, dx, wl, ws, t, res, rfl, _⟩ := h
    rfl
  obtain ⟨rd, dx, wl, ws, t, res, rfl, h, ht, hp, q⟩ := h
  have hr3 := hr.mono (show 3 ≤ k by omega)
  have hr2 := hr.mono (show 2 ≤ k by omega)
  refine ⟨_, pss_cons (ps_set (i := 1) scField.nd rfl (Or.inl rfl) (pe_cal1 NAME hr3 rfl (passes1 (E' := E) fun _ _ _ h => h) (pa_cons (pv 0) pa_nil)))
    (pss_cut (ps_set (i := 2) scField.nd rfl (Or.inl rfl) (pe_not (pe_mth TS c hr2 pass0 (pv 0) (pa_cons pe_str pa_nil))))
    (pss_cons (ps_expr (pe_mth MU c hr3 (passes1 (E' := E) fun _ _ _ h => h) (pv 0) (pa_cons pe_str pa_nil)))
    (pss_one (ps_ret (pe_tup (pa_cons (pv 1) (pa_cons (pe_cal1 EX hr rfl (passes1 (E' := E) fun _ _ _ h => h) (pa_cons (pv 0) (pa_cons pe_bl pa_nil))) (pa_cons (pv 2) pa_nil)))))))), ?_⟩
  have S0 := RS.start h
  unfold FieldP at hp
  refine ⟨_, rfl, rd, dx, wl, ws, t, rfl, h, fun H1 g1 => ?_⟩
  have S1 := S0.step g1
  by_cases hb : isNameB (hd (ws.drop t)) = true
  · rw [if_pos hb] at hp ⊢
    rw [← dropT, ← dropT, ← dropT] at hp
    refine ⟨fun σ' H' => ∃ (t' : Nat) (b : Bool), σ' = [some (.ref rd), some (.str (S (hd (ws.drop t)))), some (.bl b)] ∧ RS H H' R rd dx wl ws t' ∧ t < t' ∧ (if hd (ws.drop t') = [58] then ∃ xres, X false (ws.drop (t' + 1)) xres ∧ res = xres.map fun p => ((hd (ws.drop t), p.1, b), p.2) else res = none), ?_, ?_⟩
    · refine ⟨_, rfl, rd, dx, _, rfl, S1.st.ob, rfl, rd, dx, wl, ws, t + 1, [63], by rw [lQ]; rfl, S1.st, ?_⟩
      by_cases e : hd (ws.drop (t + 1)) = [63]
      · rw [if_pos e] at hp
        exact iteP e ⟨_, rfl, t + 1 + 1, false, rfl, S1.up (t + 1 + 1), by omega, hp⟩
      · rw [if_neg e] at hp
        exact iteN e ⟨_, rfl, t + 1, true, rfl, S1, by omega, hp⟩
    · rintro σ' H' ⟨t', b, rfl, s', h1, hq⟩
      refine ⟨_, rfl, rd, dx, _, rfl, s'.st.ob, rfl, rd, dx, wl, ws, t', [58], by rw [lCol]; rfl, s'.st, small1 58 (by decide), ?_⟩
      by_cases e : hd (ws.drop t') = [58]
      · rw [if_pos e] at hq
        obtain ⟨xres, hx, rfl⟩ := hq
        have s2 := s'.up (t' + 1)
        refine iteP e ⟨_, rfl, _, rfl, rd, dx, wl, ws, t' + 1, false, xres, rfl, s2.st, hx, ?_⟩
        cases xres with
        | none =>
          intro H3 g3
          exact q H3 (s2.g.trans g3)
        | some p =>
          obtain ⟨x, r⟩ := p
          intro v H3 t3 g3 d3 e3 lt3 le3 hv
          have s3 := s2.more g3 d3
          refine ⟨_, rfl, len3, fun p hp => ?_⟩
          have kp := same_new hp (.tup [.str (S (hd (ws.drop t))), v, .bl b])
          have s4 := s3.same kp
          exact q _ _ t3 s4.g s4.st e3 (by omega) le3 ⟨p, v, rfl, SqT.of upd_same, TV.kp (Kp.same kp) hv⟩
      · rw [if_neg e] at hq
        subst hq
        exact iteN e (q _ (s'.up (t' + 1)).g)
  · rw [if_neg hb] at hp ⊢
    subst hp
    exact q _ S1.g
end
end Law


set_option Elab.async false
set_option linter.all false
set_option maxRecDepth 100000
set_option maxHeartbeats 4000000
namespace Law
open PySem L2 L2.Sp
theorem lNot1 : (Str.ofString "!" : Str) = S [33] := by decide +kernel
theorem lAmp : (Str.ofString "&" : Str) = S [38] := by decide +kernel
theorem lBar : (Str.ofString "|" : Str) = S [124] := by decide +kernel
theorem lkNot : (Str.ofString "not" : Str) = S kNot := by decide +kernel
theorem lkAnd : (Str.ofString "and" : Str) = S kAnd := by decide +kernel
theorem lkOr : (Str.ofString "or" : Str) = S kOr := by decide +kernel
theorem S_inj' {a b : List Nat} (h : S a = S b) : a = b := S_inj.mp (by rw [h])
theorem inV_ST (x : Wd) (xs : List Wd) : inV (.str (S x)) (ST xs) = decide (x ∈ xs) := by
  have := inV_strs (S x) (xs.map S)
  rw [List.map_map] at this
  rw [show ST xs = xs.map (V.str ∘ S) from rfl, this, Bool.eq_iff_iff, decide_eq_true_iff, decide_eq_true_iff, List.mem_map]
  constructor
  · rintro ⟨a, ha, e⟩; rw [← S_inj' e]; exact ha
  · intro h; exact ⟨x, h, rfl⟩
theorem flat_ST (xs : List Wd) : (ST xs).all flatV = true := by
  rw [List.all_eq_true]
  intro v hv
  obtain ⟨a, _, rfl⟩ := List.mem_map.mp hv
  rfl
theorem bangs_lt {r : List Wd} : ∀ {j : Nat}, j < bangs r → hd (r.drop j) = [33] := by
  induction r with
  | nil => intro j h; exact absurd h (Nat.not_lt_zero _)
  | cons x r ih =>
    intro j h
    unfold bangs at h
    by_cases e : x = [33]
    · rw [List.takeWhile_cons_of_pos (by simpa using e), List.length_cons] at h
      cases j with
      | zero => exact e
      | succ j => exact ih (j := j) (by unfold bangs; omega)
    · rw [List.takeWhile_cons_of_neg (by simpa using e)] at h
      exact absurd h (Nat.not_lt_zero _)
theorem bangs_ge {r : List Wd} : hd (r.drop (bangs r)) ≠ [33] := by
  induction r with
  | nil => intro h; cases h
  | cons x r ih =>
    unfold bangs
    by_cases e : x = [33]
    · rw [List.takeWhile_cons_of_pos (by simpa using e), List.length_cons, List.drop_succ_cons]
      exact ih
    · rw [List.takeWhile_cons_of_neg (by simpa using e)]
      exact e
theorem bangs_le (r : List Wd) : bangs r ≤ r.length := (List.takeWhile_sublist _).length_le
section
variable {P : Program} {w : World} {K : PySem.W.Frag} {mg : Str → Option Value} {base : Heap} {f : Addr} {fd : FuncData} {R C : Addr} {X : Bool → List Wd → Res → Prop}
abbrev sRecT : Stmt := top 28
theorem scRecT : FnScope ["reader", "fields", "names", "field", "name"] ["reader"] (defScope sRecT) := ⟨rfl, rfl, rfl, by decide +kernel, rfl, by decide +kernel, by decide +kernel⟩
theorem field_name {r r2 : List Wd} {x : Wd × Tn × Bool} (h : FieldP X r (some (x, r2))) : x.1 = hd r := by
  unfold FieldP at h
  split at h
  · split at h
    · split at h
      · obtain ⟨xres, _, e⟩ := h
        cases xres with
        | none => cases e
        | some p => cases e; rfl
      · cases h
    · split at h
      · obtain ⟨xres, _, e⟩ := h
        cases xres with
        | none => cases e
        | some p => cases e; rfl
      · cases h
  · cases h
theorem valF.tv {H : Hp} {x : Wd × Tn × Bool} {v : V} (h : valF K H x v) : TV K H (fldT x) v := by
  obtain ⟨a, u, rfl, h1, h2⟩ := h
  exact TV.tup h1 (TAll.cons TV.str (TAll.cons h2 (TAll.one TV.bl)))
theorem ok_rect {k : Nat} (F : Fun K "record_tree" "record_tree" sRecT f fd) (n : NT K mg C) (FI : Cal1 P w K mg base k "field_of" ["reader"] (sp1 (valF K) R C (FieldP X))) (HAS : Cal1 P w K mg base 4 "has_another" ["reader", "close", "count"] (spHas R C)) (ENDT : Cal1 P w K mg base 4 "takes_end" ["reader", "close"] (spEndT R C)) (m1 : mg "len" = none) (m2 : mg "tuple" = none) (hk : 4 ≤ k) :
    FnOk P w K mg base (CX1 P w) (k + 1) f fd ["reader"] (sp1 (valT K) R C (RecP X)) := by
  refine Fun.ok1 F scRecT (fun vs H Q E h => ?_) (fun cdv A outer s H vs Q E hr h => ?_)
  · obtain ⟨rd, dx, wl, ws, t, res, rfl, _⟩ := h
    rfl
  obtain ⟨rd, dx, wl, ws, t, res, rfl, h, ht, hp, q⟩ := h
  have hr4 := hr.mono hk
  refine ⟨_, pss_cons (ps_set (i := 1) scRecT.nd rfl (Or.inl rfl) (pe_lst pa_nil))
    (pss_cons (ps_set (i := 2) scRecT.nd rfl (Or.inl rfl) pe_dnewK)
    (pss_cons (ps_while PassesOwn.leaving (pt_val (pe_cal1 HAS hr4 rfl (passes1 (E' := E) fun _ _ _ h => h) (pa_cons (pv 0) (pa_cons pe_str (pa_cons (pe_callB call_len_seq rfl m1 PySem.boot_len (pa_cons (pv 1) pa_nil)) pa_nil)))))
      (pss_cons (ps_set (i := 3) scRecT.nd rfl (Or.inl rfl) (pe_cal1 FI hr rfl (passes1 (E' := E) fun _ _ _ h => h) (pa_cons (pv 0) pa_nil)))
      (pss_cons (ps_set (i := 4) scRecT.nd rfl (Or.inl rfl) (pe_ix ix_tup (pv 3) pe_int (fun _ _ => rfl)))
      (pss_cons (ps_if (pt_cmp (pc_din (hu_of hr) (pv 4) (pv 2))) (pss_one (ps_raise PySem.F.excBase_ValueError n.xc rfl n.mg (pa_cons (pe_join (pj_fr (pv 4) (pj_con pj_nil))) pa_nil))) pss_nil)
      (pss_cons (ps_dput (hu_of hr) (pv 2) (pv 4) pe_bl rfl)
      (pss_one (ps_expr (pe_bm PySem.F.plainAttrs_list PySem.F.slot_list_append PySem.F.type_list_append mt_append (pv 1) (pa_cons (pv 3) pa_nil)))))))))
    (pss_one (ps_ret (pe_tup (pa_cons pe_str (pa_cons (pe_callTy call_tuple_of rfl m2 bt_tuple (pa_cons (pv 1) pa_nil)) (pa_cons (pe_cal1 ENDT hr4 rfl (passes1 (E' := E) fun _ _ _ h => h) (pa_cons (pv 0) (pa_cons pe_str pa_nil))) pa_nil)))))))), ?_⟩
  obtain ⟨k0, fres, hi, rfl⟩ := hp
  have S0 := RS.start h
  have wl0 := h.ok.len
  refine ⟨len0, fun l hl => fun dn hdn => ?_⟩
  have S1 := S0.put (o := .lst []) hl
  have hdn0 : H dn = none := new_none S1 hdn
  have nld : l ≠ dn := fun e => by rw [← e, upd_same] at hdn; cases hdn
  have S2 := S1.put (o := .dK []) hdn0
  refine ⟨fun m σ H' => ∃ (fs : List (Wd × Tn × Bool)) (vs : List V) (kvs : List (Key × V)) (t' : Nat) (b3 b4 : Option V), σ = [some (.ref rd), some (.ref l), some (.ref dn), b3, b4] ∧ RS H H' R rd dx wl ws t' ∧ H' l = some (.lst vs) ∧ TAll K H' (fs.map fldT) vs ∧
      (H' dn = some (.dK kvs) ∧ kvs.length ≤ fs.length ∧ ∀ u : Wd, (valV kvs (.inr (S u))).isSome = true ↔ u ∈ fs.map (·.1)) ∧ FieldsP X m fs (ws.drop t') fres ∧ fs.length ≤ t' ∧ t ≤ t' ∧ t' ≤ ws.length,
    ⟨k0, [], [], [], t, none, none, rfl, S2, by rw [upd_ne nld]; exact upd_same, TAll.nil, ⟨upd_same, Nat.le_refl _, fun u => ⟨fun z => (by cases z), fun z => (by cases z)⟩⟩, hi, Nat.zero_le _, Nat.le_refl _, ht⟩, ?_⟩
  rintro m σ H' ⟨fs, us, kvs, t', b3, b4, rfl, s', hl', hts, ⟨hdn', hkl, hkv⟩, hip, hlen, h1, h2⟩
  have nl : l ≠ rd := s'.none hl hl'
  have nd : dn ≠ rd := s'.none hdn0 hdn'
  have hul := hts.length
  rw [List.length_map] at hul
  refine ⟨_, rfl, _, rfl, l, _, rfl, .inl (SqL.of hl'), rd, dx, wl, ws, t', [125], fs.length, by rw [lRc, hul]; rfl, s'.st, h2, by simp, ?_⟩
  generalize hdr : ws.drop t' = rr at hip ⊢
  have turn : ∀ {r1 : List Wd} {x : Wd × Tn × Bool} {r2 : List Wd} {H2 : Hp} {t2 : Nat}, FieldP X r1 (some (x, r2)) → ws.drop t2 = r1 → Small x.1 := fun {r1 x r2 H2 t2} hx e2 => by
    rw [field_name hx, ← e2]
    exact h.ok.small t2
  cases hip with
  | @stop _ _ r1 hh =>
    rw [hh]
    intro H2 t2 g2 d2 e2 le2 lt2
    refine ⟨_, rfl, iteF ?_⟩
    have s2 := s'.more g2 d2
    have hl2 := g2 _ _ nl hl'
    have hts2 := hts.kp (Kp.grow g2 s'.st)
    refine ⟨_, rfl, l, _, rfl, .inl ⟨SqL.of hl2, fun p hp => ?_⟩⟩
    have kp := same_new hp (.tup us)
    have s3 := s2.same kp
    refine ⟨_, rfl, rd, dx, wl, ws, t2, [125], by rw [lRc]; rfl, s3.st, by simp, small1 125 (by decide), ?_⟩
    rw [e2]
    dsimp only at q
    cases he : endF [125] r1 with
    | none =>
      rw [he] at q
      intro H4 g4
      exact q H4 (s3.g.trans g4)
    | some br =>
      obtain ⟨b, r2⟩ := br
      rw [he] at q
      intro H4 t4 g4 d4 e4 le4 lt4
      have s4 := s3.more g4 d4
      have np : p ≠ rd := fun e => by rw [e, s2.st.ob] at hp; cases hp
      refine ⟨len3, fun p2 hp2 => ?_⟩
      have kp2 := same_new hp2 (.tup [.str (Str.ofString "record"), .ref p, .bl b])
      have s5 := s4.same kp2
      refine q _ _ t4 s5.g s5.st e4 (by omega) lt4 ?_
      have k5 : Kp K H2 _ := (Kp.same kp).trans ((Kp.grow g4 s3.st).trans (Kp.same kp2))
      have hp4 := kp2 _ _ (g4 p _ np upd_same)
      refine TV.tup (SqT.of (by rw [upd_same, lRec])) (TAll.cons TV.str (TAll.cons (TV.tup (SqT.of hp4) (hts2.kp k5)) (TAll.one TV.bl)))
  | @on k' _ _ r1 x r2 _ hh hx hnx hk2 =>
    rw [hh]
    intro H2 t2 g2 d2 e2 le2 lt2
    refine ⟨_, rfl, iteT ?_⟩
    have s2 := s'.more g2 d2
    have hl2 := g2 _ _ nl hl'
    have hdn2 := g2 _ _ nd hdn'
    have hts2 := hts.kp (Kp.grow g2 s'.st)
    refine ⟨fun σ' H'' => ∃ (vs : List V) (kvs : List (Key × V)) (t'' : Nat) (b3 b4 : Option V), σ' = [some (.ref rd), some (.ref l), some (.ref dn), b3, b4] ∧ RS H H'' R rd dx wl ws t'' ∧ H'' l = some (.lst vs) ∧ TAll K H'' ((fs ++ [x]).map fldT) vs ∧
      (H'' dn = some (.dK kvs) ∧ kvs.length ≤ (fs ++ [x]).length ∧ ∀ u : Wd, (valV kvs (.inr (S u))).isSome = true ↔ u ∈ (fs ++ [x]).map (·.1)) ∧ FieldsP X k' (fs ++ [x]) (ws.drop t'') fres ∧ (fs ++ [x]).length ≤ t'' ∧ t ≤ t'' ∧ t'' ≤ ws.length, fun σ' H'' hh => ?_, ?_⟩
    · obtain ⟨vs, kvs, t'', b3, b4, a⟩ := hh
      exact ⟨k', Nat.lt_succ_self _, fs ++ [x], vs, kvs, t'', b3, b4, a⟩
    refine ⟨_, rfl, rd, dx, wl, ws, t2, _, rfl, s2.st, lt2, by rw [e2]; exact hx, ?_⟩
    intro v H3 t3 g3 d3 e3 lt3 le3 hv
    have s3 := s2.more g3 d3
    have hl3 := g3 _ _ nl hl2
    have hdn3 := g3 _ _ nd hdn2
    have hts3 := hts2.kp (Kp.grow g3 s2.st)
    have hv' := hv
    obtain ⟨a, u, rfl, ha, hu⟩ := hv'
    refine ⟨_, rfl, a, _, _, .str (S x.1), rfl, rfl, ha, rfl, ?_⟩
    have hno : (valV kvs (.inr (S x.1))).isSome = false := Bool.eq_false_iff.mpr fun z => hnx ((hkv x.1).mp z)
    refine ⟨_, rfl, _, rfl, dn, _, rfl, DGet.k (k := .inr (S x.1)) hdn3, _, rfl, ?_⟩
    rw [hno]
    refine iteF ⟨_, rfl, _, rfl, dn, _, rfl, DPut.k (k := .inr (S x.1)) hdn3 (sz5 (by omega)), ?_⟩
    have kd : Kp K H3 (upd H3 dn (.dK (putK kvs (.inr (S x.1)) (.bl true)))) := Kp.dct hdn3
    have s4 := s3.put (o := .dK (putK kvs (.inr (S x.1)) (.bl true))) hdn0
    have hl4 : upd H3 dn (.dK (putK kvs (.inr (S x.1)) (.bl true))) l = some (.lst us) := by rw [upd_ne nld]; exact hl3
    refine ⟨_, rfl, .inl ⟨rfl, _, SqL.of hl4⟩, _, rfl, l, _, _, rfl, rfl, hl4, sz5 (by omega), ?_⟩
    have kl := Kp.lst (K := K) (o := .lst (us ++ [.ref a])) hl4
    refine ⟨_, _, t3, _, _, rfl, s4.put hl, upd_same, ?_, ⟨by rw [upd_ne (Ne.symm nld)]; exact upd_same, ?_, fun u => ?_⟩, by rw [e3]; exact hk2, by rw [List.length_append, List.length_singleton]; omega, by omega, le3⟩
    · rw [List.map_append]
      exact (hts3.kp (kd.trans kl)).append (TAll.one (TV.kp (kd.trans kl) hv.tv))
    · have := length_putK kvs (.inr (S x.1)) (.bl true)
      rw [List.length_append, List.length_singleton]; omega
    · rw [valV_put, List.map_append, List.mem_append]
      by_cases e : u = x.1
      · subst e; simp
      · rw [if_neg (fun z => e (S_inj' (Sum.inr.inj z))), hkv u]
        simp [e]
  | @bad _ _ hh =>
    rw [hh]
    intro H2 g2
    exact q H2 (s'.g.trans g2)
  | @worse _ _ r1 hh hx =>
    rw [hh]
    intro H2 t2 g2 d2 e2 le2 lt2
    refine ⟨_, rfl, iteT ?_⟩
    have s2 := s'.more g2 d2
    refine ⟨fun _ _ => False, fun _ _ z => z.elim, ?_⟩
    refine ⟨_, rfl, rd, dx, wl, ws, t2, _, rfl, s2.st, lt2, by rw [e2]; exact hx, ?_⟩
    intro H3 g3
    exact q H3 (s2.g.trans g3)
  | @twice _ _ r1 x r2 hh hx hnx =>
    rw [hh]
    intro H2 t2 g2 d2 e2 le2 lt2
    refine ⟨_, rfl, iteT ?_⟩
    have s2 := s'.more g2 d2
    have hdn2 := g2 _ _ nd hdn'
    refine ⟨fun _ _ => False, fun _ _ z => z.elim, ?_⟩
    refine ⟨_, rfl, rd, dx, wl, ws, t2, _, rfl, s2.st, lt2, by rw [e2]; exact hx, ?_⟩
    intro v H3 t3 g3 d3 e3 lt3 le3 hv
    have s3 := s2.more g3 d3
    have hdn3 := g3 _ _ nd hdn2
    obtain ⟨a, u, rfl, ha, hu⟩ := hv
    have hsm := turn (H2 := H2) hx e2
    refine ⟨_, rfl, a, _, _, .str (S x.1), rfl, rfl, ha, rfl, ?_⟩
    refine ⟨_, rfl, _, rfl, dn, _, rfl, DGet.k (k := .inr (S x.1)) hdn3, _, rfl, ?_⟩
    rw [(hkv x.1).mpr hnx]
    exact iteT ⟨_, rfl, _, rfl, by rw [S_len]; exact hsm.1, hsm.2, fun r => ⟨len1, q _ s3.g⟩⟩
end
end Law


set_option Elab.async false
set_option linter.all false
set_option maxRecDepth 100000
set_option maxHeartbeats 4000000
namespace Law
open PySem L2 L2.Sp
section
variable {P : Program} {w : World} {K : PySem.W.Frag} {mg : Str → Option Value} {base : Heap} {f : Addr} {fd : FuncData} {R C : Addr} {X : Bool → List Wd → Res → Prop}
abbrev sNegd : Stmt := top 23
theorem scNegd : FnScope ["reader", "free", "times", "tree", "turn"] ["reader", "free"] (defScope sNegd) := ⟨rfl, rfl, rfl, by decide +kernel, rfl, by decide +kernel, by decide +kernel⟩
theorem ok_negd {k : Nat} (F : Fun K "negated" "negated" sNegd f fd) (c : RK K R) (SG : Cal1 P w K mg base k "single" ["reader", "free"] (spX K R C (SglP X))) (TS : Mth P w K mg base CX0 R 2 "takes" ["self", "word"] (spTakes R)) (m1 : mg "range" = none) (hk : 4 ≤ k) :
    FnOk P w K mg base (CX1 P w) (k + 1) f fd ["reader", "free"] (spX K R C (NegP X)) := by
  refine Fun.ok1 F scNegd (fun vs H Q E h => ?_) (fun cdv A outer s H vs Q E hr h => ?_)
  · obtain ⟨rd, dx, wl, ws, t, free, res, rfl, _⟩ := h
    rfl
  obtain ⟨rd, dx, wl, ws, t, free, res, rfl, h, hp, q⟩ := h
  have hr2 := hr.mono (show 2 ≤ k by omega)
  refine ⟨_, pss_cons (ps_set (i := 2) scNegd.nd rfl (Or.inl rfl) pe_int)
    (pss_cons (ps_while PassesOwn.leaving (pt_val (pe_mth TS c hr2 pass0 (pv 0) (pa_cons pe_str pa_nil))) (pss_one (ps_aug (i := 2) scNegd.nd rfl (Or.inl rfl) pe_int ip_add)))
    (pss_cons (ps_set (i := 3) scNegd.nd rfl (Or.inl rfl) (pe_cal1 SG hr rfl (passes1 (E' := E) fun _ _ _ h => h) (pa_cons (pv 0) (pa_cons (pe_and (pv 1) (pe_one (pe_cmpR op_eq (pv 2) pe_int (nomark _)))) pa_nil))))
    (pss_cons (ps_for PassesOwn.leaving rfl (pi_range1 rfl m1 (pa_cons (pv 2) pa_nil)) (pg_name (i := 4) scNegd.nd rfl (Or.inl rfl)) (pss_one (ps_set (i := 3) scNegd.nd rfl (Or.inl rfl) (pe_tup (pa_cons pe_str (pa_cons (pv 3) pa_nil))))))
    (pss_one (ps_ret (pv 3)))))), ?_⟩
  obtain ⟨sres, hs, rfl⟩ := hp
  have S0 := RS.start h
  have wl0 := h.ok.len
  have hbl := bangs_le (ws.drop t)
  rw [List.length_drop] at hbl
  generalize hb : bangs (ws.drop t) = n at hs q hbl
  refine ⟨fun m σ H' => ∃ (j : Nat), σ = [some (.ref rd), some (.bl free), some (.int (j : Int)), none, none] ∧ RS H H' R rd dx wl ws (t + j) ∧ j ≤ n ∧ m = n - j, ⟨n, 0, rfl, S0, Nat.zero_le _, rfl⟩, ?_⟩
  rintro m σ H' ⟨j, rfl, s', hj, rfl⟩
  refine ⟨_, rfl, rd, dx, _, rfl, s'.st.ob, rfl, rd, dx, wl, ws, t + j, [33], by rw [lNot1]; rfl, s'.st, ?_⟩
  by_cases e : j < n
  · have e1 : hd (ws.drop (t + j)) = [33] := by rw [← List.drop_drop]; exact bangs_lt (by rw [hb]; exact e)
    refine iteP e1 ⟨_, rfl, iteT ?_⟩
    refine ⟨fun σ' H'' => σ' = [some (.ref rd), some (.bl free), some (.int ((j + 1 : Nat) : Int)), none, none] ∧ RS H H'' R rd dx wl ws (t + (j + 1)), fun σ' H'' hh => ⟨n - (j + 1), by omega, j + 1, hh.1, hh.2, e, rfl⟩, ?_⟩
    exact ⟨_, rfl, _, _, rfl, rfl, rfl, s'.up (t + j + 1)⟩
  · have e0 : j = n := by omega
    subst e0
    have e1 : hd (ws.drop (t + j)) ≠ [33] := by rw [← List.drop_drop, ← hb]; exact bangs_ge
    refine iteN e1 ⟨_, rfl, iteF ?_⟩
    have e2 : ws.drop (t + j) = (ws.drop t).drop j := by rw [List.drop_drop]
    have arg : ∀ {Q' : V → Hp → Prop}, Q' (.bl (free && decide (j = 0))) H' → tAndV (tVar 1) (tOp rEq (tVar 2) (tC (.int 0))) [some (.ref rd), some (.bl free), some (.int (j : Int)), none, none] H' Q' := fun {Q'} hq => by
      refine ⟨_, rfl, free, rfl, ?_⟩
      cases free with
      | false => exact iteF hq
      | true =>
        refine iteT ⟨_, rfl, rfl, ?_⟩
        have : decide (V.int (j : Int) = V.int 0) = decide (j = 0) := by
          rw [Bool.eq_iff_iff, decide_eq_true_iff, decide_eq_true_iff]
          constructor
          · intro z; have := V.int.inj z; omega
          · intro z; rw [z]; rfl
        rw [this]
        exact hq
    refine ⟨_, rfl, arg ?_⟩
    refine ⟨rd, dx, wl, ws, t + j, _, sres, rfl, s'.st, by rw [e2]; exact hs, ?_⟩
    cases sres with
    | none =>
      intro H3 g3
      exact q H3 (s'.g.trans g3)
    | some p =>
      obtain ⟨x, r⟩ := p
      intro v H3 t3 g3 d3 e3 lt3 le3 hv
      have s3 := s'.more g3 d3
      refine ⟨_, rfl, (j : Int), rfl, by omega, by omega, ?_⟩
      refine for_range (fun i σ H4 => ∃ (u : V) (b4 : Option V), σ = [some (.ref rd), some (.bl free), some (.int (j : Int)), some u, b4] ∧ RS H H4 R rd dx wl ws t3 ∧ TV K H4 (nots i x) u) ⟨v, none, rfl, s3, hv⟩ (fun i σ H4 hi hinv => ?_) (fun σ H4 hinv => ?_)
      · obtain ⟨u, b4, rfl, s4, hu⟩ := hinv
        refine ⟨_, rfl, len2, fun p hp => ?_⟩
        have kp := same_new hp (.tup [.str (Str.ofString "not"), u])
        refine ⟨.ref p, _, rfl, s4.same kp, ?_⟩
        exact TV.tup (SqT.of (by rw [upd_same, lkNot])) (TAll.cons TV.str (TAll.one (TV.kp (Kp.same kp) hu)))
      · obtain ⟨u, b4, rfl, s4, hu⟩ := hinv
        exact ⟨_, rfl, q _ _ t3 s4.g s4.st e3 (by omega) le3 hu⟩
abbrev sExpr : Stmt := top 21
theorem scExpr : FnScope ["reader", "free", "alternatives", "parts"] ["reader", "free"] (defScope sExpr) := ⟨rfl, rfl, rfl, by decide +kernel, rfl, by decide +kernel, by decide +kernel⟩
theorem in2 {r : Wd} : inV (.str (S r)) [.str (S [38]), .str (S [124])] = (decide (r = [38]) || decide (r = [124])) := by
  have := inV_ST r [[38], [124]]
  rw [show ST [[38], [124]] = [.str (S [38]), .str (S [124])] from rfl] at this
  rw [this, Bool.eq_iff_iff, decide_eq_true_iff, Bool.or_eq_true, decide_eq_true_iff, decide_eq_true_iff]
  simp
theorem ok_expr {k : Nat} (F : Fun K "expression" "expression" sExpr f fd) (c : RK K R) (NG : Cal1 P w K mg base k "negated" ["reader", "free"] (spX K R C (NegP X))) (AH : Mth P w K mg base CX0 R 1 "ahead" ["self", "steps"] (spAhead R)) (TK : Mth P w K mg base CX0 R 2 "take" ["self"] (spTake R)) (ON : Cal P w K mg base 1 "one_or_several" ["word", "trees"] (spOne K)) (hk : 4 ≤ k) :
    FnOk P w K mg base (CX1 P w) (k + 1) f fd ["reader", "free"] (spX K R C (ExpP X)) := by
  refine Fun.ok1 F scExpr (fun vs H Q E h => ?_) (fun cdv A outer s H vs Q E hr h => ?_)
  · obtain ⟨rd, dx, wl, ws, t, free, res, rfl, _⟩ := h
    rfl
  obtain ⟨rd, dx, wl, ws, t, free, res, rfl, h, hp, q⟩ := h
  have hr2 := hr.mono (show 2 ≤ k by omega)
  have hr1 := hr.mono (show 1 ≤ k by omega)
  refine ⟨_, pss_cons (ps_set (i := 2) scExpr.nd rfl (Or.inl rfl) (pe_lst pa_nil))
    (pss_cons (ps_set (i := 3) scExpr.nd rfl (Or.inl rfl) (pe_lst (pa_cons (pe_cal1 NG hr rfl (passes1 (E' := E) fun _ _ _ h => h) (pa_cons (pv 0) (pa_cons (pv 1) pa_nil))) pa_nil)))
    (pss_cons (ps_while PassesOwn.leaving (pt_cmpR op_in_seq (pe_mth AH c hr1 pass0 (pv 0) (pa_cons pe_int pa_nil)) (pe_tup (pa_cons pe_str (pa_cons pe_str pa_nil))) rfl)
      (pss_cut (ps_if (pt_cmpR op_eq (pe_mth0 TK c hr2 pass0 (pv 0)) pe_str (nomark _))
          (pss_cons (ps_expr (pe_bm PySem.F.plainAttrs_list PySem.F.slot_list_append PySem.F.type_list_append mt_append (pv 2) (pa_cons (pe_cal ON hr1 rfl (pa_cons pe_str (pa_cons (pv 3) pa_nil))) pa_nil)))
          (pss_one (ps_set (i := 3) scExpr.nd rfl (Or.inl rfl) (pe_lst pa_nil)))) pss_nil)
      (pss_one (ps_expr (pe_bm PySem.F.plainAttrs_list PySem.F.slot_list_append PySem.F.type_list_append mt_append (pv 3) (pa_cons (pe_cal1 NG hr rfl (passes1 (E' := E) fun _ _ _ h => h) (pa_cons (pv 0) (pa_cons (pv 1) pa_nil))) pa_nil))))))
    (pss_cons (ps_expr (pe_bm PySem.F.plainAttrs_list PySem.F.slot_list_append PySem.F.type_list_append mt_append (pv 2) (pa_cons (pe_cal ON hr1 rfl (pa_cons pe_str (pa_cons (pv 3) pa_nil))) pa_nil)))
    (pss_one (ps_ret (pe_cal ON hr1 rfl (pa_cons pe_str (pa_cons (pv 2) pa_nil)))))))), ?_⟩
  obtain ⟨nres, hn, hm⟩ := hp
  have S0 := RS.start h
  have wl0 := h.ok.len
  refine ⟨len0, fun la hla => ?_⟩
  have S1 := S0.put (o := .lst []) hla
  refine ⟨_, rfl, _, rfl, rd, dx, wl, ws, t, free, nres, rfl, S1.st, hn, ?_⟩
  cases nres with
  | none =>
    subst hm
    intro H2 g2
    exact q H2 (S1.g.trans g2)
  | some p =>
    obtain ⟨x0, r0⟩ := p
    obtain ⟨k0, hm⟩ := hm
    intro v0 H2 t2 g2 d2 e2 lt2 le2 hv0
    have S2 := S1.more g2 d2
    have nla : la ≠ rd := S1.none hla upd_same
    have hla2 := g2 _ _ nla upd_same
    refine ⟨len1, fun lp hlp => ?_⟩
    have hlp0 := new_none S2 hlp
    have nap : la ≠ lp := fun e => by rw [← e, hla2] at hlp; cases hlp
    have kp0 := same_new hlp (.lst [v0])
    -- the loop
    refine ⟨fun m σ H' => ∃ (alts parts : List Tn) (us vs : List V) (lp : Addr) (t' : Nat), σ = [some (.ref rd), some (.bl free), some (.ref la), some (.ref lp)] ∧ H lp = none ∧ la ≠ lp ∧ RS H H' R rd dx wl ws t' ∧ H' la = some (.lst us) ∧ H' lp = some (.lst vs) ∧ TAll K H' alts us ∧ TAll K H' parts vs ∧ MoreP X m free alts parts (ws.drop t') res ∧ alts.length + parts.length ≤ t' ∧ t < t' ∧ t' ≤ ws.length,
      ⟨k0, [], [x0], [], [v0], lp, t2, rfl, hlp0, nap, S2.same kp0, kp0 _ _ hla2, upd_same, TAll.nil, TAll.one (TV.kp (Kp.same kp0) hv0), by rw [e2]; exact hm, (by show 0 + 1 ≤ t2; omega), lt2, le2⟩, ?_⟩
    rintro m σ H' ⟨alts, parts, us, vs, lp, t', rfl, hlp0, nap, s', ha, hb, hta, htp, hmm, hlen, h1, h2⟩
    have na : la ≠ rd := s'.none hla ha
    have nb : lp ≠ rd := s'.none hlp0 hb
    have hul := hta.length
    have hvl := htp.length
    refine ⟨_, rfl, rd, dx, _, rfl, s'.st.ob, rfl, rd, dx, wl, ws, t', 0, rfl, s'.st, len2, fun pt hpt => ?_⟩
    have kt := same_new hpt (.tup [.str (Str.ofString "&"), .str (Str.ofString "|")])
    refine ⟨pt, _, rfl, .inr (SqT.of upd_same), rfl, rfl, _, rfl, ?_⟩
    rw [at0, lAmp, lBar]
    show if inV (.str (S (hd (ws.drop t')))) [.str (S [38]), .str (S [124])] = true then _ else _
    rw [in2]
    rw [lAmp, lBar] at kt
    have st := s'.same kt
    have ha1 := kt _ _ ha
    have hb1 := kt _ _ hb
    have hta1 := hta.kp (Kp.same kt)
    have htp1 := htp.kp (Kp.same kt)
    generalize upd H' pt (.tup [.str (S [38]), .str (S [124])]) = H3 at kt st ha1 hb1 hta1 htp1 ⊢
    generalize hdr : ws.drop t' = rr at hmm ⊢
    cases hmm with
    | stop e38 e124 =>
      rw [decide_eq_false e38, decide_eq_false e124]
      refine iteF ?_
      refine ⟨_, rfl, .inl ⟨rfl, _, SqL.of ha1⟩, _, rfl, kAnd, lp, vs, parts, by rw [lkAnd]; rfl, hb1, htp1, fun v H4 g4 hv => ?_⟩
      have s4 := st.same g4
      have ha4 := g4 _ _ ha1
      have hta4 := hta1.kp (Kp.same g4)
      refine ⟨la, _, _, rfl, rfl, ha4, sz5 (by omega), ?_⟩
      have kl := Kp.lst (K := K) (o := .lst (us ++ [v])) ha4
      have s5 := s4.put (o := .lst (us ++ [v])) hla
      refine ⟨_, rfl, kOr, la, us ++ [v], alts ++ [one kAnd parts], by rw [lkOr]; rfl, upd_same, (hta4.kp kl).append (TAll.one (TV.kp kl hv)), fun v' H6 g6 hv' => ?_⟩
      exact q _ _ t' (s5.same g6).g (s5.same g6).st hdr h1 h2 hv'
    | @and k' _ _ _ r x r1 _ hng hk2 =>
      obtain ⟨dd1, dd2⟩ := dropS hdr
      refine iteT ?_
      refine ⟨fun σ' H'' => ∃ (alts parts : List Tn) (us vs : List V) (lp : Addr) (t'' : Nat), σ' = [some (.ref rd), some (.bl free), some (.ref la), some (.ref lp)] ∧ H lp = none ∧ la ≠ lp ∧ RS H H'' R rd dx wl ws t'' ∧ H'' la = some (.lst us) ∧ H'' lp = some (.lst vs) ∧ TAll K H'' alts us ∧ TAll K H'' parts vs ∧ MoreP X k' free alts parts (ws.drop t'') res ∧ alts.length + parts.length ≤ t'' ∧ t < t'' ∧ t'' ≤ ws.length, fun σ' H'' hh => ⟨k', Nat.lt_succ_self _, hh⟩, ?_⟩
      refine ⟨fun σ' H'' => σ' = [some (.ref rd), some (.bl free), some (.ref la), some (.ref lp)] ∧ H'' = rdU H3 R rd dx wl (t' + 1), ?_, ?_⟩
      · refine ⟨_, rfl, rd, dx, _, rfl, st.st.ob, rfl, rd, dx, wl, ws, t', rfl, st.st, rfl, _, rfl, ?_⟩
        rw [dec_S, hdr]
        exact iteF ⟨rfl, rfl⟩
      rintro σ1 H1 ⟨rfl, rfl⟩
      have s4 := st.up (t' + 1)
      have ha4 : rdU H3 R rd dx wl (t' + 1) la = some (.lst us) := by unfold rdU; rw [upd_ne na]; exact ha1
      have hb4 : rdU H3 R rd dx wl (t' + 1) lp = some (.lst vs) := by unfold rdU; rw [upd_ne nb]; exact hb1
      have ku := kp_up (K := K) (t' := t' + 1) st.st
      refine ⟨_, rfl, .inl ⟨rfl, _, SqL.of hb4⟩, _, rfl, _, rfl, rd, dx, wl, ws, t' + 1, free, _, rfl, s4.st, by rw [dd1]; exact hng, ?_⟩
      intro v H5 t5 g5 d5 e5 lt5 le5 hv
      have s5 := s4.more g5 d5
      have ha5 := g5 _ _ na ha4
      have hb5 := g5 _ _ nb hb4
      have k5 := ku.trans (Kp.grow g5 s4.st)
      have kl := Kp.lst (K := K) (o := .lst (vs ++ [v])) hb5
      refine ⟨lp, _, _, rfl, rfl, hb5, sz5 (by omega), alts, parts ++ [x], us, vs ++ [v], lp, t5, rfl, hlp0, nap, s5.put hlp0, by rw [upd_ne nap]; exact ha5, upd_same, hta1.kp (k5.trans kl), (htp1.kp (k5.trans kl)).append (TAll.one (TV.kp kl hv)), by rw [e5]; exact hk2, by rw [List.length_append, List.length_singleton]; omega, by omega, le5⟩
    | @or k' _ _ _ r x r1 _ hng hk2 =>
      obtain ⟨dd1, dd2⟩ := dropS hdr
      refine iteT ?_
      refine ⟨fun σ' H'' => ∃ (alts parts : List Tn) (us vs : List V) (lp : Addr) (t'' : Nat), σ' = [some (.ref rd), some (.bl free), some (.ref la), some (.ref lp)] ∧ H lp = none ∧ la ≠ lp ∧ RS H H'' R rd dx wl ws t'' ∧ H'' la = some (.lst us) ∧ H'' lp = some (.lst vs) ∧ TAll K H'' alts us ∧ TAll K H'' parts vs ∧ MoreP X k' free alts parts (ws.drop t'') res ∧ alts.length + parts.length ≤ t'' ∧ t < t'' ∧ t'' ≤ ws.length, fun σ' H'' hh => ⟨k', Nat.lt_succ_self _, hh⟩, ?_⟩
      refine ⟨fun σ' H'' => ∃ (v : V) (lq : Addr), σ' = [some (.ref rd), some (.bl free), some (.ref la), some (.ref lq)] ∧ H lq = none ∧ la ≠ lq ∧ RS H H'' R rd dx wl ws (t' + 1) ∧ H'' la = some (.lst (us ++ [v])) ∧ H'' lq = some (.lst []) ∧ TAll K H'' (alts ++ [one kAnd parts]) (us ++ [v]), ?_, ?_⟩
      · refine ⟨_, rfl, rd, dx, _, rfl, st.st.ob, rfl, rd, dx, wl, ws, t', rfl, st.st, rfl, _, rfl, ?_⟩
        rw [dec_S, hdr]
        refine iteT ?_
        have s4 := st.up (t' + 1)
        have ha4 : rdU H3 R rd dx wl (t' + 1) la = some (.lst us) := by unfold rdU; rw [upd_ne na]; exact ha1
        have hb4 : rdU H3 R rd dx wl (t' + 1) lp = some (.lst vs) := by unfold rdU; rw [upd_ne nb]; exact hb1
        have ku := kp_up (K := K) (t' := t' + 1) st.st
        refine ⟨_, rfl, .inl ⟨rfl, _, SqL.of ha4⟩, _, rfl, kAnd, lp, vs, parts, by rw [lkAnd]; rfl, hb4, htp1.kp ku, fun v H5 g5 hv => ?_⟩
        have s5 := s4.same g5
        have ha5 := g5 _ _ ha4
        have kl := Kp.lst (K := K) (o := .lst (us ++ [v])) ha5
        have s6 := s5.put (o := .lst (us ++ [v])) hla
        refine ⟨la, _, _, rfl, rfl, ha5, sz5 (by omega), len0, fun lq hlq => ?_⟩
        have kq := same_new hlq (.lst [])
        have hlq0 := new_none s6 hlq
        refine ⟨v, lq, rfl, hlq0, fun e => ?_, s6.same kq, kq _ _ upd_same, upd_same, ?_⟩
        · rw [← e, upd_same] at hlq; cases hlq
        · have kk := kl.trans (Kp.same kq)
          exact (hta1.kp ((ku.trans (Kp.same g5)).trans kk)).append (TAll.one (TV.kp kk hv))
      rintro σ1 H1 ⟨v1, lq, rfl, hlq0, naq, s4, ha4, hq4, hta4⟩
      have nq : lq ≠ rd := s4.none hlq0 hq4
      refine ⟨_, rfl, .inl ⟨rfl, _, SqL.of hq4⟩, _, rfl, _, rfl, rd, dx, wl, ws, t' + 1, free, _, rfl, s4.st, by rw [dd1]; exact hng, ?_⟩
      intro v H5 t5 g5 d5 e5 lt5 le5 hv
      have s5 := s4.more g5 d5
      have ha5 := g5 _ _ na ha4
      have hq5 := g5 _ _ nq hq4
      have k5 := Kp.grow (K := K) g5 s4.st
      have kl := Kp.lst (K := K) (o := .lst ([] ++ [v])) hq5
      refine ⟨lq, _, _, rfl, rfl, hq5, sz5 (by show 0 ≤ 200000; omega), alts ++ [one kAnd parts], [x], us ++ [v1], [] ++ [v], lq, t5, rfl, hlq0, naq, s5.put hlq0, by rw [upd_ne naq]; exact ha5, upd_same, hta4.kp (k5.trans kl), TAll.one (TV.kp kl hv), by rw [e5]; exact hk2, by rw [List.length_append, List.length_singleton, List.length_singleton]; omega, by omega, le5⟩
    | @bad _ _ _ w1 r hw hng =>
      obtain ⟨dd1, dd2⟩ := dropS hdr
      have hin : (decide (hd (w1 :: r) = [38]) || decide (hd (w1 :: r) = [124])) = true := by
        rcases hw with rfl | rfl <;> rfl
      rw [hin]
      refine iteT ?_
      refine ⟨fun _ _ => False, fun _ _ z => z.elim, ?_⟩
      refine ⟨fun σ' H'' => ∃ (lq : Addr) (xs : List V), σ' = [some (.ref rd), some (.bl free), some (.ref la), some (.ref lq)] ∧ RS H H'' R rd dx wl ws (t' + 1) ∧ H'' lq = some (.lst xs), ?_, ?_⟩
      · refine ⟨_, rfl, rd, dx, _, rfl, st.st.ob, rfl, rd, dx, wl, ws, t', rfl, st.st, rfl, _, rfl, ?_⟩
        have s4 := st.up (t' + 1)
        have ha4 : rdU H3 R rd dx wl (t' + 1) la = some (.lst us) := by unfold rdU; rw [upd_ne na]; exact ha1
        have hb4 : rdU H3 R rd dx wl (t' + 1) lp = some (.lst vs) := by unfold rdU; rw [upd_ne nb]; exact hb1
        have ku := kp_up (K := K) (t' := t' + 1) st.st
        refine ite2 (fun _ => ?_) (fun _ => ⟨lp, vs, rfl, s4, hb4⟩)
        refine ⟨_, rfl, .inl ⟨rfl, _, SqL.of ha4⟩, _, rfl, kAnd, lp, vs, parts, by rw [lkAnd]; rfl, hb4, htp1.kp ku, fun v H5 g5 hv => ?_⟩
        have s5 := s4.same g5
        have ha5 := g5 _ _ ha4
        have s6 := s5.put (o := .lst (us ++ [v])) hla
        refine ⟨la, _, _, rfl, rfl, ha5, sz5 (by omega), len0, fun lq hlq => ?_⟩
        exact ⟨lq, [], rfl, s6.same (same_new hlq _), upd_same⟩
      rintro σ1 H1 ⟨lq, xs, rfl, s4, hq4⟩
      refine ⟨_, rfl, .inl ⟨rfl, _, SqL.of hq4⟩, _, rfl, _, rfl, rd, dx, wl, ws, t' + 1, free, _, rfl, s4.st, by rw [dd1]; exact hng, ?_⟩
      intro H5 g5
      exact q H5 (s4.g.trans g5)
end
end Law


set_option Elab.async false
set_option linter.all false
set_option maxRecDepth 100000
set_option maxHeartbeats 4000000
namespace Law
open PySem L2 L2.Sp
theorem lLp : (Str.ofString "(" : Str) = S [40] := by decide +kernel
theorem lRp : (Str.ofString ")" : Str) = S [41] := by decide +kernel
theorem lLb : (Str.ofString "[" : Str) = S [91] := by decide +kernel
theorem lLc : (Str.ofString "{" : Str) = S [123] := by decide +kernel
theorem lAt : (Str.ofString "@" : Str) = S [64] := by decide +kernel
theorem lQuo : (Str.ofString "\"" : Str) = S [34] := by decide +kernel
theorem lPlace : (Str.ofString "place" : Str) = S kPlace := by decide +kernel
theorem lText : (Str.ofString "text" : Str) = S kText := by decide +kernel
theorem lWord : (Str.ofString "word" : Str) = S kWord := by decide +kernel
theorem slice_to1 (u : List Nat) : Txt.slice (S u) none (some 1) = S (u.take 1) := by
  cases u with
  | nil => decide +kernel
  | cons c r =>
    have e := beq_iff_eq.mp (PyProof.Rows.slice_closes_to (x := S (c :: r)) (j := 1) ⟨by decide, by show (1 : Int) ≤ ((c :: r).length : Int); rw [List.length_cons]; omega⟩)
    rw [e]
    rfl
theorem slice_in (u : List Nat) (h : 2 ≤ u.length) : Txt.slice (S u) (some 1) (some (-1)) = S (u.drop 1).dropLast := by
  have hl : (S u).length = u.length := S_len u
  have e0 := StrLaws.sliceText_neg_hi (S u) (some 1) (j := -1) (by decide) (by rw [hl]; omega)
  have e1 : Txt.slice (S u) (some 1) (some (-1)) = Txt.slice (S u) (some ((1 : Nat) : Int)) (some ((u.length - 1 : Nat) : Int)) := by
    show StrLaws.sliceText (S u) (some 1) (some (-1)) = StrLaws.sliceText (S u) _ _
    rw [e0, hl]
    congr 2
    omega
  rw [e1, slice_nat u (i := 1) (j := u.length - 1) (by omega) (by omega)]
  show S ((u.drop 1).take (u.length - 1 - 1)) = _
  rw [List.dropLast_eq_take, List.length_drop]
theorem tok_quo {u : Wd} (h : TokW u) (e : u.take 1 = [34]) : Quo u := by
  rcases h with h | h | h | rfl | h
  · obtain ⟨c, e1, hc⟩ := h.head
    cases u with
    | nil => cases e1
    | cons a r => cases e1; cases e; cases hc
  · obtain ⟨c, e1, hc⟩ := h.head
    cases u with
    | nil => cases e1
    | cons a r =>
      cases e1; cases e
      rcases hc with hc | hc <;> cases hc
  · exact h
  · cases e
  · obtain ⟨c, hc, rfl⟩ := h
    cases e
    exact absurd rfl (single_no 34 hc).2.2.2.1
section
variable {P : Program} {w : World} {K : PySem.W.Frag} {mg : Str → Option Value} {base : Heap} {f : Addr} {fd : FuncData} {R C : Addr} {X : Bool → List Wd → Res → Prop}
theorem PO.lift {α : Type} {val : Hp → α → V → Prop} {H H1 : Hp} {rd dx wl : Addr} {ws : List Wd} {t t1 : Nat} {res : Option (α × List Wd)} {Q : VK} {E : XK} (s : RS H H1 R rd dx wl ws t1) (ht : t ≤ t1) (q : PO C val H R rd dx wl ws t res Q E) : PO C val H1 R rd dx wl ws t1 res Q E := by
  cases res with
  | none => exact fun H' g => q H' (s.g.trans g)
  | some p => exact fun v H' t' g d e lt le hv => q v H' t' (s.g.trans g) d e (Nat.lt_of_le_of_lt ht lt) le hv
abbrev sSingle : Stmt := top 24
theorem scSingle : FnScope ["reader", "free", "word", "tree"] ["reader", "free"] (defScope sSingle) := ⟨rfl, rfl, rfl, by decide +kernel, rfl, by decide +kernel, by decide +kernel⟩
theorem ok_single {k : Nat} {gp : Addr} (F : Fun K "single" "single" sSingle f fd) (c : RK K R) (n : NT K mg C) (EX : Cal1 P w K mg base k "expression" ["reader", "free"] (spX K R C X)) (LT : Cal1 P w K mg base (k + 1) "list_tree" ["reader"] (sp1 (valT K) R C (ListP X))) (RT : Cal1 P w K mg base (k + 2) "record_tree" ["reader"] (sp1 (valT K) R C (RecP X)))
    (NS : Cal1 P w K mg base 4 "names_of" ["reader"] (spNamesOf K R C)) (NB : Cal P w K mg base 2 "is_number" ["word"] spIsNo) (SP : Cal P w K mg base 3 "span_tree" ["reader", "low"] (spSpanT K R)) (AH : Mth P w K mg base CX0 R 1 "ahead" ["self", "steps"] (spAhead R)) (TK : Mth P w K mg base CX0 R 2 "take" ["self"] (spTake R))
    (MU : Mth P w K mg base (CX1 P w) R 3 "must_take" ["self", "word"] (spMust R C)) (gP : mg "PLAIN_WORDS" = some (.ref gp)) (hK : ∀ H : Hp, SqT K H gp (ST plainW)) (m1 : mg "int" = none) (hk : 4 ≤ k) :
    FnOk P w K mg base (CX1 P w) (k + 3) f fd ["reader", "free"] (spX K R C (SglP X)) := by
  refine Fun.ok1 F scSingle (fun vs H Q E h => ?_) (fun cdv A outer s H vs Q E hr h => ?_)
  · obtain ⟨rd, dx, wl, ws, t, free, res, rfl, _⟩ := h
    rfl
  obtain ⟨rd, dx, wl, ws, t, free, res, rfl, h, hp, q⟩ := h
  have hr1 := hr.mono (show 1 ≤ k + 2 by omega)
  have hr2 := hr.mono (show 2 ≤ k + 2 by omega)
  have hr3 := hr.mono (show 3 ≤ k + 2 by omega)
  have hr4 := hr.mono (show 4 ≤ k + 2 by omega)
  have hrk := hr.mono (show k ≤ k + 2 by omega)
  have hrk1 := hr.mono (show k + 1 ≤ k + 2 by omega)
  refine ⟨_, pss_cons (ps_set (i := 2) scSingle.nd rfl (Or.inl rfl) (pe_mth0 TK c hr2 pass0 (pv 0)))
    (pss_cons (ps_if (pt_cmpR op_eq (pv 2) pe_str (nomark _)) (pss_cons (ps_set (i := 3) scSingle.nd rfl (Or.inl rfl) (pe_cal1 EX hrk rfl (passes1 (E' := E) fun _ _ _ h => h) (pa_cons (pv 0) (pa_cons (pv 1) pa_nil)))) (pss_cons (ps_expr (pe_mth MU c hr3 (passes1 (E' := E) fun _ _ _ h => h) (pv 0) (pa_cons pe_str pa_nil))) (pss_one (ps_ret (pv 3))))) pss_nil)
    (pss_cons (ps_if (pt_cmpR op_eq (pv 2) pe_str (nomark _)) (pss_one (ps_ret (pe_cal1 LT hrk1 rfl (passes1 (E' := E) fun _ _ _ h => h) (pa_cons (pv 0) pa_nil)))) pss_nil)
    (pss_cons (ps_if (pt_cmpR op_eq (pv 2) pe_str (nomark _)) (pss_one (ps_ret (pe_cal1 RT hr rfl (passes1 (E' := E) fun _ _ _ h => h) (pa_cons (pv 0) pa_nil)))) pss_nil)
    (pss_cut (ps_if (PW.pt (pw_and (pt_cmpR op_eq (pv 2) pe_str (nomark _)) (pw_and1 (pt_val (pv 1))))) (pss_one (ps_ret (pe_tup (pa_cons pe_str (pa_cons (pe_cal1 NS hr4 rfl (passes1 (E' := E) fun _ _ _ h => h) (pa_cons (pv 0) pa_nil)) pa_nil))))) pss_nil)
    (pss_cut (ps_if (PW.pt (pw_and (pt_cmpR op_eq (pv 2) pe_str (nomark _)) (pw_and1 (pt_val (pe_cal NB hr2 rfl (pa_cons (pe_mth AH c hr1 pass0 (pv 0) (pa_cons pe_int pa_nil)) pa_nil)))))) (pss_one (ps_ret (pe_tup (pa_cons pe_str (pa_cons pe_non (pa_cons (pe_callTy call_intS rfl m1 bt_int (pa_cons (pe_mth0 TK c hr2 pass0 (pv 0)) pa_nil)) pa_nil)))))) pss_nil)
    (pss_cons (ps_if (pt_val (pe_cal NB hr2 rfl (pa_cons (pv 2) pa_nil))) (pss_one (ps_ret (pe_cal SP hr3 rfl (pa_cons (pv 0) (pa_cons (pe_callTy call_intS rfl m1 bt_int (pa_cons (pv 2) pa_nil)) pa_nil))))) pss_nil)
    (pss_cons (ps_if (pt_cmpR op_eq (pe_slice sl_str (pv 2) po_none (po_some pe_int)) pe_str (nomark _)) (pss_one (ps_ret (pe_tup (pa_cons pe_str (pa_cons (pe_slice sl_str (pv 2) (po_some pe_int) (po_some (pe_un un_neg pe_int))) pa_nil))))) pss_nil)
    (pss_cons (ps_if (pt_cmpR op_in_seq (pv 2) (pe_glob (v := .ref gp) rfl gP rfl) rfl) (pss_one (ps_ret (pe_tup (pa_cons pe_str (pa_cons (pv 2) pa_nil))))) pss_nil)
    (pss_one (ps_raise PySem.F.excBase_ValueError n.xc rfl n.mg (pa_cons (pe_join (pj_con (pj_fr (pv 2) (pj_con pj_nil)))) pa_nil))))))))))), ?_⟩
  have S0 := RS.start h
  have S1 := S0.up (t + 1)
  have hsm := h.ok.small t
  refine ⟨_, rfl, rd, dx, _, rfl, h.ob, rfl, rd, dx, wl, ws, t, rfl, h, ?_⟩
  have hmem : hd (ws.drop t) ≠ [] → TokW (hd (ws.drop t)) ∧ t + 1 ≤ ws.length := fun z => ⟨h.ok.tok _ (hd_in z), hd_lt z⟩
  unfold SglP at hp
  rw [← dropT] at hp
  generalize hu : hd (ws.drop t) = u at hp hsm hmem ⊢
  refine ⟨_, rfl, rfl, _, rfl, ?_⟩
  rw [lLp, dec_S]
  by_cases e1 : u = [40]
  · rw [decide_eq_true e1]
    rw [if_pos e1] at hp
    obtain ⟨xres, hx, rfl⟩ := hp
    refine iteT ⟨_, rfl, _, rfl, rd, dx, wl, ws, t + 1, free, xres, rfl, S1.st, hx, ?_⟩
    cases xres with
    | none => exact fun H3 g3 => q H3 (S1.g.trans g3)
    | some p =>
      obtain ⟨x, r1⟩ := p
      intro v H3 t3 g3 d3 e3 lt3 le3 hv
      have s3 := S1.more g3 d3
      refine ⟨_, rfl, rd, dx, _, rfl, s3.st.ob, rfl, rd, dx, wl, ws, t3, [41], by rw [lRp]; rfl, s3.st, small1 41 (by decide), ?_⟩
      dsimp only at q
      have s4 := s3.up (t3 + 1)
      by_cases e : hd (ws.drop t3) = [41]
      · rw [if_pos (by rw [← e3]; exact e)] at q
        refine iteP e ⟨_, rfl, q _ _ (t3 + 1) s4.g s4.st (by rw [dropT, e3]) (by omega) (hd_lt (by rw [e]; simp)) (TV.kp (kp_up s3.st) hv)⟩
      · rw [if_neg (by rw [← e3]; exact e)] at q
        exact iteN e (q _ s4.g)
  rw [decide_eq_false e1]
  rw [if_neg e1] at hp
  refine iteF ⟨_, rfl, rfl, _, rfl, ?_⟩
  rw [lLb, dec_S]
  by_cases e2 : u = [91]
  · rw [decide_eq_true e2]
    rw [if_pos e2] at hp
    exact iteT ⟨_, rfl, rd, dx, wl, ws, t + 1, res, rfl, S1.st, (hmem (by rw [e2]; simp)).2, hp, PO.lift S1 (by omega) q⟩
  rw [decide_eq_false e2]
  rw [if_neg e2] at hp
  refine iteF ⟨_, rfl, rfl, _, rfl, ?_⟩
  rw [lLc, dec_S]
  by_cases e3 : u = [123]
  · rw [decide_eq_true e3]
    rw [if_pos e3] at hp
    exact iteT ⟨_, rfl, rd, dx, wl, ws, t + 1, res, rfl, S1.st, (hmem (by rw [e3]; simp)).2, hp, PO.lift S1 (by omega) q⟩
  rw [decide_eq_false e3]
  rw [if_neg e3] at hp
  refine iteF ?_
  have q1 := PO.lift S1 (by omega) q
  refine ⟨fun σ' H' => ¬ (u = [64] ∧ free = true) ∧ σ' = [some (.ref rd), some (.bl free), some (.str (S u)), none] ∧ H' = rdU H R rd dx wl (t + 1), ?_, ?_⟩
  · refine ⟨_, rfl, rfl, _, rfl, ?_⟩
    rw [lAt, dec_S]
    by_cases e4 : u = [64]
    · rw [decide_eq_true e4]
      refine iteT ⟨_, rfl, _, rfl, ?_⟩
      cases free with
      | false => exact iteF ⟨fun z => (by cases z.2), rfl, rfl⟩
      | true =>
        rw [if_pos ⟨e4, rfl⟩] at hp
        obtain ⟨nres, hn, rfl⟩ := hp
        refine iteT ⟨_, rfl, rd, dx, wl, ws, t + 1, nres, rfl, S1.st, hn, ?_⟩
        cases nres with
        | none => exact q1
        | some p =>
          obtain ⟨ns, r1⟩ := p
          intro v H3 t3 g3 d3 e3 lt3 le3 hv
          refine ⟨len2, fun p hp => ?_⟩
          have kp := same_new hp (.tup [.str (Str.ofString "place"), v])
          have s3 := (S1.more g3 d3).same kp
          exact q _ _ t3 s3.g s3.st e3 (by omega) le3 (TV.tup (SqT.of (by rw [upd_same, lPlace])) (TAll.cons TV.str (TAll.one (TV.kp (Kp.same kp) hv))))
    · rw [decide_eq_false e4]
      exact iteF (iteF ⟨fun z => e4 z.1, rfl, rfl⟩)
  rintro σ1 H1 ⟨e4, rfl, rfl⟩
  rw [if_neg e4] at hp
  refine ⟨fun σ' H' => ¬ (u = [46, 46] ∧ numB (hd (ws.drop (t + 1))) = true) ∧ σ' = [some (.ref rd), some (.bl free), some (.str (S u)), none] ∧ H' = rdU H R rd dx wl (t + 1), ?_, ?_⟩
  · refine ⟨_, rfl, rfl, _, rfl, ?_⟩
    rw [lDots, dec_S]
    by_cases e5 : u = [46, 46]
    · rw [decide_eq_true e5]
      refine iteT ⟨_, rfl, rd, dx, _, rfl, S1.st.ob, rfl, rd, dx, wl, ws, t + 1, 0, rfl, S1.st, _, rfl, ?_, _, rfl, ?_⟩
      · rw [at0]; exact (h.ok.small (t + 1)).1
      rw [at0]
      cases hb : numB (hd (ws.drop (t + 1))) with
      | false => exact iteF ⟨fun z => (by cases z.2), rfl, rfl⟩
      | true =>
        rw [if_pos ⟨e5, hb⟩] at hp
        subst hp
        have hw := h.ok.tok _ (hd_in (numB_ne hb))
        obtain ⟨i1, i2⟩ := num_int (tok_num hw hb)
        refine iteT ⟨_, rfl, rd, dx, _, rfl, S1.st.ob, rfl, rd, dx, wl, ws, t + 1, rfl, S1.st, _, _, rfl, i1, by rw [S_len]; omega, len3, fun p hp => ?_⟩
        have s2 := (S1.up (t + 1 + 1)).same (same_new hp (.tup [.str (Str.ofString "span"), .non, .int (numV (hd (ws.drop (t + 1))))]))
        exact q _ _ (t + 1 + 1) s2.g s2.st dropT (by omega) (hd_lt (numB_ne hb)) (tv_span upd_same TV.non TV.int)
    · rw [decide_eq_false e5]
      exact iteF (iteF ⟨fun z => e5 z.1, rfl, rfl⟩)
  rintro σ2 H2 ⟨e5, rfl, rfl⟩
  rw [if_neg e5] at hp
  refine ⟨_, rfl, _, rfl, hsm.1, _, rfl, ?_⟩
  cases hb : numB u with
  | true =>
    rw [if_pos hb] at hp
    obtain ⟨hw, hl⟩ := hmem (numB_ne hb)
    obtain ⟨i1, i2⟩ := num_int (tok_num hw hb)
    refine iteT ⟨_, rfl, _, rfl, _, _, rfl, i1, by rw [S_len]; omega, rd, dx, wl, ws, t + 1, numV u, rfl, S1.st, hl, ?_⟩
    have hres : res = some (spanR (numV u) (ws.drop (t + 1))) := by
      unfold spanR
      split at hp
      · split at hp
        · rename_i a b; rw [if_pos a, if_pos b]; exact hp
        · rename_i a b; rw [if_pos a, if_neg b]; exact hp
      · rename_i a; rw [if_neg a]; exact hp
    subst hres
    intro v H3 t3 g3 d3 e3 lt3 le3 hv
    exact q v H3 t3 (S1.g.trans g3) d3 e3 (by omega) le3 hv
  | false =>
  rw [if_neg (by rw [hb]; decide)] at hp
  refine iteF ⟨_, rfl, _, rfl, _, rfl, S_fit hsm.1, rfl, _, rfl, ?_⟩
  rw [slice_to1, lQuo, dec_S]
  by_cases e7 : u.take 1 = [34]
  · rw [decide_eq_true e7]
    rw [if_pos e7] at hp
    subst hp
    have une : u ≠ [] := fun z => by rw [z] at e7; cases e7
    obtain ⟨hw, hl⟩ := hmem une
    have hlen : 2 ≤ u.length := by
      obtain ⟨b, _, e⟩ := tok_quo hw e7
      rw [e]; simp
    refine iteT ⟨_, rfl, _, rfl, _, rfl, _, rfl, _, rfl, S_fit hsm.1, ?_⟩
    rw [show (- (1 : Int)) = -1 from rfl, slice_in u hlen]
    refine ⟨len2, fun p hp => ?_⟩
    have kp := same_new hp (.tup [.str (Str.ofString "text"), .str (S (u.drop 1).dropLast)])
    have s3 := S1.same kp
    exact q _ _ (t + 1) s3.g s3.st rfl (by omega) hl (TV.tup (SqT.of (by rw [upd_same, lText])) (TAll.cons TV.str (TAll.one TV.str)))
  rw [decide_eq_false e7]
  rw [if_neg e7] at hp
  refine iteF ⟨_, rfl, gp, _, rfl, .inr (hK _), rfl, flat_ST _, _, rfl, ?_⟩
  show if inV (.str (S u)) (ST plainW) = true then _ else _
  rw [inV_ST]
  by_cases e8 : u ∈ plainW
  · rw [decide_eq_true e8]
    rw [if_pos e8] at hp
    subst hp
    have une : u ≠ [] := fun z => by rw [z] at e8; revert e8; decide
    obtain ⟨hw, hl⟩ := hmem une
    refine iteT ⟨_, rfl, len2, fun p hp => ?_⟩
    have kp := same_new hp (.tup [.str (Str.ofString "word"), .str (S u)])
    have s3 := S1.same kp
    exact q _ _ (t + 1) s3.g s3.st rfl (by omega) hl (TV.tup (SqT.of (by rw [upd_same, lWord])) (TAll.cons TV.str (TAll.one TV.str)))
  · rw [decide_eq_false e8]
    rw [if_neg e8] at hp
    subst hp
    exact iteF ⟨_, rfl, _, rfl, by rw [S_len]; exact hsm.1, hsm.2, fun r => ⟨len1, q _ S1.g⟩⟩
end
end Law


set_option Elab.async false
set_option linter.all false
set_option maxRecDepth 100000
set_option maxHeartbeats 4000000
namespace Law
open PySem L2 L2.Sp
/-- a def under its name -/
structure Nm (K : PySem.W.Frag) (mg : Str → Option Value) (x : Str) (st : Stmt) (ps : List Str) : Prop where
  ex : ∃ (f : Addr) (fd : FuncData), Fun K x x st f fd ∧ mg x = some (.ref f) ∧ PySem.W.keepIn K (.ref f) = true ∧ Binds K fd ps []
section
variable {P : Program} {w : World} {K : PySem.W.Frag} {mg : Str → Option Value} {base : Heap} {f : Addr} {fd : FuncData} {R C : Addr}
theorem Nm.cal1 {x : Str} {st : Stmt} {ps : List Str} {k : Nat} {sp : Sp} (n : Nm K mg x st ps) (h : ∀ f fd, Fun K x x st f fd → FnOk P w K mg base (CX1 P w) k f fd ps sp) : Cal1 P w K mg base k x ps sp := by
  obtain ⟨f, fd, F, a, b, c⟩ := n.ex
  exact ⟨f, fd, h f fd F, a, b, c⟩
/-- what the reading leans on -/
structure Rdg (P : Program) (w : World) (K : PySem.W.Frag) (mg : Str → Option Value) (base : Heap) (R C : Addr) : Prop where
  c : RK K R
  n : NT K mg C
  nE : Nm K mg "expression" sExpr ["reader", "free"]
  nN : Nm K mg "negated" sNegd ["reader", "free"]
  nS : Nm K mg "single" sSingle ["reader", "free"]
  nL : Nm K mg "list_tree" sListT ["reader"]
  nR : Nm K mg "record_tree" sRecT ["reader"]
  nF : Nm K mg "field_of" sField ["reader"]
  HAS : Cal1 P w K mg base 4 "has_another" ["reader", "close", "count"] (spHas R C)
  ENDT : Cal1 P w K mg base 4 "takes_end" ["reader", "close"] (spEndT R C)
  NAME : Cal1 P w K mg base 3 "name_of" ["reader"] (spNameOf R C)
  NS : Cal1 P w K mg base 4 "names_of" ["reader"] (spNamesOf K R C)
  NB : Cal P w K mg base 2 "is_number" ["word"] spIsNo
  SP : Cal P w K mg base 3 "span_tree" ["reader", "low"] (spSpanT K R)
  ON : Cal P w K mg base 1 "one_or_several" ["word", "trees"] (spOne K)
  AH : Mth P w K mg base CX0 R 1 "ahead" ["self", "steps"] (spAhead R)
  TK : Mth P w K mg base CX0 R 2 "take" ["self"] (spTake R)
  TS : Mth P w K mg base CX0 R 2 "takes" ["self", "word"] (spTakes R)
  MU : Mth P w K mg base (CX1 P w) R 3 "must_take" ["self", "word"] (spMust R C)
  gP : ∃ gp, mg "PLAIN_WORDS" = some (.ref gp) ∧ ∀ H : Hp, SqT K H gp (ST plainW)
  m1 : mg "len" = none
  m2 : mg "tuple" = none
  m3 : mg "int" = none
  m4 : mg "range" = none
theorem ok_exn (r : Rdg P w K mg base R C) : ∀ n, Cal1 P w K mg base (5 * n + 5) "expression" ["reader", "free"] (spX K R C (Exn n))
  | 0 => r.nE.cal1 fun f fd F => by
    refine Fun.ok1 F scExpr (fun vs H Q E h => ?_) (fun cdv A outer s H vs Q E hr h => ?_)
    · obtain ⟨rd, dx, wl, ws, t, free, res, rfl, _⟩ := h
      rfl
    · obtain ⟨rd, dx, wl, ws, t, free, res, rfl, _, hp, _⟩ := h
      exact hp.elim
  | n + 1 => by
    have EX := ok_exn r n
    obtain ⟨gp, g1, g2⟩ := r.gP
    have hk : 4 ≤ 5 * n + 5 := by omega
    have LT := r.nL.cal1 (base := base) (P := P) (w := w) fun f fd F => ok_listt F EX r.HAS r.ENDT r.m1 r.m2 hk
    have FI := r.nF.cal1 (base := base) (P := P) (w := w) fun f fd F => ok_field F r.c EX r.NAME r.TS r.MU hk
    have RT := r.nR.cal1 (base := base) (P := P) (w := w) fun f fd F => ok_rect F r.n FI r.HAS r.ENDT r.m1 r.m2 (by omega)
    have SG := r.nS.cal1 (base := base) (P := P) (w := w) fun f fd F => ok_single F r.c r.n EX LT RT r.NS r.NB r.SP r.AH r.TK r.MU g1 g2 r.m3 hk
    have NG := r.nN.cal1 (base := base) (P := P) (w := w) fun f fd F => ok_negd F r.c SG r.TS r.m4 (by omega)
    exact r.nE.cal1 (base := base) (P := P) (w := w) fun f fd F => ok_expr F r.c NG r.AH r.TK r.ON (by omega)
abbrev sRead : Stmt := top 20
theorem scRead : FnScope ["text", "reader", "tree"] ["text"] (defScope sRead) := ⟨rfl, rfl, rfl, by decide +kernel, rfl, by decide +kernel, by decide +kernel⟩
/-- a text read as a whole, by what reads its words -/
def spText (K : PySem.W.Frag) (C : Addr) (Y : List Wd → Option Tn → Prop) : Sp := fun args H Q E => ∃ v, args = [v] ∧ ((∃ d, DV K H d v ∧ isiD d "str" = false ∧ ∀ H', Same H H' → E (.ref C) none H') ∨ ∃ l, v = .str (S l) ∧ Small l ∧
  ((words l = none ∧ ∀ H', Same H H' → E (.ref C) none H') ∨ ∃ ws res, words l = some ws ∧ WsOk ws ∧ Y ws res ∧ match res with
    | none => ∀ H', Same H H' → E (.ref C) none H'
    | some x => ∀ u H', Same H H' → TV K H' x u → Q u H'))
theorem make_same {H H' : Hp} {rd dx : Addr} {o o' : HO} (h1 : H rd = none) (h2 : H dx = none) (g : Grow rd (upd (upd H dx o) rd o') H') : Same H H' := fun b u hb => by
  have n1 := ne_of_none hb h1
  have n2 := ne_of_none hb h2
  refine g b u n1 ?_
  rw [upd_ne n1, upd_ne n2]; exact hb
theorem ok_read {N : Nat} {fi : Addr} {fdi : FuncData} (F : Fun K "read" "read" sRead f fd) (r : Rdg P w K mg base R C) (M : Mk K R fi) (FI : FnOk P w K mg base (CX1 P w) 6 fi fdi ["self", "text"] (spInit K R C)) (bi : Binds K fdi ["self", "text"] []) (gR : mg "Reader" = some (.ref R)) :
    FnOk P w K mg base (CX1 P w) (5 * N + 8) f fd ["text"] (spText K C (ReadP N)) := by
  refine Fun.ok1 F scRead (fun vs H Q E h => ?_) (fun cdv A outer s H vs Q E hr h => ?_)
  · obtain ⟨v, rfl, _⟩ := h
    rfl
  obtain ⟨v, rfl, h⟩ := h
  have hr7 := hr.mono (show 6 + 1 ≤ 5 * N + 7 by omega)
  have hrE := hr.mono (show 5 * N + 5 ≤ 5 * N + 7 by omega)
  have hr3 := hr.mono (show 3 ≤ 5 * N + 7 by omega)
  refine ⟨_, pss_cons (ps_set (i := 1) scRead.nd rfl (Or.inl rfl) (pe_make M FI hr7 rfl gR bi .nil (passes1 (E' := E) fun _ _ _ h => h) (pa_cons (pv 0) pa_nil)))
    (pss_cons (ps_set (i := 2) scRead.nd rfl (Or.inl rfl) (pe_cal1 (ok_exn r N) hrE rfl (passes1 (E' := E) fun _ _ _ h => h) (pa_cons (pv 1) (pa_cons pe_bl pa_nil))))
    (pss_cons (ps_expr (pe_mth r.MU r.c hr3 (passes1 (E' := E) fun _ _ _ h => h) (pv 1) (pa_cons pe_str pa_nil)))
    (pss_one (ps_ret (pv 2))))), ?_⟩
  refine ⟨_, rfl, fun rd dx h1 h2 n12 => ⟨rd, dx, v, rfl, upd_same, ?_⟩⟩
  rcases h with ⟨d, hd, hf, e⟩ | ⟨l, rfl, hs, h⟩
  · refine .inl ⟨d, DV.mono (DKeep.same ?_) _ _ hd, hf, e _ ?_⟩
    · exact make_same h1 h2 Grow.refl
    · exact make_same h1 h2 Grow.refl
  refine .inr ⟨l, rfl, hs, fun ws hw H1 p hp g1 hl hrd => ?_, fun hw H1 g1 => ?_⟩
  · rcases h with ⟨hn, _⟩ | ⟨ws', res, hw', ok, hy, q⟩
    · rw [hn] at hw; cases hw
    · rw [hw] at hw'; cases hw'
      refine ⟨rfl, ?_⟩
      obtain ⟨xres, hx, rfl⟩ := hy
      have D0 : RD H1 R rd dx p ws 0 := ⟨hrd, hl, ok⟩
      have S0 := RS.start D0
      have up : ∀ {H2 : Hp}, Grow rd H1 H2 → Same H H2 := fun {H2} g2 => make_same h1 h2 (g1.trans g2)
      refine ⟨_, rfl, rd, dx, p, ws, 0, true, xres, rfl, D0, hx, ?_⟩
      cases xres with
      | none => exact fun H2 g2 => q H2 (up g2)
      | some pr =>
        obtain ⟨x, rr⟩ := pr
        intro u H2 t2 g2 d2 e2 lt2 le2 hu
        have s2 := S0.more g2 d2
        have s3 := s2.up (t2 + 1)
        refine ⟨_, rfl, rd, dx, _, rfl, d2.ob, rfl, rd, dx, p, ws, t2, [], by rw [lit0]; rfl, d2, ⟨by decide, fun c hc => by cases hc⟩, ?_⟩
        rw [e2]
        dsimp only at q
        by_cases e : Law.hd rr = []
        · rw [if_pos e] at q
          exact iteP e ⟨_, rfl, q _ _ (up s3.g) (TV.kp (kp_up d2) hu)⟩
        · rw [if_neg e] at q
          exact iteN e (q _ (up s3.g))
  · rcases h with ⟨_, q⟩ | ⟨ws', res, hw', ok, hy, q⟩
    · exact q _ (make_same h1 h2 (Grow.of g1))
    · rw [hw] at hw'; cases hw'
end
end Law


set_option Elab.async false
set_option linter.all false
set_option maxRecDepth 100000
set_option maxHeartbeats 4000000
namespace Law
open PySem L2 L2.Sp
section
variable {X Y : Bool → List Wd → Res → Prop} (k : ∀ f r res, X f r res → Y f r res)
include k
theorem ItemsP.mono {n : Nat} {ts : List Tn} {r : List Wd} {res : Option (List Tn × List Wd)} (h : ItemsP X n ts r res) : ItemsP Y n ts r res := by
  induction h with
  | stop a => exact .stop a
  | on a b _ ih => exact .on a (k _ _ _ b) ih
  | bad a => exact .bad a
  | worse a b => exact .worse a (k _ _ _ b)
theorem FieldP.mono {r : List Wd} {res : Option ((Wd × Tn × Bool) × List Wd)} (h : FieldP X r res) : FieldP Y r res := by
  unfold FieldP at h ⊢
  split at h
  · rename_i h1
    rw [if_pos h1]
    split at h
    · rename_i h2
      rw [if_pos h2]
      split at h
      · rename_i h3
        rw [if_pos h3]
        obtain ⟨x, a, b⟩ := h
        exact ⟨x, k _ _ _ a, b⟩
      · rename_i h3
        rw [if_neg h3]; exact h
    · rename_i h2
      rw [if_neg h2]
      split at h
      · rename_i h3
        rw [if_pos h3]
        obtain ⟨x, a, b⟩ := h
        exact ⟨x, k _ _ _ a, b⟩
      · rename_i h3
        rw [if_neg h3]; exact h
  · rename_i h1
    rw [if_neg h1]; exact h
theorem FieldsP.mono {n : Nat} {fs : List (Wd × Tn × Bool)} {r : List Wd} {res : Option (List (Wd × Tn × Bool) × List Wd)} (h : FieldsP X n fs r res) : FieldsP Y n fs r res := by
  induction h with
  | stop a => exact .stop a
  | on a b c _ ih => exact .on a (FieldP.mono k b) c ih
  | bad a => exact .bad a
  | worse a b => exact .worse a (FieldP.mono k b)
  | twice a b c => exact .twice a (FieldP.mono k b) c
theorem SglP.mono {free : Bool} {r : List Wd} {res : Res} (h : SglP X free r res) : SglP Y free r res := by
  unfold SglP at h ⊢
  split at h
  · rename_i h1
    rw [if_pos h1]
    obtain ⟨x, a, b⟩ := h
    exact ⟨x, k _ _ _ a, b⟩
  rename_i h1
  rw [if_neg h1]
  split at h
  · rename_i h2
    rw [if_pos h2]
    obtain ⟨n, x, a, b⟩ := h
    exact ⟨n, x, a.mono k, b⟩
  rename_i h2
  rw [if_neg h2]
  split at h
  · rename_i h3
    rw [if_pos h3]
    obtain ⟨n, x, a, b⟩ := h
    exact ⟨n, x, a.mono k, b⟩
  rename_i h3
  rw [if_neg h3]
  exact h
theorem NegP.mono {free : Bool} {r : List Wd} {res : Res} (h : NegP X free r res) : NegP Y free r res := by
  obtain ⟨s, a, b⟩ := h
  exact ⟨s, a.mono k, b⟩
theorem MoreP.mono {n : Nat} {free : Bool} {as ps : List Tn} {r : List Wd} {res : Res} (h : MoreP X n free as ps r res) : MoreP Y n free as ps r res := by
  induction h with
  | stop a b => exact .stop a b
  | and a _ ih => exact .and (a.mono k) ih
  | or a _ ih => exact .or (a.mono k) ih
  | bad a b => exact .bad a (b.mono k)
theorem ExpP.mono {free : Bool} {r : List Wd} {res : Res} (h : ExpP X free r res) : ExpP Y free r res := by
  obtain ⟨s, a, b⟩ := h
  refine ⟨s, a.mono k, ?_⟩
  cases s with
  | none => exact b
  | some p =>
    obtain ⟨n, b⟩ := b
    exact ⟨n, b.mono k⟩
end
theorem Exn.succ : ∀ (n : Nat) (f : Bool) (r : List Wd) (res : Res), Exn n f r res → Exn (n + 1) f r res
  | 0, _, _, _, h => h.elim
  | n + 1, f, r, res, h => ExpP.mono (Exn.succ n) h
theorem Exn.mono {m n : Nat} (h : m ≤ n) {f : Bool} {r : List Wd} {res : Res} (x : Exn m f r res) : Exn n f r res := by
  induction h with
  | refl => exact x
  | step _ ih => exact Exn.succ _ _ _ _ ih
def tStop : List Wd := [[41], [93], [125], [44], [38], [124], [101, 108, 115, 101]]
def eStop : List Wd := [[41], [93], [125], [44], [101, 108, 115, 101]]
def TS (r : List Wd) : Prop := r = [] ∨ hd r ∈ tStop
def ES (r : List Wd) : Prop := r = [] ∨ hd r ∈ eStop
theorem ES.ts {r : List Wd} (h : ES r) : TS r := h.imp id fun h => by
  have : ∀ x ∈ eStop, x ∈ tStop := by decide
  exact this _ h
theorem TS.no {r : List Wd} (h : TS r) : hd r ≠ [46, 46] ∧ hd r ≠ [46] ∧ numB (hd r) = false := by
  rcases h with rfl | h
  · exact ⟨by decide, by decide, rfl⟩
  · have : ∀ x ∈ tStop, x ≠ [46, 46] ∧ x ≠ [46] ∧ numB x = false := by decide
    exact this _ h
theorem ES.no {r : List Wd} (h : ES r) : hd r ≠ [38] ∧ hd r ≠ [124] := by
  rcases h with rfl | h
  · exact ⟨by decide, by decide⟩
  · have : ∀ x ∈ eStop, x ≠ [38] ∧ x ≠ [124] := by decide
    exact this _ h
theorem TS.of {u : Wd} {r : List Wd} (h : u ∈ tStop) : TS (u :: r) := .inr h
theorem ES.of {u : Wd} {r : List Wd} (h : u ∈ eStop) : ES (u :: r) := .inr h
/-- several rows behind a sign each -/
def tails (s : Wd) (rows : List (List Wd)) : List Wd := rows.flatMap (s :: ·)
def joinW (s : Wd) : List (List Wd) → List Wd
  | [] => []
  | r :: rs => r ++ tails s rs
theorem tails_cons (s : Wd) (r : List Wd) (rs : List (List Wd)) : tails s (r :: rs) = s :: (r ++ tails s rs) := by simp [tails]
theorem TS.tails {s : Wd} {rows : List (List Wd)} {r : List Wd} (hs : s ∈ tStop) (h : TS r) : TS (tails s rows ++ r) := by
  cases rows with
  | nil => exact h
  | cons x xs => rw [tails_cons]; exact TS.of hs
section
variable {X : Bool → List Wd → Res → Prop} {free : Bool}
def NegAble (X : Bool → List Wd → Res → Prop) (free : Bool) (x : Tn) (row : List Wd) : Prop := ∀ rest, TS rest → NegP X free (row ++ rest) (some (x, rest))
def ExpAble (X : Bool → List Wd → Res → Prop) (free : Bool) (x : Tn) (row : List Wd) : Prop := ∀ rest, ES rest → X free (row ++ rest) (some (x, rest))
inductive All2 {α β : Type} (F : α → β → Prop) : List α → List β → Prop
  | nil : All2 F [] []
  | cons {a b as bs} : F a b → All2 F as bs → All2 F (a :: as) (b :: bs)
theorem All2.imp {α β : Type} {F G : α → β → Prop} {as : List α} {bs : List β} (h : All2 F as bs) (k : ∀ a ∈ as, ∀ b, F a b → G a b) : All2 G as bs := by
  induction h with
  | nil => exact .nil
  | cons a _ ih => exact .cons (k _ (by simp) _ a) (ih fun x hx => k x (by simp [hx]))
theorem All2.length {α β : Type} {F : α → β → Prop} {as : List α} {bs : List β} (h : All2 F as bs) : as.length = bs.length := by
  induction h with
  | nil => rfl
  | cons _ _ ih => simp [ih]
theorem All2.snoc {α β : Type} {F : α → β → Prop} {as : List α} {bs : List β} {a : α} {b : β} (h : All2 F as bs) (h' : F a b) : All2 F (as ++ [a]) (bs ++ [b]) := by
  induction h with
  | nil => exact .cons h' .nil
  | cons x _ ih => exact .cons x ih
/-- a run of parts tied by & -/
theorem and_run {alts : List Tn} {r : List Wd} {res : Res} (hr : TS r) : ∀ {ys : List Tn} {rows : List (List Wd)} {parts : List Tn} {k : Nat}, All2 (NegAble X free) ys rows → MoreP X k free alts (parts ++ ys) r res → ∃ k', MoreP X k' free alts parts (tails [38] rows ++ r) res
  | _, _, parts, k, .nil, h => ⟨k, by simpa [tails] using h⟩
  | _, _, parts, k, @All2.cons _ _ _ y row ys rows a as, h => by
    obtain ⟨k', h'⟩ := and_run hr (parts := parts ++ [y]) as (by simpa using h)
    refine ⟨k' + 1, ?_⟩
    rw [tails_cons, List.cons_append, List.append_assoc]
    exact .and (a _ (TS.tails (by decide) hr)) h'
def AndAble (X : Bool → List Wd → Res → Prop) (free : Bool) (x : Tn) (g : List Wd) : Prop := ∃ y ys row rows, one kAnd (y :: ys) = x ∧ NegAble X free y row ∧ All2 (NegAble X free) ys rows ∧ g = row ++ tails [38] rows
theorem or_run {rest : List Wd} (hr : ES rest) : ∀ {xs : List Tn} {gs : List (List Wd)} {alts parts : List Tn}, All2 (AndAble X free) xs gs → ∃ k, MoreP X k free alts parts (tails [124] gs ++ rest) (some (one kOr (alts ++ [one kAnd parts] ++ xs), rest))
  | _, _, alts, parts, .nil => ⟨0, by
    rw [List.append_nil]
    exact .stop hr.no.1 hr.no.2⟩
  | _, _, alts, parts, @All2.cons _ _ _ x g xs gs a as => by
    obtain ⟨y, ys, row, rows, e, h1, h2, rfl⟩ := a
    obtain ⟨k, hk⟩ := or_run hr (alts := alts ++ [one kAnd parts]) (parts := [y] ++ ys) as
    have hts : TS (tails [124] gs ++ rest) := TS.tails (by decide) hr.ts
    obtain ⟨k', hk'⟩ := and_run hts (parts := [y]) h2 hk
    refine ⟨k' + 1, ?_⟩
    have e2 : one kAnd ([y] ++ ys) = x := e
    rw [e2] at hk'
    rw [tails_cons, List.cons_append, List.append_assoc, List.append_assoc]
    have := MoreP.or (alts := alts) (parts := parts) (h1 _ (TS.tails (s := [38]) (rows := rows) (by decide) hts)) hk'
    simpa using this
theorem exp_or {x : Tn} {g : List Wd} {xs : List Tn} {gs : List (List Wd)} (h : AndAble X free x g) (hs : All2 (AndAble X free) xs gs) : ExpAble (ExpP X) free (one kOr (x :: xs)) (g ++ tails [124] gs) := fun rest hr => by
  obtain ⟨y, ys, row, rows, e, h1, h2, rfl⟩ := h
  obtain ⟨k, hk⟩ := or_run hr (alts := []) (parts := [y] ++ ys) hs
  have hts : TS (tails [124] gs ++ rest) := TS.tails (by decide) hr.ts
  obtain ⟨k', hk'⟩ := and_run hts (parts := [y]) h2 hk
  have e2 : one kAnd ([y] ++ ys) = x := e
  rw [e2] at hk'
  refine ⟨some (y, tails [38] rows ++ (tails [124] gs ++ rest)), ?_, k', hk'⟩
  have := h1 _ (TS.tails (s := [38]) (rows := rows) (by decide) hts)
  simpa using this
theorem exp_and {x : Tn} {g : List Wd} (h : AndAble X free x g) : ExpAble (ExpP X) free x g := fun rest hr => by
  have := exp_or h .nil rest hr
  simpa [tails, one] using this
theorem NegAble.and {x : Tn} {row : List Wd} (h : NegAble X free x row) : AndAble X free x row := ⟨x, [], row, [], rfl, h, .nil, by simp [tails]⟩
theorem neg0 {u : Wd} {r : List Wd} {res : Res} (hu : u ≠ [33]) (h : SglP X free (u :: r) res) : NegP X free (u :: r) res := by
  have e : bangs (u :: r) = 0 := by unfold bangs; rw [List.takeWhile_cons_of_neg (by simpa using hu)]; rfl
  refine ⟨res, ?_, ?_⟩
  · rw [e]; simpa using h
  · rw [e]; cases res <;> rfl
theorem negS {x : Tn} {row : List Wd} (h : NegAble X false x row) : NegAble X free (.tup [.str kNot, x]) ([33] :: row) := fun rest hr => by
  obtain ⟨s, a, b⟩ := h rest hr
  have e : bangs ([33] :: (row ++ rest)) = bangs (row ++ rest) + 1 := by unfold bangs; rw [List.takeWhile_cons_of_pos (by decide)]; rfl
  cases s with
  | none => cases b
  | some p =>
    obtain ⟨y, r⟩ := p
    simp only [Option.map_some, Option.some.injEq, Prod.mk.injEq] at b
    obtain ⟨b1, b2⟩ := b
    subst b2 b1
    refine ⟨some (y, rest), ?_, ?_⟩
    · show SglP X (free && decide (bangs ([33] :: (row ++ rest)) = 0)) (([33] :: (row ++ rest)).drop (bangs ([33] :: (row ++ rest)))) _
      rw [e]
      simpa using a
    · show some (_, rest) = some (nots (bangs ([33] :: (row ++ rest))) y, rest)
      rw [e]; rfl
theorem sgl_paren {x : Tn} {row : List Wd} (h : ExpAble X free x row) : NegAble X free x ([40] :: (row ++ [[41]])) := fun rest hr => by
  refine neg0 (by decide) ?_
  unfold SglP
  refine iteP (show hd _ = [40] from rfl) ⟨some (x, [41] :: rest), ?_, rfl⟩
  have := h ([41] :: rest) (ES.of (by decide))
  simpa using this
end
end Law


set_option Elab.async false
set_option linter.all false
set_option maxRecDepth 100000
set_option maxHeartbeats 4000000
namespace Law
open PySem L2 L2.Sp
section
variable {X : Bool → List Wd → Res → Prop} {free : Bool}
theorem plain_no : ∀ u ∈ plainW, u ≠ [40] ∧ u ≠ [91] ∧ u ≠ [123] ∧ u ≠ [64] ∧ u ≠ [46, 46] ∧ u ≠ [33] ∧ numB u = false ∧ u.take 1 ≠ [34] := by decide
theorem numB_no {u : Wd} (h : numB u = true) : u ≠ [40] ∧ u ≠ [91] ∧ u ≠ [123] ∧ u ≠ [64] ∧ u ≠ [46, 46] ∧ u ≠ [33] ∧ u ≠ [93] ∧ u ≠ [125] ∧ u ≠ [44] := by
  refine ⟨?_, ?_, ?_, ?_, ?_, ?_, ?_, ?_, ?_⟩ <;> (rintro rfl; cases h)
theorem neg_word {u : Wd} (h : u ∈ plainW) : NegAble X free (.tup [.str kWord, .str u]) [u] := fun rest _ => by
  obtain ⟨h1, h2, h3, h4, h5, h6, h7, h8⟩ := plain_no u h
  refine neg0 h6 ?_
  unfold SglP
  exact iteN h1 (iteN h2 (iteN h3 (iteN (fun z => h4 z.1) (iteN (fun z => h5 z.1) (iteN (show ¬ numB u = true by rw [h7]; decide) (iteN h8 (iteP h rfl)))))))
theorem neg_one {u : Wd} (h : numB u = true) : NegAble X free (tSpan (.int (numV u)) (.int (numV u))) [u] := fun rest hr => by
  obtain ⟨h1, h2, h3, h4, h5, h6, _⟩ := numB_no h
  refine neg0 h6 ?_
  unfold SglP
  exact iteN h1 (iteN h2 (iteN h3 (iteN (fun z => h4 z.1) (iteN (fun z => h5 z.1) (iteP h (iteN hr.no.1 rfl))))))
theorem neg_from {u : Wd} (h : numB u = true) : NegAble X free (tSpan (.int (numV u)) .non) [u, [46, 46]] := fun rest hr => by
  obtain ⟨h1, h2, h3, h4, h5, h6, _⟩ := numB_no h
  refine neg0 h6 ?_
  unfold SglP
  exact iteN h1 (iteN h2 (iteN h3 (iteN (fun z => h4 z.1) (iteN (fun z => h5 z.1) (iteP h (iteP rfl (iteN (show ¬ numB (hd rest) = true by rw [hr.no.2.2]; decide) rfl)))))))
theorem neg_two {u v : Wd} (h : numB u = true) (hv : numB v = true) : NegAble X free (tSpan (.int (numV u)) (.int (numV v))) [u, [46, 46], v] := fun rest hr => by
  obtain ⟨h1, h2, h3, h4, h5, h6, _⟩ := numB_no h
  refine neg0 h6 ?_
  unfold SglP
  exact iteN h1 (iteN h2 (iteN h3 (iteN (fun z => h4 z.1) (iteN (fun z => h5 z.1) (iteP h (iteP rfl (iteP hv rfl)))))))
theorem neg_upto {v : Wd} (hv : numB v = true) : NegAble X free (tSpan .non (.int (numV v))) [[46, 46], v] := fun rest hr => by
  refine neg0 (by decide) ?_
  unfold SglP
  exact iteN (show ([46, 46] : Wd) ≠ [40] by decide) (iteN (show ([46, 46] : Wd) ≠ [91] by decide) (iteN (show ([46, 46] : Wd) ≠ [123] by decide) (iteN (fun z => (show ([46, 46] : Wd) ≠ [64] by decide) z.1) (iteP ⟨rfl, hv⟩ rfl))))
theorem neg_text {b : List Nat} : NegAble X free (.tup [.str kText, .str b]) [34 :: (b ++ [34])] := fun rest hr => by
  have no : ∀ u : Wd, u.length ≤ 2 → u.head? ≠ some 34 → (34 :: (b ++ [34]) : Wd) ≠ u := fun u _ h2 e => h2 (by rw [← e]; rfl)
  refine neg0 (no _ (by decide) (by decide)) ?_
  unfold SglP
  refine iteN (no _ (by decide) (by decide)) (iteN (no _ (by decide) (by decide)) (iteN (no _ (by decide) (by decide)) (iteN (fun z => no _ (by decide) (by decide) z.1) (iteN (fun z => no _ (by decide) (by decide) z.1) (iteN (by show ¬ numB (34 :: (b ++ [34])) = true; intro z; cases z) (iteP rfl ?_))))))
  show _ = some (Tn.tup [.str kText, .str (b ++ [34]).dropLast], rest)
  rw [List.dropLast_concat]
def pathW (ns : List Wd) : List Wd := joinW [46] (ns.map ([·]))
theorem names_run {rest : List Wd} (hr : hd rest ≠ [46]) : ∀ {ns : List Wd} {ns0 : List Wd}, (∀ n ∈ ns, isNameB n = true) → ∃ k, NamesP k ns0 (tails [46] (ns.map ([·])) ++ rest) (some (ns0 ++ ns, rest))
  | [], ns0, _ => ⟨0, by rw [List.append_nil]; exact .stop hr⟩
  | n :: ns, ns0, h => by
    obtain ⟨k, hk⟩ := names_run hr (ns := ns) (ns0 := ns0 ++ [n]) fun x hx => h x (by simp [hx])
    refine ⟨k + 1, ?_⟩
    rw [List.map_cons, tails_cons]
    have := NamesP.on (ns := ns0) (h n (by simp)) hk
    simpa using this
theorem neg_place {ns : List Wd} (h0 : ns ≠ []) (h : ∀ n ∈ ns, isNameB n = true) : NegAble X true (.tup [.str kPlace, .tup (ns.map Tn.str)]) ([64] :: pathW ns) := fun rest hr => by
  refine neg0 (by decide) ?_
  unfold SglP
  refine iteN (show ([64] : Wd) ≠ [40] by decide) (iteN (show ([64] : Wd) ≠ [91] by decide) (iteN (show ([64] : Wd) ≠ [123] by decide) (iteP ⟨rfl, rfl⟩ ⟨some (ns, rest), ?_, rfl⟩)))
  obtain ⟨n, ns, rfl⟩ := List.exists_cons_of_ne_nil h0
  obtain ⟨k, hk⟩ := names_run hr.no.2.1 (ns := ns) (ns0 := [n]) fun x hx => h x (by simp [hx])
  unfold NamesOf
  refine iteP (show isNameB n = true from h n (by simp)) ⟨k, ?_⟩
  exact hk
structure HeadOk (row : List Wd) : Prop where
  ex : ∃ u r, row = u :: r ∧ u ≠ [93] ∧ u ≠ [125] ∧ (u = [46, 46] → ∃ v r', r = v :: r' ∧ numB v = true)
def dotsR (m : Bool) : List (List Wd) := if m then [[[46, 46]]] else []
def dotsW (m : Bool) : List Wd := if m then [[46, 46]] else []
theorem end_dots {c : Wd} (hc : c ≠ [46, 46]) (m : Bool) (rest : List Wd) : endF c (dotsW m ++ c :: rest) = some (m, rest) := by
  unfold endF
  cases m with
  | true => rw [if_pos (show hd (dotsW true ++ c :: rest) = [46, 46] from rfl), if_pos (show hd (dotsW true ++ c :: rest).tail = c from rfl)]; rfl
  | false => rw [if_neg (show hd (dotsW false ++ c :: rest) ≠ [46, 46] from hc), if_pos (show hd (dotsW false ++ c :: rest) = c from rfl)]; rfl
theorem has_row {c : Wd} (hc : c = [93] ∨ c = [125]) {row rest : List Wd} (h : HeadOk row) : hasF c 0 (row ++ rest) = some (true, row ++ rest) := by
  obtain ⟨u, r, rfl, h1, h2, h3⟩ := h.ex
  have hu : u ≠ c := by rcases hc with rfl | rfl <;> assumption
  unfold hasF
  rw [if_neg (show hd (u :: r ++ rest) ≠ c from hu), if_neg (by decide)]
  congr 2
  by_cases e : u = [46, 46]
  · obtain ⟨v, r', rfl, hv⟩ := h3 e
    have : v ≠ c := by
      rcases hc with rfl | rfl
      · exact (numB_no hv).2.2.2.2.2.2.1
      · exact (numB_no hv).2.2.2.2.2.2.2.1
    show (!(decide (u = [46, 46]) && decide (v = c))) = true
    rw [decide_eq_false this, Bool.and_false]; rfl
  · show (!(decide (u = [46, 46]) && _)) = true
    rw [decide_eq_false e, Bool.false_and]; rfl
theorem has_com {c : Wd} (hc : c = [93] ∨ c = [125]) {n : Nat} (hn : 0 < n) {row rest : List Wd} (h : HeadOk row) : hasF c n ([44] :: (row ++ rest)) = some (true, row ++ rest) := by
  obtain ⟨u, r, rfl, h1, h2, h3⟩ := h.ex
  have h0 : ([44] : Wd) ≠ c := by rcases hc with rfl | rfl <;> decide
  unfold hasF
  rw [if_neg (show hd ([44] :: (u :: r ++ rest)) ≠ c from h0), if_pos hn, if_pos (show hd ([44] :: (u :: r ++ rest)) = [44] from rfl)]
  congr 2
  by_cases e : u = [46, 46]
  · obtain ⟨v, r', rfl, hv⟩ := h3 e
    have : v ≠ c := by
      rcases hc with rfl | rfl
      · exact (numB_no hv).2.2.2.2.2.2.1
      · exact (numB_no hv).2.2.2.2.2.2.2.1
    show (!(decide (u = [46, 46]) && decide (v = c))) = true
    rw [decide_eq_false this, Bool.and_false]; rfl
  · show (!(decide (u = [46, 46]) && _)) = true
    rw [decide_eq_false e, Bool.false_and]; rfl
theorem has_end0 {c : Wd} (hc : c = [93] ∨ c = [125]) (m : Bool) (rest : List Wd) : hasF c 0 (dotsW m ++ c :: rest) = some (false, dotsW m ++ c :: rest) := by
  unfold hasF
  cases m with
  | false => rw [if_pos (show hd (dotsW false ++ c :: rest) = c from rfl)]
  | true =>
    have h0 : ([46, 46] : Wd) ≠ c := by rcases hc with rfl | rfl <;> decide
    rw [if_neg (show hd (dotsW true ++ c :: rest) ≠ c from h0), if_neg (by decide)]
    congr 2
    show (!(decide (([46, 46] : Wd) = [46, 46]) && decide (c = c))) = false
    simp
theorem has_endS {c : Wd} (hc : c = [93] ∨ c = [125]) {n : Nat} (hn : 0 < n) (m : Bool) (rest : List Wd) : hasF c n (tails [44] (dotsR m) ++ c :: rest) = some (false, dotsW m ++ c :: rest) := by
  cases m with
  | false =>
    unfold hasF
    rw [if_pos (show hd (tails [44] (dotsR false) ++ c :: rest) = c from rfl)]
    rfl
  | true =>
    have h0 : ([44] : Wd) ≠ c := by rcases hc with rfl | rfl <;> decide
    show hasF c n ([44] :: [46, 46] :: c :: rest) = some (false, [46, 46] :: c :: rest)
    unfold hasF
    rw [if_neg (show hd ([44] :: [46, 46] :: c :: rest) ≠ c from h0), if_pos hn, if_pos (show hd ([44] :: [46, 46] :: c :: rest) = [44] from rfl)]
    congr 2
    show (!(decide (([46, 46] : Wd) = [46, 46]) && decide (c = c))) = false
    simp
theorem es_tails {c : Wd} (hc : c ∈ eStop) {rows : List (List Wd)} {rest : List Wd} : ES (tails [44] rows ++ c :: rest) := by
  cases rows with
  | nil => exact ES.of hc
  | cons r rs => rw [tails_cons]; exact ES.of (by decide)
theorem items_tail {m : Bool} {rest : List Wd} : ∀ {ts : List Tn} {rows : List (List Wd)} {ts0 : List Tn}, 0 < ts0.length → All2 (ExpAble X false) ts rows → (∀ row ∈ rows, HeadOk row) → ∃ k, ItemsP X k ts0 (tails [44] (rows ++ dotsR m) ++ [93] :: rest) (some (ts0 ++ ts, dotsW m ++ [93] :: rest))
  | _, _, ts0, hn, .nil, _ => ⟨0, by
    rw [List.append_nil, List.nil_append]
    exact .stop (has_endS (.inl rfl) hn m rest)⟩
  | _, _, ts0, hn, @All2.cons _ _ _ t row ts rows a as, hh => by
    obtain ⟨k, hk⟩ := items_tail (m := m) (rest := rest) (ts0 := ts0 ++ [t]) (by simp) as fun x hx => hh x (by simp [hx])
    refine ⟨k + 1, ?_⟩
    rw [List.cons_append, tails_cons, List.cons_append, List.append_assoc]
    have := ItemsP.on (has_com (.inl rfl) hn (hh row (by simp))) (a _ (es_tails (by decide))) hk
    simpa using this
theorem neg_list {ts : List Tn} {rows : List (List Wd)} {m : Bool} (h : All2 (ExpAble X false) ts rows) (hh : ∀ row ∈ rows, HeadOk row) : NegAble X free (.tup [.str kList, .tup ts, .bl m]) ([91] :: (joinW [44] (rows ++ dotsR m) ++ [[93]])) := fun rest hr => by
  refine neg0 (by decide) ?_
  unfold SglP
  refine iteN (show ([91] : Wd) ≠ [40] by decide) (iteP rfl ?_)
  show ListP X (joinW [44] (rows ++ dotsR m) ++ [[93]] ++ rest) _
  have e0 : joinW [44] (rows ++ dotsR m) ++ [[93]] ++ rest = joinW [44] (rows ++ dotsR m) ++ [93] :: rest := by simp
  rw [e0]
  have fin : ∀ k, ItemsP X k [] (joinW [44] (rows ++ dotsR m) ++ [93] :: rest) (some (ts, dotsW m ++ [93] :: rest)) → ListP X (joinW [44] (rows ++ dotsR m) ++ [93] :: rest) (some (.tup [.str kList, .tup ts, .bl m], rest)) := fun k hk => ⟨k, _, hk, by
    show _ = (endF [93] (dotsW m ++ [93] :: rest)).map _
    rw [end_dots (by decide)]; rfl⟩
  cases h with
  | nil =>
    refine fin 0 ?_
    have e1 : joinW [44] ([] ++ dotsR m) ++ [93] :: rest = dotsW m ++ [93] :: rest := by cases m <;> rfl
    rw [e1]
    exact .stop (has_end0 (.inl rfl) m rest)
  | @cons t row ts rows a as =>
    obtain ⟨k, hk⟩ := items_tail (m := m) (rest := rest) (ts0 := [t]) (by simp) as fun x hx => hh x (by simp [hx])
    refine fin (k + 1) ?_
    rw [List.cons_append]
    show ItemsP X (k + 1) [] (row ++ tails [44] (rows ++ dotsR m) ++ [93] :: rest) _
    rw [List.append_assoc]
    exact ItemsP.on (has_row (.inl rfl) (hh row (by simp))) (a _ (es_tails (by decide))) hk
def fieldW (n : Wd) (must : Bool) (row : List Wd) : List Wd := [n] ++ (if must then [] else [[63]]) ++ [[58]] ++ row
theorem field_ok {n : Wd} {must : Bool} {t : Tn} {row : List Wd} (hn : isNameB n = true) (h : ExpAble X false t row) {rest : List Wd} (hr : ES rest) : FieldP X (fieldW n must row ++ rest) (some ((n, t, must), rest)) := by
  unfold FieldP
  refine iteP (show isNameB n = true from hn) ?_
  cases must with
  | true => exact iteN (show ([58] : Wd) ≠ [63] by decide) (iteP rfl ⟨_, h rest hr, rfl⟩)
  | false => exact iteP rfl (iteP rfl ⟨_, h rest hr, rfl⟩)
theorem field_head {n : Wd} {must : Bool} {row : List Wd} (hn : isNameB n = true) : HeadOk (fieldW n must row) := ⟨⟨n, _, rfl, (by rintro rfl; cases hn), (by rintro rfl; cases hn), (by rintro rfl; cases hn)⟩⟩
def FRow (X : Bool → List Wd → Res → Prop) (f : Wd × Tn × Bool) (row : List Wd) : Prop := ∃ r, row = fieldW f.1 f.2.2 r ∧ isNameB f.1 = true ∧ ExpAble X false f.2.1 r
theorem fields_tail {m : Bool} {rest : List Wd} : ∀ {fs : List (Wd × Tn × Bool)} {rows : List (List Wd)} {fs0 : List (Wd × Tn × Bool)}, 0 < fs0.length → All2 (FRow X) fs rows → ((fs0 ++ fs).map (·.1)).Nodup → ∃ k, FieldsP X k fs0 (tails [44] (rows ++ dotsR m) ++ [125] :: rest) (some (fs0 ++ fs, dotsW m ++ [125] :: rest))
  | _, _, fs0, hn, .nil, _ => ⟨0, by
    rw [List.append_nil, List.nil_append]
    exact .stop (has_endS (.inr rfl) hn m rest)⟩
  | _, _, fs0, hn, @All2.cons _ _ _ f row fs rows a as, hh => by
    obtain ⟨k, hk⟩ := fields_tail (m := m) (rest := rest) (fs0 := fs0 ++ [f]) (by simp) as (by simpa using hh)
    refine ⟨k + 1, ?_⟩
    obtain ⟨r, rfl, h1, h2⟩ := a
    rw [List.cons_append, tails_cons, List.cons_append, List.append_assoc]
    have hnot : f.1 ∉ fs0.map (·.1) := by
      rw [List.map_append, List.map_cons, List.nodup_append] at hh
      intro z
      exact hh.2.2 f.1 z f.1 (by simp) rfl
    have := FieldsP.on (has_com (.inr rfl) hn (field_head h1)) (field_ok h1 h2 (es_tails (by decide))) hnot hk
    simpa using this
theorem neg_rec {fs : List (Wd × Tn × Bool)} {rows : List (List Wd)} {m : Bool} (h : All2 (FRow X) fs rows) (hh : (fs.map (·.1)).Nodup) : NegAble X free (.tup [.str kRec, .tup (fs.map fldT), .bl m]) ([123] :: (joinW [44] (rows ++ dotsR m) ++ [[125]])) := fun rest hr => by
  refine neg0 (by decide) ?_
  unfold SglP
  refine iteN (show ([123] : Wd) ≠ [40] by decide) (iteN (show ([123] : Wd) ≠ [91] by decide) (iteP rfl ?_))
  show RecP X (joinW [44] (rows ++ dotsR m) ++ [[125]] ++ rest) _
  have e0 : joinW [44] (rows ++ dotsR m) ++ [[125]] ++ rest = joinW [44] (rows ++ dotsR m) ++ [125] :: rest := by simp
  rw [e0]
  have fin : ∀ k, FieldsP X k [] (joinW [44] (rows ++ dotsR m) ++ [125] :: rest) (some (fs, dotsW m ++ [125] :: rest)) → RecP X (joinW [44] (rows ++ dotsR m) ++ [125] :: rest) (some (.tup [.str kRec, .tup (fs.map fldT), .bl m], rest)) := fun k hk => ⟨k, _, hk, by
    show _ = (endF [125] (dotsW m ++ [125] :: rest)).map _
    rw [end_dots (by decide)]; rfl⟩
  cases h with
  | nil =>
    refine fin 0 ?_
    have e1 : joinW [44] ([] ++ dotsR m) ++ [125] :: rest = dotsW m ++ [125] :: rest := by cases m <;> rfl
    rw [e1]
    exact .stop (has_end0 (.inr rfl) m rest)
  | @cons f row fs rows a as =>
    obtain ⟨k, hk⟩ := fields_tail (m := m) (rest := rest) (fs0 := [f]) (by simp) as (by simpa using hh)
    refine fin (k + 1) ?_
    obtain ⟨r, rfl, h1, h2⟩ := a
    rw [List.cons_append]
    show FieldsP X (k + 1) [] (fieldW f.1 f.2.2 r ++ tails [44] (rows ++ dotsR m) ++ [125] :: rest) _
    rw [List.append_assoc]
    exact FieldsP.on (has_row (.inr rfl) (field_head h1)) (field_ok h1 h2 (es_tails (by decide))) (by simp) hk
end
end Law


set_option Elab.async false
set_option linter.all false
set_option maxRecDepth 100000
set_option maxHeartbeats 4000000
namespace Law
open PySem L2 L2.Sp
def numW (n : Int) : Wd := (Str.ofString (toString n)).cps.toList
theorem S_numW (n : Int) : S (numW n) = Str.ofString (toString n) := rfl
def digW (m : Nat) : Wd := (Nat.toDigits 10 m).map Char.toNat
theorem numW_nat (m : Nat) : numW (m : Int) = digW m := PySem.W.KIN.signs_num m
theorem numW_neg (m : Nat) : numW (Int.negSucc m) = 45 :: digW (m + 1) := by
  unfold numW
  rw [PyProof.Rows.signs_ofString]
  have e : toString (Int.negSucc m) = "-" ++ Nat.repr (m + 1) := rfl
  rw [e, String.toList_append, Nat.toList_repr, List.map_append]
  rfl
theorem dig_F (m : Nat) : ∀ c ∈ digW m, isF c = true := fun c hc => by
  obtain ⟨ch, hch, e⟩ := List.mem_map.mp hc
  have r := PyProof.Rows.digit_range (Nat.isDigit_of_mem_toDigits (by decide) (by decide) hch)
  rw [← e]
  unfold isF
  simp only [Bool.and_eq_true, decide_eq_true_eq]
  exact r
theorem dig_ne (m : Nat) : digW m ≠ [] := fun e => by
  have h := PyProof.Rows.tDigits_len_ge 10 m
  rw [List.map_eq_nil_iff.mp e] at h
  exact absurd h (by decide)
theorem dig_head (m : Nat) : (digW m).head? ≠ some 48 ∨ digW m = [48] := by
  induction m using Nat.strongRecOn with
  | _ m ih =>
    by_cases h : m < 10
    · have : ∀ m, m < 10 → (digW m).head? ≠ some 48 ∨ digW m = [48] := by decide +kernel
      exact this m h
    · have hm : m % 10 < 10 := Nat.mod_lt m (by decide)
      have t : Nat.toDigits 10 (m / 10) ++ Nat.toDigits 10 (m % 10) = Nat.toDigits 10 (10 * (m / 10) + m % 10) := Nat.toDigits_append_toDigits (by decide) (by omega) hm
      rw [Nat.div_add_mod] at t
      have e : digW m = digW (m / 10) ++ digW (m % 10) := by unfold digW; rw [← t, List.map_append]
      have hne := dig_ne (m / 10)
      refine .inl ?_
      rw [e]
      obtain ⟨c, r, er⟩ := List.exists_cons_of_ne_nil hne
      rcases ih (m / 10) (by omega) with hh | hh
      · rw [er] at hh ⊢; exact hh
      · exfalso
        have hv := PySem.W.KIN.val_back (m / 10)
        have hh' : (Nat.toDigits 10 (m / 10)).map Char.toNat = [48] := hh
        rw [hh'] at hv
        have : PySem.NumText.digitsVal [48] = 0 := rfl
        omega
theorem dig_len {m k : Nat} (hk : 1 ≤ k) (h : m < 10 ^ k) : (digW m).length ≤ k := by
  unfold digW
  rw [List.length_map]
  exact PyProof.Rows.digits10_le hk h
theorem numW_num {n : Int} (h : n.natAbs < 10 ^ 60) : Num (numW n) := by
  cases n with
  | ofNat m =>
    have e : numW (Int.ofNat m) = digW m := numW_nat m
    refine ⟨[], digW m, e, .inl rfl, dig_ne m, dig_F m, dig_len (by decide) h, ?_⟩
    rw [e]; exact dig_head m
  | negSucc m =>
    have e := numW_neg m
    refine ⟨[45], digW (m + 1), by rw [e]; rfl, .inr rfl, dig_ne _, dig_F _, dig_len (by decide) h, ?_⟩
    rcases dig_head (m + 1) with hh | hh
    · exact .inl hh
    · exfalso
      have hv := PySem.W.KIN.val_back (m + 1)
      have hh' : (Nat.toDigits 10 (m + 1)).map Char.toNat = [48] := hh
      rw [hh'] at hv
      have : PySem.NumText.digitsVal [48] = 0 := rfl
      omega
theorem fig_dig (m : Nat) : figV (digW m) = m := PySem.W.KIN.val_back m
theorem numW_B (n : Int) : numB (numW n) = true := by
  cases n with
  | ofNat m =>
    have e : numW (Int.ofNat m) = digW m := numW_nat m
    rw [e]
    obtain ⟨c, r, er⟩ := List.exists_cons_of_ne_nil (dig_ne m)
    have := dig_F m c (by rw [er]; simp)
    rw [er]
    show (decide (c = 45) || isF c) = true
    rw [this, Bool.or_true]
  | negSucc m => rw [numW_neg]; rfl
theorem numW_V (n : Int) : numV (numW n) = n := by
  cases n with
  | ofNat m =>
    have e : numW (Int.ofNat m) = digW m := numW_nat m
    rw [e]
    obtain ⟨c, r, er⟩ := List.exists_cons_of_ne_nil (dig_ne m)
    have hc := isF_rng (dig_F m c (by rw [er]; simp))
    have e2 : numV (digW m) = (figV (digW m) : Int) := by
      rw [er]
      unfold numV
      split
      · rename_i heq; cases heq; omega
      · rfl
    rw [e2, fig_dig]; rfl
  | negSucc m =>
    rw [numW_neg]
    show -((figV (digW (m + 1)) : Nat) : Int) = _
    rw [fig_dig]; rfl
structure NameOk (n : Wd) : Prop where
  nm : isNameB n = true
  len : n.length ≤ 20
def oI : Option Int → Tn
  | none => .non
  | some i => .int i
def IOk (i : Int) : Prop := i.natAbs < 10 ^ 53
theorem numW_len {i : Int} (h : IOk i) : (numW i).length ≤ 54 := by
  cases i with
  | ofNat m =>
    have e : numW (Int.ofNat m) = digW m := numW_nat m
    rw [e]
    have := dig_len (m := m) (k := 53) (by decide) h
    omega
  | negSucc m =>
    rw [numW_neg, List.length_cons]
    have := dig_len (m := m + 1) (k := 53) (by decide) h
    omega
inductive LfT : Tn → Prop
  | word {u} : u ∈ plainW → LfT (.tup [.str kWord, .str u])
  | span {a b} : (a ≠ none ∨ b ≠ none) → (∀ i, a = some i → IOk i) → (∀ i, b = some i → IOk i) → LfT (tSpan (oI a) (oI b))
  | text {b} : (∀ c ∈ b, sgB c = true) → b.length ≤ 20 → LfT (.tup [.str kText, .str b])
inductive PlT : Tn → Prop
  | mk {ns : List Wd} : ns ≠ [] → ns.length ≤ 4 → (∀ n ∈ ns, NameOk n) → PlT (.tup [.str kPlace, .tup (ns.map Tn.str)])
def GT (mx : Nat → Nat) : Nat → Bool → Tn → Prop
  | 0, pl, x => LfT x ∨ (pl = true ∧ PlT x)
  | n + 1, pl, x => LfT x ∨ (pl = true ∧ PlT x) ∨
    (∃ ts m, x = .tup [.str kList, .tup ts, .bl m] ∧ ts.length ≤ mx (n + 1) ∧ ∀ t ∈ ts, GT mx n false t) ∨
    (∃ (fs : List (Wd × Tn × Bool)) (m : Bool), x = .tup [.str kRec, .tup (fs.map fldT), .bl m] ∧ fs.length ≤ mx (n + 1) ∧ (fs.map (·.1)).Nodup ∧ ∀ f ∈ fs, NameOk f.1 ∧ GT mx n false f.2.1) ∨
    (∃ t, x = .tup [.str kNot, t] ∧ GT mx n false t) ∨
    (∃ k ts, (k = kAnd ∨ k = kOr) ∧ x = .tup [.str k, .tup ts] ∧ 2 ≤ ts.length ∧ ts.length ≤ mx (n + 1) ∧ ∀ t ∈ ts, GT mx n pl t)
def oW : Option Int → List Wd
  | none => []
  | some i => [numW i]
inductive LfP : Tn → List Wd → Prop
  | word {u} : u ∈ plainW → LfP (.tup [.str kWord, .str u]) [u]
  | one {i} : IOk i → LfP (tSpan (.int i) (.int i)) [numW i]
  | span {a b} : (a ≠ none ∨ b ≠ none) → (∀ i, a = some i → IOk i) → (∀ i, b = some i → IOk i) → LfP (tSpan (oI a) (oI b)) (oW a ++ [[46, 46]] ++ oW b)
  | text {b} : (∀ c ∈ b, sgB c = true) → b.length ≤ 20 → LfP (.tup [.str kText, .str b]) [34 :: (b ++ [34])]
inductive PlP : Tn → List Wd → Prop
  | mk {ns : List Wd} : ns ≠ [] → ns.length ≤ 4 → (∀ n ∈ ns, NameOk n) → PlP (.tup [.str kPlace, .tup (ns.map Tn.str)]) ([64] :: pathW ns)
def isK (k : Wd) : Tn → Bool
  | .tup (.str u :: _) => decide (u = k)
  | _ => false
def isAO (x : Tn) : Bool := isK kAnd x || isK kOr x
def Row (P : Tn → List Wd → Prop) (tied : Bool) (x : Tn) (row : List Wd) : Prop := ∃ ws, P x ws ∧ (row = [40] :: (ws ++ [[41]]) ∨ (tied = false ∧ row = ws))
def FRw (P : Tn → List Wd → Prop) (f : Wd × Tn × Bool) (row : List Wd) : Prop := ∃ r, row = fieldW f.1 f.2.2 r ∧ NameOk f.1 ∧ Row P false f.2.1 r
def PrW (mx : Nat → Nat) : Nat → Bool → Tn → List Wd → Prop
  | 0, pl, x, ws => LfP x ws ∨ (pl = true ∧ PlP x ws)
  | n + 1, pl, x, ws => LfP x ws ∨ (pl = true ∧ PlP x ws) ∨
    (∃ ts rows m, x = .tup [.str kList, .tup ts, .bl m] ∧ ts.length ≤ mx (n + 1) ∧ All2 (Row (PrW mx n false) false) ts rows ∧ ws = [91] :: (joinW [44] (rows ++ dotsR m) ++ [[93]])) ∨
    (∃ (fs : List (Wd × Tn × Bool)) (rows : List (List Wd)) (m : Bool), x = .tup [.str kRec, .tup (fs.map fldT), .bl m] ∧ fs.length ≤ mx (n + 1) ∧ (fs.map (·.1)).Nodup ∧ All2 (FRw (PrW mx n false)) fs rows ∧ ws = [123] :: (joinW [44] (rows ++ dotsR m) ++ [[125]])) ∨
    (∃ t row, x = .tup [.str kNot, t] ∧ Row (PrW mx n false) (isAO t) t row ∧ ws = [33] :: row) ∨
    (∃ ts rows, x = .tup [.str kAnd, .tup ts] ∧ 2 ≤ ts.length ∧ ts.length ≤ mx (n + 1) ∧ All2 (fun t row => Row (PrW mx n pl) (isAO t) t row) ts rows ∧ ws = joinW [38] rows) ∨
    (∃ ts rows, x = .tup [.str kOr, .tup ts] ∧ 2 ≤ ts.length ∧ ts.length ≤ mx (n + 1) ∧ All2 (fun t row => Row (PrW mx n pl) (isK kOr t) t row) ts rows ∧ ws = joinW [124] rows)
end Law


set_option Elab.async false
set_option linter.all false
set_option maxRecDepth 100000
set_option maxHeartbeats 4000000
namespace Law
open PySem L2 L2.Sp
section
variable {X Y : Bool → List Wd → Res → Prop} {free : Bool}
theorem NegAble.mono (k : ∀ f r res, X f r res → Y f r res) {x : Tn} {row : List Wd} (h : NegAble X free x row) : NegAble Y free x row := fun rest hr => (h rest hr).mono k
theorem ExpAble.mono (k : ∀ f r res, X f r res → Y f r res) {x : Tn} {row : List Wd} (h : ExpAble X free x row) : ExpAble Y free x row := fun rest hr => k _ _ _ (h rest hr)
theorem AndAble.mono (k : ∀ f r res, X f r res → Y f r res) {x : Tn} {row : List Wd} (h : AndAble X free x row) : AndAble Y free x row := by
  obtain ⟨y, ys, r, rs, e, h1, h2, h3⟩ := h
  exact ⟨y, ys, r, rs, e, h1.mono k, h2.imp fun a _ b hb => hb.mono k, h3⟩
theorem HeadOk.app {row r : List Wd} (h : HeadOk row) : HeadOk (row ++ r) := by
  obtain ⟨u, s, rfl, h1, h2, h3⟩ := h.ex
  refine ⟨u, s ++ r, rfl, h1, h2, fun e => ?_⟩
  obtain ⟨v, r', rfl, hv⟩ := h3 e
  exact ⟨v, r' ++ r, rfl, hv⟩
theorem HeadOk.lit {u : Wd} {r : List Wd} (h1 : u ≠ [93]) (h2 : u ≠ [125]) (h3 : u ≠ [46, 46]) : HeadOk (u :: r) := ⟨u, r, rfl, h1, h2, fun e => absurd e h3⟩
theorem HeadOk.join {s : Wd} {r : List Wd} {rs : List (List Wd)} (h : HeadOk r) : HeadOk (joinW s (r :: rs)) := h.app
theorem name_no {n : Wd} (h : isNameB n = true) : n ≠ [93] ∧ n ≠ [125] ∧ n ≠ [46, 46] ∧ n ≠ [46] := by
  refine ⟨?_, ?_, ?_, ?_⟩ <;> (rintro rfl; cases h)
theorem leaf_neg {x : Tn} {ws : List Wd} (h : LfP x ws) : NegAble X free x ws ∧ HeadOk ws ∧ isAO x = false := by
  cases h with
  | word hu =>
    obtain ⟨h1, h2, h3, h4, h5, h6, h7, h8⟩ := plain_no _ hu
    refine ⟨neg_word hu, HeadOk.lit ?_ ?_ h5, rfl⟩
    · rintro rfl; revert hu; decide
    · rintro rfl; revert hu; decide
  | @one i hi =>
    have hb := numW_B i
    have := neg_one (X := X) (free := free) hb
    rw [numW_V] at this
    obtain ⟨h1, h2, h3, h4, h5, h6, h7, h8, h9⟩ := numB_no hb
    exact ⟨this, HeadOk.lit h7 h8 h5, rfl⟩
  | @span a b hab ha hb =>
    refine ⟨?_, ?_, rfl⟩
    · cases a with
      | none =>
        cases b with
        | none => exact (hab.elim (fun z => z rfl) fun z => z rfl).elim
        | some j =>
          have := neg_upto (X := X) (free := free) (numW_B j)
          rw [numW_V] at this
          exact this
      | some i =>
        cases b with
        | none =>
          have := neg_from (X := X) (free := free) (numW_B i)
          rw [numW_V] at this
          exact this
        | some j =>
          have := neg_two (X := X) (free := free) (numW_B i) (numW_B j)
          rw [numW_V, numW_V] at this
          exact this
    · cases a with
      | none =>
        cases b with
        | none => exact (hab.elim (fun z => z rfl) fun z => z rfl).elim
        | some j => exact ⟨[46, 46], [numW j], rfl, by decide, by decide, fun _ => ⟨_, _, rfl, numW_B j⟩⟩
      | some i =>
        obtain ⟨h1, h2, h3, h4, h5, h6, h7, h8, h9⟩ := numB_no (numW_B i)
        exact HeadOk.lit h7 h8 h5
  | text hc hl =>
    refine ⟨neg_text, HeadOk.lit ?_ ?_ ?_, rfl⟩ <;> (intro e; cases e)
theorem row_exp {mx : Nat → Nat} {n : Nat} {pl free : Bool} {x : Tn} {row : List Wd} {N : Nat} (h : ∀ ws, PrW mx n pl x ws → ExpAble (Exn N) free x ws ∧ HeadOk ws) (hr : Row (PrW mx n pl) false x row) : ExpAble (Exn (N + 1)) free x row ∧ HeadOk row := by
  obtain ⟨ws, hw, hr⟩ := hr
  obtain ⟨h1, h2⟩ := h ws hw
  rcases hr with rfl | ⟨_, rfl⟩
  · exact ⟨exp_and (sgl_paren h1).and, HeadOk.lit (by decide) (by decide) (by decide)⟩
  · exact ⟨h1.mono (Exn.succ N), h2⟩
theorem row_neg {mx : Nat → Nat} {n : Nat} {pl free tied : Bool} {x : Tn} {row : List Wd} {N : Nat} (h : ∀ ws, PrW mx n pl x ws → (tied = false → NegAble (Exn (N + 1)) free x ws) ∧ ExpAble (Exn (N + 1)) free x ws ∧ HeadOk ws) (hr : Row (PrW mx n pl) tied x row) : NegAble (Exn (N + 1)) free x row ∧ HeadOk row := by
  obtain ⟨ws, hw, hr⟩ := hr
  obtain ⟨h1, h2, h3⟩ := h ws hw
  rcases hr with rfl | ⟨e, rfl⟩
  · exact ⟨sgl_paren h2, HeadOk.lit (by decide) (by decide) (by decide)⟩
  · exact ⟨h1 e, h3⟩
theorem row_and {mx : Nat → Nat} {n : Nat} {pl free tied : Bool} {x : Tn} {row : List Wd} {N : Nat} (h : ∀ ws, PrW mx n pl x ws → (tied = false → AndAble (Exn (N + 1)) free x ws) ∧ ExpAble (Exn (N + 1)) free x ws ∧ HeadOk ws) (hr : Row (PrW mx n pl) tied x row) : AndAble (Exn (N + 1)) free x row ∧ HeadOk row := by
  obtain ⟨ws, hw, hr⟩ := hr
  obtain ⟨h1, h2, h3⟩ := h ws hw
  rcases hr with rfl | ⟨e, rfl⟩
  · exact ⟨(sgl_paren h2).and, HeadOk.lit (by decide) (by decide) (by decide)⟩
  · exact ⟨h1 e, h3⟩
end
/-- what reading promises of what is written -/
structure RdOk (N : Nat) (free : Bool) (x : Tn) (ws : List Wd) : Prop where
  neg : isAO x = false → NegAble (Exn N) free x ws
  and : isK kOr x = false → AndAble (Exn N) free x ws
  exp : ExpAble (Exn (N + 1)) free x ws
  head : HeadOk ws
theorem RdOk.simple {N : Nat} {free : Bool} {x : Tn} {ws : List Wd} (h : NegAble (Exn N) free x ws) (hh : HeadOk ws) : RdOk N free x ws := ⟨fun _ => h, fun _ => h.and, exp_and h.and, hh⟩
theorem two_ne {α : Type} {l : List α} (h : 2 ≤ l.length) : ∃ a b r, l = a :: b :: r := by
  match l, h with
  | a :: b :: r, _ => exact ⟨a, b, r, rfl⟩
theorem one_two (k : Wd) {ts : List Tn} (h : 2 ≤ ts.length) : one k ts = .tup [.str k, .tup ts] := by
  obtain ⟨a, b, r, rfl⟩ := two_ne h
  rfl
theorem rd_ok (mx : Nat → Nat) : ∀ (n : Nat) (pl free : Bool) (x : Tn) (ws : List Wd), (pl = true → free = true) → PrW mx n pl x ws → RdOk (2 * n) free x ws
  | 0, pl, free, x, ws, hf, h => by
    rcases h with h | ⟨hp, h⟩
    · obtain ⟨h1, h2, _⟩ := leaf_neg h
      exact .simple h1 h2
    · rw [hf hp]
      cases h with
      | mk h0 hl hn => exact .simple (neg_place h0 fun n h => (hn n h).nm) (HeadOk.lit (by decide) (by decide) (by decide))
  | n + 1, pl, free, x, ws, hf, h => by
    have ih := rd_ok mx n
    have up : ∀ f r res, Exn (2 * n) f r res → Exn (2 * (n + 1)) f r res := fun f r res => Exn.mono (by omega)
    have up1 : ∀ f r res, Exn (2 * n + 1) f r res → Exn (2 * (n + 1)) f r res := fun f r res => Exn.mono (by omega)
    have child : ∀ {pl free : Bool} {x : Tn} {row : List Wd}, (pl = true → free = true) → Row (PrW mx n pl) false x row → ExpAble (Exn (2 * (n + 1))) free x row ∧ HeadOk row := fun {pl free x row} hf hr =>
      row_exp (N := 2 * n + 1) (fun ws hw => ⟨(ih pl free x ws hf hw).exp, (ih pl free x ws hf hw).head⟩) hr
    have childN : ∀ {pl free : Bool} {x : Tn} {row : List Wd}, (pl = true → free = true) → Row (PrW mx n pl) (isAO x) x row → NegAble (Exn (2 * (n + 1))) free x row ∧ HeadOk row := fun {pl free x row} hf hr =>
      row_neg (N := 2 * n + 1) (fun ws hw => ⟨fun e => ((ih pl free x ws hf hw).neg e).mono up, (ih pl free x ws hf hw).exp.mono up1, (ih pl free x ws hf hw).head⟩) hr
    have childA : ∀ {pl free : Bool} {x : Tn} {row : List Wd}, (pl = true → free = true) → Row (PrW mx n pl) (isK kOr x) x row → AndAble (Exn (2 * (n + 1))) free x row ∧ HeadOk row := fun {pl free x row} hf hr =>
      row_and (N := 2 * n + 1) (fun ws hw => ⟨fun e => ((ih pl free x ws hf hw).and e).mono up, (ih pl free x ws hf hw).exp.mono up1, (ih pl free x ws hf hw).head⟩) hr
    have ff : (false = true → (false : Bool) = true) := fun z => z
    rcases h with h | ⟨hp, h⟩ | ⟨ts, rows, m, rfl, hl, ha, rfl⟩ | ⟨fs, rows, m, rfl, hl, hd, ha, rfl⟩ | ⟨t, row, rfl, hr, rfl⟩ | ⟨ts, rows, rfl, h2, hl, ha, rfl⟩ | ⟨ts, rows, rfl, h2, hl, ha, rfl⟩
    · obtain ⟨h1, h2, _⟩ := leaf_neg h
      exact .simple h1 h2
    · rw [hf hp]
      cases h with
      | mk h0 hl hn => exact .simple (neg_place h0 fun n h => (hn n h).nm) (HeadOk.lit (by decide) (by decide) (by decide))
    · refine .simple (neg_list (ha.imp fun t _ row hr => (child ff hr).1) ?_) (HeadOk.lit (by decide) (by decide) (by decide))
      clear hl
      induction ha with
      | nil => intro row hr; cases hr
      | cons a _ ih2 =>
        intro row hr
        rcases List.mem_cons.mp hr with rfl | hr
        · exact (child ff a).2
        · exact ih2 row hr
    · refine .simple (neg_rec (ha.imp fun f _ row hr => ?_) hd) (HeadOk.lit (by decide) (by decide) (by decide))
      obtain ⟨r, e, h1, h2⟩ := hr
      exact ⟨r, e, h1.nm, (child ff h2).1⟩
    · exact .simple (negS (childN ff hr).1) (HeadOk.lit (by decide) (by decide) (by decide))
    · have ha' : All2 (fun t row => NegAble (Exn (2 * (n + 1))) free t row ∧ HeadOk row) ts rows := ha.imp fun t _ row hr => childN hf hr
      cases ha' with
      | nil => exact absurd h2 (by decide)
      | @cons t row ts rows a as =>
        have hA : AndAble (Exn (2 * (n + 1))) free (.tup [.str kAnd, .tup (t :: ts)]) (joinW [38] (row :: rows)) := ⟨t, ts, row, rows, one_two kAnd h2, a.1, as.imp fun _ _ _ h => h.1, rfl⟩
        exact ⟨fun e => Bool.noConfusion (show true = false from e), fun _ => hA, exp_and hA, a.2.join⟩
    · have ha' : All2 (fun t row => AndAble (Exn (2 * (n + 1))) free t row ∧ HeadOk row) ts rows := ha.imp fun t _ row hr => childA hf hr
      cases ha' with
      | nil => exact absurd h2 (by decide)
      | @cons t row ts rows a as =>
        have hE := exp_or a.1 (as.imp fun _ _ _ h => h.1)
        rw [one_two kOr h2] at hE
        exact ⟨fun e => Bool.noConfusion (show true = false from e), fun e => Bool.noConfusion (show true = false from e), hE, a.2.join⟩
end Law


set_option Elab.async false
set_option linter.all false
set_option maxRecDepth 100000
set_option maxHeartbeats 4000000
namespace Law
open PySem L2 L2.Sp
structure WdOk (u : Wd) : Prop where
  tok : TokW u
  len : u.length ≤ 54
  asc : ∀ c ∈ u, c < 128
inductive DotOk : List Wd → Prop
  | nil : DotOk []
  | cons {u r} : u ≠ [46] → DotOk r → DotOk (u :: r)
  | dot {n r} : isNameB n = true → DotOk r → DotOk ([46] :: n :: r)
theorem DotOk.app {xs ys : List Wd} (h : DotOk xs) (h' : DotOk ys) : DotOk (xs ++ ys) := by
  induction h with
  | nil => exact h'
  | cons a _ ih => exact .cons a ih
  | dot a _ ih => exact .dot a ih
structure WsF (B : Nat) (ws : List Wd) : Prop where
  ok : ∀ u ∈ ws, WdOk u
  dot : DotOk ws
  len : ws.length ≤ B
theorem WsF.app {a b : Nat} {xs ys : List Wd} (h : WsF a xs) (h' : WsF b ys) : WsF (a + b) (xs ++ ys) :=
  ⟨fun u hu => (List.mem_append.mp hu).elim (h.ok u) (h'.ok u), h.dot.app h'.dot, by have := h.len; have := h'.len; rw [List.length_append]; omega⟩
theorem WsF.nil : WsF 0 [] := ⟨fun u hu => (by cases hu), DotOk.nil, Nat.le_refl _⟩
theorem WsF.cons {a : Nat} {u : Wd} {xs : List Wd} (hu : WdOk u) (hd : u ≠ [46]) (h : WsF a xs) : WsF (a + 1) (u :: xs) :=
  ⟨fun v hv => (List.mem_cons.mp hv).elim (fun e => e ▸ hu) (h.ok v), .cons hd h.dot, by have := h.len; simp; omega⟩
theorem WsF.mono {a b : Nat} {xs : List Wd} (h : WsF a xs) (hab : a ≤ b) : WsF b xs := ⟨h.ok, h.dot, Nat.le_trans h.len hab⟩
theorem WsF.tails {s : Wd} (hs : WdOk s) (hd : s ≠ [46]) {b : Nat} : ∀ {rows : List (List Wd)}, (∀ row ∈ rows, WsF b row) → WsF (rows.length * (b + 1)) (tails s rows)
  | [], _ => by simpa [Law.tails] using WsF.nil
  | r :: rs, h => by
    rw [tails_cons, List.length_cons]
    have ih := WsF.tails hs hd (rows := rs) fun row hr => h row (by simp [hr])
    have := WsF.cons hs hd ((h r (by simp)).app ih)
    refine this.mono ?_
    rw [Nat.succ_mul]; omega
theorem WsF.join {s : Wd} (hs : WdOk s) (hd : s ≠ [46]) {b : Nat} {rows : List (List Wd)} (h : ∀ row ∈ rows, WsF b row) : WsF (rows.length * (b + 1)) (joinW s rows) := by
  cases rows with
  | nil => simpa [joinW] using WsF.nil
  | cons r rs =>
    have ih := WsF.tails hs hd (rows := rs) fun row hr => h row (by simp [hr])
    have := (h r (by simp)).app ih
    refine this.mono ?_
    rw [List.length_cons, Nat.succ_mul]; omega
theorem sgn_ok {c : Nat} (h : c ∈ single) : WdOk [c] := ⟨.inr (.inr (.inr (.inr ⟨c, h, rfl⟩))), by show 1 ≤ 54; decide, fun x hx => by
  rw [List.mem_singleton.mp hx]
  have : ∀ c ∈ single, c < 128 := by decide
  exact this c h⟩
theorem dots_ok : WdOk [46, 46] := ⟨.inr (.inr (.inr (.inl rfl))), by decide, by decide⟩
theorem let_ok {u : Wd} (h : isNameB u = true) (hl : u.length ≤ 54) : WdOk u := by
  unfold isNameB at h
  rw [Bool.and_eq_true, decide_eq_true_iff, List.all_eq_true] at h
  refine ⟨.inl ⟨h.1, h.2⟩, hl, fun c hc => ?_⟩
  have := h.2 c hc
  unfold isL at this
  simp only [Bool.and_eq_true, decide_eq_true_eq] at this
  omega
theorem plain_name : ∀ u ∈ plainW, isNameB u = true ∧ u.length ≤ 54 ∧ u ≠ [46] := by decide
theorem num_ok {i : Int} (h : IOk i) : WdOk (numW i) ∧ numW i ≠ [46] := by
  have hn := numW_num (Nat.lt_trans h (by decide))
  refine ⟨⟨.inr (.inl hn), numW_len h, fun c hc => ?_⟩, fun e => by have := numW_B i; rw [e] at this; cases this⟩
  obtain ⟨sn, fs, e, hsn, _, hf, _⟩ := hn
  rw [e] at hc
  rcases List.mem_append.mp hc with z | z
  · rcases hsn with rfl | rfl
    · cases z
    · rw [List.mem_singleton.mp z]; decide
  · have := (isF_rng (hf c z)).2; omega
theorem quo_ok {b : List Nat} (h : ∀ c ∈ b, sgB c = true) (hl : b.length ≤ 20) : WdOk (34 :: (b ++ [34])) ∧ (34 :: (b ++ [34]) : Wd) ≠ [46] := by
  refine ⟨⟨.inr (.inr (.inl ⟨b, h, rfl⟩)), by simp; omega, fun c hc => ?_⟩, fun e => by cases e⟩
  rcases List.mem_cons.mp hc with rfl | hc
  · decide
  · rcases List.mem_append.mp hc with z | z
    · have := h c z
      unfold sgB at this
      simp only [Bool.and_eq_true, decide_eq_true_eq] at this
      omega
    · rw [List.mem_singleton.mp z]; decide
theorem lf_ok {x : Tn} {ws : List Wd} (h : LfP x ws) : WsF 3 ws := by
  have ow : ∀ {a : Option Int}, (∀ i, a = some i → IOk i) → WsF 1 (oW a) := fun {a} h => by
    cases a with
    | none => exact WsF.nil.mono (by omega)
    | some i => exact (WsF.cons (num_ok (h i rfl)).1 (num_ok (h i rfl)).2 WsF.nil).mono (by omega)
  cases h with
  | word hu =>
    obtain ⟨h1, h2, h3⟩ := plain_name _ hu
    exact (WsF.cons (let_ok h1 h2) h3 WsF.nil).mono (by omega)
  | one hi => exact (WsF.cons (num_ok hi).1 (num_ok hi).2 WsF.nil).mono (by omega)
  | span hab ha hb => exact (((ow ha).app (WsF.cons dots_ok (by decide) WsF.nil)).app (ow hb)).mono (by omega)
  | text hc hl => exact (WsF.cons (quo_ok hc hl).1 (quo_ok hc hl).2 WsF.nil).mono (by omega)
theorem path_tail : ∀ {ns : List Wd}, (∀ n ∈ ns, NameOk n) → WsF (2 * ns.length) (tails [46] (ns.map ([·])))
  | [], _ => by simpa [tails] using WsF.nil
  | n :: ns, h => by
    have ih := path_tail (ns := ns) fun x hx => h x (by simp [hx])
    have hn := h n (by simp)
    have w := let_ok hn.nm (by have := hn.len; omega)
    rw [List.map_cons, tails_cons]
    refine ⟨fun u hu => ?_, .dot hn.nm ih.dot, ?_⟩
    · rcases List.mem_cons.mp hu with rfl | hu
      · exact sgn_ok (by decide)
      · rcases List.mem_cons.mp hu with rfl | hu
        · exact w
        · exact ih.ok u hu
    · have := ih.len
      simp at this ⊢
      omega
theorem path_ok {ns : List Wd} (h : ∀ n ∈ ns, NameOk n) (hl : ns.length ≤ 4) : WsF 8 (pathW ns) := by
  cases ns with
  | nil => simpa [pathW, joinW] using WsF.nil.mono (by omega)
  | cons n ns =>
    have hn := h n (by simp)
    have w := let_ok hn.nm (by have := hn.len; omega)
    have := WsF.cons w (name_no hn.nm).2.2.2 (path_tail (ns := ns) fun x hx => h x (by simp [hx]))
    refine this.mono ?_
    simp at hl
    omega
def cnt (mx : Nat → Nat) : Nat → Nat
  | 0 => 9
  | n + 1 => mx (n + 1) * (cnt mx n + 6) + 4
theorem All2.right {α β : Type} {F : α → β → Prop} {Q : β → Prop} {as : List α} {bs : List β} (h : All2 F as bs) (k : ∀ a b, F a b → Q b) : ∀ b ∈ bs, Q b := by
  induction h with
  | nil => intro b hb; cases hb
  | cons a _ ih =>
    intro b hb
    rcases List.mem_cons.mp hb with rfl | hb
    · exact k _ _ a
    · exact ih b hb
theorem row_ok {P : Tn → List Wd → Prop} {b : Nat} {tied : Bool} {x : Tn} {row : List Wd} (h : ∀ ws, P x ws → WsF b ws) (hr : Row P tied x row) : WsF (b + 2) row := by
  obtain ⟨ws, hw, hr⟩ := hr
  rcases hr with rfl | ⟨_, rfl⟩
  · exact (WsF.cons (sgn_ok (by decide)) (by decide) ((h ws hw).app (WsF.cons (sgn_ok (by decide)) (by decide) WsF.nil))).mono (by omega)
  · exact (h _ hw).mono (by omega)
theorem joinW_app {s : Wd} {rows rs : List (List Wd)} (h : rows ≠ []) : joinW s (rows ++ rs) = joinW s rows ++ tails s rs := by
  obtain ⟨r, rows, rfl⟩ := List.exists_cons_of_ne_nil h
  show r ++ tails s (rows ++ rs) = r ++ tails s rows ++ tails s rs
  rw [List.append_assoc]
  congr 1
  simp [tails]
theorem join_dots {b : Nat} {rows : List (List Wd)} {m : Bool} {l r : Nat} (hl : l ∈ single) (hr : r ∈ single) (h1 : l ≠ 46) (h2 : r ≠ 46) (h : ∀ row ∈ rows, WsF b row) : WsF (rows.length * (b + 1) + 4) ([l] :: (joinW [44] (rows ++ dotsR m) ++ [[r]])) := by
  have hd : WsF 2 (tails [44] (dotsR m)) := by
    cases m with
    | false => exact WsF.nil.mono (by omega)
    | true => exact WsF.cons (sgn_ok (by decide)) (by decide) (WsF.cons dots_ok (by decide) WsF.nil)
  have hj : WsF (rows.length * (b + 1) + 2) (joinW [44] (rows ++ dotsR m)) := by
    by_cases e : rows = []
    · subst e
      cases m with
      | false => exact WsF.nil.mono (by omega)
      | true => exact (WsF.cons dots_ok (by decide) WsF.nil).mono (by simp)
    · rw [joinW_app e]
      exact (WsF.join (s := [44]) (sgn_ok (by decide)) (by decide) h).app hd
  exact (WsF.cons (sgn_ok hl) (by simpa using h1) (hj.app (WsF.cons (sgn_ok hr) (by simpa using h2) WsF.nil))).mono (by omega)
theorem prw_ok {mx : Nat → Nat} (hm : ∀ n, 1 ≤ mx n) : ∀ (n : Nat) (pl : Bool) (x : Tn) (ws : List Wd), PrW mx n pl x ws → WsF (cnt mx n) ws
  | 0, pl, x, ws, h => by
    rcases h with h | ⟨_, h⟩
    · exact (lf_ok h).mono (by show 3 ≤ 9; omega)
    · cases h with
      | mk h0 hl hn => exact (WsF.cons (sgn_ok (by decide)) (by decide) (path_ok hn hl)).mono (by show 8 + 1 ≤ 9; omega)
  | n + 1, pl, x, ws, h => by
    have ih := prw_ok hm n
    have e : cnt mx (n + 1) = mx (n + 1) * (cnt mx n + 6) + 4 := rfl
    have h1 := hm (n + 1)
    have big : cnt mx n + 10 ≤ cnt mx (n + 1) := by
      rw [e]
      have := Nat.mul_le_mul_right (cnt mx n + 6) h1
      omega
    have big9 : 9 ≤ cnt mx (n + 1) := by omega
    have rw' : ∀ {pl tied : Bool} {x : Tn} {row : List Wd}, Row (PrW mx n pl) tied x row → WsF (cnt mx n + 2) row := fun {pl tied x row} hr => row_ok (fun ws hw => ih pl x ws hw) hr
    have wide : ∀ {a c : Nat}, a ≤ mx (n + 1) → c ≤ cnt mx n + 6 → a * c + 4 ≤ cnt mx (n + 1) := fun {a c} ha hc => by
      rw [e]
      have := Nat.mul_le_mul ha hc
      omega
    rcases h with h | ⟨hp, h⟩ | ⟨ts, rows, m, rfl, hl, ha, rfl⟩ | ⟨fs, rows, m, rfl, hl, hd, ha, rfl⟩ | ⟨t, row, rfl, hr, rfl⟩ | ⟨ts, rows, rfl, h2, hl, ha, rfl⟩ | ⟨ts, rows, rfl, h2, hl, ha, rfl⟩
    · exact (lf_ok h).mono (by omega)
    · cases h with
      | mk h0 hl hn => exact (WsF.cons (sgn_ok (by decide)) (by decide) (path_ok hn hl)).mono (by omega)
    · refine (join_dots (b := cnt mx n + 2) (by decide) (by decide) (by decide) (by decide) (ha.right fun a b hb => rw' hb)).mono ?_
      rw [← ha.length]
      exact wide hl (by omega)
    · refine (join_dots (b := cnt mx n + 5) (by decide) (by decide) (by decide) (by decide) (ha.right fun f b hb => ?_)).mono ?_
      · obtain ⟨r, rfl, hn, hr⟩ := hb
        have w := let_ok hn.nm (by have := hn.len; omega)
        have col := WsF.cons (sgn_ok (c := 58) (by decide)) (by decide) (rw' hr)
        have nn := (name_no hn.nm).2.2.2
        unfold fieldW
        cases f.2.2 with
        | true => exact (WsF.cons w nn col).mono (by omega)
        | false => exact (WsF.cons w nn (WsF.cons (sgn_ok (c := 63) (by decide)) (by decide) col)).mono (by omega)
      · rw [← ha.length]
        exact wide hl (by omega)
    · exact (WsF.cons (sgn_ok (by decide)) (by decide) (rw' hr)).mono (by omega)
    · refine (WsF.join (s := [38]) (sgn_ok (by decide)) (by decide) (ha.right fun a b hb => rw' hb)).mono ?_
      rw [← ha.length]
      have := wide hl (c := cnt mx n + 2 + 1) (by omega)
      omega
    · refine (WsF.join (s := [124]) (sgn_ok (by decide)) (by decide) (ha.right fun a b hb => rw' hb)).mono ?_
      rw [← ha.length]
      have := wide hl (c := cnt mx n + 2 + 1) (by omega)
      omega
end Law


set_option Elab.async false
set_option linter.all false
set_option maxRecDepth 100000
set_option maxHeartbeats 4000000
namespace Law
open PySem L2 L2.Sp
theorem S_app (a b : List Nat) : (S a ++ S b : Str) = S (a ++ b) := by
  show (⟨a.toArray ++ b.toArray⟩ : Str) = ⟨(a ++ b).toArray⟩
  simp
theorem S_fit2 {a b : List Nat} (h : a.length + b.length ≤ 100000) : (S a).length + (S b).length ≤ sizeLine := by rw [S_len, S_len]; have : sizeLine = 16777216 := sizeLine_eq; omega
theorem at_nat {α : Type} {xs : List α} {r : Int} (h0 : 0 ≤ r) (h1 : r < xs.length) : ∃ x, x ∈ xs ∧ atI xs r = some x := by
  obtain ⟨k, rfl⟩ := Int.eq_ofNat_of_zero_le h0
  have hk : k < xs.length := by omega
  exact ⟨xs[k], List.getElem_mem hk, atI_nat (List.getElem?_eq_getElem hk)⟩
theorem at_ST {xs : List Wd} {r : Int} (h0 : 0 ≤ r) (h1 : r < xs.length) : ∃ x, x ∈ xs ∧ atI (ST xs) r = some (.str (S x)) := by
  obtain ⟨k, rfl⟩ := Int.eq_ofNat_of_zero_le h0
  have hk : k < xs.length := by omega
  exact ⟨xs[k], List.getElem_mem hk, atI_nat (by rw [List.getElem?_map, List.getElem?_eq_getElem hk]; rfl)⟩
/-- a drawing state, since the start H0 -/
structure DS (st : Addr) (H0 H : Hp) : Prop where
  g : Grow st H0 H
  s : ∃ y : Int, H st = some (.lst [.int y])
  b : ∃ x : Int, H0 st = some (.lst [.int x])
section
variable {K : PySem.W.Frag} {H0 H H' : Hp} {st l : Addr} {o : HO}
theorem DS.start {x : Int} (h : H st = some (.lst [.int x])) : DS st H H := ⟨Grow.refl, ⟨x, h⟩, ⟨x, h⟩⟩
theorem DS.same (d : DS st H0 H) (g : Same H H') : DS st H0 H' := ⟨fun b o hb h => g _ _ (d.g b o hb h), by obtain ⟨y, h⟩ := d.s; exact ⟨y, g _ _ h⟩, d.b⟩
theorem DS.more (d : DS st H0 H) (d' : DS st H H') : DS st H0 H' := ⟨d.g.trans d'.g, d'.s, d.b⟩
theorem DS.next (d : DS st H0 H) (y : Int) : DS st H0 (upd H st (.lst [.int y])) := ⟨d.g.trans grow_upd, ⟨y, upd_same⟩, d.b⟩
theorem DS.old (d : DS st H0 H) (hl : H l = none) : H0 l = none := by
  cases e : H0 l with
  | none => rfl
  | some o =>
    by_cases e2 : l = st
    · obtain ⟨y, h⟩ := d.s; rw [e2, h] at hl; cases hl
    · rw [d.g l o e2 e] at hl; cases hl
theorem DS.ne (d : DS st H0 H) (hl : H0 l = none) : l ≠ st := fun e => by obtain ⟨x, h⟩ := d.b; rw [← e, hl] at h; cases h
theorem DS.put (d : DS st H0 H) (hl : H0 l = none) : DS st H0 (upd H l o) := by
  have n := d.ne hl
  exact ⟨fun b u hb h => by rw [upd_ne (ne_of_none h hl)]; exact d.g b u hb h, by obtain ⟨y, h⟩ := d.s; exact ⟨y, by rw [upd_ne (Ne.symm n)]; exact h⟩, d.b⟩
theorem DS.kp (d : DS st H0 H) : Kp K H0 H := by
  obtain ⟨x, h⟩ := d.b
  exact Grow.tups d.g (fun xs z => by rw [h] at z; cases z) (fun xs o z => by rw [h] at z; cases z)
end
section
variable {P : Program} {w : World} {K : PySem.W.Frag} {mg : Str → Option Value} {base : Heap} {f : Addr} {fd : FuncData}
theorem pe_cal0 {X : Cx} {k : Nat} {x : Str} {sp : Sp} {p pos : Pos} (C : Cal X.prog X.w X.K X.mg X.base k x [] sp) (hr : Room k X.A) (hg : Gl X x) (hdb : (x == ("__debug__" : Str)) = false := by decide) :
    PE X (.Call (.Name x p) [] [] pos) (tCall sp [] E0 tNil) := by
  obtain ⟨f, fd, F, a, b, c⟩ := C.ex
  exact pe_call0 F hr hg a b c .nil pass0 hdb
abbrev sNext : Stmt := top 35
theorem scNext : FnScope ["_law_state", "_law_many"] ["_law_state", "_law_many"] (defScope sNext) := ⟨rfl, rfl, rfl, by decide +kernel, rfl, by decide +kernel, by decide +kernel⟩
def spNext : Sp := fun vs H Q _ => ∃ (st : Addr) (x m : Int), vs = [.ref st, .int m] ∧ H st = some (.lst [.int x]) ∧ 0 < m ∧ ∀ y r : Int, 0 ≤ r → r < m → Q (.int r) (upd H st (.lst [.int y]))
theorem ok_next (F : Fun K "_law_next" "_law_next" sNext f fd) : FnOk P w K mg base CX0 1 f fd ["_law_state", "_law_many"] spNext := by
  refine F.ok scNext (fun vs H Q E h => ?_) (fun cdv A outer s H vs Q E hr h => ?_)
  · obtain ⟨st, x, m, rfl, _⟩ := h
    rfl
  obtain ⟨st, x, m, rfl, hs, hm, q⟩ := h
  refine ⟨_, pss_cons (ps_asg (pe_op op_mod (pe_op op_add (pe_op op_mul (pe_ix ix_list (pv 0) pe_int (fun _ _ => rfl)) pe_int) pe_int) (pe_op op_sub (pe_op op_pow pe_int pe_int) pe_int)) (pg_sub (pv 0) pe_int set_list))
    (pss_one (ps_ret (pe_op op_mod (pe_op op_fdiv (pe_ix ix_list (pv 0) pe_int (fun _ _ => rfl)) pe_int) (pv 1)))), ?_⟩
  refine ⟨_, rfl, st, _, _, _, rfl, rfl, SqL.of hs, rfl, _, _, rfl, rfl, .inr ⟨by decide, by decide⟩, _, _, rfl, rfl, _, _, rfl, rfl, ⟨by decide, by decide, by decide⟩, _, _, rfl, rfl, _, _, rfl, rfl, (by show (0 : Int) < 2 ^ Int.toNat 61 - 1; decide), ?_⟩
  refine ⟨_, rfl, st, _, _, _, rfl, rfl, hs, rfl, ?_⟩
  refine ⟨_, rfl, st, _, _, _, rfl, rfl, SqL.of upd_same, rfl, _, _, rfl, rfl, ⟨by decide, by decide⟩, _, rfl, _, _, rfl, rfl, hm, ?_⟩
  exact q _ _ (Int.emod_nonneg _ (by omega)) (Int.emod_lt_of_pos _ hm)
def lets : List Nat := [97, 98, 99, 100, 101, 102, 103, 104, 105, 106, 107, 108, 109, 110, 111, 112, 113, 114, 115, 116, 117, 118, 119, 120, 121, 122]
theorem litaz : (Str.ofString "abcdefghijklmnopqrstuvwxyz" : Str) = S lets := by decide +kernel
theorem lets_L : ∀ c ∈ lets, isL c = true := by decide
abbrev sLet : Stmt := top 37
theorem scLet : FnScope ["_law_state", "_law_many", "_law_span_here", "_law_word", "_law_k"] ["_law_state", "_law_many", "_law_span_here"] (defScope sLet) := ⟨rfl, rfl, rfl, by decide +kernel, rfl, by decide +kernel, by decide +kernel⟩
def spLet : Sp := fun args H Q _ => ∃ (st : Addr) (x : Int) (m : Nat) (sp : Int), args = [.ref st, .int (m : Int), .int sp] ∧ H st = some (.lst [.int x]) ∧ m ≤ 20 ∧ 0 < sp ∧ sp ≤ 26 ∧
  ∀ (H' : Hp) (v : Wd), DS st H H' → (∀ c ∈ v, isL c = true) → v.length = m → Q (.str (S v)) H'
theorem ok_let (F : Fun K "_law_letters" "_law_letters" sLet f fd) (N : Cal P w K mg base 1 "_law_next" ["_law_state", "_law_many"] spNext) (m1 : mg "range" = none) : FnOk P w K mg base CX0 2 f fd ["_law_state", "_law_many", "_law_span_here"] spLet := by
  refine F.ok scLet (fun vs H Q E h => ?_) (fun cdv A outer s H vs Q E hr h => ?_)
  · obtain ⟨st, x, m, sp, rfl, _⟩ := h
    rfl
  obtain ⟨st, x, m, sp, rfl, hs, hm, hp0, hp1, q⟩ := h
  refine ⟨_, pss_cons (ps_set (i := 3) scLet.nd rfl (Or.inl rfl) pe_str)
    (pss_cons (ps_for PassesOwn.never rfl (pi_range1 rfl m1 (pa_cons (pv 1) pa_nil)) (pg_name (i := 4) scLet.nd rfl (Or.inl rfl))
      (pss_one (ps_aug (i := 3) scLet.nd rfl (Or.inl rfl) (pe_ix ix_str pe_str (pe_cal N hr rfl (pa_cons (pv 0) (pa_cons (pv 2) pa_nil))) (fun _ _ => rfl)) iop_add_str)))
    (pss_one (ps_ret (pv 3)))), ?_⟩
  have D0 := DS.start hs
  refine ⟨_, rfl, (m : Int), rfl, by omega, by omega, ?_⟩
  refine for_range (fun i σ H' => ∃ (v : Wd) (z : Option V), σ = [some (.ref st), some (.int (m : Int)), some (.int sp), some (.str (S v)), z] ∧ DS st H H' ∧ (∀ c ∈ v, isL c = true) ∧ v.length = i)
    ⟨[], none, by show _ = _; rw [lit0]; rfl, D0, fun c hc => (by cases hc), rfl⟩ (fun i σ H' hi hinv => ?_) (fun σ H' hinv => ?_)
  · obtain ⟨v, z, rfl, d, hv, hl⟩ := hinv
    obtain ⟨y, hy⟩ := d.s
    refine ⟨_, rfl, _, rfl, _, rfl, st, y, _, rfl, hy, hp0, fun y2 r r0 r1 => ?_⟩
    obtain ⟨c, hc, hat⟩ := at_nat (xs := lets) r0 (by show r < 26; omega)
    refine ⟨_, _, c, rfl, rfl, by rw [litaz]; exact S_fit (by decide), by rw [litaz]; exact hat, ?_⟩
    refine ⟨_, _, rfl, rfl, S_fit2 (b := [c]) (by simp; omega), v ++ [c], some (.int (0 + (i : Int))), ?_, d.next y2, fun x hx => ?_, by simp [hl]⟩
    · rw [show (⟨#[c]⟩ : Str) = S [c] from rfl, S_app]; rfl
    · rcases List.mem_append.mp hx with h | h
      · exact hv x h
      · rw [List.mem_singleton.mp h]; exact lets_L c hc
  · obtain ⟨v, z, rfl, d, hv, hl⟩ := hinv
    exact ⟨_, rfl, q H' v d hv hl⟩
abbrev sPlain : Stmt := top 38
theorem scPlain : FnScope [] [] (defScope sPlain) := ⟨rfl, rfl, rfl, by decide +kernel, rfl, by decide +kernel, by decide +kernel⟩
def spPlain : Sp := fun args H Q _ => args = [] ∧ ∀ l, H l = none → Q (.ref l) (upd H l (.lst (ST plainW)))
theorem lp0 : (Str.ofString "none" : Str) = S [110, 111, 110, 101] := by decide +kernel
theorem lp1 : (Str.ofString "yes" : Str) = S [121, 101, 115] := by decide +kernel
theorem lp2 : (Str.ofString "no" : Str) = S [110, 111] := by decide +kernel
theorem lp3 : (Str.ofString "truth" : Str) = S [116, 114, 117, 116, 104] := by decide +kernel
theorem lp4 : (Str.ofString "number" : Str) = S [110, 117, 109, 98, 101, 114] := by decide +kernel
theorem lp5 : (Str.ofString "text" : Str) = S [116, 101, 120, 116] := by decide +kernel
theorem lp6 : (Str.ofString "list" : Str) = S [108, 105, 115, 116] := by decide +kernel
theorem lp7 : (Str.ofString "record" : Str) = S [114, 101, 99, 111, 114, 100] := by decide +kernel
theorem lp8 : (Str.ofString "any" : Str) = S [97, 110, 121] := by decide +kernel
theorem lp9 : (Str.ofString "nothing" : Str) = S [110, 111, 116, 104, 105, 110, 103] := by decide +kernel
theorem lp10 : (Str.ofString "else" : Str) = S [101, 108, 115, 101] := by decide +kernel
theorem lp11 : (Str.ofString "elses" : Str) = S [101, 108, 115, 101, 115] := by decide +kernel
theorem litPlain : [V.str (Str.ofString "none"), .str (Str.ofString "yes"), .str (Str.ofString "no"), .str (Str.ofString "truth"), .str (Str.ofString "number"), .str (Str.ofString "text"), .str (Str.ofString "list"), .str (Str.ofString "record"), .str (Str.ofString "any"), .str (Str.ofString "nothing")] = ST plainW := by rw [lp0, lp1, lp2, lp3, lp4, lp5, lp6, lp7, lp8, lp9]; rfl
theorem ok_plain (F : Fun K "_law_plain" "_law_plain" sPlain f fd) : FnOk P w K mg base CX0 1 f fd [] spPlain := by
  refine F.ok scPlain (fun vs H Q E h => ?_) (fun cdv A outer s H vs Q E hr h => ?_)
  · obtain ⟨rfl, _⟩ := h
    rfl
  obtain ⟨rfl, q⟩ := h
  refine ⟨_, pss_one (ps_ret (pe_lst (pa_cons pe_str (pa_cons pe_str (pa_cons pe_str (pa_cons pe_str (pa_cons pe_str (pa_cons pe_str (pa_cons pe_str (pa_cons pe_str (pa_cons pe_str (pa_cons pe_str pa_nil)))))))))))), ?_⟩
  refine ⟨by show 10 ≤ sizeLine; decide, fun l hl => ?_⟩
  have := q l hl
  rw [← litPlain] at this
  exact this
abbrev sNm : Stmt := top 39
theorem scNm : FnScope ["_law_state", "_law_way"] ["_law_state"] (defScope sNm) := ⟨rfl, rfl, rfl, by decide +kernel, rfl, by decide +kernel, by decide +kernel⟩
def spNm : Sp := fun args H Q _ => ∃ (st : Addr) (x : Int), args = [.ref st] ∧ H st = some (.lst [.int x]) ∧ ∀ (H' : Hp) (v : Wd), DS st H H' → NameOk v → Q (.str (S v)) H'
def elseW : List Wd := [[101, 108, 115, 101], [101, 108, 115, 101, 115]]
theorem litElse : [V.str (Str.ofString "else"), .str (Str.ofString "elses")] = ST elseW := by rw [lp10, lp11]; rfl
theorem pe_names : ∀ u ∈ plainW ++ elseW, isNameB u = true ∧ u.length ≤ 20 := by decide
theorem ok_nm (F : Fun K "_law_name" "_law_name" sNm f fd) (N : Cal P w K mg base 1 "_law_next" ["_law_state", "_law_many"] spNext) (L : Cal P w K mg base 2 "_law_letters" ["_law_state", "_law_many", "_law_span_here"] spLet) (PL : Cal P w K mg base 1 "_law_plain" [] spPlain) : FnOk P w K mg base CX0 3 f fd ["_law_state"] spNm := by
  refine F.ok scNm (fun vs H Q E h => ?_) (fun cdv A outer s H vs Q E hr h => ?_)
  · obtain ⟨st, x, rfl, _⟩ := h
    rfl
  obtain ⟨st, x, rfl, hs, q⟩ := h
  have hr1 := hr.mono (show 1 ≤ 2 by decide)
  refine ⟨_, pss_cons (ps_set (i := 1) scNm.nd rfl (Or.inl rfl) (pe_cal N hr1 rfl (pa_cons (pv 0) (pa_cons pe_int pa_nil))))
    (pss_cons (ps_if (pt_cmpR op_eq (pv 1) pe_int (nomark _)) (pss_one (ps_ret (pe_ix ix_list (pe_op op_cat (pe_cal0 PL hr1 rfl) (pe_lst (pa_cons pe_str (pa_cons pe_str pa_nil)))) (pe_cal N hr1 rfl (pa_cons (pv 0) (pa_cons pe_int pa_nil))) (fun _ _ => rfl)))) pss_nil)
    (pss_one (ps_ret (pe_cal L hr rfl (pa_cons (pv 0) (pa_cons (pe_op op_add pe_int (pe_cal N hr1 rfl (pa_cons (pv 0) (pa_cons (pe_ix ix_list (pe_lst (pa_cons pe_int (pa_cons pe_int pa_nil))) (pe_op op_mod (pv 1) pe_int) (fun _ _ => rfl)) pa_nil))))
      (pa_cons (pe_ix ix_list (pe_lst (pa_cons pe_int (pa_cons pe_int pa_nil))) (pe_op op_mod (pe_op op_fdiv (pv 1) pe_int) pe_int) (fun _ _ => rfl)) pa_nil))))))), ?_⟩
  have D0 := DS.start hs
  refine ⟨_, rfl, st, x, 8, rfl, hs, by decide, fun y way w0 w1 => ?_⟩
  have D1 := D0.next y
  obtain ⟨y1, hy1⟩ := D1.s
  refine ⟨_, rfl, rfl, _, rfl, ite2 (fun _ => ?_) (fun _ => ?_)⟩
  · refine ⟨rfl, fun l1 hl1 => ⟨len2, fun l2 hl2 => ?_⟩⟩
    rw [litElse]
    have k1 := same_new hl1 (.lst (ST plainW))
    have k2 := same_new hl2 (.lst (ST elseW))
    refine ⟨l1, l2, _, _, rfl, rfl, k2 _ _ upd_same, upd_same, small_le (by decide), fun l3 hl3 => ?_⟩
    have e : ST plainW ++ ST elseW = ST (plainW ++ elseW) := by simp [ST]
    rw [e]
    have k3 := same_new hl3 (.lst (ST (plainW ++ elseW)))
    have D2 := D1.same (k1.trans (k2.trans k3))
    obtain ⟨y2, hy2⟩ := D2.s
    refine ⟨_, rfl, st, y2, 12, rfl, hy2, by decide, fun y3 r r0 r1 => ?_⟩
    obtain ⟨v, hv, hat⟩ := at_ST (xs := plainW ++ elseW) r0 (by show r < 12; exact r1)
    have n3 : l3 ≠ st := Ne.symm (ne_of_none ((k1.trans k2) _ _ hy1) hl3)
    refine ⟨l3, _, _, _, rfl, rfl, SqL.of (by rw [upd_ne n3]; exact upd_same), hat, q _ v (D2.next y3) ⟨(pe_names v hv).1, (pe_names v hv).2⟩⟩
  · refine ⟨_, rfl, _, rfl, len2, fun l1 hl1 => ?_⟩
    have k1 := same_new hl1 (.lst [.int 3, .int 8])
    have D2 := D1.same k1
    obtain ⟨y2, hy2⟩ := D2.s
    obtain ⟨e1, he1, h38⟩ : ∃ e1 : Int, atI [V.int 3, .int 8] (way % 2) = some (.int e1) ∧ (e1 = 3 ∨ e1 = 8) := by
      have : way % 2 = 0 ∨ way % 2 = 1 := by omega
      rcases this with e | e <;> rw [e]
      · exact ⟨3, rfl, .inl rfl⟩
      · exact ⟨8, rfl, .inr rfl⟩
    refine ⟨_, rfl, _, _, rfl, rfl, (by show (0 : Int) < 2; decide), l1, _, _, .int e1, rfl, rfl, SqL.of upd_same, he1, st, y2, e1, rfl, hy2, by omega, fun y3 r r0 r1 => ?_⟩
    have D3 := D2.next y3
    obtain ⟨k, rfl⟩ := Int.eq_ofNat_of_zero_le r0
    refine ⟨_, _, rfl, rfl, len2, fun l2 hl2 => ?_⟩
    have k2 := same_new hl2 (.lst [.int 2, .int 26])
    have D4 := D3.same k2
    obtain ⟨y4, hy4⟩ := D4.s
    obtain ⟨e2, he2, h226⟩ : ∃ e2 : Int, atI [V.int 2, .int 26] (way / 2 % 2) = some (.int e2) ∧ (e2 = 2 ∨ e2 = 26) := by
      have : way / 2 % 2 = 0 ∨ way / 2 % 2 = 1 := by omega
      rcases this with e | e <;> rw [e]
      · exact ⟨2, rfl, .inl rfl⟩
      · exact ⟨26, rfl, .inr rfl⟩
    refine ⟨_, rfl, _, _, rfl, rfl, ⟨by decide, by decide⟩, _, _, rfl, rfl, (by show (0 : Int) < 2; decide), l2, _, _, .int e2, rfl, rfl, SqL.of upd_same, he2, st, y4, 1 + k, e2, by rw [show ((1 + k : Nat) : Int) = 1 + (k : Int) by omega]; rfl, hy4, by omega, by omega, by omega, fun H5 v d5 hv hvl => ?_⟩
    refine q H5 v (D4.more d5) ⟨?_, by omega⟩
    unfold isNameB
    rw [Bool.and_eq_true, decide_eq_true_iff, List.all_eq_true]
    exact ⟨fun z => by rw [z] at hvl; simp at hvl; omega, hv⟩
end
end Law


set_option Elab.async false
set_option linter.all false
set_option maxRecDepth 100000
set_option maxHeartbeats 4000000
namespace Law
open PySem L2 L2.Sp
section
variable {P : Program} {w : World} {K : PySem.W.Frag} {mg : Str → Option Value} {base : Heap} {f : Addr} {fd : FuncData}
abbrev sNms : Stmt := top 40
theorem scNms : FnScope ["_law_state", "_law_many", "_law_names_here", "_law_k", "_law_name_here"] ["_law_state", "_law_many"] (defScope sNms) := ⟨rfl, rfl, rfl, by decide +kernel, rfl, by decide +kernel, by decide +kernel⟩
def spNms : Sp := fun args H Q _ => ∃ (st : Addr) (x : Int) (m : Nat), args = [.ref st, .int (m : Int)] ∧ H st = some (.lst [.int x]) ∧ m ≤ 100 ∧ ∀ (H' : Hp) (l : Addr) (ns : List Wd), DS st H H' → H l = none → H' l = some (.lst (ST ns)) → ns.Nodup → ns.length ≤ m → (∀ n ∈ ns, NameOk n) → Q (.ref l) H'
theorem ok_nms (F : Fun K "_law_names" "_law_names" sNms f fd) (N : Cal P w K mg base 3 "_law_name" ["_law_state"] spNm) (m1 : mg "range" = none) : FnOk P w K mg base CX0 4 f fd ["_law_state", "_law_many"] spNms := by
  refine F.ok scNms (fun vs H Q E h => ?_) (fun cdv A outer s H vs Q E hr h => ?_)
  · obtain ⟨st, x, m, rfl, _⟩ := h
    rfl
  obtain ⟨st, x, m, rfl, hs, hm, q⟩ := h
  refine ⟨_, pss_cons (ps_set (i := 2) scNms.nd rfl (Or.inl rfl) (pe_lst pa_nil))
    (pss_cons (ps_for PassesOwn.never rfl (pi_range1 rfl m1 (pa_cons (pv 1) pa_nil)) (pg_name (i := 3) scNms.nd rfl (Or.inl rfl))
      (pss_cons (ps_set (i := 4) scNms.nd rfl (Or.inl rfl) (pe_cal N hr rfl (pa_cons (pv 0) pa_nil)))
      (pss_one (ps_if (pt_cmpR op_notIn_seq (pv 4) (pv 2) rfl) (pss_one (ps_expr (pe_bm PySem.F.plainAttrs_list PySem.F.slot_list_append PySem.F.type_list_append mt_append (pv 2) (pa_cons (pv 4) pa_nil)))) pss_nil))))
    (pss_one (ps_ret (pv 2)))), ?_⟩
  have D0 := DS.start hs
  refine ⟨len0, fun l hl => ?_⟩
  have D1 := D0.put (o := .lst []) hl
  refine ⟨_, rfl, (m : Int), rfl, by omega, by omega, ?_⟩
  refine for_range (fun i σ H' => ∃ (ns : List Wd) (b3 b4 : Option V), σ = [some (.ref st), some (.int (m : Int)), some (.ref l), b3, b4] ∧ DS st H H' ∧ H' l = some (.lst (ST ns)) ∧ ns.Nodup ∧ ns.length ≤ i ∧ ∀ n ∈ ns, NameOk n)
    ⟨[], none, none, rfl, D1, upd_same, List.nodup_nil, Nat.le_refl _, fun n hn => (by cases hn)⟩ (fun i σ H' hi hinv => ?_) (fun σ H' hinv => ?_)
  · obtain ⟨ns, b3, b4, rfl, d, hl', hd, hlen, hok⟩ := hinv
    obtain ⟨y, hy⟩ := d.s
    have nl := d.ne hl
    refine ⟨_, rfl, st, y, rfl, hy, fun H2 v d2 hv => ?_⟩
    have d' := d.more d2
    have hl2 := d2.g _ _ nl hl'
    refine ⟨_, rfl, _, rfl, l, _, rfl, .inl (SqL.of hl2), rfl, flat_ST _, _, rfl, ?_⟩
    show if (!inV (.str (S v)) (ST ns)) = true then _ else _
    rw [inV_ST]
    by_cases e : v ∈ ns
    · rw [decide_eq_true e]
      exact iteF ⟨ns, _, _, rfl, d', hl2, hd, by omega, hok⟩
    · rw [decide_eq_false e]
      refine iteT ⟨_, rfl, .inl ⟨rfl, _, SqL.of hl2⟩, _, rfl, l, _, _, rfl, rfl, hl2, by rw [List.length_map]; exact sz_of (by omega), ns ++ [v], some (.int (0 + (i : Int))), _, rfl, d'.put hl, ?_, ?_, by rw [List.length_append, List.length_singleton]; omega, fun n hn => ?_⟩
      · rw [upd_same]; simp [ST]
      · rw [List.nodup_append]
        exact ⟨hd, by simp, fun a ha b hb => by rw [List.mem_singleton.mp hb]; exact fun z => e (z ▸ ha)⟩
      · rcases List.mem_append.mp hn with z | z
        · exact hok n z
        · rw [List.mem_singleton.mp z]; exact hv
  · obtain ⟨ns, b3, b4, rfl, d, hl', hd, hlen, hok⟩ := hinv
    exact ⟨_, rfl, q H' l ns d hl hl' hd hlen hok⟩
abbrev sNo : Stmt := top 41
theorem scNo : FnScope ["_law_state", "_law_number_here", "_law_k"] ["_law_state"] (defScope sNo) := ⟨rfl, rfl, rfl, by decide +kernel, rfl, by decide +kernel, by decide +kernel⟩
def spNo : Sp := fun args H Q _ => ∃ (st : Addr) (x : Int), args = [.ref st] ∧ H st = some (.lst [.int x]) ∧ ∀ (H' : Hp) (i : Int), DS st H H' → i.natAbs < 12 * 10 ^ 50 → Q (.int i) H'
theorem ok_no (F : Fun K "_law_number" "_law_number" sNo f fd) (N : Cal P w K mg base 1 "_law_next" ["_law_state", "_law_many"] spNext) (m1 : mg "range" = none) : FnOk P w K mg base CX0 2 f fd ["_law_state"] spNo := by
  refine F.ok scNo (fun vs H Q E h => ?_) (fun cdv A outer s H vs Q E hr h => ?_)
  · obtain ⟨st, x, rfl, _⟩ := h
    rfl
  obtain ⟨st, x, rfl, hs, q⟩ := h
  refine ⟨_, pss_cons (ps_set (i := 1) scNo.nd rfl (Or.inl rfl) (pe_cal N hr rfl (pa_cons (pv 0) (pa_cons pe_int pa_nil))))
    (pss_cut (ps_if (pt_cmpR op_eq (pe_cal N hr rfl (pa_cons (pv 0) (pa_cons pe_int pa_nil))) pe_int (nomark _))
      (pss_one (ps_for PassesOwn.never rfl (pi_range1 rfl m1 (pa_cons pe_int pa_nil)) (pg_name (i := 2) scNo.nd rfl (Or.inl rfl))
        (pss_one (ps_set (i := 1) scNo.nd rfl (Or.inl rfl) (pe_op op_add (pe_op op_mul (pv 1) (pe_op op_pow pe_int pe_int)) (pe_cal N hr rfl (pa_cons (pv 0) (pa_cons (pe_op op_pow pe_int pe_int) pa_nil)))))))) pss_nil)
    (pss_cons (ps_if (pt_cmpR op_eq (pe_cal N hr rfl (pa_cons (pv 0) (pa_cons pe_int pa_nil))) pe_int (nomark _)) (pss_one (ps_ret (pe_un un_neg (pv 1)))) pss_nil)
    (pss_one (ps_ret (pv 1))))), ?_⟩
  have D0 := DS.start hs
  refine ⟨_, rfl, st, x, 12, rfl, hs, by decide, fun y r0 a0 a1 => ?_⟩
  have D1 := D0.next y
  obtain ⟨y1, hy1⟩ := D1.s
  refine ⟨fun σ' H' => ∃ (i : Int) (b2 : Option V), σ' = [some (.ref st), some (.int i), b2] ∧ DS st H H' ∧ 0 ≤ i ∧ i < 12 * 10 ^ 50, ?_, ?_⟩
  · refine ⟨_, rfl, st, y1, 4, rfl, hy1, by decide, fun y2 r b0 b1 => ⟨rfl, _, rfl, ite2 (fun _ => ?_) (fun _ => ⟨r0, none, rfl, D1.next y2, a0, by omega⟩)⟩⟩
    refine ⟨(5 : Int), rfl, by decide, by decide, ?_⟩
    refine for_range (fun i σ H' => ∃ (v : Int) (b2 : Option V), σ = [some (.ref st), some (.int v), b2] ∧ DS st H H' ∧ 0 ≤ v ∧ v < 12 * 10 ^ (10 * i)) ⟨r0, none, rfl, D1.next y2, a0, by simpa using a1⟩ (fun i σ H' hi hinv => ?_) (fun σ H' hinv => ?_)
    · obtain ⟨v, b2, rfl, d, v0, v1⟩ := hinv
      obtain ⟨y3, hy3⟩ := d.s
      refine ⟨_, rfl, _, _, rfl, rfl, ⟨by decide, by decide, by decide⟩, _, _, rfl, rfl, .inr ⟨by decide, by decide⟩, _, rfl, _, _, rfl, rfl, ⟨by decide, by decide, by decide⟩, st, y3, _, rfl, hy3, (by show (0 : Int) < 10 ^ Int.toNat 10; decide), fun y4 r c0 c1 => ?_⟩
      refine ⟨_, _, rfl, rfl, v * 10 ^ Int.toNat 10 + r, some (.int (0 + (i : Int))), rfl, d.next y4, ?_, ?_⟩
      · have : (0 : Int) ≤ v * 10 ^ Int.toNat 10 := Int.mul_nonneg v0 (by decide)
        omega
      · have e : (12 : Int) * 10 ^ (10 * (i + 1)) = (12 * 10 ^ (10 * i)) * 10 ^ 10 := by
          rw [Nat.mul_add, Int.pow_add, Int.mul_assoc]
        have c1' : r < 10 ^ 10 := c1
        have e2 : v * 10 ^ Int.toNat 10 = v * 10 ^ 10 := rfl
        rw [e, e2]
        generalize (12 : Int) * 10 ^ (10 * i) = B at v1
        omega
    · obtain ⟨v, b2, rfl, d, v0, v1⟩ := hinv
      exact ⟨v, b2, rfl, d, v0, v1⟩
  · rintro σ' H' ⟨i, b2, rfl, d, i0, i1⟩
    obtain ⟨y3, hy3⟩ := d.s
    refine ⟨_, rfl, st, y3, 2, rfl, hy3, by decide, fun y4 r b0 b1 => ⟨rfl, _, rfl, ite2 (fun _ => ⟨_, rfl, _, rfl, q _ _ (d.next y4) (by omega)⟩) (fun _ => ⟨_, rfl, q _ _ (d.next y4) (by omega)⟩)⟩⟩
def signsL : List Nat := (List.range 127).filter sgB
theorem litSigns : (Str.ofString " !#$&'()*+,-./0123456789:;<=>?@ABCDEFGHIJKLMNOPQRSTUVWXYZ[\\]^_`abcdefghijklmnopqrstuvwxyz{|}~" : Str) = S signsL := by decide +kernel
theorem signs_len : signsL.length = 93 := by decide +kernel
theorem signs_sg {c : Nat} (h : c ∈ signsL) : sgB c = true := (List.mem_filter.mp h).2
abbrev sTx : Stmt := top 42
theorem scTx : FnScope ["_law_state", "_law_signs", "_law_text_here", "_law_k"] ["_law_state"] (defScope sTx) := ⟨rfl, rfl, rfl, by decide +kernel, rfl, by decide +kernel, by decide +kernel⟩
def spTx : Sp := fun args H Q _ => ∃ (st : Addr) (x : Int), args = [.ref st] ∧ H st = some (.lst [.int x]) ∧ ∀ (H' : Hp) (v : Wd), DS st H H' → (∀ c ∈ v, sgB c = true) → v.length ≤ 20 → Q (.str (S v)) H'
theorem ok_tx (F : Fun K "_law_text" "_law_text" sTx f fd) (N : Cal P w K mg base 1 "_law_next" ["_law_state", "_law_many"] spNext) (m1 : mg "range" = none) (m2 : mg "len" = none) : FnOk P w K mg base CX0 2 f fd ["_law_state"] spTx := by
  refine F.ok scTx (fun vs H Q E h => ?_) (fun cdv A outer s H vs Q E hr h => ?_)
  · obtain ⟨st, x, rfl, _⟩ := h
    rfl
  obtain ⟨st, x, rfl, hs, q⟩ := h
  refine ⟨_, pss_cons (ps_set (i := 1) scTx.nd rfl (Or.inl rfl) pe_str)
    (pss_cons (ps_set (i := 2) scTx.nd rfl (Or.inl rfl) pe_str)
    (pss_cons (ps_for PassesOwn.never rfl (pi_range1 rfl m1 (pa_cons (pe_cal N hr rfl (pa_cons (pv 0) (pa_cons pe_int pa_nil))) pa_nil)) (pg_name (i := 3) scTx.nd rfl (Or.inl rfl))
      (pss_one (ps_aug (i := 2) scTx.nd rfl (Or.inl rfl) (pe_ix ix_str (pv 1) (pe_cal N hr rfl (pa_cons (pv 0) (pa_cons (pe_ix ix_list (pe_lst (pa_cons (pe_callB call_len_str rfl m2 PySem.boot_len (pa_cons (pv 1) pa_nil)) (pa_cons pe_int pa_nil))) (pe_cal N hr rfl (pa_cons (pv 0) (pa_cons pe_int pa_nil))) (fun _ _ => rfl)) pa_nil))) (fun _ _ => rfl)) iop_add_str)))
    (pss_one (ps_ret (pv 2))))), ?_⟩
  have D0 := DS.start hs
  have hsl := signs_len
  refine ⟨_, rfl, st, x, 5, rfl, hs, by decide, fun y m a0 a1 => ?_⟩
  obtain ⟨k, rfl⟩ := Int.eq_ofNat_of_zero_le a0
  refine ⟨(k : Int), rfl, by omega, by omega, ?_⟩
  rw [litSigns]
  refine for_range (fun i σ H' => ∃ (v : Wd) (z : Option V), σ = [some (.ref st), some (.str (S signsL)), some (.str (S v)), z] ∧ DS st H H' ∧ (∀ c ∈ v, sgB c = true) ∧ v.length = i)
    ⟨[], none, by show _ = _; rw [lit0]; rfl, D0.next y, fun c hc => (by cases hc), rfl⟩ (fun i σ H' hi hinv => ?_) (fun σ H' hinv => ?_)
  · obtain ⟨v, z, rfl, d, hv, hl⟩ := hinv
    refine ⟨_, rfl, _, rfl, _, rfl, _, rfl, _, rfl, S_fit (by rw [hsl]; decide), len2, fun l1 hl1 => ?_⟩
    rw [S_len, hsl]
    have k1 := same_new hl1 (.lst [.int ((93 : Nat) : Int), .int 3])
    have d1 := d.same k1
    have nl := d.ne (d.old hl1)
    obtain ⟨y1, hy1⟩ := d1.s
    refine ⟨_, rfl, st, y1, 2, rfl, hy1, by decide, fun y2 r b0 b1 => ?_⟩
    obtain ⟨e1, he1, h93⟩ : ∃ e1 : Int, atI [V.int ((93 : Nat) : Int), .int 3] r = some (.int e1) ∧ (e1 = 93 ∨ e1 = 3) := by
      have : r = 0 ∨ r = 1 := by omega
      rcases this with e | e <;> rw [e]
      · exact ⟨93, rfl, .inl rfl⟩
      · exact ⟨3, rfl, .inr rfl⟩
    have d2 := d1.next y2
    obtain ⟨y3, hy3⟩ := d2.s
    refine ⟨l1, _, _, .int e1, rfl, rfl, SqL.of (by rw [upd_ne nl]; exact upd_same), he1, st, y3, e1, rfl, hy3, by omega, fun y4 r2 c0 c1 => ?_⟩
    obtain ⟨c, hc, hat⟩ := at_nat (xs := signsL) c0 (by rw [hsl]; omega)
    refine ⟨_, _, c, rfl, rfl, S_fit (by rw [hsl]; decide), hat, ?_⟩
    refine ⟨_, _, rfl, rfl, S_fit2 (b := [c]) (by simp; omega), v ++ [c], some (.int (0 + (i : Int))), ?_, d2.next y4, fun x hx => ?_, by simp [hl]⟩
    · rw [show (⟨#[c]⟩ : Str) = S [c] from rfl, S_app]; rfl
    · rcases List.mem_append.mp hx with h | h
      · exact hv x h
      · rw [List.mem_singleton.mp h]; exact signs_sg hc
  · obtain ⟨v, z, rfl, d, hv, hl⟩ := hinv
    exact ⟨_, rfl, q H' v d hv (by omega)⟩
/-- a drawn tree -/
def spTr (K : PySem.W.Frag) (T : Tn → Prop) : Sp := fun args H Q _ => ∃ (st : Addr) (x : Int), args = [.ref st] ∧ H st = some (.lst [.int x]) ∧ ∀ (H' : Hp) (t : Tn) (v : V), DS st H H' → T t → TV K H' t v → Q v H'
abbrev sSpn : Stmt := top 43
theorem scSpn : FnScope ["_law_state", "_law_low", "_law_way"] ["_law_state"] (defScope sSpn) := ⟨rfl, rfl, rfl, by decide +kernel, rfl, by decide +kernel, by decide +kernel⟩
theorem iok {i : Int} (h : i.natAbs < 24 * 10 ^ 50) : IOk i := Nat.lt_trans h (by decide)
theorem ok_spn (F : Fun K "_law_span" "_law_span" sSpn f fd) (N : Cal P w K mg base 1 "_law_next" ["_law_state", "_law_many"] spNext) (NO : Cal P w K mg base 2 "_law_number" ["_law_state"] spNo) : FnOk P w K mg base CX0 3 f fd ["_law_state"] (spTr K LfT) := by
  refine F.ok scSpn (fun vs H Q E h => ?_) (fun cdv A outer s H vs Q E hr h => ?_)
  · obtain ⟨st, x, rfl, _⟩ := h
    rfl
  obtain ⟨st, x, rfl, hs, q⟩ := h
  have hr1 := hr.mono (show 1 ≤ 2 by decide)
  refine ⟨_, pss_cons (ps_set (i := 1) scSpn.nd rfl (Or.inl rfl) (pe_cal NO hr rfl (pa_cons (pv 0) pa_nil)))
    (pss_cons (ps_set (i := 2) scSpn.nd rfl (Or.inl rfl) (pe_cal N hr1 rfl (pa_cons (pv 0) (pa_cons pe_int pa_nil))))
    (pss_cons (ps_if (pt_cmpR op_lt (pv 2) pe_int (nomark _)) (pss_one (ps_ret (pe_tup (pa_cons pe_str (pa_cons (pv 1) (pa_cons (pv 1) pa_nil)))))) pss_nil)
    (pss_cons (ps_if (pt_cmpR op_eq (pv 2) pe_int (nomark _)) (pss_one (ps_ret (pe_tup (pa_cons pe_str (pa_cons (pv 1) (pa_cons pe_non pa_nil)))))) pss_nil)
    (pss_cons (ps_if (pt_cmpR op_eq (pv 2) pe_int (nomark _)) (pss_one (ps_ret (pe_tup (pa_cons pe_str (pa_cons pe_non (pa_cons (pv 1) pa_nil)))))) pss_nil)
    (pss_one (ps_ret (pe_tup (pa_cons pe_str (pa_cons (pv 1) (pa_cons (pe_op op_add (pv 1) (pe_cal NO hr rfl (pa_cons (pv 0) pa_nil))) pa_nil)))))))))), ?_⟩
  have D0 := DS.start hs
  have fin : ∀ {H2 : Hp} {a b : Option Int} {va vb : V} {p : Addr}, DS st H H2 → H2 p = none → (a ≠ none ∨ b ≠ none) → (∀ i, a = some i → IOk i) → (∀ i, b = some i → IOk i) → (∀ H3, TV K H3 (oI a) va) → (∀ H3, TV K H3 (oI b) vb) → Q (.ref p) (upd H2 p (.tup [.str (Str.ofString "span"), va, vb])) := fun {H2 a b va vb p} d hp h1 h2 h3 h4 h5 =>
    q _ _ _ (d.same (same_new hp _)) (.span h1 h2 h3) (tv_span upd_same (h4 _) (h5 _))
  refine ⟨_, rfl, st, x, rfl, hs, fun H1 low d1 hlow => ?_⟩
  have il : IOk low := iok (by omega)
  obtain ⟨y1, hy1⟩ := d1.s
  refine ⟨_, rfl, st, y1, 5, rfl, hy1, by decide, fun y2 way b0 b1 => ?_⟩
  have d2 := d1.next y2
  have s1 : ∀ i, some low = some i → IOk i := fun i e => by cases e; exact il
  have s0 : ∀ i, (none : Option Int) = some i → IOk i := fun i e => by cases e
  refine ⟨_, rfl, _, _, rfl, rfl, _, rfl, ite2 (fun _ => ?_) (fun _ => ?_)⟩
  · exact ⟨_, rfl, _, rfl, len3, fun p hp => fin (a := some low) (b := some low) d2 hp (.inl (by simp)) s1 s1 (fun _ => TV.int) (fun _ => TV.int)⟩
  refine ⟨_, rfl, rfl, _, rfl, ite2 (fun _ => ?_) (fun _ => ?_)⟩
  · exact ⟨_, rfl, len3, fun p hp => fin (a := some low) (b := none) d2 hp (.inl (by simp)) s1 s0 (fun _ => TV.int) (fun _ => TV.non)⟩
  refine ⟨_, rfl, rfl, _, rfl, ite2 (fun _ => ?_) (fun _ => ?_)⟩
  · exact ⟨_, rfl, len3, fun p hp => fin (a := none) (b := some low) d2 hp (.inr (by simp)) s0 s1 (fun _ => TV.non) (fun _ => TV.int)⟩
  obtain ⟨y3, hy3⟩ := d2.s
  refine ⟨_, rfl, _, rfl, _, rfl, st, y3, rfl, hy3, fun H4 n d4 hn => ?_⟩
  refine ⟨_, _, rfl, rfl, len3, fun p hp => fin (a := some low) (b := some (low + n)) (d2.more d4) hp (.inl (by simp)) s1 (fun i e => by cases e; exact iok (by omega)) (fun _ => TV.int) (fun _ => TV.int)⟩
abbrev sLf : Stmt := top 44
theorem scLf : FnScope ["_law_state", "_law_way"] ["_law_state"] (defScope sLf) := ⟨rfl, rfl, rfl, by decide +kernel, rfl, by decide +kernel, by decide +kernel⟩
theorem ok_lf (F : Fun K "_law_leaf" "_law_leaf" sLf f fd) (N : Cal P w K mg base 1 "_law_next" ["_law_state", "_law_many"] spNext) (PL : Cal P w K mg base 1 "_law_plain" [] spPlain) (SP : Cal P w K mg base 3 "_law_span" ["_law_state"] (spTr K LfT)) (TX : Cal P w K mg base 2 "_law_text" ["_law_state"] spTx) : FnOk P w K mg base CX0 4 f fd ["_law_state"] (spTr K LfT) := by
  refine F.ok scLf (fun vs H Q E h => ?_) (fun cdv A outer s H vs Q E hr h => ?_)
  · obtain ⟨st, x, rfl, _⟩ := h
    rfl
  obtain ⟨st, x, rfl, hs, q⟩ := h
  have hr1 := hr.mono (show 1 ≤ 3 by decide)
  have hr2 := hr.mono (show 2 ≤ 3 by decide)
  refine ⟨_, pss_cons (ps_set (i := 1) scLf.nd rfl (Or.inl rfl) (pe_cal N hr1 rfl (pa_cons (pv 0) (pa_cons pe_int pa_nil))))
    (pss_cons (ps_if (pt_cmpR op_lt (pv 1) pe_int (nomark _)) (pss_one (ps_ret (pe_tup (pa_cons pe_str (pa_cons (pe_ix ix_list (pe_cal0 PL hr1 rfl) (pe_cal N hr1 rfl (pa_cons (pv 0) (pa_cons pe_int pa_nil))) (fun _ _ => rfl)) pa_nil))))) pss_nil)
    (pss_cons (ps_if (pt_cmpR op_lt (pv 1) pe_int (nomark _)) (pss_one (ps_ret (pe_cal SP hr rfl (pa_cons (pv 0) pa_nil)))) pss_nil)
    (pss_one (ps_ret (pe_tup (pa_cons pe_str (pa_cons (pe_cal TX hr2 rfl (pa_cons (pv 0) pa_nil)) pa_nil))))))), ?_⟩
  have D0 := DS.start hs
  refine ⟨_, rfl, st, x, 6, rfl, hs, by decide, fun y way a0 a1 => ?_⟩
  have d1 := D0.next y
  obtain ⟨y1, hy1⟩ := d1.s
  refine ⟨_, rfl, _, _, rfl, rfl, _, rfl, ite2 (fun _ => ?_) (fun _ => ?_)⟩
  · refine ⟨rfl, fun l1 hl1 => ?_⟩
    have k1 := same_new hl1 (.lst (ST plainW))
    have d2 := d1.same k1
    have nl := d1.ne (d1.old hl1)
    obtain ⟨y2, hy2⟩ := d2.s
    refine ⟨_, rfl, st, y2, 10, rfl, hy2, by decide, fun y3 r b0 b1 => ?_⟩
    obtain ⟨v, hv, hat⟩ := at_ST (xs := plainW) b0 (by show r < 10; exact b1)
    refine ⟨l1, _, _, _, rfl, rfl, SqL.of (by rw [upd_ne nl]; exact upd_same), hat, len2, fun p hp => ?_⟩
    exact q _ _ _ ((d2.next y3).same (same_new hp _)) (.word hv) (TV.tup (SqT.of (by rw [upd_same, lWord])) (TAll.cons TV.str (TAll.one TV.str)))
  refine ⟨_, rfl, _, _, rfl, rfl, _, rfl, ite2 (fun _ => ?_) (fun _ => ?_)⟩
  · exact ⟨_, rfl, st, y1, rfl, hy1, fun H2 t v d2 ht hv => q H2 t v (d1.more d2) ht hv⟩
  refine ⟨_, rfl, st, y1, rfl, hy1, fun H2 v d2 hv hl => ⟨len2, fun p hp => ?_⟩⟩
  exact q _ _ _ ((d1.more d2).same (same_new hp _)) (.text hv hl) (TV.tup (SqT.of (by rw [upd_same, lText])) (TAll.cons TV.str (TAll.one TV.str)))
abbrev sCnt : Stmt := top 45
theorem scCnt : FnScope ["_law_state", "_law_deep", "_law_many"] ["_law_state", "_law_deep", "_law_many"] (defScope sCnt) := ⟨rfl, rfl, rfl, by decide +kernel, rfl, by decide +kernel, by decide +kernel⟩
def spCnt : Sp := fun args H Q _ => ∃ (st : Addr) (x : Int) (dp : Nat) (m : Int), args = [.ref st, .int (dp : Int), .int m] ∧ H st = some (.lst [.int x]) ∧ 0 < m ∧ ∀ (H' : Hp) (r : Nat), DS st H H' → ((r : Int) < m ∨ (dp = 1 ∧ r < 10)) → Q (.int (r : Int)) H'
theorem ok_cnt (F : Fun K "_law_count" "_law_count" sCnt f fd) (N : Cal P w K mg base 1 "_law_next" ["_law_state", "_law_many"] spNext) : FnOk P w K mg base CX0 2 f fd ["_law_state", "_law_deep", "_law_many"] spCnt := by
  refine F.ok scCnt (fun vs H Q E h => ?_) (fun cdv A outer s H vs Q E hr h => ?_)
  · obtain ⟨st, x, dp, m, rfl, _⟩ := h
    rfl
  obtain ⟨st, x, dp, m, rfl, hs, hm, q⟩ := h
  refine ⟨_, pss_cut (ps_if (PW.pt (pw_and (pt_cmpR op_eq (pv 1) pe_int (nomark _)) (pw_and1 (pt_cmpR op_eq (pe_cal N hr rfl (pa_cons (pv 0) (pa_cons pe_int pa_nil))) pe_int (nomark _))))) (pss_one (ps_ret (pe_cal N hr rfl (pa_cons (pv 0) (pa_cons pe_int pa_nil))))) pss_nil)
    (pss_one (ps_ret (pe_cal N hr rfl (pa_cons (pv 0) (pa_cons (pv 2) pa_nil))))), ?_⟩
  have D0 := DS.start hs
  refine ⟨fun σ' H' => σ' = [some (.ref st), some (.int (dp : Int)), some (.int m)] ∧ DS st H H', ?_, ?_⟩
  · refine ⟨_, rfl, rfl, _, rfl, ite2 (fun c => ?_) (fun _ => iteF ⟨rfl, D0⟩)⟩
    have hdp : dp = 1 := by have := V.int.inj (of_decide_eq_true c); omega
    refine ⟨_, rfl, st, x, 8, rfl, hs, by decide, fun y r a0 a1 => ⟨rfl, _, rfl, ite2 (fun _ => ?_) (fun _ => ⟨rfl, D0.next y⟩)⟩⟩
    refine ⟨_, rfl, st, y, 10, rfl, upd_same, by decide, fun y2 r2 b0 b1 => ?_⟩
    obtain ⟨k, rfl⟩ := Int.eq_ofNat_of_zero_le b0
    exact q _ k ((D0.next y).next y2) (.inr ⟨hdp, by omega⟩)
  · rintro σ' H' ⟨rfl, d⟩
    obtain ⟨y, hy⟩ := d.s
    refine ⟨_, rfl, _, rfl, st, y, m, rfl, hy, hm, fun y2 r2 b0 b1 => ?_⟩
    obtain ⟨k, rfl⟩ := Int.eq_ofNat_of_zero_le b0
    exact q _ k (d.next y2) (.inl b1)
end
end Law


set_option Elab.async false
set_option linter.all false
set_option maxRecDepth 100000
set_option maxHeartbeats 4000000
namespace Law
open PySem L2 L2.Sp
def mx32 (n : Nat) : Nat := if n = 1 then 11 else 3
section
variable {P : Program} {w : World} {K : PySem.W.Frag} {mg : Str → Option Value} {base : Heap} {f : Addr} {fd : FuncData}
abbrev sTree : Stmt := top 46
theorem scTree : FnScope ["_law_state", "_law_deep", "_law_places", "_law_way", "_law_items", "_law_fields", "_law_name_here", "_law_trees"] ["_law_state", "_law_deep", "_law_places"] (defScope sTree) := ⟨rfl, rfl, rfl, by decide +kernel, rfl, by decide +kernel, by decide +kernel⟩
theorem nd_ks : (["_law_k", "_law_state"] : List Str).Nodup := by decide +kernel
theorem nd_ksd : (["_law_k", "_law_state", "_law_deep"] : List Str).Nodup := by decide +kernel
theorem nd_ksdp : (["_law_k", "_law_state", "_law_deep", "_law_places"] : List Str).Nodup := by decide +kernel
def spTree (K : PySem.W.Frag) (n : Nat) : Sp := fun args H Q _ => ∃ (st : Addr) (x : Int) (pl : Bool), args = [.ref st, .int (n : Int), .bl pl] ∧ H st = some (.lst [.int x]) ∧ ∀ (H' : Hp) (t : Tn) (v : V), DS st H H' → GT mx32 n pl t → TV K H' t v → Q v H'
theorem GT.leaf {mx : Nat → Nat} {n : Nat} {pl : Bool} {t : Tn} (h : LfT t) : GT mx n pl t := by cases n <;> exact .inl h
theorem GT.place {mx : Nat → Nat} {n : Nat} {t : Tn} (h : PlT t) : GT mx n true t := by
  cases n with
  | zero => exact .inr ⟨rfl, h⟩
  | succ n => exact .inr (.inl ⟨rfl, h⟩)
/-- the drawn trees of a comprehension -/
def TrsOk (K : PySem.W.Frag) (T : Tn → Prop) (st : Addr) (H0 H : Hp) (l : Addr) (ys : List V) (i : Nat) : Prop := DS st H0 H ∧ H l = some (.lst ys) ∧ ∃ ts, TAll K H ts ys ∧ ts.length = i ∧ ∀ t ∈ ts, T t
theorem ok_tree {k n : Nat} {sp : Sp} (F : Fun K "_law_tree" "_law_tree" sTree f fd) (TR : Cal P w K mg base k "_law_tree" ["_law_state", "_law_deep", "_law_places"] sp) (hsp : ∀ n', n = n' + 1 → sp = spTree K n') (N : Cal P w K mg base 1 "_law_next" ["_law_state", "_law_many"] spNext)
    (NM : Cal P w K mg base 3 "_law_name" ["_law_state"] spNm) (NMS : Cal P w K mg base 4 "_law_names" ["_law_state", "_law_many"] spNms) (LF : Cal P w K mg base 4 "_law_leaf" ["_law_state"] (spTr K LfT)) (CNT : Cal P w K mg base 2 "_law_count" ["_law_state", "_law_deep", "_law_many"] spCnt) (m1 : mg "range" = none) (m2 : mg "tuple" = none) (hk : 4 ≤ k) (hn : n ≤ 3) :
    FnOk P w K mg base CX0 (k + 1) f fd ["_law_state", "_law_deep", "_law_places"] (spTree K n) := by
  refine F.ok scTree (fun vs H Q E h => ?_) (fun cdv A outer s H vs Q E hr h => ?_)
  · obtain ⟨st, x, pl, rfl, _⟩ := h
    rfl
  obtain ⟨st, x, pl, rfl, hs, q⟩ := h
  have hr1 := hr.mono (show 1 ≤ k by omega)
  have hr2 := hr.mono (show 2 ≤ k by omega)
  have hr3 := hr.mono (show 3 ≤ k by omega)
  have hr4 := hr.mono hk
  refine ⟨_, pss_cons (ps_set (i := 3) scTree.nd rfl (Or.inl rfl) (pe_cal N hr1 rfl (pa_cons (pv 0) (pa_cons pe_int pa_nil))))
    (pss_cut (ps_if (PW.pt (pw_and (pt_val (pv 2)) (pw_and1 (pt_cmpR op_eq (pv 3) pe_int (nomark _)))))
      (pss_one (ps_ret (pe_tup (pa_cons pe_str (pa_cons (pe_callTy call_tuple_of rfl m2 bt_tuple (pa_cons (pe_comp (N' := ["_law_k", "_law_state"]) (fr := [none, some 0]) (own := [0]) ⟨rfl, rfl, rfl, rfl, rfl, rfl, rfl⟩ rfl (pi_range1 rfl m1 (pa_cons (pe_op op_add pe_int (pe_cal N hr1 rfl (pa_cons (pv 0) (pa_cons pe_int pa_nil)))) pa_nil))
        (fun _ _ _ _ => pg_name (i := 0) nd_ks rfl (Or.inl rfl)) (own_name 0) (fun _ _ _ _ => pts_nil) (fun _ _ _ _ => pe_cal NM hr3 rfl (pa_cons (pv 1) pa_nil))) pa_nil)) pa_nil))))) pss_nil)
    (pss_cut (ps_if (PW.pt (pw_or (pt_cmpR op_eq (pv 1) pe_int (nomark _)) (pw_or1 (pt_cmpR op_lt (pv 3) pe_int (nomark _))))) (pss_one (ps_ret (pe_cal LF hr4 rfl (pa_cons (pv 0) pa_nil)))) pss_nil)
    (pss_cons (ps_if (pt_cmpR op_lt (pv 3) pe_int (nomark _))
      (pss_cons (ps_comp (i := 4) (N' := ["_law_k", "_law_state", "_law_deep"]) (fr := [none, some 0, some 1]) (own := [0]) ⟨rfl, rfl, rfl, rfl, rfl, rfl, rfl⟩ rfl scTree.nd rfl rfl (pi_range1 rfl m1 (pa_cons (pe_cal CNT hr2 rfl (pa_cons (pv 0) (pa_cons (pv 1) (pa_cons pe_int pa_nil)))) pa_nil))
        (fun _ _ _ _ => pg_name (i := 0) nd_ksd rfl (Or.inl rfl)) (own_name 0) (fun _ _ _ _ => pts_nil) (fun _ _ _ _ => pe_cal TR hr rfl (pa_cons (pv 1) (pa_cons (pe_op op_sub (pv 2) pe_int) (pa_cons pe_bl pa_nil)))))
      (pss_one (ps_ret (pe_tup (pa_cons pe_str (pa_cons (pe_callTy call_tuple_of rfl m2 bt_tuple (pa_cons (pv 4) pa_nil)) (pa_cons (pe_cmpR op_eq (pe_cal N hr1 rfl (pa_cons (pv 0) (pa_cons pe_int pa_nil))) pe_int (nomark _)) pa_nil))))))) pss_nil)
    (pss_cons (ps_if (pt_cmpR op_lt (pv 3) pe_int (nomark _))
      (pss_cons (ps_set (i := 5) scTree.nd rfl (Or.inl rfl) (pe_lst pa_nil))
      (pss_cons (ps_for PassesOwn.never rfl (pi_list (pe_cal NMS hr4 rfl (pa_cons (pv 0) (pa_cons (pe_cal CNT hr2 rfl (pa_cons (pv 0) (pa_cons (pv 1) (pa_cons pe_int pa_nil)))) pa_nil)))) (pg_name (i := 6) scTree.nd rfl (Or.inl rfl))
        (pss_one (ps_expr (pe_bm PySem.F.plainAttrs_list PySem.F.slot_list_append PySem.F.type_list_append mt_append (pv 5) (pa_cons (pe_tup (pa_cons (pv 6) (pa_cons (pe_cal TR hr rfl (pa_cons (pv 0) (pa_cons (pe_op op_sub (pv 1) pe_int) (pa_cons pe_bl pa_nil)))) (pa_cons (pe_cmpR op_eq (pe_cal N hr1 rfl (pa_cons (pv 0) (pa_cons pe_int pa_nil))) pe_int (nomark _)) pa_nil)))) pa_nil)))))
      (pss_one (ps_ret (pe_tup (pa_cons pe_str (pa_cons (pe_callTy call_tuple_of rfl m2 bt_tuple (pa_cons (pv 5) pa_nil)) (pa_cons (pe_cmpR op_eq (pe_cal N hr1 rfl (pa_cons (pv 0) (pa_cons pe_int pa_nil))) pe_int (nomark _)) pa_nil)))))))) pss_nil)
    (pss_cons (ps_if (pt_cmpR op_eq (pv 3) pe_int (nomark _)) (pss_one (ps_ret (pe_tup (pa_cons pe_str (pa_cons (pe_cal TR hr rfl (pa_cons (pv 0) (pa_cons (pe_op op_sub (pv 1) pe_int) (pa_cons pe_bl pa_nil)))) pa_nil))))) pss_nil)
    (pss_cons (ps_comp (i := 7) (N' := ["_law_k", "_law_state", "_law_deep", "_law_places"]) (fr := [none, some 0, some 1, some 2]) (own := [0]) ⟨rfl, rfl, rfl, rfl, rfl, rfl, rfl⟩ rfl scTree.nd rfl rfl (pi_range1 rfl m1 (pa_cons (pe_op op_add pe_int (pe_cal CNT hr2 rfl (pa_cons (pv 0) (pa_cons (pv 1) (pa_cons pe_int pa_nil))))) pa_nil))
        (fun _ _ _ _ => pg_name (i := 0) nd_ksdp rfl (Or.inl rfl)) (own_name 0) (fun _ _ _ _ => pts_nil) (fun _ _ _ _ => pe_cal TR hr rfl (pa_cons (pv 1) (pa_cons (pe_op op_sub (pv 2) pe_int) (pa_cons (pv 3) pa_nil)))))
    (pss_one (ps_ret (pe_tup (pa_cons (pe_ix ix_list (pe_lst (pa_cons pe_str (pa_cons pe_str pa_nil))) (pe_op op_sub (pv 3) pe_int) (fun _ _ => rfl)) (pa_cons (pe_callTy call_tuple_of rfl m2 bt_tuple (pa_cons (pv 7) pa_nil)) pa_nil))))))))))), ?_⟩
  have D0 := DS.start hs
  refine ⟨_, rfl, st, x, 10, rfl, hs, by decide, fun y way a0 a1 => ?_⟩
  have D1 := D0.next y
  refine ⟨fun σ' H' => σ' = [some (.ref st), some (.int (n : Int)), some (.bl pl), some (.int way), none, none, none, none] ∧ DS st H H', ?_, ?_⟩
  · refine ⟨_, rfl, _, rfl, ?_⟩
    cases pl with
    | false => exact iteF (iteF ⟨rfl, D1⟩)
    | true =>
      refine iteT ⟨_, rfl, rfl, _, rfl, ite2 (fun _ => ?_) (fun _ => ⟨rfl, D1⟩)⟩
      obtain ⟨y1, hy1⟩ := D1.s
      refine ⟨_, rfl, st, y1, 3, rfl, hy1, by decide, fun y2 r b0 b1 => ?_⟩
      have D2 := D1.next y2
      obtain ⟨c, rfl⟩ := Int.eq_ofNat_of_zero_le b0
      refine ⟨_, _, rfl, rfl, ((1 + c : Nat) : Int), by rw [show ((1 + c : Nat) : Int) = 1 + (c : Int) by omega], by omega, by omega, fun l hl => ?_⟩
      have hl0 := D2.old hl
      refine comp_range (fun i ys H' => DS st H H' ∧ H' l = some (.lst ys) ∧ ∃ ns, ys = ST ns ∧ ns.length = i ∧ ∀ n ∈ ns, NameOk n) ⟨D2.put hl0, upd_same, [], rfl, rfl, fun n hn => (by cases hn)⟩ (fun i ys H' hi hinv => ?_) (fun ys H' hinv => ?_)
      · obtain ⟨d, hl', ns, rfl, hlen, hok⟩ := hinv
        obtain ⟨y3, hy3⟩ := d.s
        have nl := d.ne hl0
        dsimp only [CTurn, gName]
        refine yesT ⟨_, rfl, st, y3, rfl, hy3, fun H4 v d4 hv => ?_⟩
        refine ⟨d4.g _ _ nl hl', by rw [List.length_map]; exact sz_of (by omega), (d.more d4).put hl0, upd_same, ns ++ [v], by simp [ST], by simp [hlen], fun m hm => ?_⟩
        rcases List.mem_append.mp hm with z | z
        · exact hok m z
        · rw [List.mem_singleton.mp z]; exact hv
      · obtain ⟨d, hl', ns, rfl, hlen, hok⟩ := hinv
        refine ⟨l, _, rfl, .inl ⟨SqL.of hl', fun p hp => ⟨len2, fun p2 hp2 => ?_⟩⟩⟩
        have k1 := same_new hp (.tup (ST ns))
        have k2 := same_new hp2 (.tup [.str (Str.ofString "place"), .ref p])
        refine q _ _ _ (d.same (k1.trans k2)) (GT.place (.mk (fun z => by rw [z] at hlen; simp at hlen; omega) (by omega) hok)) ?_
        exact TV.tup (SqT.of (by rw [upd_same, lPlace])) (TAll.cons TV.str (TAll.one (TV.tup (SqT.of (k2 _ _ upd_same)) (TAll.strs ns))))
  rintro σ1 H1 ⟨rfl, d1⟩
  clear D0 D1
  refine ⟨fun σ' H' => σ' = [some (.ref st), some (.int (n : Int)), some (.bl pl), some (.int way), none, none, none, none] ∧ H' = H1 ∧ n ≠ 0 ∧ 3 ≤ way, ?_, ?_⟩
  · obtain ⟨y1, hy1⟩ := d1.s
    have leaf : ∀ {Q' : Prop}, (∀ (H' : Hp) (t : Tn) (v : V), DS st H1 H' → LfT t → TV K H' t v → Q v H') := fun {Q'} H' t v d ht hv => q H' t v (d1.more d) (GT.leaf ht) hv
    refine ⟨_, rfl, rfl, _, rfl, ite2 (fun _ => iteT ⟨_, rfl, st, y1, rfl, hy1, fun H' t v d ht hv => q H' t v (d1.more d) (GT.leaf ht) hv⟩) (fun c => ?_)⟩
    refine ⟨_, rfl, _, _, rfl, rfl, _, rfl, ite2 (fun _ => ⟨_, rfl, st, y1, rfl, hy1, fun H' t v d ht hv => q H' t v (d1.more d) (GT.leaf ht) hv⟩) (fun c2 => ⟨rfl, rfl, fun z => c (decide_eq_true (by rw [z]; rfl)), ?_⟩)⟩
    exact Int.not_lt.mp fun z => c2 (decide_eq_true z)
  rintro σ2 H2 ⟨rfl, rfl, hn0, hw3⟩
  obtain ⟨n', rfl⟩ : ∃ n', n = n' + 1 := ⟨n - 1, by omega⟩
  have esp := hsp n' rfl
  subst esp
  have em : ((n' + 1 : Nat) : Int) - 1 = (n' : Int) := by omega
  obtain ⟨y1, hy1⟩ := d1.s
  have mxn : ∀ {r : Nat} {m : Int}, m ≤ 4 → ((r : Int) < m ∨ (n' + 1 = 1 ∧ r < 10)) → r ≤ mx32 (n' + 1) ∧ r ≤ 9 := fun {r m} hm hr => by
    unfold mx32
    rcases hr with hr | ⟨e, hr⟩
    · refine ⟨?_, by omega⟩
      split <;> omega
    · rw [if_pos e]; omega
  -- the trees of a comprehension
  have turn : ∀ {pl' : Bool} {i : Nat} {ys : List V} {H' : Hp} {l : Addr}, H l = none → TrsOk K (GT mx32 n' pl') st H H' l ys i → i ≤ 100 → ∀ {N' : List V → Hp → Prop}, (∀ zs H'', TrsOk K (GT mx32 n' pl') st H H'' l zs (i + 1) → N' zs H'') →
      spTree K n' [.ref st, .int (((n' + 1 : Nat) : Int) - 1), .bl pl'] H' (fun y H5 => H5 l = some (.lst ys) ∧ ys.length < sizeLine ∧ N' (ys ++ [y]) (upd H5 l (.lst (ys ++ [y])))) E0 := fun {pl' i ys H' l} hl0 hinv hi {N'} hN => by
    obtain ⟨d, hl', ts, hts, hlen, hok⟩ := hinv
    obtain ⟨y3, hy3⟩ := d.s
    have nl := d.ne hl0
    refine ⟨st, y3, pl', by rw [em], hy3, fun H5 t v d5 ht hv => ?_⟩
    have hl5 := d5.g _ _ nl hl'
    have kl := Kp.lst (K := K) (o := .lst (ys ++ [v])) hl5
    refine ⟨hl5, sz_of (by rw [hts.length]; omega), hN _ _ ⟨(d.more d5).put hl0, upd_same, ts ++ [t], ((hts.kp d5.kp).kp kl).append (TAll.one (TV.kp kl hv)), by simp [hlen], fun m hm => ?_⟩⟩
    rcases List.mem_append.mp hm with z | z
    · exact hok m z
    · rw [List.mem_singleton.mp z]; exact ht
  refine ⟨_, rfl, _, _, rfl, rfl, _, rfl, ite2 (fun _ => ?_) (fun c5 => ?_)⟩
  · refine ⟨_, rfl, _, rfl, st, y1, n' + 1, 4, rfl, hy1, by decide, fun H3 r d3 hr' => ?_⟩
    obtain ⟨hr3', hr9⟩ := mxn (by decide) hr'
    have d2 := d1.more d3
    refine ⟨(r : Int), rfl, by omega, by omega, fun l hl => ?_⟩
    have hl0 := d2.old hl
    refine comp_range (fun i ys H' => TrsOk K (GT mx32 n' false) st H H' l ys i) ⟨d2.put hl0, upd_same, [], TAll.nil, rfl, fun t ht => (by cases ht)⟩ (fun i ys H' hi hinv => ?_) (fun ys H' hinv => ?_)
    · dsimp only [CTurn, gName]
      exact yesT ⟨_, rfl, _, rfl, _, _, rfl, rfl, turn hl0 hinv (by omega) fun zs H'' h => h⟩
    · obtain ⟨d, hl', ts, hts, hlen, hok⟩ := hinv
      refine ⟨_, rfl, l, _, rfl, .inl ⟨SqL.of hl', fun p hp => ?_⟩⟩
      have k1 := same_new hp (.tup ys)
      have d5 := d.same k1
      obtain ⟨y5, hy5⟩ := d5.s
      refine ⟨_, rfl, st, y5, 2, rfl, hy5, by decide, fun y6 r2 b0 b1 => ⟨rfl, len3, fun p2 hp2 => ?_⟩⟩
      have d6 := d5.next y6
      have np : p ≠ st := d.ne (d.old hp)
      have k2 := same_new hp2 (.tup [.str (Str.ofString "list"), .ref p, .bl (decide (V.int r2 = V.int 0))])
      refine q _ (.tup [.str kList, .tup ts, .bl (decide (V.int r2 = V.int 0))]) _ (d6.same k2) (.inr (.inr (.inl ⟨ts, _, rfl, by omega, hok⟩))) ?_
      have k5 : Kp K H' _ := (Kp.same k1).trans ((Kp.lst hy5).trans (Kp.same k2))
      exact TV.tup (SqT.of (by rw [upd_same, lList])) (TAll.cons TV.str (TAll.cons (TV.tup (SqT.of (k2 _ _ (by rw [upd_ne np]; exact upd_same))) (hts.kp k5)) (TAll.one TV.bl)))
  refine ⟨_, rfl, _, _, rfl, rfl, _, rfl, ite2 (fun _ => ?_) (fun c7 => ?_)⟩
  · refine ⟨len0, fun lf hlf => ?_⟩
    have hlf0 := d1.old hlf
    have d2 := d1.put (o := .lst []) hlf0
    obtain ⟨y2, hy2⟩ := d2.s
    refine ⟨_, rfl, _, rfl, _, rfl, st, y2, n' + 1, 4, rfl, hy2, by decide, fun H3 r d3 hr' => ?_⟩
    obtain ⟨hr3', hr9⟩ := mxn (by decide) hr'
    obtain ⟨y3, hy3⟩ := d3.s
    have d23 := d2.more d3
    have nlf := d2.ne hlf0
    have hlf3 := d3.g _ _ nlf upd_same
    refine ⟨st, y3, r, rfl, hy3, by omega, fun H4 ln ns d4 hln3 hln hnd hnl hnok => ?_⟩
    have hln0 := d23.old hln3
    have nln := d23.ne hln0
    have nfn : lf ≠ ln := ne_of_none hlf3 hln3
    refine ⟨ln, rfl, ⟨_, SqL.of hln⟩, ?_⟩
    refine for_list (xs := ST ns) (fun i σ H' => ∃ (fs : List (Wd × Tn × Bool)) (vs : List V) (b6 : Option V), σ = [some (.ref st), some (.int ((n' + 1 : Nat) : Int)), some (.bl pl), some (.int way), none, some (.ref lf), b6, none] ∧ DS st H H' ∧ H' lf = some (.lst vs) ∧ H' ln = some (.lst (ST ns)) ∧ TAll K H' (fs.map fldT) vs ∧ fs.map (·.1) = ns.take i ∧ ∀ f ∈ fs, NameOk f.1 ∧ GT mx32 n' false f.2.1)
      ⟨[], [], none, rfl, d23.more d4, d4.g _ _ nlf hlf3, hln, TAll.nil, rfl, fun f hf => (by cases hf)⟩ (fun i σ H' _ hinv => ?_) (fun i u σ H' hu hinv => ?_) (fun σ H' hinv => ?_)
    · obtain ⟨_, _, _, _, _, _, hq, _⟩ := hinv
      exact SqL.of hq
    · obtain ⟨fs, vs, b6, rfl, d, hlf', hln', hts, hnm, hok⟩ := hinv
      obtain ⟨nm, hnmi, rfl⟩ : ∃ nm, ns[i]? = some nm ∧ u = .str (S nm) := by
        rw [List.getElem?_map] at hu
        cases e : ns[i]? with
        | none => rw [e] at hu; cases hu
        | some z => rw [e] at hu; cases hu; exact ⟨z, rfl, rfl⟩
      have hfl : fs.length ≤ 9 := by
        have := congrArg List.length hnm
        rw [List.length_map, List.length_take] at this
        omega
      obtain ⟨y5, hy5⟩ := d.s
      refine ⟨_, rfl, .inl ⟨rfl, _, SqL.of hlf'⟩, _, rfl, _, rfl, _, rfl, _, _, rfl, rfl, st, y5, false, by show [V.ref st, V.int (((n' + 1 : Nat) : Int) - 1), V.bl false] = _; rw [em], hy5, fun H5 t v d5 ht hv => ?_⟩
      obtain ⟨y6, hy6⟩ := d5.s
      have dd := d.more d5
      have hlf5 := d5.g _ _ nlf hlf'
      have hln5 := d5.g _ _ nln hln'
      refine ⟨_, rfl, st, y6, 2, rfl, hy6, by decide, fun y7 r2 b0 b1 => ⟨rfl, len3, fun p hp => ?_⟩⟩
      have d7 := dd.next y7
      have k1 := same_new hp (.tup [.str (S nm), v, .bl (decide (V.int r2 = V.int 0))])
      have d8 := d7.same k1
      have hlf8 := k1 _ _ (show upd H5 st (.lst [.int y7]) lf = some (.lst vs) by rw [upd_ne nlf]; exact hlf5)
      have hln8 := k1 _ _ (show upd H5 st (.lst [.int y7]) ln = some (.lst (ST ns)) by rw [upd_ne nln]; exact hln5)
      have kk : Kp K H5 _ := (Kp.lst hy6).trans (Kp.same k1)
      have kl := Kp.lst (K := K) (o := .lst (vs ++ [.ref p])) hlf8
      refine ⟨lf, _, _, rfl, rfl, hlf8, sz_of (by rw [hts.length, List.length_map]; omega), fs ++ [(nm, t, decide (V.int r2 = V.int 0))], _, some (.str (S nm)), rfl, d8.put hlf0, upd_same, by rw [upd_ne (Ne.symm nfn)]; exact hln8, ?_, ?_, fun g hg => ?_⟩
      · rw [List.map_append]
        refine (hts.kp (d5.kp.trans (kk.trans kl))).append (TAll.one ?_)
        exact TV.kp kl (TV.tup (SqT.of upd_same) (TAll.cons TV.str (TAll.cons (TV.kp kk hv) (TAll.one TV.bl))))
      · rw [List.map_append, hnm, take_snoc hnmi]; rfl
      · rcases List.mem_append.mp hg with z | z
        · exact hok g z
        · rw [List.mem_singleton.mp z]; exact ⟨hnok nm (List.mem_of_getElem? hnmi), ht⟩
    · obtain ⟨fs, vs, b6, rfl, d, hlf', hln', hts, hnm, hok⟩ := hinv
      have hnm : fs.map (·.1) = ns := by rw [hnm]; simp [ST]
      refine ⟨_, rfl, lf, _, rfl, .inl ⟨SqL.of hlf', fun p hp => ?_⟩⟩
      have k1 := same_new hp (.tup vs)
      have d5 := d.same k1
      obtain ⟨y5, hy5⟩ := d5.s
      refine ⟨_, rfl, st, y5, 2, rfl, hy5, by decide, fun y6 r2 b0 b1 => ⟨rfl, len3, fun p2 hp2 => ?_⟩⟩
      have d6 := d5.next y6
      have np : p ≠ st := d.ne (d.old hp)
      have k2 := same_new hp2 (.tup [.str (Str.ofString "record"), .ref p, .bl (decide (V.int r2 = V.int 0))])
      have hfl : fs.length = ns.length := by rw [← hnm, List.length_map]
      refine q _ (.tup [.str kRec, .tup (fs.map fldT), .bl (decide (V.int r2 = V.int 0))]) _ (d6.same k2) (.inr (.inr (.inr (.inl ⟨fs, _, rfl, by omega, by rw [hnm]; exact hnd, hok⟩)))) ?_
      have k5 : Kp K H' _ := (Kp.same k1).trans ((Kp.lst hy5).trans (Kp.same k2))
      exact TV.tup (SqT.of (by rw [upd_same, lRec])) (TAll.cons TV.str (TAll.cons (TV.tup (SqT.of (k2 _ _ (by rw [upd_ne np]; exact upd_same))) (hts.kp k5)) (TAll.one TV.bl)))
  refine ⟨_, rfl, rfl, _, rfl, ite2 (fun _ => ?_) (fun c8 => ?_)⟩
  · refine ⟨_, rfl, _, rfl, _, _, rfl, rfl, st, y1, false, by show [V.ref st, V.int (((n' + 1 : Nat) : Int) - 1), V.bl false] = _; rw [em], hy1, fun H3 t v d3 ht hv => ⟨len2, fun p hp => ?_⟩⟩
    have k1 := same_new hp (.tup [.str (Str.ofString "not"), v])
    exact q _ (.tup [.str kNot, t]) _ ((d1.more d3).same k1) (.inr (.inr (.inr (.inr (.inl ⟨t, rfl, ht⟩))))) (TV.tup (SqT.of (by rw [upd_same, lkNot])) (TAll.cons TV.str (TAll.one (TV.kp (Kp.same k1) hv))))
  · refine ⟨_, rfl, _, rfl, st, y1, n' + 1, 2, rfl, hy1, by decide, fun H3 r d3 hr' => ?_⟩
    have d2 := d1.more d3
    refine ⟨_, _, rfl, rfl, ((2 + r : Nat) : Int), by rw [show ((2 + r : Nat) : Int) = 2 + (r : Int) by omega], by omega, by omega, fun l hl => ?_⟩
    have hl0 := d2.old hl
    refine comp_range (fun i ys H' => TrsOk K (GT mx32 n' pl) st H H' l ys i) ⟨d2.put hl0, upd_same, [], TAll.nil, rfl, fun t ht => (by cases ht)⟩ (fun i ys H' hi hinv => ?_) (fun ys H' hinv => ?_)
    · dsimp only [CTurn, gName]
      exact yesT ⟨_, rfl, _, rfl, _, _, rfl, rfl, _, rfl, turn hl0 hinv (by omega) fun zs H'' h => h⟩
    · obtain ⟨d, hl', ts, hts, hlen, hok⟩ := hinv
      refine ⟨len2, fun l2 hl2 => ?_⟩
      have k1 := same_new hl2 (.lst [.str (Str.ofString "and"), .str (Str.ofString "or")])
      obtain ⟨kw, hkw, hat⟩ : ∃ kw, (kw = kAnd ∨ kw = kOr) ∧ atI [V.str (Str.ofString "and"), .str (Str.ofString "or")] (way - 8) = some (.str (S kw)) := by
        have h5 : ¬ way < 5 := fun z => c5 (decide_eq_true z)
        have h7 : ¬ way < 7 := fun z => c7 (decide_eq_true z)
        have h8 : way ≠ 7 := fun z => c8 (decide_eq_true (by rw [z]))
        have : way = 8 ∨ way = 9 := by omega
        rcases this with e | e <;> rw [e, lkAnd, lkOr]
        · exact ⟨kAnd, .inl rfl, rfl⟩
        · exact ⟨kOr, .inr rfl, rfl⟩
      refine ⟨_, rfl, _, _, rfl, rfl, l2, _, _, _, rfl, rfl, SqL.of upd_same, hat, _, rfl, l, _, rfl, .inl ⟨SqL.of (k1 _ _ hl'), fun p hp => ⟨len2, fun p2 hp2 => ?_⟩⟩⟩
      have k2 := same_new hp (.tup ys)
      have k3 := same_new hp2 (.tup [.str (S kw), .ref p])
      have hr2' : 2 + r ≤ mx32 (n' + 1) := by
        unfold mx32
        rcases hr' with hr' | ⟨e, hr'⟩
        · split <;> omega
        · rw [if_pos e]; omega
      refine q _ (.tup [.str kw, .tup ts]) _ (d.same (k1.trans (k2.trans k3))) (.inr (.inr (.inr (.inr (.inr ⟨kw, ts, hkw, rfl, by omega, by omega, hok⟩))))) ?_
      exact TV.tup (SqT.of upd_same) (TAll.cons TV.str (TAll.one (TV.tup (SqT.of (k3 _ _ upd_same)) (hts.kp (Kp.same (k1.trans (k2.trans k3)))))))
end
end Law


set_option Elab.async false
set_option linter.all false
set_option maxRecDepth 100000
set_option maxHeartbeats 4000000
namespace Law
open PySem L2 L2.Sp
theorem mx1 (n : Nat) : 1 ≤ mx32 n := by unfold mx32; split <;> decide
theorem cnt_le : ∀ n, n ≤ 3 → cnt mx32 n ≤ 1609 := by decide
theorem prw_ne {n : Nat} {pl : Bool} {x : Tn} {ws : List Wd} (h : PrW mx32 n pl x ws) : ws ≠ [] := by
  obtain ⟨u, r, e, _⟩ := (rd_ok mx32 n pl true x ws (fun _ => rfl) h).head.ex
  rw [e]; simp
theorem row_ne {n : Nat} {pl tied : Bool} {x : Tn} {row : List Wd} (h : Row (PrW mx32 n pl) tied x row) : row ≠ [] := by
  obtain ⟨ws, hw, e | ⟨_, e⟩⟩ := h
  · rw [e]; simp
  · rw [e]; exact prw_ne hw
theorem row_len {n : Nat} (hn : n ≤ 3) {pl tied : Bool} {x : Tn} {row : List Wd} (h : Row (PrW mx32 n pl) tied x row) : row.length ≤ 1611 := by
  have := (row_ok (fun ws hw => prw_ok mx1 n pl x ws hw) h).len
  have := cnt_le n hn
  omega
theorem join_snoc {s : Wd} {rows : List (List Wd)} {r : List Wd} (h : rows ≠ []) : joinW s (rows ++ [r]) = joinW s rows ++ s :: r := by
  rw [joinW_app h]; simp [tails]
theorem join_ne {s : Wd} {rows : List (List Wd)} (h : rows ≠ []) (hr : ∀ r ∈ rows, r ≠ []) : joinW s rows ≠ [] := by
  obtain ⟨r, rows, rfl⟩ := List.exists_cons_of_ne_nil h
  intro z
  exact hr r (by simp) (List.append_eq_nil_iff.mp z).1
theorem tails_len {s : Wd} {b : Nat} : ∀ {rows : List (List Wd)}, (∀ r ∈ rows, r.length ≤ b) → (tails s rows).length ≤ rows.length * (b + 1)
  | [], _ => by simp [tails]
  | r :: rs, h => by
    rw [tails_cons, List.length_cons, List.length_append, List.length_cons, Nat.succ_mul]
    have := tails_len (s := s) (rows := rs) fun x hx => h x (by simp [hx])
    have := h r (by simp)
    omega
theorem join_len {s : Wd} {b : Nat} {rows : List (List Wd)} (h : ∀ r ∈ rows, r.length ≤ b) : (joinW s rows).length ≤ rows.length * (b + 1) := by
  cases rows with
  | nil => simp [joinW]
  | cons r rs =>
    have := tails_len (s := s) (rows := rs) fun x hx => h x (by simp [hx])
    have := h r (by simp)
    show (r ++ tails s rs).length ≤ _
    rw [List.length_append, List.length_cons, Nat.succ_mul]
    omega
def kindT : Tn → Wd
  | .tup (.str k :: _) => k
  | _ => []
theorem GT.kind {mx : Nat → Nat} {n : Nat} {pl : Bool} {t : Tn} (h : GT mx n pl t) : ∃ r, t = .tup (.str (kindT t) :: r) := by
  have lf : ∀ {t}, LfT t → ∃ r, t = .tup (.str (kindT t) :: r) := fun {t} h => by cases h <;> exact ⟨_, rfl⟩
  have pl' : ∀ {t}, PlT t → ∃ r, t = .tup (.str (kindT t) :: r) := fun {t} h => by cases h; exact ⟨_, rfl⟩
  cases n with
  | zero =>
    rcases h with h | ⟨_, h⟩
    · exact lf h
    · exact pl' h
  | succ n =>
    rcases h with h | ⟨_, h⟩ | ⟨ts, m, rfl, _⟩ | ⟨fs, m, rfl, _⟩ | ⟨t, rfl, _⟩ | ⟨k, ts, _, rfl, _⟩
    · exact lf h
    · exact pl' h
    · exact ⟨_, rfl⟩
    · exact ⟨_, rfl⟩
    · exact ⟨_, rfl⟩
    · exact ⟨_, rfl⟩
theorem isK_kind (k : Wd) (t : Tn) (h : ∃ r, t = .tup (.str (kindT t) :: r)) : isK k t = decide (kindT t = k) := by
  obtain ⟨r, e⟩ := h
  rw [e]; rfl
section
variable {P : Program} {w : World} {K : PySem.W.Frag} {mg : Str → Option Value} {base : Heap} {f : Addr} {fd : FuncData}
abbrev sSpw : Stmt := top 49
theorem scSpw : FnScope ["_law_tree_here", "_law_state", "_law_low", "_law_high", "_law_words_here"] ["_law_tree_here", "_law_state"] (defScope sSpw) := ⟨rfl, rfl, rfl, by decide +kernel, rfl, by decide +kernel, by decide +kernel⟩
def spSpw (K : PySem.W.Frag) : Sp := fun args H Q _ => ∃ (v : V) (st : Addr) (x : Int) (a b : Option Int), args = [v, .ref st] ∧ H st = some (.lst [.int x]) ∧ (a ≠ none ∨ b ≠ none) ∧ (∀ i, a = some i → IOk i) ∧ (∀ i, b = some i → IOk i) ∧ TV K H (tSpan (oI a) (oI b)) v ∧
  ∀ (H' : Hp) (l : Addr) (ws : List Wd), DS st H H' → H l = none → H' l = some (.lst (ST ws)) → LfP (tSpan (oI a) (oI b)) ws → Q (.ref l) H'
def oV : Option Int → V
  | none => .non
  | some i => .int i
theorem tv_oI {H : Hp} {a : Option Int} {v : V} (h : TV K H (oI a) v) : v = oV a := by
  cases a <;> (simp only [oI, TV] at h; exact h)
theorem log_ok {i : Int} (h : IOk i) : i.natAbs.log2 < 1920 := by
  have h2 : i.natAbs < 2 ^ 1919 := Nat.lt_trans h (by decide +kernel)
  by_cases e : i.natAbs = 0
  · rw [e]; decide
  · have := (Nat.log2_lt e).mpr h2
    omega
theorem ok_spw (F : Fun K "_law_span_words" "_law_span_words" sSpw f fd) (N : Cal P w K mg base 1 "_law_next" ["_law_state", "_law_many"] spNext) (m1 : mg "str" = none) : FnOk P w K mg base CX0 2 f fd ["_law_tree_here", "_law_state"] (spSpw K) := by
  refine F.ok scSpw (fun vs H Q E h => ?_) (fun cdv A outer s H vs Q E hr h => ?_)
  · obtain ⟨v, st, x, a, b, rfl, _⟩ := h
    rfl
  obtain ⟨v, st, x, a, b, rfl, hs, hab, ha, hb, hv, q⟩ := h
  refine ⟨_, pss_cons (ps_set (i := 2) scSpw.nd rfl (Or.inl rfl) (pe_ix ix_tup (pv 0) pe_int (fun _ _ => rfl)))
    (pss_cons (ps_set (i := 3) scSpw.nd rfl (Or.inl rfl) (pe_ix ix_tup (pv 0) pe_int (fun _ _ => rfl)))
    (pss_cut (ps_if (PW.pt (pw_and (pt_cmpR op_notN (pv 2) pe_non (nomark _)) (pw_and (pt_cmpR op_eq (pv 2) (pv 3) (nomark _)) (pw_and1 (pt_cmpR op_gt (pe_cal N hr rfl (pa_cons (pv 1) (pa_cons pe_int pa_nil))) pe_int (nomark _))))))
      (pss_one (ps_ret (pe_lst (pa_cons (pe_callTy call_strI rfl m1 bt_str (pa_cons (pv 2) pa_nil)) pa_nil)))) pss_nil)
    (pss_cons (ps_set (i := 4) scSpw.nd rfl (Or.inl rfl) (pe_lst pa_nil))
    (pss_cut (ps_if (pt_cmpR op_notN (pv 2) pe_non (nomark _)) (pss_one (ps_expr (pe_bm PySem.F.plainAttrs_list PySem.F.slot_list_append PySem.F.type_list_append mt_append (pv 4) (pa_cons (pe_callTy call_strI rfl m1 bt_str (pa_cons (pv 2) pa_nil)) pa_nil)))) pss_nil)
    (pss_cons (ps_expr (pe_bm PySem.F.plainAttrs_list PySem.F.slot_list_append PySem.F.type_list_append mt_append (pv 4) (pa_cons pe_str pa_nil)))
    (pss_cut (ps_if (pt_cmpR op_notN (pv 3) pe_non (nomark _)) (pss_one (ps_expr (pe_bm PySem.F.plainAttrs_list PySem.F.slot_list_append PySem.F.type_list_append mt_append (pv 4) (pa_cons (pe_callTy call_strI rfl m1 bt_str (pa_cons (pv 3) pa_nil)) pa_nil)))) pss_nil)
    (pss_one (ps_ret (pv 4))))))))), ?_⟩
  have D0 := DS.start hs
  unfold tSpan at hv
  simp only [TV, TAll] at hv
  obtain ⟨p, ys, rfl, hp, _, _, rfl, rfl, u1, _, rfl, h1, u2, _, rfl, h2, rfl⟩ := hv
  cases tv_oI h1
  cases tv_oI h2
  refine ⟨_, rfl, p, _, _, oV a, rfl, rfl, hp, rfl, _, rfl, p, _, _, oV b, rfl, rfl, hp, rfl, ?_⟩
  refine ⟨fun σ' H' => σ' = [some (.ref p), some (.ref st), some (oV a), some (oV b), none] ∧ DS st H H', ?_, ?_⟩
  · refine ⟨_, rfl, rfl, _, rfl, ?_⟩
    cases a with
    | none => exact iteF (iteF ⟨rfl, D0⟩)
    | some i =>
      refine iteT ⟨_, rfl, _, rfl, ?_⟩
      cases b with
      | none => exact ⟨rfl, _, rfl, iteF (iteF ⟨rfl, D0⟩)⟩
      | some j =>
        refine ⟨rfl, _, rfl, ite2 (fun c => ?_) (fun _ => iteF ⟨rfl, D0⟩)⟩
        have hij : i = j := V.int.inj (of_decide_eq_true c)
        subst hij
        refine ⟨_, rfl, st, x, 3, rfl, hs, by decide, fun y r b0 b1 => ⟨_, _, rfl, rfl, _, rfl, ite2 (fun _ => ?_) (fun _ => ⟨rfl, D0.next y⟩)⟩⟩
        refine ⟨_, rfl, _, rfl, log_ok (ha i rfl), len1, fun l hl => ?_⟩
        exact q _ l [numW i] ((D0.next y).same (same_new hl _)) ((D0.next y).old hl) (by rw [upd_same]; rfl) (.one (ha i rfl))
  rintro σ1 H1 ⟨rfl, d1⟩
  refine ⟨len0, fun l hl => ?_⟩
  have hl0 := d1.old hl
  have d2 := d1.put (o := .lst []) hl0
  refine ⟨fun σ' H' => σ' = [some (.ref p), some (.ref st), some (oV a), some (oV b), some (.ref l)] ∧ DS st H H' ∧ H' l = some (.lst (ST (oW a))), ?_, ?_⟩
  · refine ⟨_, rfl, rfl, _, rfl, ?_⟩
    cases a with
    | none => exact iteF ⟨rfl, d2, upd_same⟩
    | some i =>
      refine iteT ⟨_, rfl, .inl ⟨rfl, _, SqL.of upd_same⟩, _, rfl, _, rfl, log_ok (ha i rfl), l, _, _, rfl, rfl, upd_same, sz_of (by decide), rfl, d2.put hl0, ?_⟩
      rw [upd_same]; rfl
  rintro σ2 H2 ⟨rfl, d3, hl3⟩
  refine ⟨_, rfl, .inl ⟨rfl, _, SqL.of hl3⟩, l, _, _, rfl, rfl, hl3, sz_of (by rw [List.length_map]; cases a <;> simp [oW]), ?_⟩
  rw [lDots]
  have d4 := d3.put (o := .lst (ST (oW a) ++ [.str (S [46, 46])])) hl0
  refine ⟨fun σ' H' => σ' = [some (.ref p), some (.ref st), some (oV a), some (oV b), some (.ref l)] ∧ DS st H H' ∧ H' l = some (.lst (ST (oW a ++ [[46, 46]] ++ oW b))), ?_, ?_⟩
  · refine ⟨_, rfl, rfl, _, rfl, ?_⟩
    cases b with
    | none => exact iteF ⟨rfl, d4, by rw [upd_same]; simp [ST, oW]⟩
    | some j =>
      refine iteT ⟨_, rfl, .inl ⟨rfl, _, SqL.of upd_same⟩, _, rfl, _, rfl, log_ok (hb j rfl), l, _, _, rfl, rfl, upd_same, sz_of (by rw [List.length_append, List.length_map]; cases a <;> simp [oW]), rfl, d4.put hl0, ?_⟩
      rw [upd_same, ← S_numW]; simp [ST, oW]
  rintro σ3 H3 ⟨rfl, d5, hl5⟩
  exact ⟨_, rfl, q H3 l _ d5 hl0 hl5 (.span hab ha hb)⟩
abbrev sPtw : Stmt := top 52
theorem scPtw : FnScope ["_law_path", "_law_words_here", "_law_name_here"] ["_law_path"] (defScope sPtw) := ⟨rfl, rfl, rfl, by decide +kernel, rfl, by decide +kernel, by decide +kernel⟩
def spPtw (K : PySem.W.Frag) : Sp := fun args H Q _ => ∃ (p : Addr) (ns : List Wd), args = [.ref p] ∧ SqT K H p (ST ns) ∧ ns.length ≤ 100 ∧ ∀ (H' : Hp) (l : Addr), Same H H' → H l = none → H' l = some (.lst (ST (pathW ns))) → Q (.ref l) H'
theorem path_snoc {ns : List Wd} {n : Wd} : pathW (ns ++ [n]) = pathW ns ++ (if ns = [] then [] else [[46]]) ++ [n] := by
  unfold pathW
  by_cases e : ns = []
  · subst e; rfl
  · rw [if_neg e, List.map_append, joinW_app (by simpa using e)]
    simp [tails]
theorem path_len (ns : List Wd) : (pathW ns).length ≤ 2 * ns.length := by
  unfold pathW
  have := join_len (s := [46]) (b := 1) (rows := ns.map ([·])) (fun r hr => by
    obtain ⟨n, _, rfl⟩ := List.mem_map.mp hr
    exact Nat.le_refl _)
  rw [List.length_map] at this
  omega
theorem cut_flag (u : V) (b : Bool) : cutV [u] none (some (if b then (1 : Int) else 0)) = if b then [u] else [] := by
  cases b with
  | true => exact cut_to id [u] 1
  | false => exact cut_to id [u] 0
theorem ok_ptw (F : Fun K "_law_path_words" "_law_path_words" sPtw f fd) (m1 : mg "int" = none) (m2 : mg "len" = none) : FnOk P w K mg base CX0 1 f fd ["_law_path"] (spPtw K) := by
  refine F.ok scPtw (fun vs H Q E h => ?_) (fun cdv A outer s H vs Q E hr h => ?_)
  · obtain ⟨p, ns, rfl, _⟩ := h
    rfl
  obtain ⟨p, ns, rfl, hp, hn, q⟩ := h
  refine ⟨_, pss_cons (ps_set (i := 1) scPtw.nd rfl (Or.inl rfl) (pe_lst pa_nil))
    (pss_cons (ps_for PassesOwn.never rfl (pi_tup (pv 0)) (pg_name (i := 2) scPtw.nd rfl (Or.inl rfl))
      (pss_one (ps_aug (i := 1) scPtw.nd rfl (Or.inl rfl) (pe_op op_cat (pe_slice sl_list (pe_lst (pa_cons pe_str pa_nil)) po_none (po_some (pe_callTy call_intB rfl m1 bt_int (pa_cons (pe_cmpR op_gt (pe_callB call_len_seq rfl m2 PySem.boot_len (pa_cons (pv 1) pa_nil)) pe_int (nomark _)) pa_nil)))) (pe_lst (pa_cons (pv 2) pa_nil))) ip_cat)))
    (pss_one (ps_ret (pv 1)))), ?_⟩
  refine ⟨len0, fun l hl => ?_⟩
  have k0 := same_new hl (.lst [])
  refine ⟨_, rfl, p, rfl, ⟨_, k0.seqT hp⟩, ?_⟩
  refine for_tup (xs := ST ns) (fun i σ H' => ∃ b2 : Option V, σ = [some (.ref p), some (.ref l), b2] ∧ Same H H' ∧ H' l = some (.lst (ST (pathW (ns.take i))))) ⟨none, rfl, k0, upd_same⟩ (fun i σ H' _ ⟨_, _, g, _⟩ => g.seqT hp) (fun i u σ H' hu hinv => ?_) (fun σ H' hinv => ?_)
  · obtain ⟨b2, rfl, g, hl'⟩ := hinv
    obtain ⟨nm, hnm, rfl⟩ : ∃ nm, ns[i]? = some nm ∧ u = .str (S nm) := by
      rw [List.getElem?_map] at hu
      cases e : ns[i]? with
      | none => rw [e] at hu; cases hu
      | some z => rw [e] at hu; cases hu; exact ⟨z, rfl, rfl⟩
    refine ⟨_, rfl, len1, fun l1 hl1 => ?_⟩
    rw [lDot]
    have k1 := same_new hl1 (.lst [.str (S [46])])
    have hl1' := k1 _ _ hl'
    refine ⟨_, rfl, l, _, rfl, .inl (SqL.of hl1'), _, _, rfl, rfl, _, rfl, _, rfl, l1, _, rfl, SqL.of upd_same, fun l2 hl2 => ?_⟩
    have hfl : (decide ((0 : Int) < ((ST (pathW (ns.take i))).length : Int))) = decide (ns.take i ≠ []) := by
      rw [Bool.eq_iff_iff, decide_eq_true_iff, decide_eq_true_iff, List.length_map]
      constructor
      · intro z e; rw [e] at z; exact absurd z (by decide)
      · intro z
        have := join_ne (s := [46]) (rows := (ns.take i).map ([·])) (by simpa using z) (fun r hr => by obtain ⟨n, _, rfl⟩ := List.mem_map.mp hr; simp)
        have := List.length_pos_iff.mpr this
        unfold pathW
        omega
    have ecut : cutV [V.str (S [46])] none (some (if decide ((0 : Int) < ((ST (pathW (ns.take i))).length : Int)) = true then (1 : Int) else 0)) = ST (if ns.take i = [] then [] else [[46]]) := by
      rw [hfl, cut_flag]
      by_cases e : ns.take i = []
      · rw [if_pos e, decide_eq_false (fun z => z e)]; rfl
      · rw [if_neg e, decide_eq_true e]; rfl
    rw [ecut]
    have k2 := same_new hl2 (.lst (ST (if ns.take i = [] then [] else [[46]])))
    refine ⟨_, rfl, len1, fun l3 hl3 => ?_⟩
    have k3 := same_new hl3 (.lst [.str (S nm)])
    have hlen2 : (ST (if ns.take i = [] then [] else [[46]])).length ≤ 1 := by split <;> simp [ST]
    refine ⟨l2, l3, _, _, rfl, rfl, k3 _ _ upd_same, upd_same, small_le (by rw [List.length_singleton]; omega), fun l4 hl4 => ?_⟩
    have k4 := same_new hl4 (.lst (ST (if ns.take i = [] then [] else [[46]]) ++ [.str (S nm)]))
    have kk := k1.trans (k2.trans (k3.trans k4))
    have hpl := path_len (ns.take i)
    rw [List.length_take] at hpl
    refine ⟨l, l4, _, _, rfl, rfl, kk _ _ hl', upd_same, small_le (by rw [List.length_append, List.length_map, List.length_singleton]; omega), some (.str (S nm)), rfl, fun b o h => by rw [upd_ne (ne_of_none h hl)]; exact kk _ _ (g _ _ h), ?_⟩
    rw [upd_same, take_snoc hnm, path_snoc]
    simp [ST]
  · obtain ⟨b2, rfl, g, hl'⟩ := hinv
    have e : ns.take (ST ns).length = ns := by rw [List.length_map, List.take_length]
    rw [e] at hl'
    exact ⟨_, rfl, q H' l g hl hl'⟩
end
end Law


set_option Elab.async false
set_option linter.all false
set_option maxRecDepth 100000
set_option maxHeartbeats 4000000
namespace Law
open PySem L2 L2.Sp
theorem small_le5 {n : Nat} (h : n ≤ 200000) : n ≤ sizeLine := Nat.le_of_lt (sz5 h)
theorem none_back {H H' : Hp} {l : Addr} (g : Same H H') (h : H' l = none) : H l = none := by
  cases e : H l with
  | none => rfl
  | some o => rw [g _ _ e] at h; cases h
/-- lists of words, by their addresses -/
def LsR (H : Hp) (refs : List V) (rows : List (List Wd)) : Prop := All2 (fun r row => ∃ a, r = V.ref a ∧ H a = some (.lst (ST row))) refs rows
theorem LsR.same {H H' : Hp} {refs : List V} {rows : List (List Wd)} (g : Same H H') (h : LsR H refs rows) : LsR H' refs rows := h.imp fun r _ row ⟨a, e, ha⟩ => ⟨a, e, g _ _ ha⟩
theorem All2.get {α β : Type} {F : α → β → Prop} : ∀ {as : List α} {bs : List β} {i : Nat} {a : α}, All2 F as bs → as[i]? = some a → ∃ b, bs[i]? = some b ∧ F a b
  | _, _, i, a, .nil, e => by simp at e
  | _, _, 0, a, .cons h _, e => by simp at e; subst e; exact ⟨_, rfl, h⟩
  | _, _, i + 1, a, .cons _ hs, e => by
    obtain ⟨b, h1, h2⟩ := All2.get (i := i) hs (by simpa using e)
    exact ⟨b, by simpa using h1, h2⟩
theorem All2.app {α β : Type} {F : α → β → Prop} {as as' : List α} {bs bs' : List β} (h : All2 F as bs) (h' : All2 F as' bs') : All2 F (as ++ as') (bs ++ bs') := by
  induction h with
  | nil => exact h'
  | cons a _ ih => exact .cons a ih
section
variable {P : Program} {w : World} {K : PySem.W.Frag} {mg : Str → Option Value} {base : Heap} {f : Addr} {fd : FuncData}
abbrev sItw : Stmt := top 50
theorem scItw : FnScope ["_law_rows", "_law_more", "_law_words_here", "_law_row"] ["_law_rows", "_law_more"] (defScope sItw) := ⟨rfl, rfl, rfl, by decide +kernel, rfl, by decide +kernel, by decide +kernel⟩
def spItw : Sp := fun args H Q _ => ∃ (lr : Addr) (m : Bool) (refs : List V) (rows : List (List Wd)), args = [.ref lr, .bl m] ∧ H lr = some (.lst refs) ∧ LsR H refs rows ∧ (∀ r ∈ rows, r ≠ [] ∧ r.length ≤ 3000) ∧ rows.length ≤ 20 ∧ ∀ (H' : Hp) (l : Addr), Same H H' → H l = none → H' l = some (.lst (ST (joinW [44] (rows ++ dotsR m)))) → Q (.ref l) H'
theorem ok_itw (F : Fun K "_law_items_words" "_law_items_words" sItw f fd) (m1 : mg "int" = none) (m2 : mg "len" = none) : FnOk P w K mg base CX0 1 f fd ["_law_rows", "_law_more"] spItw := by
  refine F.ok scItw (fun vs H Q E h => ?_) (fun cdv A outer s H vs Q E hr h => ?_)
  · obtain ⟨lr, m, refs, rows, rfl, _⟩ := h
    rfl
  obtain ⟨lr, m, refs, rows, rfl, hlr, hrs, hok, hn, q⟩ := h
  refine ⟨_, pss_cons (ps_set (i := 2) scItw.nd rfl (Or.inl rfl) (pe_lst pa_nil))
    (pss_cons (ps_for PassesOwn.never rfl (pi_list (pe_op op_cat (pv 0) (pe_slice sl_list (pe_lst (pa_cons (pe_lst (pa_cons pe_str pa_nil)) pa_nil)) po_none (po_some (pe_callTy call_intB rfl m1 bt_int (pa_cons (pv 1) pa_nil)))))) (pg_name (i := 3) scItw.nd rfl (Or.inl rfl))
      (pss_cut (ps_if (pt_cmpR op_gt (pe_callB call_len_seq rfl m2 PySem.boot_len (pa_cons (pv 2) pa_nil)) pe_int (nomark _)) (pss_one (ps_expr (pe_bm PySem.F.plainAttrs_list PySem.F.slot_list_append PySem.F.type_list_append mt_append (pv 2) (pa_cons pe_str pa_nil)))) pss_nil)
      (pss_one (ps_aug (i := 2) scItw.nd rfl (Or.inl rfl) (pv 3) ip_cat))))
    (pss_one (ps_ret (pv 2)))), ?_⟩
  refine ⟨len0, fun l hl => ?_⟩
  have k0 := same_new hl (.lst [])
  have hrl := hrs.length
  refine ⟨_, rfl, len1, fun la hla => ⟨len1, fun lb hlb => ⟨_, rfl, _, rfl, _, rfl, lb, _, rfl, SqL.of upd_same, fun lc hlc => ?_⟩⟩⟩
  rw [cut_flag, lDots]
  rw [lDots] at hlb hlc
  have k1 := same_new hla (.lst [.str (S [46, 46])])
  have k2 := same_new hlb (.lst [.ref la])
  have k3 := same_new hlc (.lst (if m then [V.ref la] else []))
  have k03 := k0.trans (k1.trans (k2.trans k3))
  have hmle : (if m then [V.ref la] else []).length ≤ 1 := by cases m <;> simp
  refine ⟨lr, lc, _, _, rfl, rfl, k03 _ _ hlr, upd_same, small_le (by omega), fun ld hld => ?_⟩
  have k4 := same_new hld (.lst (refs ++ (if m then [V.ref la] else [])))
  have k04 := k03.trans k4
  have nla : la ≠ l := fun e => by rw [e, upd_same] at hla; cases hla
  have nld : ld ≠ l := Ne.symm (ne_of_none (k1.trans (k2.trans k3) _ _ upd_same) hld)
  have hls : LsR (upd (upd (upd (upd (upd H l (.lst [])) la (.lst [.str (S [46, 46])])) lb (.lst [.ref la])) lc (.lst (if m then [V.ref la] else []))) ld (.lst (refs ++ (if m then [V.ref la] else [])))) (refs ++ (if m then [V.ref la] else [])) (rows ++ dotsR m) := by
    refine All2.app (LsR.same k04 hrs) ?_
    cases m with
    | false => exact .nil
    | true => exact .cons ⟨la, rfl, (k2.trans (k3.trans k4)) _ _ upd_same⟩ .nil
  have hne : ∀ a, V.ref a ∈ refs ++ (if m then [V.ref la] else []) → a ≠ l := fun a ha => by
    rcases List.mem_append.mp ha with z | z
    · obtain ⟨i, hi⟩ := List.getElem?_of_mem z
      obtain ⟨row, _, a', e, ha'⟩ := hrs.get hi
      cases e
      exact ne_of_none ha' hl
    · cases m with
      | false => cases z
      | true => cases List.mem_singleton.mp z; exact nla
  have hrows : ∀ r ∈ rows ++ dotsR m, r ≠ [] ∧ r.length ≤ 3000 := fun r hr => by
    rcases List.mem_append.mp hr with z | z
    · exact hok r z
    · cases m with
      | false => cases z
      | true => cases List.mem_singleton.mp z; exact ⟨by simp, by decide⟩
  have hrn : (rows ++ dotsR m).length ≤ 21 := by rw [List.length_append]; cases m <;> simp [dotsR] <;> omega
  have hld4 : upd (upd (upd (upd (upd H l (.lst [])) la (.lst [.str (S [46, 46])])) lb (.lst [.ref la])) lc (.lst (if m then [V.ref la] else []))) ld (.lst (refs ++ (if m then [V.ref la] else []))) ld = some _ := upd_same
  have hl4 := (k1.trans (k2.trans (k3.trans k4))) l _ upd_same
  generalize upd (upd (upd (upd (upd H l (.lst [])) la (.lst [.str (S [46, 46])])) lb (.lst [.ref la])) lc (.lst (if m then [V.ref la] else []))) ld (.lst (refs ++ (if m then [V.ref la] else []))) = H5 at k04 hls hld4 hl4 ⊢
  generalize hR : refs ++ (if m then [V.ref la] else []) = refs' at hls hne hld4 ⊢
  have hlen' := hls.length
  refine ⟨ld, rfl, ⟨_, SqL.of hld4⟩, ?_⟩
  refine for_list (xs := refs') (fun i σ H' => ∃ b3 : Option V, σ = [some (.ref lr), some (.bl m), some (.ref l), b3] ∧ Grow l H5 H' ∧ H' l = some (.lst (ST (joinW [44] ((rows ++ dotsR m).take i))))) ⟨none, rfl, Grow.refl, hl4⟩ (fun i σ H' _ ⟨_, _, g, _⟩ => SqL.of (g _ _ nld hld4)) (fun i u σ H' hu hinv => ?_) (fun σ H' hinv => ?_)
  · obtain ⟨b3, rfl, g, hl'⟩ := hinv
    obtain ⟨row, hrow, a, rfl, ha⟩ := hls.get hu
    have hal := hne a (List.mem_of_getElem? hu)
    have ha' := g _ _ hal ha
    obtain ⟨hrne, hrlen⟩ := hrows row (List.mem_of_getElem? hrow)
    have hi : i < (rows ++ dotsR m).length := (List.getElem?_eq_some_iff.mp hrow).1
    have hmem : ∀ r ∈ (rows ++ dotsR m).take i, r ≠ [] ∧ r.length ≤ 3000 := fun r hr => hrows r (List.mem_of_mem_take hr)
    have hjl : (joinW [44] ((rows ++ dotsR m).take i)).length ≤ 63021 := by
      have := join_len (s := [44]) (b := 3000) (rows := (rows ++ dotsR m).take i) fun r hr => (hmem r hr).2
      rw [List.length_take] at this
      have h2 : min i (rows ++ dotsR m).length * 3001 ≤ 21 * 3001 := Nat.mul_le_mul_right _ (by omega)
      omega
    refine ⟨fun σ' H'' => σ' = [some (.ref lr), some (.bl m), some (.ref l), some (.ref a)] ∧ Grow l H5 H'' ∧ H'' l = some (.lst (ST (joinW [44] ((rows ++ dotsR m).take i) ++ (if i = 0 then [] else [[44]])))), ?_, ?_⟩
    · refine ⟨_, rfl, l, _, rfl, .inl (SqL.of hl'), _, _, rfl, rfl, _, rfl, ?_⟩
      rw [List.length_map]
      by_cases e : i = 0
      · subst e
        exact iteF ⟨rfl, g, by simpa [joinW] using hl'⟩
      · have hpos : 0 < (joinW [44] ((rows ++ dotsR m).take i)).length := List.length_pos_iff.mpr (join_ne (fun z => by
          have := congrArg List.length z
          rw [List.length_take, List.length_nil] at this
          omega) fun r hr => (hmem r hr).1)
        rw [decide_eq_true (p := (0 : Int) < ((joinW [44] ((rows ++ dotsR m).take i)).length : Int)) (by omega)]
        refine iteT ⟨_, rfl, .inl ⟨rfl, _, SqL.of hl'⟩, l, _, _, rfl, rfl, hl', sz5 (by rw [List.length_map]; omega), rfl, g.trans grow_upd, ?_⟩
        rw [upd_same, lCom, if_neg e]; simp [ST]
    · rintro σ' H'' ⟨rfl, g2, hl2⟩
      have ha2 := g2 _ _ hal ha
      refine ⟨_, rfl, _, rfl, l, a, _, _, rfl, rfl, hl2, ha2, small_le5 ?_, some (.ref a), rfl, g2.trans grow_upd, ?_⟩
      · rw [List.length_map, List.length_map, List.length_append]
        split <;> simp <;> omega
      · rw [upd_same, take_snoc hrow]
        by_cases e : i = 0
        · subst e; simp [joinW, tails, ST]
        · rw [if_neg e, join_snoc (fun z => by
            have := congrArg List.length z
            rw [List.length_take, List.length_nil] at this
            omega)]
          simp [ST]
  · obtain ⟨b3, rfl, g, hl'⟩ := hinv
    rw [hlen', List.take_length] at hl'
    exact ⟨_, rfl, q H' l (fun b o h => g _ _ (ne_of_none h hl) (k04 _ _ h)) hl hl'⟩
def spWs (K : PySem.W.Frag) (n : Nat) : Sp := fun args H Q _ => ∃ (v : V) (st : Addr) (x : Int) (pl : Bool) (t : Tn), args = [v, .ref st] ∧ H st = some (.lst [.int x]) ∧ GT mx32 n pl t ∧ TV K H t v ∧
  ∀ (H' : Hp) (l : Addr) (ws : List Wd), DS st H H' → H l = none → H' l = some (.lst (ST ws)) → PrW mx32 n pl t ws → Q (.ref l) H'
def spBr (K : PySem.W.Frag) (n : Nat) : Sp := fun args H Q _ => ∃ (v : V) (tg st : Addr) (x : Int) (pl : Bool) (t : Tn) (ks : List Wd), args = [v, .ref tg, .ref st] ∧ H st = some (.lst [.int x]) ∧ GT mx32 n pl t ∧ TV K H t v ∧ SqT K H tg (ST ks) ∧
  ∀ (H' : Hp) (l : Addr) (row : List Wd), DS st H H' → H l = none → H' l = some (.lst (ST row)) → Row (PrW mx32 n pl) (decide (kindT t ∈ ks)) t row → Q (.ref l) H'
abbrev sBr : Stmt := top 47
theorem scBr : FnScope ["_law_tree_here", "_law_tying", "_law_state", "_law_words_here"] ["_law_tree_here", "_law_tying", "_law_state"] (defScope sBr) := ⟨rfl, rfl, rfl, by decide +kernel, rfl, by decide +kernel, by decide +kernel⟩
theorem ok_br {k n : Nat} (F : Fun K "_law_braced" "_law_braced" sBr f fd) (WS : Cal P w K mg base k "_law_words" ["_law_tree_here", "_law_state"] (spWs K n)) (N : Cal P w K mg base 1 "_law_next" ["_law_state", "_law_many"] spNext) (hk : 1 ≤ k) (hn : n ≤ 3) : FnOk P w K mg base CX0 (k + 1) f fd ["_law_tree_here", "_law_tying", "_law_state"] (spBr K n) := by
  refine F.ok scBr (fun vs H Q E h => ?_) (fun cdv A outer s H vs Q E hr h => ?_)
  · obtain ⟨v, tg, st, x, pl, t, ks, rfl, _⟩ := h
    rfl
  obtain ⟨v, tg, st, x, pl, t, ks, rfl, hs, hg, hv, htg, q⟩ := h
  have hr1 := hr.mono hk
  refine ⟨_, pss_cons (ps_set (i := 3) scBr.nd rfl (Or.inl rfl) (pe_cal WS hr rfl (pa_cons (pv 0) (pa_cons (pv 2) pa_nil))))
    (pss_cut (ps_if (PW.pt (pw_or (pt_cmpR op_in_seq (pe_ix ix_tup (pv 0) pe_int (fun _ _ => rfl)) (pv 1) rfl) (pw_or1 (pt_cmpR op_eq (pe_cal N hr1 rfl (pa_cons (pv 2) (pa_cons pe_int pa_nil))) pe_int (nomark _)))))
      (pss_one (ps_ret (pe_op op_cat (pe_op op_cat (pe_lst (pa_cons pe_str pa_nil)) (pv 3)) (pe_lst (pa_cons pe_str pa_nil))))) pss_nil)
    (pss_one (ps_ret (pv 3)))), ?_⟩
  have D0 := DS.start hs
  refine ⟨_, rfl, _, rfl, v, st, x, pl, t, rfl, hs, hg, hv, fun H1 l ws d1 hl0 hl hw => ?_⟩
  have hwl : ws.length ≤ 1611 := by have := (prw_ok mx1 n pl t ws hw).len; have := cnt_le n hn; omega
  have hv1 := TV.kp d1.kp hv
  obtain ⟨r, et⟩ := hg.kind
  have hv2 := hv1
  rw [et] at hv2
  simp only [TV, TAll] at hv2
  obtain ⟨p, ys, rfl, hp, y0, ys', rfl, rfl, hy'⟩ := hv2
  obtain ⟨y1, hy1⟩ := d1.s
  refine ⟨fun σ' H' => σ' = [some (.ref p), some (.ref tg), some (.ref st), some (.ref l)] ∧ DS st H H' ∧ H' l = some (.lst (ST ws)) ∧ kindT t ∉ ks, ?_, ?_⟩
  · refine ⟨_, rfl, p, _, _, .str (S (kindT t)), rfl, rfl, hp, atI_nat (j := 0) rfl, _, rfl, tg, _, rfl, .inr (d1.kp _ _ htg), rfl, flat_ST _, _, rfl, ?_⟩
    show if inV (.str (S (kindT t))) (ST ks) = true then _ else _
    rw [inV_ST]
    refine ite2 (fun c => iteT ?_) (fun c => ?_)
    · refine ⟨len1, fun l1 hl1 => ⟨_, rfl, l1, l, _, _, rfl, rfl, upd_same, same_new hl1 _ _ _ hl, small_le5 (by rw [List.length_map, List.length_singleton]; omega), fun l2 hl2 => ⟨len1, fun l3 hl3 => ?_⟩⟩⟩
      have k1 := same_new hl1 (.lst [.str (Str.ofString "(")])
      have k2 := same_new hl2 (.lst ([.str (Str.ofString "(")] ++ ST ws))
      have k3 := same_new hl3 (.lst [.str (Str.ofString ")")])
      refine ⟨l2, l3, _, _, rfl, rfl, k3 _ _ upd_same, upd_same, small_le5 (by rw [List.length_append, List.length_map, List.length_singleton, List.length_singleton]; omega), fun l4 hl4 => ?_⟩
      have k4 := same_new hl4 (.lst ([.str (Str.ofString "(")] ++ ST ws ++ [.str (Str.ofString ")")]))
      have kk := k1.trans (k2.trans (k3.trans k4))
      refine q _ l4 ([40] :: (ws ++ [[41]])) (d1.same kk) (d1.old (none_back (k1.trans (k2.trans k3)) hl4)) ?_ ⟨ws, hw, .inl rfl⟩
      rw [upd_same, lLp, lRp]; simp [ST]
    have hk' : kindT t ∉ ks := fun z => c (decide_eq_true z)
    have nl := d1.ne hl0
    refine ⟨_, rfl, st, y1, 8, rfl, hy1, by decide, fun y2 r2 b0 b1 => ⟨rfl, _, rfl, ite2 (fun _ => ?_) (fun _ => ⟨rfl, d1.next y2, by rw [upd_ne nl]; exact hl, hk'⟩)⟩⟩
    have hl2 : upd H1 st (.lst [.int y2]) l = some (.lst (ST ws)) := by rw [upd_ne nl]; exact hl
    have d2 := d1.next y2
    refine ⟨len1, fun l1 hl1 => ⟨_, rfl, l1, l, _, _, rfl, rfl, upd_same, same_new hl1 _ _ _ hl2, small_le5 (by rw [List.length_map, List.length_singleton]; omega), fun l2 hl2 => ⟨len1, fun l3 hl3 => ?_⟩⟩⟩
    have k1 := same_new hl1 (.lst [.str (Str.ofString "(")])
    have k2 := same_new hl2 (.lst ([.str (Str.ofString "(")] ++ ST ws))
    have k3 := same_new hl3 (.lst [.str (Str.ofString ")")])
    refine ⟨l2, l3, _, _, rfl, rfl, k3 _ _ upd_same, upd_same, small_le5 (by rw [List.length_append, List.length_map, List.length_singleton, List.length_singleton]; omega), fun l4 hl4 => ?_⟩
    have k4 := same_new hl4 (.lst ([.str (Str.ofString "(")] ++ ST ws ++ [.str (Str.ofString ")")]))
    have kk := k1.trans (k2.trans (k3.trans k4))
    refine q _ l4 ([40] :: (ws ++ [[41]])) (d2.same kk) (d2.old (none_back (k1.trans (k2.trans k3)) hl4)) ?_ ⟨ws, hw, .inl rfl⟩
    rw [upd_same, lLp, lRp]; simp [ST]
  · rintro σ' H' ⟨rfl, d2, hl2, hk'⟩
    exact ⟨_, rfl, q H' l ws d2 hl0 hl2 ⟨ws, hw, .inr ⟨decide_eq_false hk', rfl⟩⟩⟩
def spTd (K : PySem.W.Frag) (n : Nat) : Sp := fun args H Q _ => ∃ (sg : Wd) (tp tg st : Addr) (x : Int) (pl : Bool) (vs : List V) (ts : List Tn) (ks : List Wd), args = [.str (S sg), .ref tp, .ref tg, .ref st] ∧ H st = some (.lst [.int x]) ∧ SqT K H tp vs ∧ TAll K H ts vs ∧ (∀ t ∈ ts, GT mx32 n pl t) ∧ ts.length ≤ 20 ∧ SqT K H tg (ST ks) ∧
  ∀ (H' : Hp) (l : Addr) (rows : List (List Wd)), DS st H H' → H l = none → H' l = some (.lst (ST (joinW sg rows))) → All2 (fun t row => Row (PrW mx32 n pl) (decide (kindT t ∈ ks)) t row) ts rows → Q (.ref l) H'
abbrev sTd : Stmt := top 48
theorem scTd : FnScope ["_law_sign", "_law_trees", "_law_tying", "_law_state", "_law_words_here", "_law_tree_here"] ["_law_sign", "_law_trees", "_law_tying", "_law_state"] (defScope sTd) := ⟨rfl, rfl, rfl, by decide +kernel, rfl, by decide +kernel, by decide +kernel⟩
theorem ok_td {k n : Nat} (F : Fun K "_law_tied" "_law_tied" sTd f fd) (BR : Cal P w K mg base k "_law_braced" ["_law_tree_here", "_law_tying", "_law_state"] (spBr K n)) (m2 : mg "len" = none) (hn : n ≤ 3) : FnOk P w K mg base CX0 (k + 1) f fd ["_law_sign", "_law_trees", "_law_tying", "_law_state"] (spTd K n) := by
  refine F.ok scTd (fun vs H Q E h => ?_) (fun cdv A outer s H vs Q E hr h => ?_)
  · obtain ⟨sg, tp, tg, st, x, pl, us, ts, ks, rfl, _⟩ := h
    rfl
  obtain ⟨sg, tp, tg, st, x, pl, us, ts, ks, rfl, hs, htp, hts, hgt, hlen, htg, q⟩ := h
  refine ⟨_, pss_cons (ps_set (i := 4) scTd.nd rfl (Or.inl rfl) (pe_lst pa_nil))
    (pss_cons (ps_for PassesOwn.never rfl (pi_tup (pv 1)) (pg_name (i := 5) scTd.nd rfl (Or.inl rfl))
      (pss_cut (ps_if (pt_cmpR op_gt (pe_callB call_len_seq rfl m2 PySem.boot_len (pa_cons (pv 4) pa_nil)) pe_int (nomark _)) (pss_one (ps_expr (pe_bm PySem.F.plainAttrs_list PySem.F.slot_list_append PySem.F.type_list_append mt_append (pv 4) (pa_cons (pv 0) pa_nil)))) pss_nil)
      (pss_one (ps_aug (i := 4) scTd.nd rfl (Or.inl rfl) (pe_cal BR hr rfl (pa_cons (pv 5) (pa_cons (pv 2) (pa_cons (pv 3) pa_nil)))) ip_cat))))
    (pss_one (ps_ret (pv 4)))), ?_⟩
  have D0 := DS.start hs
  refine ⟨len0, fun l hl => ?_⟩
  have D1 := D0.put (o := .lst []) hl
  have htl := hts.length
  refine ⟨_, rfl, tp, rfl, ⟨_, D1.kp _ _ htp⟩, ?_⟩
  refine for_tup (xs := us) (fun i σ H' => ∃ (rows : List (List Wd)) (b5 : Option V), σ = [some (.str (S sg)), some (.ref tp), some (.ref tg), some (.ref st), some (.ref l), b5] ∧ DS st H H' ∧ H' l = some (.lst (ST (joinW sg rows))) ∧ All2 (fun t row => Row (PrW mx32 n pl) (decide (kindT t ∈ ks)) t row) (ts.take i) rows)
    ⟨[], none, rfl, D1, upd_same, .nil⟩ (fun i σ H' _ ⟨_, _, _, d, _⟩ => d.kp _ _ htp) (fun i u σ H' hu hinv => ?_) (fun σ H' hinv => ?_)
  · obtain ⟨rows, b5, rfl, d, hl', ha⟩ := hinv
    obtain ⟨t, ht, htv⟩ := hts.get hu
    have hi : i < us.length := (List.getElem?_eq_some_iff.mp hu).1
    have nl := d.ne hl
    have hrl := ha.length
    rw [List.length_take] at hrl
    have hrow : ∀ r ∈ rows, r ≠ [] ∧ r.length ≤ 1611 := ha.right fun t row h => ⟨row_ne h, row_len hn h⟩
    have hjl : (joinW sg rows).length ≤ 32240 := by
      have := join_len (s := sg) (b := 1611) (rows := rows) fun r hr => (hrow r hr).2
      have h2 : rows.length * 1612 ≤ 20 * 1612 := Nat.mul_le_mul_right _ (by omega)
      omega
    refine ⟨fun σ' H'' => σ' = [some (.str (S sg)), some (.ref tp), some (.ref tg), some (.ref st), some (.ref l), some u] ∧ DS st H H'' ∧ H'' l = some (.lst (ST (joinW sg rows ++ (if rows = [] then [] else [sg])))), ?_, ?_⟩
    · refine ⟨_, rfl, l, _, rfl, .inl (SqL.of hl'), _, _, rfl, rfl, _, rfl, ?_⟩
      rw [List.length_map]
      by_cases e : rows = []
      · subst e
        exact iteF ⟨rfl, d, by simpa [joinW] using hl'⟩
      · have hpos : 0 < (joinW sg rows).length := List.length_pos_iff.mpr (join_ne e fun r hr => (hrow r hr).1)
        rw [decide_eq_true (p := (0 : Int) < ((joinW sg rows).length : Int)) (by omega)]
        refine iteT ⟨_, rfl, .inl ⟨rfl, _, SqL.of hl'⟩, _, rfl, l, _, _, rfl, rfl, hl', sz5 (by rw [List.length_map]; omega), rfl, d.put hl, ?_⟩
        rw [upd_same, if_neg e]; simp [ST]
    · rintro σ' H'' ⟨rfl, d2, hl2⟩
      obtain ⟨y2, hy2⟩ := d2.s
      refine ⟨_, rfl, _, rfl, _, rfl, _, rfl, u, tg, st, y2, pl, t, ks, rfl, hy2, hgt t (List.mem_of_getElem? ht), TV.kp d2.kp htv, d2.kp _ _ htg, fun H3 lb row d3 hlb0 hlb hrw => ?_⟩
      have hl3 := d3.g _ _ nl hl2
      have hr2 := row_len hn hrw
      refine ⟨l, lb, _, _, rfl, rfl, hl3, hlb, small_le5 ?_, rows ++ [row], some u, rfl, (d2.more d3).put hl, ?_, ?_⟩
      · rw [List.length_map, List.length_map, List.length_append]
        split <;> simp <;> omega
      · rw [upd_same]
        by_cases e : rows = []
        · subst e; simp [joinW, tails, ST]
        · rw [if_neg e, join_snoc e]; simp [ST]
      · rw [take_snoc ht]
        exact ha.snoc hrw
  · obtain ⟨rows, b5, rfl, d, hl', ha⟩ := hinv
    rw [htl, List.take_length] at ha
    exact ⟨_, rfl, q H' l rows d hl hl' ha⟩
end
end Law


set_option Elab.async false
set_option linter.all false
set_option maxRecDepth 100000
set_option maxHeartbeats 4000000
namespace Law
open PySem L2 L2.Sp
theorem no_k {a b : Wd} {s : Str} (h : s = S b) (hne : a ≠ b) : decide (V.str (S a) = V.str s) = false := by rw [h, dec_S]; exact decide_eq_false hne
theorem yes_k {a : Wd} {s : Str} (h : s = S a) : decide (V.str (S a) = V.str s) = true := by rw [h, dec_S]; exact decide_eq_true rfl
theorem aoK : [V.str (Str.ofString "and"), .str (Str.ofString "or")] = ST [kAnd, kOr] := by rw [lkAnd, lkOr]; rfl
theorem orK : [V.str (Str.ofString "or")] = ST [kOr] := by rw [lkOr]; rfl
theorem isAO_kind {mx : Nat → Nat} {n : Nat} {pl : Bool} {t : Tn} (h : GT mx n pl t) : isAO t = decide (kindT t ∈ [kAnd, kOr]) := by
  unfold isAO
  rw [isK_kind _ _ h.kind, isK_kind _ _ h.kind, Bool.eq_iff_iff, Bool.or_eq_true, decide_eq_true_iff, decide_eq_true_iff, decide_eq_true_iff]
  simp
theorem isOr_kind {mx : Nat → Nat} {n : Nat} {pl : Bool} {t : Tn} (h : GT mx n pl t) : isK kOr t = decide (kindT t ∈ [kOr]) := by
  rw [isK_kind _ _ h.kind, Bool.eq_iff_iff, decide_eq_true_iff, decide_eq_true_iff]
  simp
theorem strs_inv {K : PySem.W.Frag} {H : Hp} : ∀ {ns : List Wd} {us : List V}, TAll K H (ns.map Tn.str) us → us = ST ns
  | [], us, h => by simp only [List.map_nil, TAll] at h; exact h
  | n :: ns, us, h => by
    simp only [List.map_cons, TAll, TV] at h
    obtain ⟨y, r, rfl, rfl, h2⟩ := h
    rw [strs_inv h2]; rfl
/-- lists of words that are new since H0 and not l -/
def LsN (H0 : Hp) (l : Addr) (H : Hp) (refs : List V) (rows : List (List Wd)) : Prop := All2 (fun r row => ∃ a, r = V.ref a ∧ H0 a = none ∧ a ≠ l ∧ H a = some (.lst (ST row))) refs rows
theorem LsN.same {H0 H H' : Hp} {l : Addr} {refs : List V} {rows : List (List Wd)} (h : LsN H0 l H refs rows) (g : Same H H') : LsN H0 l H' refs rows := h.imp fun r _ row ⟨a, e, h1, h2, ha⟩ => ⟨a, e, h1, h2, g _ _ ha⟩
theorem LsN.more {H0 H H' : Hp} {l st : Addr} {refs : List V} {rows : List (List Wd)} (h : LsN H0 l H refs rows) (d : DS st H0 H) (d' : DS st H H') : LsN H0 l H' refs rows := h.imp fun r _ row ⟨a, e, h1, h2, ha⟩ => ⟨a, e, h1, h2, d'.g _ _ (d.ne h1) ha⟩
theorem LsN.put {H0 H : Hp} {l : Addr} {o : HO} {refs : List V} {rows : List (List Wd)} (h : LsN H0 l H refs rows) : LsN H0 l (upd H l o) refs rows := h.imp fun r _ row ⟨a, e, h1, h2, ha⟩ => ⟨a, e, h1, h2, by rw [upd_ne h2]; exact ha⟩
theorem LsN.ls {H0 H : Hp} {l : Addr} {refs : List V} {rows : List (List Wd)} (h : LsN H0 l H refs rows) : LsR H refs rows := h.imp fun r _ row ⟨a, e, h1, h2, ha⟩ => ⟨a, e, ha⟩
theorem nd_is : (["_law_item", "_law_state"] : List Str).Nodup := by decide +kernel
theorem PrW.leaf {mx : Nat → Nat} {n : Nat} {pl : Bool} {t : Tn} {ws : List Wd} (h : LfP t ws) : PrW mx n pl t ws := by cases n <;> exact .inl h
theorem PrW.place {mx : Nat → Nat} {n : Nat} {t : Tn} {ws : List Wd} (h : PlP t ws) : PrW mx n true t ws := by
  cases n with
  | zero => exact .inr ⟨rfl, h⟩
  | succ n => exact .inr (.inl ⟨rfl, h⟩)
section
variable {P : Program} {w : World} {K : PySem.W.Frag} {mg : Str → Option Value} {base : Heap} {f : Addr} {fd : FuncData}
abbrev sWs : Stmt := top 51
theorem scWs : FnScope ["_law_tree_here", "_law_state", "_law_word", "_law_rows", "_law_name_here", "_law_held", "_law_must"] ["_law_tree_here", "_law_state"] (defScope sWs) := ⟨rfl, rfl, rfl, by decide +kernel, rfl, by decide +kernel, by decide +kernel⟩
theorem len_ws {n : Nat} (hn : n ≤ 3) {pl : Bool} {t : Tn} {ws : List Wd} (h : PrW mx32 n pl t ws) : ws.length ≤ 1609 := by
  have := (prw_ok mx1 n pl t ws h).len
  have := cnt_le n hn
  omega
theorem ok_ws {k n : Nat} {spB spT : Sp} (F : Fun K "_law_words" "_law_words" sWs f fd) (BR : Cal P w K mg base k "_law_braced" ["_law_tree_here", "_law_tying", "_law_state"] spB) (TD : Cal P w K mg base k "_law_tied" ["_law_sign", "_law_trees", "_law_tying", "_law_state"] spT) (hB : ∀ n', n = n' + 1 → spB = spBr K n') (hT : ∀ n', n = n' + 1 → spT = spTd K n')
    (SPW : Cal P w K mg base 2 "_law_span_words" ["_law_tree_here", "_law_state"] (spSpw K)) (PTW : Cal P w K mg base 1 "_law_path_words" ["_law_path"] (spPtw K)) (ITW : Cal P w K mg base 1 "_law_items_words" ["_law_rows", "_law_more"] spItw) (m1 : mg "int" = none) (hk : 2 ≤ k) (hn : n ≤ 3) :
    FnOk P w K mg base CX0 (k + 1) f fd ["_law_tree_here", "_law_state"] (spWs K n) := by
  refine F.ok scWs (fun vs H Q E h => ?_) (fun cdv A outer s H vs Q E hr h => ?_)
  · obtain ⟨v, st, x, pl, t, rfl, _⟩ := h
    rfl
  obtain ⟨v, st, x, pl, t, rfl, hs, hg, hv, q⟩ := h
  have hr1 := hr.mono (show 1 ≤ k by omega)
  have hr2 := hr.mono hk
  refine ⟨_, pss_cons (ps_set (i := 2) scWs.nd rfl (Or.inl rfl) (pe_ix ix_tup (pv 0) pe_int (fun _ _ => rfl)))
    (pss_cons (ps_if (pt_cmpR op_eq (pv 2) pe_str (nomark _)) (pss_one (ps_ret (pe_lst (pa_cons (pe_ix ix_tup (pv 0) pe_int (fun _ _ => rfl)) pa_nil)))) pss_nil)
    (pss_cons (ps_if (pt_cmpR op_eq (pv 2) pe_str (nomark _)) (pss_one (ps_ret (pe_cal SPW hr2 rfl (pa_cons (pv 0) (pa_cons (pv 1) pa_nil))))) pss_nil)
    (pss_cons (ps_if (pt_cmpR op_eq (pv 2) pe_str (nomark _)) (pss_one (ps_ret (pe_lst (pa_cons (pe_op op_add_str (pe_op op_add_str pe_str (pe_ix ix_tup (pv 0) pe_int (fun _ _ => rfl))) pe_str) pa_nil)))) pss_nil)
    (pss_cons (ps_if (pt_cmpR op_eq (pv 2) pe_str (nomark _)) (pss_one (ps_ret (pe_op op_cat (pe_lst (pa_cons pe_str pa_nil)) (pe_cal PTW hr1 rfl (pa_cons (pe_ix ix_tup (pv 0) pe_int (fun _ _ => rfl)) pa_nil))))) pss_nil)
    (pss_cons (ps_if (pt_cmpR op_eq (pv 2) pe_str (nomark _)) (pss_one (ps_ret (pe_op op_cat (pe_lst (pa_cons pe_str pa_nil)) (pe_cal BR hr rfl (pa_cons (pe_ix ix_tup (pv 0) pe_int (fun _ _ => rfl)) (pa_cons (pe_tup (pa_cons pe_str (pa_cons pe_str pa_nil))) (pa_cons (pv 1) pa_nil))))))) pss_nil)
    (pss_cons (ps_if (pt_cmpR op_eq (pv 2) pe_str (nomark _)) (pss_one (ps_ret (pe_cal TD hr rfl (pa_cons pe_str (pa_cons (pe_ix ix_tup (pv 0) pe_int (fun _ _ => rfl)) (pa_cons (pe_tup (pa_cons pe_str (pa_cons pe_str pa_nil))) (pa_cons (pv 1) pa_nil))))))) pss_nil)
    (pss_cons (ps_if (pt_cmpR op_eq (pv 2) pe_str (nomark _)) (pss_one (ps_ret (pe_cal TD hr rfl (pa_cons pe_str (pa_cons (pe_ix ix_tup (pv 0) pe_int (fun _ _ => rfl)) (pa_cons (pe_tup (pa_cons pe_str pa_nil)) (pa_cons (pv 1) pa_nil))))))) pss_nil)
    (pss_cons (ps_if (pt_cmpR op_eq (pv 2) pe_str (nomark _))
      (pss_cons (ps_comp (i := 3) (N' := ["_law_item", "_law_state"]) (fr := [none, some 1]) (own := [0]) ⟨rfl, rfl, rfl, rfl, rfl, rfl, rfl⟩ rfl scWs.nd rfl rfl (pi_tup (pe_ix ix_tup (pv 0) pe_int (fun _ _ => rfl)))
        (fun _ _ _ _ => pg_name (i := 0) nd_is rfl (Or.inl rfl)) (own_name 0) (fun _ _ _ _ => pts_nil) (fun _ _ _ _ => pe_cal BR hr rfl (pa_cons (pv 0) (pa_cons (pe_tup pa_nil) (pa_cons (pv 1) pa_nil)))))
      (pss_one (ps_ret (pe_op op_cat (pe_op op_cat (pe_lst (pa_cons pe_str pa_nil)) (pe_cal ITW hr1 rfl (pa_cons (pv 3) (pa_cons (pe_ix ix_tup (pv 0) pe_int (fun _ _ => rfl)) pa_nil)))) (pe_lst (pa_cons pe_str pa_nil)))))) pss_nil)
    (pss_cons (ps_set (i := 3) scWs.nd rfl (Or.inl rfl) (pe_lst pa_nil))
    (pss_cons (ps_for PassesOwn.never rfl (pi_tup (pe_ix ix_tup (pv 0) pe_int (fun _ _ => rfl))) (pg_tup (n := 3) rfl (pgs_cons (pg_name (i := 4) scWs.nd rfl (Or.inl rfl)) (pgs_cons (pg_name (i := 5) scWs.nd rfl (Or.inl rfl)) (pgs_cons (pg_name (i := 6) scWs.nd rfl (Or.inl rfl)) pgs_nil))))
      (pss_one (ps_expr (pe_bm PySem.F.plainAttrs_list PySem.F.slot_list_append PySem.F.type_list_append mt_append (pv 3) (pa_cons (pe_op op_cat (pe_op op_cat (pe_op op_cat (pe_lst (pa_cons (pv 4) pa_nil)) (pe_slice sl_list (pe_lst (pa_cons pe_str pa_nil)) po_none (po_some (pe_callTy call_intB rfl m1 bt_int (pa_cons (pe_not (pv 6)) pa_nil))))) (pe_lst (pa_cons pe_str pa_nil)))
        (pe_cal BR hr rfl (pa_cons (pv 5) (pa_cons (pe_tup pa_nil) (pa_cons (pv 1) pa_nil))))) pa_nil)))))
    (pss_one (ps_ret (pe_op op_cat (pe_op op_cat (pe_lst (pa_cons pe_str pa_nil)) (pe_cal ITW hr1 rfl (pa_cons (pv 3) (pa_cons (pe_ix ix_tup (pv 0) pe_int (fun _ _ => rfl)) pa_nil)))) (pe_lst (pa_cons pe_str pa_nil))))))))))))))), ?_⟩
  have D0 := DS.start hs
  obtain ⟨r0, et⟩ := hg.kind
  have hv2 := hv
  rw [et] at hv2
  simp only [TV, TAll] at hv2
  obtain ⟨p, ys, rfl, hp, y0, ys', rfl, rfl, hy'⟩ := hv2
  refine ⟨_, rfl, p, _, _, .str (S (kindT t)), rfl, rfl, hp, atI_nat (j := 0) rfl, ?_⟩
  have shape : LfT t ∨ (pl = true ∧ PlT t) ∨ ∃ n', n = n' + 1 ∧ ((∃ ts m, t = .tup [.str kList, .tup ts, .bl m] ∧ ts.length ≤ mx32 (n' + 1) ∧ ∀ t ∈ ts, GT mx32 n' false t) ∨
    (∃ (fs : List (Wd × Tn × Bool)) (m : Bool), t = .tup [.str kRec, .tup (fs.map fldT), .bl m] ∧ fs.length ≤ mx32 (n' + 1) ∧ (fs.map (·.1)).Nodup ∧ ∀ f ∈ fs, NameOk f.1 ∧ GT mx32 n' false f.2.1) ∨
    (∃ t', t = .tup [.str kNot, t'] ∧ GT mx32 n' false t') ∨
    (∃ k ts, (k = kAnd ∨ k = kOr) ∧ t = .tup [.str k, .tup ts] ∧ 2 ≤ ts.length ∧ ts.length ≤ mx32 (n' + 1) ∧ ∀ t ∈ ts, GT mx32 n' pl t)) := by
    cases n with
    | zero => rcases hg with h | h
              · exact .inl h
              · exact .inr (.inl h)
    | succ n => rcases hg with h | h | h
                · exact .inl h
                · exact .inr (.inl h)
                · exact .inr (.inr ⟨n, rfl, h⟩)
  rcases shape with h | ⟨rfl, h⟩ | ⟨n', rfl, h⟩
  · cases h with
    | @word u hu =>
      have er := (List.cons.inj (Tn.tup.inj et)).2
      subst er
      rw [show kindT (.tup [.str kWord, .str u]) = kWord from rfl] at hp ⊢
      simp only [TAll, TV] at hy'
      obtain ⟨_, _, rfl, rfl, rfl⟩ := hy'
      refine ⟨_, rfl, rfl, _, rfl, ?_⟩
      rw [yes_k lWord]
      refine iteT ?_
      exact ⟨_, rfl, p, _, _, .str (S u), rfl, rfl, hp, atI_nat (j := 1) rfl, len1, fun l hl => q _ l [u] (D0.same (same_new hl _)) hl (by rw [upd_same]; rfl) (PrW.leaf (.word hu))⟩
    | @span a b hab ha hb =>
      have er := (List.cons.inj (Tn.tup.inj et)).2
      subst er
      rw [show kindT (tSpan (oI a) (oI b)) = kSpan from rfl] at hp ⊢
      refine ⟨_, rfl, rfl, _, rfl, ?_⟩
      rw [no_k lWord (by decide)]
      refine iteF ?_
      refine ⟨_, rfl, rfl, _, rfl, ?_⟩
      rw [yes_k lSpan]
      refine iteT ?_
      exact ⟨_, rfl, _, rfl, .ref p, st, x, a, b, rfl, hs, hab, ha, hb, hv, fun H' l ws d hl0 hl hw => q H' l ws d hl0 hl (PrW.leaf hw)⟩
    | @text b hc hl =>
      have er := (List.cons.inj (Tn.tup.inj et)).2
      subst er
      rw [show kindT (.tup [.str kText, .str b]) = kText from rfl] at hp ⊢
      simp only [TAll, TV] at hy'
      obtain ⟨_, _, rfl, rfl, rfl⟩ := hy'
      refine ⟨_, rfl, rfl, _, rfl, ?_⟩
      rw [no_k lWord (by decide)]
      refine iteF ?_
      refine ⟨_, rfl, rfl, _, rfl, ?_⟩
      rw [no_k lSpan (by decide)]
      refine iteF ?_
      refine ⟨_, rfl, rfl, _, rfl, ?_⟩
      rw [yes_k lText]
      refine iteT ?_
      refine ⟨_, rfl, p, _, _, .str (S b), rfl, rfl, hp, atI_nat (j := 1) rfl, ?_⟩
      rw [lQuo]
      refine ⟨_, _, rfl, rfl, S_fit2 (by show 1 + b.length ≤ 100000; omega), ?_⟩
      rw [S_app]
      refine ⟨_, _, rfl, rfl, S_fit2 (by simp; omega), ?_⟩
      rw [S_app]
      exact ⟨len1, fun l hl' => q _ l [34 :: (b ++ [34])] (D0.same (same_new hl' _)) hl' (by rw [upd_same]; rfl) (PrW.leaf (.text hc hl))⟩
  · cases h with
    | @mk ns h0 hl hok =>
      have er := (List.cons.inj (Tn.tup.inj et)).2
      subst er
      rw [show kindT (.tup [.str kPlace, .tup (ns.map Tn.str)]) = kPlace from rfl] at hp ⊢
      simp only [TAll] at hy'
      obtain ⟨_, _, rfl, hns, rfl⟩ := hy'
      simp only [TV] at hns
      obtain ⟨a, us, rfl, ha, hus⟩ := hns
      have eus := strs_inv hus
      subst eus
      refine ⟨_, rfl, rfl, _, rfl, ?_⟩
      rw [no_k lWord (by decide)]
      refine iteF ?_
      refine ⟨_, rfl, rfl, _, rfl, ?_⟩
      rw [no_k lSpan (by decide)]
      refine iteF ?_
      refine ⟨_, rfl, rfl, _, rfl, ?_⟩
      rw [no_k lText (by decide)]
      refine iteF ?_
      refine ⟨_, rfl, rfl, _, rfl, ?_⟩
      rw [yes_k lPlace]
      refine iteT ?_
      refine ⟨len1, fun l1 hl1 => ?_⟩
      have k1 := same_new hl1 (.lst [.str (Str.ofString "@")])
      have hpl := path_len ns
      refine ⟨_, rfl, p, _, _, .ref a, rfl, rfl, k1.seqT hp, atI_nat (j := 1) rfl, a, ns, rfl, k1.seqT ha, by omega, fun H2 l2 g2 hl20 hl2 => ?_⟩
      refine ⟨l1, l2, _, _, rfl, rfl, g2 _ _ upd_same, hl2, small_le (by rw [List.length_map, List.length_singleton]; omega), fun l3 hl3 => ?_⟩
      have k3 := same_new hl3 (.lst ([.str (Str.ofString "@")] ++ ST (pathW ns)))
      refine q _ l3 ([64] :: pathW ns) (D0.same (k1.trans (g2.trans k3))) (none_back (k1.trans g2) hl3) ?_ (PrW.place (.mk h0 hl hok))
      rw [upd_same, lAt]; rfl
  · have eB := hB n' rfl
    have eT := hT n' rfl
    subst eB eT
    rcases h with ⟨ts, m, rfl, htl, hgt⟩ | ⟨fs, m, rfl, hfl, hnd, hgt⟩ | ⟨t', rfl, hgt⟩ | ⟨kw, ts, hkw, rfl, h2, htl, hgt⟩
    · have er := (List.cons.inj (Tn.tup.inj et)).2
      subst er
      rw [show kindT (.tup [.str kList, .tup ts, .bl m]) = kList from rfl] at hp ⊢
      simp only [TAll] at hy'
      obtain ⟨_, _, rfl, hns, _, _, rfl, hm, rfl⟩ := hy'
      simp only [TV] at hns hm
      subst hm
      obtain ⟨a, us, rfl, ha, hus⟩ := hns
      have hul := hus.length
      have htl9 : ts.length ≤ 11 := Nat.le_trans htl (by unfold mx32; split <;> decide)
      refine ⟨_, rfl, rfl, _, rfl, ?_⟩
      rw [no_k lWord (by decide)]
      refine iteF ?_
      refine ⟨_, rfl, rfl, _, rfl, ?_⟩
      rw [no_k lSpan (by decide)]
      refine iteF ?_
      refine ⟨_, rfl, rfl, _, rfl, ?_⟩
      rw [no_k lText (by decide)]
      refine iteF ?_
      refine ⟨_, rfl, rfl, _, rfl, ?_⟩
      rw [no_k lPlace (by decide)]
      refine iteF ?_
      refine ⟨_, rfl, rfl, _, rfl, ?_⟩
      rw [no_k lkNot (by decide)]
      refine iteF ?_
      refine ⟨_, rfl, rfl, _, rfl, ?_⟩
      rw [no_k lkAnd (by decide)]
      refine iteF ?_
      refine ⟨_, rfl, rfl, _, rfl, ?_⟩
      rw [no_k lkOr (by decide)]
      refine iteF ?_
      refine ⟨_, rfl, rfl, _, rfl, ?_⟩
      rw [yes_k lList]
      refine iteT ?_
      refine ⟨_, rfl, p, _, _, .ref a, rfl, rfl, hp, atI_nat (j := 1) rfl, a, rfl, ⟨_, ha⟩, fun l hl => ?_⟩
      have D1 := D0.put (o := .lst []) hl
      refine comp_tup (xs := us) (fun i ys H' => DS st H H' ∧ H' l = some (.lst ys) ∧ ∃ rows, LsN H l H' ys rows ∧ All2 (Row (PrW mx32 n' false) false) (ts.take i) rows) ⟨D1, upd_same, [], .nil, .nil⟩ (fun i ys H' _ ⟨d, _⟩ => d.kp _ _ ha) (fun i u ys H' hu hinv => ?_) (fun ys H' hinv => ?_)
      · obtain ⟨d, hl', rows, hls, hrw⟩ := hinv
        obtain ⟨t, ht, htv⟩ := hus.get hu
        have hi : i < us.length := (List.getElem?_eq_some_iff.mp hu).1
        have hyl := hls.length
        have hrl := hrw.length
        rw [List.length_take] at hrl
        have nl := d.ne hl
        dsimp only [CTurn, gName]
        refine yesT ⟨_, rfl, len0, fun tg htg => ?_⟩
        have kt := same_new htg (.tup [])
        have dt := d.same kt
        obtain ⟨y2, hy2⟩ := dt.s
        refine ⟨_, rfl, u, tg, st, y2, false, t, [], rfl, hy2, hgt t (List.mem_of_getElem? ht), TV.kp dt.kp htv, SqT.of upd_same, fun H5 lb row d5 hlb0 hlb hrow => ?_⟩
        have hl5 := d5.g _ _ nl (kt _ _ hl')
        have hlbl : lb ≠ l := Ne.symm (ne_of_none (kt _ _ hl') hlb0)
        refine ⟨hl5, sz_of (by omega), (dt.more d5).put hl, upd_same, rows ++ [row], ?_, ?_⟩
        · refine (((hls.same kt).more dt d5).put).snoc ⟨lb, rfl, dt.old hlb0, hlbl, by rw [upd_ne hlbl]; exact hlb⟩
        · rw [take_snoc ht]; exact hrw.snoc hrow
      · obtain ⟨d, hl', rows, hls, hrw⟩ := hinv
        rw [hul, List.take_length] at hrw
        have hrl := hrw.length
        have hrok := hrw.right (Q := fun r => r ≠ [] ∧ r.length ≤ 3000) fun t row h => ⟨row_ne h, Nat.le_trans (row_len (by omega) h) (by decide)⟩
        have hR : PrW mx32 (n' + 1) pl (.tup [.str kList, .tup ts, .bl m]) ([91] :: (joinW [44] (rows ++ dotsR m) ++ [[93]])) := .inr (.inr (.inl ⟨ts, rows, m, rfl, htl, hrw, rfl⟩))
        have hwl := len_ws hn hR
        simp only [List.length_cons, List.length_append, List.length_nil] at hwl
        refine ⟨len1, fun l1 hl1 => ?_⟩
        have k1 := same_new hl1 (.lst [.str (Str.ofString "[")])
        refine ⟨_, rfl, _, rfl, p, _, _, .bl m, rfl, rfl, k1.seqT (d.kp _ _ hp), atI_nat (j := 2) rfl, l, m, ys, rows, rfl, k1 _ _ hl', (hls.ls).same k1, hrok, by omega, fun H6 l6 g6 hl60 hl6 => ?_⟩
        refine ⟨l1, l6, _, _, rfl, rfl, g6 _ _ upd_same, hl6, small_le5 (by rw [List.length_map, List.length_singleton]; omega), fun l7 hl7 => ⟨len1, fun l8 hl8 => ?_⟩⟩
        have k7 := same_new hl7 (.lst ([.str (Str.ofString "[")] ++ ST (joinW [44] (rows ++ dotsR m))))
        have k8 := same_new hl8 (.lst [.str (Str.ofString "]")])
        refine ⟨l7, l8, _, _, rfl, rfl, k8 _ _ upd_same, upd_same, small_le5 (by rw [List.length_append, List.length_map, List.length_singleton, List.length_singleton]; omega), fun l9 hl9 => ?_⟩
        have k9 := same_new hl9 (.lst ([.str (Str.ofString "[")] ++ ST (joinW [44] (rows ++ dotsR m)) ++ [.str (Str.ofString "]")]))
        have kk := k1.trans (g6.trans (k7.trans k8))
        refine q _ l9 _ (d.same (kk.trans k9)) (d.old (none_back kk hl9)) ?_ hR
        rw [upd_same, lLb, lRb]; simp [ST]
    · have er := (List.cons.inj (Tn.tup.inj et)).2
      subst er
      rw [show kindT (.tup [.str kRec, .tup (fs.map fldT), .bl m]) = kRec from rfl] at hp ⊢
      simp only [TAll] at hy'
      obtain ⟨_, _, rfl, hns, _, _, rfl, hm, rfl⟩ := hy'
      simp only [TV] at hns hm
      subst hm
      obtain ⟨a, us, rfl, ha, hus⟩ := hns
      have hul := hus.length
      rw [List.length_map] at hul
      have hfl9 : fs.length ≤ 11 := Nat.le_trans hfl (by unfold mx32; split <;> decide)
      refine ⟨_, rfl, rfl, _, rfl, ?_⟩
      rw [no_k lWord (by decide)]
      refine iteF ?_
      refine ⟨_, rfl, rfl, _, rfl, ?_⟩
      rw [no_k lSpan (by decide)]
      refine iteF ?_
      refine ⟨_, rfl, rfl, _, rfl, ?_⟩
      rw [no_k lText (by decide)]
      refine iteF ?_
      refine ⟨_, rfl, rfl, _, rfl, ?_⟩
      rw [no_k lPlace (by decide)]
      refine iteF ?_
      refine ⟨_, rfl, rfl, _, rfl, ?_⟩
      rw [no_k lkNot (by decide)]
      refine iteF ?_
      refine ⟨_, rfl, rfl, _, rfl, ?_⟩
      rw [no_k lkAnd (by decide)]
      refine iteF ?_
      refine ⟨_, rfl, rfl, _, rfl, ?_⟩
      rw [no_k lkOr (by decide)]
      refine iteF ?_
      refine ⟨_, rfl, rfl, _, rfl, ?_⟩
      rw [no_k lList (by decide)]
      refine iteF ?_
      refine ⟨len0, fun l hl => ?_⟩
      have D1 := D0.put (o := .lst []) hl
      refine ⟨_, rfl, p, _, _, .ref a, rfl, rfl, D1.kp _ _ hp, atI_nat (j := 1) rfl, a, rfl, ⟨_, D1.kp _ _ ha⟩, ?_⟩
      refine for_tup (xs := us) (fun i σ H' => ∃ (ys : List V) (rows : List (List Wd)) (b4 b5 b6 : Option V), σ = [some (.ref p), some (.ref st), some (.str (S kRec)), some (.ref l), b4, b5, b6] ∧ DS st H H' ∧ H' l = some (.lst ys) ∧ LsN H l H' ys rows ∧ All2 (FRw (PrW mx32 n' false)) (fs.take i) rows)
        ⟨[], [], none, none, none, rfl, D1, upd_same, .nil, .nil⟩ (fun i σ H' _ ⟨_, _, _, _, _, _, d, _⟩ => d.kp _ _ ha) (fun i u σ H' hu hinv => ?_) (fun σ H' hinv => ?_)
      · obtain ⟨ys, rows, b4, b5, b6, rfl, d, hl', hls, hrw⟩ := hinv
        obtain ⟨tf, htf, htv⟩ := hus.get hu
        rw [List.getElem?_map] at htf
        obtain ⟨fl, hfl', rfl⟩ : ∃ fl, fs[i]? = some fl ∧ tf = fldT fl := by
          cases e : fs[i]? with
          | none => rw [e] at htf; cases htf
          | some z => rw [e] at htf; cases htf; exact ⟨z, rfl, rfl⟩
        obtain ⟨nm, t, must⟩ := fl
        obtain ⟨hnm, hg'⟩ := hgt _ (List.mem_of_getElem? hfl')
        unfold fldT at htv
        simp only [TV, TAll] at htv
        obtain ⟨fa, _, rfl, hfa, _, _, rfl, rfl, hv', _, rfl, htv', _, _, rfl, rfl, rfl⟩ := htv
        have hi : i < us.length := (List.getElem?_eq_some_iff.mp hu).1
        have hyl := hls.length
        have hrl := hrw.length
        rw [List.length_take] at hrl
        have nl := d.ne hl
        refine ⟨fa, _, rfl, d.kp _ _ hfa, rfl, _, _, rfl, _, _, rfl, _, _, rfl, rfl, ?_⟩
        refine ⟨_, rfl, .inl ⟨rfl, _, SqL.of hl'⟩, _, rfl, len1, fun l1 hl1 => ⟨len1, fun l2 hl2 => ⟨_, rfl, _, rfl, _, rfl, _, rfl, l2, _, rfl, SqL.of upd_same, fun l3 hl3 => ?_⟩⟩⟩
        rw [cut_flag]
        have k1 := same_new hl1 (.lst [.str (S nm)])
        have k2 := same_new hl2 (.lst [.str (Str.ofString "?")])
        have k3 := same_new hl3 (.lst (if (!must) = true then [V.str (Str.ofString "?")] else []))
        have hq1 : (if (!must) = true then [V.str (Str.ofString "?")] else []).length ≤ 1 := by cases must <;> simp
        refine ⟨l1, l3, _, _, rfl, rfl, (k2.trans k3) _ _ upd_same, upd_same, small_le (by rw [List.length_singleton]; omega), fun l4 hl4 => ⟨len1, fun l5 hl5 => ?_⟩⟩
        have k4 := same_new hl4 (.lst ([.str (S nm)] ++ (if (!must) = true then [V.str (Str.ofString "?")] else [])))
        have k5 := same_new hl5 (.lst [.str (Str.ofString ":")])
        refine ⟨l4, l5, _, _, rfl, rfl, k5 _ _ upd_same, upd_same, small_le (by rw [List.length_append, List.length_singleton, List.length_singleton]; omega), fun l6 hl6 => ?_⟩
        have k6 := same_new hl6 (.lst ([.str (S nm)] ++ (if (!must) = true then [V.str (Str.ofString "?")] else []) ++ [.str (Str.ofString ":")]))
        refine ⟨_, rfl, len0, fun tg htg => ?_⟩
        have k7 := same_new htg (.tup [])
        have kk := k1.trans (k2.trans (k3.trans (k4.trans (k5.trans (k6.trans k7)))))
        have dt := d.same kk
        obtain ⟨y2, hy2⟩ := dt.s
        have hl6' := k7 l6 _ upd_same
        have n6 : l6 ≠ st := d.ne (d.old (none_back (k1.trans (k2.trans (k3.trans (k4.trans k5)))) hl6))
        refine ⟨_, rfl, hv', tg, st, y2, false, t, [], rfl, hy2, hg', TV.kp dt.kp htv', SqT.of upd_same, fun H8 lb row d8 hlb0 hlb hrow => ?_⟩
        have hrl3 := row_len (show n' ≤ 3 by omega) hrow
        refine ⟨l6, lb, _, _, rfl, rfl, d8.g _ _ n6 hl6', hlb, small_le5 (by rw [List.length_append, List.length_append, List.length_map, List.length_singleton, List.length_singleton]; omega), fun l9 hl9 => ?_⟩
        have k9 := same_new hl9 (.lst ([.str (S nm)] ++ (if (!must) = true then [V.str (Str.ofString "?")] else []) ++ [.str (Str.ofString ":")] ++ ST row))
        have hl8 := k9 _ _ (d8.g _ _ nl (kk _ _ hl'))
        have hl9l : l9 ≠ l := Ne.symm (ne_of_none (d8.g _ _ nl (kk _ _ hl')) hl9)
        have dd := (dt.more d8).same k9
        refine ⟨l, _, _, rfl, rfl, hl8, sz_of (by omega), ys ++ [.ref l9], rows ++ [fieldW nm must row], _, _, _, rfl, dd.put hl, upd_same, ?_, ?_⟩
        · refine ((((hls.same kk).more dt d8).same k9).put).snoc ⟨l9, rfl, (dt.more d8).old hl9, hl9l, ?_⟩
          rw [upd_ne hl9l, upd_same, lQ, lCol]
          cases must <;> simp [ST, fieldW]
        · rw [take_snoc hfl']
          exact hrw.snoc ⟨row, rfl, hnm, hrow⟩
      · obtain ⟨ys, rows, b4, b5, b6, rfl, d, hl', hls, hrw⟩ := hinv
        rw [hul, List.take_length] at hrw
        have hrl := hrw.length
        have hrok := hrw.right (Q := fun r => r ≠ [] ∧ r.length ≤ 3000) fun f row ⟨r, e, _, h⟩ => by
          have h1 := row_len (show n' ≤ 3 by omega) h
          rw [e]
          refine ⟨by simp [fieldW], ?_⟩
          unfold fieldW
          simp only [List.length_append, List.length_cons, List.length_nil]
          split <;> simp <;> omega
        have hR : PrW mx32 (n' + 1) pl (.tup [.str kRec, .tup (fs.map fldT), .bl m]) ([123] :: (joinW [44] (rows ++ dotsR m) ++ [[125]])) := .inr (.inr (.inr (.inl ⟨fs, rows, m, rfl, hfl, hnd, hrw, rfl⟩)))
        have hwl := len_ws hn hR
        simp only [List.length_cons, List.length_append, List.length_nil] at hwl
        refine ⟨len1, fun l1 hl1 => ?_⟩
        have k1 := same_new hl1 (.lst [.str (Str.ofString "{")])
        refine ⟨_, rfl, _, rfl, p, _, _, .bl m, rfl, rfl, k1.seqT (d.kp _ _ hp), atI_nat (j := 2) rfl, l, m, ys, rows, rfl, k1 _ _ hl', (hls.ls).same k1, hrok, by omega, fun H6 l6 g6 hl60 hl6 => ?_⟩
        refine ⟨l1, l6, _, _, rfl, rfl, g6 _ _ upd_same, hl6, small_le5 (by rw [List.length_map, List.length_singleton]; omega), fun l7 hl7 => ⟨len1, fun l8 hl8 => ?_⟩⟩
        have k7 := same_new hl7 (.lst ([.str (Str.ofString "{")] ++ ST (joinW [44] (rows ++ dotsR m))))
        have k8 := same_new hl8 (.lst [.str (Str.ofString "}")])
        refine ⟨l7, l8, _, _, rfl, rfl, k8 _ _ upd_same, upd_same, small_le5 (by rw [List.length_append, List.length_map, List.length_singleton, List.length_singleton]; omega), fun l9 hl9 => ?_⟩
        have k9 := same_new hl9 (.lst ([.str (Str.ofString "{")] ++ ST (joinW [44] (rows ++ dotsR m)) ++ [.str (Str.ofString "}")]))
        have kk := k1.trans (g6.trans (k7.trans k8))
        refine q _ l9 _ (d.same (kk.trans k9)) (d.old (none_back kk hl9)) ?_ hR
        rw [upd_same, lLc, lRc]; simp [ST]
    · have er := (List.cons.inj (Tn.tup.inj et)).2
      subst er
      rw [show kindT (.tup [.str kNot, t']) = kNot from rfl] at hp ⊢
      simp only [TAll] at hy'
      obtain ⟨u, _, rfl, hu, rfl⟩ := hy'
      refine ⟨_, rfl, rfl, _, rfl, ?_⟩
      rw [no_k lWord (by decide)]
      refine iteF ?_
      refine ⟨_, rfl, rfl, _, rfl, ?_⟩
      rw [no_k lSpan (by decide)]
      refine iteF ?_
      refine ⟨_, rfl, rfl, _, rfl, ?_⟩
      rw [no_k lText (by decide)]
      refine iteF ?_
      refine ⟨_, rfl, rfl, _, rfl, ?_⟩
      rw [no_k lPlace (by decide)]
      refine iteF ?_
      refine ⟨_, rfl, rfl, _, rfl, ?_⟩
      rw [yes_k lkNot]
      refine iteT ?_
      refine ⟨len1, fun l1 hl1 => ?_⟩
      have k1 := same_new hl1 (.lst [.str (Str.ofString "!")])
      refine ⟨_, rfl, p, _, _, u, rfl, rfl, k1.seqT hp, atI_nat (j := 1) rfl, len2, fun tg htg => ?_⟩
      have k2 := same_new htg (.tup [.str (Str.ofString "and"), .str (Str.ofString "or")])
      have dt := D0.same (k1.trans k2)
      obtain ⟨y2, hy2⟩ := dt.s
      have n1 : l1 ≠ st := D0.ne hl1
      refine ⟨_, rfl, u, tg, st, y2, false, t', [kAnd, kOr], rfl, hy2, hgt, TV.kp dt.kp hu, SqT.of (by rw [upd_same, aoK]), fun H5 lb row d5 hlb0 hlb hrow => ?_⟩
      rw [← isAO_kind hgt] at hrow
      have hR : PrW mx32 (n' + 1) pl (.tup [.str kNot, t']) ([33] :: row) := .inr (.inr (.inr (.inr (.inl ⟨t', row, rfl, hrow, rfl⟩))))
      have hwl := len_ws hn hR
      rw [List.length_cons] at hwl
      refine ⟨l1, lb, _, _, rfl, rfl, d5.g _ _ n1 (k2 _ _ upd_same), hlb, small_le5 (by rw [List.length_map, List.length_singleton]; omega), fun l9 hl9 => ?_⟩
      have k9 := same_new hl9 (.lst ([.str (Str.ofString "!")] ++ ST row))
      refine q _ l9 _ ((dt.more d5).same k9) ((dt.more d5).old hl9) ?_ hR
      rw [upd_same, lNot1]; rfl
    · have er := (List.cons.inj (Tn.tup.inj et)).2
      subst er
      rw [show kindT (.tup [.str kw, .tup ts]) = kw from rfl] at hp ⊢
      simp only [TAll] at hy'
      obtain ⟨_, _, rfl, hns, rfl⟩ := hy'
      simp only [TV] at hns
      obtain ⟨a, us, rfl, ha, hus⟩ := hns
      have htl9 : ts.length ≤ 11 := Nat.le_trans htl (by unfold mx32; split <;> decide)
      rcases hkw with rfl | rfl
      · refine ⟨_, rfl, rfl, _, rfl, ?_⟩
        rw [no_k lWord (by decide)]
        refine iteF ?_
        refine ⟨_, rfl, rfl, _, rfl, ?_⟩
        rw [no_k lSpan (by decide)]
        refine iteF ?_
        refine ⟨_, rfl, rfl, _, rfl, ?_⟩
        rw [no_k lText (by decide)]
        refine iteF ?_
        refine ⟨_, rfl, rfl, _, rfl, ?_⟩
        rw [no_k lPlace (by decide)]
        refine iteF ?_
        refine ⟨_, rfl, rfl, _, rfl, ?_⟩
        rw [no_k lkNot (by decide)]
        refine iteF ?_
        refine ⟨_, rfl, rfl, _, rfl, ?_⟩
        rw [yes_k lkAnd]
        refine iteT ?_
        refine ⟨_, rfl, p, _, _, .ref a, rfl, rfl, hp, atI_nat (j := 1) rfl, len2, fun tg htg => ?_⟩
        have k2 := same_new htg (.tup [.str (Str.ofString "and"), .str (Str.ofString "or")])
        have dt := D0.same k2
        obtain ⟨y2, hy2⟩ := dt.s
        refine ⟨_, rfl, [38], a, tg, st, y2, pl, us, ts, [kAnd, kOr], by rw [lAmp]; rfl, hy2, dt.kp _ _ ha, hus.kp dt.kp, hgt, by omega, SqT.of (by rw [upd_same, aoK]), fun H5 lb rows d5 hlb0 hlb hrw => ?_⟩
        exact q H5 lb _ (dt.more d5) (dt.old hlb0) hlb (.inr (.inr (.inr (.inr (.inr (.inl ⟨ts, rows, rfl, h2, htl, hrw.imp fun t ht row h => by rw [isAO_kind (hgt t ht)]; exact h, rfl⟩))))))
      · refine ⟨_, rfl, rfl, _, rfl, ?_⟩
        rw [no_k lWord (by decide)]
        refine iteF ?_
        refine ⟨_, rfl, rfl, _, rfl, ?_⟩
        rw [no_k lSpan (by decide)]
        refine iteF ?_
        refine ⟨_, rfl, rfl, _, rfl, ?_⟩
        rw [no_k lText (by decide)]
        refine iteF ?_
        refine ⟨_, rfl, rfl, _, rfl, ?_⟩
        rw [no_k lPlace (by decide)]
        refine iteF ?_
        refine ⟨_, rfl, rfl, _, rfl, ?_⟩
        rw [no_k lkNot (by decide)]
        refine iteF ?_
        refine ⟨_, rfl, rfl, _, rfl, ?_⟩
        rw [no_k lkAnd (by decide)]
        refine iteF ?_
        refine ⟨_, rfl, rfl, _, rfl, ?_⟩
        rw [yes_k lkOr]
        refine iteT ?_
        refine ⟨_, rfl, p, _, _, .ref a, rfl, rfl, hp, atI_nat (j := 1) rfl, len1, fun tg htg => ?_⟩
        have k2 := same_new htg (.tup [.str (Str.ofString "or")])
        have dt := D0.same k2
        obtain ⟨y2, hy2⟩ := dt.s
        refine ⟨_, rfl, [124], a, tg, st, y2, pl, us, ts, [kOr], by rw [lBar]; rfl, hy2, dt.kp _ _ ha, hus.kp dt.kp, hgt, by omega, SqT.of (by rw [upd_same, orK]), fun H5 lb rows d5 hlb0 hlb hrw => ?_⟩
        exact q H5 lb _ (dt.more d5) (dt.old hlb0) hlb (.inr (.inr (.inr (.inr (.inr (.inr ⟨ts, rows, rfl, h2, htl, hrw.imp fun t ht row h => by rw [isOr_kind (hgt t ht)]; exact h, rfl⟩))))))
end
end Law


set_option Elab.async false
set_option linter.all false
set_option maxRecDepth 100000
set_option maxHeartbeats 4000000
namespace Law
open PySem L2 L2.Sp
theorem alnum_L {c : Nat} (h : isL c = true) : Unicode.isAlnum c = true := by
  unfold isL at h
  simp only [Bool.and_eq_true, decide_eq_true_eq] at h
  obtain ⟨k, rfl⟩ : ∃ k, c = 97 + k := ⟨c - 97, by omega⟩
  have : ∀ k, k < 26 → Unicode.isAlnum (97 + k) = true := by decide +kernel
  exact this k (by omega)
theorem alnum_F {c : Nat} (h : isF c = true) : Unicode.isAlnum c = true := by
  obtain ⟨h1, h2⟩ := isF_rng h
  obtain ⟨k, rfl⟩ : ∃ k, c = 48 + k := ⟨c - 48, by omega⟩
  have : ∀ k, k < 10 → Unicode.isAlnum (48 + k) = true := by decide +kernel
  exact this k (by omega)
theorem isalnum_S (v : List Nat) : Txt.isalnum (S v) = (decide (0 < v.length) && v.all Unicode.isAlnum) := by
  unfold Txt.isalnum
  rw [S_len]
  congr 1
  simp
theorem tok_L {p : List Nat} {d : Nat} (h : TokW p) (hd : p.head? = some d) (hl : isL d = true) : Let p := by
  rcases h with h | h | h | rfl | h
  · exact h
  · obtain ⟨c, e, hc⟩ := h.head
    rw [hd] at e; cases e
    rcases hc with rfl | hc
    · cases hl
    · rw [isF_L hl] at hc; cases hc
  · obtain ⟨b, _, rfl⟩ := h
    cases hd; cases hl
  · cases hd; cases hl
  · obtain ⟨c, hc, rfl⟩ := h
    cases hd
    rw [(single_no _ hc).1] at hl; cases hl
theorem tok_F {p : List Nat} {d : Nat} (h : TokW p) (hd : p.head? = some d) (hl : isF d = true) : Num p := by
  rcases h with h | h | h | rfl | h
  · obtain ⟨c, e, hc⟩ := h.head
    rw [hd] at e; cases e
    rw [isF_L hc] at hl; cases hl
  · exact h
  · obtain ⟨b, _, rfl⟩ := h
    cases hd; cases hl
  · cases hd; cases hl
  · obtain ⟨c, hc, rfl⟩ := h
    cases hd
    rw [(single_no _ hc).2.1] at hl; cases hl
theorem let_alnum {p : List Nat} (h : Let p) : Txt.isalnum (S p) = true := by
  rw [isalnum_S, Bool.and_eq_true]
  exact ⟨decide_eq_true (List.length_pos_iff.mpr h.1), List.all_eq_true.mpr fun c hc => alnum_L (h.2 c hc)⟩
theorem num_alnum {p : List Nat} {d : Nat} (h : Num p) (hd : p.head? = some d) (hl : isF d = true) : Txt.isalnum (S p) = true := by
  obtain ⟨sn, fs, rfl, hsn, hne, hf, _⟩ := h
  rcases hsn with rfl | rfl
  · rw [isalnum_S, Bool.and_eq_true]
    exact ⟨decide_eq_true (List.length_pos_iff.mpr (by simpa using hne)), List.all_eq_true.mpr fun c hc => alnum_F (hf c (by simpa using hc))⟩
  · cases hd; cases hl
/-- the last sign -/
def lastW (u : Wd) : Wd := u.drop (u.length - 1)
theorem slice_last (u : Wd) : Txt.slice (S u) (some (-1)) none = S (lastW u) := by
  by_cases e : u = []
  · subst e; decide +kernel
  · have hl : (S u).length = u.length := S_len u
    have hp := List.length_pos_iff.mpr e
    have e0 := StrLaws.sliceText_neg_lo (S u) none (i := -1) (by decide) (by rw [hl]; omega)
    have e1 : Txt.slice (S u) (some (-1)) none = Txt.slice (S u) (some ((u.length - 1 : Nat) : Int)) none := by
      show StrLaws.sliceText (S u) (some (-1)) none = StrLaws.sliceText (S u) _ none
      rw [e0, hl]
      congr 2
      omega
    rw [e1]
    exact slice_from u (i := u.length - 1) (by omega)
theorem last_mem {u : Wd} (h : u ≠ []) : ∃ c, lastW u = [c] ∧ c ∈ u := by
  obtain ⟨c, u', rfl⟩ : ∃ c u', u = u' ++ [c] := ⟨_, _, (List.dropLast_concat_getLast h).symm⟩
  exact ⟨c, by unfold lastW; simp, by simp⟩
theorem last_alnum {u : Wd} {c : Nat} (e : lastW u = [c]) (h : Unicode.isAlnum c = true) : Txt.isalnum (S (lastW u)) = true := by
  rw [isalnum_S, e]; simp [h]
/-- words that may stand side by side -/
theorem fol_line {last p : Wd} (hp : TokW p) (hd : last = [46] → isNameB p = true) (ha : ¬ (Txt.isalnum (S (lastW last)) = true ∧ Txt.isalnum (S p) = true)) : Fol last p := by
  intro d hd'
  refine ⟨fun h => Bool.eq_false_iff.mpr fun z => ha ⟨?_, let_alnum (tok_L hp hd' z)⟩, fun h => Bool.eq_false_iff.mpr fun z => ha ⟨?_, num_alnum (tok_F hp hd' z) hd' z⟩, fun h z => ?_⟩
  · obtain ⟨c, e, hc⟩ := last_mem h.1
    exact last_alnum e (alnum_L (h.2 c hc))
  · obtain ⟨sn, fs, rfl, hsn, hne, hf, _⟩ := h
    have hne' : sn ++ fs ≠ [] := fun z => hne (List.append_eq_nil_iff.mp z).2
    obtain ⟨f, fs', rfl⟩ : ∃ f fs', fs = fs' ++ [f] := ⟨_, _, (List.dropLast_concat_getLast hne).symm⟩
    refine last_alnum (c := f) ?_ (alnum_F (hf f (by simp)))
    unfold lastW
    rw [← List.append_assoc]
    simp
  · subst z
    have hn := hd h
    cases p with
    | nil => cases hd'
    | cons a r =>
      cases hd'
      unfold isNameB at hn
      rw [Bool.and_eq_true, List.all_eq_true] at hn
      have := hn.2 46 (by simp)
      cases this
def Dr (last : Wd) (rest : List Wd) : Prop := if last = [46] then ∃ n r, rest = n :: r ∧ isNameB n = true ∧ DotOk r else DotOk rest
theorem Dr.step {last u : Wd} {r : List Wd} (h : Dr last (u :: r)) : (last = [46] → isNameB u = true) ∧ Dr u r := by
  unfold Dr at h
  by_cases e : last = [46]
  · rw [if_pos e] at h
    obtain ⟨n, r', e2, hn, hd⟩ := h
    cases e2
    refine ⟨fun _ => hn, ?_⟩
    unfold Dr
    rw [if_neg (name_no hn).2.2.2]
    exact hd
  · rw [if_neg e] at h
    refine ⟨fun z => absurd z e, ?_⟩
    unfold Dr
    cases h with
    | cons h1 h2 => rw [if_neg h1]; exact h2
    | dot hn hd => rw [if_pos rfl]; exact ⟨_, _, rfl, hn, hd⟩
theorem mul_sp (g : Nat) (h : g ≤ 2) : Txt.mul (Str.ofString " ") (g : Int) = S (List.replicate g 32) := by
  have : g = 0 ∨ g = 1 ∨ g = 2 := by omega
  rcases this with rfl | rfl | rfl <;> decide +kernel
theorem ends_sp {line last : List Nat} {due : List (List Nat)} (h : Line line due last) (g : Nat) : words (line ++ List.replicate g 32) = some due := by
  cases g with
  | zero => rw [List.replicate_zero, List.append_nil]; exact h.ends
  | succ g =>
    have e := h.all (s := List.replicate (g + 1) 32) (by rw [List.replicate_succ]; exact Fol.sp)
    have e2 := words_sps (g + 1) []
    rw [List.append_nil, words_nil] at e2
    rw [e, e2]; simp
section
variable {P : Program} {w : World} {K : PySem.W.Frag} {mg : Str → Option Value} {base : Heap} {f : Addr} {fd : FuncData}
abbrev sLine : Stmt := top 53
theorem scLine : FnScope ["_law_words_here", "_law_state", "_law_line_here", "_law_last", "_law_word", "_law_gap"] ["_law_words_here", "_law_state"] (defScope sLine) := ⟨rfl, rfl, rfl, by decide +kernel, rfl, by decide +kernel, by decide +kernel⟩
def spLine : Sp := fun args H Q _ => ∃ (lw st : Addr) (x : Int) (ws : List Wd), args = [.ref lw, .ref st] ∧ H st = some (.lst [.int x]) ∧ H lw = some (.lst (ST ws)) ∧ lw ≠ st ∧ WsF 1700 ws ∧ ∀ (H' : Hp) (l : List Nat), DS st H H' → Small l → (∀ c ∈ l, c < 128) → words l = some ws → Q (.str (S l)) H'
theorem ok_line (F : Fun K "_law_line" "_law_line" sLine f fd) (N : Cal P w K mg base 1 "_law_next" ["_law_state", "_law_many"] spNext) (m1 : mg "max" = none) : FnOk P w K mg base CX0 2 f fd ["_law_words_here", "_law_state"] spLine := by
  refine F.ok scLine (fun vs H Q E h => ?_) (fun cdv A outer s H vs Q E hr h => ?_)
  · obtain ⟨lw, st, x, ws, rfl, _⟩ := h
    rfl
  obtain ⟨lw, st, x, ws, rfl, hs, hlw, nls, hws, q⟩ := h
  refine ⟨_, pss_cons (ps_set (i := 2) scLine.nd rfl (Or.inl rfl) pe_str)
    (pss_cons (ps_set (i := 3) scLine.nd rfl (Or.inl rfl) pe_str)
    (pss_cons (ps_for PassesOwn.never rfl (pi_list (pv 0)) (pg_name (i := 4) scLine.nd rfl (Or.inl rfl))
      (pss_cons (ps_set (i := 5) scLine.nd rfl (Or.inl rfl) (pe_callB (call_max2 rfl) rfl m1 bt_max (pa_cons pe_int (pa_cons (pe_op op_sub (pe_cal N hr rfl (pa_cons (pv 1) (pa_cons pe_int pa_nil))) pe_int) pa_nil))))
      (pss_cut (ps_if (PW.pt (pw_and (pt_cmpR op_eq (pv 5) pe_int (nomark _)) (pw_and (pt_val (pe_bm0 PySem.F.plainAttrs_str PySem.F.slot_str_isalnum PySem.F.type_str_isalnum mt_isalnum (pe_slice sl_str (pv 3) (po_some (pe_un un_neg pe_int)) po_none))) (pw_and1 (pt_val (pe_bm0 PySem.F.plainAttrs_str PySem.F.slot_str_isalnum PySem.F.type_str_isalnum mt_isalnum (pv 4)))))))
        (pss_one (ps_set (i := 5) scLine.nd rfl (Or.inl rfl) pe_int)) pss_nil)
      (pss_cons (ps_aug (i := 2) scLine.nd rfl (Or.inl rfl) (pe_op op_add_str (pe_op op_mul_str pe_str (pv 5)) (pv 4)) iop_add_str)
      (pss_one (ps_set (i := 3) scLine.nd rfl (Or.inl rfl) (pv 4)))))))
    (pss_one (ps_ret (pe_op op_add_str (pv 2) (pe_op op_mul_str pe_str (pe_cal N hr rfl (pa_cons (pv 1) (pa_cons pe_int pa_nil))))))))), ?_⟩
  have D0 := DS.start hs
  have hwl := hws.len
  refine ⟨_, rfl, lw, rfl, ⟨_, SqL.of hlw⟩, ?_⟩
  refine for_list (xs := ST ws) (fun i σ H' => ∃ (line last : List Nat) (b4 b5 : Option V), σ = [some (.ref lw), some (.ref st), some (.str (S line)), some (.str (S last)), b4, b5] ∧ DS st H H' ∧ Line line (ws.take i) last ∧ Dr last (ws.drop i) ∧ line.length ≤ 56 * i ∧ last.length ≤ 54 ∧ ∀ c ∈ line, c < 128)
    ⟨[], [], none, none, by show _ = _; rw [lit0]; rfl, D0, Line.nil, ?_, by simp, by simp, fun c hc => (by cases hc)⟩ (fun i σ H' _ ⟨_, _, _, _, _, d, _⟩ => SqL.of (d.g _ _ nls hlw)) (fun i u σ H' hu hinv => ?_) (fun σ H' hinv => ?_)
  · unfold Dr
    rw [if_neg (by decide)]
    exact hws.dot
  · obtain ⟨line, last, b4, b5, rfl, d, hL, hD, hll, hla, hasc⟩ := hinv
    obtain ⟨p, hpi, rfl⟩ : ∃ p, ws[i]? = some p ∧ u = .str (S p) := by
      rw [List.getElem?_map] at hu
      cases e : ws[i]? with
      | none => rw [e] at hu; cases hu
      | some z => rw [e] at hu; cases hu; exact ⟨z, rfl, rfl⟩
    have hi := (List.getElem?_eq_some_iff.mp hpi).1
    have hpo := hws.ok p (List.mem_of_getElem? hpi)
    have hpl := hpo.len
    have edrop : ws.drop i = p :: ws.drop (i + 1) := by
      rw [List.drop_eq_getElem_cons hi]
      congr 1
      have := List.getElem?_eq_getElem hi
      rw [hpi] at this
      exact (Option.some.inj this).symm
    rw [edrop] at hD
    obtain ⟨hdn, hD'⟩ := hD.step
    obtain ⟨y, hy⟩ := d.s
    refine ⟨_, rfl, st, y, 4, rfl, hy, by decide, fun y2 r b0 b1 => ⟨_, _, rfl, rfl, _, _, rfl, ?_⟩⟩
    have d2 := d.next y2
    obtain ⟨g0, hg0, eg0⟩ : ∃ g0 : Nat, g0 ≤ 2 ∧ (if r - 1 > 0 then r - 1 else 0) = (g0 : Int) := by
      have : r = 0 ∨ r = 1 ∨ r = 2 ∨ r = 3 := by omega
      rcases this with rfl | rfl | rfl | rfl
      · exact ⟨0, by decide, by decide⟩
      · exact ⟨0, by decide, by decide⟩
      · exact ⟨1, by decide, by decide⟩
      · exact ⟨2, by decide, by decide⟩
    rw [eg0]
    refine ⟨fun σ' H'' => ∃ g : Nat, g ≤ 2 ∧ (g = 0 → ¬ (Txt.isalnum (S (lastW last)) = true ∧ Txt.isalnum (S p) = true)) ∧ σ' = [some (.ref lw), some (.ref st), some (.str (S line)), some (.str (S last)), some (.str (S p)), some (.int (g : Int))] ∧ H'' = upd H' st (.lst [.int y2]), ?_, ?_⟩
    · refine ⟨_, rfl, rfl, _, rfl, ite2 (fun c0 => ?_) (fun c0 => iteF ⟨g0, hg0, fun z => absurd (decide_eq_true (by rw [z]; rfl)) c0, rfl, rfl⟩)⟩
      refine ⟨_, rfl, _, rfl, _, rfl, _, rfl, S_fit (by omega), ?_⟩
      rw [show (- (1 : Int)) = -1 from rfl, slice_last]
      refine ⟨rfl, _, rfl, rfl, _, rfl, ite2 (fun c1 => ?_) (fun c1 => iteF ⟨g0, hg0, fun _ z => c1 z.1, rfl, rfl⟩)⟩
      refine ⟨_, rfl, rfl, _, rfl, rfl, _, rfl, ite2 (fun c2 => ⟨1, by omega, fun z => by omega, rfl, rfl⟩) (fun c2 => ⟨g0, hg0, fun _ z => c2 z.2, rfl, rfl⟩)⟩
    · rintro σ' H'' ⟨g, hg, ha, rfl, rfl⟩
      refine ⟨_, rfl, _, rfl, _, _, rfl, rfl, by decide, by omega, by omega, _, rfl, ?_⟩
      rw [mul_sp g hg]
      have hrl : (List.replicate g 32).length ≤ 2 := by simp; omega
      refine ⟨_, _, rfl, rfl, S_fit2 (by omega), ?_⟩
      rw [S_app]
      have hrp : (List.replicate g 32 ++ p).length ≤ 56 := by rw [List.length_append]; omega
      refine ⟨_, _, rfl, rfl, S_fit2 (by omega), ?_⟩
      rw [S_app]
      refine ⟨_, rfl, line ++ (List.replicate g 32 ++ p), p, some (.str (S p)), some (.int (g : Int)), rfl, d2, ?_, hD', by rw [List.length_append]; omega, hpl, fun c hc => ?_⟩
      · rw [take_snoc hpi]
        by_cases e : g = 0
        · subst e
          exact hL.zero hpo.tok (fol_line hpo.tok hdn (ha rfl))
        · have := hL.gap (g := g) (by omega) hpo.tok
          rw [List.append_assoc] at this
          exact this
      · rcases List.mem_append.mp hc with z | z
        · exact hasc c z
        · rcases List.mem_append.mp z with z | z
          · rw [(List.mem_replicate.mp z).2]; decide
          · exact hpo.asc c z
  · obtain ⟨line, last, b4, b5, rfl, d, hL, hD, hll, hla, hasc⟩ := hinv
    obtain ⟨y, hy⟩ := d.s
    rw [List.length_map, List.take_length] at hL
    rw [List.length_map] at hll
    refine ⟨_, rfl, _, rfl, st, y, 2, rfl, hy, by decide, fun y2 r b0 b1 => ?_⟩
    obtain ⟨g, rfl⟩ := Int.eq_ofNat_of_zero_le b0
    refine ⟨_, _, rfl, rfl, by decide, by omega, by omega, ?_⟩
    rw [mul_sp g (by omega)]
    refine ⟨_, _, rfl, rfl, S_fit2 (by simp; omega), ?_⟩
    rw [S_app]
    have hasc2 : ∀ c ∈ line ++ List.replicate g 32, c < 128 := fun c hc => by
      rcases List.mem_append.mp hc with z | z
      · exact hasc c z
      · rw [(List.mem_replicate.mp z).2]; decide
    exact q _ _ (d.next y2) ⟨by simp; omega, fun c hc => by have := hasc2 c hc; omega⟩ hasc2 (ends_sp hL g)
end
end Law


set_option Elab.async false
set_option linter.all false
set_option maxRecDepth 100000
set_option maxHeartbeats 4000000
namespace Law
open PySem L2 L2.Sp
def BT : Nat → Tn → Prop
  | _, .non => True
  | _, .bl _ => True
  | _, .int _ => True
  | _, .str w => w.length ≤ 1000
  | 0, .tup _ => False
  | n + 1, .tup ts => ts.length ≤ 100 ∧ ∀ t ∈ ts, BT n t
theorem BT.succ : ∀ (n : Nat) (t : Tn), BT n t → BT (n + 1) t
  | _, .non, _ => by simp [BT]
  | _, .bl _, _ => by simp [BT]
  | _, .int _, _ => by simp [BT]
  | n, .str w, h => by cases n <;> simpa [BT] using h
  | 0, .tup _, h => by simp [BT] at h
  | n + 1, .tup ts, h => by
    simp only [BT] at h ⊢
    exact ⟨h.1, fun t ht => BT.succ n t (h.2 t ht)⟩
theorem BT.mono {m n : Nat} (h : m ≤ n) {t : Tn} (x : BT m t) : BT n t := by
  induction h with
  | refl => exact x
  | step _ ih => exact BT.succ _ _ ih
mutual
def toD : Tn → D
  | .non => .non
  | .bl b => .bl b
  | .int i => .int i
  | .str w => .str (S w)
  | .tup ts => .tup (toDs ts)
def toDs : List Tn → List D
  | [] => []
  | t :: ts => toD t :: toDs ts
end
theorem toDs_len : ∀ ts : List Tn, (toDs ts).length = ts.length
  | [] => rfl
  | t :: ts => by simp only [toDs, List.length_cons, toDs_len ts]
section
variable {K : PySem.W.Frag} {H : Hp}
mutual
theorem TV.dv : ∀ (n : Nat) (t : Tn) (v : V), BT n t → TV K H t v → DV K H (toD t) v
  | n, .non, v, _, h => by simp only [TV] at h; simp only [toD, DV]; exact h
  | n, .bl b, v, _, h => by simp only [TV] at h; simp only [toD, DV]; exact h
  | n, .int i, v, _, h => by simp only [TV] at h; simp only [toD, DV]; exact h
  | n, .str w, v, hb, h => by
    simp only [TV] at h; simp only [toD, DV]
    refine ⟨h, ?_⟩
    rw [S_len]
    cases n <;> simpa [BT] using hb
  | 0, .tup ts, v, hb, h => by simp [BT] at hb
  | n + 1, .tup ts, v, hb, h => by
    simp only [BT] at hb
    simp only [TV] at h; simp only [toD, DV]
    obtain ⟨a, ys, e, h1, h2⟩ := h
    exact ⟨a, ys, e, h1, TAll.dv n ts ys hb.2 h2, by rw [toDs_len]; exact hb.1⟩
theorem TAll.dv : ∀ (n : Nat) (ts : List Tn) (vs : List V), (∀ t ∈ ts, BT n t) → TAll K H ts vs → DAll K H (toDs ts) vs
  | n, [], vs, _, h => by simp only [TAll] at h; simp only [toDs, DAll]; exact h
  | n, t :: ts, vs, hb, h => by
    simp only [TAll] at h; simp only [toDs, DAll]
    obtain ⟨y, r, e, h1, h2⟩ := h
    exact ⟨y, r, e, TV.dv n t y (hb t (by simp)) h1, TAll.dv n ts r (fun x hx => hb x (by simp [hx])) h2⟩
end
end
theorem btx_str {n : Nat} {w : Wd} (h : w.length ≤ 1000) : BT n (.str w) := by cases n <;> simpa [BT] using h
theorem bt_bl {n : Nat} {b : Bool} : BT n (.bl b) := by cases n <;> simp [BT]
theorem bt_oI {n : Nat} {a : Option Int} : BT n (oI a) := by cases a <;> cases n <;> simp [BT, oI]
theorem bt_tup {n : Nat} {ts : List Tn} (h : ts.length ≤ 100) (h2 : ∀ t ∈ ts, BT n t) : BT (n + 1) (.tup ts) := by simp only [BT]; exact ⟨h, h2⟩
theorem bt2 {n : Nat} {a b : Tn} (h1 : BT n a) (h2 : BT n b) : BT (n + 1) (.tup [a, b]) := bt_tup (by show 2 ≤ 100; decide) fun t ht => by
  simp only [List.mem_cons, List.not_mem_nil, or_false] at ht
  rcases ht with rfl | rfl
  · exact h1
  · exact h2
theorem bt3 {n : Nat} {a b c : Tn} (h1 : BT n a) (h2 : BT n b) (h3 : BT n c) : BT (n + 1) (.tup [a, b, c]) := bt_tup (by show 3 ≤ 100; decide) fun t ht => by
  simp only [List.mem_cons, List.not_mem_nil, or_false] at ht
  rcases ht with rfl | rfl | rfl
  · exact h1
  · exact h2
  · exact h3
theorem plain_len : ∀ u ∈ plainW, u.length ≤ 1000 := by decide
theorem lf_bt {t : Tn} (h : LfT t) : BT 1 t := by
  cases h with
  | word hu => exact bt2 (btx_str (by decide)) (btx_str (plain_len _ hu))
  | span _ _ _ => exact bt3 (btx_str (by decide)) bt_oI bt_oI
  | text hc hl => exact bt2 (btx_str (by decide)) (btx_str (by omega))
theorem pl_bt {t : Tn} (h : PlT t) : BT 2 t := by
  cases h with
  | mk h0 hl hn =>
    refine bt2 (btx_str (by decide)) (bt_tup (by rw [List.length_map]; omega) fun t ht => ?_)
    obtain ⟨n, hn', rfl⟩ := List.mem_map.mp ht
    exact btx_str (by have := (hn n hn').len; omega)
theorem gt_bt {mx : Nat → Nat} (hm : ∀ n, mx n ≤ 100) : ∀ (n : Nat) (pl : Bool) (t : Tn), GT mx n pl t → BT (3 * n + 2) t
  | 0, pl, t, h => by
    rcases h with h | ⟨_, h⟩
    · exact (lf_bt h).mono (by omega)
    · exact pl_bt h
  | n + 1, pl, t, h => by
    have ih := gt_bt hm n
    have e : 3 * (n + 1) + 2 = (3 * n + 2) + 1 + 1 + 1 := by omega
    have hmx := hm (n + 1)
    rcases h with h | ⟨_, h⟩ | ⟨ts, m, rfl, hl, hg⟩ | ⟨fs, m, rfl, hl, _, hg⟩ | ⟨t', rfl, hg⟩ | ⟨k, ts, hk, rfl, _, hl, hg⟩
    · exact (lf_bt h).mono (by omega)
    · exact (pl_bt h).mono (by omega)
    · rw [e]
      refine BT.succ _ _ (bt3 (btx_str (by decide)) (bt_tup (by omega) fun t ht => ih false t (hg t ht)) bt_bl)
    · rw [e]
      refine bt3 (btx_str (by decide)) (bt_tup (by rw [List.length_map]; omega) fun t ht => ?_) bt_bl
      obtain ⟨f, hf, rfl⟩ := List.mem_map.mp ht
      exact bt3 (btx_str (by have := (hg f hf).1.len; omega)) (ih false _ (hg f hf).2) bt_bl
    · rw [e]
      exact BT.succ _ _ (BT.succ _ _ (bt2 (btx_str (by decide)) (ih false t' hg)))
    · rw [e]
      refine BT.succ _ _ (bt2 (btx_str (by rcases hk with rfl | rfl <;> decide)) (bt_tup (by omega) fun t ht => ih pl t (hg t ht)))
section
variable {P : Program} {w : World} {K : PySem.W.Frag} {mg : Str → Option Value} {base : Heap} {f : Addr} {fd : FuncData}
abbrev sSame : Stmt := top 54
theorem scSame : FnScope ["_law_found", "_law_due"] ["_law_found", "_law_due"] (defScope sSame) := ⟨rfl, rfl, rfl, by decide +kernel, rfl, by decide +kernel, by decide +kernel⟩
theorem nd_kfd : (["_law_k", "_law_found", "_law_due"] : List Str).Nodup := by decide +kernel
def spSame (K : PySem.W.Frag) (n : Nat) : Sp := fun args H Q _ => ∃ (v u : V) (t : Tn), args = [v, u] ∧ BT n t ∧ TV K H t v ∧ TV K H t u ∧ ∀ H', Same H H' → Q (.bl true) H'
theorem ok_same {k n : Nat} {sp : Sp} (F : Fun K "_law_same" "_law_same" sSame f fd) (SM : Cal P w K mg base k "_law_same" ["_law_found", "_law_due"] sp) (hsp : ∀ n', n = n' + 1 → sp = spSame K n') (m1 : mg "isinstance" = none) (m2 : mg "bool" = none) (m3 : mg "int" = none) (m4 : mg "str" = none) (m5 : mg "tuple" = none) (m6 : mg "len" = none) (m7 : mg "all" = none) (m8 : mg "range" = none) :
    FnOk P w K mg base CX0 (k + 1) f fd ["_law_found", "_law_due"] (spSame K n) := by
  refine F.ok scSame (fun vs H Q E h => ?_) (fun cdv A outer s H vs Q E hr h => ?_)
  · obtain ⟨v, u, t, rfl, _⟩ := h
    rfl
  obtain ⟨v, u, t, rfl, hb, hv, hu, q⟩ := h
  refine ⟨_, pss_cons (ps_if (pt_cmpR op_isN (pv 1) pe_non (nomark _)) (pss_one (ps_ret (pe_cmpR op_isN (pv 0) pe_non (nomark _)))) pss_nil)
    (pss_cons (ps_if (pt_val (pe_callB call_isiD rfl m1 bt_isi (pa_cons (pv 1) (pa_cons (pe_bltn (v := .ty "bool") rfl m2 bt_bool rfl) pa_nil)))) (pss_one (ps_ret (pe_and (pe_callB call_isiD rfl m1 bt_isi (pa_cons (pv 0) (pa_cons (pe_bltn (v := .ty "bool") rfl m2 bt_bool rfl) pa_nil))) (pe_one (pe_cmpR op_eq (pv 0) (pv 1) (nomark _)))))) pss_nil)
    (pss_cons (ps_if (pt_val (pe_callB call_isiD rfl m1 bt_isi (pa_cons (pv 1) (pa_cons (pe_bltn (v := .ty "int") rfl m3 bt_int rfl) pa_nil)))) (pss_one (ps_ret (pe_and (pe_callB call_isiD rfl m1 bt_isi (pa_cons (pv 0) (pa_cons (pe_bltn (v := .ty "int") rfl m3 bt_int rfl) pa_nil))) (pe_and (pe_not (pe_callB call_isiD rfl m1 bt_isi (pa_cons (pv 0) (pa_cons (pe_bltn (v := .ty "bool") rfl m2 bt_bool rfl) pa_nil)))) (pe_one (pe_cmpR op_eq (pv 0) (pv 1) (nomark _))))))) pss_nil)
    (pss_cons (ps_if (pt_val (pe_callB call_isiD rfl m1 bt_isi (pa_cons (pv 1) (pa_cons (pe_bltn (v := .ty "str") rfl m4 bt_str rfl) pa_nil)))) (pss_one (ps_ret (pe_and (pe_callB call_isiD rfl m1 bt_isi (pa_cons (pv 0) (pa_cons (pe_bltn (v := .ty "str") rfl m4 bt_str rfl) pa_nil))) (pe_one (pe_cmpR op_eq (pv 0) (pv 1) (nomark _)))))) pss_nil)
    (pss_cons (ps_if (PW.pt (pw_or (pt_not (pt_val (pe_callB call_isiD rfl m1 bt_isi (pa_cons (pv 0) (pa_cons (pe_bltn (v := .ty "tuple") rfl m5 bt_tuple rfl) pa_nil))))) (pw_or1 (pt_cmpR op_ne (pe_callB call_len_seq rfl m6 PySem.boot_len (pa_cons (pv 0) pa_nil)) (pe_callB call_len_seq rfl m6 PySem.boot_len (pa_cons (pv 1) pa_nil)) (nomark _))))) (pss_one (ps_ret pe_bl)) pss_nil)
    (pss_one (ps_ret (pe_callB (call_all_list rfl) rfl m7 bt_all (pa_cons (pe_comp (N' := ["_law_k", "_law_found", "_law_due"]) (fr := [none, some 0, some 1]) (own := [0]) ⟨rfl, rfl, rfl, rfl, rfl, rfl, rfl⟩ rfl (pi_range1 rfl m8 (pa_cons (pe_callB call_len_seq rfl m6 PySem.boot_len (pa_cons (pv 1) pa_nil)) pa_nil))
      (fun _ _ _ _ => pg_name (i := 0) nd_kfd rfl (Or.inl rfl)) (own_name 0) (fun _ _ _ _ => pts_nil) (fun _ _ _ _ => pe_cal SM hr rfl (pa_cons (pe_ix ix_tupC (pv 1) (pv 0) (fun _ _ => rfl)) (pa_cons (pe_ix ix_tupC (pv 2) (pv 0) (fun _ _ => rfl)) pa_nil)))) pa_nil)))))))), ?_⟩
  have hdv := TV.dv n t v hb hv
  have hdu := TV.dv n t u hb hu
  refine ⟨_, rfl, rfl, _, rfl, ?_⟩
  have isi : ∀ (d : D) (T : String) (b : Bool), isiD d T = b → isiD d T = b := fun _ _ _ h => h
  cases t with
  | non =>
    simp only [TV] at hv hu
    subst hv hu
    exact iteT ⟨_, rfl, rfl, q H sameR⟩
  | bl b =>
    simp only [TV] at hv hu
    subst hv hu
    refine iteF ⟨_, rfl, _, _, "bool", rfl, hdu, .inr (.inr (.inr rfl)), true, rfl, iteT ?_⟩
    refine ⟨_, rfl, _, _, "bool", rfl, hdv, .inr (.inr (.inr rfl)), true, rfl, iteT ⟨_, rfl, _, rfl, rfl, ?_⟩⟩
    rw [decide_eq_true rfl]
    exact q H sameR
  | int i =>
    simp only [TV] at hv hu
    subst hv hu
    refine iteF ⟨_, rfl, _, _, "bool", rfl, hdu, .inr (.inr (.inr rfl)), false, rfl, iteF ?_⟩
    refine ⟨_, rfl, _, _, "int", rfl, hdu, .inr (.inr (.inl rfl)), true, rfl, iteT ?_⟩
    refine ⟨_, rfl, _, _, "int", rfl, hdv, .inr (.inr (.inl rfl)), true, rfl, iteT ⟨_, rfl, _, _, "bool", rfl, hdv, .inr (.inr (.inr rfl)), false, rfl, true, rfl, iteT ⟨_, rfl, _, rfl, rfl, ?_⟩⟩⟩
    rw [decide_eq_true rfl]
    exact q H sameR
  | str w' =>
    simp only [TV] at hv hu
    subst hv hu
    refine iteF ⟨_, rfl, _, _, "bool", rfl, hdu, .inr (.inr (.inr rfl)), false, rfl, iteF ?_⟩
    refine ⟨_, rfl, _, _, "int", rfl, hdu, .inr (.inr (.inl rfl)), false, rfl, iteF ?_⟩
    refine ⟨_, rfl, _, _, "str", rfl, hdu, .inr (.inl rfl), true, rfl, iteT ?_⟩
    refine ⟨_, rfl, _, _, "str", rfl, hdv, .inr (.inl rfl), true, rfl, iteT ⟨_, rfl, _, rfl, rfl, ?_⟩⟩
    rw [decide_eq_true rfl]
    exact q H sameR
  | tup ts =>
    obtain ⟨n', rfl⟩ : ∃ n', n = n' + 1 := by
      cases n with
      | zero => simp [BT] at hb
      | succ n => exact ⟨n, rfl⟩
    have esp := hsp n' rfl
    subst esp
    simp only [BT] at hb
    simp only [TV] at hv hu
    obtain ⟨a, xs, rfl, ha, hxs⟩ := hv
    obtain ⟨b, ys, rfl, hb2, hys⟩ := hu
    have hxl := hxs.length
    have hyl := hys.length
    refine iteF ⟨_, rfl, _, _, "bool", rfl, hdu, .inr (.inr (.inr rfl)), false, rfl, iteF ?_⟩
    refine ⟨_, rfl, _, _, "int", rfl, hdu, .inr (.inr (.inl rfl)), false, rfl, iteF ?_⟩
    refine ⟨_, rfl, _, _, "str", rfl, hdu, .inr (.inl rfl), false, rfl, iteF ?_⟩
    refine ⟨_, rfl, _, _, "tuple", rfl, hdv, .inl rfl, true, rfl, iteF ?_⟩
    refine ⟨_, rfl, a, _, rfl, .inr ha, _, rfl, b, _, rfl, .inr hb2, rfl, _, rfl, ?_⟩
    rw [hxl, hyl, ne_self]
    refine iteF ?_
    refine ⟨_, rfl, b, _, rfl, .inr hb2, (ys.length : Int), rfl, by omega, by omega, fun l hl => ?_⟩
    refine comp_range (fun i zs H' => Same H H' ∧ H' l = some (.lst zs) ∧ zs = List.map V.bl (List.replicate i true)) ⟨same_new hl _, upd_same, rfl⟩ (fun i zs H' hi hinv => ?_) (fun zs H' hinv => ?_)
    · obtain ⟨g, hl', rfl⟩ := hinv
      have hi' : i < ts.length := by omega
      obtain ⟨x1, hx1⟩ : ∃ x1, xs[i]? = some x1 := ⟨_, List.getElem?_eq_getElem (by omega)⟩
      obtain ⟨y1, hy1⟩ : ∃ y1, ys[i]? = some y1 := ⟨_, List.getElem?_eq_getElem (by omega)⟩
      obtain ⟨t1, ht1, htx⟩ := hxs.get hx1
      obtain ⟨t2, ht2, hty⟩ := hys.get hy1
      rw [ht1] at ht2; cases ht2
      dsimp only [CTurn, gName]
      refine yesT ⟨_, rfl, _, rfl, a, _, _, x1, rfl, rfl, g.seqT ha, ?_, _, rfl, _, rfl, b, _, _, y1, rfl, rfl, g.seqT hb2, ?_, x1, y1, t1, rfl, hb.2 t1 (List.mem_of_getElem? ht1), TV.kp (Kp.same g) htx, TV.kp (Kp.same g) hty, fun H2 g2 => ?_⟩
      · rw [show (0 : Int) + (i : Int) = (i : Int) by omega]; exact atI_nat hx1
      · rw [show (0 : Int) + (i : Int) = (i : Int) by omega]; exact atI_nat hy1
      · refine ⟨g2 _ _ hl', sz_of (by simp; omega), fun b o h => by rw [upd_ne (ne_of_none h hl)]; exact g2 _ _ (g _ _ h), upd_same, ?_⟩
        rw [List.replicate_succ', List.map_append]; rfl
    · obtain ⟨g, hl', rfl⟩ := hinv
      refine ⟨l, _, rfl, SqL.of hl', ?_⟩
      have e : (List.replicate ((ys.length : Nat) : Int).toNat true).all id = true := by
        rw [List.all_eq_true]
        intro b hb; rw [(List.mem_replicate.mp hb).2]; rfl
      rw [e]
      exact q _ g
end
end Law


set_option Elab.async false
set_option linter.all false
set_option maxRecDepth 100000
set_option maxHeartbeats 4000000
namespace Law
open PySem L2 L2.Sp
section
variable {P : Program} {w : World} {K : PySem.W.Frag} {mg : Str → Option Value} {base : Heap} {f : Addr} {fd : FuncData} {R C : Addr}
abbrev sSeeds : Stmt := top 36
theorem scSeeds : FnScope ["_law_script", "_law_many", "_law_seeds_here", "_law_k", "_law_cell", "_law_seed"] ["_law_script", "_law_many"] (defScope sSeeds) := ⟨rfl, rfl, rfl, by decide +kernel, rfl, by decide +kernel, by decide +kernel⟩
theorem nd_k : (["_law_k"] : List Str).Nodup := by decide +kernel
def spSeeds (K : PySem.W.Frag) : Sp := fun args H Q _ => ∃ (a : Addr) (ns : List Int) (m : Nat), args = [.ref a, .int (m : Int)] ∧ SqL K H a (ns.map V.int) ∧ ns.length ≤ 63 ∧ 1 ≤ m ∧ m ≤ 100 ∧ ∀ (H' : Hp) (l : Addr) (xs : List Int), Same H H' → H l = none → H' l = some (.lst (xs.map V.int)) → xs.length = m → Q (.ref l) H'
theorem ok_seeds (F : Fun K "_law_seeds" "_law_seeds" sSeeds f fd) (m1 : mg "range" = none) (m2 : mg "enumerate" = none) : FnOk P w K mg base CX0 1 f fd ["_law_script", "_law_many"] (spSeeds K) := by
  refine F.ok scSeeds (fun vs H Q E h => ?_) (fun cdv A outer s H vs Q E hr h => ?_)
  · obtain ⟨a, ns, m, rfl, _⟩ := h
    rfl
  obtain ⟨a, ns, m, rfl, hq, h63, hm1, hm2, q⟩ := h
  refine ⟨_, pss_cons (ps_comp (i := 2) (N' := ["_law_k"]) (fr := [none]) (own := [0]) ⟨rfl, rfl, rfl, rfl, rfl, rfl, rfl⟩ rfl scSeeds.nd rfl rfl (pi_range1 rfl m1 (pa_cons (pv 1) pa_nil))
      (fun _ _ _ _ => pg_name (i := 0) nd_k rfl (Or.inl rfl)) (own_name 0) (fun _ _ _ _ => pts_nil) (fun _ _ _ _ => pe_op op_add (pe_op op_mul (pv 0) pe_int) pe_int))
    (pss_cons (ps_for PassesOwn.never rfl (pi_enum rfl m2 (pa_cons (pv 0) pa_nil)) (pg_tup (n := 2) rfl (pgs_cons (pg_name (i := 3) scSeeds.nd rfl (Or.inl rfl)) (pgs_cons (pg_name (i := 4) scSeeds.nd rfl (Or.inl rfl)) pgs_nil)))
      (pss_cons (ps_set (i := 5) scSeeds.nd rfl (Or.inl rfl) (pe_op op_add (pe_op op_mul (pe_ix ix_list (pv 2) (pe_op op_mod (pv 3) (pv 1)) (fun _ _ => rfl)) pe_int) (pe_op op_mod (pv 4) (pe_op op_pow pe_int pe_int))))
      (pss_one (ps_asg (pe_op op_mod (pe_op op_add (pv 5) (pv 3)) (pe_op op_sub (pe_op op_pow pe_int pe_int) pe_int)) (pg_sub (pv 2) (pe_op op_mod (pv 3) (pv 1)) set_list)))))
    (pss_one (ps_ret (pv 2)))), ?_⟩
  refine ⟨_, rfl, (m : Int), rfl, by omega, by omega, fun l hl => ?_⟩
  refine comp_range (fun i ys H' => Same H H' ∧ H' l = some (.lst ys) ∧ ∃ xs : List Int, ys = xs.map V.int ∧ xs.length = i) ⟨same_new hl _, upd_same, [], rfl, rfl⟩ (fun i ys H' hi ⟨g, h1, xs, e, hx⟩ => ?_) (fun ys H' ⟨g, h1, xs, e, hx⟩ => ?_)
  · subst e
    dsimp only [CTurn, gName]
    refine yesT ⟨_, rfl, _, _, rfl, rfl, .inr ⟨by decide, by decide⟩, _, _, rfl, rfl, h1, sz_of (by rw [List.length_map]; omega), fun b o h => by rw [upd_ne (ne_of_none h hl)]; exact g _ _ h, upd_same, xs ++ [_], by rw [List.map_append]; rfl, by simp [hx]⟩
  · subst e
    have hxm : xs.length = m := by simpa using hx
    refine ⟨_, rfl, a, rfl, ⟨_, g.seq hq⟩, ?_⟩
    refine for_enum (xs := ns.map V.int) (fun i σ Hx => ∃ (xs : List Int) (b3 b4 b5 : Option V), σ = [some (.ref a), some (.int (m : Int)), some (.ref l), b3, b4, b5] ∧ Same H Hx ∧ Hx l = some (.lst (xs.map V.int)) ∧ xs.length = m) ⟨xs, none, none, none, rfl, g, h1, hxm⟩
      (fun i σ Hx ⟨_, _, _, _, _, gx, _⟩ => gx.seq hq) (fun i y σ Hx T hy hinv hT => ?_) (fun σ Hx ⟨xs, b3, b4, b5, e, gx, hx, hl2⟩ => ?_)
    · obtain ⟨xs, b3, b4, b5, rfl, gx, hx, hxl⟩ := hinv
      obtain ⟨c, rfl⟩ := item_int hy
      have hne : l ≠ T := fun e => by rw [e, hT] at hx; cases hx
      obtain ⟨j, hj⟩ := Int.eq_ofNat_of_zero_le (Int.emod_nonneg (i : Int) (show (m : Int) ≠ 0 by omega))
      have hjm : j < xs.length := by have := Int.emod_lt_of_pos (i : Int) (show (0 : Int) < (m : Int) by omega); omega
      have hx2 : upd Hx T (.tup [.int (i : Int), .int c]) l = some (.lst (xs.map V.int)) := by rw [upd_ne hne]; exact hx
      have gT : Same H (upd Hx T (.tup [.int (i : Int), .int c])) := fun b o h => same_new hT _ _ _ (gx _ _ h)
      have hixn : ixN (xs.map V.int).length ((i : Int) % (m : Int)) = some j := by
        rw [hj, List.length_map]
        unfold ixN
        rw [if_pos (by omega), if_pos (by omega)]; rfl
      refine ⟨T, _, rfl, SqT.of upd_same, rfl, _, _, rfl, _, _, rfl, rfl, ?_⟩
      refine ⟨_, rfl, _, rfl, _, rfl, _, _, rfl, rfl, (by show (0 : Int) < (m : Int); omega), l, _, _, .int xs[j], rfl, rfl, SqL.of hx2, ?_, _, _, rfl, rfl, .inr ⟨by decide, by decide⟩, _, rfl, _, _, rfl, rfl, ⟨by decide, by decide, by decide⟩, _, _, rfl, rfl, (by show (0 : Int) < 10 ^ Int.toNat 30; decide), _, _, rfl, rfl, ?_⟩
      · rw [hj]; exact atI_nat (by rw [List.getElem?_map, List.getElem?_eq_getElem hjm]; rfl)
      refine ⟨_, rfl, _, rfl, _, _, rfl, rfl, _, _, rfl, rfl, ⟨by decide, by decide, by decide⟩, _, _, rfl, rfl, _, _, rfl, rfl, (by show (0 : Int) < 2 ^ Int.toNat 61 - 1; decide), ?_⟩
      refine ⟨_, rfl, _, rfl, _, rfl, _, _, rfl, rfl, (by show (0 : Int) < (m : Int); omega), l, _, _, j, rfl, rfl, hx2, hixn, ?_⟩
      exact ⟨xs.set j _, _, _, _, rfl, fun b o h => by rw [upd_ne (ne_of_none h hl)]; exact gT _ _ h, by rw [upd_same, List.map_set], by rw [List.length_set]; exact hxl⟩
    · subst e
      exact ⟨_, rfl, q Hx l xs gx hl hx hl2⟩
theorem Nm.cal {x : Str} {st : Stmt} {ps : List Str} {k : Nat} {sp : Sp} (n : Nm K mg x st ps) (h : ∀ f fd, Fun K x x st f fd → FnOk P w K mg base CX0 k f fd ps sp) : Cal P w K mg base k x ps sp := by
  obtain ⟨f, fd, F, a, b, c⟩ := n.ex
  exact ⟨f, fd, h f fd F, a, b, c⟩
theorem Nm.no {x : Str} {st : Stmt} {ps N : List Str} (n : Nm K mg x st ps) (S : FnScope N ps (defScope st)) (k : Nat) : Cal P w K mg base (k + 1) x ps (fun _ _ _ _ => False) :=
  n.cal fun f fd F => F.ok S (fun vs H Q E h => h.elim) (fun cdv A outer s H vs Q E hr h => h.elim)
theorem tree_cal (nT : Nm K mg "_law_tree" sTree ["_law_state", "_law_deep", "_law_places"]) (N : Cal P w K mg base 1 "_law_next" ["_law_state", "_law_many"] spNext) (NM : Cal P w K mg base 3 "_law_name" ["_law_state"] spNm) (NMS : Cal P w K mg base 4 "_law_names" ["_law_state", "_law_many"] spNms)
    (LF : Cal P w K mg base 4 "_law_leaf" ["_law_state"] (spTr K LfT)) (CNT : Cal P w K mg base 2 "_law_count" ["_law_state", "_law_deep", "_law_many"] spCnt) (m1 : mg "range" = none) (m2 : mg "tuple" = none) : ∀ n, n ≤ 3 → Cal P w K mg base (5 + n) "_law_tree" ["_law_state", "_law_deep", "_law_places"] (spTree K n)
  | 0, h => nT.cal fun f fd F => ok_tree F (nT.no scTree 3) (fun n' e => by omega) N NM NMS LF CNT m1 m2 (by decide) h
  | n + 1, h => nT.cal fun f fd F => ok_tree F (tree_cal nT N NM NMS LF CNT m1 m2 n (by omega)) (fun n' e => congrArg (spTree K) (Nat.succ.inj e)) N NM NMS LF CNT m1 m2 (show 4 ≤ 5 + n by omega) h
theorem ws_cal (nW : Nm K mg "_law_words" sWs ["_law_tree_here", "_law_state"]) (nB : Nm K mg "_law_braced" sBr ["_law_tree_here", "_law_tying", "_law_state"]) (nD : Nm K mg "_law_tied" sTd ["_law_sign", "_law_trees", "_law_tying", "_law_state"]) (N : Cal P w K mg base 1 "_law_next" ["_law_state", "_law_many"] spNext)
    (SPW : Cal P w K mg base 2 "_law_span_words" ["_law_tree_here", "_law_state"] (spSpw K)) (PTW : Cal P w K mg base 1 "_law_path_words" ["_law_path"] (spPtw K)) (ITW : Cal P w K mg base 1 "_law_items_words" ["_law_rows", "_law_more"] spItw) (m1 : mg "int" = none) (m2 : mg "len" = none) : ∀ n, n ≤ 3 → Cal P w K mg base (3 * n + 3) "_law_words" ["_law_tree_here", "_law_state"] (spWs K n)
  | 0, h => nW.cal fun f fd F => ok_ws F (nB.no scBr 1) (nD.no scTd 1) (fun n' e => by omega) (fun n' e => by omega) SPW PTW ITW m1 (by decide) h
  | n + 1, h => by
    have W0 := ws_cal nW nB nD N SPW PTW ITW m1 m2 n (by omega)
    have B0 : Cal P w K mg base (3 * n + 3 + 1) "_law_braced" ["_law_tree_here", "_law_tying", "_law_state"] (spBr K n) := nB.cal fun f fd F => ok_br F W0 N (by omega) (by omega)
    have T0 : Cal P w K mg base (3 * n + 3 + 1 + 1) "_law_tied" ["_law_sign", "_law_trees", "_law_tying", "_law_state"] (spTd K n) := nD.cal fun f fd F => ok_td F B0 m2 (by omega)
    exact nW.cal fun f fd F => ok_ws F (B0.mono (Nat.le_succ _)) T0 (fun n' e => congrArg (spBr K) (Nat.succ.inj e)) (fun n' e => congrArg (spTd K) (Nat.succ.inj e)) SPW PTW ITW m1 (by omega) h
theorem same_cal (nS : Nm K mg "_law_same" sSame ["_law_found", "_law_due"]) (m1 : mg "isinstance" = none) (m2 : mg "bool" = none) (m3 : mg "int" = none) (m4 : mg "str" = none) (m5 : mg "tuple" = none) (m6 : mg "len" = none) (m7 : mg "all" = none) (m8 : mg "range" = none) : ∀ n, Cal P w K mg base (n + 2) "_law_same" ["_law_found", "_law_due"] (spSame K n)
  | 0 => nS.cal fun f fd F => ok_same F (nS.no scSame 0) (fun n' e => by omega) m1 m2 m3 m4 m5 m6 m7 m8
  | n + 1 => nS.cal fun f fd F => ok_same F (same_cal nS m1 m2 m3 m4 m5 m6 m7 m8 n) (fun n' e => congrArg (spSame K) (Nat.succ.inj e)) m1 m2 m3 m4 m5 m6 m7 m8
theorem never {X : Cx} : Passes (CX1 X.prog X.w) X (fun _ _ _ => False) := by
  intro pins σ H s e s' I h
  obtain ⟨ex, cls, H', _, _, _, _, _, _, z⟩ := h
  exact z.elim
theorem mx100 (n : Nat) : mx32 n ≤ 100 := by unfold mx32; split <;> decide
theorem wsok_of {B : Nat} {ws : List Wd} (h : WsF B ws) (hb : B ≤ 100000) : WsOk ws := ⟨Nat.le_trans h.len hb, fun u hu => (h.ok u hu).tok, fun u hu => ⟨by have := (h.ok u hu).len; omega, fun c hc => by have := (h.ok u hu).asc c hc; omega⟩⟩
theorem read_ok {n : Nat} {t : Tn} {ws : List Wd} (h : PrW mx32 n true t ws) : ReadP (2 * n + 1) ws (some t) := by
  have := (rd_ok mx32 n true true t ws (fun _ => rfl) h).exp [] (.inl rfl)
  rw [List.append_nil] at this
  exact ⟨_, this, rfl⟩
abbrev sLaw : Stmt := top 55
theorem scLaw : FnScope ["_law_script", "_law_many", "_law_seed", "_law_state", "_law_due", "_law_text_here"] ["_law_script"] (defScope sLaw) := ⟨rfl, rfl, rfl, by decide +kernel, rfl, by decide +kernel, by decide +kernel⟩
def spLaw (K : PySem.W.Frag) : Sp := fun vs H Q _ => ∃ (a : Addr) (ns : List Int), vs = [.ref a] ∧ SqL K H a (ns.map V.int) ∧ ns.length ≤ 63 ∧ ∀ H', Q (.bl true) H'
theorem ok_law (F : Fun K "law" "law" sLaw f fd) (SEEDS : Cal P w K mg base 1 "_law_seeds" ["_law_script", "_law_many"] (spSeeds K)) (TR : Cal P w K mg base 8 "_law_tree" ["_law_state", "_law_deep", "_law_places"] (spTree K 3)) (WS : Cal P w K mg base 12 "_law_words" ["_law_tree_here", "_law_state"] (spWs K 3))
    (LINE : Cal P w K mg base 2 "_law_line" ["_law_words_here", "_law_state"] spLine) (SAME : Cal P w K mg base 13 "_law_same" ["_law_found", "_law_due"] (spSame K 11)) (READ : Cal1 P w K mg base 43 "read" ["text"] (spText K C (ReadP 7))) (m1 : mg "len" = none) : FnOk P w K mg base CX0 44 f fd ["_law_script"] (spLaw K) := by
  refine F.ok scLaw (fun vs H Q E h => ?_) (fun cdv A outer s H vs Q E hr h => ?_)
  · obtain ⟨a, ns, rfl, _⟩ := h
    rfl
  obtain ⟨a, ns, rfl, hq, h63, q⟩ := h
  have hr1 := hr.mono (show 1 ≤ 43 by decide)
  have hr2 := hr.mono (show 2 ≤ 43 by decide)
  have hr8 := hr.mono (show 8 ≤ 43 by decide)
  have hr12 := hr.mono (show 12 ≤ 43 by decide)
  have hr13 := hr.mono (show 13 ≤ 43 by decide)
  refine ⟨_, pss_cons (ps_set (i := 1) scLaw.nd rfl (Or.inl rfl) pe_int)
    (pss_cut (ps_if (pt_cmpR op_gt (pe_callB call_len_seq rfl m1 PySem.boot_len (pa_cons (pv 0) pa_nil)) pe_int (nomark _)) (pss_one (ps_set (i := 1) scLaw.nd rfl (Or.inl rfl) (pe_op op_add pe_int (pe_op op_mod (pe_ix ix_list (pv 0) pe_int (fun _ _ => rfl)) pe_int)))) pss_nil)
    (pss_cons (ps_for PassesOwn.never rfl (pi_list (pe_cal SEEDS hr1 rfl (pa_cons (pv 0) (pa_cons (pv 1) pa_nil)))) (pg_name (i := 2) scLaw.nd rfl (Or.inl rfl))
      (pss_cons (ps_set (i := 3) scLaw.nd rfl (Or.inl rfl) (pe_lst (pa_cons (pv 2) pa_nil)))
      (pss_cons (ps_set (i := 4) scLaw.nd rfl (Or.inl rfl) (pe_cal TR hr8 rfl (pa_cons (pv 3) (pa_cons pe_int (pa_cons pe_bl pa_nil)))))
      (pss_cons (ps_set (i := 5) scLaw.nd rfl (Or.inl rfl) (pe_cal LINE hr2 rfl (pa_cons (pe_cal WS hr12 rfl (pa_cons (pv 4) (pa_cons (pv 3) pa_nil))) (pa_cons (pv 3) pa_nil))))
      (pss_one (ps_if (PW.pt (pw_or (pt_not (pt_val (pe_cal SAME hr13 rfl (pa_cons (pe_cal1 READ hr rfl never (pa_cons (pv 5) pa_nil)) (pa_cons (pv 4) pa_nil))))) (pw_or1 (pt_not (pt_val (pe_cal SAME hr13 rfl (pa_cons (pe_cal1 READ hr rfl never (pa_cons (pv 5) pa_nil)) (pa_cons (pv 4) pa_nil)))))))) (pss_one (ps_ret pe_bl)) pss_nil))))))
    (pss_one (ps_ret pe_bl)))), ?_⟩
  refine ⟨fun σ' H' => ∃ m : Nat, 1 ≤ m ∧ m ≤ 3 ∧ σ' = [some (.ref a), some (.int (m : Int)), none, none, none, none] ∧ H' = H, ?_, ?_⟩
  · refine ⟨_, rfl, a, _, rfl, .inl hq, _, _, rfl, rfl, _, rfl, ite2 (fun c => ?_) (fun _ => ⟨1, by decide, by decide, rfl, rfl⟩)⟩
    have hpos : 0 < ns.length := by
      have := of_decide_eq_true c
      rw [List.length_map] at this
      omega
    refine ⟨_, rfl, a, _, _, .int ns[0], rfl, rfl, hq, atI_nat (j := 0) (by rw [List.getElem?_map, List.getElem?_eq_getElem hpos]; rfl), _, _, rfl, rfl, (by show (0 : Int) < 3; decide), _, _, rfl, rfl, ?_⟩
    have h0 := Int.emod_nonneg ns[0] (show (3 : Int) ≠ 0 by decide)
    have h1 := Int.emod_lt_of_pos ns[0] (show (0 : Int) < 3 by decide)
    obtain ⟨j, hj⟩ := Int.eq_ofNat_of_zero_le h0
    refine ⟨1 + j, by omega, by omega, ?_, rfl⟩
    rw [hj, show ((1 + j : Nat) : Int) = 1 + (j : Int) by omega]
    rfl
  rintro σ1 H1 ⟨m, hm1, hm3, rfl, rfl⟩
  refine ⟨_, rfl, _, rfl, a, ns, m, rfl, hq, h63, hm1, by omega, fun H2 l xs g2 hl0 hl hxs => ?_⟩
  refine ⟨l, rfl, ⟨_, SqL.of hl⟩, ?_⟩
  refine for_list (xs := xs.map V.int) (fun i σ H' => ∃ b2 b3 b4 b5 : Option V, σ = [some (.ref a), some (.int (m : Int)), b2, b3, b4, b5] ∧ Same H2 H') ⟨none, none, none, none, rfl, sameR⟩ (fun i σ H' _ ⟨_, _, _, _, _, g⟩ => SqL.of (g _ _ hl)) (fun i u σ H' hu hinv => ?_) (fun σ H' _ => q H')
  obtain ⟨b2, b3, b4, b5, rfl, g⟩ := hinv
  obtain ⟨sd, rfl⟩ := item_int hu
  refine ⟨_, rfl, len1, fun st hst => ?_⟩
  have k1 := same_new hst (.lst [.int sd])
  have D0 : DS st (upd H' st (.lst [.int sd])) (upd H' st (.lst [.int sd])) := DS.start upd_same
  refine ⟨_, rfl, st, sd, true, rfl, upd_same, fun H3 t v d3 ht hv => ?_⟩
  obtain ⟨y3, hy3⟩ := d3.s
  refine ⟨_, rfl, _, rfl, v, st, y3, true, t, rfl, hy3, ht, hv, fun H4 lw ws d4 hlw0 hlw hw => ?_⟩
  obtain ⟨y4, hy4⟩ := d4.s
  have hwf := prw_ok mx1 3 true t ws hw
  have nlw : lw ≠ st := d4.ne hlw0
  refine ⟨_, rfl, lw, st, y4, ws, rfl, hy4, hlw, nlw, hwf.mono (by decide), fun H5 tx d5 htx hasc hwd => ?_⟩
  have d45 := d3.more (d4.more d5)
  have hb := gt_bt mx100 3 true t ht
  have hv5 := TV.kp (d4.more d5).kp hv
  have back : ∀ {H6 : Hp}, Same H5 H6 → Same H2 H6 := fun {H6} g6 b o h => g6 _ _ (d45.g b o (ne_of_none (g _ _ h) hst) (k1 _ _ (g _ _ h)))
  have wk := wsok_of hwf (by decide)
  refine ⟨_, rfl, _, rfl, .inr ⟨tx, rfl, htx, .inr ⟨ws, some t, hwd, wk, read_ok hw, fun u6 H6 g6 hu6 => ?_⟩⟩⟩
  refine ⟨_, rfl, u6, v, t, rfl, hb, hu6, TV.kp (Kp.same g6) hv5, fun H7 g7 => ⟨_, rfl, iteF ?_⟩⟩
  refine ⟨_, rfl, _, rfl, .inr ⟨tx, rfl, htx, .inr ⟨ws, some t, hwd, wk, read_ok hw, fun u8 H8 g8 hu8 => ?_⟩⟩⟩
  refine ⟨_, rfl, u8, v, t, rfl, hb, hu8, TV.kp (Kp.same (g6.trans (g7.trans g8))) hv5, fun H9 g9 => ⟨_, rfl, iteF ?_⟩⟩
  exact ⟨_, _, _, _, rfl, back (g6.trans (g7.trans (g8.trans g9)))⟩
end
end Law


set_option Elab.async false
set_option linter.all false
set_option maxRecDepth 100000
set_option maxHeartbeats 4000000
namespace Law
open PySem L2 L2.Sp
theorem all_mk {l : PySem.W.OpenLaw} {w : World} {K : PySem.W.Frag} {h : Heap} {mg : Str → Option Value} {fa : Addr} (X : K.In h) (G : h.Ns mainGlobals mg) (hfa : mg "law" = some (.ref fa))
    {f_is_name : Addr} {od_is_name an_is_name : Option Addr} {sl_is_name : Array (Option Value)} {oc_is_name kV_is_name dc_is_name pm_is_name cd_is_name ct_is_name : Value}
    {f_is_sign : Addr} {od_is_sign an_is_sign : Option Addr} {sl_is_sign : Array (Option Value)} {oc_is_sign kV_is_sign dc_is_sign pm_is_sign cd_is_sign ct_is_sign : Value}
    {f_is_letter : Addr} {od_is_letter an_is_letter : Option Addr} {sl_is_letter : Array (Option Value)} {oc_is_letter kV_is_letter dc_is_letter pm_is_letter cd_is_letter ct_is_letter : Value}
    {f_is_figure : Addr} {od_is_figure an_is_figure : Option Addr} {sl_is_figure : Array (Option Value)} {oc_is_figure kV_is_figure dc_is_figure pm_is_figure cd_is_figure ct_is_figure : Value}
    {f_run_end : Addr} {od_run_end an_run_end : Option Addr} {sl_run_end : Array (Option Value)} {oc_run_end kV_run_end dc_run_end pm_run_end cd_run_end ct_run_end : Value}
    {f_number_at : Addr} {od_number_at an_number_at : Option Addr} {sl_number_at : Array (Option Value)} {oc_number_at kV_number_at dc_number_at pm_number_at cd_number_at ct_number_at : Value}
    {f_quoted_at : Addr} {od_quoted_at an_quoted_at : Option Addr} {sl_quoted_at : Array (Option Value)} {oc_quoted_at kV_quoted_at dc_quoted_at pm_quoted_at cd_quoted_at ct_quoted_at : Value}
    {f_word_at : Addr} {od_word_at an_word_at : Option Addr} {sl_word_at : Array (Option Value)} {oc_word_at kV_word_at dc_word_at pm_word_at cd_word_at ct_word_at : Value}
    {f_words_of : Addr} {od_words_of an_words_of : Option Addr} {sl_words_of : Array (Option Value)} {oc_words_of kV_words_of dc_words_of pm_words_of cd_words_of ct_words_of : Value}
    {f_is_number : Addr} {od_is_number an_is_number : Option Addr} {sl_is_number : Array (Option Value)} {oc_is_number kV_is_number dc_is_number pm_is_number cd_is_number ct_is_number : Value}
    {f_name_of : Addr} {od_name_of an_name_of : Option Addr} {sl_name_of : Array (Option Value)} {oc_name_of kV_name_of dc_name_of pm_name_of cd_name_of ct_name_of : Value}
    {f_names_of : Addr} {od_names_of an_names_of : Option Addr} {sl_names_of : Array (Option Value)} {oc_names_of kV_names_of dc_names_of pm_names_of cd_names_of ct_names_of : Value}
    {f_has_another : Addr} {od_has_another an_has_another : Option Addr} {sl_has_another : Array (Option Value)} {oc_has_another kV_has_another dc_has_another pm_has_another cd_has_another ct_has_another : Value}
    {f_takes_end : Addr} {od_takes_end an_takes_end : Option Addr} {sl_takes_end : Array (Option Value)} {oc_takes_end kV_takes_end dc_takes_end pm_takes_end cd_takes_end ct_takes_end : Value}
    {f_span_tree : Addr} {od_span_tree an_span_tree : Option Addr} {sl_span_tree : Array (Option Value)} {oc_span_tree kV_span_tree dc_span_tree pm_span_tree cd_span_tree ct_span_tree : Value}
    {f_one_or_several : Addr} {od_one_or_several an_one_or_several : Option Addr} {sl_one_or_several : Array (Option Value)} {oc_one_or_several kV_one_or_several dc_one_or_several pm_one_or_several cd_one_or_several ct_one_or_several : Value}
    {f_expression : Addr} {od_expression an_expression : Option Addr} {sl_expression : Array (Option Value)} {oc_expression kV_expression dc_expression pm_expression cd_expression ct_expression : Value}
    {f_negated : Addr} {od_negated an_negated : Option Addr} {sl_negated : Array (Option Value)} {oc_negated kV_negated dc_negated pm_negated cd_negated ct_negated : Value}
    {f_single : Addr} {od_single an_single : Option Addr} {sl_single : Array (Option Value)} {oc_single kV_single dc_single pm_single cd_single ct_single : Value}
    {f_list_tree : Addr} {od_list_tree an_list_tree : Option Addr} {sl_list_tree : Array (Option Value)} {oc_list_tree kV_list_tree dc_list_tree pm_list_tree cd_list_tree ct_list_tree : Value}
    {f_record_tree : Addr} {od_record_tree an_record_tree : Option Addr} {sl_record_tree : Array (Option Value)} {oc_record_tree kV_record_tree dc_record_tree pm_record_tree cd_record_tree ct_record_tree : Value}
    {f_field_of : Addr} {od_field_of an_field_of : Option Addr} {sl_field_of : Array (Option Value)} {oc_field_of kV_field_of dc_field_of pm_field_of cd_field_of ct_field_of : Value}
    {f_read : Addr} {od_read an_read : Option Addr} {sl_read : Array (Option Value)} {oc_read kV_read dc_read pm_read cd_read ct_read : Value}
    {f__law_next : Addr} {od__law_next an__law_next : Option Addr} {sl__law_next : Array (Option Value)} {oc__law_next kV__law_next dc__law_next pm__law_next cd__law_next ct__law_next : Value}
    {f__law_seeds : Addr} {od__law_seeds an__law_seeds : Option Addr} {sl__law_seeds : Array (Option Value)} {oc__law_seeds kV__law_seeds dc__law_seeds pm__law_seeds cd__law_seeds ct__law_seeds : Value}
    {f__law_letters : Addr} {od__law_letters an__law_letters : Option Addr} {sl__law_letters : Array (Option Value)} {oc__law_letters kV__law_letters dc__law_letters pm__law_letters cd__law_letters ct__law_letters : Value}
    {f__law_plain : Addr} {od__law_plain an__law_plain : Option Addr} {sl__law_plain : Array (Option Value)} {oc__law_plain kV__law_plain dc__law_plain pm__law_plain cd__law_plain ct__law_plain : Value}
    {f__law_name : Addr} {od__law_name an__law_name : Option Addr} {sl__law_name : Array (Option Value)} {oc__law_name kV__law_name dc__law_name pm__law_name cd__law_name ct__law_name : Value}
    {f__law_names : Addr} {od__law_names an__law_names : Option Addr} {sl__law_names : Array (Option Value)} {oc__law_names kV__law_names dc__law_names pm__law_names cd__law_names ct__law_names : Value}
    {f__law_number : Addr} {od__law_number an__law_number : Option Addr} {sl__law_number : Array (Option Value)} {oc__law_number kV__law_number dc__law_number pm__law_number cd__law_number ct__law_number : Value}
    {f__law_text : Addr} {od__law_text an__law_text : Option Addr} {sl__law_text : Array (Option Value)} {oc__law_text kV__law_text dc__law_text pm__law_text cd__law_text ct__law_text : Value}
    {f__law_span : Addr} {od__law_span an__law_span : Option Addr} {sl__law_span : Array (Option Value)} {oc__law_span kV__law_span dc__law_span pm__law_span cd__law_span ct__law_span : Value}
    {f__law_leaf : Addr} {od__law_leaf an__law_leaf : Option Addr} {sl__law_leaf : Array (Option Value)} {oc__law_leaf kV__law_leaf dc__law_leaf pm__law_leaf cd__law_leaf ct__law_leaf : Value}
    {f__law_count : Addr} {od__law_count an__law_count : Option Addr} {sl__law_count : Array (Option Value)} {oc__law_count kV__law_count dc__law_count pm__law_count cd__law_count ct__law_count : Value}
    {f__law_tree : Addr} {od__law_tree an__law_tree : Option Addr} {sl__law_tree : Array (Option Value)} {oc__law_tree kV__law_tree dc__law_tree pm__law_tree cd__law_tree ct__law_tree : Value}
    {f__law_braced : Addr} {od__law_braced an__law_braced : Option Addr} {sl__law_braced : Array (Option Value)} {oc__law_braced kV__law_braced dc__law_braced pm__law_braced cd__law_braced ct__law_braced : Value}
    {f__law_tied : Addr} {od__law_tied an__law_tied : Option Addr} {sl__law_tied : Array (Option Value)} {oc__law_tied kV__law_tied dc__law_tied pm__law_tied cd__law_tied ct__law_tied : Value}
    {f__law_words : Addr} {od__law_words an__law_words : Option Addr} {sl__law_words : Array (Option Value)} {oc__law_words kV__law_words dc__law_words pm__law_words cd__law_words ct__law_words : Value}
    {f__law_same : Addr} {od__law_same an__law_same : Option Addr} {sl__law_same : Array (Option Value)} {oc__law_same kV__law_same dc__law_same pm__law_same cd__law_same ct__law_same : Value}
    {f__law_span_words : Addr} {od__law_span_words an__law_span_words : Option Addr} {sl__law_span_words : Array (Option Value)} {oc__law_span_words kV__law_span_words dc__law_span_words pm__law_span_words cd__law_span_words ct__law_span_words : Value}
    {f__law_items_words : Addr} {od__law_items_words an__law_items_words : Option Addr} {sl__law_items_words : Array (Option Value)} {oc__law_items_words kV__law_items_words dc__law_items_words pm__law_items_words cd__law_items_words ct__law_items_words : Value}
    {f__law_path_words : Addr} {od__law_path_words an__law_path_words : Option Addr} {sl__law_path_words : Array (Option Value)} {oc__law_path_words kV__law_path_words dc__law_path_words pm__law_path_words cd__law_path_words ct__law_path_words : Value}
    {f__law_line : Addr} {od__law_line an__law_line : Option Addr} {sl__law_line : Array (Option Value)} {oc__law_line kV__law_line dc__law_line pm__law_line cd__law_line ct__law_line : Value}
    {f_law : Addr} {od_law an_law : Option Addr} {sl_law : Array (Option Value)} {oc_law kV_law dc_law pm_law cd_law ct_law : Value}
    {gt : Addr} {dN : Option Addr} {slN : Array (Option Value)} {tA tB : Tok} {nN : Nat}
    {cC cR gp : Addr} {tM tS p0 p1 p2 p3 p4 p5 p6 p7 p8 p9 : Tok} {dP : Option Addr} {slP : Array (Option Value)} {nP : Nat} {f_init : Addr} {od_init an_init : Option Addr} {sl_init : Array (Option Value)} {oc_init kV_init dc_init pm_init cd_init ct_init : Value} {f_ahead : Addr} {od_ahead an_ahead : Option Addr} {sl_ahead : Array (Option Value)} {oc_ahead kV_ahead dc_ahead pm_ahead cd_ahead ct_ahead : Value} {f_take : Addr} {od_take an_take : Option Addr} {sl_take : Array (Option Value)} {oc_take kV_take dc_take pm_take cd_take ct_take : Value} {f_takes : Addr} {od_takes an_takes : Option Addr} {sl_takes : Array (Option Value)} {oc_takes kV_takes dc_takes pm_takes cd_takes ct_takes : Value} {f_must : Addr} {od_must an_must : Option Addr} {sl_must : Array (Option Value)} {oc_must kV_must dc_must pm_must cd_must ct_must : Value}
    (a_is_name : PySem.W.nsIn K mainGlobals "is_name" = some (some (.ref f_is_name))) (l_is_name : K.lookup f_is_name = some ⟨oc_is_name, od_is_name, .func (PySem.W.fnOf "is_name" "is_name" (defArgs sName) (defBody sName) (defScope sName) .none kV_is_name dc_is_name pm_is_name an_is_name cd_is_name ct_is_name), sl_is_name⟩) (c_is_name : PySem.W.codeIn K cd_is_name "is_name" = true) (k_is_name : PySem.W.keepIn K (.ref f_is_name) = true)
    (a_is_sign : PySem.W.nsIn K mainGlobals "is_sign" = some (some (.ref f_is_sign))) (l_is_sign : K.lookup f_is_sign = some ⟨oc_is_sign, od_is_sign, .func (PySem.W.fnOf "is_sign" "is_sign" (defArgs sSign) (defBody sSign) (defScope sSign) .none kV_is_sign dc_is_sign pm_is_sign an_is_sign cd_is_sign ct_is_sign), sl_is_sign⟩) (c_is_sign : PySem.W.codeIn K cd_is_sign "is_sign" = true) (k_is_sign : PySem.W.keepIn K (.ref f_is_sign) = true)
    (a_is_letter : PySem.W.nsIn K mainGlobals "is_letter" = some (some (.ref f_is_letter))) (l_is_letter : K.lookup f_is_letter = some ⟨oc_is_letter, od_is_letter, .func (PySem.W.fnOf "is_letter" "is_letter" (defArgs sLetter) (defBody sLetter) (defScope sLetter) .none kV_is_letter dc_is_letter pm_is_letter an_is_letter cd_is_letter ct_is_letter), sl_is_letter⟩) (c_is_letter : PySem.W.codeIn K cd_is_letter "is_letter" = true) (k_is_letter : PySem.W.keepIn K (.ref f_is_letter) = true)
    (a_is_figure : PySem.W.nsIn K mainGlobals "is_figure" = some (some (.ref f_is_figure))) (l_is_figure : K.lookup f_is_figure = some ⟨oc_is_figure, od_is_figure, .func (PySem.W.fnOf "is_figure" "is_figure" (defArgs sFigure) (defBody sFigure) (defScope sFigure) .none kV_is_figure dc_is_figure pm_is_figure an_is_figure cd_is_figure ct_is_figure), sl_is_figure⟩) (c_is_figure : PySem.W.codeIn K cd_is_figure "is_figure" = true) (k_is_figure : PySem.W.keepIn K (.ref f_is_figure) = true)
    (a_run_end : PySem.W.nsIn K mainGlobals "run_end" = some (some (.ref f_run_end))) (l_run_end : K.lookup f_run_end = some ⟨oc_run_end, od_run_end, .func (PySem.W.fnOf "run_end" "run_end" (defArgs sRun) (defBody sRun) (defScope sRun) .none kV_run_end dc_run_end pm_run_end an_run_end cd_run_end ct_run_end), sl_run_end⟩) (c_run_end : PySem.W.codeIn K cd_run_end "run_end" = true) (k_run_end : PySem.W.keepIn K (.ref f_run_end) = true)
    (a_number_at : PySem.W.nsIn K mainGlobals "number_at" = some (some (.ref f_number_at))) (l_number_at : K.lookup f_number_at = some ⟨oc_number_at, od_number_at, .func (PySem.W.fnOf "number_at" "number_at" (defArgs sNum) (defBody sNum) (defScope sNum) .none kV_number_at dc_number_at pm_number_at an_number_at cd_number_at ct_number_at), sl_number_at⟩) (c_number_at : PySem.W.codeIn K cd_number_at "number_at" = true) (k_number_at : PySem.W.keepIn K (.ref f_number_at) = true)
    (a_quoted_at : PySem.W.nsIn K mainGlobals "quoted_at" = some (some (.ref f_quoted_at))) (l_quoted_at : K.lookup f_quoted_at = some ⟨oc_quoted_at, od_quoted_at, .func (PySem.W.fnOf "quoted_at" "quoted_at" (defArgs sQuo) (defBody sQuo) (defScope sQuo) .none kV_quoted_at dc_quoted_at pm_quoted_at an_quoted_at cd_quoted_at ct_quoted_at), sl_quoted_at⟩) (c_quoted_at : PySem.W.codeIn K cd_quoted_at "quoted_at" = true) (k_quoted_at : PySem.W.keepIn K (.ref f_quoted_at) = true)
    (a_word_at : PySem.W.nsIn K mainGlobals "word_at" = some (some (.ref f_word_at))) (l_word_at : K.lookup f_word_at = some ⟨oc_word_at, od_word_at, .func (PySem.W.fnOf "word_at" "word_at" (defArgs sWord) (defBody sWord) (defScope sWord) .none kV_word_at dc_word_at pm_word_at an_word_at cd_word_at ct_word_at), sl_word_at⟩) (c_word_at : PySem.W.codeIn K cd_word_at "word_at" = true) (k_word_at : PySem.W.keepIn K (.ref f_word_at) = true)
    (a_words_of : PySem.W.nsIn K mainGlobals "words_of" = some (some (.ref f_words_of))) (l_words_of : K.lookup f_words_of = some ⟨oc_words_of, od_words_of, .func (PySem.W.fnOf "words_of" "words_of" (defArgs sWords) (defBody sWords) (defScope sWords) .none kV_words_of dc_words_of pm_words_of an_words_of cd_words_of ct_words_of), sl_words_of⟩) (c_words_of : PySem.W.codeIn K cd_words_of "words_of" = true) (k_words_of : PySem.W.keepIn K (.ref f_words_of) = true)
    (a_is_number : PySem.W.nsIn K mainGlobals "is_number" = some (some (.ref f_is_number))) (l_is_number : K.lookup f_is_number = some ⟨oc_is_number, od_is_number, .func (PySem.W.fnOf "is_number" "is_number" (defArgs sIsNo) (defBody sIsNo) (defScope sIsNo) .none kV_is_number dc_is_number pm_is_number an_is_number cd_is_number ct_is_number), sl_is_number⟩) (c_is_number : PySem.W.codeIn K cd_is_number "is_number" = true) (k_is_number : PySem.W.keepIn K (.ref f_is_number) = true)
    (a_name_of : PySem.W.nsIn K mainGlobals "name_of" = some (some (.ref f_name_of))) (l_name_of : K.lookup f_name_of = some ⟨oc_name_of, od_name_of, .func (PySem.W.fnOf "name_of" "name_of" (defArgs sNameOf) (defBody sNameOf) (defScope sNameOf) .none kV_name_of dc_name_of pm_name_of an_name_of cd_name_of ct_name_of), sl_name_of⟩) (c_name_of : PySem.W.codeIn K cd_name_of "name_of" = true) (k_name_of : PySem.W.keepIn K (.ref f_name_of) = true)
    (a_names_of : PySem.W.nsIn K mainGlobals "names_of" = some (some (.ref f_names_of))) (l_names_of : K.lookup f_names_of = some ⟨oc_names_of, od_names_of, .func (PySem.W.fnOf "names_of" "names_of" (defArgs sNamesOf) (defBody sNamesOf) (defScope sNamesOf) .none kV_names_of dc_names_of pm_names_of an_names_of cd_names_of ct_names_of), sl_names_of⟩) (c_names_of : PySem.W.codeIn K cd_names_of "names_of" = true) (k_names_of : PySem.W.keepIn K (.ref f_names_of) = true)
    (a_has_another : PySem.W.nsIn K mainGlobals "has_another" = some (some (.ref f_has_another))) (l_has_another : K.lookup f_has_another = some ⟨oc_has_another, od_has_another, .func (PySem.W.fnOf "has_another" "has_another" (defArgs sHas) (defBody sHas) (defScope sHas) .none kV_has_another dc_has_another pm_has_another an_has_another cd_has_another ct_has_another), sl_has_another⟩) (c_has_another : PySem.W.codeIn K cd_has_another "has_another" = true) (k_has_another : PySem.W.keepIn K (.ref f_has_another) = true)
    (a_takes_end : PySem.W.nsIn K mainGlobals "takes_end" = some (some (.ref f_takes_end))) (l_takes_end : K.lookup f_takes_end = some ⟨oc_takes_end, od_takes_end, .func (PySem.W.fnOf "takes_end" "takes_end" (defArgs sEndT) (defBody sEndT) (defScope sEndT) .none kV_takes_end dc_takes_end pm_takes_end an_takes_end cd_takes_end ct_takes_end), sl_takes_end⟩) (c_takes_end : PySem.W.codeIn K cd_takes_end "takes_end" = true) (k_takes_end : PySem.W.keepIn K (.ref f_takes_end) = true)
    (a_span_tree : PySem.W.nsIn K mainGlobals "span_tree" = some (some (.ref f_span_tree))) (l_span_tree : K.lookup f_span_tree = some ⟨oc_span_tree, od_span_tree, .func (PySem.W.fnOf "span_tree" "span_tree" (defArgs sSpanT) (defBody sSpanT) (defScope sSpanT) .none kV_span_tree dc_span_tree pm_span_tree an_span_tree cd_span_tree ct_span_tree), sl_span_tree⟩) (c_span_tree : PySem.W.codeIn K cd_span_tree "span_tree" = true) (k_span_tree : PySem.W.keepIn K (.ref f_span_tree) = true)
    (a_one_or_several : PySem.W.nsIn K mainGlobals "one_or_several" = some (some (.ref f_one_or_several))) (l_one_or_several : K.lookup f_one_or_several = some ⟨oc_one_or_several, od_one_or_several, .func (PySem.W.fnOf "one_or_several" "one_or_several" (defArgs sOne) (defBody sOne) (defScope sOne) .none kV_one_or_several dc_one_or_several pm_one_or_several an_one_or_several cd_one_or_several ct_one_or_several), sl_one_or_several⟩) (c_one_or_several : PySem.W.codeIn K cd_one_or_several "one_or_several" = true) (k_one_or_several : PySem.W.keepIn K (.ref f_one_or_several) = true)
    (a_expression : PySem.W.nsIn K mainGlobals "expression" = some (some (.ref f_expression))) (l_expression : K.lookup f_expression = some ⟨oc_expression, od_expression, .func (PySem.W.fnOf "expression" "expression" (defArgs sExpr) (defBody sExpr) (defScope sExpr) .none kV_expression dc_expression pm_expression an_expression cd_expression ct_expression), sl_expression⟩) (c_expression : PySem.W.codeIn K cd_expression "expression" = true) (k_expression : PySem.W.keepIn K (.ref f_expression) = true)
    (a_negated : PySem.W.nsIn K mainGlobals "negated" = some (some (.ref f_negated))) (l_negated : K.lookup f_negated = some ⟨oc_negated, od_negated, .func (PySem.W.fnOf "negated" "negated" (defArgs sNegd) (defBody sNegd) (defScope sNegd) .none kV_negated dc_negated pm_negated an_negated cd_negated ct_negated), sl_negated⟩) (c_negated : PySem.W.codeIn K cd_negated "negated" = true) (k_negated : PySem.W.keepIn K (.ref f_negated) = true)
    (a_single : PySem.W.nsIn K mainGlobals "single" = some (some (.ref f_single))) (l_single : K.lookup f_single = some ⟨oc_single, od_single, .func (PySem.W.fnOf "single" "single" (defArgs sSingle) (defBody sSingle) (defScope sSingle) .none kV_single dc_single pm_single an_single cd_single ct_single), sl_single⟩) (c_single : PySem.W.codeIn K cd_single "single" = true) (k_single : PySem.W.keepIn K (.ref f_single) = true)
    (a_list_tree : PySem.W.nsIn K mainGlobals "list_tree" = some (some (.ref f_list_tree))) (l_list_tree : K.lookup f_list_tree = some ⟨oc_list_tree, od_list_tree, .func (PySem.W.fnOf "list_tree" "list_tree" (defArgs sListT) (defBody sListT) (defScope sListT) .none kV_list_tree dc_list_tree pm_list_tree an_list_tree cd_list_tree ct_list_tree), sl_list_tree⟩) (c_list_tree : PySem.W.codeIn K cd_list_tree "list_tree" = true) (k_list_tree : PySem.W.keepIn K (.ref f_list_tree) = true)
    (a_record_tree : PySem.W.nsIn K mainGlobals "record_tree" = some (some (.ref f_record_tree))) (l_record_tree : K.lookup f_record_tree = some ⟨oc_record_tree, od_record_tree, .func (PySem.W.fnOf "record_tree" "record_tree" (defArgs sRecT) (defBody sRecT) (defScope sRecT) .none kV_record_tree dc_record_tree pm_record_tree an_record_tree cd_record_tree ct_record_tree), sl_record_tree⟩) (c_record_tree : PySem.W.codeIn K cd_record_tree "record_tree" = true) (k_record_tree : PySem.W.keepIn K (.ref f_record_tree) = true)
    (a_field_of : PySem.W.nsIn K mainGlobals "field_of" = some (some (.ref f_field_of))) (l_field_of : K.lookup f_field_of = some ⟨oc_field_of, od_field_of, .func (PySem.W.fnOf "field_of" "field_of" (defArgs sField) (defBody sField) (defScope sField) .none kV_field_of dc_field_of pm_field_of an_field_of cd_field_of ct_field_of), sl_field_of⟩) (c_field_of : PySem.W.codeIn K cd_field_of "field_of" = true) (k_field_of : PySem.W.keepIn K (.ref f_field_of) = true)
    (a_read : PySem.W.nsIn K mainGlobals "read" = some (some (.ref f_read))) (l_read : K.lookup f_read = some ⟨oc_read, od_read, .func (PySem.W.fnOf "read" "read" (defArgs sRead) (defBody sRead) (defScope sRead) .none kV_read dc_read pm_read an_read cd_read ct_read), sl_read⟩) (c_read : PySem.W.codeIn K cd_read "read" = true) (k_read : PySem.W.keepIn K (.ref f_read) = true)
    (a__law_next : PySem.W.nsIn K mainGlobals "_law_next" = some (some (.ref f__law_next))) (l__law_next : K.lookup f__law_next = some ⟨oc__law_next, od__law_next, .func (PySem.W.fnOf "_law_next" "_law_next" (defArgs sNext) (defBody sNext) (defScope sNext) .none kV__law_next dc__law_next pm__law_next an__law_next cd__law_next ct__law_next), sl__law_next⟩) (c__law_next : PySem.W.codeIn K cd__law_next "_law_next" = true) (k__law_next : PySem.W.keepIn K (.ref f__law_next) = true)
    (a__law_seeds : PySem.W.nsIn K mainGlobals "_law_seeds" = some (some (.ref f__law_seeds))) (l__law_seeds : K.lookup f__law_seeds = some ⟨oc__law_seeds, od__law_seeds, .func (PySem.W.fnOf "_law_seeds" "_law_seeds" (defArgs sSeeds) (defBody sSeeds) (defScope sSeeds) .none kV__law_seeds dc__law_seeds pm__law_seeds an__law_seeds cd__law_seeds ct__law_seeds), sl__law_seeds⟩) (c__law_seeds : PySem.W.codeIn K cd__law_seeds "_law_seeds" = true) (k__law_seeds : PySem.W.keepIn K (.ref f__law_seeds) = true)
    (a__law_letters : PySem.W.nsIn K mainGlobals "_law_letters" = some (some (.ref f__law_letters))) (l__law_letters : K.lookup f__law_letters = some ⟨oc__law_letters, od__law_letters, .func (PySem.W.fnOf "_law_letters" "_law_letters" (defArgs sLet) (defBody sLet) (defScope sLet) .none kV__law_letters dc__law_letters pm__law_letters an__law_letters cd__law_letters ct__law_letters), sl__law_letters⟩) (c__law_letters : PySem.W.codeIn K cd__law_letters "_law_letters" = true) (k__law_letters : PySem.W.keepIn K (.ref f__law_letters) = true)
    (a__law_plain : PySem.W.nsIn K mainGlobals "_law_plain" = some (some (.ref f__law_plain))) (l__law_plain : K.lookup f__law_plain = some ⟨oc__law_plain, od__law_plain, .func (PySem.W.fnOf "_law_plain" "_law_plain" (defArgs sPlain) (defBody sPlain) (defScope sPlain) .none kV__law_plain dc__law_plain pm__law_plain an__law_plain cd__law_plain ct__law_plain), sl__law_plain⟩) (c__law_plain : PySem.W.codeIn K cd__law_plain "_law_plain" = true) (k__law_plain : PySem.W.keepIn K (.ref f__law_plain) = true)
    (a__law_name : PySem.W.nsIn K mainGlobals "_law_name" = some (some (.ref f__law_name))) (l__law_name : K.lookup f__law_name = some ⟨oc__law_name, od__law_name, .func (PySem.W.fnOf "_law_name" "_law_name" (defArgs sNm) (defBody sNm) (defScope sNm) .none kV__law_name dc__law_name pm__law_name an__law_name cd__law_name ct__law_name), sl__law_name⟩) (c__law_name : PySem.W.codeIn K cd__law_name "_law_name" = true) (k__law_name : PySem.W.keepIn K (.ref f__law_name) = true)
    (a__law_names : PySem.W.nsIn K mainGlobals "_law_names" = some (some (.ref f__law_names))) (l__law_names : K.lookup f__law_names = some ⟨oc__law_names, od__law_names, .func (PySem.W.fnOf "_law_names" "_law_names" (defArgs sNms) (defBody sNms) (defScope sNms) .none kV__law_names dc__law_names pm__law_names an__law_names cd__law_names ct__law_names), sl__law_names⟩) (c__law_names : PySem.W.codeIn K cd__law_names "_law_names" = true) (k__law_names : PySem.W.keepIn K (.ref f__law_names) = true)
    (a__law_number : PySem.W.nsIn K mainGlobals "_law_number" = some (some (.ref f__law_number))) (l__law_number : K.lookup f__law_number = some ⟨oc__law_number, od__law_number, .func (PySem.W.fnOf "_law_number" "_law_number" (defArgs sNo) (defBody sNo) (defScope sNo) .none kV__law_number dc__law_number pm__law_number an__law_number cd__law_number ct__law_number), sl__law_number⟩) (c__law_number : PySem.W.codeIn K cd__law_number "_law_number" = true) (k__law_number : PySem.W.keepIn K (.ref f__law_number) = true)
    (a__law_text : PySem.W.nsIn K mainGlobals "_law_text" = some (some (.ref f__law_text))) (l__law_text : K.lookup f__law_text = some ⟨oc__law_text, od__law_text, .func (PySem.W.fnOf "_law_text" "_law_text" (defArgs sTx) (defBody sTx) (defScope sTx) .none kV__law_text dc__law_text pm__law_text an__law_text cd__law_text ct__law_text), sl__law_text⟩) (c__law_text : PySem.W.codeIn K cd__law_text "_law_text" = true) (k__law_text : PySem.W.keepIn K (.ref f__law_text) = true)
    (a__law_span : PySem.W.nsIn K mainGlobals "_law_span" = some (some (.ref f__law_span))) (l__law_span : K.lookup f__law_span = some ⟨oc__law_span, od__law_span, .func (PySem.W.fnOf "_law_span" "_law_span" (defArgs sSpn) (defBody sSpn) (defScope sSpn) .none kV__law_span dc__law_span pm__law_span an__law_span cd__law_span ct__law_span), sl__law_span⟩) (c__law_span : PySem.W.codeIn K cd__law_span "_law_span" = true) (k__law_span : PySem.W.keepIn K (.ref f__law_span) = true)
    (a__law_leaf : PySem.W.nsIn K mainGlobals "_law_leaf" = some (some (.ref f__law_leaf))) (l__law_leaf : K.lookup f__law_leaf = some ⟨oc__law_leaf, od__law_leaf, .func (PySem.W.fnOf "_law_leaf" "_law_leaf" (defArgs sLf) (defBody sLf) (defScope sLf) .none kV__law_leaf dc__law_leaf pm__law_leaf an__law_leaf cd__law_leaf ct__law_leaf), sl__law_leaf⟩) (c__law_leaf : PySem.W.codeIn K cd__law_leaf "_law_leaf" = true) (k__law_leaf : PySem.W.keepIn K (.ref f__law_leaf) = true)
    (a__law_count : PySem.W.nsIn K mainGlobals "_law_count" = some (some (.ref f__law_count))) (l__law_count : K.lookup f__law_count = some ⟨oc__law_count, od__law_count, .func (PySem.W.fnOf "_law_count" "_law_count" (defArgs sCnt) (defBody sCnt) (defScope sCnt) .none kV__law_count dc__law_count pm__law_count an__law_count cd__law_count ct__law_count), sl__law_count⟩) (c__law_count : PySem.W.codeIn K cd__law_count "_law_count" = true) (k__law_count : PySem.W.keepIn K (.ref f__law_count) = true)
    (a__law_tree : PySem.W.nsIn K mainGlobals "_law_tree" = some (some (.ref f__law_tree))) (l__law_tree : K.lookup f__law_tree = some ⟨oc__law_tree, od__law_tree, .func (PySem.W.fnOf "_law_tree" "_law_tree" (defArgs sTree) (defBody sTree) (defScope sTree) .none kV__law_tree dc__law_tree pm__law_tree an__law_tree cd__law_tree ct__law_tree), sl__law_tree⟩) (c__law_tree : PySem.W.codeIn K cd__law_tree "_law_tree" = true) (k__law_tree : PySem.W.keepIn K (.ref f__law_tree) = true)
    (a__law_braced : PySem.W.nsIn K mainGlobals "_law_braced" = some (some (.ref f__law_braced))) (l__law_braced : K.lookup f__law_braced = some ⟨oc__law_braced, od__law_braced, .func (PySem.W.fnOf "_law_braced" "_law_braced" (defArgs sBr) (defBody sBr) (defScope sBr) .none kV__law_braced dc__law_braced pm__law_braced an__law_braced cd__law_braced ct__law_braced), sl__law_braced⟩) (c__law_braced : PySem.W.codeIn K cd__law_braced "_law_braced" = true) (k__law_braced : PySem.W.keepIn K (.ref f__law_braced) = true)
    (a__law_tied : PySem.W.nsIn K mainGlobals "_law_tied" = some (some (.ref f__law_tied))) (l__law_tied : K.lookup f__law_tied = some ⟨oc__law_tied, od__law_tied, .func (PySem.W.fnOf "_law_tied" "_law_tied" (defArgs sTd) (defBody sTd) (defScope sTd) .none kV__law_tied dc__law_tied pm__law_tied an__law_tied cd__law_tied ct__law_tied), sl__law_tied⟩) (c__law_tied : PySem.W.codeIn K cd__law_tied "_law_tied" = true) (k__law_tied : PySem.W.keepIn K (.ref f__law_tied) = true)
    (a__law_words : PySem.W.nsIn K mainGlobals "_law_words" = some (some (.ref f__law_words))) (l__law_words : K.lookup f__law_words = some ⟨oc__law_words, od__law_words, .func (PySem.W.fnOf "_law_words" "_law_words" (defArgs sWs) (defBody sWs) (defScope sWs) .none kV__law_words dc__law_words pm__law_words an__law_words cd__law_words ct__law_words), sl__law_words⟩) (c__law_words : PySem.W.codeIn K cd__law_words "_law_words" = true) (k__law_words : PySem.W.keepIn K (.ref f__law_words) = true)
    (a__law_same : PySem.W.nsIn K mainGlobals "_law_same" = some (some (.ref f__law_same))) (l__law_same : K.lookup f__law_same = some ⟨oc__law_same, od__law_same, .func (PySem.W.fnOf "_law_same" "_law_same" (defArgs sSame) (defBody sSame) (defScope sSame) .none kV__law_same dc__law_same pm__law_same an__law_same cd__law_same ct__law_same), sl__law_same⟩) (c__law_same : PySem.W.codeIn K cd__law_same "_law_same" = true) (k__law_same : PySem.W.keepIn K (.ref f__law_same) = true)
    (a__law_span_words : PySem.W.nsIn K mainGlobals "_law_span_words" = some (some (.ref f__law_span_words))) (l__law_span_words : K.lookup f__law_span_words = some ⟨oc__law_span_words, od__law_span_words, .func (PySem.W.fnOf "_law_span_words" "_law_span_words" (defArgs sSpw) (defBody sSpw) (defScope sSpw) .none kV__law_span_words dc__law_span_words pm__law_span_words an__law_span_words cd__law_span_words ct__law_span_words), sl__law_span_words⟩) (c__law_span_words : PySem.W.codeIn K cd__law_span_words "_law_span_words" = true) (k__law_span_words : PySem.W.keepIn K (.ref f__law_span_words) = true)
    (a__law_items_words : PySem.W.nsIn K mainGlobals "_law_items_words" = some (some (.ref f__law_items_words))) (l__law_items_words : K.lookup f__law_items_words = some ⟨oc__law_items_words, od__law_items_words, .func (PySem.W.fnOf "_law_items_words" "_law_items_words" (defArgs sItw) (defBody sItw) (defScope sItw) .none kV__law_items_words dc__law_items_words pm__law_items_words an__law_items_words cd__law_items_words ct__law_items_words), sl__law_items_words⟩) (c__law_items_words : PySem.W.codeIn K cd__law_items_words "_law_items_words" = true) (k__law_items_words : PySem.W.keepIn K (.ref f__law_items_words) = true)
    (a__law_path_words : PySem.W.nsIn K mainGlobals "_law_path_words" = some (some (.ref f__law_path_words))) (l__law_path_words : K.lookup f__law_path_words = some ⟨oc__law_path_words, od__law_path_words, .func (PySem.W.fnOf "_law_path_words" "_law_path_words" (defArgs sPtw) (defBody sPtw) (defScope sPtw) .none kV__law_path_words dc__law_path_words pm__law_path_words an__law_path_words cd__law_path_words ct__law_path_words), sl__law_path_words⟩) (c__law_path_words : PySem.W.codeIn K cd__law_path_words "_law_path_words" = true) (k__law_path_words : PySem.W.keepIn K (.ref f__law_path_words) = true)
    (a__law_line : PySem.W.nsIn K mainGlobals "_law_line" = some (some (.ref f__law_line))) (l__law_line : K.lookup f__law_line = some ⟨oc__law_line, od__law_line, .func (PySem.W.fnOf "_law_line" "_law_line" (defArgs sLine) (defBody sLine) (defScope sLine) .none kV__law_line dc__law_line pm__law_line an__law_line cd__law_line ct__law_line), sl__law_line⟩) (c__law_line : PySem.W.codeIn K cd__law_line "_law_line" = true) (k__law_line : PySem.W.keepIn K (.ref f__law_line) = true)
    (a_law : PySem.W.nsIn K mainGlobals "law" = some (some (.ref f_law))) (l_law : K.lookup f_law = some ⟨oc_law, od_law, .func (PySem.W.fnOf "law" "law" (defArgs sLaw) (defBody sLaw) (defScope sLaw) .none kV_law dc_law pm_law an_law cd_law ct_law), sl_law⟩) (c_law : PySem.W.codeIn K cd_law "law" = true) (k_law : PySem.W.keepIn K (.ref f_law) = true)
    (z_all : PySem.W.nsIn K mainGlobals "all" = some none)
    (z_bool : PySem.W.nsIn K mainGlobals "bool" = some none)
    (z_enumerate : PySem.W.nsIn K mainGlobals "enumerate" = some none)
    (z_int : PySem.W.nsIn K mainGlobals "int" = some none)
    (z_isinstance : PySem.W.nsIn K mainGlobals "isinstance" = some none)
    (z_len : PySem.W.nsIn K mainGlobals "len" = some none)
    (z_max : PySem.W.nsIn K mainGlobals "max" = some none)
    (z_ord : PySem.W.nsIn K mainGlobals "ord" = some none)
    (z_range : PySem.W.nsIn K mainGlobals "range" = some none)
    (z_str : PySem.W.nsIn K mainGlobals "str" = some none)
    (z_tuple : PySem.W.nsIn K mainGlobals "tuple" = some none)
    (a_NO : PySem.W.nsIn K mainGlobals "NO_SIGNS" = some (some (.ref gt))) (l_NO : K.lookup gt = some ⟨.type "tuple", dN, .seq #[.int 34 tA, .int 37 tB] nN, slN⟩)
    (gNT : PySem.W.nsIn K mainGlobals "NoText" = some (some (.ref cC))) (gRD : PySem.W.nsIn K mainGlobals "Reader" = some (some (.ref cR))) (gMF : PySem.W.nsIn K mainGlobals "MOST_FIGURES" = some (some (.int 60 tM))) (gSS : PySem.W.nsIn K mainGlobals "SINGLE_SIGNS" = some (some (.str (Str.ofString "{}[](),:?&|!@.") tS))) (gPW : PySem.W.nsIn K mainGlobals "PLAIN_WORDS" = some (some (.ref gp))) (lPW : K.lookup gp = some ⟨.type "tuple", dP, .seq #[.str (Str.ofString "none") p0, .str (Str.ofString "yes") p1, .str (Str.ofString "no") p2, .str (Str.ofString "truth") p3, .str (Str.ofString "number") p4, .str (Str.ofString "text") p5, .str (Str.ofString "list") p6, .str (Str.ofString "record") p7, .str (Str.ofString "any") p8, .str (Str.ofString "nothing") p9] nP, slP⟩) (x1cC : PySem.W.excIn K cC [.type "ValueError", .type "Exception", .type "BaseException", .type "object"] "ValueError.__new__" = true) (x2cC : PySem.W.findIn K (.ref cC) "__getattribute__" = some (some (.builtin "BaseException.__getattribute__"))) (x3cC : PySem.W.findIn K (.ref cC) "__getattr__" = some none) (x4cC : PySem.W.findIn K (.ref cC) "__class__" = some (some (.builtin "object.__class__"))) (x5cC : PySem.W.mroIn K cC (.type "object") = some true) (x6cC : PySem.W.mroIn K cC (.type "BaseException") = some true) (y1 : PySem.W.plainGet K cR Str.empty = true) (y2 : PySem.W.hasDictIn K cR = true) (y3 : PySem.W.plainOver K cR = true) (y4 : PySem.W.findIn K (.ref cR) "__setattr__" = some (some (.builtin "object.__setattr__"))) (y5 : PySem.W.findIn K (.ref cR) "words" = some none) (y6 : PySem.W.findIn K (.ref cR) "taken" = some none) (y7 : PySem.W.makesIn K cR = true) (y8 : PySem.W.keepIn K (.ref cR) = true) (a_init : PySem.W.findIn K (.ref cR) "__init__" = some (some (.ref f_init))) (l_init : K.lookup f_init = some ⟨oc_init, od_init, .func (PySem.W.fnOf "__init__" "Reader.__init__" (defArgs sInit) (defBody sInit) (defScope sInit) .none kV_init dc_init pm_init an_init cd_init ct_init), sl_init⟩) (c_init : PySem.W.codeIn K cd_init "Reader.__init__" = true) (k_init : PySem.W.keepIn K (.ref f_init) = true) (i_init : PySem.W.isFn K (.ref f_init) = true) (a_ahead : PySem.W.findIn K (.ref cR) "ahead" = some (some (.ref f_ahead))) (l_ahead : K.lookup f_ahead = some ⟨oc_ahead, od_ahead, .func (PySem.W.fnOf "ahead" "Reader.ahead" (defArgs sAhead) (defBody sAhead) (defScope sAhead) .none kV_ahead dc_ahead pm_ahead an_ahead cd_ahead ct_ahead), sl_ahead⟩) (c_ahead : PySem.W.codeIn K cd_ahead "Reader.ahead" = true) (k_ahead : PySem.W.keepIn K (.ref f_ahead) = true) (i_ahead : PySem.W.isFn K (.ref f_ahead) = true) (a_take : PySem.W.findIn K (.ref cR) "take" = some (some (.ref f_take))) (l_take : K.lookup f_take = some ⟨oc_take, od_take, .func (PySem.W.fnOf "take" "Reader.take" (defArgs sTake) (defBody sTake) (defScope sTake) .none kV_take dc_take pm_take an_take cd_take ct_take), sl_take⟩) (c_take : PySem.W.codeIn K cd_take "Reader.take" = true) (k_take : PySem.W.keepIn K (.ref f_take) = true) (i_take : PySem.W.isFn K (.ref f_take) = true) (a_takes : PySem.W.findIn K (.ref cR) "takes" = some (some (.ref f_takes))) (l_takes : K.lookup f_takes = some ⟨oc_takes, od_takes, .func (PySem.W.fnOf "takes" "Reader.takes" (defArgs sTakes) (defBody sTakes) (defScope sTakes) .none kV_takes dc_takes pm_takes an_takes cd_takes ct_takes), sl_takes⟩) (c_takes : PySem.W.codeIn K cd_takes "Reader.takes" = true) (k_takes : PySem.W.keepIn K (.ref f_takes) = true) (i_takes : PySem.W.isFn K (.ref f_takes) = true) (a_must : PySem.W.findIn K (.ref cR) "must_take" = some (some (.ref f_must))) (l_must : K.lookup f_must = some ⟨oc_must, od_must, .func (PySem.W.fnOf "must_take" "Reader.must_take" (defArgs sMust) (defBody sMust) (defScope sMust) .none kV_must dc_must pm_must an_must cd_must ct_must), sl_must⟩) (c_must : PySem.W.codeIn K cd_must "Reader.must_take" = true) (k_must : PySem.W.keepIn K (.ref f_must) = true) (i_must : PySem.W.isFn K (.ref f_must) = true) :
    ∃ fd : FuncData, (∀ (s : Shared) (v : Value), BindsTo s fd ⟨[v], []⟩ [("_law_script", v)]) ∧ ∀ base : Heap, K.In base → base.Ns mainGlobals mg → FnOk l.prog w K mg base CX0 44 fa fd ["_law_script"] (spLaw K) := by
  have e := hfa.symm.trans (PySem.W.mg_of X G a_law)
  cases e
  have F_is_name := fun_mk (st := sName) l_is_name c_is_name k_is_name
  have F_is_sign := fun_mk (st := sSign) l_is_sign c_is_sign k_is_sign
  have F_is_letter := fun_mk (st := sLetter) l_is_letter c_is_letter k_is_letter
  have F_is_figure := fun_mk (st := sFigure) l_is_figure c_is_figure k_is_figure
  have F_run_end := fun_mk (st := sRun) l_run_end c_run_end k_run_end
  have F_number_at := fun_mk (st := sNum) l_number_at c_number_at k_number_at
  have F_quoted_at := fun_mk (st := sQuo) l_quoted_at c_quoted_at k_quoted_at
  have F_word_at := fun_mk (st := sWord) l_word_at c_word_at k_word_at
  have F_words_of := fun_mk (st := sWords) l_words_of c_words_of k_words_of
  have F_is_number := fun_mk (st := sIsNo) l_is_number c_is_number k_is_number
  have F_name_of := fun_mk (st := sNameOf) l_name_of c_name_of k_name_of
  have F_names_of := fun_mk (st := sNamesOf) l_names_of c_names_of k_names_of
  have F_has_another := fun_mk (st := sHas) l_has_another c_has_another k_has_another
  have F_takes_end := fun_mk (st := sEndT) l_takes_end c_takes_end k_takes_end
  have F_span_tree := fun_mk (st := sSpanT) l_span_tree c_span_tree k_span_tree
  have F_one_or_several := fun_mk (st := sOne) l_one_or_several c_one_or_several k_one_or_several
  have F_expression := fun_mk (st := sExpr) l_expression c_expression k_expression
  have F_negated := fun_mk (st := sNegd) l_negated c_negated k_negated
  have F_single := fun_mk (st := sSingle) l_single c_single k_single
  have F_list_tree := fun_mk (st := sListT) l_list_tree c_list_tree k_list_tree
  have F_record_tree := fun_mk (st := sRecT) l_record_tree c_record_tree k_record_tree
  have F_field_of := fun_mk (st := sField) l_field_of c_field_of k_field_of
  have F_read := fun_mk (st := sRead) l_read c_read k_read
  have F__law_next := fun_mk (st := sNext) l__law_next c__law_next k__law_next
  have F__law_seeds := fun_mk (st := sSeeds) l__law_seeds c__law_seeds k__law_seeds
  have F__law_letters := fun_mk (st := sLet) l__law_letters c__law_letters k__law_letters
  have F__law_plain := fun_mk (st := sPlain) l__law_plain c__law_plain k__law_plain
  have F__law_name := fun_mk (st := sNm) l__law_name c__law_name k__law_name
  have F__law_names := fun_mk (st := sNms) l__law_names c__law_names k__law_names
  have F__law_number := fun_mk (st := sNo) l__law_number c__law_number k__law_number
  have F__law_text := fun_mk (st := sTx) l__law_text c__law_text k__law_text
  have F__law_span := fun_mk (st := sSpn) l__law_span c__law_span k__law_span
  have F__law_leaf := fun_mk (st := sLf) l__law_leaf c__law_leaf k__law_leaf
  have F__law_count := fun_mk (st := sCnt) l__law_count c__law_count k__law_count
  have F__law_tree := fun_mk (st := sTree) l__law_tree c__law_tree k__law_tree
  have F__law_braced := fun_mk (st := sBr) l__law_braced c__law_braced k__law_braced
  have F__law_tied := fun_mk (st := sTd) l__law_tied c__law_tied k__law_tied
  have F__law_words := fun_mk (st := sWs) l__law_words c__law_words k__law_words
  have F__law_same := fun_mk (st := sSame) l__law_same c__law_same k__law_same
  have F__law_span_words := fun_mk (st := sSpw) l__law_span_words c__law_span_words k__law_span_words
  have F__law_items_words := fun_mk (st := sItw) l__law_items_words c__law_items_words k__law_items_words
  have F__law_path_words := fun_mk (st := sPtw) l__law_path_words c__law_path_words k__law_path_words
  have F__law_line := fun_mk (st := sLine) l__law_line c__law_line k__law_line
  have F_law := fun_mk (st := sLaw) l_law c_law k_law
  have b_is_name := F_is_name.binds (ps := ["word"]) fun _ _ _ _ _ _ us hl => match us, hl with | [_], _ => rfl
  have b_is_sign := F_is_sign.binds (ps := ["letter"]) fun _ _ _ _ _ _ us hl => match us, hl with | [_], _ => rfl
  have b_is_letter := F_is_letter.binds (ps := ["sign"]) fun _ _ _ _ _ _ us hl => match us, hl with | [_], _ => rfl
  have b_is_figure := F_is_figure.binds (ps := ["sign"]) fun _ _ _ _ _ _ us hl => match us, hl with | [_], _ => rfl
  have b_run_end := F_run_end.binds (ps := ["text", "place", "fits"]) fun _ _ _ _ _ _ us hl => match us, hl with | [_, _, _], _ => rfl
  have b_number_at := F_number_at.binds (ps := ["text", "place"]) fun _ _ _ _ _ _ us hl => match us, hl with | [_, _], _ => rfl
  have b_quoted_at := F_quoted_at.binds (ps := ["text", "place"]) fun _ _ _ _ _ _ us hl => match us, hl with | [_, _], _ => rfl
  have b_word_at := F_word_at.binds (ps := ["text", "place"]) fun _ _ _ _ _ _ us hl => match us, hl with | [_, _], _ => rfl
  have b_words_of := F_words_of.binds (ps := ["text"]) fun _ _ _ _ _ _ us hl => match us, hl with | [_], _ => rfl
  have b_is_number := F_is_number.binds (ps := ["word"]) fun _ _ _ _ _ _ us hl => match us, hl with | [_], _ => rfl
  have b_name_of := F_name_of.binds (ps := ["reader"]) fun _ _ _ _ _ _ us hl => match us, hl with | [_], _ => rfl
  have b_names_of := F_names_of.binds (ps := ["reader"]) fun _ _ _ _ _ _ us hl => match us, hl with | [_], _ => rfl
  have b_has_another := F_has_another.binds (ps := ["reader", "close", "count"]) fun _ _ _ _ _ _ us hl => match us, hl with | [_, _, _], _ => rfl
  have b_takes_end := F_takes_end.binds (ps := ["reader", "close"]) fun _ _ _ _ _ _ us hl => match us, hl with | [_, _], _ => rfl
  have b_span_tree := F_span_tree.binds (ps := ["reader", "low"]) fun _ _ _ _ _ _ us hl => match us, hl with | [_, _], _ => rfl
  have b_one_or_several := F_one_or_several.binds (ps := ["word", "trees"]) fun _ _ _ _ _ _ us hl => match us, hl with | [_, _], _ => rfl
  have b_expression := F_expression.binds (ps := ["reader", "free"]) fun _ _ _ _ _ _ us hl => match us, hl with | [_, _], _ => rfl
  have b_negated := F_negated.binds (ps := ["reader", "free"]) fun _ _ _ _ _ _ us hl => match us, hl with | [_, _], _ => rfl
  have b_single := F_single.binds (ps := ["reader", "free"]) fun _ _ _ _ _ _ us hl => match us, hl with | [_, _], _ => rfl
  have b_list_tree := F_list_tree.binds (ps := ["reader"]) fun _ _ _ _ _ _ us hl => match us, hl with | [_], _ => rfl
  have b_record_tree := F_record_tree.binds (ps := ["reader"]) fun _ _ _ _ _ _ us hl => match us, hl with | [_], _ => rfl
  have b_field_of := F_field_of.binds (ps := ["reader"]) fun _ _ _ _ _ _ us hl => match us, hl with | [_], _ => rfl
  have b_read := F_read.binds (ps := ["text"]) fun _ _ _ _ _ _ us hl => match us, hl with | [_], _ => rfl
  have b__law_next := F__law_next.binds (ps := ["_law_state", "_law_many"]) fun _ _ _ _ _ _ us hl => match us, hl with | [_, _], _ => rfl
  have b__law_seeds := F__law_seeds.binds (ps := ["_law_script", "_law_many"]) fun _ _ _ _ _ _ us hl => match us, hl with | [_, _], _ => rfl
  have b__law_letters := F__law_letters.binds (ps := ["_law_state", "_law_many", "_law_span_here"]) fun _ _ _ _ _ _ us hl => match us, hl with | [_, _, _], _ => rfl
  have b__law_plain := F__law_plain.binds (ps := []) fun _ _ _ _ _ _ us hl => match us, hl with | [], _ => rfl
  have b__law_name := F__law_name.binds (ps := ["_law_state"]) fun _ _ _ _ _ _ us hl => match us, hl with | [_], _ => rfl
  have b__law_names := F__law_names.binds (ps := ["_law_state", "_law_many"]) fun _ _ _ _ _ _ us hl => match us, hl with | [_, _], _ => rfl
  have b__law_number := F__law_number.binds (ps := ["_law_state"]) fun _ _ _ _ _ _ us hl => match us, hl with | [_], _ => rfl
  have b__law_text := F__law_text.binds (ps := ["_law_state"]) fun _ _ _ _ _ _ us hl => match us, hl with | [_], _ => rfl
  have b__law_span := F__law_span.binds (ps := ["_law_state"]) fun _ _ _ _ _ _ us hl => match us, hl with | [_], _ => rfl
  have b__law_leaf := F__law_leaf.binds (ps := ["_law_state"]) fun _ _ _ _ _ _ us hl => match us, hl with | [_], _ => rfl
  have b__law_count := F__law_count.binds (ps := ["_law_state", "_law_deep", "_law_many"]) fun _ _ _ _ _ _ us hl => match us, hl with | [_, _, _], _ => rfl
  have b__law_tree := F__law_tree.binds (ps := ["_law_state", "_law_deep", "_law_places"]) fun _ _ _ _ _ _ us hl => match us, hl with | [_, _, _], _ => rfl
  have b__law_braced := F__law_braced.binds (ps := ["_law_tree_here", "_law_tying", "_law_state"]) fun _ _ _ _ _ _ us hl => match us, hl with | [_, _, _], _ => rfl
  have b__law_tied := F__law_tied.binds (ps := ["_law_sign", "_law_trees", "_law_tying", "_law_state"]) fun _ _ _ _ _ _ us hl => match us, hl with | [_, _, _, _], _ => rfl
  have b__law_words := F__law_words.binds (ps := ["_law_tree_here", "_law_state"]) fun _ _ _ _ _ _ us hl => match us, hl with | [_, _], _ => rfl
  have b__law_same := F__law_same.binds (ps := ["_law_found", "_law_due"]) fun _ _ _ _ _ _ us hl => match us, hl with | [_, _], _ => rfl
  have b__law_span_words := F__law_span_words.binds (ps := ["_law_tree_here", "_law_state"]) fun _ _ _ _ _ _ us hl => match us, hl with | [_, _], _ => rfl
  have b__law_items_words := F__law_items_words.binds (ps := ["_law_rows", "_law_more"]) fun _ _ _ _ _ _ us hl => match us, hl with | [_, _], _ => rfl
  have b__law_path_words := F__law_path_words.binds (ps := ["_law_path"]) fun _ _ _ _ _ _ us hl => match us, hl with | [_], _ => rfl
  have b__law_line := F__law_line.binds (ps := ["_law_words_here", "_law_state"]) fun _ _ _ _ _ _ us hl => match us, hl with | [_, _], _ => rfl
  have m_all := PySem.W.mg_none_of X G z_all
  have m_bool := PySem.W.mg_none_of X G z_bool
  have m_enumerate := PySem.W.mg_none_of X G z_enumerate
  have m_int := PySem.W.mg_none_of X G z_int
  have m_isinstance := PySem.W.mg_none_of X G z_isinstance
  have m_len := PySem.W.mg_none_of X G z_len
  have m_max := PySem.W.mg_none_of X G z_max
  have m_ord := PySem.W.mg_none_of X G z_ord
  have m_range := PySem.W.mg_none_of X G z_range
  have m_str := PySem.W.mg_none_of X G z_str
  have m_tuple := PySem.W.mg_none_of X G z_tuple
  have G_no := PySem.W.mg_of X G a_NO
  have K_no : ∀ H : Hp, SqT K H gt [.int 34, .int 37] := fun H => .inr ⟨_, #[.int 34 tA, .int 37 tB], nN, l_NO, rfl, rfl, (by show 2 ≤ sizeLine; decide), .cons ⟨tA, rfl⟩ (.cons ⟨tB, rfl⟩ .nil)⟩
  have hNT : NT K mg cC := ⟨⟨x1cC, x2cC, x3cC, x4cC, x5cC, x6cC⟩, PySem.W.mg_of X G gNT⟩
  have G_most := PySem.W.mg_of X G gMF
  have G_sing := PySem.W.mg_of X G gSS
  have G_reader := PySem.W.mg_of X G gRD
  have G_plain := PySem.W.mg_of X G gPW
  have hRK : RK K cR := ⟨⟨y1, y2, y3, y4⟩, y5, y6⟩
  have hMk : Mk K cR f_init := ⟨y7, a_init, i_init, y8⟩
  have K_plain : ∀ H : Hp, SqT K H gp (ST plainW) := fun H => by
    rw [← litPlain]
    exact .inr ⟨_, #[.str (Str.ofString "none") p0, .str (Str.ofString "yes") p1, .str (Str.ofString "no") p2, .str (Str.ofString "truth") p3, .str (Str.ofString "number") p4, .str (Str.ofString "text") p5, .str (Str.ofString "list") p6, .str (Str.ofString "record") p7, .str (Str.ofString "any") p8, .str (Str.ofString "nothing") p9], nP, lPW, rfl, rfl, (by show 10 ≤ sizeLine; decide), .cons ⟨p0, rfl⟩ (.cons ⟨p1, rfl⟩ (.cons ⟨p2, rfl⟩ (.cons ⟨p3, rfl⟩ (.cons ⟨p4, rfl⟩ (.cons ⟨p5, rfl⟩ (.cons ⟨p6, rfl⟩ (.cons ⟨p7, rfl⟩ (.cons ⟨p8, rfl⟩ (.cons ⟨p9, rfl⟩ .nil)))))))))⟩
  have F_init := fun_mk (st := sInit) l_init c_init k_init
  have b_init := F_init.binds (ps := ["self", "text"]) fun _ _ _ _ _ _ us hl => match us, hl with | [_, _], _ => rfl
  have F_ahead := fun_mk (st := sAhead) l_ahead c_ahead k_ahead
  have b_ahead := F_ahead.binds (ps := ["self", "steps"]) fun _ _ _ _ _ _ us hl => match us, hl with | [_, _], _ => rfl
  have F_take := fun_mk (st := sTake) l_take c_take k_take
  have b_take := F_take.binds (ps := ["self"]) fun _ _ _ _ _ _ us hl => match us, hl with | [_], _ => rfl
  have F_takes := fun_mk (st := sTakes) l_takes c_takes k_takes
  have b_takes := F_takes.binds (ps := ["self", "word"]) fun _ _ _ _ _ _ us hl => match us, hl with | [_, _], _ => rfl
  have F_must := fun_mk (st := sMust) l_must c_must k_must
  have b_must := F_must.binds (ps := ["self", "word"]) fun _ _ _ _ _ _ us hl => match us, hl with | [_, _], _ => rfl
  refine ⟨PySem.W.fnOf "law" "law" (defArgs sLaw) (defBody sLaw) (defScope sLaw) .none kV_law dc_law pm_law an_law cd_law ct_law, fun s v => .of_eq rfl, fun base _ _ => ?_⟩
  have C_is_name : Cal l.prog w K mg base 1 "is_name" ["word"] spName := ⟨_, _, ok_name F_is_name m_isinstance m_str m_all m_len, PySem.W.mg_of X G a_is_name, k_is_name, b_is_name⟩
  have C_is_sign : Cal l.prog w K mg base 1 "is_sign" ["letter"] (fun vs H Q _ => spFit sgB vs H Q) := ⟨_, _, ok_sign F_is_sign m_ord G_no K_no, PySem.W.mg_of X G a_is_sign, k_is_sign, b_is_sign⟩
  have C_is_letter : Cal l.prog w K mg base 1 "is_letter" ["sign"] (fun vs H Q _ => spFit isL vs H Q) := ⟨_, _, ok_letter F_is_letter, PySem.W.mg_of X G a_is_letter, k_is_letter, b_is_letter⟩
  have C_is_figure : Cal l.prog w K mg base 1 "is_figure" ["sign"] (fun vs H Q _ => spFit isF vs H Q) := ⟨_, _, ok_figure F_is_figure, PySem.W.mg_of X G a_is_figure, k_is_figure, b_is_figure⟩
  have C_run_end : Cal l.prog w K mg base 2 "run_end" ["text", "place", "fits"] (spRun l.prog w K mg base) := ⟨_, _, ok_run F_run_end m_len, PySem.W.mg_of X G a_run_end, k_run_end, b_run_end⟩
  obtain ⟨vfig, V_fig⟩ := FnV_of C_is_figure
  obtain ⟨vsig, V_sig⟩ := FnV_of C_is_sign
  have C_number_at : Cal1 l.prog w K mg base 3 "number_at" ["text", "place"] (spAt numAt cC) := ⟨_, _, ok_num F_number_at C_run_end hNT V_fig.1 V_fig.2 G_most m_len, PySem.W.mg_of X G a_number_at, k_number_at, b_number_at⟩
  have C_quoted_at : Cal1 l.prog w K mg base 3 "quoted_at" ["text", "place"] (spAt quoAt cC) := ⟨_, _, ok_quo F_quoted_at C_run_end hNT V_sig.1 V_sig.2, PySem.W.mg_of X G a_quoted_at, k_quoted_at, b_quoted_at⟩
  have C_word_at : Cal1 l.prog w K mg base 4 "word_at" ["text", "place"] (spAt wordAt cC) := ⟨_, _, ok_word F_word_at C_run_end C_is_letter C_is_figure C_number_at C_quoted_at hNT G_sing, PySem.W.mg_of X G a_word_at, k_word_at, b_word_at⟩
  have C_words_of : Cal1 l.prog w K mg base 5 "words_of" ["text"] (spWords K cC) := ⟨_, _, ok_words F_words_of C_word_at hNT m_len m_isinstance m_str, PySem.W.mg_of X G a_words_of, k_words_of, b_words_of⟩
  have C_is_number : Cal l.prog w K mg base 2 "is_number" ["word"] spIsNo := ⟨_, _, ok_isno F_is_number C_is_figure, PySem.W.mg_of X G a_is_number, k_is_number, b_is_number⟩
  have M_ahead : Mth l.prog w K mg base CX0 cR 1 "ahead" ["self", "steps"] (spAhead cR) := ⟨_, _, ok_ahead F_ahead hRK m_len, ⟨a_ahead, i_ahead, k_ahead⟩, b_ahead⟩
  have M_take : Mth l.prog w K mg base CX0 cR 2 "take" ["self"] (spTake cR) := ⟨_, _, ok_take F_take hRK M_ahead, ⟨a_take, i_take, k_take⟩, b_take⟩
  have M_takes : Mth l.prog w K mg base CX0 cR 2 "takes" ["self", "word"] (spTakes cR) := ⟨_, _, ok_takes F_takes hRK M_ahead, ⟨a_takes, i_takes, k_takes⟩, b_takes⟩
  have M_must : Mth l.prog w K mg base (CX1 l.prog w) cR 3 "must_take" ["self", "word"] (spMust cR cC) := ⟨_, _, ok_must F_must hRK hNT M_take, ⟨a_must, i_must, k_must⟩, b_must⟩
  have C_name_of : Cal1 l.prog w K mg base 3 "name_of" ["reader"] (spNameOf cR cC) := ⟨_, _, ok_nameof F_name_of hRK hNT M_take C_is_name, PySem.W.mg_of X G a_name_of, k_name_of, b_name_of⟩
  have C_names_of : Cal1 l.prog w K mg base 4 "names_of" ["reader"] (spNamesOf K cR cC) := ⟨_, _, ok_namesof F_names_of hRK C_name_of M_takes m_tuple, PySem.W.mg_of X G a_names_of, k_names_of, b_names_of⟩
  have C_has_another : Cal1 l.prog w K mg base 4 "has_another" ["reader", "close", "count"] (spHas cR cC) := ⟨_, _, ok_has F_has_another hRK M_ahead M_must, PySem.W.mg_of X G a_has_another, k_has_another, b_has_another⟩
  have C_takes_end : Cal1 l.prog w K mg base 4 "takes_end" ["reader", "close"] (spEndT cR cC) := ⟨_, _, ok_endt F_takes_end hRK M_takes M_must, PySem.W.mg_of X G a_takes_end, k_takes_end, b_takes_end⟩
  have C_span_tree : Cal l.prog w K mg base 3 "span_tree" ["reader", "low"] (spSpanT K cR) := ⟨_, _, ok_spant F_span_tree hRK M_takes M_take M_ahead C_is_number m_int, PySem.W.mg_of X G a_span_tree, k_span_tree, b_span_tree⟩
  have C_one_or_several : Cal l.prog w K mg base 1 "one_or_several" ["word", "trees"] (spOne K) := ⟨_, _, ok_one F_one_or_several m_len m_tuple, PySem.W.mg_of X G a_one_or_several, k_one_or_several, b_one_or_several⟩
  have N_expression : Nm K mg "expression" sExpr ["reader", "free"] := ⟨_, _, F_expression, PySem.W.mg_of X G a_expression, k_expression, b_expression⟩
  have N_negated : Nm K mg "negated" sNegd ["reader", "free"] := ⟨_, _, F_negated, PySem.W.mg_of X G a_negated, k_negated, b_negated⟩
  have N_single : Nm K mg "single" sSingle ["reader", "free"] := ⟨_, _, F_single, PySem.W.mg_of X G a_single, k_single, b_single⟩
  have N_list_tree : Nm K mg "list_tree" sListT ["reader"] := ⟨_, _, F_list_tree, PySem.W.mg_of X G a_list_tree, k_list_tree, b_list_tree⟩
  have N_record_tree : Nm K mg "record_tree" sRecT ["reader"] := ⟨_, _, F_record_tree, PySem.W.mg_of X G a_record_tree, k_record_tree, b_record_tree⟩
  have N_field_of : Nm K mg "field_of" sField ["reader"] := ⟨_, _, F_field_of, PySem.W.mg_of X G a_field_of, k_field_of, b_field_of⟩
  have hRdg : Rdg l.prog w K mg base cR cC := ⟨hRK, hNT, N_expression, N_negated, N_single, N_list_tree, N_record_tree, N_field_of, C_has_another, C_takes_end, C_name_of, C_names_of, C_is_number, C_span_tree, C_one_or_several, M_ahead, M_take, M_takes, M_must, ⟨gp, G_plain, K_plain⟩, m_len, m_tuple, m_int, m_range⟩
  have FIni := ok_init (P := l.prog) (w := w) (base := base) F_init hRK C_words_of
  have C_read : Cal1 l.prog w K mg base 43 "read" ["text"] (spText K cC (ReadP 7)) := ⟨_, _, ok_read (N := 7) F_read hRdg hMk FIni b_init G_reader, PySem.W.mg_of X G a_read, k_read, b_read⟩
  have C__law_next : Cal l.prog w K mg base 1 "_law_next" ["_law_state", "_law_many"] spNext := ⟨_, _, ok_next F__law_next, PySem.W.mg_of X G a__law_next, k__law_next, b__law_next⟩
  have C__law_seeds : Cal l.prog w K mg base 1 "_law_seeds" ["_law_script", "_law_many"] (spSeeds K) := ⟨_, _, ok_seeds F__law_seeds m_range m_enumerate, PySem.W.mg_of X G a__law_seeds, k__law_seeds, b__law_seeds⟩
  have C__law_letters : Cal l.prog w K mg base 2 "_law_letters" ["_law_state", "_law_many", "_law_span_here"] spLet := ⟨_, _, ok_let F__law_letters C__law_next m_range, PySem.W.mg_of X G a__law_letters, k__law_letters, b__law_letters⟩
  have C__law_plain : Cal l.prog w K mg base 1 "_law_plain" [] spPlain := ⟨_, _, ok_plain F__law_plain, PySem.W.mg_of X G a__law_plain, k__law_plain, b__law_plain⟩
  have C__law_name : Cal l.prog w K mg base 3 "_law_name" ["_law_state"] spNm := ⟨_, _, ok_nm F__law_name C__law_next C__law_letters C__law_plain, PySem.W.mg_of X G a__law_name, k__law_name, b__law_name⟩
  have C__law_names : Cal l.prog w K mg base 4 "_law_names" ["_law_state", "_law_many"] spNms := ⟨_, _, ok_nms F__law_names C__law_name m_range, PySem.W.mg_of X G a__law_names, k__law_names, b__law_names⟩
  have C__law_number : Cal l.prog w K mg base 2 "_law_number" ["_law_state"] spNo := ⟨_, _, ok_no F__law_number C__law_next m_range, PySem.W.mg_of X G a__law_number, k__law_number, b__law_number⟩
  have C__law_text : Cal l.prog w K mg base 2 "_law_text" ["_law_state"] spTx := ⟨_, _, ok_tx F__law_text C__law_next m_range m_len, PySem.W.mg_of X G a__law_text, k__law_text, b__law_text⟩
  have C__law_span : Cal l.prog w K mg base 3 "_law_span" ["_law_state"] (spTr K LfT) := ⟨_, _, ok_spn F__law_span C__law_next C__law_number, PySem.W.mg_of X G a__law_span, k__law_span, b__law_span⟩
  have C__law_leaf : Cal l.prog w K mg base 4 "_law_leaf" ["_law_state"] (spTr K LfT) := ⟨_, _, ok_lf F__law_leaf C__law_next C__law_plain C__law_span C__law_text, PySem.W.mg_of X G a__law_leaf, k__law_leaf, b__law_leaf⟩
  have C__law_count : Cal l.prog w K mg base 2 "_law_count" ["_law_state", "_law_deep", "_law_many"] spCnt := ⟨_, _, ok_cnt F__law_count C__law_next, PySem.W.mg_of X G a__law_count, k__law_count, b__law_count⟩
  have N__law_tree : Nm K mg "_law_tree" sTree ["_law_state", "_law_deep", "_law_places"] := ⟨_, _, F__law_tree, PySem.W.mg_of X G a__law_tree, k__law_tree, b__law_tree⟩
  have N__law_braced : Nm K mg "_law_braced" sBr ["_law_tree_here", "_law_tying", "_law_state"] := ⟨_, _, F__law_braced, PySem.W.mg_of X G a__law_braced, k__law_braced, b__law_braced⟩
  have N__law_tied : Nm K mg "_law_tied" sTd ["_law_sign", "_law_trees", "_law_tying", "_law_state"] := ⟨_, _, F__law_tied, PySem.W.mg_of X G a__law_tied, k__law_tied, b__law_tied⟩
  have N__law_words : Nm K mg "_law_words" sWs ["_law_tree_here", "_law_state"] := ⟨_, _, F__law_words, PySem.W.mg_of X G a__law_words, k__law_words, b__law_words⟩
  have N__law_same : Nm K mg "_law_same" sSame ["_law_found", "_law_due"] := ⟨_, _, F__law_same, PySem.W.mg_of X G a__law_same, k__law_same, b__law_same⟩
  have C__law_span_words : Cal l.prog w K mg base 2 "_law_span_words" ["_law_tree_here", "_law_state"] (spSpw K) := ⟨_, _, ok_spw F__law_span_words C__law_next m_str, PySem.W.mg_of X G a__law_span_words, k__law_span_words, b__law_span_words⟩
  have C__law_items_words : Cal l.prog w K mg base 1 "_law_items_words" ["_law_rows", "_law_more"] spItw := ⟨_, _, ok_itw F__law_items_words m_int m_len, PySem.W.mg_of X G a__law_items_words, k__law_items_words, b__law_items_words⟩
  have C__law_path_words : Cal l.prog w K mg base 1 "_law_path_words" ["_law_path"] (spPtw K) := ⟨_, _, ok_ptw F__law_path_words m_int m_len, PySem.W.mg_of X G a__law_path_words, k__law_path_words, b__law_path_words⟩
  have C__law_line : Cal l.prog w K mg base 2 "_law_line" ["_law_words_here", "_law_state"] spLine := ⟨_, _, ok_line F__law_line C__law_next m_max, PySem.W.mg_of X G a__law_line, k__law_line, b__law_line⟩
  exact ok_law (C := cC) F_law C__law_seeds (tree_cal N__law_tree C__law_next C__law_name C__law_names C__law_leaf C__law_count m_range m_tuple 3 (by decide)) (ws_cal N__law_words N__law_braced N__law_tied C__law_next C__law_span_words C__law_path_words C__law_items_words m_int m_len 3 (by decide)) C__law_line (same_cal N__law_same m_isinstance m_bool m_int m_str m_tuple m_len m_all m_range 11) C_read m_len
theorem walk {l : PySem.W.OpenLaw} {q : Program} {loose : List Str} {XP : (Str → Option Value) → Heap → Prop} {YP : World → Heap → Prop} {d : DefRec} {K : Params → PySem.W.Frag} (hn : l.most = some 63) (hdf : d.params.defaults = [])
    (hY : ∀ (w : World) (h : Heap), YP w h → (K w.params).In h)
    (F : ∀ (w : World) (mg : Str → Option Value) (fa : Addr) (h : Heap), (K w.params).In h → h.Ns mainGlobals mg → mg d.name = some (.ref fa) →
      ∃ fd : FuncData, (∀ (s : Shared) (u : Value), BindsTo s fd ⟨[u], []⟩ [("_law_script", u)]) ∧ ∀ base : Heap, (K w.params).In base → base.Ns mainGlobals mg → FnOk l.prog w (K w.params) mg base CX0 44 fa fd ["_law_script"] (spLaw (K w.params))) :
    PySem.W.WalkO q loose XP YP l.row.toRowW d [] (fun f vs => PySem.call f vs) :=
  L2.walk_of (n := 63) (k := 44) (x := "_law_script") (CX := fun _ => CX0) (sp := fun w => spLaw (K w.params)) hn (by decide) hdf ⟨rfl, by decide, by decide⟩ hY F (fun _ _ a ns hl _ hS => ⟨a, ns, rfl, hS, hl, fun _ => rfl⟩) fun _ _ _ _ _ z => z
end Law
def PySem.W.Fast.tw690079441184275332 : Unit := ()
def PySem.W.Fast.tw6495908470326110269 : Unit := ()
def PySem.W.Fast.tw10551841957750469371 : Unit := ()
def PySem.W.Fast.tw198303985696163144 : Unit := ()
def PySem.W.Fast.tw16983703953767961503 : Unit := ()
def PySem.W.Fast.tw11924333372360927640 : Unit := ()
def PySem.W.Fast.tw3386652316436302206 : Unit := ()
open PySem PySem.W PyProof.Rows
set_option maxRecDepth 100000 in
set_option maxHeartbeats 0 in
theorem PySem.Challenge.cw_meetvalue_k32_trees_read_holds : PySem.Challenge.rw_meetvalue_k32_trees_read.Holds := by
  w_on; o_law; k_head; (case hw => w_witness2)
  k_fill
  refine Law.walk (l := PySem.Challenge.rw_meetvalue_k32_trees_read) rfl rfl (fun w h Y => PySem.W.kIn_of Y) ?F
  case F =>
    intro w mg fa h KX G hmg
    refine' Law.all_mk KX G hmg ?a_is_name ?l_is_name ?c_is_name ?k_is_name ?a_is_sign ?l_is_sign ?c_is_sign ?k_is_sign ?a_is_letter ?l_is_letter ?c_is_letter ?k_is_letter ?a_is_figure ?l_is_figure ?c_is_figure ?k_is_figure ?a_run_end ?l_run_end ?c_run_end ?k_run_end ?a_number_at ?l_number_at ?c_number_at ?k_number_at ?a_quoted_at ?l_quoted_at ?c_quoted_at ?k_quoted_at ?a_word_at ?l_word_at ?c_word_at ?k_word_at ?a_words_of ?l_words_of ?c_words_of ?k_words_of ?a_is_number ?l_is_number ?c_is_number ?k_is_number ?a_name_of ?l_name_of ?c_name_of ?k_name_of ?a_names_of ?l_names_of ?c_names_of ?k_names_of ?a_has_another ?l_has_another ?c_has_another ?k_has_another ?a_takes_end ?l_takes_end ?c_takes_end ?k_takes_end ?a_span_tree ?l_span_tree ?c_span_tree ?k_span_tree ?a_one_or_several ?l_one_or_several ?c_one_or_several ?k_one_or_several ?a_expression ?l_expression ?c_expression ?k_expression ?a_negated ?l_negated ?c_negated ?k_negated ?a_single ?l_single ?c_single ?k_single ?a_list_tree ?l_list_tree ?c_list_tree ?k_list_tree ?a_record_tree ?l_record_tree ?c_record_tree ?k_record_tree ?a_field_of ?l_field_of ?c_field_of ?k_field_of ?a_read ?l_read ?c_read ?k_read ?a__law_next ?l__law_next ?c__law_next ?k__law_next ?a__law_seeds ?l__law_seeds ?c__law_seeds ?k__law_seeds ?a__law_letters ?l__law_letters ?c__law_letters ?k__law_letters ?a__law_plain ?l__law_plain ?c__law_plain ?k__law_plain ?a__law_name ?l__law_name ?c__law_name ?k__law_name ?a__law_names ?l__law_names ?c__law_names ?k__law_names ?a__law_number ?l__law_number ?c__law_number ?k__law_number ?a__law_text ?l__law_text ?c__law_text ?k__law_text ?a__law_span ?l__law_span ?c__law_span ?k__law_span ?a__law_leaf ?l__law_leaf ?c__law_leaf ?k__law_leaf ?a__law_count ?l__law_count ?c__law_count ?k__law_count ?a__law_tree ?l__law_tree ?c__law_tree ?k__law_tree ?a__law_braced ?l__law_braced ?c__law_braced ?k__law_braced ?a__law_tied ?l__law_tied ?c__law_tied ?k__law_tied ?a__law_words ?l__law_words ?c__law_words ?k__law_words ?a__law_same ?l__law_same ?c__law_same ?k__law_same ?a__law_span_words ?l__law_span_words ?c__law_span_words ?k__law_span_words ?a__law_items_words ?l__law_items_words ?c__law_items_words ?k__law_items_words ?a__law_path_words ?l__law_path_words ?c__law_path_words ?k__law_path_words ?a__law_line ?l__law_line ?c__law_line ?k__law_line ?a_law ?l_law ?c_law ?k_law ?z_all ?z_bool ?z_enumerate ?z_int ?z_isinstance ?z_len ?z_max ?z_ord ?z_range ?z_str ?z_tuple ?a_NO ?l_NO ?gNT ?gRD ?gMF ?gSS ?gPW ?lPW ?x1cC ?x2cC ?x3cC ?x4cC ?x5cC ?x6cC ?y1 ?y2 ?y3 ?y4 ?y5 ?y6 ?y7 ?y8 ?a_init ?l_init ?c_init ?k_init ?i_init ?a_ahead ?l_ahead ?c_ahead ?k_ahead ?i_ahead ?a_take ?l_take ?c_take ?k_take ?i_take ?a_takes ?l_takes ?c_takes ?k_takes ?i_takes ?a_must ?l_must ?c_must ?k_must ?i_must
    (case a_is_name => k_is); (case l_is_name => k_is); (case c_is_name => k_is); (case k_is_name => k_is)
    (case a_is_sign => k_is); (case l_is_sign => k_is); (case c_is_sign => k_is); (case k_is_sign => k_is)
    (case a_is_letter => k_is); (case l_is_letter => k_is); (case c_is_letter => k_is); (case k_is_letter => k_is)
    (case a_is_figure => k_is); (case l_is_figure => k_is); (case c_is_figure => k_is); (case k_is_figure => k_is)
    (case a_run_end => k_is); (case l_run_end => k_is); (case c_run_end => k_is); (case k_run_end => k_is)
    (case a_number_at => k_is); (case l_number_at => k_is); (case c_number_at => k_is); (case k_number_at => k_is)
    (case a_quoted_at => k_is); (case l_quoted_at => k_is); (case c_quoted_at => k_is); (case k_quoted_at => k_is)
    (case a_word_at => k_is); (case l_word_at => k_is); (case c_word_at => k_is); (case k_word_at => k_is)
    (case a_words_of => k_is); (case l_words_of => k_is); (case c_words_of => k_is); (case k_words_of => k_is)
    (case a_is_number => k_is); (case l_is_number => k_is); (case c_is_number => k_is); (case k_is_number => k_is)
    (case a_name_of => k_is); (case l_name_of => k_is); (case c_name_of => k_is); (case k_name_of => k_is)
    (case a_names_of => k_is); (case l_names_of => k_is); (case c_names_of => k_is); (case k_names_of => k_is)
    (case a_has_another => k_is); (case l_has_another => k_is); (case c_has_another => k_is); (case k_has_another => k_is)
    (case a_takes_end => k_is); (case l_takes_end => k_is); (case c_takes_end => k_is); (case k_takes_end => k_is)
    (case a_span_tree => k_is); (case l_span_tree => k_is); (case c_span_tree => k_is); (case k_span_tree => k_is)
    (case a_one_or_several => k_is); (case l_one_or_several => k_is); (case c_one_or_several => k_is); (case k_one_or_several => k_is)
    (case a_expression => k_is); (case l_expression => k_is); (case c_expression => k_is); (case k_expression => k_is)
    (case a_negated => k_is); (case l_negated => k_is); (case c_negated => k_is); (case k_negated => k_is)
    (case a_single => k_is); (case l_single => k_is); (case c_single => k_is); (case k_single => k_is)
    (case a_list_tree => k_is); (case l_list_tree => k_is); (case c_list_tree => k_is); (case k_list_tree => k_is)
    (case a_record_tree => k_is); (case l_record_tree => k_is); (case c_record_tree => k_is); (case k_record_tree => k_is)
    (case a_field_of => k_is); (case l_field_of => k_is); (case c_field_of => k_is); (case k_field_of => k_is)
    (case a_read => k_is); (case l_read => k_is); (case c_read => k_is); (case k_read => k_is)
    (case a__law_next => k_is); (case l__law_next => k_is); (case c__law_next => k_is); (case k__law_next => k_is)
    (case a__law_seeds => k_is); (case l__law_seeds => k_is); (case c__law_seeds => k_is); (case k__law_seeds => k_is)
    (case a__law_letters => k_is); (case l__law_letters => k_is); (case c__law_letters => k_is); (case k__law_letters => k_is)
    (case a__law_plain => k_is); (case l__law_plain => k_is); (case c__law_plain => k_is); (case k__law_plain => k_is)
    (case a__law_name => k_is); (case l__law_name => k_is); (case c__law_name => k_is); (case k__law_name => k_is)
    (case a__law_names => k_is); (case l__law_names => k_is); (case c__law_names => k_is); (case k__law_names => k_is)
    (case a__law_number => k_is); (case l__law_number => k_is); (case c__law_number => k_is); (case k__law_number => k_is)
    (case a__law_text => k_is); (case l__law_text => k_is); (case c__law_text => k_is); (case k__law_text => k_is)
    (case a__law_span => k_is); (case l__law_span => k_is); (case c__law_span => k_is); (case k__law_span => k_is)
    (case a__law_leaf => k_is); (case l__law_leaf => k_is); (case c__law_leaf => k_is); (case k__law_leaf => k_is)
    (case a__law_count => k_is); (case l__law_count => k_is); (case c__law_count => k_is); (case k__law_count => k_is)
    (case a__law_tree => k_is); (case l__law_tree => k_is); (case c__law_tree => k_is); (case k__law_tree => k_is)
    (case a__law_braced => k_is); (case l__law_braced => k_is); (case c__law_braced => k_is); (case k__law_braced => k_is)
    (case a__law_tied => k_is); (case l__law_tied => k_is); (case c__law_tied => k_is); (case k__law_tied => k_is)
    (case a__law_words => k_is); (case l__law_words => k_is); (case c__law_words => k_is); (case k__law_words => k_is)
    (case a__law_same => k_is); (case l__law_same => k_is); (case c__law_same => k_is); (case k__law_same => k_is)
    (case a__law_span_words => k_is); (case l__law_span_words => k_is); (case c__law_span_words => k_is); (case k__law_span_words => k_is)
    (case a__law_items_words => k_is); (case l__law_items_words => k_is); (case c__law_items_words => k_is); (case k__law_items_words => k_is)
    (case a__law_path_words => k_is); (case l__law_path_words => k_is); (case c__law_path_words => k_is); (case k__law_path_words => k_is)
    (case a__law_line => k_is); (case l__law_line => k_is); (case c__law_line => k_is); (case k__law_line => k_is)
    (case a_law => k_is); (case l_law => k_is); (case c_law => k_is); (case k_law => k_is)
    (case z_all => k_is)
    (case z_bool => k_is)
    (case z_enumerate => k_is)
    (case z_int => k_is)
    (case z_isinstance => k_is)
    (case z_len => k_is)
    (case z_max => k_is)
    (case z_ord => k_is)
    (case z_range => k_is)
    (case z_str => k_is)
    (case z_tuple => k_is)
    (case a_NO => k_is); (case l_NO => k_is)
    (case gNT => first | k_is | k_exc | kit_is)
    (case gRD => first | k_is | k_exc | kit_is)
    (case gMF => first | k_is | k_exc | kit_is)
    (case gSS => first | k_is | k_exc | kit_is)
    (case gPW => first | k_is | k_exc | kit_is)
    (case lPW => first | k_is | k_exc | kit_is)
    (case x1cC => first | k_is | k_exc | kit_is)
    (case x2cC => first | k_is | k_exc | kit_is)
    (case x3cC => first | k_is | k_exc | kit_is)
    (case x4cC => first | k_is | k_exc | kit_is)
    (case x5cC => first | k_is | k_exc | kit_is)
    (case x6cC => first | k_is | k_exc | kit_is)
    (case y1 => first | k_is | k_exc | kit_is)
    (case y2 => first | k_is | k_exc | kit_is)
    (case y3 => first | k_is | k_exc | kit_is)
    (case y4 => first | k_is | k_exc | kit_is)
    (case y5 => first | k_is | k_exc | kit_is)
    (case y6 => first | k_is | k_exc | kit_is)
    (case y7 => first | k_is | k_exc | kit_is)
    (case y8 => first | k_is | k_exc | kit_is)
    (case a_init => first | k_is | k_exc | kit_is)
    (case l_init => first | k_is | k_exc | kit_is)
    (case c_init => first | k_is | k_exc | kit_is)
    (case k_init => first | k_is | k_exc | kit_is)
    (case i_init => first | k_is | k_exc | kit_is)
    (case a_ahead => first | k_is | k_exc | kit_is)
    (case l_ahead => first | k_is | k_exc | kit_is)
    (case c_ahead => first | k_is | k_exc | kit_is)
    (case k_ahead => first | k_is | k_exc | kit_is)
    (case i_ahead => first | k_is | k_exc | kit_is)
    (case a_take => first | k_is | k_exc | kit_is)
    (case l_take => first | k_is | k_exc | kit_is)
    (case c_take => first | k_is | k_exc | kit_is)
    (case k_take => first | k_is | k_exc | kit_is)
    (case i_take => first | k_is | k_exc | kit_is)
    (case a_takes => first | k_is | k_exc | kit_is)
    (case l_takes => first | k_is | k_exc | kit_is)
    (case c_takes => first | k_is | k_exc | kit_is)
    (case k_takes => first | k_is | k_exc | kit_is)
    (case i_takes => first | k_is | k_exc | kit_is)
    (case a_must => first | k_is | k_exc | kit_is)
    (case l_must => first | k_is | k_exc | kit_is)
    (case c_must => first | k_is | k_exc | kit_is)
    (case k_must => first | k_is | k_exc | kit_is)
    (case i_must => first | k_is | k_exc | kit_is)


