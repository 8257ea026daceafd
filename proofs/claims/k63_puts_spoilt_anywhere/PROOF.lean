import PyProof.Rows.All
import Wide.All
import OpenK.AllK
import Wide.FinOn
import PyProof.EqAt
import PyProof.EqKinds
import PyProof.TupleCall
import PySem.Challenge.RW_tailrooms_k63_puts_spoilt_anywhere
set_option Elab.async false
set_option linter.all false
set_option maxRecDepth 100000
-- CHANGE: your row's module here, as the last of these rows
/-! THE HAND LAYER, for ints, bools, texts, own classes, LISTS and tuples (index, slices, in, append, pop ..), calls, loops. Paste it whole ahead of your own text; what your proof does not reach may be deleted. -/
namespace L2
open PySem PySem.Spec PyProof.Rows

/-- a key: an int or a str -/
abbrev Key := Sum Int Str
def keyIs : Key → Value → Bool
  | .inl k, v => Value.isInt k v
  | .inr x, v => Value.isStrOf x v
def keyH (w : World) : Key → Int
  | .inl k => hashInt k
  | .inr x => hashStr w x
theorem keyIs_shape : ∀ {k : Key} {v : Value}, keyIs k v = true → (∃ i t, k = Sum.inl i ∧ v = Value.int i t) ∨ (∃ x t, k = Sum.inr x ∧ v = Value.str x t)
  | .inl i, v, h => by
    obtain ⟨t, e⟩ := Value.isInt_shape (k := i) (v := v) h
    exact .inl ⟨i, t, rfl, e⟩
  | .inr x, v, h => by
    obtain ⟨t, e⟩ := Value.isStrOf_shape (x := x) (v := v) h
    exact .inr ⟨x, t, rfl, e⟩
theorem key_ll (a b : Int) : decide ((Sum.inl a : Key) = Sum.inl b) = (a == b) := by
  by_cases e : a = b
  · subst e; simp
  · have h : ¬ (Sum.inl a : Key) = Sum.inl b := fun q => e (Sum.inl.inj q)
    rw [decide_eq_false h]
    exact (beq_eq_false_iff_ne.mpr e).symm
theorem key_rr (a b : Str) : decide ((Sum.inr a : Key) = Sum.inr b) = decide (a = b) := by
  by_cases e : a = b
  · subst e; simp
  · have h : ¬ (Sum.inr a : Key) = Sum.inr b := fun q => e (Sum.inr.inj q)
    rw [decide_eq_false h, decide_eq_false e]
theorem key_lr (a : Int) (b : Str) : decide ((Sum.inl a : Key) = Sum.inr b) = false := decide_eq_false (fun q => nomatch q)
theorem key_rl (a : Str) (b : Int) : decide ((Sum.inr a : Key) = Sum.inl b) = false := decide_eq_false (fun q => nomatch q)

def mixKind (prog : Program) (w : World) : PySem.KeyKind prog w Key where
  is := keyIs
  hash := keyH w
  inj := fun v a b ha hb => by
    rcases keyIs_shape ha with ⟨i, t, rfl, rfl⟩ | ⟨x, t, rfl, rfl⟩
    · rcases keyIs_shape hb with ⟨j, u, rfl, e⟩ | ⟨y, u, rfl, e⟩
      · injection e with e1 _; rw [e1]
      · exact nomatch e
    · rcases keyIs_shape hb with ⟨j, u, rfl, e⟩ | ⟨y, u, rfl, e⟩
      · exact nomatch e
      · injection e with e1 _; rw [e1]
  byValue := fun k v h => by
    rcases keyIs_shape h with ⟨i, t, rfl, rfl⟩ | ⟨x, t, rfl, rfl⟩ <;> rfl
  pyHash := fun hv h => by
    rcases keyIs_shape hv with ⟨i, t, rfl, rfl⟩ | ⟨x, t, rfl, rfl⟩
    · exact wpAny_pyHash_int h
    · exact wpAny_pyHash_str h
  eqBool := fun hu hv h => by
    rcases keyIs_shape hu with ⟨i, t, rfl, rfl⟩ | ⟨x, t, rfl, rfl⟩
    · rcases keyIs_shape hv with ⟨j, u, rfl, rfl⟩ | ⟨y, u, rfl, rfl⟩
      · rw [key_ll] at h; exact wpAny_eqBool_int h
      · rw [key_lr] at h; exact SeqAt.EqAt.int_str i t y u _ _ _ _ h
    · rcases keyIs_shape hv with ⟨j, u, rfl, rfl⟩ | ⟨y, u, rfl, rfl⟩
      · rw [key_rl] at h; exact SeqAt.EqAt.str_int x t j u _ _ _ _ h
      · rw [key_rr] at h; exact wpAny_eqBool_str h
  «strs» := fun k x t v h => by
    rcases keyIs_shape h with ⟨i, u, rfl, e⟩ | ⟨y, u, rfl, e⟩
    · exact nomatch e
    · injection e with e1 _
      subst e1
      cases v <;> rfl

end L2

namespace L2
open PySem PySem.Spec PyProof.Rows

/-- a value, without the heap -/
inductive V where
  | non | bl (b : Bool) | int (i : Int) | str (x : Str) | byt (b : Array UInt8) | flt (b : UInt64) | ref (a : Addr) | ty (n : String)
  deriving DecidableEq

def RelV : V → Value → Prop
  | .non, u => u = Value.none
  | .bl b, u => u = Value.bool b
  | .int i, u => ∃ t, u = Value.int i t
  | .str x, u => ∃ t, u = Value.str x t
  | .byt b, u => ∃ t, u = Value.bytes b t
  | .flt b, u => ∃ t, u = Value.float b t
  | .ref a, u => u = Value.ref a
  | .ty n, u => u = Value.type n

abbrev Vals : List V → List Value → Prop := Paired RelV
theorem Vals.length {xs : List V} {us : List Value} (r : Vals xs us) : xs.length = us.length := Paired.length r
theorem Vals.get : ∀ {xs : List V} {us : List Value} {i : Nat} {x : V}, Vals xs us → xs[i]? = some x → ∃ u, us[i]? = some u ∧ RelV x u
  | _, _, _, _, .nil, e => by simp at e
  | _, _, 0, _, .cons r _, e => by simp at e; subst e; exact ⟨_, rfl, r⟩
  | _, _, i + 1, x, .cons _ t, e => by
    obtain ⟨u, h1, h2⟩ := Vals.get (i := i) (x := x) t (by simpa using e)
    exact ⟨u, by simpa using h1, h2⟩
theorem Vals.set {x : V} {u : Value} (r : RelV x u) : ∀ {xs : List V} {us : List Value} (i : Nat), Vals xs us → Vals (xs.set i x) (us.set i u)
  | _, _, _, .nil => .nil
  | _, _, 0, .cons _ t => .cons r t
  | _, _, i + 1, .cons q t => .cons q (Vals.set r i t)
theorem Vals.append : ∀ {xs ys : List V} {us ws : List Value}, Vals xs us → Vals ys ws → Vals (xs ++ ys) (us ++ ws)
  | _, _, _, _, .nil, s => s
  | _, _, _, _, .cons r t, s => .cons r (Vals.append t s)
theorem Vals.take : ∀ {xs : List V} {us : List Value} (n : Nat), Vals xs us → Vals (xs.take n) (us.take n)
  | _, _, 0, _ => .nil
  | _, _, _ + 1, .nil => .nil
  | _, _, n + 1, .cons r t => .cons r (Vals.take n t)
theorem Vals.drop : ∀ {xs : List V} {us : List Value} (n : Nat), Vals xs us → Vals (xs.drop n) (us.drop n)
  | _, _, 0, r => r
  | _, _, _ + 1, .nil => .nil
  | _, _, n + 1, .cons _ t => Vals.drop n t
def RelO : Option V → Option Value → Prop
  | some v, some u => RelV v u
  | none, none => True
  | _, _ => False
def KV {κ : Type} : List (κ × V) → List (κ × Value) → Prop := Paired fun (p : κ × V) (q : κ × Value) => p.1 = q.1 ∧ RelV p.2 q.2

/-- a key of a dict (00_mix): an int or a text -/
def kV : Key → V
  | .inl i => .int i
  | .inr x => .str x

/-- what stands at a tracked address -/
inductive HO where
  /-- a list -/
  | lst (xs : List V)
  /-- a tuple (never changes) -/
  | tup (xs : List V)
  /-- a dict whose keys are ints and texts; one whose keys are tuples of ints and texts (the empty one is both) -/
  | dK (kvs : List (Key × V)) | dT (kvs : List (List Key × V))
  /-- a set of ints: its members, its size -/
  | set (S : Int → Bool) (n : Nat)
  /-- an instance of the class at C, its dict at dx, its attributes -/
  | ins (C dx : Addr) (fs : List (Str × V))
  /-- the dict of the instance at x -/
  | own (x : Addr)
  /-- the dict of an exception -/
  | xd (fs : List (Str × V))
  /-- a bound method, f of x -/
  | met (f x : Addr)
  /-- a range object lo, lo + 1, .. below hi -/
  | rng (lo hi : Int)
  /-- a thing that is known to the object (the script; a dict while a loop walks it): read, never written while it is so -/
  | frz (o : Obj) (u : HO)
  /-- a code object's table -/
  | tbl (ps : Array Value)
  /-- any other thing, by what is true of its one object (a def of one's own: SetO a S n := HO.ext fun h => ..) -/
  | ext (φ : Heap → Prop)

abbrev Hp := Addr → Option HO
def upd (H : Hp) (a : Addr) (o : HO) : Hp := fun b => if b = a then some o else H b
theorem upd_same {H : Hp} {a : Addr} {o : HO} : upd H a o a = some o := by unfold upd; rw [if_pos rfl]
theorem upd_ne {H : Hp} {a b : Addr} {o : HO} (h : b ≠ a) : upd H a o b = H b := by unfold upd; rw [if_neg h]
/-- two objects of different content stand apart -/
theorem ne_of {H : Hp} {a b : Addr} {o u : HO} (h : H a = some o) (h' : H b = some u) (d : o ≠ u) : a ≠ b := by
  intro e; subst e; rw [h] at h'; exact d (Option.some.inj h')
theorem ne_of_none {H : Hp} {a b : Addr} {o : HO} (h : H a = some o) (h' : H b = none) : a ≠ b := by
  intro e; subst e; rw [h] at h'; cases h'

section
variable (P : Program) (w : World)
def ObjOk (H : Hp) (h : Heap) (a : Addr) : HO → Prop
  | .lst xs => xs.length ≤ sizeLine ∧ ∃ (its : List Value) (n : Nat), Vals xs its ∧ h.get? a = some { cls := .type "list", data := .seq its.toArray n }
  | .tup xs => xs.length ≤ sizeLine ∧ ∃ its : List Value, Vals xs its ∧ IsTup h a its.toArray
  | .dK kvs => kvs.length ≤ sizeLine ∧ (a == sysModules) = false ∧ ∃ vs, KV kvs vs ∧ h.DictOf (mixKind P w) a vs
  | .dT kvs => kvs.length ≤ sizeLine ∧ (a == sysModules) = false ∧ ∃ xs : List (List Key × Addr × Value),
      Paired (fun (p : List Key × V) (q : List Key × Addr × Value) => p.1 = q.1 ∧ H q.2.1 = some (.tup (p.1.map kV)) ∧ RelV p.2 q.2.2) kvs xs ∧
      ∃ o es ep, h.get? a = some o ∧ o.ExactDict ∧ o.data = .dict es ep ∧ es.toList = xs.map (entryOfKey (tupleKind (mixKind P w))) ∧ (xs.map (·.1)).Nodup
  | .set S n => h.SetOf (intKind P w) a S n
  | .ins C dx fs => H dx = some (.own a) ∧ fs.length ≤ 1000 ∧ dx ≠ a ∧ h.get? a = some (PySem.W.instObj C dx) ∧
      ∃ mA, h.Ns1 dx mA ∧ (∀ f, RelO (fs.lookup f) (mA f)) ∧ PySem.Within mA (fs.map (·.1))
  | .own _ => ∃ o, h.get? a = some o
  | .xd fs => ∃ mA, h.Ns1 a mA ∧ ∀ f, RelO (fs.lookup f) (mA f)
  | .rng lo hi => ∃ t u v, h.get? a = some { cls := .type "range", data := .fields #[.int lo t, .int hi u, .int 1 v] }
  | .frz o u => h.get? a = some o ∧ ObjOk H h a u
  | .tbl ps => h.get? a = some { cls := .none, data := .fields ps }
  | .met f x => h.get? a = some (PySem.W.methodObj (.ref f) (.ref x))
  | .ext φ => φ h ∧ (∃ o, h.get? a = some o) ∧ ∀ h1 h2 : Heap, φ h1 → (∀ o, h1.get? a = some o → h2.get? a = some o) → φ h2
/-- the abstract heap is held -/
def HOk (H : Hp) (h : Heap) : Prop := ∀ a o, H a = some o → ObjOk P w H h a o
end

section
variable {P : Program} {w : World} {H H' : Hp} {h h' : Heap} {a : Addr} {o : HO}
theorem ObjOk.lt (x : ObjOk P w H h a o) : a < h.objs.size := by
  cases o with
  | lst xs => obtain ⟨_, _, _, _, e⟩ := x; exact Heap.lt_size e
  | tup xs => obtain ⟨_, _, _, p⟩ := x; exact p.lt
  | dK kvs => obtain ⟨_, _, _, _, o, _, _, e, _⟩ := x; exact Heap.lt_size e
  | dT kvs => obtain ⟨_, _, _, _, o, _, _, e, _⟩ := x; exact Heap.lt_size e
  | set S n => obtain ⟨o, _, _, _, e, _⟩ := x; exact Heap.lt_size e
  | ins C dx fs => obtain ⟨_, _, _, e, _⟩ := x; exact Heap.lt_size e
  | own y => obtain ⟨_, e⟩ := x; exact Heap.lt_size e
  | xd fs => obtain ⟨_, ⟨_, _, _, e, _⟩, _⟩ := x; exact Heap.lt_size e
  | rng lo hi => obtain ⟨_, _, _, e⟩ := x; exact Heap.lt_size e
  | frz ob u => obtain ⟨e, _⟩ := x; exact Heap.lt_size e
  | tbl ps => exact Heap.lt_size (show h.get? a = some _ from x)
  | met f y => exact Heap.lt_size (show h.get? a = some _ from x)
  | ext φ => obtain ⟨_, ⟨_, e⟩, _⟩ := x; exact Heap.lt_size e
theorem Paired.mapP {α β : Type} {F G : α → β → Prop} : ∀ {l₁ : List α} {l₂ : List β}, Paired F l₁ l₂ → (∀ a b, F a b → G a b) → Paired G l₁ l₂
  | _, _, .nil, _ => .nil
  | _, _, .cons r t, f => .cons (f _ _ r) (Paired.mapP t f)
/-- what an object's description leans on: its own object, its own dict, the tuples -/
theorem ObjOk.stay (x : ObjOk P w H h a o) (k : ∀ b u, (b = a ∨ H b = some (.own a)) → h.get? b = some u → h'.get? b = some u)
    (ho : ∀ b, H b = some (.own a) → H' b = some (.own a)) (ht : ∀ b xs, H b = some (.tup xs) → H' b = some (.tup xs)) : ObjOk P w H' h' a o := by
  induction o with
  | lst xs => obtain ⟨z, its, n, r, e⟩ := x; exact ⟨z, its, n, r, k _ _ (.inl rfl) e⟩
  | tup xs => obtain ⟨z, its, r, ob, e, c⟩ := x; exact ⟨z, its, r, ob, k _ _ (.inl rfl) e, c⟩
  | dK kvs => obtain ⟨z, y, vs, r, ob, es, ep, e, c⟩ := x; exact ⟨z, y, vs, r, ob, es, ep, k _ _ (.inl rfl) e, c⟩
  | dT kvs =>
    obtain ⟨z, y, xs, r, ob, es, ep, e, c⟩ := x
    exact ⟨z, y, xs, Paired.mapP r fun p q z => ⟨z.1, ht _ _ z.2.1, z.2.2⟩, ob, es, ep, k _ _ (.inl rfl) e, c⟩
  | set S n => obtain ⟨ob, es, ep, t, e, c⟩ := x; exact ⟨ob, es, ep, t, k _ _ (.inl rfl) e, c⟩
  | ins C dx fs =>
    obtain ⟨d, z, ne, e, mA, ⟨od, es, ep, e2, c⟩, r⟩ := x
    exact ⟨ho _ d, z, ne, k _ _ (.inl rfl) e, mA, ⟨od, es, ep, k _ _ (.inr d) e2, c⟩, r⟩
  | own y => obtain ⟨ob, e⟩ := x; exact ⟨ob, k _ _ (.inl rfl) e⟩
  | xd fs => obtain ⟨mA, ⟨od, es, ep, e, c⟩, r⟩ := x; exact ⟨mA, ⟨od, es, ep, k _ _ (.inl rfl) e, c⟩, r⟩
  | rng lo hi => obtain ⟨t, u, v, e⟩ := x; exact ⟨t, u, v, k _ _ (.inl rfl) e⟩
  | frz ob u ih => obtain ⟨e, q⟩ := x; exact ⟨k _ _ (.inl rfl) e, ih q⟩
  | tbl ps =>
    have e : h.get? a = some { cls := .none, data := .fields ps } := x
    show h'.get? a = some { cls := .none, data := .fields ps }
    exact k a _ (.inl rfl) e
  | met f y =>
    have e : h.get? a = some (PySem.W.methodObj (.ref f) (.ref y)) := x
    show h'.get? a = some (PySem.W.methodObj (.ref f) (.ref y))
    exact k a _ (.inl rfl) e
  | ext φ => obtain ⟨p, ⟨o, e⟩, st⟩ := x; exact ⟨st _ _ p fun o q => k _ _ (.inl rfl) q, ⟨o, k _ _ (.inl rfl) e⟩, st⟩
theorem HOk.lt (x : HOk P w H h) (e : H a = some o) : a < h.objs.size := (x a o e).lt
theorem HOk.fresh (x : HOk P w H h) (e : h.objs.size ≤ a) : H a = none := by
  cases q : H a with
  | none => rfl
  | some u => exact absurd (Nat.lt_of_lt_of_le (x.lt q) e) (Nat.lt_irrefl _)
/-- every object of the heap is kept -/
theorem HOk.kept (x : HOk P w H h) (k : ∀ b u, h.get? b = some u → h'.get? b = some u) : HOk P w H h' := fun a o e =>
  (x a o e).stay (fun b u _ q => k b u q) (fun _ q => q) fun _ _ q => q
/-- a new object is laid and tracked -/
theorem HOk.laid (x : HOk P w H h) (k : ∀ b u, h.get? b = some u → h'.get? b = some u) (hp : h.objs.size ≤ a) (new : ObjOk P w (upd H a o) h' a o) : HOk P w (upd H a o) h' := fun b u e => by
  have hn := x.fresh hp
  by_cases hb : b = a
  · subst hb; rw [upd_same] at e; cases e; exact new
  · rw [upd_ne hb] at e
    exact (x b u e).stay (fun c v _ q => k c v q) (fun c q => by rw [upd_ne (ne_of_none q hn)]; exact q) fun c xs q => by rw [upd_ne (ne_of_none q hn)]; exact q
end

/-- what may be read as u: it is u, or a known u -/
def Rd (H : Hp) (a : Addr) (u : HO) : Prop := H a = some u ∨ ∃ o, H a = some (.frz o u)
theorem Rd.ok {P : Program} {w : World} {H : Hp} {h : Heap} {a : Addr} {u : HO} (r : Rd H a u) (x : HOk P w H h) : ObjOk P w H h a u := by
  rcases r with r | ⟨o, r⟩
  · exact x a u r
  · obtain ⟨_, q⟩ := x a _ r
    exact q
/-- what may be written -/
def Mut : Option HO → Prop
  | some (.lst _) => True
  | some (.dK _) => True
  | some (.dT _) => True
  | some (.set _ _) => True
  | some (.ins _ _ _) => True
  | some (.ext _) => True
  | _ => False
section
variable {P : Program} {w : World} {H : Hp} {h h' : Heap} {x e : Addr} {o' : HO}
/-- the object at e is changed: x itself, or the dict of the instance x -/
theorem HOk.write (ok : HOk P w H h) (mu : Mut (H x)) (he : e = x ∨ H e = some (.own x)) (k : ∀ b u, b ≠ e → h.get? b = some u → h'.get? b = some u) (heo : ∃ u, h'.get? e = some u)
    (new : ObjOk P w (upd H x o') h' x o') : HOk P w (upd H x o') h' := fun b u q => by
  have nown : ∀ c y, H c = some (.own y) → c ≠ x := fun c y r z => by subst z; rw [r] at mu; exact mu
  have ntup : ∀ c xs, H c = some (.tup xs) → c ≠ x := fun c xs r z => by subst z; rw [r] at mu; exact mu
  by_cases hb : b = x
  · subst hb; rw [upd_same] at q; cases q; exact new
  · rw [upd_ne hb] at q
    by_cases hbe : b = e
    · have q' : H b = some (.own x) := by
        rcases he with z | z
        · exact absurd (hbe.trans z) hb
        · rw [hbe]; exact z
      rw [q] at q'; cases q'
      obtain ⟨v, hv⟩ := heo
      exact ⟨v, by rw [hbe]; exact hv⟩
    · refine (ok b u q).stay (fun c v hc r => k c v ?_ r) (fun c r => by rw [upd_ne (nown c b r)]; exact r) fun c xs r => by rw [upd_ne (ntup c xs r)]; exact r
      rcases hc with rfl | hc
      · exact hbe
      · rintro rfl
        rcases he with z | z
        · exact nown c b hc z
        · rw [hc] at z; cases z; exact hb rfl
end

/-! ### kept unless tracked; of the frames at fs (the callers') the slots may change (an exception that passes writes there); of the records at ex (iterators) nothing is said -/
structure Un (fs ex : List Addr) (H H' : Hp) (h h' : Heap) : Prop where
  keep : ∀ b o, h.get? b = some o → H b = none → b ∉ fs → b ∉ ex → h'.get? b = some o
  slot : ∀ b o, h.get? b = some o → H b = none → b ∈ fs → b ∉ ex → ∃ sl, h'.get? b = some { o with slots := sl }
  free : ∀ b o, h.get? b = some o → H b = none → b ∉ ex → H' b = none
  there : ∀ b o, h.get? b = some o → b ∉ ex → ∃ o', h'.get? b = some o'
  tups : ∀ b xs, H b = some (.tup xs) → H' b = some (.tup xs)
  frzs : ∀ b o u, H b = some (.frz o u) → H' b = some (.frz o u)
  tbls : ∀ b ps, H b = some (.tbl ps) → ∃ more, H' b = some (.tbl (ps ++ more))
section
variable {fs fs' ex ex' : List Addr} {H H1 H2 : Hp} {h h1 h2 h' : Heap} {a x e : Addr} {o : HO}
theorem Un.any (u : Un fs ex H H1 h h1) {b : Addr} {ob : Obj} (q : h.get? b = some ob) (n : H b = none) (hx : b ∉ ex) : ∃ sl, h1.get? b = some { ob with slots := sl } := by
  by_cases hb : b ∈ fs
  · exact u.slot b ob q n hb hx
  · exact ⟨ob.slots, u.keep b ob q n hb hx⟩
theorem Un.kept (k : ∀ b u, h.get? b = some u → h'.get? b = some u) : Un fs ex H H h h' :=
  ⟨fun b ob q _ _ _ => k b ob q, fun b ob q _ _ _ => ⟨ob.slots, k b ob q⟩, fun _ _ _ n _ => n, fun b ob q _ => ⟨ob, k b ob q⟩, fun _ _ q => q, fun _ _ _ q => q, fun _ ps q => ⟨#[], by rw [q]; simp⟩⟩
theorem Un.refl : Un fs ex H H h h := Un.kept fun _ _ q => q
theorem Un.laid (k : ∀ b u, h.get? b = some u → h'.get? b = some u) (hp : h.objs.size ≤ a) (hn : H a = none) : Un fs ex H (upd H a o) h h' where
  keep := fun b u q _ _ _ => k b u q
  slot := fun b u q _ _ _ => ⟨u.slots, k b u q⟩
  free := fun b u q n _ => by rw [upd_ne (Nat.ne_of_lt (Nat.lt_of_lt_of_le (Heap.lt_size q) hp))]; exact n
  there := fun b u q _ => ⟨u, k b u q⟩
  tups := fun b xs q => by rw [upd_ne (ne_of_none q hn)]; exact q
  frzs := fun b u xs q => by rw [upd_ne (ne_of_none q hn)]; exact q
  tbls := fun b ps q => ⟨#[], by rw [upd_ne (ne_of_none q hn), q]; simp⟩
theorem Un.write (mu : Mut (H x)) (he : e = x ∨ H e = some (.own x)) (k : ∀ b u, b ≠ e → h.get? b = some u → h'.get? b = some u) (heo : ∃ u, h'.get? e = some u) : Un fs ex H (upd H x o) h h' := by
  have hx : ∀ b, H b = none → b ≠ x := fun b n z => by subst z; rw [n] at mu; exact mu
  have hb : ∀ b, H b = none → b ≠ e := fun b n z => by
    subst z
    rcases he with r | r
    · exact hx b n r
    · rw [n] at r; cases r
  have hm : ∀ b u, H b = some u → ¬ Mut (some u) → b ≠ x := fun b u q nm z => by subst z; rw [q] at mu; exact nm mu
  refine ⟨fun b u q n _ _ => k b u (hb b n) q, fun b u q n _ _ => ⟨u.slots, k b u (hb b n) q⟩, fun b u q n _ => by rw [upd_ne (hx b n)]; exact n, fun b u q _ => ?_,
    fun b xs q => by rw [upd_ne (hm b _ q fun z => z)]; exact q, fun b u xs q => by rw [upd_ne (hm b _ q fun z => z)]; exact q, fun b ps q => ⟨#[], by rw [upd_ne (hm b _ q fun z => z), q]; simp⟩⟩
  by_cases hbe : b = e
  · subst hbe; exact heo
  · exact ⟨u, k b u hbe q⟩
end

/-! ### the heap without what is tracked -/
def trk (h : Heap) (H : Hp) : List Addr := (List.range h.objs.size).filter fun a => (H a).isSome
def hidT (h : Heap) (H : Hp) : Heap := PySem.W.hideAll h (trk h H)
theorem hidT_size (h : Heap) (H : Hp) : (hidT h H).objs.size = h.objs.size := PySem.W.hideAll_size _ _
theorem hidT_get {h : Heap} {H : Hp} {b : Addr} {o : Obj} (e : h.get? b = some o) (n : H b = none) : (hidT h H).get? b = some o :=
  PySem.W.hideAll_get _ e fun hm => by
    have q : (H b).isSome = true := (List.mem_filter.mp hm).2
    rw [n] at q; simp at q
theorem of_hidT {h : Heap} {H : Hp} {b : Addr} {o : Obj} (e : (hidT h H).get? b = some o) : h.get? b = some o ∧ H b = none := by
  have e' : h.get? b = some o := PySem.W.of_hideAll (trk h H) e
  refine ⟨e', ?_⟩
  cases q : H b with
  | none => rfl
  | some x =>
    have hm : b ∈ trk h H := List.mem_filter.mpr ⟨List.mem_range.mpr (Heap.lt_size e'), by simp [q]⟩
    have z : (hidT h H).get? b = none := PySem.W.hideAll_none (trk h H) hm
    rw [z] at e; cases e

/-! ### OpenK's ledger, filled with every new object but one -/
def allNews (g h : Heap) (L : Addr) : List (Addr × Obj) := (List.range h.objs.size).filterMap fun a => if a = L ∨ (g.get? a).isSome = true then none else (h.get? a).map fun o => (a, o)
def rest (g h : Heap) (L d : Addr) : List (Addr × Obj) := (allNews g h L).filter fun p => decide (p.1 ≠ d)
end L2

namespace L2
open PySem PySem.Spec PyProof.Rows

/-- the module's facts, over the base: the heap at the law's entry without what is tracked there -/
structure Mod (K : PySem.W.Frag) (mg : Str → Option Value) (base : Heap) : Prop where
  kin : K.In base
  glob : base.Ns mainGlobals mg
  blt : ∃ mb, base.Ns builtinsNs mb ∧ ∀ x : Str, x ≠ "__name__" → mb x = bootBuiltins x
  nolimit : base.NoLimit

/-- the context: a def's body (or a comprehension's block) running. base: fixed through the whole law; s₀, H₀: the entry; outer: the frames whose slots others may change (a def's callers); stack: all frames that run;
   ex: iterators that were made ahead of the entry and are walked here (a comprehension's); fn: the names whose cells were made at the entry (a def: all; a comprehension's block: its own); calm: not within an except suite; pn: pins that every state bears; xe: what is wanted of an exception that leaves the code -/
structure Cx where
  prog : Program
  w : World
  K : PySem.W.Frag
  mg : Str → Option Value
  base : Heap
  A : Around
  N : List Str
  s₀ : Shared
  H₀ : Hp
  env : Env
  outer : List Env
  stack : List Env
  ex : List Addr
  fn : Str → Bool
  calm : Bool
  pn : List (Addr × Obj)
  xe : Value → Shared → Prop
/-- the callers' frames -/
def frs (l : List Env) : List Addr := l.filterMap (·.frame)
abbrev Cx.fs (X : Cx) : List Addr := frs X.outer

def Vis (sc : Scope) (x : Str) : Prop := sc.names.lookup x = some .local ∨ sc.names.lookup x = some .cell ∨ sc.names.lookup x = some .free
def Loc (sc : Scope) (x : Str) : Prop := sc.names.lookup x = some .local ∨ sc.names.lookup x = some .cell
def Look (env : Env) (h : Heap) (m : Str → Option Value) (x : Str) (u : Value) : Prop :=
  (env.kindOf x = some .local ∧ m x = some u) ∨ ((env.kindOf x = some .cell ∨ env.kindOf x = some .free) ∧ ∃ c, env.cells.lookup x = some c ∧ h.IsCell c (some u))

structure Cx.Ok (X : Cx) : Prop where
  mod : Mod X.K X.mg X.base
  kind : X.env.scope.kind = .function
  glob : X.env.globals = mainGlobals
  blt : X.env.builtins = builtinsNs
  above : X.s₀.heap.objs.size ≤ X.env.locals
  inj : ∀ x y c, X.env.cells.lookup x = some c → X.env.cells.lookup y = some c → x = y
  has : ∀ x, (X.env.kindOf x = some .cell ∨ X.env.kindOf x = some .free) → ∃ c, X.env.cells.lookup x = some c
  cab : ∀ x c, X.fn x = true → X.env.cells.lookup x = some c → X.s₀.heap.objs.size ≤ c
  hd : X.calm = true → X.A.handled = none
  frames : X.A.frames = some X.stack
  stk : X.stack = X.outer ∨ (X.stack = X.env :: X.outer ∧ X.env.frame = some X.env.locals)
  exf : ∀ b ∈ X.ex, b ≠ X.env.locals ∧ ∀ x c, X.env.cells.lookup x = some c → c ≠ b
  bs : ∀ b o, X.base.get? b = some o → X.s₀.heap.get? b = some o ∧ X.H₀ b = none
  bsz : X.base.objs.size ≤ X.s₀.heap.objs.size
  noex : ∀ b o, X.base.get? b = some o → b ∉ X.ex
  exfs : ∀ b ∈ X.ex, b ∉ X.fs
  funs : X.s₀.heap.FunFrames X.base X.outer
  frf : ∀ b ∈ X.fs, X.H₀ b = none

structure Inv (X : Cx) (pins : List (Addr × Obj)) (σ : List (Option V)) (H : Hp) (s : Shared) : Prop where
  ok : X.Ok
  os : s.os = X.s₀.os
  bare : AllBare s.gens
  base : Un X.fs X.ex X.H₀ H X.s₀.heap s.heap
  loc : ∃ m, s.heap.Ns X.env.locals m ∧ ∀ (i : Nat) (x : Str) (v : V), X.N[i]? = some x → σ[i]? = some (some v) → Vis X.env.scope x → ∃ u, RelV v u ∧ Look X.env s.heap m x u
  cell : ∀ x c, X.env.cells.lookup x = some c → ∃ v, s.heap.IsCell c v
  free : H X.env.locals = none
  freeC : ∀ x c, X.env.cells.lookup x = some c → H c = none
  pin : ∀ p ∈ X.pn ++ pins, s.heap.get? p.1 = some p.2 ∧ H p.1 = none ∧ p.1 ≠ X.env.locals ∧ p.1 ∉ X.fs ∧ ∀ v, p.2.data ≠ .cell v
  hok : HOk X.prog X.w H s.heap
  len : σ.length = X.N.length

section
variable {X : Cx} {pins : List (Addr × Obj)} {σ : List (Option V)} {H H' : Hp} {s : Shared} {h' : Heap}

theorem Cx.Ok.nofr (ok : X.Ok) {b : Addr} {o : Obj} (e : X.base.get? b = some o) : b ∉ X.fs := fun hb => by
  have := (ok.funs.mem hb).1
  rw [e] at this; cases this
theorem Inv.bs (I : Inv X pins σ H s) : ∀ b o, X.base.get? b = some o → s.heap.get? b = some o ∧ H b = none := fun b o e =>
  ⟨I.base.keep b o (I.ok.bs b o e).1 (I.ok.bs b o e).2 (I.ok.nofr e) (I.ok.noex b o e), I.base.free b o (I.ok.bs b o e).1 (I.ok.bs b o e).2 (I.ok.noex b o e)⟩
theorem Inv.bk (I : Inv X pins σ H s) : ∀ b o, X.base.get? b = some o → s.heap.get? b = some o := fun b o e => (I.bs b o e).1
theorem Inv.mod (I : Inv X pins σ H s) : Mod X.K X.mg X.base := I.ok.mod
theorem Inv.kIn (I : Inv X pins σ H s) : X.K.In s.heap := I.ok.mod.kin.keeps I.bk
theorem Inv.nolimit (I : Inv X pins σ H s) : s.heap.NoLimit := I.ok.mod.nolimit.keeps I.bk
theorem Inv.lt (I : Inv X pins σ H s) : X.env.locals < s.heap.objs.size := let ⟨_, hn, _⟩ := I.loc; hn.lt
theorem Inv.sz (I : Inv X pins σ H s) : X.s₀.heap.objs.size ≤ s.heap.objs.size := Nat.le_trans I.ok.above (Nat.le_of_lt I.lt)
theorem Inv.nofs (I : Inv X pins σ H s) {a : Addr} (h : s.heap.objs.size ≤ a) : a ∉ X.fs := fun hb => by
  obtain ⟨_, o, ho, _⟩ := I.ok.funs.mem hb
  exact absurd (Nat.lt_of_lt_of_le (Heap.lt_size ho) (Nat.le_trans I.sz h)) (Nat.lt_irrefl _)
theorem Inv.cne (I : Inv X pins σ H s) : ∀ x c, X.env.cells.lookup x = some c → c ≠ X.env.locals := fun x c e z => by
  obtain ⟨v, o, ho, hd⟩ := I.cell x c e
  obtain ⟨m, ⟨o', es, ep, ho', hd', _⟩, _⟩ := I.loc
  rw [z, ho'] at ho; cases ho; rw [hd'] at hd; cases hd
theorem Inv.funs (I : Inv X pins σ H s) : s.heap.FunFrames X.base X.outer := by
  have all : ∀ (l : List Env), (∀ b ∈ frs l, b ∈ X.fs) → X.s₀.heap.FunFrames X.base l → s.heap.FunFrames X.base l := by
    intro l
    induction l with
    | nil => intro _ _; trivial
    | cons env r ih =>
      intro hs hl
      obtain ⟨hk, ⟨L, o, hf, hn, ho, hd⟩, hr⟩ := hl
      have hL : L ∈ X.fs := hs L (by unfold frs; rw [List.filterMap_cons, hf]; exact List.mem_cons_self)
      obtain ⟨sl, e⟩ := I.base.slot L o ho (I.ok.frf L hL) hL fun z => I.ok.exfs L z hL
      exact ⟨hk, ⟨L, _, hf, hn, e, hd⟩, ih (fun b hb => hs b (by unfold frs; rw [List.filterMap_cons, hf]; exact List.mem_cons_of_mem _ hb)) hr⟩
  exact all X.outer (fun _ hb => hb) I.ok.funs

/-- the frames that run, for a call -/
theorem Inv.stack (I : Inv X pins σ H s) : s.heap.FunFrames X.base X.stack := by
  rcases I.ok.stk with e | ⟨e, hf⟩
  · rw [e]; exact I.funs
  · rw [e]
    obtain ⟨m, hn, _⟩ := I.loc
    refine .cons (by rw [I.ok.kind]; decide) hf hn ?_ I.funs
    exact Heap.get?_none_of_le (Nat.le_trans I.ok.bsz I.ok.above)
theorem Inv.stkSub (I : Inv X pins σ H s) : ∀ b ∈ frs X.stack, b ∈ X.env.locals :: X.fs := fun b hb => by
  rcases I.ok.stk with e | ⟨e, hf⟩
  · rw [e] at hb; exact List.mem_cons_of_mem _ hb
  · rw [e] at hb
    unfold frs at hb
    rw [List.filterMap_cons, hf] at hb
    exact hb
theorem Inv.stkFree (I : Inv X pins σ H s) : ∀ b ∈ frs X.stack, H b = none := fun b hb => by
  rcases List.mem_cons.mp (I.stkSub b hb) with e | hb
  · rw [e]; exact I.free
  · obtain ⟨_, o, ho, _⟩ := I.ok.funs.mem hb
    exact I.base.free b o ho (I.ok.frf b hb) fun z => I.ok.exfs b z hb

/-- THE STEP: the untracked objects but the frame and the records at ch are kept (the callers' frames up to slots), the frame's map is kept, the new abstract heap is held -/
theorem Inv.step {g' : Array GenState} {t' : Nat} {d' : Drawn} {ch : List Addr} (I : Inv X pins σ H s)
    (hch : ∀ b ∈ ch, (b ∈ X.ex ∨ X.s₀.heap.objs.size ≤ b) ∧ b ≠ X.env.locals ∧ (∀ x c, X.env.cells.lookup x = some c → c ≠ b) ∧ ∀ p ∈ X.pn ++ pins, p.1 ≠ b)
    (keep : ∀ b o, b ≠ X.env.locals → b ∉ X.fs → b ∉ ch → s.heap.get? b = some o → H b = none → h'.get? b = some o)
    (slot : ∀ b o, b ≠ X.env.locals → b ∈ X.fs → b ∉ ch → s.heap.get? b = some o → H b = none → ∃ sl, h'.get? b = some { o with slots := sl }) (free : ∀ b o, b ∉ ch → s.heap.get? b = some o → H b = none → H' b = none)
    (there : ∀ b o, b ∉ ch → s.heap.get? b = some o → ∃ o', h'.get? b = some o')
    (tups : ∀ b xs, H b = some (.tup xs) → H' b = some (.tup xs)) (frzs : ∀ b o u, H b = some (.frz o u) → H' b = some (.frz o u)) (tbls : ∀ b ps, H b = some (.tbl ps) → ∃ more, H' b = some (.tbl (ps ++ more)))
    (ns : ∀ m, s.heap.Ns X.env.locals m → h'.Ns X.env.locals m) (hok : HOk X.prog X.w H' h') (hg : AllBare g') :
    Inv X pins σ H' { s with heap := h', gens := g', drawn := d', toks := t' } := by
  have neL : ∀ b o, X.s₀.heap.get? b = some o → b ≠ X.env.locals := fun b o e => Nat.ne_of_lt (Nat.lt_of_lt_of_le (Heap.lt_size e) I.ok.above)
  have neC : ∀ b o, X.s₀.heap.get? b = some o → b ∉ X.ex → b ∉ ch := fun b o e hx hb => by
    rcases (hch b hb).1 with z | z
    · exact hx z
    · exact absurd (Nat.lt_of_lt_of_le (Heap.lt_size e) z) (Nat.lt_irrefl _)
  have cellK : ∀ x c, X.env.cells.lookup x = some c → ∀ v, s.heap.IsCell c v → h'.IsCell c v := fun x c e v ⟨o, ho, hd⟩ => by
    have nch : c ∉ ch := fun z => (hch c z).2.2.1 x c e rfl
    by_cases hc : c ∈ X.fs
    · obtain ⟨sl, q⟩ := slot c o (I.cne x c e) hc nch ho (I.freeC x c e)
      exact ⟨_, q, hd⟩
    · exact ⟨o, keep c o (I.cne x c e) hc nch ho (I.freeC x c e), hd⟩
  refine ⟨I.ok, I.os, hg, ⟨fun b o e n hb hx => ?_, fun b o e n hb hx => ?_, fun b o e n hx => ?_, fun b o e hx => ?_, fun b xs e => tups b xs (I.base.tups b xs e), fun b o xs e => frzs b o xs (I.base.frzs b o xs e), fun b ps e => ?_⟩, ?_, fun x c e => ?_, ?_, fun x c e => ?_, fun p hp => ?_, hok, I.len⟩
  · exact keep b o (neL b o e) hb (neC b o e hx) (I.base.keep b o e n hb hx) (I.base.free b o e n hx)
  · obtain ⟨sl, e1⟩ := I.base.slot b o e n hb hx
    obtain ⟨sl', e2⟩ := slot b _ (neL b o e) hb (neC b o e hx) e1 (I.base.free b o e n hx)
    exact ⟨sl', e2⟩
  · obtain ⟨o', e1⟩ := I.base.there b o e hx
    exact free b o' (neC b o e hx) e1 (I.base.free b o e n hx)
  · obtain ⟨o', e1⟩ := I.base.there b o e hx
    exact there b o' (neC b o e hx) e1
  · obtain ⟨m1, e1⟩ := I.base.tbls b ps e
    obtain ⟨m2, e2⟩ := tbls b _ e1
    exact ⟨m1 ++ m2, by rw [e2, Array.append_assoc]⟩
  · obtain ⟨m, hn, hl⟩ := I.loc
    refine ⟨m, ns m hn, fun i x v e1 e2 e3 => ?_⟩
    obtain ⟨u, r, l⟩ := hl i x v e1 e2 e3
    refine ⟨u, r, ?_⟩
    rcases l with l | ⟨k, c, e, z⟩
    · exact .inl l
    · exact .inr ⟨k, c, e, cellK x c e _ z⟩
  · obtain ⟨v, z⟩ := I.cell x c e
    exact ⟨v, cellK x c e v z⟩
  · obtain ⟨m, ⟨o, _, _, ho, _⟩, _⟩ := I.loc
    exact free _ o (fun z => (hch _ z).2.1 rfl) ho I.free
  · obtain ⟨v, o, ho, hd⟩ := I.cell x c e
    exact free c o (fun z => (hch c z).2.2.1 x c e rfl) ho (I.freeC x c e)
  · obtain ⟨e, n, ne, nf, d⟩ := I.pin p hp
    have nch : p.1 ∉ ch := fun z => (hch p.1 z).2.2.2 p hp rfl
    exact ⟨keep p.1 p.2 ne nf nch e n, free p.1 p.2 nch e n, ne, nf, d⟩
/-- .. where the frame's own object is kept too -/
theorem Inv.un {t' : Nat} (I : Inv X pins σ H s) (u : Un X.fs [] H H' s.heap h') (hok : HOk X.prog X.w H' h') : Inv X pins σ H' { s with heap := h', toks := t' } := by
  obtain ⟨m, ⟨o, es, ep, ho, r⟩, _⟩ := id I.loc
  obtain ⟨sl, hL⟩ := u.any ho I.free (by simp)
  exact I.step (g' := s.gens) (d' := s.drawn) (ch := []) (fun _ z => nomatch z) (fun b o _ hb _ e n => u.keep b o e n hb (by simp)) (fun b o _ hb _ e n => u.slot b o e n hb (by simp)) (fun b o _ e n => u.free b o e n (by simp)) (fun b o _ e => u.there b o e (by simp)) u.tups u.frzs u.tbls (fun m' hm => by
    obtain ⟨o', es', ep', ho', r'⟩ := hm
    rw [ho] at ho'; cases ho'
    exact ⟨_, es', ep', hL, r'⟩) hok I.bare
/-- behind a call (or a comprehension's block): the slots of this frame may have changed too, the records at ch may have turned -/
theorem Inv.call {g' : Array GenState} {t' : Nat} {d' : Drawn} {ch : List Addr} (I : Inv X pins σ H s) (u : Un (frs X.stack) ch H H' s.heap h') (hok : HOk X.prog X.w H' h') (hg : AllBare g')
    (hch : ∀ b ∈ ch, (b ∈ X.ex ∨ X.s₀.heap.objs.size ≤ b) ∧ b ≠ X.env.locals ∧ (∀ x c, X.env.cells.lookup x = some c → c ≠ b) ∧ ∀ p ∈ X.pn ++ pins, p.1 ≠ b) :
    Inv X pins σ H' { s with heap := h', gens := g', drawn := d', toks := t' } := by
  obtain ⟨m, ⟨o, es, ep, ho, r⟩, _⟩ := id I.loc
  obtain ⟨sl, hL⟩ := u.any ho I.free fun z => (hch _ z).2.1 rfl
  exact I.step (ch := ch) hch (fun b o hL hb hc e n => u.keep b o e n (fun z => (List.mem_cons.mp (I.stkSub b z)).elim hL hb) hc) (fun b o _ _ hc e n => u.any e n hc) (fun b o hc e n => u.free b o e n hc) (fun b o hc e => u.there b o e hc) u.tups u.frzs u.tbls (fun m' hm => by
    obtain ⟨o', es', ep', ho', r'⟩ := hm
    rw [ho] at ho'; cases ho'
    exact ⟨_, es', ep', hL, r'⟩) hok hg
/-- an untracked record of ours (an iterator) has turned -/
theorem Inv.turned {t' : Nat} {it : Addr} (I : Inv X pins σ H s) (k : ∀ b o, b ≠ it → s.heap.get? b = some o → h'.get? b = some o) (hn : H it = none) (hL : it ≠ X.env.locals)
    (h1 : it ∈ X.ex ∨ X.s₀.heap.objs.size ≤ it) (h2 : ∀ x c, X.env.cells.lookup x = some c → c ≠ it) (h3 : ∀ p ∈ X.pn ++ pins, p.1 ≠ it) : Inv X pins σ H { s with heap := h', toks := t' } := by
  have nit : ∀ b u, H b = some u → b ≠ it := fun b u e z => by rw [z, hn] at e; cases e
  refine I.step (g' := s.gens) (d' := s.drawn) (ch := [it]) (fun b hb => ?_) (fun b o _ _ hc e _ => k b o (fun z => hc (by simp [z])) e) (fun b o _ _ hc e _ => ⟨o.slots, k b o (fun z => hc (by simp [z])) e⟩) (fun _ _ _ _ n => n)
    (fun b o hc e => ⟨o, k b o (fun z => hc (by simp [z])) e⟩) (fun _ _ e => e) (fun _ _ _ e => e) (fun b ps e => ⟨#[], by rw [e]; simp⟩) (fun m hm => ?_) (fun b u e => ?_) I.bare
  · have e : b = it := by simpa using hb
    subst e
    exact ⟨h1, hL, h2, h3⟩
  · obtain ⟨o, es, ep, ho, r⟩ := hm
    exact ⟨o, es, ep, k _ o (Ne.symm hL) ho, r⟩
  · refine (I.hok b u e).stay (fun c v hc q => k c v ?_ q) (fun _ q => q) fun _ _ q => q
    rcases hc with z | z
    · rw [z]; exact nit b u e
    · exact nit c _ z
theorem Inv.tok (I : Inv X pins σ H s) (t : Nat) : Inv X pins σ H { s with toks := t } := I.un (h' := s.heap) (t' := t) Un.refl I.hok
/-- all objects kept -/
theorem Inv.kept {t' : Nat} (I : Inv X pins σ H s) (k : ∀ b u, s.heap.get? b = some u → h'.get? b = some u) : Inv X pins σ H { s with heap := h', toks := t' } := I.un (Un.kept k) (I.hok.kept k)
/-- a new object laid and tracked -/
theorem Inv.laid {a : Addr} {o : HO} {t' : Nat} (I : Inv X pins σ H s) (k : ∀ b u, s.heap.get? b = some u → h'.get? b = some u) (hp : s.heap.objs.size ≤ a) (new : ObjOk X.prog X.w (upd H a o) h' a o) :
    Inv X pins σ (upd H a o) { s with heap := h', toks := t' } := I.un (Un.laid k hp (I.hok.fresh hp)) (I.hok.laid k hp new)
/-- an object written -/
theorem Inv.write {x e : Addr} {o : HO} {t' : Nat} (I : Inv X pins σ H s) (mu : Mut (H x)) (he : e = x ∨ H e = some (.own x)) (k : ∀ b u, b ≠ e → s.heap.get? b = some u → h'.get? b = some u) (heo : ∃ u, h'.get? e = some u)
    (new : ObjOk X.prog X.w (upd H x o) h' x o) : Inv X pins σ (upd H x o) { s with heap := h', toks := t' } := I.un (Un.write mu he k heo) (I.hok.write mu he k heo new)
theorem Inv.pins_of {pins' : List (Addr × Obj)} (I : Inv X pins σ H s) (h : ∀ p ∈ pins', s.heap.get? p.1 = some p.2 ∧ H p.1 = none ∧ p.1 ≠ X.env.locals ∧ p.1 ∉ X.fs ∧ ∀ v, p.2.data ≠ .cell v) : Inv X pins' σ H s :=
  ⟨I.ok, I.os, I.bare, I.base, I.loc, I.cell, I.free, I.freeC, fun p hp => (List.mem_append.mp hp).elim (fun z => I.pin p (List.mem_append_left _ z)) (h p), I.hok, I.len⟩

theorem nodup_ix {N : List Str} (hN : N.Nodup) {i j : Nat} {x : Str} (a : N[i]? = some x) (b : N[j]? = some x) : i = j := by
  obtain ⟨h1, e1⟩ := List.getElem?_eq_some_iff.mp a
  obtain ⟨h2, e2⟩ := List.getElem?_eq_some_iff.mp b
  exact (List.getElem_inj hN).mp (e1.trans e2.symm)

/-- a name is stored; what changed -/
theorem store_ok2 {M : Model} {A : Around} {E : Value → Shared → Prop} {i : Nat} {x : Str} {v : V} {u : Value} {Q : Unit → Shared → Prop} (I : Inv X pins σ H s) (hN : X.N.Nodup) (hi : X.N[i]? = some x) (hx : Loc X.env.scope x) (r : RelV v u)
    (h : ∀ s', Inv X pins (σ.set i (some v)) H s' → (∃ a, Heap.SameBut a s.heap s'.heap ∧ (a = X.env.locals ∨ X.env.cells.lookup x = some a)) → Q () s') (hf : X.fn x = true ∨ X.env.scope.names.lookup x = some .local := by first | exact .inl rfl | exact .inr rfl | assumption) : wpAny M A (storeName X.env x u) Q E s := by
  obtain ⟨m, hn, hl⟩ := id I.loc
  have hcls : (X.env.scope.kind == .class || (X.env.scope.kind == .module && X.env.locals != X.env.globals)) = false := by rw [I.ok.kind]; rfl
  have hiσ : i < σ.length := by rw [I.len]; exact (List.getElem?_eq_some_iff.mp hi).1
  have cne := I.cne
  have tracked : ∀ {a : Addr} {h' : Heap}, (∃ o, s.heap.get? a = some o ∧ H a = none) → Heap.SameBut a s.heap h' → HOk X.prog X.w H h' := fun {a h'} ha hs b ob e => by
    obtain ⟨_, _, hfree⟩ := ha
    refine (I.hok b ob e).stay (fun c w' hc q => (hs.2 c ?_).trans q) (fun _ q => q) fun _ _ q => q
    rintro rfl
    rcases hc with rfl | hc
    · rw [hfree] at e; cases e
    · rw [hfree] at hc; cases hc
  rcases hx with hk | hk
  · refine wpAny_storeName_local hk hn (fun h' hn' hs => ?_) hcls
    obtain ⟨oL, _, _, hoL, _⟩ := id hn
    refine h _ ⟨I.ok, I.os, I.bare, ⟨fun b o e n hb hx => ?_, fun b o e n hb hx => ?_, I.base.free, fun b o e hx => ?_, I.base.tups, I.base.frzs, I.base.tbls⟩, ⟨_, hn', fun j y v' e1 e2 e3 => ?_⟩, fun y c e => ?_, I.free, I.freeC, fun p hp => ?_, tracked ⟨oL, hoL, I.free⟩ hs, by simpa using I.len⟩ ⟨_, hs, .inl rfl⟩
    · exact (hs.2 b (Nat.ne_of_lt (Nat.lt_of_lt_of_le (Heap.lt_size e) I.ok.above))).trans (I.base.keep b o e n hb hx)
    · obtain ⟨sl, e1⟩ := I.base.slot b o e n hb hx
      exact ⟨sl, (hs.2 b (Nat.ne_of_lt (Nat.lt_of_lt_of_le (Heap.lt_size e) I.ok.above))).trans e1⟩
    · obtain ⟨o', e1⟩ := I.base.there b o e hx
      exact ⟨o', (hs.2 b (Nat.ne_of_lt (Nat.lt_of_lt_of_le (Heap.lt_size e) I.ok.above))).trans e1⟩
    · by_cases hj : j = i
      · subst hj
        rw [hi] at e1; cases e1
        rw [List.getElem?_set_self hiσ] at e2
        cases e2
        exact ⟨u, r, .inl ⟨hk, by simp⟩⟩
      · rw [List.getElem?_set_ne (Ne.symm hj)] at e2
        obtain ⟨u', r', q⟩ := hl j y v' e1 e2 e3
        refine ⟨u', r', ?_⟩
        rcases q with ⟨k, e⟩ | ⟨k, c, e, z⟩
        · refine .inl ⟨k, ?_⟩
          have : y ≠ x := fun e => hj (nodup_ix hN e1 (e ▸ hi))
          simp [this, e]
        · exact .inr ⟨k, c, e, z.sameBut hs (cne y c e)⟩
    · obtain ⟨w', z⟩ := I.cell y c e
      exact ⟨w', z.sameBut hs (cne y c e)⟩
    · obtain ⟨e, n, ne, nf, d⟩ := I.pin p hp
      exact ⟨(hs.2 p.1 ne).trans e, n, ne, nf, d⟩
  · have hfn : X.fn x = true := by
      rcases hf with z | z
      · exact z
      · rw [z] at hk; cases hk
    obtain ⟨c, hc⟩ := I.ok.has x (.inl hk)
    obtain ⟨w', z⟩ := I.cell x c hc
    refine wpAny_storeName_cell I.ok.kind hk hc z (fun h' hc' hs => ?_)
    obtain ⟨oc, hoc, hocd⟩ := id z
    refine h { s with heap := h' } ⟨I.ok, I.os, I.bare, ⟨fun b o e n hb hx => ?_, fun b o e n hb hx => ?_, I.base.free, fun b o e hx => ?_, I.base.tups, I.base.frzs, I.base.tbls⟩, ⟨m, hn.sameBut hs (Ne.symm (cne x c hc)), fun j y v' e1 e2 e3 => ?_⟩, fun y c' e => ?_, I.free, I.freeC, fun p hp => ?_, tracked ⟨oc, hoc, I.freeC x c hc⟩ hs, by simpa using I.len⟩ ⟨c, hs, .inr hc⟩
    · exact (hs.2 b (Nat.ne_of_lt (Nat.lt_of_lt_of_le (Heap.lt_size e) (I.ok.cab x c hfn hc)))).trans (I.base.keep b o e n hb hx)
    · obtain ⟨sl, e1⟩ := I.base.slot b o e n hb hx
      exact ⟨sl, (hs.2 b (Nat.ne_of_lt (Nat.lt_of_lt_of_le (Heap.lt_size e) (I.ok.cab x c hfn hc)))).trans e1⟩
    · obtain ⟨o', e1⟩ := I.base.there b o e hx
      exact ⟨o', (hs.2 b (Nat.ne_of_lt (Nat.lt_of_lt_of_le (Heap.lt_size e) (I.ok.cab x c hfn hc)))).trans e1⟩
    · by_cases hj : j = i
      · subst hj
        rw [hi] at e1; cases e1
        rw [List.getElem?_set_self hiσ] at e2
        cases e2
        exact ⟨u, r, .inr ⟨.inl hk, c, hc, hc'⟩⟩
      · rw [List.getElem?_set_ne (Ne.symm hj)] at e2
        obtain ⟨u', r', q⟩ := hl j y v' e1 e2 e3
        refine ⟨u', r', ?_⟩
        rcases q with q | ⟨k, c', e, z'⟩
        · exact .inl q
        · refine .inr ⟨k, c', e, z'.sameBut hs ?_⟩
          rintro rfl
          exact hj (nodup_ix hN e1 (I.ok.inj _ _ _ e hc ▸ hi))
    · by_cases hcc : c' = c
      · subst hcc; exact ⟨_, hc'⟩
      · obtain ⟨w2, z2⟩ := I.cell y c' e
        exact ⟨w2, z2.sameBut hs hcc⟩
    · obtain ⟨e, n, ne, nf, d⟩ := I.pin p hp
      refine ⟨(hs.2 p.1 ?_).trans e, n, ne, nf, d⟩
      intro q
      rw [q, hoc] at e
      have q' : oc = p.2 := Option.some.inj e
      exact d w' (by rw [← q']; exact hocd)
theorem store_ok {M : Model} {A : Around} {E : Value → Shared → Prop} {i : Nat} {x : Str} {v : V} {u : Value} {Q : Unit → Shared → Prop} (I : Inv X pins σ H s) (hN : X.N.Nodup) (hi : X.N[i]? = some x) (hx : Loc X.env.scope x) (r : RelV v u)
    (h : ∀ s', Inv X pins (σ.set i (some v)) H s' → Q () s') (hf : X.fn x = true ∨ X.env.scope.names.lookup x = some .local := by first | exact .inl rfl | exact .inr rfl | assumption) : wpAny M A (storeName X.env x u) Q E s :=
  store_ok2 I hN hi hx r (fun s' I' _ => h s' I') hf
/-- behind a call or a block, the state as it is -/
theorem Inv.call' {s' : Shared} {ch : List Addr} (I : Inv X pins σ H s) (ho : s'.os = s.os) (u : Un (frs X.stack) ch H H' s.heap s'.heap) (hok : HOk X.prog X.w H' s'.heap) (hg : AllBare s'.gens)
    (hch : ∀ b ∈ ch, (b ∈ X.ex ∨ X.s₀.heap.objs.size ≤ b) ∧ b ≠ X.env.locals ∧ (∀ x c, X.env.cells.lookup x = some c → c ≠ b) ∧ ∀ p ∈ X.pn ++ pins, p.1 ≠ b) : Inv X pins σ H' s' := by
  obtain ⟨h', g', d', t', o'⟩ := s'
  have e : o' = s.os := ho
  subst e
  exact I.call (g' := g') (t' := t') (d' := d') u hok hg hch
end

/-! ### the judgements -/
/-- an exception: its class, its own dict's address (where it has one), the abstract heap behind it -/
abbrev XK := Value → Option Addr → Hp → Prop
abbrev St := List (Option V)
abbrev VK := V → Hp → Prop
/-- an expression's reading; a test's; an argument list's -/
abbrev TE := St → Hp → VK → Prop
abbrev TT := St → Hp → (Bool → Hp → Prop) → Prop
abbrev TA := St → Hp → (List V → Hp → Prop) → Prop
/-- what is wanted behind a statement -/
structure Ends where
  nx : St → Hp → Prop
  rt : VK
  bk : St → Hp → Prop := fun _ _ => False
  ct : St → Hp → Prop := fun _ _ => False
abbrev TS := Ends → St → Hp → Prop

def EP (X : Cx) (pins : List (Addr × Obj)) (σ : St) (Q : VK) (u : Value) (s' : Shared) : Prop := ∃ v H', Inv X pins σ H' s' ∧ RelV v u ∧ Q v H'
def TP (X : Cx) (pins : List (Addr × Obj)) (σ : St) (Q : Bool → Hp → Prop) (b : Bool) (s' : Shared) : Prop := ∃ H', Inv X pins σ H' s' ∧ Q b H'
def AP (X : Cx) (pins : List (Addr × Obj)) (σ : St) (Q : List V → Hp → Prop) (us : List Value) (s' : Shared) : Prop := ∃ vs H', Inv X pins σ H' s' ∧ Vals vs us ∧ Q vs H'
def SP (X : Cx) (pins : List (Addr × Obj)) (D : Ends) (f : Flow) (s' : Shared) : Prop :=
  match f with
  | .next => ∃ σ' H', Inv X pins σ' H' s' ∧ D.nx σ' H'
  | .brk => ∃ σ' H', Inv X pins σ' H' s' ∧ D.bk σ' H'
  | .cont => ∃ σ' H', Inv X pins σ' H' s' ∧ D.ct σ' H'
  | .ret u => ∃ v σ' H', Inv X pins σ' H' s' ∧ RelV v u ∧ D.rt v H'

def PE (X : Cx) (e : Expr) (t : TE) : Prop :=
  ∀ (pins : List (Addr × Obj)) (s : Shared) (σ : St) (H : Hp) (Q : VK), Inv X pins σ H s → t σ H Q → wpAny (model X.prog X.w) X.A (eval e X.env) (EP X pins σ Q) X.xe s
def PT (X : Cx) (e : Expr) (t : TT) : Prop :=
  ∀ (pins : List (Addr × Obj)) (s : Shared) (σ : St) (H : Hp) (Q : Bool → Hp → Prop), Inv X pins σ H s → t σ H Q → wpAny (model X.prog X.w) X.A (isTrue e X.env (eval e X.env)) (TP X pins σ Q) X.xe s
/-- a test whatever its 'whole' is (and, or) -/
def PW (X : Cx) (e : Expr) (t : TT) : Prop :=
  ∀ (whole : Sem Value) (pins : List (Addr × Obj)) (s : Shared) (σ : St) (H : Hp) (Q : Bool → Hp → Prop), Inv X pins σ H s → t σ H Q → wpAny (model X.prog X.w) X.A (isTrue e X.env whole) (TP X pins σ Q) X.xe s
theorem PW.pt {X : Cx} {e : Expr} {t : TT} (h : PW X e t) : PT X e t := h _
/-- an argument list (no star), from the left -/
def PA (X : Cx) (es : List Expr) (t : TA) : Prop :=
  ∀ (pos : Pos) (pins : List (Addr × Obj)) (s : Shared) (σ : St) (H : Hp) (Q : List V → Hp → Prop), Inv X pins σ H s → t σ H Q → wpAny (model X.prog X.w) X.A (spliced (backTo pos (starEach es X.env))) (AP X pins σ Q) X.xe s
def PS (X : Cx) (st : Stmt) (t : TS) : Prop :=
  ∀ (pins : List (Addr × Obj)) (s : Shared) (σ : St) (H : Hp) (D : Ends), Inv X pins σ H s → t D σ H → wpAny (model X.prog X.w) X.A (exec st X.env) (SP X pins D) X.xe s
def PSs (X : Cx) (st : List Stmt) (t : TS) : Prop :=
  ∀ (pins : List (Addr × Obj)) (s : Shared) (σ : St) (H : Hp) (D : Ends), Inv X pins σ H s → t D σ H → wpAny (model X.prog X.w) X.A (execs st X.env) (SP X pins D) X.xe s
/-- weaken the end -/
theorem thn {α : Type} {t : Sem α} {Q Q' : α → Shared → Prop} {M : Model} {A : Around} {E : Value → Shared → Prop} {s : Shared} (h : wpAny M A t Q E s) (hQ : ∀ a s, Q a s → Q' a s) : wpAny M A t Q' E s := wpAny_mono h hQ fun _ _ x => x
end L2

namespace L2
open PySem PySem.Spec PyProof.Rows
section
variable {X : Cx}

/-- two expressions in a row -/
theorem bin {a b : Expr} {ta tb : TE} (ha : PE X a ta) (hb : PE X b tb) {pins : List (Addr × Obj)} {s : Shared} {σ : St} {H : Hp} {R : V → V → Hp → Prop} (I : Inv X pins σ H s) (h : ta σ H fun x H1 => tb σ H1 fun y H2 => R x y H2)
    {α : Type} {Q : α → Shared → Prop} {f : Value → Value → Sem α}
    (hf : ∀ v u s2 x y H2, Inv X pins σ H2 s2 → RelV x v → RelV y u → R x y H2 → wpAny (model X.prog X.w) X.A (f v u) Q X.xe s2) :
    wpAny (model X.prog X.w) X.A (eval a X.env) (fun v s₁ => wpAny (model X.prog X.w) X.A (eval b X.env) (fun u s₂ => wpAny (model X.prog X.w) X.A (f v u) Q X.xe s₂) X.xe s₁) X.xe s := by
  refine thn (ha pins s σ H _ I h) fun v s1 ⟨x, H1, I1, r1, q1⟩ => ?_
  refine thn (hb pins s1 σ H1 _ I1 q1) fun u s2 ⟨y, H2, I2, r2, q2⟩ => ?_
  exact hf v u s2 x y H2 I2 r1 r2 q2

/-! ### names and constants -/
def tVar (i : Nat) : TE := fun σ H Q => ∃ v, σ[i]? = some (some v) ∧ Q v H
def tC (v : V) : TE := fun _ H Q => Q v H
theorem pe_var {i : Nat} {x : Str} {pos : Pos} (hN : X.N[i]? = some x) (hv : Vis X.env.scope x) (hd : (x == ("__debug__" : Str)) = false := by decide) (hcd : (x == ("__classdict__" : Str)) = false := by decide) : PE X (.Name x pos) (tVar i) := by
  intro pins s σ H Q I h
  obtain ⟨v, e, h⟩ := h
  obtain ⟨m, hn, hl⟩ := I.loc
  obtain ⟨u, r, l⟩ := hl i x v hN e hv
  have fin : EP X pins σ Q u s := ⟨v, H, I, r, h⟩
  rcases l with ⟨hk, hm⟩ | ⟨hk, c, hc, hcell⟩
  · exact wpAny_Name (wpAny_loadName_local I.ok.kind hk hn hm fin) hd
  · rcases hk with hk | hk
    · exact wpAny_Name (wpAny_loadName_cell I.ok.kind hk hc hcell fin) hd
    · exact wpAny_Name (wpAny_loadName_free I.ok.kind hk hc hcell fin hcd) hd
theorem pe_int {i j pos} : PE X (.Constant (.int i) j pos) (tC (.int i)) := fun _ _ _ H _ I h => wpAny_Constant_int ⟨.int i, H, I.tok _, ⟨_, rfl⟩, h⟩
theorem pe_bl {b j pos} : PE X (.Constant (.bool b) j pos) (tC (.bl b)) := fun _ _ _ H _ I h => Constant_bool ⟨.bl b, H, I, rfl, h⟩
theorem pe_non {j pos} : PE X (.Constant .none j pos) (tC .non) := fun _ _ _ H _ I h => Constant_none ⟨.non, H, I, rfl, h⟩
theorem pe_str {x j pos} : PE X (.Constant (.str x) j pos) (tC (.str x)) := fun _ _ _ H _ I h => Calls.Constant_str ⟨.str x, H, I.tok _, ⟨_, rfl⟩, h⟩

/-- a global name of the def -/
def Gl (X : Cx) (x : Str) : Prop := X.env.kindOf x = some .globalImplicit
theorem ld_glob {E : Value → Shared → Prop} {pins : List (Addr × Obj)} {s : Shared} {σ : St} {H : Hp} {x : Str} {u : Value} {pos : Pos} {Q : Value → Shared → Prop} (I : Inv X pins σ H s) (hg : Gl X x) (hm : X.mg x = some u) (h : Q u s)
    (hd : (x == ("__debug__" : Str)) = false := by decide) : wpAny (model X.prog X.w) X.A (eval (.Name x pos) X.env) Q E s :=
  Calls.Name_function_global I.ok.kind hg (Calls.loadGlobal_global (by rw [I.ok.glob]; exact I.mod.glob.keeps I.bk) hm h) hd
theorem ld_blt {E : Value → Shared → Prop} {pins : List (Addr × Obj)} {s : Shared} {σ : St} {H : Hp} {x : Str} {u : Value} {pos : Pos} {Q : Value → Shared → Prop} (I : Inv X pins σ H s) (hg : Gl X x) (hm : X.mg x = none) (hv : bootBuiltins x = some u) (h : Q u s)
    (hn : x ≠ "__name__" := by decide) (hd : (x == ("__debug__" : Str)) = false := by decide) : wpAny (model X.prog X.w) X.A (eval (.Name x pos) X.env) Q E s := by
  obtain ⟨mb, h1, h2⟩ := I.mod.blt
  exact Calls.Name_function_global I.ok.kind hg (Calls.loadGlobal_builtin (by rw [I.ok.glob]; exact I.mod.glob.keeps I.bk) hm (by rw [I.ok.blt]; exact h1.keeps I.bk) ((h2 x hn).trans hv) h) hd
theorem pe_bltn {x : Str} {v : V} {u : Value} {pos : Pos} (hg : Gl X x) (hm : X.mg x = none) (hv : bootBuiltins x = some u) (r : RelV v u) (hn : x ≠ "__name__" := by decide) (hd : (x == ("__debug__" : Str)) = false := by decide) : PE X (.Name x pos) (tC v) :=
  fun _ _ _ H _ I h => ld_blt I hg hm hv ⟨v, H, I, r, h⟩ hn hd

/-! ### arithmetic -/
/-- two ints -/
def t2I (ta tb : TE) (k : Int → Int → Hp → Prop) : St → Hp → Prop := fun σ H => ta σ H fun x H1 => tb σ H1 fun y H2 => ∃ i j, x = .int i ∧ y = .int j ∧ k i j H2
def tAdd (ta tb : TE) : TE := fun σ H Q => t2I ta tb (fun i j H2 => Q (.int (i + j)) H2) σ H
def tSub (ta tb : TE) : TE := fun σ H Q => t2I ta tb (fun i j H2 => Q (.int (i - j)) H2) σ H
/-- the left factor below 2^64 -/
def tMul (ta tb : TE) : TE := fun σ H Q => t2I ta tb (fun i j H2 => (-(2 ^ 64) < i ∧ i < 2 ^ 64) ∧ Q (.int (i * j)) H2) σ H
variable {a b : Expr} {ta tb : TE} {pos : Pos}
/-! ### comparisons -/
def PC (X : Cx) (op : CmpOp) (a b : Expr) (t : TE) : Prop :=
  ∀ (pins : List (Addr × Obj)) (s : Shared) (σ : St) (H : Hp) (Q : VK), Inv X pins σ H s → t σ H Q →
    wpAny (model X.prog X.w) X.A (eval a X.env) (fun v s₁ => wpAny (model X.prog X.w) X.A (eval b X.env) (fun u s₂ => wpAny (model X.prog X.w) X.A (compareOp op v u) (EP X pins σ Q) X.xe s₂) X.xe s₁) X.xe s
def tCmp (p : Int → Int → Bool) (ta tb : TE) : TE := fun σ H Q => t2I ta tb (fun i j H2 => Q (.bl (p i j)) H2) σ H
abbrev tLt : TE → TE → TE := tCmp fun i j => decide (i < j)
abbrev tLe : TE → TE → TE := tCmp fun i j => decide (i ≤ j)
abbrev tGt : TE → TE → TE := tCmp fun i j => decide (j < i)
abbrev tGe : TE → TE → TE := tCmp fun i j => decide (j ≤ i)
abbrev tEqI : TE → TE → TE := tCmp fun i j => decide (i = j)
abbrev tNeI : TE → TE → TE := tCmp fun i j => !decide (i = j)
/-- is None -/
def tIsN (ta : TE) : TE := fun σ H Q => ta σ H fun x H1 => Q (.bl (decide (x = .non))) H1
def tNotN (ta : TE) : TE := fun σ H Q => ta σ H fun x H1 => Q (.bl (!decide (x = .non))) H1
/-- a comparison as a value, as a test -/
def tB (t : TE) : TT := fun σ H Q => t σ H fun x H1 => ∃ c, x = .bl c ∧ Q c H1
theorem pt_cmp {op : CmpOp} {t : TE} (h : PC X op a b t) (h1 : behindInMarks op b = false := by first | exact nobehind _ (by decide) (by decide) | rfl) : PT X (.Compare a [op] [b] pos) (tB t) := by
  intro pins s σ H Q I hw
  refine wpAny_isTrue_Compare1 (thn (h pins s σ H _ I hw) fun v s1 h1 => thn h1 fun u s2 h2 => thn h2 fun c s3 ⟨x, H1, I1, r1, q1⟩ => ?_) h1
  obtain ⟨d, rfl, q⟩ := q1
  cases r1
  exact wpAny_truthy_bool ⟨H1, I1, q⟩
/-- an expression whose value is a bool, as a test -/
theorem pt_val {e : Expr} {t : TE} (h : PE X e t) (he : ∀ whole, isTrue e X.env whole = (do let v ← whole; standAt e.pos; holding [v] (truthy v)) := by intro _; rfl) : PT X e (tB t) := by
  intro pins s σ H Q I hw
  refine isTrue_plain (thn (h pins s σ H _ I hw) fun v s1 ⟨x, H1, I1, r1, q1⟩ => ?_) (he _)
  obtain ⟨d, rfl, q⟩ := q1
  cases r1
  exact wpAny_truthy_bool ⟨H1, I1, q⟩

/-! ### and, or, not -/
variable {tA tB' : TT} {rest : List Expr}
def tAnd (t u : TT) : TT := fun σ H Q => t σ H fun c H1 => if c = true then u σ H1 Q else Q false H1
def tOr (t u : TT) : TT := fun σ H Q => t σ H fun c H1 => if c = true then Q true H1 else u σ H1 Q
def tNot (t : TT) : TT := fun σ H Q => t σ H fun c H1 => Q (!c) H1
theorem pw_and1 (ha : PT X a tA) : PW X (.BoolOp .And [a] pos) tA := by
  intro wh pins s σ H Q I h
  refine isTrue_and (thn (ha pins s σ H Q I h) fun c s1 e => ?_)
  cases c with
  | true => exact isTrue_and_nil e
  | false => exact e
theorem pw_or1 (ha : PT X a tA) : PW X (.BoolOp .Or [a] pos) tA := by
  intro wh pins s σ H Q I h
  refine isTrue_or (thn (ha pins s σ H Q I h) fun c s1 e => ?_)
  cases c with
  | false => exact isTrue_or_nil e
  | true => exact e
theorem pw_and (ha : PT X a tA) (hb : PW X (.BoolOp .And (b :: rest) pos) tB') : PW X (.BoolOp .And (a :: b :: rest) pos) (tAnd tA tB') := by
  intro wh pins s σ H Q I h
  refine isTrue_and (thn (ha pins s σ H _ I h) fun c s1 ⟨H1, I1, q1⟩ => ?_)
  cases c with
  | true => exact hb wh pins s1 σ H1 Q I1 q1
  | false => exact ⟨H1, I1, q1⟩
theorem pw_or (ha : PT X a tA) (hb : PW X (.BoolOp .Or (b :: rest) pos) tB') : PW X (.BoolOp .Or (a :: b :: rest) pos) (tOr tA tB') := by
  intro wh pins s σ H Q I h
  refine isTrue_or (thn (ha pins s σ H _ I h) fun c s1 ⟨H1, I1, q1⟩ => ?_)
  cases c with
  | true => exact ⟨H1, I1, q1⟩
  | false => exact hb wh pins s1 σ H1 Q I1 q1
theorem pt_not (ha : PT X a tA) : PT X (.UnaryOp .Not a pos) (tNot tA) := by
  intro pins s σ H Q I h
  exact isTrue_not (ha pins s σ H (fun c H1 => Q (!c) H1) I h)
/-- .. as values (bools) -/
def tAndV (ta tb : TE) : TE := fun σ H Q => ta σ H fun x H1 => ∃ c, x = .bl c ∧ if c = true then tb σ H1 Q else Q (.bl false) H1
def tOrV (ta tb : TE) : TE := fun σ H Q => ta σ H fun x H1 => ∃ c, x = .bl c ∧ if c = true then Q (.bl true) H1 else tb σ H1 Q
def tNotV (ta : TE) : TE := fun σ H Q => ta σ H fun x H1 => ∃ c, x = .bl c ∧ Q (.bl (!c)) H1
theorem pe_one {op} {t : TE} (h : PE X a t) : PE X (.BoolOp op [a] pos) t := fun pins s σ H Q I hw => BoolOp_one (h pins s σ H Q I hw)
theorem pe_and (ha : PE X a ta) (hb : PE X (.BoolOp .And (b :: rest) pos) tb) : PE X (.BoolOp .And (a :: b :: rest) pos) (tAndV ta tb) := by
  intro pins s σ H Q I h
  refine BoolOp_and (thn (ha pins s σ H _ I h) fun v s1 ⟨x, H1, I1, r1, q1⟩ => ?_)
  obtain ⟨c, rfl, q1⟩ := q1
  cases r1
  refine wpAny_truthy_bool ?_
  cases c with
  | true => exact hb pins s1 σ H1 Q I1 q1
  | false => exact ⟨.bl false, H1, I1, rfl, q1⟩
theorem pe_not (ha : PE X a ta) : PE X (.UnaryOp .Not a pos) (tNotV ta) := by
  intro pins s σ H Q I h
  refine UnaryOp_ (thn (ha pins s σ H _ I h) fun v s1 ⟨x, H1, I1, r1, q1⟩ => ?_)
  obtain ⟨c, rfl, q1⟩ := q1
  cases r1
  exact not_of (wpAny_truthy_bool ⟨.bl (!c), H1, I1, rfl, q1⟩)
/-- a if t else b -/
def tIf (t : TT) (ta tb : TE) : TE := fun σ H Q => t σ H fun c H1 => if c = true then ta σ H1 Q else tb σ H1 Q
end
end L2

namespace L2
open PySem PySem.Spec PyProof.Rows

/-! ### a list, a tuple that is read: tracked, frozen, or an object of the module -/
def SqL (K : PySem.W.Frag) (H : Hp) (a : Addr) (xs : List V) : Prop :=
  Rd H a (.lst xs) ∨
    ∃ (o : Obj) (its : Array Value) (n : Nat), K.lookup a = some o ∧ o.cls = .type "list" ∧ o.dict = none ∧ o.data = .seq its n ∧ its.size ≤ sizeLine ∧ Vals xs its.toList
def SqT (K : PySem.W.Frag) (H : Hp) (a : Addr) (xs : List V) : Prop :=
  Rd H a (.tup xs) ∨
    ∃ (o : Obj) (its : Array Value) (n : Nat), K.lookup a = some o ∧ o.cls = .type "tuple" ∧ o.data = .seq its n ∧ its.size ≤ sizeLine ∧ Vals xs its.toList
def absV : Value → Option V
  | .none => some .non
  | .bool b => some (.bl b)
  | .int i _ => some (.int i)
  | .str x _ => some (.str x)
  | .bytes b _ => some (.byt b)
  | .float b _ => some (.flt b)
  | .ref a => some (.ref a)
  | .type n => some (.ty n)
  | _ => none
theorem RelV.abs {x : V} {u : Value} (r : RelV x u) : absV u = some x := by
  cases x with
  | non => cases r; rfl
  | bl _ => cases r; rfl
  | int _ => obtain ⟨t, rfl⟩ := r; rfl
  | str _ => obtain ⟨t, rfl⟩ := r; rfl
  | byt _ => obtain ⟨t, rfl⟩ := r; rfl
  | flt _ => obtain ⟨t, rfl⟩ := r; rfl
  | ref _ => cases r; rfl
  | ty _ => cases r; rfl
theorem RelV.inj {x y : V} {u : Value} (r : RelV x u) (q : RelV y u) : x = y := Option.some.inj (r.abs.symm.trans q.abs)
theorem Vals.inj : ∀ {xs ys : List V} {us : List Value}, Vals xs us → Vals ys us → xs = ys
  | _, _, _, .nil, .nil => rfl
  | _, _, _, .cons r t, .cons r' t' => by rw [r.inj r', Vals.inj t t']
section
variable {X : Cx} {pins : List (Addr × Obj)} {σ : St} {H : Hp} {s : Shared} {a : Addr} {xs ys : List V}
theorem SqL.of {K : PySem.W.Frag} (h : H a = some (.lst xs)) : SqL K H a xs := .inl (.inl h)
theorem SqT.of {K : PySem.W.Frag} (h : H a = some (.tup xs)) : SqT K H a xs := .inl (.inl h)
theorem Inv.list (I : Inv X pins σ H s) (h : SqL X.K H a xs) : ∃ its : List Value, Vals xs its ∧ PlainL s.heap a its.toArray ∧ xs.length ≤ sizeLine := by
  rcases h with h | ⟨o, its, n, hk, hc, hd, hs, hz, r⟩
  · obtain ⟨z, its, n, r, e⟩ := h.ok I.hok
    exact ⟨its, r, ⟨_, n, e, rfl, rfl, rfl⟩, z⟩
  · refine ⟨its.toList, r, ⟨o, n, I.kIn a o hk, hc, hd, by simpa using hs⟩, ?_⟩
    have e := r.length
    simp only [Array.length_toList] at e
    omega
theorem Inv.tuple (I : Inv X pins σ H s) (h : SqT X.K H a xs) : ∃ its : List Value, Vals xs its ∧ IsTup s.heap a its.toArray ∧ xs.length ≤ sizeLine := by
  rcases h with h | ⟨o, its, n, hk, hc, hs, hz, r⟩
  · obtain ⟨z, its, r, p⟩ := h.ok I.hok
    exact ⟨its, r, p, z⟩
  · refine ⟨its.toList, r, ⟨o, I.kIn a o hk, hc, n, by simpa using hs⟩, ?_⟩
    have e := r.length
    simp only [Array.length_toList] at e
    omega
theorem Inv.list_inj (I : Inv X pins σ H s) (h : SqL X.K H a xs) (h' : SqL X.K H a ys) : xs = ys := by
  obtain ⟨its, r, ⟨o, n, e, _, _, d⟩, _⟩ := I.list h
  obtain ⟨its', r', ⟨o', n', e', _, _, d'⟩, _⟩ := I.list h'
  rw [e] at e'; cases e'
  rw [d] at d'
  injection d' with d1 _
  have : its = its' := by simpa using congrArg Array.toList d1
  subst this
  exact r.inj r'
end

/-! ### another wish about exceptions -/
abbrev Cx.wish (X : Cx) (E : Value → Shared → Prop) : Cx := { X with xe := E }
/-- no exception leaves -/
abbrev Cx.nox (X : Cx) : Cx := X.wish fun _ _ => False
theorem Cx.Ok.wish {X : Cx} (ok : X.Ok) (E : Value → Shared → Prop) : (X.wish E).Ok :=
  ⟨ok.mod, ok.kind, ok.glob, ok.blt, ok.above, ok.inj, ok.has, ok.cab, ok.hd, ok.frames, ok.stk, ok.exf, ok.bs, ok.bsz, ok.noex, ok.exfs, ok.funs, ok.frf⟩
theorem Cx.Ok.unwish {X : Cx} {E : Value → Shared → Prop} (ok : (X.wish E).Ok) : X.Ok :=
  ⟨ok.mod, ok.kind, ok.glob, ok.blt, ok.above, ok.inj, ok.has, ok.cab, ok.hd, ok.frames, ok.stk, ok.exf, ok.bs, ok.bsz, ok.noex, ok.exfs, ok.funs, ok.frf⟩
section
variable {X : Cx} {pins : List (Addr × Obj)} {σ : St} {H : Hp} {s : Shared} {E : Value → Shared → Prop}
theorem Inv.wish (I : Inv X pins σ H s) (E : Value → Shared → Prop) : Inv (X.wish E) pins σ H s := ⟨I.ok.wish E, I.os, I.bare, I.base, I.loc, I.cell, I.free, I.freeC, I.pin, I.hok, I.len⟩
theorem Inv.unwish (I : Inv (X.wish E) pins σ H s) : Inv X pins σ H s := ⟨I.ok.unwish, I.os, I.bare, I.base, I.loc, I.cell, I.free, I.freeC, I.pin, I.hok, I.len⟩
theorem SP.unwish {D : Ends} {f : Flow} {s' : Shared} (h : SP (X.wish E) pins D f s') : SP X pins D f s' := by
  cases f with
  | next => obtain ⟨σ', H', I, q⟩ := h; exact ⟨σ', H', I.unwish, q⟩
  | brk => obtain ⟨σ', H', I, q⟩ := h; exact ⟨σ', H', I.unwish, q⟩
  | cont => obtain ⟨σ', H', I, q⟩ := h; exact ⟨σ', H', I.unwish, q⟩
  | ret u => obtain ⟨v, σ', H', I, r, q⟩ := h; exact ⟨v, σ', H', I.unwish, r, q⟩
theorem PSs.nox {st : List Stmt} {t : TS} (h : PSs X.nox st t) : PSs X st t := fun pins s σ H D I hw =>
  wpAny_mono (h pins s σ H D (I.wish _) hw) (fun _ _ q => q.unwish) fun _ _ z => False.elim z
end

/-! ### blocks and small statements -/
section
variable {X : Cx} {st : Stmt} {rest : List Stmt} {t u : TS} {e : Expr} {te : TE} {pos : Pos}
def tNext : TS := fun D σ H => D.nx σ H
def tSeq (t u : TS) : TS := fun D σ H => t { D with nx := u D } σ H
theorem pss_nil : PSs X [] tNext := fun _ _ σ H _ I h => wpAny_execs_nil ⟨σ, H, I, h⟩
theorem pss_cons (h1 : PS X st t) (h2 : PSs X rest u) : PSs X (st :: rest) (tSeq t u) := by
  intro pins s σ H D I h
  refine wpAny_execs_cons (thn (h1 pins s σ H { D with nx := u D } I h) fun f s1 q => ?_)
  cases f with
  | next =>
    obtain ⟨σ', H', I', q⟩ := q
    exact h2 pins s1 σ' H' D I' q
  | ret v => exact q
  | brk => exact q
  | cont => exact q
theorem pss_one (h1 : PS X st t) : PSs X [st] t := by
  intro pins s σ H D I h
  refine wpAny_execs_cons (thn (h1 pins s σ H D I h) fun f s1 q => ?_)
  cases f with
  | next => exact wpAny_execs_nil q
  | ret v => exact q
  | brk => exact q
  | cont => exact q
def tBreak : TS := fun D σ H => D.bk σ H
def tCont : TS := fun D σ H => D.ct σ H
/-- in a def's body nothing is shown -/
theorem Inv.quiet {pins : List (Addr × Obj)} {σ : St} {H : Hp} {s : Shared} (I : Inv X pins σ H s) : interactive X.env = false := by simp [interactive, I.ok.kind]
/-- an expression whose value is dropped -/
def tDrop (te : TE) : TS := fun D σ H => te σ H fun _ H1 => D.nx σ H1
theorem ps_expr (he : PE X e te) (hs : swapsWith e none pos.line X.env = pure false := by rfl) : PS X (.Expr e pos) (tDrop te) := by
  intro pins s σ H D I h
  exact wpAny_Expr_any (thn (he pins s σ H _ I h) fun v s1 ⟨x, H1, I1, r1, q1⟩ => ⟨σ, H1, I1, q1⟩) I.quiet hs
def tRet (te : TE) : TS := fun D σ H => te σ H D.rt
theorem ps_ret (he : PE X e te) : PS X (.Return (some e) pos) (tRet te) := by
  intro pins s σ H D I h
  exact wpAny_Return_some (thn (he pins s σ H _ I h) fun v s1 ⟨x, H1, I1, r1, q1⟩ => ⟨x, σ, H1, I1, r1, q1⟩)
def tRetN : TS := fun D _ H => D.rt .non H
def tIfS (c : TT) (t u : TS) : TS := fun D σ H => c σ H fun b H1 => if b = true then t D σ H1 else u D σ H1
theorem ps_if {c : Expr} {a b : List Stmt} {tc : TT} (hc : PT X c tc) (ha : PSs X a t) (hb : PSs X b u) : PS X (.If c a b pos) (tIfS tc t u) := by
  intro pins s σ H D I h
  refine wpAny_If (thn (hc pins s σ H _ I h) fun d s1 ⟨H1, I1, q1⟩ => ?_)
  cases d with
  | true => exact ha pins s1 σ H1 D I1 q1
  | false => exact hb pins s1 σ H1 D I1 q1
/-- code that the proof never comes to -/
def tNever : TS := fun _ _ _ => False
end

/-! ### targets -/
abbrev TG := V → St → Hp → (St → Hp → Prop) → Prop
abbrev TGs := List V → St → Hp → (St → Hp → Prop) → Prop
def PG (X : Cx) (target : Expr) (t : TG) : Prop :=
  ∀ (pins : List (Addr × Obj)) (s : Shared) (σ : St) (H : Hp) (v : V) (u : Value) (Q : St → Hp → Prop), Inv X pins σ H s → RelV v u → t v σ H Q →
    wpAny (model X.prog X.w) X.A (assign target X.env u) (fun _ s' => ∃ σ' H', Inv X pins σ' H' s' ∧ Q σ' H') X.xe s
/-- several targets, one after another -/
def PGs (X : Cx) (ts : List Expr) (t : TGs) : Prop :=
  ∀ (pins : List (Addr × Obj)) (s : Shared) (σ : St) (H : Hp) (vs : List V) (us : List Value) (Q : St → Hp → Prop), Inv X pins σ H s → Vals vs us → t vs σ H Q →
    wpAny (model X.prog X.w) X.A (assignInOrder ((assignEach ts X.env).map (·.2)) us) (fun _ s' => ∃ σ' H', Inv X pins σ' H' s' ∧ Q σ' H') X.xe s
/-- o[i] = v, by values -/
abbrev TSet := V → V → V → Hp → (Hp → Prop) → Prop
def PSet (X : Cx) (t : TSet) : Prop :=
  ∀ (pins : List (Addr × Obj)) (s : Shared) (σ : St) (H : Hp) (o i v : V) (ov iv u : Value) (Q : Hp → Prop), Inv X pins σ H s → RelV o ov → RelV i iv → RelV v u → t o i v H Q →
    wpAny (model X.prog X.w) X.A (setItem ov iv u) (fun _ s' => ∃ H', Inv X pins σ H' s' ∧ Q H') X.xe s
/-- a op= b, by values -/
abbrev TIp := V → V → Hp → VK → Prop
def PIp (X : Cx) (op : Operator) (t : TIp) : Prop :=
  ∀ (pins : List (Addr × Obj)) (s : Shared) (σ : St) (H : Hp) (x y : V) (v u : Value) (Q : VK), Inv X pins σ H s → RelV x v → RelV y u → t x y H Q →
    wpAny (model X.prog X.w) X.A (inplaceOp op v u) (EP X pins σ Q) X.xe s
section
variable {X : Cx} {pos : Pos}
def gName (i : Nat) : TG := fun v σ H Q => Q (σ.set i (some v)) H
theorem pg_name {i : Nat} {x : Str} (hN : X.N.Nodup) (hi : X.N[i]? = some x) (hx : Loc X.env.scope x) (hf : X.fn x = true ∨ X.env.scope.names.lookup x = some .local := by first | exact .inl rfl | exact .inr rfl | assumption) : PG X (.Name x pos) (gName i) := by
  intro pins s σ H v u Q I r h
  exact wpAny_assign_Name (store_ok I hN hi hx r (fun s' I' => ⟨_, H, I', h⟩) hf)
def gNil : TGs := fun vs σ H Q => vs = [] ∧ Q σ H
def gCons (t : TG) (u : TGs) : TGs := fun vs σ H Q => ∃ v r, vs = v :: r ∧ t v σ H fun σ' H' => u r σ' H' Q
theorem pgs_nil : PGs X [] gNil := by
  intro pins s σ H vs us Q I r h
  obtain ⟨e, h⟩ := h
  subst e
  cases r
  exact assignInOrder_nil ⟨σ, H, I, h⟩
theorem pgs_cons {e : Expr} {es : List Expr} {t : TG} {u : TGs} (h1 : PG X e t) (h2 : PGs X es u)
    (hs : (assignEach (e :: es) X.env).map (·.2) = assign e X.env :: (assignEach es X.env).map (·.2) := by rfl) : PGs X (e :: es) (gCons t u) := by
  intro pins s σ H vs us Q I r h
  obtain ⟨v, vr, e1, h⟩ := h
  subst e1
  cases r with
  | cons r rr =>
    rw [hs]
    refine assignInOrder_cons (thn (h1 pins s σ H _ _ _ I r h) fun _ s1 ⟨σ1, H1, I1, q1⟩ => ?_)
    exact h2 pins s1 σ1 H1 _ _ Q I1 rr q1
/-- (a, b, ..) = a tuple of that length -/
def gTup (K : PySem.W.Frag) (n : Nat) (t : TGs) : TG := fun v σ H Q => ∃ a xs, v = .ref a ∧ SqT K H a xs ∧ xs.length = n ∧ t xs σ H Q
theorem pg_tup {es : List Expr} {k : Nat} {t : TGs} {n : Nat} (hc : X.calm = true) (h : PGs X es t)
    (hn : (assignEach es X.env).length = n := by rfl) (hst : (assignEach es X.env).findIdx? (·.1) = none := by rfl) : PG X (.Tuple es k pos) (gTup X.K n t) := by
  intro pins s σ H v u Q I r hw
  obtain ⟨a, xs, e1, hq, hl, hw⟩ := hw
  subst e1
  cases r
  obtain ⟨its, rv, ht, hz⟩ := I.tuple hq
  refine assign_Tuple_tuple (I.ok.hd hc) ht (by simp [hn, ← hl, rv.length]) hst fun h' hx => ?_
  have I1 : Inv X pins σ H { s with heap := h' } := I.kept (t' := s.toks) fun b o e => hx b o (Nat.ne_of_lt (Heap.lt_size e)) e
  exact h pins _ σ H xs _ Q I1 (by simpa using rv) hw
/-- o[i] = .. -/
def gSub (to ti : TE) (t : TSet) : TG := fun v σ H Q => to σ H fun o H1 => ti σ H1 fun i H2 => t o i v H2 fun H3 => Q σ H3
theorem pg_sub {o i : Expr} {to ti : TE} {t : TSet} (ho : PE X o to) (hi : PE X i ti) (hs : PSet X t)
    (ha : ∀ v, assign (.Subscript o i pos) X.env v = (do
      let ov ← holding [v] (eval o X.env)
      let iv ← holding [v, ov] (eval i X.env)
      standAt pos
      holding [v, ov, iv] (setItem ov iv v)
      release [v, ov, iv] []) := by intro _; rfl) : PG X (.Subscript o i pos) (gSub to ti t) := by
  intro pins s σ H v u Q I r h
  rw [ha]
  refine wpAny_bind (wpAny_holding (thn (ho pins s σ H _ I h) fun ov s1 ⟨x, H1, I1, r1, q1⟩ => ?_))
  refine wpAny_bind (wpAny_holding (thn (hi pins s1 σ H1 _ I1 q1) fun iv s2 ⟨y, H2, I2, r2, q2⟩ => ?_))
  refine wpAny_bind (wpAny_standAt (wpAny_bind (wpAny_holding (thn (hs pins s2 σ H2 x y v ov iv u _ I2 r1 r2 r q2) fun _ s3 ⟨H3, I3, q3⟩ => ?_))))
  exact wpAny_release ⟨σ, H3, I3, q3⟩
/-- target = value -/
def tAsg (te : TE) (g : TG) : TS := fun D σ H => te σ H fun x H1 => g x σ H1 D.nx
theorem ps_asg {tg e : Expr} {te : TE} {g : TG} (he : PE X e te) (hg : PG X tg g) (hs : swapsWithSole [tg] e pos.line X.env = pure false := by rfl) (hw : swappedStores [tg] e X.env = pure none := by rfl)
    (h1 : (assignEach [tg] X.env).map (·.2) = [assign tg X.env] := by rfl) : PS X (.Assign [tg] e pos) (tAsg te g) := by
  intro pins s σ H D I h
  refine wpAny_Assign_stores (thn (he pins s σ H _ I h) fun v s1 ⟨x, H1, I1, r1, q1⟩ => ?_) hs hw
  rw [h1]
  exact thn (hg pins s1 σ H1 x v _ I1 r1 q1) fun _ s2 q => q
/-- name = value -/
theorem ps_set {i : Nat} {x : Str} {e : Expr} {te : TE} {pos' : Pos} (hN : X.N.Nodup) (hi : X.N[i]? = some x) (hx : Loc X.env.scope x) (he : PE X e te) (hs : swapsWith e (some (.Name x pos')) pos.line X.env = pure false := by rfl) (hf : X.fn x = true ∨ X.env.scope.names.lookup x = some .local := by first | exact .inl rfl | exact .inr rfl | assumption) :
    PS X (.Assign [.Name x pos'] e pos) (tAsg te (gName i)) := by
  intro pins s σ H D I h
  refine wpAny_Assign_Name (thn (he pins s σ H _ I h) fun v s1 ⟨y, H1, I1, r1, q1⟩ => ?_) hs
  exact store_ok I1 hN hi hx r1 (fun s2 I2 => ⟨_, H1, I2, q1⟩) hf
/-- a, b = x, y with plain local names: stored from the right; the pair itself is not tracked (the opening rows as in PyProof/Rows/TupAssign.lean:23) -/
def tPar (i j : Nat) (ta : TA) : TS := fun D σ H => ta σ H fun vs H1 => ∃ v w, vs = [v, w] ∧ D.nx ((σ.set i (some v)).set j (some w)) H1
theorem ps_par {i j : Nat} {x y : Str} {a b : Expr} {ta : TA} {px py pt : Pos} {kt k2 pt2} (hc : X.calm = true) (hN : X.N.Nodup) (hi : X.N[i]? = some x) (hj : X.N[j]? = some y) (hij : i ≠ j)
    (hx : X.env.scope.names.lookup x = some .local) (hy : X.env.scope.names.lookup y = some .local) (ha : PA X [a, b] ta)
    (hw : swappedStores [.Tuple [.Name x px, .Name y py] kt pt] (.Tuple [a, b] k2 pt2) X.env = pure (some [x, y]))
    (hs : swapsWithSole [.Tuple [.Name x px, .Name y py] kt pt] (.Tuple [a, b] k2 pt2) pos.line X.env = pure false := by rfl) :
    PS X (.Assign [.Tuple [.Name x px, .Name y py] kt pt] (.Tuple [a, b] k2 pt2) pos) (tPar i j ta) := by
  intro pins s σ H D I h
  rw [exec_Assign_arm]
  refine wpAny_bind (wpAny_standAt ?_)
  rw [hs]
  refine wpAny_bind (wpAny_pure ?_)
  rw [if_neg (by decide)]
  refine wpAny_bind (Tuple_ (thn (ha _ pins s σ H _ I h) fun us s1 ⟨vs, H1, I1, r1, q1⟩ => ?_))
  obtain ⟨v, w, e1, q1⟩ := q1
  subst e1
  obtain ⟨u1, u2, rfl, rv, rw'⟩ : ∃ u1 u2, us = [u1, u2] ∧ RelV v u1 ∧ RelV w u2 := by
    cases r1 with
    | cons p q =>
      cases q with
      | cons p' q' =>
        cases q'
        exact ⟨_, _, rfl, p, p'⟩
  refine wpAny_newObj_type ?_ (by show 2 ≤ sizeLine; decide)
  have I2 : Inv X pins σ H1 { s1 with heap := s1.heap.push { cls := .type "tuple", data := .seq [u1, u2].toArray } } := I1.kept (t' := s1.toks) fun b o e => Heap.get?_push_of_some _ e
  rw [hw]
  refine wpAny_bind (wpAny_pure ?_)
  show wpAny (model X.prog X.w) X.A (do rule "assign.swapped-stores"; let items ← unpackItems (.ref s1.heap.objs.size) 2 none; assignInOrder [fun v => bindName X.env y v, fun v => bindName X.env x v] items.reverse; pure Flow.next) _ _ _
  refine wpAny_bind (wpAny_rule (wpAny_bind (unpackItems_tuple (items := #[u1, u2]) (I.ok.hd hc) (IsTup.new s1.heap _) fun h' hx' => ?_)))
  have I3 := I2.kept (h' := h') (t' := s1.toks) fun b o e => hx' b o (Nat.ne_of_lt (Heap.lt_size e)) e
  show wpAny _ _ (assignInOrder [fun v => bindName X.env y v, fun v => bindName X.env x v] [u2, u1] >>= fun _ => pure Flow.next) _ _ _
  refine wpAny_bind (assignInOrder_cons (wpAny_bindName (store_ok I3 hN hj (.inl hy) rw' (fun s2 I4 => ?_) (.inr hy))))
  refine assignInOrder_cons (wpAny_bindName (store_ok I4 hN hi (.inl hx) rv (fun s3 I5 => assignInOrder_nil (wpAny_pure ?_)) (.inr hx)))
  rw [List.set_comm _ _ (Ne.symm hij)] at I5
  exact ⟨_, H1, I5, q1⟩
/-- name op= e -/
def tAug (i : Nat) (te : TE) (ti : TIp) : TS := fun D σ H => ∃ x, σ[i]? = some (some x) ∧ te σ H fun y H1 => ti x y H1 fun z H2 => D.nx (σ.set i (some z)) H2
theorem ps_aug {i : Nat} {x : Str} {e : Expr} {te : TE} {op : Operator} {ti : TIp} {pos' : Pos} (hN : X.N.Nodup) (hi : X.N[i]? = some x) (hx : Loc X.env.scope x) (he : PE X e te) (ho : PIp X op ti) (hf : X.fn x = true ∨ X.env.scope.names.lookup x = some .local := by first | exact .inl rfl | exact .inr rfl | assumption) :
    PS X (.AugAssign (.Name x pos') op e pos) (tAug i te ti) := by
  intro pins s σ H D I h
  obtain ⟨v, e1, h⟩ := h
  obtain ⟨m, hn, hl⟩ := I.loc
  have vis : Vis X.env.scope x := by rcases hx with k | k; exact .inl k; exact .inr (.inl k)
  obtain ⟨u, r, l⟩ := hl i x v hi e1 vis
  refine wpAny_AugAssign_Name ?_
  have go : wpAny (model X.prog X.w) X.A (eval e X.env) (fun w s₂ => wpAny (model X.prog X.w) X.A (inplaceOp op u w) (fun r s₃ => wpAny (model X.prog X.w) X.A (storeName X.env x r) (fun _ => SP X pins D .next) X.xe s₃) X.xe s₂) X.xe s := by
    refine thn (he pins s σ H _ I h) fun w s1 ⟨y, H1, I1, r1, q1⟩ => ?_
    refine thn (ho pins s1 σ H1 v y u w _ I1 r r1 q1) fun z s2 ⟨zv, H2, I2, r2, q2⟩ => ?_
    exact store_ok I2 hN hi hx r2 (fun s3 I3 => ⟨_, H2, I3, q2⟩) hf
  rcases l with ⟨hk, hm⟩ | ⟨hk, c, hc, hcell⟩
  · exact wpAny_loadName_local I.ok.kind hk hn hm go
  · rcases hk with hk | hk
    · exact wpAny_loadName_cell I.ok.kind hk hc hcell go
    · rcases hx with k | k
      · have : X.env.scope.names.lookup x = some .free := hk
        rw [k] at this; cases this
      · have : X.env.scope.names.lookup x = some .free := hk
        rw [k] at this; cases this
/-- o[i] op= e -/
def tAugS (to ti te : TE) (tget : V → V → Hp → VK → Prop) (tip : TIp) (tset : TSet) : TS := fun D σ H => to σ H fun o H1 => ti σ H1 fun i H2 => tget o i H2 fun x H3 => te σ H3 fun y H4 => tip x y H4 fun z H5 => tset o i z H5 fun H6 => D.nx σ H6
/-- o[i], by values -/
def PGet (X : Cx) (t : V → V → Hp → VK → Prop) : Prop :=
  ∀ (pins : List (Addr × Obj)) (s : Shared) (σ : St) (H : Hp) (o i : V) (ov iv : Value) (Q : VK), Inv X pins σ H s → RelV o ov → RelV i iv → t o i H Q →
    wpAny (model X.prog X.w) X.A (getItem ov iv) (EP X pins σ Q) X.xe s
theorem ps_augS {o i e : Expr} {to ti te : TE} {tget : V → V → Hp → VK → Prop} {tip : TIp} {tset : TSet} {op : Operator} {tpos : Pos} (ho : PE X o to) (hi : PE X i ti) (hg : PGet X tget) (he : PE X e te) (hp : PIp X op tip) (hs : PSet X tset)
    (ha : ∀ ov iv new, augStore i ov iv new = (do holding [new, ov, iv] (setItem ov iv new); release [new, ov, iv] []; pure .next) := by intros; rfl) : PS X (.AugAssign (.Subscript o i tpos) op e pos) (tAugS to ti te tget tip tset) := by
  intro pins s σ H D I h
  refine wpAny_AugAssign_SubscriptAny (thn (ho pins s σ H _ I h) fun ov s1 ⟨x1, H1, I1, r1, q1⟩ => ?_) ha
  refine thn (hi pins s1 σ H1 _ I1 q1) fun iv s2 ⟨x2, H2, I2, r2, q2⟩ => ?_
  refine thn (hg pins s2 σ H2 x1 x2 ov iv _ I2 r1 r2 q2) fun old s3 ⟨x3, H3, I3, r3, q3⟩ => ?_
  refine thn (he pins s3 σ H3 _ I3 q3) fun v s4 ⟨x4, H4, I4, r4, q4⟩ => ?_
  refine thn (hp pins s4 σ H4 x3 x4 old v _ I4 r3 r4 q4) fun new s5 ⟨x5, H5, I5, r5, q5⟩ => ?_
  exact thn (hs pins s5 σ H5 x1 x2 x5 ov iv new _ I5 r1 r2 r5 q5) fun _ s6 ⟨H6, I6, q6⟩ => ⟨σ, H6, I6, q6⟩
/-- ints -/
def ipI (f : Int → Int → Int) : TIp := fun x y H Q => ∃ i j, x = .int i ∧ y = .int j ∧ Q (.int (f i j)) H
theorem ip_add : PIp X .Add (ipI fun i j => i + j) := by
  intro pins s σ H x y v u Q I r1 r2 h
  obtain ⟨i, j, e1, e2, q⟩ := h
  subst e1; subst e2
  obtain ⟨t, rfl⟩ := r1
  obtain ⟨t', rfl⟩ := r2
  exact iadd_int ⟨.int _, H, I.tok _, ⟨_, rfl⟩, q⟩
theorem ip_sub : PIp X .Sub (ipI fun i j => i - j) := by
  intro pins s σ H x y v u Q I r1 r2 h
  obtain ⟨i, j, e1, e2, q⟩ := h
  subst e1; subst e2
  obtain ⟨t, rfl⟩ := r1
  obtain ⟨t', rfl⟩ := r2
  exact isub_int ⟨.int _, H, I.tok _, ⟨_, rfl⟩, q⟩
end

/-! ### while -/
section
variable {X : Cx} {pos : Pos}
/-- the invariant W with its measure -/
def tWhile (c : TT) (tb : TS) : TS := fun D σ H => ∃ W : Nat → St → Hp → Prop, (∃ m, W m σ H) ∧ ∀ m σ H, W m σ H →
  c σ H fun b H1 => if b = true then ∃ N : St → Hp → Prop, (∀ σ' H', N σ' H' → ∃ m', m' < m ∧ W m' σ' H') ∧ tb { D with nx := N, ct := N, bk := D.nx } σ H1 else D.nx σ H1
end

/-! ### what a loop or a comprehension walks -/
/-- at turn i: it yields x (the heap may grow), or it stops -/
structure It where
  go : Nat → Hp → Prop
  yld : Nat → Hp → V → Hp → Prop
  stop : Nat → Hp → Prop
/-- the iterator's own objects may turn: they are not the frame's, not pinned, younger than the entry (or a comprehension's own) -/
def FpOk (X : Cx) (pins : List (Addr × Obj)) (H : Hp) (b : Addr) : Prop :=
  H b = none ∧ b ≠ X.env.locals ∧ b ∉ X.fs ∧ (b ∈ X.ex ∨ X.s₀.heap.objs.size ≤ b) ∧ (∀ x c, X.env.cells.lookup x = some c → c ≠ b) ∧ ∀ p ∈ X.pn ++ pins, p.1 ≠ b
theorem Inv.fpOk {X : Cx} {pins : List (Addr × Obj)} {σ : St} {H H' : Hp} {s : Shared} {b : Addr} (I : Inv X pins σ H s) (hb : s.heap.objs.size ≤ b) (hn : H' b = none) : FpOk X pins H' b := by
  refine ⟨hn, Nat.ne_of_gt (Nat.lt_of_lt_of_le I.lt hb), I.nofs hb, .inr (Nat.le_trans I.sz hb), fun x c e z => ?_, fun p hp z => ?_⟩
  · obtain ⟨v, q⟩ := I.cell x c e
    exact absurd (Nat.lt_of_lt_of_le q.lt (by rw [z]; exact hb)) (Nat.lt_irrefl _)
  · exact absurd (Nat.lt_of_lt_of_le (Heap.lt_size (I.pin p hp).1) (by rw [z]; exact hb)) (Nat.lt_irrefl _)
structure Turn (P : Program) (w : World) (K : PySem.W.Frag) (tg : Expr) (J : It) (fp : List Addr) (it : Addr) (tn : Nat → Heap → Prop) : Prop where
  mem : it ∈ fp
  obj : ∀ i h, tn i h → ∀ b ∈ fp, ∃ o, h.get? b = some o ∧ ∀ v, o.data ≠ .cell v
  keep : ∀ i h h', tn i h → (∀ b ∈ fp, ∀ o, h.get? b = some o → h'.get? b = some o) → tn i h'
  item : ∀ (X : Cx), X.prog = P → X.w = w → X.K = K → X.calm = true → ∀ (i : Nat) (pins : List (Addr × Obj)) (s : Shared) (σ : St) (H : Hp) (E : Value → Shared → Prop), Inv X pins σ H s → (∀ b ∈ fp, FpOk X pins H b) → tn i s.heap → J.go i H →
    wpAny (model P w) X.A (pyNext (.ref it)) (fun r s1 => ∃ u, r = some u ∧
      wpAny (model P w) X.A (letOwnedTupleGo tg (.ref it) u) (fun _ s2 => ∃ x H', Inv X pins σ H' s2 ∧ RelV x u ∧ J.yld i H x H' ∧ tn (i + 1) s2.heap ∧ ∀ b ∈ fp, H' b = none) E s1) E s
  done : ∀ (X : Cx), X.prog = P → X.w = w → X.K = K → X.calm = true → ∀ (i : Nat) (pins : List (Addr × Obj)) (s : Shared) (σ : St) (H : Hp) (E : Value → Shared → Prop), Inv X pins σ H s → (∀ b ∈ fp, FpOk X pins H b) → tn i s.heap → J.stop i H →
    wpAny (model P w) X.A (pyNext (.ref it)) (fun r s1 => r = none ∧ Inv X pins σ H s1) E s
  self : ∀ (A : Around) (i : Nat) (s : Shared) (Q : Value → Shared → Prop) (E : Value → Shared → Prop), tn i s.heap → Q (.ref it) s → wpAny (model P w) A (pyIter (.ref it)) Q E s
abbrev TI := St → Hp → (It → Hp → Prop) → Prop
/-- an iterator has come -/
def PIE (X : Cx) (pins : List (Addr × Obj)) (σ : St) (tg : Expr) (R : It → Hp → Prop) (itv : Value) (s2 : Shared) : Prop :=
  ∃ (it : Addr) (fp : List Addr) (tn : Nat → Heap → Prop) (J : It) (H' : Hp), itv = .ref it ∧ Inv X pins σ H' s2 ∧ Turn X.prog X.w X.K tg J fp it tn ∧ tn 0 s2.heap ∧ (∀ b ∈ fp, FpOk X pins H' b) ∧ R J H'
def PI (X : Cx) (tg iter : Expr) (wi : TI) : Prop :=
  ∀ (pins : List (Addr × Obj)) (s : Shared) (σ : St) (H : Hp) (R : It → Hp → Prop), Inv X pins σ H s → wi σ H R →
    wpAny (model X.prog X.w) X.A (eval iter X.env) (fun v s1 => wpAny (model X.prog X.w) X.A (pyIter v) (PIE X pins σ tg R) X.xe s1) X.xe s

/-- the step ahead of the store is nothing for an iterator that keeps no tuple -/
theorem go_of {M : Model} {A : Around} {E : Value → Shared → Prop} {s : Shared} {tg : Expr} {it : Addr} {u : Value} {o : Obj} {n : String} {vs : Array Value} {Q : Unit → Shared → Prop} (ho : s.heap.get? it = some o) (hc : o.cls = .type n) (hd : o.data = .fields vs)
    (hn : ["enumerate", "zip", "dict_itemiterator", "dict_reverseitemiterator", "odict_iterator", "itertools.zip_longest", "itertools.pairwise"].contains n = false) (hQ : Q () s) : wpAny M A (letOwnedTupleGo tg (.ref it) u) Q E s := by
  unfold letOwnedTupleGo
  cases tg <;> first
    | exact wpAny_pure hQ
    | (cases u <;> first
        | exact wpAny_pure hQ
        | (refine wpAny_bind (wpAny_load ho ?_)
           rw [hc, hd]
           show wpAny M A (if (["enumerate", "zip", "dict_itemiterator", "dict_reverseitemiterator", "odict_iterator", "itertools.zip_longest", "itertools.pairwise"].contains n && vs[0]? == some (rawInt _)) = true then _ else _) Q E s
           rw [if_neg (by intro h; rw [hn, Bool.false_and] at h; cases h)]
           exact wpAny_pure hQ))

/-- the list at a, as it stands at each turn (a loop may append to it) -/
def Itl (K : PySem.W.Frag) (a : Addr) : It :=
  ⟨fun i H => ∃ xs x, SqL K H a xs ∧ xs[i]? = some x, fun i H x H' => H' = H ∧ ∀ xs, SqL K H a xs → xs[i]? = some x, fun i H => ∃ xs, SqL K H a xs ∧ xs.length ≤ i⟩
def Itt (K : PySem.W.Frag) (a : Addr) : It :=
  ⟨fun i H => ∃ xs x, SqT K H a xs ∧ xs[i]? = some x, fun i H x H' => H' = H ∧ ∀ xs, SqT K H a xs → xs[i]? = some x, fun i H => ∃ xs, SqT K H a xs ∧ xs.length ≤ i⟩
/-- lo, lo + 1, .. (n of them) -/
def Itr (lo : Int) (n : Nat) : It := ⟨fun i _ => i < n, fun i H x H' => H' = H ∧ x = .int (lo + i), fun i _ => n ≤ i⟩
theorem turn_list {P : Program} {w : World} {K : PySem.W.Frag} {tg : Expr} (a it : Addr) : Turn P w K tg (Itl K a) [it] it (fun i h => h.IsListIter it a i) where
  mem := by simp
  obj := fun i h st b hb => by
    have e : b = it := by simpa using hb
    subst e
    obtain ⟨o, e, c, d⟩ := st
    exact ⟨o, e, fun v z => by rw [d] at z; cases z⟩
  keep := fun i h h' st k => st.at fun o e => k it (by simp) o e
  item := by
    intro X hP hw hK hc i pins s σ H E I hf st hg
    subst hP hw hK
    obtain ⟨xs, x, hq, hx⟩ := hg
    obtain ⟨its, rv, p, hz⟩ := I.list hq
    obtain ⟨u, hu, ru⟩ := rv.get hx
    obtain ⟨f0, f1, f2, f3, f4, f5⟩ := hf it (by simp)
    refine wpAny_pyNext_list_item st p.isList (x := u) (by simpa using hu) fun h' st' sb => ?_
    have I1 : Inv X pins σ H { s with heap := h' } := I.turned (t' := s.toks) (fun b o hb e => (sb.2 b hb).trans e) f0 f1 f3 f4 f5
    obtain ⟨o, e, c, d⟩ := id st'
    exact ⟨u, rfl, go_of (s := { s with heap := h' }) e c d (by decide) ⟨x, H, I1, ru, ⟨rfl, fun ys hy => by rw [I.list_inj hy hq]; exact hx⟩, st', fun b hb => (hf b hb).1⟩⟩
  done := by
    intro X hP hw hK hc i pins s σ H E I hf st hg
    subst hP hw hK
    obtain ⟨xs, hq, hx⟩ := hg
    obtain ⟨its, rv, p, hz⟩ := I.list hq
    obtain ⟨f0, f1, f2, f3, f4, f5⟩ := hf it (by simp)
    have hl := rv.length
    exact wpAny_pyNext_list_end (I.ok.hd hc) st p.isList (by simp; omega) fun h' eb => ⟨rfl, I.turned (t' := s.toks) (fun b o hb e => eb b o hb e) f0 f1 f3 f4 f5⟩
  self := fun _ _ _ _ _ st h => wpAny_pyIter_listiter st h
theorem turn_range {P : Program} {w : World} {K : PySem.W.Frag} {tg : Expr} (it : Addr) (lo : Int) (n : Nat) : Turn P w K tg (Itr lo n) [it] it (fun i h => IsRangeIter h it (lo + (i : Nat) * 1) ((n : Int) - (i : Nat)) 1) where
  mem := by simp
  obj := fun i h st b hb => by
    have e : b = it := by simpa using hb
    subst e
    exact ⟨_, st, fun v z => by
      have z' : Data.fields _ = Data.cell v := z
      cases z'⟩
  keep := fun i h h' st k => k it (by simp) _ st
  item := by
    intro X hP hw hK hc i pins s σ H E I hf st hg
    subst hP hw hK
    obtain ⟨f0, f1, f2, f3, f4, f5⟩ := hf it (by simp)
    have W := Walks.range (prog := X.prog) (w := X.w) (I.ok.hd hc) it lo 1 n
    refine W.item i s _ _ hg st fun v h' tk hv st' kk => ?_
    obtain ⟨t, rfl⟩ := hv
    have I1 : Inv X pins σ H { s with heap := h', toks := tk } := I.turned (fun b o hb e => kk b o (by simpa using hb) e) f0 f1 f3 f4 f5
    refine ⟨_, rfl, go_of (s := { s with heap := h', toks := tk }) (n := "range_iterator") st' rfl rfl (by decide) ⟨.int (lo + i), H, I1, ⟨t, ?_⟩, ⟨rfl, rfl⟩, st', fun b hb => (hf b hb).1⟩⟩
    rw [Int.mul_one]
  done := by
    intro X hP hw hK hc i pins s σ H E I hf st hg
    subst hP hw hK
    obtain ⟨f0, f1, f2, f3, f4, f5⟩ := hf it (by simp)
    exact wpAny_pyNext_range_end (I.ok.hd hc) st (by have : n ≤ i := hg; omega) fun h' eb => ⟨rfl, I.turned (t' := s.toks) (fun b o hb e => eb b o hb e) f0 f1 f3 f4 f5⟩
  self := fun _ _ _ _ _ st h => wpAny_pyIter_rangeiter st h
end L2

namespace L2
open PySem PySem.Spec PyProof.Rows
section
variable {X : Cx} {tg : Expr}
def iList (K : PySem.W.Frag) (tl : TE) : TI := fun σ H R => tl σ H fun x H1 => ∃ a, x = .ref a ∧ (∃ xs, SqL K H1 a xs) ∧ R (Itl K a) H1
def iTup (K : PySem.W.Frag) (tl : TE) : TI := fun σ H R => tl σ H fun x H1 => ∃ a, x = .ref a ∧ (∃ xs, SqT K H1 a xs) ∧ R (Itt K a) H1
theorem pi_list {l : Expr} {tl : TE} (hl : PE X l tl) : PI X tg l (iList X.K tl) := by
  intro pins s σ H R I h
  refine thn (hl pins s σ H _ I h) fun v s1 ⟨x, H1, I1, r1, q1⟩ => ?_
  obtain ⟨a, e, ⟨xs, hq⟩, q⟩ := q1
  subst e
  cases r1
  obtain ⟨its, rv, p, hz⟩ := I1.list hq
  refine wpAny_pyIter_list p.isList ?_
  refine ⟨s1.heap.objs.size, [s1.heap.objs.size], _, _, H1, rfl, I1.kept (t' := s1.toks) fun b o e => Heap.get?_push_of_some _ e, turn_list a _, ⟨_, Heap.get?_push_size _ rfl, rfl, rfl⟩, fun b hb => ?_, q⟩
  have e : b = s1.heap.objs.size := by simpa using hb
  subst e
  exact I1.fpOk (Nat.le_refl _) (I1.hok.fresh (Nat.le_refl _))
/-- a range object just made, walked -/
theorem range_it {pins : List (Addr × Obj)} {σ : St} {H : Hp} {s : Shared} {R : It → Hp → Prop} {E : Value → Shared → Prop} {lo hi : Int} {t u v : Tok} {tk : Nat} (I : Inv X pins σ H s) (h1 : -(2 ^ 62) ≤ lo) (h2 : lo < 2 ^ 62) (h3 : -(2 ^ 62) ≤ hi) (h4 : hi < 2 ^ 62)
    (q : R (Itr lo (hi - lo).toNat) H) : wpAny (model X.prog X.w) X.A (pyIter (.ref s.heap.objs.size)) (PIE X pins σ tg R) E { s with heap := s.heap.push { cls := .type "range", data := .fields #[.int lo t, .int hi u, .int 1 v] }, toks := tk } := by
  refine wpAny_pyIter_range (IsRange.new ..) (small_one h1 h2 h3 h4) ?_
  have I1 : Inv X pins σ H { s with heap := s.heap.push { cls := .type "range", data := .fields #[.int lo t, .int hi u, .int 1 v] }, toks := tk } := I.kept fun b o e => Heap.get?_push_of_some _ e
  refine ⟨(s.heap.push { cls := .type "range", data := .fields #[.int lo t, .int hi u, .int 1 v] }).objs.size, [(s.heap.push { cls := .type "range", data := .fields #[.int lo t, .int hi u, .int 1 v] }).objs.size], _, _, H, rfl,
    I1.kept (t' := tk) fun b o e => Heap.get?_push_of_some _ e, turn_range _ lo (hi - lo).toNat, ?_, fun b hb => ?_, q⟩
  · have e1 : lo + ((0 : Nat) : Int) * 1 = lo := by simp
    have e2 : (((hi - lo).toNat : Nat) : Int) - ((0 : Nat) : Int) = Builtin.Range.rangeSize lo hi 1 := by rw [rangeSize_one]; split <;> omega
    show IsRangeIter _ _ (lo + ((0 : Nat) : Int) * 1) ((((hi - lo).toNat : Nat) : Int) - ((0 : Nat) : Int)) 1
    rw [e1, e2]
    exact Heap.get?_push_size _ rfl
  · have e : b = (s.heap.push { cls := .type "range", data := .fields #[.int lo t, .int hi u, .int 1 v] }).objs.size := by simpa using hb
    subst e
    exact I1.fpOk (Nat.le_refl _) (I1.hok.fresh (Nat.le_refl _))
def iRng1 (ta : TA) : TI := fun σ H R => ta σ H fun vs H1 => ∃ j : Int, vs = [.int j] ∧ -(2 ^ 62) ≤ j ∧ j < 2 ^ 62 ∧ R (Itr 0 j.toNat) H1
def iRng2 (ta : TA) : TI := fun σ H R => ta σ H fun vs H1 => ∃ i j : Int, vs = [.int i, .int j] ∧ (-(2 ^ 62) ≤ i ∧ i < 2 ^ 62 ∧ -(2 ^ 62) ≤ j ∧ j < 2 ^ 62) ∧ R (Itr i (j - i).toNat) H1
theorem pi_range1 {a : Expr} {ta : TA} {p pos : Pos} (hg : Gl X "range") (hm : X.mg "range" = none) (ha : PA X [a] ta) (hs : starEach [a] X.env = [(false, eval a X.env)] := by rfl) : PI X tg (.Call (.Name "range" p) [a] [] pos) (iRng1 ta) := by
  intro pins s σ H R I h
  refine Call_ (ld_blt I hg hm boot_range (PyProof.Rows.callWith_type1 (thn (ha pos pins s σ H _ I h) fun us s1 ⟨vs, H1, I1, r1, q1⟩ => ?_) hs rfl))
  obtain ⟨j, e, q1, q2, q⟩ := q1
  subst e
  cases r1 with
  | cons r rr =>
    cases rr
    obtain ⟨t, rfl⟩ := r
    exact call_range_1 (range_it I1 (by omega) (by omega) q1 q2 (by simpa using q))
/-! ### for -/
/-- W: the invariant by the turn and a measure; N: what the body is to reach -/
def tFor (wi : TI) (g : TG) (tb : TS) : TS := fun D σ H => wi σ H fun J H1 => ∃ W : Nat → Nat → St → Hp → Prop, (∃ m, W 0 m σ H1) ∧ ∀ i m σ H, W i m σ H →
  (J.stop i H ∧ D.nx σ H) ∨ (J.go i H ∧ ∃ N : St → Hp → Prop, (∀ σ' H', N σ' H' → ∃ m', m' < m ∧ W (i + 1) m' σ' H') ∧ ∀ x H', J.yld i H x H' → g x σ H' fun σ2 H2 => tb { D with nx := N, ct := N, bk := D.nx } σ2 H2)
/-- the records at fp as they stand -/
def pinsAt (fp : List Addr) (h : Heap) : List (Addr × Obj) := fp.filterMap fun b => (h.get? b).map fun o => (b, o)
theorem mem_pinsAt {fp : List Addr} {h : Heap} {b : Addr} {o : Obj} (hb : b ∈ fp) (e : h.get? b = some o) : (b, o) ∈ pinsAt fp h := List.mem_filterMap.mpr ⟨b, hb, by rw [e]; rfl⟩
theorem of_pinsAt {fp : List Addr} {h : Heap} {p : Addr × Obj} (hp : p ∈ pinsAt fp h) : p.1 ∈ fp ∧ h.get? p.1 = some p.2 := by
  obtain ⟨b, hb, e⟩ := List.mem_filterMap.mp hp
  cases q : h.get? b with
  | none => rw [q] at e; cases e
  | some o =>
    rw [q] at e
    have e' : (b, o) = p := Option.some.inj e
    subst e'
    exact ⟨hb, q⟩
theorem Inv.pinned {pins : List (Addr × Obj)} {σ : St} {H : Hp} {s : Shared} {fp : List Addr} (I : Inv X pins σ H s) (hf : ∀ b ∈ fp, FpOk X pins H b) (ho : ∀ b ∈ fp, ∃ o, s.heap.get? b = some o ∧ ∀ v, o.data ≠ .cell v) : Inv X (pins ++ pinsAt fp s.heap) σ H s :=
  I.pins_of fun p hp => (List.mem_append.mp hp).elim (fun z => I.pin p (List.mem_append_right _ z)) fun z => by
    obtain ⟨hb, e⟩ := of_pinsAt z
    obtain ⟨f0, f1, f2, _⟩ := hf p.1 hb
    obtain ⟨o, e', d⟩ := ho p.1 hb
    rw [e] at e'; cases e'
    exact ⟨e, f0, f1, f2, d⟩
theorem Inv.unpinned {pins pl : List (Addr × Obj)} {σ : St} {H : Hp} {s : Shared} (I : Inv X (pins ++ pl) σ H s) : Inv X pins σ H s := I.pins_of fun p hp => I.pin p (List.mem_append_right _ (List.mem_append_left _ hp))
theorem ps_for {iter : Expr} {body : List Stmt} {wi : TI} {g : TG} {tb : TS} {pos : Pos} (hp : PassesOwn (model X.prog X.w) X.A X.env X.xe) (hc : X.calm = true) (hi : PI X tg iter wi) (hg : PG X tg g) (hb : PSs X body tb)
    (hs : ∀ x, foldedSetIterable iter X.env x = pure x := by intro _; rfl) : PS X (.For tg iter body [] pos) (tFor wi g tb) := by
  intro pins s σ H D I h
  refine wpAny_For (thn (hi pins s σ H _ I h) fun v s1 h1 => thn h1 fun itv s2 h2 => ?_) hs
  obtain ⟨it, fp, tn, J, H2, e, I2, T, st2, f2, W, ⟨m0, w0⟩, turn⟩ := h2
  subst e
  -- what stays true of the iterator's objects through the loop
  have stat : ∀ {H' : Hp}, (∀ b ∈ fp, H' b = none) → ∀ b ∈ fp, FpOk X pins H' b := fun hn b hb => ⟨hn b hb, (f2 b hb).2⟩
  refine codeAny_forLoop_any (fun n s' => ∃ i σ' H', Inv X pins σ' H' s' ∧ tn i s'.heap ∧ (∀ b ∈ fp, H' b = none) ∧ W i n σ' H') ?_ m0 ⟨0, σ, H2, I2, st2, fun b hb => (f2 b hb).1, w0⟩
  rintro n s3 ⟨i, σ3, H3, I3, st3, fr3, w3⟩
  rcases turn i n σ3 H3 w3 with ⟨stop, qn⟩ | ⟨go, N, hN, step⟩
  · refine wpAny_passesOwn hp (thn (T.done X rfl rfl rfl hc i pins s3 σ3 H3 X.xe I3 (stat fr3) st3 stop) fun r s4 ⟨hr, I4⟩ => ?_)
    subst hr
    exact wpAny_execs_nil ⟨σ3, H3, I4, qn⟩
  · refine wpAny_passesOwn hp (thn (T.item X rfl rfl rfl hc i pins s3 σ3 H3 X.xe I3 (stat fr3) st3 go) fun r s4 ⟨u, hr, h4⟩ => ?_)
    subst hr
    refine wpAny_passesOwn hp (thn h4 fun _ s5 ⟨x, H5, I5, r5, y5, st5, fr5⟩ => ?_)
    have I5' := I5.pinned (stat fr5) (T.obj _ _ st5)
    refine wpAny_passesOwn hp (thn (hg _ s5 σ3 H5 x u _ I5' r5 (step x H5 y5)) fun _ s6 ⟨σ6, H6, I6, q6⟩ => ?_)
    refine wpAny_passesOwn hp (thn (hb _ s6 σ6 H6 _ I6 q6) fun f s7 q7 => ?_)
    have again : ∀ {σ7 : St} {H7 : Hp}, Inv X (pins ++ pinsAt fp s5.heap) σ7 H7 s7 → N σ7 H7 → ∃ m, m < n ∧ ∃ i σ' H', Inv X pins σ' H' s7 ∧ tn i s7.heap ∧ (∀ b ∈ fp, H' b = none) ∧ W i m σ' H' := fun {σ7 H7} I7 n7 => by
      obtain ⟨m', hm, w7⟩ := hN σ7 H7 n7
      refine ⟨m', hm, i + 1, σ7, H7, I7.unpinned, T.keep _ _ _ st5 fun b hb o e => (I7.pin (b, o) (List.mem_append_right _ (List.mem_append_right _ (mem_pinsAt hb e)))).1, fun b hb => ?_, w7⟩
      obtain ⟨o, e, d⟩ := T.obj _ _ st5 b hb
      exact (I7.pin (b, o) (List.mem_append_right _ (List.mem_append_right _ (mem_pinsAt hb e)))).2.1
    cases f with
    | next => obtain ⟨σ7, H7, I7, n7⟩ := q7; exact again I7 n7
    | cont => obtain ⟨σ7, H7, I7, n7⟩ := q7; exact again I7 n7
    | brk => obtain ⟨σ7, H7, I7, q7⟩ := q7; exact ⟨σ7, H7, I7.unpinned, q7⟩
    | ret v => obtain ⟨x7, σ7, H7, I7, r7, q7⟩ := q7; exact ⟨x7, σ7, H7, I7.unpinned, r7, q7⟩
end

/-! ### the forms one uses -/
/-- over a list that the body leaves as it is -/
theorem for_list {K : PySem.W.Frag} {a : Addr} {xs : List V} {g : TG} {tb : TS} {D : Ends} {σ : St} {H : Hp} (Pv : Nat → St → Hp → Prop) (h0 : Pv 0 σ H) (hl : ∀ i σ H, i ≤ xs.length → Pv i σ H → SqL K H a xs)
    (hs : ∀ i x σ H, xs[i]? = some x → Pv i σ H → g x σ H fun σ2 H2 => tb { D with nx := Pv (i + 1), ct := Pv (i + 1), bk := D.nx } σ2 H2) (hd : ∀ σ H, Pv xs.length σ H → D.nx σ H) :
    ∃ W : Nat → Nat → St → Hp → Prop, (∃ m, W 0 m σ H) ∧ ∀ i m σ H, W i m σ H →
      ((Itl K a).stop i H ∧ D.nx σ H) ∨ ((Itl K a).go i H ∧ ∃ N : St → Hp → Prop, (∀ σ' H', N σ' H' → ∃ m', m' < m ∧ W (i + 1) m' σ' H') ∧ ∀ x H', (Itl K a).yld i H x H' → g x σ H' fun σ2 H2 => tb { D with nx := N, ct := N, bk := D.nx } σ2 H2) := by
  refine ⟨fun i m σ H => m = xs.length - i ∧ i ≤ xs.length ∧ Pv i σ H, ⟨xs.length, by simp, Nat.zero_le _, h0⟩, ?_⟩
  rintro i m σ H ⟨rfl, hi, p⟩
  have q := hl i σ H hi p
  by_cases hlt : i < xs.length
  · refine .inr ⟨⟨xs, xs[i], q, by simp [hlt]⟩, Pv (i + 1), fun σ' H' p' => ⟨xs.length - (i + 1), by omega, rfl, hlt, p'⟩, fun x H' y => ?_⟩
    obtain ⟨e, y⟩ := y
    subst e
    exact hs i x σ _ (y xs q) p
  · have e : i = xs.length := by omega
    subst e
    exact .inl ⟨⟨xs, q, Nat.le_refl _⟩, hd σ H p⟩
theorem for_range {lo : Int} {n : Nat} {g : TG} {tb : TS} {D : Ends} {σ : St} {H : Hp} (Pv : Nat → St → Hp → Prop) (h0 : Pv 0 σ H)
    (hs : ∀ i σ H, i < n → Pv i σ H → g (.int (lo + i)) σ H fun σ2 H2 => tb { D with nx := Pv (i + 1), ct := Pv (i + 1), bk := D.nx } σ2 H2) (hd : ∀ σ H, Pv n σ H → D.nx σ H) :
    ∃ W : Nat → Nat → St → Hp → Prop, (∃ m, W 0 m σ H) ∧ ∀ i m σ H, W i m σ H →
      ((Itr lo n).stop i H ∧ D.nx σ H) ∨ ((Itr lo n).go i H ∧ ∃ N : St → Hp → Prop, (∀ σ' H', N σ' H' → ∃ m', m' < m ∧ W (i + 1) m' σ' H') ∧ ∀ x H', (Itr lo n).yld i H x H' → g x σ H' fun σ2 H2 => tb { D with nx := N, ct := N, bk := D.nx } σ2 H2) := by
  refine ⟨fun i m σ H => m = n - i ∧ i ≤ n ∧ Pv i σ H, ⟨n, by simp, Nat.zero_le _, h0⟩, ?_⟩
  rintro i m σ H ⟨rfl, hi, p⟩
  by_cases hlt : i < n
  · refine .inr ⟨hlt, Pv (i + 1), fun σ' H' p' => ⟨n - (i + 1), by omega, rfl, hlt, p'⟩, fun x H' y => ?_⟩
    obtain ⟨e, y⟩ := y
    subst e y
    exact hs i σ _ hlt p
  · have e : i = n := by omega
    subst e
    exact .inl ⟨Nat.le_refl _, hd σ H p⟩
end L2

namespace L2
open PySem PySem.Spec PyProof.Rows

abbrev R2 := V → V → Hp → VK → Prop
/-- a two-place operation on values: f is binaryOp op, inplaceOp op or compareOp op -/
def OpR (X : Cx) (f : Value → Value → Sem Value) (r : R2) : Prop :=
  ∀ (pins : List (Addr × Obj)) (s : Shared) (σ : St) (H : Hp) (x y : V) (v u : Value) (Q : VK), Inv X pins σ H s → RelV x v → RelV y u → r x y H Q →
    wpAny (model X.prog X.w) X.A (f v u) (EP X pins σ Q) X.xe s
/-- a one-place operation -/
def UnR (X : Cx) (f : Value → Sem Value) (r : V → Hp → VK → Prop) : Prop :=
  ∀ (pins : List (Addr × Obj)) (s : Shared) (σ : St) (H : Hp) (x : V) (v : Value) (Q : VK), Inv X pins σ H s → RelV x v → r x H Q →
    wpAny (model X.prog X.w) X.A (f v) (EP X pins σ Q) X.xe s
/-- a call of a value that is known (a builtin, a type) with values -/
def CallR (X : Cx) (f : Value) (r : List V → Hp → VK → Prop) : Prop :=
  ∀ (pins : List (Addr × Obj)) (s : Shared) (σ : St) (H : Hp) (xs : List V) (us : List Value) (Q : VK), Inv X pins σ H s → Vals xs us → r xs H Q →
    wpAny (model X.prog X.w) X.A (call f us) (EP X pins σ Q) X.xe s
/-- a value's truth -/
def TruR (X : Cx) (r : V → Hp → (Bool → Hp → Prop) → Prop) : Prop :=
  ∀ (pins : List (Addr × Obj)) (s : Shared) (σ : St) (H : Hp) (x : V) (v : Value) (Q : Bool → Hp → Prop), Inv X pins σ H s → RelV x v → r x H Q →
    wpAny (model X.prog X.w) X.A (truthy v) (TP X pins σ Q) X.xe s

def tOp (r : R2) (ta tb : TE) : TE := fun σ H Q => ta σ H fun x H1 => tb σ H1 fun y H2 => r x y H2 Q
def tUn (r : V → Hp → VK → Prop) (ta : TE) : TE := fun σ H Q => ta σ H fun x H1 => r x H1 Q
/-- ints in, under C, and a value out -/
def rI (C : Int → Int → Prop) (g : Int → Int → V) : R2 := fun x y H Q => ∃ i j, x = .int i ∧ y = .int j ∧ C i j ∧ Q (g i j) H
def rI0 (g : Int → Int → V) : R2 := fun x y H Q => ∃ i j, x = .int i ∧ y = .int j ∧ Q (g i j) H
def rU (g : Int → V) : V → Hp → VK → Prop := fun x H Q => ∃ i, x = .int i ∧ Q (g i) H

section
variable {X : Cx} {a b c : Expr} {ta tb tc : TE} {pos : Pos}

theorem binT (ha : PE X a ta) (hb : PE X b tb) {pins : List (Addr × Obj)} {s : Shared} {σ : St} {H : Hp} {R : V → V → Hp → Prop} (I : Inv X pins σ H s)
    (h : ta σ H fun x H1 => tb σ H1 fun y H2 => R x y H2) {Q : Value → Shared → Prop} {f : Value → Value → Sem Value}
    (hf : ∀ v u s2 x y H2, Inv X pins σ H2 s2 → RelV x v → RelV y u → R x y H2 → wpAny (model X.prog X.w) X.A (f v u) Q X.xe s2) :
    wpAny (model X.prog X.w) X.A (eval a X.env) (fun v s₁ => wpAny (model X.prog X.w) X.A (eval b X.env) (fun u s₂ => wpAny (model X.prog X.w) X.A (f v u) Q X.xe s₂) X.xe s₁) X.xe s := by
  refine thn (ha pins s σ H _ I h) fun v s1 ⟨x, H1, I1, r1, q1⟩ => ?_
  refine thn (hb pins s1 σ H1 _ I1 q1) fun u s2 ⟨y, H2, I2, r2, q2⟩ => ?_
  exact hf v u s2 x y H2 I2 r1 r2 q2

theorem pe_op {op : Operator} {r : R2} (ho : OpR X (binaryOp op) r) (ha : PE X a ta) (hb : PE X b tb) : PE X (.BinOp a op b pos) (tOp r ta tb) := by
  intro pins s σ H Q I h
  exact wpAny_BinOp (binT ha hb I h fun v u s2 x y H2 I2 rx ry q => ho pins s2 σ H2 x y v u Q I2 rx ry q)
theorem pe_un {op : UnaryOp} {r : V → Hp → VK → Prop} (ho : UnR X (unaryOp op) r) (ha : PE X a ta) : PE X (.UnaryOp op a pos) (tUn r ta) := by
  intro pins s σ H Q I h
  exact UnaryOp_ (thn (ha pins s σ H _ I h) fun v s1 ⟨x, H1, I1, r1, q1⟩ => ho pins s1 σ H1 x v Q I1 r1 q1)
/-! ### ints -/
theorem opI {f : Value → Value → Sem Value} {C : Int → Int → Prop} {g : Int → Int → Int}
    (rule : ∀ (i j : Int) (t u : Tok) (s : Shared) (Q : Value → Shared → Prop) (E : Value → Shared → Prop), C i j → Q (.int (g i j) s.toks) { s with toks := s.toks + 1 } → wpAny (model X.prog X.w) X.A (f (.int i t) (.int j u)) Q E s) :
    OpR X f (rI C fun i j => .int (g i j)) := by
  intro pins s σ H x y v u Q I rx ry h
  obtain ⟨i, j, rfl, rfl, hc, q⟩ := h
  obtain ⟨t, rfl⟩ := rx
  obtain ⟨t', rfl⟩ := ry
  exact rule i j t t' s _ _ hc ⟨.int (g i j), H, I.tok _, ⟨_, rfl⟩, q⟩
theorem opI0 {f : Value → Value → Sem Value} {g : Int → Int → Int}
    (rule : ∀ (i j : Int) (t u : Tok) (s : Shared) (Q : Value → Shared → Prop) (E : Value → Shared → Prop), Q (.int (g i j) s.toks) { s with toks := s.toks + 1 } → wpAny (model X.prog X.w) X.A (f (.int i t) (.int j u)) Q E s) :
    OpR X f (rI0 fun i j => .int (g i j)) := by
  intro pins s σ H x y v u Q I rx ry h
  obtain ⟨i, j, rfl, rfl, q⟩ := h
  obtain ⟨t, rfl⟩ := rx
  obtain ⟨t', rfl⟩ := ry
  exact rule i j t t' s _ _ ⟨.int (g i j), H, I.tok _, ⟨_, rfl⟩, q⟩
theorem opB0 {f : Value → Value → Sem Value} {g : Int → Int → Bool}
    (rule : ∀ (i j : Int) (t u : Tok) (s : Shared) (Q : Value → Shared → Prop) (E : Value → Shared → Prop), Q (.bool (g i j)) s → wpAny (model X.prog X.w) X.A (f (.int i t) (.int j u)) Q E s) :
    OpR X f (rI0 fun i j => .bl (g i j)) := by
  intro pins s σ H x y v u Q I rx ry h
  obtain ⟨i, j, rfl, rfl, q⟩ := h
  obtain ⟨t, rfl⟩ := rx
  obtain ⟨t', rfl⟩ := ry
  exact rule i j t t' s _ _ ⟨.bl (g i j), H, I, rfl, q⟩

def CDiv (i j : Int) : Prop := 0 < j ∧ j < 1073741824
def CDivN (i j : Int) : Prop := j ≠ 0 ∧ j.natAbs < 1073741824
def CPow (i j : Int) : Prop := 0 ≤ j ∧ j ≤ 1000000 ∧ i.natAbs < 2 ^ 64
def CMul (i j : Int) : Prop := (-(2 ^ 64) < i ∧ i < 2 ^ 64) ∨ (-(2 ^ 64) < j ∧ j < 2 ^ 64)
theorem CMul.ok {i j : Int} (h : CMul i j) : IntMulOk i j := by
  rcases h with ⟨h1, h2⟩ | ⟨h1, h2⟩
  · exact .of_left (intBits_le_64 h1 h2)
  · exact .of_right (intBits_le_64 h1 h2)
theorem op_add : OpR X (binaryOp .Add) (rI0 fun i j => .int (i + j)) := opI0 fun _ _ _ _ _ _ _ q => add_int q
theorem op_sub : OpR X (binaryOp .Sub) (rI0 fun i j => .int (i - j)) := opI0 fun _ _ _ _ _ _ _ q => sub_int q
theorem op_mul : OpR X (binaryOp .Mult) (rI CMul fun i j => .int (i * j)) := opI fun _ _ _ _ _ _ _ hc q => mul_int q hc.ok
/-- % by a positive divisor of any size -/
theorem op_mod : OpR X (binaryOp .Mod) (rI (fun _ j => 0 < j) fun i j => .int (i % j)) := opI fun i j _ _ _ _ _ hc q => by
  have h1 : (0 : Int) < j := hc
  exact mod_int' (by omega) (by rw [Int.fmod_eq_emod_of_nonneg i (by omega)]; exact q)
theorem op_pow : OpR X (binaryOp .Pow) (rI CPow fun i j => .int (i ^ j.toNat)) := opI fun _ _ _ _ _ _ _ hc q => pow_int_small hc.1 hc.2.1 hc.2.2 q
theorem unI {f : Value → Sem Value} {g : Int → Int}
    (rule : ∀ (i : Int) (t : Tok) (s : Shared) (Q : Value → Shared → Prop) (E : Value → Shared → Prop), Q (.int (g i) s.toks) { s with toks := s.toks + 1 } → wpAny (model X.prog X.w) X.A (f (.int i t)) Q E s) :
    UnR X f (rU fun i => .int (g i)) := by
  intro pins s σ H x v Q I rx h
  obtain ⟨i, rfl, q⟩ := h
  obtain ⟨t, rfl⟩ := rx
  exact rule i t s _ _ ⟨.int (g i), H, I.tok _, ⟨_, rfl⟩, q⟩
theorem un_neg : UnR X (unaryOp .USub) (rU fun i => .int (-i)) := unI fun _ _ _ _ _ q => neg_int q
/-! ### bools among ints: n += (a < b) -/
end

/-! ### comparisons -/
/-- the scalars that == tells apart as data does -/
def scal : V → V → Bool
  | .non, .non => true | .non, .int _ => true | .int _, .non => true | .non, .bl _ => true | .bl _, .non => true | .non, .str _ => true | .str _, .non => true
  | .int _, .int _ => true | .bl _, .bl _ => true | .str _, .str _ => true | .byt _, .byt _ => true
  | .int _, .str _ => true | .str _, .int _ => true | .bl _, .str _ => true | .str _, .bl _ => true
  | _, _ => false
def rEq : R2 := fun x y H Q => scal x y = true ∧ Q (.bl (decide (x = y))) H
def rNe : R2 := fun x y H Q => scal x y = true ∧ Q (.bl (!decide (x = y))) H

theorem dec_int {i j : Int} : decide (V.int i = V.int j) = (i == j) := by
  rw [Bool.eq_iff_iff]
  simp
theorem dec_bl {i j : Bool} : decide (V.bl i = V.bl j) = (i == j) := by
  rw [Bool.eq_iff_iff]
  simp
theorem dec_str {i j : Str} : decide (V.str i = V.str j) = (i == j) := by
  rw [Bool.eq_iff_iff]
  simp
theorem dec_byt {i j : Array UInt8} : decide (V.byt i = V.byt j) = (i.toList == j.toList) := by
  rw [Bool.eq_iff_iff]
  cases i
  cases j
  simp

section
variable {X : Cx} {a b c : Expr} {ta tb tc : TE} {pos : Pos}
theorem fin_bl {pins : List (Addr × Obj)} {σ : St} {H : Hp} {s : Shared} {Q : VK} {k k' : Bool} (I : Inv X pins σ H s) (q : Q (.bl k) H) (e : k = k') : EP X pins σ Q (.bool k') s := by
  subst e
  exact ⟨.bl k, H, I, rfl, q⟩
theorem op_eq : OpR X (compareOp .Eq) rEq := by
  intro pins s σ H x y v u Q I rx ry h
  obtain ⟨hs, q⟩ := h
  cases x with
  | non =>
    cases rx
    cases y with
    | non => cases ry; exact PySem.EqNone.eq_none_none (fin_bl I q (by simp))
    | bl j => cases ry; exact PySem.EqNone.eq_none_bool (fin_bl I q (by simp))
    | int j => obtain ⟨t', rfl⟩ := ry; exact PySem.EqNone.eq_none_int (fin_bl I q (by simp))
    | str j => obtain ⟨t', rfl⟩ := ry; exact PySem.EqNone.eq_none_str (fin_bl I q (by simp))
    | _ => exact absurd (show false = true from hs) Bool.false_ne_true
  | bl i =>
    cases rx
    cases y with
    | non => cases ry; exact PySem.EqNone.eq_bool_none (fin_bl I q (by simp))
    | bl j => cases ry; exact eq_bool (fin_bl I q dec_bl)
    | str j => obtain ⟨t', rfl⟩ := ry; exact PySem.EqMixed.eq_bool_str (fin_bl I q (by simp))
    | _ => exact absurd (show false = true from hs) Bool.false_ne_true
  | int i =>
    obtain ⟨t, rfl⟩ := rx
    cases y with
    | non => cases ry; exact PySem.EqNone.eq_int_none (fin_bl I q (by simp))
    | int j => obtain ⟨t', rfl⟩ := ry; exact eq_int (fin_bl I q dec_int)
    | str j => obtain ⟨t', rfl⟩ := ry; exact PySem.EqMixed.eq_int_str (fin_bl I q (by simp))
    | _ => exact absurd (show false = true from hs) Bool.false_ne_true
  | str i =>
    obtain ⟨t, rfl⟩ := rx
    cases y with
    | non => cases ry; exact PySem.EqNone.eq_str_none (fin_bl I q (by simp))
    | bl j => cases ry; exact PySem.EqMixed.eq_str_bool (fin_bl I q (by simp))
    | int j => obtain ⟨t', rfl⟩ := ry; exact PySem.EqMixed.eq_str_int (fin_bl I q (by simp))
    | str j => obtain ⟨t', rfl⟩ := ry; exact eq_str (fin_bl I q dec_str)
    | _ => exact absurd (show false = true from hs) Bool.false_ne_true
  | byt i =>
    obtain ⟨t, rfl⟩ := rx
    cases y with
    | byt j => obtain ⟨t', rfl⟩ := ry; exact PySem.W.eq_bytes (fin_bl I q dec_byt)
    | _ => exact absurd (show false = true from hs) Bool.false_ne_true
  | _ => cases y <;> exact absurd (show false = true from hs) Bool.false_ne_true
theorem op_ne : OpR X (compareOp .NotEq) rNe := by
  intro pins s σ H x y v u Q I rx ry h
  obtain ⟨hs, q⟩ := h
  cases x with
  | non =>
    cases rx
    cases y with
    | non => cases ry; exact PySem.EqNone.ne_none_none (fin_bl I q (by simp))
    | bl j => cases ry; exact PySem.EqNone.ne_none_bool (fin_bl I q (by simp))
    | int j => obtain ⟨t', rfl⟩ := ry; exact PySem.EqNone.ne_none_int (fin_bl I q (by simp))
    | str j => obtain ⟨t', rfl⟩ := ry; exact PySem.EqNone.ne_none_str (fin_bl I q (by simp))
    | _ => exact absurd (show false = true from hs) Bool.false_ne_true
  | bl i =>
    cases rx
    cases y with
    | non => cases ry; exact PySem.EqNone.ne_bool_none (fin_bl I q (by simp))
    | bl j => cases ry; exact ne_bool (fin_bl I q (congrArg not dec_bl))
    | str j => obtain ⟨t', rfl⟩ := ry; exact PySem.EqMixed.ne_bool_str (fin_bl I q (by simp))
    | _ => exact absurd (show false = true from hs) Bool.false_ne_true
  | int i =>
    obtain ⟨t, rfl⟩ := rx
    cases y with
    | non => cases ry; exact PySem.EqNone.ne_int_none (fin_bl I q (by simp))
    | int j => obtain ⟨t', rfl⟩ := ry; exact ne_int (fin_bl I q (congrArg not dec_int))
    | str j => obtain ⟨t', rfl⟩ := ry; exact PySem.EqMixed.ne_int_str (fin_bl I q (by simp))
    | _ => exact absurd (show false = true from hs) Bool.false_ne_true
  | str i =>
    obtain ⟨t, rfl⟩ := rx
    cases y with
    | non => cases ry; exact PySem.EqNone.ne_str_none (fin_bl I q (by simp))
    | bl j => cases ry; exact PySem.EqMixed.ne_str_bool (fin_bl I q (by simp))
    | int j => obtain ⟨t', rfl⟩ := ry; exact PySem.EqMixed.ne_str_int (fin_bl I q (by simp))
    | str j => obtain ⟨t', rfl⟩ := ry; exact ne_str (fin_bl I q (congrArg not dec_str))
    | _ => exact absurd (show false = true from hs) Bool.false_ne_true
  | byt i =>
    obtain ⟨t, rfl⟩ := rx
    cases y with
    | byt j => obtain ⟨t', rfl⟩ := ry; exact PySem.W.ne_bytes (fin_bl I q (congrArg not dec_byt))
    | _ => exact absurd (show false = true from hs) Bool.false_ne_true
  | _ => cases y <;> exact absurd (show false = true from hs) Bool.false_ne_true

theorem op_lt : OpR X (compareOp .Lt) (rI0 fun i j => .bl (decide (i < j))) := opB0 fun _ _ _ _ _ _ _ q => lt_int q
theorem op_le : OpR X (compareOp .LtE) (rI0 fun i j => .bl (decide (i ≤ j))) := opB0 fun _ _ _ _ _ _ _ q => le_int q
theorem op_gt : OpR X (compareOp .Gt) (rI0 fun i j => .bl (decide (j < i))) := opB0 fun _ _ _ _ _ _ _ q => gt_int q
theorem op_ge : OpR X (compareOp .GtE) (rI0 fun i j => .bl (decide (j ≤ i))) := opB0 fun _ _ _ _ _ _ _ q => ge_int q
/-- is, is not of two objects that are tracked lists or instances -/
def isObj : HO → Bool
  | .lst _ => true
  | .ins _ _ _ => true
  | _ => false
theorem nomark (b : Expr) {op : CmpOp} (h : op ≠ .In := by decide) (h2 : op ≠ .NotIn := by decide) : behindInMarks op b = false := by
  have e1 : (op == CmpOp.In) = false := by cases op <;> first | rfl | exact absurd rfl h
  have e2 : (op == CmpOp.NotIn) = false := by cases op <;> first | rfl | exact absurd rfl h2
  cases b <;> simp [behindInMarks, e1, e2]
/-- a comparison as a value; hm: nomark b, or (for in, not in) by with_unfolding_all rfl -/
theorem pe_cmpR {op : CmpOp} {r : R2} (ho : OpR X (compareOp op) r) (ha : PE X a ta) (hb : PE X b tb) (hm : behindInMarks op b = false) : PE X (.Compare a [op] [b] pos) (tOp r ta tb) := by
  intro pins s σ H Q I h
  exact wpAny_Compare1 (binT ha hb I h fun v u s2 x y H2 I2 rx ry q => ho pins s2 σ H2 x y v u Q I2 rx ry q) hm
/-- a reading of a value as a test -/
def tTest (t : TE) : TT := fun σ H Q => t σ H fun x H' => ∃ k, x = .bl k ∧ Q k H'
theorem pt_cmpR {op : CmpOp} {r : R2} (ho : OpR X (compareOp op) r) (ha : PE X a ta) (hb : PE X b tb) (hm : behindInMarks op b = false) : PT X (.Compare a [op] [b] pos) (tTest (tOp r ta tb)) := by
  intro pins s σ H Q I h
  refine wpAny_isTrue_Compare1 (thn (ha pins s σ H _ I h) fun v s1 ⟨x, H1, I1, r1, q1⟩ => thn (hb pins s1 σ H1 _ I1 q1) fun u s2 ⟨y, H2, I2, r2, q2⟩ =>
    thn (ho pins s2 σ H2 x y v u _ I2 r1 r2 q2) fun c s3 ⟨z, H3, I3, r3, k, e, q3⟩ => ?_) hm
  subst e
  cases r3
  exact wpAny_truthy_bool ⟨H3, I3, q3⟩
/-- a op1 b op2 c -/
def tChain (r r' : R2) (ta tb tc : TE) : TE := fun σ H Q => ta σ H fun x H1 => tb σ H1 fun y H2 => r x y H2 fun z H3 => ∃ k, z = .bl k ∧
  (if k = true then tc σ H3 fun w' H4 => r' y w' H4 Q else Q (.bl false) H3)
/-! ### truth -/
/-- a value's truth by the abstract heap -/
def TruV (K : PySem.W.Frag) (x : V) (H : Hp) (k : Bool) : Prop :=
  match x with
  | .non => k = false
  | .bl b => k = b
  | .int i => k = (i != 0)
  | .str y => y.length ≤ sizeLine ∧ k = ((y.length : Int) != 0)
  | .byt y => y.size ≤ sizeLine ∧ k = ((y.size : Int) != 0)
  | .ref p => (∃ xs, SqL K H p xs ∧ k = !xs.isEmpty) ∨ (∃ xs, SqT K H p xs ∧ k = !xs.isEmpty) ∨ ∃ kvs, H p = some (.dK kvs) ∧ k = !kvs.isEmpty
  | _ => False
theorem isEmpty_kv {κ : Type} {kvs : List (κ × V)} {vs : List (κ × Value)} (r : KV kvs vs) : (!vs.isEmpty) = !kvs.isEmpty := by
  cases r <;> rfl
theorem isEmpty_of {xs : List V} {its : List Value} (r : Vals xs its) : (!its.toArray.isEmpty) = !xs.isEmpty := by
  cases r <;> simp
theorem line63 : (sizeLine : Nat) < 2 ^ 63 := by rw [sizeLine_eq]; decide
theorem tru_ok : TruR X (fun x H Q => ∃ k, TruV X.K x H k ∧ Q k H) := by
  intro pins s σ H x v Q I rx h
  obtain ⟨k, e, q⟩ := h
  have hl := line63
  have hs : sizeLine = 16777216 := sizeLine_eq
  cases x with
  | non =>
    cases rx
    have e' : k = false := e
    subst e'
    exact truthy_none ⟨H, I, q⟩
  | bl b =>
    cases rx
    have e' : k = b := e
    subst e'
    exact wpAny_truthy_bool ⟨H, I, q⟩
  | int i =>
    obtain ⟨t, rfl⟩ := rx
    have e' : k = (i != 0) := e
    subst e'
    exact PySem.P.truthy_int ⟨H, I, q⟩
  | str y =>
    obtain ⟨t, rfl⟩ := rx
    obtain ⟨hy, e'⟩ : y.length ≤ sizeLine ∧ k = ((y.length : Int) != 0) := e
    subst e'
    exact PySem.P.truthy_str (by omega) ⟨H, I.tok _, q⟩
  | byt y =>
    obtain ⟨t, rfl⟩ := rx
    obtain ⟨hy, e'⟩ : y.size ≤ sizeLine ∧ k = ((y.size : Int) != 0) := e
    subst e'
    exact PySem.W.truthy_bytes (by omega) ⟨H, I.tok _, q⟩
  | ref p =>
    cases rx
    have e' : (∃ xs, SqL X.K H p xs ∧ k = !xs.isEmpty) ∨ (∃ xs, SqT X.K H p xs ∧ k = !xs.isEmpty) ∨ ∃ kvs, H p = some (.dK kvs) ∧ k = !kvs.isEmpty := e
    rcases e' with ⟨xs, hx, e'⟩ | ⟨xs, hx, e'⟩ | ⟨kvs, hx, e'⟩
    · subst e'
      obtain ⟨its, r, pl, hz⟩ := I.list hx
      have hlen := r.length
      exact wpAny_truthy_list pl.isList (by simp only [List.size_toArray]; omega) ⟨H, I.tok _, by rw [isEmpty_of r]; exact q⟩
    · subst e'
      obtain ⟨its, r, pl, hz⟩ := I.tuple hx
      have hlen := r.length
      exact truthy_tuple pl (by simp only [List.size_toArray]; omega) ⟨H, I.tok _, by rw [isEmpty_of r]; exact q⟩
    · subst e'
      obtain ⟨hz, hS, vs, r, m⟩ : kvs.length ≤ sizeLine ∧ (p == sysModules) = false ∧ ∃ vs, KV kvs vs ∧ s.heap.DictOf (mixKind X.prog X.w) p vs := I.hok p _ hx
      have hlen : kvs.length = vs.length := Paired.length r
      exact wpAny_truthy_dict hS m (by omega) ⟨H, I.tok _, by rw [isEmpty_kv r]; exact q⟩
  | _ => exact (show False from e).elim
/-! ### strs and bytes -/
def PlainIxT (b : Expr) : Prop := ∀ o i, subscripted b false o i = operate [o, i] (getItem o i)
/-! ### scalar builtins, by CallR -/
theorem vals1 {x : V} {us : List Value} (r : Vals [x] us) : ∃ u, us = [u] ∧ RelV x u := by
  cases r with
  | cons r1 r2 => cases r2; exact ⟨_, rfl, r1⟩
theorem vals2 {x y : V} {us : List Value} (r : Vals [x, y] us) : ∃ u w', us = [u, w'] ∧ RelV x u ∧ RelV y w' := by
  cases r with
  | cons r1 r2 =>
    cases r2 with
    | cons r3 r4 => cases r4; exact ⟨_, _, rfl, r1, r3⟩
theorem call_abs : CallR X (.builtin "abs") (fun xs H Q => ∃ i, xs = [.int i] ∧ Q (.int (if i < 0 then -i else i)) H) := by
  intro pins s σ H xs us Q I r h
  obtain ⟨i, rfl, q⟩ := h
  obtain ⟨u, rfl, t, rfl⟩ := vals1 r
  exact call_abs_int fun u tk => ⟨.int (if i < 0 then -i else i), H, I.tok _, ⟨_, rfl⟩, q⟩
theorem call_max2 (hc : X.calm = true) : CallR X (.builtin "max") (fun xs H Q => ∃ i j, xs = [.int i, .int j] ∧ Q (.int (if j > i then j else i)) H) := by
  intro pins s σ H xs us Q I r h
  obtain ⟨i, j, rfl, q⟩ := h
  obtain ⟨u, w', rfl, ⟨t, rfl⟩, ⟨t', rfl⟩⟩ := vals2 r
  refine max_two_ints (I.ok.hd hc) fun h' tk k => ⟨_, H, I.kept k, ?_, q⟩
  by_cases hj : j > i
  · rw [if_pos hj, if_pos hj]; exact ⟨_, rfl⟩
  · rw [if_neg hj, if_neg hj]; exact ⟨_, rfl⟩
theorem call_min2 (hc : X.calm = true) : CallR X (.builtin "min") (fun xs H Q => ∃ i j, xs = [.int i, .int j] ∧ Q (.int (if j < i then j else i)) H) := by
  intro pins s σ H xs us Q I r h
  obtain ⟨i, j, rfl, q⟩ := h
  obtain ⟨u, w', rfl, ⟨t, rfl⟩, ⟨t', rfl⟩⟩ := vals2 r
  refine min_two_ints (I.ok.hd hc) fun h' tk k => ⟨_, H, I.kept k, ?_, q⟩
  by_cases hj : j < i
  · rw [if_pos hj, if_pos hj]; exact ⟨_, rfl⟩
  · rw [if_neg hj, if_neg hj]; exact ⟨_, rfl⟩
theorem call_int1 : CallR X (.type "int") (fun xs H Q => (∃ i, xs = [.int i] ∧ Q (.int i) H) ∨ ∃ k, xs = [.bl k] ∧ Q (.int (if k then 1 else 0)) H) := by
  intro pins s σ H xs us Q I r h
  rcases h with ⟨i, rfl, q⟩ | ⟨k, rfl, q⟩
  · obtain ⟨u, rfl, t, rfl⟩ := vals1 r
    exact call_int_int ⟨.int i, H, I, ⟨_, rfl⟩, q⟩
  · obtain ⟨u, rfl, r1⟩ := vals1 r
    cases r1
    exact call_int_bool ⟨.int (if k then 1 else 0), H, I.tok _, ⟨_, rfl⟩, q⟩
/-- len of a str, a bytes, a list, a tuple -/
def LenV (K : PySem.W.Frag) (x : V) (H : Hp) (n : Nat) : Prop :=
  match x with
  | .str y => y.length ≤ sizeLine ∧ n = y.length
  | .byt y => y.size ≤ sizeLine ∧ n = y.size
  | .ref p => (∃ xs, SqL K H p xs ∧ n = xs.length) ∨ ∃ xs, SqT K H p xs ∧ n = xs.length
  | _ => False
end
end L2

namespace L2
open PySem PySem.Spec PyProof.Rows

/-! ### an instance, its attributes a map -/
structure ObjM (h : Heap) (x dx C : Addr) (mA : Str → Option Value) : Prop where
  obj : h.get? x = some (PySem.W.instObj C dx)
  ns : h.Ns1 dx mA
  ne : dx ≠ x

theorem lookIn_ns {h : Heap} {dx : Addr} {mA : Str → Option Value} (n : h.Ns1 dx mA) : ∃ od, h.get? dx = some od ∧ ∀ name, PySem.W.lookIn name od = some (mA name) := by
  obtain ⟨o, es, ep, ho, hd, hk, _, hm⟩ := n
  refine ⟨o, ho, fun name => ?_⟩
  have e := hm name
  unfold nsFind findBy at e
  rw [← Array.find?_toList] at e
  unfold PySem.W.lookIn
  rw [hd]
  dsimp only
  split
  · rename_i y q
    rw [q] at e
    exact congrArg some e
  · rename_i q
    rw [q] at e
    have a : es.toList.any (·.refKey) = false := by
      rw [List.any_eq_false]
      intro y hy
      obtain ⟨z, t, hkey⟩ := hk y (Array.mem_toList_iff.mp hy)
      simp [DictEntry.refKey, hkey]
    have a' : ¬ es.toList.any (·.refKey) = true := by rw [a]; exact Bool.false_ne_true
    rw [if_neg a']
    exact congrArg some e

theorem ObjM.look {h : Heap} {x dx C : Addr} {mA : Str → Option Value} (I : ObjM h x dx C mA) : ∃ od, PySem.W.InstAt h x (PySem.W.instObj C dx) C (some od) ∧ ∀ name, PySem.W.lookIn name od = some (mA name) :=
  let ⟨od, ho, hl⟩ := lookIn_ns I.ns
  ⟨od, ⟨I.obj, rfl, rfl, ho⟩, hl⟩

section
variable {prog : Program} {w : World} {A : Around} {E : Value → Shared → Prop} {s : Shared} {K : PySem.W.Frag} {x dx C f : Addr} {mA : Str → Option Value} {name : Str} {v : Value}

end

/-! ### the attributes as a list of pairs -/
def putF (f : Str) (v : V) : List (Str × V) → List (Str × V)
  | [] => [(f, v)]
  | (g, x) :: r => if g = f then (g, v) :: r else (g, x) :: putF f v r
section
variable {P : Program} {w : World} {H H' : Hp} {h h' : Heap} {a C dx : Addr} {fs fs' : List (Str × V)}
theorem ins_get (hok : HOk P w H h) (e : H a = some (.ins C dx fs)) : ∃ mA, ObjM h a dx C mA ∧ (∀ f, RelO (fs.lookup f) (mA f)) ∧ PySem.Within mA (fs.map (·.1)) ∧ fs.length ≤ 1000 ∧ H dx = some (.own a) := by
  obtain ⟨d, z, ne, ob, mA, n, r, q⟩ := (show ObjOk P w H h a (.ins C dx fs) from hok a _ e)
  exact ⟨mA, ⟨ob, n, ne⟩, r, q, z, d⟩
end

/-! ### what of the text a class must have -/
structure Cls (K : PySem.W.Frag) (C : Addr) : Prop where
  pg : PySem.W.plainGet K C Str.empty = true
  hd : PySem.W.hasDictIn K C = true
  po : PySem.W.plainOver K C = true
  sa : PySem.W.findIn K (.ref C) "__setattr__" = some (some (.builtin "object.__setattr__"))
theorem Cls.get {K : PySem.W.Frag} {C : Addr} (c : Cls K C) (f : Str) : PySem.W.plainGet K C f = true := c.pg
/-- no class of it has the name -/
def NoAttr (K : PySem.W.Frag) (C : Addr) (f : Str) : Prop := PySem.W.findIn K (.ref C) f = some none
/-- a constant of the class -/
structure Con (K : PySem.W.Frag) (C : Addr) (f : Str) (v : V) (u : Value) : Prop where
  at_ : PySem.W.findIn K (.ref C) f = some (some u)
  rel : RelV v u
  get : PySem.W.specialIn K u "__get__" = some none
  cp : PySem.W.copiedNames.contains f = false
/-- a method: a plain def of the class or of one above it -/
structure Meth (K : PySem.W.Frag) (C : Addr) (m : Str) (f : Addr) : Prop where
  at_ : PySem.W.findIn K (.ref C) m = some (some (.ref f))
  fn : PySem.W.isFn K (.ref f) = true
  kp : PySem.W.keepIn K (.ref f) = true

section
variable {X : Cx} {pins : List (Addr × Obj)} {σ : St} {H : Hp} {s : Shared} {a C dx : Addr} {fs : List (Str × V)} {f : Str} {v : V} {A : Around} {E : Value → Shared → Prop}

end

/-! ### readings and rules -/
/-- e.f, an attribute of the instance -/
def tFld (K : PySem.W.Frag) (ta : TE) (f : Str) : TE := fun σ H Q => ta σ H fun x H1 => ∃ a C dx fs v, x = .ref a ∧ H1 a = some (.ins C dx fs) ∧ Cls K C ∧ NoAttr K C f ∧ fs.lookup f = some v ∧ Q v H1
/-- e.f, a constant of the class -/
def tCon (K : PySem.W.Frag) (ta : TE) (f : Str) : TE := fun σ H Q => ta σ H fun x H1 => ∃ a C dx fs v u, x = .ref a ∧ H1 a = some (.ins C dx fs) ∧ Cls K C ∧ Con K C f v u ∧ fs.lookup f = none ∧ Q v H1
/-- e.f = value -/
def sFld (K : PySem.W.Frag) (ta tv : TE) (f : Str) : TS := fun D σ H => tv σ H fun y H1 => ta σ H1 fun x H2 => ∃ a C dx fs, x = .ref a ∧ H2 a = some (.ins C dx fs) ∧ Cls K C ∧ NoAttr K C f ∧ fs.length < 1000 ∧
  D.nx σ (upd H2 a (.ins C dx (putF f y fs)))
/-- an augmented operator on two values -/
def InOp (X : Cx) (op : Operator) (rd : V → V → Hp → VK → Prop) : Prop :=
  ∀ (pins : List (Addr × Obj)) (s : Shared) (σ : St) (H : Hp) (x y : V) (u v : Value) (Q : VK), Inv X pins σ H s → RelV x u → RelV y v → rd x y H Q → wpAny (model X.prog X.w) X.A (inplaceOp op u v) (EP X pins σ Q) X.xe s
/-- e.f op= value -/
def sFldAug (K : PySem.W.Frag) (ta tv : TE) (rd : V → V → Hp → VK → Prop) (f : Str) : TS := fun D σ H => ta σ H fun x H1 => ∃ a C dx fs v, x = .ref a ∧ H1 a = some (.ins C dx fs) ∧ Cls K C ∧ NoAttr K C f ∧ fs.lookup f = some v ∧
  tv σ H1 fun y H2 => rd v y H2 fun z H3 => ∃ dx' fs', H3 a = some (.ins C dx' fs') ∧ fs'.length < 1000 ∧ D.nx σ (upd H3 a (.ins C dx' (putF f z fs')))

section
variable {X : Cx} {o e value : Expr} {f : Str} {pos pos' tpos : Pos} {ta tv : TE}
def rAdd : V → V → Hp → VK → Prop := fun x y H Q => ∃ i j, x = .int i ∧ y = .int j ∧ Q (.int (i + j)) H
def rSub : V → V → Hp → VK → Prop := fun x y H Q => ∃ i j, x = .int i ∧ y = .int j ∧ Q (.int (i - j)) H
end

/-! ### isinstance -/
section
variable {X : Cx} {pins : List (Addr × Obj)} {σ : St} {H : Hp} {s : Shared} {A : Around} {E : Value → Shared → Prop} {Q : Value → Shared → Prop} {c : Value} {b : Bool}
/-- the type of a value, as the fragment's deciders take it; for an instance its class -/
inductive TyOf (K : PySem.W.Frag) (H : Hp) : V → Value → Prop where
  | non : TyOf K H .non (.type "NoneType")
  | bl (x : Bool) : TyOf K H (.bl x) (.type "bool")
  | int (i : Int) : TyOf K H (.int i) (.type "int")
  | str (x : Str) : TyOf K H (.str x) (.type "str")
  | flt (x : UInt64) : TyOf K H (.flt x) (.type "float")
  | lst {a : Addr} {xs : List V} (e : H a = some (.lst xs)) : TyOf K H (.ref a) (.type "list")
  | frz {a : Addr} {o : Obj} {xs : List V} (e : H a = some (.frz o (.lst xs))) : TyOf K H (.ref a) (.type "list")
  | tup {a : Addr} {xs : List V} (e : H a = some (.tup xs)) : TyOf K H (.ref a) (.type "tuple")
  | dK {a : Addr} {kvs : List (Key × V)} (e : H a = some (.dK kvs)) : TyOf K H (.ref a) (.type "dict")
  | dT {a : Addr} {kvs : List (List Key × V)} (e : H a = some (.dT kvs)) : TyOf K H (.ref a) (.type "dict")
  | ins {a C dx : Addr} {fs : List (Str × V)} (e : H a = some (.ins C dx fs)) (cl : Cls K C) (ha : PySem.W.findIn K (.ref C) "__class__" = some (some (.builtin "object.__class__")))
      (hn : PySem.W.specialIn K (.builtin "object.__class__") "__get__" = some (some (.builtin "getset_descriptor.__get__"))) (htk : PySem.W.takesIn K (.builtin "object.__class__") = some true)
      (hm : PySem.W.mroIn K C (.type "object") = some true) : TyOf K H (.ref a) (.ref C)
/-- isinstance(x, c) for one class c, a built-in or an own one: kitOne's answer -/
theorem isinst_ok {x : V} {u t : Value} (I : Inv X pins σ H s) (rx : RelV x u) (ty : TyOf X.K H x t) (e : PySem.W.kitOne X.K t c = some b) (h : ∀ tk, Q (.bool b) { s with toks := tk }) :
    wpAny (model X.prog X.w) A (call (.builtin "isinstance") [u, c]) Q E s := by
  cases ty with
  | non => cases (show u = Value.none from rx); exact PySem.W.kia_one PySem.W.kitx_none I.kIn True.intro e (fun z => nomatch z) h
  | bl y => cases (show u = Value.bool y from rx); exact PySem.W.kia_one PySem.W.kitx_bool I.kIn True.intro e (fun z => nomatch z) h
  | int i => obtain ⟨t, q⟩ := (show ∃ t, u = Value.int i t from rx); cases q; exact PySem.W.kia_one PySem.W.kitx_int I.kIn True.intro e (fun z => nomatch z) h
  | str y => obtain ⟨t, q⟩ := (show ∃ t, u = Value.str y t from rx); cases q; exact PySem.W.kia_one PySem.W.kitx_str I.kIn True.intro e (fun z => nomatch z) h
  | flt y => obtain ⟨t, q⟩ := (show ∃ t, u = Value.float y t from rx); cases q; exact PySem.W.kia_one PySem.W.kitx_float I.kIn True.intro e (fun z => nomatch z) h
  | @lst a xs ea =>
    cases (show u = Value.ref a from rx)
    obtain ⟨_, _, n, _, h1⟩ := (show ObjOk X.prog X.w H s.heap a (.lst xs) from I.hok a _ ea)
    exact PySem.W.kia_one PySem.W.kitx_list I.kIn ⟨_, h1, rfl⟩ e (fun z => nomatch z) h
  | @frz a ob xs ea =>
    cases (show u = Value.ref a from rx)
    obtain ⟨_, _, _, n, _, h1⟩ := (show ObjOk X.prog X.w H s.heap a (.frz ob (.lst xs)) from I.hok a _ ea)
    exact PySem.W.kia_one PySem.W.kitx_list I.kIn ⟨_, h1, rfl⟩ e (fun z => nomatch z) h
  | @tup a xs ea =>
    cases (show u = Value.ref a from rx)
    obtain ⟨_, _, _, p⟩ := (show ObjOk X.prog X.w H s.heap a (.tup xs) from I.hok a _ ea)
    obtain ⟨o, h1, h2, _⟩ := p
    exact PySem.W.kia_one PySem.W.kitx_tuple I.kIn ⟨o, h1, h2⟩ e (fun z => nomatch z) h
  | @dK a kvs ea =>
    cases (show u = Value.ref a from rx)
    obtain ⟨_, _, vs, _, p⟩ := (show ObjOk X.prog X.w H s.heap a (.dK kvs) from I.hok a _ ea)
    obtain ⟨o, es, ep, h1, h2, _⟩ := p
    exact PySem.W.kia_one PySem.W.kitx_dict I.kIn ⟨o, h1, h2.1⟩ e (fun z => nomatch z) h
  | @dT a kvs ea =>
    cases (show u = Value.ref a from rx)
    obtain ⟨_, _, xs, _, o, es, ep, h1, h2, _⟩ := (show ObjOk X.prog X.w H s.heap a (.dT kvs) from I.hok a _ ea)
    exact PySem.W.kia_one PySem.W.kitx_dict I.kIn ⟨o, h1, h2.1⟩ e (fun z => nomatch z) h
  | @ins a C dx fs ea cl ha hn htk hm =>
    cases (show u = Value.ref a from rx)
    obtain ⟨mA, O, _⟩ := ins_get I.hok ea
    obtain ⟨od, J, _⟩ := O.look
    exact PySem.W.kia_one (PySem.W.kitx_own (cl.get _) cl.hd ha hn htk hm) I.kIn J e (fun z => nomatch z) h
end
end L2

namespace L2
open PySem PySem.Spec PyProof.Rows

/-! ### room -/
structure Room (k : Nat) (A : Around) : Prop where
  hd : A.handled = none
  dp : A.depth + 3 * k + 5 < recursionLimit
  un : A.units + 16 * k + 200 < cLine
theorem Room.mono {j k : Nat} {A : Around} (r : Room k A) (h : j ≤ k) : Room j A := ⟨r.hd, by have := r.dp; omega, by have := r.un; omega⟩
theorem Room.deeper {k : Nat} {A : Around} (r : Room (k + 1) A) (env : Env) : Room k (A.deeper env) :=
  ⟨r.hd, by have := r.dp; show A.depth + 1 + 3 * k + 5 < _; omega, by have := r.un; show A.units + 3 + 16 * k + 200 < _; omega⟩
theorem Room.in1 {k : Nat} {A : Around} (r : Room (k + 1) A) : Room k A.in1 :=
  ⟨r.hd, by have := r.dp; show A.depth + 3 * k + 5 < _; omega, by have := r.un; show A.units + 1 + 16 * k + 200 < _; omega⟩
theorem Room.depth {k : Nat} {A : Around} (r : Room k A) : A.depth < recursionLimit := by have := r.dp; omega
theorem Room.units {k : Nat} {A : Around} (r : Room k A) : A.units + 64 < cLine := by have := r.un; omega
/-! ### argument lists and displays -/
def tNil : TA := fun _ H Q => Q [] H
def tCons (ta : TE) (tr : TA) : TA := fun σ H Q => ta σ H fun x H1 => tr σ H1 fun xs H2 => Q (x :: xs) H2
section
variable {X : Cx} {e : Expr} {es : List Expr} {te : TE} {t : TA} {pos : Pos}
theorem pa_nil : PA X [] tNil := fun _ _ _ _ H Q I h => Calls.spliced_nil ⟨[], H, I, .nil, h⟩
theorem pa_cons (ha : PE X e te) (hr : PA X es t) (hs : starEach (e :: es) X.env = (false, eval e X.env) :: starEach es X.env := by rfl) : PA X (e :: es) (tCons te t) := by
  intro pos pins s σ H Q I h
  rw [hs]
  show wpAny _ _ (spliced ((false, eval e X.env) :: backTo pos (starEach es X.env))) _ _ s
  refine Calls.spliced_cons (thn (ha pins s σ H _ I h) fun u s1 ⟨x, H1, I1, r1, q1⟩ => ?_)
  exact thn (hr pos pins s1 σ H1 _ I1 q1) fun us s2 ⟨xs, H2, I2, r2, q2⟩ => ⟨x :: xs, H2, I2, .cons r1 r2, q2⟩

/-- a tuple, a list of written items -/
def tTup (t : TA) : TE := fun σ H Q => t σ H fun xs H1 => xs.length ≤ sizeLine ∧ ∀ p, H1 p = none → Q (.ref p) (upd H1 p (.tup xs))
def tLst (t : TA) : TE := fun σ H Q => t σ H fun xs H1 => xs.length ≤ sizeLine ∧ ∀ p, H1 p = none → Q (.ref p) (upd H1 p (.lst xs))
theorem pe_tup {x1} (h : PA X es t) : PE X (.Tuple es x1 pos) (tTup t) := by
  intro pins s σ H Q I hq
  refine wpAny_Tuple_spliced (thn (h pos pins s σ H _ I hq) fun us s1 ⟨xs, H1, I1, r, z, q⟩ => ⟨by rw [← r.length]; exact z, ?_⟩)
  have hf : H1 s1.heap.objs.size = none := I1.hok.fresh (Nat.le_refl _)
  refine ⟨.ref s1.heap.objs.size, upd H1 s1.heap.objs.size (.tup xs), I1.laid (t' := s1.toks) (fun b u e => Heap.get?_push_of_some _ e) (Nat.le_refl _) ?_, rfl, q _ hf⟩
  exact ⟨z, us, r, ⟨_, Heap.get?_push_size _ rfl, rfl, _, rfl⟩⟩
theorem pe_lst (h : PA X es t) : PE X (.List es pos) (tLst t) := by
  intro pins s σ H Q I hq
  refine wpAny_List_spliced (thn (h pos pins s σ H _ I hq) fun us s1 ⟨xs, H1, I1, r, z, q⟩ => ⟨by rw [← r.length]; exact z, ?_⟩)
  have hf : H1 s1.heap.objs.size = none := I1.hok.fresh (Nat.le_refl _)
  refine ⟨.ref s1.heap.objs.size, upd H1 s1.heap.objs.size (.lst xs), I1.laid (t' := s1.toks) (fun b u e => Heap.get?_push_of_some _ e) (Nat.le_refl _) ?_, rfl, q _ hf⟩
  exact ⟨z, us, 0, r, Heap.get?_push_size _ rfl⟩
end

/-! ### what a def promises -/
/-- a def's promise: the bound arguments in the parameters' order, the heap, the wanted end, the wanted exception -/
abbrev Sp := List V → Hp → VK → XK → Prop
/-- how an exception lies behind a call (file 08 gives it): the callers' frames, abstract heap and state ahead of the call, the wish, the exception, the state -/
abbrev CXT := List Env → Hp → Shared → XK → Value → Shared → Prop

/-- the state at a call -/
structure Env0 (P : Program) (w : World) (K : PySem.W.Frag) (mg : Str → Option Value) (base : Heap) (A : Around) (outer : List Env) (s : Shared) (H : Hp) : Prop where
  frames : A.frames = some outer
  mod : Mod K mg base
  bs : ∀ b o, base.get? b = some o → s.heap.get? b = some o ∧ H b = none
  bsz : base.objs.size ≤ s.heap.objs.size
  funs : s.heap.FunFrames base outer
  frf : ∀ b ∈ frs outer, H b = none
  hok : HOk P w H s.heap
  bare : AllBare s.gens
/-- a call's end -/
def CE (outer : List Env) (P : Program) (w : World) (H : Hp) (s : Shared) (Q : VK) (u : Value) (s' : Shared) : Prop :=
  ∃ v H', s'.os = s.os ∧ AllBare s'.gens ∧ Un (frs outer) [] H H' s.heap s'.heap ∧ HOk P w H' s'.heap ∧ RelV v u ∧ Q v H'
def CR (CX : CXT) (outer : List Env) (P : Program) (w : World) (H : Hp) (s : Shared) (Q : VK) (E : XK) (r : Result) (s' : Shared) : Prop :=
  match r with
  | .ok (.ret u) => CE outer P w H s Q u s'
  | .ok _ => False
  | .error e => CX outer H s E e s'
structure FnOk (P : Program) (w : World) (K : PySem.W.Frag) (mg : Str → Option Value) (base : Heap) (CX : CXT) (k : Nat) (f : Addr) (fd : FuncData) (ps : List Str) (sp : Sp) : Prop where
  len : ∀ vs H Q E, sp vs H Q E → vs.length = ps.length
  run : ∀ (A : Around) (outer : List Env) (s : Shared) (H : Hp) (args : Args) (us : List Value) (vs : List V) (Q : VK) (E : XK), Room k A → Env0 P w K mg base A outer s H → BindsTo s fd args (ps.zip us) → Vals vs us → sp vs H Q E →
    codeAny (model P w) A (.call (.ref f) args) (CR CX outer P w H s Q E) s
section
variable {X : Cx} {pins : List (Addr × Obj)} {σ : St} {H : Hp} {s s' : Shared}
/-- from a body: what a callee wants -/
theorem Inv.env0 (I : Inv X pins σ H s) : Env0 X.prog X.w X.K X.mg X.base X.A X.stack s H :=
  ⟨I.ok.frames, I.ok.mod, I.bs, Nat.le_trans I.ok.bsz I.sz, I.stack, I.stkFree, I.hok, I.bare⟩
/-- behind a call -/
theorem Inv.after {Q : VK} {u : Value} (I : Inv X pins σ H s) (h : CE X.stack X.prog X.w H s Q u s') : EP X pins σ Q u s' := by
  obtain ⟨v, H', os, bare, un, hok, r, q⟩ := h
  obtain ⟨hh, g, d, t, os'⟩ := s'
  obtain rfl : os' = s.os := os
  exact ⟨v, H', I.call (h' := hh) (g' := g) (d' := d) (t' := t) (ch := []) un hok bare (fun b z => absurd z (by simp)), r, q⟩
end

/-! ### calls -/
/-- f(..): the written arguments, then the defaults dvs; E: what is wanted of an exception -/
def tCall (sp : Sp) (dvs : List V) (E : XK) (t : TA) : TE := fun σ H Q => t σ H fun vs H1 => sp (vs ++ dvs) H1 Q E
/-- o.m(..) of an instance of the class at C -/
def tMeth (C : Addr) (m : Str) (sp : Sp) (dvs : List V) (E : XK) (ta : TE) (t : TA) : TE := fun σ H Q => ta σ H fun x H1 => ∃ a dx fs, x = .ref a ∧ H1 a = some (.ins C dx fs) ∧ fs.lookup m = none ∧
  t σ H1 fun vs H2 => sp (x :: (vs ++ dvs)) H2 Q E
/-- C(..): a new instance and its dict, then __init__ -/
def tMake (C : Addr) (sp : Sp) (dvs : List V) (E : XK) (t : TA) : TE := fun σ H Q => t σ H fun vs H1 => ∀ x dx, H1 x = none → H1 dx = none → dx ≠ x →
  sp (.ref x :: (vs ++ dvs)) (upd (upd H1 dx (.own x)) x (.ins C dx [])) (fun v H2 => v = .non ∧ Q (.ref x) H2) E

/-- how the parameters are bound: us the positional arguments, kw the keywords' values by name, ds the defaults that fill up -/
def Binds (K : PySem.W.Frag) (fd : FuncData) (ps : List Str) (ds : List Value) : Prop :=
  ∀ (s : Shared) (us : List Value), K.In s.heap → (us ++ ds).length = ps.length → BindsTo s fd ⟨us, []⟩ (ps.zip (us ++ ds))
/-- every parameter is given -/
theorem Binds.all {K : PySem.W.Frag} {fd : FuncData} {ps : List Str} (h : ∀ us : List Value, us.length = ps.length → bindArgs fd ⟨us, []⟩ = pure (ps.zip us)) : Binds K fd ps [] := fun s us _ hl => by
  rw [List.append_nil] at hl ⊢
  exact .of_eq (h us hl)

/-- an exception of a callee reaches what this body wants of exceptions -/
def Passes (CX : CXT) (X : Cx) (E : XK) : Prop := ∀ (pins : List (Addr × Obj)) (σ : St) (H : Hp) (s : Shared) (e : Value) (s' : Shared), Inv X pins σ H s → CX X.stack H s E e s' → X.xe e s'

section
variable {X : Cx} {CX : CXT} {k : Nat} {f C : Addr} {fd : FuncData} {ps : List Str} {sp : Sp} {dvs : List V} {ds : List Value} {E : XK} {x m : Str} {p pos apos : Pos} {e o : Expr} {es : List Expr} {ta : TE} {t : TA}

/-- the callee runs -/
theorem run_fn {pins : List (Addr × Obj)} {σ : St} {H : Hp} {s : Shared} {Q : VK} {us : List Value} {vs : List V} (F : FnOk X.prog X.w X.K X.mg X.base CX k f fd ps sp) (hr : Room k X.A) (hb : Binds X.K fd ps ds) (hd : Vals dvs ds) (hx : Passes CX X E)
    (I : Inv X pins σ H s) (r : Vals vs us) (h : sp (vs ++ dvs) H Q E) : wpAny (model X.prog X.w) X.A (call (.ref f) us) (EP X pins σ Q) X.xe s := by
  have r2 : Vals (vs ++ dvs) (us ++ ds) := r.append hd
  have hl : (us ++ ds).length = ps.length := by rw [← r2.length]; exact F.len _ _ _ _ h
  refine wpAny_call (codeAny_mono (F.run X.A X.stack s H ⟨us, []⟩ (us ++ ds) (vs ++ dvs) Q E hr I.env0 (hb s us I.kIn hl) r2 h) fun r s' hq => ?_)
  cases r with
  | error e => exact hx pins σ H s e s' I hq
  | ok fl =>
    cases fl with
    | ret u => exact I.after hq
    | next => exact False.elim hq
    | brk => exact False.elim hq
    | cont => exact False.elim hq

theorem pe_call (F : FnOk X.prog X.w X.K X.mg X.base CX k f fd ps sp) (hr : Room k X.A) (hg : Gl X x) (hm : X.mg x = some (.ref f)) (hk : PySem.W.keepIn X.K (.ref f) = true) (hb : Binds X.K fd ps ds) (hd : Vals dvs ds) (hx : Passes CX X E)
    (ha : PA X (e :: es) t) (hdb : (x == ("__debug__" : Str)) = false := by decide) (he : starEach (e :: es) X.env = (false, eval e X.env) :: starEach es X.env := by rfl) (hpl : (backTo pos (starEach es X.env)).any (·.1) = false := by rfl) :
    PE X (.Call (.Name x p) (e :: es) [] pos) (tCall sp dvs E t) := by
  intro pins s σ H Q I h
  refine wpAny_Call_Name_kw (ld_glob I hg hm ?_ hdb)
  refine PySem.W.callWith_K (h₀ := X.base) I.ok.mod.kin hk (thn (ha pos pins s σ H _ I h) fun us s1 ⟨vs, H1, I1, r, q⟩ => ⟨I1.kIn, ?_⟩) he hpl
  exact run_fn F hr hb hd hx I1 r q
/-- what a class must have to be made -/
structure Mk (K : PySem.W.Frag) (C f : Addr) : Prop where
  makes : PySem.W.makesIn K C = true
  init : PySem.W.findIn K (.ref C) "__init__" = some (some (.ref f))
  fn : PySem.W.isFn K (.ref f) = true
  kp : PySem.W.keepIn K (.ref C) = true

end

/-! ### keywords -/
/-- the values of the keywords, from the left -/
def PK (X : Cx) (kws : List Keyword) (t : TA) : Prop :=
  ∀ (pos : Pos) (pins : List (Addr × Obj)) (s : Shared) (σ : St) (H : Hp) (Q : List V → Hp → Prop), Inv X pins σ H s → t σ H Q → wpAny (model X.prog X.w) X.A (evalAll ((backToKw pos (keywordEach kws X.env)).map (·.2))) (AP X pins σ Q) X.xe s
section
variable {X : Cx} {CX : CXT} {k : Nat} {f C : Addr} {fd : FuncData} {ps ks : List Str} {sp : Sp} {E : XK} {x m : Str} {p pos apos kpos : Pos} {e o : Expr} {es : List Expr} {kws : List Keyword} {te ta : TE} {t tk : TA} {nm : Option Str}
theorem pk_nil : PK X [] tNil := fun _ _ _ _ H Q I h => wpAny_evalAll_nil ⟨[], H, I, .nil, h⟩
theorem pk_cons (ha : PE X e te) (hr : PK X kws t) : PK X (⟨nm, e, kpos⟩ :: kws) (tCons te t) := by
  intro pos pins s σ H Q I h
  show wpAny _ _ (evalAll ((do let v ← eval e X.env; standAt pos; pure v) :: (backToKw pos (keywordEach kws X.env)).map (·.2))) _ _ s
  refine wpAny_evalAll_cons (wpAny_bind (thn (ha pins s σ H _ I h) fun u s1 ⟨x, H1, I1, r1, q1⟩ => wpAny_bind (wpAny_standAt (wpAny_pure ?_))))
  exact thn (hr pos pins s1 σ H1 _ I1 q1) fun us s2 ⟨xs, H2, I2, r2, q2⟩ => ⟨x :: xs, H2, I2, .cons r1 r2, q2⟩

/-- how a call with keywords binds: g puts the positional values us and the keywords' values ws (names ks) in the parameters' order, defaults among them -/
structure KBinds (K : PySem.W.Frag) (fd : FuncData) (ps ks : List Str) (g : List Value → List Value → List Value) (gV : List V → List V → List V) : Prop where
  to : ∀ (s : Shared) (us ws : List Value), K.In s.heap → (g us ws).length = ps.length → BindsTo s fd ⟨us, ks.zip ws⟩ (ps.zip (g us ws))
  rel : ∀ {vs : List V} {us : List Value} {zs : List V} {ws : List Value}, Vals vs us → Vals zs ws → Vals (gV vs zs) (g us ws)
def tCallK (sp : Sp) (gV : List V → List V → List V) (E : XK) (t tk : TA) : TE := fun σ H Q => t σ H fun vs H1 => tk σ H1 fun zs H2 => sp (gV vs zs) H2 Q E
variable {g : List Value → List Value → List Value} {gV : List V → List V → List V}
end

/-! ### a def's body keeps its promise -/
/-- names: the parameters first -/
structure FnScope (N P : List Str) (sc : Scope) : Prop where
  kind : sc.kind = .function
  co : sc.isCoroutine = false
  gen : sc.isGenerator = false
  nd : N.Nodup
  pre : N.take P.length = P
  par : ∀ x ∈ P, sc.names.lookup x = some .local ∨ sc.names.lookup x = some .cell
  nofree : ∀ y ∈ sc.names, y.2 ≠ .free

theorem bindL_out {kindOf : Str → Option NameKind} {x : Str} : ∀ {binds : List (Str × Value)} {m : Str → Option Value}, (∀ v, (x, v) ∉ binds) → bindL kindOf binds m x = m x
  | [], _, _ => rfl
  | (n, v) :: r, m, h => by
    unfold bindL
    rw [bindL_out fun w hw => h w (List.mem_cons_of_mem _ hw)]
    split
    · have : x ≠ n := by rintro rfl; exact h v List.mem_cons_self
      simp [this]
    · rfl
theorem bindC_out {kindOf : Str → Option NameKind} {x : Str} : ∀ {binds : List (Str × Value)} {m : Str → Option Value}, (∀ v, (x, v) ∉ binds) → bindC kindOf binds m x = m x
  | [], _, _ => rfl
  | (n, v) :: r, m, h => by
    unfold bindC
    rw [bindC_out fun w hw => h w (List.mem_cons_of_mem _ hw)]
    split
    · rfl
    · have : x ≠ n := by rintro rfl; exact h v List.mem_cons_self
      simp [this]
theorem bindL_get {kindOf : Str → Option NameKind} {x : Str} {v : Value} : ∀ {P : List Str} {vs : List Value} {i : Nat} {m : Str → Option Value}, P.Nodup → P[i]? = some x → vs[i]? = some v → kindOf x = some .local →
    bindL kindOf (P.zip vs) m x = some v
  | [], _, _, _, _, h, _, _ => by simp at h
  | _ :: _, [], _, _, _, _, h, _ => by simp at h
  | p :: P, w :: vs, 0, m, nd, h1, h2, hk => by
    simp at h1 h2; subst h1; subst h2
    show bindL kindOf ((p, w) :: P.zip vs) m p = _
    unfold bindL
    rw [bindL_out fun v hv => (List.nodup_cons.mp nd).1 (List.of_mem_zip hv).1, if_pos hk]
    simp
  | p :: P, w :: vs, i + 1, m, nd, h1, h2, hk => by
    show bindL kindOf ((p, w) :: P.zip vs) m x = _
    unfold bindL
    exact bindL_get (i := i) (List.nodup_cons.mp nd).2 (by simpa using h1) (by simpa using h2) hk
theorem bindC_get {kindOf : Str → Option NameKind} {x : Str} {v : Value} : ∀ {P : List Str} {vs : List Value} {i : Nat} {m : Str → Option Value}, P.Nodup → P[i]? = some x → vs[i]? = some v → kindOf x ≠ some .local →
    bindC kindOf (P.zip vs) m x = some v
  | [], _, _, _, _, h, _, _ => by simp at h
  | _ :: _, [], _, _, _, _, h, _ => by simp at h
  | p :: P, w :: vs, 0, m, nd, h1, h2, hk => by
    simp at h1 h2; subst h1; subst h2
    show bindC kindOf ((p, w) :: P.zip vs) m p = _
    unfold bindC
    rw [bindC_out fun v hv => (List.nodup_cons.mp nd).1 (List.of_mem_zip hv).1, if_neg hk]
    simp
  | p :: P, w :: vs, i + 1, m, nd, h1, h2, hk => by
    show bindC kindOf ((p, w) :: P.zip vs) m x = _
    unfold bindC
    exact bindC_get (i := i) (List.nodup_cons.mp nd).2 (by simpa using h1) (by simpa using h2) hk

/-- the names' values at the entry -/
def start (N : List Str) (vs : List V) : St := vs.map some ++ List.replicate (N.length - vs.length) none

/-- the context of a def's body, at its entry; an exception leaves the frame, then lies as CX says -/
def cxOf (CX : CXT) (P : Program) (w : World) (K : PySem.W.Frag) (mg : Str → Option Value) (base : Heap) (N : List Str) (qual : Str) (scope : Scope) (f : Addr) (cd : Value) (A : Around) (outer : List Env) (s : Shared) (H : Hp) (E : XK) : Cx where
  prog := P
  w := w
  K := K
  mg := mg
  base := base
  A := A.deeper (envOfC qual scope s.heap.objs.size f cd)
  N := N
  s₀ := s
  H₀ := H
  env := envOfC qual scope s.heap.objs.size f cd
  outer := outer
  stack := envOfC qual scope s.heap.objs.size f cd :: outer
  ex := []
  calm := true
  fn := fun _ => true
  pn := []
  xe := fun e s' => wpAny (model P w) (A.deeper (envOfC qual scope s.heap.objs.size f cd)) (leaving (envOfC qual scope s.heap.objs.size f cd) e) (fun _ s'' => CX outer H s E e s'') (fun e' s'' => CX outer H s E e' s'') s'

theorem cell_has {sc : Scope} {n : Nat} {x : Str} (h : sc.names.lookup x = some .cell) : ∃ c, (cellsFrom n sc.names []).lookup x = some c := by
  have q := PySem.W.cellsFrom_some sc.names n [] (.inl h)
  exact Option.isSome_iff_exists.mp q

theorem inv_start {CX : CXT} {P : Program} {w : World} {K : PySem.W.Frag} {mg : Str → Option Value} {base : Heap} {N ps : List Str} {qual : Str} {scope : Scope} {f : Addr} {cd : Value} {A : Around} {outer : List Env} {s s1 : Shared} {H : Hp} {E : XK} {us : List Value} {vs : List V}
    (S : FnScope N ps scope) (hd : A.handled = none) (e0 : Env0 P w K mg base A outer s H) (hl : vs.length = ps.length) (r : Vals vs us)
    (x : InCallC s s.heap.objs.size (bindL (envOfC qual scope s.heap.objs.size f cd).kindOf (ps.zip us) fun _ => none) (cellsFrom (s.heap.objs.size + 1) scope.names []) (bindC (envOfC qual scope s.heap.objs.size f cd).kindOf (ps.zip us) fun _ => none) s1) :
    Inv (cxOf CX P w K mg base N qual scope f cd A outer s H E) [] (start N vs) H s1 := by
  have hpl : ps.length ≤ N.length := by have := congrArg List.length S.pre; rw [List.length_take] at this; omega
  obtain ⟨h1, tk, rfl, hk⟩ := x.done
  have noA : ∀ b : Addr, b ∉ (cxOf CX P w K mg base N qual scope f cd A outer s H E).ex := fun b z => absurd (show b ∈ ([] : List Addr) from z) (by simp)
  refine ⟨⟨e0.mod, S.kind, rfl, rfl, Nat.le_refl _, fun y z c h1 h2 => ?_, fun y hy => ?_, fun y c _ h => ?_, fun _ => hd, Around.frames_deeper e0.frames, .inr ⟨rfl, rfl⟩, fun b z => absurd z (noA b), e0.bs, e0.bsz, fun b _ _ => noA b, fun b z => absurd z (noA b), e0.funs, e0.frf⟩,
    rfl, e0.bare, Un.kept hk, ⟨_, x.toInCall.ns, fun i y v h1 h2 h3 => ?_⟩, fun y c h => ⟨_, x.cell y c h⟩, e0.hok.fresh (Nat.le_refl _), fun y c h => ?_, fun p hp => absurd (show p ∈ ([] : List (Addr × Obj)) from hp) (by simp), e0.hok.kept hk, ?_⟩
  · exact name_of_addr x.apart (PySem.mem_of_lookup h1) (PySem.mem_of_lookup h2)
  · have hy : scope.names.lookup y = some .cell ∨ scope.names.lookup y = some .free := hy
    rcases hy with hy | hy
    · exact cell_has hy
    · exact absurd rfl (S.nofree _ (PySem.mem_of_lookup hy))
  · exact Nat.le_of_lt (x.above y c (PySem.mem_of_lookup h))
  · have hi : i < vs.length := by
      unfold start at h2
      by_cases hi : i < vs.length
      · exact hi
      · rw [List.getElem?_append_right (by simpa using hi)] at h2
        rw [List.getElem?_replicate] at h2
        split at h2 <;> cases h2
    have ha : vs[i]? = some v := by
      unfold start at h2
      rw [List.getElem?_append_left (by simpa using hi), List.getElem?_map] at h2
      cases e : vs[i]? with
      | none => rw [e] at h2; cases h2
      | some a => rw [e] at h2; cases h2; rfl
    obtain ⟨u, hu, rv⟩ := r.get ha
    have hp : ps[i]? = some y := by
      rw [← S.pre, List.getElem?_take_of_lt (by omega)]; exact h1
    have ndP : ps.Nodup := by rw [← S.pre]; exact S.nd.sublist (List.take_sublist _ _)
    refine ⟨u, rv, ?_⟩
    rcases S.par y (List.mem_of_getElem? hp) with k | k
    · exact .inl ⟨k, bindL_get ndP hp hu k⟩
    · obtain ⟨c, e⟩ := cell_has (n := s.heap.objs.size + 1) k
      refine .inr ⟨.inl k, c, e, ?_⟩
      have q := x.cell y c e
      rw [bindC_get ndP hp hu (by show scope.names.lookup y ≠ _; rw [k]; decide)] at q
      exact q
  · exact e0.hok.fresh (Nat.le_of_lt (x.above y c (PySem.mem_of_lookup h)))
  · unfold start
    show _ = N.length
    rw [List.length_append, List.length_map, List.length_replicate]
    omega

/-- THE RULE: a def (or a method) of the text, by its body. The body's reading t is chosen for each entry; it is run at the parameters' values -/
theorem fn_of {CX : CXT} {P : Program} {w : World} {K : PySem.W.Frag} {mg : Str → Option Value} {base : Heap} {k : Nat} {f : Addr} {name qual : Str} {params : Arguments} {body : List Stmt} {scope : Scope} {dV kV doc pm cdv ct oc : Value} {an od : Option Addr}
    {osl : Array (Option Value)} {N ps : List Str} {sp : Sp} (lk : K.lookup f = some ⟨oc, od, .func (PySem.W.fnOf name qual params body scope dV kV doc pm an cdv ct), osl⟩) (hcd : PySem.W.codeIn K cdv qual = true) (S : FnScope N ps scope)
    (len : ∀ vs H Q E, sp vs H Q E → vs.length = ps.length)
    (hbody : ∀ (A : Around) (outer : List Env) (s : Shared) (H : Hp) (vs : List V) (Q : VK) (E : XK), Room k (A.deeper (envOfC qual scope s.heap.objs.size f cdv)) → sp vs H Q E →
      ∃ t, PSs (cxOf CX P w K mg base N qual scope f cdv A outer s H E) body t ∧ t { nx := fun _ H' => Q .non H', rt := Q } (start N vs) H) :
    FnOk P w K mg base CX (k + 1) f (PySem.W.fnOf name qual params body scope dV kV doc pm an cdv ct) ps sp := by
  refine ⟨len, fun A outer s H args us vs Q E hr e0 hb r hsp => ?_⟩
  have hl := len _ _ _ _ hsp
  have KX : K.In s.heap := e0.mod.kin.keeps fun b o e => (e0.bs b o e).1
  have lim : s.heap.NoLimit := e0.mod.nolimit.keeps fun b o e => (e0.bs b o e).1
  have hkind : ∀ y ∈ ps.zip us, scope.names.lookup y.1 = some .local ∨ (scope.names.lookup y.1 = some .cell ∧ ((cellsFrom (s.heap.objs.size + 1) scope.names []).lookup y.1).isSome = true) := fun ⟨n, v⟩ hy => by
    rcases S.par n (List.of_mem_zip hy).1 with q | q
    · exact .inl q
    · exact .inr ⟨q, PySem.W.cellsFrom_some _ _ _ (.inl q)⟩
  refine codeAny_call_function hr.depth (KX _ _ lk) rfl S.co S.gen rfl (PySem.W.codeRec_of KX hcd) (hb _ _ _ _ ?_)
  refine wpAny_newFunctionEnv_cells S.kind hkind fun env he s1 x => ?_
  subst he
  refine ⟨lim.keeps x.toInCall.keep, codeAny_func ?_⟩
  obtain ⟨t, ht, hq⟩ := hbody A outer s H vs Q E (hr.deeper _) hsp
  have I : Inv (cxOf CX P w K mg base N qual scope f cdv A outer s H E) [] (start N vs) H s1 := inv_start S hr.hd e0 hl r x
  refine wpAny_mono (ht [] s1 (start N vs) H _ I hq) (fun fl s' hs => ?_) fun e s' hs => hs
  have fin : ∀ {σ' : St} {H' : Hp} {v : V} {u : Value}, Inv (cxOf CX P w K mg base N qual scope f cdv A outer s H E) [] σ' H' s' → RelV v u → Q v H' → CE outer P w H s Q u s' :=
    fun {σ' H' v u} J rv q => ⟨v, H', J.os, J.bare, J.base, J.hok, rv, q⟩
  cases fl with
  | ret u =>
    obtain ⟨v, σ', H', J, rv, q⟩ := hs
    exact fin J rv q
  | next =>
    obtain ⟨σ', H', J, q⟩ := hs
    exact fin (v := V.non) (u := Value.none) J rfl q
  | brk =>
    obtain ⟨_, _, _, q⟩ := hs
    exact False.elim q
  | cont =>
    obtain ⟨_, _, _, q⟩ := hs
    exact False.elim q
end L2

namespace L2
open PySem PySem.Spec PyProof.Rows
section
variable {X : Cx} {x : Str} {p pos : Pos} {e : Expr} {es : List Expr} {t : TA} {id T : String} {r : List V → Hp → VK → Prop}

def tCB (r : List V → Hp → VK → Prop) (t : TA) : TE := fun σ H Q => t σ H fun vs H1 => r vs H1 Q
/-- f(e, ..), f a built-in function -/
theorem pe_callB (hc : CallR X (.builtin id) r) (hg : Gl X x) (hm : X.mg x = none) (hv : bootBuiltins x = some (.builtin id)) (ha : PA X (e :: es) t) (hn : x ≠ "__name__" := by decide) (hdb : (x == ("__debug__" : Str)) = false := by decide)
    (he : starEach (e :: es) X.env = (false, eval e X.env) :: starEach es X.env := by rfl) (hpl : (backTo pos (starEach es X.env)).any (·.1) = false := by rfl) : PE X (.Call (.Name x p) (e :: es) [] pos) (tCB r t) := by
  intro pins s σ H Q I h
  refine wpAny_Call_Name_kw (ld_blt I hg hm hv ?_ hn hdb)
  exact PyProof.Rows.callWith_builtin1 (thn (ha pos pins s σ H _ I h) fun us s1 ⟨vs, H1, I1, r1, q1⟩ => hc pins s1 σ H1 vs us Q I1 r1 q1) he hpl
/-- T(e, ..), T a built-in type -/
theorem pe_callTy (hc : CallR X (.type T) r) (hg : Gl X x) (hm : X.mg x = none) (hv : bootBuiltins x = some (.type T)) (ha : PA X (e :: es) t) (hn : x ≠ "__name__" := by decide) (hdb : (x == ("__debug__" : Str)) = false := by decide)
    (he : starEach (e :: es) X.env = (false, eval e X.env) :: starEach es X.env := by rfl) (hpl : (backTo pos (starEach es X.env)).any (·.1) = false := by rfl) : PE X (.Call (.Name x p) (e :: es) [] pos) (tCB r t) := by
  intro pins s σ H Q I h
  refine wpAny_Call_Name_kw (ld_blt I hg hm hv ?_ hn hdb)
  exact PyProof.Rows.callWith_type1 (thn (ha pos pins s σ H _ I h) fun us s1 ⟨vs, H1, I1, r1, q1⟩ => hc pins s1 σ H1 vs us Q I1 r1 q1) he hpl
end
end L2

namespace HT
open PySem PyProof.Rows

/-- t < u of tuples of ints -/
def lexLt : List Int → List Int → Bool
  | [], [] => false
  | [], _ :: _ => true
  | _ :: _, [] => false
  | x :: xs, y :: ys => if x = y then lexLt xs ys else decide (x < y)
section
open PySem.SeqAt
open PySem.AutoSeq1 (wpAny_loadPart')
open PySem.MeetsSeq PySem.MeetsSeq2 PySem.MeetsSeq3

end

section
variable {prog : Program} {w : World} {A : Around} {E : Value → Shared → Prop} {s : Shared}

/-! ### t[a:b], not the whole -/
/-- a slice's bound as a place among n (d where it is left out) -/
def sIx (n d : Nat) : Option Int → Nat
  | none => d
  | some v => if v < 0 then (v + (n : Int)).toNat else min v.toNat n
theorem sIx_none (n d : Nat) : sIx n d none = d := rfl
theorem sIx_nat (n d k : Nat) : sIx n d (some (k : Int)) = min k n := by
  show (if (k : Int) < 0 then ((k : Int) + (n : Int)).toNat else min (k : Int).toNat n) = min k n
  rw [if_neg (by omega), Int.toNat_natCast]
end
end HT

namespace L2
open PySem PySem.Spec PyProof.Rows

/-! ### the parts of a slice -/
abbrev TO := St → Hp → (Option Int → Hp → Prop) → Prop
/-- a slice's part (left out, or an int) -/
def PO (X : Cx) (e : Option Expr) (t : TO) : Prop :=
  ∀ (pins : List (Addr × Obj)) (s : Shared) (σ : St) (H : Hp) (Q : Option Int → Hp → Prop), Inv X pins σ H s → t σ H Q →
    wpAny (model X.prog X.w) X.A (evalPart e X.env) (fun u s' => ∃ o H', Inv X pins σ H' s' ∧ IsPart u o ∧ Q o H') X.xe s
def tNoPart : TO := fun _ H Q => Q none H
def tPart (t : TE) : TO := fun σ H Q => t σ H fun x H1 => ∃ i, x = .int i ∧ Q (some i) H1

theorem intsAre_of {ns : List Int} : ∀ {us : List Value}, Vals (ns.map V.int) us → IntsAre us ns := by
  induction ns with
  | nil => intro us r; rw [List.map_nil] at r; cases r; exact .nil
  | cons n ns ih =>
    intro us r
    rw [List.map_cons] at r
    cases r with
    | cons r1 r2 =>
      obtain ⟨t, e⟩ := r1
      subst e
      exact .cons n t (ih r2)

section
variable {X : Cx} {e : Expr} {te : TE} {lo hi : Option Expr} {tl th : TO} {pos p2 : Pos}

theorem po_none : PO X none tNoPart := by
  intro pins s σ H Q I h
  rw [evalPart_none]
  exact wpAny_pure ⟨none, H, I, .none, h⟩
theorem po_some (h : PE X e te) : PO X (some e) (tPart te) := by
  intro pins s σ H Q I hw
  rw [evalPart_some]
  refine thn (h pins s σ H _ I hw) fun u s1 ⟨x, H1, I1, r1, q1⟩ => ?_
  obtain ⟨i, rfl, q⟩ := q1
  obtain ⟨t, rfl⟩ := r1
  exact ⟨some i, H1, I1, .int i t, q⟩

/-- what a slice of a value is, by values: the slice object stands at sl -/
def SlR (X : Cx) (r : V → Option Int → Option Int → Hp → VK → Prop) : Prop :=
  ∀ (pins : List (Addr × Obj)) (s : Shared) (σ : St) (H : Hp) (x : V) (v vl vu : Value) (lo hi : Option Int) (sl : Addr) (Q : VK), Inv X pins σ H s → RelV x v → s.heap.IsSliceOf sl vl vu .none → IsPart vl lo → IsPart vu hi → r x lo hi H Q →
    ∃ T id, typeLookup (.type T) "__getitem__" = pure (some (.builtin id)) ∧ s.TypeIs v T ∧ wpAny (model X.prog X.w) X.A (getItem v (.ref sl)) (EP X pins σ Q) X.xe s
def tSl (r : V → Option Int → Option Int → Hp → VK → Prop) (te : TE) (tl th : TO) : TE := fun σ H Q => te σ H fun x H1 => tl σ H1 fun l H2 => th σ H2 fun u H3 => r x l u H3 Q
/-- a[lo:hi], any a -/
theorem pe_slice {r : V → Option Int → Option Int → Hp → VK → Prop} (hr : SlR X r) (he : PE X e te) (hl : PO X lo tl) (hu : PO X hi th) : PE X (.Subscript e (.Slice lo hi none p2) pos) (tSl r te tl th) := by
  intro pins s σ H Q I h
  refine Subscript_ (thn (he pins s σ H _ I h) fun v s1 ⟨x, H1, I1, r1, q1⟩ => ?_)
  refine wpAny_Slice (thn (hl pins s1 σ H1 _ I1 q1) fun vl s2 ⟨l, H2, I2, pl, q2⟩ => thn (hu pins s2 σ H2 _ I2 q2) fun vu s3 ⟨u, H3, I3, pu, q3⟩ => ?_)
  rw [evalPart_none]
  refine wpAny_pure ?_
  have I4 : Inv X pins σ H3 { s3 with heap := s3.heap.push { cls := .type "slice", data := .fields #[vl, vu, .none] } } := I3.kept (t' := s3.toks) fun b ob q => Heap.get?_push_of_some _ q
  obtain ⟨T, id, hT, ht, hg⟩ := hr pins { s3 with heap := s3.heap.push { cls := .type "slice", data := .fields #[vl, vu, .none] } } σ H3 x v vl vu l u s3.heap.objs.size Q I4 r1 (Heap.IsSliceOf.new ..) pl pu q3
  show wpAny (model X.prog X.w) X.A (subscriptTail e (.Slice lo hi none p2) v (.ref s3.heap.objs.size)) (EP X pins σ Q) X.xe { s3 with heap := s3.heap.push { cls := .type "slice", data := .fields #[vl, vu, .none] } }
  exact tail_any (ops := [.ref s3.heap.objs.size, v]) ht hT hg (by with_unfolding_all rfl)

/-- the items of xs[lo:hi] -/
def cutV (xs : List V) (lo hi : Option Int) : List V := (xs.drop (HT.sIx xs.length 0 lo)).take (HT.sIx xs.length xs.length hi - HT.sIx xs.length 0 lo)
theorem cutV_length (xs : List V) (lo hi : Option Int) : (cutV xs lo hi).length ≤ xs.length := by
  unfold cutV
  rw [List.length_take, List.length_drop]
  omega
/-- t[lo:hi], not the whole of it (the whole would be t itself) -/
def rSlT (K : PySem.W.Frag) : V → Option Int → Option Int → Hp → VK → Prop := fun x lo hi H Q => ∃ a xs, x = .ref a ∧ SqT K H a xs ∧
  ¬ (HT.sIx xs.length 0 lo = 0 ∧ HT.sIx xs.length xs.length hi = xs.length) ∧ ∀ p, H p = none → Q (.ref p) (upd H p (.tup (cutV xs lo hi)))
/-! ### t < u, t + u -/
def rLtT (K : PySem.W.Frag) : R2 := fun x y H Q => ∃ a b ns ms, x = .ref a ∧ y = .ref b ∧ SqT K H a (ns.map V.int) ∧ SqT K H b (ms.map V.int) ∧ Q (.bl (HT.lexLt ns ms)) H
/-- t + u, t not empty: u empty gives t itself -/
def rCatT (K : PySem.W.Frag) : R2 := fun x y H Q => ∃ a b xs ys, x = .ref a ∧ y = .ref b ∧ SqT K H a xs ∧ SqT K H b ys ∧ xs ≠ [] ∧ xs.length + ys.length ≤ sizeLine ∧
  (ys = [] → Q (.ref a) H) ∧ (ys ≠ [] → ∀ p, H p = none → Q (.ref p) (upd H p (.tup (xs ++ ys))))
end
end L2

namespace L2
open PySem PySem.Spec PyProof.Rows

/-! ### places -/
/-- the place that an index of any sign means -/
def ixN (n : Nat) (i : Int) : Option Nat := if 0 ≤ i then (if i < n then some i.toNat else none) else if -(n : Int) ≤ i then some (i + n).toNat else none
def atI {α : Type} (xs : List α) (i : Int) : Option α := (ixN xs.length i).bind fun j => xs[j]?
theorem ixN_seq {n : Nat} {i : Int} {j : Nat} (h : ixN n i = some j) : seqIndex? i n = some j ∧ j < n ∧ -(n : Int) ≤ i ∧ i < n := by
  unfold ixN at h
  by_cases h0 : 0 ≤ i
  · rw [if_pos h0] at h
    by_cases h1 : i < n
    · rw [if_pos h1] at h
      have e : i.toNat = j := Option.some.inj h
      exact ⟨by rw [seqIndex_of h0 h1, e], by omega, by omega, h1⟩
    · rw [if_neg h1] at h; cases h
  · rw [if_neg h0] at h
    by_cases h1 : -(n : Int) ≤ i
    · rw [if_pos h1] at h
      have e : (i + n).toNat = j := Option.some.inj h
      exact ⟨by rw [seqIndex_neg (by omega) h1, e], by omega, h1, by omega⟩
    · rw [if_neg h1] at h; cases h
theorem atI_get {α : Type} {xs : List α} {i : Int} {v : α} (h : atI xs i = some v) : ∃ j, seqIndex? i xs.length = some j ∧ xs[j]? = some v ∧ j < xs.length ∧ -(xs.length : Int) ≤ i ∧ i < xs.length := by
  unfold atI at h
  cases e : ixN xs.length i with
  | none => rw [e] at h; cases h
  | some j =>
    rw [e] at h
    obtain ⟨h1, h2, h3, h4⟩ := ixN_seq e
    exact ⟨j, h1, h, h2, h3, h4⟩
theorem atI_nat {α : Type} {xs : List α} {j : Nat} {v : α} (h : xs[j]? = some v) : atI xs (j : Int) = some v := by
  have hj : j < xs.length := (List.getElem?_eq_some_iff.mp h).1
  have e : ixN xs.length (j : Int) = some j := by
    unfold ixN
    rw [if_pos (by omega), if_pos (by omega)]; simp
  unfold atI; rw [e]; exact h
/-! ### what may be subscripted -/
/-- what stands as an index of a plain subscript -/
def PlainIx (b : Expr) : Prop := ∀ o i, subscripted b false o i = operate [o, i] (getItem o i)
/-- a subscript by values -/
def IxR (X : Cx) (r : R2) : Prop :=
  ∀ (value slice : Expr) (pins : List (Addr × Obj)) (s : Shared) (σ : St) (H : Hp) (x y : V) (v u : Value) (Q : VK), Inv X pins σ H s → RelV x v → RelV y u → r x y H Q →
    subscripted slice false v u = operate [v, u] (getItem v u) → wpAny (model X.prog X.w) X.A (subscriptTail value slice v u) (EP X pins σ Q) X.xe s
/-- a call of a builtin's method by values: the receiver, the arguments -/
def MtR (X : Cx) (id : String) (r : V → List V → Hp → VK → Prop) : Prop :=
  ∀ (pins : List (Addr × Obj)) (s : Shared) (σ : St) (H : Hp) (x : V) (xs : List V) (v : Value) (us : List Value) (Q : VK), Inv X pins σ H s → RelV x v → Vals xs us → r x xs H Q →
    wpAny (model X.prog X.w) X.A (call (.builtin id) (v :: us)) (EP X pins σ Q) X.xe s
section
variable {X : Cx} {a b : Expr} {ta tb : TE} {pos : Pos}
/-- a[b] -/
theorem pe_ix {r : R2} (hr : IxR X r) (ha : PE X a ta) (hb : PE X b tb) (hs : PlainIx b) : PE X (.Subscript a b pos) (tOp r ta tb) := by
  intro pins s σ H Q I h
  exact Subscript_ (binT ha hb I h fun v u s2 x y H2 I2 rx ry q => hr a b pins s2 σ H2 x y v u Q I2 rx ry q (hs _ _))

def rIxL (K : PySem.W.Frag) : R2 := fun x y H Q => ∃ p xs i v, x = .ref p ∧ y = .int i ∧ SqL K H p xs ∧ atI xs i = some v ∧ Q v H
def rIxT (K : PySem.W.Frag) : R2 := fun x y H Q => ∃ p xs i v, x = .ref p ∧ y = .int i ∧ SqT K H p xs ∧ atI xs i = some v ∧ Q v H
def rIxS : R2 := fun x y H Q => ∃ z i c, x = .str z ∧ y = .int i ∧ z.length ≤ sizeLine ∧ atI z.cps.toList i = some c ∧ Q (.str ⟨#[c]⟩) H
theorem ix_list : IxR X (rIxL X.K) := by
  intro value slice pins s σ H x y v u Q I rx ry h hs
  obtain ⟨p, xs, i, z, rfl, rfl, hq, he, q⟩ := h
  cases rx
  obtain ⟨t, rfl⟩ := ry
  obtain ⟨its, r, pl, hz⟩ := I.list hq
  obtain ⟨j, h1, h2, h3, h4, h5⟩ := atI_get he
  obtain ⟨w, ew, rw'⟩ := r.get h2
  have hl := r.length
  have hn := line63
  have fin : EP X pins σ Q w s := ⟨z, H, I, rw', q⟩
  by_cases h0 : 0 ≤ i
  · have hj : i.toNat = j := by
      rw [seqIndex_of h0 h5] at h1
      exact Option.some.inj h1
    exact item_listR pl.isList h0 (by omega) (by rw [hj]; simpa using ew) fin hs
  · have hj : (i + (its.toArray.size : Int)).toNat = j := by
      rw [seqIndex_neg (by omega) h4] at h1
      rw [List.size_toArray, ← hl]
      exact Option.some.inj h1
    exact subscriptTail_builtinR (x := w) pl.isList.typeIs slot_list_getitem.lookup
      (wpAny_getItem_list_neg (Q := fun r s' => r = w ∧ EP X pins σ Q r s') pl.isList (by omega) (by rw [List.size_toArray] <;> omega) (by omega) (by rw [hj]; simpa using ew) ⟨rfl, fin⟩) hs
theorem ix_tup : IxR X (rIxT X.K) := by
  intro value slice pins s σ H x y v u Q I rx ry h hs
  obtain ⟨p, xs, i, z, rfl, rfl, hq, he, q⟩ := h
  cases rx
  obtain ⟨t, rfl⟩ := ry
  obtain ⟨its, r, pl, hz⟩ := I.tuple hq
  obtain ⟨j, h1, h2, h3, h4, h5⟩ := atI_get he
  obtain ⟨w, ew, rw'⟩ := r.get h2
  have hl := r.length
  have hn := line63
  have fin : EP X pins σ Q w s := ⟨z, H, I, rw', q⟩
  exact subscriptTail_builtinR (x := w) pl.typeIs slot_tuple_getitem.lookup
    (getItem_tuple (j := j) (Q := fun r s' => r = w ∧ EP X pins σ Q r s') pl (by omega) (by omega) (by rw [List.size_toArray, ← hl]; exact h1) (by simpa using ew) ⟨rfl, fin⟩) hs
/-- list, tuple or str -/
def rIx (K : PySem.W.Frag) : R2 := fun x y H Q => rIxL K x y H Q ∨ rIxT K x y H Q ∨ rIxS x y H Q
/-! ### xs[i] = v, any sign -/
/-- the list's object behind a store -/
theorem mapSeq_set (its : List Value) (n j : Nat) (u : Value) : Obj.mapSeq (·.setIfInBounds j u) { cls := .type "list", data := .seq its.toArray n } = { cls := .type "list", data := .seq (its.set j u).toArray n } := by
  simp [Obj.mapSeq]
theorem Inv.lst {pins : List (Addr × Obj)} {σ : St} {H : Hp} {s : Shared} {p : Addr} {xs : List V} (I : Inv X pins σ H s) (h : H p = some (.lst xs)) :
    ∃ (its : List Value) (n : Nat), Vals xs its ∧ s.heap.get? p = some { cls := .type "list", data := .seq its.toArray n } ∧ xs.length ≤ sizeLine := by
  obtain ⟨z, its, n, r, e⟩ := I.hok p _ h
  exact ⟨its, n, r, e, z⟩
/-- the list at p is written by an update of its object -/
theorem Inv.lstUpd {pins : List (Addr × Obj)} {σ : St} {H : Hp} {s : Shared} {p : Addr} {xs ys : List V} {its its' : List Value} {n n' : Nat} {f : Obj → Obj} (I : Inv X pins σ H s) (h : H p = some (.lst xs))
    (ho : s.heap.get? p = some { cls := .type "list", data := .seq its.toArray n }) (hf : f { cls := .type "list", data := .seq its.toArray n } = { cls := .type "list", data := .seq its'.toArray n' }) (r : Vals ys its') (hz : ys.length ≤ sizeLine) (t : Nat) :
    Inv X pins σ (upd H p (.lst ys)) { s with heap := s.heap.update p f, toks := t } := by
  have e : (s.heap.update p f).get? p = some { cls := .type "list", data := .seq its'.toArray n' } := by
    rw [Heap.get?_update_self f ho (by rw [hf] <;> rfl), hf]
  refine I.write (x := p) (e := p) (by rw [h]; trivial) (.inl rfl) (fun b u hb q => (Heap.get?_update_other _ _ (Ne.symm hb)).trans q) ⟨_, e⟩ ?_
  exact ⟨hz, its', n', r, e⟩
def rSetL : V → V → V → Hp → (Hp → Prop) → Prop := fun o i v H Q => ∃ p xs k j, o = .ref p ∧ i = .int k ∧ H p = some (.lst xs) ∧ ixN xs.length k = some j ∧ Q (upd H p (.lst (xs.set j v)))
theorem set_list : PSet X rSetL := by
  intro pins s σ H o i v ov iv u Q I ro ri rv h
  obtain ⟨p, xs, k, j, rfl, rfl, hp, hj, q⟩ := h
  cases ro
  obtain ⟨t, rfl⟩ := ri
  obtain ⟨its, n, r, ho, hz⟩ := I.lst hp
  obtain ⟨h1, h2, h3, h4⟩ := ixN_seq hj
  have hl := r.length
  have hn := line63
  have I' : Inv X pins σ (upd H p (.lst (xs.set j v))) { s with heap := s.heap.update p (Obj.mapSeq (·.setIfInBounds j u)) } :=
    I.lstUpd hp ho (mapSeq_set its n j u) (r.set rv j) (by rw [List.length_set]; exact hz) s.toks
  by_cases h0 : 0 ≤ k
  · have hk : k.toNat = j := by
      rw [seqIndex_of h0 h4] at h1
      exact Option.some.inj h1
    exact PySem.W.ki_setAt ho h0 (by omega) (by rw [List.size_toArray, ← hl]; exact h4) (by rw [hk]; exact ⟨_, I', q⟩)
  · have hk : (k + (its.toArray.size : Int)).toNat = j := by
      rw [seqIndex_neg (by omega) h3] at h1
      rw [List.size_toArray, ← hl]
      exact Option.some.inj h1
    exact PySem.W.ki_setBack ho (by omega) (by rw [List.size_toArray, ← hl]; exact h3) (by omega) (by rw [hk]; exact ⟨_, I', q⟩)

/-! ### slices -/
theorem slice_bounds (lo hi : Option Int) (n : Nat) : (sliceBounds lo hi none n).1 = ((HT.sIx n 0 lo : Nat) : Int) ∧ (sliceBounds lo hi none n).2.1 = ((HT.sIx n n hi : Nat) : Int) ∧ (sliceBounds lo hi none n).2.2 = 1 := by
  refine ⟨?_, ?_, rfl⟩
  · cases lo with
    | none => simp [sliceBounds, HT.sIx]
    | some i =>
      simp only [sliceBounds, HT.sIx, Option.getD_none, show (1 : Int) > 0 by decide, if_true]
      by_cases h : i < 0
      · simp only [h, if_true] <;> omega
      · simp only [h, if_false] <;> omega
  · cases hi with
    | none => simp [sliceBounds, HT.sIx]
    | some i =>
      simp only [sliceBounds, HT.sIx, Option.getD_none, show (1 : Int) > 0 by decide, if_true]
      by_cases h : i < 0
      · simp only [h, if_true] <;> omega
      · simp only [h, if_false] <;> omega
theorem slicePick_cut (its : List Value) (lo hi : Option Int) : slicePick its.toArray lo hi none = ((its.drop (HT.sIx its.length 0 lo)).take (HT.sIx its.length its.length hi - HT.sIx its.length 0 lo)).toArray := by
  obtain ⟨h1, h2, h3⟩ := slice_bounds lo hi its.toArray.size
  unfold slicePick
  rw [h1, h2, h3]
  simp only [sliceRange_one, pick_run, List.size_toArray] <;> rfl
/-- xs[lo:hi] of a list: a new list -/
def rSlL (K : PySem.W.Frag) : V → Option Int → Option Int → Hp → VK → Prop := fun x lo hi H Q => ∃ a xs, x = .ref a ∧ SqL K H a xs ∧ ∀ p, H p = none → Q (.ref p) (upd H p (.lst (cutV xs lo hi)))
theorem sl_list : SlR X (rSlL X.K) := by
  intro pins s σ H x v vl vu lo hi sl Q I rx hs pl pu h
  obtain ⟨a, xs, rfl, hx, q⟩ := h
  cases rx
  obtain ⟨its, r, ht, hz⟩ := I.list hx
  have hlen := r.length
  refine ⟨"list", _, slot_list_getitem.lookup, ht.isList.typeIs, ?_⟩
  refine wpAny_getItem_list_slice ht.isList hs pl pu .none (by simp) ?_ (by rw [List.size_toArray] <;> omega)
  rw [slicePick_cut, ← hlen]
  refine ⟨.ref s.heap.objs.size, _, I.laid (t' := s.toks) (o := .lst (cutV xs lo hi)) (fun b ob q => Heap.get?_push_of_some _ q) (Nat.le_refl _) ?_, rfl, q _ (I.hok.fresh (Nat.le_refl _))⟩
  exact ⟨Nat.le_trans (cutV_length xs lo hi) hz, _, 0, (r.drop (HT.sIx xs.length 0 lo)).take (HT.sIx xs.length xs.length hi - HT.sIx xs.length 0 lo), Heap.get?_push_size _ rfl⟩

/-! ### in, not in: flat items -/
def flatV : V → Bool
  | .non => true
  | .bl _ => true
  | .int _ => true
  | .str _ => true
  | _ => false
/-- == of flat values -/
def eqV : V → V → Bool
  | .non, .non => true
  | .bl a, .bl b => a == b
  | .bl a, .int b => (if a then 1 else 0) == b
  | .int a, .bl b => a == (if b then 1 else 0)
  | .int a, .int b => a == b
  | .str a, .str b => a == b
  | _, _ => false
theorem eqAt_V {A : Around} {s : Shared} {y x : V} {u v : Value} (ry : RelV y u) (rx : RelV x v) (fy : flatV y = true) (fx : flatV x = true) : SeqAt.EqAt A s u v (eqV y x) := by
  cases y with
  | non =>
    cases ry
    cases x with
    | non => cases rx; exact SeqAt.EqAt.same _
    | bl b => cases rx; exact SeqAt.EqAt.none_bool b
    | int b => obtain ⟨t, rfl⟩ := rx; exact SeqAt.EqAt.none_int b t
    | str b => obtain ⟨t, rfl⟩ := rx; exact SeqAt.EqAt.none_str b t
    | _ => exact absurd (show false = true from fx) Bool.false_ne_true
  | bl a =>
    cases ry
    cases x with
    | non => cases rx; exact SeqAt.EqAt.bool_none a
    | bl b => cases rx; exact SeqAt.EqAt.bool_bool a b
    | int b => obtain ⟨t, rfl⟩ := rx; exact SeqAt.EqAt.bool_int a b t
    | str b => obtain ⟨t, rfl⟩ := rx; exact SeqAt.EqAt.bool_str a b t
    | _ => exact absurd (show false = true from fx) Bool.false_ne_true
  | int a =>
    obtain ⟨t', rfl⟩ := ry
    cases x with
    | non => cases rx; exact SeqAt.EqAt.int_none a t'
    | bl b => cases rx; exact SeqAt.EqAt.int_bool a t' b
    | int b => obtain ⟨t, rfl⟩ := rx; exact SeqAt.EqAt.int_int a t' b t
    | str b => obtain ⟨t, rfl⟩ := rx; exact SeqAt.EqAt.int_str a t' b t
    | _ => exact absurd (show false = true from fx) Bool.false_ne_true
  | str a =>
    obtain ⟨t', rfl⟩ := ry
    cases x with
    | non => cases rx; exact SeqAt.EqAt.str_none a t'
    | bl b => cases rx; exact SeqAt.EqAt.str_bool a t' b
    | int b => obtain ⟨t, rfl⟩ := rx; exact SeqAt.EqAt.str_int a t' b t
    | str b => obtain ⟨t, rfl⟩ := rx; exact SeqAt.EqAt.str_str a t' b t
    | _ => exact absurd (show false = true from fx) Bool.false_ne_true
  | _ => exact absurd (show false = true from fy) Bool.false_ne_true
/-- the items' answers, read off the values (a value's own answer does not lean on its token) -/
def eqU (x : V) (u : Value) : Bool := match u with
  | .none => eqV .non x
  | .bool b => eqV (.bl b) x
  | .int i _ => eqV (.int i) x
  | .str z _ => eqV (.str z) x
  | _ => false
theorem eqU_of {x y : V} {u : Value} (r : RelV y u) (f : flatV y = true) : eqU x u = eqV y x := by
  cases y with
  | non => cases r; rfl
  | bl b => cases r; rfl
  | int i => obtain ⟨t, rfl⟩ := r; rfl
  | str z => obtain ⟨t, rfl⟩ := r; rfl
  | _ => exact absurd (show false = true from f) Bool.false_ne_true
theorem any_eqU {x : V} : ∀ {xs : List V} {us : List Value}, Vals xs us → xs.all flatV = true → us.any (eqU x) = xs.any fun y => eqV y x
  | _, _, .nil, _ => rfl
  | y :: xs, u :: us, .cons r t, f => by
    rw [List.all_cons, Bool.and_eq_true] at f
    rw [List.any_cons, List.any_cons, eqU_of r f.1, any_eqU t f.2]
theorem mem_eqAt {A : Around} {s : Shared} {x : V} {v : Value} (rx : RelV x v) (fx : flatV x = true) : ∀ {xs : List V} {us : List Value}, Vals xs us → xs.all flatV = true → ∀ u ∈ us, SeqAt.EqAt A s u v (eqU x u)
  | _, _, .nil, _ => fun u hu => by cases hu
  | y :: xs, u :: us, .cons r t, f => fun u' hu => by
    rw [List.all_cons, Bool.and_eq_true] at f
    rcases List.mem_cons.mp hu with rfl | hu
    · rw [eqU_of r f.1]; exact eqAt_V r rx f.1 fx
    · exact mem_eqAt rx fx t f.2 u' hu
def inV (x : V) (xs : List V) : Bool := xs.any fun y => eqV y x
/-- x in a list or tuple of flat items -/
def rIn (K : PySem.W.Frag) (neg : Bool) : R2 := fun x y H Q => ∃ p xs, y = .ref p ∧ (SqL K H p xs ∨ SqT K H p xs) ∧ flatV x = true ∧ xs.all flatV = true ∧ Q (.bl (if neg then !inV x xs else inV x xs)) H
theorem op_in_seq : OpR X (compareOp .In) (rIn X.K false) := by
  intro pins s σ H x y v u Q I rx ry h
  obtain ⟨p, xs, rfl, hq, fx, fs, q⟩ := h
  cases ry
  rcases hq with hq | hq
  · obtain ⟨its, r, pl, hz⟩ := I.list hq
    refine SeqAt.in_listAt (eqU x) pl.isList (fun w hw => mem_eqAt rx fx r fs w (by simpa using hw)) ⟨.bl _, H, I, rfl, ?_⟩
    rw [show its.toArray.any (eqU x) = its.any (eqU x) by simp, any_eqU r fs]
    exact q
  · obtain ⟨its, r, pl, hz⟩ := I.tuple hq
    refine SeqAt.in_tupleAt (eqU x) pl (fun w hw => mem_eqAt rx fx r fs w (by simpa using hw)) ⟨.bl _, H, I, rfl, ?_⟩
    rw [show its.toArray.any (eqU x) = its.any (eqU x) by simp, any_eqU r fs]
    exact q
/-! ### len, list(x), tuple(x) of any list or tuple that is read -/
theorem call_len_seq : CallR X (.builtin "len") (fun xs H Q => ∃ p ys, xs = [.ref p] ∧ (SqL X.K H p ys ∨ SqT X.K H p ys) ∧ Q (.int ys.length) H) := by
  intro pins s σ H xs us Q I r h
  obtain ⟨p, ys, rfl, hq, q⟩ := h
  obtain ⟨u, rfl, rx⟩ := vals1 r
  cases rx
  have hn := line63
  rcases hq with hq | hq
  · obtain ⟨its, r', pl, hz⟩ := I.list hq
    have hlen := r'.length
    exact Calls.call_len_list pl.isList (by simp only [List.size_toArray] <;> omega) ⟨.int ys.length, H, I.tok _, ⟨s.toks + 1, by rw [List.size_toArray, hlen]⟩, q⟩
  · obtain ⟨its, r', pl, hz⟩ := I.tuple hq
    have hlen := r'.length
    exact len_tuple pl (by simp only [List.size_toArray] <;> omega) ⟨.int ys.length, H, I.tok _, ⟨s.toks + 1, by rw [List.size_toArray, hlen]⟩, q⟩
theorem call_list_of : CallR X (.type "list") (fun xs H Q => ∃ p ys, xs = [.ref p] ∧ (SqL X.K H p ys ∨ SqT X.K H p ys) ∧ ∀ l, H l = none → Q (.ref l) (upd H l (.lst ys))) := by
  intro pins s σ H xs us Q I r h
  obtain ⟨p, ys, rfl, hq, q⟩ := h
  obtain ⟨u, rfl, rx⟩ := vals1 r
  cases rx
  have fin : ∀ (its : List Value), Vals ys its → ys.length ≤ sizeLine → ∀ (h' : Heap) (c' : Nat), (∀ b o', s.heap.get? b = some o' → h'.get? b = some o') →
      h'.get? s.heap.objs.size = some { cls := .type "list", dict := none, data := .seq its.toArray c', slots := #[] } → EP X pins σ Q (.ref s.heap.objs.size) { s with heap := h' } := fun its r' hz h' c' kp e =>
    ⟨.ref s.heap.objs.size, _, I.laid (t' := s.toks) kp (Nat.le_refl _) (show ObjOk X.prog X.w _ h' _ (.lst ys) from ⟨hz, its, c', r', e⟩), rfl, q _ (I.hok.fresh (Nat.le_refl _))⟩
  rcases hq with hq | hq
  · obtain ⟨its, r', pl, hz⟩ := I.list hq
    have hlen := r'.length
    obtain ⟨o, ho, hc, n, hd⟩ := pl.isList
    exact call_list_seq p (.inl rfl) ho hc hd (fun h' c' kp e => fin its r' hz h' c' kp e) (by simp only [List.size_toArray] <;> omega)
  · obtain ⟨its, r', pl, hz⟩ := I.tuple hq
    have hlen := r'.length
    obtain ⟨o, ho, hc, n, hd⟩ := pl
    exact call_list_seq p (.inr rfl) ho hc hd (fun h' c' kp e => fin its r' hz h' c' kp e) (by simp only [List.size_toArray] <;> omega)
theorem call_tuple_of : CallR X (.type "tuple") (fun xs H Q => ∃ p ys, xs = [.ref p] ∧ ((SqL X.K H p ys ∧ ∀ l, H l = none → Q (.ref l) (upd H l (.tup ys))) ∨ (SqT X.K H p ys ∧ Q (.ref p) H))) := by
  intro pins s σ H xs us Q I r h
  obtain ⟨p, ys, rfl, h⟩ := h
  obtain ⟨u, rfl, rx⟩ := vals1 r
  cases rx
  rcases h with ⟨hq, q⟩ | ⟨hq, q⟩
  · obtain ⟨its, r', pl, hz⟩ := I.list hq
    have hlen := r'.length
    refine call_tuple_list pl.isList (fun h' kp => ?_) (by simp only [List.size_toArray] <;> omega)
    have I1 : Inv X pins σ H { s with heap := h' } := I.kept (t' := s.toks) kp
    have I2 : Inv X pins σ (upd H h'.objs.size (.tup ys)) { s with heap := h'.push { cls := .type "tuple", data := .seq its.toArray } } :=
      I1.laid (t' := s.toks) (fun b o e => Heap.get?_push_of_some _ e) (Nat.le_refl _) (show ObjOk X.prog X.w _ _ _ (.tup ys) from ⟨hz, its, r', IsTup.new _ _⟩)
    exact ⟨.ref h'.objs.size, _, I2, rfl, q _ (I1.hok.fresh (Nat.le_refl _))⟩
  · obtain ⟨its, r', pl, hz⟩ := I.tuple hq
    exact call_tuple_same pl ⟨.ref p, H, I, rfl, q⟩

/-! ### the call of a builtin's method: o.m(..) -/
/-- the value is of that builtin type -/
def tyV (K : PySem.W.Frag) (T : String) (x : V) (H : Hp) : Prop := match x with
  | .str _ => T = "str"
  | .int _ => T = "int"
  | .ref p => (T = "list" ∧ ∃ xs, SqL K H p xs) ∨ (T = "tuple" ∧ ∃ o, K.lookup p = some o ∧ o.cls = .type "tuple" ∧ o.dict = none) ∨
      (T = "dict" ∧ ((∃ kvs, H p = some (.dK kvs)) ∨ ∃ kvs, H p = some (.dT kvs))) ∨ (T = "set" ∧ ∃ S n, H p = some (.set S n))
  | _ => False
theorem tyV_is {pins : List (Addr × Obj)} {σ : St} {H : Hp} {s : Shared} {T : String} {x : V} {v : Value} (I : Inv X pins σ H s) (r : RelV x v) (ty : tyV X.K T x H) :
    s.TypeIs v T ∧ ∀ a, v = .ref a → ∃ ob, s.heap.get? a = some ob ∧ ob.dict = none := by
  cases x with
  | str z =>
    obtain ⟨t, rfl⟩ := r
    cases (show T = "str" from ty)
    exact ⟨typeIs_str s z t, fun _ e => nomatch e⟩
  | int i =>
    obtain ⟨t, rfl⟩ := r
    cases (show T = "int" from ty)
    exact ⟨typeIs_int s i t, fun _ e => nomatch e⟩
  | ref p =>
    cases r
    rcases ty with ⟨rfl, xs, hq⟩ | ⟨rfl, o, hk, hc, hd⟩ | ⟨rfl, hk⟩ | ⟨rfl, S, n, hk⟩
    · obtain ⟨its, _, pl, _⟩ := I.list hq
      refine ⟨pl.isList.typeIs, fun a e => ?_⟩
      cases e
      obtain ⟨o, n, e, c, hd, _⟩ := pl
      exact ⟨o, e, hd⟩
    · refine ⟨⟨o, I.kIn p o hk, hc⟩, fun a e => ?_⟩
      cases e
      exact ⟨o, I.kIn _ o hk, hd⟩
    · have z : ∃ o, s.heap.get? p = some o ∧ o.ExactDict := by
        rcases hk with ⟨kvs, hk⟩ | ⟨kvs, hk⟩
        · obtain ⟨_, _, _, _, o, _, _, e, ex, _⟩ := I.hok p _ hk
          exact ⟨o, e, ex⟩
        · obtain ⟨_, _, _, _, o, _, _, e, ex, _⟩ := I.hok p _ hk
          exact ⟨o, e, ex⟩
      obtain ⟨o, e, ex⟩ := z
      refine ⟨⟨o, e, ex.1⟩, fun a e2 => ?_⟩
      cases e2
      exact ⟨o, e, ex.2.1⟩
    · obtain ⟨o, _, _, _, e, ex, _⟩ := I.hok p _ hk
      refine ⟨⟨o, e, ex.1⟩, fun a e2 => ?_⟩
      cases e2
      exact ⟨o, e, ex.2.1⟩
  | _ => exact False.elim ty
def tBM0 (K : PySem.W.Frag) (T : String) (r : V → List V → Hp → VK → Prop) (to : TE) : TE := fun σ H Q => to σ H fun x H1 => tyV K T x H1 ∧ r x [] H1 Q
def tBM (K : PySem.W.Frag) (T : String) (r : V → List V → Hp → VK → Prop) (to : TE) (t : TA) : TE := fun σ H Q => to σ H fun x H1 => tyV K T x H1 ∧ t σ H1 fun xs H2 => r x xs H2 Q
variable {o e : Expr} {es : List Expr} {to : TE} {t : TA} {name : Str} {apos cpos : Pos} {T id : String} {r : V → List V → Hp → VK → Prop}
theorem pe_bm (pa : PlainAttrs T) (slot : Slot T name id) (hty : typeOf (.builtin id) = pure (.type "method_descriptor")) (hm : MtR X id r) (ho : PE X o to) (ha : PA X (e :: es) t)
    (hbase : attributeBase o name X.env (eval o X.env) = eval o X.env := by rfl)
    (hfew : ((backTo cpos (starEach (e :: es) X.env)).all (fun x => !x.1) && (backToKw cpos (keywordEach [] X.env)).all (fun x => x.1.isSome)
      && decide ((e :: es).length + ([] : List Keyword).length + (if ([] : List Keyword).isEmpty then 0 else 1) < 30)) = true := by rfl)
    (hline : (apos.endLine == cpos.line) = true := by rfl) (hs : starEach (e :: es) X.env = (false, eval e X.env) :: starEach es X.env := by rfl) (hplain : (backTo cpos (starEach es X.env)).any (·.1) = false := by rfl) :
    PE X (.Call (.Attribute o name apos) (e :: es) [] cpos) (tBM X.K T r to t) := by
  intro pins s σ H Q I h
  refine wpAny_Call_method_late hbase hfew hline rfl (thn (ho pins s σ H _ I h) fun v s1 ⟨x, H1, I1, r1, ty, q1⟩ => ?_)
  obtain ⟨h1, h2⟩ := tyV_is I1 r1 ty
  refine ⟨T, id, pa, slot, hty, h1, h2, ?_⟩
  have hA := ha cpos pins s1 σ H1 _ I1 q1
  rw [hs] at hA ⊢
  refine Calls.callWith_builtin (by show (false || (backTo cpos (starEach es X.env)).any (·.1)) = false; rw [hplain] <;> rfl) (Calls.evalArgs_plain ?_)
  exact thn hA fun us s2 ⟨vs, H2, I2, r2, q2⟩ => hm pins s2 σ H2 x vs v us Q I2 r1 r2 q2
/- xs.append(e), list.index on a module's tuple .. are MtR facts of 06m -/
end
end L2

namespace L2
open PySem PySem.Spec PyProof.Rows

def MtM (X : Cx) (id : String) (r : V → List V → Hp → VK → Prop) : Prop :=
  ∀ (pins : List (Addr × Obj)) (s : Shared) (σ : St) (H : Hp) (x : V) (xs : List V) (v : Value) (us : List Value) (Q : VK), Inv X pins σ H s → RelV x v → Vals xs us → r x xs H Q →
    wpAny (model X.prog X.w) X.A (call (.builtin id) (v :: us)) (EP X pins σ Q) X.xe s

/-! ### lists of values -/
theorem Vals.one : ∀ {x : V} {us : List Value}, Vals [x] us → ∃ u, us = [u] ∧ RelV x u
  | _, _, .cons r .nil => ⟨_, rfl, r⟩
theorem Vals.dropLast {xs : List V} {us : List Value} (h : Vals xs us) : Vals xs.dropLast us.dropLast := by
  induction h with
  | nil => exact .nil
  | cons r t ih =>
    cases t with
    | nil => exact .nil
    | cons q t' => exact .cons r ih
theorem Vals.eraseIdx : ∀ {xs : List V} {us : List Value} (i : Nat), Vals xs us → Vals (xs.eraseIdx i) (us.eraseIdx i)
  | _, _, _, .nil => .nil
  | _, _, 0, .cons _ t => t
  | _, _, i + 1, .cons r t => .cons r (Vals.eraseIdx i t)
theorem Vals.rep {xs : List V} {us : List Value} (h : Vals xs us) : ∀ k : Nat, Vals (List.replicate k xs).flatten (List.replicate k us).flatten
  | 0 => .nil
  | k + 1 => by
    rw [List.replicate_succ, List.replicate_succ, List.flatten_cons, List.flatten_cons]
    exact Vals.append h (Vals.rep h k)
theorem erase_last {α : Type} (l : List α) : l.eraseIdx (l.length - 1) = l.dropLast := by
  induction l with
  | nil => rfl
  | cons a r ih =>
    cases r with
    | nil => rfl
    | cons b r =>
      have e : (a :: b :: r).length - 1 = ((b :: r).length - 1) + 1 := by
        have h1 : (a :: b :: r).length = r.length + 2 := rfl
        have h2 : (b :: r).length = r.length + 1 := rfl
        omega
      rw [e, List.eraseIdx_cons_succ, ih]
      all_goals rfl
theorem len_erase {α : Type} : ∀ (l : List α) (i : Nat), (l.eraseIdx i).length ≤ l.length
  | [], _ => Nat.le_refl _
  | _ :: _, 0 => Nat.le_succ _
  | _ :: r, i + 1 => Nat.succ_le_succ (len_erase r i)
theorem foldl_rep (its : List Value) : ∀ (k : Nat) (acc : List Value),
    List.foldl (fun x1 x2 => x1 ++ x2) acc.toArray (List.replicate k its.toArray) = (acc ++ (List.replicate k its).flatten).toArray
  | 0, acc => by simp
  | k + 1, acc => by
    have e : acc.toArray ++ its.toArray = (acc ++ its).toArray := by simp
    have e2 : (acc ++ its) ++ (List.replicate k its).flatten = acc ++ (List.replicate (k + 1) its).flatten := by
      rw [List.replicate_succ, List.flatten_cons, List.append_assoc]
    rw [← e2, ← foldl_rep its k (acc ++ its), ← e, List.replicate_succ, List.foldl_cons]

section
variable {X : Cx} {pins : List (Addr × Obj)} {σ : St} {H : Hp} {s : Shared} {l b : Addr} {xs ys zs : List V}

/-! ### the two steps: a tracked list is rewritten, a new list is laid -/
theorem Inv.lset {its its' : List Value} {n : Nat} {f : Array Value → Array Value} {t' : Nat} (I : Inv X pins σ H s) (hH : H l = some (.lst xs))
    (e : s.heap.get? l = some { cls := .type "list", data := .seq its.toArray n }) (hf : f its.toArray = its'.toArray) (hv : Vals ys its') (hz : ys.length ≤ sizeLine) :
    Inv X pins σ (upd H l (.lst ys)) { s with heap := s.heap.update l (Obj.mapSeq f), toks := t' } := by
  have q := PySem.IsL.update e f
  rw [hf] at q
  refine I.write (x := l) (e := l) (by rw [hH]; exact trivial) (.inl rfl) (fun b' u hb hu => (Heap.get?_update_other s.heap (Obj.mapSeq f) (Ne.symm hb)).trans hu) ⟨_, q⟩ ?_
  exact ⟨hz, its', _, hv, q⟩
theorem Inv.lnew {its : List Value} {t' : Nat} (I : Inv X pins σ H s) (hv : Vals ys its) (hz : ys.length ≤ sizeLine) :
    Inv X pins σ (upd H s.heap.objs.size (.lst ys)) { s with heap := s.heap.push { cls := .type "list", data := .seq its.toArray }, toks := t' } :=
  I.laid (fun _ _ q => Heap.get?_push_of_some _ q) (Nat.le_refl _) ⟨hz, its, 0, hv, Heap.get?_push_size _ rfl⟩
theorem Inv.fresh (I : Inv X pins σ H s) : H s.heap.objs.size = none := I.hok.fresh (Nat.le_refl _)
theorem Inv.lstM (I : Inv X pins σ H s) (hH : H l = some (.lst xs)) : xs.length ≤ sizeLine ∧ ∃ (its : List Value) (n : Nat), Vals xs its ∧ xs.length = its.length ∧ s.heap.get? l = some { cls := .type "list", data := .seq its.toArray n } := by
  obtain ⟨z, its, n, r, e⟩ := I.hok l _ hH
  exact ⟨z, its, n, r, r.length, e⟩

theorem notLongL {n : Nat} (h : n ≤ sizeLine) : Builtin.List.listTooLong n = false := by
  unfold Builtin.List.listTooLong
  exact decide_eq_false (by omega)
end

section
variable {X : Cx}

/-! ### methods -/
def rAppend : V → List V → Hp → VK → Prop := fun x vs H Q => ∃ l xs y, x = .ref l ∧ vs = [y] ∧ H l = some (.lst xs) ∧ xs.length < sizeLine ∧ Q .non (upd H l (.lst (xs ++ [y])))
theorem mt_append : MtM X "list.append" rAppend := by
  intro pins s σ H x vs v us Q I rx rv h
  obtain ⟨l, xs, y, rfl, rfl, hH, hz, q⟩ := h
  cases rx
  obtain ⟨u, rfl, ru⟩ := rv.one
  obtain ⟨z, its, n, r, hl, e⟩ := I.lstM hH
  refine call_meets F.slot_list_append ⟨_, e, rfl⟩ F.entry_list_append (F.args_list_append_2 _ _) (PySem.list_append l its.toArray n u (by rw [List.size_toArray]; omega)) ⟨e, ?_⟩
  refine ⟨.non, _, I.lset (its' := its ++ [u]) hH e (by simp) (r.append (.cons ru .nil)) ?_, rfl, q⟩
  rw [List.length_append, List.length_singleton]
  omega

def rExtend : V → List V → Hp → VK → Prop := fun x vs H Q => ∃ l b xs zs, x = .ref l ∧ vs = [.ref b] ∧ H l = some (.lst xs) ∧ H b = some (.lst zs) ∧ xs.length + zs.length ≤ sizeLine ∧ Q .non (upd H l (.lst (xs ++ zs)))
theorem mt_extend : MtM X "list.extend" rExtend := by
  intro pins s σ H x vs v us Q I rx rv h
  obtain ⟨l, b, xs, zs, rfl, rfl, hH, hB, hz, q⟩ := h
  cases rx
  obtain ⟨u, rfl, ru⟩ := rv.one
  cases ru
  obtain ⟨z, its, n, r, hl, e⟩ := I.lstM hH
  obtain ⟨z2, its2, n2, r2, hl2, e2⟩ := I.lstM hB
  have hsz : its.toArray.size + its2.toArray.size ≤ sizeLine := by rw [List.size_toArray, List.size_toArray]; omega
  have hlong : ¬ (!its.toArray.isEmpty && Builtin.List.listTooLong (its.toArray.size + its2.toArray.size)) = true := by
    rw [notLongL hsz, Bool.and_false]
    exact Bool.false_ne_true
  refine call_meets F.slot_list_extend ⟨_, e, rfl⟩ F.entry_list_extend (F.args_list_extend_2 _ _)
    (AutoSeq1.list_extend_list_list_0 l its.toArray n b its2.toArray n2 hlong (by rw [List.size_toArray]; omega) (by omega)) ⟨e, e2, ?_⟩
  refine ⟨.non, _, I.lset (its' := its ++ its2) hH e (by simp) (r.append r2) ?_, rfl, q⟩
  rw [List.length_append]
  omega

def rPop : V → List V → Hp → VK → Prop := fun x vs H Q => ∃ l xs y, x = .ref l ∧ vs = [] ∧ H l = some (.lst xs) ∧ xs[xs.length - 1]? = some y ∧ Q y (upd H l (.lst xs.dropLast))
def rPopAt : V → List V → Hp → VK → Prop := fun x vs H Q => ∃ l xs i k y, x = .ref l ∧ vs = [.int i] ∧ H l = some (.lst xs) ∧ -(2 ^ 63) ≤ i ∧ i < 2 ^ 63 ∧ seqIndex? i xs.length = some k ∧ xs[k]? = some y ∧ Q y (upd H l (.lst (xs.eraseIdx k)))
theorem mt_popAt : MtM X "list.pop" rPopAt := by
  intro pins s σ H x vs v us Q I rx rv h
  obtain ⟨l, xs, i, k, y, rfl, rfl, hH, h1, h2, hk, hy, q⟩ := h
  cases rx
  obtain ⟨u, rfl, ru⟩ := rv.one
  obtain ⟨t, rfl⟩ := ru
  obtain ⟨z, its, n, r, hl, e⟩ := I.lstM hH
  obtain ⟨w, hw, rw'⟩ := r.get hy
  refine call_meets F.slot_list_pop ⟨_, e, rfl⟩ F.entry_list_pop (F.args_list_pop_2 _ _)
    (MeetsSeq.list_pop_at l its.toArray n i t k w (fitsIndex_both h1 h2) (by rw [List.size_toArray, ← hl]; exact hk) (by rw [← Array.getElem?_toList]; exact hw) (by rw [List.size_toArray]; omega)) ⟨e, ?_⟩
  refine ⟨y, _, I.lset (its' := its.eraseIdx k) hH e ?_ (r.eraseIdx k) ?_, rw', q⟩
  · show its.toArray.eraseIdxIfInBounds k = (its.eraseIdx k).toArray
    rw [List.eraseIdxIfInBounds_toArray]
  · have := len_erase xs k
    omega

def rReverse : V → List V → Hp → VK → Prop := fun x vs H Q => ∃ l xs, x = .ref l ∧ vs = [] ∧ H l = some (.lst xs) ∧ Q .non (upd H l (.lst xs.reverse))
def rClear : V → List V → Hp → VK → Prop := fun x vs H Q => ∃ l xs, x = .ref l ∧ vs = [] ∧ H l = some (.lst xs) ∧ Q .non (upd H l (.lst []))
/-! ### list + list, list += list, list * int -/
def rCat : R2 := fun x y H Q => ∃ l b xs zs, x = .ref l ∧ y = .ref b ∧ H l = some (.lst xs) ∧ H b = some (.lst zs) ∧ xs.length + zs.length ≤ sizeLine ∧ ∀ p, H p = none → Q (.ref p) (upd H p (.lst (xs ++ zs)))
theorem op_cat : OpR X (binaryOp .Add) rCat := by
  intro pins s σ H x y v u Q I rx ry h
  obtain ⟨l, b, xs, zs, rfl, rfl, hH, hB, hz, q⟩ := h
  cases rx
  cases ry
  obtain ⟨z, its, n, r, hl, e⟩ := I.lstM hH
  obtain ⟨z2, its2, n2, r2, hl2, e2⟩ := I.lstM hB
  refine PySem.P.add_list e e2 ?_ (by rw [List.size_toArray, List.size_toArray]; omega)
  have ea : its.toArray ++ its2.toArray = (its ++ its2).toArray := by simp
  rw [ea]
  exact ⟨.ref _, _, I.lnew (t' := s.toks) (r.append r2) (by rw [List.length_append]; omega), rfl, q _ I.fresh⟩
/-- a list times an int (a negative one is nothing) -/
def rRep : R2 := fun x y H Q => ∃ l k xs, x = .ref l ∧ y = .int k ∧ H l = some (.lst xs) ∧ -(2 ^ 63) ≤ k ∧ k < 2 ^ 63 ∧ xs.length * k.toNat ≤ sizeLine ∧
  ∀ p, H p = none → Q (.ref p) (upd H p (.lst (List.replicate k.toNat xs).flatten))
theorem len_rep {α : Type} (xs : List α) (k : Nat) : (List.replicate k xs).flatten.length = k * xs.length := by
  induction k with
  | zero => simp
  | succ k ih => rw [List.replicate_succ, List.flatten_cons, List.length_append, ih, Nat.succ_mul, Nat.add_comm]
theorem op_rep : OpR X (binaryOp .Mult) rRep := by
  intro pins s σ H x y v u Q I rx ry h
  obtain ⟨l, k, xs, rfl, rfl, hH, h1, h2, hz, q⟩ := h
  cases rx
  obtain ⟨t, rfl⟩ := ry
  obtain ⟨z, its, n, r, hl, e⟩ := I.lstM hH
  have hlen : its.toArray.size * k.toNat ≤ sizeLine := by rw [List.size_toArray, ← hl]; exact hz
  have hcap : ¬ its.toArray.size * k.toNat > (2 ^ 63 - 1) / 8 := by
    have : (sizeLine : Nat) ≤ (2 ^ 63 - 1) / 8 := by decide
    omega
  have hfit : ¬ (!Builtin.List.listFitsIndex k) = true := by
    rw [fitsIndex_both h1 h2]
    exact Bool.false_ne_true
  have hlong : ¬ Builtin.List.listTooLong (its.toArray.size * k.toNat) = true := by
    rw [notLongL hlen]
    exact Bool.false_ne_true
  have hnew : List.foldl (fun x1 x2 => x1 ++ x2) #[] (List.replicate (if its.toArray.isEmpty = true then 0 else k.toNat) its.toArray) = (List.replicate k.toNat its).flatten.toArray := by
    have f0 : ∀ m : Nat, List.foldl (fun x1 x2 => x1 ++ x2) #[] (List.replicate m its.toArray) = (List.replicate m its).flatten.toArray := fun m => by
      have := foldl_rep its m []
      rw [List.nil_append] at this
      exact this
    rw [f0]
    cases its with
    | nil => simp
    | cons a r' => rw [if_neg (by simp)]
  refine wpAny_binaryOp_repeat_ref (T := "list") (U := "int") (by decide) ⟨_, e, rfl⟩ (fun s' => typeIs_int s' k t) noFill_list_mul F.fills_int_mul F.slot_int_rmul repeat_list F.slot_int_index.lookup
    (call_meets F.slot_int_rmul (typeIs_int s k t) F.entry_int_rmul (F.args_int_rmul_2 _ _) (int___rmul___int_list k t l its.toArray n)
      ⟨e, rfl, ⟨_, e, rfl⟩, call_meets F.slot_list_mul ⟨_, e, rfl⟩ F.entry_list_mul (F.args_list_mul_2 _ _) (AutoListH.list___mul___list_int_3 l its.toArray n k t hfit hcap hlong) ⟨e, ?_⟩⟩)
  rw [hnew]
  exact ⟨.ref _, _, I.lnew (t' := s.toks) (r.rep k.toNat) (by rw [len_rep, Nat.mul_comm]; exact hz), rfl, q _ I.fresh⟩

/-! ### del xs[i] -/
end

/-! ### xs[a:b] = ys -/
section
variable {prog : Program} {w : World} {A : Around} {E : Value → Shared → Prop} {s : Shared}
end

section
variable {X : Cx}
end
end L2

namespace Att
open PySem PySem.W PySem.Calls PyProof.Rows

/-! ### the script -/
theorem ints_of_wellAll {P : Params} {h : Heap} : ∀ (ns : List Int) (vs : List Value), WellAll P h vs (ns.map WData.int) → IntsAre vs ns := by
  intro ns
  induction ns with
  | nil =>
    intro vs w
    rw [List.map_nil] at w
    cases w
    exact .nil
  | cons n ns ih =>
    intro vs w
    rw [List.map_cons] at w
    cases w with
    | cons a b =>
      cases a
      exact .cons _ _ (ih _ b)

theorem script_of {l : OpenLaw} {n : Nat} (hn : l.most = some n) {P : Params} {h : Heap} {args : List WData} {vals : List Value}
    (hpre : l.row.toRowW.claim.pre args = true) (hwl : WellAll P h vals args) :
    ∃ a vs ns, vals = [Value.ref a] ∧ args = [WData.list (ns.map WData.int)] ∧ h.get? a = some { cls := .type "list", data := .seq vs.toArray } ∧ IntsAre vs ns ∧ ns.length ≤ n := by
  have hsh : WShape.hasAll [] args [.list .int] = true := (pre_splitW hpre).1
  have hc : l.pre.holds [] { args := args } = true := (pre_splitW hpre).2
  obtain ⟨d, r, rfl, h1, h2⟩ := hasAllW_cons hsh
  obtain rfl := hasAllW_nil h2
  obtain ⟨xs, rfl, h3⟩ := hasW_list h1
  obtain ⟨ns, rfl⟩ := items_int h3
  have hlen : ns.length ≤ n := by
    unfold OpenLaw.pre at hc
    have h4 : (WTm.not (.lt (.lit (.int (n : Int))) (.len (.arg 0)))).holds [] { args := [.list (ns.map .int)] } = true := by
      have h4 := (holds_andW hc).1
      rw [hn] at h4
      exact h4
    have h5 := condW_of h4 (w_not (w_lt w_lit (w_len_list (w_arg rfl))))
    rw [List.length_map] at h5
    refine Nat.le_of_not_lt fun q => ?_
    have q' : (n : Int) < ((ns.length : Nat) : Int) := by omega
    first
      | (rw [decide_eq_true q'] at h5; exact absurd h5 (by decide))
      | (simp at h5; omega)
  cases hwl with
  | cons w1 w2 =>
    cases w2
    cases w1 with
    | list ho hall => exact ⟨_, _, ns, rfl, rfl, ho, ints_of_wellAll ns _ hall, hlen⟩

theorem post_true (l : OpenLaw) (args : List WData) : l.row.toRowW.claim.post args (.bool true) args = true :=
  postW_of (r := l.row.toRowW) (X := (true == true))
    (show WShape.has [] (.bool true) .bool = true by first | rfl | decide | simp [WShape.has, WShape.arms, WShape.armsAll])
    (show (WTm.eq .res (.lit (.bool true))).value [] { args := args, res := some (.bool true), after := args } = some (.bool (true == true)) from w_eq_bool (w_res rfl) w_lit) rfl

/-! ### the attachment: holds_open's last premise (the goal 'hc' behind k_head) from a wpAny of the law's body -/
/-- the same from a codeAny of the CALL (for a layer whose function contracts speak of calls) -/
theorem attach_call {l : OpenLaw} {n : Nat} {q : Program} {loose : List Str} {XP : (Str → Option Value) → Heap → Prop} {YP : World → Heap → Prop} {d : DefRec}
    (hn : l.most = some n) (hdf : d.params.defaults = [])
    (call : ∀ (w : World) (s₀ s₁ : Shared) (mg mb : Str → Option Value) (fa : Addr) (o : Obj) (pm cd doc : Value) (a : Addr) (vs : List Value) (ns : List Int),
      Ground q loose [] XP w s₀ mg mb s₁.heap → YP w s₁.heap →
      s₁.heap.get? fa = some o → o.data = .func (docDef d.name d.params d.body d.scope pm cd doc) → s₁.heap.CodeRec cd d.name → mg d.name = some (.ref fa) →
      s₁.heap.get? a = some { cls := .type "list", data := .seq vs.toArray } → IntsAre vs ns → ns.length ≤ n → s₁.gens = #[] →
      codeAny (model l.prog w) callerA (.call (.ref fa) ⟨[.ref a], []⟩) (fun r s' => r = .ok (.ret (.bool true)) ∧ OldK s₁.heap s'.heap ∧ s'.os = s₁.os ∧ AllBare s'.gens) s₁) :
    WalkO q loose XP YP l.row.toRowW d [] (fun f vs => PySem.call f vs) := by
  intro w s₀ s₁ mg mb G Y fa o pm cd doc dV kV ho hd hcd hD hmg hg args vals as hpre hlay hrd hwl hlo
  obtain rfl : dV = .none := Dflts.none hD hdf
  obtain rfl : kV = .none := Dflts.noKw hD
  obtain ⟨a, vs, ns, rfl, rfl, hobj, hints, hlen⟩ := script_of hn hpre hwl
  refine enter_call (codeAny_mono (call w s₀ s₁ mg mb fa o pm cd doc a vs ns G Y ho (fd_plain hd) hcd hmg hobj hints hlen hg) fun r s' hq => ?_)
  obtain ⟨rfl, h2, h3, h4⟩ := hq
  exact ⟨.inl ⟨.bool true, .bool true, [], rfl, fun _ => rfl, .bool true, post_true l _, fun _ => ⟨List.Pairwise.nil, fun _ hm => (nomatch hm)⟩⟩, h2, h3, h4⟩

/-! ### rules over ANY heap (no ledger) from facts about the written part K: the library's own take a ledger (News) for what they write -/
section
variable {prog : Program} {w : World} {A : Around} {E : Value → Shared → Prop} {s : Shared} {K : Frag}

/-! the whole heap as the ledger: makes every rule that writes through a ledger a rule over any heap -/
def noObjs (h : Heap) : Heap := { h with objs := #[] }
def ledger (h : Heap) (L d : Addr) : List (Addr × Obj) := (List.range h.objs.size).filterMap fun a => if a = L ∨ a = d then none else (h.get? a).map fun o => (a, o)
end
end Att

namespace L2
open PySem PySem.Spec PyProof.Rows

theorem vals_ints : ∀ {vs : List Value} {ns : List Int}, IntsAre vs ns → Vals (ns.map V.int) vs
  | _, _, .nil => .nil
  | _, _, .cons n t h => .cons ⟨t, rfl⟩ (vals_ints h)

/-- nothing is tracked but the script, known to the object (or it is an object of the module) -/
def Only (H : Hp) : Prop := ∀ b, H b = none ∨ ∃ o xs, H b = some (.frz o (.lst xs))

end L2

namespace L2
open PySem PySem.Spec PyProof.Rows

abbrev KOf {K : PySem.W.Frag} {h : Heap} (_ : K.In h) : PySem.W.Frag := K

end L2

/- THE LAST THEOREM (shape; LID, My.* are yours):
   My.Adr: a structure of the addresses that your layer names (classes, functions); My.Txt K t: a structure (Prop) of the equations over K;
   My.txt_mk : {K} {implicit addresses ..} (e1 : nsIn K mainGlobals "law" = some (some (.ref f))) (e2 : K.lookup f = some ⟨oc, od, .func (fnOf "law" "law" params body scope dV kV doc pm an cdv ct), sl⟩) (e3 : codeIn K cdv "law" = true) .. : ∃ t, My.Txt K t

set_option maxRecDepth 100000 in
set_option maxHeartbeats 0 in
theorem PySem.Challenge.cw_LID_holds : PySem.Challenge.rw_LID.Holds := by
  w_on; o_law; k_head; (case hw => w_witness2)
  k_fill
  refine L2.walk_of (l := PySem.Challenge.rw_LID) (n := 63) (k := 40) (x := "script") (CX := fun w => ..) (sp := fun _ => My.sp_law) rfl (by decide) rfl ⟨rfl, by decide, by decide⟩ (fun w h Y => PySem.W.kIn_of Y) ?F ?S ?C
  case F =>
    intro w mg fa h KX G hmg
    have T : ∃ t, My.Txt (L2.KOf KX) t := by
      dsimp only [L2.KOf]                          -- K must stand as «<heap const> w.params» for k_is
      refine' My.txt_mk ?e1 ?e2 ?e3 ..
      (case e1 => PySem.W.k_is)                    -- in the order: a name -> its address -> its object -> its parts
      (case e2 => PySem.W.k_is)
      ..
    obtain ⟨t, T⟩ := T
    have e0 := hmg.symm.trans (PySem.W.mg_of KX G T.law)
    cases e0                                       -- fa is the law's own address
    exact ⟨_, fun s u => .of_eq rfl, fun base kb nb => My.law_fn T kb nb⟩     -- if «.of_eq rfl» comes too early: refine' ⟨_, ?b, fun base kb nb => My.law_fn T kb nb⟩; exact fun s u => .of_eq rfl
  case S => exact fun w H a ns hl hO hS => ..
  case C => exact ..
(the tactic k_is has no namespace: write k_is) -/

/-! SHORT WORDS over the layer: a def of the text, its body, what a loop and a test want. -/
namespace L2
open PySem PySem.Spec PyProof.Rows

/-! ### the text by places -/
/-- the j-th statement of a class's body -/
def inClass (s : Stmt) (j : Nat) : Stmt := match s with
  | .ClassDef _ _ _ body _ _ _ _ _ _ _ => body.getD j (.Pass ⟨0, 0, 0, 0⟩)
  | _ => .Pass ⟨0, 0, 0, 0⟩
def defArgs (s : Stmt) : Arguments := match s with
  | .FunctionDef _ a _ _ _ _ _ _ _ _ => a
  | _ => { posonlyargs := [], args := [], vararg := none, kwonlyargs := [], kw_defaults := [], kwarg := none, defaults := [] }
def defBody (s : Stmt) : List Stmt := match s with
  | .FunctionDef _ _ b _ _ _ _ _ _ _ => b
  | _ => []
def defScope (s : Stmt) : Scope := match s with
  | .FunctionDef _ _ _ _ _ _ sc _ _ _ => sc
  | _ => { kind := .function, names := [], isGenerator := false, isCoroutine := false }

/-! ### no exception leaves a def -/
abbrev CX0 : CXT := fun _ _ _ _ _ _ => False
abbrev E0 : XK := fun _ _ _ => False
theorem pass0 {X : Cx} : Passes CX0 X E0 := fun _ _ _ _ _ _ _ h => h.elim

/-! ### a def (or method) of the text as it stands behind the top -/
structure Fun (K : PySem.W.Frag) (x qual : Str) (st : Stmt) (f : Addr) (fd : FuncData) : Prop where
  ex : ∃ (oc : Value) (od : Option Addr) (kV doc pm : Value) (an : Option Addr) (cdv ct : Value) (osl : Array (Option Value)),
    fd = PySem.W.fnOf x qual (defArgs st) (defBody st) (defScope st) .none kV doc pm an cdv ct ∧ K.lookup f = some ⟨oc, od, .func fd, osl⟩ ∧ PySem.W.codeIn K cdv qual = true
  kp : PySem.W.keepIn K (.ref f) = true
section
variable {P : Program} {w : World} {K : PySem.W.Frag} {mg : Str → Option Value} {base : Heap}
/-- THE RULE for a def: its body as a term of rules, and the reading of that term -/
theorem Fun.ok {x qual : Str} {st : Stmt} {f : Addr} {fd : FuncData} {N ps : List Str} {k : Nat} {sp : Sp} (F : Fun K x qual st f fd) (S : FnScope N ps (defScope st)) (len : ∀ vs H Q E, sp vs H Q E → vs.length = ps.length)
    (hbody : ∀ (cdv : Value) (A : Around) (outer : List Env) (s : Shared) (H : Hp) (vs : List V) (Q : VK) (E : XK), Room k (A.deeper (envOfC qual (defScope st) s.heap.objs.size f cdv)) → sp vs H Q E →
      ∃ t, PSs (cxOf CX0 P w K mg base N qual (defScope st) f cdv A outer s H E).nox (defBody st) t ∧ t { nx := fun _ H' => Q .non H', rt := Q } (start N vs) H) : FnOk P w K mg base CX0 (k + 1) f fd ps sp := by
  obtain ⟨oc, od, kV, doc, pm, an, cdv, ct, osl, rfl, lk, hcd⟩ := F.ex
  refine fn_of lk hcd S len fun A outer s H vs Q E hr hsp => ?_
  obtain ⟨t, h, q⟩ := hbody cdv A outer s H vs Q E hr hsp
  exact ⟨t, h.nox, q⟩
/-- how its arguments bind (no defaults): h is «fun _ _ _ _ _ _ us hl => match us, hl with | [_, _], _ => rfl», one _ a parameter -/
theorem Fun.binds {x qual : Str} {st : Stmt} {f : Addr} {fd : FuncData} {ps : List Str} (F : Fun K x qual st f fd)
    (h : ∀ (kV doc pm : Value) (an : Option Addr) (cdv ct : Value) (us : List Value), us.length = ps.length → bindArgs (PySem.W.fnOf x qual (defArgs st) (defBody st) (defScope st) .none kV doc pm an cdv ct) ⟨us, []⟩ = pure (ps.zip us)) : Binds K fd ps [] := by
  obtain ⟨oc, od, kV, doc, pm, an, cdv, ct, osl, rfl, lk, hcd⟩ := F.ex
  exact .all (h kV doc pm an cdv ct)
theorem fun_mk {x qual : Str} {st : Stmt} {f : Addr} {oc : Value} {od an : Option Addr} {osl : Array (Option Value)} {kV doc pm cdv ct : Value} (l : K.lookup f = some ⟨oc, od, .func (PySem.W.fnOf x qual (defArgs st) (defBody st) (defScope st) .none kV doc pm an cdv ct), osl⟩)
    (c : PySem.W.codeIn K cdv qual = true) (k : PySem.W.keepIn K (.ref f) = true) : Fun K x qual st f (PySem.W.fnOf x qual (defArgs st) (defBody st) (defScope st) .none kV doc pm an cdv ct) := ⟨⟨oc, od, kV, doc, pm, an, cdv, ct, osl, rfl, l, c⟩, k⟩
end
theorem small1000 {n : Nat} (h : n ≤ 1000) : n < sizeLine := Nat.lt_of_le_of_lt h (by decide)

/-! ### expressions in short: the name that stands in the i-th slot -/
section
variable {X : Cx}
theorem pv (i : Nat) {x : Str} {pos : Pos} (hN : X.N[i]? = some x := by rfl) (hv : Vis X.env.scope x := by first | exact Or.inl rfl | exact Or.inr (Or.inl rfl) | exact Or.inr (Or.inr rfl)) (hd : (x == ("__debug__" : Str)) = false := by decide)
    (hcd : (x == ("__classdict__" : Str)) = false := by decide) : PE X (.Name x pos) (tVar i) := pe_var hN hv hd hcd
end

/-! ### tests -/
theorem iteF {A B : Prop} (h : B) : if false = true then A else B := by
  rw [if_neg Bool.false_ne_true]
  exact h
theorem iteT {A B : Prop} (h : A) : if true = true then A else B := by
  rw [if_pos rfl]
  exact h
/-! ### heaps -/
/-- all that was tracked is as it was -/
def Same (H H' : Hp) : Prop := ∀ b o, H b = some o → H' b = some o
theorem Same.refl (H : Hp) : Same H H := fun _ _ h => h
theorem Same.trans {H H1 H2 : Hp} (a : Same H H1) (b : Same H1 H2) : Same H H2 := fun c o h => b c o (a c o h)
theorem Same.free {H H' : Hp} (e : Same H H') {l : Addr} (h : H' l = Option.none) : H l = Option.none := by
  cases q : H l with
  | none => rfl
  | some o =>
    rw [e l o q] at h
    cases h
end L2

/-! A list comprehension of one clause over the hand layer: its block runs in a context of its own. -/
namespace L2
open PySem PySem.Spec PyProof.Rows

/-- the cells that a block takes from around it -/
def clOf (env : Env) : List (Str × NameKind) → List (Str × Addr) → List (Str × Addr)
  | [], cs => cs
  | (n, k) :: r, cs => clOf env r (if k == .free then (n, (env.cells.lookup n).getD 0) :: cs else cs)
def clStep (env : Env) (x : Str × NameKind) (s : List (Str × Addr)) : Sem (ForInStep (List (Str × Addr))) := if (x.2 == NameKind.free) = true then cellOf env x.1 >>= fun c => pure (ForInStep.yield ((x.1, c) :: s)) else pure (ForInStep.yield s)
theorem clStep_run {env : Env} : ∀ {ns : List (Str × NameKind)} (cs : List (Str × Addr)), (∀ y ∈ ns, y.2 = .free → ∃ c, env.cells.lookup y.1 = some c) → (forIn ns cs (clStep env) : Sem (List (Str × Addr))) = pure (clOf env ns cs)
  | [], cs, _ => rfl
  | (n, k) :: r, cs, h => by
    rw [List.forIn_cons]
    have hr : ∀ y ∈ r, y.2 = .free → ∃ c, env.cells.lookup y.1 = some c := fun z hz => h z (List.mem_cons_of_mem _ hz)
    cases hk : (k == NameKind.free) with
    | false =>
      have e1 : clStep env (n, k) cs = pure (ForInStep.yield cs) := by
        unfold clStep
        exact if_neg (by rw [show (n, k).2 = k from rfl, hk]; decide)
      rw [e1, pure_bind]
      show forIn r cs (clStep env) = _
      rw [clStep_run cs hr]
      show pure (clOf env r cs) = pure (clOf env r (if (k == NameKind.free) = true then (n, (List.lookup n env.cells).getD 0) :: cs else cs))
      rw [hk]
      rfl
    | true =>
      have hk' : k = .free := by simpa using hk
      obtain ⟨c, hc⟩ := h (n, k) List.mem_cons_self hk'
      have hc' : env.cells.lookup n = some c := hc
      have q : cellOf env n = pure c := by unfold cellOf; rw [hc']
      have e1 : clStep env (n, k) cs = pure (ForInStep.yield ((n, c) :: cs)) := by
        unfold clStep
        rw [if_pos (by rw [show (n, k).2 = k from rfl, hk]), show (n, k).1 = n from rfl, q, pure_bind]
      rw [e1, pure_bind]
      show forIn r ((n, c) :: cs) (clStep env) = _
      rw [clStep_run _ hr]
      show pure (clOf env r ((n, c) :: cs)) = pure (clOf env r (if (k == NameKind.free) = true then (n, (List.lookup n env.cells).getD 0) :: cs else cs))
      rw [hk, hc']
      rfl
theorem closure_eq {scope : Scope} {env : Env} (h : ∀ y ∈ scope.names, y.2 = .free → ∃ c, env.cells.lookup y.1 = some c) : closureFor scope env = pure (clOf env scope.names []) := by
  show (forIn scope.names ([] : List (Str × Addr)) (clStep env) >>= fun s => (pure s : Sem (List (Str × Addr)))) = _
  rw [clStep_run [] h, pure_bind]
theorem clOf_sound {env : Env} {n : Str} {c : Addr} : ∀ {ns : List (Str × NameKind)} {cs : List (Str × Addr)}, (∀ y ∈ ns, y.2 = .free → ∃ c, env.cells.lookup y.1 = some c) → (∀ p ∈ cs, env.cells.lookup p.1 = some p.2) → (clOf env ns cs).lookup n = some c → env.cells.lookup n = some c
  | [], cs, _, hc, h => hc _ (PySem.mem_of_lookup h)
  | (m, k) :: r, cs, hn, hc, h => by
    unfold clOf at h
    refine clOf_sound (fun y hy => hn y (List.mem_cons_of_mem _ hy)) ?_ h
    intro p hp
    split at hp
    · rename_i hk
      have hk' : k = .free := by simpa using hk
      obtain ⟨c', hc'⟩ := hn (m, k) List.mem_cons_self hk'
      have hc2 : env.cells.lookup m = some c' := hc'
      rw [hc2] at hp
      rcases List.mem_cons.mp hp with rfl | hp
      · exact hc2
      · exact hc p hp
    · exact hc p hp
theorem lookup_mono_isSome {n : Str} : ∀ {cs : List (Str × Addr)}, (∃ c, (n, c) ∈ cs) → ∃ c, cs.lookup n = some c
  | [], ⟨_, h⟩ => absurd h (by simp)
  | (m, d) :: r, ⟨c, h⟩ => by
    rw [List.lookup_cons]
    by_cases e : n = m
    · subst e; exact ⟨d, by simp⟩
    · have : (n == m) = false := beq_eq_false_iff_ne.mpr e
      rw [this]
      rcases List.mem_cons.mp h with z | z
      · cases z; exact absurd rfl e
      · exact lookup_mono_isSome ⟨c, z⟩
theorem clOf_keeps {env : Env} {p : Str × Addr} : ∀ {ns : List (Str × NameKind)} {cs : List (Str × Addr)}, p ∈ cs → p ∈ clOf env ns cs
  | [], _, h => h
  | (m, k) :: r, cs, h => by
    unfold clOf
    refine clOf_keeps ?_
    split
    · exact List.mem_cons_of_mem _ h
    · exact h
theorem clOf_has {env : Env} {n : Str} : ∀ {ns : List (Str × NameKind)} {cs : List (Str × Addr)}, (n, NameKind.free) ∈ ns → ∃ c, (n, c) ∈ clOf env ns cs
  | [], _, h => absurd h (by simp)
  | (m, k) :: r, cs, h => by
    unfold clOf
    rcases List.mem_cons.mp h with z | z
    · cases z
      exact ⟨(env.cells.lookup n).getD 0, clOf_keeps (by simp)⟩
    · exact clOf_has z

/-- the context of a block: vs its own names, fs the captured ones -/
def cxBlk (X : Cx) (scope : Scope) (N : List Str) (C : Addr) (s : Shared) (H : Hp) (ex : List Addr) : Cx :=
  { X with N := N, s₀ := s, H₀ := H, env := compEnvC scope (clOf X.env scope.names []) C X.env, outer := X.stack, ex := ex, fn := fun _ => false, pn := [], xe := fun _ _ => False }

/-- what the text of a block must have -/
structure BlkOk (X : Cx) (scope : Scope) (vs fs : List Str) (js : List Nat) : Prop where
  kind : scope.kind = .function
  cell : ∀ y ∈ scope.names, y.2 ≠ .cell
  names : ∀ y ∈ scope.names, y.2 = .local → scope.names.lookup y.1 = some .local
  free : ∀ y ∈ scope.names, y.2 = .free → X.env.kindOf y.1 = some .cell ∨ X.env.kindOf y.1 = some .free
  own : ∀ y ∈ vs, scope.names.lookup y = some .local
  cap : ∀ y ∈ fs, scope.names.lookup y = some .free
  ix : js.map (fun j => X.N[j]?) = fs.map some

/-- the values at the block's entry -/
def blkSt (vs : List Str) (js : List Nat) (σ : St) : St := vs.map (fun _ => none) ++ js.map (fun j => (σ[j]?).join)

theorem lookup_relabel_free {env : Env} {names : List (Str × NameKind)} {x : Str} (h : names.lookup x = some .free) :
    (names.map fun (n, k) => if (k == NameKind.free && env.scope.kind == .function && env.kindOf n == some .cell) then (n, NameKind.cell) else (n, k)).lookup x = some .cell ∨
    (names.map fun (n, k) => if (k == NameKind.free && env.scope.kind == .function && env.kindOf n == some .cell) then (n, NameKind.cell) else (n, k)).lookup x = some .free := by
  induction names with
  | nil => cases h
  | cons y r ih =>
    obtain ⟨n, k⟩ := y
    rw [List.map_cons]
    show List.lookup x ((if (k == NameKind.free && env.scope.kind == .function && env.kindOf n == some .cell) = true then (n, NameKind.cell) else (n, k)) :: _) = _ ∨ List.lookup x ((if (k == NameKind.free && env.scope.kind == .function && env.kindOf n == some .cell) = true then (n, NameKind.cell) else (n, k)) :: _) = _
    rw [List.lookup_cons] at h
    cases e : x == n with
    | true =>
      rw [e] at h
      have h' : k = .free := by simpa using h
      subst h'
      split
      · left; rw [List.lookup_cons, e]
      · right; rw [List.lookup_cons, e]
    | false =>
      rw [e] at h
      have h' := ih h
      split
      · rw [List.lookup_cons, e]; exact h'
      · rw [List.lookup_cons, e]; exact h'
theorem relabel_back {env : Env} {names : List (Str × NameKind)} {x : Str} {kk : NameKind}
    (h : (names.map fun (n, k) => if (k == NameKind.free && env.scope.kind == .function && env.kindOf n == some .cell) then (n, NameKind.cell) else (n, k)).lookup x = some kk) :
    (kk = .cell ∧ (x, NameKind.free) ∈ names) ∨ (x, kk) ∈ names := by
  induction names with
  | nil => cases h
  | cons y r ih =>
    obtain ⟨n, k⟩ := y
    rw [List.map_cons] at h
    have h2 : List.lookup x ((if (k == NameKind.free && env.scope.kind == .function && env.kindOf n == some .cell) = true then (n, NameKind.cell) else (n, k)) :: (r.map fun (n, k) => if (k == NameKind.free && env.scope.kind == .function && env.kindOf n == some .cell) then (n, NameKind.cell) else (n, k))) = some kk := h
    cases e : x == n with
    | true =>
      have e' : x = n := by simpa using e
      subst e'
      split at h2
      · rename_i hc
        rw [List.lookup_cons, e] at h2
        have h3 : kk = .cell := by simpa using h2.symm
        have hk : k = .free := by
          have := (Bool.and_eq_true _ _ ▸ hc).1
          have := (Bool.and_eq_true _ _ ▸ this).1
          simpa using this
        subst hk
        exact .inl ⟨h3, List.mem_cons_self⟩
      · rw [List.lookup_cons, e] at h2
        have h3 : kk = k := by simpa using h2.symm
        subst h3
        exact .inr List.mem_cons_self
    | false =>
      have h3 : (r.map fun (n, k) => if (k == NameKind.free && env.scope.kind == .function && env.kindOf n == some .cell) then (n, NameKind.cell) else (n, k)).lookup x = some kk := by
        split at h2
        · rw [List.lookup_cons, e] at h2; exact h2
        · rw [List.lookup_cons, e] at h2; exact h2
      rcases ih h3 with ⟨a, b⟩ | b
      · exact .inl ⟨a, List.mem_cons_of_mem _ b⟩
      · exact .inr (List.mem_cons_of_mem _ b)

section
variable {prog : Program} {w : World} {A : Around} {R : Result → Shared → Prop} {s : Shared}
/-- one clause, any target, tests -/
theorem codeAny_compLoop_gen {elt target iter : Expr} {ifs : List Expr} {scope : Scope} {pos : Pos} {it acc : Value} {env : Env} (I : Nat → Shared → Prop)
    (turn : ∀ n s, I n s → wpAny (model prog w) A (pyNext it) (fun r s₁ => match r with
      | none => R (.ok .next) s₁
      | some v => wpAny (model prog w) A (letOwnedTupleGo target it v) (fun _ s₁' => wpAny (model prog w) A (assign target env v) (fun _ s₂ =>
          wpAny (model prog w) A (forIn ifs true fun c r => if r = true then do let ok ← isTrue c env (eval c env); pure (ForInStep.yield ok) else pure (ForInStep.yield r)) (fun ok s₃ =>
            if ok = true then wpAny (model prog w) A (eval elt env) (fun x s₄ =>
              wpAny (model prog w) A (call (.builtin "list.append") [acc, x]) (fun _ s₅ => ∃ m, m < n ∧ I m s₅) (fun _ _ => False) s₄) (fun _ _ => False) s₃
            else ∃ m, m < n ∧ I m s₃) (fun _ _ => False) s₂) (fun _ _ => False) s₁') (fun _ _ => False) s₁) (fun _ _ => False) s)
    (n : Nat) (h : I n s) :
    codeAny (model prog w) A (.compLoop (.ListComp elt [⟨target, iter, ifs, 0⟩] scope pos) 0 it acc env) R s := by
  refine codeAny_loop rfl I (fun n s hI => ?_) n h
  show wpAny _ A ((compTurn (.ListComp elt [⟨target, iter, ifs, 0⟩] scope pos) 0 it acc env).onRaise (fun x => do noteFrame x env; theTreesLotGoes x)) _ _ s
  refine wpAny_noted ?_
  rw [compTurn_list]
  refine wpAny_bind (wpAny_standAt (wpAny_bind (wpAny_mono (turn n s hI) (fun r s₁ h₁ => ?_) fun _ _ h' => h'.elim)))
  cases r with
  | none => exact wpAny_pure h₁
  | some v =>
    refine wpAny_bind (wpAny_mono h₁ (fun _ s₁' h₁' => ?_) fun _ _ h' => h'.elim)
    refine wpAny_bind (wpAny_mono h₁' (fun _ s₂ h₂ => wpAny_bind (wpAny_mono h₂ (fun ok s₃ h₃ => ?_) fun _ _ h' => h'.elim)) fun _ _ h' => h'.elim)
    cases ok with
    | false => exact wpAny_pure ⟨rfl, h₃⟩
    | true =>
      exact wpAny_bind (wpAny_bind (wpAny_mono h₃ (fun x s₄ h₄ => wpAny_bind (wpAny_mono h₄ (fun _ s₅ h₅ => wpAny_pure (wpAny_pure ⟨rfl, h₅⟩)) fun _ _ h' => h'.elim)) fun _ _ h' => h'.elim))
end

/-- the tests of a clause -/
def PIfs (X : Cx) (ifs : List Expr) (t : TT) : Prop :=
  ∀ (pins : List (Addr × Obj)) (s : Shared) (σ : St) (H : Hp) (Q : Bool → Hp → Prop), Inv X pins σ H s → t σ H Q →
    wpAny (model X.prog X.w) X.A (forIn ifs true fun c r => if r = true then do let ok ← isTrue c X.env (eval c X.env); pure (ForInStep.yield ok) else pure (ForInStep.yield r)) (TP X pins σ Q) X.xe s
def tYes : TT := fun _ H Q => Q true H
theorem pif0 {X : Cx} : PIfs X [] tYes := fun _ _ _ H _ I h => wpAny_tests_nil ⟨H, I, h⟩
theorem pif1 {X : Cx} {c : Expr} {t : TT} (h : PT X c t) : PIfs X [c] t := fun pins s σ H Q I q => wpAny_tests_one (h pins s σ H Q I q)

/-- W by the turn, a measure, the names, the list so far, the heap; D the new list -/
def CompW (J : It) (vs : List Str) (js : List Nat) (σ : St) (g : TG) (tt : TT) (te : TE) (Q : VK) (D : Addr) (H1 : Hp) : Prop :=
  ∃ W : Nat → Nat → St → List V → Hp → Prop, (∃ m, W 0 m (blkSt vs js σ) [] (upd H1 D (.lst []))) ∧ ∀ i m σ' ys H', W i m σ' ys H' →
    (J.stop i H' ∧ Q (.ref D) H') ∨ (J.go i H' ∧ ∃ N : St → List V → Hp → Prop, (∀ σ2 zs H2, N σ2 zs H2 → ∃ m', m' < m ∧ W (i + 1) m' σ2 zs H2) ∧
      ∀ x H2, J.yld i H' x H2 → g x σ' H2 fun σ3 H3 => tt σ3 H3 fun b H4 => if b = true then te σ3 H4 fun y H5 => H5 D = some (.lst ys) ∧ ys.length < sizeLine ∧ N σ3 (ys ++ [y]) (upd H5 D (.lst (ys ++ [y]))) else N σ3 ys H4)
def tComp (vs : List Str) (js : List Nat) (wi : TI) (g : TG) (tt : TT) (te : TE) : TE := fun σ H Q => wi σ H fun J H1 => ∀ D, H1 D = none → CompW J vs js σ g tt te Q D H1

section
variable {X : Cx} {pins : List (Addr × Obj)} {σ : St} {H : Hp} {s : Shared} {scope : Scope} {vs fs : List Str} {js : List Nat}
theorem blk_start {fp : List Addr} {C D : Addr} {h₁ : Heap} {tk : Nat} {m : Str → Option Value} (I : Inv X pins σ H s) (B : BlkOk X scope vs fs js) (hf : ∀ b ∈ fp, FpOk X pins H b) (hfp : ∀ b ∈ fp, b < s.heap.objs.size)
    (hn : h₁.Ns C m) (hk : ∀ b o, s.heap.get? b = some o → h₁.get? b = some o) (hD : D = s.heap.objs.size) (hC : s.heap.objs.size < C)
    (hl : h₁.get? D = some { cls := .type "list", data := .seq ([] : List Value).toArray }) :
    Inv (cxBlk X scope (vs ++ fs) C s H fp) [] (blkSt vs js σ) (upd H D (.lst [])) { s with heap := h₁, toks := tk } := by
  have hasX : ∀ y ∈ scope.names, y.2 = .free → ∃ c, X.env.cells.lookup y.1 = some c := fun y hy hf => I.ok.has y.1 (B.free y hy hf)
  have snd : ∀ {y : Str} {c : Addr}, (clOf X.env scope.names []).lookup y = some c → X.env.cells.lookup y = some c := fun h => clOf_sound hasX (fun p hp => absurd hp (by simp)) h
  have clt : ∀ {y : Str} {c : Addr}, X.env.cells.lookup y = some c → c < s.heap.objs.size := fun {y c} h => by
    obtain ⟨v, o, ho, _⟩ := I.cell y c h
    exact Heap.lt_size ho
  have hfr : H D = none := by rw [hD]; exact I.hok.fresh (Nat.le_refl _)
  have hfC : H C = none := I.hok.fresh (Nat.le_of_lt hC)
  have nCD : C ≠ D := by rw [hD]; exact Nat.ne_of_gt hC
  refine ⟨⟨I.ok.mod, B.kind, I.ok.glob, I.ok.blt, Nat.le_of_lt hC, fun y z c h1 h2 => I.ok.inj y z c (snd h1) (snd h2), fun y hy => ?_, fun y c z _ => absurd (show false = true from z) Bool.false_ne_true, I.ok.hd, I.ok.frames, .inl rfl, fun b hb => ⟨?_, fun y c h => (hf b hb).2.2.2.2.1 y c (snd h)⟩, I.bs, Nat.le_trans I.ok.bsz I.sz, fun b o e hb => ?_, fun b hb z => ?_, I.stack, I.stkFree⟩,
    rfl, I.bare, Un.laid hk (Nat.le_of_eq hD.symm) hfr, ⟨m, hn, fun i y v h1 h2 h3 => ?_⟩, fun y c h => ?_, ?_, fun y c h => ?_, fun p hp => absurd (show p ∈ ([] : List (Addr × Obj)) from hp) (by simp), I.hok.laid hk (Nat.le_of_eq hD.symm) ⟨by simp, [], 0, .nil, hl⟩, ?_⟩
  · -- has
    have key : (y, NameKind.free) ∈ scope.names := by
      rcases hy with hy | hy
      · rcases relabel_back hy with ⟨_, z⟩ | z
        · exact z
        · exact absurd rfl (B.cell _ z)
      · rcases relabel_back hy with ⟨z, _⟩ | z
        · cases z
        · exact z
    exact lookup_mono_isSome (clOf_has key)
  · exact Nat.ne_of_lt (Nat.lt_trans (hfp b hb) hC)
  · rcases (hf b hb).2.2.2.1 with z | z
    · exact I.ok.noex b o e z
    · exact absurd (Nat.lt_of_lt_of_le (Heap.lt_size e) (Nat.le_trans I.ok.bsz z)) (Nat.lt_irrefl _)
  · rcases List.mem_cons.mp (I.stkSub b z) with e | e
    · exact (hf b hb).2.1 e
    · exact (hf b hb).2.2.1 e
  · -- loc
    have hlen : js.length = fs.length := by have := congrArg List.length B.ix; simpa using this
    have hi : ¬ i < vs.length := fun hi => by
      unfold blkSt at h2
      rw [List.getElem?_append_left (by simpa using hi), List.getElem?_map] at h2
      cases e : vs[i]? with
      | none => rw [e] at h2; cases h2
      | some a => rw [e] at h2; cases h2
    have hi' : vs.length ≤ i := Nat.le_of_not_lt hi
    have h1' : fs[i - vs.length]? = some y := by
      have := h1
      rw [show (cxBlk X scope (vs ++ fs) C s H fp).N = vs ++ fs from rfl, List.getElem?_append_right hi'] at this
      exact this
    have h2' : (js[i - vs.length]?).map (fun j => (σ[j]?).join) = some (some v) := by
      unfold blkSt at h2
      rw [List.getElem?_append_right (by simpa using hi'), List.length_map, List.getElem?_map] at h2
      exact h2
    cases ej : js[i - vs.length]? with
    | none => rw [ej] at h2'; cases h2'
    | some j =>
      rw [ej] at h2'
      have hσ : σ[j]? = some (some v) := by
        have z : (σ[j]?).join = some v := Option.some.inj h2'
        cases q : σ[j]? with
        | none => rw [q] at z; cases z
        | some o => rw [q] at z; have z' : o = some v := z; rw [z']
      have hNj : X.N[j]? = some y := by
        have q := congrArg (fun l => l[i - vs.length]?) B.ix
        simp only [List.getElem?_map, ej, h1', Option.map_some] at q
        exact Option.some.inj q
      have hcap := B.cap y (List.mem_of_getElem? h1')
      have hmem : (y, NameKind.free) ∈ scope.names := PySem.mem_of_lookup hcap
      have hkX := B.free _ hmem rfl
      have vis : Vis X.env.scope y := by
        rcases hkX with z | z
        · exact .inr (.inl z)
        · exact .inr (.inr z)
      obtain ⟨m0, hn0, hl0⟩ := I.loc
      obtain ⟨u, r, l⟩ := hl0 j y v hNj hσ vis
      refine ⟨u, r, .inr ⟨lookup_relabel_free hcap, ?_⟩⟩
      rcases l with ⟨z, _⟩ | ⟨_, c, hc, hcell⟩
      · rcases hkX with q | q <;> (rw [q] at z; cases z)
      · obtain ⟨c', hc'⟩ := lookup_mono_isSome (clOf_has (env := X.env) (cs := []) hmem)
        have e := snd hc'
        rw [hc] at e
        cases e
        exact ⟨c, hc', hcell.keeps hk⟩
  · obtain ⟨v, z⟩ := I.cell y c (snd h)
    exact ⟨v, z.keeps hk⟩
  · rw [show (cxBlk X scope (vs ++ fs) C s H fp).env.locals = C from rfl, upd_ne nCD]
    exact hfC
  · have q := snd h
    have ne : c ≠ D := by rw [hD]; exact Nat.ne_of_lt (clt q)
    rw [upd_ne ne]
    exact I.freeC y c q
  · have hlen : js.length = fs.length := by have := congrArg List.length B.ix; simpa using this
    show (vs.map _ ++ js.map _).length = (vs ++ fs).length
    rw [List.length_append, List.length_append, List.length_map, List.length_map, hlen]

theorem Inv.goneC {H' : Hp} {s' : Shared} {C : Addr} {h'' : Heap} (I2 : Inv X pins σ H s) {σ' : St} (I' : Inv X pins σ' H' s') (hC : H' C = none) (hle : s.heap.objs.size ≤ C) (hs : Heap.SameBut C s'.heap h'') : Inv X pins σ' H' { s' with heap := h'' } := by
  refine I'.turned (t' := s'.toks) (fun b o hb e => (hs.2 b hb).trans e) hC (Nat.ne_of_gt (Nat.lt_of_lt_of_le I2.lt hle)) (.inr (Nat.le_trans I2.sz hle)) (fun y c e z => ?_) fun p hp z => ?_
  · obtain ⟨v, o, ho, _⟩ := I2.cell y c e
    have := Heap.lt_size ho
    rw [z] at this
    exact absurd (Nat.lt_of_lt_of_le this hle) (Nat.lt_irrefl _)
  · have := Heap.lt_size (I2.pin p hp).1
    rw [z] at this
    exact absurd (Nat.lt_of_lt_of_le this hle) (Nat.lt_irrefl _)

theorem blk_run {tg iter elt : Expr} {ifs : List Expr} {pos : Pos} {g : TG} {tt : TT} {te : TE} (hc : X.calm = true) (B : BlkOk X scope vs fs js)
    (hg : ∀ C s H ex, PG (cxBlk X scope (vs ++ fs) C s H ex) tg g) (ht : ∀ C s H ex, PIfs (cxBlk X scope (vs ++ fs) C s H ex) ifs tt) (he : ∀ C s H ex, PE (cxBlk X scope (vs ++ fs) C s H ex) elt te)
    {it : Addr} {fp : List Addr} {tn : Nat → Heap → Prop} {J : It} {Q : VK} {E : Value → Shared → Prop} (I2 : Inv X pins σ H s) (T : Turn X.prog X.w X.K tg J fp it tn) (st2 : tn 0 s.heap) (f2 : ∀ b ∈ fp, FpOk X pins H b)
    (hW : ∀ D, H D = none → CompW J vs js σ g tt te Q D H)
    {RR : Value → Addr → Result → Shared → Prop}
    (hR : ∀ D C H' s', Inv X pins σ H' s' → (∃ m, s'.heap.Ns C m) → H' C = none → s.heap.objs.size ≤ C → Q (.ref D) H' → RR (.ref D) C (.ok .next) s') :
    wpAny (model X.prog X.w) X.A (newList []) (fun acc s₃ => wpAny (model X.prog X.w) X.A (newFunctionEnv scope X.env.globals (clOf X.env scope.names []) [] X.env.qual none .none (some X.env)) (fun cenv s₄ =>
      codeAny (model X.prog X.w) X.A (.compStart (.ListComp elt [⟨tg, iter, ifs, 0⟩] scope pos) 0 (.ref it) acc { cenv with scope := relabel scope X.env }) (RR acc cenv.locals) s₄) E s₃) E s := by
  have hfp : ∀ b ∈ fp, b < s.heap.objs.size := fun b hb => by
    obtain ⟨o, e, _⟩ := T.obj _ _ st2 b hb
    exact Heap.lt_size e
  refine wpAny_newObj_type (wpAny_newFunctionEnv B.cell (by intro y hy; simp at hy) (fun h₁ hns₁ hsb₁ => ?_) B.kind)
  dsimp only at hns₁ hsb₁ ⊢
  generalize hH2 : s.heap.push { cls := .type "list", dict := none, data := .seq ([] : List Value).toArray } = HH at hns₁ hsb₁ ⊢
  have hC : HH.objs.size = s.heap.objs.size + 1 := by rw [← hH2, Heap.size_push]
  have hlt : s.heap.objs.size < HH.objs.size := by rw [hC]; exact Nat.lt_succ_self _
  have old : ∀ b o, s.heap.get? b = some o → h₁.get? b = some o := fun b o e => hsb₁.extBut b o (Nat.ne_of_lt (Nat.lt_trans (Heap.lt_size e) hlt)) (Heap.get?_push_of_some _ (hH2 ▸ Heap.get?_push_of_some _ e))
  have hacc : h₁.get? s.heap.objs.size = some { cls := .type "list", data := .seq ([] : List Value).toArray } := hsb₁.extBut _ _ (Nat.ne_of_lt hlt) (Heap.get?_push_of_some _ (hH2 ▸ Heap.get?_push_size _ rfl))
  have I0 : Inv (cxBlk X scope (vs ++ fs) HH.objs.size s H fp) [] (blkSt vs js σ) (upd H s.heap.objs.size (.lst [])) { s with heap := h₁, toks := s.toks + ([] : List (Str × Value)).length } := blk_start I2 B f2 hfp hns₁ old rfl hlt hacc
  obtain ⟨W, ⟨m0, w0⟩, turn⟩ := hW s.heap.objs.size (I2.hok.fresh (Nat.le_refl _))
  have st1 : tn 0 h₁ := T.keep _ _ _ st2 fun b hb o e => old b o e
  have hch : ∀ b ∈ fp, (b ∈ X.ex ∨ X.s₀.heap.objs.size ≤ b) ∧ b ≠ X.env.locals ∧ (∀ x c, X.env.cells.lookup x = some c → c ≠ b) ∧ ∀ p ∈ X.pn ++ pins, p.1 ≠ b := fun b hb => by
    obtain ⟨_, a2, _, a4, a5, a6⟩ := f2 b hb
    exact ⟨a4, a2, a5, a6⟩
  have back : ∀ {pl : List (Addr × Obj)} {σ' : St} {H' : Hp} {s' : Shared}, Inv (cxBlk X scope (vs ++ fs) HH.objs.size s H fp) pl σ' H' s' → Inv X pins σ H' s' := fun {pl σ' H' s'} J' => I2.call' (ch := fp) J'.os J'.base J'.hok J'.bare hch
  have nD : ∀ b ∈ fp, b ≠ s.heap.objs.size := fun b hb => Nat.ne_of_lt (hfp b hb)
  have stat : ∀ {H' : Hp}, (∀ b ∈ fp, H' b = none) → ∀ b ∈ fp, FpOk (cxBlk X scope (vs ++ fs) HH.objs.size s H fp) [] H' b := fun {H'} hn b hb => by
    have z := I0.ok
    refine ⟨hn b hb, (z.exf b hb).1, z.exfs b hb, .inl hb, (z.exf b hb).2, fun p hp => absurd (show p ∈ ([] : List (Addr × Obj)) from hp) (by simp)⟩
  have loop : ∀ s₃ : Shared, s₃ = { s with heap := h₁, toks := s.toks + ([] : List (Str × Value)).length } →
      codeAny (model X.prog X.w) X.A (.compLoop (.ListComp elt [⟨tg, iter, ifs, 0⟩] scope pos) 0 (.ref it) (.ref s.heap.objs.size) (compEnvC scope (clOf X.env scope.names []) HH.objs.size X.env)) (RR (.ref s.heap.objs.size) HH.objs.size) s₃ := by
    rintro s₃ rfl
    refine codeAny_compLoop_gen (fun n s' => ∃ i σ' ys H', Inv (cxBlk X scope (vs ++ fs) HH.objs.size s H fp) [] σ' H' s' ∧ tn i s'.heap ∧ (∀ b ∈ fp, H' b = none) ∧ W i n σ' ys H') ?_ m0
      ⟨0, _, _, _, I0, st1, fun b hb => by rw [upd_ne (nD b hb)]; exact (f2 b hb).1, w0⟩
    rintro n s3 ⟨i, σ3, ys, H3, I3, st3, fr3, w3⟩
    rcases turn i n σ3 ys H3 w3 with ⟨stop, q⟩ | ⟨go, N, hN, step⟩
    · refine thn (T.done (cxBlk X scope (vs ++ fs) HH.objs.size s H fp) rfl rfl rfl hc i [] s3 σ3 H3 _ I3 (stat fr3) st3 stop) fun r s4 ⟨hr, I4⟩ => ?_
      subst hr
      obtain ⟨m, hm, _⟩ := I4.loc
      exact hR _ _ H3 s4 (back I4) ⟨m, hm⟩ I4.free (Nat.le_of_lt hlt) q
    · refine thn (T.item (cxBlk X scope (vs ++ fs) HH.objs.size s H fp) rfl rfl rfl hc i [] s3 σ3 H3 _ I3 (stat fr3) st3 go) fun r s4 ⟨u, hr, h4⟩ => ?_
      subst hr
      refine thn h4 fun _ s5 ⟨x, H5, I5, r5, y5, st5, fr5⟩ => ?_
      have I5' := I5.pinned (stat fr5) (T.obj _ _ st5)
      have again : ∀ {σ7 : St} {H7 : Hp} {s7 : Shared} {zs : List V}, Inv (cxBlk X scope (vs ++ fs) HH.objs.size s H fp) ([] ++ pinsAt fp s5.heap) σ7 H7 s7 → N σ7 zs H7 → ∃ m, m < n ∧ ∃ i σ' ys H', Inv (cxBlk X scope (vs ++ fs) HH.objs.size s H fp) [] σ' H' s7 ∧ tn i s7.heap ∧ (∀ b ∈ fp, H' b = none) ∧ W i m σ' ys H' := fun {σ7 H7 s7 zs} I7 n7 => by
        obtain ⟨m', hm, w7⟩ := hN σ7 zs H7 n7
        refine ⟨m', hm, i + 1, σ7, zs, H7, I7.unpinned, T.keep _ _ _ st5 fun b hb o e => (I7.pin (b, o) (List.mem_append_right _ (List.mem_append_right _ (mem_pinsAt hb e)))).1, fun b hb => ?_, w7⟩
        obtain ⟨o, e, d⟩ := T.obj _ _ st5 b hb
        exact (I7.pin (b, o) (List.mem_append_right _ (List.mem_append_right _ (mem_pinsAt hb e)))).2.1
      refine thn (hg _ _ _ _ _ s5 σ3 H5 x u _ I5' r5 (step x H5 y5)) fun _ s6 ⟨σ6, H6, I6, q6⟩ => ?_
      refine thn (ht _ _ _ _ _ s6 σ6 H6 _ I6 q6) fun ok s7 ⟨H7, I7, q7⟩ => ?_
      cases ok with
      | false =>
        rw [if_neg Bool.false_ne_true] at q7 ⊢
        exact again I7 q7
      | true =>
        rw [if_pos rfl] at q7 ⊢
        refine thn (he _ _ _ _ _ s7 σ6 H7 _ I7 q7) fun y s8 ⟨yv, H8, I8, r8, hD8, hz, n8⟩ => ?_
        refine thn (mt_append _ s8 σ6 H8 (.ref s.heap.objs.size) [yv] (.ref s.heap.objs.size) [y] (fun _ H9 => N σ6 (ys ++ [yv]) H9) I8 rfl (.cons r8 .nil) ⟨_, ys, yv, rfl, rfl, hD8, hz, n8⟩) fun _ s9 ⟨_, H9, I9, _, n9⟩ => ?_
        exact again I9 n9
  exact codeAny_compStart_list (loop _ rfl) (T.self X.A 0 _ _ _ st1 (loop _ rfl))

theorem pe_comp {tg iter elt : Expr} {ifs : List Expr} {pos : Pos} {wi : TI} {g : TG} {tt : TT} {te : TE} (hc : X.calm = true) (B : BlkOk X scope vs fs js) (hi : PI X tg iter wi)
    (hg : ∀ C s H ex, PG (cxBlk X scope (vs ++ fs) C s H ex) tg g) (ht : ∀ C s H ex, PIfs (cxBlk X scope (vs ++ fs) C s H ex) ifs tt) (he : ∀ C s H ex, PE (cxBlk X scope (vs ++ fs) C s H ex) elt te)
    (hs : ∀ x, foldedSetIterable iter X.env x = pure x := by intro _; rfl) : PE X (.ListComp elt [⟨tg, iter, ifs, 0⟩] scope pos) (tComp vs js wi g tt te) := by
  intro pins s σ H Q I h
  rw [eval_ListComp]
  refine wpAny_comprehension_free (use := none) rfl hs (closure_eq fun y hy hf => I.ok.has y.1 (B.free y hy hf)) B.kind B.names (thn (hi pins s σ H _ I h) fun v s1 h1 => thn h1 fun itv s2 h2 => ?_)
  obtain ⟨it, fp, tn, J, H2, e, I2, T, st2, f2, hW⟩ := h2
  subst e
  refine blk_run (RR := fun acc C => compPost (model X.prog X.w) X.A X.xe none (EP X pins σ Q) acc C) hc B hg ht he I2 T st2 f2 hW ?_
  intro D C H' s' I' hn hC hle q
  obtain ⟨m, hn⟩ := hn
  exact ⟨m, hn, fun h'' hs'' => ⟨.ref D, H', I2.goneC I' hC hle hs'', rfl, q⟩⟩

/-- x = [.. for ..]: the name is stored within the block's own end -/
theorem ps_setc {i : Nat} {y : Str} {py spos : Pos} {tg iter elt : Expr} {ifs : List Expr} {pos : Pos} {wi : TI} {g : TG} {tt : TT} {te : TE} (hN : X.N.Nodup) (hi' : X.N[i]? = some y) (hy : X.env.scope.names.lookup y = some .local) (hc : X.calm = true) (B : BlkOk X scope vs fs js) (hi : PI X tg iter wi)
    (hg : ∀ C s H ex, PG (cxBlk X scope (vs ++ fs) C s H ex) tg g) (ht : ∀ C s H ex, PIfs (cxBlk X scope (vs ++ fs) C s H ex) ifs tt) (he : ∀ C s H ex, PE (cxBlk X scope (vs ++ fs) C s H ex) elt te)
    (hsw : swapsWith (.ListComp elt [⟨tg, iter, ifs, 0⟩] scope pos) (some (.Name y py)) spos.line X.env = pure true := by rfl)
    (hs : ∀ x, foldedSetIterable iter X.env x = pure x := by intro _; rfl) : PS X (.Assign [.Name y py] (.ListComp elt [⟨tg, iter, ifs, 0⟩] scope pos) spos) (tAsg (tComp vs js wi g tt te) (gName i)) := by
  intro pins s σ H D I h
  rw [exec_Assign_Name_used _ _ _ _ hsw]
  refine wpAny_bind (wpAny_standAt (wpAny_bind ?_))
  show wpAny _ X.A (do let _ ← comprehension (.ListComp elt [⟨tg, iter, ifs, 0⟩] scope pos) scope X.env _ (newList []) false (eval iter X.env) (some (assign (.Name y py) X.env))) _ _ s
  refine wpAny_bind (wpAny_mono (wpAny_comprehension_free (use := some (assign (.Name y py) X.env)) (Q := fun _ s' => SP X pins D .next s') rfl hs (closure_eq fun y hy hf => I.ok.has y.1 (B.free y hy hf)) B.kind B.names
    (thn (hi pins s σ H _ I h) fun v s1 h1 => thn h1 fun itv s2 h2 => ?_)) (fun _ s' hq => wpAny_pure (wpAny_pure hq)) fun _ _ e => e)
  obtain ⟨it, fp, tn, J, H2, e, I2, T, st2, f2, hW⟩ := h2
  subst e
  refine blk_run (Q := fun x H1 => gName i x σ H1 D.nx) (RR := fun acc C => compPost (model X.prog X.w) X.A X.xe (some (assign (.Name y py) X.env)) (fun _ s' => SP X pins D .next s') acc C) hc B hg ht he I2 T st2 f2 hW ?_
  intro D' C H' s' I' hn hC hle q
  obtain ⟨m, hn⟩ := hn
  show wpAny _ X.A (assign (.Name y py) X.env (.ref D')) _ _ _
  refine wpAny_assign_Name (store_ok2 I' hN hi' (.inl hy) (v := .ref D') rfl (fun s'' I'' hsb => ?_) (.inr hy))
  obtain ⟨a, hsb, ha⟩ := hsb
  have nCa : C ≠ a := by
    rcases ha with z | z
    · rw [z]; exact Nat.ne_of_gt (Nat.lt_of_lt_of_le I2.lt hle)
    · obtain ⟨v, o, ho, _⟩ := I2.cell y a z
      exact Nat.ne_of_gt (Nat.lt_of_lt_of_le (Heap.lt_size ho) hle)
  exact ⟨m, hn.sameBut hsb nCa, fun h'' hs'' => ⟨_, H', I2.goneC I'' hC hle hs'', q⟩⟩
end

/-! ### the forms one uses -/
section
variable {vs : List Str} {js : List Nat} {σ : St} {g : TG} {tt : TT} {te : TE} {Q : VK}
/-- over a range -/
theorem comp_range {lo : Int} {n : Nat} {H : Hp} (Pv : Nat → St → List V → Hp → Prop) (D : Addr) (h0 : Pv 0 (blkSt vs js σ) [] (upd H D (.lst [])))
    (hs : ∀ i σ' ys H', i < n → Pv i σ' ys H' → g (.int (lo + i)) σ' H' fun σ3 H3 => tt σ3 H3 fun b H4 => if b = true then te σ3 H4 fun y H5 => H5 D = some (.lst ys) ∧ ys.length < sizeLine ∧ Pv (i + 1) σ3 (ys ++ [y]) (upd H5 D (.lst (ys ++ [y]))) else Pv (i + 1) σ3 ys H4)
    (hd : ∀ σ' ys H', Pv n σ' ys H' → Q (.ref D) H') :
    CompW (Itr lo n) vs js σ g tt te Q D H := by
  refine ⟨fun i m σ' ys H' => m = n - i ∧ i ≤ n ∧ Pv i σ' ys H', ⟨n, by simp, Nat.zero_le _, h0⟩, ?_⟩
  rintro i m σ' ys H' ⟨rfl, hi, p⟩
  by_cases hlt : i < n
  · refine .inr ⟨hlt, Pv (i + 1), fun σ2 zs H2 p' => ⟨n - (i + 1), by omega, rfl, hlt, p'⟩, fun x H2 y => ?_⟩
    obtain ⟨e, y⟩ := y
    subst e y
    exact hs i σ' ys _ hlt p
  · have e : i = n := by omega
    subst e
    exact .inl ⟨Nat.le_refl _, hd σ' ys H' p⟩
/-- over a list that stays -/
theorem comp_list {K : PySem.W.Frag} {a : Addr} {xs : List V} {H : Hp} (Pv : Nat → St → List V → Hp → Prop) (D : Addr) (h0 : Pv 0 (blkSt vs js σ) [] (upd H D (.lst []))) (hl : ∀ i σ' ys H', i ≤ xs.length → Pv i σ' ys H' → SqL K H' a xs)
    (hs : ∀ i x σ' ys H', xs[i]? = some x → Pv i σ' ys H' → g x σ' H' fun σ3 H3 => tt σ3 H3 fun b H4 => if b = true then te σ3 H4 fun y H5 => H5 D = some (.lst ys) ∧ ys.length < sizeLine ∧ Pv (i + 1) σ3 (ys ++ [y]) (upd H5 D (.lst (ys ++ [y]))) else Pv (i + 1) σ3 ys H4)
    (hd : ∀ σ' ys H', Pv xs.length σ' ys H' → Q (.ref D) H') :
    CompW (Itl K a) vs js σ g tt te Q D H := by
  refine ⟨fun i m σ' ys H' => m = xs.length - i ∧ i ≤ xs.length ∧ Pv i σ' ys H', ⟨xs.length, by simp, Nat.zero_le _, h0⟩, ?_⟩
  rintro i m σ' ys H' ⟨rfl, hi, p⟩
  have q := hl i σ' ys H' hi p
  by_cases hlt : i < xs.length
  · refine .inr ⟨⟨xs, xs[i], q, by simp [hlt]⟩, Pv (i + 1), fun σ2 zs H2 p' => ⟨xs.length - (i + 1), by omega, rfl, hlt, p'⟩, fun x H2 y => ?_⟩
    obtain ⟨e, y⟩ := y
    subst e
    exact hs i x σ' ys _ (y xs q) p
  · have e : i = xs.length := by omega
    subst e
    exact .inl ⟨⟨xs, q, Nat.le_refl _⟩, hd σ' ys H' p⟩
end
end L2

/-! Further rules, the bundle of a called def, and the steps of a reading. -/
namespace L2
open PySem PySem.Spec PyProof.Rows

/-! ### the built-in names -/
theorem bt_len : bootBuiltins "len" = some (.builtin "len") := by decide +kernel
theorem bt_abs : bootBuiltins "abs" = some (.builtin "abs") := by decide +kernel
theorem bt_max : bootBuiltins "max" = some (.builtin "max") := by decide +kernel
theorem bt_min : bootBuiltins "min" = some (.builtin "min") := by decide +kernel
theorem bt_sum : bootBuiltins "sum" = some (.builtin "sum") := by decide +kernel
theorem bt_all : bootBuiltins "all" = some (.builtin "all") := by decide +kernel
theorem bt_isinstance : bootBuiltins "isinstance" = some (.builtin "isinstance") := by decide +kernel
theorem bt_sorted : bootBuiltins "sorted" = some (.builtin "sorted") := by decide +kernel
theorem bt_int : bootBuiltins "int" = some (.type "int") := by decide +kernel
theorem bt_bool : bootBuiltins "bool" = some (.type "bool") := by decide +kernel
theorem bt_list : bootBuiltins "list" = some (.type "list") := by decide +kernel
theorem bt_tuple : bootBuiltins "tuple" = some (.type "tuple") := by decide +kernel
theorem bt_zip : bootBuiltins "zip" = some (.type "zip") := by decide +kernel
/-! ### a called def in one word -/
structure Cal (P : Program) (w : World) (K : PySem.W.Frag) (mg : Str → Option Value) (base : Heap) (x : Str) (ps : List Str) (k : Nat) (sp : Sp) : Prop where
  ex : ∃ (f : Addr) (fd : FuncData), FnOk P w K mg base CX0 k f fd ps sp ∧ Binds K fd ps [] ∧ mg x = some (.ref f) ∧ PySem.W.keepIn K (.ref f) = true
section
variable {X : Cx} {x : Str} {ps : List Str} {k : Nat} {sp : Sp} {e : Expr} {es : List Expr} {t : TA} {p pos : Pos}
theorem pcl (C : Cal X.prog X.w X.K X.mg X.base x ps k sp) (hr : Room k X.A) (ha : PA X (e :: es) t) (hg : Gl X x := by rfl) (hdb : (x == ("__debug__" : Str)) = false := by decide) (he : starEach (e :: es) X.env = (false, eval e X.env) :: starEach es X.env := by rfl) (hpl : (backTo pos (starEach es X.env)).any (·.1) = false := by rfl) :
    PE X (.Call (.Name x p) (e :: es) [] pos) (tCall sp [] E0 t) := by
  obtain ⟨f, fd, F, hb, hm, hk⟩ := C.ex
  exact pe_call F hr hg hm hk hb .nil pass0 ha hdb he hpl
end
theorem Cal.of {P : Program} {w : World} {K : PySem.W.Frag} {mg : Str → Option Value} {base : Heap} {x : Str} {st : Stmt} {f : Addr} {fd : FuncData} {N ps : List Str} {k : Nat} {sp : Sp} (F : Fun K x x st f fd) (mF : mg x = some (.ref f)) (bF : Binds K fd ps []) (S : FnScope N ps (defScope st)) (len : ∀ vs H Q E, sp vs H Q E → vs.length = ps.length)
    (hbody : ∀ (cdv : Value) (A : Around) (outer : List Env) (s : Shared) (H : Hp) (vs : List V) (Q : VK) (E : XK), Room k (A.deeper (envOfC x (defScope st) s.heap.objs.size f cdv)) → sp vs H Q E →
      ∃ t, PSs (cxOf CX0 P w K mg base N x (defScope st) f cdv A outer s H E).nox (defBody st) t ∧ t { nx := fun _ H' => Q .non H', rt := Q } (start N vs) H) : Cal P w K mg base x ps (k + 1) sp :=
  ⟨f, fd, F.ok S len hbody, bF, mF, F.kp⟩

/-! ### blocks by a decision -/
def blkB (sc scope : Scope) (N vs fs : List Str) (js : List Nat) : Bool :=
  (scope.kind == .function) && scope.names.all (fun y => y.2 != .cell) && scope.names.all (fun y => y.2 != .local || scope.names.lookup y.1 == some .local) &&
  scope.names.all (fun y => y.2 != .free || sc.names.lookup y.1 == some .cell || sc.names.lookup y.1 == some .free) && vs.all (fun y => scope.names.lookup y == some .local) && fs.all (fun y => scope.names.lookup y == some .free) &&
  (js.map (fun j => N[j]?) == fs.map some)
theorem blkOk {X : Cx} {sc scope : Scope} {N vs fs : List Str} {js : List Nat} (h : blkB sc scope N vs fs js = true) (hs : X.env.scope = sc) (hN : X.N = N) : BlkOk X scope vs fs js := by
  unfold blkB at h
  simp only [Bool.and_eq_true, List.all_eq_true, beq_iff_eq, bne_iff_ne, Bool.or_eq_true] at h
  obtain ⟨⟨⟨⟨⟨⟨h1, h2⟩, h3⟩, h4⟩, h5⟩, h6⟩, h7⟩ := h
  refine ⟨h1, h2, fun y hy hl => ?_, fun y hy hf => ?_, h5, h6, ?_⟩
  · rcases h3 y hy with z | z
    · exact absurd hl z
    · exact z
  · unfold Env.kindOf
    rw [hs]
    rcases h4 y hy with (z | z) | z
    · exact absurd hf z
    · exact .inl z
    · exact .inr z
  · rw [hN]; exact h7

/-! ### a join behind a statement -/
def tCut (t : TS) : TS := fun D σ H => ∃ R : St → Hp → Prop, t { D with nx := R } σ H ∧ ∀ σ' H', R σ' H' → D.nx σ' H'
theorem ps_cut {X : Cx} {st : Stmt} {t : TS} (h : PS X st t) : PS X st (tCut t) := by
  intro pins s σ H D I hw
  obtain ⟨R, h1, h2⟩ := hw
  refine thn (h pins s σ H _ I h1) fun f s' q => ?_
  cases f with
  | next =>
    obtain ⟨σ', H', I', q⟩ := q
    exact ⟨σ', H', I', h2 _ _ q⟩
  | brk => exact q
  | cont => exact q
  | ret u => exact q
/-! ### rules -/
section
variable {X : Cx}
def CDivB (i j : Int) : Prop := 0 < j ∧ j < 2 ^ 100
theorem op_fdivB : OpR X (binaryOp .FloorDiv) (rI CDivB fun i j => .int (i / j)) := opI fun i j _ _ _ _ _ hc q => by
  have h1 : (0 : Int) < j := hc.1
  have h2 : j < 2 ^ 100 := hc.2
  refine floordiv_int (by omega) (by rw [Int.fdiv_eq_ediv_of_nonneg i (by omega)]; exact q) (.inl (PyProof.noPylong_of_log2 ?_))
  have h0 : j.natAbs ≠ 0 := by omega
  have h3 : j.natAbs.log2 < 100 := (Nat.log2_lt h0).mpr (by omega)
  omega
/-- a written power -/
theorem pe_powC {a b c : Int} {j1 j2 : Nat} {p1 p2 pos : Pos} (h : a ^ b.toNat = c) (h1 : CPow a b) : PE X (.BinOp (.Constant (.int a) j1 p1) .Pow (.Constant (.int b) j2 p2) pos) (tC (.int c)) := by
  intro pins s σ H Q I q
  subst h
  exact pe_op op_pow pe_int pe_int pins s σ H Q I ⟨a, b, rfl, rfl, h1, q⟩
/-- xs[i] by values -/
theorem get_list : PGet X (rIxL X.K) := by
  intro pins s σ H x y v u Q I rx ry h
  obtain ⟨p, xs, i, z, rfl, rfl, hq, he, q⟩ := h
  cases rx
  obtain ⟨t, rfl⟩ := ry
  obtain ⟨its, r, pl, hz⟩ := I.list hq
  obtain ⟨j, h1, h2, h3, h4, h5⟩ := atI_get he
  obtain ⟨w, ew, rw'⟩ := r.get h2
  have hl := r.length
  have hn := line63
  have fin : EP X pins σ Q w s := ⟨z, H, I, rw', q⟩
  by_cases h0 : 0 ≤ i
  · have hj : i.toNat = j := by
      rw [seqIndex_of h0 h5] at h1
      exact Option.some.inj h1
    exact wpAny_getItem_list pl.isList h0 (by omega) (by rw [hj]; simpa using ew) fin
  · have hj : (i + (its.toArray.size : Int)).toNat = j := by
      rw [seqIndex_neg (by omega) h4] at h1
      rw [List.size_toArray, ← hl]
      exact Option.some.inj h1
    exact wpAny_getItem_list_neg pl.isList (by omega) (by rw [List.size_toArray] <;> omega) (by omega) (by rw [hj]; simpa using ew) fin
/-- n.bit_length() -/
def rBitLen : V → List V → Hp → VK → Prop := fun x vs H Q => ∃ i, x = .int i ∧ vs = [] ∧ Q (.int (Builtin.Int.intBits i : Nat)) H
/-- len, abs, max, min by names of their own -/
def rLenL (K : PySem.W.Frag) : List V → Hp → VK → Prop := fun xs H Q => ∃ p ys, xs = [.ref p] ∧ (SqL K H p ys ∨ SqT K H p ys) ∧ Q (.int ys.length) H
theorem call_lenL : CallR X (.builtin "len") (rLenL X.K) := call_len_seq
def rAbs1 : List V → Hp → VK → Prop := fun xs H Q => ∃ i, xs = [.int i] ∧ Q (.int (if i < 0 then -i else i)) H
theorem call_abs1 : CallR X (.builtin "abs") rAbs1 := call_abs
def rMaxI : List V → Hp → VK → Prop := fun xs H Q => ∃ i j, xs = [.int i, .int j] ∧ Q (.int (if j > i then j else i)) H
theorem call_maxI (hc : X.calm = true) : CallR X (.builtin "max") rMaxI := call_max2 hc
def rMinI : List V → Hp → VK → Prop := fun xs H Q => ∃ i j, xs = [.int i, .int j] ∧ Q (.int (if j < i then j else i)) H
theorem call_minI (hc : X.calm = true) : CallR X (.builtin "min") rMinI := call_min2 hc
/-- isinstance(x, T), T a built-in type -/
def rIsi (K : PySem.W.Frag) : List V → Hp → VK → Prop := fun xs H Q => ∃ x t T b, xs = [x, .ty T] ∧ TyOf K H x t ∧ PySem.W.kitOne K t (.type T) = some b ∧ Q (.bl b) H
theorem call_isinst : CallR X (.builtin "isinstance") (rIsi X.K) := by
  intro pins s σ H xs us Q I r h
  obtain ⟨x, t, T, b, rfl, ty, e, q⟩ := h
  obtain ⟨u, w', rfl, r1, r2⟩ := vals2 r
  cases (show w' = Value.type T from r2)
  exact isinst_ok I r1 ty e fun tk => ⟨.bl b, H, I.tok _, rfl, q⟩
end

/-! ### steps of a reading -/
section
variable {σ : St} {H : Hp} {Q : VK} {D : Ends}
theorem rd_var {i : Nat} {v : V} (h : σ[i]? = some (some v)) (q : Q v H) : tVar i σ H Q := ⟨v, h, q⟩
theorem rd_c {v : V} (q : Q v H) : tC v σ H Q := q
theorem rd_op {r : R2} {ta tb : TE} (h : ta σ H fun x H1 => tb σ H1 fun y H2 => r x y H2 Q) : tOp r ta tb σ H Q := h
theorem rd_un {r : V → Hp → VK → Prop} {ta : TE} (h : ta σ H fun x H1 => r x H1 Q) : tUn r ta σ H Q := h
theorem rd_I0 {g : Int → Int → V} {i j : Int} (q : Q (g i j) H) : rI0 g (.int i) (.int j) H Q := ⟨i, j, rfl, rfl, q⟩
theorem rd_I {C : Int → Int → Prop} {g : Int → Int → V} {i j : Int} (c : C i j) (q : Q (g i j) H) : rI C g (.int i) (.int j) H Q := ⟨i, j, rfl, rfl, c, q⟩
theorem rd_U {g : Int → V} {i : Int} (q : Q (g i) H) : rU g (.int i) H Q := ⟨i, rfl, q⟩
theorem dec_int' {i j : Int} : decide (V.int i = V.int j) = decide (i = j) := by
  rw [Bool.eq_iff_iff]; simp
theorem rd_eqI {i j : Int} (q : Q (.bl (decide (i = j))) H) : rEq (.int i) (.int j) H Q := ⟨rfl, by rw [dec_int']; exact q⟩
theorem rd_neI {i j : Int} (q : Q (.bl (!decide (i = j))) H) : rNe (.int i) (.int j) H Q := ⟨rfl, by rw [dec_int']; exact q⟩
theorem rd_bl {c : Bool} {P : Bool → Prop} (h : P c) : ∃ k, V.bl c = V.bl k ∧ P k := ⟨c, rfl, h⟩
theorem rd_test {t : TE} {R : Bool → Hp → Prop} (h : t σ H fun x H' => ∃ k, x = .bl k ∧ R k H') : tTest t σ H R := h
theorem rd_tB {t : TE} {R : Bool → Hp → Prop} (h : t σ H fun x H' => ∃ k, x = .bl k ∧ R k H') : tB t σ H R := h
theorem rd_and {t u : TT} {R : Bool → Hp → Prop} (h : t σ H fun c H1 => if c = true then u σ H1 R else R false H1) : tAnd t u σ H R := h
theorem rd_or {t u : TT} {R : Bool → Hp → Prop} (h : t σ H fun c H1 => if c = true then R true H1 else u σ H1 R) : tOr t u σ H R := h
theorem rd_not {t : TT} {R : Bool → Hp → Prop} (h : t σ H fun c H1 => R (!c) H1) : tNot t σ H R := h
theorem rd_andV {ta tb : TE} (h : ta σ H fun x H1 => ∃ c, x = .bl c ∧ if c = true then tb σ H1 Q else Q (.bl false) H1) : tAndV ta tb σ H Q := h
theorem rd_notV {ta : TE} (h : ta σ H fun x H1 => ∃ c, x = .bl c ∧ Q (.bl (!c)) H1) : tNotV ta σ H Q := h
theorem rd_nil {R : List V → Hp → Prop} (h : R [] H) : tNil σ H R := h
theorem rd_cons {ta : TE} {tr : TA} {R : List V → Hp → Prop} (h : ta σ H fun x H1 => tr σ H1 fun xs H2 => R (x :: xs) H2) : tCons ta tr σ H R := h
theorem rd_call {sp : Sp} {dvs : List V} {E : XK} {t : TA} (h : t σ H fun vs H1 => sp (vs ++ dvs) H1 Q E) : tCall sp dvs E t σ H Q := h
theorem rd_cb {r : List V → Hp → VK → Prop} {t : TA} (h : t σ H fun vs H1 => r vs H1 Q) : tCB r t σ H Q := h
theorem rd_lst {t : TA} (h : t σ H fun xs H1 => xs.length ≤ sizeLine ∧ ∀ p, H1 p = none → Q (.ref p) (upd H1 p (.lst xs))) : tLst t σ H Q := h
theorem rd_tup {t : TA} (h : t σ H fun xs H1 => xs.length ≤ sizeLine ∧ ∀ p, H1 p = none → Q (.ref p) (upd H1 p (.tup xs))) : tTup t σ H Q := h
theorem rd_seq {t u : TS} (h : t { D with nx := u D } σ H) : tSeq t u D σ H := h
theorem rd_asg {te : TE} {g : TG} (h : te σ H fun x H1 => g x σ H1 D.nx) : tAsg te g D σ H := h
theorem rd_gname {i : Nat} {v : V} {R : St → Hp → Prop} (h : R (σ.set i (some v)) H) : gName i v σ H R := h
theorem rd_ret {te : TE} (h : te σ H D.rt) : tRet te D σ H := h
theorem rd_next (h : D.nx σ H) : tNext D σ H := h
theorem rd_drop {te : TE} (h : te σ H fun _ H1 => D.nx σ H1) : tDrop te D σ H := h
theorem rd_ifS {c : TT} {t u : TS} (h : c σ H fun b H1 => if b = true then t D σ H1 else u D σ H1) : tIfS c t u D σ H := h
theorem rd_ixL {K : PySem.W.Frag} {p : Addr} {xs : List V} {i : Int} {v : V} (h : SqL K H p xs) (e : atI xs i = some v) (q : Q v H) : rIxL K (.ref p) (.int i) H Q := ⟨p, xs, i, v, rfl, rfl, h, e, q⟩
theorem rd_bm {K : PySem.W.Frag} {T : String} {r : V → List V → Hp → VK → Prop} {to : TE} {t : TA} (h : to σ H fun x H1 => tyV K T x H1 ∧ t σ H1 fun xs H2 => r x xs H2 Q) : tBM K T r to t σ H Q := h
theorem rd_augS {to ti te : TE} {tget : V → V → Hp → VK → Prop} {tip : TIp} {tset : TSet} (h : to σ H fun o H1 => ti σ H1 fun i H2 => tget o i H2 fun x H3 => te σ H3 fun y H4 => tip x y H4 fun z H5 => tset o i z H5 fun H6 => D.nx σ H6) : tAugS to ti te tget tip tset D σ H := h
theorem rd_ip {f : Int → Int → Int} {i j : Int} (q : Q (.int (f i j)) H) : ipI f (.int i) (.int j) H Q := ⟨i, j, rfl, rfl, q⟩
theorem rd_setL {p : Addr} {xs : List V} {i : Int} {j : Nat} {v : V} {R : Hp → Prop} (h : H p = some (.lst xs)) (e : ixN xs.length i = some j) (q : R (upd H p (.lst (xs.set j v)))) : rSetL (.ref p) (.int i) v H R := ⟨p, xs, i, j, rfl, rfl, h, e, q⟩
theorem rd_set0 {p : Addr} {a : V} {r : List V} {v : V} {R : Hp → Prop} (h : H p = some (.lst (a :: r))) (q : R (upd H p (.lst (v :: r)))) : rSetL (.ref p) (.int 0) v H R :=
  ⟨p, _, 0, 0, rfl, rfl, h, by unfold ixN; rw [if_pos (by decide), if_pos (by rw [List.length_cons]; omega)]; rfl, q⟩
theorem rd_set1 {p : Addr} {a b : V} {r : List V} {v : V} {R : Hp → Prop} (h : H p = some (.lst (a :: b :: r))) (q : R (upd H p (.lst (a :: v :: r)))) : rSetL (.ref p) (.int 1) v H R :=
  ⟨p, _, 1, 1, rfl, rfl, h, by unfold ixN; rw [if_pos (by decide), if_pos (by rw [List.length_cons, List.length_cons]; omega)]; rfl, q⟩
theorem rd_gsub {to ti : TE} {t : TSet} {v : V} {R : St → Hp → Prop} (h : to σ H fun o H1 => ti σ H1 fun i H2 => t o i v H2 fun H3 => R σ H3) : gSub to ti t v σ H R := h
theorem rd_sl {r : V → Option Int → Option Int → Hp → VK → Prop} {te : TE} {tl th : TO} (h : te σ H fun x H1 => tl σ H1 fun l H2 => th σ H2 fun u H3 => r x l u H3 Q) : tSl r te tl th σ H Q := h
theorem rd_nop {R : Option Int → Hp → Prop} (h : R none H) : tNoPart σ H R := h
theorem rd_part {t : TE} {R : Option Int → Hp → Prop} (h : t σ H fun x H1 => ∃ i, x = .int i ∧ R (some i) H1) : tPart t σ H R := h
theorem rd_int {i : Int} {P : Int → Prop} (h : P i) : ∃ k, V.int i = V.int k ∧ P k := ⟨i, rfl, h⟩
theorem rd_slL {K : PySem.W.Frag} {a : Addr} {xs : List V} {lo hi : Option Int} (h : SqL K H a xs) (q : ∀ p, H p = none → Q (.ref p) (upd H p (.lst (cutV xs lo hi)))) : rSlL K (.ref a) lo hi H Q := ⟨a, xs, rfl, h, q⟩
theorem rd_lenL {K : PySem.W.Frag} {a : Addr} {ys : List V} (h : SqL K H a ys) (q : Q (.int ys.length) H) : rLenL K [.ref a] H Q := ⟨a, ys, rfl, .inl h, q⟩
theorem rd_abs {i : Int} (q : Q (.int (if i < 0 then -i else i)) H) : rAbs1 [.int i] H Q := ⟨i, rfl, q⟩
theorem rd_max {i j : Int} (q : Q (.int (max i j)) H) : rMaxI [.int i, .int j] H Q := ⟨i, j, rfl, by
  have e : (if j > i then j else i) = max i j := by omega
  rw [e]; exact q⟩
theorem rd_min {i j : Int} (q : Q (.int (min i j)) H) : rMinI [.int i, .int j] H Q := ⟨i, j, rfl, by
  have e : (if j < i then j else i) = min i j := by omega
  rw [e]; exact q⟩
theorem rd_isi {K : PySem.W.Frag} {x : V} {t : Value} {T : String} {b : Bool} (h : TyOf K H x t) (e : PySem.W.kitOne K t (.type T) = some b) (q : Q (.bl b) H) : rIsi K [x, .ty T] H Q := ⟨x, t, T, b, rfl, h, e, q⟩
theorem rd_if {c : Prop} [Decidable c] {A B : Prop} (h1 : c → A) (h2 : ¬ c → B) : if decide c = true then A else B := by
  by_cases h : c
  · rw [decide_eq_true h, if_pos rfl]; exact h1 h
  · rw [decide_eq_false h, if_neg Bool.false_ne_true]; exact h2 h
theorem rd_ifn {c : Prop} [Decidable c] {A B : Prop} (h1 : ¬ c → A) (h2 : c → B) : if (!decide c) = true then A else B := by
  by_cases h : c
  · rw [decide_eq_true h]; exact (if_neg (by decide)).mpr (h2 h)
  · rw [decide_eq_false h]; exact (if_pos rfl).mpr (h1 h)
theorem rd_for {wi : TI} {g : TG} {tb : TS} (h : wi σ H fun J H1 => ∃ W : Nat → Nat → St → Hp → Prop, (∃ m, W 0 m σ H1) ∧ ∀ i m σ H, W i m σ H →
  (J.stop i H ∧ D.nx σ H) ∨ (J.go i H ∧ ∃ N : St → Hp → Prop, (∀ σ' H', N σ' H' → ∃ m', m' < m ∧ W (i + 1) m' σ' H') ∧ ∀ x H', J.yld i H x H' → g x σ H' fun σ2 H2 => tb { D with nx := N, ct := N, bk := D.nx } σ2 H2)) : tFor wi g tb D σ H := h
theorem rd_rng1 {ta : TA} {R : It → Hp → Prop} (h : ta σ H fun vs H1 => ∃ j : Int, vs = [.int j] ∧ -(2 ^ 62) ≤ j ∧ j < 2 ^ 62 ∧ R (Itr 0 j.toNat) H1) : iRng1 ta σ H R := h
theorem rd_ilist {K : PySem.W.Frag} {tl : TE} {R : It → Hp → Prop} (h : tl σ H fun x H1 => ∃ a, x = .ref a ∧ (∃ xs, SqL K H1 a xs) ∧ R (Itl K a) H1) : iList K tl σ H R := h
theorem rd_comp {vs : List Str} {js : List Nat} {wi : TI} {g : TG} {tt : TT} {te : TE} (h : wi σ H fun J H1 => ∀ D, H1 D = none → CompW J vs js σ g tt te Q D H1) : tComp vs js wi g tt te σ H Q := h
theorem rd_yes {R : Bool → Hp → Prop} (h : R true H) : tYes σ H R := h
theorem rd_iteT {A B : Prop} (h : A) : if true = true then A else B := iteT h
theorem rd_iteF {A B : Prop} (h : B) : if false = true then A else B := iteF h
theorem rd_iteNF {A B : Prop} (h : A) : if (!false) = true then A else B := iteT h
theorem rd_iteNT {A B : Prop} (h : B) : if (!true) = true then A else B := iteF h
theorem cut_lo {ms : List Int} {k : Nat} : cutV (ms.map V.int) (some (k : Int)) none = (ms.drop k).map V.int := by
  unfold cutV
  rw [HT.sIx_nat, HT.sIx_none, List.length_map, ← List.map_drop]
  by_cases h : k ≤ ms.length
  · rw [Nat.min_eq_left h, List.take_of_length_le (by rw [List.length_map, List.length_drop]; omega)]
  · rw [List.drop_eq_nil_of_le (by omega : ms.length ≤ min k ms.length), List.drop_eq_nil_of_le (by omega : ms.length ≤ k)]
    simp
theorem cut_hi {ms : List Int} {k : Nat} : cutV (ms.map V.int) none (some (k : Int)) = (ms.take k).map V.int := by
  unfold cutV
  rw [HT.sIx_nat, HT.sIx_none, List.length_map, List.drop_zero, Nat.sub_zero, ← List.map_take]
  by_cases h : k ≤ ms.length
  · rw [Nat.min_eq_left h]
  · rw [Nat.min_eq_right (by omega), List.take_of_length_le (Nat.le_refl _), List.take_of_length_le (by omega)]
theorem same_new {H : Hp} {p : Addr} (h : H p = none) (o : HO) : Same H (upd H p o) := fun b u q => by rw [upd_ne (ne_of_none q h)]; exact q
end
end L2


/-! Data that are read through the heap, and == of them. -/
namespace L2
open PySem PySem.Spec PyProof.Rows
mutual
inductive DV (K : PySem.W.Frag) (H : Hp) : V → PyData → Prop
  | non : DV K H .non .none
  | bl (b : Bool) : DV K H (.bl b) (.bool b)
  | int (i : Int) : DV K H (.int i) (.int i)
  | str (x : Str) : DV K H (.str x) (.str x)
  | lst {a : Addr} {xs : List V} {ds : List PyData} : SqL K H a xs → DVs K H xs ds → DV K H (.ref a) (.list ds)
  | tup {a : Addr} {xs : List V} {ds : List PyData} : SqT K H a xs → DVs K H xs ds → DV K H (.ref a) (.tuple ds)
inductive DVs (K : PySem.W.Frag) (H : Hp) : List V → List PyData → Prop
  | nil : DVs K H [] []
  | cons {x : V} {d : PyData} {xs : List V} {ds : List PyData} : DV K H x d → DVs K H xs ds → DVs K H (x :: xs) (d :: ds)
end
section
variable {X : Cx} {pins : List (Addr × Obj)} {σ : St} {H : Hp} {s : Shared}
mutual
theorem DV.reads (I : Inv X pins σ H s) : ∀ {x : V} {d : PyData} {v : Value}, DV X.K H x d → RelV x v → ∃ as, Reads s.heap v d as
  | _, _, _, .non, r => by cases r; exact ⟨_, .none⟩
  | _, _, _, .bl b, r => by cases r; exact ⟨_, .bool b⟩
  | _, _, _, .int i, r => by obtain ⟨t, rfl⟩ := r; exact ⟨_, .int i t⟩
  | _, _, _, .str x, r => by obtain ⟨t, rfl⟩ := r; exact ⟨_, .str x t⟩
  | _, _, _, .lst (a := a) h ds, r => by
    cases r
    obtain ⟨its, rv, ⟨o, n, e, c, _, d⟩, _⟩ := I.list h
    obtain ⟨as, q⟩ := DVs.reads I ds rv
    exact ⟨_, .list e c d (by simpa using q)⟩
  | _, _, _, .tup (a := a) h ds, r => by
    cases r
    obtain ⟨its, rv, ⟨o, e, c, n, d⟩, _⟩ := I.tuple h
    obtain ⟨as, q⟩ := DVs.reads I ds rv
    exact ⟨_, .tuple e c d (by simpa using q)⟩
theorem DVs.reads (I : Inv X pins σ H s) : ∀ {xs : List V} {ds : List PyData} {vs : List Value}, DVs X.K H xs ds → Vals xs vs → ∃ as, ReadsAll s.heap vs ds as
  | _, _, _, .nil, r => by cases r; exact ⟨_, .nil⟩
  | _, _, _, .cons h t, r => by
    cases r with
    | cons r1 r2 =>
      obtain ⟨as, q⟩ := DV.reads I h r1
      obtain ⟨bs, p⟩ := DVs.reads I t r2
      exact ⟨_, .cons q p⟩
end
end
theorem DVs.ints {K : PySem.W.Frag} {H : Hp} : ∀ ns : List Int, DVs K H (ns.map V.int) (ns.map PyData.int)
  | [] => .nil
  | n :: r => .cons (.int n) (DVs.ints r)
theorem lay_ints : ∀ ns : List Int, PyData.canLayAll0 (ns.map PyData.int) = true ∧ PyData.depthAll (ns.map PyData.int) = 0
  | [] => ⟨rfl, rfl⟩
  | n :: r => by
    obtain ⟨h1, h2⟩ := lay_ints r
    simp [PyData.canLayAll0, PyData.canLay0, PyData.depthAll, PyData.depth, h1, h2]
theorem shaped_ints (ns : List Int) : SeqAt.shaped (.list (ns.map PyData.int)) = true := by
  obtain ⟨h1, h2⟩ := lay_ints ns
  simp [SeqAt.shaped, PyData.canLay0, PyData.depth, h1, h2]
theorem eqv_ints : ∀ ns ms : List Int, PyData.eqvAll (ns.map PyData.int) (ms.map PyData.int) = decide (ns = ms)
  | [], [] => rfl
  | [], _ :: _ => rfl
  | _ :: _, [] => rfl
  | n :: ns, m :: ms => by
    rw [List.map_cons, List.map_cons, PyData.eqvAll, PyData.eqv, eqv_ints ns ms, Bool.eq_iff_iff]
    simp
section
variable {X : Cx}
def rEqD (K : PySem.W.Frag) : R2 := fun x y H Q => ∃ d e, DV K H x d ∧ DV K H y e ∧ SeqAt.shaped d = true ∧ SeqAt.shaped e = true ∧ Q (.bl (PyData.eqv d e)) H
def rNeD (K : PySem.W.Frag) : R2 := fun x y H Q => ∃ d e, DV K H x d ∧ DV K H y e ∧ SeqAt.shaped d = true ∧ SeqAt.shaped e = true ∧ Q (.bl (!PyData.eqv d e)) H
theorem op_eqD (hu : X.A.units + 64 < cLine) : OpR X (compareOp .Eq) (rEqD X.K) := by
  intro pins s σ H x y v u Q I rx ry h
  obtain ⟨d, e, h1, h2, h3, h4, q⟩ := h
  obtain ⟨as, r1⟩ := h1.reads I rx
  obtain ⟨bs, r2⟩ := h2.reads I ry
  exact eq_dataH r1 r2 h3 h4 hu ⟨.bl _, H, I, rfl, q⟩
theorem op_neD (hu : X.A.units + 64 < cLine) : OpR X (compareOp .NotEq) (rNeD X.K) := by
  intro pins s σ H x y v u Q I rx ry h
  obtain ⟨d, e, h1, h2, h3, h4, q⟩ := h
  obtain ⟨as, r1⟩ := h1.reads I rx
  obtain ⟨bs, r2⟩ := h2.reads I ry
  exact ne_dataH r1 r2 h3 h4 hu ⟨.bl _, H, I, rfl, q⟩
end
end L2

/-! sum, all, any of lists; module ints; tuples walked. -/
namespace L2
open PySem PySem.Spec PyProof.Rows
section
variable {X : Cx}
def rSumL (K : PySem.W.Frag) : List V → Hp → VK → Prop := fun xs H Q => ∃ a ns, xs = [.ref a] ∧ SqL K H a (List.map V.int ns) ∧ Q (.int (List.sum ns)) H
theorem call_sumL (hc : X.calm = true) : CallR X (.builtin "sum") (rSumL X.K) := by
  intro pins s σ H xs us Q I r h
  obtain ⟨a, ns, rfl, hq, q⟩ := h
  obtain ⟨u, rfl, r1⟩ := vals1 r
  cases (show u = Value.ref a from r1)
  obtain ⟨its, rv, pl, hz⟩ := I.list hq
  have hi : IntsAre its ns := intsAre_of rv
  obtain ⟨zs, hx⟩ := hi.allInts.items
  have e1 : numsOf its = ns := hi.numsOf
  have e2 : numsOf its = zs.toList.map (·.1) := by
    have := nums_intItems zs
    rw [← hx] at this
    simpa using this
  have hl : s.heap.IsList a (intItems zs) := by rw [← hx]; exact pl.isList
  refine sum_intListG (I.ok.hd hc) hl fun h' tk t' hk => ?_
  refine ⟨.int ns.sum, H, I.kept hk, ⟨t', ?_⟩, q⟩
  rw [preSum_eq, List.take_of_length_le (by simp), ← e2, e1]
theorem bools_get : ∀ {bs : List Bool} {its : List Value} {i : Nat} {v : Value}, Vals (bs.map V.bl) its → its[i]? = some v → ∃ b, bs[i]? = some b ∧ v = .bool b
  | [], _, i, v, .nil, e => by simp at e
  | b :: bs, _, 0, v, .cons r t, e => by
    simp at e; subst e
    exact ⟨b, rfl, r⟩
  | b :: bs, _, i + 1, v, .cons r t, e => by
    obtain ⟨c, h1, h2⟩ := bools_get (i := i) (v := v) t (by simpa using e)
    exact ⟨c, by simpa using h1, h2⟩
theorem all_range (bs : List Bool) : (List.range bs.length).all (fun i => bs.getD i true) = bs.all id := by
  rw [Bool.eq_iff_iff, List.all_eq_true, List.all_eq_true]
  constructor
  · intro h b hb
    obtain ⟨i, hi, rfl⟩ := List.mem_iff_getElem.mp hb
    have := h i (List.mem_range.mpr hi)
    simpa [List.getD, hi] using this
  · intro h i hi
    have hi' := List.mem_range.mp hi
    have := h bs[i] (List.getElem_mem hi')
    simpa [List.getD, hi'] using this
theorem it_list {s : Shared} {l : Addr} {items : Array Value} {A : Around} {E : Value → Shared → Prop} {Q : Value → Shared → Prop} {prog : Program} {w : World} (hl : s.heap.IsList l items)
    (h : ∀ s₂ : Shared, s₂ = { s with heap := s.heap.push { cls := .type "list_iterator", data := .fields #[.ref l, .int 0 0] } } → (s₂.heap.IsListIter s.heap.objs.size l 0 ∧ s₂.heap.IsList l items) → l ≠ s.heap.objs.size → Q (.ref s.heap.objs.size) s₂) :
    wpAny (model prog w) A (pyIter (.ref l)) Q E s := by
  have hlt : l < s.heap.objs.size := by obtain ⟨_, e, _⟩ := hl; exact Heap.lt_size e
  exact wpAny_pyIter_list hl (h _ rfl ⟨⟨_, Heap.get?_push_size _ rfl, rfl, rfl⟩, hl.push _⟩ (Nat.ne_of_lt hlt))
def rAllL (K : PySem.W.Frag) : List V → Hp → VK → Prop := fun xs H Q => ∃ a bs, xs = [.ref a] ∧ SqL K H a (List.map V.bl bs) ∧ Q (.bl (bs.all id)) H
def rAnyL (K : PySem.W.Frag) : List V → Hp → VK → Prop := fun xs H Q => ∃ a bs, xs = [.ref a] ∧ SqL K H a (List.map V.bl bs) ∧ Q (.bl (bs.any id)) H
theorem call_allL (hc : X.calm = true) : CallR X (.builtin "all") (rAllL X.K) := by
  intro pins s σ H xs us Q I r h
  obtain ⟨a, bs, rfl, hq, q⟩ := h
  obtain ⟨u, rfl, r1⟩ := vals1 r
  cases (show u = Value.ref a from r1)
  obtain ⟨its, rv, pl, hz⟩ := I.list hq
  have hlen : bs.length = its.length := by simpa using rv.length
  refine call_all_walk (it_list pl.isList fun s₂ e st hne => ?_)
  subst e
  refine ⟨_, _, _, _, _, _, fun i => bs.getD i true, rfl, Walks.list (A := X.A.in1) (I.ok.hd hc) _ a hne its.toArray, st, fun i v s' Q' E' hP hQ => ?_, fun h' tk hk => ?_⟩
  · obtain ⟨b, h1, rfl⟩ := bools_get rv (by simpa using hP)
    have e : bs.getD i true = b := by simp [List.getD, h1]
    exact wpAny_truthy_bool (by have hQ2 := hQ; dsimp only at hQ2; rw [e] at hQ2; exact hQ2)
  · refine ⟨.bl (bs.all id), H, I.kept (fun b o e => hk b o (fun z => ?_) (Heap.get?_push_of_some _ e)), ?_, q⟩
    · have z' : b = s.heap.objs.size := by simpa using z
      rw [z'] at e
      exact absurd (Heap.lt_size e) (Nat.lt_irrefl _)
    · show Value.bool _ = Value.bool _
      rw [List.size_toArray, ← hlen, all_range]
end
/-! ### the same rules with the written part named: within a block -/
section
variable {X : Cx} {K : PySem.W.Frag}
theorem call_isinstK (h : X.K = K) : CallR X (.builtin "isinstance") (rIsi K) := by subst h; exact call_isinst
theorem ix_listK (h : X.K = K) : IxR X (rIxL K) := by subst h; exact ix_list
end
section
variable {σ : St} {H : Hp} {Q : VK} {D : Ends}
theorem rd_sumL {K : PySem.W.Frag} {a : Addr} {ns : List Int} (h : SqL K H a (ns.map V.int)) (q : Q (.int ns.sum) H) : rSumL K [.ref a] H Q := ⟨a, ns, rfl, h, q⟩
theorem rd_allL {K : PySem.W.Frag} {a : Addr} {bs : List Bool} (h : SqL K H a (bs.map V.bl)) (q : Q (.bl (bs.all id)) H) : rAllL K [.ref a] H Q := ⟨a, bs, rfl, h, q⟩
theorem rd_ixT {K : PySem.W.Frag} {p : Addr} {xs : List V} {i : Int} {v : V} (h : SqT K H p xs) (e : atI xs i = some v) (q : Q v H) : rIxT K (.ref p) (.int i) H Q := ⟨p, xs, i, v, rfl, rfl, h, e, q⟩
end
end L2

namespace L2
open PySem PySem.Spec PyProof.Rows

/-! ### lists of pairs as tables -/
section
variable {κ : Type} [DecidableEq κ]
def valV (kvs : List (κ × V)) (k : κ) : Option V := (kvs.find? fun kv => decide (kv.1 = k)).map (·.2)
/-- in its place, or at the end -/
def putK (kvs : List (κ × V)) (k : κ) (v : V) : List (κ × V) :=
  if (kvs.any fun kv => decide (kv.1 = k)) = true then kvs.map (fun kv => if kv.1 = k then (kv.1, v) else kv) else kvs ++ [(k, v)]
def dropK (kvs : List (κ × V)) (k : κ) : List (κ × V) := kvs.filter fun kv => decide (kv.1 ≠ k)

end


/-! ### a tracked dict, its keys ints and texts or tuples of these -/
/-- raw entries of a dict with tuple keys -/
abbrev KT (H : Hp) : List (List Key × V) → List (List Key × Addr × Value) → Prop := Paired fun p q => p.1 = q.1 ∧ H q.2.1 = some (.tup (p.1.map kV)) ∧ RelV p.2 q.2.2
section
variable {P : Program} {w : World} {H : Hp} {h : Heap} {a : Addr}
end

/-- what the dict at a holds at the key y -/
def DGet (H : Hp) (a : Addr) (y : V) (r : Option V) : Prop :=
  (∃ kvs k, Rd H a (.dK kvs) ∧ y = kV k ∧ r = valV kvs k) ∨ ∃ kvs k b, Rd H a (.dT kvs) ∧ y = .ref b ∧ H b = some (.tup (k.map kV)) ∧ r = valV kvs k
/-- the heap behind a[y] = v -/
def DPut (H : Hp) (a : Addr) (y v : V) (H' : Hp) : Prop :=
  (∃ kvs k, H a = some (.dK kvs) ∧ y = kV k ∧ kvs.length < sizeLine ∧ H' = upd H a (.dK (putK kvs k v))) ∨
  ∃ kvs k b, H a = some (.dT kvs) ∧ y = .ref b ∧ H b = some (.tup (k.map kV)) ∧ kvs.length < sizeLine ∧ H' = upd H a (.dT (putK kvs k v))
section
variable {X : Cx} {pins : List (Addr × Obj)} {σ : St} {H : Hp} {s : Shared} {a : Addr} {y v : V} {u r : Value} {o : Option V} {A : Around} {E : Value → Shared → Prop}

theorem Inv.big (I : Inv X pins σ H s) : sysModules < s.heap.objs.size := by
  have h : mainGlobals < s.heap.objs.size := (I.mod.glob.keeps I.bk).lt
  exact Nat.lt_trans (by decide) h

end

section
variable {X : Cx} {pins : List (Addr × Obj)} {σ : St} {H : Hp} {s : Shared} {a : Addr} {kvs : List (Key × V)} {k : Key} {u : Value} {A : Around} {E : Value → Shared → Prop}
end


/-! ### readings and rules -/
/-- the element of a subscription, not a slice -/
def NoSl (i : Expr) : Prop := ∀ ov iv, subscripted i false ov iv = operate [ov, iv] (getItem ov iv)
/-- d[y] -/
def tDGet (td ty : TE) : TE := fun σ H Q => td σ H fun x H1 => ty σ H1 fun y H2 => ∃ a v, x = .ref a ∧ DGet H2 a y (some v) ∧ Q v H2
/-- y in d, y not in d -/
def tDIn (ty td : TE) : TE := fun σ H Q => ty σ H fun y H1 => td σ H1 fun x H2 => ∃ a o, x = .ref a ∧ DGet H2 a y o ∧ Q (.bl o.isSome) H2
def tDNotIn (ty td : TE) : TE := fun σ H Q => ty σ H fun y H1 => td σ H1 fun x H2 => ∃ a o, x = .ref a ∧ DGet H2 a y o ∧ Q (.bl (!o.isSome)) H2
/-- d[y] = v -/
def sDPut (td ty tv : TE) : TS := fun D σ H => tv σ H fun v H1 => td σ H1 fun x H2 => ty σ H2 fun y H3 => ∃ a H4, x = .ref a ∧ DPut H3 a y v H4 ∧ D.nx σ H4
/-- d[y] op= v -/
def sDAug (td ty tv : TE) (rd : V → V → Hp → VK → Prop) : TS := fun D σ H => td σ H fun x H1 => ty σ H1 fun y H2 => ∃ a v, x = .ref a ∧ DGet H2 a y (some v) ∧
  tv σ H2 fun y2 H3 => rd v y2 H3 fun z H4 => ∃ H5, DPut H4 a y z H5 ∧ D.nx σ H5
/-- del d[y] -/
def sDDel (td ty : TE) : TS := fun D σ H => td σ H fun x H1 => ty σ H1 fun y H2 => ∃ a kvs k, x = .ref a ∧ H2 a = some (.dK kvs) ∧ y = kV k ∧ (valV kvs k).isSome = true ∧ D.nx σ (upd H2 a (.dK (dropK kvs k)))

section
variable {X : Cx} {o i e value : Expr} {pos pos' tpos : Pos} {td ty tv : TE}
end


/-! ### displays -/
theorem dk_empty {P : Program} {w : World} {H : Hp} (h : Heap) (hb : sysModules < h.objs.size) : ObjOk P w H (h.push { cls := .type "dict", data := .dict #[] }) h.objs.size (.dK []) :=
  ⟨Nat.zero_le _, beq_eq_false_iff_ne.mpr (Ne.symm (Nat.ne_of_lt hb)), [], .nil, Heap.DictOf.new h⟩
/-- {}, to be a dict of the kind that is wanted -/
def tDNewK : TE := fun _ H Q => ∀ p, H p = none → Q (.ref p) (upd H p (.dK []))
def tDNewT : TE := fun _ H Q => ∀ p, H p = none → Q (.ref p) (upd H p (.dT []))
section
variable {X : Cx} {pos : Pos}
theorem pe_dnewK : PE X (.Dict [] [] pos) tDNewK := fun pins s σ H Q I h =>
  wpAny_Dict_empty ⟨.ref s.heap.objs.size, _, I.laid (a := s.heap.objs.size) (o := .dK []) (t' := s.toks) (fun _ _ q => Heap.get?_push_of_some _ q) (Nat.le_refl _) (dk_empty s.heap I.big), rfl, h _ (I.hok.fresh (Nat.le_refl _))⟩
end

/-- the pairs of a display, from the left -/
def tPairs : List (TE × TE) → St → Hp → (List (V × V) → Hp → Prop) → Prop
  | [], _, H, Q => Q [] H
  | (tk, tv) :: r, σ, H, Q => tk σ H fun x H1 => tv σ H1 fun y H2 => tPairs r σ H2 fun ps H3 => Q ((x, y) :: ps) H3
abbrev VV : List (V × V) → List (Value × Value) → Prop := Paired fun p q => RelV p.1 q.1 ∧ RelV p.2 q.2
def PPs (X : Cx) (pos : Pos) (keys : List (Option Expr)) (values : List Expr) (trs : List (TE × TE)) : Prop :=
  ∀ (pins : List (Addr × Obj)) (s : Shared) (σ : St) (H : Hp) (Q : List (V × V) → Hp → Prop), Inv X pins σ H s → tPairs trs σ H Q →
    wpAny (model X.prog X.w) X.A (evalPairs (pairTrees keys values X.env pos)) (fun vs s' => ∃ ps H', Inv X pins σ H' s' ∧ VV ps vs ∧ Q ps H') X.xe s
def mergeK (kvs more : List (Key × V)) : List (Key × V) := more.foldl (fun acc kv => putK acc kv.1 kv.2) kvs
/-- {k: v, ..} with keys ints and texts; the new dict stands empty while the pairs are made -/
def tDisp (trs : List (TE × TE)) : TE := fun σ H Q => ∀ p, H p = none → tPairs trs σ (upd H p (.dK [])) fun ps H2 => H2 p = some (.dK []) ∧ ∃ kvs : List (Key × V), ps = kvs.map (fun kv => (kV kv.1, kv.2)) ∧ kvs.length ≤ 15 ∧ Q (.ref p) (upd H2 p (.dK (mergeK [] kvs)))
/-! ### methods -/
/-- a method call o.m(e) of a built-in, with one argument: what must be seen of the text -/
structure M1 (X : Cx) (o : Expr) (m : Str) (apos : Pos) (e : Expr) (cpos : Pos) : Prop where
  base : attributeBase o m X.env (eval o X.env) = eval o X.env
  few : ((backTo cpos (starEach [e] X.env)).all (fun x => !x.1) && (backToKw cpos (keywordEach [] X.env)).all (fun x => x.1.isSome)
    && decide (([e] : List Expr).length + ([] : List Keyword).length + (if ([] : List Keyword).isEmpty then 0 else 1) < 30)) = true
  line : (apos.endLine == cpos.line) = true
  trees : backTo cpos (starEach [e] X.env) = [(false, eval e X.env)]
structure M2 (X : Cx) (o : Expr) (m : Str) (apos : Pos) (e f : Expr) (cpos : Pos) : Prop where
  base : attributeBase o m X.env (eval o X.env) = eval o X.env
  few : ((backTo cpos (starEach [e, f] X.env)).all (fun x => !x.1) && (backToKw cpos (keywordEach [] X.env)).all (fun x => x.1.isSome)
    && decide (([e, f] : List Expr).length + ([] : List Keyword).length + (if ([] : List Keyword).isEmpty then 0 else 1) < 30)) = true
  line : (apos.endLine == cpos.line) = true
  trees : backTo cpos (starEach [e, f] X.env) = [(false, eval e X.env), (false, eval f X.env)]

/-- a is a dict, whatever its keys -/
def IsD (H : Hp) (a : Addr) : Prop := (∃ kvs, Rd H a (.dK kvs)) ∨ ∃ kvs, Rd H a (.dT kvs)
section
variable {X : Cx} {pins : List (Addr × Obj)} {σ : St} {H : Hp} {s : Shared} {a : Addr} {y d : V} {u r : Value} {o : Option V} {A : Around} {E : Value → Shared → Prop}
end

def tDGet1 (td ty : TE) : TE := fun σ H Q => td σ H fun x H1 => ∃ a, x = .ref a ∧ IsD H1 a ∧ ty σ H1 fun y H2 => ∃ o, DGet H2 a y o ∧ Q (o.getD .non) H2
def tDGet2 (td ty tx : TE) : TE := fun σ H Q => td σ H fun x H1 => ∃ a, x = .ref a ∧ IsD H1 a ∧ ty σ H1 fun y H2 => tx σ H2 fun z H3 => ∃ o, DGet H3 a y o ∧ Q (o.getD z) H3
/-- d.pop(k): there; d.pop(k, x): there or not -/
def tDPop1 (td ty : TE) : TE := fun σ H Q => td σ H fun x H1 => ∃ a, x = .ref a ∧ IsD H1 a ∧ ty σ H1 fun y H2 => ∃ kvs k v, H2 a = some (.dK kvs) ∧ y = kV k ∧ valV kvs k = some v ∧ Q v (upd H2 a (.dK (dropK kvs k)))
def tDPop2 (td ty tx : TE) : TE := fun σ H Q => td σ H fun x H1 => ∃ a, x = .ref a ∧ IsD H1 a ∧ ty σ H1 fun y H2 => tx σ H2 fun z H3 => ∃ kvs k, H3 a = some (.dK kvs) ∧ y = kV k ∧
  (∀ v, valV kvs k = some v → Q v (upd H3 a (.dK (dropK kvs k)))) ∧ (valV kvs k = none → Q z H3)
section
variable {X : Cx} {o e f : Expr} {apos cpos : Pos} {td ty tx : TE}
end

/-! ### dict(d): a copy -/
section
variable {X : Cx} {pins : List (Addr × Obj)} {σ : St} {H : Hp} {s : Shared} {a : Addr} {kvs : List (Key × V)} {A : Around} {E : Value → Shared → Prop}
end


section
variable {X : Cx} {pins : List (Addr × Obj)} {σ : St} {H : Hp} {s : Shared} {a : Addr} {y : V} {u : Value} {A : Around} {E : Value → Shared → Prop}
end
end L2


/-! Texts: compared, cut, joined, walked sign by sign. -/
namespace L2
open PySem PySem.Spec PyProof.Rows
section
variable {X : Cx}
def rLeS : R2 := fun x y H Q => ∃ i j, x = .str i ∧ y = .str j ∧ Q (.bl (!decide (j.cps.toList < i.cps.toList))) H
def rLenS : List V → Hp → VK → Prop := fun xs H Q => ∃ z, xs = [.str z] ∧ z.length ≤ sizeLine ∧ Q (.int z.length) H
def rInS : R2 := fun x y H Q => ∃ i j, x = .str i ∧ y = .str j ∧ Q (.bl (!(Builtin.Str.occurrences j i 0 j.length 1).isEmpty)) H
def rCatS : R2 := fun x y H Q => ∃ i j, x = .str i ∧ y = .str j ∧ i.length + j.length ≤ sizeLine ∧ Q (.str (i ++ j)) H
/-- sep.join(xs) -/
def rJoin (K : PySem.W.Frag) : V → List V → Hp → VK → Prop := fun x vs H Q => ∃ z a ys, x = .str z ∧ vs = [.ref a] ∧ SqL K H a (List.map V.str ys) ∧ (ys.map (·.length)).sum + ys.length * z.length ≤ 16777216 ∧ Q (.str (Txt.join z ys)) H
/-- t[lo:hi] -/
def rSlS : V → Option Int → Option Int → Hp → VK → Prop := fun x lo hi H Q => ∃ z, x = .str z ∧ z.length ≤ sizeLine ∧ Q (.str (Txt.slice z lo hi)) H
end
/-- a text's signs -/
def Its (x : Str) : It := ⟨fun i _ => i < x.cps.size, fun i H v H' => H' = H ∧ ∃ c, x.cps[i]? = some c ∧ v = .str ⟨#[c]⟩, fun i _ => x.cps.size ≤ i⟩
section
variable {X : Cx} {tg : Expr}
def iStr (tl : TE) : TI := fun σ H R => tl σ H fun x H1 => ∃ z, x = .str z ∧ R (Its z) H1
end
section
variable {σ : St} {H : Hp} {Q : VK} {D : Ends}
end
end L2

namespace L2
open PySem PySem.Spec PyProof.Rows
section
variable {es : List Expr} {env : Env}
theorem stx_Constant {c j p} : starEach (.Constant c j p :: es) env = (false, eval (.Constant c j p) env) :: starEach es env := rfl
theorem stx_Name {x p} : starEach (.Name x p :: es) env = (false, eval (.Name x p) env) :: starEach es env := rfl
theorem stx_BinOp {a o b p} : starEach (.BinOp a o b p :: es) env = (false, eval (.BinOp a o b p) env) :: starEach es env := rfl
theorem stx_UnaryOp {o b p} : starEach (.UnaryOp o b p :: es) env = (false, eval (.UnaryOp o b p) env) :: starEach es env := rfl
theorem stx_Compare {a o b p} : starEach (.Compare a o b p :: es) env = (false, eval (.Compare a o b p) env) :: starEach es env := rfl
theorem stx_Call {a o b p} : starEach (.Call a o b p :: es) env = (false, eval (.Call a o b p) env) :: starEach es env := rfl
theorem stx_Subscript {a o p} : starEach (.Subscript a o p :: es) env = (false, eval (.Subscript a o p) env) :: starEach es env := rfl
theorem stx_List {a p} : starEach (.List a p :: es) env = (false, eval (.List a p) env) :: starEach es env := rfl
theorem stx_Tuple {a k p} : starEach (.Tuple a k p :: es) env = (false, eval (.Tuple a k p) env) :: starEach es env := rfl
theorem stx_Dict {a k p} : starEach (.Dict a k p :: es) env = (false, eval (.Dict a k p) env) :: starEach es env := rfl
theorem stx_ListComp {a b c p} : starEach (.ListComp a b c p :: es) env = (false, eval (.ListComp a b c p) env) :: starEach es env := rfl
end
end L2

namespace L2
open PySem PySem.Spec PyProof.Rows
section
variable {X : Cx}
/-- range(j) as a thing -/
def rRng1 : List V → Hp → VK → Prop := fun xs H Q => ∃ j, xs = [.int j] ∧ ∀ r, H r = none → Q (.ref r) (upd H r (.rng 0 j))
def upN (n : Nat) : List Int := (List.range n).map fun (i : Nat) => (i : Int)
/-- list(range(j)) -/
def rListR : List V → Hp → VK → Prop := fun xs H Q => ∃ r j, xs = [.ref r] ∧ H r = some (.rng 0 j) ∧ 0 ≤ j ∧ j ≤ 100000 ∧ ∀ l, H l = none → Q (.ref l) (upd H l (.lst ((upN j.toNat).map V.int)))
end
end L2

namespace L2
open PySem PySem.Spec PyProof.Rows
section
variable {X : Cx}
/-- xs.index(k) of a list of ints that has it -/
def rIndexI (K : PySem.W.Frag) : V → List V → Hp → VK → Prop := fun x vs H Q => ∃ a ns k, x = .ref a ∧ vs = [.int k] ∧ SqL K H a (List.map V.int ns) ∧ k ∈ ns ∧ Q (.int (ns.idxOf k : Nat)) H
/-- max(xs) of a list of ints that has one -/
def rMaxL (K : PySem.W.Frag) : List V → Hp → VK → Prop := fun xs H Q => ∃ a ns, xs = [.ref a] ∧ SqL K H a (List.map V.int ns) ∧ ns ≠ [] ∧ ∀ M, M ∈ ns → (∀ z, z ∈ ns → z ≤ M) → Q (.int M) H
/-- xs[::-1] -/
def rRevL (K : PySem.W.Frag) : V → Hp → VK → Prop := fun x H Q => ∃ a xs, x = .ref a ∧ SqL K H a xs ∧ ∀ p, H p = none → Q (.ref p) (upd H p (.lst xs.reverse))
def tRev (K : PySem.W.Frag) (te : TE) : TE := fun σ H Q => te σ H fun x H1 => rRevL K x H1 Q
/-- int(truth) -/
def rIntB : List V → Hp → VK → Prop := fun xs H Q => ∃ k, xs = [.bl k] ∧ Q (.int (if k then 1 else 0)) H
theorem call_intB : CallR X (.type "int") rIntB := by
  intro pins s σ H xs us Q I r h
  exact call_int1 pins s σ H xs us Q I r (.inr h)
end
section
variable {K : PySem.W.Frag} {H : Hp} {Q : VK} {σ : St}
theorem rd_intB {k : Bool} (q : Q (.int (if k then 1 else 0)) H) : rIntB [.bl k] H Q := ⟨k, rfl, q⟩
end
end L2

/-! enumerate in loops with a tuple of two names; min of a list -/
namespace L2
open PySem PySem.Spec PyProof.Rows
section
variable {X : Cx} {pins : List (Addr × Obj)} {σ : St} {H : Hp} {s : Shared} {h' : Heap}
/-- several untracked records of ours have turned -/
theorem Inv.turnedL {t' : Nat} {ch : List Addr} (I : Inv X pins σ H s) (k : ∀ b o, b ∉ ch → s.heap.get? b = some o → h'.get? b = some o) (f : ∀ b ∈ ch, FpOk X pins H b) : Inv X pins σ H { s with heap := h', toks := t' } := by
  have nit : ∀ b u, H b = some u → b ∉ ch := fun b u e z => by rw [(f b z).1] at e; cases e
  refine I.step (g' := s.gens) (d' := s.drawn) (ch := ch) (fun b hb => ?_) (fun b o _ _ hc e _ => k b o hc e) (fun b o _ _ hc e _ => ⟨o.slots, k b o hc e⟩) (fun _ _ _ _ n => n) (fun b o hc e => ⟨o, k b o hc e⟩) (fun _ _ e => e) (fun _ _ _ e => e)
    (fun b ps e => ⟨#[], by rw [e]; simp⟩) (fun m hm => ?_) (fun b u e => ?_) I.bare
  · obtain ⟨f0, f1, f2, f3, f4, f5⟩ := f b hb
    exact ⟨f3, f1, f4, f5⟩
  · obtain ⟨o, es, ep, ho, r⟩ := hm
    exact ⟨o, es, ep, k _ o (fun z => (f _ z).2.1 rfl) ho, r⟩
  · refine (I.hok b u e).stay (fun c v hc q => k c v ?_ q) (fun _ q => q) fun _ _ q => q
    rcases hc with z | z
    · rw [z]; exact nit b u e
    · exact nit c _ z
/-- .. and a new object is laid and tracked -/
theorem Inv.turnedN {t' : Nat} {ch : List Addr} {a : Addr} {o : HO} (I : Inv X pins σ H s) (k : ∀ b o, b ∉ ch → s.heap.get? b = some o → h'.get? b = some o) (f : ∀ b ∈ ch, FpOk X pins H b)
    (ha : s.heap.objs.size ≤ a) (new : ObjOk X.prog X.w (upd H a o) h' a o) : Inv X pins σ (upd H a o) { s with heap := h', toks := t' } := by
  have nit : ∀ b u, H b = some u → b ∉ ch := fun b u e z => by rw [(f b z).1] at e; cases e
  have hn := I.hok.fresh ha
  have old : ∀ b ob, s.heap.get? b = some ob → b ≠ a := fun b ob q => Nat.ne_of_lt (Nat.lt_of_lt_of_le (Heap.lt_size q) ha)
  have up : ∀ b u, H b = some u → upd H a o b = some u := fun b u q => by rw [upd_ne (ne_of_none q hn)]; exact q
  refine I.step (g' := s.gens) (d' := s.drawn) (ch := ch) (fun b hb => ?_) (fun b o _ _ hc e _ => k b o hc e) (fun b o _ _ hc e _ => ⟨o.slots, k b o hc e⟩) (fun b ob _ e n => by rw [upd_ne (old b ob e)]; exact n) (fun b o hc e => ⟨o, k b o hc e⟩) (fun b xs e => up _ _ e) (fun b ob u e => up _ _ e)
    (fun b ps e => ⟨#[], by rw [up _ _ e]; simp⟩) (fun m hm => ?_) (fun b u e => ?_) I.bare
  · obtain ⟨f0, f1, f2, f3, f4, f5⟩ := f b hb
    exact ⟨f3, f1, f4, f5⟩
  · obtain ⟨o, es, ep, ho, r⟩ := hm
    exact ⟨o, es, ep, k _ o (fun z => (f _ z).2.1 rfl) ho, r⟩
  · by_cases hb : b = a
    · subst hb; rw [upd_same] at e; cases e; exact new
    · rw [upd_ne hb] at e
      refine (I.hok b u e).stay (fun c v hc q => k c v ?_ q) (fun c q => up _ _ q) fun c xs q => up _ _ q
      rcases hc with z | z
      · rw [z]; exact nit b u e
      · exact nit c _ z
end
/-- the places and items of the list at a -/
def Ite (K : PySem.W.Frag) (a : Addr) : It :=
  ⟨fun i H => ∃ xs x, SqL K H a xs ∧ xs[i]? = some x, fun i H x H' => ∃ t y, H t = none ∧ H' = upd H t (.tup [.int i, y]) ∧ x = .ref t ∧ ∀ xs, SqL K H a xs → xs[i]? = some y, fun i H => ∃ xs, SqL K H a xs ∧ xs.length ≤ i⟩
section
variable {X : Cx} {elts : List Expr} {x1 : _} {tpos : Pos}
def iEnum (K : PySem.W.Frag) (ta : TA) : TI := fun σ H R => ta σ H fun vs H1 => ∃ a, vs = [.ref a] ∧ (∃ xs, SqL K H1 a xs) ∧ R (Ite K a) H1
/-- min(xs) of a list of ints that has one -/
def rMinL (K : PySem.W.Frag) : List V → Hp → VK → Prop := fun xs H Q => ∃ a ns, xs = [.ref a] ∧ SqL K H a (List.map V.int ns) ∧ ns ≠ [] ∧ ∀ M, M ∈ ns → (∀ z, z ∈ ns → M ≤ z) → Q (.int M) H
end
section
variable {K : PySem.W.Frag} {H : Hp} {Q : VK} {σ : St}
end
end L2

namespace L2
open PySem PySem.Spec PyProof.Rows
section
variable {X : Cx} {K : PySem.W.Frag} {tg : Expr}
end
end L2

/-! sorted of any number of items: galloping, merging, runs -/
namespace L2
open PySem PySem.Spec PyProof.Rows
def galS : Bool → Keyed → Array Keyed → Nat → Nat → Nat → StateT SortSt Sem (Option Nat) := sortPriv% PySem.Builtin.gallop
def bydS (lf : Bool) (ky : Keyed) (ar : Array Keyed) (bs j : Nat) : StateT SortSt Sem (Option Bool) := do
  let z ← elem' ar (bs + j)
  if lf then lt' z ky else return (← lt' ky z).map (!·)
theorem galS_eq (lf : Bool) (ky : Keyed) (ar : Array Keyed) (bs nn ht : Nat) : galS lf ky ar bs nn ht = (do
  let mut la := 0
  let mut of := 1
  let mut lx := 0
  let mut hx := 0
  let some rt ← bydS lf ky ar bs ht | return none
  if rt then
    let mx := nn - ht
    for _ in [0:nn] do
      if of ≥ mx then break
      let some mo ← bydS lf ky ar bs (ht + of) | return none
      if !mo then break
      la := of
      of := 2 * of + 1
    lx := ht + la + 1
    hx := ht + min of mx
  else
    let mx := ht + 1
    for _ in [0:nn] do
      if of ≥ mx then break
      let some fo ← bydS lf ky ar bs (ht - of) | return none
      if fo then break
      la := of
      of := 2 * of + 1
    lx := ht + 1 - min of mx
    hx := ht - la
  for _ in [0:nn] do
    if lx ≥ hx then break
    let mi := lx + (hx - lx) / 2
    let some mo ← bydS lf ky ar bs mi | return none
    if mo then lx := mi + 1 else hx := mi
  return some hx) := rfl
section
variable {prog : Program} {w : World} {A : Around} {E : Value → Shared → Prop} {s : Shared}
/-- the comparison of good things is told by ltb -/
def LtOk (prog : Program) (w : World) (A : Around) (E : Value → Shared → Prop) (s : Shared) (ltb : Keyed → Keyed → Bool) (S : Keyed → Prop) (κ : SortKind) : Prop :=
  ∀ (x y : Keyed) (st : SortSt) (Q : Option Bool → SortSt → Prop), S x → S y → kindOf st = κ → Q (some (ltb x y)) st → wpS (model prog w) A E s (lt' x y) Q st
def Bf (ltb : Keyed → Keyed → Bool) (lf : Bool) (ky x : Keyed) : Bool := if lf then ltb x ky else !ltb ky x
variable {ltb : Keyed → Keyed → Bool} {S : Keyed → Prop} {κ : SortKind}
theorem wpS_elem {ar : Array Keyed} {i : Nat} {x : Keyed} {st : SortSt} {Q : Keyed → SortSt → Prop} (h : ar[i]? = some x) (q : Q x st) : wpS (model prog w) A E s (elem' ar i) Q st := by
  rw [elem'_eq, h]; exact wpS_pure q
theorem wpS_byd {lf : Bool} {ky : Keyed} {ar : Array Keyed} {bs j : Nat} {x : Keyed} {st : SortSt} {Q : Option Bool → SortSt → Prop} (hO : LtOk prog w A E s ltb S κ) (hk : kindOf st = κ) (hky : S ky)
    (hx : ar[bs + j]? = some x) (hS : S x) (q : Q (some (Bf ltb lf ky x)) st) : wpS (model prog w) A E s (bydS lf ky ar bs j) Q st := by
  unfold bydS
  refine wpS_bind (wpS_elem hx ?_)
  cases lf with
  | true => exact hO x ky st Q hS hky hk q
  | false =>
    refine wpS_bind (hO ky x st _ hky hS hk ?_)
    exact wpS_pure q
theorem wpS_gal {lf : Bool} {ky : Keyed} {ar : Array Keyed} {bs nn ht : Nat} {st : SortSt} {Q : Option Nat → SortSt → Prop} (hO : LtOk prog w A E s ltb S κ) (hk : kindOf st = κ) (hky : S ky) (B : Nat → Bool)
    (hB : ∀ j, j < nn → ∃ x, ar[bs + j]? = some x ∧ S x ∧ Bf ltb lf ky x = B j) (anti : ∀ i j, i ≤ j → j < nn → B j = true → B i = true) (hht : ht < nn)
    (h : ∀ k, k ≤ nn → (∀ i, i < k → B i = true) → (∀ i, k ≤ i → i < nn → B i = false) → Q (some k) st) : wpS (model prog w) A E s (galS lf ky ar bs nn ht) Q st := by
  have ask : ∀ (j : Nat) (Q : Option Bool → SortSt → Prop), j < nn → Q (some (B j)) st → wpS (model prog w) A E s (bydS lf ky ar bs j) Q st := fun j Q hj q => by
    obtain ⟨x, hx, hS, e⟩ := hB j hj
    exact wpS_byd hO hk hky hx hS (by rw [e]; exact q)
  have antiF : ∀ i j, i ≤ j → j < nn → B i = false → B j = false := fun i j hij hj e => by
    cases e2 : B j with
    | false => rfl
    | true => rw [anti i j hij hj e2] at e; cases e
  rw [galS_eq]
  refine wpS_bind (ask ht _ hht ?_)
  dsimp only
  cases hr : B ht with
  | true =>
    simp only [if_true]
    refine wpS_bind (wpS_mono (wpS_forRange (I := fun x c st' => st' = st ∧ ∃ l o, c = (none, l, o) ∧ l < o ∧ x + 1 ≤ o ∧ (l < nn - ht) ∧ B (ht + l) = true)
      (Q := fun c st' => st' = st ∧ ∃ l o, c = (none, l, o) ∧ l < o ∧ l < nn - ht ∧ B (ht + l) = true ∧ (nn - ht ≤ o ∨ (o < nn - ht ∧ B (ht + o) = false))) ?stp ?fin ⟨rfl, 0, 1, rfl, by omega, by omega, by omega, hr⟩) ?post)
    case fin =>
      rintro c st' ⟨rfl, l, o, rfl, a1, a2, a3, a4⟩
      exact ⟨rfl, l, o, rfl, a1, a3, a4, .inl (by omega)⟩
    case stp =>
      rintro x c st' _ hx ⟨rfl, l, o, rfl, a1, a2, a3, a4⟩
      dsimp only
      by_cases hge : o ≥ nn - ht
      · rw [if_pos hge]
        exact wpS_pure ⟨rfl, l, o, rfl, a1, a3, a4, .inl hge⟩
      · rw [if_neg hge]
        refine wpS_bind (ask _ _ (by omega) ?_)
        dsimp only
        cases hm : B (ht + o) with
        | true =>
          simp only [Bool.not_true, Bool.false_eq_true, if_false]
          exact wpS_pure ⟨rfl, o, _, rfl, by omega, by omega, by omega, hm⟩
        | false =>
          simp only [Bool.not_false, if_true]
          exact wpS_pure ⟨rfl, l, o, rfl, a1, a3, a4, .inr ⟨by omega, hm⟩⟩
    case post =>
      rintro c st' ⟨est, l, o, rfl, a1, a2, a3, a4⟩
      rw [est]
      dsimp only
      have P1 : ∀ i, i < ht + l + 1 → B i = true := fun i hi => anti i (ht + l) (by omega) (by omega) a3
      have P2 : ∀ i, ht + min o (nn - ht) ≤ i → i < nn → B i = false := fun i hi hi2 => by
        rcases a4 with z | ⟨z1, z2⟩
        · omega
        · exact antiF (ht + o) i (by omega) hi2 z2
      refine wpS_bind (wpS_mono (wpS_forRange (I := fun x c st' => st' = st ∧ ∃ l r, c = (none, l, r) ∧ l ≤ r ∧ r ≤ nn ∧ r - l ≤ nn - x ∧ (∀ i, i < l → B i = true) ∧ (∀ i, r ≤ i → i < nn → B i = false))
        (Q := fun c st' => st' = st ∧ ∃ l, c = (none, l, l) ∧ l ≤ nn ∧ (∀ i, i < l → B i = true) ∧ (∀ i, l ≤ i → i < nn → B i = false)) ?stp2 ?fin2 ⟨rfl, ht + l + 1, ht + min o (nn - ht), rfl, by omega, by omega, by omega, P1, P2⟩) ?post2)
      case fin2 =>
        rintro c st' ⟨rfl, l, r, rfl, a1, a2, a3, a4, a5⟩
        have : l = r := by omega
        subst this
        exact ⟨rfl, l, rfl, a2, a4, a5⟩
      case post2 =>
        rintro c st' ⟨rfl, l, rfl, a2, a4, a5⟩
        exact wpS_pure (h l a2 a4 a5)
      case stp2 =>
        rintro x c st' _ hx ⟨rfl, l, r, rfl, a1, a2, a3, a4, a5⟩
        dsimp only
        by_cases hge : l ≥ r
        · rw [if_pos hge]
          have : l = r := by omega
          subst this
          exact wpS_pure ⟨rfl, l, rfl, a2, a4, a5⟩
        · rw [if_neg hge]
          refine wpS_bind (ask _ _ (by omega) ?_)
          dsimp only
          cases hm : B (l + (r - l) / 2) with
          | true =>
            simp only [if_true]
            exact wpS_pure ⟨rfl, _, r, rfl, by omega, a2, by omega, fun i hi => anti i _ (by omega) (by omega) hm, a5⟩
          | false =>
            simp only [Bool.false_eq_true, if_false]
            exact wpS_pure ⟨rfl, l, _, rfl, by omega, by omega, by omega, a4, fun i hi hi2 => antiF _ i hi hi2 hm⟩
  | false =>
    simp only [Bool.false_eq_true, if_false]
    refine wpS_bind (wpS_mono (wpS_forRange (I := fun x c st' => st' = st ∧ ∃ l o, c = (none, l, o) ∧ l < o ∧ x + 1 ≤ o ∧ l < ht + 1 ∧ B (ht - l) = false)
      (Q := fun c st' => st' = st ∧ ∃ l o, c = (none, l, o) ∧ l < o ∧ l < ht + 1 ∧ B (ht - l) = false ∧ (ht + 1 ≤ o ∨ (o < ht + 1 ∧ B (ht - o) = true))) ?stp ?fin ⟨rfl, 0, 1, rfl, by omega, by omega, by omega, hr⟩) ?post)
    case fin =>
      rintro c st' ⟨rfl, l, o, rfl, a1, a2, a3, a4⟩
      exact ⟨rfl, l, o, rfl, a1, a3, a4, .inl (by omega)⟩
    case stp =>
      rintro x c st' _ hx ⟨rfl, l, o, rfl, a1, a2, a3, a4⟩
      dsimp only
      by_cases hge : o ≥ ht + 1
      · rw [if_pos hge]
        exact wpS_pure ⟨rfl, l, o, rfl, a1, a3, a4, .inl hge⟩
      · rw [if_neg hge]
        refine wpS_bind (ask _ _ (by omega) ?_)
        dsimp only
        cases hm : B (ht - o) with
        | true =>
          simp only [if_true]
          exact wpS_pure ⟨rfl, l, o, rfl, a1, a3, a4, .inr ⟨by omega, hm⟩⟩
        | false =>
          simp only [Bool.false_eq_true, if_false]
          exact wpS_pure ⟨rfl, o, _, rfl, by omega, by omega, by omega, hm⟩
    case post =>
      rintro c st' ⟨est, l, o, rfl, a1, a2, a3, a4⟩
      rw [est]
      dsimp only
      have P1 : ∀ i, i < ht + 1 - min o (ht + 1) → B i = true := fun i hi => by
        rcases a4 with z | ⟨z1, z2⟩
        · omega
        · exact anti i (ht - o) (by omega) (by omega) z2
      have P2 : ∀ i, ht - l ≤ i → i < nn → B i = false := fun i hi hi2 => antiF (ht - l) i (by omega) hi2 a3
      refine wpS_bind (wpS_mono (wpS_forRange (I := fun x c st' => st' = st ∧ ∃ l r, c = (none, l, r) ∧ l ≤ r ∧ r ≤ nn ∧ r - l ≤ nn - x ∧ (∀ i, i < l → B i = true) ∧ (∀ i, r ≤ i → i < nn → B i = false))
        (Q := fun c st' => st' = st ∧ ∃ l, c = (none, l, l) ∧ l ≤ nn ∧ (∀ i, i < l → B i = true) ∧ (∀ i, l ≤ i → i < nn → B i = false)) ?stp2 ?fin2 ⟨rfl, ht + 1 - min o (ht + 1), ht - l, rfl, by omega, by omega, by omega, P1, P2⟩) ?post2)
      case fin2 =>
        rintro c st' ⟨rfl, l, r, rfl, a1, a2, a3, a4, a5⟩
        have : l = r := by omega
        subst this
        exact ⟨rfl, l, rfl, a2, a4, a5⟩
      case post2 =>
        rintro c st' ⟨rfl, l, rfl, a2, a4, a5⟩
        exact wpS_pure (h l a2 a4 a5)
      case stp2 =>
        rintro x c st' _ hx ⟨rfl, l, r, rfl, a1, a2, a3, a4, a5⟩
        dsimp only
        by_cases hge : l ≥ r
        · rw [if_pos hge]
          have : l = r := by omega
          subst this
          exact wpS_pure ⟨rfl, l, rfl, a2, a4, a5⟩
        · rw [if_neg hge]
          refine wpS_bind (ask _ _ (by omega) ?_)
          dsimp only
          cases hm : B (l + (r - l) / 2) with
          | true =>
            simp only [if_true]
            exact wpS_pure ⟨rfl, _, r, rfl, by omega, a2, by omega, fun i hi => anti i _ (by omega) (by omega) hm, a5⟩
          | false =>
            simp only [Bool.false_eq_true, if_false]
            exact wpS_pure ⟨rfl, l, _, rfl, by omega, by omega, by omega, a4, fun i hi hi2 => antiF _ i hi hi2 hm⟩
end
end L2

/-! merging, as lists -/
namespace L2
open PySem PySem.Spec PyProof.Rows
/-- ltb is an order: x is no more than y where y is not less than x -/
structure OrdB (ltb : Keyed → Keyed → Bool) : Prop where
  asym : ∀ {x y}, ltb x y = true → ltb y x = false
  tr : ∀ {x y z}, ltb y x = false → ltb z y = false → ltb z x = false
def leB (ltb : Keyed → Keyed → Bool) (x y : Keyed) : Prop := ltb y x = false
section
variable {ltb : Keyed → Keyed → Bool} {xa xb ou : List Keyed} {ja jb k : Nat}
theorem drop_take_split {α : Type} (l : List α) (j k : Nat) : l.drop j = (l.drop j).take k ++ l.drop (j + k) := by
  rw [← List.drop_drop]; exact (List.take_append_drop k (l.drop j)).symm
theorem rise_le {l : List Keyed} (h : l.Pairwise (leB ltb)) {i j : Nat} (hi : i < j) {x y : Keyed} (hx : l[i]? = some x) (hy : l[j]? = some y) : leB ltb x y := by
  obtain ⟨h1, rfl⟩ := List.getElem?_eq_some_iff.mp hx
  obtain ⟨h2, rfl⟩ := List.getElem?_eq_some_iff.mp hy
  exact List.pairwise_iff_getElem.mp h i j h1 h2 hi
theorem rise_parts {l : List Keyed} (h : l.Pairwise (leB ltb)) (j k : Nat) : ((l.drop j).take k).Pairwise (leB ltb) ∧ ∀ x ∈ (l.drop j).take k, ∀ y ∈ l.drop (j + k), leB ltb x y := by
  have hd : (l.drop j).Pairwise (leB ltb) := h.drop
  rw [drop_take_split l j k, List.pairwise_append] at hd
  exact ⟨hd.1, hd.2.2⟩
/-- what has been merged, what is left -/
structure MI (ltb : Keyed → Keyed → Bool) (xa xb ou : List Keyed) (ja jb : Nat) : Prop where
  srt : ou.Pairwise (leB ltb)
  la : ∀ x ∈ ou, ∀ y ∈ xa.drop ja, leB ltb x y
  lb : ∀ x ∈ ou, ∀ y ∈ xb.drop jb, leB ltb x y
  pm : (ou ++ (xa.drop ja ++ xb.drop jb)).Perm (xa ++ xb)
  sz : ou.length = ja + jb
theorem MI.stepA (O : OrdB ltb) (sa : xa.Pairwise (leB ltb)) (sb : xb.Pairwise (leB ltb)) (m : MI ltb xa xb ou ja jb) (hk : ja + k ≤ xa.length) {z : Keyed} (hz : xb[jb]? = some z) (c : ∀ y ∈ (xa.drop ja).take k, leB ltb y z) :
    MI ltb xa xb (ou ++ (xa.drop ja).take k) (ja + k) jb := by
  obtain ⟨p1, p2⟩ := rise_parts sa ja k
  have sub : ∀ y ∈ (xa.drop ja).take k, y ∈ xa.drop ja := fun y hy => List.mem_of_mem_take hy
  have zb : ∀ y ∈ xb.drop jb, leB ltb z y ∨ y = z := fun y hy => by
    obtain ⟨i, hi, e⟩ := List.getElem_of_mem hy
    have e2 : xb[jb + i]? = some y := by rw [← List.getElem?_drop, List.getElem?_eq_getElem hi, e]
    by_cases h0 : i = 0
    · subst h0; rw [Nat.add_zero, hz] at e2; exact .inr (Option.some.inj e2).symm
    · exact .inl (rise_le sb (by omega) hz e2)
  refine ⟨?_, ?_, ?_, ?_, ?_⟩
  · rw [List.pairwise_append]
    exact ⟨m.srt, p1, fun x hx y hy => m.la x hx y (sub y hy)⟩
  · intro x hx y hy
    rcases List.mem_append.mp hx with h | h
    · exact m.la x h y (by rw [drop_take_split xa ja k]; exact List.mem_append_right _ hy)
    · exact p2 x h y hy
  · intro x hx y hy
    rcases List.mem_append.mp hx with h | h
    · exact m.lb x h y hy
    · rcases zb y hy with z1 | z1
      · exact O.tr (c x h) z1
      · rw [z1]; exact c x h
  · have e := drop_take_split xa ja k
    have := m.pm
    rw [e] at this
    simpa [List.append_assoc] using this
  · rw [List.length_append, m.sz, List.length_take, List.length_drop]; omega
theorem MI.stepB (O : OrdB ltb) (sa : xa.Pairwise (leB ltb)) (sb : xb.Pairwise (leB ltb)) (m : MI ltb xa xb ou ja jb) (hk : jb + k ≤ xb.length) {z : Keyed} (hz : xa[ja]? = some z) (c : ∀ y ∈ (xb.drop jb).take k, leB ltb y z) :
    MI ltb xa xb (ou ++ (xb.drop jb).take k) ja (jb + k) := by
  obtain ⟨p1, p2⟩ := rise_parts sb jb k
  have sub : ∀ y ∈ (xb.drop jb).take k, y ∈ xb.drop jb := fun y hy => List.mem_of_mem_take hy
  have za : ∀ y ∈ xa.drop ja, leB ltb z y ∨ y = z := fun y hy => by
    obtain ⟨i, hi, e⟩ := List.getElem_of_mem hy
    have e2 : xa[ja + i]? = some y := by rw [← List.getElem?_drop, List.getElem?_eq_getElem hi, e]
    by_cases h0 : i = 0
    · subst h0; rw [Nat.add_zero, hz] at e2; exact .inr (Option.some.inj e2).symm
    · exact .inl (rise_le sa (by omega) hz e2)
  refine ⟨?_, ?_, ?_, ?_, ?_⟩
  · rw [List.pairwise_append]
    exact ⟨m.srt, p1, fun x hx y hy => m.lb x hx y (sub y hy)⟩
  · intro x hx y hy
    rcases List.mem_append.mp hx with h | h
    · exact m.la x h y hy
    · rcases za y hy with z1 | z1
      · exact O.tr (c x h) z1
      · rw [z1]; exact c x h
  · intro x hx y hy
    rcases List.mem_append.mp hx with h | h
    · exact m.lb x h y (by rw [drop_take_split xb jb k]; exact List.mem_append_right _ hy)
    · exact p2 x h y hy
  · have e := drop_take_split xb jb k
    have := m.pm
    rw [e] at this
    refine List.Perm.trans ?_ this
    rw [List.append_assoc]
    refine List.Perm.append_left _ ?_
    rw [← List.append_assoc, ← List.append_assoc]
    refine List.Perm.append_right _ ?_
    exact List.perm_append_comm
  · rw [List.length_append, m.sz, List.length_take, List.length_drop]; omega
theorem MI.start (sb : xb.Pairwise (leB ltb)) {z y0 : Keyed} (hz : xb[0]? = some z) (c : ∀ y ∈ xa, leB ltb z y) : MI ltb xa xb [z] 0 1 := by
  have hx : xb = z :: xb.drop 1 := by
    cases xb with
    | nil => cases hz
    | cons b r => obtain rfl := Option.some.inj hz; rfl
  refine ⟨by simp, fun x hx y hy => ?_, fun x hx2 y hy => ?_, ?_, rfl⟩
  · simp at hx hy; rw [hx]; exact c y hy
  · simp at hx2
    rw [hx2]
    rw [hx, List.pairwise_cons] at sb
    exact sb.1 y hy
  · rw [List.drop_zero]
    refine List.Perm.trans ?_ (List.Perm.append_left xa (List.Perm.of_eq hx.symm))
    show (z :: (xa ++ xb.drop 1)).Perm _
    exact List.perm_middle.symm
/-- all of b is out -/
theorem MI.done (sa : xa.Pairwise (leB ltb)) (m : MI ltb xa xb ou ja jb) (h : jb = xb.length) : (ou ++ xa.drop ja ++ xb.drop jb).Pairwise (leB ltb) ∧ (ou ++ xa.drop ja ++ xb.drop jb).Perm (xa ++ xb) := by
  have e : xb.drop jb = [] := by rw [h]; exact List.drop_length
  have pm := m.pm
  rw [e, List.append_nil] at pm ⊢
  refine ⟨?_, pm⟩
  rw [List.pairwise_append]
  exact ⟨m.srt, sa.drop, m.la⟩
/-- the last one of a is left, which is the greatest -/
theorem MI.last (sa : xa.Pairwise (leB ltb)) (sb : xb.Pairwise (leB ltb)) (m : MI ltb xa xb ou ja jb) (h : ∀ x ∈ xb, ∀ y ∈ xa.drop ja, leB ltb x y) :
    (ou ++ xb.drop jb ++ xa.drop ja).Pairwise (leB ltb) ∧ (ou ++ xb.drop jb ++ xa.drop ja).Perm (xa ++ xb) := by
  constructor
  · rw [List.pairwise_append, List.pairwise_append]
    refine ⟨⟨m.srt, sb.drop, m.lb⟩, sa.drop, fun x hx y hy => ?_⟩
    rcases List.mem_append.mp hx with z | z
    · exact m.la x z y hy
    · exact h x (List.mem_of_mem_drop z) y hy
  · refine List.Perm.trans ?_ m.pm
    rw [List.append_assoc]
    exact List.Perm.append_left _ List.perm_append_comm
end
end L2

/-! mergeLo -/
namespace L2
open PySem PySem.Spec PyProof.Rows
def mloS : Array Keyed → Array Keyed → StateT SortSt Sem (Array Keyed) := sortPriv% PySem.Builtin.mergeLo
def dnS (xa xb ou : Array Keyed) (ja jb : Nat) : Array Keyed := ou ++ xa.extract ja xa.size ++ xb.extract jb xb.size
def lsS (xa xb ou : Array Keyed) (ja jb : Nat) : Array Keyed := ou ++ xb.extract jb xb.size ++ xa.extract ja xa.size
def smgS (g : Nat) : StateT SortSt Sem Unit := modify fun z => SortSt.mk' (kindOf z) (arrOf z) (pendingOf z) g (failedOf z)
theorem mloS_eq (xa xb : Array Keyed) : mloS xa xb = (do
  rule "list.sort.merge-lo"
  let mut ou : Array Keyed := #[← elem' xb 0]
  let mut ja := 0
  let mut jb := 1
  if jb == xb.size then return dnS xa xb ou ja jb
  if ja + 1 == xa.size then return lsS xa xb ou ja jb
  let mut mg := gallopOf (← get)
  for _ in [0:xa.size + xb.size] do
    let mut ca := 0
    let mut cb := 0
    for _ in [0:xa.size + xb.size] do
      let some bw ← lt' (← elem' xb jb) (← elem' xa ja) | return dnS xa xb ou ja jb
      if bw then
        ou := ou.push (← elem' xb jb); jb := jb + 1; cb := cb + 1; ca := 0
        if jb == xb.size then return dnS xa xb ou ja jb
        if cb ≥ mg then break
      else
        ou := ou.push (← elem' xa ja); ja := ja + 1; ca := ca + 1; cb := 0
        if ja + 1 == xa.size then return lsS xa xb ou ja jb
        if ca ≥ mg then break
    rule "list.sort.gallop"
    mg := mg + 1
    for _ in [0:xa.size + xb.size] do
      if mg > 1 then mg := mg - 1
      smgS mg
      let some kk ← galS false (← elem' xb jb) xa ja (xa.size - ja) 0 | return dnS xa xb ou ja jb
      ca := kk
      if kk > 0 then
        ou := ou ++ xa.extract ja (ja + kk); ja := ja + kk
        if ja + 1 == xa.size then return lsS xa xb ou ja jb
        if ja == xa.size then return dnS xa xb ou ja jb
      ou := ou.push (← elem' xb jb); jb := jb + 1
      if jb == xb.size then return dnS xa xb ou ja jb
      let some kk ← galS true (← elem' xa ja) xb jb (xb.size - jb) 0 | return dnS xa xb ou ja jb
      cb := kk
      if kk > 0 then
        ou := ou ++ xb.extract jb (jb + kk); jb := jb + kk
        if jb == xb.size then return dnS xa xb ou ja jb
      ou := ou.push (← elem' xa ja); ja := ja + 1
      if ja + 1 == xa.size then return lsS xa xb ou ja jb
      if ca < 7 && cb < 7 then break
    mg := mg + 1
    smgS mg
  unsupported "internal:list.sort.merge-bound") := rfl
theorem ext_drop (x : Array Keyed) (j : Nat) : (x.extract j x.size).toList = x.toList.drop j := by
  rw [Array.toList_extract]
  exact List.take_of_length_le (by simp)
theorem ext_part (x : Array Keyed) (j k : Nat) : (x.extract j (j + k)).toList = (x.toList.drop j).take k := by
  rw [Array.toList_extract]
  show List.take (j + k - j) (List.drop j x.toList) = _
  rw [show j + k - j = k by omega]
section
variable {ltb : Keyed → Keyed → Bool} {xa xb ou : Array Keyed} {ja jb k : Nat}
theorem one_at {x : Array Keyed} {j : Nat} {b : Keyed} (h : x[j]? = some b) : (x.toList.drop j).take 1 = [b] := by
  have hj := (Array.getElem?_eq_some_iff.mp h).1
  have e := (Array.getElem?_eq_some_iff.mp h).2
  rw [List.drop_eq_getElem_cons (by simpa using hj)]
  simp [e]
theorem MI.pB (O : OrdB ltb) (sa : xa.toList.Pairwise (leB ltb)) (sb : xb.toList.Pairwise (leB ltb)) (m : MI ltb xa.toList xb.toList ou.toList ja jb) {b y : Keyed} (hb : xb[jb]? = some b) (hy : xa[ja]? = some y) (c : leB ltb b y) : MI ltb xa.toList xb.toList (ou.push b).toList ja (jb + 1) := by
  have hj := (Array.getElem?_eq_some_iff.mp hb).1
  have := m.stepB O sa sb (k := 1) (by rw [Array.length_toList]; omega) (z := y) (by simpa using hy) (by rw [one_at hb]; intro x hx; simp at hx; rw [hx]; exact c)
  rw [one_at hb] at this
  simpa using this
theorem MI.pA (O : OrdB ltb) (sa : xa.toList.Pairwise (leB ltb)) (sb : xb.toList.Pairwise (leB ltb)) (m : MI ltb xa.toList xb.toList ou.toList ja jb) {b y : Keyed} (hb : xb[jb]? = some b) (hy : xa[ja]? = some y) (c : leB ltb y b) : MI ltb xa.toList xb.toList (ou.push y).toList (ja + 1) jb := by
  have hj := (Array.getElem?_eq_some_iff.mp hy).1
  have := m.stepA O sa sb (k := 1) (by rw [Array.length_toList]; omega) (z := b) (by simpa using hb) (by rw [one_at hy]; intro x hx; simp at hx; rw [hx]; exact c)
  rw [one_at hy] at this
  simpa using this
theorem part_at {x : Array Keyed} {j k : Nat} {y : Keyed} (h : y ∈ (x.toList.drop j).take k) : ∃ i, i < k ∧ x[j + i]? = some y := by
  obtain ⟨i, hi, e⟩ := List.getElem_of_mem h
  rw [List.length_take] at hi
  refine ⟨i, by omega, ?_⟩
  rw [List.getElem_take, List.getElem_drop] at e
  have hl : j + i < x.size := by rw [List.length_drop] at hi; simp at hi; omega
  rw [Array.getElem?_eq_getElem hl]
  simpa using e
theorem MI.eA (O : OrdB ltb) (sa : xa.toList.Pairwise (leB ltb)) (sb : xb.toList.Pairwise (leB ltb)) (m : MI ltb xa.toList xb.toList ou.toList ja jb) (hk : ja + k ≤ xa.size) {b : Keyed} (hb : xb[jb]? = some b) (c : ∀ i, i < k → ∀ x, xa[ja + i]? = some x → leB ltb x b) :
    MI ltb xa.toList xb.toList (ou ++ xa.extract ja (ja + k)).toList (ja + k) jb := by
  have := m.stepA O sa sb (k := k) (by simpa using hk) (z := b) (by simpa using hb) (fun y hy => by obtain ⟨i, h1, h2⟩ := part_at hy; exact c i h1 y h2)
  rw [Array.toList_append, ext_part]; exact this
theorem MI.eB (O : OrdB ltb) (sa : xa.toList.Pairwise (leB ltb)) (sb : xb.toList.Pairwise (leB ltb)) (m : MI ltb xa.toList xb.toList ou.toList ja jb) (hk : jb + k ≤ xb.size) {y : Keyed} (hy : xa[ja]? = some y) (c : ∀ i, i < k → ∀ x, xb[jb + i]? = some x → leB ltb x y) :
    MI ltb xa.toList xb.toList (ou ++ xb.extract jb (jb + k)).toList ja (jb + k) := by
  have := m.stepB O sa sb (k := k) (by simpa using hk) (z := y) (by simpa using hy) (fun y hy => by obtain ⟨i, h1, h2⟩ := part_at hy; exact c i h1 y h2)
  rw [Array.toList_append, ext_part]; exact this
theorem arr_le {x : Array Keyed} (h : x.toList.Pairwise (leB ltb)) {i j : Nat} (hij : i < j) {u v : Keyed} (hu : x[i]? = some u) (hv : x[j]? = some v) : leB ltb u v :=
  rise_le h hij (by simpa using hu) (by simpa using hv)
theorem arr_mem {x : Array Keyed} {i : Nat} {u : Keyed} (hu : x[i]? = some u) : u ∈ x.toList := by
  have := Array.mem_of_getElem? hu
  simpa using this
end
section
variable {prog : Program} {w : World} {A : Around} {E : Value → Shared → Prop} {s : Shared} {ltb : Keyed → Keyed → Bool} {S : Keyed → Prop} {κ : SortKind}
/-- a gallop to the right of all that are no more than the key -/
theorem wpS_galR (O : OrdB ltb) (hO : LtOk prog w A E s ltb S κ) {x : Array Keyed} {bs nn ht : Nat} {ky : Keyed} {st : SortSt} {Q : Option Nat → SortSt → Prop} (hk : kindOf st = κ) (hky : S ky) (Sx : ∀ u ∈ x.toList, S u) (sx : ∀ i j u v, i < j → j < nn → x[bs + i]? = some u → x[bs + j]? = some v → leB ltb u v)
    (hn : bs + nn ≤ x.size) (hht : ht < nn) (h : ∀ k, k ≤ nn → (∀ i, i < k → ∀ u, x[bs + i]? = some u → leB ltb u ky) → (∀ i, k ≤ i → i < nn → ∀ u, x[bs + i]? = some u → ltb ky u = true) → Q (some k) st) : wpS (model prog w) A E s (galS false ky x bs nn ht) Q st := by
  have ex : ∀ j, j < nn → ∃ u, x[bs + j]? = some u := fun j hj => ⟨_, Array.getElem?_eq_getElem (by omega)⟩
  refine wpS_gal hO hk hky (fun j => match x[bs + j]? with | some u => Bf ltb false ky u | none => false) (fun j hj => ?_) (fun i j hij hj hb => ?_) hht fun k h1 h2 h3 => h k h1 (fun i hi u hu => ?_) fun i hi hi2 u hu => ?_
  · obtain ⟨u, hu⟩ := ex j hj
    exact ⟨u, hu, Sx u (arr_mem hu), by simp only [hu]⟩
  · obtain ⟨u, hu⟩ := ex i (by omega)
    obtain ⟨v, hv⟩ := ex j hj
    simp only [hu, hv, Bf, Bool.false_eq_true, if_false, Bool.not_eq_true'] at hb ⊢
    by_cases e : i = j
    · subst e; rw [hu] at hv; cases hv; exact hb
    · exact O.tr (sx i j u v (by omega) hj hu hv) hb
  · have := h2 i hi
    simp only [hu, Bf, Bool.false_eq_true, if_false, Bool.not_eq_true'] at this
    exact this
  · have := h3 i hi hi2
    simp only [hu, Bf, Bool.false_eq_true, if_false, Bool.not_eq_false'] at this
    exact this
/-- a gallop to the right of all that are less than the key -/
theorem wpS_galL (O : OrdB ltb) (hO : LtOk prog w A E s ltb S κ) {x : Array Keyed} {bs nn ht : Nat} {ky : Keyed} {st : SortSt} {Q : Option Nat → SortSt → Prop} (hk : kindOf st = κ) (hky : S ky) (Sx : ∀ u ∈ x.toList, S u) (sx : ∀ i j u v, i < j → j < nn → x[bs + i]? = some u → x[bs + j]? = some v → leB ltb u v)
    (hn : bs + nn ≤ x.size) (hht : ht < nn) (h : ∀ k, k ≤ nn → (∀ i, i < k → ∀ u, x[bs + i]? = some u → ltb u ky = true) → (∀ i, k ≤ i → i < nn → ∀ u, x[bs + i]? = some u → leB ltb ky u) → Q (some k) st) : wpS (model prog w) A E s (galS true ky x bs nn ht) Q st := by
  have ex : ∀ j, j < nn → ∃ u, x[bs + j]? = some u := fun j hj => ⟨_, Array.getElem?_eq_getElem (by omega)⟩
  refine wpS_gal hO hk hky (fun j => match x[bs + j]? with | some u => Bf ltb true ky u | none => false) (fun j hj => ?_) (fun i j hij hj hb => ?_) hht fun k h1 h2 h3 => h k h1 (fun i hi u hu => ?_) fun i hi hi2 u hu => ?_
  · obtain ⟨u, hu⟩ := ex j hj
    exact ⟨u, hu, Sx u (arr_mem hu), by simp only [hu]⟩
  · obtain ⟨u, hu⟩ := ex i (by omega)
    obtain ⟨v, hv⟩ := ex j hj
    simp only [hu, hv, Bf, if_true] at hb ⊢
    by_cases e : i = j
    · subst e; rw [hu] at hv; cases hv; exact hb
    · have l1 := sx i j u v (by omega) hj hu hv
      cases q : ltb u ky with
      | true => rfl
      | false => have := O.tr q l1; rw [this] at hb; cases hb
  · have := h2 i hi
    simp only [hu, Bf, if_true] at this
    exact this
  · have := h3 i hi hi2
    simp only [hu, Bf, if_true] at this
    exact this
end
section
variable {prog : Program} {w : World} {A : Around} {E : Value → Shared → Prop} {s : Shared} {ltb : Keyed → Keyed → Bool} {S : Keyed → Prop} {κ : SortKind}
/-- the state but for the galloping is as it was -/
structure SS (κ : SortKind) (st st' : SortSt) : Prop where
  kind : kindOf st' = κ
  fail : failedOf st' = none
  arr : arrOf st' = arrOf st
  pend : pendingOf st' = pendingOf st
theorem SS.smg {st st' : SortSt} (h : SS κ st st') (g : Nat) : SS κ st (SortSt.mk' (kindOf st') (arrOf st') (pendingOf st') g (failedOf st')) := ⟨h.kind, h.fail, h.arr, h.pend⟩
theorem wpS_mlo (O : OrdB ltb) (hO : LtOk prog w A E s ltb S κ) {xa xb : Array Keyed} {st : SortSt} {Q : Array Keyed → SortSt → Prop} (Sa : ∀ x ∈ xa.toList, S x) (Sb : ∀ x ∈ xb.toList, S x) (sa : xa.toList.Pairwise (leB ltb)) (sb : xb.toList.Pairwise (leB ltb))
    {z : Keyed} (hz : xb[0]? = some z) (hfst : ∀ y ∈ xa.toList, leB ltb z y) (ha0 : 0 < xa.size) (hlst : ∀ x ∈ xb.toList, ∀ y, xa[xa.size - 1]? = some y → ltb x y = true) (hS : SS κ st st)
    (h : ∀ r st', r.toList.Pairwise (leB ltb) → r.toList.Perm (xa.toList ++ xb.toList) → SS κ st st' → Q r st') : wpS (model prog w) A E s (mloS xa xb) Q st := by
  have hb0 : 0 < xb.size := by
    have := (Array.getElem?_eq_some_iff.mp hz).1; exact this
  have mdone : ∀ (ou : Array Keyed) (ja jb : Nat) (st' : SortSt), MI ltb xa.toList xb.toList ou.toList ja jb → jb = xb.size → SS κ st st' → Q (dnS xa xb ou ja jb) st' := fun ou ja jb st' m e ss => by
    obtain ⟨p1, p2⟩ := m.done sa (by rw [e]; simp)
    have el : (dnS xa xb ou ja jb).toList = ou.toList ++ xa.toList.drop ja ++ xb.toList.drop jb := by unfold dnS; rw [Array.toList_append, Array.toList_append, ext_drop, ext_drop]
    exact h _ _ (by rw [el]; exact p1) (by rw [el]; exact p2) ss
  have mlast : ∀ (ou : Array Keyed) (ja jb : Nat) (st' : SortSt), MI ltb xa.toList xb.toList ou.toList ja jb → ja + 1 = xa.size → SS κ st st' → Q (lsS xa xb ou ja jb) st' := fun ou ja jb st' m e ss => by
    obtain ⟨p1, p2⟩ := m.last sa sb (fun x hx y hy => by
      obtain ⟨i, hi, e2⟩ := List.getElem_of_mem hy
      have hi0 : i = 0 := by rw [List.length_drop] at hi; simp at hi; omega
      subst hi0
      have e3 : xa[xa.size - 1]? = some y := by
        rw [List.getElem_drop] at e2
        rw [show xa.size - 1 = ja by omega]
        rw [← e2]; simp
      exact O.asym (hlst x hx y e3))
    have el : (lsS xa xb ou ja jb).toList = ou.toList ++ xb.toList.drop jb ++ xa.toList.drop ja := by unfold lsS; rw [Array.toList_append, Array.toList_append, ext_drop, ext_drop]
    exact h _ _ (by rw [el]; exact p1) (by rw [el]; exact p2) ss
  have mi0 : MI ltb xa.toList xb.toList [z] 0 1 := MI.start (y0 := z) sb (by simpa using hz) hfst
  rw [mloS_eq]
  refine wpS_bind (wpS_lift (wpAny_rule ⟨rfl, ?_⟩))
  refine wpS_bind (wpS_elem hz ?_)
  dsimp only
  by_cases c1 : 1 = xb.size
  · rw [if_pos (by simpa using c1)]
    exact wpS_pure (mdone #[z] 0 1 st mi0 c1 hS)
  rw [if_neg (by simpa using c1)]
  by_cases c2 : 0 + 1 = xa.size
  · rw [if_pos (by simpa using c2)]
    exact wpS_pure (mlast #[z] 0 1 st mi0 c2 hS)
  rw [if_neg (by simpa using c2)]
  refine wpS_bind (wpS_get ?_)
  have at1 : ∀ {x : Array Keyed} {j : Nat}, j < x.size → ∃ u, x[j]? = some u := fun {x j} hj => ⟨_, Array.getElem?_eq_getElem hj⟩
  refine wpS_bind (wpS_mono (wpS_forRange
    (I := fun x c st' => SS κ st st' ∧ ∃ ou ja jb mg, c = (none, ou, ja, jb, mg) ∧ MI ltb xa.toList xb.toList ou.toList ja jb ∧ ja + 1 < xa.size ∧ jb < xb.size ∧ x + 1 ≤ ja + jb)
    (Q := fun c st' => ∃ r ou ja jb mg, c = (some r, ou, ja, jb, mg) ∧ Q r st') ?stp ?fin ⟨hS, #[z], 0, 1, _, rfl, mi0, by omega, by omega, by omega⟩) ?post)
  case fin =>
    rintro c st' ⟨ss, ou, ja, jb, mg, rfl, m, b1, b2, b3⟩
    omega
  case post =>
    rintro c st' ⟨r, ou, ja, jb, mg, rfl, hq⟩
    exact wpS_pure hq
  case stp =>
    rintro x c st1 _ hx ⟨ss, ou, ja, jb, mg, rfl, m, b1, b2, b3⟩
    dsimp only
    refine wpS_bind (wpS_mono (wpS_forRange
      (I := fun y c st' => SS κ st st' ∧ ∃ ou' ja' jb' ca cb, c = (none, ou', ja', jb', ca, cb) ∧ MI ltb xa.toList xb.toList ou'.toList ja' jb' ∧ ja' + 1 < xa.size ∧ jb' < xb.size ∧ ja + jb + y ≤ ja' + jb')
      (Q := fun c st' => (∃ r ou' ja' jb' ca cb, c = (some r, ou', ja', jb', ca, cb) ∧ Q r st') ∨ (SS κ st st' ∧ ∃ ou' ja' jb' ca cb, c = (none, ou', ja', jb', ca, cb) ∧ MI ltb xa.toList xb.toList ou'.toList ja' jb' ∧ ja' + 1 < xa.size ∧ jb' < xb.size ∧ ja + jb + 1 ≤ ja' + jb')) ?stp1 ?fin1 ⟨ss, ou, ja, jb, 0, 0, rfl, m, b1, b2, by omega⟩) ?post1)
    case fin1 =>
      rintro c st' ⟨ss, ou', ja', jb', ca, cb, rfl, m, d1, d2, d3⟩
      exact .inr ⟨ss, ou', ja', jb', ca, cb, rfl, m, d1, d2, by omega⟩
    case stp1 =>
      rintro y c st2 _ hy ⟨ss, ou', ja', jb', ca, cb, rfl, m, d1, d2, d3⟩
      dsimp only
      obtain ⟨vb, hvb⟩ := at1 (x := xb) d2
      obtain ⟨va, hva⟩ := at1 (x := xa) (j := ja') (by omega)
      refine wpS_bind (wpS_elem hvb (wpS_bind (wpS_elem hva (wpS_bind (hO vb va _ _ (Sb _ (arr_mem hvb)) (Sa _ (arr_mem hva)) ss.kind ?_)))))
      dsimp only
      cases hw : ltb vb va with
      | true =>
        simp only [if_true]
        have m2 := m.pB O sa sb hvb hva (O.asym hw)
        refine wpS_bind (wpS_elem hvb ?_)
        by_cases e1 : jb' + 1 = xb.size
        · rw [if_pos (by simpa using e1)]
          exact wpS_pure (.inl ⟨_, _, _, _, _, _, rfl, mdone _ _ _ _ m2 e1 ss⟩)
        · rw [if_neg (by simpa using e1)]
          split
          · exact wpS_pure (.inr ⟨ss, _, _, _, _, _, rfl, m2, d1, by omega, by omega⟩)
          · exact wpS_pure ⟨ss, _, _, _, _, _, rfl, m2, d1, by omega, by omega⟩
      | false =>
        simp only [Bool.false_eq_true, if_false]
        have m2 := m.pA O sa sb hvb hva hw
        refine wpS_bind (wpS_elem hva ?_)
        by_cases e1 : ja' + 1 + 1 = xa.size
        · rw [if_pos (by simpa using e1)]
          exact wpS_pure (.inl ⟨_, _, _, _, _, _, rfl, mlast _ _ _ _ m2 e1 ss⟩)
        · rw [if_neg (by simpa using e1)]
          split
          · exact wpS_pure (.inr ⟨ss, _, _, _, _, _, rfl, m2, by omega, d2, by omega⟩)
          · exact wpS_pure ⟨ss, _, _, _, _, _, rfl, m2, by omega, d2, by omega⟩
    case post1 =>
      rintro c st2 (⟨r, ou', ja', jb', ca, cb, rfl, hq⟩ | ⟨ss, ou', ja', jb', ca, cb, rfl, m, d1, d2, d3⟩)
      · exact wpS_pure ⟨r, _, _, _, _, rfl, hq⟩
      dsimp only
      refine wpS_bind (wpS_lift (wpAny_rule ⟨rfl, ?_⟩))
      refine wpS_bind (wpS_mono (wpS_forRange
        (I := fun y c st' => SS κ st st' ∧ ∃ ou' ja' jb' mg ca cb, c = (none, ou', ja', jb', mg, ca, cb) ∧ MI ltb xa.toList xb.toList ou'.toList ja' jb' ∧ ja' + 1 < xa.size ∧ jb' < xb.size ∧ ja + jb + 1 ≤ ja' + jb')
        (Q := fun c st' => (∃ r ou' ja' jb' mg ca cb, c = (some r, ou', ja', jb', mg, ca, cb) ∧ Q r st') ∨ (SS κ st st' ∧ ∃ ou' ja' jb' mg ca cb, c = (none, ou', ja', jb', mg, ca, cb) ∧ MI ltb xa.toList xb.toList ou'.toList ja' jb' ∧ ja' + 1 < xa.size ∧ jb' < xb.size ∧ ja + jb + 1 ≤ ja' + jb')) ?stp2 ?fin2 ⟨ss, ou', ja', jb', _, ca, cb, rfl, m, d1, d2, d3⟩) ?post2)
      case fin2 =>
        rintro c st' hh
        exact .inr hh
      case post2 =>
        rintro c st3 (⟨r, ou2, ja2, jb2, mg2, ca2, cb2, rfl, hq⟩ | ⟨ss, ou2, ja2, jb2, mg2, ca2, cb2, rfl, m, f1, f2, f3⟩)
        · exact wpS_pure ⟨r, _, _, _, _, rfl, hq⟩
        · dsimp only
          refine wpS_bind (wpS_modify ?_)
          exact wpS_pure ⟨ss.smg _, _, _, _, _, rfl, m, f1, f2, by omega⟩
      case stp2 =>
        rintro y c st3 _ hy ⟨ss, ou2, ja2, jb2, mg2, ca2, cb2, rfl, m, f1, f2, f3⟩
        dsimp only
        obtain ⟨vb, hvb⟩ := at1 (x := xb) f2
        have sxa : ∀ (q : Nat) i j u v, i < j → j < xa.size - q → xa[q + i]? = some u → xa[q + j]? = some v → leB ltb u v := fun q i j u v hij _ hu hv => arr_le sa (by omega) hu hv
        have sxb : ∀ (q : Nat) i j u v, i < j → j < xb.size - q → xb[q + i]? = some u → xb[q + j]? = some v → leB ltb u v := fun q i j u v hij _ hu hv => arr_le sb (by omega) hu hv
        obtain ⟨vl, hvl⟩ := at1 (x := xa) (j := xa.size - 1) (by omega)
        have hbl := hlst vb (arr_mem hvb) vl hvl
        by_cases hg : mg2 > 1
        · rw [if_pos hg]
          refine wpS_bind (wpS_modify ?_)
          have ss2 := ss.smg (mg2 - 1)
          refine wpS_bind (wpS_elem hvb (wpS_bind (wpS_galR O hO ss2.kind (Sb _ (arr_mem hvb)) Sa (sxa ja2) (by omega) (by omega) fun k hk1 hk2 hk3 => ?_)))
          have hkl : k < xa.size - ja2 := by
            by_cases q : k < xa.size - ja2
            · exact q
            · have := hk2 (xa.size - ja2 - 1) (by omega) vl (by rw [show ja2 + (xa.size - ja2 - 1) = xa.size - 1 by omega]; exact hvl)
              unfold leB at this
              rw [hbl] at this; cases this
          dsimp only
          by_cases kp : k > 0
          · rw [if_pos kp]
            have M3 := m.eA O sa sb (k := k) (by omega) hvb hk2
            by_cases e0 : ja2 + k + 1 = xa.size
            · rw [if_pos (by simpa using e0)]
              exact wpS_pure (.inl ⟨_, _, _, _, _, _, _, rfl, mlast _ _ _ _ M3 e0 ss2⟩)
            rw [if_neg (by simpa using e0), if_neg (by simp; omega)]
            obtain ⟨va, hva⟩ := at1 (x := xa) (j := ja2 + k) (by omega)
            have hw := hk3 k (Nat.le_refl _) hkl va hva
            refine wpS_bind (wpS_elem hvb ?_)
            have m4 := M3.pB O sa sb hvb hva (O.asym hw)
            by_cases e1 : jb2 + 1 = xb.size
            · rw [if_pos (by simpa using e1)]
              exact wpS_pure (.inl ⟨_, _, _, _, _, _, _, rfl, mdone _ _ _ _ m4 e1 ss2⟩)
            rw [if_neg (by simpa using e1)]
            refine wpS_bind (wpS_elem hva (wpS_bind (wpS_galL O hO ss2.kind (Sa _ (arr_mem hva)) Sb (sxb (jb2 + 1)) (by omega) (by omega) fun k2 g1 g2 g3 => ?_)))
            dsimp only
            by_cases k2p : k2 > 0
            · rw [if_pos k2p]
              have m5 := m4.eB O sa sb (k := k2) (by omega) hva (fun i hi u hu => O.asym (g2 i hi u hu))
              by_cases e2 : jb2 + 1 + k2 = xb.size
              · rw [if_pos (by simpa using e2)]
                exact wpS_pure (.inl ⟨_, _, _, _, _, _, _, rfl, mdone _ _ _ _ m5 e2 ss2⟩)
              rw [if_neg (by simpa using e2)]
              obtain ⟨vb2, hvb2⟩ := at1 (x := xb) (j := jb2 + 1 + k2) (by omega)
              have m6 := m5.pA O sa sb hvb2 hva (g3 k2 (Nat.le_refl _) (by omega) vb2 hvb2)
              refine wpS_bind (wpS_elem hva ?_)
              by_cases e3 : ja2 + k + 1 + 1 = xa.size
              · rw [if_pos (by simpa using e3)]
                exact wpS_pure (.inl ⟨_, _, _, _, _, _, _, rfl, mlast _ _ _ _ m6 e3 ss2⟩)
              rw [if_neg (by simpa using e3)]
              split
              · exact wpS_pure (.inr ⟨ss2, _, _, _, _, _, _, rfl, m6, by omega, by omega, by omega⟩)
              · exact wpS_pure ⟨ss2, _, _, _, _, _, _, rfl, m6, by omega, by omega, by omega⟩
            · rw [if_neg k2p]
              obtain ⟨vb2, hvb2⟩ := at1 (x := xb) (j := jb2 + 1) (by omega)
              have m6 := m4.pA O sa sb hvb2 hva (g3 0 (by omega) (by omega) vb2 hvb2)
              refine wpS_bind (wpS_elem hva ?_)
              by_cases e3 : ja2 + k + 1 + 1 = xa.size
              · rw [if_pos (by simpa using e3)]
                exact wpS_pure (.inl ⟨_, _, _, _, _, _, _, rfl, mlast _ _ _ _ m6 e3 ss2⟩)
              rw [if_neg (by simpa using e3)]
              split
              · exact wpS_pure (.inr ⟨ss2, _, _, _, _, _, _, rfl, m6, by omega, by omega, by omega⟩)
              · exact wpS_pure ⟨ss2, _, _, _, _, _, _, rfl, m6, by omega, by omega, by omega⟩
          · rw [if_neg kp]
            have M3 := m
            obtain ⟨va, hva⟩ := at1 (x := xa) (j := ja2) (by omega)
            have hw := hk3 0 (by omega) (by omega) va hva
            refine wpS_bind (wpS_elem hvb ?_)
            have m4 := M3.pB O sa sb hvb hva (O.asym hw)
            by_cases e1 : jb2 + 1 = xb.size
            · rw [if_pos (by simpa using e1)]
              exact wpS_pure (.inl ⟨_, _, _, _, _, _, _, rfl, mdone _ _ _ _ m4 e1 ss2⟩)
            rw [if_neg (by simpa using e1)]
            refine wpS_bind (wpS_elem hva (wpS_bind (wpS_galL O hO ss2.kind (Sa _ (arr_mem hva)) Sb (sxb (jb2 + 1)) (by omega) (by omega) fun k2 g1 g2 g3 => ?_)))
            dsimp only
            by_cases k2p : k2 > 0
            · rw [if_pos k2p]
              have m5 := m4.eB O sa sb (k := k2) (by omega) hva (fun i hi u hu => O.asym (g2 i hi u hu))
              by_cases e2 : jb2 + 1 + k2 = xb.size
              · rw [if_pos (by simpa using e2)]
                exact wpS_pure (.inl ⟨_, _, _, _, _, _, _, rfl, mdone _ _ _ _ m5 e2 ss2⟩)
              rw [if_neg (by simpa using e2)]
              obtain ⟨vb2, hvb2⟩ := at1 (x := xb) (j := jb2 + 1 + k2) (by omega)
              have m6 := m5.pA O sa sb hvb2 hva (g3 k2 (Nat.le_refl _) (by omega) vb2 hvb2)
              refine wpS_bind (wpS_elem hva ?_)
              by_cases e3 : ja2 + 1 + 1 = xa.size
              · rw [if_pos (by simpa using e3)]
                exact wpS_pure (.inl ⟨_, _, _, _, _, _, _, rfl, mlast _ _ _ _ m6 e3 ss2⟩)
              rw [if_neg (by simpa using e3)]
              split
              · exact wpS_pure (.inr ⟨ss2, _, _, _, _, _, _, rfl, m6, by omega, by omega, by omega⟩)
              · exact wpS_pure ⟨ss2, _, _, _, _, _, _, rfl, m6, by omega, by omega, by omega⟩
            · rw [if_neg k2p]
              obtain ⟨vb2, hvb2⟩ := at1 (x := xb) (j := jb2 + 1) (by omega)
              have m6 := m4.pA O sa sb hvb2 hva (g3 0 (by omega) (by omega) vb2 hvb2)
              refine wpS_bind (wpS_elem hva ?_)
              by_cases e3 : ja2 + 1 + 1 = xa.size
              · rw [if_pos (by simpa using e3)]
                exact wpS_pure (.inl ⟨_, _, _, _, _, _, _, rfl, mlast _ _ _ _ m6 e3 ss2⟩)
              rw [if_neg (by simpa using e3)]
              split
              · exact wpS_pure (.inr ⟨ss2, _, _, _, _, _, _, rfl, m6, by omega, by omega, by omega⟩)
              · exact wpS_pure ⟨ss2, _, _, _, _, _, _, rfl, m6, by omega, by omega, by omega⟩
        · rw [if_neg hg]
          refine wpS_bind (wpS_modify ?_)
          have ss2 := ss.smg mg2
          refine wpS_bind (wpS_elem hvb (wpS_bind (wpS_galR O hO ss2.kind (Sb _ (arr_mem hvb)) Sa (sxa ja2) (by omega) (by omega) fun k hk1 hk2 hk3 => ?_)))
          have hkl : k < xa.size - ja2 := by
            by_cases q : k < xa.size - ja2
            · exact q
            · have := hk2 (xa.size - ja2 - 1) (by omega) vl (by rw [show ja2 + (xa.size - ja2 - 1) = xa.size - 1 by omega]; exact hvl)
              unfold leB at this
              rw [hbl] at this; cases this
          dsimp only
          by_cases kp : k > 0
          · rw [if_pos kp]
            have M3 := m.eA O sa sb (k := k) (by omega) hvb hk2
            by_cases e0 : ja2 + k + 1 = xa.size
            · rw [if_pos (by simpa using e0)]
              exact wpS_pure (.inl ⟨_, _, _, _, _, _, _, rfl, mlast _ _ _ _ M3 e0 ss2⟩)
            rw [if_neg (by simpa using e0), if_neg (by simp; omega)]
            obtain ⟨va, hva⟩ := at1 (x := xa) (j := ja2 + k) (by omega)
            have hw := hk3 k (Nat.le_refl _) hkl va hva
            refine wpS_bind (wpS_elem hvb ?_)
            have m4 := M3.pB O sa sb hvb hva (O.asym hw)
            by_cases e1 : jb2 + 1 = xb.size
            · rw [if_pos (by simpa using e1)]
              exact wpS_pure (.inl ⟨_, _, _, _, _, _, _, rfl, mdone _ _ _ _ m4 e1 ss2⟩)
            rw [if_neg (by simpa using e1)]
            refine wpS_bind (wpS_elem hva (wpS_bind (wpS_galL O hO ss2.kind (Sa _ (arr_mem hva)) Sb (sxb (jb2 + 1)) (by omega) (by omega) fun k2 g1 g2 g3 => ?_)))
            dsimp only
            by_cases k2p : k2 > 0
            · rw [if_pos k2p]
              have m5 := m4.eB O sa sb (k := k2) (by omega) hva (fun i hi u hu => O.asym (g2 i hi u hu))
              by_cases e2 : jb2 + 1 + k2 = xb.size
              · rw [if_pos (by simpa using e2)]
                exact wpS_pure (.inl ⟨_, _, _, _, _, _, _, rfl, mdone _ _ _ _ m5 e2 ss2⟩)
              rw [if_neg (by simpa using e2)]
              obtain ⟨vb2, hvb2⟩ := at1 (x := xb) (j := jb2 + 1 + k2) (by omega)
              have m6 := m5.pA O sa sb hvb2 hva (g3 k2 (Nat.le_refl _) (by omega) vb2 hvb2)
              refine wpS_bind (wpS_elem hva ?_)
              by_cases e3 : ja2 + k + 1 + 1 = xa.size
              · rw [if_pos (by simpa using e3)]
                exact wpS_pure (.inl ⟨_, _, _, _, _, _, _, rfl, mlast _ _ _ _ m6 e3 ss2⟩)
              rw [if_neg (by simpa using e3)]
              split
              · exact wpS_pure (.inr ⟨ss2, _, _, _, _, _, _, rfl, m6, by omega, by omega, by omega⟩)
              · exact wpS_pure ⟨ss2, _, _, _, _, _, _, rfl, m6, by omega, by omega, by omega⟩
            · rw [if_neg k2p]
              obtain ⟨vb2, hvb2⟩ := at1 (x := xb) (j := jb2 + 1) (by omega)
              have m6 := m4.pA O sa sb hvb2 hva (g3 0 (by omega) (by omega) vb2 hvb2)
              refine wpS_bind (wpS_elem hva ?_)
              by_cases e3 : ja2 + k + 1 + 1 = xa.size
              · rw [if_pos (by simpa using e3)]
                exact wpS_pure (.inl ⟨_, _, _, _, _, _, _, rfl, mlast _ _ _ _ m6 e3 ss2⟩)
              rw [if_neg (by simpa using e3)]
              split
              · exact wpS_pure (.inr ⟨ss2, _, _, _, _, _, _, rfl, m6, by omega, by omega, by omega⟩)
              · exact wpS_pure ⟨ss2, _, _, _, _, _, _, rfl, m6, by omega, by omega, by omega⟩
          · rw [if_neg kp]
            have M3 := m
            obtain ⟨va, hva⟩ := at1 (x := xa) (j := ja2) (by omega)
            have hw := hk3 0 (by omega) (by omega) va hva
            refine wpS_bind (wpS_elem hvb ?_)
            have m4 := M3.pB O sa sb hvb hva (O.asym hw)
            by_cases e1 : jb2 + 1 = xb.size
            · rw [if_pos (by simpa using e1)]
              exact wpS_pure (.inl ⟨_, _, _, _, _, _, _, rfl, mdone _ _ _ _ m4 e1 ss2⟩)
            rw [if_neg (by simpa using e1)]
            refine wpS_bind (wpS_elem hva (wpS_bind (wpS_galL O hO ss2.kind (Sa _ (arr_mem hva)) Sb (sxb (jb2 + 1)) (by omega) (by omega) fun k2 g1 g2 g3 => ?_)))
            dsimp only
            by_cases k2p : k2 > 0
            · rw [if_pos k2p]
              have m5 := m4.eB O sa sb (k := k2) (by omega) hva (fun i hi u hu => O.asym (g2 i hi u hu))
              by_cases e2 : jb2 + 1 + k2 = xb.size
              · rw [if_pos (by simpa using e2)]
                exact wpS_pure (.inl ⟨_, _, _, _, _, _, _, rfl, mdone _ _ _ _ m5 e2 ss2⟩)
              rw [if_neg (by simpa using e2)]
              obtain ⟨vb2, hvb2⟩ := at1 (x := xb) (j := jb2 + 1 + k2) (by omega)
              have m6 := m5.pA O sa sb hvb2 hva (g3 k2 (Nat.le_refl _) (by omega) vb2 hvb2)
              refine wpS_bind (wpS_elem hva ?_)
              by_cases e3 : ja2 + 1 + 1 = xa.size
              · rw [if_pos (by simpa using e3)]
                exact wpS_pure (.inl ⟨_, _, _, _, _, _, _, rfl, mlast _ _ _ _ m6 e3 ss2⟩)
              rw [if_neg (by simpa using e3)]
              split
              · exact wpS_pure (.inr ⟨ss2, _, _, _, _, _, _, rfl, m6, by omega, by omega, by omega⟩)
              · exact wpS_pure ⟨ss2, _, _, _, _, _, _, rfl, m6, by omega, by omega, by omega⟩
            · rw [if_neg k2p]
              obtain ⟨vb2, hvb2⟩ := at1 (x := xb) (j := jb2 + 1) (by omega)
              have m6 := m4.pA O sa sb hvb2 hva (g3 0 (by omega) (by omega) vb2 hvb2)
              refine wpS_bind (wpS_elem hva ?_)
              by_cases e3 : ja2 + 1 + 1 = xa.size
              · rw [if_pos (by simpa using e3)]
                exact wpS_pure (.inl ⟨_, _, _, _, _, _, _, rfl, mlast _ _ _ _ m6 e3 ss2⟩)
              rw [if_neg (by simpa using e3)]
              split
              · exact wpS_pure (.inr ⟨ss2, _, _, _, _, _, _, rfl, m6, by omega, by omega, by omega⟩)
              · exact wpS_pure ⟨ss2, _, _, _, _, _, _, rfl, m6, by omega, by omega, by omega⟩
end
end L2

/-! mergeHi, by the other order of the reversed ones -/
namespace L2
open PySem PySem.Spec PyProof.Rows
def mhiS : Array Keyed → Array Keyed → StateT SortSt Sem (Array Keyed) := sortPriv% PySem.Builtin.mergeHi
def dhS (xa xb ou : Array Keyed) (na nb : Nat) : Array Keyed := xa.extract 0 na ++ xb.extract 0 nb ++ ou.reverse
def fhS (xa xb ou : Array Keyed) (na nb : Nat) : Array Keyed := xb.extract 0 nb ++ xa.extract 0 na ++ ou.reverse
theorem mhiS_eq (xa xb : Array Keyed) : mhiS xa xb = (do
  rule "list.sort.merge-hi"
  let mut qa := xa.size - 1
  let mut qb := xb.size
  let mut ou : Array Keyed := #[← elem' xa qa]
  if qa == 0 then return dhS xa xb ou qa qb
  if qb == 1 then return fhS xa xb ou qa qb
  let mut mg := gallopOf (← get)
  for _ in [0:xa.size + xb.size] do
    let mut ca := 0
    let mut cb := 0
    for _ in [0:xa.size + xb.size] do
      let some aw ← lt' (← elem' xb (qb - 1)) (← elem' xa (qa - 1)) | return dhS xa xb ou qa qb
      if aw then
        qa := qa - 1; ou := ou.push (← elem' xa qa); ca := ca + 1; cb := 0
        if qa == 0 then return dhS xa xb ou qa qb
        if ca ≥ mg then break
      else
        qb := qb - 1; ou := ou.push (← elem' xb qb); cb := cb + 1; ca := 0
        if qb == 1 then return fhS xa xb ou qa qb
        if cb ≥ mg then break
    rule "list.sort.gallop"
    mg := mg + 1
    for _ in [0:xa.size + xb.size] do
      if mg > 1 then mg := mg - 1
      smgS mg
      let some tt ← galS false (← elem' xb (qb - 1)) xa 0 qa (qa - 1) | return dhS xa xb ou qa qb
      let kk := qa - tt
      ca := kk
      if kk > 0 then
        ou := ou ++ (xa.extract tt qa).reverse; qa := tt
        if qa == 0 then return dhS xa xb ou qa qb
      qb := qb - 1; ou := ou.push (← elem' xb qb)
      if qb == 1 then return fhS xa xb ou qa qb
      let some tt ← galS true (← elem' xa (qa - 1)) xb 0 qb (qb - 1) | return dhS xa xb ou qa qb
      let kk := qb - tt
      cb := kk
      if kk > 0 then
        ou := ou ++ (xb.extract tt qb).reverse; qb := tt
        if qb == 1 then return fhS xa xb ou qa qb
        if qb == 0 then return dhS xa xb ou qa qb
      qa := qa - 1; ou := ou.push (← elem' xa qa)
      if qa == 0 then return dhS xa xb ou qa qb
      if ca < 7 && cb < 7 then break
    mg := mg + 1
    smgS mg
  unsupported "internal:list.sort.merge-bound") := rfl
def flipB (ltb : Keyed → Keyed → Bool) : Keyed → Keyed → Bool := fun x y => ltb y x
theorem OrdB.flip {ltb : Keyed → Keyed → Bool} (O : OrdB ltb) : OrdB (flipB ltb) := ⟨fun h => O.asym h, fun h1 h2 => O.tr h2 h1⟩
section
variable {ltb : Keyed → Keyed → Bool} {xa xb ou : Array Keyed} {na nb k : Nat}
theorem rev_rise {l : List Keyed} (h : l.Pairwise (leB ltb)) : l.reverse.Pairwise (leB (flipB ltb)) := by
  rw [List.pairwise_reverse]
  exact h
theorem rise_rev {l : List Keyed} (h : l.Pairwise (leB (flipB ltb))) : l.reverse.Pairwise (leB ltb) := by
  rw [List.pairwise_reverse]
  exact h
/-- what has been merged from the end on -/
def HI (ltb : Keyed → Keyed → Bool) (xa xb ou : Array Keyed) (na nb : Nat) : Prop := MI (flipB ltb) xb.toList.reverse xa.toList.reverse ou.toList (xb.size - nb) (xa.size - na)
theorem rev_drop (x : Array Keyed) {n : Nat} (h : n ≤ x.size) : x.toList.reverse.drop (x.size - n) = (x.toList.take n).reverse := by
  rw [List.drop_reverse, Array.length_toList, show x.size - (x.size - n) = n by omega]
theorem rev_part (x : Array Keyed) {n t : Nat} (h : n ≤ x.size) (ht : t ≤ n) : (x.toList.reverse.drop (x.size - n)).take (n - t) = ((x.toList.take n).drop t).reverse := by
  rw [rev_drop x h, List.take_reverse, List.length_take, Array.length_toList, show min n x.size - (n - t) = t by omega]
theorem rev_get (x : Array Keyed) {n : Nat} (h1 : 1 ≤ n) (h : n ≤ x.size) : x.toList.reverse[x.size - n]? = x[n - 1]? := by
  rw [List.getElem?_reverse (by rw [Array.length_toList]; omega), Array.length_toList]
  rw [show x.size - 1 - (x.size - n) = n - 1 by omega]
  simp
theorem HI.chA (O : OrdB ltb) (sa : xa.toList.Pairwise (leB ltb)) (sb : xb.toList.Pairwise (leB ltb)) (m : HI ltb xa xb ou na nb) {t : Nat} (ha : na ≤ xa.size) (ht : t ≤ na) (hb1 : 1 ≤ nb) (hb : nb ≤ xb.size) {b : Keyed} (hvb : xb[nb - 1]? = some b)
    (c : ∀ i, t ≤ i → i < na → ∀ x, xa[i]? = some x → leB ltb b x) {ou2 : Array Keyed} (eo : ou2.toList = ou.toList ++ ((xa.toList.take na).drop t).reverse) : HI ltb xa xb ou2 t nb := by
  have q := MI.stepB O.flip (rev_rise sb) (rev_rise sa) m (k := na - t) (by rw [List.length_reverse, Array.length_toList]; omega) (z := b) (by rw [rev_get xb hb1 hb]; exact hvb) (fun y hy => by
    rw [rev_part xa ha ht, List.mem_reverse] at hy
    obtain ⟨i, hi, e⟩ := List.getElem_of_mem hy
    rw [List.length_drop, List.length_take, Array.length_toList] at hi
    rw [List.getElem_drop, List.getElem_take] at e
    exact c (t + i) (by omega) (by omega) y (by rw [Array.getElem?_eq_getElem (by omega)]; simpa using e))
  rw [rev_part xa ha ht, ← eo] at q
  unfold HI
  rw [show xa.size - t = xa.size - na + (na - t) by omega]
  exact q
theorem HI.chB (O : OrdB ltb) (sa : xa.toList.Pairwise (leB ltb)) (sb : xb.toList.Pairwise (leB ltb)) (m : HI ltb xa xb ou na nb) {t : Nat} (hb : nb ≤ xb.size) (ht : t ≤ nb) (ha1 : 1 ≤ na) (ha : na ≤ xa.size) {a : Keyed} (hva : xa[na - 1]? = some a)
    (c : ∀ i, t ≤ i → i < nb → ∀ x, xb[i]? = some x → leB ltb a x) {ou2 : Array Keyed} (eo : ou2.toList = ou.toList ++ ((xb.toList.take nb).drop t).reverse) : HI ltb xa xb ou2 na t := by
  have q := MI.stepA O.flip (rev_rise sb) (rev_rise sa) m (k := nb - t) (by rw [List.length_reverse, Array.length_toList]; omega) (z := a) (by rw [rev_get xa ha1 ha]; exact hva) (fun y hy => by
    rw [rev_part xb hb ht, List.mem_reverse] at hy
    obtain ⟨i, hi, e⟩ := List.getElem_of_mem hy
    rw [List.length_drop, List.length_take, Array.length_toList] at hi
    rw [List.getElem_drop, List.getElem_take] at e
    exact c (t + i) (by omega) (by omega) y (by rw [Array.getElem?_eq_getElem (by omega)]; simpa using e))
  rw [rev_part xb hb ht, ← eo] at q
  unfold HI
  rw [show xb.size - t = xb.size - nb + (nb - t) by omega]
  exact q
theorem one_rev {x : Array Keyed} {n : Nat} (h1 : 1 ≤ n) (h : n ≤ x.size) {v : Keyed} (hv : x[n - 1]? = some v) : ((x.toList.take n).drop (n - 1)).reverse = [v] := by
  have e := (Array.getElem?_eq_some_iff.mp hv).2
  rw [List.drop_eq_getElem_cons (by rw [List.length_take, Array.length_toList]; omega)]
  rw [List.drop_eq_nil_of_le (by rw [List.length_take, Array.length_toList]; omega)]
  rw [List.getElem_take]
  simp [e]
theorem HI.done (sb : xb.toList.Pairwise (leB ltb)) (m : HI ltb xa xb ou 0 nb) (hb : nb ≤ xb.size) : (dhS xa xb ou 0 nb).toList.Pairwise (leB ltb) ∧ (dhS xa xb ou 0 nb).toList.Perm (xa.toList ++ xb.toList) := by
  obtain ⟨p1, p2⟩ := MI.done (rev_rise sb) m (by rw [List.length_reverse, Array.length_toList]; omega)
  have el : (dhS xa xb ou 0 nb).toList = (ou.toList ++ xb.toList.reverse.drop (xb.size - nb) ++ xa.toList.reverse.drop (xa.size - 0)).reverse := by
    unfold dhS
    rw [rev_drop xb hb, rev_drop xa (Nat.zero_le _)]
    simp
  rw [el]
  refine ⟨rise_rev p1, ((List.reverse_perm _).trans p2).trans ?_⟩
  refine List.perm_append_comm.trans ?_
  exact List.Perm.append (List.reverse_perm _) (List.reverse_perm _)
theorem HI.first (sa : xa.toList.Pairwise (leB ltb)) (sb : xb.toList.Pairwise (leB ltb)) (m : HI ltb xa xb ou na nb) (ha : na ≤ xa.size) (hb : nb ≤ xb.size) (h : ∀ x ∈ xa.toList, ∀ y ∈ xb.toList.take nb, leB ltb y x) :
    (fhS xa xb ou na nb).toList.Pairwise (leB ltb) ∧ (fhS xa xb ou na nb).toList.Perm (xa.toList ++ xb.toList) := by
  obtain ⟨p1, p2⟩ := MI.last (rev_rise sb) (rev_rise sa) m (fun x hx y hy => by
    rw [rev_drop xb hb, List.mem_reverse] at hy
    exact h x (List.mem_reverse.mp hx) y hy)
  have el : (fhS xa xb ou na nb).toList = (ou.toList ++ xa.toList.reverse.drop (xa.size - na) ++ xb.toList.reverse.drop (xb.size - nb)).reverse := by
    unfold fhS
    rw [rev_drop xb hb, rev_drop xa ha]
    simp
  rw [el]
  refine ⟨rise_rev p1, ((List.reverse_perm _).trans p2).trans ?_⟩
  refine List.perm_append_comm.trans ?_
  exact List.Perm.append (List.reverse_perm _) (List.reverse_perm _)
end
end L2

/-! mergeHi, walked -/
namespace L2
open PySem PySem.Spec PyProof.Rows
section
variable {prog : Program} {w : World} {A : Around} {E : Value → Shared → Prop} {s : Shared} {ltb : Keyed → Keyed → Bool} {S : Keyed → Prop} {κ : SortKind}
theorem wpS_mhi (O : OrdB ltb) (hO : LtOk prog w A E s ltb S κ) {xa xb : Array Keyed} {st : SortSt} {Q : Array Keyed → SortSt → Prop} (Sa : ∀ x ∈ xa.toList, S x) (Sb : ∀ x ∈ xb.toList, S x) (sa : xa.toList.Pairwise (leB ltb)) (sb : xb.toList.Pairwise (leB ltb))
    {z zl : Keyed} (hz : xb[0]? = some z) (hfst : ∀ y ∈ xa.toList, ltb z y = true) (hzl : xa[xa.size - 1]? = some zl) (hlst : ∀ x ∈ xb.toList, ltb x zl = true) (hS : SS κ st st)
    (h : ∀ r st', r.toList.Pairwise (leB ltb) → r.toList.Perm (xa.toList ++ xb.toList) → SS κ st st' → Q r st') : wpS (model prog w) A E s (mhiS xa xb) Q st := by
  have hb0 : 0 < xb.size := (Array.getElem?_eq_some_iff.mp hz).1
  have ha0 : 0 < xa.size := by have := (Array.getElem?_eq_some_iff.mp hzl).1; omega
  have mdone : ∀ (ou : Array Keyed) (na nb : Nat) (st' : SortSt), HI ltb xa xb ou na nb → na = 0 → nb ≤ xb.size → SS κ st st' → Q (dhS xa xb ou na nb) st' := fun ou na nb st' m e hb ss => by
    subst e
    obtain ⟨p1, p2⟩ := m.done sb hb
    exact h _ _ p1 p2 ss
  have mfirst : ∀ (ou : Array Keyed) (na nb : Nat) (st' : SortSt), HI ltb xa xb ou na nb → nb = 1 → na ≤ xa.size → SS κ st st' → Q (fhS xa xb ou na nb) st' := fun ou na nb st' m e ha ss => by
    subst e
    obtain ⟨p1, p2⟩ := m.first sa sb ha (by omega) (fun x hx y hy => by
      have e1 : xb.toList.take 1 = [z] := by have := one_at hz; simpa using this
      rw [e1] at hy
      simp at hy
      rw [hy]
      exact O.asym (hfst x hx))
    exact h _ _ p1 p2 ss
  have mi0 : HI ltb xa xb #[zl] (xa.size - 1) xb.size := by
    unfold HI
    rw [Nat.sub_self, show xa.size - (xa.size - 1) = 1 by omega]
    refine MI.start (y0 := zl) (rev_rise sa) ?_ (fun y hy => O.asym (hlst y (List.mem_reverse.mp hy)))
    have := rev_get xa (n := xa.size) (by omega) (Nat.le_refl _)
    rw [Nat.sub_self] at this
    rw [this]; exact hzl
  have at1 : ∀ {x : Array Keyed} {j : Nat}, j < x.size → ∃ u, x[j]? = some u := fun {x j} hj => ⟨_, Array.getElem?_eq_getElem hj⟩
  have push1 : ∀ (ou : Array Keyed) {x : Array Keyed} {n : Nat} {v : Keyed}, 1 ≤ n → n ≤ x.size → x[n - 1]? = some v → (ou.push v).toList = ou.toList ++ ((x.toList.take n).drop (n - 1)).reverse := fun ou x n v h1 h2 h3 => by
    rw [one_rev h1 h2 h3]; simp
  have ext1 : ∀ (ou x : Array Keyed) (t n : Nat), (ou ++ (x.extract t n).reverse).toList = ou.toList ++ ((x.toList.take n).drop t).reverse := fun ou x t n => by
    rw [Array.toList_append, Array.toList_reverse, Array.toList_extract]
    show ou.toList ++ (List.take (n - t) (List.drop t x.toList)).reverse = _
    rw [List.drop_take]
  rw [mhiS_eq]
  refine wpS_bind (wpS_lift (wpAny_rule ⟨rfl, ?_⟩))
  refine wpS_bind (wpS_elem hzl ?_)
  by_cases c1 : xa.size - 1 = 0
  · rw [if_pos (by simpa using c1)]
    exact wpS_pure (mdone #[zl] _ _ st mi0 c1 (Nat.le_refl _) hS)
  rw [if_neg (by simpa using c1)]
  by_cases c2 : xb.size = 1
  · rw [if_pos (by simpa using c2)]
    exact wpS_pure (mfirst #[zl] _ _ st mi0 c2 (by omega) hS)
  rw [if_neg (by simpa using c2)]
  refine wpS_bind (wpS_get ?_)
  refine wpS_bind (wpS_mono (wpS_forRange
    (I := fun x c st' => SS κ st st' ∧ ∃ qa qb ou mg, c = (none, qa, qb, ou, mg) ∧ HI ltb xa xb ou qa qb ∧ 1 ≤ qa ∧ qa ≤ xa.size ∧ 2 ≤ qb ∧ qb ≤ xb.size ∧ x + 1 + qa + qb ≤ xa.size + xb.size)
    (Q := fun c st' => ∃ r qa qb ou mg, c = (some r, qa, qb, ou, mg) ∧ Q r st') ?stp ?fin ⟨hS, _, _, #[zl], _, rfl, mi0, by omega, by omega, by omega, by omega, by omega⟩) ?post)
  case fin =>
    rintro c st' ⟨ss, qa, qb, ou, mg, rfl, m, b1, b2, b3, b4, b5⟩
    omega
  case post =>
    rintro c st' ⟨r, qa, qb, ou, mg, rfl, hq⟩
    exact wpS_pure hq
  case stp =>
    rintro x c st1 _ hx ⟨ss, qa0, qb0, ou, mg, rfl, m, b1, b2, b3, b4, b5⟩
    dsimp only
    refine wpS_bind (wpS_mono (wpS_forRange
      (I := fun y c st' => SS κ st st' ∧ ∃ qa qb ou ca cb, c = (none, qa, qb, ou, ca, cb) ∧ HI ltb xa xb ou qa qb ∧ 1 ≤ qa ∧ qa ≤ xa.size ∧ 2 ≤ qb ∧ qb ≤ xb.size ∧ y + qa + qb ≤ qa0 + qb0)
      (Q := fun c st' => (∃ r qa qb ou ca cb, c = (some r, qa, qb, ou, ca, cb) ∧ Q r st') ∨ (SS κ st st' ∧ ∃ qa qb ou ca cb, c = (none, qa, qb, ou, ca, cb) ∧ HI ltb xa xb ou qa qb ∧ 1 ≤ qa ∧ qa ≤ xa.size ∧ 2 ≤ qb ∧ qb ≤ xb.size ∧ 1 + qa + qb ≤ qa0 + qb0)) ?stp1 ?fin1 ⟨ss, _, _, ou, 0, 0, rfl, m, b1, b2, b3, b4, by omega⟩) ?post1)
    case fin1 =>
      rintro c st' ⟨ss, qa, qb, ou, ca, cb, rfl, m, d1, d2, d3, d4, d5⟩
      exact .inr ⟨ss, _, _, _, _, _, rfl, m, d1, d2, d3, d4, by omega⟩
    case stp1 =>
      rintro y c st2 _ hy ⟨ss, qa, qb, ou, ca, cb, rfl, m, d1, d2, d3, d4, d5⟩
      dsimp only
      obtain ⟨vb, hvb⟩ := at1 (x := xb) (j := qb - 1) (by omega)
      obtain ⟨va, hva⟩ := at1 (x := xa) (j := qa - 1) (by omega)
      refine wpS_bind (wpS_elem hvb (wpS_bind (wpS_elem hva (wpS_bind (hO vb va _ _ (Sb _ (arr_mem hvb)) (Sa _ (arr_mem hva)) ss.kind ?_)))))
      dsimp only
      cases hw : ltb vb va with
      | true =>
        simp only [if_true]
        have m2 : HI ltb xa xb (ou.push va) (qa - 1) qb := m.chA O sa sb d2 (by omega) (by omega) d4 hvb (fun i h1 h2 u hu => by
          obtain rfl : i = qa - 1 := by omega
          rw [hva] at hu; cases hu; exact O.asym hw) (push1 ou d1 d2 hva)
        refine wpS_bind (wpS_elem hva ?_)
        by_cases e1 : qa - 1 = 0
        · rw [if_pos (by simpa using e1)]
          exact wpS_pure (.inl ⟨_, _, _, _, _, _, rfl, mdone _ _ _ _ m2 e1 d4 ss⟩)
        · rw [if_neg (by simpa using e1)]
          split
          · exact wpS_pure (.inr ⟨ss, _, _, _, _, _, rfl, m2, by omega, by omega, d3, d4, by omega⟩)
          · exact wpS_pure ⟨ss, _, _, _, _, _, rfl, m2, by omega, by omega, d3, d4, by omega⟩
      | false =>
        simp only [Bool.false_eq_true, if_false]
        have m2 : HI ltb xa xb (ou.push vb) qa (qb - 1) := m.chB O sa sb d4 (by omega) d1 d2 hva (fun i h1 h2 u hu => by
          obtain rfl : i = qb - 1 := by omega
          rw [hvb] at hu; cases hu; exact hw) (push1 ou (by omega) d4 hvb)
        refine wpS_bind (wpS_elem hvb ?_)
        by_cases e1 : qb - 1 = 1
        · rw [if_pos (by simpa using e1)]
          exact wpS_pure (.inl ⟨_, _, _, _, _, _, rfl, mfirst _ _ _ _ m2 e1 d2 ss⟩)
        · rw [if_neg (by simpa using e1)]
          split
          · exact wpS_pure (.inr ⟨ss, _, _, _, _, _, rfl, m2, d1, d2, by omega, by omega, by omega⟩)
          · exact wpS_pure ⟨ss, _, _, _, _, _, rfl, m2, d1, d2, by omega, by omega, by omega⟩
    case post1 =>
      rintro c st2 (⟨r, qa, qb, ou, ca, cb, rfl, hq⟩ | ⟨ss, qa1, qb1, ou, ca, cb, rfl, m, d1, d2, d3, d4, d5⟩)
      · exact wpS_pure ⟨r, _, _, _, _, rfl, hq⟩
      dsimp only
      refine wpS_bind (wpS_lift (wpAny_rule ⟨rfl, ?_⟩))
      refine wpS_bind (wpS_mono (wpS_forRange
        (I := fun y c st' => SS κ st st' ∧ ∃ qa qb ou mg ca cb, c = (none, qa, qb, ou, mg, ca, cb) ∧ HI ltb xa xb ou qa qb ∧ 1 ≤ qa ∧ qa ≤ xa.size ∧ 2 ≤ qb ∧ qb ≤ xb.size ∧ 1 + qa + qb ≤ qa0 + qb0)
        (Q := fun c st' => (∃ r qa qb ou mg ca cb, c = (some r, qa, qb, ou, mg, ca, cb) ∧ Q r st') ∨ (SS κ st st' ∧ ∃ qa qb ou mg ca cb, c = (none, qa, qb, ou, mg, ca, cb) ∧ HI ltb xa xb ou qa qb ∧ 1 ≤ qa ∧ qa ≤ xa.size ∧ 2 ≤ qb ∧ qb ≤ xb.size ∧ 1 + qa + qb ≤ qa0 + qb0)) ?stp2 ?fin2 ⟨ss, _, _, _, _, ca, cb, rfl, m, d1, d2, d3, d4, d5⟩) ?post2)
      case fin2 =>
        rintro c st' hh
        exact .inr hh
      case post2 =>
        rintro c st3 (⟨r, qa, qb, ou2, mg2, ca2, cb2, rfl, hq⟩ | ⟨ss, qa, qb, ou2, mg2, ca2, cb2, rfl, m, f1, f2, f3, f4, f5⟩)
        · exact wpS_pure ⟨r, _, _, _, _, rfl, hq⟩
        · dsimp only
          refine wpS_bind (wpS_modify ?_)
          exact wpS_pure ⟨ss.smg _, _, _, _, _, rfl, m, f1, f2, f3, f4, by omega⟩
      case stp2 =>
        rintro y c st3 _ hy ⟨ss, qa, qb, ou2, mg2, ca2, cb2, rfl, m, f1, f2, f3, f4, f5⟩
        dsimp only
        obtain ⟨vb, hvb⟩ := at1 (x := xb) (j := qb - 1) (by omega)
        have sxa : ∀ (q : Nat) i j u v, i < j → j < q → xa[0 + i]? = some u → xa[0 + j]? = some v → leB ltb u v := fun q i j u v hij _ hu hv => arr_le sa (by omega) hu hv
        have sxb : ∀ (q : Nat) i j u v, i < j → j < q → xb[0 + i]? = some u → xb[0 + j]? = some v → leB ltb u v := fun q i j u v hij _ hu hv => arr_le sb (by omega) hu hv
        by_cases hg : mg2 > 1
        · rw [if_pos hg]
          refine wpS_bind (wpS_modify ?_)
          have ss2 := ss.smg (mg2 - 1)
          refine wpS_bind (wpS_elem hvb (wpS_bind (wpS_galR O hO ss2.kind (Sb _ (arr_mem hvb)) Sa (sxa qa) (by omega) (by omega) fun tt hk1 hk2 hk3 => ?_)))
          dsimp only
          by_cases kp : qa - tt > 0
          · rw [if_pos kp]
            have M3 := m.chA O sa sb f2 (t := tt) (by omega) (by omega) f4 hvb (fun i h1 h2 u hu => O.asym (hk3 i h1 h2 u (by rw [Nat.zero_add]; exact hu))) (ext1 _ xa tt qa)
            by_cases e0 : tt = 0
            · rw [if_pos (by simpa using e0)]
              exact wpS_pure (.inl ⟨_, _, _, _, _, _, _, rfl, mdone _ _ _ _ M3 e0 f4 ss2⟩)
            rw [if_neg (by simpa using e0)]
            have QA1 : 1 ≤ tt := by omega
            obtain ⟨va, hva⟩ := at1 (x := xa) (j := tt - 1) (by omega)
            have hle : leB ltb va vb := hk2 (tt - 1) (by omega) va (by rw [Nat.zero_add]; exact hva)
            have m4 := M3.chB O sa sb f4 (t := qb - 1) (by omega) QA1 (by omega) hva (fun i h1 h2 u hu => by
              obtain rfl : i = qb - 1 := by omega
              rw [hvb] at hu; cases hu; exact hle) (push1 _ (by omega) f4 hvb)
            refine wpS_bind (wpS_elem hvb ?_)
            by_cases e1 : qb - 1 = 1
            · rw [if_pos (by simpa using e1)]
              exact wpS_pure (.inl ⟨_, _, _, _, _, _, _, rfl, mfirst _ _ _ _ m4 e1 (by omega) ss2⟩)
            rw [if_neg (by simpa using e1)]
            refine wpS_bind (wpS_elem hva (wpS_bind (wpS_galL O hO ss2.kind (Sa _ (arr_mem hva)) Sb (sxb (qb - 1)) (by omega) (by omega) fun t2 g1 g2 g3 => ?_)))
            have ht2 : 0 < t2 := by
              rcases Nat.eq_zero_or_pos t2 with q | q
              · have := g3 0 (by omega) (by omega) z (by rw [Nat.zero_add]; exact hz)
                unfold leB at this
                rw [hfst va (arr_mem hva)] at this; cases this
              · exact q
            dsimp only
            by_cases k2p : qb - 1 - t2 > 0
            · rw [if_pos k2p]
              have m5 := m4.chB O sa sb (by omega) (t := t2) (by omega) QA1 (by omega) hva (fun i h1 h2 u hu => g3 i h1 (by omega) u (by rw [Nat.zero_add]; exact hu)) (ext1 _ xb t2 (qb - 1))
              by_cases e2 : t2 = 1
              · rw [if_pos (by simpa using e2)]
                exact wpS_pure (.inl ⟨_, _, _, _, _, _, _, rfl, mfirst _ _ _ _ m5 e2 (by omega) ss2⟩)
              rw [if_neg (by simpa using e2), if_neg (by simp; omega)]
              obtain ⟨vb2, hvb2⟩ := at1 (x := xb) (j := t2 - 1) (by omega)
              have m6 := m5.chA O sa sb (by omega) (t := tt - 1) (by omega) (by omega) (by omega) hvb2 (fun i h1 h2 u hu => by
                obtain rfl : i = tt - 1 := by omega
                rw [hva] at hu; cases hu; exact O.asym (g2 (t2 - 1) (by omega) vb2 (by rw [Nat.zero_add]; exact hvb2))) (push1 _ QA1 (by omega) hva)
              refine wpS_bind (wpS_elem hva ?_)
              by_cases e3 : tt - 1 = 0
              · rw [if_pos (by simpa using e3)]
                exact wpS_pure (.inl ⟨_, _, _, _, _, _, _, rfl, mdone _ _ _ _ m6 e3 (by omega) ss2⟩)
              rw [if_neg (by simpa using e3)]
              split
              · exact wpS_pure (.inr ⟨ss2, _, _, _, _, _, _, rfl, m6, by omega, by omega, by omega, by omega, by omega⟩)
              · exact wpS_pure ⟨ss2, _, _, _, _, _, _, rfl, m6, by omega, by omega, by omega, by omega, by omega⟩
            · rw [if_neg k2p]
              have et : t2 = qb - 1 := by omega
              obtain ⟨vb2, hvb2⟩ := at1 (x := xb) (j := qb - 1 - 1) (by omega)
              have m6 := m4.chA O sa sb (by omega) (t := tt - 1) (by omega) (by omega) (by omega) hvb2 (fun i h1 h2 u hu => by
                obtain rfl : i = tt - 1 := by omega
                rw [hva] at hu; cases hu; exact O.asym (g2 (qb - 1 - 1) (by omega) vb2 (by rw [Nat.zero_add]; exact hvb2))) (push1 _ QA1 (by omega) hva)
              refine wpS_bind (wpS_elem hva ?_)
              by_cases e3 : tt - 1 = 0
              · rw [if_pos (by simpa using e3)]
                exact wpS_pure (.inl ⟨_, _, _, _, _, _, _, rfl, mdone _ _ _ _ m6 e3 (by omega) ss2⟩)
              rw [if_neg (by simpa using e3)]
              split
              · exact wpS_pure (.inr ⟨ss2, _, _, _, _, _, _, rfl, m6, by omega, by omega, by omega, by omega, by omega⟩)
              · exact wpS_pure ⟨ss2, _, _, _, _, _, _, rfl, m6, by omega, by omega, by omega, by omega, by omega⟩
          · rw [if_neg kp]
            have et0 : tt = qa := by omega
            have M3 := m
            have QA1 : 1 ≤ qa := f1
            obtain ⟨va, hva⟩ := at1 (x := xa) (j := qa - 1) (by omega)
            have hle : leB ltb va vb := hk2 (qa - 1) (by omega) va (by rw [Nat.zero_add]; exact hva)
            have m4 := M3.chB O sa sb f4 (t := qb - 1) (by omega) QA1 (by omega) hva (fun i h1 h2 u hu => by
              obtain rfl : i = qb - 1 := by omega
              rw [hvb] at hu; cases hu; exact hle) (push1 _ (by omega) f4 hvb)
            refine wpS_bind (wpS_elem hvb ?_)
            by_cases e1 : qb - 1 = 1
            · rw [if_pos (by simpa using e1)]
              exact wpS_pure (.inl ⟨_, _, _, _, _, _, _, rfl, mfirst _ _ _ _ m4 e1 (by omega) ss2⟩)
            rw [if_neg (by simpa using e1)]
            refine wpS_bind (wpS_elem hva (wpS_bind (wpS_galL O hO ss2.kind (Sa _ (arr_mem hva)) Sb (sxb (qb - 1)) (by omega) (by omega) fun t2 g1 g2 g3 => ?_)))
            have ht2 : 0 < t2 := by
              rcases Nat.eq_zero_or_pos t2 with q | q
              · have := g3 0 (by omega) (by omega) z (by rw [Nat.zero_add]; exact hz)
                unfold leB at this
                rw [hfst va (arr_mem hva)] at this; cases this
              · exact q
            dsimp only
            by_cases k2p : qb - 1 - t2 > 0
            · rw [if_pos k2p]
              have m5 := m4.chB O sa sb (by omega) (t := t2) (by omega) QA1 (by omega) hva (fun i h1 h2 u hu => g3 i h1 (by omega) u (by rw [Nat.zero_add]; exact hu)) (ext1 _ xb t2 (qb - 1))
              by_cases e2 : t2 = 1
              · rw [if_pos (by simpa using e2)]
                exact wpS_pure (.inl ⟨_, _, _, _, _, _, _, rfl, mfirst _ _ _ _ m5 e2 (by omega) ss2⟩)
              rw [if_neg (by simpa using e2), if_neg (by simp; omega)]
              obtain ⟨vb2, hvb2⟩ := at1 (x := xb) (j := t2 - 1) (by omega)
              have m6 := m5.chA O sa sb (by omega) (t := qa - 1) (by omega) (by omega) (by omega) hvb2 (fun i h1 h2 u hu => by
                obtain rfl : i = qa - 1 := by omega
                rw [hva] at hu; cases hu; exact O.asym (g2 (t2 - 1) (by omega) vb2 (by rw [Nat.zero_add]; exact hvb2))) (push1 _ QA1 (by omega) hva)
              refine wpS_bind (wpS_elem hva ?_)
              by_cases e3 : qa - 1 = 0
              · rw [if_pos (by simpa using e3)]
                exact wpS_pure (.inl ⟨_, _, _, _, _, _, _, rfl, mdone _ _ _ _ m6 e3 (by omega) ss2⟩)
              rw [if_neg (by simpa using e3)]
              split
              · exact wpS_pure (.inr ⟨ss2, _, _, _, _, _, _, rfl, m6, by omega, by omega, by omega, by omega, by omega⟩)
              · exact wpS_pure ⟨ss2, _, _, _, _, _, _, rfl, m6, by omega, by omega, by omega, by omega, by omega⟩
            · rw [if_neg k2p]
              have et : t2 = qb - 1 := by omega
              obtain ⟨vb2, hvb2⟩ := at1 (x := xb) (j := qb - 1 - 1) (by omega)
              have m6 := m4.chA O sa sb (by omega) (t := qa - 1) (by omega) (by omega) (by omega) hvb2 (fun i h1 h2 u hu => by
                obtain rfl : i = qa - 1 := by omega
                rw [hva] at hu; cases hu; exact O.asym (g2 (qb - 1 - 1) (by omega) vb2 (by rw [Nat.zero_add]; exact hvb2))) (push1 _ QA1 (by omega) hva)
              refine wpS_bind (wpS_elem hva ?_)
              by_cases e3 : qa - 1 = 0
              · rw [if_pos (by simpa using e3)]
                exact wpS_pure (.inl ⟨_, _, _, _, _, _, _, rfl, mdone _ _ _ _ m6 e3 (by omega) ss2⟩)
              rw [if_neg (by simpa using e3)]
              split
              · exact wpS_pure (.inr ⟨ss2, _, _, _, _, _, _, rfl, m6, by omega, by omega, by omega, by omega, by omega⟩)
              · exact wpS_pure ⟨ss2, _, _, _, _, _, _, rfl, m6, by omega, by omega, by omega, by omega, by omega⟩
        · rw [if_neg hg]
          refine wpS_bind (wpS_modify ?_)
          have ss2 := ss.smg mg2
          refine wpS_bind (wpS_elem hvb (wpS_bind (wpS_galR O hO ss2.kind (Sb _ (arr_mem hvb)) Sa (sxa qa) (by omega) (by omega) fun tt hk1 hk2 hk3 => ?_)))
          dsimp only
          by_cases kp : qa - tt > 0
          · rw [if_pos kp]
            have M3 := m.chA O sa sb f2 (t := tt) (by omega) (by omega) f4 hvb (fun i h1 h2 u hu => O.asym (hk3 i h1 h2 u (by rw [Nat.zero_add]; exact hu))) (ext1 _ xa tt qa)
            by_cases e0 : tt = 0
            · rw [if_pos (by simpa using e0)]
              exact wpS_pure (.inl ⟨_, _, _, _, _, _, _, rfl, mdone _ _ _ _ M3 e0 f4 ss2⟩)
            rw [if_neg (by simpa using e0)]
            have QA1 : 1 ≤ tt := by omega
            obtain ⟨va, hva⟩ := at1 (x := xa) (j := tt - 1) (by omega)
            have hle : leB ltb va vb := hk2 (tt - 1) (by omega) va (by rw [Nat.zero_add]; exact hva)
            have m4 := M3.chB O sa sb f4 (t := qb - 1) (by omega) QA1 (by omega) hva (fun i h1 h2 u hu => by
              obtain rfl : i = qb - 1 := by omega
              rw [hvb] at hu; cases hu; exact hle) (push1 _ (by omega) f4 hvb)
            refine wpS_bind (wpS_elem hvb ?_)
            by_cases e1 : qb - 1 = 1
            · rw [if_pos (by simpa using e1)]
              exact wpS_pure (.inl ⟨_, _, _, _, _, _, _, rfl, mfirst _ _ _ _ m4 e1 (by omega) ss2⟩)
            rw [if_neg (by simpa using e1)]
            refine wpS_bind (wpS_elem hva (wpS_bind (wpS_galL O hO ss2.kind (Sa _ (arr_mem hva)) Sb (sxb (qb - 1)) (by omega) (by omega) fun t2 g1 g2 g3 => ?_)))
            have ht2 : 0 < t2 := by
              rcases Nat.eq_zero_or_pos t2 with q | q
              · have := g3 0 (by omega) (by omega) z (by rw [Nat.zero_add]; exact hz)
                unfold leB at this
                rw [hfst va (arr_mem hva)] at this; cases this
              · exact q
            dsimp only
            by_cases k2p : qb - 1 - t2 > 0
            · rw [if_pos k2p]
              have m5 := m4.chB O sa sb (by omega) (t := t2) (by omega) QA1 (by omega) hva (fun i h1 h2 u hu => g3 i h1 (by omega) u (by rw [Nat.zero_add]; exact hu)) (ext1 _ xb t2 (qb - 1))
              by_cases e2 : t2 = 1
              · rw [if_pos (by simpa using e2)]
                exact wpS_pure (.inl ⟨_, _, _, _, _, _, _, rfl, mfirst _ _ _ _ m5 e2 (by omega) ss2⟩)
              rw [if_neg (by simpa using e2), if_neg (by simp; omega)]
              obtain ⟨vb2, hvb2⟩ := at1 (x := xb) (j := t2 - 1) (by omega)
              have m6 := m5.chA O sa sb (by omega) (t := tt - 1) (by omega) (by omega) (by omega) hvb2 (fun i h1 h2 u hu => by
                obtain rfl : i = tt - 1 := by omega
                rw [hva] at hu; cases hu; exact O.asym (g2 (t2 - 1) (by omega) vb2 (by rw [Nat.zero_add]; exact hvb2))) (push1 _ QA1 (by omega) hva)
              refine wpS_bind (wpS_elem hva ?_)
              by_cases e3 : tt - 1 = 0
              · rw [if_pos (by simpa using e3)]
                exact wpS_pure (.inl ⟨_, _, _, _, _, _, _, rfl, mdone _ _ _ _ m6 e3 (by omega) ss2⟩)
              rw [if_neg (by simpa using e3)]
              split
              · exact wpS_pure (.inr ⟨ss2, _, _, _, _, _, _, rfl, m6, by omega, by omega, by omega, by omega, by omega⟩)
              · exact wpS_pure ⟨ss2, _, _, _, _, _, _, rfl, m6, by omega, by omega, by omega, by omega, by omega⟩
            · rw [if_neg k2p]
              have et : t2 = qb - 1 := by omega
              obtain ⟨vb2, hvb2⟩ := at1 (x := xb) (j := qb - 1 - 1) (by omega)
              have m6 := m4.chA O sa sb (by omega) (t := tt - 1) (by omega) (by omega) (by omega) hvb2 (fun i h1 h2 u hu => by
                obtain rfl : i = tt - 1 := by omega
                rw [hva] at hu; cases hu; exact O.asym (g2 (qb - 1 - 1) (by omega) vb2 (by rw [Nat.zero_add]; exact hvb2))) (push1 _ QA1 (by omega) hva)
              refine wpS_bind (wpS_elem hva ?_)
              by_cases e3 : tt - 1 = 0
              · rw [if_pos (by simpa using e3)]
                exact wpS_pure (.inl ⟨_, _, _, _, _, _, _, rfl, mdone _ _ _ _ m6 e3 (by omega) ss2⟩)
              rw [if_neg (by simpa using e3)]
              split
              · exact wpS_pure (.inr ⟨ss2, _, _, _, _, _, _, rfl, m6, by omega, by omega, by omega, by omega, by omega⟩)
              · exact wpS_pure ⟨ss2, _, _, _, _, _, _, rfl, m6, by omega, by omega, by omega, by omega, by omega⟩
          · rw [if_neg kp]
            have et0 : tt = qa := by omega
            have M3 := m
            have QA1 : 1 ≤ qa := f1
            obtain ⟨va, hva⟩ := at1 (x := xa) (j := qa - 1) (by omega)
            have hle : leB ltb va vb := hk2 (qa - 1) (by omega) va (by rw [Nat.zero_add]; exact hva)
            have m4 := M3.chB O sa sb f4 (t := qb - 1) (by omega) QA1 (by omega) hva (fun i h1 h2 u hu => by
              obtain rfl : i = qb - 1 := by omega
              rw [hvb] at hu; cases hu; exact hle) (push1 _ (by omega) f4 hvb)
            refine wpS_bind (wpS_elem hvb ?_)
            by_cases e1 : qb - 1 = 1
            · rw [if_pos (by simpa using e1)]
              exact wpS_pure (.inl ⟨_, _, _, _, _, _, _, rfl, mfirst _ _ _ _ m4 e1 (by omega) ss2⟩)
            rw [if_neg (by simpa using e1)]
            refine wpS_bind (wpS_elem hva (wpS_bind (wpS_galL O hO ss2.kind (Sa _ (arr_mem hva)) Sb (sxb (qb - 1)) (by omega) (by omega) fun t2 g1 g2 g3 => ?_)))
            have ht2 : 0 < t2 := by
              rcases Nat.eq_zero_or_pos t2 with q | q
              · have := g3 0 (by omega) (by omega) z (by rw [Nat.zero_add]; exact hz)
                unfold leB at this
                rw [hfst va (arr_mem hva)] at this; cases this
              · exact q
            dsimp only
            by_cases k2p : qb - 1 - t2 > 0
            · rw [if_pos k2p]
              have m5 := m4.chB O sa sb (by omega) (t := t2) (by omega) QA1 (by omega) hva (fun i h1 h2 u hu => g3 i h1 (by omega) u (by rw [Nat.zero_add]; exact hu)) (ext1 _ xb t2 (qb - 1))
              by_cases e2 : t2 = 1
              · rw [if_pos (by simpa using e2)]
                exact wpS_pure (.inl ⟨_, _, _, _, _, _, _, rfl, mfirst _ _ _ _ m5 e2 (by omega) ss2⟩)
              rw [if_neg (by simpa using e2), if_neg (by simp; omega)]
              obtain ⟨vb2, hvb2⟩ := at1 (x := xb) (j := t2 - 1) (by omega)
              have m6 := m5.chA O sa sb (by omega) (t := qa - 1) (by omega) (by omega) (by omega) hvb2 (fun i h1 h2 u hu => by
                obtain rfl : i = qa - 1 := by omega
                rw [hva] at hu; cases hu; exact O.asym (g2 (t2 - 1) (by omega) vb2 (by rw [Nat.zero_add]; exact hvb2))) (push1 _ QA1 (by omega) hva)
              refine wpS_bind (wpS_elem hva ?_)
              by_cases e3 : qa - 1 = 0
              · rw [if_pos (by simpa using e3)]
                exact wpS_pure (.inl ⟨_, _, _, _, _, _, _, rfl, mdone _ _ _ _ m6 e3 (by omega) ss2⟩)
              rw [if_neg (by simpa using e3)]
              split
              · exact wpS_pure (.inr ⟨ss2, _, _, _, _, _, _, rfl, m6, by omega, by omega, by omega, by omega, by omega⟩)
              · exact wpS_pure ⟨ss2, _, _, _, _, _, _, rfl, m6, by omega, by omega, by omega, by omega, by omega⟩
            · rw [if_neg k2p]
              have et : t2 = qb - 1 := by omega
              obtain ⟨vb2, hvb2⟩ := at1 (x := xb) (j := qb - 1 - 1) (by omega)
              have m6 := m4.chA O sa sb (by omega) (t := qa - 1) (by omega) (by omega) (by omega) hvb2 (fun i h1 h2 u hu => by
                obtain rfl : i = qa - 1 := by omega
                rw [hva] at hu; cases hu; exact O.asym (g2 (qb - 1 - 1) (by omega) vb2 (by rw [Nat.zero_add]; exact hvb2))) (push1 _ QA1 (by omega) hva)
              refine wpS_bind (wpS_elem hva ?_)
              by_cases e3 : qa - 1 = 0
              · rw [if_pos (by simpa using e3)]
                exact wpS_pure (.inl ⟨_, _, _, _, _, _, _, rfl, mdone _ _ _ _ m6 e3 (by omega) ss2⟩)
              rw [if_neg (by simpa using e3)]
              split
              · exact wpS_pure (.inr ⟨ss2, _, _, _, _, _, _, rfl, m6, by omega, by omega, by omega, by omega, by omega⟩)
              · exact wpS_pure ⟨ss2, _, _, _, _, _, _, rfl, m6, by omega, by omega, by omega, by omega, by omega⟩
end
end L2

/-! mergeAt -/
namespace L2
open PySem PySem.Spec PyProof.Rows
def layS (M : Array Keyed) (o : Nat) (ar : Array Keyed) : Array Keyed := M.toList.zipIdx.foldl (fun z q => z.setIfInBounds (o + q.2) q.1) ar
theorem lay_list : ∀ (M : List Keyed) (n o : Nat) (ar : Array Keyed), o + n + M.length ≤ ar.size → ((M.zipIdx n).foldl (fun z q => z.setIfInBounds (o + q.2) q.1) ar).toList = ar.toList.take (o + n) ++ M ++ ar.toList.drop (o + n + M.length)
  | [], n, o, ar, h => by simp
  | p :: M, n, o, ar, h => by
    rw [List.length_cons] at h
    have hs : (ar.setIfInBounds (o + n) p).size = ar.size := by simp
    have ih := lay_list M (n + 1) o (ar.setIfInBounds (o + n) p) (by rw [hs]; omega)
    rw [List.zipIdx_cons, List.foldl_cons, ih, Array.toList_setIfInBounds]
    have hl : o + n < ar.toList.length := by rw [Array.length_toList]; omega
    rw [show o + (n + 1) = o + n + 1 by omega, List.take_succ_eq_append_getElem (by rw [List.length_set]; exact hl), List.getElem_set_self, List.take_set_of_le (by omega), List.drop_set_of_lt (by omega), List.length_cons]
    rw [show o + n + 1 + M.length = o + n + (M.length + 1) by omega]
    simp
theorem lay_eq (M ar : Array Keyed) (o : Nat) (h : o + M.size ≤ ar.size) : (layS M o ar).toList = ar.toList.take o ++ M.toList ++ ar.toList.drop (o + M.size) := by
  have := lay_list M.toList 0 o ar (by rw [Array.length_toList]; omega)
  rw [Nat.add_zero, Array.length_toList] at this
  exact this
theorem mergeAt_eq (ii : Nat) : mergeAt' ii = (do
  let z ← get
  let (some (ba, ka, pw), some (bb, kb, _)) := ((pendingOf z)[ii]?, (pendingOf z)[ii + 1]?) | unsupported "internal:list.sort.pending"
  set (setPending z (((pendingOf z).setIfInBounds ii (ba, ka + kb, pw)).eraseIdxIfInBounds (ii + 1)))
  let some kk ← galS false (← elem' (arrOf z) bb) (arrOf z) ba ka 0 | return false
  let (ba, ka) := (ba + kk, ka - kk)
  if ka == 0 then return true
  let some kb ← galS true (← elem' (arrOf z) (ba + ka - 1)) (arrOf z) bb kb (kb - 1) | return false
  if kb == 0 then return true
  let mm ← if ka ≤ kb then mloS ((arrOf z).extract ba bb) ((arrOf z).extract bb (bb + kb)) else mhiS ((arrOf z).extract ba bb) ((arrOf z).extract bb (bb + kb))
  modify fun z => setArr z (layS mm ba (arrOf z))
  return (failedOf (← get)).isNone) := rfl
theorem app4 {α : Type} (a b c d : List α) : a ++ (b ++ c) ++ d = (a ++ b) ++ (c ++ d) := by simp
section
variable {prog : Program} {w : World} {A : Around} {E : Value → Shared → Prop} {s : Shared} {ltb : Keyed → Keyed → Bool} {S : Keyed → Prop} {κ : SortKind}
theorem at_seg {ar : Array Keyed} {P R T : List Keyed} (h : ar.toList = P ++ R ++ T) (i : Nat) (hi : i < R.length) : ar[P.length + i]? = R[i]? := by
  have : ar.toList[P.length + i]? = R[i]? := by
    rw [h, List.append_assoc, List.getElem?_append_right (by omega), Nat.add_sub_cancel_left, List.getElem?_append_left hi]
  simpa using this
theorem wpS_set {α : Type} {st st2 : α} {Q : PUnit → α → Prop} (q : Q ⟨⟩ st2) : wpS (model prog w) A E s (set st2 : StateT α Sem PUnit) Q st := by
  unfold wpS
  show wpAny _ _ ((StateT.set st2 : StateT α Sem PUnit).run st) _ _ _
  exact wpAny_pure ⟨rfl, q⟩
theorem wpS_mergeAt (O : OrdB ltb) (hO : LtOk prog w A E s ltb S κ) {st : SortSt} {Q : Bool → SortSt → Prop} {ii ba ka bb kb pw pv : Nat} {P R1 R2 T : List Keyed} (hk : kindOf st = κ) (hf : failedOf st = none)
    (hp1 : (pendingOf st)[ii]? = some (ba, ka, pw)) (hp2 : (pendingOf st)[ii + 1]? = some (bb, kb, pv)) (harr : (arrOf st).toList = P ++ R1 ++ R2 ++ T) (eba : ba = P.length) (eka : ka = R1.length) (ebb : bb = P.length + R1.length) (ekb : kb = R2.length)
    (h1 : R1 ≠ []) (h2 : R2 ≠ []) (s1 : R1.Pairwise (leB ltb)) (s2 : R2.Pairwise (leB ltb)) (hSa : ∀ x ∈ (arrOf st).toList, S x)
    (h : ∀ (st' : SortSt) (R : List Keyed), R.Pairwise (leB ltb) → R.Perm (R1 ++ R2) → (arrOf st').toList = P ++ R ++ T → kindOf st' = κ → failedOf st' = none → pendingOf st' = ((pendingOf st).setIfInBounds ii (ba, ka + kb, pw)).eraseIdxIfInBounds (ii + 1) → Q true st') :
    wpS (model prog w) A E s (mergeAt' ii) Q st := by
  have l1 : 0 < R1.length := List.length_pos_iff.mpr h1
  have l2 : 0 < R2.length := List.length_pos_iff.mpr h2
  have hA1 : (arrOf st).toList = P ++ R1 ++ (R2 ++ T) := by rw [harr]; simp
  have hA2 : (arrOf st).toList = (P ++ R1) ++ R2 ++ T := by rw [harr]
  have hsz : (arrOf st).size = P.length + R1.length + R2.length + T.length := by
    have := congrArg List.length harr
    rw [Array.length_toList] at this
    simp at this; omega
  have g1 : ∀ i, i < R1.length → (arrOf st)[ba + i]? = R1[i]? := fun i hi => by rw [eba]; exact at_seg hA1 i hi
  have g2 : ∀ i, i < R2.length → (arrOf st)[bb + i]? = R2[i]? := fun i hi => by
    have := at_seg hA2 i hi
    rw [List.length_append] at this
    rw [ebb]; exact this
  obtain ⟨b0, hb0⟩ : ∃ b, R2[0]? = some b := ⟨_, List.getElem?_eq_getElem l2⟩
  have hb0' : (arrOf st)[bb]? = some b0 := by have := g2 0 l2; rw [Nat.add_zero] at this; rw [this]; exact hb0
  have b0le : ∀ y ∈ R2, leB ltb b0 y ∨ y = b0 := fun y hy => by
    obtain ⟨i, hi, e⟩ := List.getElem_of_mem hy
    by_cases h0 : i = 0
    · subst h0; rw [List.getElem?_eq_getElem l2] at hb0; right; rw [← e]; exact Option.some.inj hb0
    · left; exact rise_le s2 (i := 0) (j := i) (by omega) hb0 (by rw [List.getElem?_eq_getElem hi, e])
  rw [mergeAt_eq]
  refine wpS_bind (wpS_get ?_)
  rw [hp1, hp2]
  dsimp only
  refine wpS_bind (wpS_set ?_)
  refine wpS_bind (wpS_elem hb0' (wpS_bind (wpS_galR O hO (st := setPending st _) hk (hSa _ (arr_mem hb0')) hSa (fun i j u v hij hj hu hv => ?_) (by omega) (by omega) fun k k1 k2 k3 => ?_)))
  · rw [g1 i (by omega)] at hu
    rw [g1 j (by omega)] at hv
    exact rise_le s1 hij hu hv
  dsimp only
  have k2' : ∀ i, i < k → ∀ u, R1[i]? = some u → leB ltb u b0 := fun i hi u hu => k2 i hi u (by rw [g1 i (by omega)]; exact hu)
  by_cases c1 : ka - k = 0
  · rw [if_pos (by simpa using c1)]
    refine wpS_pure (h (setPending st _) (R1 ++ R2) ?_ (List.Perm.refl _) (by show (arrOf st).toList = _; rw [harr]; simp) hk hf rfl)
    rw [List.pairwise_append]
    refine ⟨s1, s2, fun x hx y hy => ?_⟩
    obtain ⟨i, hi, e⟩ := List.getElem_of_mem hx
    have hxb := k2' i (by omega) x (by rw [List.getElem?_eq_getElem hi, e])
    rcases b0le y hy with q | q
    · exact O.tr hxb q
    · rw [q]; exact hxb
  rw [if_neg (by simpa using c1)]
  have hk : kindOf st = κ := hk
  obtain ⟨al, hal⟩ : ∃ a, R1[ka - 1]? = some a := ⟨_, List.getElem?_eq_getElem (by omega)⟩
  have hal' : (arrOf st)[ba + k + (ka - k) - 1]? = some al := by
    rw [show ba + k + (ka - k) - 1 = ba + (ka - 1) by omega, g1 (ka - 1) (by omega)]; exact hal
  have alge : ∀ x ∈ R1, leB ltb x al ∨ x = al := fun x hx => by
    obtain ⟨i, hi, e⟩ := List.getElem_of_mem hx
    by_cases h0 : i = ka - 1
    · subst h0; rw [List.getElem?_eq_getElem hi] at hal; right; rw [← e]; exact Option.some.inj hal
    · left; exact rise_le s1 (i := i) (j := ka - 1) (by omega) (by rw [List.getElem?_eq_getElem hi, e]) hal
  refine wpS_bind (wpS_elem hal' (wpS_bind (wpS_galL O hO (st := setPending st _) hk (hSa _ (arr_mem hal')) hSa (fun i j u v hij hj hu hv => ?_) (by omega) (by omega) fun n n1 n2 n3 => ?_)))
  · rw [g2 i (by omega)] at hu
    rw [g2 j (by omega)] at hv
    exact rise_le s2 hij hu hv
  dsimp only
  have n3' : ∀ y ∈ R2.drop n, leB ltb al y := fun y hy => by
    obtain ⟨i, hi, e⟩ := List.getElem_of_mem hy
    rw [List.length_drop] at hi
    rw [List.getElem_drop] at e
    exact n3 (n + i) (by omega) (by omega) y (by rw [g2 (n + i) (by omega), List.getElem?_eq_getElem (by omega), e])
  by_cases c2 : n = 0
  · rw [if_pos (by simpa using c2)]
    refine wpS_pure (h (setPending st _) (R1 ++ R2) ?_ (List.Perm.refl _) (by show (arrOf st).toList = _; rw [harr]; simp) hk hf rfl)
    rw [List.pairwise_append]
    refine ⟨s1, s2, fun x hx y hy => ?_⟩
    have hy2 := n3' y (by rw [c2]; exact hy)
    rcases alge x hx with q | q
    · exact O.tr q hy2
    · rw [q]; exact hy2
  rw [if_neg (by simpa using c2)]
  have exA : ((arrOf st).extract (ba + k) bb).toList = R1.drop k := by
    rw [show bb = ba + k + (ka - k) by omega, ext_part, hA1]
    rw [show ba + k = P.length + k by omega, List.append_assoc, ← List.drop_drop, List.drop_left, List.drop_append_of_le_length (by omega), List.take_append_of_le_length (by rw [List.length_drop]; omega), List.take_of_length_le (by rw [List.length_drop]; omega)]
  have exB : ((arrOf st).extract bb (bb + n)).toList = R2.take n := by
    rw [ext_part, hA2, show bb = (P ++ R1).length by rw [List.length_append]; omega, List.append_assoc, List.drop_left, List.take_append_of_le_length (by omega)]
  have szA : ((arrOf st).extract (ba + k) bb).size = ka - k := by
    have := congrArg List.length exA
    rw [Array.length_toList, List.length_drop] at this; omega
  have szB : ((arrOf st).extract bb (bb + n)).size = n := by
    have := congrArg List.length exB
    rw [Array.length_toList, List.length_take] at this; omega
  have hSA : ∀ x ∈ ((arrOf st).extract (ba + k) bb).toList, S x := fun x hx => by
    rw [exA] at hx
    exact hSa x (by rw [hA1]; exact List.mem_append_left _ (List.mem_append_right _ (List.mem_of_mem_drop hx)))
  have hSB : ∀ x ∈ ((arrOf st).extract bb (bb + n)).toList, S x := fun x hx => by
    rw [exB] at hx
    exact hSa x (by rw [hA2]; exact List.mem_append_left _ (List.mem_append_right _ (List.mem_of_mem_take hx)))
  have rA : ((arrOf st).extract (ba + k) bb).toList.Pairwise (leB ltb) := by rw [exA]; exact s1.drop
  have rB : ((arrOf st).extract bb (bb + n)).toList.Pairwise (leB ltb) := by rw [exB]; exact s2.take
  have zB : ((arrOf st).extract bb (bb + n))[0]? = some b0 := by
    have e : ((arrOf st).extract bb (bb + n)).toList[0]? = some b0 := by rw [exB, List.getElem?_take, if_pos (by omega)]; exact hb0
    rw [← Array.getElem?_toList]; exact e
  have zA : ((arrOf st).extract (ba + k) bb)[((arrOf st).extract (ba + k) bb).size - 1]? = some al := by
    have e : ((arrOf st).extract (ba + k) bb).toList[((arrOf st).extract (ba + k) bb).size - 1]? = some al := by
      rw [exA, szA, List.getElem?_drop, show k + (ka - k - 1) = ka - 1 by omega]; exact hal
    rw [← Array.getElem?_toList]; exact e
  have fst : ∀ y ∈ ((arrOf st).extract (ba + k) bb).toList, ltb b0 y = true := fun y hy => by
    rw [exA] at hy
    obtain ⟨i, hi, e⟩ := List.getElem_of_mem hy
    rw [List.length_drop] at hi
    rw [List.getElem_drop] at e
    exact k3 (k + i) (by omega) (by omega) y (by rw [g1 (k + i) (by omega), List.getElem?_eq_getElem (by omega), e])
  have lst : ∀ x ∈ ((arrOf st).extract bb (bb + n)).toList, ltb x al = true := fun x hx => by
    rw [exB] at hx
    obtain ⟨i, hi, e⟩ := List.getElem_of_mem hx
    rw [List.length_take] at hi
    rw [List.getElem_take] at e
    exact n2 i (by omega) x (by rw [g2 i (by omega), List.getElem?_eq_getElem (by omega), e])
  have fin : ∀ (r : Array Keyed) (st' : SortSt), r.toList.Pairwise (leB ltb) → r.toList.Perm (((arrOf st).extract (ba + k) bb).toList ++ ((arrOf st).extract bb (bb + n)).toList) → SS κ (setPending st (((pendingOf st).setIfInBounds ii (ba, ka + kb, pw)).eraseIdxIfInBounds (ii + 1))) st' →
      Q true (setArr st' (layS r (ba + k) (arrOf st'))) := fun r st' rs rp ss => by
    rw [exA, exB] at rp
    have rsz : r.size = ka - k + n := by
      have := rp.length_eq
      rw [Array.length_toList, List.length_append, List.length_drop, List.length_take] at this; omega
    have earr : arrOf st' = arrOf st := ss.arr
    refine h _ (R1.take k ++ r.toList ++ R2.drop n) ?_ ?_ ?_ ss.kind ss.fail ss.pend
    · have m1 : ∀ x ∈ R1.take k, leB ltb x b0 := fun x hx => by
        obtain ⟨i, hi, e⟩ := List.getElem_of_mem hx
        rw [List.length_take] at hi
        rw [List.getElem_take] at e
        exact k2' i (by omega) x (by rw [List.getElem?_eq_getElem (by omega), e])
      have m2 : ∀ x ∈ R1.take k, ∀ y ∈ R2, leB ltb x y := fun x hx y hy => by
        rcases b0le y hy with q | q
        · exact O.tr (m1 x hx) q
        · rw [q]; exact m1 x hx
      have m3 : ∀ x ∈ R1, ∀ y ∈ R2.drop n, leB ltb x y := fun x hx y hy => by
        rcases alge x hx with q | q
        · exact O.tr q (n3' y hy)
        · rw [q]; exact n3' y hy
      have d1 := (rise_parts s1 0 k).2
      rw [List.drop_zero, Nat.zero_add] at d1
      have d2 := (rise_parts s2 0 n).2
      rw [List.drop_zero, Nat.zero_add] at d2
      rw [List.pairwise_append, List.pairwise_append]
      refine ⟨⟨s1.take, rs, fun x hx y hy => ?_⟩, s2.drop, fun x hx y hy => ?_⟩
      · rcases List.mem_append.mp (rp.mem_iff.mp hy) with q | q
        · exact d1 x hx y q
        · exact m2 x hx y (List.mem_of_mem_take q)
      · rcases List.mem_append.mp hx with q | q
        · exact m3 x (List.mem_of_mem_take q) y hy
        · rcases List.mem_append.mp (rp.mem_iff.mp q) with q | q
          · exact m3 x (List.mem_of_mem_drop q) y hy
          · exact d2 x q y hy
    · have e1 := List.take_append_drop k R1
      have e2 := List.take_append_drop n R2
      have : (R1.take k ++ r.toList ++ R2.drop n).Perm (R1.take k ++ (R1.drop k ++ R2.take n) ++ R2.drop n) := List.Perm.append_right _ (List.Perm.append_left _ rp)
      refine this.trans (List.Perm.of_eq ?_)
      rw [app4, e1, e2]
    · show (layS r (ba + k) (arrOf st')).toList = _
      rw [earr, lay_eq r _ _ (by rw [rsz]; omega), rsz, show ba + k + (ka - k + n) = bb + n by omega]
      have t1 : (arrOf st).toList.take (ba + k) = P ++ R1.take k := by
        rw [hA1, eba, List.append_assoc, List.take_length_add_append, List.take_append_of_le_length (by omega)]
      have t2 : (arrOf st).toList.drop (bb + n) = R2.drop n ++ T := by
        rw [hA2, show bb = (P ++ R1).length by rw [List.length_append]; omega, List.append_assoc, ← List.drop_drop, List.drop_left, List.drop_append_of_le_length (by omega)]
      rw [t1, t2]; simp
  have hSS : SS κ (setPending st (((pendingOf st).setIfInBounds ii (ba, ka + kb, pw)).eraseIdxIfInBounds (ii + 1))) (setPending st (((pendingOf st).setIfInBounds ii (ba, ka + kb, pw)).eraseIdxIfInBounds (ii + 1))) := ⟨hk, hf, rfl, rfl⟩
  have after : ∀ (r : Array Keyed) (st' : SortSt), Q true (setArr st' (layS r (ba + k) (arrOf st'))) → failedOf st' = none → wpS (model prog w) A E s (do
      modify fun z => setArr z (layS r (ba + k) (arrOf z))
      return (failedOf (← get)).isNone) Q st' := fun r st' q hfl => by
    refine wpS_bind (wpS_modify ?_)
    refine wpS_bind (wpS_get ?_)
    refine wpS_pure ?_
    have : (failedOf (setArr st' (layS r (ba + k) (arrOf st')))).isNone = true := by
      show (failedOf st').isNone = true
      rw [hfl]; rfl
    rw [this]; exact q
  by_cases c3 : ka - k ≤ n
  · rw [if_pos c3]
    refine wpS_bind (wpS_mlo O hO hSA hSB rA rB zB (fun y hy => O.asym (fst y hy)) (by rw [szA]; omega) (fun x hx y hy => by rw [zA] at hy; cases hy; exact lst x hx) hSS fun r st' q1 q2 q3 => ?_)
    exact after r st' (fin r st' q1 q2 q3) q3.fail
  · rw [if_neg c3]
    refine wpS_bind (wpS_mhi O hO hSA hSB rA rB zB fst zA lst hSS fun r st' q1 q2 q3 => ?_)
    exact after r st' (fin r st' q1 q2 q3) q3.fail
end
end L2

/-! binary insertion from any place on -/
namespace L2
open PySem PySem.Spec PyProof.Rows
/-- the k-th moved down to the l-th place -/
def insB (R : List Keyed) (k l : Nat) : List Keyed := R.take l ++ ((R.drop k).take 1 ++ ((R.take k).drop l ++ R.drop (k + 1)))
theorem insB_perm (R : List Keyed) {k l : Nat} (h : l ≤ k) : (insB R k l).Perm R := by
  unfold insB
  have e1 : R.take k = R.take l ++ (R.take k).drop l := by
    conv => lhs; rw [← List.take_append_drop l (R.take k)]
    rw [List.take_take, Nat.min_eq_left h]
  have e2 : R = R.take k ++ ((R.drop k).take 1 ++ R.drop (k + 1)) := by
    conv => lhs; rw [← List.take_append_drop k R, drop_take_split R k 1]
  conv => rhs; rw [e2]
  rw [e1, List.append_assoc]
  refine List.Perm.append_left _ ?_
  have e3 : List.drop l (R.take l ++ (R.take k).drop l) = (R.take k).drop l := by rw [← e1]
  rw [e3]
  rw [← List.append_assoc, ← List.append_assoc]
  exact List.Perm.append_right _ List.perm_append_comm
theorem insB_get (R : List Keyed) {k l : Nat} (hk : k < R.length) (hl : l ≤ k) (p : Nat) : (insB R k l)[p]? = if p = l then R[k]? else if l < p ∧ p ≤ k then R[p - 1]? else R[p]? := by
  unfold insB
  have len1 : (R.take l).length = l := by rw [List.length_take]; omega
  have len2 : ((R.drop k).take 1).length = 1 := by rw [List.length_take, List.length_drop]; omega
  have len3 : ((R.take k).drop l).length = k - l := by rw [List.length_drop, List.length_take]; omega
  by_cases c1 : p < l
  · rw [List.getElem?_append_left (by omega), if_neg (by omega), if_neg (by omega), List.getElem?_take, if_pos c1]
  rw [List.getElem?_append_right (by omega), len1]
  by_cases c2 : p = l
  · rw [if_pos c2, List.getElem?_append_left (by omega), List.getElem?_take, if_pos (by omega), List.getElem?_drop]
    congr 1; omega
  rw [if_neg c2, List.getElem?_append_right (by omega), len2]
  by_cases c3 : p ≤ k
  · rw [if_pos ⟨by omega, c3⟩, List.getElem?_append_left (by omega), List.getElem?_drop, List.getElem?_take, if_pos (by omega)]
    congr 1; omega
  · rw [if_neg (by omega), List.getElem?_append_right (by omega), len3, List.getElem?_drop]
    congr 1; omega
theorem bubble_list {ar : Array Keyed} {P R T : List Keyed} (h : ar.toList = P ++ R ++ T) {k l : Nat} (hk : k < R.length) (hl : l ≤ k) : (bubble ar (P.length + k) (k - l)).toList = P ++ insB R k l ++ T := by
  have hsz : ar.size = P.length + R.length + T.length := by
    have := congrArg List.length h
    rw [Array.length_toList] at this
    simp at this; omega
  have hil : (insB R k l).length = R.length := (insB_perm R hl).length_eq
  apply List.ext_getElem?
  intro p
  rw [Array.getElem?_toList, getElem?_bubble (by omega) _ (by omega) p, show P.length + k - (k - l) = P.length + l by omega]
  have get : ∀ q, ar[q]? = (P ++ R ++ T)[q]? := fun q => by rw [← h, Array.getElem?_toList]
  by_cases c1 : p < P.length
  · rw [if_neg (by omega), if_neg (by omega), get, List.append_assoc, List.append_assoc, List.getElem?_append_left c1, List.getElem?_append_left c1]
  · by_cases c2 : p < P.length + R.length
    · have eR : (P ++ insB R k l ++ T)[p]? = (insB R k l)[p - P.length]? := by
        rw [List.append_assoc, List.getElem?_append_right (by omega), List.getElem?_append_left (by omega)]
      have eg : ∀ q, P.length ≤ q → q < P.length + R.length → ar[q]? = R[q - P.length]? := fun q h1 h2 => by
        rw [get, List.append_assoc, List.getElem?_append_right h1, List.getElem?_append_left (by omega)]
      rw [eR, insB_get R hk hl]
      by_cases c3 : p = P.length + l
      · rw [if_pos c3, if_pos (show p - P.length = l by omega), eg _ (by omega) (by omega)]; congr 1; omega
      · rw [if_neg c3, if_neg (show ¬ p - P.length = l by omega)]
        by_cases c4 : P.length + l < p ∧ p ≤ P.length + k
        · rw [if_pos c4, if_pos (show l < p - P.length ∧ p - P.length ≤ k by omega), eg _ (by omega) (by omega)]; congr 1; omega
        · rw [if_neg c4, if_neg (show ¬ (l < p - P.length ∧ p - P.length ≤ k) by omega), eg _ (by omega) (by omega)]
    · rw [if_neg (by omega), if_neg (by omega), get, List.append_assoc, List.append_assoc, List.getElem?_append_right (by omega), List.getElem?_append_right (by omega), List.getElem?_append_right (by omega), List.getElem?_append_right (by omega), hil]
section
variable {prog : Program} {w : World} {A : Around} {E : Value → Shared → Prop} {s : Shared} {ltb : Keyed → Keyed → Bool} {S : Keyed → Prop} {κ : SortKind}
theorem wpS_ltAtB (hO : LtOk prog w A E s ltb S κ) {st : SortSt} {i j : Nat} {x y : Keyed} {Q : Option Bool → SortSt → Prop} (hk : kindOf st = κ) (hi : (arrOf st)[i]? = some x) (hj : (arrOf st)[j]? = some y) (Sx : S x) (Sy : S y) (q : Q (some (ltb x y)) st) : wpS (model prog w) A E s (ltAt' i j) Q st := by
  rw [ltAt'_eq]
  refine wpS_bind (wpS_get ?_)
  exact wpS_bind (wpS_elem hi (wpS_bind (wpS_elem hj (hO x y st Q Sx Sy hk q))))
/-- the first k of R rise -/
def RiseTo (ltb : Keyed → Keyed → Bool) (R : List Keyed) (k : Nat) : Prop := ∀ i j x y, i < j → j < k → R[i]? = some x → R[j]? = some y → leB ltb x y
theorem wpS_binB (O : OrdB ltb) (hO : LtOk prog w A E s ltb S κ) {st : SortSt} {Q : Bool → SortSt → Prop} {P R T : List Keyed} {ok : Nat} (hk : kindOf st = κ) (hf : failedOf st = none) (harr : (arrOf st).toList = P ++ R ++ T) (hok : ok ≤ R.length) (hr : RiseTo ltb R ok) (hSa : ∀ x ∈ R, S x)
    (h : ∀ (st' : SortSt) (R' : List Keyed), (arrOf st').toList = P ++ R' ++ T → R'.Perm R → RiseTo ltb R' R'.length → kindOf st' = κ → failedOf st' = none → pendingOf st' = pendingOf st → Q true st') : wpS (model prog w) A E s (binarySort' P.length R.length ok) Q st := by
  rw [binarySort'_eq]
  refine wpS_bind (wpS_mono (wpS_forRange (I := fun k c st' => c = (none, ()) ∧ kindOf st' = κ ∧ failedOf st' = none ∧ pendingOf st' = pendingOf st ∧ ∃ R', (arrOf st').toList = P ++ R' ++ T ∧ R'.Perm R ∧ RiseTo ltb R' (min k R.length))
    (Q := fun c st' => c = (none, ()) ∧ kindOf st' = κ ∧ failedOf st' = none ∧ pendingOf st' = pendingOf st ∧ ∃ R', (arrOf st').toList = P ++ R' ++ T ∧ R'.Perm R ∧ RiseTo ltb R' R.length) ?step ?fin ⟨rfl, hk, hf, rfl, R, harr, List.Perm.refl _, ?init⟩) ?post)
  case init =>
    intro i j x y hij hj hx hy
    exact hr i j x y hij (by omega) hx hy
  case fin =>
    rintro c st' ⟨hc, k1, k2, k3, R', a1, a2, a3⟩
    exact ⟨hc, k1, k2, k3, R', a1, a2, fun i j x y hij hj => a3 i j x y hij (by omega)⟩
  case post =>
    rintro c st' ⟨rfl, k1, k2, k3, R', a1, a2, a3⟩
    exact wpS_pure (h st' R' a1 a2 (by rw [a2.length_eq]; exact a3) k1 k2 k3)
  case step =>
    rintro k c st' h1 hkn ⟨rfl, k1, k2, k3, R', a1, a2, a3⟩
    rw [show min k R.length = k by omega] at a3
    have hlen := a2.length_eq
    have hS' : ∀ x ∈ R', S x := fun x hx => hSa x (a2.mem_iff.mp hx)
    have gt : ∀ i, i < R'.length → (arrOf st')[P.length + i]? = R'[i]? := fun i hi => at_seg a1 i hi
    obtain ⟨v, hv⟩ : ∃ v, R'[k]? = some v := ⟨_, List.getElem?_eq_getElem (by omega)⟩
    have Sv := hS' v (List.mem_of_getElem? hv)
    refine wpS_bind (wpS_mono (wpS_forRange (I := fun x c st'' => st'' = st' ∧ ∃ l r, c = (none, l, r) ∧ l ≤ r ∧ r ≤ k ∧ r - l ≤ k - x ∧ (∀ i x, i < l → R'[i]? = some x → leB ltb x v) ∧ (∀ i x, r ≤ i → i < k → R'[i]? = some x → ltb v x = true))
      (Q := fun c st'' => st'' = st' ∧ ∃ l r, c = (none, l, r) ∧ l ≤ k ∧ (∀ i x, i < l → R'[i]? = some x → leB ltb x v) ∧ (∀ i x, l ≤ i → i < k → R'[i]? = some x → ltb v x = true)) ?istep ?ifin ⟨rfl, 0, k, rfl, by omega, by omega, by omega, fun i x hi => by omega, fun i x h1 h2 => by omega⟩) ?ipost)
    case ifin =>
      rintro c st'' ⟨rfl, l, r, rfl, b1, b2, b3, b4, b5⟩
      have : l = r := by omega
      subst this
      exact ⟨rfl, l, l, rfl, b2, b4, b5⟩
    case istep =>
      rintro x c st'' _ hxk ⟨e, l, r, rfl, b1, b2, b3, b4, b5⟩
      rw [e]
      dsimp only
      by_cases hge : l ≥ r
      · rw [if_pos hge]
        have : l = r := by omega
        subst this
        exact wpS_pure ⟨rfl, l, l, rfl, b2, b4, b5⟩
      · rw [if_neg hge]
        obtain ⟨u, hu⟩ : ∃ u, R'[(l + r) / 2]? = some u := ⟨_, List.getElem?_eq_getElem (by omega)⟩
        refine wpS_bind (wpS_ltAtB hO k1 (by rw [gt k (by omega)]; exact hv) (by rw [gt _ (by omega)]; exact hu) Sv (hS' u (List.mem_of_getElem? hu)) ?_)
        dsimp only
        cases hw : ltb v u with
        | true =>
          simp only [if_true]
          refine wpS_pure ⟨rfl, l, (l + r) / 2, rfl, by omega, by omega, by omega, b4, fun i y q1 q2 hy => ?_⟩
          by_cases ei : i = (l + r) / 2
          · subst ei; rw [hu] at hy; cases hy; exact hw
          · have le1 := a3 ((l + r) / 2) i u y (by omega) q2 hu hy
            cases q : ltb v y with
            | true => rfl
            | false => have := O.tr le1 q; rw [hw] at this; cases this
        | false =>
          simp only [Bool.false_eq_true, if_false]
          refine wpS_pure ⟨rfl, (l + r) / 2 + 1, r, rfl, by omega, by omega, by omega, fun i y q1 hy => ?_, b5⟩
          by_cases ei : i = (l + r) / 2
          · subst ei; rw [hu] at hy; cases hy; exact hw
          · exact O.tr (a3 i ((l + r) / 2) y u (by omega) (by omega) hy hu) hw
    case ipost =>
      rintro c st'' ⟨e, l, r, rfl, b1, b4, b5⟩
      rw [e]
      show wpS _ _ _ _ (do moveDown' (P.length + k) (P.length + l); pure (ForInStep.yield (none, ()))) _ _
      rw [moveDown'_eq]
      refine wpS_bind (wpS_modify (wpS_pure ⟨rfl, k1, k2, k3, insB R' k l, ?_, (insB_perm R' b1).trans a2, ?_⟩))
      · show (bubble (arrOf st') (P.length + k) (P.length + k - (P.length + l))).toList = _
        rw [show P.length + k - (P.length + l) = k - l by omega]
        exact bubble_list a1 (by omega) b1
      · rw [show min (k + 1) R.length = k + 1 by omega]
        intro i j x y hij hj hx hy
        rw [insB_get R' (by omega) b1] at hx hy
        by_cases i1 : i = l
        · rw [if_pos i1, hv] at hx
          cases hx
          rw [if_neg (by omega), if_pos (by omega)] at hy
          exact O.asym (b5 (j - 1) y (by omega) (by omega) hy)
        rw [if_neg i1] at hx
        by_cases i2 : l < i ∧ i ≤ k
        · rw [if_pos i2] at hx
          rw [if_neg (by omega), if_pos (by omega)] at hy
          exact a3 (i - 1) (j - 1) x y (by omega) (by omega) hx hy
        rw [if_neg i2] at hx
        by_cases j1 : j = l
        · rw [if_pos j1, hv] at hy
          cases hy
          exact b4 i x (by omega) hx
        rw [if_neg j1] at hy
        by_cases j2 : l < j ∧ j ≤ k
        · rw [if_pos j2] at hy
          exact a3 i (j - 1) x y (by omega) (by omega) hx hy
        · rw [if_neg j2] at hy
          exact a3 i j x y hij (by omega) hx hy
end
end L2

/-! runs from any place on -/
namespace L2
open PySem PySem.Spec PyProof.Rows
def revB (R : List Keyed) (i j : Nat) : List Keyed := R.take i ++ (((R.take j).drop i).reverse ++ R.drop j)
theorem revB_perm (R : List Keyed) {i j : Nat} (h : i ≤ j) : (revB R i j).Perm R := by
  unfold revB
  have e1 : R.take j = R.take i ++ (R.take j).drop i := by
    conv => lhs; rw [← List.take_append_drop i (R.take j)]
    rw [List.take_take, Nat.min_eq_left h]
  have : (R.take i ++ (((R.take j).drop i).reverse ++ R.drop j)).Perm (R.take i ++ ((R.take j).drop i ++ R.drop j)) := List.Perm.append_left _ (List.Perm.append_right _ (List.reverse_perm _))
  refine this.trans (List.Perm.of_eq ?_)
  rw [← List.append_assoc, ← e1, List.take_append_drop]
theorem revB_get (R : List Keyed) {i j : Nat} (hj : j ≤ R.length) (h : i ≤ j) (p : Nat) : (revB R i j)[p]? = if i ≤ p ∧ p < j then R[i + j - 1 - p]? else R[p]? := by
  unfold revB
  have len1 : (R.take i).length = i := by rw [List.length_take]; omega
  have len2 : ((R.take j).drop i).length = j - i := by rw [List.length_drop, List.length_take]; omega
  by_cases c1 : p < i
  · rw [List.getElem?_append_left (by omega), if_neg (by omega), List.getElem?_take, if_pos c1]
  rw [List.getElem?_append_right (by omega), len1]
  by_cases c2 : p < j
  · rw [if_pos ⟨by omega, c2⟩, List.getElem?_append_left (by rw [List.length_reverse]; omega), List.getElem?_reverse (by omega), len2, List.getElem?_drop, List.getElem?_take, if_pos (by omega)]
    congr 1; omega
  · rw [if_neg (by omega), List.getElem?_append_right (by rw [List.length_reverse]; omega), List.length_reverse, len2, List.getElem?_drop]
    congr 1; omega
theorem mirror_list {ar : Array Keyed} {P R : List Keyed} (h : ar.toList = P ++ R) {i j : Nat} (hj : j ≤ R.length) (hi : i ≤ j) : (mirror ar (P.length + i) (P.length + j) ((P.length + j - (P.length + i)) / 2)).toList = P ++ revB R i j := by
  have hsz : ar.size = P.length + R.length := by
    have := congrArg List.length h
    rw [Array.length_toList] at this
    simp at this; omega
  apply List.ext_getElem?
  intro p
  rw [Array.getElem?_toList, getElem?_mirror_all (by omega) p]
  have get : ∀ q, ar[q]? = (P ++ R)[q]? := fun q => by rw [← h, Array.getElem?_toList]
  by_cases c1 : p < P.length
  · rw [if_neg (by omega), get, List.getElem?_append_left c1, List.getElem?_append_left c1]
  · rw [List.getElem?_append_right (by omega), revB_get R hj hi]
    by_cases c2 : P.length + i ≤ p ∧ p < P.length + j
    · rw [if_pos c2, if_pos (show i ≤ p - P.length ∧ p - P.length < j by omega), get, List.getElem?_append_right (by omega)]
      congr 1; omega
    · rw [if_neg c2, if_neg (show ¬ (i ≤ p - P.length ∧ p - P.length < j) by omega), get, List.getElem?_append_right (by omega)]
theorem OrdB.refl {ltb : Keyed → Keyed → Bool} (O : OrdB ltb) (x : Keyed) : leB ltb x x := by
  unfold leB
  cases q : ltb x x with
  | false => rfl
  | true => have := O.asym q; rw [q] at this; cases this
def FallTo (ltb : Keyed → Keyed → Bool) (R : List Keyed) (k : Nat) : Prop := ∀ i j x y, i < j → j < k → R[i]? = some x → R[j]? = some y → leB ltb y x
def EqSeg (ltb : Keyed → Keyed → Bool) (R : List Keyed) (a b : Nat) : Prop := ∀ i j x y, a ≤ i → i < b → a ≤ j → j < b → R[i]? = some x → R[j]? = some y → leB ltb x y
section
variable {ltb : Keyed → Keyed → Bool} {R : List Keyed}
theorem RiseTo.more (O : OrdB ltb) {n : Nat} (h : RiseTo ltb R n) (hn : 1 ≤ n) {u v : Keyed} (hu : R[n - 1]? = some u) (hv : R[n]? = some v) (c : leB ltb u v) : RiseTo ltb R (n + 1) := by
  intro i j x y hij hj hx hy
  by_cases e : j = n
  · subst e
    rw [hv] at hy; cases hy
    by_cases e2 : i = j - 1
    · subst e2; rw [hu] at hx; cases hx; exact c
    · exact O.tr (h i (j - 1) x u (by omega) (by omega) hx hu) c
  · exact h i j x y hij (by omega) hx hy
theorem FallTo.more (O : OrdB ltb) {n : Nat} (h : FallTo ltb R n) (hn : 1 ≤ n) {u v : Keyed} (hu : R[n - 1]? = some u) (hv : R[n]? = some v) (c : leB ltb v u) : FallTo ltb R (n + 1) := by
  intro i j x y hij hj hx hy
  by_cases e : j = n
  · subst e
    rw [hv] at hy; cases hy
    by_cases e2 : i = j - 1
    · subst e2; rw [hu] at hx; cases hx; exact c
    · exact O.tr c (h i (j - 1) x u (by omega) (by omega) hx hu)
  · exact h i j x y hij (by omega) hx hy
theorem FallTo.seg {n a : Nat} (h : FallTo ltb R n) (ha : a ≤ n) (hn : n ≤ R.length) (e : EqSeg ltb R a n) : FallTo ltb (revB R a n) n := by
  intro i j x y hij hj hx hy
  rw [revB_get R hn ha] at hx hy
  by_cases c1 : a ≤ i
  · rw [if_pos ⟨c1, by omega⟩] at hx
    rw [if_pos ⟨by omega, hj⟩] at hy
    exact e _ _ y x (by omega) (by omega) (by omega) (by omega) hy hx
  · rw [if_neg (by omega)] at hx
    by_cases c2 : a ≤ j
    · rw [if_pos ⟨c2, hj⟩] at hy
      exact h i _ x y (by omega) (by omega) hx hy
    · rw [if_neg (by omega)] at hy
      exact h i j x y hij hj hx hy
theorem FallTo.turn {n : Nat} (h : FallTo ltb R n) (hn : n ≤ R.length) : RiseTo ltb (revB R 0 n) n := by
  intro i j x y hij hj hx hy
  rw [revB_get R hn (Nat.zero_le _), if_pos ⟨Nat.zero_le _, by omega⟩] at hx
  rw [revB_get R hn (Nat.zero_le _), if_pos ⟨Nat.zero_le _, hj⟩] at hy
  exact h _ _ y x (by omega) (by omega) hy hx
end
section
variable {prog : Program} {w : World} {A : Around} {E : Value → Shared → Prop} {s : Shared} {ltb : Keyed → Keyed → Bool} {S : Keyed → Prop} {κ : SortKind}
/-- the array is P and a permutation of R -/
structure ZS (κ : SortKind) (st : SortSt) (P R : List Keyed) (st' : SortSt) (R' : List Keyed) : Prop where
  kind : kindOf st' = κ
  fail : failedOf st' = none
  pend : pendingOf st' = pendingOf st
  arr : (arrOf st').toList = P ++ R'
  perm : R'.Perm R
theorem ZS.rev {st st' : SortSt} {P R R' : List Keyed} (z : ZS κ st P R st' R') {i j : Nat} (hj : j ≤ R'.length) (hi : i ≤ j) : ZS κ st P R (setArr st' (mirror (arrOf st') (P.length + i) (P.length + j) ((P.length + j - (P.length + i)) / 2))) (revB R' i j) :=
  ⟨z.kind, z.fail, z.pend, mirror_list z.arr hj hi, (revB_perm R' hi).trans z.perm⟩
theorem ZS.at {st st' : SortSt} {P R R' : List Keyed} (z : ZS κ st P R st' R') (i : Nat) (hi : i < R'.length) : (arrOf st')[P.length + i]? = R'[i]? := at_seg (T := []) (by rw [List.append_nil]; exact z.arr) i hi
theorem ZS.ask (hO : LtOk prog w A E s ltb S κ) {st st' : SortSt} {P R R' : List Keyed} (z : ZS κ st P R st' R') (hS : ∀ x ∈ R, S x) {a b i j : Nat} (ea : a = P.length + i) (eb : b = P.length + j) (hi : i < R'.length) (hj : j < R'.length) {Q : Option Bool → SortSt → Prop} (q : ∀ x y, R'[i]? = some x → R'[j]? = some y → Q (some (ltb x y)) st') :
    wpS (model prog w) A E s (ltAt' a b) Q st' := by
  have m : ∀ x, x ∈ R' → S x := fun x hx => hS x (z.perm.mem_iff.mp hx)
  obtain ⟨x, hx⟩ : ∃ x, R'[i]? = some x := ⟨_, List.getElem?_eq_getElem hi⟩
  obtain ⟨y, hy⟩ : ∃ y, R'[j]? = some y := ⟨_, List.getElem?_eq_getElem hj⟩
  exact wpS_ltAtB hO z.kind (by rw [ea, z.at i hi]; exact hx) (by rw [eb, z.at j hj]; exact hy) (m x (List.mem_of_getElem? hx)) (m y (List.mem_of_getElem? hy)) (q x y hx hy)
theorem wpS_runB (O : OrdB ltb) (hO : LtOk prog w A E s ltb S κ) {st : SortSt} {Q : Option Nat → SortSt → Prop} {P R : List Keyed} (hk : kindOf st = κ) (hf : failedOf st = none) (harr : (arrOf st).toList = P ++ R) (hR : 1 ≤ R.length) (hS : ∀ x ∈ R, S x)
    (h : ∀ (st' : SortSt) (R' : List Keyed) (n : Nat), ZS κ st P R st' R' → 1 ≤ n → n ≤ R.length → RiseTo ltb R' n → Q (some n) st') : wpS (model prog w) A E s (countRun' P.length R.length) Q st := by
  have z0 : ZS κ st P R st R := ⟨hk, hf, rfl, harr, List.Perm.refl _⟩
  rw [countRun'_eq]
  refine wpS_bind (wpS_mono (wpS_forRange (I := fun x c st' => st' = st ∧ c = (none, x) ∧ RiseTo ltb R x ∧ x ≤ R.length)
    (Q := fun c st' => st' = st ∧ ∃ n, c = (none, n) ∧ 1 ≤ n ∧ n ≤ R.length ∧ RiseTo ltb R n ∧ (n < R.length → ∀ u v, R[n - 1]? = some u → R[n]? = some v → ltb v u = true)) ?stp ?fin ⟨rfl, rfl, fun i j x y hij hj => by omega, hR⟩) ?post)
  case fin =>
    rintro c st' ⟨rfl, rfl, a1, a2⟩
    exact ⟨rfl, _, rfl, by omega, a2, a1, fun q => by omega⟩
  case stp =>
    rintro x c st' hx1 hx2 ⟨est, rfl, a1, a2⟩
    rw [est]
    dsimp only
    refine wpS_bind (z0.ask hO hS (i := x) (j := x - 1) rfl (by omega) hx2 (by omega) fun v u hv hu => ?_)
    dsimp only
    cases hw : ltb v u with
    | true =>
      simp only [if_true]
      exact wpS_pure ⟨rfl, x, rfl, hx1, a2, a1, fun _ u' v' hu' hv' => by rw [hu] at hu'; rw [hv] at hv'; cases hu'; cases hv'; exact hw⟩
    | false =>
      simp only [Bool.false_eq_true, if_false]
      exact wpS_pure ⟨rfl, rfl, a1.more O hx1 hu hv hw, by omega⟩
  case post =>
    rintro c st' ⟨est, n, rfl, a1, a2, a3, a4⟩
    rw [est]
    dsimp only
    by_cases c1 : n = R.length
    · rw [if_pos (by simpa using c1)]
      exact wpS_pure (h st R n z0 a1 a2 a3)
    rw [if_neg (by simpa using c1)]
    have a4 := a4 (by omega)
    obtain ⟨u0, hu0⟩ : ∃ u, R[n - 1]? = some u := ⟨_, List.getElem?_eq_getElem (by omega)⟩
    obtain ⟨v0, hv0⟩ : ∃ v, R[n]? = some v := ⟨_, List.getElem?_eq_getElem (by omega)⟩
    have hw0 := a4 u0 v0 hu0 hv0
    by_cases c2 : n > 1
    · rw [if_pos c2]
      refine wpS_bind (z0.ask hO hS (i := 0) (j := n - 1) rfl (by omega) (by omega) (by omega) fun f l hf0 hl0 => ?_)
      rw [hu0] at hl0; cases hl0
      dsimp only
      cases hw1 : ltb f u0 with
      | true =>
        simp only [if_true]
        exact wpS_pure (h st R n z0 a1 a2 a3)
      | false =>
        simp only [Bool.false_eq_true, if_false]
        rw [reverseSlice'_eq]
        refine wpS_bind (wpS_modify ?_)
        have z1 := z0.rev (i := 0) (j := n) (by omega) (Nat.zero_le _)
        rw [Nat.add_zero] at z1
        have eq0 : EqSeg ltb R 0 n := fun i j x y _ i2 _ j2 hx hy => by
          have t1 : leB ltb x u0 := by
            by_cases e : i = n - 1
            · subst e; rw [hu0] at hx; cases hx; exact O.refl _
            · exact a3 i (n - 1) x u0 (by omega) (by omega) hx hu0
          have t2 : leB ltb f y := by
            by_cases e : j = 0
            · subst e; rw [hf0] at hy; cases hy; exact O.refl _
            · exact a3 0 j f y (by omega) j2 hf0 hy
          exact O.tr (O.tr t1 hw1) t2
        have f1 : FallTo ltb (revB R 0 n) (n + 1) := by
          have ff : FallTo ltb R n := fun i j x y hij hj hx hy => eq0 j i y x (by omega) hj (by omega) (by omega) hy hx
          have fr := ff.seg (a := 0) (by omega) (by omega) eq0
          obtain ⟨u2, hu2⟩ : ∃ u2, (revB R 0 n)[n - 1]? = some u2 := ⟨_, List.getElem?_eq_getElem (by rw [(revB_perm R (by omega)).length_eq]; omega)⟩
          have hu3 := hu2
          rw [revB_get R (by omega) (by omega), if_pos (by omega)] at hu3
          refine fr.more O (by omega) hu2 (by rw [revB_get R (by omega) (by omega), if_neg (by omega)]; exact hv0) (O.tr (O.asym hw0) (eq0 (n - 1) _ u0 u2 (by omega) (by omega) (by omega) (by omega) hu0 hu3))
        generalize setArr st (mirror (arrOf st) P.length (P.length + n) ((P.length + n - P.length) / 2)) = st1 at z1 ⊢
        generalize hR1 : revB R 0 n = R1 at z1 f1
        refine wpS_bind (wpS_lift (wpAny_rule ⟨rfl, ?_⟩))
        refine wpS_bind (wpS_mono (wpS_forRange (I := fun x c st' => ∃ R' q, c = (none, x, q) ∧ ZS κ st P R st' R' ∧ q + 1 ≤ x ∧ x ≤ R.length ∧ FallTo ltb R' x ∧ EqSeg ltb R' (x - (q + 1)) x)
          (Q := fun c st' => ∃ R' m q, c = (none, m, q) ∧ ZS κ st P R st' R' ∧ q + 1 ≤ m ∧ m ≤ R.length ∧ FallTo ltb R' m ∧ EqSeg ltb R' (m - (q + 1)) m) ?stp3 ?fin3 ⟨R1, 0, rfl, z1, by omega, by omega, f1, fun i j x y i1 i2 j1 j2 hx hy => by
            have e1 : i = j := by omega
            subst e1; rw [hx] at hy; cases hy; exact O.refl x⟩) ?post3)
        case fin3 =>
          rintro c st' ⟨R', q, rfl, b1, b2, b3, b4, b5⟩
          exact ⟨R', _, q, rfl, b1, b2, b3, b4, b5⟩
        case stp3 =>
          rintro x c st' hx1 hx2 ⟨R', q, rfl, b1, b2, b3, b4, b5⟩
          have hl := b1.perm.length_eq
          dsimp only
          refine wpS_bind (b1.ask hO hS (i := x) (j := x - 1) rfl (by omega) (by omega) (by omega) fun v u hv hu => ?_)
          dsimp only
          cases hw : ltb v u with
          | true =>
            simp only [if_true]
            by_cases c6 : q > 0
            · rw [if_pos c6, reverseSlice'_eq]
              refine wpS_bind (wpS_modify ?_)
              have zr := b1.rev (i := x - (q + 1)) (j := x) (by omega) (by omega)
              have fr := b4.seg (a := x - (q + 1)) (by omega) (by omega) b5
              have hv2 : (revB R' (x - (q + 1)) x)[x]? = some v := by rw [revB_get R' (by omega) (by omega), if_neg (by omega)]; exact hv
              obtain ⟨u2, hu2⟩ : ∃ u2, (revB R' (x - (q + 1)) x)[x - 1]? = some u2 := ⟨_, List.getElem?_eq_getElem (by rw [(revB_perm R' (by omega)).length_eq]; omega)⟩
              have hu3 := hu2
              rw [revB_get R' (by omega) (by omega), if_pos (by omega)] at hu3
              have cc : leB ltb v u2 := O.tr (O.asym hw) (b5 (x - 1) _ u u2 (by omega) (by omega) (by omega) (by omega) hu hu3)
              refine wpS_pure ⟨_, 0, rfl, ?_, by omega, by omega, fr.more O (by omega) hu2 hv2 cc, fun i j x y i1 i2 j1 j2 hx hy => by
                have e1 : i = j := by omega
                subst e1; rw [hx] at hy; cases hy; exact O.refl x⟩
              rw [show P.length + x - (q + 1) = P.length + (x - (q + 1)) by omega]
              exact zr
            · rw [if_neg c6]
              exact wpS_pure ⟨R', 0, rfl, b1, by omega, by omega, b4.more O (by omega) hu hv (O.asym hw), fun i j x y i1 i2 j1 j2 hx hy => by
                have e1 : i = j := by omega
                subst e1; rw [hx] at hy; cases hy; exact O.refl x⟩
          | false =>
            simp only [Bool.false_eq_true, if_false]
            refine wpS_bind (b1.ask hO hS (i := x - 1) (j := x) (by omega) rfl (by omega) (by omega) fun u' v' hu' hv' => ?_)
            rw [hu] at hu'; cases hu'
            rw [hv] at hv'; cases hv'
            dsimp only
            cases hw2 : ltb u v with
            | true =>
              simp only [if_true]
              exact wpS_pure ⟨R', x, q, rfl, b1, b2, b3, b4, b5⟩
            | false =>
              simp only [Bool.false_eq_true, if_false]
              refine wpS_pure ⟨R', q + 1, rfl, b1, by omega, by omega, b4.more O (by omega) hu hv hw2, fun i j p r i1 i2 j1 j2 hp hr => ?_⟩
              have toU : ∀ i p, x + 1 - (q + 1 + 1) ≤ i → i < x + 1 → R'[i]? = some p → leB ltb p u ∧ leB ltb u p := fun i p g1 g2 hp => by
                by_cases e : i = x
                · subst e; rw [hv] at hp; cases hp; exact ⟨hw2, hw⟩
                · exact ⟨b5 i (x - 1) p u (by omega) (by omega) (by omega) (by omega) hp hu, b5 (x - 1) i u p (by omega) (by omega) (by omega) (by omega) hu hp⟩
              exact O.tr (toU i p (by omega) i2 hp).1 (toU j r (by omega) j2 hr).2
        case post3 =>
          rintro c st3 ⟨R', m, q, rfl, b1, b2, b3, b4, b5⟩
          have hl := b1.perm.length_eq
          dsimp only
          by_cases c7 : q > 0
          · rw [if_pos c7, reverseSlice'_eq]
            refine wpS_bind (wpS_modify ?_)
            have zr := b1.rev (i := m - (q + 1)) (j := m) (by omega) (by omega)
            rw [show P.length + (m - (q + 1)) = P.length + m - (q + 1) by omega] at zr
            have fr := b4.seg (a := m - (q + 1)) (by omega) (by omega) b5
            have hl2 := zr.perm.length_eq
            generalize setArr st3 (mirror (arrOf st3) (P.length + m - (q + 1)) (P.length + m) ((P.length + m - (P.length + m - (q + 1))) / 2)) = st4 at zr ⊢
            generalize revB R' (m - (q + 1)) m = R4 at zr fr hl2
            rw [reverseSlice'_eq]
            refine wpS_bind (wpS_modify ?_)
            have z5 := zr.rev (i := 0) (j := m) (by omega) (Nat.zero_le _)
            rw [Nat.add_zero] at z5
            have r5 := fr.turn (by omega)
            generalize setArr st4 (mirror (arrOf st4) P.length (P.length + m) ((P.length + m - P.length) / 2)) = st5 at z5 ⊢
            refine wpS_bind (wpS_mono (wpS_forRange (I := fun x c st' => st' = st5 ∧ c = (none, x) ∧ RiseTo ltb (revB R4 0 m) x ∧ x ≤ R.length)
              (Q := fun c st' => st' = st5 ∧ ∃ n, c = (none, n) ∧ 1 ≤ n ∧ n ≤ R.length ∧ RiseTo ltb (revB R4 0 m) n) ?stp5 ?fin5 ⟨rfl, rfl, r5, by omega⟩) ?post5)
            case fin5 =>
              rintro c st' ⟨est, rfl, b1, b2⟩
              exact ⟨est, _, rfl, by omega, b2, b1⟩
            case post5 =>
              rintro c st' ⟨est, n5, rfl, b1, b2, b3⟩
              rw [est]
              exact wpS_pure (h _ _ n5 z5 b1 b2 b3)
            case stp5 =>
              rintro x c st' hx1 hx2 ⟨est, rfl, b1, b2⟩
              rw [est]
              dsimp only
              refine wpS_bind (z5.ask hO hS (i := x) (j := x - 1) rfl (by omega) (by rw [z5.perm.length_eq]; exact hx2) (by rw [z5.perm.length_eq]; omega) fun v u hv hu => ?_)
              dsimp only
              cases hw : ltb v u with
              | true =>
                simp only [if_true]
                exact wpS_pure ⟨rfl, x, rfl, by omega, b2, b1⟩
              | false =>
                simp only [Bool.false_eq_true, if_false]
                exact wpS_pure ⟨rfl, rfl, b1.more O (by omega) hu hv hw, by omega⟩
          · rw [if_neg c7, reverseSlice'_eq]
            refine wpS_bind (wpS_modify ?_)
            have z5 := b1.rev (i := 0) (j := m) (by omega) (Nat.zero_le _)
            rw [Nat.add_zero] at z5
            have r5 := b4.turn (by omega)
            generalize setArr st3 (mirror (arrOf st3) P.length (P.length + m) ((P.length + m - P.length) / 2)) = st5 at z5 ⊢
            refine wpS_bind (wpS_mono (wpS_forRange (I := fun x c st' => st' = st5 ∧ c = (none, x) ∧ RiseTo ltb (revB R' 0 m) x ∧ x ≤ R.length)
              (Q := fun c st' => st' = st5 ∧ ∃ n, c = (none, n) ∧ 1 ≤ n ∧ n ≤ R.length ∧ RiseTo ltb (revB R' 0 m) n) ?stp5 ?fin5 ⟨rfl, rfl, r5, by omega⟩) ?post5)
            case fin5 =>
              rintro c st' ⟨est, rfl, b1, b2⟩
              exact ⟨est, _, rfl, by omega, b2, b1⟩
            case post5 =>
              rintro c st' ⟨est, n5, rfl, b1, b2, b3⟩
              rw [est]
              exact wpS_pure (h _ _ n5 z5 b1 b2 b3)
            case stp5 =>
              rintro x c st' hx1 hx2 ⟨est, rfl, b1, b2⟩
              rw [est]
              dsimp only
              refine wpS_bind (z5.ask hO hS (i := x) (j := x - 1) rfl (by omega) (by rw [z5.perm.length_eq]; exact hx2) (by rw [z5.perm.length_eq]; omega) fun v u hv hu => ?_)
              dsimp only
              cases hw : ltb v u with
              | true =>
                simp only [if_true]
                exact wpS_pure ⟨rfl, x, rfl, by omega, b2, b1⟩
              | false =>
                simp only [Bool.false_eq_true, if_false]
                exact wpS_pure ⟨rfl, rfl, b1.more O (by omega) hu hv hw, by omega⟩
    · rw [if_neg c2]
      have e1 : n = 1 := by omega
      have f1 : FallTo ltb R (n + 1) := by
        have ff : FallTo ltb R n := fun i j x y hij hj hx hy => by omega
        exact ff.more O a1 hu0 hv0 (O.asym hw0)
      have z1 := z0
      have hR1 : ∃ R1, R1 = R := ⟨_, rfl⟩
      refine wpS_bind (wpS_lift (wpAny_rule ⟨rfl, ?_⟩))
      refine wpS_bind (wpS_mono (wpS_forRange (I := fun x c st' => ∃ R' q, c = (none, x, q) ∧ ZS κ st P R st' R' ∧ q + 1 ≤ x ∧ x ≤ R.length ∧ FallTo ltb R' x ∧ EqSeg ltb R' (x - (q + 1)) x)
        (Q := fun c st' => ∃ R' m q, c = (none, m, q) ∧ ZS κ st P R st' R' ∧ q + 1 ≤ m ∧ m ≤ R.length ∧ FallTo ltb R' m ∧ EqSeg ltb R' (m - (q + 1)) m) ?stp3 ?fin3 ⟨R, 0, rfl, z1, by omega, by omega, f1, fun i j x y i1 i2 j1 j2 hx hy => by
          have e1 : i = j := by omega
          subst e1; rw [hx] at hy; cases hy; exact O.refl x⟩) ?post3)
      case fin3 =>
        rintro c st' ⟨R', q, rfl, b1, b2, b3, b4, b5⟩
        exact ⟨R', _, q, rfl, b1, b2, b3, b4, b5⟩
      case stp3 =>
        rintro x c st' hx1 hx2 ⟨R', q, rfl, b1, b2, b3, b4, b5⟩
        have hl := b1.perm.length_eq
        dsimp only
        refine wpS_bind (b1.ask hO hS (i := x) (j := x - 1) rfl (by omega) (by omega) (by omega) fun v u hv hu => ?_)
        dsimp only
        cases hw : ltb v u with
        | true =>
          simp only [if_true]
          by_cases c6 : q > 0
          · rw [if_pos c6, reverseSlice'_eq]
            refine wpS_bind (wpS_modify ?_)
            have zr := b1.rev (i := x - (q + 1)) (j := x) (by omega) (by omega)
            have fr := b4.seg (a := x - (q + 1)) (by omega) (by omega) b5
            have hv2 : (revB R' (x - (q + 1)) x)[x]? = some v := by rw [revB_get R' (by omega) (by omega), if_neg (by omega)]; exact hv
            obtain ⟨u2, hu2⟩ : ∃ u2, (revB R' (x - (q + 1)) x)[x - 1]? = some u2 := ⟨_, List.getElem?_eq_getElem (by rw [(revB_perm R' (by omega)).length_eq]; omega)⟩
            have hu3 := hu2
            rw [revB_get R' (by omega) (by omega), if_pos (by omega)] at hu3
            have cc : leB ltb v u2 := O.tr (O.asym hw) (b5 (x - 1) _ u u2 (by omega) (by omega) (by omega) (by omega) hu hu3)
            refine wpS_pure ⟨_, 0, rfl, ?_, by omega, by omega, fr.more O (by omega) hu2 hv2 cc, fun i j x y i1 i2 j1 j2 hx hy => by
              have e1 : i = j := by omega
              subst e1; rw [hx] at hy; cases hy; exact O.refl x⟩
            rw [show P.length + x - (q + 1) = P.length + (x - (q + 1)) by omega]
            exact zr
          · rw [if_neg c6]
            exact wpS_pure ⟨R', 0, rfl, b1, by omega, by omega, b4.more O (by omega) hu hv (O.asym hw), fun i j x y i1 i2 j1 j2 hx hy => by
              have e1 : i = j := by omega
              subst e1; rw [hx] at hy; cases hy; exact O.refl x⟩
        | false =>
          simp only [Bool.false_eq_true, if_false]
          refine wpS_bind (b1.ask hO hS (i := x - 1) (j := x) (by omega) rfl (by omega) (by omega) fun u' v' hu' hv' => ?_)
          rw [hu] at hu'; cases hu'
          rw [hv] at hv'; cases hv'
          dsimp only
          cases hw2 : ltb u v with
          | true =>
            simp only [if_true]
            exact wpS_pure ⟨R', x, q, rfl, b1, b2, b3, b4, b5⟩
          | false =>
            simp only [Bool.false_eq_true, if_false]
            refine wpS_pure ⟨R', q + 1, rfl, b1, by omega, by omega, b4.more O (by omega) hu hv hw2, fun i j p r i1 i2 j1 j2 hp hr => ?_⟩
            have toU : ∀ i p, x + 1 - (q + 1 + 1) ≤ i → i < x + 1 → R'[i]? = some p → leB ltb p u ∧ leB ltb u p := fun i p g1 g2 hp => by
              by_cases e : i = x
              · subst e; rw [hv] at hp; cases hp; exact ⟨hw2, hw⟩
              · exact ⟨b5 i (x - 1) p u (by omega) (by omega) (by omega) (by omega) hp hu, b5 (x - 1) i u p (by omega) (by omega) (by omega) (by omega) hu hp⟩
            exact O.tr (toU i p (by omega) i2 hp).1 (toU j r (by omega) j2 hr).2
      case post3 =>
        rintro c st3 ⟨R', m, q, rfl, b1, b2, b3, b4, b5⟩
        have hl := b1.perm.length_eq
        dsimp only
        by_cases c7 : q > 0
        · rw [if_pos c7, reverseSlice'_eq]
          refine wpS_bind (wpS_modify ?_)
          have zr := b1.rev (i := m - (q + 1)) (j := m) (by omega) (by omega)
          rw [show P.length + (m - (q + 1)) = P.length + m - (q + 1) by omega] at zr
          have fr := b4.seg (a := m - (q + 1)) (by omega) (by omega) b5
          have hl2 := zr.perm.length_eq
          generalize setArr st3 (mirror (arrOf st3) (P.length + m - (q + 1)) (P.length + m) ((P.length + m - (P.length + m - (q + 1))) / 2)) = st4 at zr ⊢
          generalize revB R' (m - (q + 1)) m = R4 at zr fr hl2
          rw [reverseSlice'_eq]
          refine wpS_bind (wpS_modify ?_)
          have z5 := zr.rev (i := 0) (j := m) (by omega) (Nat.zero_le _)
          rw [Nat.add_zero] at z5
          have r5 := fr.turn (by omega)
          generalize setArr st4 (mirror (arrOf st4) P.length (P.length + m) ((P.length + m - P.length) / 2)) = st5 at z5 ⊢
          refine wpS_bind (wpS_mono (wpS_forRange (I := fun x c st' => st' = st5 ∧ c = (none, x) ∧ RiseTo ltb (revB R4 0 m) x ∧ x ≤ R.length)
            (Q := fun c st' => st' = st5 ∧ ∃ n, c = (none, n) ∧ 1 ≤ n ∧ n ≤ R.length ∧ RiseTo ltb (revB R4 0 m) n) ?stp5 ?fin5 ⟨rfl, rfl, r5, by omega⟩) ?post5)
          case fin5 =>
            rintro c st' ⟨est, rfl, b1, b2⟩
            exact ⟨est, _, rfl, by omega, b2, b1⟩
          case post5 =>
            rintro c st' ⟨est, n5, rfl, b1, b2, b3⟩
            rw [est]
            exact wpS_pure (h _ _ n5 z5 b1 b2 b3)
          case stp5 =>
            rintro x c st' hx1 hx2 ⟨est, rfl, b1, b2⟩
            rw [est]
            dsimp only
            refine wpS_bind (z5.ask hO hS (i := x) (j := x - 1) rfl (by omega) (by rw [z5.perm.length_eq]; exact hx2) (by rw [z5.perm.length_eq]; omega) fun v u hv hu => ?_)
            dsimp only
            cases hw : ltb v u with
            | true =>
              simp only [if_true]
              exact wpS_pure ⟨rfl, x, rfl, by omega, b2, b1⟩
            | false =>
              simp only [Bool.false_eq_true, if_false]
              exact wpS_pure ⟨rfl, rfl, b1.more O (by omega) hu hv hw, by omega⟩
        · rw [if_neg c7, reverseSlice'_eq]
          refine wpS_bind (wpS_modify ?_)
          have z5 := b1.rev (i := 0) (j := m) (by omega) (Nat.zero_le _)
          rw [Nat.add_zero] at z5
          have r5 := b4.turn (by omega)
          generalize setArr st3 (mirror (arrOf st3) P.length (P.length + m) ((P.length + m - P.length) / 2)) = st5 at z5 ⊢
          refine wpS_bind (wpS_mono (wpS_forRange (I := fun x c st' => st' = st5 ∧ c = (none, x) ∧ RiseTo ltb (revB R' 0 m) x ∧ x ≤ R.length)
            (Q := fun c st' => st' = st5 ∧ ∃ n, c = (none, n) ∧ 1 ≤ n ∧ n ≤ R.length ∧ RiseTo ltb (revB R' 0 m) n) ?stp5 ?fin5 ⟨rfl, rfl, r5, by omega⟩) ?post5)
          case fin5 =>
            rintro c st' ⟨est, rfl, b1, b2⟩
            exact ⟨est, _, rfl, by omega, b2, b1⟩
          case post5 =>
            rintro c st' ⟨est, n5, rfl, b1, b2, b3⟩
            rw [est]
            exact wpS_pure (h _ _ n5 z5 b1 b2 b3)
          case stp5 =>
            rintro x c st' hx1 hx2 ⟨est, rfl, b1, b2⟩
            rw [est]
            dsimp only
            refine wpS_bind (z5.ask hO hS (i := x) (j := x - 1) rfl (by omega) (by rw [z5.perm.length_eq]; exact hx2) (by rw [z5.perm.length_eq]; omega) fun v u hv hu => ?_)
            dsimp only
            cases hw : ltb v u with
            | true =>
              simp only [if_true]
              exact wpS_pure ⟨rfl, x, rfl, by omega, b2, b1⟩
            | false =>
              simp only [Bool.false_eq_true, if_false]
              exact wpS_pure ⟨rfl, rfl, b1.more O (by omega) hu hv hw, by omega⟩
end
end L2

/-! the runs that stand, and their merging -/
namespace L2
open PySem PySem.Spec PyProof.Rows
/-- the runs' places and lengths -/
def Offs : Nat → List (List Keyed) → List (Nat × Nat × Nat) → Prop
  | _, [], [] => True
  | o, r :: rs, p :: ps => p.1 = o ∧ p.2.1 = r.length ∧ Offs (o + r.length) rs ps
  | _, _, _ => False
theorem Offs.len : ∀ {o : Nat} {rs : List (List Keyed)} {ps : List (Nat × Nat × Nat)}, Offs o rs ps → rs.length = ps.length
  | _, [], [], _ => rfl
  | _, _ :: _, _ :: _, ⟨_, _, t⟩ => congrArg (· + 1) (Offs.len t)
theorem Offs.app : ∀ {o : Nat} {rs ts : List (List Keyed)} {ps qs : List (Nat × Nat × Nat)}, Offs o rs ps → Offs (o + rs.flatten.length) ts qs → Offs o (rs ++ ts) (ps ++ qs)
  | o, [], ts, [], qs, _, h => by simpa using h
  | o, r :: rs, ts, p :: ps, qs, ⟨a, b, t⟩, h => ⟨a, b, Offs.app t (by rw [List.flatten_cons, List.length_append] at h; rw [Nat.add_assoc]; exact h)⟩
theorem Offs.split : ∀ {o : Nat} {rs ts : List (List Keyed)} {ps : List (Nat × Nat × Nat)}, Offs o (rs ++ ts) ps → ∃ p1 p2, ps = p1 ++ p2 ∧ p1.length = rs.length ∧ Offs o rs p1 ∧ Offs (o + rs.flatten.length) ts p2
  | o, [], ts, ps, h => ⟨[], ps, rfl, rfl, trivial, by simpa using h⟩
  | o, r :: rs, ts, [], h => h.elim
  | o, r :: rs, ts, p :: ps, ⟨a, b, t⟩ => by
    obtain ⟨p1, p2, rfl, e, f, g⟩ := Offs.split t
    exact ⟨p :: p1, p2, rfl, congrArg (· + 1) e, ⟨a, b, f⟩, by rw [List.flatten_cons, List.length_append, ← Nat.add_assoc]; exact g⟩
section
variable {ltb : Keyed → Keyed → Bool} {κ : SortKind}
/-- runs that rise, one behind the other, then what is left -/
structure RI (ltb : Keyed → Keyed → Bool) (κ : SortKind) (a0 : List Keyed) (st : SortSt) (rs : List (List Keyed)) (U : List Keyed) : Prop where
  kind : kindOf st = κ
  fail : failedOf st = none
  arr : (arrOf st).toList = rs.flatten ++ U
  perm : (arrOf st).toList.Perm a0
  offs : Offs 0 rs (pendingOf st).toList
  rise : ∀ r ∈ rs, r.Pairwise (leB ltb) ∧ r ≠ []
theorem flat_len : ∀ {rs : List (List Keyed)}, (∀ r ∈ rs, r ≠ []) → rs.length ≤ rs.flatten.length
  | [], _ => Nat.le_refl _
  | r :: rs, h => by
    have := flat_len (rs := rs) fun x hx => h x (List.mem_cons_of_mem _ hx)
    have l := List.length_pos_iff.mpr (h r List.mem_cons_self)
    rw [List.flatten_cons, List.length_append, List.length_cons]; omega
end
section
variable {prog : Program} {w : World} {A : Around} {E : Value → Shared → Prop} {s : Shared} {ltb : Keyed → Keyed → Bool} {S : Keyed → Prop} {κ : SortKind}
theorem two_at {α : Type} {l : List α} {i : Nat} (h : i + 1 < l.length) : ∃ pre x y post, l = pre ++ [x, y] ++ post ∧ pre.length = i := by
  refine ⟨l.take i, l[i], l[i + 1], l.drop (i + 2), ?_, by rw [List.length_take]; omega⟩
  have e1 := List.drop_eq_getElem_cons (show i < l.length by omega)
  have e2 := List.drop_eq_getElem_cons h
  conv => lhs; rw [← List.take_append_drop i l, e1, e2]
  simp
theorem wpS_mergeR (O : OrdB ltb) (hO : LtOk prog w A E s ltb S κ) {st : SortSt} {Q : Bool → SortSt → Prop} {a0 : List Keyed} {rs : List (List Keyed)} {U : List Keyed} {i : Nat} (hS : ∀ x ∈ a0, S x) (ri : RI ltb κ a0 st rs U) (hi : i + 1 < rs.length)
    (h : ∀ st' rs', RI ltb κ a0 st' rs' U → rs'.length + 1 = rs.length → rs'.flatten.length = rs.flatten.length → Q true st') : wpS (model prog w) A E s (mergeAt' i) Q st := by
  obtain ⟨pre, r1, r2, post, rfl, hpre⟩ := two_at hi
  have off := ri.offs
  rw [List.append_assoc] at off
  obtain ⟨p1, p2, ep, lp, o1, o2⟩ := off.split
  cases p2 with
  | nil => exact o2.elim
  | cons x p2 =>
    cases p2 with
    | nil => exact o2.2.2.elim
    | cons y p3 =>
      obtain ⟨x1, x2, y1, y2, o3⟩ := o2
      obtain ⟨ba, ka, pw⟩ := x
      obtain ⟨bb, kb, pv⟩ := y
      dsimp only at x1 x2 y1 y2
      have lp' : p1.length = i := by omega
      have g1 : (pendingOf st)[i]? = some (ba, ka, pw) := by
        rw [← Array.getElem?_toList, ep, List.getElem?_append_right (by omega), lp', Nat.sub_self]; rfl
      have g2 : (pendingOf st)[i + 1]? = some (bb, kb, pv) := by
        rw [← Array.getElem?_toList, ep, List.getElem?_append_right (by omega), lp', Nat.add_sub_cancel_left]; rfl
      have q1 := ri.rise r1 (by simp)
      have q2 := ri.rise r2 (by simp)
      refine wpS_mergeAt O hO (P := pre.flatten) (R1 := r1) (R2 := r2) (T := post.flatten ++ U) ri.kind ri.fail g1 g2 (by rw [ri.arr]; simp) (by omega) x2 (by omega) y2 q1.2 q2.2 q1.1 q2.1 (fun x hx => hS x (ri.perm.mem_iff.mp hx)) fun st' R s1 s2 s3 s4 s5 s6 => ?_
      have lR : R.length = r1.length + r2.length := by rw [s2.length_eq, List.length_append]
      refine h st' (pre ++ [R] ++ post) ⟨s4, s5, by rw [s3]; simp, ?_, ?_, ?_⟩ (by simp; omega) (by simp [lR]; omega)
      · rw [s3]
        refine List.Perm.trans ?_ ri.perm
        rw [ri.arr]
        have : (pre.flatten ++ R ++ (post.flatten ++ U)).Perm (pre.flatten ++ (r1 ++ r2) ++ (post.flatten ++ U)) := List.Perm.append_right _ (List.Perm.append_left _ s2)
        refine this.trans (List.Perm.of_eq (by simp))
      · have e6 : (pendingOf st').toList = p1 ++ ((ba, ka + kb, pw) :: p3) := by
          rw [s6, Array.toList_eraseIdxIfInBounds, Array.toList_setIfInBounds, ep]
          rw [List.set_append_right _ _ (by omega), lp', Nat.sub_self]
          rw [List.eraseIdx_append_of_length_le (by omega), lp', Nat.add_sub_cancel_left]
          rfl
        rw [e6, List.append_assoc]
        refine Offs.app o1 ⟨x1, by show ka + kb = R.length; omega, ?_⟩
        have e7 : 0 + pre.flatten.length + R.length = 0 + pre.flatten.length + r1.length + r2.length := by omega
        rw [e7]; exact o3
      · intro r hr
        rcases List.mem_append.mp hr with z | z
        · rcases List.mem_append.mp z with z | z
          · exact ri.rise r (by simp [z])
          · simp at z
            rw [z]
            refine ⟨s1, fun e => ?_⟩
            rw [e] at lR
            have := List.length_pos_iff.mpr q1.2
            simp at lR; omega
        · exact ri.rise r (by simp [z])
end
end L2

/-! the whole of it -/
namespace L2
open PySem PySem.Spec PyProof.Rows
theorem Offs.mod {f : Nat × Nat × Nat → Nat × Nat × Nat} (hf : ∀ p, (f p).1 = p.1 ∧ (f p).2.1 = p.2.1) : ∀ {o : Nat} {rs : List (List Keyed)} {ps : List (Nat × Nat × Nat)} (k : Nat), Offs o rs ps → Offs o rs (ps.modify k f)
  | _, [], [], k, _ => by cases k <;> exact trivial
  | o, r :: rs, p :: ps, 0, ⟨a, b, t⟩ => ⟨(hf p).1.trans a, (hf p).2.trans b, t⟩
  | o, r :: rs, p :: ps, k + 1, ⟨a, b, t⟩ => ⟨a, b, Offs.mod hf k t⟩
section
variable {ltb : Keyed → Keyed → Bool} {κ : SortKind} {a0 : List Keyed} {st : SortSt} {rs : List (List Keyed)}
theorem RI.push {run U2 : List Keyed} {lo n : Nat} (ri : RI ltb κ a0 st rs (run ++ U2)) (h1 : run.Pairwise (leB ltb)) (h2 : run ≠ []) (el : lo = rs.flatten.length) (en : n = run.length) : RI ltb κ a0 (setPending st ((pendingOf st).push (lo, n, 0))) (rs ++ [run]) U2 := by
  refine ⟨ri.kind, ri.fail, by show (arrOf st).toList = _; rw [ri.arr]; simp, ri.perm, ?_, fun r hr => ?_⟩
  · show Offs 0 _ ((pendingOf st).push _).toList
    rw [Array.toList_push]
    exact Offs.app ri.offs ⟨by show lo = 0 + _; omega, en, trivial⟩
  · rcases List.mem_append.mp hr with z | z
    · exact ri.rise r z
    · simp at z; rw [z]; exact ⟨h1, h2⟩
theorem RI.mod {U : List Keyed} (ri : RI ltb κ a0 st rs U) (pw k : Nat) : RI ltb κ a0 (setPending st ((pendingOf st).modify k fun q => (q.1, q.2.1, pw))) rs U :=
  ⟨ri.kind, ri.fail, ri.arr, ri.perm, by
    show Offs 0 rs ((pendingOf st).modify k _).toList
    rw [Array.toList_modify]
    exact Offs.mod (f := fun q => (q.1, q.2.1, pw)) (fun p => ⟨rfl, rfl⟩) k ri.offs, ri.rise⟩
end
theorem flat_snoc (rs : List (List Keyed)) (r : List Keyed) : (rs ++ [r]).flatten.length = rs.flatten.length + r.length := by simp
theorem rise_all {ltb : Keyed → Keyed → Bool} {R : List Keyed} (h : RiseTo ltb R R.length) : R.Pairwise (leB ltb) := by
  rw [List.pairwise_iff_getElem]
  intro i j hi hj hij
  exact h i j _ _ hij hj (List.getElem?_eq_getElem hi) (List.getElem?_eq_getElem hj)
theorem rise_take {ltb : Keyed → Keyed → Bool} {R : List Keyed} {n : Nat} (h : RiseTo ltb R n) (hn : n ≤ R.length) : (R.take n).Pairwise (leB ltb) := by
  apply rise_all
  intro i j x y hij hj hx hy
  rw [List.length_take] at hj
  rw [List.getElem?_take, if_pos (by omega)] at hx hy
  exact h i j x y hij (by omega) hx hy
theorem minRun_pos : ∀ (f n r : Nat), 1 ≤ n → 1 ≤ minRun' f n r
  | 0, n, r, h => by show 1 ≤ n + r; omega
  | f + 1, n, r, h => by
    rw [minRun'_succ]
    split
    · omega
    · exact minRun_pos f (n / 2) _ (by omega)
section
variable {prog : Program} {w : World} {A : Around} {E : Value → Shared → Prop} {s : Shared} {ltb : Keyed → Keyed → Bool} {S : Keyed → Prop} {κ : SortKind}
theorem wpS_sortB (O : OrdB ltb) (hO : LtOk prog w A E s ltb S κ) {st : SortSt} {Q : Unit → SortSt → Prop} {a0 : List Keyed} (hk : kindOf st = κ) (hf : failedOf st = none) (harr : (arrOf st).toList = a0) (hp : pendingOf st = #[]) (hS : ∀ x ∈ a0, S x)
    (h : ∀ st', (arrOf st').toList.Perm a0 → (arrOf st').toList.Pairwise (leB ltb) → failedOf st' = none → Q () st') : wpS (model prog w) A E s sortRuns' Q st := by
  have hN : (arrOf st).size = a0.length := by rw [← harr, Array.length_toList]
  rw [sortRuns'_eq]
  refine wpS_bind (wpS_get ?_)
  dsimp only
  rw [hN]
  have ri0 : RI ltb κ a0 st [] a0 := ⟨hk, hf, by rw [harr]; rfl, by rw [harr], by rw [hp]; exact trivial, fun r hr => by cases hr⟩
  have split : ∀ {st' rs U}, RI ltb κ a0 st' rs U → rs.flatten.length + U.length = a0.length := fun {st' rs U} ri => by
    have := ri.perm.length_eq
    rw [ri.arr, List.length_append] at this; exact this
  refine wpS_bind (wpS_mono (wpS_forRange (I := fun x c st' => ∃ rs U, c = (none, rs.flatten.length) ∧ RI ltb κ a0 st' rs U ∧ x ≤ rs.flatten.length)
    (Q := fun c st' => ∃ rs, c = (none, a0.length) ∧ RI ltb κ a0 st' rs [] ∧ rs.flatten.length = a0.length) ?stp ?fin ⟨[], a0, rfl, ri0, Nat.zero_le _⟩) ?post)
  case fin =>
    rintro c st' ⟨rs, U, rfl, ri, hx⟩
    have := split ri
    have hU : U = [] := List.length_eq_zero_iff.mp (by omega)
    subst hU
    refine ⟨rs, ?_, ri, by omega⟩
    rw [show rs.flatten.length = a0.length by omega]
  case post =>
    rintro c st1 ⟨rs, rfl, ri, hfl⟩
    dsimp only
    have hrl := flat_len (rs := rs) fun r hr => (ri.rise r hr).2
    refine wpS_bind (wpS_mono (wpS_forRange (I := fun x c st' => ∃ rs, c = (none, ()) ∧ RI ltb κ a0 st' rs [] ∧ rs.length + x ≤ a0.length)
      (Q := fun c st' => ∃ rs, c = (none, ()) ∧ RI ltb κ a0 st' rs [] ∧ rs.length ≤ 1) ?stp9 ?fin9 ⟨rs, rfl, ri, by omega⟩) ?post9)
    case fin9 =>
      rintro c st' ⟨rs, rfl, ri, hx⟩
      exact ⟨rs, rfl, ri, by omega⟩
    case post9 =>
      rintro c st' ⟨rs, rfl, ri, hl⟩
      refine wpS_pure (h st' ri.perm ?_ ri.fail)
      rw [ri.arr, List.append_nil]
      cases rs with
      | nil => exact List.Pairwise.nil
      | cons r rs =>
        have : rs = [] := by simp at hl; exact hl
        subst this
        simp
        exact (ri.rise r (by simp)).1
    case stp9 =>
      rintro x c st' _ hx ⟨rs, rfl, ri, hl⟩
      have hpl : (pendingOf st').size = rs.length := by rw [← Array.length_toList, ← ri.offs.len]
      refine wpS_bind (wpS_get ?_)
      try dsimp only
      by_cases c1 : (pendingOf st').size ≤ 1
      · rw [if_pos c1]
        exact wpS_pure ⟨rs, rfl, ri, by omega⟩
      rw [if_neg c1]
      refine wpS_bind (wpS_mergeR O hO hS ri ?_ fun st2 rs2 ri2 e1 e2 => ?_)
      · (repeat' split) <;> omega
      · simp only [Bool.not_true, Bool.false_eq_true, if_false]
        exact wpS_pure ⟨rs2, rfl, ri2, by omega⟩
  case stp =>
    rintro x c st1 _ hx ⟨rs, U, rfl, ri, hxl⟩
    have hsp := split ri
    dsimp only
    by_cases c1 : rs.flatten.length ≥ a0.length
    · rw [if_pos c1]
      have hU : U = [] := List.length_eq_zero_iff.mp (by omega)
      subst hU
      refine wpS_pure ⟨rs, ?_, ri, by omega⟩
      rw [show rs.flatten.length = a0.length by omega]
    rw [if_neg c1, show a0.length - rs.flatten.length = U.length by omega]
    have hSU : ∀ x ∈ U, S x := fun x hx => hS x (ri.perm.mem_iff.mp (by rw [ri.arr]; exact List.mem_append_right _ hx))
    refine wpS_bind (wpS_runB O hO (P := rs.flatten) (R := U) ri.kind ri.fail ri.arr (by omega) hSU fun st2 R' n z n1 n2 rise => ?_)
    have lR' := z.perm.length_eq
    dsimp only
    by_cases c2 : n < minRun' a0.length a0.length 0
    · rw [if_pos c2]
      refine wpS_bind (wpS_lift (wpAny_rule ⟨rfl, ?_⟩))
      have mp := minRun_pos a0.length a0.length 0 (by omega)
      generalize minRun' a0.length a0.length 0 = mr at c2 mp
      obtain ⟨fo, efo⟩ : ∃ fo, min U.length mr = fo := ⟨_, rfl⟩
      rw [efo]
      have lT : (R'.take fo).length = fo := by rw [List.length_take]; omega
      rw [show binarySort' rs.flatten.length fo n = binarySort' rs.flatten.length (R'.take fo).length n by rw [lT]]
      refine wpS_bind (wpS_binB O hO (P := rs.flatten) (R := R'.take fo) (T := R'.drop fo) z.kind z.fail (by rw [z.arr, List.append_assoc, List.take_append_drop]) (by omega) (fun i j x y hij hj hx hy => by
          rw [List.getElem?_take, if_pos (by omega)] at hx hy
          exact rise i j x y hij hj hx hy) (fun x hx => hSU x (z.perm.mem_iff.mp (List.mem_of_mem_take hx))) fun st3 R3 a1 a2 a3 a4 a5 a6 => ?_)
      simp only [Bool.not_true, Bool.false_eq_true, if_false]
      have l3 : R3.length = fo := by rw [a2.length_eq, lT]
      have r1 := rise_all a3
      have r2 : R3 ≠ [] := fun e => by rw [e] at l3; simp at l3; omega
      have rj : RI ltb κ a0 st3 rs (R3 ++ R'.drop fo) := ⟨a4, a5, by rw [a1, List.append_assoc], by
        rw [a1]
        refine List.Perm.trans ?_ ri.perm
        rw [ri.arr, List.append_assoc]
        refine List.Perm.append_left _ ((List.Perm.append_right _ a2).trans ?_)
        rw [List.take_append_drop]; exact z.perm, by rw [a6, z.pend]; exact ri.offs, ri.rise⟩
      refine wpS_bind (wpS_get ?_)
      cases hb : (pendingOf st3).back? with
      | none =>
        dsimp only
        refine wpS_bind (wpS_modify (wpS_pure ⟨rs ++ [R3], R'.drop fo, ?_, rj.push r1 r2 rfl l3.symm, ?_⟩))
        · simp [l3]
        · have := List.length_pos_iff.mpr r2
          rw [flat_snoc]; omega
      | some t =>
        obtain ⟨s1, k1, p1⟩ := t
        dsimp only
        refine wpS_bind (wpS_mono (wpS_forRange (I := fun x c st' => ∃ rs', c = (none, ()) ∧ RI ltb κ a0 st' rs' (R3 ++ R'.drop fo) ∧ rs'.flatten.length = rs.flatten.length)
          (Q := fun c st' => ∃ rs', c = (none, ()) ∧ RI ltb κ a0 st' rs' (R3 ++ R'.drop fo) ∧ rs'.flatten.length = rs.flatten.length) ?stp7 ?fin7 ⟨rs, rfl, rj, rfl⟩) ?post7)
        case fin7 =>
          rintro c st' hh
          exact hh
        case post7 =>
          rintro c st4 ⟨rs', rfl, rk, ef⟩
          dsimp only
          refine wpS_bind (wpS_modify (wpS_bind (wpS_modify (wpS_pure ⟨rs' ++ [R3], R'.drop fo, ?_, (rk.mod _ _).push r1 r2 ef.symm l3.symm, ?_⟩))))
          · simp [l3, ef]
          · have := List.length_pos_iff.mpr r2
            rw [flat_snoc]; omega
        case stp7 =>
          rintro x c st4 _ hx ⟨rs', rfl, rk, ef⟩
          have hpl : (pendingOf st4).size = rs'.length := by rw [← Array.length_toList, ← rk.offs.len]
          refine wpS_bind (wpS_get ?_)
          try dsimp only
          by_cases c5 : (pendingOf st4).size > 1
          · rw [if_pos c5]
            cases hq : (pendingOf st4)[(pendingOf st4).size - 2]? with
            | none => exact wpS_pure ⟨rs', rfl, rk, ef⟩
            | some t =>
              obtain ⟨t1, t2, t3⟩ := t
              dsimp only
              split
              · exact wpS_pure ⟨rs', rfl, rk, ef⟩
              · refine wpS_bind (wpS_mergeR O hO hS rk (by omega) fun st5 rs5 r5 e1 e2 => ?_)
                simp only [Bool.not_true, Bool.false_eq_true, if_false]
                exact wpS_pure ⟨rs5, rfl, r5, by omega⟩
          · rw [if_neg c5]
            exact wpS_pure ⟨rs', rfl, rk, ef⟩
    · rw [if_neg c2]
      have lT : (R'.take n).length = n := by rw [List.length_take]; omega
      have r1 := rise_take rise (by omega)
      have r2 : R'.take n ≠ [] := fun e => by rw [e] at lT; simp at lT; omega
      have rj : RI ltb κ a0 st2 rs (R'.take n ++ R'.drop n) := ⟨z.kind, z.fail, by rw [z.arr, List.take_append_drop], by
        rw [z.arr]
        refine List.Perm.trans ?_ ri.perm
        rw [ri.arr]
        exact List.Perm.append_left _ z.perm, by rw [z.pend]; exact ri.offs, ri.rise⟩
      refine wpS_bind (wpS_get ?_)
      cases hb : (pendingOf st2).back? with
      | none =>
        dsimp only
        refine wpS_bind (wpS_modify (wpS_pure ⟨rs ++ [R'.take n], R'.drop n, ?_, rj.push r1 r2 rfl lT.symm, ?_⟩))
        · simp [lT]
        · have := List.length_pos_iff.mpr r2
          rw [flat_snoc]; omega
      | some t =>
        obtain ⟨s1, k1, p1⟩ := t
        dsimp only
        refine wpS_bind (wpS_mono (wpS_forRange (I := fun x c st' => ∃ rs', c = (none, ()) ∧ RI ltb κ a0 st' rs' (R'.take n ++ R'.drop n) ∧ rs'.flatten.length = rs.flatten.length)
          (Q := fun c st' => ∃ rs', c = (none, ()) ∧ RI ltb κ a0 st' rs' (R'.take n ++ R'.drop n) ∧ rs'.flatten.length = rs.flatten.length) ?stp7 ?fin7 ⟨rs, rfl, rj, rfl⟩) ?post7)
        case fin7 =>
          rintro c st' hh
          exact hh
        case post7 =>
          rintro c st4 ⟨rs', rfl, rk, ef⟩
          dsimp only
          refine wpS_bind (wpS_modify (wpS_bind (wpS_modify (wpS_pure ⟨rs' ++ [R'.take n], R'.drop n, ?_, (rk.mod _ _).push r1 r2 ef.symm lT.symm, ?_⟩))))
          · simp [lT, ef]
          · have := List.length_pos_iff.mpr r2
            rw [flat_snoc]; omega
        case stp7 =>
          rintro x c st4 _ hx ⟨rs', rfl, rk, ef⟩
          have hpl : (pendingOf st4).size = rs'.length := by rw [← Array.length_toList, ← rk.offs.len]
          refine wpS_bind (wpS_get ?_)
          try dsimp only
          by_cases c5 : (pendingOf st4).size > 1
          · rw [if_pos c5]
            cases hq : (pendingOf st4)[(pendingOf st4).size - 2]? with
            | none => exact wpS_pure ⟨rs', rfl, rk, ef⟩
            | some t =>
              obtain ⟨t1, t2, t3⟩ := t
              dsimp only
              split
              · exact wpS_pure ⟨rs', rfl, rk, ef⟩
              · refine wpS_bind (wpS_mergeR O hO hS rk (by omega) fun st5 rs5 r5 e1 e2 => ?_)
                simp only [Bool.not_true, Bool.false_eq_true, if_false]
                exact wpS_pure ⟨rs5, rfl, r5, by omega⟩
          · rw [if_neg c5]
            exact wpS_pure ⟨rs', rfl, rk, ef⟩
end
end L2

/-! sorted of a list of ints of any length -/
namespace L2
open PySem PySem.Spec PyProof.Rows
def ltI (x y : Keyed) : Bool := decide (numOf x.1 < numOf y.1)
def isI (x : Keyed) : Prop := ∃ n t, x.1 = Value.int n t
theorem ordI : OrdB ltI := ⟨fun {x y} h => by
  have : numOf x.1 < numOf y.1 := of_decide_eq_true h
  exact decide_eq_false (by omega), fun {x y z} h1 h2 => by
  have a1 : ¬ numOf y.1 < numOf x.1 := of_decide_eq_false h1
  have a2 : ¬ numOf z.1 < numOf y.1 := of_decide_eq_false h2
  exact decide_eq_false (by omega)⟩
section
variable {prog : Program} {w : World} {A : Around} {E : Value → Shared → Prop} {s : Shared}
theorem ltOkI : LtOk prog w A E s ltI isI oneType' := by
  intro x y st Q hx hy hk q
  obtain ⟨n, t, e1⟩ := hx
  obtain ⟨m, u, e2⟩ := hy
  rw [lt'_eq]
  refine wpS_bind (wpS_get ?_)
  rw [hk, keyLt'_oneType, e1, e2]
  refine wpS_bind (wpS_lift (wpAny_attempt (oneLt_int ⟨rfl, wpS_pure ?_⟩)))
  have : ltI x y = decide (n < m) := by unfold ltI; rw [e1, e2]; rfl
  rw [← this]; exact q
theorem riseK {xs : Array Keyed} (h : xs.toList.Pairwise (leB ltI)) (k : Nat) (hk : k = xs.size) : SortedTo xs k := by
  intro i j hij hj
  subst hk
  rw [K_eq (by omega), K_eq hj]
  by_cases e : i = j
  · subst e; exact Int.le_refl _
  · have := List.pairwise_iff_getElem.mp h i j (by simp; omega) (by simpa using hj) (by omega)
    have q : ¬ numOf xs[j].1 < numOf xs[i].1 := by
      have := of_decide_eq_false this
      simpa using this
    omega
theorem lsort_any {a : Addr} {vs : List Value} {ns : List Int} {n : Nat} {Z : Fin → Shared → Prop} (ho : s.heap.get? a = some (seqObj "list" vs.toArray n)) (hI : IntsAre vs ns) (hv : vs.length ≤ 100000)
    (hZ : ∀ (out : Array Value) (ms : List Int), IntsAre out.toList ms → ms.Perm ns → ms.Pairwise (· ≤ ·) → Z (.done (.ret .none)) { s with heap := sortedHeap s.heap a vs out }) :
    wpAny (model prog w) A (Builtin.«list.sort» ⟨[.ref a], []⟩) Z E s := by
  by_cases h64 : vs.length < 64
  · exact list_sort_tree ho hI h64 hZ
  have hline : (100000 : Nat) < sizeLine := by decide
  have lt0 := Heap.lt_size ho
  rw [list_sort_plain]
  refine (wpAny_bind (listItems_at ho rfl ?_))
  refine (wpAny_bind (listUpdate_at ho rfl ?_ (by simp; omega)))
  obtain ⟨k1, hk1⟩ : ∃ k1, (s.heap.update a (Obj.mapSeq fun _ => #[])).get? a = some (seqObj "list" #[] k1) := ⟨_, (get?_update_seq ho (fun _ => #[]))⟩
  refine (wpAny_bind (seqEpoch_at hk1 rfl ?_))
  refine (wpAny_bind (wpAny_newTuple ?_ (by simp; omega)))
  refine (wpAny_bind (wpAny_newList ?_))
  refine (wpAny_holding ?_)
  have hk6 : (((s.heap.update a (Obj.mapSeq fun _ => #[])).push (seqObj "tuple" vs.toArray 0)).push (seqObj "list" #[] 0)).get? a = some (seqObj "list" #[] k1) := (by
    rw [Heap.get?_push_ne _ _ _ (by rw [size_push', Heap.size_update]; exact Nat.ne_of_lt (Nat.lt_succ_of_lt lt0)), Heap.get?_push_ne _ _ _ (by rw [Heap.size_update]; exact Nat.ne_of_lt lt0)]
    exact hk1)
  show wpAny (model prog w) A _ Z E { s with heap := ((s.heap.update a (Obj.mapSeq fun _ => #[])).push (seqObj "tuple" vs.toArray 0)).push (seqObj "list" #[] 0) }
  dsimp only
  have two : ¬ vs.toArray.size < 2 := by simp; omega
  rw [if_neg two, if_neg two]
  obtain ⟨v, u, r, rfl⟩ : ∃ v u r, vs = v :: u :: r := by
    cases vs with
    | nil => simp at h64
    | cons v vs => cases vs with
      | nil => simp at h64
      | cons u r => exact ⟨v, u, r, rfl⟩
  rw [keyKind_ints hI]
  refine (wpAny_bind (wpAny_pure ?_))
  have a0S : ∀ x ∈ (pairsOf (v :: u :: r)).toList, isI x := hI.intKeys
  refine wpAny_bind (wpAny_mono (wpS_sortB ordI ltOkI (st := SortSt.mk' oneType' ((v :: u :: r).toArray.zip (v :: u :: r).toArray) #[] 7 none) (a0 := (pairsOf (v :: u :: r)).toList) (Q := fun _ st' => (arrOf st').toList.Perm (pairsOf (v :: u :: r)).toList ∧ (arrOf st').toList.Pairwise (leB ltI) ∧ failedOf st' = none) rfl rfl rfl rfl a0S fun st' b1 b2 b3 => ⟨b1, b2, b3⟩) ?_ fun _ _ e => e)
  rintro ⟨⟨⟩, st'⟩ s' ⟨rfl, b1, b2, b3⟩
  dsimp only
  have hp : (arrOf st').Perm (pairsOf (v :: u :: r)) := Array.perm_iff_toList_perm.mpr b1
  have hsz := hp.size_eq
  refine (wpAny_bind (seqEpoch_at hk6 rfl ?_))
  refine wpAny_bind (listUpdate_at hk6 rfl ?_ (hsz2 := by
    rw [Array.size_map, hsz, pairsOf_size]; omega))
  rw [b3]
  simp only [bne_self_eq_false, Bool.false_eq_true, if_false]
  obtain ⟨ms, c1, c2, c3⟩ := sorted_out hI hp (riseK b2 _ hsz.symm)
  exact wpAny_pure (hZ _ ms c1 c2 c3)
theorem sorted_any {l : Addr} {vs : List Value} {ns : List Int} {Q : Value → Shared → Prop} (hl : s.heap.IsList l vs.toArray) (hI : IntsAre vs ns) (hv : vs.length ≤ 100000)
    (hQ : ∀ (out : Array Value) (ms : List Int), IntsAre out.toList ms → ms.Perm ns → ms.Pairwise (· ≤ ·) → Q (.ref (s.heap.objs.size + 1)) { s with heap := sortedAll s.heap vs out }) :
    wpAny (model prog w) A (call (.builtin "sorted") [.ref l]) Q E s := by
  have hline : (100000 : Nat) < sizeLine := by decide
  refine (Calls.call_function_entry kind_sorted plain_sorted entry_sorted (args_sorted1 _) ?_)
  unfold Builtin.«sorted»
  refine (wpAny_bind (m := checkCount "sorted" 1 1 _) (wpAny_pure ?_))
  refine (wpAny_bind (collect_list hl ?_ (by omega)))
  refine (wpAny_bind (wpAny_newList ?_ (by first | omega | (simp; omega))))
  have sz1 : ((s.heap.push (seqObj "list" #[] 0)).update s.heap.objs.size (Obj.mapSeq (· ++ vs.toArray))).objs.size = s.heap.objs.size + 1 := (by rw [Heap.size_update, size_push'])
  have at1 : (((s.heap.push (seqObj "list" #[] 0)).update s.heap.objs.size (Obj.mapSeq (· ++ vs.toArray))).push (seqObj "list" vs.toArray 0)).get? (s.heap.objs.size + 1) = some (seqObj "list" vs.toArray 0) := (by
    rw [← sz1]; exact Heap.get?_push_size _ rfl)
  show wpAny _ _ _ _ E { s with heap := ((s.heap.push (seqObj "list" #[] 0)).update s.heap.objs.size (Obj.mapSeq (· ++ vs.toArray))).push (seqObj "list" vs.toArray 0) }
  rw [sz1]
  refine wpAny_bind (wpAny_holding (wpAny_call_entry slot_list_sort ⟨_, at1, rfl⟩ entry_list_sort (lsort_any at1 hI hv fun out ms c1 c2 c3 => ⟨_, rfl, ?_⟩) (args_list_sort _)))
  exact wpAny_pure ⟨_, rfl, hQ out ms c1 c2 c3⟩
end
section
variable {X : Cx}
/-- sorted(xs) of a list of ints -/
def rSortL (K : PySem.W.Frag) : List V → Hp → VK → Prop := fun xs H Q => ∃ a ns, xs = [.ref a] ∧ SqL K H a (List.map V.int ns) ∧ ns.length ≤ 100000 ∧ ∀ ms l, ms.Perm ns → ms.Pairwise (· ≤ ·) → H l = none → Q (.ref l) (upd H l (.lst (List.map V.int ms)))
theorem call_sortL : CallR X (.builtin "sorted") (rSortL X.K) := by
  intro pins s σ H xs us Q I r h
  obtain ⟨a, ns, rfl, hq, hn, q⟩ := h
  obtain ⟨u, rfl, r1⟩ := vals1 r
  cases (show u = Value.ref a from r1)
  obtain ⟨its, rv, pl, hz⟩ := I.list hq
  have hi : IntsAre its ns := intsAre_of rv
  refine sorted_any pl.isList hi (by rw [hi.length]; exact hn) fun out ms c1 c2 c3 => ?_
  obtain ⟨e, he⟩ := sortedAll_at s.heap its out
  have hz2 : (List.map V.int ms).length ≤ sizeLine := by
    have hline : (100000 : Nat) < sizeLine := by decide
    rw [List.length_map, c2.length_eq]; omega
  exact ⟨.ref (s.heap.objs.size + 1), _, I.laid (t' := s.toks) (fun b o hb => sortedAll_old hb) (Nat.le_succ _) (o := .lst (List.map V.int ms)) ⟨hz2, out.toList, e, vals_ints c1, by simpa using he⟩, rfl, q ms _ c2 c3 (I.hok.fresh (Nat.le_succ _))⟩
theorem rd_sortL {K : PySem.W.Frag} {H : Hp} {Q : VK} {a : Addr} {ns : List Int} (h : SqL K H a (ns.map V.int)) (n : ns.length ≤ 100000) (q : ∀ (ms : List Int) (l : Addr), ms.Perm ns → ms.Pairwise (· ≤ ·) → H l = none → Q (.ref l) (upd H l (.lst (ms.map V.int)))) : rSortL K [.ref a] H Q := ⟨a, ns, rfl, h, n, q⟩
end
end L2

/-! What is never reached; list(x) within a block; zip of two lists. -/
namespace L2
open PySem PySem.Spec PyProof.Rows
/-- a statement that is never reached -/
def tDead : TS := fun _ _ _ => False
section
variable {X : Cx} {K : PySem.W.Frag}
def rListOf (K : PySem.W.Frag) : List V → Hp → VK → Prop := fun xs H Q => ∃ p ys, xs = [.ref p] ∧ (SqL K H p ys ∨ SqT K H p ys) ∧ ∀ l, H l = none → Q (.ref l) (upd H l (.lst ys))
end
section
variable {X : Cx} {K : PySem.W.Frag} {pos : Pos}
theorem pg_tupK {es : List Expr} {k : Nat} {t : TGs} {n : Nat} (h : X.K = K) (hc : X.calm = true) (hp : PGs X es t)
    (hn : (assignEach es X.env).length = n := by rfl) (hst : (assignEach es X.env).findIdx? (·.1) = none := by rfl) : PG X (.Tuple es k pos) (gTup K n t) := by subst h; exact pg_tup hc hp hn hst
end
theorem rd_aug {i : Nat} {te : TE} {ti : TIp} {D : Ends} {σ : St} {H : Hp} {x : V} (h : σ[i]? = some (some x)) (q : te σ H fun y H1 => ti x y H1 fun z H2 => D.nx (σ.set i (some z)) H2) : tAug i te ti D σ H := ⟨x, h, q⟩
section
variable {σ : St} {H : Hp} {Q : VK} {D : Ends}
theorem rd_dnewK (h : ∀ p, H p = none → Q (.ref p) (upd H p (.dK []))) : tDNewK σ H Q := h
end
/-- the pairs of the items of two lists -/
def Itz (K : PySem.W.Frag) (a b : Addr) : It :=
  ⟨fun i H => ∃ xs x ys y, SqL K H a xs ∧ xs[i]? = some x ∧ SqL K H b ys ∧ ys[i]? = some y,
   fun i H x H' => ∃ t u v, H t = none ∧ H' = upd H t (.tup [u, v]) ∧ x = .ref t ∧ (∀ xs, SqL K H a xs → xs[i]? = some u) ∧ (∀ ys, SqL K H b ys → ys[i]? = some v),
   fun i H => ∃ xs ys, SqL K H a xs ∧ SqL K H b ys ∧ (xs.length ≤ i ∨ ys.length ≤ i)⟩
theorem turn_zip {P : Program} {w : World} {K : PySem.W.Frag} {elts : List Expr} {x1} {tpos : Pos} {a1 a2 z TI TO i1 i2 : Addr} (D : ZipApart z TI TO i1 i2 a1 a2) :
    Turn P w K (.Tuple elts x1 tpos) (Itz K a1 a2) [z, TO, i1, i2, TI] z (fun i h => IsZip h z TI TO .none ∧ IsPair h TI (.ref i1) (.ref i2) ∧ (∃ a b, IsPair h TO a b) ∧ h.IsListIter i1 a1 i ∧ h.IsListIter i2 a2 i) where
  mem := by simp
  obj := fun i h st b hb => by
    obtain ⟨hz, hTI, ⟨x, y, hTO⟩, ⟨o1, e1, c1, d1⟩, ⟨o2, e2, c2, d2⟩⟩ := st
    have : b = z ∨ b = TO ∨ b = i1 ∨ b = i2 ∨ b = TI := by simpa using hb
    rcases this with rfl | rfl | rfl | rfl | rfl
    · exact ⟨_, hz, fun v q => by cases q⟩
    · exact ⟨_, hTO, fun v q => by cases q⟩
    · exact ⟨o1, e1, fun v q => by rw [d1] at q; cases q⟩
    · exact ⟨o2, e2, fun v q => by rw [d2] at q; cases q⟩
    · exact ⟨_, hTI, fun v q => by cases q⟩
  keep := fun i h h' st k => by
    obtain ⟨hz, hTI, ⟨x, y, hTO⟩, h1, h2⟩ := st
    exact ⟨k z (by simp) _ hz, k TI (by simp) _ hTI, ⟨x, y, k TO (by simp) _ hTO⟩, h1.at fun o q => k i1 (by simp) o q, h2.at fun o q => k i2 (by simp) o q⟩
  item := by
    intro X hP hw hK hc i pins s σ H E I hf st hg
    subst hP hw hK
    obtain ⟨xs, x, ys, y, hq1, hx, hq2, hy⟩ := hg
    obtain ⟨hz, hTI, ⟨ao, bo, hTO⟩, h1, h2⟩ := st
    obtain ⟨its1, rv1, p1, hz1⟩ := I.list hq1
    obtain ⟨its2, rv2, p2, hz2⟩ := I.list hq2
    obtain ⟨u, hu, ru⟩ := rv1.get hx
    obtain ⟨v, hv, rv⟩ := rv2.get hy
    have lz : z < s.heap.objs.size := Heap.lt_size hz
    have lTO : TO < s.heap.objs.size := Heap.lt_size hTO
    have lTI : TI < s.heap.objs.size := Heap.lt_size hTI
    obtain ⟨o1, e1, c1, d1⟩ := id h1
    obtain ⟨o2, e2, c2, d2⟩ := id h2
    have l1 : i1 < s.heap.objs.size := Heap.lt_size e1
    have l2 : i2 < s.heap.objs.size := Heap.lt_size e2
    have lt : ∀ b ∈ [z, TO, i1, i2, TI], b < s.heap.objs.size := fun b hb => by
      have : b = z ∨ b = TO ∨ b = i1 ∨ b = i2 ∨ b = TI := by simpa using hb
      rcases this with rfl | rfl | rfl | rfl | rfl <;> assumption
    refine wpAny_pyNext_zip_item D hz hTI hTO h1 h2 p1.isList p2.isList (x := u) (y := v) (by simpa using hu) (by simpa using hv) fun h₁ hz₁ hTO₁ hi1 hi2 hT₁ hsz₁ hk₁ => ⟨_, rfl, ?_⟩
    refine wpAny_letOwnedTupleGo_zip hz₁ fun h₂ hz₂ hs₂ => ?_
    replace hs₂ : Heap.SameBut z h₁ h₂ := hs₂
    have hnew : h₂.get? s.heap.objs.size = some { cls := .type "tuple", data := .seq #[u, v] } := (hs₂.2 _ (Nat.ne_of_gt lz)).trans hT₁
    have hkeep : ∀ b o, b ∉ [z, TO, i1, i2, TI] → s.heap.get? b = some o → h₂.get? b = some o := fun b o hb q => by
      have n1 : b ≠ z := fun e => hb (by simp [e])
      have n2 : b ≠ TO := fun e => hb (by simp [e])
      have n3 : b ≠ i1 := fun e => hb (by simp [e])
      have n4 : b ≠ i2 := fun e => hb (by simp [e])
      exact (hs₂.2 b n1).trans (hk₁ b o n1 n2 n3 n4 q)
    have free0 := I.hok.fresh (Nat.le_refl s.heap.objs.size)
    have hT : ObjOk X.prog X.w (upd H s.heap.objs.size (.tup [x, y])) h₂ s.heap.objs.size (.tup [x, y]) :=
      ⟨(by show 2 ≤ sizeLine; decide), [u, v], .cons ru (.cons rv .nil), ⟨_, hnew, rfl, _, rfl⟩⟩
    have I2 : Inv X pins σ (upd H s.heap.objs.size (.tup [x, y])) { s with heap := h₂, toks := s.toks } := I.turnedN (t' := s.toks) hkeep hf (Nat.le_refl _) hT
    refine ⟨.ref s.heap.objs.size, upd H s.heap.objs.size (.tup [x, y]), I2, rfl, ⟨s.heap.objs.size, x, y, free0, rfl, rfl, fun ys' hy' => by rw [I.list_inj hy' hq1]; exact hx, fun ys' hy' => by rw [I.list_inj hy' hq2]; exact hy⟩, ⟨hz₂, ?_, ⟨u, v, ?_⟩, ?_, ?_⟩, fun b hb => ?_⟩
    · exact hs₂.extBut _ _ D.TIz (hk₁ _ _ D.TIz D.TITO D.TIi1 D.TIi2 hTI)
    · exact hs₂.extBut _ _ D.TOz hTO₁
    · exact hi1.extBut hs₂.extBut D.i1z
    · exact hi2.extBut hs₂.extBut D.i2z
    · rw [upd_ne (Nat.ne_of_lt (lt b hb))]
      exact (hf b hb).1
  done := by
    intro X hP hw hK hc i pins s σ H E I hf st hg
    subst hP hw hK
    obtain ⟨xs, ys, hq1, hq2, hx⟩ := hg
    obtain ⟨hz, hTI, ⟨ao, bo, hTO⟩, h1, h2⟩ := st
    obtain ⟨its1, rv1, p1, hz1⟩ := I.list hq1
    obtain ⟨its2, rv2, p2, hz2⟩ := I.list hq2
    have hl1 := rv1.length
    have hl2 := rv2.length
    have hend : its1.toArray[i]? = none ∨ its2.toArray[i]? = none := by
      rcases hx with c | c
      · left; simp; omega
      · right; simp; omega
    refine wpAny_pyNext_zip_end (I.ok.hd hc) D hz hTI hTO h1 h2 p1.isList p2.isList hend fun h' eb => ⟨rfl, I.turnedL (t' := s.toks) (ch := [z, TO, i1, i2, TI]) (fun b o hb e => ?_) hf⟩
    exact eb b o (fun e => hb (by simp [e])) (fun e => hb (by simp [e])) (fun e => hb (by simp [e])) (fun e => hb (by simp [e])) e
  self := fun _ _ _ _ _ st h => wpAny_pyIter_zip st.1 h
section
variable {X : Cx} {elts : List Expr} {x1 : _} {tpos : Pos}
def iZip (K : PySem.W.Frag) (ta : TA) : TI := fun σ H R => ta σ H fun vs H1 => ∃ a b, vs = [.ref a, .ref b] ∧ (∃ xs, SqL K H1 a xs) ∧ (∃ ys, SqL K H1 b ys) ∧ R (Itz K a b) H1
theorem pi_zip {x1} {l m : Expr} {ta : TA} {p pos : Pos} (hg : Gl X "zip") (hm : X.mg "zip" = none) (ha : PA X [l, m] ta) (hs : starEach (l :: [m]) X.env = (false, eval l X.env) :: starEach [m] X.env := by rfl) (hs2 : starEach [m] X.env = [(false, eval m X.env)] := by rfl) :
    PI X (.Tuple elts x1 tpos) (.Call (.Name "zip" p) [l, m] [] pos) (iZip X.K ta) := by
  intro pins s σ H R I h
  refine Call_ (ld_blt I hg hm bt_zip (PyProof.Rows.callWith_type1 (thn (ha pos pins s σ H _ I h) fun us s1 ⟨vs, H1, I1, r1, q1⟩ => ?_) hs (by rw [hs2]; rfl)))
  obtain ⟨a, b, rfl, ⟨xs, hq⟩, ⟨ys, hq2⟩, q⟩ := q1
  obtain ⟨u, v, rfl, ru, rv⟩ := vals2 r1
  cases ru
  cases rv
  obtain ⟨its, r1', pl, hz⟩ := I1.list hq
  obtain ⟨its2, r2', pl2, hz2⟩ := I1.list hq2
  have la : a < s1.heap.objs.size := by obtain ⟨_, e, _⟩ := pl.isList; exact Heap.lt_size e
  have lb : b < s1.heap.objs.size := by obtain ⟨_, e, _⟩ := pl2.isList; exact Heap.lt_size e
  refine call_zip_2 pl.isList pl2.isList fun h' hz hTI hTO hi1 hi2 hsz hk => ?_
  refine wpAny_pyIter_zip hz ?_
  have I2 : Inv X pins σ H1 { s1 with heap := h' } := I1.kept (t' := s1.toks) hk
  refine ⟨s1.heap.objs.size + 4, [s1.heap.objs.size + 4, s1.heap.objs.size + 3, s1.heap.objs.size, s1.heap.objs.size + 1, s1.heap.objs.size + 2], _, _, H1, rfl, I2, turn_zip (zipApart_new la lb), ⟨hz, hTI, ⟨_, _, hTO⟩, hi1, hi2⟩, fun b hb => ?_, q⟩
  have hb2 : s1.heap.objs.size ≤ b := by
    have : b = s1.heap.objs.size + 4 ∨ b = s1.heap.objs.size + 3 ∨ b = s1.heap.objs.size ∨ b = s1.heap.objs.size + 1 ∨ b = s1.heap.objs.size + 2 := by simpa using hb
    rcases this with e | e | e | e | e <;> rw [e] <;> first | exact Nat.le_refl _ | exact Nat.le_add_right _ _
  exact I1.fpOk hb2 (I1.hok.fresh hb2)
end
section
variable {K : PySem.W.Frag} {H : Hp} {Q : VK} {σ : St}
theorem rd_izip {ta : TA} {R : It → Hp → Prop} (h : ta σ H fun vs H1 => ∃ a b, vs = [.ref a, .ref b] ∧ (∃ xs, SqL K H1 a xs) ∧ (∃ ys, SqL K H1 b ys) ∧ R (Itz K a b) H1) : iZip K ta σ H R := h
/-- a comprehension over the pairs of two lists that stay -/
theorem comp_zip {vs : List Str} {js : List Nat} {g : TG} {tt : TT} {te : TE} {a b : Addr} {xs zs : List V} (Pv : Nat → St → List V → Hp → Prop) (D : Addr) (hlen : xs.length = zs.length) (h0 : Pv 0 (blkSt vs js σ) [] (upd H D (.lst [])))
    (hl : ∀ i σ' ys H', i ≤ xs.length → Pv i σ' ys H' → SqL K H' a xs ∧ SqL K H' b zs)
    (hs : ∀ i x z σ' ys H' t, xs[i]? = some x → zs[i]? = some z → Pv i σ' ys H' → H' t = none → g (.ref t) σ' (upd H' t (.tup [x, z])) fun σ3 H3 => tt σ3 H3 fun b H4 => if b = true then te σ3 H4 fun y H5 => H5 D = some (.lst ys) ∧ ys.length < sizeLine ∧ Pv (i + 1) σ3 (ys ++ [y]) (upd H5 D (.lst (ys ++ [y]))) else Pv (i + 1) σ3 ys H4)
    (hd : ∀ σ' ys H', Pv xs.length σ' ys H' → Q (.ref D) H') : CompW (Itz K a b) vs js σ g tt te Q D H := by
  refine ⟨fun i m σ' ys H' => m = xs.length - i ∧ i ≤ xs.length ∧ Pv i σ' ys H', ⟨xs.length, by simp, Nat.zero_le _, h0⟩, ?_⟩
  rintro i m σ' ys H' ⟨rfl, hi, p⟩
  obtain ⟨q1, q2⟩ := hl i σ' ys H' hi p
  by_cases hlt : i < xs.length
  · refine .inr ⟨⟨xs, xs[i], zs, zs[i], q1, by simp [hlt], q2, by simp [hlen ▸ hlt]⟩, Pv (i + 1), fun σ2 zs H2 p' => ⟨xs.length - (i + 1), by omega, rfl, hlt, p'⟩, fun x H2 y => ?_⟩
    obtain ⟨t, u, v, nt, rfl, rfl, y1, y2⟩ := y
    exact hs i u v σ' ys _ t (y1 xs q1) (y2 zs q2) p nt
  · have e : i = xs.length := by omega
    subst e
    exact .inl ⟨⟨xs, zs, q1, q2, .inl (Nat.le_refl _)⟩, hd σ' ys H' p⟩
end
end L2

/-! sorted(xs, key=f) of a list of ints, f a function that tells ints -/
namespace L2
open PySem PySem.Spec PyProof.Rows
section
variable {X : Cx} {pins : List (Addr × Obj)} {σ : St} {H : Hp} {s : Shared} {h' : Heap}
/-- untracked records of ours have turned, and one of them is tracked from now on -/
theorem Inv.adopt {t' : Nat} {ch : List Addr} {a : Addr} {o : HO} (I : Inv X pins σ H s) (k : ∀ b o, b ∉ ch → s.heap.get? b = some o → h'.get? b = some o) (f : ∀ b ∈ ch, FpOk X pins H b)
    (ha : a ∈ ch) (new : ObjOk X.prog X.w (upd H a o) h' a o) : Inv X pins σ (upd H a o) { s with heap := h', toks := t' } := by
  have nit : ∀ b u, H b = some u → b ∉ ch := fun b u e z => by rw [(f b z).1] at e; cases e
  have hn := (f a ha).1
  have up : ∀ b u, H b = some u → upd H a o b = some u := fun b u q => by rw [upd_ne (ne_of_none q hn)]; exact q
  refine I.step (g' := s.gens) (d' := s.drawn) (ch := ch) (fun b hb => ?_) (fun b o _ _ hc e _ => k b o hc e) (fun b o _ _ hc e _ => ⟨o.slots, k b o hc e⟩) (fun b ob hc e n => by rw [upd_ne (show b ≠ a from fun z => hc (by rw [z]; exact ha))]; exact n) (fun b o hc e => ⟨o, k b o hc e⟩) (fun b xs e => up _ _ e) (fun b ob u e => up _ _ e)
    (fun b ps e => ⟨#[], by rw [up _ _ e]; simp⟩) (fun m hm => ?_) (fun b u e => ?_) I.bare
  · obtain ⟨f0, f1, f2, f3, f4, f5⟩ := f b hb
    exact ⟨f3, f1, f4, f5⟩
  · obtain ⟨o, es, ep, ho, r⟩ := hm
    exact ⟨o, es, ep, k _ o (fun z => (f _ z).2.1 rfl) ho, r⟩
  · by_cases hb : b = a
    · subst hb; rw [upd_same] at e; cases e; exact new
    · rw [upd_ne hb] at e
      refine (I.hok b u e).stay (fun c v hc q => k c v ?_ q) (fun c q => up _ _ q) fun c xs q => up _ _ q
      rcases hc with z | z
      · rw [z]; exact nit b u e
      · exact nit c _ z
theorem key_out {vs : List Value} {ns : List Int} {κ : Int → Int} {out : List Value} (hI : IntsAre vs ns) (h : KskOut false (ns.map κ) vs out) : ∃ ms, IntsAre out ms ∧ ms.Perm ns ∧ ms.Pairwise (fun x y => κ x ≤ κ y) := by
  obtain ⟨ps, h1, h2, h3⟩ := h
  have en : ns = vs.map numOf := by rw [← hI.nums]
  have mem : ∀ p ∈ ps, (∃ n t, p.2 = Value.int n t) ∧ p.1 = κ (numOf p.2) := fun p hp => by
    have hz := h1.mem_iff.mp hp
    rw [en, List.map_map] at hz
    obtain ⟨i, hi⟩ := List.getElem?_of_mem hz
    rw [List.getElem?_zip_eq_some, List.getElem?_map] at hi
    obtain ⟨e1, e2⟩ := hi
    rw [e2] at e1
    exact ⟨hI.all _ (List.mem_of_getElem? e2), (Option.some.inj e1).symm⟩
  have hall : ∀ v ∈ out, ∃ a t, v = Value.int a t := fun v hv => by
    rw [h2] at hv
    obtain ⟨p, hp, rfl⟩ := List.mem_map.mp hv
    exact (mem p hp).1
  refine ⟨out.map numOf, ?_, ?_, ?_⟩
  · have := intsAre_ofList out hall
    rw [← this.nums] at this
    exact this
  · rw [h2, List.map_map]
    have := h1.map (fun p : Int × Value => numOf p.2)
    refine this.trans (List.Perm.of_eq ?_)
    rw [en, List.map_map]
    refine List.ext_getElem? fun i => ?_
    rw [List.getElem?_map, List.getElem?_map]
    cases e : vs[i]? with
    | none =>
      have : ((vs.map (κ ∘ numOf)).zip vs)[i]? = none := by
        rw [List.getElem?_eq_none_iff] at e ⊢
        rw [List.length_zip, List.length_map]; omega
      rw [this]; rfl
    | some v =>
      have : ((vs.map (κ ∘ numOf)).zip vs)[i]? = some (κ (numOf v), v) := by
        rw [List.getElem?_zip_eq_some, List.getElem?_map, e]
        exact ⟨rfl, rfl⟩
      rw [this]; rfl
  · rw [h2, List.map_map, List.pairwise_map]
    refine h3.imp_of_mem fun {p q} hp hq h => ?_
    show κ (numOf p.2) ≤ κ (numOf q.2)
    rw [← (mem p hp).2, ← (mem q hq).2]
    simpa using h
variable {A : Around} {E : Value → Shared → Prop}
set_option maxHeartbeats 1000000 in
/-- list.sort with a key, over a list of our own that isn't tracked yet -/
theorem lsort_key {a : Addr} {vs : List Value} {ns : List Int} {n : Nat} {f : Value} {κ : Int → Int} {Z : Fin → Shared → Prop} (I : Inv X pins σ H s) (ho : s.heap.get? a = some (seqObj "list" vs.toArray n)) (hfa : FpOk X pins H a) (hI : IntsAre vs ns) (hv : vs.length ≤ 100000)
    (turn : ∀ (z : Int) (t : Tok) (pins' : List (Addr × Obj)) (s' : Shared), z ∈ ns → Inv X pins' σ H s' → wpAny (model X.prog X.w) A (call f [.int z t]) (fun r s'' => (∃ t', r = .int (κ z) t') ∧ Inv X pins' σ H s'') (fun _ _ => False) s')
    (hZ : ∀ (s' : Shared) (ms : List Int), ms.Perm ns → ms.Pairwise (fun x y => κ x ≤ κ y) → Inv X pins σ (upd H a (.lst (ms.map V.int))) s' → Z (.done (.ret .none)) s') :
    wpAny (model X.prog X.w) A (ksk_tree a f false) Z E s := by
  have hline : (100000 : Nat) < sizeLine := by decide
  have lt0 := Heap.lt_size ho
  obtain ⟨e1, ho1⟩ : ∃ e1, (s.heap.update a (Obj.mapSeq fun _ => (#[] : Array Value))).get? a = some (seqObj "list" #[] e1) := ⟨_, get?_update_seq ho fun _ => #[]⟩
  have hkS : ((s.heap.update a (Obj.mapSeq fun _ => (#[] : Array Value))).push (seqObj "tuple" vs.toArray 0)).objs.size = s.heap.objs.size + 1 := by rw [size_push', Heap.size_update]
  unfold ksk_tree
  refine wpAny_bind (listItems_at ho rfl ?_)
  refine wpAny_bind (listUpdate_at ho rfl ?_ (by rw [List.size_toArray]; omega) (Nat.zero_le _))
  refine wpAny_bind (seqEpoch_at ho1 rfl ?_)
  refine wpAny_bind (wpAny_newTuple ?_ (by show vs.length ≤ _; omega))
  refine wpAny_bind (wpAny_newList ?_ (Nat.zero_le _))
  refine wpAny_holding ?_
  have sb := Heap.SameBut.update s.heap a (Obj.mapSeq fun _ => (#[] : Array Value))
  have I1 : Inv X pins σ H { s with heap := ((s.heap.update a (Obj.mapSeq fun _ => (#[] : Array Value))).push (seqObj "tuple" vs.toArray 0)).push (seqObj "list" #[] 0) } :=
    I.turnedL (t' := s.toks) (ch := [a]) (fun b o hb e => Heap.get?_push_of_some _ (Heap.get?_push_of_some _ ((sb.2 b (fun z => hb (by simp [z]))).trans e))) fun b hb => by rw [List.mem_singleton.mp hb]; exact hfa
  generalize hkk : ((s.heap.update a (Obj.mapSeq fun _ => (#[] : Array Value))).push (seqObj "tuple" vs.toArray 0)).objs.size = kS at hkS
  have hk1 : (((s.heap.update a (Obj.mapSeq fun _ => (#[] : Array Value))).push (seqObj "tuple" vs.toArray 0)).push (seqObj "list" #[] 0)).get? kS = some (seqObj "list" #[] 0) := by rw [← hkk]; exact Heap.get?_push_size _ rfl
  have ha1 : (((s.heap.update a (Obj.mapSeq fun _ => (#[] : Array Value))).push (seqObj "tuple" vs.toArray 0)).push (seqObj "list" #[] 0)).get? a = some (seqObj "list" #[] e1) := Heap.get?_push_of_some _ (Heap.get?_push_of_some _ ho1)
  have ka : kS ≠ a := by rw [hkS]; exact Nat.ne_of_gt (Nat.lt_succ_of_lt lt0)
  have hfk : FpOk X pins H kS := by
    have hle : s.heap.objs.size ≤ kS := by rw [hkS]; exact Nat.le_succ _
    exact I.fpOk hle (I.hok.fresh hle)
  clear hkk hkS
  generalize hs1 : ({ s with heap := ((s.heap.update a (Obj.mapSeq fun _ => (#[] : Array Value))).push (seqObj "tuple" vs.toArray 0)).push (seqObj "list" #[] 0) } : Shared) = s1 at I1
  have hk1 : s1.heap.get? kS = some (seqObj "list" #[] 0) := by rw [← hs1]; exact hk1
  have ha1 : s1.heap.get? a = some (seqObj "list" #[] e1) := by rw [← hs1]; exact ha1
  clear hs1 sb ho1 I
  have fp2 : ∀ b ∈ [kS, a], FpOk X pins H b := fun b hb => by
    have : b = kS ∨ b = a := by simpa using hb
    rcases this with rfl | rfl <;> assumption
  unfold ksk_rest
  refine wpAny_bind (wpAny_rule ?_)
  first
    | rw [List.forIn_toArray]
    | (rw [← Array.forIn_toList]; simp only [List.toList_toArray])
    | rw [← Array.forIn_toList]
  refine wpAny_bind (ksk_fold (fun i s' => Inv X pins σ H s' ∧ ∃ kA e, s'.heap.get? kS = some (seqObj "list" kA e) ∧ s'.heap.get? a = some (seqObj "list" #[] e1) ∧ IntsAre kA.toList ((ns.map κ).take i)) vs 0 s1 ⟨I1, #[], 0, hk1, ha1, by simpa using IntsAre.nil⟩ ?step ?done)
  case step =>
    rintro j x s' hx ⟨I', kA, e, hk, ha, hks⟩
    simp only [Nat.zero_add] at hks ⊢
    have hj : j < vs.length := (List.getElem?_eq_some_iff.mp hx).1
    have en : ns = vs.map numOf := by rw [← hI.nums]
    obtain ⟨z, t, rfl⟩ := hI.all x (List.mem_of_getElem? hx)
    have hz : ns[j]? = some z := by rw [en, List.getElem?_map, hx]; rfl
    have hzs : kA.size ≤ vs.length := by
      have h1 := hks.length
      rw [Array.length_toList, List.length_take] at h1
      omega
    have Ip := I'.pinned (fp := [kS, a]) fp2 fun b hb => by
      have : b = kS ∨ b = a := by simpa using hb
      rcases this with rfl | rfl
      · exact ⟨_, hk, fun v q => by cases q⟩
      · exact ⟨_, ha, fun v q => by cases q⟩
    refine wpAny_bind (wpAny_attempt (wpAny_mono (turn z t _ s' (List.mem_of_getElem? hz) Ip) (fun v s'' he => ?_) fun _ _ hF => hF.elim))
    obtain ⟨⟨t2, rfl⟩, I2⟩ := he
    have gk : s''.heap.get? kS = some (seqObj "list" kA e) := (I2.pin (kS, _) (List.mem_append_right _ (List.mem_append_right _ (mem_pinsAt (by simp) hk)))).1
    have ga : s''.heap.get? a = some (seqObj "list" #[] e1) := (I2.pin (a, _) (List.mem_append_right _ (List.mem_append_right _ (mem_pinsAt (by simp) ha)))).1
    try dsimp only
    obtain ⟨c2, hc2⟩ : ∃ c2, (s''.heap.update kS (Obj.mapSeq (·.push (.int (κ z) t2)))).get? kS = some (seqObj "list" (kA.push (.int (κ z) t2)) c2) := ⟨_, get?_update_seq gk (·.push (.int (κ z) t2))⟩
    have s1' := Heap.SameBut.update s''.heap kS (Obj.mapSeq (·.push (.int (κ z) t2)))
    have ek : (ns.map κ).take (j + 1) = (ns.map κ).take j ++ [κ z] := by
      rw [List.take_add_one, List.getElem?_map, hz]; simp
    have ea : (kA.push (Value.int (κ z) t2)).toList = kA.toList ++ [Value.int (κ z) t2] := by simp
    refine wpAny_bind (listUpdate_at gk rfl ?_ (by omega) (Nat.le_trans (Nat.le_of_eq (Array.size_push ..)) (by omega)))
    refine wpAny_pure ⟨rfl, I2.unpinned.turnedL (t' := s''.toks) (ch := [kS]) (fun b o hb e => (s1'.2 b (fun z => hb (by simp [z]))).trans e) (fun b hb => by rw [List.mem_singleton.mp hb]; exact hfk), _, c2, hc2, (s1'.2 a ka.symm).trans ga, by rw [ea, ek]; exact ksk_snoc hks⟩
  case done =>
    rintro s' ⟨I', kA, e, hk, ha, hks⟩
    have en : ns = vs.map numOf := by rw [← hI.nums]
    have nl : ns.length = vs.length := by rw [en, List.length_map]
    have e3 : (ns.map κ).take (0 + vs.length) = ns.map κ := List.take_of_length_le (by rw [List.length_map]; omega)
    rw [e3] at hks
    have hsz : kA.size = vs.length := by
      have h1 := hks.length
      rw [Array.length_toList, List.length_map] at h1
      omega
    have hzs : (kA.zip vs.toArray).size = vs.length := by rw [Array.size_zip, hsz, List.size_toArray, Nat.min_self]
    refine wpAny_bind (listItems_at hk rfl ?_)
    unfold ksk_end
    try dsimp only
    -- how it ends, once sorted
    have tail : ∀ st : SortSt, (arrOf st).Perm (kA.zip vs.toArray) → SortedTo (arrOf st) (arrOf st).size → failedOf st = none → wpAny (model X.prog X.w) A (ksk_tail a false e1 (.ref kS) st) Z E s' := fun st hp hs hfl => by
      have hsz2 : (arrOf st).size = vs.length := by rw [hp.size_eq, hzs]
      have hout : ((arrOf st).map (·.2)).size = vs.length := by rw [Array.size_map]; exact hsz2
      obtain ⟨ms, m1, m2, m3⟩ := key_out hI (by have := ksk_out (b := false) hks hp hs; simpa using this)
      have s1' := Heap.SameBut.update s'.heap kS (Obj.mapSeq fun _ => (#[] : Array Value))
      have na1 : (s'.heap.update kS (Obj.mapSeq fun _ => (#[] : Array Value))).get? a = some (seqObj "list" #[] e1) := (s1'.2 a ka.symm).trans ha
      have s2' := Heap.SameBut.update (s'.heap.update kS (Obj.mapSeq fun _ => (#[] : Array Value))) a (Obj.mapSeq fun _ => (arrOf st).map (·.2))
      obtain ⟨c2, hc2⟩ : ∃ c2, ((s'.heap.update kS (Obj.mapSeq fun _ => (#[] : Array Value))).update a (Obj.mapSeq fun _ => (arrOf st).map (·.2))).get? a = some (seqObj "list" ((arrOf st).map (·.2)) c2) := ⟨_, get?_update_seq na1 fun _ => (arrOf st).map (·.2)⟩
      have IA : Inv X pins σ (upd H a (.lst (ms.map V.int))) { s' with heap := (s'.heap.update kS (Obj.mapSeq fun _ => (#[] : Array Value))).update a (Obj.mapSeq fun _ => (arrOf st).map (·.2)), toks := s'.toks } := by
        refine I'.adopt (ch := [kS, a]) (fun b o hb q => ?_) fp2 (by simp) ?_
        · exact (s2'.2 b (fun z => hb (by simp [z]))).trans ((s1'.2 b (fun z => hb (by simp [z]))).trans q)
        · have m1' : IntsAre ((arrOf st).map (fun x => x.2)).toList ms := by rw [Array.toList_map]; exact m1
          refine ⟨by rw [List.length_map, m2.length_eq, nl]; omega, ((arrOf st).map (fun x => x.2)).toList, c2, vals_ints m1', ?_⟩
          rw [Array.toArray_toList]
          exact hc2
      generalize hh9 : (s'.heap.update kS (Obj.mapSeq fun _ => (#[] : Array Value))).update a (Obj.mapSeq fun _ => (arrOf st).map (·.2)) = h9 at IA
      unfold ksk_tail
      try dsimp only
      refine wpAny_bind (listUpdate_at hk rfl ?_ (by rw [hsz]; omega) (Nat.zero_le _))
      refine wpAny_bind (wpAny_letGo ?_)
      refine wpAny_bind (seqEpoch_at na1 rfl ?_)
      refine wpAny_bind (listUpdate_at na1 rfl ?_ (Nat.zero_le _) (Nat.le_trans (Nat.le_of_eq (by simpa using hout)) (Nat.le_succ_of_le (Nat.le_of_lt (Nat.lt_of_le_of_lt hv hline)))))
      rw [hfl]
      simp only [bne_self_eq_false, Bool.false_eq_true, if_false]
      rw [hh9]
      exact wpAny_pure (hZ _ ms m2 m3 IA)
    by_cases h2 : vs.toArray.size < 2
    · rw [if_neg (by decide), if_pos h2, if_pos h2]
      refine wpAny_bind (wpAny_pure ?_)
      rw [StateT.run_pure]
      refine wpAny_bind (wpAny_pure ?_)
      try dsimp only
      refine tail (SortSt.mk' general' (kA.zip vs.toArray) #[] 7 none) (Array.Perm.refl _) ?_ rfl
      intro i j hij hj
      have hj2 : j < (kA.zip vs.toArray).size := hj
      rw [hzs] at hj2
      rw [List.size_toArray] at h2
      have : i = j := by omega
      subst this
      exact Int.le_refl _
    · rw [if_neg (by decide), if_neg h2, if_neg h2]
      rw [List.size_toArray] at h2
      rw [ksk_kind hks (by rw [hsz]; omega)]
      refine wpAny_bind (wpAny_pure ?_)
      have a0S : ∀ x ∈ (kA.zip vs.toArray).toList, isI x := ksk_intKeys hks
      refine wpAny_bind (wpAny_mono (wpS_sortB ordI ltOkI (st := SortSt.mk' oneType' (kA.zip vs.toArray) #[] 7 none) (a0 := (kA.zip vs.toArray).toList) (Q := fun _ st' => (arrOf st').toList.Perm (kA.zip vs.toArray).toList ∧ (arrOf st').toList.Pairwise (leB ltI) ∧ failedOf st' = none) rfl rfl rfl rfl a0S fun st' b1 b2 b3 => ⟨b1, b2, b3⟩) ?_ fun _ _ e => e)
      rintro ⟨⟨⟩, st'⟩ s'' ⟨rfl, b1, b2, b3⟩
      try dsimp only
      exact tail st' (Array.perm_iff_toList_perm.mpr b1) (riseK b2 _ rfl) b3
end
section
variable {prog : Program} {w : World} {A : Around} {E : Value → Shared → Prop} {s : Shared}
end
section
variable {X : Cx} {pins : List (Addr × Obj)} {σ : St} {H : Hp} {s : Shared} {E : Value → Shared → Prop}
/-- what is left of sorted, the items being at hand -/
theorem sorted_tail {vs : List Value} {ns : List Int} {f : Addr} {κ : Int → Int} {Z : Fin → Shared → Prop} (I : Inv X pins σ H s) (hI : IntsAre vs ns) (hv : vs.length ≤ 100000)
    (turn : ∀ (z : Int) (t : Tok) (pins' : List (Addr × Obj)) (s' : Shared), z ∈ ns → Inv X pins' σ H s' → wpAny (model X.prog X.w) X.A.in1.in1 (call (.ref f) [.int z t]) (fun r s'' => (∃ t', r = .int (κ z) t') ∧ Inv X pins' σ H s'') (fun _ _ => False) s')
    (hZ : ∀ (s' : Shared) (l : Addr) (ms : List Int), H l = none → ms.Perm ns → ms.Pairwise (fun x y => κ x ≤ κ y) → Inv X pins σ (upd H l (.lst (ms.map V.int))) s' → Z (.done (.ret (.ref l))) s') :
    wpAny (model X.prog X.w) X.A.in1 (do
      let l ← newList vs
      let _ ← holding [l] (call (.builtin "list.sort") [l] [(Str.ofString "key", .ref f)])
      ret l) Z E s := by
  have hline : (100000 : Nat) < sizeLine := by decide
  refine wpAny_bind (wpAny_newList ?_ (by omega))
  have at1 : (s.heap.push (seqObj "list" vs.toArray 0)).get? s.heap.objs.size = some (seqObj "list" vs.toArray 0) := Heap.get?_push_size _ rfl
  have I1 : Inv X pins σ H { s with heap := s.heap.push (seqObj "list" vs.toArray 0) } := I.kept (t' := s.toks) fun b o e => Heap.get?_push_of_some _ e
  have hfa := I.fpOk (Nat.le_refl _) (I.hok.fresh (Nat.le_refl _))
  refine wpAny_bind (wpAny_holding (wpAny_call_entry_kw slot_list_sort ⟨_, at1, rfl⟩ entry_list_sort ?body (ksk_l1 _ _)))
  case body =>
    show wpAny (model X.prog X.w) X.A.in1.in1 (Builtin.«list.sort» ⟨[.ref s.heap.objs.size], [(Str.ofString "key", .ref f)]⟩) _ _ _
    rw [ksk_t1]
    refine lsort_key I1 at1 hfa hI hv turn fun s' ms m1 m2 I2 => ⟨_, rfl, wpAny_pure (hZ s' _ ms (I.hok.fresh (Nat.le_refl _)) m1 m2 I2)⟩
end
section
variable {X : Cx} {e : Expr} {t : TA} {y : Str} {ps : List Str} {k : Nat} {sp : Sp} {p p2 kpos pos : Pos}
def tSortK (K : PySem.W.Frag) (sp : Sp) (t : TA) : TE := fun σ H Q => t σ H fun vs H1 => ∃ (a : Addr) (ns : List Int) (κ : Int → Int), vs = [.ref a] ∧ (SqL K H1 a (ns.map V.int) ∨ ∃ j : Int, H1 a = some (.rng 0 j) ∧ 0 ≤ j ∧ ns = upN j.toNat) ∧ ns.length ≤ 100000 ∧
  (∀ z ∈ ns, ∀ R : VK, R (.int (κ z)) H1 → sp [.int z] H1 R E0) ∧ ∀ (ms : List Int) (l : Addr), ms.Perm ns → ms.Pairwise (fun x y => κ x ≤ κ y) → H1 l = none → Q (.ref l) (upd H1 l (.lst (ms.map V.int)))
end
section
variable {X : Cx}
/-- xs += ys: the left one is written -/
def ipCat : TIp := fun x y H Q => ∃ l b xs zs, x = .ref l ∧ y = .ref b ∧ H l = some (.lst xs) ∧ H b = some (.lst zs) ∧ xs.length + zs.length ≤ sizeLine ∧ Q (.ref l) (upd H l (.lst (xs ++ zs)))
/-- x is True, x is False -/
def rIsB : R2 := fun x y H Q => ∃ a b, x = .bl a ∧ y = .bl b ∧ Q (.bl (decide (a = b))) H
end
end L2

/-! a lambda within a def: made, called; its code's place in the def's table -/
namespace L2
open PySem PySem.Spec PyProof.Rows

/-- the code that was made of a lambda, at its place -/
def CodeO (c : Addr) (qual : Str) : HO := .ext fun h => h.CodeRec (.ref c) qual
/-- a function made in a def -/
def FnO (f : Addr) (o : Obj) : HO := .ext fun h => h.get? f = some o
/-- the def's table: the lambda at pos wasn't made yet, or its code stands at a tracked place -/
def Tb (P : Addr) (pos : Pos) (qual : Str) (H : Hp) : Prop :=
  ∃ ps : Array Value, H P = some (.tbl ps) ∧ TriplesOk ps.toList ∧ (codeAmong pos ps.toList = none ∨ ∃ c, codeAmong pos ps.toList = some (.ref c) ∧ H c = some (CodeO c qual))
/-- all that was tracked is as it was, tables apart -/
structure Sm (H H' : Hp) : Prop where
  nt : ∀ b o, H b = some o → (∀ ps, o ≠ .tbl ps) → H' b = some o
  tb : ∀ b ps, H b = some (.tbl ps) → ∃ ps', H' b = some (.tbl ps')
theorem Sm.refl (H : Hp) : Sm H H := ⟨fun _ _ h _ => h, fun _ ps h => ⟨ps, h⟩⟩
theorem Sm.trans {H H1 H2 : Hp} (a : Sm H H1) (b : Sm H1 H2) : Sm H H2 := ⟨fun c o h n => b.nt c o (a.nt c o h n) n, fun c ps h => by
  obtain ⟨ps', e⟩ := a.tb c ps h
  exact b.tb c ps' e⟩
theorem Same.sm {H H1 : Hp} (a : Same H H1) : Sm H H1 := ⟨fun c o h _ => a c o h, fun c ps h => ⟨ps, a _ _ h⟩⟩
theorem Sm.lst {H H1 : Hp} (a : Sm H H1) {b : Addr} {xs : List V} (h : H b = some (.lst xs)) : H1 b = some (.lst xs) := a.nt _ _ h fun _ => nofun
theorem Sm.tup {H H1 : Hp} (a : Sm H H1) {b : Addr} {xs : List V} (h : H b = some (.tup xs)) : H1 b = some (.tup xs) := a.nt _ _ h fun _ => nofun
theorem Sm.free {H H' : Hp} (e : Sm H H') {l : Addr} (h : H' l = Option.none) : H l = Option.none := by
  cases q : H l with
  | none => rfl
  | some o =>
    by_cases t : ∃ ps, o = .tbl ps
    · obtain ⟨ps, rfl⟩ := t
      obtain ⟨ps', z⟩ := e.tb _ _ q
      rw [z] at h; cases h
    · rw [e.nt l o q fun ps z => t ⟨ps, z⟩] at h
      cases h
theorem Tb.same {P : Addr} {pos : Pos} {qual : Str} {H H1 : Hp} (t : Tb P pos qual H) (s : Same H H1) : Tb P pos qual H1 := by
  obtain ⟨ps, e, h1, h2⟩ := t
  refine ⟨ps, s _ _ e, h1, ?_⟩
  rcases h2 with z | ⟨c, z, hc⟩
  · exact .inl z
  · exact .inr ⟨c, z, s _ _ hc⟩
/-- another table, or a thing that is no table, changed -/
theorem Tb.keep {P : Addr} {pos : Pos} {qual : Str} {H H1 : Hp} (t : Tb P pos qual H) (s : ∀ b o, H b = some o → ((∃ ps, o = .tbl ps) ∨ o = CodeO b qual) → H1 b = some o) : Tb P pos qual H1 := by
  obtain ⟨ps, e, h1, h2⟩ := t
  refine ⟨ps, s _ _ e (.inl ⟨_, rfl⟩), h1, ?_⟩
  rcases h2 with z | ⟨c, z, hc⟩
  · exact .inl z
  · exact .inr ⟨c, z, s _ _ hc (.inr rfl)⟩

/-- the module of the built-in names, as the top leaves it -/
def BM (mg : Str → Option Value) (base : Heap) : Prop := ∃ bm o, mg "__builtins__" = some (.ref bm) ∧ bm ≠ builtinsNs ∧ base.get? bm = some o ∧ o.cls = .type "module" ∧ o.dict = some builtinsNs ∧ o.data = .plain
/-- the table of the def's code -/
def tbP (K : PySem.W.Frag) (x : Str) : Addr := match PySem.W.tabIn K x with
  | some (_, P) => P
  | none => 0
/-- what a def with a lambda leans on -/
structure Lam (K : PySem.W.Frag) (mg : Str → Option Value) (base : Heap) (x : Str) (f : Addr) (fd : FuncData) : Prop where
  bm : BM mg base
  code : ∃ c, fd.code = .ref c ∧ PySem.W.codeHdIn K c (tbP K x) = true
def tbC (K : PySem.W.Frag) (x : Str) : Addr := match PySem.W.tabIn K x with
  | some (c, _) => c
  | none => 0
theorem lam_mk {K : PySem.W.Frag} {mg : Str → Option Value} {base : Heap} {x : Str} {f c P : Addr} {fd : FuncData} {oc : Value} {od : Option Addr} {sl : Array (Option Value)} (b : BM mg base) (a : PySem.W.nsIn K mainGlobals x = some (some (.ref f))) (l : K.lookup f = some ⟨oc, od, .func fd, sl⟩)
    (t : PySem.W.tabIn K x = some (c, P)) (h : PySem.W.codeHdIn K c P = true) : Lam K mg base x f fd := by
  have e : tbP K x = P := by unfold tbP; rw [t]
  refine ⟨b, c, ?_, by rw [e]; exact h⟩
  unfold PySem.W.tabIn at t
  rw [a] at t
  simp only [l] at t
  split at t
  · rename_i c2 hc
    split at t
    · split at t
      · cases t; exact hc
      · cases t
    · cases t
  · cases t

/-- a def whose body knows its code -/
theorem Fun.okC {P : Program} {w : World} {K : PySem.W.Frag} {mg : Str → Option Value} {base : Heap} {x qual : Str} {st : Stmt} {f : Addr} {fd : FuncData} {N ps : List Str} {k : Nat} {sp : Sp} (F : Fun K x qual st f fd) (S : FnScope N ps (defScope st)) (len : ∀ vs H Q E, sp vs H Q E → vs.length = ps.length)
    (hbody : ∀ (cdv : Value) (A : Around) (outer : List Env) (s : Shared) (H : Hp) (vs : List V) (Q : VK) (E : XK), cdv = fd.code → Room k (A.deeper (envOfC qual (defScope st) s.heap.objs.size f cdv)) → sp vs H Q E →
      ∃ t, PSs (cxOf CX0 P w K mg base N qual (defScope st) f cdv A outer s H E).nox (defBody st) t ∧ t { nx := fun _ H' => Q .non H', rt := Q } (start N vs) H) : FnOk P w K mg base CX0 (k + 1) f fd ps sp := by
  obtain ⟨oc, od, kV, doc, pm, an, cdv, ct, osl, rfl, lk, hcd⟩ := F.ex
  refine fn_of lk hcd S len fun A outer s H vs Q E hr hsp => ?_
  obtain ⟨t, h, q⟩ := hbody cdv A outer s H vs Q E rfl hr hsp
  exact ⟨t, h.nox, q⟩
theorem Cal.ofC {P : Program} {w : World} {K : PySem.W.Frag} {mg : Str → Option Value} {base : Heap} {x : Str} {st : Stmt} {f : Addr} {fd : FuncData} {N ps : List Str} {k : Nat} {sp : Sp} (F : Fun K x x st f fd) (mF : mg x = some (.ref f)) (bF : Binds K fd ps []) (S : FnScope N ps (defScope st)) (len : ∀ vs H Q E, sp vs H Q E → vs.length = ps.length)
    (hbody : ∀ (cdv : Value) (A : Around) (outer : List Env) (s : Shared) (H : Hp) (vs : List V) (Q : VK) (E : XK), cdv = fd.code → Room k (A.deeper (envOfC x (defScope st) s.heap.objs.size f cdv)) → sp vs H Q E →
      ∃ t, PSs (cxOf CX0 P w K mg base N x (defScope st) f cdv A outer s H E).nox (defBody st) t ∧ t { nx := fun _ H' => Q .non H', rt := Q } (start N vs) H) : Cal P w K mg base x ps (k + 1) sp :=
  ⟨f, fd, F.okC S len hbody, bF, mF, F.kp⟩

section
variable {X : Cx} {pins : List (Addr × Obj)} {σ : St} {H : Hp} {s : Shared}
/-- a made function -/
abbrev lamObj (X : Cx) (params : Arguments) (body : Expr) (scope : Scope) (c : Addr) (ctv : Value) : Obj :=
  { cls := .type "function", data := .func (PySem.W.kla_fn "<lambda>" (X.env.qual ++ "<lambda>") params body scope (clOf X.env scope.names []) ((X.mg "__name__").getD .none) (.ref c) ctv) }
def tLam (X : Cx) (P : Addr) (params : Arguments) (body : Expr) (scope : Scope) (pos : Pos) : TE := fun σ H Q => Tb P pos (X.env.qual ++ "<lambda>") H ∧
  ∀ f c ctv H', Sm H H' → Tb P pos (X.env.qual ++ "<lambda>") H' → H f = none → H' f = some (FnO f (lamObj X params body scope c ctv)) → H' c = some (CodeO c (X.env.qual ++ "<lambda>")) → Q (.ref f) H'
theorem objOk_code {pr : Program} {w : World} {H : Hp} {h : Heap} {c : Addr} {qual : Str} (x : h.CodeRec (.ref c) qual) : ObjOk pr w H h c (CodeO c qual) := by
  refine ⟨x, ?_, fun h1 h2 y k => ?_⟩
  · obtain ⟨c', o, vs, t, e, g, _⟩ := x
    cases e; exact ⟨o, g⟩
  · obtain ⟨c', o, vs, t, e, g, r⟩ := y
    cases e
    exact ⟨c, o, vs, t, rfl, k _ g, r⟩
theorem objOk_fn {pr : Program} {w : World} {H : Hp} {h : Heap} {f : Addr} {o : Obj} (x : h.get? f = some o) : ObjOk pr w H h f (FnO f o) := ⟨x, ⟨o, x⟩, fun h1 h2 y k => k _ y⟩
theorem triples_snoc : ∀ (l : List Value) {a b : Int} {t u : Tok} {c : Value}, TriplesOk l → TriplesOk (l ++ [.int a t, .int b u, c])
  | [], _, _, _, _, _, _ => trivial
  | [_], _, _, _, _, _, h => by simp [TriplesOk] at h
  | [_, _], _, _, _, _, _, h => by simp [TriplesOk] at h
  | x :: y :: z :: r, a, b, t, u, c, h => by
    cases x with
    | int i ti =>
      cases y with
      | int j tj => exact triples_snoc r (show TriplesOk r from h)
      | _ => exact False.elim h
    | _ => exact False.elim h
/-- lambda ..: .. -/
theorem pe_lam {P c : Addr} {params : Arguments} {body : Expr} {scope : Scope} {pos : Pos} (hdef : defaultsOf params X.env = ([], [])) (hf : ∀ y ∈ scope.names, y.2 = .free → X.env.kindOf y.1 = some .cell ∨ X.env.kindOf y.1 = some .free)
    (hcode : X.env.code = .ref c) (C : PySem.W.codeHdIn X.K c P = true) (B : BM X.mg X.base) : PE X (.Lambda params body scope pos) (tLam X P params body scope pos) := by
  intro pins s σ H Q I h
  obtain ⟨⟨ps, eP, ht, hc⟩, q⟩ := h
  refine PySem.W.kla_eval hdef ?_
  have hcl : closureFor scope X.env = pure (clOf X.env scope.names []) := closure_eq fun y hy hk => I.ok.has y.1 (hf y hy hk)
  have hg : s.heap.Ns mainGlobals X.mg := I.ok.mod.glob.keeps I.bk
  have CH : PySem.W.CodeHd s.heap c P := (PySem.W.codeHd_of_K I.ok.mod.kin C).keeps I.bk
  have hP : s.heap.get? P = some (PySem.W.tabObj ps) := I.hok _ _ eP
  have hgP : mainGlobals ≠ P := fun z => by
    obtain ⟨o, es, ep, e, hd, _⟩ := hg
    rw [z, hP] at e; cases e; cases hd
  have hB : s.heap.BuiltinsAt X.mg P := by
    obtain ⟨bm, o, b1, b2, b3, b4, b5, b6⟩ := B
    refine ⟨bm, o, b1, b2, fun z => ?_, fun z => ?_, I.bk _ _ b3, b4, b5, b6⟩
    · obtain ⟨o', es, ep, e, hd, _⟩ := I.ok.mod.glob
      rw [z, e] at b3; cases b3; rw [hd] at b6; cases b6
    · have := (I.bs _ _ b3).2
      rw [z, eP] at this; cases this
  have tup_ne : ∀ {b : Addr} {o : HO}, H b = some o → (∀ ps, o ≠ .tbl ps) → b ≠ P := fun {b o} e n z => by rw [z, eP] at e; cases e; exact n _ rfl
  rcases hc with hn | ⟨c', hc', eC⟩
  · refine PySem.W.kla_makeFunction (mg := X.mg) hcl I.ok.glob hg hcode CH hP ht hn hgP hB fun c' ctv h' tk hx hge hlt hrec htb => ?_
    have lt' : s.heap.objs.size ≤ h'.objs.size := Nat.le_trans hge (Nat.le_of_lt hlt)
    have nc : H c' = none := I.hok.fresh hge
    have nf : H h'.objs.size = none := I.hok.fresh lt'
    have cf : c' ≠ h'.objs.size := Nat.ne_of_lt hlt
    have cP : c' ≠ P := fun z => by rw [z, eP] at nc; cases nc
    have fP : h'.objs.size ≠ P := fun z => by rw [z, eP] at nf; cases nf
    generalize hfa : h'.objs.size = f at cf nf fP lt' ⊢
    generalize hob : (PySem.W.kla_obj "<lambda>" (X.env.qual ++ "<lambda>") params body scope (clOf X.env scope.names []) ((X.mg "__name__").getD .none) c' ctv : Obj) = ob
    have kp : ∀ b o, b ≠ P → s.heap.get? b = some o → (h'.push ob).get? b = some o := fun b o hb e => Heap.get?_push_of_some _ (hx b o hb e)
    have gf : (h'.push ob).get? f = some ob := by rw [← hfa]; exact Heap.get?_push_size _ (by rw [← hob]; rfl)
    have gP : (h'.push ob).get? P = some (PySem.W.tabObj (ps ++ #[rawInt pos.line, rawInt pos.col, .ref c'])) := Heap.get?_push_of_some _ htb
    have gC := hrec.push ob
    generalize hH2 : upd (upd (upd H P (.tbl (ps ++ #[rawInt pos.line, rawInt pos.col, .ref c']))) c' (CodeO c' (X.env.qual ++ "<lambda>"))) f (FnO f ob) = H2
    have e2f : H2 f = some (FnO f ob) := by rw [← hH2, upd_same]
    have e2c : H2 c' = some (CodeO c' (X.env.qual ++ "<lambda>")) := by rw [← hH2, upd_ne cf, upd_same]
    have e2P : H2 P = some (.tbl (ps ++ #[rawInt pos.line, rawInt pos.col, .ref c'])) := by rw [← hH2, upd_ne (Ne.symm fP), upd_ne (Ne.symm cP), upd_same]
    have e2o : ∀ b, b ≠ P → b ≠ c' → b ≠ f → H2 b = H b := fun b h1 h2 h3 => by rw [← hH2, upd_ne h3, upd_ne h2, upd_ne h1]
    have old : ∀ b o, H b = some o → b ≠ P → H2 b = some o := fun b o e hb => by rw [e2o b hb (ne_of_none e nc) (ne_of_none e nf)]; exact e
    have sm : Sm H H2 := ⟨fun b o e n => old b o e (tup_ne e n), fun b ps' e => by
      by_cases h1 : b = P
      · exact ⟨_, by rw [h1]; exact e2P⟩
      · exact ⟨ps', old b _ e h1⟩⟩
    have hok2 : HOk X.prog X.w H2 (h'.push ob) := fun b o e => by
      by_cases h3 : b = f
      · subst h3; rw [e2f] at e; cases e; exact objOk_fn gf
      · by_cases h2 : b = c'
        · subst h2; rw [e2c] at e; cases e; exact objOk_code gC
        · by_cases h1 : b = P
          · subst h1; rw [e2P] at e; cases e; exact gP
          · rw [e2o b h1 h2 h3] at e
            refine (I.hok b o e).stay (fun c u hc g => kp c u ?_ g) (fun c z => old c _ z (tup_ne z fun _ => nofun)) fun c xs z => old c _ z (tup_ne z fun _ => nofun)
            rcases hc with z | z
            · rw [z]; exact h1
            · exact tup_ne z fun _ => nofun
    have u : Un X.fs [] H H2 s.heap (h'.push ob) := by
      have neP : ∀ b, H b = none → b ≠ P := fun b n z => by rw [z, eP] at n; cases n
      refine ⟨fun b o e n _ _ => kp b o (neP b n) e, fun b o e n _ _ => ⟨o.slots, kp b o (neP b n) e⟩, fun b o e n _ => ?_, fun b o e _ => ?_, fun b xs e => sm.nt _ _ e fun _ => nofun, fun b ob' u' e => sm.nt _ _ e fun _ => nofun, fun b ps' e => ?_⟩
      · have l := Heap.lt_size e
        rw [e2o b (neP b n) (Nat.ne_of_lt (Nat.lt_of_lt_of_le l hge)) (Nat.ne_of_lt (Nat.lt_of_lt_of_le l lt'))]; exact n
      · by_cases h1 : b = P
        · subst h1; exact ⟨_, gP⟩
        · exact ⟨o, kp b o h1 e⟩
      · by_cases h1 : b = P
        · subst h1; rw [eP] at e; cases e; exact ⟨_, e2P⟩
        · exact ⟨#[], by rw [old b _ e h1]; simp⟩
    have tb2 : Tb P pos (X.env.qual ++ "<lambda>") H2 := by
      refine ⟨_, e2P, ?_, .inr ⟨c', ?_, e2c⟩⟩
      · rw [Array.toList_append]; exact triples_snoc _ ht
      · rw [Array.toList_append]; exact codeAmong_snoc _ ht hn
    refine ⟨.ref f, H2, I.un (t' := tk) u hok2, rfl, q f c' ctv H2 sm tb2 nf ?_ e2c⟩
    rw [e2f, ← hob]
  · refine PySem.W.kla_makeFunctionHit (mg := X.mg) hcl I.ok.glob hg hcode CH hP ht hc' hB fun ctv h' tk hk hsz => ?_
    have nf : H h'.objs.size = none := I.hok.fresh hsz
    generalize hfa : h'.objs.size = f at nf hsz ⊢
    generalize hob : ({ cls := .type "function", data := .func (PySem.W.kla_fn "<lambda>" (X.env.qual ++ "<lambda>") params body scope (clOf X.env scope.names []) ((X.mg "__name__").getD .none) (.ref c') ctv) } : Obj) = ob
    have kp : ∀ b o, s.heap.get? b = some o → (h'.push ob).get? b = some o := fun b o e => Heap.get?_push_of_some _ (hk b o e)
    have gf : (h'.push ob).get? f = some ob := by rw [← hfa]; exact Heap.get?_push_size _ (by rw [← hob]; rfl)
    have sm : Same H (upd H f (FnO f ob)) := fun b o e => by rw [upd_ne (ne_of_none e nf)]; exact e
    refine ⟨.ref f, upd H f (FnO f ob), I.laid (t' := tk) kp hsz (objOk_fn gf), rfl, q f c' ctv _ sm.sm ?_ nf (by rw [upd_same, ← hob]) (sm _ _ eC)⟩
    exact Tb.same ⟨ps, eP, ht, .inr ⟨c', hc', eC⟩⟩ sm
end
end L2

/-! a lambda called; sorted by it; the law's head where a table may grow -/
namespace L2
open PySem PySem.Spec PyProof.Rows

def lamEnv (X : Cx) (scope : Scope) (L f c : Addr) : Env := PySem.W.envX (X.env.qual ++ "<lambda>") scope L f (.ref c) (clOf X.env scope.names [])
/-- the context of a lambda's body, called by sorted -/
def cxLam (X : Cx) (scope : Scope) (N : List Str) (L f c : Addr) (s : Shared) (H : Hp) : Cx :=
  { X with A := X.A.in1.in1.deeper (lamEnv X scope L f c), N := N, s₀ := s, H₀ := H, env := lamEnv X scope L f c, outer := X.stack, stack := lamEnv X scope L f c :: X.stack, ex := [], fn := fun _ => false, pn := [], xe := fun _ _ => False }
/-- what the text of a lambda must have: y its one parameter, fs the captured names -/
structure LamOk (X : Cx) (scope : Scope) (y : Str) (fs : List Str) (js : List Nat) : Prop where
  kind : scope.kind = .function
  co : scope.isCoroutine = false
  gen : scope.isGenerator = false
  cell : ∀ z ∈ scope.names, z.2 ≠ .cell
  free : ∀ z ∈ scope.names, z.2 = .free → X.env.kindOf z.1 = some .cell ∨ X.env.kindOf z.1 = some .free
  own : scope.names.lookup y = some .local
  cap : ∀ z ∈ fs, scope.names.lookup z = some .free
  ix : js.map (fun j => X.N[j]?) = fs.map some
def lamB (sc scope : Scope) (N : List Str) (y : Str) (fs : List Str) (js : List Nat) : Bool :=
  (scope.kind == .function) && !scope.isCoroutine && !scope.isGenerator && scope.names.all (fun z => z.2 != .cell) && scope.names.all (fun z => z.2 != .free || sc.names.lookup z.1 == some .cell || sc.names.lookup z.1 == some .free) &&
  (scope.names.lookup y == some .local) && fs.all (fun z => scope.names.lookup z == some .free) && (js.map (fun j => N[j]?) == fs.map some)
theorem lamOk {X : Cx} {sc scope : Scope} {N : List Str} {y : Str} {fs : List Str} {js : List Nat} (h : lamB sc scope N y fs js = true) (hs : X.env.scope = sc) (hN : X.N = N) : LamOk X scope y fs js := by
  unfold lamB at h
  simp only [Bool.and_eq_true, List.all_eq_true, beq_iff_eq, bne_iff_ne, Bool.or_eq_true, Bool.not_eq_true'] at h
  obtain ⟨⟨⟨⟨⟨⟨⟨h1, h2⟩, h3⟩, h4⟩, h5⟩, h6⟩, h7⟩, h8⟩ := h
  refine ⟨h1, h2, h3, h4, fun z hz hf => ?_, h6, h7, by rw [hN]; exact h8⟩
  unfold Env.kindOf
  rw [hs]
  rcases h5 z hz with (q | q) | q
  · exact absurd hf q
  · exact .inl q
  · exact .inr q
def lamSt (v : V) (js : List Nat) (σ : St) : St := some v :: js.map (fun j => (σ[j]?).join)

section
variable {X : Cx} {pins : List (Addr × Obj)} {σ : St} {H : Hp} {s : Shared} {scope : Scope} {y : Str} {fs : List Str} {js : List Nat}
theorem lam_start {h₁ : Heap} {tk : Nat} {f c : Addr} {v : V} {u : Value} {m : Str → Option Value} (I : Inv X pins σ H s) (B : LamOk X scope y fs js) (hn : h₁.Ns s.heap.objs.size m) (hm : m y = some u) (rv : RelV v u)
    (hk : ∀ b o, s.heap.get? b = some o → h₁.get? b = some o) : Inv (cxLam X scope (y :: fs) s.heap.objs.size f c s H) [] (lamSt v js σ) H { s with heap := h₁, toks := tk } := by
  have hasX : ∀ z ∈ scope.names, z.2 = .free → ∃ c, X.env.cells.lookup z.1 = some c := fun z hz hf => I.ok.has z.1 (B.free z hz hf)
  have snd : ∀ {z : Str} {c : Addr}, (clOf X.env scope.names []).lookup z = some c → X.env.cells.lookup z = some c := fun h => clOf_sound hasX (fun p hp => absurd hp (by simp)) h
  have noA : ∀ b : Addr, b ∉ (cxLam X scope (y :: fs) s.heap.objs.size f c s H).ex := fun b z => absurd (show b ∈ ([] : List Addr) from z) (by simp)
  have hlen : js.length = fs.length := by have := congrArg List.length B.ix; simpa using this
  refine ⟨⟨I.ok.mod, B.kind, rfl, rfl, Nat.le_refl _, fun y z c h1 h2 => I.ok.inj y z c (snd h1) (snd h2), fun z hz => ?_, fun z c q _ => absurd (show false = true from q) Bool.false_ne_true, I.ok.hd, Around.frames_deeper I.ok.frames, .inr ⟨rfl, rfl⟩, fun b z => absurd z (noA b), I.bs, Nat.le_trans I.ok.bsz I.sz, fun b _ _ => noA b, fun b z => absurd z (noA b), I.stack, I.stkFree⟩,
    rfl, I.bare, Un.kept hk, ⟨m, hn, fun i z v' h1 h2 h3 => ?_⟩, fun z c h => ?_, I.hok.fresh (Nat.le_refl _), fun z c h => I.freeC z c (snd h), fun p hp => absurd (show p ∈ ([] : List (Addr × Obj)) from hp) (by simp), I.hok.kept hk, ?_⟩
  · have hz : scope.names.lookup z = some .cell ∨ scope.names.lookup z = some .free := hz
    rcases hz with q | q
    · exact absurd rfl (B.cell _ (PySem.mem_of_lookup q))
    · exact lookup_mono_isSome (clOf_has (PySem.mem_of_lookup q))
  · cases i with
    | zero =>
      have e1 : y = z := by simpa [cxLam] using h1
      have e2 : v = v' := by simpa [lamSt] using h2
      subst e1 e2
      exact ⟨u, rv, .inl ⟨B.own, hm⟩⟩
    | succ i =>
      have h1' : fs[i]? = some z := by simpa [cxLam] using h1
      have h2' : (js[i]?).map (fun j => (σ[j]?).join) = some (some v') := by simpa [lamSt] using h2
      cases ej : js[i]? with
      | none => rw [ej] at h2'; cases h2'
      | some j =>
        rw [ej] at h2'
        have hσ : σ[j]? = some (some v') := by
          have z : (σ[j]?).join = some v' := Option.some.inj h2'
          cases q : σ[j]? with
          | none => rw [q] at z; cases z
          | some o => rw [q] at z; have z' : o = some v' := z; rw [z']
        have hNj : X.N[j]? = some z := by
          have q := congrArg (fun l => l[i]?) B.ix
          simp only [List.getElem?_map, ej, h1', Option.map_some] at q
          exact Option.some.inj q
        have hcap := B.cap z (List.mem_of_getElem? h1')
        have hmem : (z, NameKind.free) ∈ scope.names := PySem.mem_of_lookup hcap
        have hkX := B.free _ hmem rfl
        have vis : Vis X.env.scope z := by
          rcases hkX with q | q
          · exact .inr (.inl q)
          · exact .inr (.inr q)
        obtain ⟨m0, hn0, hl0⟩ := I.loc
        obtain ⟨u', r, l⟩ := hl0 j z v' hNj hσ vis
        refine ⟨u', r, .inr ⟨.inr hcap, ?_⟩⟩
        rcases l with ⟨q, _⟩ | ⟨_, c, hc, hcell⟩
        · rcases hkX with w | w <;> (rw [w] at q; cases q)
        · obtain ⟨c', hc'⟩ := lookup_mono_isSome (clOf_has (env := X.env) (cs := []) hmem)
          have e := snd hc'
          rw [hc] at e
          cases e
          exact ⟨c, hc', hcell.keeps hk⟩
  · obtain ⟨v, z⟩ := I.cell z c (snd h)
    exact ⟨v, z.keeps hk⟩
  · show (some v :: js.map _).length = (y :: fs).length
    rw [List.length_cons, List.length_cons, List.length_map, hlen]

/-- the lambda is called -/
theorem lam_run {k : Nat} {params : Arguments} {body : Expr} {f c : Addr} {ctv : Value} {te : TE} {Q : VK} {v : V} {u : Value} (B : LamOk X scope y fs js) (hr : Room (k + 3) X.A)
    (hb : ∀ (L f c : Addr) (s : Shared) (H : Hp), PE (cxLam X scope (y :: fs) L f c s H) body te)
    (hbind : ∀ (pm cv ct : Value) (u : Value), bindArgs (PySem.W.kla_fn "<lambda>" (X.env.qual ++ "<lambda>") params body scope (clOf X.env scope.names []) pm cv ct) ⟨[u], []⟩ = pure [(y, u)])
    (I : Inv X pins σ H s) (hf : H f = some (FnO f (lamObj X params body scope c ctv))) (hc : H c = some (CodeO c (X.env.qual ++ "<lambda>"))) (rv : RelV v u) (h : te (lamSt v js σ) H Q) :
    wpAny (model X.prog X.w) X.A.in1.in1 (call (.ref f) [u]) (EP X pins σ Q) (fun _ _ => False) s := by
  have ho : s.heap.get? f = some (lamObj X params body scope c ctv) := (I.hok _ _ hf).1
  have hcd : s.heap.CodeRec (.ref c) (X.env.qual ++ "<lambda>") := (I.hok _ _ hc).1
  refine wpAny_call (PySem.W.kla_callFunE hr.in1.in1.depth ho rfl B.co B.gen rfl hcd ?_)
  rw [hbind]
  refine wpAny_pure (wpAny_newFunctionEnv B.cell (by intro z hz; simp at hz; subst hz; exact B.own) (fun h₁ hns hsb => ⟨(I.nolimit).fresh _ hsb, ?_⟩) B.kind)
  have hk₁ : ∀ b o, s.heap.get? b = some o → h₁.get? b = some o := fun b o e => hsb.extBut b o (Nat.ne_of_lt (Heap.lt_size e)) (Heap.get?_push_of_some _ e)
  show codeAny _ _ (.expr body (lamEnv X scope s.heap.objs.size f c)) _ _
  refine PySem.W.kla_codeExpr ?_
  have J := lam_start (f := f) (c := c) (tk := s.toks + [(y, u)].length) I B hns (by simp) rv hk₁
  refine wpAny_mono (hb _ f c s H [] _ _ H Q J h) (fun r s' hq => ?_) (fun e s' hq => (show False from hq).elim)
  obtain ⟨x, H', J', rx, qx⟩ := hq
  exact I.after ⟨x, H', J'.os, J'.bare, J'.base, J'.hok, rx, qx⟩
end

section
variable {X : Cx} {e body : Expr} {t : TA} {te : TE} {k : Nat} {p kpos pos lpos : Pos} {params : Arguments} {scope : Scope} {y : Str} {fs : List Str} {js : List Nat} {P c : Addr}
/-- sorted(xs, key=lambda ..: ..) of ints -/
def tSortL (K : PySem.W.Frag) (P : Addr) (lpos : Pos) (qual : Str) (js : List Nat) (te : TE) (t : TA) : TE := fun σ H Q => t σ H fun vs H1 => ∃ (a : Addr) (ns : List Int) (κ : Int → Int), vs = [.ref a] ∧ SqL K H1 a (ns.map V.int) ∧ ns.length ≤ 100000 ∧ Tb P lpos qual H1 ∧
  ∀ H2, Sm H1 H2 → Tb P lpos qual H2 → (∀ z ∈ ns, ∀ R : VK, R (.int (κ z)) H2 → te (lamSt (.int z) js σ) H2 R) ∧ ∀ (ms : List Int) (l : Addr), ms.Perm ns → ms.Pairwise (fun x y => κ x ≤ κ y) → H2 l = none → Q (.ref l) (upd H2 l (.lst (ms.map V.int)))
theorem rd_sortLam {K : PySem.W.Frag} {P : Addr} {lpos : Pos} {qual : Str} {js : List Nat} {te : TE} {t : TA} {σ : St} {H : Hp} {Q : VK} (h : t σ H fun vs H1 => ∃ (a : Addr) (ns : List Int) (κ : Int → Int), vs = [.ref a] ∧ SqL K H1 a (ns.map V.int) ∧ ns.length ≤ 100000 ∧ Tb P lpos qual H1 ∧
  ∀ H2, Sm H1 H2 → Tb P lpos qual H2 → (∀ z ∈ ns, ∀ R : VK, R (.int (κ z)) H2 → te (lamSt (.int z) js σ) H2 R) ∧ ∀ (ms : List Int) (l : Addr), ms.Perm ns → ms.Pairwise (fun x y => κ x ≤ κ y) → H2 l = none → Q (.ref l) (upd H2 l (.lst (ms.map V.int)))) : tSortL K P lpos qual js te t σ H Q := h
theorem Sm.seq {K : PySem.W.Frag} {H H' : Hp} {a : Addr} {xs : List V} (e : Sm H H') (h : SqL K H a xs) : SqL K H' a xs := by
  rcases h with (h | ⟨o, h⟩) | h
  · exact .inl (.inl (e.nt _ _ h fun _ => nofun))
  · exact .inl (.inr ⟨o, e.nt _ _ h fun _ => nofun⟩)
  · exact .inr h
theorem pe_sortL (B : LamOk X scope y fs js) (hr : Room (k + 3) X.A) (hg : Gl X "sorted") (hm : X.mg "sorted" = none) (hcl : X.calm = true) (ha : PA X [e] t)
    (hdef : defaultsOf params X.env = ([], [])) (hcode : X.env.code = .ref c) (C : PySem.W.codeHdIn X.K c P = true) (BB : BM X.mg X.base)
    (hb : ∀ (L f c : Addr) (s : Shared) (H : Hp), PE (cxLam X scope (y :: fs) L f c s H) body te)
    (hbind : ∀ (pm cv ct : Value) (u : Value), bindArgs (PySem.W.kla_fn "<lambda>" (X.env.qual ++ "<lambda>") params body scope (clOf X.env scope.names []) pm cv ct) ⟨[u], []⟩ = pure [(y, u)])
    (he : backTo pos (starEach [e] X.env) = (false, eval e X.env) :: backTo pos (starEach [] X.env) := by rfl) (hpl : (backTo pos (starEach [e] X.env)).any (·.1) = false := by rfl)
    (hs : (backToKw pos (keywordEach [⟨some "key", .Lambda params body scope lpos, kpos⟩] X.env)).filterMap (·.1) = [Str.ofString "key"] := by rfl) (hall : (backToKw pos (keywordEach [⟨some "key", .Lambda params body scope lpos, kpos⟩] X.env)).all (·.1.isSome) = true := by rfl)
    (hkw : (backToKw pos (keywordEach [⟨some "key", .Lambda params body scope lpos, kpos⟩] X.env)).any (·.1.isNone) = false := by rfl) :
    PE X (.Call (.Name "sorted" p) [e] [⟨some "key", .Lambda params body scope lpos, kpos⟩] pos) (tSortL X.K P lpos (X.env.qual ++ "<lambda>") js te t) := by
  intro pins s σ H Q I h
  refine wpAny_Call_Name_kw (ld_blt I hg hm bt_sorted ?_)
  refine PyProof.Rows.callWith_kw (thn (ha pos pins s σ H _ I h) fun us s1 ⟨vs, H1, I1, r1, q1⟩ => ?_) he hpl hall hkw
  obtain ⟨a, ns, κ, rfl, hsrc, hn, tb1, q⟩ := q1
  refine thn ((pk_cons (pe_lam hdef B.free hcode C BB) pk_nil) pos pins s1 σ H1 (fun zs H2 => ∃ f c ctv, zs = [.ref f] ∧ Sm H1 H2 ∧ Tb P lpos (X.env.qual ++ "<lambda>") H2 ∧ H2 f = some (FnO f (lamObj X params body scope c ctv)) ∧ H2 c = some (CodeO c (X.env.qual ++ "<lambda>"))) I1
    ⟨tb1, fun f c ctv H2 s2 t2 _ e1 e2 => ⟨f, c, ctv, rfl, s2, t2, e1, e2⟩⟩) fun ws s2 ⟨zs, H2, I2, rz, f, c', ctv, ez, sm2, tb2, ef, ec⟩ => ?_
  subst ez
  obtain ⟨w1, rfl, rw1⟩ := vals1 rz
  cases (show w1 = Value.ref f from rw1)
  rw [hs]
  obtain ⟨hte, q⟩ := q H2 sm2 tb2
  obtain ⟨u, rfl, ru⟩ := vals1 r1
  cases (show u = Value.ref a from ru)
  show wpAny (model X.prog X.w) X.A (call (.builtin "sorted") [.ref a] [(Str.ofString "key", .ref f)]) _ _ s2
  refine call_function_entry_kw kind_sorted plain_sorted entry_sorted (ksk_s1 _ _) ?_
  unfold Builtin.«sorted»
  refine wpAny_bind (m := checkCount "sorted" 1 1 _) (wpAny_pure ?_)
  have turn : ∀ (z : Int) (t : Tok) (pins' : List (Addr × Obj)) (s' : Shared), z ∈ ns → Inv X pins' σ H2 s' → wpAny (model X.prog X.w) X.A.in1.in1 (call (.ref f) [.int z t]) (fun r s'' => (∃ t', r = .int (κ z) t') ∧ Inv X pins' σ H2 s'') (fun _ _ => False) s' := fun z t pins' s' hz I' => by
    refine wpAny_mono (lam_run (Q := fun x H' => x = .int (κ z) ∧ H' = H2) (v := .int z) B hr hb hbind I' ef ec ⟨t, rfl⟩ (hte z hz _ ⟨rfl, rfl⟩)) (fun r s'' hr' => ?_) fun _ _ e => e
    obtain ⟨x, H', I'', rx, rfl, rfl⟩ := hr'
    exact ⟨rx, I''⟩
  have hline : (100000 : Nat) < sizeLine := by decide
  have fin : ∀ (s' : Shared) (l : Addr) (ms : List Int), H2 l = none → ms.Perm ns → ms.Pairwise (fun x y => κ x ≤ κ y) → Inv X pins σ (upd H2 l (.lst (ms.map V.int))) s' → ∃ v, Fin.done (Flow.ret (.ref l)) = .done (.ret v) ∧ EP X pins σ Q v s' := fun s' l ms nl m1 m2 I' => ⟨_, rfl, .ref l, _, I', rfl, q ms l m1 m2 nl⟩
  obtain ⟨its, rv, pl, hz⟩ := I2.list (sm2.seq hsrc)
  have hi : IntsAre its ns := intsAre_of rv
  have il : its.length ≤ 100000 := by rw [hi.length]; exact hn
  refine wpAny_bind (collect_list pl.isList ?_ (by omega))
  have I3 : Inv X pins σ H2 { s2 with heap := (s2.heap.push (seqObj "list" #[] 0)).update s2.heap.objs.size (Obj.mapSeq (· ++ its.toArray)) } :=
    I2.kept (t' := s2.toks) fun b o e => by
      have hlt : b < s2.heap.objs.size := Heap.lt_size e
      rw [Heap.get?_update_ne _ _ _ _ (Nat.ne_of_lt hlt), Heap.get?_push_ne _ _ _ (Nat.ne_of_lt hlt)]
      exact e
  exact sorted_tail I3 hi il turn fin
end

section
variable {X : Cx} {a b : Expr} {rest : List Expr} {ta tb : TE} {pos : Pos}
/-- .. or .. of values -/
def tOrG (K : PySem.W.Frag) (ta tb : TE) : TE := fun σ H Q => ta σ H fun x H1 => ∃ k, TruV K x H1 k ∧ if k = true then Q x H1 else tb σ H1 Q
theorem rd_orG {K : PySem.W.Frag} {σ : St} {H : Hp} {Q : VK} (h : ta σ H fun x H1 => ∃ k, TruV K x H1 k ∧ if k = true then Q x H1 else tb σ H1 Q) : tOrG K ta tb σ H Q := h
theorem pe_orG (ha : PE X a ta) (hb : PE X (.BoolOp .Or (b :: rest) pos) tb) : PE X (.BoolOp .Or (a :: b :: rest) pos) (tOrG X.K ta tb) := by
  intro pins s σ H Q I h
  refine BoolOp_or (thn (ha pins s σ H _ I h) fun v s1 ⟨x, H1, I1, r1, k, tk, q1⟩ => ?_)
  refine thn (tru_ok pins s1 σ H1 x v (fun k' H' => k' = k ∧ H' = H1) I1 r1 ⟨k, tk, rfl, rfl⟩) fun k' s2 ⟨H2, I2, e1, e2⟩ => ?_
  subst e1 e2
  cases k' with
  | false => exact hb pins s2 σ H2 Q I2 q1
  | true => exact ⟨x, H2, I2, r1, q1⟩
end

/-- nothing is tracked but the script and a table -/
def OnlyT (P : Addr) (H : Hp) : Prop := ∀ b, H b = none ∨ (∃ o xs, H b = some (.frz o (.lst xs))) ∨ (b = P ∧ H b = some (.tbl #[]))
theorem law_callT {P : Program} {w : World} {K : PySem.W.Frag} {mg mb : Str → Option Value} {CX : CXT} {k : Nat} {fa a tP tc : Addr} {fd : FuncData} {x : Str} {sp : Sp} {s₁ : Shared} {vs : List Value} {ns : List Int}
    (KX : K.In s₁.heap) (hns : s₁.heap.Ns mainGlobals mg) (hb : s₁.heap.Ns builtinsNs mb) (hbb : ∀ x : Str, x ≠ "__name__" → mb x = bootBuiltins x) (hlim : s₁.heap.NoLimit) (hg : s₁.gens = #[])
    (hT : s₁.heap.get? tP = some (PySem.W.tabObj #[])) (hTc : PySem.W.codeHdIn K tc tP = true) (hKP : K.lookup tP = none) (hBM : BM mg s₁.heap)
    (ha : s₁.heap.get? a = some { cls := .type "list", data := .seq vs.toArray }) (hi : IntsAre vs ns) (hl : ns.length ≤ sizeLine) (hr : Room k callerA)
    (F : ∀ base : Heap, K.In base → base.Ns mainGlobals mg → BM mg base → FnOk P w K mg base CX k fa fd [x] sp) (hbind : ∀ (s : Shared) (u : Value), BindsTo s fd ⟨[u], []⟩ [(x, u)])
    (hsp : ∀ H : Hp, OnlyT tP H → H tP = some (.tbl #[]) → SqL K H a (ns.map V.int) → sp [.ref a] H (fun v _ => v = .bl true) fun _ _ _ => False)
    (hCX : ∀ H e s', CX [] H s₁ (fun _ _ _ => False) e s' → False) :
    codeAny (model P w) callerA (.call (.ref fa) ⟨[.ref a], []⟩) (fun r s' => r = .ok (.ret (.bool true)) ∧ OldK s₁.heap s'.heap ∧ s'.os = s₁.os ∧ AllBare s'.gens) s₁ := by
  have rv := vals_ints hi
  have lenV := hi.length
  have aP : a ≠ tP := fun z => by rw [z, hT] at ha; cases ha
  have core : ∀ H : Hp, OnlyT tP H → H tP = some (.tbl #[]) → SqL K H a (ns.map V.int) → HOk P w H s₁.heap → (∀ b, H b ≠ none → b = a ∨ b = tP) → (H a ≠ none → K.lookup a = none) →
      codeAny (model P w) callerA (.call (.ref fa) ⟨[.ref a], []⟩) (fun r s' => r = .ok (.ret (.bool true)) ∧ OldK s₁.heap s'.heap ∧ s'.os = s₁.os ∧ AllBare s'.gens) s₁ := by
    intro H hO hHP hS hok hA hK
    have base_of : ∀ {b : Addr} {o : Obj}, s₁.heap.get? b = some o → H b = none → (hidT s₁.heap H).get? b = some o := fun e n => hidT_get e n
    have noC : ∀ {b : Addr} {o : Obj}, s₁.heap.get? b = some o → o.cls ≠ .none → o.cls ≠ .type "list" → H b = none := fun {b o} e d d2 => by
      cases q : H b with
      | none => rfl
      | some u =>
        rcases hA b (by rw [q]; simp) with e' | e'
        · subst e'; rw [ha] at e; cases e; exact absurd rfl d2
        · subst e'; rw [hT] at e; cases e; exact absurd rfl d
    have noA : ∀ {b : Addr} {o : Obj} {es : Array DictEntry} {ep : Nat}, s₁.heap.get? b = some o → o.data = .dict es ep → H b = none := fun {b o es ep} e d => by
      cases q : H b with
      | none => rfl
      | some u =>
        rcases hA b (by rw [q]; simp) with e' | e'
        · subst e'
          rw [ha] at e; cases e
          have d' : Data.seq vs.toArray _ = Data.dict es ep := d
          cases d'
        · subst e'
          rw [hT] at e; cases e
          have d' : Data.fields _ = Data.dict es ep := d
          cases d'
    have nsK : ∀ {b : Addr} {m : Str → Option Value}, s₁.heap.Ns b m → (hidT s₁.heap H).Ns b m := fun {b m} ⟨o, es, ep, e, d, r⟩ => ⟨o, es, ep, base_of e (noA e d), d, r⟩
    have hKb : K.In (hidT s₁.heap H) := fun b o e => base_of (KX b o e) (by
      cases q : H b with
      | none => rfl
      | some u =>
        rcases hA b (by rw [q]; simp) with e' | e'
        · subst e'
          rw [hK (by rw [q]; simp)] at e; cases e
        · subst e'
          rw [hKP] at e; cases e)
    have hBb : BM mg (hidT s₁.heap H) := by
      obtain ⟨bm, o, b1, b2, b3, b4, b5, b6⟩ := hBM
      exact ⟨bm, o, b1, b2, base_of b3 (noC b3 (by rw [b4]; nofun) (by rw [b4]; decide)), b4, b5, b6⟩
    have hM : Mod K mg (hidT s₁.heap H) := ⟨hKb, nsK hns, ⟨mb, nsK hb, hbb⟩, let ⟨mc, h1, h2⟩ := hlim; ⟨mc, nsK h1, h2⟩⟩
    have e0 : Env0 P w K mg (hidT s₁.heap H) callerA [] s₁ H := ⟨rfl, hM, fun b o e => of_hidT e, Nat.le_of_eq (hidT_size _ _), trivial, fun b hb => absurd (show b ∈ ([] : List Addr) from hb) (by simp), hok, .of_eq hg⟩
    refine codeAny_mono ((F _ hKb (nsK hns) hBb).run callerA [] s₁ H ⟨[.ref a], []⟩ [.ref a] [.ref a] _ _ hr e0 (hbind s₁ (.ref a)) (.cons rfl .nil) (hsp H hO hHP hS)) fun r s' h => ?_
    cases r with
    | error e => exact (hCX H e s' h).elim
    | ok fl =>
      cases fl with
      | next => exact False.elim h
      | brk => exact False.elim h
      | cont => exact False.elim h
      | ret u =>
        obtain ⟨v, H', os, bare, un, hok', r', q⟩ := h
        have q' : v = .bl true := q
        subst q'
        obtain rfl : u = Value.bool true := r'
        have tb : PySem.isCodeTable s₁.heap tP := ((PySem.W.codeHd_of_K KX hTc).tab hT).isCodeTable
        have grown : ∃ more, s'.heap.get? tP = some (PySem.W.tabObj (#[] ++ more)) := by
          obtain ⟨more, e⟩ := un.tbls tP _ hHP
          exact ⟨more, hok' _ _ e⟩
        have keep : ∀ b o, b ≠ tP → s₁.heap.get? b = some o → s'.heap.get? b = some o := fun b o hb' e => by
          cases q : H b with
          | none => exact un.keep b o e q (by intro z; exact absurd (show b ∈ ([] : List Addr) from z) (by simp)) (by simp)
          | some u =>
            rcases hO b with z | ⟨ob, xs, z⟩ | ⟨z, _⟩
            · rw [q] at z; cases z
            · have z2 := un.frzs b ob _ z
              obtain ⟨e1, _⟩ := hok b _ z
              obtain ⟨e2, _⟩ := hok' b _ z2
              rw [e] at e1; cases e1
              exact e2
            · exact absurd z hb'
        refine ⟨rfl, ⟨fun b o e => ?_, fun b o e => ?_⟩, os, bare⟩
        · by_cases hb' : b = tP
          · subst hb'
            rw [hT] at e; cases e
            obtain ⟨more, hP⟩ := grown
            exact .inr (.inl ⟨tb, rfl, #[], more, rfl, hP⟩)
          · exact .inl (keep b o hb' e)
        · by_cases hb' : b = tP
          · subst hb'
            obtain ⟨more, hP⟩ := grown
            exact ⟨_, hP⟩
          · exact ⟨o, keep b o hb' e⟩
  have okT : ∀ H : Hp, ObjOk P w H s₁.heap tP (.tbl #[]) := fun H => hT
  cases hk : K.lookup a with
  | some o =>
    have e := KX a o hk
    rw [ha] at e
    cases e
    refine core (fun b => if b = tP then some (.tbl #[]) else none) (fun b => ?_) (if_pos rfl) (.inr ⟨_, vs.toArray, _, hk, rfl, rfl, rfl, by rw [List.size_toArray, lenV]; exact hl, by simpa using rv⟩) (fun b u z => ?_) (fun b z => ?_) fun z => absurd (if_neg aP) z
    · by_cases hb' : b = tP
      · exact .inr (.inr ⟨hb', if_pos hb'⟩)
      · exact .inl (if_neg hb')
    · by_cases hb' : b = tP
      · have z' := (if_pos hb').symm.trans z
        cases z'; subst hb'; exact okT _
      · have z' := (if_neg hb').symm.trans z
        cases z'
    · by_cases hb' : b = tP
      · exact .inr hb'
      · exact absurd (if_neg hb') z
  | none =>
    have e3 : ∀ b, b = tP → (fun b => if b = tP then some (HO.tbl #[]) else if b = a then some (HO.frz { cls := .type "list", data := .seq vs.toArray } (.lst (ns.map V.int))) else none) b = some (.tbl #[]) := fun b e => if_pos e
    have e4 : ∀ b, b ≠ tP → b = a → (fun b => if b = tP then some (HO.tbl #[]) else if b = a then some (HO.frz { cls := .type "list", data := .seq vs.toArray } (.lst (ns.map V.int))) else none) b = some (HO.frz { cls := .type "list", data := .seq vs.toArray } (.lst (ns.map V.int))) := fun b e1 e2 => (if_neg e1).trans (if_pos e2)
    have e5 : ∀ b, b ≠ tP → b ≠ a → (fun b => if b = tP then some (HO.tbl #[]) else if b = a then some (HO.frz { cls := .type "list", data := .seq vs.toArray } (.lst (ns.map V.int))) else none) b = none := fun b e1 e2 => (if_neg e1).trans (if_neg e2)
    generalize (fun b => if b = tP then some (HO.tbl #[]) else if b = a then some (HO.frz { cls := .type "list", data := .seq vs.toArray } (.lst (ns.map V.int))) else none) = H at e3 e4 e5
    refine core H (fun b => ?_) (e3 _ rfl) (.inl (.inr ⟨{ cls := .type "list", data := .seq vs.toArray }, e4 _ aP rfl⟩)) (fun b u z => ?_) (fun b z => ?_) fun _ => hk
    · by_cases h1 : b = tP
      · exact .inr (.inr ⟨h1, e3 b h1⟩)
      · by_cases h2 : b = a
        · exact .inr (.inl ⟨_, _, e4 b h1 h2⟩)
        · exact .inl (e5 b h1 h2)
    · by_cases h1 : b = tP
      · rw [e3 b h1] at z; cases z; subst h1; exact okT _
      · by_cases h2 : b = a
        · rw [e4 b h1 h2] at z; cases z; subst h2
          exact ⟨ha, by rw [List.length_map]; exact hl, vs, _, rv, ha⟩
        · rw [e5 b h1 h2] at z; cases z
    · by_cases h1 : b = tP
      · exact .inr h1
      · by_cases h2 : b = a
        · exact .inl h2
        · exact absurd (e5 b h1 h2) z
theorem walk_ofT {l : PySem.W.OpenLaw} {n k : Nat} {q : Program} {loose : List Str} {XP : (Str → Option Value) → Heap → Prop} {YP : World → Heap → Prop} {d : DefRec} {K : Params → PySem.W.Frag} {CX : World → CXT} {sp : World → Sp} {x : Str} {tP : Addr}
    (hn : l.most = some n) (hn2 : n ≤ sizeLine) (hdf : d.params.defaults = []) (hr : Room k callerA)
    (hY : ∀ (w : World) (h : Heap), YP w h → (K w.params).In h) (hT : ∀ (w : World) (h : Heap), YP w h → h.get? tP = some (PySem.W.tabObj #[])) (hTc : ∀ w : World, ∃ tc, PySem.W.codeHdIn (K w.params) tc tP = true) (hKP : ∀ w : World, (K w.params).lookup tP = none)
    (F : ∀ (w : World) (mg : Str → Option Value) (fa : Addr) (h : Heap), (K w.params).In h → h.Ns mainGlobals mg → mg d.name = some (.ref fa) →
      ∃ fd : FuncData, (∀ (s : Shared) (u : Value), BindsTo s fd ⟨[u], []⟩ [(x, u)]) ∧
        ∀ base : Heap, (K w.params).In base → base.Ns mainGlobals mg → BM mg base → FnOk l.prog w (K w.params) mg base (CX w) k fa fd [x] (sp w))
    (hsp : ∀ (w : World) (H : Hp) (a : Addr) (ns : List Int), ns.length ≤ n → OnlyT tP H → H tP = some (.tbl #[]) → SqL (K w.params) H a (ns.map V.int) → sp w [.ref a] H (fun v _ => v = .bl true) fun _ _ _ => False)
    (hCX : ∀ (w : World) (H : Hp) (s : Shared) (e : Value) (s' : Shared), CX w [] H s (fun _ _ _ => False) e s' → False) :
    PySem.W.WalkO q loose XP YP l.row.toRowW d [] (fun f vs => PySem.call f vs) := by
  refine Att.attach_call hn hdf fun w s₀ s₁ mg mb fa o pm cd doc a vs ns G Y ho hd hcd hmg hobj hints hlen hg => ?_
  have KX := hY w _ Y
  obtain ⟨fd, hb, hF⟩ := F w mg fa _ KX G.T.g hmg
  obtain ⟨bm, ob, b1, b2, b3, b4, b5, b6⟩ := G.T.bmain
  obtain ⟨tc, hTc⟩ := hTc w
  exact law_callT KX G.T.g G.T.b G.T.builtins G.T.nolimit hg (hT w _ Y) hTc (hKP w) ⟨bm, ob, b1, b2, b3, b4, b5, b6⟩ hobj hints (Nat.le_trans hlen hn2) hr hF hb (fun H hO hP hS => hsp w H a ns hlen hO hP hS) fun H e s' => hCX w H s₁ e s'
end L2

/-! for x in d.values(): the dict is known to the object from then on -/
namespace L2
open PySem PySem.Spec PyProof.Rows
def ViewO (v d : Addr) : HO := .ext fun h => h.IsValuesView v d
def rValues : V → List V → Hp → VK → Prop := fun x vs H Q => ∃ d kvs, x = .ref d ∧ vs = [] ∧ H d = some (.dK kvs) ∧ ∀ v o, H v = none → v ≠ d → Q (.ref v) (upd (upd H d (.frz o (.dK kvs))) v (ViewO v d))
/-- the values of the dict at d, which is frozen -/
def Itv (d : Addr) (o : Obj) (kvs : List (Key × V)) : It :=
  ⟨fun i H => H d = some (.frz o (.dK kvs)) ∧ i < kvs.length, fun i H x H' => H' = H ∧ ∃ k, kvs[i]? = some (k, x), fun i H => H d = some (.frz o (.dK kvs)) ∧ kvs.length ≤ i⟩
section
variable {X : Cx}
def iVals (te : TE) : TI := fun σ H R => te σ H fun x H1 => ∃ v d o kvs, x = .ref v ∧ H1 v = some (ViewO v d) ∧ H1 d = some (.frz o (.dK kvs)) ∧ R (Itv d o kvs) H1
end
end L2

/-! list(range(lo, hi)) -/
namespace L2
open PySem PySem.Spec PyProof.Rows
section
variable {X : Cx}
def rRng2 : List V → Hp → VK → Prop := fun xs H Q => ∃ i j, xs = [.int i, .int j] ∧ ∀ r, H r = none → Q (.ref r) (upd H r (.rng i j))
def fromN (lo : Int) (n : Nat) : List Int := (List.range n).map fun (i : Nat) => lo + (i : Int)
def rListR2 : List V → Hp → VK → Prop := fun xs H Q => ∃ r i j, xs = [.ref r] ∧ H r = some (.rng i j) ∧ 0 ≤ i ∧ i ≤ 100000 ∧ i ≤ j ∧ j ≤ 100000 ∧ ∀ l, H l = none → Q (.ref l) (upd H l (.lst ((fromN i (j - i).toNat).map V.int)))
end
end L2

/-! sorted of a list of tuples that begin with ints, no two alike -/
namespace L2
open PySem PySem.Spec PyProof.Rows
/-- a tuple that begins with an int -/
def TupI (h : Heap) (v : Value) (k : Int) : Prop := ∃ (a : Addr) (o : Obj) (n : Nat) (t : Tok) (rest : List Value), v = .ref a ∧ h.get? a = some o ∧ o.cls = .type "tuple" ∧ o.data = .seq (Value.int k t :: rest).toArray n
def ltT (kf : Value → Int) (x y : Keyed) : Bool := decide (kf x.1 < kf y.1)
section
variable {prog : Program} {w : World} {A : Around} {E : Value → Shared → Prop} {s : Shared}
end
section
variable {X : Cx}
/-- sorted(xs) of a list of tuples that begin with ints, no two alike -/
def rSortT (K : PySem.W.Frag) : List V → Hp → VK → Prop := fun xs H Q => ∃ (a : Addr) (ts : List Addr) (kf : Addr → Int), xs = [.ref a] ∧ SqL K H a (ts.map V.ref) ∧ ts.length ≤ 100000 ∧ (∀ t ∈ ts, ∃ rest, H t = some (.tup (V.int (kf t) :: rest))) ∧ (∀ t ∈ ts, ∀ u ∈ ts, kf t = kf u → t = u) ∧
  ∀ (us : List Addr) (l : Addr), us.Perm ts → us.Pairwise (fun t u => kf t ≤ kf u) → H l = none → Q (.ref l) (upd H l (.lst (us.map V.ref)))
def kfV (kf : Addr → Int) : Value → Int
  | .ref a => kf a
  | _ => 0
end
end L2

/-! dict(xs) of a list of pairs -/
namespace PySem
namespace F
end F
end PySem

/-! dict(xs) of a list of pairs: the loop -/
namespace L2
open PySem PySem.Spec PyProof.Rows
section
variable {prog : Program} {w : World} {κ : Type} [DecidableEq κ] {knd : KeyKind prog w κ} {A : Around} {E : Value → Shared → Prop} {s : Shared}
/-- the pairs that a list's tuples are -/
inductive PairsAt (knd : KeyKind prog w κ) (h : Heap) : List Value → List (κ × Value) → Prop
  | nil : PairsAt knd h [] []
  | cons {a : Addr} {o : Obj} {n : Nat} {key val : Value} {k : κ} {vs : List Value} {rs : List (κ × Value)} : h.get? a = some o → o.cls = .type "tuple" → o.data = .seq #[key, val] n → knd.is k key = true → PairsAt knd h vs rs → PairsAt knd h (.ref a :: vs) ((k, val) :: rs)
end
section
variable {X : Cx}
/-- dict(xs) of a list of pairs -/
def rDictP (K : PySem.W.Frag) : List V → Hp → VK → Prop := fun xs H Q => ∃ (a : Addr) (ts : List Addr) (ps : List (Key × V)), xs = [.ref a] ∧ SqL K H a (ts.map V.ref) ∧ ts.length ≤ 100000 ∧ ts.length = ps.length ∧ (∀ (i : Nat) (t : Addr) (p : Key × V), ts[i]? = some t → ps[i]? = some p → H t = some (.tup [kV p.1, p.2])) ∧
  ∀ d, H d = none → Q (.ref d) (upd H d (.dK (mergeK [] ps)))
end
end L2

/-! list(d): the keys of a dict, in their order -/
namespace L2
open PySem PySem.Spec PyProof.Rows
section
variable {prog : Program} {w : World} {κ : Type} [DecidableEq κ] {knd : KeyKind prog w κ} {A : Around} {E : Value → Shared → Prop} {s : Shared}
end
section
variable {X : Cx}
/-- list(d) of a dict -/
def rListD : List V → Hp → VK → Prop := fun xs H Q => ∃ (d : Addr) (kvs : List (Key × V)), xs = [.ref d] ∧ H d = some (.dK kvs) ∧ ∀ l, H l = none → Q (.ref l) (upd H l (.lst (kvs.map fun kv => kV kv.1)))
end
end L2

/-! Truths in arithmetic; max and min of them; data with empty dicts compared; insert. -/
namespace L2
open PySem PySem.Spec PyProof.Rows
theorem g_gt_bi (a : Bool) (b : Int) (u : Tok) : Gives (Builtin.«int.__gt__» ⟨[.bool a, .int b u], []⟩) (.val (.bool (decide ((if a = true then (1 : Int) else 0) > b)))) :=
  .of_wp fun M A E s Q h => by obtain ⟨hp, g, d, tk, os⟩ := s; wp_walk; exact ⟨_, rfl, h⟩
theorem g_lt_bi (a : Bool) (b : Int) (u : Tok) : Gives (Builtin.«int.__lt__» ⟨[.bool a, .int b u], []⟩) (.val (.bool (decide ((if a = true then (1 : Int) else 0) < b)))) :=
  .of_wp fun M A E s Q h => by obtain ⟨hp, g, d, tk, os⟩ := s; wp_walk; exact ⟨_, rfl, h⟩
theorem g_gt_bb (a b : Bool) : Gives (Builtin.«int.__gt__» ⟨[.bool a, .bool b], []⟩) (.val (.bool (decide ((if a = true then (1 : Int) else 0) > (if b = true then (1 : Int) else 0))))) :=
  .of_wp fun M A E s Q h => by obtain ⟨hp, g, d, tk, os⟩ := s; wp_walk; exact ⟨_, rfl, h⟩
theorem g_lt_bb (a b : Bool) : Gives (Builtin.«int.__lt__» ⟨[.bool a, .bool b], []⟩) (.val (.bool (decide ((if a = true then (1 : Int) else 0) < (if b = true then (1 : Int) else 0))))) :=
  .of_wp fun M A E s Q h => by obtain ⟨hp, g, d, tk, os⟩ := s; wp_walk; exact ⟨_, rfl, h⟩
theorem g_sub_bb (a b : Bool) : Gives (Builtin.«int.__sub__» ⟨[.bool a, .bool b], []⟩) (.int ((if a = true then (1 : Int) else 0) - (if b = true then (1 : Int) else 0))) :=
  .of_wp fun M A E s Q h => by obtain ⟨hp, g, d, tk, os⟩ := s; wp_walk; exact ⟨_, rfl, h⟩
theorem g_add_bb (a b : Bool) : Gives (Builtin.«int.__add__» ⟨[.bool a, .bool b], []⟩) (.int ((if a = true then (1 : Int) else 0) + (if b = true then (1 : Int) else 0))) :=
  .of_wp fun M A E s Q h => by obtain ⟨hp, g, d, tk, os⟩ := s; wp_walk; exact ⟨_, rfl, h⟩
/-- a number: an int or a truth -/
inductive NumU : Value → Int → Prop
  | int (i : Int) (t : Tok) : NumU (.int i t) i
  | bl (b : Bool) : NumU (.bool b) (if b = true then (1 : Int) else 0)
section
variable {prog : Program} {w : World} {A : Around} {E : Value → Shared → Prop} {s : Shared} {Q : Value → Shared → Prop} {a b : Value} {i j : Int}
theorem num_gt (ha : NumU a i) (hb : NumU b j) (h : Q (.bool (decide (i > j))) s) : wpAny (model prog w) A (richCompare .Gt a b) Q E s := by
  cases ha with
  | int i t =>
    cases hb with
    | int j u => exact richCompare_gives (op := .Gt) (typeIs_int s _ t) (typeIs_int s _ u) F.slot_int_gt F.entry_int_gt (F.args_int_gt_2 _ _) (gives_int_gt _ _ t u) (fun x => nomatch x) h
    | bl b => exact SeqAt.rc_sub_first_or (op := .Gt) (typeIs_int s i t) rfl (by decide) F.sub_bool_int F.slot_bool_lt_refl (call_gives F.slot_bool_lt_refl rfl F.entry_int_lt (F.args_int_lt_2 _ _) (g_lt_bi b i t) ⟨nofun, h⟩) (.inl rfl)
  | bl a =>
    cases hb with
    | int j u => exact SeqAt.rc_left_or (op := .Gt) rfl (typeIs_int s j u) (by decide) F.sub_int_bool F.slot_bool_gt (call_gives F.slot_bool_gt rfl F.entry_int_gt (F.args_int_gt_2 _ _) (g_gt_bi a j u) ⟨nofun, h⟩) (.inl rfl)
    | bl b => exact richCompare_gives (op := .Gt) (T := "bool") rfl rfl F.slot_bool_gt F.entry_int_gt (F.args_int_gt_2 _ _) (g_gt_bb a b) (fun x => nomatch x) h
theorem num_lt (ha : NumU a i) (hb : NumU b j) (h : Q (.bool (decide (i < j))) s) : wpAny (model prog w) A (richCompare .Lt a b) Q E s := by
  cases ha with
  | int i t =>
    cases hb with
    | int j u => exact richCompare_gives (op := .Lt) (typeIs_int s _ t) (typeIs_int s _ u) F.slot_int_lt F.entry_int_lt (F.args_int_lt_2 _ _) (gives_int_lt _ _ t u) (fun x => nomatch x) h
    | bl b => exact SeqAt.rc_sub_first_or (op := .Lt) (typeIs_int s i t) rfl (by decide) F.sub_bool_int F.slot_bool_gt_refl (call_gives F.slot_bool_gt_refl rfl F.entry_int_gt (F.args_int_gt_2 _ _) (g_gt_bi b i t) ⟨nofun, h⟩) (.inl rfl)
  | bl a =>
    cases hb with
    | int j u => exact SeqAt.rc_left_or (op := .Lt) rfl (typeIs_int s j u) (by decide) F.sub_int_bool F.slot_bool_lt (call_gives F.slot_bool_lt rfl F.entry_int_lt (F.args_int_lt_2 _ _) (g_lt_bi a j u) ⟨nofun, h⟩) (.inl rfl)
    | bl b => exact richCompare_gives (op := .Lt) (T := "bool") rfl rfl F.slot_bool_lt F.entry_int_lt (F.args_int_lt_2 _ _) (g_lt_bb a b) (fun x => nomatch x) h
theorem num_sub (ha : NumU a i) (hb : NumU b j) (h : Q (.int (i - j) s.toks) { s with toks := s.toks + 1 }) : wpAny (model prog w) A (binaryOp .Sub a b) Q E s := by
  cases ha with
  | int i t =>
    cases hb with
    | int j u => exact sub_int h
    | bl b => exact IntBool.sub_int_bool h
  | bl a =>
    cases hb with
    | int j u => exact IntBool.sub_bool_int h
    | bl b => exact binaryOp_gives (op := .Sub) (T := "bool") rfl rfl F.fills_bool_sub F.slot_bool_sub F.entry_int_sub (F.args_int_sub_2 _ _) (g_sub_bb a b) trivial h
theorem num_add (ha : NumU a i) (hb : NumU b j) (h : Q (.int (i + j) s.toks) { s with toks := s.toks + 1 }) : wpAny (model prog w) A (binaryOp .Add a b) Q E s := by
  cases ha with
  | int i t =>
    cases hb with
    | int j u => exact add_int h
    | bl b => exact add_int_bool h
  | bl a =>
    cases hb with
    | int j u => exact IntBool.add_bool_int h
    | bl b => exact binaryOp_gives (op := .Add) (T := "bool") rfl rfl F.fills_bool_add F.slot_bool_add F.entry_int_add (F.args_int_add_2 _ _) (g_add_bb a b) trivial h
end
/-- the two items of a pair of numbers, by place -/
theorem pair_at {a b v : Value} {k : Nat} (h : #[a, b][k]? = some v) : (k = 0 ∧ v = a) ∨ (k = 1 ∧ v = b) := by
  match k, h with
  | 0, h => exact .inl ⟨rfl, (Option.some.inj h).symm⟩
  | 1, h => exact .inr ⟨rfl, (Option.some.inj h).symm⟩
  | k + 2, h => simp at h
section
variable {prog : Program} {w : World} {A : Around} {E : Value → Shared → Prop} {s : Shared} {Q : Value → Shared → Prop} {a b : Value} {i j : Int}
theorem num_max (hh : A.handled = none) (ha : NumU a i) (hb : NumU b j)
    (h : ∀ h' tk, (∀ c o, s.heap.get? c = some o → h'.get? c = some o) → Q (if j > i then b else a) { s with heap := h', toks := tk }) :
    wpAny (model prog w) A (call (.builtin "max") [a, b]) Q E s := by
  have hT : (s.heap.push { cls := .type "tuple", data := .seq #[a, b] }).IsTuple s.heap.objs.size #[a, b] := ⟨_, Heap.get?_push_size _ rfl, rfl, 0, rfl⟩
  refine call_max_two (wpAny_pyIter_tuple hT ?_)
  have hsz : (s.heap.push { cls := .type "tuple", data := .seq #[a, b] }).objs.size = s.heap.objs.size + 1 := Heap.size_push ..
  let val : Nat → Int := fun k => if k = 0 then i else j
  have hv : ∀ k v, #[a, b][k]? = some v → NumU v (val k) := fun k v e => by
    rcases pair_at e with ⟨rfl, rfl⟩ | ⟨rfl, rfl⟩
    · exact ha
    · exact hb
  refine ⟨_, [_, s.heap.objs.size], [_], _, _, _, fun k l => decide (val k > val l), rfl, Walks.tuple (A := A.in1) hh _ s.heap.objs.size (by rw [hsz]; exact Nat.ne_of_lt (Nat.lt_succ_self _)) #[a, b],
    ⟨⟨_, Heap.get?_push_size _ rfl, rfl, rfl⟩, hT.push _⟩, fun c hc => ?_, by simp, fun k l vk vl s Q E hk hl q => num_gt (hv k vk hk) (hv l vl hl) q, fun v h' tk hP hk => ?_⟩
  · show c < ((s.heap.push _).push _).objs.size
    rw [Heap.size_push, hsz]
    rcases List.mem_cons.mp hc with rfl | hc
    · rw [hsz]; exact Nat.lt_succ_self _
    · rcases List.mem_cons.mp hc with rfl | hc
      · exact Nat.lt_succ_of_lt (Nat.lt_succ_self _)
      · cases hc
  · have hold : ∀ c o, s.heap.get? c = some o → h'.get? c = some o := fun c o e => by
      refine hk c o (fun hm => ?_) (Heap.get?_push_of_some _ (Heap.get?_push_of_some _ e))
      rcases List.mem_cons.mp hm with e1 | hm
      · have := Heap.lt_size e; rw [e1, hsz] at this; exact Nat.lt_irrefl _ (Nat.lt_of_succ_lt this)
      · cases hm
    have hq := h h' tk hold
    have hP' : #[a, b][argBest (fun k l => decide (val k > val l)) 1]? = some v := hP
    by_cases c : j > i
    · have e : argBest (fun k l => decide (val k > val l)) 1 = 1 := by simp [argBest, val, c]
      rw [e] at hP'
      rw [if_pos c] at hq
      have : v = b := (Option.some.inj hP').symm
      rw [this]; exact hq
    · have e : argBest (fun k l => decide (val k > val l)) 1 = 0 := by simp [argBest, val]; omega
      rw [e] at hP'
      rw [if_neg c] at hq
      have : v = a := (Option.some.inj hP').symm
      rw [this]; exact hq
theorem num_min (hh : A.handled = none) (ha : NumU a i) (hb : NumU b j)
    (h : ∀ h' tk, (∀ c o, s.heap.get? c = some o → h'.get? c = some o) → Q (if j < i then b else a) { s with heap := h', toks := tk }) :
    wpAny (model prog w) A (call (.builtin "min") [a, b]) Q E s := by
  have hT : (s.heap.push { cls := .type "tuple", data := .seq #[a, b] }).IsTuple s.heap.objs.size #[a, b] := ⟨_, Heap.get?_push_size _ rfl, rfl, 0, rfl⟩
  refine call_min_two (wpAny_pyIter_tuple hT ?_)
  have hsz : (s.heap.push { cls := .type "tuple", data := .seq #[a, b] }).objs.size = s.heap.objs.size + 1 := Heap.size_push ..
  let val : Nat → Int := fun k => if k = 0 then i else j
  have hv : ∀ k v, #[a, b][k]? = some v → NumU v (val k) := fun k v e => by
    rcases pair_at e with ⟨rfl, rfl⟩ | ⟨rfl, rfl⟩
    · exact ha
    · exact hb
  refine ⟨_, [_, s.heap.objs.size], [_], _, _, _, fun k l => decide (val k < val l), rfl, Walks.tuple (A := A.in1) hh _ s.heap.objs.size (by rw [hsz]; exact Nat.ne_of_lt (Nat.lt_succ_self _)) #[a, b],
    ⟨⟨_, Heap.get?_push_size _ rfl, rfl, rfl⟩, hT.push _⟩, fun c hc => ?_, by simp, fun k l vk vl s Q E hk hl q => num_lt (hv k vk hk) (hv l vl hl) q, fun v h' tk hP hk => ?_⟩
  · show c < ((s.heap.push _).push _).objs.size
    rw [Heap.size_push, hsz]
    rcases List.mem_cons.mp hc with rfl | hc
    · rw [hsz]; exact Nat.lt_succ_self _
    · rcases List.mem_cons.mp hc with rfl | hc
      · exact Nat.lt_succ_of_lt (Nat.lt_succ_self _)
      · cases hc
  · have hold : ∀ c o, s.heap.get? c = some o → h'.get? c = some o := fun c o e => by
      refine hk c o (fun hm => ?_) (Heap.get?_push_of_some _ (Heap.get?_push_of_some _ e))
      rcases List.mem_cons.mp hm with e1 | hm
      · have := Heap.lt_size e; rw [e1, hsz] at this; exact Nat.lt_irrefl _ (Nat.lt_of_succ_lt this)
      · cases hm
    have hq := h h' tk hold
    have hP' : #[a, b][argBest (fun k l => decide (val k < val l)) 1]? = some v := hP
    by_cases c : j < i
    · have e : argBest (fun k l => decide (val k < val l)) 1 = 1 := by simp [argBest, val, c]
      rw [e] at hP'
      rw [if_pos c] at hq
      have : v = b := (Option.some.inj hP').symm
      rw [this]; exact hq
    · have e : argBest (fun k l => decide (val k < val l)) 1 = 0 := by simp [argBest, val]; omega
      rw [e] at hP'
      rw [if_neg c] at hq
      have : v = a := (Option.some.inj hP').symm
      rw [this]; exact hq
end
/-- a number among the layer's values -/
inductive Num : V → Int → Prop
  | int (i : Int) : Num (.int i) i
  | bl (b : Bool) : Num (.bl b) (if b = true then (1 : Int) else 0)
theorem Num.rel {x : V} {i : Int} {v : Value} (h : Num x i) (r : RelV x v) : NumU v i := by
  cases h with
  | int i => obtain ⟨t, rfl⟩ := r; exact .int i t
  | bl b => cases r; exact .bl b
section
variable {X : Cx}
def rSubN : R2 := fun x y H Q => ∃ i j, Num x i ∧ Num y j ∧ Q (.int (i - j)) H
def rAddN : R2 := fun x y H Q => ∃ i j, Num x i ∧ Num y j ∧ Q (.int (i + j)) H
theorem op_subN : OpR X (binaryOp .Sub) rSubN := by
  intro pins s σ H x y v u Q I rx ry h
  obtain ⟨i, j, h1, h2, q⟩ := h
  exact num_sub (h1.rel rx) (h2.rel ry) ⟨.int _, H, I.tok _, ⟨_, rfl⟩, q⟩
theorem op_addN : OpR X (binaryOp .Add) rAddN := by
  intro pins s σ H x y v u Q I rx ry h
  obtain ⟨i, j, h1, h2, q⟩ := h
  exact num_add (h1.rel rx) (h2.rel ry) ⟨.int _, H, I.tok _, ⟨_, rfl⟩, q⟩
def rMaxN : List V → Hp → VK → Prop := fun xs H Q => ∃ x y i j, xs = [x, y] ∧ Num x i ∧ Num y j ∧ Q (if j > i then y else x) H
def rMinN : List V → Hp → VK → Prop := fun xs H Q => ∃ x y i j, xs = [x, y] ∧ Num x i ∧ Num y j ∧ Q (if j < i then y else x) H
theorem call_maxN (hc : X.calm = true) : CallR X (.builtin "max") rMaxN := by
  intro pins s σ H xs us Q I r h
  obtain ⟨x, y, i, j, rfl, h1, h2, q⟩ := h
  obtain ⟨u, w', rfl, r1, r2⟩ := vals2 r
  refine num_max (I.ok.hd hc) (h1.rel r1) (h2.rel r2) fun h' tk k => ⟨_, H, I.kept k, ?_, q⟩
  by_cases hj : j > i
  · rw [if_pos hj, if_pos hj]; exact r2
  · rw [if_neg hj, if_neg hj]; exact r1
theorem call_minN (hc : X.calm = true) : CallR X (.builtin "min") rMinN := by
  intro pins s σ H xs us Q I r h
  obtain ⟨x, y, i, j, rfl, h1, h2, q⟩ := h
  obtain ⟨u, w', rfl, r1, r2⟩ := vals2 r
  refine num_min (I.ok.hd hc) (h1.rel r1) (h2.rel r2) fun h' tk k => ⟨_, H, I.kept k, ?_, q⟩
  by_cases hj : j < i
  · rw [if_pos hj, if_pos hj]; exact r2
  · rw [if_neg hj, if_neg hj]; exact r1
end
end L2

/-! insert; == of data among which are empty dicts. -/
namespace L2
open PySem PySem.Spec PyProof.Rows
theorem forIn0 {β : Type} (b : β) (f : Nat → β → Sem (ForInStep β)) : (forIn (m := Sem) [:0] b f) = pure b := by
  rw [Std.Legacy.Range.forIn_eq_forIn_range']
  rfl
/-- an empty dict held against itself -/
theorem dict_eq0 (d : Addr) (ep : Nat) (hs : (d == sysModules) = false) :
    Meets (Builtin.«dict.__eq__» ⟨[.ref d, .ref d], []⟩) (fun _ R s => s.heap.get? d = some { cls := .type "dict", dict := none, data := .dict #[] ep, slots := #[] } ∧ R (.ok (.ret (.bool true))) s) :=
  .of_wp fun prog w A R s h => by
    obtain ⟨hp, g, d', tk, os⟩ := s; obtain ⟨hl, h⟩ := h
    have f1 := F.sub_dict_dict
    wp_walk using wpAny_loadPart' hl, wpAny_load hl
    refine wpAny_of_eq (a := (none, ())) (forIn0 _ _) ?_
    exact wpAny_pure (wpAny_pure ⟨_, rfl, h⟩)
section
variable {X : Cx}
/-- a thing that is held against itself or against a new list of the same -/
def selfV (H : Hp) (x : V) : Prop := match x with
  | .non => True | .int _ => True | .bl _ => True | .str _ => True
  | .ref p => (∃ ns : List Int, H p = some (.tup (ns.map V.int))) ∨ H p = some (.dK [])
  | _ => False
def plainV : V → Bool
  | .non => true | .int _ => true | .bl _ => true | .str _ => true | .ref _ => true | _ => false
theorem eqAt_rel {A : Around} {s : Shared} {x : V} {u v : Value} (hx : plainV x = true) (r1 : RelV x u) (r2 : RelV x v) : SeqAt.EqAt A s u v true := by
  cases x with
  | non => cases r1; cases r2; exact SeqAt.EqAt.same _
  | bl b => cases r1; cases r2; exact SeqAt.EqAt.same _
  | int i =>
    obtain ⟨t, rfl⟩ := r1
    obtain ⟨t', rfl⟩ := r2
    have := SeqAt.EqAt.int_int (A := A) (s := s) i t i t'
    simpa using this
  | str z =>
    obtain ⟨t, rfl⟩ := r1
    obtain ⟨t', rfl⟩ := r2
    have := SeqAt.EqAt.str_str (A := A) (s := s) z t z t'
    simpa using this
  | ref p => cases r1; cases r2; exact SeqAt.EqAt.same _
  | _ => cases hx
def rEqW (K : PySem.W.Frag) : R2 := fun x y H Q => ((x = y ∧ selfV H x) ∨ ∃ p q xs, x = .ref p ∧ y = .ref q ∧ SqL K H p xs ∧ SqL K H q xs ∧ xs.all plainV = true) ∧ Q (.bl true) H
theorem op_eqW (hu : X.A.units + 64 < cLine) : OpR X (compareOp .Eq) (rEqW X.K) := by
  intro pins s σ H x y v u Q I rx ry h
  obtain ⟨h, q⟩ := h
  rcases h with ⟨rfl, hs⟩ | ⟨p, p', xs, rfl, rfl, h1, h2, hp⟩
  · have data : ∀ d : PyData, DV X.K H x d → SeqAt.shaped d = true → wpAny (model X.prog X.w) X.A (compareOp .Eq v u) (EP X pins σ Q) X.xe s := fun d dv sh => by
      obtain ⟨as, r1⟩ := dv.reads I rx
      obtain ⟨bs, r2⟩ := dv.reads I ry
      refine eq_dataH r1 r2 sh sh hu ⟨.bl _, H, I, rfl, ?_⟩
      rw [SeqAt.eqv_refl d (SeqAt.canLay_of_shaped sh)]; exact q
    cases x with
    | non => exact data _ .non rfl
    | bl b => exact data _ (.bl b) rfl
    | int i => exact data _ (.int i) rfl
    | str z =>
      obtain ⟨t, rfl⟩ := rx
      obtain ⟨t', rfl⟩ := ry
      have e := SeqAt.RcAt.str_str (A := X.A) (s := s) z t z t'
      rw [beq_self_eq_true] at e
      exact e X.prog X.w X.xe _ ⟨.bl _, H, I, rfl, q⟩
    | ref p =>
      rcases hs with ⟨ns, hT⟩ | hD
      · refine data (.tuple (ns.map PyData.int)) (.tup (SqT.of hT) (DVs.ints ns)) ?_
        obtain ⟨l1, l2⟩ := lay_ints ns
        simp [SeqAt.shaped, PyData.canLay0, PyData.depth, l1, l2]
      · cases rx
        cases ry
        obtain ⟨hz, lo, vs, rk, o, es, ep, h1, h2, h3, h4, h5, h6⟩ : ([] : List (Key × V)).length ≤ sizeLine ∧ (p == sysModules) = false ∧ ∃ vs, KV [] vs ∧ s.heap.DictOf (mixKind X.prog X.w) p vs := I.hok p _ hD
        have e0 : vs = [] := List.eq_nil_of_length_eq_zero (Paired.length rk).symm
        subst e0
        have e1 : es.toList = [] := List.eq_nil_of_length_eq_zero (by have := h5.length; simpa using this)
        have e2 : es = #[] := Array.toList_inj.mp e1
        obtain ⟨cls, dd, dat, sl⟩ := o
        obtain ⟨c1, c2, c3⟩ := h2
        simp only at c1 c2 c3 h3
        subst c1 c2 c3 h3 e2
        exact richCompare_meets_room (op := .Eq) ⟨_, h1, rfl⟩ ⟨_, h1, rfl⟩ F.slot_dict_eq F.entry_dict_eq (F.args_dict_eq_2 _ _) (dict_eq0 p ep lo)
          ⟨h1, show Value.bool true ≠ Value.notImplemented ∧ EP X pins σ Q (.bool true) s from ⟨(fun x => nomatch x), ⟨.bl _, H, I, rfl, q⟩⟩⟩ (by omega)
    | _ => exact hs.elim
  · cases rx
    cases ry
    obtain ⟨its, r1, pl1, _⟩ := I.list h1
    obtain ⟨its2, r2, pl2, _⟩ := I.list h2
    have l1 := r1.length
    have l2 := r2.length
    refine SeqAt.eq_listAt (e := fun _ => true) pl1.isList pl2.isList (by simp; omega) (by omega) (fun j g1 g2 => ?_) ⟨.bl _, H, I, rfl, ?_⟩
    · have g1' : j < xs.length := by have : j < its.toArray.size := g1; rw [List.size_toArray] at this; omega
      obtain ⟨u1, e1, t1⟩ := r1.get (List.getElem?_eq_getElem g1')
      obtain ⟨u2, e2, t2⟩ := r2.get (List.getElem?_eq_getElem g1')
      have k1 : its.toArray[j] = u1 := by
        have := List.getElem?_eq_some_iff.mp e1; simpa using this.2
      have k2 : its2.toArray[j] = u2 := by
        have := List.getElem?_eq_some_iff.mp e2; simpa using this.2
      rw [k1, k2]
      exact eqAt_rel (List.all_eq_true.mp hp _ (List.getElem_mem g1')) t1 t2
    · rw [show ((List.range its.toArray.size).all fun _ => true) = true by simp]; exact q
def rInsert : V → List V → Hp → VK → Prop := fun x vs H Q => ∃ l xs i y, x = .ref l ∧ vs = [.int i, y] ∧ H l = some (.lst xs) ∧ 0 ≤ i ∧ i ≤ xs.length ∧ xs.length + 1 ≤ 100000 ∧ Q .non (upd H l (.lst (xs.take i.toNat ++ y :: xs.drop i.toNat)))
theorem ins_list (its : List Value) (u : Value) (i : Int) (h0 : 0 ≤ i) (h1 : i ≤ its.length) : (fun xs : Array Value => have k := if i < 0 then (i + ((xs.size : Nat) : Int)).toNat else min i.toNat xs.size; (xs.extract 0 k).push u ++ xs.extract k) its.toArray = (its.take i.toNat ++ u :: its.drop i.toNat).toArray := by
  have hk : (if i < 0 then (i + ((its.toArray.size : Nat) : Int)).toNat else min i.toNat its.toArray.size) = i.toNat := by
    rw [if_neg (by omega), List.size_toArray]
    omega
  show (its.toArray.extract 0 (if i < 0 then (i + ((its.toArray.size : Nat) : Int)).toNat else min i.toNat its.toArray.size)).push u ++ its.toArray.extract (if i < 0 then (i + ((its.toArray.size : Nat) : Int)).toNat else min i.toNat its.toArray.size) = _
  rw [hk]
  apply Array.toList_inj.mp
  simp
  apply List.take_of_length_le
  rw [List.length_drop]; omega
theorem mt_insert : MtM X "list.insert" rInsert := by
  intro pins s σ H x vs v us Q I rx rv h
  obtain ⟨l, xs, i, y, rfl, rfl, hH, h0, h1, hz0, q⟩ := h
  cases rx
  obtain ⟨u, u2, rfl, ⟨t, rfl⟩, ru⟩ := vals2 rv
  obtain ⟨z, its, n, r, hl, e⟩ := I.lstM hH
  have hz1 : xs.length + 1 ≤ sizeLine := Nat.le_trans hz0 (by rw [sizeLine_eq]; decide)
  have hfit : ¬(!Builtin.List.listFitsIndex i) = true := by
    rw [fitsIndex_both (k := i) (by omega) (by omega)]; simp
  have hsz : its.toArray.size ≤ sizeLine := by rw [List.size_toArray, ← hl]; omega
  refine call_meets F.slot_list_insert ⟨_, e, rfl⟩ F.entry_list_insert (F.args_list_insert_3 _ _ _) (@AutoListH.list_insert_list_int_val_1 l its.toArray n i t u2 hfit hsz) ⟨e, ?_⟩
  refine ⟨.non, _, I.lset (its' := its.take i.toNat ++ u2 :: its.drop i.toNat) hH e (ins_list its u2 i h0 (by omega)) ((r.take i.toNat).append (.cons ru (r.drop i.toNat))) ?_, rfl, q⟩
  simp only [List.length_append, List.length_cons, List.length_take, List.length_drop]
  omega
end
end L2

/-! a list held against the empty list -/
namespace L2
open PySem PySem.Spec PyProof.Rows
section
variable {X : Cx}
def rEqE (K : PySem.W.Frag) : R2 := fun x y H Q => ∃ p q xs, x = .ref p ∧ y = .ref q ∧ SqL K H p xs ∧ SqL K H q [] ∧ Q (.bl (decide (xs = []))) H
theorem op_eqE (hu : X.A.units + 64 < cLine) : OpR X (compareOp .Eq) (rEqE X.K) := by
  intro pins s σ H x y v u Q I rx ry h
  obtain ⟨p, p', xs, rfl, rfl, h1, h2, q⟩ := h
  cases rx
  cases ry
  obtain ⟨its, r1, pl1, _⟩ := I.list h1
  obtain ⟨its2, r2, pl2, _⟩ := I.list h2
  have l1 := r1.length
  have l2 := r2.length
  have e2 : its2 = [] := List.eq_nil_of_length_eq_zero (by simpa using l2.symm)
  subst e2
  by_cases c : xs = []
  · subst c
    have e1 : its = [] := List.eq_nil_of_length_eq_zero (by simpa using l1.symm)
    subst e1
    refine SeqAt.eq_listAt (e := fun _ => true) pl1.isList pl2.isList rfl (by omega) (fun j g1 g2 => absurd g1 (by simp)) ⟨.bl _, H, I, rfl, ?_⟩
    rw [decide_eq_true rfl] at q
    exact q
  · have hl : 0 < xs.length := List.length_pos_iff.mpr c
    refine SeqAt.eq_list_lengthsAt pl1.isList pl2.isList ?_ (by omega) ⟨.bl _, H, I, rfl, ?_⟩
    · simp; intro e; rw [e] at l1; exact c (List.eq_nil_of_length_eq_zero l1)
    · rw [decide_eq_false c] at q; exact q
end
end L2

set_option maxHeartbeats 4000000
local macro_rules | `(tactic| walk_at "rdc") => `(tactic| first
  | (show (0 : Int) < _; omega)
  | (show (0 : Int) ≤ _; omega)
  | (show (0 : Int) < _ ∧ _ < 2 ^ 100; omega)
  | (show (-(2 ^ 64) < _ ∧ _ < 2 ^ 64) ∨ (-(2 ^ 64) < _ ∧ _ < 2 ^ 64); omega)
  | (show (0 : Int) ≤ _ ∧ _ ≤ 1000000 ∧ Int.natAbs _ < 2 ^ 64; omega))
local macro_rules | `(tactic| walk_at "rd1") => `(tactic| first
  | (with_reducible refine' L2.rd_seq ?_) | (with_reducible refine' L2.rd_asg ?_) | ((with_reducible refine' L2.rd_gname ?_); (try dsimp only [List.set_cons_zero, List.set_cons_succ])) | (with_reducible refine' L2.rd_ret ?_) | (with_reducible refine' L2.rd_retN ?_) | (with_reducible refine' L2.rd_next ?_) | (with_reducible refine' L2.rd_drop ?_) | (with_reducible refine' L2.rd_ifS ?_)
  | (with_reducible refine' L2.rd_op ?_) | (with_reducible refine' L2.rd_un ?_) | (with_reducible refine' L2.rd_c ?_) | ((with_reducible refine' L2.rd_var ?rdv ?_); (case rdv => rfl))
  | (with_reducible refine' L2.rd_I0 ?_) | (with_reducible refine' L2.rd_U ?_) | (with_reducible refine' L2.rd_eqI ?_) | (with_reducible refine' L2.rd_neI ?_) | (with_reducible refine' L2.rd_eqB ?_) | (with_reducible refine' L2.rd_neB ?_)
  | (with_reducible refine' L2.rd_test ?_) | (with_reducible refine' L2.rd_tB ?_) | (with_reducible refine' L2.rd_and ?_) | (with_reducible refine' L2.rd_or ?_) | (with_reducible refine' L2.rd_not ?_) | (with_reducible refine' L2.rd_andV ?_) | (with_reducible refine' L2.rd_orV ?_) | (with_reducible refine' L2.rd_notV ?_) | (with_reducible refine' L2.rd_chain ?_) | (with_reducible refine' L2.rd_ifE ?_)
  | (with_reducible refine' L2.rd_nil ?_) | (with_reducible refine' L2.rd_cons ?_) | (with_reducible refine' L2.rd_call ?_) | (with_reducible refine' L2.rd_cb ?_) | (with_reducible refine' L2.rd_lst ?_) | (with_reducible refine' L2.rd_tup ?_) | (with_reducible refine' L2.rd_bm0 ?_) | (with_reducible refine' L2.rd_bm ?_) | (with_reducible refine' L2.rd_augS ?_) | ((with_reducible refine' L2.rd_ip ?_); (try dsimp only [List.set_cons_zero, List.set_cons_succ])) | ((with_reducible refine' L2.rd_aug ?rdv ?_); (case rdv => rfl)) | (with_reducible refine' L2.rd_izip ?_) | (with_reducible refine' L2.rd_ivals ?_) | (with_reducible refine' L2.rd_dget2 ?_) | (with_reducible refine' L2.rd_dput ?_) | (with_reducible refine' L2.rd_dget ?_) | (with_reducible refine' L2.rd_dnewK ?_) | (with_reducible refine' L2.rd_sortK ?_) | (with_reducible refine' L2.rd_sortLam ?_) | (with_reducible refine' L2.rd_orG ?_) | (with_reducible refine' L2.rd_isB ?_) | (with_reducible refine' L2.rd_gsub ?_)
  | (with_reducible refine' L2.rd_sl ?_) | (with_reducible refine' L2.rd_nop ?_) | (with_reducible refine' L2.rd_part ?_) | (with_reducible refine' L2.rd_bl ?_) | (with_reducible refine' L2.rd_int ?_)
  | (with_reducible refine' L2.rd_iteT ?_) | (with_reducible refine' L2.rd_iteF ?_) | (with_reducible refine' L2.rd_iteNF ?_) | (with_reducible refine' L2.rd_iteNT ?_)
  | (with_reducible refine' L2.rd_for ?_) | (with_reducible refine' L2.rd_rng1 ?_) | (with_reducible refine' L2.rd_rng2 ?_) | (with_reducible refine' L2.rd_ilist ?_) | (with_reducible refine' L2.rd_comp ?_) | (with_reducible refine' L2.rd_yes ?_)
  | (with_reducible refine' L2.rd_itup ?_) | (with_reducible refine' L2.rd_istr ?_) | (with_reducible refine' L2.rd_leS ?_) | (with_reducible refine' L2.rd_inS ?_)
  | (with_reducible refine' L2.rd_abs ?_) | (with_reducible refine' L2.rd_max ?_) | (with_reducible refine' L2.rd_min ?_) | (with_reducible refine' L2.rd_bitlen ?_)
  | (with_reducible refine' L2.rd_rev ?_) | (with_reducible refine' L2.rd_ienum ?_) | (with_reducible refine' L2.rd_intB ?_)
  | ((with_reducible refine' L2.rd_ixL (L2.SqL.of ?rdh) ?rde ?_); (case rdh => assumption); (case rde => rfl))
  | ((with_reducible refine' L2.rd_set0 ?rdh ?_); (case rdh => assumption))
  | ((with_reducible refine' L2.rd_set1 ?rdh ?_); (case rdh => assumption))
  | ((with_reducible refine' L2.rd_setL ?rdh ?rde ?_); (case rdh => assumption); (case rde => rfl))
  | ((with_reducible refine' L2.rd_ixT (L2.SqT.of ?rdh) ?rde ?_); (case rdh => assumption); (case rde => rfl))
  | ((with_reducible refine' L2.rd_lenL (L2.SqL.of ?rdh) ?_); (case rdh => assumption))
  | ((with_reducible refine' L2.rd_I ?rdc ?_); (case rdc => walk_at "rdc")))
local macro_rules | `(tactic| walk_at "rd") => `(tactic| repeat walk_at "rd1")
namespace Law
open PySem PySem.Spec PyProof.Rows L2
def top (i : Nat) : Stmt := PySem.Challenge.pw_tailrooms_k63_puts_spoilt_anywhere.main.body.getD i (.Pass ⟨0, 0, 0, 0⟩)
abbrev s_is_whole : Stmt := top 1
abbrev s_rows_for : Stmt := top 3
abbrev s_rows_behind : Stmt := top 4
abbrev s_greatest_spill : Stmt := top 6
abbrev s_least_spill : Stmt := top 7
abbrev s_gap : Stmt := top 8
abbrev s_cheap_rooms : Stmt := top 9
abbrev s_spill_behind : Stmt := top 10
abbrev s_is_put : Stmt := top 11
abbrev s_is_greatest : Stmt := top 12
abbrev s_is_least : Stmt := top 13
abbrev s__law_open : Stmt := top 15
abbrev s__law_draw : Stmt := top 16
abbrev s__law_far : Stmt := top 17
abbrev s__law_world : Stmt := top 18
abbrev s__law_spill : Stmt := top 19
abbrev s__law_needs : Stmt := top 20
abbrev s__law_greatest : Stmt := top 21
abbrev s__law_least : Stmt := top 22
abbrev s__law_step : Stmt := top 23
abbrev s__law_is_put : Stmt := top 24
abbrev s__law_right : Stmt := top 25
abbrev s_law : Stmt := top 26
theorem sc_is_whole : FnScope ["thing"] ["thing"] (defScope s_is_whole) := ⟨rfl, rfl, rfl, by decide +kernel, rfl, by decide +kernel, by decide +kernel⟩
theorem sc_rows_for : FnScope ["many", "wide"] ["many", "wide"] (defScope s_rows_for) := ⟨rfl, rfl, rfl, by decide +kernel, rfl, by decide +kernel, by decide +kernel⟩
theorem sc_rows_behind : FnScope ["many", "wide"] ["many", "wide"] (defScope s_rows_behind) := ⟨rfl, rfl, rfl, by decide +kernel, rfl, by decide +kernel, by decide +kernel⟩
theorem sc_greatest_spill : FnScope ["counts", "wide", "more", "put", "left", "cheap", "room", "needed"] ["counts", "wide", "more"] (defScope s_greatest_spill) := ⟨rfl, rfl, rfl, by decide +kernel, rfl, by decide +kernel, by decide +kernel⟩
theorem sc_least_spill : FnScope ["counts", "wide", "more", "put", "left", "many", "goes"] ["counts", "wide", "more"] (defScope s_least_spill) := ⟨rfl, rfl, rfl, by decide +kernel, rfl, by decide +kernel, by decide +kernel⟩
theorem sc_gap : FnScope ["many", "wide"] ["many", "wide"] (defScope s_gap) := ⟨rfl, rfl, rfl, by decide +kernel, rfl, by decide +kernel, by decide +kernel⟩
theorem sc_cheap_rooms : FnScope ["counts", "wide", "rooms"] ["counts", "wide"] (defScope s_cheap_rooms) := ⟨rfl, rfl, rfl, by decide +kernel, rfl, by decide +kernel, by decide +kernel⟩
theorem sc_spill_behind : FnScope ["counts", "wide", "put"] ["counts", "wide", "put"] (defScope s_spill_behind) := ⟨rfl, rfl, rfl, by decide +kernel, rfl, by decide +kernel, by decide +kernel⟩
theorem sc_is_put : FnScope ["counts", "more", "thing"] ["counts", "more", "thing"] (defScope s_is_put) := ⟨rfl, rfl, rfl, by decide +kernel, rfl, by decide +kernel, by decide +kernel⟩
theorem sc_is_greatest : FnScope ["counts", "wide", "more", "thing"] ["counts", "wide", "more", "thing"] (defScope s_is_greatest) := ⟨rfl, rfl, rfl, by decide +kernel, rfl, by decide +kernel, by decide +kernel⟩
theorem sc_is_least : FnScope ["counts", "wide", "more", "thing"] ["counts", "wide", "more", "thing"] (defScope s_is_least) := ⟨rfl, rfl, rfl, by decide +kernel, rfl, by decide +kernel, by decide +kernel⟩
theorem sc__law_open : FnScope ["_law_script", "_law_place", "_law_cells", "_law_at", "_law_digits"] ["_law_script", "_law_place"] (defScope s__law_open) := ⟨rfl, rfl, rfl, by decide +kernel, rfl, by decide +kernel, by decide +kernel⟩
theorem sc__law_draw : FnScope ["_law_hand", "_law_many", "_law_got", "_law_k", "_law_number"] ["_law_hand", "_law_many"] (defScope s__law_draw) := ⟨rfl, rfl, rfl, by decide +kernel, rfl, by decide +kernel, by decide +kernel⟩
theorem sc__law_far : FnScope ["_law_hand", "_law_many", "_law_number", "_law_k"] ["_law_hand", "_law_many"] (defScope s__law_far) := ⟨rfl, rfl, rfl, by decide +kernel, rfl, by decide +kernel, by decide +kernel⟩
theorem sc__law_world : FnScope ["_law_hand", "_law_wide", "_law_way", "_law_more", "_law_sizes", "_law_k", "_law_many"] ["_law_hand"] (defScope s__law_world) := ⟨rfl, rfl, rfl, by decide +kernel, rfl, by decide +kernel, by decide +kernel⟩
theorem sc__law_spill : FnScope ["_law_sizes", "_law_wide", "_law_put"] ["_law_sizes", "_law_wide", "_law_put"] (defScope s__law_spill) := ⟨rfl, rfl, rfl, by decide +kernel, rfl, by decide +kernel, by decide +kernel⟩
theorem sc__law_needs : FnScope ["_law_sizes", "_law_wide"] ["_law_sizes", "_law_wide"] (defScope s__law_needs) := ⟨rfl, rfl, rfl, by decide +kernel, rfl, by decide +kernel, by decide +kernel⟩
theorem sc__law_greatest : FnScope ["_law_sizes", "_law_wide", "_law_more", "_law_rows", "_law_needs_here", "_law_left", "_law_need"] ["_law_sizes", "_law_wide", "_law_more"] (defScope s__law_greatest) := ⟨rfl, rfl, rfl, by decide +kernel, rfl, by decide +kernel, by decide +kernel⟩
theorem sc__law_least : FnScope ["_law_sizes", "_law_wide", "_law_more", "_law_rows", "_law_free"] ["_law_sizes", "_law_wide", "_law_more"] (defScope s__law_least) := ⟨rfl, rfl, rfl, by decide +kernel, rfl, by decide +kernel, by decide +kernel⟩
theorem sc__law_step : FnScope ["_law_hand", "_law_put", "_law_way", "_law_at", "_law_other", "_law_many"] ["_law_hand", "_law_put"] (defScope s__law_step) := ⟨rfl, rfl, rfl, by decide +kernel, rfl, by decide +kernel, by decide +kernel⟩
theorem sc__law_is_put : FnScope ["_law_sizes", "_law_more", "_law_thing", "_law_one"] ["_law_sizes", "_law_more", "_law_thing"] (defScope s__law_is_put) := ⟨rfl, rfl, rfl, by decide +kernel, rfl, by decide +kernel, by decide +kernel⟩
theorem sc__law_right : FnScope ["_law_sizes", "_law_wide", "_law_more", "_law_thing", "_law_due", "_law_rows", "_law_handed", "_law_kept", "_law_told"] ["_law_sizes", "_law_wide", "_law_more", "_law_thing"] (defScope s__law_right) := ⟨rfl, rfl, rfl, by decide +kernel, rfl, by decide +kernel, by decide +kernel⟩
theorem sc_law : FnScope ["_law_script", "_law_place", "_law_hand", "_law_which", "_law_sizes", "_law_wide", "_law_more", "_law_high", "_law_low", "_law_puts", "_law_put", "_law_step_here", "_law_thing"] ["_law_script"] (defScope s_law) := ⟨rfl, rfl, rfl, by decide +kernel, rfl, by decide +kernel, by decide +kernel⟩
theorem st_is_whole (x0 : V) : start ["thing"] [x0] = [some x0] := rfl
theorem st_rows_for (x0 x1 : V) : start ["many", "wide"] [x0, x1] = [some x0, some x1] := rfl
theorem st_rows_behind (x0 x1 : V) : start ["many", "wide"] [x0, x1] = [some x0, some x1] := rfl
theorem st_greatest_spill (x0 x1 x2 : V) : start ["counts", "wide", "more", "put", "left", "cheap", "room", "needed"] [x0, x1, x2] = [some x0, some x1, some x2, none, none, none, none, none] := rfl
theorem st_least_spill (x0 x1 x2 : V) : start ["counts", "wide", "more", "put", "left", "many", "goes"] [x0, x1, x2] = [some x0, some x1, some x2, none, none, none, none] := rfl
theorem st_gap (x0 x1 : V) : start ["many", "wide"] [x0, x1] = [some x0, some x1] := rfl
theorem st_cheap_rooms (x0 x1 : V) : start ["counts", "wide", "rooms"] [x0, x1] = [some x0, some x1, none] := rfl
theorem st_spill_behind (x0 x1 x2 : V) : start ["counts", "wide", "put"] [x0, x1, x2] = [some x0, some x1, some x2] := rfl
theorem st_is_put (x0 x1 x2 : V) : start ["counts", "more", "thing"] [x0, x1, x2] = [some x0, some x1, some x2] := rfl
theorem st_is_greatest (x0 x1 x2 x3 : V) : start ["counts", "wide", "more", "thing"] [x0, x1, x2, x3] = [some x0, some x1, some x2, some x3] := rfl
theorem st_is_least (x0 x1 x2 x3 : V) : start ["counts", "wide", "more", "thing"] [x0, x1, x2, x3] = [some x0, some x1, some x2, some x3] := rfl
theorem st__law_open (x0 x1 : V) : start ["_law_script", "_law_place", "_law_cells", "_law_at", "_law_digits"] [x0, x1] = [some x0, some x1, none, none, none] := rfl
theorem st__law_draw (x0 x1 : V) : start ["_law_hand", "_law_many", "_law_got", "_law_k", "_law_number"] [x0, x1] = [some x0, some x1, none, none, none] := rfl
theorem st__law_far (x0 x1 : V) : start ["_law_hand", "_law_many", "_law_number", "_law_k"] [x0, x1] = [some x0, some x1, none, none] := rfl
theorem st__law_world (x0 : V) : start ["_law_hand", "_law_wide", "_law_way", "_law_more", "_law_sizes", "_law_k", "_law_many"] [x0] = [some x0, none, none, none, none, none, none] := rfl
theorem st__law_spill (x0 x1 x2 : V) : start ["_law_sizes", "_law_wide", "_law_put"] [x0, x1, x2] = [some x0, some x1, some x2] := rfl
theorem st__law_needs (x0 x1 : V) : start ["_law_sizes", "_law_wide"] [x0, x1] = [some x0, some x1] := rfl
theorem st__law_greatest (x0 x1 x2 : V) : start ["_law_sizes", "_law_wide", "_law_more", "_law_rows", "_law_needs_here", "_law_left", "_law_need"] [x0, x1, x2] = [some x0, some x1, some x2, none, none, none, none] := rfl
theorem st__law_least (x0 x1 x2 : V) : start ["_law_sizes", "_law_wide", "_law_more", "_law_rows", "_law_free"] [x0, x1, x2] = [some x0, some x1, some x2, none, none] := rfl
theorem st__law_step (x0 x1 : V) : start ["_law_hand", "_law_put", "_law_way", "_law_at", "_law_other", "_law_many"] [x0, x1] = [some x0, some x1, none, none, none, none] := rfl
theorem st__law_is_put (x0 x1 x2 : V) : start ["_law_sizes", "_law_more", "_law_thing", "_law_one"] [x0, x1, x2] = [some x0, some x1, some x2, none] := rfl
theorem st__law_right (x0 x1 x2 x3 : V) : start ["_law_sizes", "_law_wide", "_law_more", "_law_thing", "_law_due", "_law_rows", "_law_handed", "_law_kept", "_law_told"] [x0, x1, x2, x3] = [some x0, some x1, some x2, some x3, none, none, none, none, none] := rfl
theorem st_law (x0 : V) : start ["_law_script", "_law_place", "_law_hand", "_law_which", "_law_sizes", "_law_wide", "_law_more", "_law_high", "_law_low", "_law_puts", "_law_put", "_law_step_here", "_law_thing"] [x0] = [some x0, none, none, none, none, none, none, none, none, none, none, none, none] := rfl
abbrev lp_cheap_rooms : Pos := ⟨34, 29, 34, 65⟩
abbrev TB_cheap_rooms (K : PySem.W.Frag) (H : Hp) : Prop := Tb (tbP K "cheap_rooms") lp_cheap_rooms (("cheap_rooms" : Str) ++ ".<locals>." ++ "<lambda>") H
structure Bl (mg : Str → Option Value) : Prop where
  isinstance : mg "isinstance" = none
  int : mg "int" = none
  bool : mg "bool" = none
  max : mg "max" = none
  len : mg "len" = none
  min : mg "min" = none
  sorted : mg "sorted" = none
  range : mg "range" = none
  sum : mg "sum" = none
  zip : mg "zip" = none
  all : mg "all" = none
  list : mg "list" = none
  abs : mg "abs" = none
  tuple : mg "tuple" = none
/-! ### the data -/
/-- a hand: the digits that are left, a counter of at most N, the cells -/
structure Hand (H : Hp) (p : Addr) (N : Nat) : Prop where
  ex : ∃ (l : Addr) (d c : Int) (ns : List Int), H p = some (.lst [.int d, .int c, .ref l]) ∧ H l = some (.lst (ns.map V.int)) ∧ 0 ≤ c ∧ c ≤ N ∧ ns ≠ []
theorem Hand.mono {H : Hp} {p : Addr} {N M : Nat} (h : Hand H p N) (hm : N ≤ M) : Hand H p M := by
  obtain ⟨l, d, c, ns, h1, h2, h3, h4, h5⟩ := h.ex
  exact ⟨l, d, c, ns, h1, h2, h3, by omega, h5⟩
/-- where a hand's cells stand -/
def cellsOf (H : Hp) (p : Addr) : Option Addr := match H p with
  | some (.lst [_, _, .ref l]) => some l
  | _ => none
theorem cells_of {H : Hp} {p l : Addr} {a b : V} (h : H p = some (.lst [a, b, .ref l])) : cellsOf H p = some l := by unfold cellsOf; rw [h]
/-- all but what stands at p is as it was; the cells stand where they stood -/
def Kp (H H' : Hp) (p : Addr) : Prop := (∀ b o, H b = some o → b ≠ p → H' b = some o) ∧ cellsOf H' p = cellsOf H p
theorem Kp.refl (H : Hp) (p : Addr) : Kp H H p := ⟨fun _ _ h _ => h, rfl⟩
theorem Kp.trans {H H1 H2 : Hp} {p : Addr} (a : Kp H H1 p) (b : Kp H1 H2 p) : Kp H H2 p := ⟨fun c o h n => b.1 c o (a.1 c o h n) n, b.2.trans a.2⟩
theorem Kp.hand {H : Hp} {p l : Addr} {a b a' b' : V} (h : H p = some (.lst [a, b, .ref l])) : Kp H (upd H p (.lst [a', b', .ref l])) p :=
  ⟨fun b u h n => by rw [upd_ne n]; exact h, by rw [cells_of upd_same, cells_of h]⟩
theorem Kp.of {H H' : Hp} {p : Addr} {N : Nat} (h : Same H H') (hh : Hand H p N) : Kp H H' p := by
  obtain ⟨l, d, c, ns, h1, _⟩ := hh.ex
  exact ⟨fun b o q _ => h b o q, by rw [cells_of h1, cells_of (h _ _ h1)]⟩
theorem Kp.new {H H1 H2 : Hp} {p : Addr} (a : Same H H1) (n : H p = none) (b : Kp H1 H2 p) : Same H H2 := fun c o h => b.1 c o (a c o h) (ne_of_none h n)
theorem Kp.free {H H' : Hp} {p l : Addr} (k : Kp H H' p) (n : H' l = none) (h : l ≠ p) : H l = none := by
  cases e : H l with
  | none => rfl
  | some o => rw [k.1 _ _ e h] at n; cases n
/-- a further object is written -/
theorem Hand.upd {H : Hp} {p c : Addr} {N : Nat} {o : HO} (h : Hand H p N) (n : c ≠ p) (nl : cellsOf H p ≠ some c) : Hand (L2.upd H c o) p N := by
  obtain ⟨l, d, k, ns, h1, h2, r⟩ := h.ex
  have ne : l ≠ c := fun z => nl (by rw [cells_of h1, z])
  exact ⟨l, d, k, ns, by rw [upd_ne n.symm]; exact h1, by rw [upd_ne ne]; exact h2, r⟩
theorem cells_new {H : Hp} {p c : Addr} {N : Nat} (h : Hand H p N) (n : H c = none) : cellsOf H p ≠ some c := by
  obtain ⟨l, d, k, ns, h1, h2, r⟩ := h.ex
  rw [cells_of h1]
  intro z
  exact ne_of_none h2 n (Option.some.inj z)
theorem cells_upd {H : Hp} {p c : Addr} {o : HO} (n : c ≠ p) : cellsOf (L2.upd H c o) p = cellsOf H p := by unfold cellsOf; rw [upd_ne n.symm]
theorem Hand.same {H H' : Hp} {p : Addr} {N : Nat} (h : Hand H p N) (s : Same H H') : Hand H' p N := by
  obtain ⟨l, d, c, ns, h1, h2, r⟩ := h.ex
  exact ⟨l, d, c, ns, s _ _ h1, s _ _ h2, r⟩
theorem len1 {α : Type} {a : α} : [a].length = 1 := rfl
theorem nsMod {ns : List Int} (h : ns ≠ []) (k : Int) : ∃ v, atI (ns.map V.int) (k % ((ns.map V.int).length : Int)) = some (.int v) := by
  have hl : 0 < ns.length := List.length_pos_iff.mpr h
  rw [List.length_map]
  have h0 : 0 ≤ k % (ns.length : Int) := Int.emod_nonneg _ (by omega)
  have h1 : k % (ns.length : Int) < ns.length := Int.emod_lt_of_pos _ (by omega)
  have ek : k % (ns.length : Int) = (((k % (ns.length : Int)).toNat : Nat) : Int) := by omega
  have hk : (k % (ns.length : Int)).toNat < ns.length := by omega
  obtain ⟨j, hj⟩ : ∃ j : Nat, k % (ns.length : Int) = (j : Int) := ⟨_, ek⟩
  have hk2 : j < ns.length := by omega
  refine ⟨ns[j], ?_⟩
  rw [hj]
  exact atI_nat (by rw [List.getElem?_map, List.getElem?_eq_getElem hk2] <;> rfl)
theorem hand_ne {H : Hp} {p l : Addr} {d c : Int} {ns : List Int} (hp : H p = some (.lst [.int d, .int c, .ref l])) (hl : H l = some (.lst (ns.map V.int))) : l ≠ p := by
  refine ne_of hl hp fun z => ?_
  injection z with z
  have q := congrArg (fun x => x[2]?) z
  rw [List.getElem?_map] at q
  cases e : ns[2]? with
  | none => rw [e] at q; cases q
  | some v => rw [e] at q; cases q
theorem len_pos {ns : List Int} (h : ns ≠ []) : (0 : Int) < ((ns.map V.int).length : Int) := by
  rw [List.length_map]
  have := List.length_pos_iff.mpr h
  omega
theorem pow2_cast (a : Nat) : (2 : Int) ^ a = ((2 ^ a : Nat) : Int) := by
  induction a with
  | zero => rfl
  | succ a ih => rw [Int.pow_succ, Nat.pow_succ, ih]; push_cast; rfl
theorem pow2_le {a b : Nat} (h : a ≤ b) : (2 : Int) ^ a ≤ 2 ^ b := by
  rw [pow2_cast, pow2_cast]
  exact Int.ofNat_le.mpr (Nat.pow_le_pow_right (by decide) h)
theorem pow2_pos (a : Nat) : (0 : Int) < 2 ^ a := by
  rw [pow2_cast]
  have := Nat.two_pow_pos a
  omega
/-- a new object, named: generalize e : upd H1 l _ = H2, then this -/
theorem newo {H1 H2 : Hp} {l : Addr} {o : HO} (n : H1 l = none) (e : L2.upd H1 l o = H2) : H2 l = some o ∧ Same H1 H2 := by
  subst e; exact ⟨upd_same, same_new n _⟩
theorem newl {H H1 H2 : Hp} {p l : Addr} {N : Nat} {o : HO} (hh : Hand H1 p N) (n : H1 l = none) (k : Kp H H1 p) (e : L2.upd H1 l o = H2) : Hand H2 p N ∧ Kp H H2 p ∧ H2 l = some o ∧ Same H1 H2 := by
  subst e; exact ⟨hh.same (same_new n _), k.trans (Kp.of (same_new n _) hh), upd_same, same_new n _⟩
theorem Hand.ne {H : Hp} {p l : Addr} {N : Nat} (hh : Hand H p N) (n : H l = none) : l ≠ p := by
  obtain ⟨l1, d, c, ns, h1, _⟩ := hh.ex
  exact (ne_of_none h1 n).symm
/-- a list of ints -/
def AI (xs : List V) : Prop := ∀ x ∈ xs, ∃ z, x = V.int z
theorem AI.nil : AI [] := fun _ h => by cases h
theorem AI.append {xs ys : List V} (a : AI xs) (b : AI ys) : AI (xs ++ ys) := fun x h => by
  rcases List.mem_append.mp h with h | h
  · exact a x h
  · exact b x h
theorem AI.push {xs : List V} (a : AI xs) (z : Int) : AI (xs ++ [.int z]) := a.append fun x h => ⟨z, by simpa using h⟩
theorem AI.ints (ns : List Int) : AI (ns.map V.int) := fun x h => by
  obtain ⟨z, _, e⟩ := List.mem_map.mp h
  exact ⟨z, e.symm⟩
theorem AI.cut {xs : List V} (a : AI xs) (lo hi : Option Int) : AI (cutV xs lo hi) := fun x h => by
  unfold cutV at h
  exact a x (List.mem_of_mem_drop (List.mem_of_mem_take h))
/-- while a hand is drawn from, a new list grows -/
structure CK (H0 : Hp) (p D : Addr) (N : Nat) (ys : List V) (H' : Hp) : Prop where
  hh : Hand H' p N
  lat : H' D = some (.lst ys)
  kp : Kp H0 H' p
  n0 : H0 D = none
  np : D ≠ p
  nc : cellsOf H0 p ≠ some D
theorem CK.start {H0 : Hp} {p D : Addr} {N : Nat} (hh : Hand H0 p N) (n : H0 D = none) {ys : List V} : CK H0 p D N ys (L2.upd H0 D (.lst ys)) where
  hh := hh.same (same_new n _)
  lat := upd_same
  kp := Kp.of (same_new n _) hh
  n0 := n
  np := by
    obtain ⟨l1, d, c, ns, h1, _⟩ := hh.ex
    exact (ne_of_none h1 n).symm
  nc := cells_new hh n
theorem CK.draw {H0 H' H2 : Hp} {p D : Addr} {N M : Nat} {ys : List V} (c : CK H0 p D N ys H') (k : Kp H' H2 p) (hh : Hand H2 p M) : CK H0 p D M ys H2 :=
  ⟨hh, k.1 _ _ c.lat c.np, c.kp.trans k, c.n0, c.np, c.nc⟩
theorem CK.push {H0 H' : Hp} {p D : Addr} {N : Nat} {ys zs : List V} (c : CK H0 p D N ys H') : CK H0 p D N zs (L2.upd H' D (.lst zs)) where
  hh := c.hh.upd c.np (by rw [c.kp.2]; exact c.nc)
  lat := upd_same
  kp := ⟨fun b o h n => by rw [upd_ne (ne_of_none h c.n0)]; exact c.kp.1 _ _ h n, by rw [cells_upd c.np]; exact c.kp.2⟩
  n0 := c.n0
  np := c.np
  nc := c.nc
theorem CK.new {H0 H' H2 : Hp} {p D l : Addr} {N : Nat} {ys : List V} {o : HO} (c : CK H0 p D N ys H') (n : H' l = none) (e : L2.upd H' l o = H2) : CK H0 p D N ys H2 ∧ H2 l = some o ∧ l ≠ p ∧ l ≠ D := by
  subst e
  exact ⟨⟨c.hh.same (same_new n _), same_new n _ _ _ c.lat, c.kp.trans (Kp.of (same_new n _) c.hh), c.n0, c.np, c.nc⟩, upd_same, c.hh.ne n, (ne_of_none c.lat n).symm⟩
/-! ### the promises -/
def sp__law_draw (K : PySem.W.Frag) : Sp := fun vs H Q _ => ∃ (p : Addr) (N : Nat) (n : Int), vs = [.ref p, .int n] ∧ Hand H p N ∧ N < 2 ^ 60 ∧ 0 < n ∧ n < 2 ^ 100 ∧
  ∀ (r : Int) (H' : Hp), 0 ≤ r → r < n → Hand H' p (N + 1) → Kp H H' p → Q (.int r) H'
def sp__law_far (K : PySem.W.Frag) : Sp := fun vs H Q _ => ∃ (p : Addr) (N : Nat) (n : Int), vs = [.ref p, .int n] ∧ Hand H p N ∧ N + 10 < 2 ^ 60 ∧ 0 < n ∧ n < 2 ^ 100 ∧
  ∀ (r : Int) (H' : Hp), 0 ≤ r → r < n → Hand H' p (N + 7) → Kp H H' p → Q (.int r) H'
def sp__law_power (K : PySem.W.Frag) : Sp := fun vs H Q _ => ∃ (m : Nat), vs = [.int m] ∧ m ≤ 1000 ∧ Q (.int (2 ^ m)) H
def sp__law_open (K : PySem.W.Frag) : Sp := fun vs H Q _ => ∃ (a : Addr) (ns : List Int) (pl : Int), vs = [.ref a, .int pl] ∧ SqL K H a (ns.map V.int) ∧ ns.length ≤ 63 ∧ 0 ≤ pl ∧ pl ≤ 1000 ∧
  ∀ (p : Addr) (H' : Hp), H p = none → Same H H' → Hand H' p 1100000 → Q (.ref p) H'
def sp__law_key (K : PySem.W.Frag) : Sp := fun vs H Q _ => ∃ (p : Addr) (N : Nat), vs = [.ref p] ∧ Hand H p N ∧ N + 30 < 2 ^ 60 ∧
  ∀ (r : Int) (H' : Hp), 0 ≤ r → r < 2 ^ 60 → Hand H' p (N + 20) → Kp H H' p → Q (.int r) H'
/-- law's: a list of at most 63 ints is handed in, True comes out -/
def sp_law (K : PySem.W.Frag) : Sp := fun vs H Q _ => ∃ (a : Addr) (ns : List Int), vs = [.ref a] ∧ SqL K H a (ns.map V.int) ∧ ns.length ≤ 63 ∧ TB_cheap_rooms K H ∧ ∀ H', Q (.bl true) H'
theorem up_div {m w g : Int} (hw : 1 ≤ w) (hm : 0 ≤ m) (hg : g = max 1 ((m + w - 1) / w)) : 1 ≤ g ∧ m ≤ w * g ∧ (g = 1 ∨ w * (g - 1) < m) := by
  have h1 := Int.emod_add_mul_ediv (m + w - 1) w
  have h2 := Int.emod_nonneg (m + w - 1) (show w ≠ 0 by omega)
  have h3 := Int.emod_lt_of_pos (m + w - 1) (show 0 < w by omega)
  generalize (m + w - 1) / w = q at h1 hg
  generalize (m + w - 1) % w = r at h1 h2 h3
  have e : w * (g - 1) = w * g - w := by rw [Int.mul_sub, Int.mul_one]
  refine ⟨by omega, ?_, ?_⟩
  · by_cases c : 1 ≤ q
    · have : g = q := by omega
      rw [this]; omega
    · have : g = 1 := by omega
      rw [this, Int.mul_one]
      have : w * q ≤ 0 := Int.mul_nonpos_of_nonneg_of_nonpos (by omega) (by omega)
      omega
  · by_cases c : 2 ≤ q
    · right
      have : g = q := by omega
      rw [e, this]; omega
    · left; omega
def rfor (m w : Int) : Int := max 1 ((m + w - 1) / w)
theorem cut_mid {xs : List V} {a b : Nat} (h : a ≤ b) : cutV xs (some (a : Int)) (some (b : Int)) = (xs.drop a).take (b - a) := by
  unfold cutV
  rw [HT.sIx_nat, HT.sIx_nat]
  by_cases c : a ≤ xs.length
  · rw [Nat.min_eq_left c]
    by_cases d : b ≤ xs.length
    · rw [Nat.min_eq_left d]
    · rw [Nat.min_eq_right (by omega), List.take_of_length_le (by rw [List.length_drop]; omega), List.take_of_length_le (by rw [List.length_drop]; omega)]
  · rw [List.drop_eq_nil_of_le (by omega), List.drop_eq_nil_of_le (by omega)]
    simp
def rowsN (ms : List Int) (w n : Nat) : List (List Int) := (List.range n).map fun i => (ms.drop (i * w)).take w
theorem rowsN_succ (ms : List Int) (w n : Nat) : rowsN ms w (n + 1) = rowsN ms w n ++ [(ms.drop (n * w)).take w] := by
  unfold rowsN; rw [List.range_succ, List.map_append]; rfl
theorem rowsN_len (ms : List Int) (w n : Nat) : (rowsN ms w n).length = n := by unfold rowsN; rw [List.length_map, List.length_range]
def rowsV (ms : List Int) (w : Nat) : List (List Int) := rowsN ms w (rfor ms.length w).toNat
/-- the lists at these places -/
def Ls (H : Hp) : List Addr → List (List Int) → Prop
  | [], [] => True
  | a :: as, r :: rs => H a = some (.lst (r.map V.int)) ∧ Ls H as rs
  | _, _ => False
theorem Ls.same {H H' : Hp} : ∀ {as : List Addr} {rs : List (List Int)}, (∀ a ∈ as, ∀ o, H a = some o → H' a = some o) → Ls H as rs → Ls H' as rs
  | [], [], _, _ => trivial
  | a :: _, _ :: _, s, ⟨h, t⟩ => ⟨s a List.mem_cons_self _ h, Ls.same (fun b hb => s b (List.mem_cons_of_mem _ hb)) t⟩
theorem Ls.len {H : Hp} : ∀ {as : List Addr} {rs : List (List Int)}, Ls H as rs → as.length = rs.length
  | [], [], _ => rfl
  | _ :: _, _ :: _, ⟨_, t⟩ => congrArg (· + 1) (Ls.len t)
theorem Ls.snoc {H : Hp} {a : Addr} {r : List Int} (hb : H a = some (.lst (r.map V.int))) : ∀ {as : List Addr} {rs : List (List Int)}, Ls H as rs → Ls H (as ++ [a]) (rs ++ [r])
  | [], [], _ => ⟨hb, trivial⟩
  | _ :: _, _ :: _, ⟨h, t⟩ => ⟨h, Ls.snoc hb t⟩
theorem Ls.get {H : Hp} : ∀ {as : List Addr} {rs : List (List Int)} {i : Nat} {a : Addr}, Ls H as rs → as[i]? = some a → ∃ r, rs[i]? = some r ∧ H a = some (.lst (r.map V.int))
  | [], [], _, _, _, e => by cases e
  | _ :: _, r :: _, 0, _, ⟨h, _⟩, e => by cases e; exact ⟨r, rfl, h⟩
  | _ :: _, _ :: _, i + 1, _, ⟨_, t⟩, e => Ls.get (i := i) t e
/-- a new list of new lists -/
def LL (H0 H : Hp) (l : Addr) (rs : List (List Int)) : Prop := ∃ as : List Addr, H l = some (.lst (as.map V.ref)) ∧ Ls H as rs ∧ ∀ a ∈ as, H0 a = none ∧ a ≠ l
theorem LL.same {H0 H H' : Hp} {l : Addr} {rs : List (List Int)} (s : Same H H') (h : LL H0 H l rs) : LL H0 H' l rs := by
  obtain ⟨as, h1, h2, h3⟩ := h
  exact ⟨as, s _ _ h1, h2.same fun a _ o => s a o, h3⟩
theorem LL.base {H0 H1 H : Hp} {l : Addr} {rs : List (List Int)} (s : Same H0 H1) (h : LL H1 H l rs) : LL H0 H l rs := by
  obtain ⟨as, h1, h2, h3⟩ := h
  exact ⟨as, h1, h2, fun a ha => ⟨s.free (h3 a ha).1, (h3 a ha).2⟩⟩
def sp_rows_for (K : PySem.W.Frag) : Sp := fun vs H Q _ => ∃ (m w : Int), vs = [.int m, .int w] ∧ 1 ≤ w ∧ w ≤ 8 ∧ Q (.int (rfor m w)) H
def sp_cut_rows (K : PySem.W.Frag) : Sp := fun vs H Q _ => ∃ (a : Addr) (ms : List Int) (w : Nat), vs = [.ref a, .int w] ∧ H a = some (.lst (ms.map V.int)) ∧ ms.length ≤ 200 ∧ 1 ≤ w ∧ w ≤ 8 ∧
  ∀ l H', H l = none → LL H H' l (rowsV ms w) → Same H H' → Q (.ref l) H'
def sp_rows_of (K : PySem.W.Frag) : Sp := fun vs H Q _ => ∃ (a : Addr) (ns : List Int) (w : Nat), vs = [.ref a, .int w] ∧ H a = some (.lst (ns.map V.int)) ∧ ns.length ≤ 200 ∧ 1 ≤ w ∧ w ≤ 8 ∧
  ∀ ms l H', ms.Perm ns → ms.Pairwise (· ≤ ·) → H l = none → LL H H' l (rowsV ms w) → Same H H' → Q (.ref l) H'
/-! lists of lists of ints -/
theorem refs_get {as : List Addr} {i : Nat} {x : V} (hx : (as.map V.ref)[i]? = some x) : ∃ a, as[i]? = some a ∧ x = .ref a := by
  rw [List.getElem?_map] at hx
  cases e : as[i]? with
  | none => rw [e] at hx; cases hx
  | some a => rw [e] at hx; exact ⟨a, rfl, (Option.some.inj hx).symm⟩
theorem ints_get {ns : List Int} {i : Nat} {x : V} (hx : (ns.map V.int)[i]? = some x) : ∃ z, ns[i]? = some z ∧ x = .int z := by
  rw [List.getElem?_map] at hx
  cases e : ns[i]? with
  | none => rw [e] at hx; cases hx
  | some a => rw [e] at hx; exact ⟨a, rfl, (Option.some.inj hx).symm⟩
theorem drop_get {α : Type} {xs : List α} {i : Nat} {x : α} (h : xs[i]? = some x) : xs.drop i = x :: xs.drop (i + 1) := by
  obtain ⟨hi, e⟩ := List.getElem?_eq_some_iff.mp h
  rw [List.drop_eq_getElem_cons hi, e]
theorem take_get {α : Type} {xs : List α} {i : Nat} {x : α} (h : xs[i]? = some x) : xs.take (i + 1) = xs.take i ++ [x] := by
  obtain ⟨hi, e⟩ := List.getElem?_eq_some_iff.mp h
  rw [List.take_succ_eq_append_getElem hi, e]
theorem at_ref {as : List Addr} {i : Nat} {a : Addr} (h : as[i]? = some a) : atI (as.map V.ref) (0 + (i : Int)) = some (.ref a) := by
  rw [Int.zero_add]
  exact atI_nat (by rw [List.getElem?_map, h]; rfl)
theorem at_ref' {as : List Addr} {i : Nat} {a : Addr} (h : as[i]? = some a) : atI (as.map V.ref) (i : Int) = some (.ref a) :=
  atI_nat (by rw [List.getElem?_map, h]; rfl)
theorem at_int {ns : List Int} {i : Nat} {z : Int} (h : ns[i]? = some z) : atI (ns.map V.int) (i : Int) = some (.int z) :=
  atI_nat (by rw [List.getElem?_map, h]; rfl)
theorem at_zero {a : V} {r : List V} : atI (a :: r) 0 = some a := atI_nat (j := 0) rfl
theorem pick2 {x y : Int} {c : Bool} : ∃ b, atI [V.int x, V.int y] (if c = true then 1 else 0) = some (.int b) ∧ (b = x ∨ b = y) := by
  cases c
  · exact ⟨x, rfl, .inl rfl⟩
  · exact ⟨y, rfl, .inr rfl⟩
theorem Ls.app {H : Hp} {bs : List Addr} {qs : List (List Int)} (hb : Ls H bs qs) : ∀ {as : List Addr} {rs : List (List Int)}, Ls H as rs → Ls H (as ++ bs) (rs ++ qs)
  | [], [], _ => hb
  | _ :: _, _ :: _, ⟨h, t⟩ => ⟨h, Ls.app hb t⟩
theorem Ls.rev {H : Hp} : ∀ {as : List Addr} {rs : List (List Int)}, Ls H as rs → Ls H as.reverse rs.reverse
  | [], [], _ => trivial
  | a :: as, r :: rs, ⟨h, t⟩ => by
    rw [List.reverse_cons, List.reverse_cons]
    exact Ls.app (bs := [a]) (qs := [r]) ⟨h, trivial⟩ (Ls.rev t)
theorem Ls.mem {H : Hp} : ∀ {as : List Addr} {rs : List (List Int)} {a : Addr}, Ls H as rs → a ∈ as → ∃ r, r ∈ rs ∧ H a = some (.lst (r.map V.int))
  | [], [], _, _, h => by cases h
  | b :: as, r :: rs, a, ⟨h, t⟩, m => by
    rcases List.mem_cons.mp m with e | m
    · exact ⟨r, List.mem_cons_self, e ▸ h⟩
    · obtain ⟨q, q1, q2⟩ := Ls.mem t m
      exact ⟨q, List.mem_cons_of_mem _ q1, q2⟩
/-- a list of lists of ints -/
def RL (H : Hp) (l : Addr) (rs : List (List Int)) : Prop := ∃ as : List Addr, H l = some (.lst (as.map V.ref)) ∧ Ls H as rs
theorem RL.same {H H' : Hp} {l : Addr} {rs : List (List Int)} (h : RL H l rs) (s : Same H H') : RL H' l rs := by
  obtain ⟨as, h1, h2⟩ := h
  exact ⟨as, s _ _ h1, h2.same fun a _ o => s a o⟩
theorem LL.rl {H0 H : Hp} {l : Addr} {rs : List (List Int)} (h : LL H0 H l rs) : RL H l rs := by
  obtain ⟨as, h1, h2, _⟩ := h
  exact ⟨as, h1, h2⟩
theorem ints_ne {H : Hp} {p a : Addr} {N : Nat} {ns : List Int} (hh : Hand H p N) (h : H a = some (.lst (ns.map V.int))) : a ≠ p := by
  obtain ⟨l, d, c, ms, h1, h2, _⟩ := hh.ex
  intro e
  rw [e, h1] at h
  have q := congrArg (fun x => x[2]?) (HO.lst.inj (Option.some.inj h))
  rw [List.getElem?_map] at q
  cases z : ns[2]? with
  | none => rw [z] at q; cases q
  | some v => rw [z] at q; cases q
theorem refs_ne {H : Hp} {p a : Addr} {N : Nat} {as : List Addr} (hh : Hand H p N) (h : H a = some (.lst (as.map V.ref))) : a ≠ p := by
  obtain ⟨l, d, c, ms, h1, h2, _⟩ := hh.ex
  intro e
  rw [e, h1] at h
  have q := congrArg (fun x => x[0]?) (HO.lst.inj (Option.some.inj h))
  rw [List.getElem?_map] at q
  cases z : as[0]? with
  | none => rw [z] at q; cases q
  | some v => rw [z] at q; cases q
theorem ints_kp {H H' : Hp} {p a : Addr} {N : Nat} {ns : List Int} (h : H a = some (.lst (ns.map V.int))) (hh : Hand H p N) (k : Kp H H' p) : H' a = some (.lst (ns.map V.int)) := k.1 _ _ h (ints_ne hh h)
theorem Ls.kp {H H' : Hp} {p : Addr} {N : Nat} {as : List Addr} {rs : List (List Int)} (h : Ls H as rs) (hh : Hand H p N) (k : Kp H H' p) : Ls H' as rs := by
  refine h.same fun a ha o e => k.1 _ _ e ?_
  obtain ⟨r, _, hr⟩ := h.mem ha
  exact ints_ne hh hr
theorem RL.kp {H H' : Hp} {p l : Addr} {N : Nat} {rs : List (List Int)} (h : RL H l rs) (hh : Hand H p N) (k : Kp H H' p) : RL H' l rs := by
  obtain ⟨as, h1, h2⟩ := h
  exact ⟨as, k.1 _ _ h1 (refs_ne hh h1), h2.kp hh k⟩
def dR (r : List Int) : PyData := .list (r.map PyData.int)
theorem Ls.dvs {K : PySem.W.Frag} {H : Hp} : ∀ {as : List Addr} {rs : List (List Int)}, Ls H as rs → DVs K H (as.map V.ref) (rs.map dR)
  | [], [], _ => .nil
  | _ :: _, r :: _, ⟨h, t⟩ => .cons (.lst (SqL.of h) (DVs.ints r)) (Ls.dvs t)
theorem RL.dv {K : PySem.W.Frag} {H : Hp} {l : Addr} {rs : List (List Int)} (h : RL H l rs) : DV K H (.ref l) (.list (rs.map dR)) := by
  obtain ⟨as, h1, h2⟩ := h
  exact .lst (SqL.of h1) h2.dvs
theorem lay_R : ∀ rs : List (List Int), PyData.canLayAll0 (rs.map dR) = true ∧ PyData.depthAll (rs.map dR) ≤ 1
  | [] => ⟨rfl, by simp [PyData.depthAll]⟩
  | r :: rs => by
    obtain ⟨h1, h2⟩ := lay_R rs
    obtain ⟨g1, g2⟩ := lay_ints r
    rw [List.map_cons, PyData.canLayAll0, PyData.depthAll, dR, PyData.canLay0, PyData.depth, h1, g1, g2]
    exact ⟨rfl, by omega⟩
theorem shaped_R (rs : List (List Int)) : SeqAt.shaped (.list (rs.map dR)) = true := by
  obtain ⟨h1, h2⟩ := lay_R rs
  unfold SeqAt.shaped
  rw [PyData.canLay0, PyData.depth, h1, decide_eq_true (by omega)]
  rfl
theorem eqv_R : ∀ rs qs : List (List Int), PyData.eqvAll (rs.map dR) (qs.map dR) = decide (rs = qs)
  | [], [] => rfl
  | [], _ :: _ => rfl
  | _ :: _, [] => rfl
  | r :: rs, q :: qs => by
    rw [List.map_cons, List.map_cons, PyData.eqvAll, dR, dR, PyData.eqv, eqv_ints, eqv_R rs qs, Bool.eq_iff_iff]
    simp
theorem eq_R (rs : List (List Int)) : PyData.eqv (.list (rs.map dR)) (.list (rs.map dR)) = true := by rw [PyData.eqv, eqv_R]; exact decide_eq_true rfl
theorem eq_I (ns : List Int) : PyData.eqv (.list (ns.map PyData.int)) (.list (ns.map PyData.int)) = true := by rw [PyData.eqv, eqv_ints]; exact decide_eq_true rfl
theorem eq_nil (ns : List Int) : PyData.eqv (.list (ns.map PyData.int)) (.list []) = decide (ns = []) := by
  have := eqv_ints ns []
  rw [← this, PyData.eqv]; rfl
theorem dv_ints {K : PySem.W.Frag} {H : Hp} {a : Addr} {ns : List Int} (h : H a = some (.lst (ns.map V.int))) : DV K H (.ref a) (.list (ns.map PyData.int)) := .lst (SqL.of h) (DVs.ints ns)
theorem dv_nil {K : PySem.W.Frag} {H : Hp} {a : Addr} (h : H a = some (.lst [])) : DV K H (.ref a) (.list []) := .lst (SqL.of h) .nil
theorem emp_map (r : List Int) : decide (r ≠ []) = !(r.map V.int).isEmpty := by cases r <;> simp
theorem last_at {r : List Int} {y : Int} (h : r.getLast? = some y) : atI (r.map V.int) (-1) = some (.int y) := by
  have hn : r ≠ [] := by intro e; rw [e] at h; cases h
  have hl := List.length_pos_iff.mpr hn
  have e : ixN (r.map V.int).length (-1) = some (r.length - 1) := by
    unfold ixN
    rw [List.length_map, if_neg (by decide), if_pos (by omega)]
    congr 1; omega
  unfold atI
  rw [e]
  show (r.map V.int)[r.length - 1]? = _
  rw [List.getElem?_map, ← List.getLast?_eq_getElem?, h]; rfl
theorem last_max : ∀ {r : List Int} {y : Int}, r.Pairwise (· < ·) → r.getLast? = some y → y ∈ r ∧ ∀ z ∈ r, z ≤ y
  | [], _, _, h => by cases h
  | [a], y, _, h => by
    simp at h; subst h
    exact ⟨List.mem_singleton.mpr rfl, fun z hz => by rw [List.mem_singleton.mp hz]; omega⟩
  | a :: b :: r, y, hp, h => by
    rw [List.pairwise_cons] at hp
    have h' : (b :: r).getLast? = some y := by rw [List.getLast?_cons_cons] at h; exact h
    obtain ⟨h1, h2⟩ := last_max hp.2 h'
    refine ⟨List.mem_cons_of_mem _ h1, fun z hz => ?_⟩
    rcases List.mem_cons.mp hz with e | hz
    · rw [e]; have := hp.1 y h1; omega
    · exact h2 z hz
theorem last_ex {r : List Int} (h : r ≠ []) : ∃ y, r.getLast? = some y := ⟨_, List.getLast?_eq_some_getLast h⟩
theorem count1 (k : Int) : ∀ {r : List Int}, r.Nodup → (r.filter fun z => decide (z = k)).length = if k ∈ r then 1 else 0
  | [], _ => rfl
  | a :: r, h => by
    rw [List.nodup_cons] at h
    have ih := count1 k h.2
    rw [List.filter_cons]
    by_cases c : a = k
    · rw [if_pos (decide_eq_true c), List.length_cons, ih, if_neg (c ▸ h.1), if_pos (by rw [c]; exact List.mem_cons_self)]
    · rw [if_neg (by simp [c]), ih]
      by_cases d : k ∈ r
      · rw [if_pos d, if_pos (List.mem_cons_of_mem _ d)]
      · rw [if_neg d, if_neg (fun z => (List.mem_cons.mp z).elim (fun e => c e.symm) d)]
theorem lt_nodup {r : List Int} (h : r.Pairwise (· < ·)) : r.Nodup := h.imp fun h => Int.ne_of_lt h
theorem le_lt {r : List Int} (h : r.Pairwise (· ≤ ·)) (n : r.Nodup) : r.Pairwise (· < ·) := by
  induction r with
  | nil => exact .nil
  | cons a r ih =>
    rw [List.pairwise_cons] at h
    rw [List.nodup_cons] at n
    rw [List.pairwise_cons]
    exact ⟨fun b hb => by
      have h1 := h.1 b hb
      have h2 : a ≠ b := fun e => n.1 (e ▸ hb)
      omega, ih h.2 n.2⟩

theorem rfor_le {m n w : Int} (hw : 1 ≤ w) (h : m ≤ n) : rfor m w ≤ rfor n w := by
  unfold rfor
  have : (m + w - 1) / w ≤ (n + w - 1) / w := Int.ediv_le_ediv (by omega) (by omega)
  omega
theorem rfor_up {m w : Int} (hw : 1 ≤ w) (hm : 0 ≤ m) : 1 ≤ rfor m w ∧ m ≤ rfor m w * w := by
  obtain ⟨a, b, _⟩ := up_div (g := rfor m w) hw hm rfl
  exact ⟨a, by rw [Int.mul_comm]; exact b⟩
/-- so many rows are enough -/
theorem rfor_few {m w g : Int} (hw : 1 ≤ w) (hm : 0 ≤ m) (hg : 1 ≤ g) (h : m ≤ g * w) : rfor m w ≤ g := by
  obtain ⟨a, b, c⟩ := up_div (g := rfor m w) hw hm rfl
  rcases c with c | c
  · omega
  · by_cases d : rfor m w ≤ g
    · exact d
    · have : w * g ≤ w * (rfor m w - 1) := Int.mul_le_mul_of_nonneg_left (by omega) (by omega)
      rw [Int.mul_comm w g] at this
      omega
theorem rfor_spill {m w : Int} (hw : 1 ≤ w) (hm : 0 ≤ m) : rfor m w - 1 = max 0 (m - 1) / w := by
  unfold rfor
  by_cases c : m = 0
  · subst c
    rw [show (0 : Int) + w - 1 = w - 1 by omega, Int.ediv_eq_zero_of_lt (by omega) (by omega), show max (0 : Int) (0 - 1) = 0 by omega, Int.zero_ediv]; rfl
  · have e : (m + w - 1) / w = (m - 1) / w + 1 := by
      rw [show m + w - 1 = (m - 1) + w by omega, Int.add_ediv_of_dvd_right (Int.dvd_refl w), Int.ediv_self (by omega)]
    rw [e, Int.max_eq_right (show (0 : Int) ≤ m - 1 by omega)]
    have := Int.ediv_nonneg (show 0 ≤ m - 1 by omega) (show 0 ≤ w by omega)
    omega
theorem sum_nn : ∀ {p : List Int}, (∀ x ∈ p, 0 ≤ x) → 0 ≤ p.sum
  | [], _ => by simp
  | x :: p, h => by
    have a1 := h x List.mem_cons_self
    have a2 := sum_nn fun y hy => h y (List.mem_cons_of_mem _ hy)
    rw [List.sum_cons]; omega
/-- the rows of all rooms behind a put -/
def rowsT (w : Int) : List Int → List Int → Int
  | a :: c, p :: q => rfor (a + p) w + rowsT w c q
  | _, _ => 0
def rows0 (w : Int) : List Int → Int
  | [] => 0
  | a :: c => rfor a w + rows0 w c
theorem rowsT_up {w : Int} (hw : 1 ≤ w) : ∀ {c q : List Int}, c.length = q.length → (∀ x ∈ c, 0 ≤ x) → (∀ x ∈ q, 0 ≤ x) → c.sum + q.sum ≤ rowsT w c q * w ∧ rows0 w c ≤ rowsT w c q
  | [], [], _, _, _ => by simp [rowsT, rows0]
  | a :: c, p :: q, hl, h1, h2 => by
    obtain ⟨i1, i2⟩ := rowsT_up hw (c := c) (q := q) (by simpa using hl) (fun x hx => h1 x (List.mem_cons_of_mem _ hx)) (fun x hx => h2 x (List.mem_cons_of_mem _ hx))
    have ha := h1 a List.mem_cons_self
    have hp := h2 p List.mem_cons_self
    obtain ⟨b1, b2⟩ := rfor_up (m := a + p) hw (by omega)
    have b3 := rfor_le (m := a) (n := a + p) hw (by omega)
    rw [List.sum_cons, List.sum_cons, rowsT, rows0, Int.add_mul]
    omega
/-- each room's free places, as far as the keys go -/
def fillV (w : Int) : List Int → Int → List Int
  | [], _ => []
  | a :: c, l => min l (rfor a w * w - a) :: fillV w c (l - min l (rfor a w * w - a))
theorem fillV_len {w : Int} : ∀ {c : List Int} {l : Int}, (fillV w c l).length = c.length
  | [], _ => rfl
  | a :: c, l => by rw [fillV, List.length_cons, List.length_cons, fillV_len]
theorem fillV_ok {w : Int} (hw : 1 ≤ w) : ∀ {c : List Int} {l : Int}, (∀ x ∈ c, 0 ≤ x) → 0 ≤ l → (∀ x ∈ fillV w c l, 0 ≤ x) ∧ (fillV w c l).sum ≤ l ∧ rowsT w c (fillV w c l) = rows0 w c ∧ ((fillV w c l).sum < l → rows0 w c * w = c.sum + (fillV w c l).sum)
  | [], l, _, hl => by simp [fillV, rowsT, rows0, hl]
  | a :: c, l, h1, hl => by
    have ha := h1 a List.mem_cons_self
    obtain ⟨b1, b2⟩ := rfor_up (m := a) hw ha
    obtain ⟨g, hg⟩ : ∃ g, min l (rfor a w * w - a) = g := ⟨_, rfl⟩
    have g0 : 0 ≤ g := by omega
    have g1 : g ≤ l := by omega
    obtain ⟨i1, i2, i3, i4⟩ := fillV_ok hw (c := c) (l := l - g) (fun x hx => h1 x (List.mem_cons_of_mem _ hx)) (by omega)
    rw [fillV, hg]
    have e1 : rfor (a + g) w = rfor a w := by
      have := rfor_le (m := a) (n := a + g) hw (by omega)
      have := rfor_few (m := a + g) (g := rfor a w) hw (by omega) b1 (by omega)
      omega
    refine ⟨fun x hx => ?_, ?_, ?_, fun h => ?_⟩
    · rcases List.mem_cons.mp hx with e | e
      · omega
      · exact i1 x e
    · rw [List.sum_cons]; omega
    · rw [rowsT, rows0, e1, i3]
    · rw [List.sum_cons] at h ⊢
      have := sum_nn i1
      rw [List.sum_cons, rows0, Int.add_mul, i4 (by omega)]
      omega
/-- the put that least_spill tells -/
def leastV (w : Int) (c : List Int) (more : Int) : List Int := match fillV w c more with
  | [] => []
  | x :: r => (x + (more - (fillV w c more).sum)) :: r
theorem leastV_ok {w more : Int} (hw : 1 ≤ w) {c : List Int} (hc : ∀ x ∈ c, 0 ≤ x) (hn : c ≠ []) (hm : 0 ≤ more) :
    (leastV w c more).length = c.length ∧ (∀ x ∈ leastV w c more, 0 ≤ x) ∧ (leastV w c more).sum = more ∧ ∀ q : List Int, q.length = c.length → (∀ x ∈ q, 0 ≤ x) → q.sum = more → rowsT w c (leastV w c more) ≤ rowsT w c q := by
  obtain ⟨f1, f2, f3, f4⟩ := fillV_ok hw hc hm
  have fl := fillV_len (w := w) (c := c) (l := more)
  unfold leastV
  cases c with
  | nil => exact absurd rfl hn
  | cons a c =>
    have ha := hc a List.mem_cons_self
    obtain ⟨b1, b2⟩ := rfor_up (m := a) hw ha
    cases e : fillV w (a :: c) more with
    | nil => rw [e] at fl; cases fl
    | cons x r =>
      rw [e] at f1 f2 f3 f4 fl
      have hx := f1 x List.mem_cons_self
      rw [List.sum_cons] at f2 f4 ⊢
      refine ⟨by simpa using fl, fun y hy => ?_, by rw [List.sum_cons]; omega, fun q ql q0 qs => ?_⟩
      · rcases List.mem_cons.mp hy with z | z
        · omega
        · exact f1 y (List.mem_cons_of_mem _ z)
      · obtain ⟨u1, u2⟩ := rowsT_up hw (c := a :: c) (q := q) ql.symm hc q0
        rw [rowsT] at f3 ⊢
        by_cases h : x + r.sum < more
        · have f5 := f4 h
          obtain ⟨L, hL⟩ : ∃ L, more - (x + r.sum) = L := ⟨_, rfl⟩
          rw [hL]
          -- so many further rows
          obtain ⟨k1, k2, k3⟩ := up_div (g := rfor L w) (m := L) hw (by omega) rfl
          have m0 := rfor_few (m := a + (x + L)) (g := rfor (a + x) w + rfor L w) hw (by omega) (by have := (rfor_up (m := a + x) hw (by omega)).1; omega) (by
            have := (rfor_up (m := a + x) hw (by omega)).2
            rw [Int.add_mul]
            rw [Int.mul_comm w (rfor L w)] at k2
            omega)
          have hk : w * (rfor L w - 1) < L := by
            rcases k3 with z | z
            · rw [z]; simp; omega
            · exact z
          by_cases d : rfor (a + (x + L)) w + rowsT w c r ≤ rowsT w (a :: c) q
          · exact d
          · have d1 : rowsT w (a :: c) q ≤ rows0 w (a :: c) + (rfor L w - 1) := by omega
            have d2 : rowsT w (a :: c) q * w ≤ (rows0 w (a :: c) + (rfor L w - 1)) * w := Int.mul_le_mul_of_nonneg_right d1 (by omega)
            rw [Int.add_mul, f5, Int.mul_comm (rfor L w - 1) w] at d2
            omega
        · have : more - (x + r.sum) = 0 := by omega
          rw [this, Int.add_zero]
          omega
theorem fillV_snoc {w a : Int} : ∀ {c : List Int} {l : Int}, fillV w (c ++ [a]) l = fillV w c l ++ [min (l - (fillV w c l).sum) (rfor a w * w - a)]
  | [], l => by simp [fillV]
  | b :: c, l => by
    rw [List.cons_append, fillV, fillV_snoc, fillV, List.cons_append, List.sum_cons]
    congr 4
    omega
def spillF (w a b : Int) : Int := rfor (a + b) w - 1
theorem sum_spill {w : Int} : ∀ {c q : List Int}, c.length = q.length → (List.zipWith (spillF w) c q).sum = rowsT w c q - c.length
  | [], [], _ => rfl
  | a :: c, p :: q, h => by
    rw [List.zipWith_cons_cons, List.sum_cons, sum_spill (by simpa using h), rowsT, List.length_cons, spillF]
    push_cast
    omega
theorem zip_take {w : Int} {c q : List Int} {i : Nat} {a b : Int} (h1 : c[i]? = some a) (h2 : q[i]? = some b) : (List.zipWith (spillF w) c q).take (i + 1) = (List.zipWith (spillF w) c q).take i ++ [spillF w a b] := by
  refine take_get ?_
  rw [List.getElem?_zipWith, h1, h2]
def sp_rows_behind (K : PySem.W.Frag) : Sp := fun vs H Q _ => ∃ (m w : Int), vs = [.int m, .int w] ∧ 1 ≤ w ∧ w ≤ 8 ∧ Q (.int (rfor m w - 1)) H
def sp_gap (K : PySem.W.Frag) : Sp := fun vs H Q _ => ∃ (m w : Int), vs = [.int m, .int w] ∧ 1 ≤ w ∧ w ≤ 8 ∧ Q (.int (rfor m w * w + 1 - m)) H
def sp_spill_behind (K : PySem.W.Frag) : Sp := fun vs H Q _ => ∃ (a b : Addr) (w : Int) (cs ps : List Int), vs = [.ref a, .int w, .ref b] ∧ H a = some (.lst (cs.map V.int)) ∧ H b = some (.lst (ps.map V.int)) ∧ cs.length = ps.length ∧ cs.length ≤ 200 ∧ 1 ≤ w ∧ w ≤ 8 ∧
  ∀ H', Same H H' → Q (.int (rowsT w cs ps - cs.length)) H'
def sp_least_spill (K : PySem.W.Frag) : Sp := fun vs H Q _ => ∃ (a : Addr) (w more : Int) (cs : List Int), vs = [.ref a, .int w, .int more] ∧ H a = some (.lst (cs.map V.int)) ∧ cs ≠ [] ∧ cs.length ≤ 200 ∧ 1 ≤ w ∧ w ≤ 8 ∧
  ∀ (t l : Addr) (H' : Hp), H t = none → H l = none → t ≠ l → H' t = some (.tup [.int (rowsT w cs (leastV w cs more) - cs.length), .ref l]) → H' l = some (.lst ((leastV w cs more).map V.int)) → Same H H' → Q (.ref t) H'
def gapV (w a : Int) : Int := rfor a w * w + 1 - a
theorem gap_pos {w a : Int} (hw : 1 ≤ w) (ha : 0 < a) : 1 ≤ gapV w a ∧ gapV w a ≤ w := by
  obtain ⟨a1, a2, a3⟩ := up_div (g := rfor a w) (m := a) hw (by omega) rfl
  unfold gapV
  rw [Int.mul_comm (rfor a w) w]
  rcases a3 with e | e
  · rw [e, Int.mul_one] at a2 ⊢; omega
  · rw [Int.mul_sub, Int.mul_one] at e; omega
theorem gap_zero {w : Int} (hw : 1 ≤ w) : gapV w 0 = w + 1 := by
  have : rfor 0 w = 1 := by
    have := rfor_few (m := 0) (g := 1) hw (by omega) (by omega) (by omega)
    have := (rfor_up (m := 0) hw (by omega)).1
    omega
  unfold gapV; rw [this]; omega
theorem gap_nn {w a : Int} (hw : 1 ≤ w) (ha : 0 ≤ a) : 1 ≤ gapV w a := by
  by_cases c : a = 0
  · rw [c, gap_zero hw]; omega
  · exact (gap_pos hw (by omega)).1
theorem rfor_gap {w a L : Int} (hw : 1 ≤ w) (ha : 0 ≤ a) (hL : 0 ≤ L) : rfor (a + gapV w a + L) w = rfor a w + 1 + L / w := by
  have h1 := (rfor_up (m := a) hw ha).1
  have e : a + gapV w a + L + w - 1 = L + (rfor a w + 1) * w := by unfold gapV; rw [Int.add_mul]; omega
  have h2 := Int.ediv_nonneg hL (show 0 ≤ w by omega)
  conv => lhs; unfold rfor
  rw [e, Int.add_mul_ediv_right _ _ (by omega)]
  omega
theorem rfor_small {w a p : Int} (hw : 1 ≤ w) (ha : 0 ≤ a) (hp : 0 ≤ p) (h : p < gapV w a) : rfor (a + p) w = rfor a w := by
  have h1 := (rfor_up (m := a) hw ha).1
  have := rfor_le (m := a) (n := a + p) hw (by omega)
  unfold gapV at h
  have := rfor_few (m := a + p) (g := rfor a w) hw (by omega) h1 (by omega)
  omega
def dV (w g a : Int) : Int := if 0 < a then max 0 (g - gapV w a) else 0
theorem thr1 {w g a p : Int} (hw : 1 ≤ w) (g1 : 1 ≤ g) (g2 : g ≤ w) (ha : 0 ≤ a) (hp : 0 ≤ p) : g * (rfor (a + p) w - rfor a w) ≤ p + dV w g a := by
  have hd : 0 ≤ dV w g a := by unfold dV; split <;> omega
  by_cases c : p < gapV w a
  · rw [rfor_small hw ha hp c, Int.sub_self, Int.mul_zero]; omega
  · obtain ⟨L, hL⟩ : ∃ L, p = gapV w a + L := ⟨p - gapV w a, by omega⟩
    have L0 : 0 ≤ L := by omega
    rw [hL, ← Int.add_assoc, rfor_gap hw ha L0, show rfor a w + 1 + L / w - rfor a w = 1 + L / w by omega, Int.mul_add, Int.mul_one]
    have q0 := Int.ediv_nonneg L0 (show 0 ≤ w by omega)
    have q1 : g * (L / w) ≤ w * (L / w) := Int.mul_le_mul_of_nonneg_right g2 q0
    have q2 : w * (L / w) ≤ L := Int.mul_ediv_self_le (by omega)
    have : g ≤ gapV w a + dV w g a := by
      unfold dV
      split
      · omega
      · have : a = 0 := by omega
        rw [this, gap_zero hw]; omega
    omega
theorem thr {w g : Int} (hw : 1 ≤ w) (g1 : 1 ≤ g) (g2 : g ≤ w) : ∀ {c q : List Int}, c.length = q.length → (∀ x ∈ c, 0 ≤ x) → (∀ x ∈ q, 0 ≤ x) → g * (rowsT w c q - rows0 w c) ≤ q.sum + (c.map (dV w g)).sum
  | [], [], _, _, _ => by simp [rowsT, rows0]
  | a :: c, p :: q, hl, h1, h2 => by
    have ih := thr hw g1 g2 (c := c) (q := q) (by simpa using hl) (fun x hx => h1 x (List.mem_cons_of_mem _ hx)) (fun x hx => h2 x (List.mem_cons_of_mem _ hx))
    have t1 := thr1 (a := a) (p := p) hw g1 g2 (h1 a List.mem_cons_self) (h2 p List.mem_cons_self)
    rw [List.sum_cons, List.map_cons, List.sum_cons, rowsT, rows0, show rfor (a + p) w + rowsT w c q - (rfor a w + rows0 w c) = (rfor (a + p) w - rfor a w) + (rowsT w c q - rows0 w c) by omega, Int.mul_add]
    omega
/-- no room has keys -/
theorem thr0 {w : Int} (hw : 1 ≤ w) : ∀ {c q : List Int}, c.length = q.length → (∀ x ∈ c, x = 0) → (∀ x ∈ q, 0 ≤ x) → 0 ≤ rowsT w c q - rows0 w c ∧ w * (rowsT w c q - rows0 w c) ≤ q.sum ∧ (0 < rowsT w c q - rows0 w c → w * (rowsT w c q - rows0 w c) + 1 ≤ q.sum)
  | [], [], _, _, _ => by simp [rowsT, rows0]
  | a :: c, p :: q, hl, h1, h2 => by
    obtain ⟨i0, i1, i2⟩ := thr0 hw (c := c) (q := q) (by simpa using hl) (fun x hx => h1 x (List.mem_cons_of_mem _ hx)) (fun x hx => h2 x (List.mem_cons_of_mem _ hx))
    have ea := h1 a List.mem_cons_self
    have hp := h2 p List.mem_cons_self
    subst ea
    have qs := sum_nn fun x hx => h2 x (List.mem_cons_of_mem _ hx)
    rw [List.sum_cons, rowsT, rows0, show rfor (0 + p) w + rowsT w c q - (rfor 0 w + rows0 w c) = (rfor (0 + p) w - rfor 0 w) + (rowsT w c q - rows0 w c) by omega, Int.mul_add]
    have key : 0 ≤ rfor (0 + p) w - rfor 0 w ∧ w * (rfor (0 + p) w - rfor 0 w) ≤ p ∧ (0 < rfor (0 + p) w - rfor 0 w → w * (rfor (0 + p) w - rfor 0 w) + 1 ≤ p) := by
      by_cases c : p < gapV w 0
      · rw [rfor_small hw (by omega) hp c, Int.sub_self, Int.mul_zero]; omega
      · obtain ⟨L, hL⟩ : ∃ L, p = gapV w 0 + L := ⟨p - gapV w 0, by omega⟩
        have L0 : 0 ≤ L := by omega
        have q0 := Int.ediv_nonneg L0 (show 0 ≤ w by omega)
        have q2 : w * (L / w) ≤ L := Int.mul_ediv_self_le (by omega)
        have gz := gap_zero (w := w) hw
        rw [hL, ← Int.add_assoc, rfor_gap hw (by omega) L0, show rfor 0 w + 1 + L / w - rfor 0 w = 1 + L / w by omega, Int.mul_add, Int.mul_one, gz]
        omega
    obtain ⟨k0, k1, k2⟩ := key
    generalize rfor (0 + p) w - rfor 0 w = r1 at *
    generalize rowsT w c q - rows0 w c = r2 at *
    refine ⟨by omega, by omega, fun h => ?_⟩
    by_cases z : 0 < r1
    · have := k2 z; omega
    · have := i2 (by omega); omega

/-- the rooms with keys -/
def roomsFrom : Nat → List Int → List Int
  | _, [] => []
  | k, a :: c => if 0 < a then (k : Int) :: roomsFrom (k + 1) c else roomsFrom (k + 1) c
theorem roomsFrom_snoc {a : Int} : ∀ {c : List Int} {k : Nat}, roomsFrom k (c ++ [a]) = roomsFrom k c ++ (if 0 < a then [((k + c.length : Nat) : Int)] else [])
  | [], k => by simp only [List.nil_append, roomsFrom, List.length_nil, Nat.add_zero]
  | b :: c, k => by
    rw [List.cons_append, roomsFrom, roomsFrom, roomsFrom_snoc (k := k + 1), List.length_cons, show k + 1 + c.length = k + (c.length + 1) by omega]
    split <;> simp
theorem roomsFrom_mem {z : Int} : ∀ {c : List Int} {k : Nat}, z ∈ roomsFrom k c → ∃ i a, z = ((k + i : Nat) : Int) ∧ c[i]? = some a ∧ 0 < a
  | [], k, h => by simp [roomsFrom] at h
  | b :: c, k, h => by
    rw [roomsFrom] at h
    have rc : z ∈ roomsFrom (k + 1) c → ∃ i a, z = ((k + i : Nat) : Int) ∧ (b :: c)[i]? = some a ∧ 0 < a := fun h => by
      obtain ⟨i, a, e, h1, h2⟩ := roomsFrom_mem h
      exact ⟨i + 1, a, by rw [e]; congr 1; omega, by simpa using h1, h2⟩
    split at h
    · rcases List.mem_cons.mp h with e | e
      · exact ⟨0, b, by simpa using e, rfl, by assumption⟩
      · exact rc e
    · exact rc h
theorem roomsFrom_nodup : ∀ {c : List Int} {k : Nat}, (roomsFrom k c).Nodup
  | [], k => by simp [roomsFrom]
  | b :: c, k => by
    rw [roomsFrom]
    split
    · refine List.nodup_cons.mpr ⟨fun h => ?_, roomsFrom_nodup⟩
      obtain ⟨i, a, e, _⟩ := roomsFrom_mem h
      omega
    · exact roomsFrom_nodup
theorem roomsFrom_len : ∀ {c : List Int} {k : Nat}, (roomsFrom k c).length ≤ c.length
  | [], k => by simp [roomsFrom]
  | b :: c, k => by
    have := roomsFrom_len (c := c) (k := k + 1)
    rw [roomsFrom]
    split <;> simp <;> omega
theorem roomsFrom_nil : ∀ {c : List Int} {k : Nat}, (∀ x ∈ c, 0 ≤ x) → roomsFrom k c = [] → ∀ x ∈ c, x = 0
  | [], k, _, _, x, hx => by cases hx
  | b :: c, k, h0, h, x, hx => by
    rw [roomsFrom] at h
    split at h
    · cases h
    · rename_i hb
      rcases List.mem_cons.mp hx with e | e
      · have := h0 b List.mem_cons_self; omega
      · exact roomsFrom_nil (fun y hy => h0 y (List.mem_cons_of_mem _ hy)) h x e
/-- what stands at a room -/
def atR (c : List Int) (z : Int) : Int := c.getD z.toNat 0
theorem sum_rooms {w g : Int} : ∀ {c pre : List Int}, ((roomsFrom pre.length c).map fun z => max 0 (g - gapV w (atR (pre ++ c) z))).sum = (c.map (dV w g)).sum
  | [], pre => by simp [roomsFrom]
  | a :: c, pre => by
    have ih := sum_rooms (w := w) (g := g) (c := c) (pre := pre ++ [a])
    rw [List.length_append, show pre ++ [a] ++ c = pre ++ a :: c by simp] at ih
    have ih : ((roomsFrom (pre.length + 1) c).map fun z => max 0 (g - gapV w (atR (pre ++ a :: c) z))).sum = (c.map (dV w g)).sum := ih
    rw [roomsFrom, List.map_cons, List.sum_cons, dV]
    split
    · rw [List.map_cons, List.sum_cons, ih]
      congr 3
      unfold atR
      simp
    · rw [ih]; omega
theorem perm_sum {l l' : List Int} (h : l.Perm l') : l.sum = l'.sum := by
  induction h with
  | nil => rfl
  | cons x _ ih => rw [List.sum_cons, List.sum_cons, ih]
  | swap x y l => simp only [List.sum_cons]; omega
  | trans _ _ a b => exact a.trans b
theorem rowsT_set {w : Int} : ∀ {c q : List Int} {i : Nat} {a p v : Int}, c[i]? = some a → q[i]? = some p → rowsT w c (q.set i v) = rowsT w c q - rfor (a + p) w + rfor (a + v) w
  | [], _, _, _, _, _, h, _ => by simp at h
  | _ :: _, [], _, _, _, _, _, h => by simp at h
  | b :: c, x :: q, 0, a, p, v, h1, h2 => by
    simp at h1 h2; subst h1 h2
    rw [List.set_cons_zero, rowsT, rowsT]; omega
  | b :: c, x :: q, i + 1, a, p, v, h1, h2 => by
    rw [List.set_cons_succ, rowsT, rowsT, rowsT_set (c := c) (q := q) (i := i) (by simpa using h1) (by simpa using h2)]; omega
theorem sum_set {v p : Int} : ∀ {q : List Int} {i : Nat}, q[i]? = some p → (q.set i v).sum = q.sum - p + v
  | [], _, h => by simp at h
  | x :: q, 0, h => by simp at h; subst h; rw [List.set_cons_zero, List.sum_cons, List.sum_cons]; omega
  | x :: q, i + 1, h => by rw [List.set_cons_succ, List.sum_cons, List.sum_cons, sum_set (by simpa using h)]; omega
theorem rowsT_zero {w : Int} : ∀ {c : List Int}, rowsT w c (List.replicate c.length 0) = rows0 w c
  | [] => rfl
  | a :: c => by rw [List.length_cons, List.replicate_succ, rowsT, rows0, rowsT_zero, Int.add_zero]
/-- one room of the walk -/
def stepG (w : Int) (c : List Int) (pl : List Int × Int) (z : Int) : List Int × Int := if gapV w (atR c z) ≤ pl.2 then (pl.1.set z.toNat (gapV w (atR c z)), pl.2 - gapV w (atR c z)) else pl
theorem fold_stuck {w : Int} {c put : List Int} {left : Int} : ∀ {ms : List Int}, (∀ z ∈ ms, left < gapV w (atR c z)) → ms.foldl (stepG w c) (put, left) = (put, left)
  | [], _ => rfl
  | z :: ms, h => by
    have e : stepG w c (put, left) z = (put, left) := by
      unfold stepG
      rw [if_neg (by have := h z List.mem_cons_self; show ¬ _ ≤ left; omega)]
    rw [List.foldl_cons, e]
    exact fold_stuck fun y hy => h y (List.mem_cons_of_mem _ hy)
theorem stepG_len {w : Int} {c : List Int} {pl : List Int × Int} {z : Int} : (stepG w c pl z).1.length = pl.1.length := by
  unfold stepG; split
  · show (pl.1.set _ _).length = _; rw [List.length_set]
  · rfl
theorem fold_len {w : Int} {c : List Int} : ∀ {ms : List Int} {pl : List Int × Int}, (ms.foldl (stepG w c) pl).1.length = pl.1.length
  | [], _ => rfl
  | z :: ms, pl => by rw [List.foldl_cons, fold_len, stepG_len]
theorem foldG_ok {w : Int} (hw : 1 ≤ w) {c : List Int} (hc : ∀ x ∈ c, 0 ≤ x) : ∀ {ms put : List Int} {left : Int}, (∀ z ∈ ms, 0 ≤ z ∧ ∃ a, c[z.toNat]? = some a) → ms.Nodup → ms.Pairwise (fun x y => gapV w (atR c x) ≤ gapV w (atR c y)) →
    (∀ z ∈ ms, put[z.toNat]? = some 0) → (∀ x ∈ put, 0 ≤ x) → 0 ≤ left → ∃ t put' left', ms.foldl (stepG w c) (put, left) = (put', left') ∧ t ≤ ms.length ∧ put'.length = put.length ∧ (∀ x ∈ put', 0 ≤ x) ∧ put'.sum + left' = put.sum + left ∧
      rowsT w c put' = rowsT w c put + t ∧ 0 ≤ left' ∧ left' = left - ((ms.take t).map fun z => gapV w (atR c z)).sum ∧ (t = ms.length ∨ ∃ z, ms[t]? = some z ∧ left' < gapV w (atR c z)) ∧
      (∀ z : Int, 0 ≤ z → z ∉ ms → put'[z.toNat]? = put[z.toNat]?) ∧ (∀ z, ms[0]? = some z → put'[z.toNat]? = some (if t = 0 then 0 else gapV w (atR c z)))
  | [], put, left, _, _, _, _, hp, hl => ⟨0, put, left, rfl, Nat.le_refl _, rfl, hp, rfl, by omega, hl, by simp, .inl rfl, fun _ _ _ => rfl, fun z h => by simp at h⟩
  | z :: ms, put, left, hz, hn, hs, h0, hp, hl => by
    obtain ⟨z0, a, ha⟩ := hz z List.mem_cons_self
    have ea : atR c z = a := by unfold atR; rw [List.getD_eq_getElem?_getD, ha]; rfl
    have a0 := hc a (List.mem_of_getElem? ha)
    have g1 := gap_nn (a := a) hw a0
    obtain ⟨n1, n2⟩ := List.nodup_cons.mp hn
    obtain ⟨s1, s2⟩ := List.pairwise_cons.mp hs
    have hz0 := h0 z List.mem_cons_self
    by_cases c1 : gapV w (atR c z) ≤ left
    · have e : stepG w c (put, left) z = (put.set z.toNat (gapV w a), left - gapV w a) := by
        unfold stepG; rw [if_pos c1, ea]
      rw [ea] at c1
      have ne : ∀ y : Int, 0 ≤ y → y ≠ z → (put.set z.toNat (gapV w a))[y.toNat]? = put[y.toNat]? := fun y y0 hy => List.getElem?_set_ne (by omega)
      obtain ⟨t, put', left', f1, f2, f3, f4, f5, f6, f7, f8, f9, f10, f11⟩ := foldG_ok hw hc (ms := ms) (put := put.set z.toNat (gapV w a)) (left := left - gapV w a) (fun y hy => hz y (List.mem_cons_of_mem _ hy)) n2 s2
        (fun y hy => by rw [ne y (hz y (List.mem_cons_of_mem _ hy)).1 (fun q => n1 (q ▸ hy))]; exact h0 y (List.mem_cons_of_mem _ hy))
        (fun x hx => (List.mem_or_eq_of_mem_set hx).elim (fun q => hp x q) (fun q => by omega)) (by omega)
      rw [List.length_set] at f3
      rw [sum_set hz0] at f5
      rw [rowsT_set ha hz0, Int.add_zero] at f6
      have rg := rfor_gap (a := a) (L := 0) hw a0 (by omega)
      rw [Int.add_zero, Int.zero_ediv] at rg
      refine ⟨t + 1, put', left', by rw [List.foldl_cons, e]; exact f1, by rw [List.length_cons]; omega, f3, f4, by omega, by rw [f6, rg]; push_cast; omega, f7, ?_, ?_, fun y y0 hy => ?_, fun y hy => ?_⟩
      · rw [List.take_succ_cons, List.map_cons, List.sum_cons, ea, f8]; omega
      · rcases f9 with q | ⟨y, q1, q2⟩
        · exact .inl (by rw [List.length_cons, q])
        · exact .inr ⟨y, by simpa using q1, q2⟩
      · rw [f10 y y0 (fun q => hy (List.mem_cons_of_mem _ q)), ne y y0 (fun q => hy (by rw [q]; exact List.mem_cons_self))]
      · have : z = y := by simpa using hy
        subst this
        have lt := (List.getElem?_eq_some_iff.mp hz0).1
        rw [f10 z z0 n1, if_neg (by omega), List.getElem?_set_self lt, ea]
    · have st : ∀ y ∈ z :: ms, left < gapV w (atR c y) := fun y hy => by
        rcases List.mem_cons.mp hy with q | q
        · rw [q]; omega
        · have := s1 y q; omega
      refine ⟨0, put, left, fold_stuck st, Nat.zero_le _, rfl, hp, rfl, by simp, hl, by simp, .inr ⟨z, rfl, by omega⟩, fun _ _ _ => rfl, fun y hy => ?_⟩
      have : z = y := by simpa using hy
      subst this
      rw [hz0, if_pos rfl]
theorem sum_split {g : Int} {κ : Int → Int} : ∀ {ms : List Int} {t : Nat}, t ≤ ms.length → (∀ z ∈ ms.take t, κ z ≤ g) → (∀ z ∈ ms.drop t, g ≤ κ z) → (ms.map fun z => max 0 (g - κ z)).sum = t * g - ((ms.take t).map κ).sum
  | [], t, h, _, _ => by
    have : t = 0 := by simpa using h
    subst this; simp
  | z :: ms, 0, _, _, h2 => by
    have e := sum_split (g := g) (κ := κ) (ms := ms) (t := 0) (Nat.zero_le _) (fun z hz => by simp at hz) (fun y hy => h2 y (by simpa using .inr (by simpa using hy)))
    have := h2 z (by simp)
    rw [List.map_cons, List.sum_cons, e]
    simp; omega
  | z :: ms, t + 1, h, h1, h2 => by
    have e := sum_split (g := g) (κ := κ) (ms := ms) (t := t) (by simpa using h) (fun y hy => h1 y (by rw [List.take_succ_cons]; exact List.mem_cons_of_mem _ hy)) (fun y hy => h2 y (by simpa using hy))
    have := h1 z (by rw [List.take_succ_cons]; exact List.mem_cons_self)
    rw [List.map_cons, List.sum_cons, e, List.take_succ_cons, List.map_cons, List.sum_cons]
    push_cast
    rw [Int.add_mul]
    omega
/-- the best of all puts -/
structure Best (w : Int) (c : List Int) (more : Int) (p : List Int) : Prop where
  len : p.length = c.length
  nn : ∀ x ∈ p, 0 ≤ x
  sum : p.sum = more
  best : ∀ q : List Int, q.length = c.length → (∀ x ∈ q, 0 ≤ x) → q.sum = more → rowsT w c q ≤ rowsT w c p
/-- what the walk through the rooms comes to -/
theorem great_ok {w more : Int} (hw : 1 ≤ w) {c ms : List Int} (hc : ∀ x ∈ c, 0 ≤ x) (hm : 0 ≤ more) (hp : ms.Perm (roomsFrom 0 c)) (hs : ms.Pairwise (fun x y => gapV w (atR c x) ≤ gapV w (atR c y))) {put : List Int} {left z x : Int}
    (hf : ms.foldl (stepG w c) (List.replicate c.length 0, more) = (put, left)) (hz : ms[0]? = some z) (hx : put[z.toNat]? = some x) : Best w c more (put.set z.toNat (x + left)) := by
  have mem : ∀ y ∈ ms, ∃ i a, y = ((i : Nat) : Int) ∧ c[i]? = some a ∧ 0 < a := fun y hy => by
    obtain ⟨i, a, e, h1, h2⟩ := roomsFrom_mem (hp.mem_iff.mp hy)
    exact ⟨i, a, by rw [e]; congr 1; omega, h1, h2⟩
  have mem2 : ∀ y ∈ ms, 0 ≤ y ∧ ∃ a, c[y.toNat]? = some a ∧ 0 < a ∧ atR c y = a := fun y hy => by
    obtain ⟨i, a, e, h1, h2⟩ := mem y hy
    have e2 : y.toNat = i := by omega
    exact ⟨by omega, a, by rw [e2]; exact h1, h2, by unfold atR; rw [e2, List.getD_eq_getElem?_getD, h1]; rfl⟩
  have gp : ∀ y ∈ ms, 1 ≤ gapV w (atR c y) ∧ gapV w (atR c y) ≤ w := fun y hy => by
    obtain ⟨_, a, _, h2, h3⟩ := mem2 y hy
    rw [h3]; exact gap_pos hw h2
  have rep0 : ∀ y ∈ ms, (List.replicate c.length (0 : Int))[y.toNat]? = some 0 := fun y hy => by
    obtain ⟨_, a, h1, _⟩ := mem2 y hy
    rw [List.getElem?_replicate, if_pos (List.getElem?_eq_some_iff.mp h1).1]
  obtain ⟨t, put', left', f1, f2, f3, f4, f5, f6, f7, f8, f9, f10, f11⟩ := foldG_ok hw hc (ms := ms) (put := List.replicate c.length 0) (left := more) (fun y hy => let ⟨h0, a, h1, _⟩ := mem2 y hy; ⟨h0, a, h1⟩) (hp.nodup_iff.mpr roomsFrom_nodup) hs rep0
    (fun x hx => by rw [(List.mem_replicate.mp hx).2]; omega) hm
  rw [hf] at f1
  cases f1
  have zm : z ∈ ms := List.mem_of_getElem? hz
  obtain ⟨z0, a, ha, a0, ea⟩ := mem2 z zm
  rw [List.length_replicate] at f3
  rw [rowsT_zero] at f6
  have rs : (List.replicate c.length (0 : Int)).sum = 0 := by simp
  rw [rs] at f5
  have hx2 := f11 z hz
  rw [hx, ea] at hx2
  have hx3 := Option.some.inj hx2
  clear hx2
  have gz := gp z zm
  rw [ea] at gz
  have xm := f4 x (List.mem_of_getElem? hx)
  refine ⟨by rw [List.length_set, f3], fun y hy => ?_, by rw [sum_set hx]; omega, fun q ql q0 qs => ?_⟩
  · rcases List.mem_or_eq_of_mem_set hy with e | e
    · exact f4 y e
    · omega
  rw [rowsT_set ha hx, f6]
  have D : ∀ g, ((ms.map fun y => max 0 (g - gapV w (atR c y))).sum = (c.map (dV w g)).sum) := fun g => by
    rw [perm_sum (hp.map _)]
    exact sum_rooms (pre := [])
  by_cases tl : t = ms.length
  · -- all taken
    have t0 : t ≠ 0 := by
      intro e
      rw [e] at tl
      have := List.length_eq_zero_iff.mp tl.symm
      rw [this] at hz; cases hz
    rw [if_neg t0] at hx3
    rw [hx3]
    have r1 := rfor_gap (a := a) (L := left) hw (by omega) f7
    have r2 := rfor_gap (a := a) (L := 0) hw (by omega) (by omega)
    rw [Int.add_zero, Int.zero_ediv] at r2
    rw [Int.add_assoc] at r1
    rw [r1, r2]
    have th := thr (g := w) hw hw (Int.le_refl _) ql.symm hc q0
    rw [← D w, sum_split (t := t) f2 (fun y hy => (gp y (List.mem_of_mem_take hy)).2) (fun y hy => by rw [tl, List.drop_length] at hy; cases hy), qs] at th
    have th2 : w * (rowsT w c q - rows0 w c - t) ≤ left := by rw [Int.mul_sub, Int.mul_comm w t]; omega
    have : rowsT w c q - rows0 w c - t ≤ left / w := (Int.le_ediv_iff_mul_le (by omega)).mpr (by rw [Int.mul_comm]; exact th2)
    omega
  · obtain ⟨y, y1, y2⟩ : ∃ y, ms[t]? = some y ∧ left < gapV w (atR c y) := by
      rcases f9 with e | e
      · exact absurd e tl
      · exact e
    have ym := List.mem_of_getElem? y1
    obtain ⟨g1, g2⟩ := gp y ym
    have th := thr (g := gapV w (atR c y)) hw g1 g2 ql.symm hc q0
    have tlt : t < ms.length := by omega
    have ey : ms[t] = y := by rw [List.getElem?_eq_getElem tlt] at y1; exact Option.some.inj y1
    have sp := List.pairwise_iff_getElem.mp hs
    rw [← D (gapV w (atR c y)), sum_split (t := t) (κ := fun z => gapV w (atR c z)) f2 (fun u hu => ?_) (fun u hu => ?_), qs] at th
    · have th2 : gapV w (atR c y) * (rowsT w c q - rows0 w c - t) ≤ left := by rw [Int.mul_sub, Int.mul_comm (gapV w (atR c y)) t]; omega
      have le : rowsT w c q - rows0 w c ≤ t := by
        by_cases cc : rowsT w c q - rows0 w c ≤ t
        · exact cc
        · have : gapV w (atR c y) * 1 ≤ gapV w (atR c y) * (rowsT w c q - rows0 w c - t) := Int.mul_le_mul_of_nonneg_left (by omega) (by omega)
          omega
      by_cases t0 : t = 0
      · rw [if_pos t0] at hx3
        subst t0
        have ezy : z = y := by rw [hz] at y1; exact Option.some.inj y1
        rw [hx3, Int.add_zero, Int.zero_add, rfor_small hw (by omega) f7 (by rw [← ea, ezy]; exact y2)]
        omega
      · rw [if_neg t0] at hx3
        rw [hx3]
        have r1 := rfor_gap (a := a) (L := left) hw (by omega) f7
        have r2 := rfor_gap (a := a) (L := 0) hw (by omega) (by omega)
        rw [Int.add_zero, Int.zero_ediv] at r2
        rw [Int.add_assoc] at r1
        rw [r1, r2, Int.ediv_eq_zero_of_lt f7 (by omega)]
        omega
    · obtain ⟨i, hi, e⟩ := List.mem_iff_getElem.mp hu
      rw [List.length_take] at hi
      have := sp i t (by omega) tlt (by omega)
      rw [ey] at this
      rw [← e, List.getElem_take]; exact this
    · obtain ⟨i, hi, e⟩ := List.mem_iff_getElem.mp hu
      rw [List.length_drop] at hi
      rw [List.getElem_drop] at e
      by_cases i0 : i = 0
      · subst i0
        have : u = y := by rw [← e, ← ey]; rfl
        rw [this]; exact Int.le_refl _
      · have := sp t (t + i) tlt (by omega) (by omega)
        rw [ey, e] at this
        exact this
/-- no room has keys: all into the first -/
theorem great_zero {w more : Int} (hw : 1 ≤ w) {c : List Int} (hc : ∀ x ∈ c, x = 0) (hn : c ≠ []) (hm : 0 ≤ more) {put : List Int} {left x : Int}
    (hf : [(0 : Int)].foldl (stepG w c) (List.replicate c.length 0, more) = (put, left)) (hx : put[(0 : Int).toNat]? = some x) : Best w c more (put.set (0 : Int).toNat (x + left)) := by
  obtain ⟨b, r, rfl⟩ : ∃ b r, c = b :: r := by
    cases c with
    | nil => exact absurd rfl hn
    | cons b r => exact ⟨b, r, rfl⟩
  have b0 := hc b List.mem_cons_self
  subst b0
  have e : put.set (0 : Int).toNat (x + left) = more :: List.replicate r.length 0 := by
    rw [List.foldl_cons, List.foldl_nil] at hf
    have e0 : (0 : Int).toNat = 0 := rfl
    unfold stepG at hf
    rw [List.length_cons, List.replicate_succ] at hf
    split at hf
    · cases hf
      rw [e0, List.set_cons_zero] at hx ⊢
      simp at hx
      rw [List.set_cons_zero, ← hx]
      congr 1
      simp only; omega
    · cases hf
      rw [e0] at hx ⊢
      simp at hx
      rw [List.set_cons_zero, ← hx, Int.zero_add]
  rw [e]
  refine ⟨by simp, fun y hy => ?_, by simp, fun q ql q0 qs => ?_⟩
  · rcases List.mem_cons.mp hy with h | h
    · omega
    · rw [(List.mem_replicate.mp h).2]; omega
  obtain ⟨t0, t1, t2⟩ := thr0 hw ql.symm hc q0
  have er : rowsT w (0 :: r) (more :: List.replicate r.length 0) = rows0 w (0 :: r) - rfor 0 w + rfor more w := by
    rw [rowsT, rowsT_zero, rows0, Int.zero_add]; omega
  rw [er]
  by_cases cc : more < gapV w 0
  · have := rfor_small hw (Int.le_refl 0) hm cc
    rw [Int.zero_add] at this
    rw [this]
    by_cases d : 0 < rowsT w (0 :: r) q - rows0 w (0 :: r)
    · have h2 := t2 d
      rw [gap_zero hw] at cc
      have : w * 1 ≤ w * (rowsT w (0 :: r) q - rows0 w (0 :: r)) := Int.mul_le_mul_of_nonneg_left (by omega) (by omega)
      omega
    · omega
  · obtain ⟨L, hL⟩ : ∃ L, more = gapV w 0 + L := ⟨more - gapV w 0, by omega⟩
    have L0 : 0 ≤ L := by omega
    have rg := rfor_gap (a := 0) (L := L) hw (by omega) L0
    rw [Int.zero_add, ← hL] at rg
    rw [rg]
    by_cases d : 0 < rowsT w (0 :: r) q - rows0 w (0 :: r)
    · have h2 := t2 d
      rw [gap_zero hw] at hL
      have h3 : w * (rowsT w (0 :: r) q - rows0 w (0 :: r) - 1) ≤ L := by rw [Int.mul_sub, Int.mul_one]; omega
      have : rowsT w (0 :: r) q - rows0 w (0 :: r) - 1 ≤ L / w := (Int.le_ediv_iff_mul_le (by omega)).mpr (by rw [Int.mul_comm]; exact h3)
      omega
    · have := Int.ediv_nonneg L0 (show 0 ≤ w by omega)
      omega

def Cheap (w : Int) (cs ms : List Int) : Prop := (ms.Perm (roomsFrom 0 cs) ∧ ms.Pairwise (fun x y => gapV w (atR cs x) ≤ gapV w (atR cs y)) ∧ ms ≠ []) ∨ (roomsFrom 0 cs = [] ∧ ms = [0])
def sp_cheap_rooms (K : PySem.W.Frag) : Sp := fun vs H Q _ => ∃ (a : Addr) (w : Int) (cs : List Int), vs = [.ref a, .int w] ∧ H a = some (.lst (cs.map V.int)) ∧ cs.length ≤ 200 ∧ 1 ≤ w ∧ w ≤ 8 ∧ TB_cheap_rooms K H ∧
  ∀ (ms : List Int) (l : Addr) (H' : Hp), Cheap w cs ms → H l = none → H' l = some (.lst (ms.map V.int)) → Sm H H' → TB_cheap_rooms K H' → Q (.ref l) H'
def sp_greatest_spill (K : PySem.W.Frag) : Sp := fun vs H Q _ => ∃ (a : Addr) (w more : Int) (cs : List Int), vs = [.ref a, .int w, .int more] ∧ H a = some (.lst (cs.map V.int)) ∧ cs ≠ [] ∧ cs.length ≤ 200 ∧ (∀ x ∈ cs, 0 ≤ x) ∧ 1 ≤ w ∧ w ≤ 8 ∧ 0 ≤ more ∧ TB_cheap_rooms K H ∧
  ∀ (p : List Int) (t l : Addr) (H' : Hp), Best w cs more p → H t = none → H l = none → t ≠ l → H' t = some (.tup [.int (rowsT w cs p - cs.length), .ref l]) → H' l = some (.lst (p.map V.int)) → Sm H H' → TB_cheap_rooms K H' → Q (.ref t) H'
theorem atR_of {c : List Int} {i : Nat} {a : Int} (h : c[i]? = some a) : atR c (i : Int) = a := by
  unfold atR
  rw [Int.toNat_natCast, List.getD_eq_getElem?_getD, h]; rfl
def sp__law_world (K : PySem.W.Frag) : Sp := fun vs H Q _ => ∃ (p : Addr) (N : Nat), vs = [.ref p] ∧ Hand H p N ∧ N + 5000 < 2 ^ 60 ∧
  ∀ (t l : Addr) (cs : List Int) (w more : Int) (H' : Hp), H' t = some (.tup [.ref l, .int w, .int more]) → H' l = some (.lst (cs.map V.int)) → cs ≠ [] → cs.length ≤ 120 → (∀ x ∈ cs, 0 ≤ x) → 1 ≤ w → w ≤ 8 → 0 ≤ more → more ≤ 10000000000 → Hand H' p (N + 2000) → Kp H H' p → Q (.ref t) H'
/-- what the sorted gaps give -/
def climb (w : Int) : List Int → Int → Int
  | [], l => l / w
  | g :: gs, l => if l < g then 0 else 1 + climb w gs (l - g)
theorem climb_nn {w : Int} (hw : 1 ≤ w) : ∀ {gs : List Int} {l : Int}, 0 ≤ l → 0 ≤ climb w gs l
  | [], l, h => Int.ediv_nonneg h (by omega)
  | g :: gs, l, h => by
    rw [climb]
    split
    · omega
    · have := climb_nn hw (gs := gs) (l := l - g) (by omega); omega
/-- the fewest keys for so many rows -/
def cost (w : Int) : List Int → Int → Int
  | [], r => r * w
  | g :: gs, r => if r ≤ 0 then 0 else g + cost w gs (r - 1)
theorem cost_ok {w : Int} (hw : 1 ≤ w) : ∀ {gs : List Int} {r : Int}, (∀ g ∈ gs, 1 ≤ g) → 0 ≤ r → 0 ≤ cost w gs r ∧ climb w gs (cost w gs r) ≥ r ∧ (1 ≤ r → 1 ≤ cost w gs r ∧ climb w gs (cost w gs r - 1) < r)
  | [], r, _, h => by
    rw [cost, climb]
    have : 0 ≤ r * w := Int.mul_nonneg h (by omega)
    refine ⟨this, by rw [Int.mul_ediv_cancel _ (by omega)]; omega, fun h1 => ⟨?_, ?_⟩⟩
    · have : 1 * 1 ≤ r * w := Int.mul_le_mul h1 hw (by omega) (by omega)
      omega
    · rw [climb]
      exact Int.ediv_lt_of_lt_mul (by omega) (by omega)
  | g :: gs, r, hg, h => by
    have g1 := hg g List.mem_cons_self
    rw [cost]
    by_cases c : r ≤ 0
    · rw [if_pos c]
      refine ⟨Int.le_refl _, ?_, fun h1 => by omega⟩
      have := climb_nn hw (gs := g :: gs) (l := 0) (Int.le_refl _)
      omega
    · rw [if_neg c]
      obtain ⟨i1, i2, i3⟩ := cost_ok hw (gs := gs) (r := r - 1) (fun x hx => hg x (List.mem_cons_of_mem _ hx)) (by omega)
      refine ⟨by omega, ?_, fun _ => ⟨by omega, ?_⟩⟩
      · rw [climb, if_neg (by omega), show g + cost w gs (r - 1) - g = cost w gs (r - 1) by omega]; omega
      · rw [climb]
        split
        · omega
        · rename_i d
          have r1 : 1 ≤ r - 1 := by
            by_cases e : 1 ≤ r - 1
            · exact e
            · exfalso
              have er : r - 1 = 0 := by omega
              rw [er] at d
              cases gs with
              | nil => rw [cost] at d; omega
              | cons x y => rw [cost, if_pos (by omega)] at d; omega
          rw [show g + cost w gs (r - 1) - 1 - g = cost w gs (r - 1) - 1 by omega]
          have := (i3 r1).2
          omega
theorem cost_sum {w : Int} : ∀ {gs : List Int} {r : Nat}, cost w gs r = (gs.take r).sum + max 0 ((r : Int) - gs.length) * w
  | [], r => by rw [cost]; simp
  | g :: gs, 0 => by
    rw [cost, if_pos (by omega), show max 0 (((0 : Nat) : Int) - ((g :: gs).length : Int)) = 0 by rw [List.length_cons]; omega]; simp
  | g :: gs, r + 1 => by
    rw [cost, if_neg (by omega), show ((r + 1 : Nat) : Int) - 1 = (r : Int) by omega, cost_sum, List.take_succ_cons, List.sum_cons, List.length_cons]
    rw [show ((r + 1 : Nat) : Int) - ((gs.length + 1 : Nat) : Int) = (r : Int) - gs.length by omega]
    omega
/-- two sorted lists of the same numbers are the same -/
theorem sorted_eq : ∀ {l l' : List Int}, l.Perm l' → l.Pairwise (· ≤ ·) → l'.Pairwise (· ≤ ·) → l = l'
  | [], l', h, _, _ => (List.nil_perm.mp h).symm
  | a :: l, [], h, _, _ => by simpa using h.length_eq
  | a :: l, b :: l', h, h1, h2 => by
    obtain ⟨p1, p2⟩ := List.pairwise_cons.mp h1
    obtain ⟨q1, q2⟩ := List.pairwise_cons.mp h2
    have e : a = b := by
      have m1 : a ∈ b :: l' := h.mem_iff.mp List.mem_cons_self
      have m2 : b ∈ a :: l := h.mem_iff.mpr List.mem_cons_self
      have a1 : b ≤ a := by
        rcases List.mem_cons.mp m1 with e | e
        · omega
        · exact q1 a e
      have a2 : a ≤ b := by
        rcases List.mem_cons.mp m2 with e | e
        · omega
        · exact p1 b e
      omega
    subst e
    rw [sorted_eq ((List.perm_cons a).mp h) p2 q2]
/-- the gaps of the rooms with keys, in the rooms' order -/
def gapsV (w : Int) (c : List Int) : List Int := (c.filter fun a => decide (0 < a)).map (gapV w)
theorem gaps_rooms {w : Int} : ∀ {c pre : List Int}, ((roomsFrom pre.length c).map fun z => gapV w (atR (pre ++ c) z)) = gapsV w c
  | [], pre => by simp [roomsFrom, gapsV]
  | a :: c, pre => by
    have ih := gaps_rooms (w := w) (c := c) (pre := pre ++ [a])
    rw [List.length_append, show pre ++ [a] ++ c = pre ++ a :: c by simp] at ih
    have ih : ((roomsFrom (pre.length + 1) c).map fun z => gapV w (atR (pre ++ a :: c) z)) = gapsV w c := ih
    unfold gapsV at ih ⊢
    rw [roomsFrom, List.filter_cons]
    by_cases h : 0 < a
    · rw [if_pos h, if_pos (by simpa using h), List.map_cons, List.map_cons, ih]
      congr 2
      unfold atR
      simp
    · rw [if_neg h, if_neg (by simpa using h), ih]
theorem climb_take {w : Int} : ∀ {gs : List Int} {t : Nat} {l l' : Int}, t ≤ gs.length → (∀ g ∈ gs, 0 ≤ g) → l' = l - (gs.take t).sum → 0 ≤ l' → (t = gs.length ∨ ∃ g, gs[t]? = some g ∧ l' < g) → climb w gs l = t + if t = gs.length then l' / w else 0
  | [], t, l, l', ht, _, e, _, _ => by
    have : t = 0 := by simpa using ht
    subst this
    have : l' = l := by simpa using e
    rw [this, climb]; simp
  | g :: gs, 0, l, l', _, _, e, _, h => by
    have : l' = l := by simpa using e
    obtain ⟨g', h1, h2⟩ : ∃ g', (g :: gs)[0]? = some g' ∧ l' < g' := by
      rcases h with h | h
      · cases h
      · exact h
    have : g = g' := by simpa using h1
    rw [climb, if_pos (by omega), if_neg (by simp)]; rfl
  | g :: gs, t + 1, l, l', ht, hg, e, h0, h => by
    rw [List.take_succ_cons, List.sum_cons] at e
    have tn := sum_nn fun x (hx : x ∈ gs.take t) => hg x (List.mem_cons_of_mem _ (List.mem_of_mem_take hx))
    rw [climb, if_neg (by omega), climb_take (gs := gs) (t := t) (l := l - g) (l' := l') (by simpa using ht) (fun x hx => hg x (List.mem_cons_of_mem _ hx)) (by omega) h0 (by
      rcases h with h | ⟨g', h1, h2⟩
      · exact .inl (by simpa using h)
      · exact .inr ⟨g', by simpa using h1, h2⟩)]
    rw [List.length_cons]
    by_cases c : t = gs.length
    · rw [if_pos c, if_pos (by omega)]; push_cast; omega
    · rw [if_neg c, if_neg (by omega)]; push_cast; omega
/-- .. and how many rows it gives -/
theorem great_val {w more : Int} (hw : 1 ≤ w) {c ms : List Int} (hc : ∀ x ∈ c, 0 ≤ x) (hm : 0 ≤ more) (hp : ms.Perm (roomsFrom 0 c)) (hs : ms.Pairwise (fun x y => gapV w (atR c x) ≤ gapV w (atR c y))) {put : List Int} {left z x : Int}
    (hf : ms.foldl (stepG w c) (List.replicate c.length 0, more) = (put, left)) (hz : ms[0]? = some z) (hx : put[z.toNat]? = some x) : rowsT w c (put.set z.toNat (x + left)) = rows0 w c + climb w (ms.map fun y => gapV w (atR c y)) more := by

  have mem : ∀ y ∈ ms, ∃ i a, y = ((i : Nat) : Int) ∧ c[i]? = some a ∧ 0 < a := fun y hy => by
    obtain ⟨i, a, e, h1, h2⟩ := roomsFrom_mem (hp.mem_iff.mp hy)
    exact ⟨i, a, by rw [e]; congr 1; omega, h1, h2⟩
  have mem2 : ∀ y ∈ ms, 0 ≤ y ∧ ∃ a, c[y.toNat]? = some a ∧ 0 < a ∧ atR c y = a := fun y hy => by
    obtain ⟨i, a, e, h1, h2⟩ := mem y hy
    have e2 : y.toNat = i := by omega
    exact ⟨by omega, a, by rw [e2]; exact h1, h2, by unfold atR; rw [e2, List.getD_eq_getElem?_getD, h1]; rfl⟩
  have gp : ∀ y ∈ ms, 1 ≤ gapV w (atR c y) ∧ gapV w (atR c y) ≤ w := fun y hy => by
    obtain ⟨_, a, _, h2, h3⟩ := mem2 y hy
    rw [h3]; exact gap_pos hw h2
  have rep0 : ∀ y ∈ ms, (List.replicate c.length (0 : Int))[y.toNat]? = some 0 := fun y hy => by
    obtain ⟨_, a, h1, _⟩ := mem2 y hy
    rw [List.getElem?_replicate, if_pos (List.getElem?_eq_some_iff.mp h1).1]
  obtain ⟨t, put', left', f1, f2, f3, f4, f5, f6, f7, f8, f9, f10, f11⟩ := foldG_ok hw hc (ms := ms) (put := List.replicate c.length 0) (left := more) (fun y hy => let ⟨h0, a, h1, _⟩ := mem2 y hy; ⟨h0, a, h1⟩) (hp.nodup_iff.mpr roomsFrom_nodup) hs rep0
    (fun x hx => by rw [(List.mem_replicate.mp hx).2]; omega) hm
  rw [hf] at f1
  cases f1
  have zm : z ∈ ms := List.mem_of_getElem? hz
  obtain ⟨z0, a, ha, a0, ea⟩ := mem2 z zm
  rw [List.length_replicate] at f3
  rw [rowsT_zero] at f6
  have rs : (List.replicate c.length (0 : Int)).sum = 0 := by simp
  rw [rs] at f5
  have hx2 := f11 z hz
  rw [hx, ea] at hx2
  have hx3 := Option.some.inj hx2
  clear hx2
  have gz := gp z zm
  rw [ea] at gz
  have xm := f4 x (List.mem_of_getElem? hx)
  rw [rowsT_set ha hx, f6]
  rw [climb_take (w := w) (t := t) (l' := left) (by rw [List.length_map]; exact f2) (fun g hg => by
    obtain ⟨y, hy, rfl⟩ := List.mem_map.mp hg
    have := (gp y hy).1
    omega) (by rw [f8, List.map_take]) f7 (by
    rcases f9 with e | ⟨y, y1, y2⟩
    · exact .inl (by rw [List.length_map]; exact e)
    · exact .inr ⟨_, by rw [List.getElem?_map, y1]; rfl, y2⟩), List.length_map]
  by_cases tl : t = ms.length
  · have t0 : t ≠ 0 := by
      intro e
      rw [e] at tl
      have := List.length_eq_zero_iff.mp tl.symm
      rw [this] at hz; cases hz
    rw [if_neg t0] at hx3
    rw [hx3, if_pos tl]
    have r1 := rfor_gap (a := a) (L := left) hw (by omega) f7
    have r2 := rfor_gap (a := a) (L := 0) hw (by omega) (by omega)
    rw [Int.add_zero, Int.zero_ediv] at r2
    rw [Int.add_assoc] at r1
    rw [r1, r2]
    omega
  · obtain ⟨y, y1, y2⟩ : ∃ y, ms[t]? = some y ∧ left < gapV w (atR c y) := by
      rcases f9 with e | e
      · exact absurd e tl
      · exact e
    obtain ⟨g1, g2⟩ := gp y (List.mem_of_getElem? y1)
    rw [if_neg tl]
    by_cases t0 : t = 0
    · rw [if_pos t0] at hx3
      subst t0
      have ezy : z = y := by rw [hz] at y1; exact Option.some.inj y1
      rw [hx3, Int.add_zero, Int.zero_add, rfor_small hw (by omega) f7 (by rw [← ea, ezy]; exact y2)]
      omega
    · rw [if_neg t0] at hx3
      rw [hx3]
      have r1 := rfor_gap (a := a) (L := left) hw (by omega) f7
      have r2 := rfor_gap (a := a) (L := 0) hw (by omega) (by omega)
      rw [Int.add_zero, Int.zero_ediv] at r2
      rw [Int.add_assoc] at r1
      rw [r1, r2, Int.ediv_eq_zero_of_lt f7 (by omega)]
      omega
/-- the greatest of all by the sorted gaps -/
theorem best_climb {w more : Int} (hw : 1 ≤ w) {c gs p : List Int} (hc : ∀ x ∈ c, 0 ≤ x) (hm : 0 ≤ more) (hp : gs.Perm (gapsV w c)) (hs : gs.Pairwise (· ≤ ·)) (hne : gs ≠ []) (hb : Best w c more p) : rowsT w c p = rows0 w c + climb w gs more := by
  -- the rooms in the order of their gaps
  obtain ⟨ms, m1, m2, m3⟩ : ∃ ms : List Int, ms.Perm (roomsFrom 0 c) ∧ ms.Pairwise (fun x y => gapV w (atR c x) ≤ gapV w (atR c y)) ∧ ms.map (fun z => gapV w (atR c z)) = gs := by
    refine ⟨(roomsFrom 0 c).mergeSort (fun x y => decide (gapV w (atR c x) ≤ gapV w (atR c y))), List.mergeSort_perm _ _, ?_, ?_⟩
    · have := List.pairwise_mergeSort (le := fun x y => decide (gapV w (atR c x) ≤ gapV w (atR c y))) (fun a b d h1 h2 => by simp at h1 h2 ⊢; omega) (fun a b => by simp; omega) (roomsFrom 0 c)
      exact this.imp fun h => by simpa using h
    · refine sorted_eq ?_ ?_ hs
      · refine ((List.mergeSort_perm _ _).map _).trans ?_
        have := gaps_rooms (w := w) (c := c) (pre := [])
        rw [List.length_nil, List.nil_append] at this
        rw [this]
        exact hp.symm
      · rw [List.pairwise_map]
        have := List.pairwise_mergeSort (le := fun x y => decide (gapV w (atR c x) ≤ gapV w (atR c y))) (fun a b d h1 h2 => by simp at h1 h2 ⊢; omega) (fun a b => by simp; omega) (roomsFrom 0 c)
        exact this.imp fun h => by simpa using h
  have mne : ms ≠ [] := fun e => by rw [e] at m3; exact hne m3.symm
  obtain ⟨z, r, rfl⟩ : ∃ z r, ms = z :: r := by
    cases ms with
    | nil => exact absurd rfl mne
    | cons z r => exact ⟨z, r, rfl⟩
  obtain ⟨i, a, ez, ha, _⟩ := roomsFrom_mem (m1.mem_iff.mp List.mem_cons_self)
  rw [Nat.zero_add] at ez
  obtain ⟨put, left, hf⟩ : ∃ put left, (z :: r).foldl (stepG w c) (List.replicate c.length 0, more) = (put, left) := ⟨_, _, rfl⟩
  have pl : put.length = c.length := by
    have := fold_len (w := w) (c := c) (ms := z :: r) (pl := (List.replicate c.length 0, more))
    rw [hf, List.length_replicate] at this; exact this
  obtain ⟨x, hx⟩ : ∃ x, put[z.toNat]? = some x := ⟨_, List.getElem?_eq_getElem (by
    have := (List.getElem?_eq_some_iff.mp ha).1
    omega)⟩
  have b2 := great_ok hw hc hm m1 m2 hf rfl hx
  have v2 := great_val hw hc hm m1 m2 hf rfl hx
  rw [m3] at v2
  have := hb.best _ b2.len b2.nn b2.sum
  have := b2.best _ hb.len hb.nn hb.sum
  omega
/-- no room has keys -/
theorem best_zero {w more : Int} (hw : 1 ≤ w) {c p : List Int} (hc : ∀ x ∈ c, x = 0) (hne : c ≠ []) (hm : 0 ≤ more) (hb : Best w c more p) : rowsT w c p = rows0 w c + max 0 (more - 1) / w := by
  obtain ⟨put, left, hf⟩ : ∃ put left, [(0 : Int)].foldl (stepG w c) (List.replicate c.length 0, more) = (put, left) := ⟨_, _, rfl⟩
  have pl : put.length = c.length := by
    have := fold_len (w := w) (c := c) (ms := [0]) (pl := (List.replicate c.length 0, more))
    rw [hf, List.length_replicate] at this; exact this
  have cp := List.length_pos_iff.mpr hne
  obtain ⟨b, r, rfl⟩ : ∃ b r, c = b :: r := by
    cases c with
    | nil => exact absurd rfl hne
    | cons b r => exact ⟨b, r, rfl⟩
  have b0 := hc b List.mem_cons_self
  subst b0
  have v : Best w (0 :: r) more (more :: List.replicate r.length 0) := by
    obtain ⟨x, hx⟩ : ∃ x, put[(0 : Int).toNat]? = some x := ⟨_, List.getElem?_eq_getElem (by show 0 < put.length; omega)⟩
    have b2 := great_zero hw hc hne hm hf hx
    refine ⟨by simp, fun y hy => ?_, by simp, fun q ql q0 qs => ?_⟩
    · rcases List.mem_cons.mp hy with h | h
      · omega
      · rw [(List.mem_replicate.mp h).2]; omega
    · obtain ⟨t0, t1, t2⟩ := thr0 hw ql.symm hc q0
      rw [rowsT, rowsT_zero, Int.zero_add]
      have rs := rfor_spill hw hm
      have r0 : rfor 0 w = 1 := by
        have := gap_zero hw
        unfold gapV at this
        have h1 : rfor 0 w * w = 1 * w := by omega
        exact Int.eq_of_mul_eq_mul_right (by omega) h1
      rw [rows0] at t0 t1 t2
      rw [r0] at t0 t1 t2
      by_cases d : 0 < rowsT w (0 :: r) q - (1 + rows0 w r)
      · have := t2 d
        rw [qs] at this
        have : rowsT w (0 :: r) q - (1 + rows0 w r) ≤ max 0 (more - 1) / w := (Int.le_ediv_iff_mul_le (by omega)).mpr (by rw [Int.mul_comm]; omega)
        omega
      · have := Int.ediv_nonneg (show 0 ≤ max 0 (more - 1) by omega) (show 0 ≤ w by omega)
        omega
  have e1 := hb.best _ v.len v.nn v.sum
  have e2 := v.best _ hb.len hb.nn hb.sum
  have rs := rfor_spill hw hm
  have r0 : rfor 0 w = 1 := by
    have := gap_zero hw
    unfold gapV at this
    have h1 : rfor 0 w * w = 1 * w := by omega
    exact Int.eq_of_mul_eq_mul_right (by omega) h1
  have e3 : rowsT w (0 :: r) (more :: List.replicate r.length 0) = rfor more w + rows0 w r := by rw [rowsT, rowsT_zero, Int.zero_add]
  rw [rows0, r0]
  omega
/-- the least of all -/
theorem fill_sum {w : Int} (hw : 1 ≤ w) : ∀ {c : List Int} {l : Int}, (∀ x ∈ c, 0 ≤ x) → 0 ≤ l → (fillV w c l).sum = min l (rows0 w c * w - c.sum)
  | [], l, _, h => by rw [fillV, rows0]; simp; omega
  | a :: c, l, hc, h => by
    have ha := hc a List.mem_cons_self
    obtain ⟨b1, b2⟩ := rfor_up (m := a) hw ha
    rw [fillV, List.sum_cons, fill_sum hw (fun x hx => hc x (List.mem_cons_of_mem _ hx)) (by omega), rows0, List.sum_cons, Int.add_mul]
    have : 0 ≤ rows0 w c * w - c.sum := by
      have := (rowsT_up hw (c := c) (q := List.replicate c.length 0) (by simp) (fun x hx => hc x (List.mem_cons_of_mem _ hx)) (fun x hx => by rw [(List.mem_replicate.mp hx).2]; omega)).1
      rw [rowsT_zero] at this
      simp at this
      omega
    omega
theorem least_val {w more : Int} (hw : 1 ≤ w) {c : List Int} (hc : ∀ x ∈ c, 0 ≤ x) (hne : c ≠ []) (hm : 0 ≤ more) : rowsT w c (leastV w c more) = rows0 w c + (max 0 (more - (rows0 w c * w - c.sum)) + w - 1) / w := by
  obtain ⟨v1, v2, v3, v4⟩ := leastV_ok hw hc hne hm
  obtain ⟨f1, f2, f3, f4⟩ := fillV_ok hw hc hm
  have fs := fill_sum hw hc hm
  have fl := fillV_len (w := w) (c := c) (l := more)
  cases c with
  | nil => exact absurd rfl hne
  | cons a c =>
    have ha := hc a List.mem_cons_self
    unfold leastV
    cases e : fillV w (a :: c) more with
    | nil => rw [e] at fl; cases fl
    | cons x r =>
      rw [e] at f1 f2 f3 f4 fs
      have hx := f1 x List.mem_cons_self
      have e2 := e
      rw [fillV] at e2
      obtain ⟨ex, _⟩ := List.cons.inj e2
      obtain ⟨b1, b2⟩ := rfor_up (m := a) hw ha
      rw [List.sum_cons] at f2 f4 fs ⊢
      rw [rowsT] at f3 ⊢
      by_cases h : x + r.sum < more
      · have f5 := f4 h
        have L0 : 0 < more - (x + r.sum) := by omega
        have eF : more - (rows0 w (a :: c) * w - (a :: c).sum) = more - (x + r.sum) := by omega
        rw [eF, Int.max_eq_right (by omega)]
        -- the first room is full
        have rx : x = rfor a w * w - a := by
          by_cases g : more ≤ rfor a w * w - a
          · have : x = more := by omega
            have := sum_nn fun y (hy : y ∈ r) => f1 y (List.mem_cons_of_mem _ hy)
            omega
          · omega
        generalize more - (x + r.sum) = L at L0 ⊢
        have ea : a + (x + L) = a + gapV w a + (L - 1) := by unfold gapV; omega
        have eb : a + x = a + (gapV w a - 1) := by unfold gapV; omega
        have gp := gap_nn (w := w) hw ha
        rw [eb, rfor_small hw ha (by omega) (by omega)] at f3
        rw [ea, rfor_gap hw ha (by omega), show L + w - 1 = (L - 1) + 1 * w by omega, Int.add_mul_ediv_right _ _ (by omega)]
        omega
      · have ez : more - (x + r.sum) = 0 := by omega
        rw [ez, Int.add_zero, f3, Int.max_eq_left (by omega), Int.zero_add, Int.ediv_eq_zero_of_lt (by omega) (by omega), Int.add_zero]
theorem free1 {w a : Int} (hw : 1 ≤ w) (ha : 0 ≤ a) : (0 - a) % w + w * (if a = 0 then 1 else 0) = rfor a w * w - a := by
  by_cases c : a = 0
  · subst c
    have := gap_zero hw
    unfold gapV at this
    rw [if_pos rfl, Int.sub_zero, Int.zero_emod]; omega
  · obtain ⟨g1, g2⟩ := gap_pos hw (show 0 < a by omega)
    unfold gapV at g1 g2
    have e : 0 - a = (rfor a w * w - a) + (- rfor a w) * w := by rw [Int.neg_mul]; omega
    rw [if_neg c, e, Int.add_mul_emod_self_right, Int.emod_eq_of_lt (by omega) (by omega)]; omega
theorem need1 {w a : Int} (hw : 1 ≤ w) (ha : 0 < a) : 1 + (0 - a) % w = gapV w a := by
  have := free1 hw (show 0 ≤ a by omega)
  rw [if_neg (by omega)] at this
  unfold gapV; omega
def srt (l : List Int) : List Int := l.mergeSort (fun x y => decide (x ≤ y))
theorem srt_perm (l : List Int) : (srt l).Perm l := List.mergeSort_perm _ _
theorem srt_sorted (l : List Int) : (srt l).Pairwise (· ≤ ·) := by
  have := List.pairwise_mergeSort (le := fun (x y : Int) => decide (x ≤ y)) (fun a b d h1 h2 => by simp at h1 h2 ⊢; omega) (fun a b => by simp; omega) l
  exact this.imp fun h => by simpa using h
theorem srt_eq {l ms : List Int} (h : ms.Perm l) (hs : ms.Pairwise (· ≤ ·)) : ms = srt l := sorted_eq (h.trans (srt_perm l).symm) hs (srt_sorted l)
/-- the greatest spill, the least -/
def greatV (w : Int) (c : List Int) (more : Int) : Int := rows0 w c - c.length + (if srt (gapsV w c) = [] then max 0 (more - 1) / w else climb w (srt (gapsV w c)) more)
theorem gaps_nil {w : Int} {c : List Int} (hc : ∀ x ∈ c, 0 ≤ x) (h : srt (gapsV w c) = []) : ∀ x ∈ c, x = 0 := fun x hx => by
  have e : gapsV w c = [] := List.nil_perm.mp (h ▸ srt_perm (gapsV w c))
  unfold gapsV at e
  have e2 := List.map_eq_nil_iff.mp e
  have := List.filter_eq_nil_iff.mp e2 x hx
  have := hc x hx
  simp at *
  omega
theorem best_val {w more : Int} (hw : 1 ≤ w) {c p : List Int} (hc : ∀ x ∈ c, 0 ≤ x) (hne : c ≠ []) (hm : 0 ≤ more) (hb : Best w c more p) : rowsT w c p - c.length = greatV w c more := by
  unfold greatV
  split
  · rename_i h
    rw [best_zero hw (gaps_nil hc h) hne hm hb]; omega
  · rename_i h
    rw [best_climb hw hc hm (srt_perm _) (srt_sorted _) h hb]; omega
def fewV (w : Int) (c : List Int) (lim : Int) : Int := if srt (gapsV w c) = [] then cost w [w + 1] (max 0 (lim - (rows0 w c - c.length))) else cost w (srt (gapsV w c)) (max 0 (lim - (rows0 w c - c.length)))
theorem climb_one {w m : Int} (hw : 1 ≤ w) (hm : 0 ≤ m) : climb w [w + 1] m = max 0 (m - 1) / w := by
  rw [climb]
  split
  · rename_i h
    by_cases c : m = 0
    · rw [c, show max (0 : Int) (0 - 1) = 0 by omega, Int.zero_ediv]
    · rw [Int.max_eq_right (by omega), Int.ediv_eq_zero_of_lt (by omega) (by omega)]
  · rename_i h
    rw [climb, Int.max_eq_right (by omega), show m - 1 = (m - (w + 1)) + 1 * w by omega, Int.add_mul_ediv_right _ _ (by omega)]; omega
theorem gaps_one {w : Int} (hw : 1 ≤ w) {c : List Int} : ∀ g ∈ srt (gapsV w c), 1 ≤ g := fun g hg => by
  have h := (srt_perm (gapsV w c)).mem_iff.mp hg
  unfold gapsV at h
  obtain ⟨a, ha, rfl⟩ := List.mem_map.mp h
  have := (List.mem_filter.mp ha).2
  exact (gap_pos hw (by simpa using this)).1
theorem few_ok {w lim : Int} (hw : 1 ≤ w) {c : List Int} : 0 ≤ fewV w c lim ∧ lim ≤ greatV w c (fewV w c lim) ∧ (fewV w c lim ≠ 0 → greatV w c (fewV w c lim - 1) < lim) := by
  unfold fewV greatV
  by_cases h : srt (gapsV w c) = []
  · rw [if_pos h, if_pos h, if_pos h]
    obtain ⟨i1, i2, i3⟩ := cost_ok (gs := [w + 1]) (r := max 0 (lim - (rows0 w c - c.length))) hw (fun g hg => by simp at hg; omega) (by omega)
    generalize hr : max 0 (lim - (rows0 w c - c.length)) = r at *
    rw [climb_one hw i1] at i2
    refine ⟨i1, by omega, fun hn => ?_⟩
    have r1 : 1 ≤ r := by
      by_cases e : 1 ≤ r
      · exact e
      · exfalso; apply hn; rw [cost, if_pos (by omega)]
    obtain ⟨j1, j2⟩ := i3 r1
    rw [climb_one hw (by omega)] at j2
    omega
  · rw [if_neg h, if_neg h, if_neg h]
    obtain ⟨i1, i2, i3⟩ := cost_ok (gs := srt (gapsV w c)) (r := max 0 (lim - (rows0 w c - c.length))) hw (gaps_one hw) (by omega)
    generalize hr : max 0 (lim - (rows0 w c - c.length)) = r at *
    refine ⟨i1, by omega, fun hn => ?_⟩
    have r1 : 1 ≤ r := by
      by_cases e : 1 ≤ r
      · exact e
      · exfalso; apply hn
        cases e2 : srt (gapsV w c) with
        | nil => exact absurd e2 h
        | cons x y => rw [cost, if_pos (by omega)]
    obtain ⟨j1, j2⟩ := i3 r1
    omega
theorem few_prog {w lim : Int} (hw : 1 ≤ w) {c gs : List Int} (hc : ∀ x ∈ c, 0 ≤ x) (h : (gs.Perm (gapsV w c) ∧ gs.Pairwise (· ≤ ·) ∧ gs ≠ []) ∨ (gapsV w c = [] ∧ gs = [w + 1])) :
    (gs.take (max 0 (lim - (rows0 w c - c.length))).toNat).sum + max 0 (max 0 (lim - (rows0 w c - c.length)) - gs.length) * w = fewV w c lim := by
  have key : ∀ gs : List Int, (gs.take (max 0 (lim - (rows0 w c - c.length))).toNat).sum + max 0 (max 0 (lim - (rows0 w c - c.length)) - gs.length) * w = cost w gs (max 0 (lim - (rows0 w c - c.length))) := fun gs => by
    have e : max 0 (lim - (rows0 w c - c.length)) = (((max 0 (lim - (rows0 w c - c.length))).toNat : Nat) : Int) := by omega
    generalize (max 0 (lim - (rows0 w c - c.length))).toNat = r at e
    rw [e, cost_sum]
  rw [key]
  unfold fewV
  rcases h with ⟨h1, h2, h3⟩ | ⟨h1, h2⟩
  · have e := srt_eq h1 h2
    rw [← e, if_neg h3]
  · have e : srt (gapsV w c) = [] := by
      have := srt_perm (gapsV w c)
      rw [h1] at this ⊢
      exact List.perm_nil.mp this
    rw [if_pos e, h2]
theorem free_nn {w : Int} (hw : 1 ≤ w) {c : List Int} (hc : ∀ x ∈ c, 0 ≤ x) : 0 ≤ rows0 w c * w - c.sum := by
  have := (rowsT_up hw (c := c) (q := List.replicate c.length 0) (by simp) hc (fun x hx => by rw [(List.mem_replicate.mp hx).2]; omega)).1
  rw [rowsT_zero] at this
  simp at this
  omega
theorem least_zero {w : Int} (hw : 1 ≤ w) {c : List Int} (hc : ∀ x ∈ c, 0 ≤ x) (hne : c ≠ []) : rowsT w c (leastV w c 0) = rows0 w c := by
  rw [least_val hw hc hne (by omega), Int.max_eq_left (by have := free_nn hw hc; omega), Int.zero_add, Int.ediv_eq_zero_of_lt (by omega) (by omega), Int.add_zero]
theorem most_ok {w lim : Int} (hw : 1 ≤ w) {c : List Int} (hc : ∀ x ∈ c, 0 ≤ x) (hne : c ≠ []) (h : rows0 w c - c.length ≤ lim) : 0 ≤ (c.length + lim) * w - c.sum ∧ rowsT w c (leastV w c ((c.length + lim) * w - c.sum)) - c.length = lim ∧ rowsT w c (leastV w c ((c.length + lim) * w - c.sum + 1)) - c.length = lim + 1 := by
  have f0 := free_nn hw hc
  obtain ⟨d, hd⟩ : ∃ d, (c.length : Int) + lim = rows0 w c + d := ⟨c.length + lim - rows0 w c, by omega⟩
  have d0 : 0 ≤ d := by omega
  have e : ((c.length : Int) + lim) * w - c.sum = d * w + (rows0 w c * w - c.sum) := by rw [hd, Int.add_mul]; omega
  have dw : 0 ≤ d * w := Int.mul_nonneg d0 (by omega)
  rw [e]
  refine ⟨by omega, ?_, ?_⟩
  · rw [least_val hw hc hne (by omega), show d * w + (rows0 w c * w - c.sum) - (rows0 w c * w - c.sum) = d * w by omega, Int.max_eq_right dw, show d * w + w - 1 = (w - 1) + d * w by omega, Int.add_mul_ediv_right _ _ (by omega), Int.ediv_eq_zero_of_lt (by omega) (by omega)]
    omega
  · rw [least_val hw hc hne (by omega), show d * w + (rows0 w c * w - c.sum) + 1 - (rows0 w c * w - c.sum) = d * w + 1 by omega, Int.max_eq_right (by omega), show d * w + 1 + w - 1 = 0 + (d + 1) * w by rw [Int.add_mul]; omega, Int.add_mul_ediv_right _ _ (by omega), Int.zero_ediv]
    omega
theorem sum_more {w : Int} (hw : 1 ≤ w) : ∀ {c : List Int}, (∀ x ∈ c, 0 ≤ x) → (c.map fun x => max 0 (x - 1) / w).sum = rows0 w c - c.length
  | [], _ => rfl
  | a :: c, h => by
    rw [List.map_cons, List.sum_cons, sum_more hw (fun x hx => h x (List.mem_cons_of_mem _ hx)), rows0, List.length_cons, ← rfor_spill hw (h a List.mem_cons_self)]
    push_cast; omega
theorem sum_free {w : Int} (hw : 1 ≤ w) : ∀ {c : List Int}, (∀ x ∈ c, 0 ≤ x) → (c.map fun x => (0 - x) % w + w * (if x = 0 then 1 else 0)).sum = rows0 w c * w - c.sum
  | [], _ => by simp [rows0]
  | a :: c, h => by
    rw [List.map_cons, List.sum_cons, sum_free hw (fun x hx => h x (List.mem_cons_of_mem _ hx)), rows0, List.sum_cons, free1 hw (h a List.mem_cons_self), Int.add_mul]
    omega
theorem climb_drop {w : Int} {gs : List Int} {i : Nat} {g l : Int} (h : gs[i]? = some g) : climb w (gs.drop i) l = if l < g then 0 else 1 + climb w (gs.drop (i + 1)) (l - g) := by
  have lt := (List.getElem?_eq_some_iff.mp h).1
  have e : gs[i] = g := (List.getElem?_eq_some_iff.mp h).2
  rw [List.drop_eq_getElem_cons lt, climb, e]

def sp_spill_now (K : PySem.W.Frag) : Sp := fun vs H Q _ => ∃ (a : Addr) (w : Int) (cs : List Int), vs = [.ref a, .int w] ∧ H a = some (.lst (cs.map V.int)) ∧ cs.length ≤ 200 ∧ 1 ≤ w ∧ w ≤ 8 ∧
  ∀ H', Same H H' → Q (.int (rows0 w cs - cs.length)) H'
def sp_fewest_for (K : PySem.W.Frag) : Sp := fun vs H Q _ => ∃ (a : Addr) (w lim : Int) (cs : List Int), vs = [.ref a, .int w, .int lim] ∧ H a = some (.lst (cs.map V.int)) ∧ cs ≠ [] ∧ cs.length ≤ 200 ∧ (∀ x ∈ cs, 0 ≤ x) ∧ 1 ≤ w ∧ w ≤ 8 ∧ TB_cheap_rooms K H ∧
  ∀ H', Sm H H' → TB_cheap_rooms K H' → Q (.int (fewV w cs lim)) H'
def sp_most_for (K : PySem.W.Frag) : Sp := fun vs H Q _ => ∃ (a : Addr) (w lim : Int) (cs : List Int), vs = [.ref a, .int w, .int lim] ∧ H a = some (.lst (cs.map V.int)) ∧ cs.length ≤ 200 ∧ 1 ≤ w ∧ w ≤ 8 ∧
  (∀ H', Same H H' → lim < rows0 w cs - cs.length → Q .non H') ∧ ∀ H', Same H H' → rows0 w cs - cs.length ≤ lim → Q (.int ((cs.length + lim) * w - cs.sum)) H'
def sp__law_needs (K : PySem.W.Frag) : Sp := fun vs H Q _ => ∃ (a : Addr) (w : Int) (cs : List Int), vs = [.ref a, .int w] ∧ H a = some (.lst (cs.map V.int)) ∧ cs.length ≤ 200 ∧ 1 ≤ w ∧ w ≤ 8 ∧
  ∀ (l : Addr) (H' : Hp), H' l = some (.lst ((srt (gapsV w cs)).map V.int)) → Same H H' → Q (.ref l) H'
def sp__law_greatest (K : PySem.W.Frag) : Sp := fun vs H Q _ => ∃ (a : Addr) (w more : Int) (cs : List Int), vs = [.ref a, .int w, .int more] ∧ H a = some (.lst (cs.map V.int)) ∧ cs.length ≤ 200 ∧ (∀ x ∈ cs, 0 ≤ x) ∧ 1 ≤ w ∧ w ≤ 8 ∧
  ∀ H', Same H H' → Q (.int (greatV w cs more)) H'
def sp__law_least (K : PySem.W.Frag) : Sp := fun vs H Q _ => ∃ (a : Addr) (w more : Int) (cs : List Int), vs = [.ref a, .int w, .int more] ∧ H a = some (.lst (cs.map V.int)) ∧ cs ≠ [] ∧ cs.length ≤ 200 ∧ (∀ x ∈ cs, 0 ≤ x) ∧ 1 ≤ w ∧ w ≤ 8 ∧ 0 ≤ more ∧
  ∀ H', Same H H' → Q (.int (rowsT w cs (leastV w cs more) - cs.length)) H'
theorem gapsV_snoc {w a : Int} {c : List Int} : gapsV w (c ++ [a]) = gapsV w c ++ (if 0 < a then [gapV w a] else []) := by
  unfold gapsV
  rw [List.filter_append, List.map_append]
  congr 1
  by_cases h : 0 < a
  · rw [if_pos h, List.filter_cons, if_pos (by simpa using h)]; rfl
  · rw [if_neg h, List.filter_cons, if_neg (by simpa using h)]; rfl
theorem gapsV_len {w : Int} {c : List Int} : (gapsV w c).length ≤ c.length := by
  unfold gapsV
  rw [List.length_map]
  exact List.length_filter_le _ _
theorem law_spill {w a b : Int} (hw : 1 ≤ w) (ha : 0 ≤ a) (hb : 0 ≤ b) : max 0 (a + b - 1) / w = spillF w a b := by
  unfold spillF; rw [rfor_spill hw (by omega)]
def sp__law_spill (K : PySem.W.Frag) : Sp := fun vs H Q _ => ∃ (a b : Addr) (w : Int) (cs ps : List Int), vs = [.ref a, .int w, .ref b] ∧ H a = some (.lst (cs.map V.int)) ∧ H b = some (.lst (ps.map V.int)) ∧ cs.length = ps.length ∧ cs.length ≤ 200 ∧ (∀ x ∈ cs, 0 ≤ x) ∧ (∀ x ∈ ps, 0 ≤ x) ∧ 1 ≤ w ∧ w ≤ 8 ∧
  ∀ H', Same H H' → Q (.int (rowsT w cs ps - cs.length)) H'
/-- what may stand in a put -/
def El (H : Hp) : V → Prop
  | .int _ => True
  | .bl _ => True
  | .non => True
  | .str _ => True
  | .ref r => H r = some (.lst [.int 1]) ∨ H r = some (.tup [.int 1]) ∨ H r = some (.dK [])
  | _ => False
theorem El.nt {H H' : Hp} {x : V} (h : El H x) (s : ∀ r o, x = .ref r → H r = some o → (∀ ps, o ≠ .tbl ps) → H' r = some o) : El H' x := by
  cases x with
  | ref r =>
    rcases h with h | h | h
    · exact .inl (s _ _ rfl h fun _ => nofun)
    · exact .inr (.inl (s _ _ rfl h fun _ => nofun))
    · exact .inr (.inr (s _ _ rfl h fun _ => nofun))
  | _ => exact h
theorem El.sm {H H' : Hp} {x : V} (h : El H x) (s : Sm H H') : El H' x := h.nt fun r o _ e n => s.nt r o e n
theorem El.same {H H' : Hp} {x : V} (h : El H x) (s : Same H H') : El H' x := h.sm s.sm
theorem El.upd {H : Hp} {x : V} {D : Addr} {o : HO} (h : El H x) (n : x ≠ .ref D) : El (L2.upd H D o) x := h.nt fun r o' e1 e _ => by
  rw [upd_ne (fun z => n (by rw [e1, z]))]; exact e
theorem El.ne {H : Hp} {p : Addr} {N : Nat} {x : V} (h : El H x) (hh : Hand H p N) : x ≠ .ref p := by
  rintro rfl
  obtain ⟨l, d, c, ns, h1, _⟩ := hh.ex
  rcases h with h | h | h <;> · rw [h1] at h; simp at h
theorem El.kp {H H' : Hp} {p : Addr} {N : Nat} {x : V} (h : El H x) (hh : Hand H p N) (k : Kp H H' p) : El H' x := h.nt fun r o e1 e _ => k.1 r o e fun z => h.ne hh (by rw [e1, z])
def numB : V → Bool
  | .int _ => true
  | .bl _ => true
  | _ => false
def blB : V → Bool
  | .bl _ => true
  | _ => false
def okV : V → Bool
  | .int i => decide (0 ≤ i)
  | _ => false
def valV : V → Int
  | .int i => i
  | _ => 0
theorem El.isi {K : PySem.W.Frag} {H : Hp} {x : V} (h : El H x) : ∃ t, TyOf K H x t ∧ PySem.W.kitOne K t (.type "int") = some (numB x) ∧ PySem.W.kitOne K t (.type "bool") = some (blB x) := by
  cases x with
  | int i => exact ⟨_, .int i, rfl, rfl⟩
  | bl b => exact ⟨_, .bl b, rfl, rfl⟩
  | non => exact ⟨_, .non, rfl, rfl⟩
  | str z => exact ⟨_, .str z, rfl, rfl⟩
  | ref r =>
    rcases h with h | h | h
    · exact ⟨_, .lst h, rfl, rfl⟩
    · exact ⟨_, .tup h, rfl, rfl⟩
    · exact ⟨_, .dK h, rfl, rfl⟩
  | _ => exact h.elim
theorem El.plain {H : Hp} {x : V} (h : El H x) : plainV x = true := by
  cases x with
  | int i => rfl
  | bl b => rfl
  | non => rfl
  | str z => rfl
  | ref r => rfl
  | _ => exact h.elim
theorem num_of {x : V} (h : numB x = true) : ∃ i, Num x i := by
  cases x with
  | int i => exact ⟨_, .int i⟩
  | bl b => exact ⟨_, .bl b⟩
  | _ => cases h
theorem num_el {H : Hp} {x : V} {i : Int} (h : Num x i) : El H x := by cases h <;> trivial
/-- a thing that is held against the sizes: a list, or no list -/
def Th (H : Hp) (x : V) : Option (List V) → Prop
  | some xs => ∃ p, x = .ref p ∧ H p = some (.lst xs) ∧ (∀ y ∈ xs, El H y) ∧ xs.length ≤ 200
  | none => x = .non ∨ (∃ z, x = .str z) ∨ (∃ i, x = .int i) ∨ (∃ (p : Addr) (ns : List Int), x = .ref p ∧ H p = some (.tup (ns.map V.int))) ∨ (∃ p, x = .ref p ∧ H p = some (.dK []))
theorem Th.sm {H H' : Hp} {x : V} (s : Sm H H') : ∀ {o : Option (List V)}, Th H x o → Th H' x o
  | some xs, ⟨p, e, h, g, l⟩ => ⟨p, e, s.lst h, fun y hy => (g y hy).sm s, l⟩
  | none, h => by
    rcases h with h | h | h | ⟨p, ns, e, h⟩ | ⟨p, e, h⟩
    · exact .inl h
    · exact .inr (.inl h)
    · exact .inr (.inr (.inl h))
    · exact .inr (.inr (.inr (.inl ⟨p, ns, e, s.tup h⟩)))
    · exact .inr (.inr (.inr (.inr ⟨p, e, s.nt _ _ h fun _ => nofun⟩)))
theorem Th.isi {K : PySem.W.Frag} {H : Hp} {x : V} (h : Th H x none) : ∃ t, TyOf K H x t ∧ PySem.W.kitOne K t (.type "list") = some false := by
  rcases h with rfl | ⟨z, rfl⟩ | ⟨i, rfl⟩ | ⟨p, ns, rfl, h⟩ | ⟨p, rfl, h⟩
  · exact ⟨_, .non, rfl⟩
  · exact ⟨_, .str z, rfl⟩
  · exact ⟨_, .int i, rfl⟩
  · exact ⟨_, .tup h, rfl⟩
  · exact ⟨_, .dK h, rfl⟩
theorem Th.self {H : Hp} {x : V} (h : Th H x none) : selfV H x := by
  rcases h with rfl | ⟨z, rfl⟩ | ⟨i, rfl⟩ | ⟨p, ns, rfl, h⟩ | ⟨p, rfl, h⟩
  · trivial
  · trivial
  · trivial
  · exact .inl ⟨ns, h⟩
  · exact .inr h
def isPutB (n : Nat) (more : Int) : Option (List V) → Bool
  | none => false
  | some xs => decide (xs.length = n) && (xs.all okV && decide ((xs.map valV).sum = more))
def rowsO (w : Int) (cs : List Int) : Option (List V) → Int
  | none => 0
  | some xs => rowsT w cs (xs.map valV) - cs.length
theorem ok_ints : ∀ {xs : List V}, xs.all okV = true → xs = (xs.map valV).map V.int ∧ ∀ z ∈ xs.map valV, 0 ≤ z
  | [], _ => ⟨rfl, fun _ h => absurd h (by simp)⟩
  | x :: xs, h => by
    rw [List.all_cons, Bool.and_eq_true] at h
    obtain ⟨e, g⟩ := ok_ints h.2
    cases x with
    | int i =>
      refine ⟨by rw [List.map_cons, List.map_cons, ← e]; rfl, fun z hz => ?_⟩
      rw [List.map_cons] at hz
      rcases List.mem_cons.mp hz with rfl | hz
      · exact of_decide_eq_true h.1
      · exact g z hz
    | _ => exact absurd h.1 (by simp [okV])
theorem all_ints {ps : List Int} (h : ∀ z ∈ ps, 0 ≤ z) : (ps.map V.int).all okV = true ∧ (ps.map V.int).map valV = ps := by
  constructor
  · rw [List.all_eq_true]
    intro x hx
    obtain ⟨z, hz, rfl⟩ := List.mem_map.mp hx
    exact decide_eq_true (h z hz)
  · rw [List.map_map]
    exact (List.map_congr_left (g := id) fun x _ => rfl).trans (List.map_id ps)
theorem isPut_some {n : Nat} {more : Int} {xs : List V} : isPutB n more (some xs) = (decide (xs.length = n) && (xs.all okV && decide ((xs.map valV).sum = more))) := rfl
theorem whole_int {x : V} (h : (numB x && !blB x) = true) : ∃ i, x = .int i := by
  cases x with
  | int i => exact ⟨i, rfl⟩
  | _ => simp [numB, blB] at h
theorem not_whole {x : V} (h : (numB x && !blB x) = false) : okV x = false := by
  cases x with
  | int i => simp [numB, blB] at h
  | _ => rfl
theorem isPut_true {n : Nat} {more : Int} {o : Option (List V)} (h : isPutB n more o = true) : ∃ xs, o = some xs ∧ xs.length = n ∧ xs.all okV = true ∧ (xs.map valV).sum = more := by
  cases o with
  | none => cases h
  | some xs =>
    unfold isPutB at h
    rw [Bool.and_eq_true, Bool.and_eq_true] at h
    exact ⟨xs, rfl, of_decide_eq_true h.1, h.2.1, of_decide_eq_true h.2.2⟩
theorem El.fresh {H : Hp} {x : V} {D : Addr} (h : El H x) (n : H D = none) : x ≠ .ref D := by
  rintro rfl
  rcases h with h | h | h <;> · rw [n] at h; cases h
def Els (H : Hp) (D : Addr) (xs : List V) : Prop := ∀ y ∈ xs, El H y ∧ y ≠ .ref D
theorem Els.kp {H H' : Hp} {D p : Addr} {N : Nat} {xs : List V} (h : Els H D xs) (hh : Hand H p N) (k : Kp H H' p) : Els H' D xs := fun y hy => ⟨(h y hy).1.kp hh k, (h y hy).2⟩
theorem Els.same {H H' : Hp} {D : Addr} {xs : List V} (h : Els H D xs) (s : Same H H') : Els H' D xs := fun y hy => ⟨(h y hy).1.same s, (h y hy).2⟩
theorem Els.upd {H : Hp} {D : Addr} {o : HO} {xs : List V} (h : Els H D xs) : Els (L2.upd H D o) D xs := fun y hy => ⟨(h y hy).1.upd (h y hy).2, (h y hy).2⟩
theorem Els.set {H : Hp} {D : Addr} {xs : List V} {j : Nat} {v : V} (h : Els H D xs) (h1 : El H v) (h2 : v ≠ .ref D) : Els H D (xs.set j v) := fun y hy => by
  rcases List.mem_or_eq_of_mem_set hy with z | rfl
  · exact h y z
  · exact ⟨h1, h2⟩
theorem Els.erase {H : Hp} {D : Addr} {xs : List V} {j : Nat} (h : Els H D xs) : Els H D (xs.eraseIdx j) := fun y hy => h y (List.mem_of_mem_eraseIdx hy)
theorem Els.ins {H : Hp} {D : Addr} {xs : List V} {j : Nat} {v : V} (h : Els H D xs) (h1 : El H v) (h2 : v ≠ .ref D) : Els H D (xs.take j ++ v :: xs.drop j) := fun y hy => by
  rcases List.mem_append.mp hy with z | z
  · exact h y (List.mem_of_mem_take z)
  · rcases List.mem_cons.mp z with rfl | z
    · exact ⟨h1, h2⟩
    · exact h y (List.mem_of_mem_drop z)
theorem ixN_in63 {n j : Nat} (h : j < n) : ixN n (j : Int) = some j := by
  unfold ixN
  rw [if_pos (by omega), if_pos (by omega)]; simp
theorem int_ne63 {i : Int} {D : Addr} : V.int i ≠ .ref D := nofun
theorem num_ne63 {x : V} {i : Int} {D : Addr} (h : Num x i) : x ≠ .ref D := by cases h <;> exact nofun
/-- the list that is being changed -/
structure St63 (H0 : Hp) (p D : Addr) (N : Nat) (ys : List V) (H' : Hp) : Prop where
  ck : CK H0 p D N ys H'
  el : Els H' D ys
theorem St63.draw {H0 H' H2 : Hp} {p D : Addr} {N M : Nat} {ys : List V} (c : St63 H0 p D N ys H') (k : Kp H' H2 p) (hh : Hand H2 p M) : St63 H0 p D M ys H2 := ⟨c.ck.draw k hh, c.el.kp c.ck.hh k⟩
theorem St63.new {H0 H' H2 : Hp} {p D l : Addr} {N : Nat} {ys : List V} {o : HO} (c : St63 H0 p D N ys H') (n : H' l = none) (e : L2.upd H' l o = H2) : St63 H0 p D N ys H2 ∧ H2 l = some o ∧ l ≠ p ∧ l ≠ D ∧ Same H' H2 := by
  obtain ⟨h1, h2, h3, h4⟩ := c.ck.new n e
  have s : Same H' H2 := by subst e; exact same_new n _
  exact ⟨⟨h1, c.el.same s⟩, h2, h3, h4, s⟩
theorem St63.put {H0 H' H2 : Hp} {p D : Addr} {N : Nat} {ys zs : List V} (c : St63 H0 p D N ys H') (e : L2.upd H' D (.lst zs) = H2) (h : Els H' D zs) : St63 H0 p D N zs H2 := by
  subst e; exact ⟨c.ck.push, h.upd⟩
/-- all but what stands at p is as it was, tables stay tables -/
def Ks (H H' : Hp) (p : Addr) : Prop := (∀ b o, H b = some o → b ≠ p → (∀ ps, o ≠ .tbl ps) → H' b = some o) ∧ (∀ b ps, H b = some (.tbl ps) → ∃ ps', H' b = some (.tbl ps'))
theorem Ks.sm {H H' : Hp} {p : Addr} (s : Sm H H') : Ks H H' p := ⟨fun b o h _ n => s.nt b o h n, s.tb⟩
theorem Ks.trans {H H1 H2 : Hp} {p : Addr} (a : Ks H H1 p) (b : Ks H1 H2 p) : Ks H H2 p := ⟨fun c o h n m => b.1 c o (a.1 c o h n m) n m, fun c ps h => by
  obtain ⟨ps', e⟩ := a.2 c ps h
  exact b.2 c ps' e⟩
theorem Ks.kp {H H' : Hp} {p : Addr} {N : Nat} (hh : Hand H p N) (k : Kp H H' p) : Ks H H' p := ⟨fun b o h n _ => k.1 b o h n, fun b ps h => ⟨ps, k.1 _ _ h fun z => by
  obtain ⟨l, d, c, ns, h1, _⟩ := hh.ex
  rw [z, h1] at h; cases h⟩⟩
theorem Ks.new {H H1 H2 : Hp} {p : Addr} (s : Same H H1) (n : H p = none) (k : Ks H1 H2 p) : Sm H H2 := ⟨fun b o h m => k.1 b o (s _ _ h) (ne_of_none h n) m, fun b ps h => k.2 b ps (s _ _ h)⟩
theorem Ks.lst {H H' : Hp} {p b : Addr} {xs : List V} (k : Ks H H' p) (h : H b = some (.lst xs)) (n : b ≠ p) : H' b = some (.lst xs) := k.1 _ _ h n fun _ => nofun
theorem hand_sm63 {H H' : Hp} {p : Addr} {N : Nat} (hh : Hand H p N) (s : Sm H H') : Hand H' p N := by
  obtain ⟨l, d, c, ns, h1, h2, r⟩ := hh.ex
  exact ⟨l, d, c, ns, s.lst h1, s.lst h2, r⟩
theorem tb_kp63 {K : PySem.W.Frag} {H H' : Hp} {p : Addr} {N : Nat} (t : TB_cheap_rooms K H) (hh : Hand H p N) (k : Kp H H' p) : TB_cheap_rooms K H' := by
  obtain ⟨l, d, c, ns, h1, _⟩ := hh.ex
  refine Tb.keep t fun b o h e => k.1 b o h fun z => ?_
  rw [z, h1] at h
  cases h
  rcases e with ⟨ps, e⟩ | e
  · cases e
  · unfold CodeO at e; cases e
/-- what holds while the puts are walked through -/
structure In63 (K : PySem.W.Frag) (H0 : Hp) (p : Addr) (N : Nat) (H' : Hp) : Prop where
  hh : Hand H' p N
  ks : Ks H0 H' p
  tb : TB_cheap_rooms K H'
theorem In63.sm {K : PySem.W.Frag} {H0 H' H2 : Hp} {p : Addr} {N : Nat} (i : In63 K H0 p N H') (s : Sm H' H2) (tb : TB_cheap_rooms K H2) : In63 K H0 p N H2 := ⟨hand_sm63 i.hh s, i.ks.trans (.sm s), tb⟩
theorem In63.same {K : PySem.W.Frag} {H0 H' H2 : Hp} {p : Addr} {N : Nat} (i : In63 K H0 p N H') (s : Same H' H2) : In63 K H0 p N H2 := i.sm s.sm (i.tb.same s)
theorem In63.kp {K : PySem.W.Frag} {H0 H' H2 : Hp} {p : Addr} {N M : Nat} (i : In63 K H0 p N H') (k : Kp H' H2 p) (hh : Hand H2 p M) : In63 K H0 p M H2 := ⟨hh, i.ks.trans (.kp i.hh k), tb_kp63 i.tb i.hh k⟩
theorem In63.mono {K : PySem.W.Frag} {H0 H' : Hp} {p : Addr} {N M : Nat} (i : In63 K H0 p N H') (h : N ≤ M) : In63 K H0 p M H' := ⟨i.hh.mono h, i.ks, i.tb⟩
theorem In63.new {K : PySem.W.Frag} {H0 H' H2 : Hp} {p l : Addr} {N : Nat} {o : HO} (i : In63 K H0 p N H') (n : H' l = none) (e : L2.upd H' l o = H2) : In63 K H0 p N H2 ∧ H2 l = some o ∧ l ≠ p ∧ Same H' H2 := by
  have s : Same H' H2 := by subst e; exact same_new n _
  exact ⟨i.same s, by subst e; exact upd_same, i.hh.ne n, s⟩
theorem rd_par63 {i j : Nat} {ta : TA} {D : Ends} {σ : L2.St} {H : Hp} (h : ta σ H fun vs H1 => ∃ v w, vs = [v, w] ∧ D.nx ((σ.set i (some v)).set j (some w)) H1) : tPar i j ta D σ H := h
theorem els_ints {H : Hp} {ns : List Int} : ∀ y ∈ ns.map V.int, El H y := fun y hy => by
  obtain ⟨z, _, rfl⟩ := List.mem_map.mp hy
  trivial
theorem isPut_ints {n : Nat} {more : Int} {ps : List Int} (h1 : ps.length = n) (h2 : ∀ z ∈ ps, 0 ≤ z) (h3 : ps.sum = more) : isPutB n more (some (ps.map V.int)) = true := by
  obtain ⟨a1, a2⟩ := all_ints h2
  rw [isPut_some, a1, a2, List.length_map, decide_eq_true h1, decide_eq_true h3]; rfl
def sp_is_whole (K : PySem.W.Frag) : Sp := fun vs H Q _ => ∃ x, vs = [x] ∧ El H x ∧ Q (.bl (numB x && !blB x)) H
def sp_is_put (K : PySem.W.Frag) : Sp := fun vs H Q _ => ∃ (a : Addr) (cs : List Int) (more : Int) (x : V) (o : Option (List V)), vs = [.ref a, .int more, x] ∧ H a = some (.lst (cs.map V.int)) ∧ Th H x o ∧ ∀ H', Same H H' → Q (.bl (isPutB cs.length more o)) H'
def sp__law_is_put (K : PySem.W.Frag) : Sp := fun vs H Q _ => ∃ (a : Addr) (cs : List Int) (more : Int) (x : V) (o : Option (List V)), vs = [.ref a, .int more, x] ∧ H a = some (.lst (cs.map V.int)) ∧ Th H x o ∧ Q (.bl (isPutB cs.length more o)) H
def sp_is_greatest (K : PySem.W.Frag) : Sp := fun vs H Q _ => ∃ (a : Addr) (w more : Int) (cs : List Int) (x : V) (o : Option (List V)), vs = [.ref a, .int w, .int more, x] ∧ H a = some (.lst (cs.map V.int)) ∧ cs ≠ [] ∧ cs.length ≤ 200 ∧ (∀ x ∈ cs, 0 ≤ x) ∧ 1 ≤ w ∧ w ≤ 8 ∧ 0 ≤ more ∧ Th H x o ∧ TB_cheap_rooms K H ∧
  ∀ H', Sm H H' → TB_cheap_rooms K H' → Q (.bl (isPutB cs.length more o && decide (rowsO w cs o = greatV w cs more))) H'
def sp_is_least (K : PySem.W.Frag) : Sp := fun vs H Q _ => ∃ (a : Addr) (w more : Int) (cs : List Int) (x : V) (o : Option (List V)), vs = [.ref a, .int w, .int more, x] ∧ H a = some (.lst (cs.map V.int)) ∧ cs ≠ [] ∧ cs.length ≤ 200 ∧ 1 ≤ w ∧ w ≤ 8 ∧ Th H x o ∧
  ∀ H', Same H H' → Q (.bl (isPutB cs.length more o && decide (rowsO w cs o = rowsT w cs (leastV w cs more) - cs.length))) H'
def sp__law_right (K : PySem.W.Frag) : Sp := fun vs H Q _ => ∃ (a : Addr) (w more : Int) (cs : List Int) (x : V) (o : Option (List V)), vs = [.ref a, .int w, .int more, x] ∧ H a = some (.lst (cs.map V.int)) ∧ cs ≠ [] ∧ cs.length ≤ 200 ∧ (∀ x ∈ cs, 0 ≤ x) ∧ 1 ≤ w ∧ w ≤ 8 ∧ 0 ≤ more ∧ Th H x o ∧ TB_cheap_rooms K H ∧
  ∀ H', Sm H H' → TB_cheap_rooms K H' → Q (.bl true) H'
def sp__law_step (K : PySem.W.Frag) : Sp := fun vs H Q _ => ∃ (p q : Addr) (N : Nat) (xs : List V), vs = [.ref p, .ref q] ∧ Hand H p N ∧ N + 100 < 2 ^ 60 ∧ H q = some (.lst xs) ∧ (∀ y ∈ xs, El H y) ∧ xs.length ≤ 150 ∧
  ∀ (r : Addr) (ys : List V) (H' : Hp), H' r = some (.lst ys) → H r = none → (∀ y ∈ ys, El H' y) → ys.length ≤ xs.length + 1 → Hand H' p (N + 30) → Kp H H' p → Q (.ref r) H'
section
variable {P : Program} {w : World} {K : PySem.W.Frag} {mg : Str → Option Value} {base : Heap}
theorem ok_is_whole {f : Addr} {fd : FuncData} (F : Fun K "is_whole" "is_whole" s_is_whole f fd) (mF : mg "is_whole" = some (.ref f)) (bF : Binds K fd ["thing"] []) (T : Bl mg)  : Cal P w K mg base "is_whole" ["thing"] 1 (sp_is_whole K) := by
  refine Cal.of F mF bF sc_is_whole (fun vs H Q E h => ?_) (fun cdv A outer s H vs Q E hr h => ?_)
  · obtain ⟨m, rfl, _⟩ := h; rfl
  obtain ⟨x, rfl, hx, q⟩ := h
  obtain ⟨t, ty, k1, k2⟩ := hx.isi (K := K)
  refine ⟨_, (pss_one (ps_ret (pe_and (pe_callB call_isinst rfl T.isinstance bt_isinstance (pa_cons (pv 0) (pa_cons (pe_bltn (v := .ty "int") rfl T.int bt_int rfl) pa_nil stx_Name) stx_Name)) (pe_one (pe_not (pe_callB call_isinst rfl T.isinstance bt_isinstance (pa_cons (pv 0) (pa_cons (pe_bltn (v := .ty "bool") rfl T.bool bt_bool rfl) pa_nil stx_Name) stx_Name))))))), ?_⟩
  rw [st_is_whole]
  walk_at "rd"
  refine rd_isi ty k1 ?_
  cases e : numB x with
  | false =>
    rw [e] at q
    walk_at "rd"
    exact q
  | true =>
    rw [e] at q
    walk_at "rd"
    refine rd_isi ty k2 ?_
    walk_at "rd"
    exact q
theorem ok_rows_for {f : Addr} {fd : FuncData} (F : Fun K "rows_for" "rows_for" s_rows_for f fd) (mF : mg "rows_for" = some (.ref f)) (bF : Binds K fd ["many", "wide"] []) (T : Bl mg)  : Cal P w K mg base "rows_for" ["many", "wide"] 1 (sp_rows_for K) := by
  refine Cal.of F mF bF sc_rows_for (fun vs H Q E h => ?_) (fun cdv A outer s H vs Q E hr h => ?_)
  · obtain ⟨m, w, rfl, _⟩ := h; rfl
  obtain ⟨m, w, rfl, h1, h2, q⟩ := h
  refine ⟨_, (pss_one (ps_ret (pe_callB (call_maxI rfl) rfl T.max bt_max (pa_cons pe_int (pa_cons (pe_op op_fdivB (pe_op op_sub (pe_op op_add (pv 0) (pv 1)) pe_int) (pv 1)) pa_nil stx_BinOp) stx_Constant)))), ?_⟩
  rw [st_rows_for]
  walk_at "rd"
  exact q
theorem ok_rows_behind {f : Addr} {fd : FuncData} (F : Fun K "rows_behind" "rows_behind" s_rows_behind f fd) (mF : mg "rows_behind" = some (.ref f)) (bF : Binds K fd ["many", "wide"] []) (T : Bl mg) (C_rows_for : Cal P w K mg base "rows_for" ["many", "wide"] 1 (sp_rows_for K)) : Cal P w K mg base "rows_behind" ["many", "wide"] 2 (sp_rows_behind K) := by
  refine Cal.of F mF bF sc_rows_behind (fun vs H Q E h => ?_) (fun cdv A outer s H vs Q E hr h => ?_)
  · obtain ⟨m, w, rfl, _⟩ := h; rfl
  obtain ⟨m, w, rfl, h1, h2, q⟩ := h
  refine ⟨_, (pss_one (ps_ret (pe_op op_sub (pcl C_rows_for (hr.mono (by decide)) (pa_cons (pv 0) (pa_cons (pv 1) pa_nil stx_Name) stx_Name)) pe_int))), ?_⟩
  rw [st_rows_behind]
  walk_at "rd"
  refine ⟨m, w, rfl, h1, h2, ?_⟩
  walk_at "rd"
  exact q
theorem ok_greatest_spill {f : Addr} {fd : FuncData} (F : Fun K "greatest_spill" "greatest_spill" s_greatest_spill f fd) (mF : mg "greatest_spill" = some (.ref f)) (bF : Binds K fd ["counts", "wide", "more"] []) (T : Bl mg) (C_cheap_rooms : Cal P w K mg base "cheap_rooms" ["counts", "wide"] 6 (sp_cheap_rooms K)) (C_gap : Cal P w K mg base "gap" ["many", "wide"] 2 (sp_gap K)) (C_spill_behind : Cal P w K mg base "spill_behind" ["counts", "wide", "put"] 3 (sp_spill_behind K)) : Cal P w K mg base "greatest_spill" ["counts", "wide", "more"] 7 (sp_greatest_spill K) := by
  refine Cal.of F mF bF sc_greatest_spill (fun vs H Q E h => ?_) (fun cdv A outer s H vs Q E hr h => ?_)
  · obtain ⟨a, w, more, cs, rfl, _⟩ := h; rfl
  obtain ⟨a, w, more, cs, rfl, ha, hne, hz, c0, w1, w2, m0, tb, q⟩ := h
  have cpos := List.length_pos_iff.mpr hne
  refine ⟨_, (pss_cons (ps_set (i := 3) sc_greatest_spill.nd rfl (Or.inl rfl) (pe_op op_rep (pe_lst (pa_cons pe_int pa_nil stx_Constant)) (pe_callB call_lenL rfl T.len bt_len (pa_cons (pv 0) pa_nil stx_Name))))
      (pss_cons (ps_set (i := 4) sc_greatest_spill.nd rfl (Or.inl rfl) (pv 2))
      (pss_cons (ps_set (i := 5) sc_greatest_spill.nd rfl (Or.inl rfl) (pcl C_cheap_rooms (hr.mono (by decide)) (pa_cons (pv 0) (pa_cons (pv 1) pa_nil stx_Name) stx_Name)))
      (pss_cons (ps_for PassesOwn.never rfl (pi_list (pv 5)) (pg_name (i := 6) sc_greatest_spill.nd rfl (Or.inl rfl)) (pss_cons (ps_set (i := 7) sc_greatest_spill.nd rfl (Or.inl rfl) (pcl C_gap (hr.mono (by decide)) (pa_cons (pe_ix ix_list (pv 0) (pv 6) (fun _ _ => rfl)) (pa_cons (pv 1) pa_nil stx_Name) stx_Subscript)))
      (pss_one (ps_if (pt_cmpR op_le (pv 7) (pv 4) (nomark _)) (pss_cons (ps_asg (pv 7) (pg_sub (pv 3) (pv 6) set_list))
      (pss_one (ps_aug (i := 4) sc_greatest_spill.nd rfl (Or.inl rfl) (pv 7) ip_sub))) pss_nil))))
      (pss_cons (ps_augS (pv 3) (pe_ix ix_list (pv 5) pe_int (fun _ _ => rfl)) get_list (pv 4) ip_add set_list)
      (pss_one (ps_ret (pe_tup (pa_cons (pcl C_spill_behind (hr.mono (by decide)) (pa_cons (pv 0) (pa_cons (pv 1) (pa_cons (pv 3) pa_nil stx_Name) stx_Name) stx_Name)) (pa_cons (pv 3) pa_nil stx_Name) stx_Call))))))))), ?_⟩
  rw [st_greatest_spill]
  walk_at "rd"
  refine ⟨by decide, fun o no => ?_⟩
  generalize hE : upd H o _ = H0
  obtain ⟨ho, s0⟩ := newo no hE
  clear hE
  have ha0 := s0 _ _ ha
  walk_at "rd"
  rw [List.length_map]
  refine ⟨o, _, _, rfl, rfl, ho, by omega, by omega, ?_, fun D nD => ?_⟩
  · rw [Int.toNat_natCast]
    exact Nat.le_of_lt (small1000 (by simp; omega))
  generalize hE : upd H0 D _ = H1
  obtain ⟨hD, s1⟩ := newo nD hE
  clear hE
  have erep : (List.replicate (cs.length : Int).toNat [V.int 0]).flatten = (List.replicate cs.length (0 : Int)).map V.int := by
    rw [Int.toNat_natCast]
    generalize cs.length = n
    induction n with
    | zero => rfl
    | succ n ih => rw [List.replicate_succ, List.replicate_succ, List.flatten_cons, ih]; rfl
  rw [erep] at hD
  have nDH : H D = none := s0.free nD
  have ha1 := s1 _ _ ha0
  walk_at "rd"
  refine ⟨a, w, cs, rfl, ha1, hz, w1, w2, tb.same (s0.trans s1), fun ms l H2 hch nl hl sm2 tb2 => ?_⟩
  have ha2 := sm2.lst ha1
  have hD2 := sm2.lst hD
  have sH2 : Sm H H2 := (s0.trans s1).sm.trans sm2
  have lD : l ≠ D := fun e => by rw [e, hD] at nl; cases nl
  have aD : a ≠ D := fun e => by rw [e, nDH] at ha; cases ha
  have nlH : H l = none := (s0.trans s1).free nl
  have valid : ∀ z ∈ ms, ∃ (i : Nat) (b : Int), z = (i : Int) ∧ cs[i]? = some b := by
    intro z hz'
    rcases hch with ⟨m1, _, _⟩ | ⟨_, e⟩
    · obtain ⟨i, b, e, h1, _⟩ := roomsFrom_mem (m1.mem_iff.mp hz')
      exact ⟨i, b, by rw [e]; congr 1; omega, h1⟩
    · rw [e] at hz'
      have : z = 0 := by simpa using hz'
      exact ⟨0, cs[0], this, List.getElem?_eq_getElem cpos⟩
  have mne : ms ≠ [] := by
    rcases hch with ⟨_, _, h⟩ | ⟨_, e⟩
    · exact h
    · rw [e]; simp
  walk_at "rd"
  refine ⟨l, rfl, ⟨_, SqL.of hl⟩, ?_⟩
  refine for_list (xs := ms.map V.int) (fun i σ H' => ∃ put left, (ms.take i).foldl (stepG w cs) (List.replicate cs.length 0, more) = (put, left) ∧ (∃ x1 x2, σ = [some (.ref a), some (.int w), some (.int more), some (.ref D), some (.int left), some (.ref l), x1, x2]) ∧ H' D = some (.lst (put.map V.int)) ∧ ∀ b o, H2 b = some o → b ≠ D → H' b = some o) ⟨_, _, rfl, ⟨none, none, rfl⟩, hD2, fun _ _ e _ => e⟩ (fun i σ' H' _ h => by obtain ⟨p, l', _, _, _, k⟩ := h; exact SqL.of (k _ _ hl lD)) ?_ ?_
  · rintro i x σ H3 hx ⟨put, left, hf, ⟨x1, x2, rfl⟩, hD3, k3⟩
    obtain ⟨z, hz', rfl⟩ := ints_get hx
    obtain ⟨j, b, rfl, hb⟩ := valid z (List.mem_of_getElem? hz')
    have ha3 := k3 _ _ ha2 aD
    have jl := (List.getElem?_eq_some_iff.mp hb).1
    have pl : put.length = cs.length := by
      have := fold_len (w := w) (c := cs) (ms := ms.take i) (pl := (List.replicate cs.length 0, more))
      rw [hf, List.length_replicate] at this; exact this
    have fs : (ms.take (i + 1)).foldl (stepG w cs) (List.replicate cs.length 0, more) = stepG w cs (put, left) (j : Int) := by
      rw [take_get hz', List.foldl_append, hf]; rfl
    have ix : ixN (put.map V.int).length (j : Int) = some j := by
      unfold ixN
      rw [if_pos (by omega), if_pos (by rw [List.length_map]; omega), Int.toNat_natCast]
    walk_at "rd"
    refine rd_ixL (SqL.of ha3) (v := .int b) (at_int hb) ?_
    walk_at "rd"
    refine ⟨b, w, rfl, w1, w2, ?_⟩
    walk_at "rd"
    refine rd_if (fun c => ?_) (fun c => ?_)
    · walk_at "rd"
      refine rd_setL hD3 ix ?_
      walk_at "rd"
      refine ⟨put.set j (gapV w b), left - gapV w b, ?_, ⟨_, _, rfl⟩, ?_, fun b' o' e n => by rw [upd_ne n]; exact k3 _ _ e n⟩
      · rw [fs]
        unfold stepG
        rw [atR_of hb, if_pos (show gapV w b ≤ left from c), Int.toNat_natCast]
      · rw [upd_same, List.map_set]; rfl
    · walk_at "rd"
      refine ⟨put, left, ?_, ⟨_, _, rfl⟩, hD3, k3⟩
      rw [fs]
      unfold stepG
      rw [atR_of hb, if_neg (show ¬ gapV w b ≤ left from c)]
  · rintro σ H3 ⟨put, left, hf, ⟨x1, x2, rfl⟩, hD3, k3⟩
    rw [List.length_map, List.take_length] at hf
    obtain ⟨z, r, rfl⟩ : ∃ z r, ms = z :: r := by
      cases ms with
      | nil => exact absurd rfl mne
      | cons z r => exact ⟨z, r, rfl⟩
    obtain ⟨j, b, rfl, hb⟩ := valid z List.mem_cons_self
    have jl := (List.getElem?_eq_some_iff.mp hb).1
    have pl : put.length = cs.length := by
      have := fold_len (w := w) (c := cs) (ms := (j : Int) :: r) (pl := (List.replicate cs.length 0, more))
      rw [hf, List.length_replicate] at this; exact this
    obtain ⟨x, hx⟩ : ∃ x, put[j]? = some x := ⟨_, List.getElem?_eq_getElem (by omega)⟩
    have ix : ixN (put.map V.int).length (j : Int) = some j := by
      unfold ixN
      rw [if_pos (by omega), if_pos (by rw [List.length_map]; omega), Int.toNat_natCast]
    have bst : Best w cs more (put.set j (x + left)) := by
      rcases hch with ⟨m1, m2, _⟩ | ⟨e1, e2⟩
      · have := great_ok w1 c0 m0 m1 m2 hf (z := (j : Int)) rfl (by rw [Int.toNat_natCast]; exact hx)
        rw [Int.toNat_natCast] at this; exact this
      · have ej : (j : Int) = 0 := (List.cons.inj e2).1
        have er : r = [] := (List.cons.inj e2).2
        have ej2 : j = 0 := by omega
        subst ej2 er
        exact great_zero w1 (roomsFrom_nil c0 e1) hne m0 hf hx
    have hl3 := k3 _ _ hl lD
    have ha3 := k3 _ _ ha2 aD
    walk_at "rd"
    refine rd_ixL (SqL.of hl3) (v := .int j) at_zero ?_
    walk_at "rd"
    refine rd_ixL (SqL.of hD3) (v := .int x) (at_int hx) ?_
    walk_at "rd"
    refine rd_setL hD3 ix ?_
    generalize hE : upd H3 D _ = H4
    have hD4 : H4 D = some (.lst ((put.set j (x + left)).map V.int)) := by rw [← hE, upd_same, List.map_set]
    have k4 : ∀ b o, H2 b = some o → b ≠ D → H4 b = some o := fun b o e n => by rw [← hE, upd_ne n]; exact k3 _ _ e n
    clear hE
    have ha4 := k4 _ _ ha2 aD
    have sm4 : Sm H H4 := ⟨fun b o e n => k4 _ _ (sH2.nt _ _ e n) (ne_of_none e nDH), fun b ps e => by
      obtain ⟨ps', e'⟩ := sH2.tb _ _ e
      exact ⟨ps', k4 _ _ e' (ne_of_none e nDH)⟩⟩
    have tb4 : TB_cheap_rooms K H4 := tb2.keep fun b o e hk => k4 _ _ e (fun z => by
      rw [z, hD2] at e
      cases e
      rcases hk with ⟨ps, h⟩ | h
      · cases h
      · cases h)
    generalize put.set j (x + left) = p at bst hD4
    walk_at "rd"
    refine ⟨a, D, w, cs, p, rfl, ha4, hD4, bst.len.symm, hz, w1, w2, fun H5 s5 => ?_⟩
    walk_at "rd"
    refine ⟨(by show 2 ≤ sizeLine; decide), fun t nt => ?_⟩
    have tD : t ≠ D := (ne_of_none (s5 _ _ hD4) nt).symm
    generalize hE : upd H5 t _ = H6
    obtain ⟨ht, s6⟩ := newo nt hE
    clear hE
    exact q p t D H6 bst (sm4.free (s5.free nt)) nDH tD ht (s6 _ _ (s5 _ _ hD4)) ((sm4.trans s5.sm).trans s6.sm) ((tb4.same s5).same s6)

theorem ok_least_spill {f : Addr} {fd : FuncData} (F : Fun K "least_spill" "least_spill" s_least_spill f fd) (mF : mg "least_spill" = some (.ref f)) (bF : Binds K fd ["counts", "wide", "more"] []) (T : Bl mg) (C_spill_behind : Cal P w K mg base "spill_behind" ["counts", "wide", "put"] 3 (sp_spill_behind K)) (C_gap : Cal P w K mg base "gap" ["many", "wide"] 2 (sp_gap K)) : Cal P w K mg base "least_spill" ["counts", "wide", "more"] 4 (sp_least_spill K) := by
  refine Cal.of F mF bF sc_least_spill (fun vs H Q E h => ?_) (fun cdv A outer s H vs Q E hr h => ?_)
  · obtain ⟨a, w, more, cs, rfl, _⟩ := h; rfl
  obtain ⟨a, w, more, cs, rfl, ha, hne, hz, w1, w2, q⟩ := h
  refine ⟨_, (pss_cons (ps_set (i := 3) sc_least_spill.nd rfl (Or.inl rfl) (pe_lst pa_nil))
      (pss_cons (ps_set (i := 4) sc_least_spill.nd rfl (Or.inl rfl) (pv 2))
      (pss_cons (ps_for PassesOwn.never rfl (pi_list (pv 0)) (pg_name (i := 5) sc_least_spill.nd rfl (Or.inl rfl)) (pss_cons (ps_set (i := 6) sc_least_spill.nd rfl (Or.inl rfl) (pe_callB (call_minI rfl) rfl T.min bt_min (pa_cons (pv 4) (pa_cons (pe_op op_sub (pcl C_gap (hr.mono (by decide)) (pa_cons (pv 5) (pa_cons (pv 1) pa_nil stx_Name) stx_Name)) pe_int) pa_nil stx_BinOp) stx_Name)))
      (pss_cons (ps_expr (pe_bm PySem.F.plainAttrs_list PySem.F.slot_list_append PySem.F.type_list_append mt_append (pv 3) (pa_cons (pv 6) pa_nil stx_Name)))
      (pss_one (ps_aug (i := 4) sc_least_spill.nd rfl (Or.inl rfl) (pv 6) ip_sub)))))
      (pss_cons (ps_augS (pv 3) pe_int get_list (pv 4) ip_add set_list)
      (pss_one (ps_ret (pe_tup (pa_cons (pcl C_spill_behind (hr.mono (by decide)) (pa_cons (pv 0) (pa_cons (pv 1) (pa_cons (pv 3) pa_nil stx_Name) stx_Name) stx_Name)) (pa_cons (pv 3) pa_nil stx_Name) stx_Call)))))))), ?_⟩
  rw [st_least_spill]
  walk_at "rd"
  refine ⟨by decide, fun D nD => ?_⟩
  generalize hE : upd H D _ = H1
  obtain ⟨hD, s1⟩ := newo nD hE
  clear hE
  walk_at "rd"
  refine ⟨a, rfl, ⟨_, SqL.of (s1 _ _ ha)⟩, ?_⟩
  refine for_list (xs := cs.map V.int) (fun i σ H' => (∃ x1 x2, σ = [some (.ref a), some (.int w), some (.int more), some (.ref D), some (.int (more - (fillV w (cs.take i) more).sum)), x1, x2]) ∧ Same H H' ∧ H' D = some (.lst ((fillV w (cs.take i) more).map V.int))) ⟨⟨none, none, by rw [List.take_zero, fillV, List.sum_nil, Int.sub_zero]⟩, s1, by rw [List.take_zero, fillV]; exact hD⟩ (fun _ _ _ _ h => SqL.of (h.2.1 _ _ ha)) ?_ ?_
  · rintro i x σ H2 hx ⟨⟨x1, x2, rfl⟩, s2, hD2⟩
    obtain ⟨u, hu, rfl⟩ := ints_get hx
    have il := (List.getElem?_eq_some_iff.mp hu).1
    walk_at "rd"
    refine ⟨u, w, rfl, w1, w2, ?_⟩
    walk_at "rd"
    refine ⟨.inl ⟨rfl, _, SqL.of hD2⟩, ?_⟩
    walk_at "rd"
    refine ⟨D, _, _, rfl, rfl, hD2, ?_, ?_⟩
    · rw [List.length_map, fillV_len, List.length_take]
      exact small1000 (by omega)
    walk_at "rd"
    have e1 : rfor u w * w + 1 - u - 1 = rfor u w * w - u := by omega
    rw [e1]
    refine ⟨⟨some (.int u), some (.int (min (more - (fillV w (cs.take i) more).sum) (rfor u w * w - u))), ?_⟩, fun c o e => ?_, ?_⟩
    · rw [take_get hu, fillV_snoc, List.sum_append]
      simp only [List.sum_cons, List.sum_nil, Int.add_zero]
      rw [Int.sub_sub]
    · rw [upd_ne (ne_of_none e nD)]; exact s2 _ _ e
    · rw [upd_same, take_get hu, fillV_snoc, List.map_append]; rfl
  · rintro σ H2 ⟨⟨x1, x2, rfl⟩, s2, hD2⟩
    have e0 : cs.take (cs.map V.int).length = cs := by rw [List.length_map, List.take_length]
    rw [e0] at hD2 ⊢
    obtain ⟨x, r, hxr⟩ : ∃ x r, fillV w cs more = x :: r := by
      have := fillV_len (w := w) (c := cs) (l := more)
      cases e : fillV w cs more with
      | nil => rw [e] at this; exact absurd (List.length_eq_zero_iff.mp this.symm) hne
      | cons x r => exact ⟨x, r, rfl⟩
    have hlv : leastV w cs more = (x + (more - (fillV w cs more).sum)) :: r := by unfold leastV; rw [hxr]
    have hll : cs.length = (leastV w cs more).length := by
      have := fillV_len (w := w) (c := cs) (l := more)
      rw [hxr] at this
      rw [hlv, ← this]; rfl
    rw [hxr, List.map_cons] at hD2
    walk_at "rd"
    refine rd_ixL (SqL.of hD2) at_zero ?_
    walk_at "rd"
    generalize hE : upd H2 D _ = H3
    have hD3 : H3 D = some (.lst ((leastV w cs more).map V.int)) := by rw [← hE, upd_same, hlv]; rfl
    have s3 : Same H H3 := fun c o e => by rw [← hE, upd_ne (ne_of_none e nD)]; exact s2 _ _ e
    clear hE
    walk_at "rd"
    refine ⟨a, D, w, cs, leastV w cs more, rfl, s3 _ _ ha, hD3, hll, hz, w1, w2, fun H4 s4 => ?_⟩
    walk_at "rd"
    refine ⟨(by show 2 ≤ sizeLine; decide), fun t nt => ?_⟩
    have tD : t ≠ D := (ne_of_none (s4 _ _ hD3) nt).symm
    generalize hE : upd H4 t _ = H5
    obtain ⟨ht, s5⟩ := newo nt hE
    clear hE
    exact q t D H5 ((s3.trans s4).free nt) nD tD ht (s5 _ _ (s4 _ _ hD3)) ((s3.trans s4).trans s5)

theorem ok_gap {f : Addr} {fd : FuncData} (F : Fun K "gap" "gap" s_gap f fd) (mF : mg "gap" = some (.ref f)) (bF : Binds K fd ["many", "wide"] []) (T : Bl mg) (C_rows_for : Cal P w K mg base "rows_for" ["many", "wide"] 1 (sp_rows_for K)) : Cal P w K mg base "gap" ["many", "wide"] 2 (sp_gap K) := by
  refine Cal.of F mF bF sc_gap (fun vs H Q E h => ?_) (fun cdv A outer s H vs Q E hr h => ?_)
  · obtain ⟨m, w, rfl, _⟩ := h; rfl
  obtain ⟨m, w, rfl, h1, h2, q⟩ := h
  refine ⟨_, (pss_one (ps_ret (pe_op op_sub (pe_op op_add (pe_op op_mul (pcl C_rows_for (hr.mono (by decide)) (pa_cons (pv 0) (pa_cons (pv 1) pa_nil stx_Name) stx_Name)) (pv 1)) pe_int) (pv 0)))), ?_⟩
  rw [st_gap]
  walk_at "rd"
  refine ⟨m, w, rfl, h1, h2, ?_⟩
  walk_at "rd"
  exact q
theorem ok_cheap_rooms {f : Addr} {fd : FuncData} (F : Fun K "cheap_rooms" "cheap_rooms" s_cheap_rooms f fd) (mF : mg "cheap_rooms" = some (.ref f)) (bF : Binds K fd ["counts", "wide"] []) (T : Bl mg) (LM : Lam K mg base "cheap_rooms" f fd) (C_gap : Cal P w K mg base "gap" ["many", "wide"] 2 (sp_gap K)) : Cal P w K mg base "cheap_rooms" ["counts", "wide"] 6 (sp_cheap_rooms K) := by
  refine Cal.ofC F mF bF sc_cheap_rooms (fun vs H Q E h => ?_) (fun cdv A outer s H vs Q E hcd hr h => ?_)
  · obtain ⟨a, w, cs, rfl, _⟩ := h; rfl
  obtain ⟨a, w, cs, rfl, ha, hz, w1, w2, tb, q⟩ := h
  obtain ⟨c0, hc0, hC0⟩ := LM.code
  have hcode := hcd.trans hc0
  refine ⟨_, (pss_cons (ps_setc (i := 2) sc_cheap_rooms.nd rfl rfl rfl (blkOk (sc := defScope s_cheap_rooms) (N := ["counts", "wide", "rooms"]) (vs := ["room"]) (fs := ["counts"]) (js := [0]) (by decide +kernel) rfl rfl) (pi_range1 rfl T.range (pa_cons (pe_callB call_lenL rfl T.len bt_len (pa_cons (pv 0) pa_nil stx_Name)) pa_nil stx_Call)) (fun _ _ _ _ => pg_name (i := 0) (show (["room", "counts"] : List Str).Nodup by decide +kernel) rfl (Or.inl rfl)) (fun _ _ _ _ => pif1 (pt_cmpR op_gt (pe_ix (ix_listK (K := K) rfl) (pv 1) (pv 0) (fun _ _ => rfl)) pe_int (nomark _))) (fun _ _ _ _ => (pv 0)))
      (pss_one (ps_ret (pe_orG (pe_sortL (k := 2) (P := tbP K "cheap_rooms") (lamOk (sc := defScope s_cheap_rooms) (N := ["counts", "wide", "rooms"]) (y := "room") (fs := ["counts", "wide"]) (js := [0, 1]) (by decide +kernel) rfl rfl) (hr.mono (by decide)) rfl T.sorted rfl (pa_cons (pv 2) pa_nil stx_Name) rfl hcode hC0 LM.bm (fun _ _ _ _ _ => (pcl C_gap ((hr.mono (j := 5) (by decide)).in1.in1.deeper _) (pa_cons (pe_ix (ix_listK (K := K) rfl) (pv 1) (pv 0) (fun _ _ => rfl)) (pa_cons (pv 2) pa_nil stx_Name) stx_Subscript))) (fun _ _ _ _ => rfl)) (pe_one (pe_lst (pa_cons pe_int pa_nil stx_Constant))))))), ?_⟩
  rw [st_cheap_rooms]
  walk_at "rd"
  rw [List.length_map]
  refine ⟨_, rfl, by omega, by omega, fun D nD => ?_⟩
  rw [Int.toNat_natCast]
  refine comp_range (n := cs.length) (fun i σ' ys H' => (∃ x, σ' = [x, some (.ref a)]) ∧ Same H H' ∧ ys = (roomsFrom 0 (cs.take i)).map V.int ∧ H' D = some (.lst ys)) D ⟨⟨_, rfl⟩, same_new nD _, rfl, upd_same⟩ ?_ ?_
  · rintro i σ' ys H1 hi ⟨⟨x1, rfl⟩, s1, rfl, hD⟩
    obtain ⟨u, hu⟩ : ∃ u, cs[i]? = some u := ⟨_, List.getElem?_eq_getElem hi⟩
    have ha1 := s1 _ _ ha
    have hl := roomsFrom_len (c := cs.take i) (k := 0)
    rw [List.length_take] at hl
    have es : roomsFrom 0 (cs.take (i + 1)) = roomsFrom 0 (cs.take i) ++ (if 0 < u then [(i : Int)] else []) := by
      rw [take_get hu, roomsFrom_snoc, List.length_take, Nat.min_eq_left (Nat.le_of_lt hi), Nat.zero_add]
    walk_at "rd"
    refine rd_ixL (SqL.of ha1) (v := .int u) (by rw [Int.zero_add]; exact at_int hu) ?_
    walk_at "rd"
    refine rd_if (fun c => ?_) (fun c => ?_)
    · walk_at "rd"
      refine ⟨hD, by rw [List.length_map]; exact small1000 (by omega), ⟨_, rfl⟩, fun c o e => ?_, ?_, upd_same⟩
      · rw [upd_ne (ne_of_none e nD)]; exact s1 _ _ e
      · rw [es, if_pos c, List.map_append, Int.zero_add]; rfl
    · refine ⟨⟨_, rfl⟩, s1, ?_, hD⟩
      rw [es, if_neg c, List.append_nil]
  · rintro σ' ys H1 ⟨⟨x1, rfl⟩, s1, rfl, hD⟩
    rw [List.take_length] at hD
    have hl := roomsFrom_len (c := cs) (k := 0)
    walk_at "rd"
    refine ⟨D, roomsFrom 0 cs, fun z => gapV w (atR cs z), rfl, SqL.of hD, by omega, tb.same s1, fun H2 s2 tb2 => ⟨fun z hz R hR => ?_, fun ms l m1 m2 nl => ?_⟩⟩
    · obtain ⟨i, b, e, h1, _⟩ := roomsFrom_mem hz
      rw [Nat.zero_add] at e
      subst e
      have ha2 := s2.lst (s1 _ _ ha)
      show tCall (sp_gap K) [] E0 (tCons (tOp (rIxL K) (tVar 1) (tVar 0)) (tCons (tVar 2) tNil)) [some (.int i), some (.ref a), some (.int w)] H2 R
      walk_at "rd"
      refine rd_ixL (SqL.of ha2) (v := .int b) (at_int h1) ?_
      walk_at "rd"
      refine ⟨b, w, rfl, w1, w2, ?_⟩
      dsimp only at hR
      rw [atR_of h1] at hR
      exact hR
    · generalize hE : upd H2 l _ = H3
      obtain ⟨h3, s3⟩ := newo nl hE
      clear hE
      have sA := (s1.sm.trans s2).trans s3.sm
      have tA := tb2.same s3
      refine ⟨!ms.isEmpty, .inl ⟨_, SqL.of h3, by cases ms <;> rfl⟩, ?_⟩
      cases ms with
      | nil =>
        rw [if_neg (by decide)]
        walk_at "rd"
        refine ⟨(by show 1 ≤ sizeLine; decide), fun l2 nl2 => ?_⟩
        generalize hE : upd H3 l2 _ = H4
        obtain ⟨h4, s4⟩ := newo nl2 hE
        clear hE
        exact q [0] l2 H4 (.inr ⟨List.nil_perm.mp m1, rfl⟩) (sA.free nl2) h4 (sA.trans s4.sm) (tA.same s4)
      | cons z r =>
        rw [if_pos (by rfl)]
        exact q (z :: r) l H3 (.inl ⟨m1, m2, by simp⟩) (s1.free (s2.free nl)) h3 sA tA
theorem ok_spill_behind {f : Addr} {fd : FuncData} (F : Fun K "spill_behind" "spill_behind" s_spill_behind f fd) (mF : mg "spill_behind" = some (.ref f)) (bF : Binds K fd ["counts", "wide", "put"] []) (T : Bl mg) (C_rows_behind : Cal P w K mg base "rows_behind" ["many", "wide"] 2 (sp_rows_behind K)) : Cal P w K mg base "spill_behind" ["counts", "wide", "put"] 3 (sp_spill_behind K) := by
  refine Cal.of F mF bF sc_spill_behind (fun vs H Q E h => ?_) (fun cdv A outer s H vs Q E hr h => ?_)
  · obtain ⟨a, b, w, cs, ps, rfl, _⟩ := h; rfl
  obtain ⟨a, b, w, cs, ps, rfl, ha, hb, hl, hz, w1, w2, q⟩ := h
  refine ⟨_, (pss_one (ps_ret (pe_callB (call_sumL rfl) rfl T.sum bt_sum (pa_cons (pe_comp rfl (blkOk (sc := defScope s_spill_behind) (N := ["counts", "wide", "put"]) (vs := ["many", "comes"]) (fs := ["wide"]) (js := [1]) (by decide +kernel) rfl rfl) (pi_zip rfl T.zip (pa_cons (pv 0) (pa_cons (pv 2) pa_nil stx_Name) stx_Name)) (fun _ _ _ _ => pg_tupK (K := K) (n := 2) rfl rfl (pgs_cons (pg_name (i := 0) (show (["many", "comes", "wide"] : List Str).Nodup by decide +kernel) rfl (Or.inl rfl)) (pgs_cons (pg_name (i := 1) (show (["many", "comes", "wide"] : List Str).Nodup by decide +kernel) rfl (Or.inl rfl)) pgs_nil))) (fun _ _ _ _ => pif0) (fun _ _ _ _ => (pcl C_rows_behind (hr.mono (by decide)) (pa_cons (pe_op op_add (pv 0) (pv 1)) (pa_cons (pv 2) pa_nil stx_Name) stx_BinOp)))) pa_nil stx_ListComp)))), ?_⟩
  rw [st_spill_behind]
  walk_at "rd"
  refine ⟨a, b, rfl, ⟨_, SqL.of ha⟩, ⟨_, SqL.of hb⟩, fun D nD => ?_⟩
  refine comp_zip (xs := cs.map V.int) (zs := ps.map V.int) (fun i σ' ys H' => (∃ x y, σ' = [x, y, some (.int w)]) ∧ Same H H' ∧ ys = ((List.zipWith (spillF w) cs ps).take i).map V.int ∧ H' D = some (.lst ys)) D (by rw [List.length_map, List.length_map, hl]) ⟨⟨_, _, rfl⟩, same_new nD _, rfl, upd_same⟩ (fun i σ' ys H' _ h => ⟨SqL.of (h.2.1 _ _ ha), SqL.of (h.2.1 _ _ hb)⟩) ?_ ?_
  · rintro i x z σ' ys H1 t hx hz' ⟨⟨x1, y1, rfl⟩, s1, rfl, hD⟩ nt
    obtain ⟨u, hu, rfl⟩ := ints_get hx
    obtain ⟨v, hv, rfl⟩ := ints_get hz'
    have il := (List.getElem?_eq_some_iff.mp hu).1
    generalize hE : upd H1 t _ = H2
    obtain ⟨ht, s2⟩ := newo nt hE
    clear hE
    refine ⟨t, _, rfl, SqT.of ht, rfl, _, _, rfl, _, _, rfl, rfl, ?_⟩
    walk_at "rd"
    refine ⟨u + v, w, rfl, w1, w2, ?_⟩
    refine ⟨s2 _ _ hD, ?_, ⟨_, _, rfl⟩, fun c o e => ?_, ?_, upd_same⟩
    · rw [List.length_map, List.length_take]
      exact small1000 (by omega)
    · rw [upd_ne (ne_of_none e nD)]; exact s2 _ _ (s1 _ _ e)
    · rw [zip_take hu hv, List.map_append]; rfl
  · rintro σ' ys H1 ⟨⟨x1, y1, rfl⟩, s1, rfl, hD⟩
    rw [List.length_map, List.take_of_length_le (by rw [List.length_zipWith]; omega)] at hD
    walk_at "rd"
    refine rd_sumL (SqL.of hD) ?_
    rw [sum_spill hl]
    exact q H1 s1
theorem ok_is_put {f : Addr} {fd : FuncData} (F : Fun K "is_put" "is_put" s_is_put f fd) (mF : mg "is_put" = some (.ref f)) (bF : Binds K fd ["counts", "more", "thing"] []) (T : Bl mg) (C_is_whole : Cal P w K mg base "is_whole" ["thing"] 1 (sp_is_whole K)) : Cal P w K mg base "is_put" ["counts", "more", "thing"] 2 (sp_is_put K) := by
  refine Cal.of F mF bF sc_is_put (fun vs H Q E h => ?_) (fun cdv A outer s H vs Q E hr h => ?_)
  · obtain ⟨a, cs, more, x, o, rfl, _⟩ := h; rfl
  obtain ⟨a, cs, more, x, o, rfl, ha, hx, q⟩ := h
  refine ⟨_, (pss_cons (ps_if (PW.pt (pw_or (pt_not (pt_val (pe_callB call_isinst rfl T.isinstance bt_isinstance (pa_cons (pv 2) (pa_cons (pe_bltn (v := .ty "list") rfl T.list bt_list rfl) pa_nil stx_Name) stx_Name)))) (pw_or1 (pt_cmpR op_ne (pe_callB call_lenL rfl T.len bt_len (pa_cons (pv 2) pa_nil stx_Name)) (pe_callB call_lenL rfl T.len bt_len (pa_cons (pv 0) pa_nil stx_Name)) (nomark _))))) (pss_one (ps_ret pe_bl)) pss_nil)
      (pss_one (ps_ret (pe_and (pe_callB (call_allL rfl) rfl T.all bt_all (pa_cons (pe_comp rfl (blkOk (sc := defScope s_is_put) (N := ["counts", "more", "thing"]) (vs := ["comes"]) (fs := []) (js := []) (by decide +kernel) rfl rfl) (pi_list (pv 2)) (fun _ _ _ _ => pg_name (i := 0) (show (["comes"] : List Str).Nodup by decide +kernel) rfl (Or.inl rfl)) (fun _ _ _ _ => pif0) (fun _ _ _ _ => (pe_and (pcl C_is_whole (hr.mono (by decide)) (pa_cons (pv 0) pa_nil stx_Name)) (pe_one (pe_cmpR op_ge (pv 0) pe_int (nomark _)))))) pa_nil stx_ListComp)) (pe_one (pe_cmpR op_eq (pe_callB (call_sumL rfl) rfl T.sum bt_sum (pa_cons (pv 2) pa_nil stx_Name)) (pv 1) (nomark _))))))), ?_⟩
  rw [st_is_put]
  walk_at "rd"
  cases o with
  | none =>
    obtain ⟨t, ty, k⟩ := hx.isi (K := K)
    refine rd_isi ty k ?_
    walk_at "rd"
    exact q H (Same.refl H)
  | some xs =>
    obtain ⟨l, rfl, hl, hE, hz⟩ := hx
    refine rd_isi (.lst hl) (b := true) rfl ?_
    walk_at "rd"
    rw [List.length_map]
    refine rd_ifn (fun c => ?_) (fun c => ?_)
    · walk_at "rd"
      have e : isPutB cs.length more (some xs) = false := by
        rw [isPut_some, decide_eq_false (show ¬ xs.length = cs.length by omega)]; rfl
      rw [e] at q
      exact q H (Same.refl H)
    · have cl : xs.length = cs.length := by omega
      walk_at "rd"
      refine ⟨l, rfl, ⟨_, SqL.of hl⟩, fun D nD => ?_⟩
      refine comp_list (xs := xs) (fun i σ' ys H' => (∃ x, σ' = [x]) ∧ Same H H' ∧ ys = ((xs.take i).map okV).map V.bl ∧ H' D = some (.lst ys)) D ⟨⟨_, rfl⟩, same_new nD _, rfl, upd_same⟩ (fun i σ' ys H' _ h => SqL.of (h.2.1 _ _ hl)) ?_ ?_
      · rintro i x σ' ys H' hx ⟨⟨x1, rfl⟩, s1, rfl, hD⟩
        have il := (List.getElem?_eq_some_iff.mp hx).1
        have ex := (hE x (List.mem_of_getElem? hx)).same s1
        have fin : ∀ b, b = okV x → H' D = some (.lst (((xs.take i).map okV).map V.bl)) ∧ (((xs.take i).map okV).map V.bl).length < sizeLine ∧ (∃ z, [some x] = [z]) ∧ Same H (upd H' D (.lst (((xs.take i).map okV).map V.bl ++ [.bl b]))) ∧ ((xs.take i).map okV).map V.bl ++ [.bl b] = ((xs.take (i + 1)).map okV).map V.bl ∧ upd H' D (.lst (((xs.take i).map okV).map V.bl ++ [.bl b])) D = some (.lst (((xs.take i).map okV).map V.bl ++ [.bl b])) := by
          rintro b rfl
          refine ⟨hD, by rw [List.length_map, List.length_map, List.length_take]; exact small1000 (by omega), ⟨_, rfl⟩, fun c o e => ?_, ?_, upd_same⟩
          · rw [upd_ne (ne_of_none e nD)]; exact s1 _ _ e
          · rw [List.take_add_one, hx, List.map_append, List.map_append]; rfl
        walk_at "rd"
        refine ⟨x, rfl, ex, ?_⟩
        cases e : (numB x && !blB x) with
        | false =>
          walk_at "rd"
          exact fin _ (not_whole e).symm
        | true =>
          obtain ⟨z, rfl⟩ := whole_int e
          walk_at "rd"
          exact fin _ rfl
      · rintro σ' ys H1 ⟨⟨x1, rfl⟩, s1, rfl, hD⟩
        rw [List.take_length] at hD
        walk_at "rd"
        refine rd_allL (SqL.of hD) ?_
        have e : isPutB cs.length more (some xs) = (xs.all okV && decide ((xs.map valV).sum = more)) := by
          rw [isPut_some, decide_eq_true cl, Bool.true_and]
        rw [show (xs.map okV).all id = xs.all okV by rw [List.all_map]; rfl]
        cases c : xs.all okV with
        | false =>
          rw [e, c] at q
          walk_at "rd"
          exact q H1 s1
        | true =>
          rw [e, c] at q
          walk_at "rd"
          have hl1 := s1 _ _ hl
          rw [(ok_ints c).1] at hl1
          refine rd_sumL (SqL.of hl1) ?_
          walk_at "rd"
          exact q H1 s1
theorem ok_is_greatest {f : Addr} {fd : FuncData} (F : Fun K "is_greatest" "is_greatest" s_is_greatest f fd) (mF : mg "is_greatest" = some (.ref f)) (bF : Binds K fd ["counts", "wide", "more", "thing"] []) (T : Bl mg) (C_is_put : Cal P w K mg base "is_put" ["counts", "more", "thing"] 2 (sp_is_put K)) (C_spill_behind : Cal P w K mg base "spill_behind" ["counts", "wide", "put"] 3 (sp_spill_behind K)) (C_greatest_spill : Cal P w K mg base "greatest_spill" ["counts", "wide", "more"] 7 (sp_greatest_spill K)) : Cal P w K mg base "is_greatest" ["counts", "wide", "more", "thing"] 8 (sp_is_greatest K) := by
  refine Cal.of F mF bF sc_is_greatest (fun vs H Q E h => ?_) (fun cdv A outer s H vs Q E hr h => ?_)
  · obtain ⟨a, w, more, cs, x, o, rfl, _⟩ := h; rfl
  obtain ⟨a, w, more, cs, x, o, rfl, ha, hne, hz, c0, w1, w2, m0, hx, tb, q⟩ := h
  refine ⟨_, (pss_one (ps_ret (pe_and (pcl C_is_put (hr.mono (by decide)) (pa_cons (pv 0) (pa_cons (pv 2) (pa_cons (pv 3) pa_nil stx_Name) stx_Name) stx_Name)) (pe_one (pe_cmpR op_eq (pcl C_spill_behind (hr.mono (by decide)) (pa_cons (pv 0) (pa_cons (pv 1) (pa_cons (pv 3) pa_nil stx_Name) stx_Name) stx_Name)) (pe_ix ix_tup (pcl C_greatest_spill (hr.mono (by decide)) (pa_cons (pv 0) (pa_cons (pv 1) (pa_cons (pv 2) pa_nil stx_Name) stx_Name) stx_Name)) pe_int (fun _ _ => rfl)) (nomark _)))))), ?_⟩
  rw [st_is_greatest]
  walk_at "rd"
  refine ⟨a, cs, more, x, o, rfl, ha, hx, fun H1 s1 => ?_⟩
  cases c : isPutB cs.length more o with
  | false =>
    rw [c] at q
    walk_at "rd"
    exact q H1 s1.sm (tb.same s1)
  | true =>
    rw [c] at q
    obtain ⟨xs, rfl, xl, xo, xsum⟩ := isPut_true c
    obtain ⟨l, rfl, hl, hE, lz⟩ := hx
    obtain ⟨e, x0⟩ := ok_ints xo
    have hl1 := s1 _ _ hl
    have ha1 := s1 _ _ ha
    rw [e] at hl1
    walk_at "rd"
    refine ⟨a, l, w, cs, xs.map valV, rfl, ha1, hl1, by rw [List.length_map, xl], hz, w1, w2, fun H2 s2 => ?_⟩
    walk_at "rd"
    refine ⟨a, w, more, cs, rfl, s2 _ _ ha1, hne, hz, c0, w1, w2, m0, tb.same (s1.trans s2), fun p t l2 H3 bst nt nl tl ht hl3 s3 tb3 => ?_⟩
    rw [best_val w1 c0 hne m0 bst] at ht
    walk_at "rd"
    exact q H3 ((s1.trans s2).sm.trans s3) tb3
theorem ok_is_least {f : Addr} {fd : FuncData} (F : Fun K "is_least" "is_least" s_is_least f fd) (mF : mg "is_least" = some (.ref f)) (bF : Binds K fd ["counts", "wide", "more", "thing"] []) (T : Bl mg) (C_is_put : Cal P w K mg base "is_put" ["counts", "more", "thing"] 2 (sp_is_put K)) (C_spill_behind : Cal P w K mg base "spill_behind" ["counts", "wide", "put"] 3 (sp_spill_behind K)) (C_least_spill : Cal P w K mg base "least_spill" ["counts", "wide", "more"] 4 (sp_least_spill K)) : Cal P w K mg base "is_least" ["counts", "wide", "more", "thing"] 5 (sp_is_least K) := by
  refine Cal.of F mF bF sc_is_least (fun vs H Q E h => ?_) (fun cdv A outer s H vs Q E hr h => ?_)
  · obtain ⟨a, w, more, cs, x, o, rfl, _⟩ := h; rfl
  obtain ⟨a, w, more, cs, x, o, rfl, ha, hne, hz, w1, w2, hx, q⟩ := h
  refine ⟨_, (pss_one (ps_ret (pe_and (pcl C_is_put (hr.mono (by decide)) (pa_cons (pv 0) (pa_cons (pv 2) (pa_cons (pv 3) pa_nil stx_Name) stx_Name) stx_Name)) (pe_one (pe_cmpR op_eq (pcl C_spill_behind (hr.mono (by decide)) (pa_cons (pv 0) (pa_cons (pv 1) (pa_cons (pv 3) pa_nil stx_Name) stx_Name) stx_Name)) (pe_ix ix_tup (pcl C_least_spill (hr.mono (by decide)) (pa_cons (pv 0) (pa_cons (pv 1) (pa_cons (pv 2) pa_nil stx_Name) stx_Name) stx_Name)) pe_int (fun _ _ => rfl)) (nomark _)))))), ?_⟩
  rw [st_is_least]
  walk_at "rd"
  refine ⟨a, cs, more, x, o, rfl, ha, hx, fun H1 s1 => ?_⟩
  cases c : isPutB cs.length more o with
  | false =>
    rw [c] at q
    walk_at "rd"
    exact q H1 s1
  | true =>
    rw [c] at q
    obtain ⟨xs, rfl, xl, xo, xsum⟩ := isPut_true c
    obtain ⟨l, rfl, hl, hE, lz⟩ := hx
    obtain ⟨e, x0⟩ := ok_ints xo
    have hl1 := s1 _ _ hl
    have ha1 := s1 _ _ ha
    rw [e] at hl1
    walk_at "rd"
    refine ⟨a, l, w, cs, xs.map valV, rfl, ha1, hl1, by rw [List.length_map, xl], hz, w1, w2, fun H2 s2 => ?_⟩
    walk_at "rd"
    refine ⟨a, w, more, cs, rfl, s2 _ _ ha1, hne, hz, w1, w2, fun t l2 H3 nt nl tl ht hl3 s3 => ?_⟩
    walk_at "rd"
    exact q H3 ((s1.trans s2).trans s3)
theorem ok__law_open {f : Addr} {fd : FuncData} (F : Fun K "_law_open" "_law_open" s__law_open f fd) (mF : mg "_law_open" = some (.ref f)) (bF : Binds K fd ["_law_script", "_law_place"] []) (T : Bl mg)  : Cal P w K mg base "_law_open" ["_law_script", "_law_place"] 1 (sp__law_open K) := by
  refine Cal.of F mF bF sc__law_open (fun vs H Q E h => ?_) (fun cdv A outer s H vs Q E hr h => ?_)
  · obtain ⟨a, ns, pl, rfl, _⟩ := h; rfl
  obtain ⟨a, ns, pl, rfl, hS, hlen, h0, h1, q⟩ := h
  have hu := hr.units
  refine ⟨_, (pss_cons (ps_setc (i := 2) sc__law_open.nd rfl rfl rfl (blkOk (sc := defScope s__law_open) (N := ["_law_script", "_law_place", "_law_cells", "_law_at", "_law_digits"]) (vs := ["_law_cell"]) (fs := []) (js := []) (by decide +kernel) rfl rfl) (pi_list (pe_slice sl_list (pv 0) po_none (po_some pe_int))) (fun _ _ _ _ => pg_name (i := 0) (show (["_law_cell"] : List Str).Nodup by decide +kernel) rfl (Or.inl rfl)) (fun _ _ _ _ => pif0) (fun _ _ _ _ => (pe_callB call_abs1 rfl T.abs bt_abs (pa_cons (pv 0) pa_nil stx_Name))))
      (pss_cons (ps_cut (ps_if (pt_cmpR (op_eqD hu) (pv 2) (pe_lst pa_nil) (nomark _)) (pss_one (ps_set (i := 2) sc__law_open.nd rfl (Or.inl rfl) (pe_lst (pa_cons pe_int pa_nil stx_Constant)))) pss_nil))
      (pss_cons (ps_set (i := 3) sc__law_open.nd rfl (Or.inl rfl) (pe_op op_mod (pv 1) (pe_callB call_lenL rfl T.len bt_len (pa_cons (pv 2) pa_nil stx_Name))))
      (pss_cons (ps_set (i := 4) sc__law_open.nd rfl (Or.inl rfl) pe_int)
      (pss_cons (ps_cut (ps_if (PW.pt (pw_and (pt_cmpR op_ge (pe_ix ix_list (pv 2) (pv 3) (fun _ _ => rfl)) (pe_powC (c := 1000000000000000000) (by decide +kernel) ⟨by decide, by decide, by decide⟩) (nomark _)) (pw_and1 (pt_cmpR op_lt (pv 1) (pe_callB call_lenL rfl T.len bt_len (pa_cons (pv 2) pa_nil stx_Name)) (nomark _))))) (pss_one (ps_set (i := 4) sc__law_open.nd rfl (Or.inl rfl) (pe_ix ix_list (pv 2) (pv 3) (fun _ _ => rfl)))) pss_nil))
      (pss_one (ps_ret (pe_lst (pa_cons (pv 4) (pa_cons (pe_op op_add pe_int (pe_op op_mul pe_int (pv 1))) (pa_cons (pe_op op_cat (pe_slice sl_list (pv 2) (po_some (pv 3)) po_none) (pe_slice sl_list (pv 2) po_none (po_some (pv 3)))) pa_nil stx_BinOp) stx_BinOp) stx_Name))))))))), ?_⟩
  rw [st__law_open]
  walk_at "rd"
  refine rd_slL hS fun p1 n1 => ?_
  have hcut : cutV (ns.map V.int) none (some 63) = ns.map V.int := by
    have := cut_hi (ms := ns) (k := 63)
    rw [List.take_of_length_le hlen] at this
    exact this
  rw [hcut]
  have s1 := same_new n1 (.lst (ns.map V.int))
  have hp1 : (upd H p1 (.lst (ns.map V.int))) p1 = some (.lst (ns.map V.int)) := upd_same
  generalize upd H p1 (.lst (ns.map V.int)) = H1 at s1 hp1 ⊢
  refine ⟨p1, rfl, ⟨_, SqL.of hp1⟩, fun D nD => ?_⟩
  have nD0 : H D = none := s1.free nD
  have npD : p1 ≠ D := ne_of_none hp1 nD
  refine comp_list (xs := ns.map V.int) (fun i σ' ys H' => (∃ x, σ' = [x]) ∧ (∃ ms : List Int, ys = ms.map V.int ∧ ms.length = i) ∧ Same H H' ∧ H' p1 = some (.lst (ns.map V.int)) ∧ H' D = some (.lst ys)) D ?_ (fun i σ' ys H' _ h => SqL.of h.2.2.2.1) ?_ ?_
  · exact ⟨⟨_, rfl⟩, ⟨[], rfl, rfl⟩, s1.trans (same_new nD _), by rw [upd_ne npD]; exact hp1, upd_same⟩
  · rintro i x σ' ys H' hx ⟨⟨y, rfl⟩, ⟨ms, rfl, hms⟩, g1, g2, g3⟩
    have hil : i < (ns.map V.int).length := (List.getElem?_eq_some_iff.mp hx).1
    rw [List.length_map] at hil
    obtain ⟨z, rfl⟩ : ∃ z, x = V.int z := by
      rw [List.getElem?_map] at hx
      cases e : ns[i]? with
      | none => rw [e] at hx; cases hx
      | some z => rw [e] at hx; exact ⟨z, (Option.some.inj hx).symm⟩
    walk_at "rd"
    refine ⟨g3, by rw [List.length_map]; exact small1000 (by omega), ⟨_, rfl⟩, ⟨ms ++ [_], (by rw [List.map_append]; rfl), by rw [List.length_append, hms]; rfl⟩, fun b o e => ?_, ?_, upd_same⟩
    · rw [upd_ne (ne_of_none e nD0)]; exact g1 _ _ e
    · rw [upd_ne npD]; exact g2
  · rintro σ' ys H' ⟨⟨y, rfl⟩, ⟨ms, rfl, hms⟩, g1, g2, g3⟩
    walk_at "rd"
    refine ⟨fun σ H2 => ∃ C ms, σ = [some (.ref a), some (.int pl), some (.ref C), none, none] ∧ ms ≠ [] ∧ ms.length ≤ 63 ∧ H2 C = some (.lst (List.map V.int ms)) ∧ Same H H2, ?_, ?_⟩
    · walk_at "rd"
      refine ⟨by decide, fun p2 n2 => ?_⟩
      refine ⟨.list (ms.map PyData.int), .list [], DV.lst (SqL.of (by rw [upd_ne (ne_of_none g3 n2)]; exact g3)) (DVs.ints ms), DV.lst (SqL.of upd_same) .nil, shaped_ints ms, rfl, ?_⟩
      have e : PyData.eqv (.list (ms.map PyData.int)) (.list []) = decide (ms = []) := by
        have := eqv_ints ms []
        rw [← this, PyData.eqv]; rfl
      rw [e]
      have s2 := g1.trans (same_new n2 (.lst []))
      have g32 : (upd H' p2 (.lst [])) D = some (.lst (ms.map V.int)) := by rw [upd_ne (ne_of_none g3 n2)]; exact g3
      generalize upd H' p2 (.lst []) = H2 at s2 g32 ⊢
      walk_at "rd"
      refine rd_if (fun h => ?_) (fun h => ?_)
      · walk_at "rd"
        refine ⟨by decide, fun p3 n3 => ?_⟩
        walk_at "rd"
        exact ⟨p3, [0], rfl, by simp, by simp, upd_same, s2.trans (same_new n3 _)⟩
      · walk_at "rd"
        exact ⟨D, ms, rfl, h, by rw [hms, List.length_map]; exact hlen, g32, s2⟩
    · rintro σ H2 ⟨C, ms, rfl, hne, hml, hC, s2⟩
      have hnl := len_pos hne
      obtain ⟨v, hv⟩ := nsMod hne pl
      walk_at "rd"
      refine ⟨fun σ H3 => H3 = H2 ∧ ∃ d, σ = [some (.ref a), some (.int pl), some (.ref C), some (.int (pl % ((ms.map V.int).length : Int))), some (.int d)], ?_, ?_⟩
      · walk_at "rd"
        refine rd_ixL (SqL.of hC) hv ?_
        walk_at "rd"
        refine rd_if (fun h => ?_) (fun h => ?_)
        · walk_at "rd"
          refine rd_if (fun h => ?_) (fun h => ?_)
          · walk_at "rd"
            refine rd_ixL (SqL.of hC) hv ?_
            walk_at "rd"
            exact ⟨rfl, _, rfl⟩
          · walk_at "rd"
            exact ⟨rfl, _, rfl⟩
        · walk_at "rd"
          exact ⟨rfl, _, rfl⟩
      · rintro σ H3 ⟨rfl, d, rfl⟩
        obtain ⟨k, hk, hk2⟩ : ∃ k : Nat, pl % ((ms.map V.int).length : Int) = (k : Int) ∧ k < ms.length := by
          have z0 := Int.emod_nonneg pl (show ((ms.map V.int).length : Int) ≠ 0 by omega)
          have z1 := Int.emod_lt_of_pos pl hnl
          rw [List.length_map] at z0 z1 ⊢
          exact ⟨(pl % (ms.length : Int)).toNat, by omega, by omega⟩
        rw [hk]
        walk_at "rd"
        refine rd_slL (SqL.of hC) fun p4 n4 => ?_
        walk_at "rd"
        have hC4 : (upd H3 p4 (.lst (cutV (ms.map V.int) (some (k : Int)) none))) C = some (.lst (ms.map V.int)) := by rw [upd_ne (ne_of_none hC n4)]; exact hC
        refine rd_slL (SqL.of hC4) fun p5 n5 => ?_
        rw [cut_lo, cut_hi]
        rw [cut_lo] at hC4 n5
        have s4 := s2.trans (same_new n4 (.lst ((ms.drop k).map V.int)))
        have hp4 : (upd H3 p4 (.lst ((ms.drop k).map V.int))) p4 = some (.lst ((ms.drop k).map V.int)) := upd_same
        generalize upd H3 p4 (.lst ((ms.drop k).map V.int)) = H4 at s4 hp4 hC4 n5 ⊢
        have s5 := s4.trans (same_new n5 (.lst ((ms.take k).map V.int)))
        have hp5 : (upd H4 p5 (.lst ((ms.take k).map V.int))) p5 = some (.lst ((ms.take k).map V.int)) := upd_same
        have hp45 : (upd H4 p5 (.lst ((ms.take k).map V.int))) p4 = some (.lst ((ms.drop k).map V.int)) := by rw [upd_ne (ne_of_none hp4 n5)]; exact hp4
        generalize upd H4 p5 (.lst ((ms.take k).map V.int)) = H5 at s5 hp5 hp45 ⊢
        refine ⟨p4, p5, _, _, rfl, rfl, hp45, hp5, (by rw [List.length_map, List.length_map, List.length_drop, List.length_take]; exact Nat.le_of_lt (small1000 (by omega))), fun p6 n6 => ?_⟩
        walk_at "rd"
        refine ⟨(by show 3 ≤ sizeLine; decide), fun p7 n7 => ?_⟩
        have s6 := s5.trans (same_new n6 (.lst ((ms.drop k).map V.int ++ (ms.take k).map V.int)))
        refine q p7 _ (s6.free n7) (s6.trans (same_new n7 _)) ⟨p6, d, 1 + 1009 * pl, ms.drop k ++ ms.take k, upd_same, ?_, by omega, by omega, ?_⟩
        · rw [upd_ne (ne_of_none upd_same n7), upd_same, List.map_append]
        · intro e
          have := congrArg List.length e
          rw [List.length_append, List.length_drop] at this
          simp at this
          omega
theorem ok__law_draw {f : Addr} {fd : FuncData} (F : Fun K "_law_draw" "_law_draw" s__law_draw f fd) (mF : mg "_law_draw" = some (.ref f)) (bF : Binds K fd ["_law_hand", "_law_many"] []) (T : Bl mg)  : Cal P w K mg base "_law_draw" ["_law_hand", "_law_many"] 1 (sp__law_draw K) := by
  refine Cal.of F mF bF sc__law_draw (fun vs H Q E h => ?_) (fun cdv A outer s H vs Q E hr h => ?_)
  · obtain ⟨p, N, n, rfl, _⟩ := h; rfl
  obtain ⟨p, N, n, rfl, hh, hN, hn, hn2, q⟩ := h
  obtain ⟨l, d, c, ns, hp, hl, hc0, hcN, hns⟩ := hh.ex
  have npl : l ≠ p := hand_ne hp hl
  have hnl := len_pos hns
  refine ⟨_, (pss_cons (ps_if (pt_cmpR op_gt (pe_ix ix_list (pv 0) pe_int (fun _ _ => rfl)) pe_int (nomark _)) (pss_cons (ps_set (i := 2) sc__law_draw.nd rfl (Or.inl rfl) (pe_op op_mod (pe_ix ix_list (pv 0) pe_int (fun _ _ => rfl)) (pv 1)))
      (pss_cons (ps_asg (pe_op op_fdivB (pe_ix ix_list (pv 0) pe_int (fun _ _ => rfl)) (pv 1)) (pg_sub (pv 0) pe_int set_list))
      (pss_one (ps_ret (pv 2))))) pss_nil)
      (pss_cons (ps_augS (pv 0) pe_int get_list pe_int ip_add set_list)
      (pss_cons (ps_set (i := 3) sc__law_draw.nd rfl (Or.inl rfl) (pe_ix ix_list (pv 0) pe_int (fun _ _ => rfl)))
      (pss_cons (ps_set (i := 4) sc__law_draw.nd rfl (Or.inl rfl) (pe_op op_mod (pe_op op_add (pe_op op_mod (pe_ix ix_list (pe_ix ix_list (pv 0) pe_int (fun _ _ => rfl)) (pe_op op_mod (pv 3) (pe_callB call_lenL rfl T.len bt_len (pa_cons (pe_ix ix_list (pv 0) pe_int (fun _ _ => rfl)) pa_nil stx_Subscript))) (fun _ _ => rfl)) pe_int) (pe_op op_mul pe_int (pv 3))) pe_int))
      (pss_cons (ps_set (i := 4) sc__law_draw.nd rfl (Or.inl rfl) (pe_op op_mod (pe_op op_add (pe_op op_add (pe_op op_pow (pv 4) pe_int) (pe_op op_mul (pe_op op_mul pe_int (pv 3)) (pv 3))) pe_int) pe_int))
      (pss_cons (ps_set (i := 4) sc__law_draw.nd rfl (Or.inl rfl) (pe_op op_mod (pe_op op_add (pe_op op_mul (pe_op op_pow (pv 4) pe_int) (pe_op op_add (pe_op op_mul pe_int (pv 3)) pe_int)) pe_int) pe_int))
      (pss_one (ps_ret (pe_op op_mod (pe_op op_fdivB (pe_op op_mod (pe_op op_mul (pv 4) pe_int) pe_int) pe_int) (pv 1)))))))))), ?_⟩
  rw [st__law_draw]
  walk_at "rd"
  refine rd_if (fun h => ?_) (fun h => ?_)
  · walk_at "rd"
    refine q _ _ (Int.emod_nonneg _ (by omega)) (Int.emod_lt_of_pos _ hn) ⟨l, d / n, c, ns, upd_same, ?_, hc0, by omega, hns⟩ (Kp.hand hp)
    rw [upd_ne npl]; exact hl
  · walk_at "rd"
    have hp1 : (upd H p (.lst [V.int d, .int (c + 1), .ref l])) p = some (.lst [.int d, .int (c + 1), .ref l]) := upd_same
    have hl1 : (upd H p (.lst [V.int d, .int (c + 1), .ref l])) l = some (.lst (ns.map V.int)) := by rw [upd_ne npl]; exact hl
    have k1 : Kp H (upd H p (.lst [V.int d, .int (c + 1), .ref l])) p := Kp.hand hp
    generalize upd H p (.lst [V.int d, .int (c + 1), .ref l]) = H1 at hp1 hl1 k1 ⊢
    walk_at "rd"
    obtain ⟨v, hv⟩ := nsMod hns (c + 1)
    refine rd_ixL (SqL.of hl1) hv ?_
    walk_at "rd"
    have hn0 : n ≠ 0 := by omega
    exact q _ _ (Int.emod_nonneg _ hn0) (Int.emod_lt_of_pos _ hn) ⟨l, d, c + 1, ns, hp1, hl1, by omega, by omega, hns⟩ k1
theorem ok__law_far {f : Addr} {fd : FuncData} (F : Fun K "_law_far" "_law_far" s__law_far f fd) (mF : mg "_law_far" = some (.ref f)) (bF : Binds K fd ["_law_hand", "_law_many"] []) (T : Bl mg) (C__law_draw : Cal P w K mg base "_law_draw" ["_law_hand", "_law_many"] 1 (sp__law_draw K)) : Cal P w K mg base "_law_far" ["_law_hand", "_law_many"] 2 (sp__law_far K) := by
  refine Cal.of F mF bF sc__law_far (fun vs H Q E h => ?_) (fun cdv A outer s H vs Q E hr h => ?_)
  · obtain ⟨p, N, n, rfl, _⟩ := h; rfl
  obtain ⟨p, N, n, rfl, hh, hN, hn, hn2, q⟩ := h
  obtain ⟨l, d, c, ns, hp, hl, hc0, hcN, hns⟩ := hh.ex
  refine ⟨_, (pss_cons (ps_if (pt_cmpR op_gt (pe_ix ix_list (pv 0) pe_int (fun _ _ => rfl)) pe_int (nomark _)) (pss_one (ps_ret (pcl C__law_draw (hr.mono (by decide)) (pa_cons (pv 0) (pa_cons (pv 1) pa_nil stx_Name) stx_Name)))) pss_nil)
      (pss_cons (ps_set (i := 2) sc__law_far.nd rfl (Or.inl rfl) pe_int)
      (pss_cons (ps_for PassesOwn.never rfl (pi_range1 rfl T.range (pa_cons pe_int pa_nil stx_Constant)) (pg_name (i := 3) sc__law_far.nd rfl (Or.inl rfl)) (pss_one (ps_set (i := 2) sc__law_far.nd rfl (Or.inl rfl) (pe_op op_add (pe_op op_mul (pv 2) (pe_powC (c := 1000000) (by decide +kernel) ⟨by decide, by decide, by decide⟩)) (pcl C__law_draw (hr.mono (by decide)) (pa_cons (pv 0) (pa_cons (pe_powC (c := 1000000) (by decide +kernel) ⟨by decide, by decide, by decide⟩) pa_nil stx_BinOp) stx_Name))))))
      (pss_one (ps_ret (pe_op op_mod (pv 2) (pv 1))))))), ?_⟩
  rw [st__law_far]
  walk_at "rd"
  refine rd_if (fun h => ?_) (fun h => ?_)
  · walk_at "rd"
    exact ⟨p, N, n, rfl, hh, by omega, hn, hn2, fun r H' h0 h1 h2 h3 => q r H' h0 h1 (h2.mono (by omega)) h3⟩
  · walk_at "rd"
    refine ⟨7, rfl, by omega, by omega, ?_⟩
    refine for_range (n := 7) (fun i σ H' => (∃ v x, σ = [some (.ref p), some (.int n), some (.int v), x]) ∧ Hand H' p (N + i) ∧ Kp H H' p ∧ i ≤ 7) ⟨⟨_, _, rfl⟩, hh, Kp.refl _ _, by omega⟩ ?_ ?_
    · rintro i σ H' hi ⟨⟨v, x, rfl⟩, h1, h2, h3⟩
      walk_at "rd"
      exact ⟨p, N + i, _, rfl, h1, by omega, by decide, by decide, fun r H2 h0 h4 h5 h6 => by
        walk_at "rd"
        exact ⟨⟨_, _, rfl⟩, h5, h2.trans h6, by omega⟩⟩
    · rintro σ H' ⟨⟨v, x, rfl⟩, h1, h2, h3⟩
      walk_at "rd"
      exact q _ _ (Int.emod_nonneg _ (by omega)) (Int.emod_lt_of_pos _ hn) h1 h2
theorem ok__law_world {f : Addr} {fd : FuncData} (F : Fun K "_law_world" "_law_world" s__law_world f fd) (mF : mg "_law_world" = some (.ref f)) (bF : Binds K fd ["_law_hand"] []) (T : Bl mg) (C__law_draw : Cal P w K mg base "_law_draw" ["_law_hand", "_law_many"] 1 (sp__law_draw K)) (C__law_far : Cal P w K mg base "_law_far" ["_law_hand", "_law_many"] 2 (sp__law_far K)) : Cal P w K mg base "_law_world" ["_law_hand"] 3 (sp__law_world K) := by
  refine Cal.of F mF bF sc__law_world (fun vs H Q E h => ?_) (fun cdv A outer s H vs Q E hr h => ?_)
  · obtain ⟨p, N, rfl, _⟩ := h; rfl
  obtain ⟨p, N, rfl, hh, hN, q⟩ := h
  refine ⟨_, (pss_cons (ps_set (i := 1) sc__law_world.nd rfl (Or.inl rfl) (pe_op op_add pe_int (pcl C__law_draw (hr.mono (by decide)) (pa_cons (pv 0) (pa_cons pe_int pa_nil stx_Constant) stx_Name))))
      (pss_cons (ps_set (i := 2) sc__law_world.nd rfl (Or.inl rfl) (pcl C__law_draw (hr.mono (by decide)) (pa_cons (pv 0) (pa_cons pe_int pa_nil stx_Constant) stx_Name)))
      (pss_cons (ps_set (i := 3) sc__law_world.nd rfl (Or.inl rfl) (pcl C__law_far (hr.mono (by decide)) (pa_cons (pv 0) (pa_cons (pe_ix ix_list (pe_lst (pa_cons pe_int (pa_cons pe_int (pa_cons (pe_powC (c := 1000000) (by decide +kernel) ⟨by decide, by decide, by decide⟩) (pa_cons (pe_op op_add (pe_powC (c := 10000000000) (by decide +kernel) ⟨by decide, by decide, by decide⟩) pe_int) pa_nil stx_BinOp) stx_BinOp) stx_Constant) stx_Constant)) (pcl C__law_draw (hr.mono (by decide)) (pa_cons (pv 0) (pa_cons pe_int pa_nil stx_Constant) stx_Name)) (fun _ _ => rfl)) pa_nil stx_Subscript) stx_Name)))
      (pss_cons (ps_set (i := 4) sc__law_world.nd rfl (Or.inl rfl) (pe_lst pa_nil))
      (pss_cons (ps_for PassesOwn.never rfl (pi_range1 rfl T.range (pa_cons (pe_ix ix_list (pe_lst (pa_cons (pe_op op_add pe_int (pcl C__law_draw (hr.mono (by decide)) (pa_cons (pv 0) (pa_cons pe_int pa_nil stx_Constant) stx_Name))) (pa_cons pe_int pa_nil stx_Constant) stx_BinOp)) (pe_callTy call_intB rfl T.int bt_int (pa_cons (pe_cmpR op_eq (pcl C__law_draw (hr.mono (by decide)) (pa_cons (pv 0) (pa_cons pe_int pa_nil stx_Constant) stx_Name)) pe_int (nomark _)) pa_nil stx_Compare)) (fun _ _ => rfl)) pa_nil stx_Subscript)) (pg_name (i := 5) sc__law_world.nd rfl (Or.inl rfl)) (pss_cons (ps_set (i := 6) sc__law_world.nd rfl (Or.inl rfl) (pcl C__law_far (hr.mono (by decide)) (pa_cons (pv 0) (pa_cons (pe_op op_add (pe_powC (c := 1000000000) (by decide +kernel) ⟨by decide, by decide, by decide⟩) pe_int) pa_nil stx_BinOp) stx_Name)))
      (pss_one (ps_expr (pe_bm PySem.F.plainAttrs_list PySem.F.slot_list_append PySem.F.type_list_append mt_append (pv 4) (pa_cons (pe_op op_mod (pv 6) (pe_ix ix_list (pe_lst (pa_cons pe_int (pa_cons pe_int (pa_cons (pe_op op_add (pe_powC (c := 1000000000) (by decide +kernel) ⟨by decide, by decide, by decide⟩) pe_int) (pa_cons pe_int pa_nil stx_Constant) stx_BinOp) stx_Constant) stx_Constant)) (pv 2) (fun _ _ => rfl))) pa_nil stx_BinOp))))))
      (pss_one (ps_ret (pe_tup (pa_cons (pv 4) (pa_cons (pv 1) (pa_cons (pv 3) pa_nil stx_Name) stx_Name) stx_Name))))))))), ?_⟩
  rw [st__law_world]
  walk_at "rd"
  refine ⟨p, _, 8, rfl, hh, by omega, by decide, by decide, fun w H1 w0 w1 hh1 k1 => ?_⟩
  walk_at "rd"
  refine ⟨p, _, 4, rfl, hh1, by omega, by decide, by decide, fun way H2 y0 y1 hh2 k2 => ?_⟩
  walk_at "rd"
  refine ⟨(by show 4 ≤ sizeLine; decide), fun l1 nl1 => ?_⟩
  generalize hE : upd H2 l1 _ = H3
  obtain ⟨hh3, k3, hl1, s3⟩ := newl hh2 nl1 (k1.trans k2) hE
  clear hE
  have l1p : l1 ≠ p := hh2.ne nl1
  walk_at "rd"
  refine ⟨p, _, 4, rfl, hh3, by omega, by decide, by decide, fun z H4 z0 z1 hh4 k4 => ?_⟩
  have hl1 := k4.1 _ _ hl1 l1p
  obtain ⟨b, hb, b0, b1⟩ : ∃ b : Int, atI [V.int 20, V.int 400, V.int 1000000, V.int (10000000000 + 1)] z = some (.int b) ∧ 0 < b ∧ b ≤ 10000000001 := by
    rcases (by omega : z = 0 ∨ z = 1 ∨ z = 2 ∨ z = 3) with c | c | c | c <;> rw [c] <;> exact ⟨_, rfl, by decide, by decide⟩
  refine rd_ixL (SqL.of hl1) hb ?_
  walk_at "rd"
  refine ⟨p, _, b, rfl, hh4, by omega, b0, by omega, fun more H5 m0 m1 hh5 k5 => ?_⟩
  walk_at "rd"
  refine ⟨by decide, fun D nD => ?_⟩
  have kA := (k3.trans k4).trans k5
  have ck := CK.start (ys := []) hh5 nD
  generalize upd H5 D _ = H6 at ck ⊢
  walk_at "rd"
  refine ⟨p, _, 9, rfl, ck.hh, by omega, by decide, by decide, fun d9 H7 d0 d1 hh7 k7 => ?_⟩
  have ck := ck.draw k7 hh7
  walk_at "rd"
  refine ⟨(by show 2 ≤ sizeLine; decide), fun l2 nl2 => ?_⟩
  generalize hE : upd H7 l2 _ = H8
  obtain ⟨ck, hl2, l2p, l2D⟩ := ck.new nl2 hE
  clear hE
  walk_at "rd"
  refine ⟨p, _, 4, rfl, ck.hh, by omega, by decide, by decide, fun d H9 e0 e1 hh9 k9 => ?_⟩
  have ck := ck.draw k9 hh9
  have hl2 := k9.1 _ _ hl2 l2p
  walk_at "rd"
  obtain ⟨n, hn, n0, n1⟩ : ∃ n : Int, atI [V.int (1 + d9), V.int 120] (if decide (d = 3) = true then 1 else 0) = some (.int n) ∧ 0 < n ∧ n ≤ 120 := by
    by_cases c : d = 3
    · rw [decide_eq_true c]; exact ⟨120, rfl, by decide, by decide⟩
    · rw [decide_eq_false c]; exact ⟨1 + d9, rfl, by omega, by omega⟩
  refine rd_ixL (SqL.of hl2) hn ?_
  refine ⟨n, rfl, by omega, by omega, ?_⟩
  refine for_range (n := n.toNat) (fun i σ H' => (∃ x1 x2, σ = [some (.ref p), some (.int (1 + w)), some (.int way), some (.int more), some (.ref D), x1, x2]) ∧ ∃ cs : List Int, (∀ m ∈ cs, 0 ≤ m) ∧ cs.length = i ∧ CK H5 p D (N + 20 + 8 * i) (cs.map V.int) H') ⟨⟨_, _, rfl⟩, [], by simp, rfl, ⟨ck.hh.mono (by omega), ck.lat, ck.kp, ck.n0, ck.np, ck.nc⟩⟩ ?_ ?_
  · rintro i σ HA hi ⟨⟨x1, x2, rfl⟩, cs, c0, cl, ck⟩
    walk_at "rd"
    refine ⟨p, _, _, rfl, ck.hh, by omega, by decide, by decide, fun many HB m2 m3 hhB kB => ?_⟩
    have ck := ck.draw kB hhB
    walk_at "rd"
    refine ⟨.inl ⟨rfl, _, SqL.of ck.lat⟩, ?_⟩
    walk_at "rd"
    refine ⟨(by show 4 ≤ sizeLine; decide), fun l3 nl3 => ?_⟩
    generalize hE : upd HB l3 _ = HC
    obtain ⟨ck, hl3, l3p, l3D⟩ := ck.new nl3 hE
    clear hE
    obtain ⟨g, hg, g0⟩ : ∃ g : Int, atI [V.int 3, V.int 40, V.int (1000000000 + 1), V.int 90] way = some (.int g) ∧ 0 < g := by
      rcases (by omega : way = 0 ∨ way = 1 ∨ way = 2 ∨ way = 3) with c | c | c | c <;> rw [c] <;> exact ⟨_, rfl, by decide⟩
    walk_at "rd"
    refine rd_ixL (SqL.of hl3) hg ?_
    walk_at "rd"
    refine ⟨D, _, _, rfl, rfl, ck.lat, by rw [List.length_map]; exact small1000 (by omega), ?_⟩
    walk_at "rd"
    refine ⟨⟨_, _, rfl⟩, cs ++ [many % g], fun x hx => ?_, by rw [List.length_append, cl]; rfl, ?_⟩
    · rcases List.mem_append.mp hx with h | h
      · exact c0 x h
      · simp at h; rw [h]; exact Int.emod_nonneg _ (by omega)
    · have := ck.push (zs := List.map V.int cs ++ [V.int (many % g)])
      rw [List.map_append]
      exact ⟨this.hh.mono (by omega), this.lat, this.kp, this.n0, this.np, this.nc⟩
  · rintro σ HA ⟨⟨x1, x2, rfl⟩, cs, c0, cl, ck⟩
    walk_at "rd"
    refine ⟨(by show 3 ≤ sizeLine; decide), fun t nt => ?_⟩
    generalize hE : upd HA t _ = HB
    obtain ⟨hhB, kB, ht, sB⟩ := newl ck.hh nt (kA.trans ck.kp) hE
    clear hE
    exact q t D cs _ _ HB ht (sB _ _ ck.lat) (fun e => by rw [e] at cl; simp at cl; omega) (by omega) c0 (by omega) (by omega) m0 (by omega) (hhB.mono (by omega)) kB

theorem ok__law_spill {f : Addr} {fd : FuncData} (F : Fun K "_law_spill" "_law_spill" s__law_spill f fd) (mF : mg "_law_spill" = some (.ref f)) (bF : Binds K fd ["_law_sizes", "_law_wide", "_law_put"] []) (T : Bl mg)  : Cal P w K mg base "_law_spill" ["_law_sizes", "_law_wide", "_law_put"] 1 (sp__law_spill K) := by
  refine Cal.of F mF bF sc__law_spill (fun vs H Q E h => ?_) (fun cdv A outer s H vs Q E hr h => ?_)
  · obtain ⟨a, b, w, cs, ps, rfl, _⟩ := h; rfl
  obtain ⟨a, b, w, cs, ps, rfl, ha, hb, hl, hz, c0, p0, w1, w2, q⟩ := h
  refine ⟨_, (pss_one (ps_ret (pe_callB (call_sumL rfl) rfl T.sum bt_sum (pa_cons (pe_comp rfl (blkOk (sc := defScope s__law_spill) (N := ["_law_sizes", "_law_wide", "_law_put"]) (vs := ["_law_many", "_law_one"]) (fs := ["_law_wide"]) (js := [1]) (by decide +kernel) rfl rfl) (pi_zip rfl T.zip (pa_cons (pv 0) (pa_cons (pv 2) pa_nil stx_Name) stx_Name)) (fun _ _ _ _ => pg_tupK (K := K) (n := 2) rfl rfl (pgs_cons (pg_name (i := 0) (show (["_law_many", "_law_one", "_law_wide"] : List Str).Nodup by decide +kernel) rfl (Or.inl rfl)) (pgs_cons (pg_name (i := 1) (show (["_law_many", "_law_one", "_law_wide"] : List Str).Nodup by decide +kernel) rfl (Or.inl rfl)) pgs_nil))) (fun _ _ _ _ => pif0) (fun _ _ _ _ => (pe_op op_fdivB (pe_callB (call_maxI rfl) rfl T.max bt_max (pa_cons pe_int (pa_cons (pe_op op_sub (pe_op op_add (pv 0) (pv 1)) pe_int) pa_nil stx_BinOp) stx_Constant)) (pv 2)))) pa_nil stx_ListComp)))), ?_⟩
  rw [st__law_spill]
  walk_at "rd"
  refine ⟨a, b, rfl, ⟨_, SqL.of ha⟩, ⟨_, SqL.of hb⟩, fun D nD => ?_⟩
  refine comp_zip (xs := cs.map V.int) (zs := ps.map V.int) (fun i σ' ys H' => (∃ x y, σ' = [x, y, some (.int w)]) ∧ Same H H' ∧ ys = ((List.zipWith (spillF w) cs ps).take i).map V.int ∧ H' D = some (.lst ys)) D (by rw [List.length_map, List.length_map, hl]) ⟨⟨_, _, rfl⟩, same_new nD _, rfl, upd_same⟩ (fun i σ' ys H' _ h => ⟨SqL.of (h.2.1 _ _ ha), SqL.of (h.2.1 _ _ hb)⟩) ?_ ?_
  · rintro i x z σ' ys H1 t hx hz' ⟨⟨x1, y1, rfl⟩, s1, rfl, hD⟩ nt
    obtain ⟨u, hu, rfl⟩ := ints_get hx
    obtain ⟨v, hv, rfl⟩ := ints_get hz'
    have il := (List.getElem?_eq_some_iff.mp hu).1
    have u0 := c0 u (List.mem_of_getElem? hu)
    have v0 := p0 v (List.mem_of_getElem? hv)
    generalize hE : upd H1 t _ = H2
    obtain ⟨ht, s2⟩ := newo nt hE
    clear hE
    refine ⟨t, _, rfl, SqT.of ht, rfl, _, _, rfl, _, _, rfl, rfl, ?_⟩
    walk_at "rd"
    rw [law_spill w1 u0 v0]
    refine ⟨s2 _ _ hD, ?_, ⟨_, _, rfl⟩, fun c o e => ?_, ?_, upd_same⟩
    · rw [List.length_map, List.length_take]
      exact small1000 (by omega)
    · rw [upd_ne (ne_of_none e nD)]; exact s2 _ _ (s1 _ _ e)
    · rw [zip_take hu hv, List.map_append]; rfl
  · rintro σ' ys H1 ⟨⟨x1, y1, rfl⟩, s1, rfl, hD⟩
    rw [List.length_map, List.take_of_length_le (by rw [List.length_zipWith]; omega)] at hD
    walk_at "rd"
    refine rd_sumL (SqL.of hD) ?_
    rw [sum_spill hl]
    exact q H1 s1
theorem ok__law_needs {f : Addr} {fd : FuncData} (F : Fun K "_law_needs" "_law_needs" s__law_needs f fd) (mF : mg "_law_needs" = some (.ref f)) (bF : Binds K fd ["_law_sizes", "_law_wide"] []) (T : Bl mg)  : Cal P w K mg base "_law_needs" ["_law_sizes", "_law_wide"] 1 (sp__law_needs K) := by
  refine Cal.of F mF bF sc__law_needs (fun vs H Q E h => ?_) (fun cdv A outer s H vs Q E hr h => ?_)
  · obtain ⟨a, w, cs, rfl, _⟩ := h; rfl
  obtain ⟨a, w, cs, rfl, ha, hz, w1, w2, q⟩ := h
  refine ⟨_, (pss_one (ps_ret (pe_callB call_sortL rfl T.sorted bt_sorted (pa_cons (pe_comp rfl (blkOk (sc := defScope s__law_needs) (N := ["_law_sizes", "_law_wide"]) (vs := ["_law_many"]) (fs := ["_law_wide"]) (js := [1]) (by decide +kernel) rfl rfl) (pi_list (pv 0)) (fun _ _ _ _ => pg_name (i := 0) (show (["_law_many", "_law_wide"] : List Str).Nodup by decide +kernel) rfl (Or.inl rfl)) (fun _ _ _ _ => pif1 (pt_cmpR op_gt (pv 0) pe_int (nomark _))) (fun _ _ _ _ => (pe_op op_add pe_int (pe_op op_mod (pe_op op_sub pe_int (pv 0)) (pv 1))))) pa_nil stx_ListComp)))), ?_⟩
  rw [st__law_needs]
  walk_at "rd"
  refine ⟨a, rfl, ⟨_, SqL.of ha⟩, fun D nD => ?_⟩
  refine comp_list (xs := cs.map V.int) (fun i σ' ys H' => (∃ x, σ' = [x, some (.int w)]) ∧ Same H H' ∧ ys = (gapsV w (cs.take i)).map V.int ∧ H' D = some (.lst ys)) D ⟨⟨_, rfl⟩, same_new nD _, rfl, upd_same⟩ (fun i σ' ys H' _ h => SqL.of (h.2.1 _ _ ha)) ?_ ?_
  · rintro i x σ' ys H1 hx ⟨⟨x1, rfl⟩, s1, rfl, hD⟩
    obtain ⟨z, hz', rfl⟩ := ints_get hx
    have gl := gapsV_len (w := w) (c := cs.take i)
    rw [List.length_take] at gl
    have es : gapsV w (cs.take (i + 1)) = gapsV w (cs.take i) ++ (if 0 < z then [gapV w z] else []) := by rw [take_get hz', gapsV_snoc]
    walk_at "rd"
    refine rd_if (fun c => ?_) (fun c => ?_)
    · walk_at "rd"
      rw [need1 w1 c]
      refine ⟨hD, by rw [List.length_map]; exact small1000 (by omega), ⟨_, rfl⟩, fun c o e => ?_, ?_, upd_same⟩
      · rw [upd_ne (ne_of_none e nD)]; exact s1 _ _ e
      · rw [es, if_pos c, List.map_append]; rfl
    · refine ⟨⟨_, rfl⟩, s1, ?_, hD⟩
      rw [es, if_neg c, List.append_nil]
  · rintro σ' ys H1 ⟨⟨x1, rfl⟩, s1, rfl, hD⟩
    rw [List.length_map, List.take_length] at hD
    have gl := gapsV_len (w := w) (c := cs)
    walk_at "rd"
    refine rd_sortL (SqL.of hD) (by omega) fun ms l p1 p2 nl => ?_
    generalize hE : upd H1 l _ = H2
    obtain ⟨h2, s2⟩ := newo nl hE
    clear hE
    rw [srt_eq p1 p2] at h2
    exact q l H2 h2 (s1.trans s2)
theorem ok__law_greatest {f : Addr} {fd : FuncData} (F : Fun K "_law_greatest" "_law_greatest" s__law_greatest f fd) (mF : mg "_law_greatest" = some (.ref f)) (bF : Binds K fd ["_law_sizes", "_law_wide", "_law_more"] []) (T : Bl mg) (C__law_needs : Cal P w K mg base "_law_needs" ["_law_sizes", "_law_wide"] 1 (sp__law_needs K)) : Cal P w K mg base "_law_greatest" ["_law_sizes", "_law_wide", "_law_more"] 2 (sp__law_greatest K) := by
  refine Cal.of F mF bF sc__law_greatest (fun vs H Q E h => ?_) (fun cdv A outer s H vs Q E hr h => ?_)
  · obtain ⟨a, w, more, cs, rfl, _⟩ := h; rfl
  obtain ⟨a, w, more, cs, rfl, ha, hz, c0, w1, w2, q⟩ := h
  have hu := hr.units
  refine ⟨_, (pss_cons (ps_set (i := 3) sc__law_greatest.nd rfl (Or.inl rfl) (pe_callB (call_sumL rfl) rfl T.sum bt_sum (pa_cons (pe_comp rfl (blkOk (sc := defScope s__law_greatest) (N := ["_law_sizes", "_law_wide", "_law_more", "_law_rows", "_law_needs_here", "_law_left", "_law_need"]) (vs := ["_law_many"]) (fs := ["_law_wide"]) (js := [1]) (by decide +kernel) rfl rfl) (pi_list (pv 0)) (fun _ _ _ _ => pg_name (i := 0) (show (["_law_many", "_law_wide"] : List Str).Nodup by decide +kernel) rfl (Or.inl rfl)) (fun _ _ _ _ => pif0) (fun _ _ _ _ => (pe_op op_fdivB (pe_callB (call_maxI rfl) rfl T.max bt_max (pa_cons pe_int (pa_cons (pe_op op_sub (pv 0) pe_int) pa_nil stx_BinOp) stx_Constant)) (pv 1)))) pa_nil stx_ListComp)))
      (pss_cons (ps_set (i := 4) sc__law_greatest.nd rfl (Or.inl rfl) (pcl C__law_needs (hr.mono (by decide)) (pa_cons (pv 0) (pa_cons (pv 1) pa_nil stx_Name) stx_Name)))
      (pss_cons (ps_if (pt_cmpR (op_eqD hu) (pv 4) (pe_lst pa_nil) (nomark _)) (pss_one (ps_ret (pe_op op_add (pv 3) (pe_op op_fdivB (pe_callB (call_maxI rfl) rfl T.max bt_max (pa_cons pe_int (pa_cons (pe_op op_sub (pv 2) pe_int) pa_nil stx_BinOp) stx_Constant)) (pv 1))))) pss_nil)
      (pss_cons (ps_set (i := 5) sc__law_greatest.nd rfl (Or.inl rfl) (pv 2))
      (pss_cons (ps_for PassesOwn.never rfl (pi_list (pv 4)) (pg_name (i := 6) sc__law_greatest.nd rfl (Or.inl rfl)) (pss_cons (ps_if (pt_cmpR op_lt (pv 5) (pv 6) (nomark _)) (pss_one (ps_ret (pv 3))) pss_nil)
      (pss_cons (ps_set (i := 5) sc__law_greatest.nd rfl (Or.inl rfl) (pe_op op_sub (pv 5) (pv 6)))
      (pss_one (ps_set (i := 3) sc__law_greatest.nd rfl (Or.inl rfl) (pe_op op_add (pv 3) pe_int))))))
      (pss_one (ps_ret (pe_op op_add (pv 3) (pe_op op_fdivB (pv 5) (pv 1)))))))))), ?_⟩
  rw [st__law_greatest]
  walk_at "rd"
  refine ⟨a, rfl, ⟨_, SqL.of ha⟩, fun D nD => ?_⟩
  refine comp_list (xs := cs.map V.int) (fun i σ' ys H' => (∃ x, σ' = [x, some (.int w)]) ∧ Same H H' ∧ ys = ((cs.map fun x => max 0 (x - 1) / w).take i).map V.int ∧ H' D = some (.lst ys)) D ⟨⟨_, rfl⟩, same_new nD _, rfl, upd_same⟩ (fun i σ' ys H' _ h => SqL.of (h.2.1 _ _ ha)) ?_ ?_
  · rintro i x σ' ys H1 hx ⟨⟨x1, rfl⟩, s1, rfl, hD⟩
    obtain ⟨z, hz', rfl⟩ := ints_get hx
    have il := (List.getElem?_eq_some_iff.mp hz').1
    walk_at "rd"
    refine ⟨hD, by rw [List.length_map, List.length_take]; exact small1000 (by omega), ⟨_, rfl⟩, fun c o e => ?_, ?_, upd_same⟩
    · rw [upd_ne (ne_of_none e nD)]; exact s1 _ _ e
    · rw [take_get (x := max 0 (z - 1) / w) (by rw [List.getElem?_map, hz']; rfl), List.map_append]; rfl
  · rintro σ' ys H1 ⟨⟨x1, rfl⟩, s1, rfl, hD⟩
    rw [List.length_map, List.take_of_length_le (by rw [List.length_map]; omega)] at hD
    walk_at "rd"
    refine rd_sumL (SqL.of hD) ?_
    rw [sum_more w1 c0]
    walk_at "rd"
    refine ⟨a, w, cs, rfl, s1 _ _ ha, hz, w1, w2, fun l H2 hl s2 => ?_⟩
    have sA := s1.trans s2
    walk_at "rd"
    refine ⟨by decide, fun e ne => ?_⟩
    generalize hE : upd H2 e _ = H3
    obtain ⟨he, s3⟩ := newo ne hE
    clear hE
    have hl3 := s3 _ _ hl
    refine ⟨_, _, dv_ints hl3, dv_ints (ns := []) he, shaped_ints _, shaped_ints _, ?_⟩
    rw [PyData.eqv, eqv_ints]
    have sB := sA.trans s3
    walk_at "rd"
    refine rd_if (fun c => ?_) (fun c => ?_)
    · walk_at "rd"
      have := q H3 sB
      unfold greatV at this
      rw [if_pos c] at this
      exact this
    · walk_at "rd"
      refine ⟨l, rfl, ⟨_, SqL.of hl3⟩, ?_⟩
      have gv : greatV w cs more = rows0 w cs - cs.length + climb w (srt (gapsV w cs)) more := by unfold greatV; rw [if_neg c]
      rw [gv] at q
      generalize srt (gapsV w cs) = gs at hl3 q
      refine for_list (xs := gs.map V.int) (fun i σ H' => Same H3 H' ∧ ∃ left x1, σ = [some (.ref a), some (.int w), some (.int more), some (.int (rows0 w cs - cs.length + i)), some (.ref l), some (.int left), x1] ∧ climb w gs more = i + climb w (gs.drop i) left) ⟨Same.refl _, more, _, by simp; rfl, by simp⟩ (fun _ _ _ _ h => SqL.of (h.1 _ _ hl3)) ?_ ?_
      · rintro i x σ H4 hx ⟨s4, left, x1, rfl, hcl⟩
        obtain ⟨z, hz', rfl⟩ := ints_get hx
        rw [climb_drop hz'] at hcl
        walk_at "rd"
        refine rd_if (fun d => ?_) (fun d => ?_)
        · rw [if_pos d] at hcl
          walk_at "rd"
          have := q H4 (sB.trans s4)
          rw [hcl, Int.add_zero] at this
          exact this
        · rw [if_neg d] at hcl
          walk_at "rd"
          exact ⟨s4, left - z, _, by rw [show rows0 w cs - cs.length + (i : Int) + 1 = rows0 w cs - cs.length + ((i + 1 : Nat) : Int) by push_cast; omega], by rw [hcl]; push_cast; omega⟩
      · rintro σ H4 ⟨s4, left, x1, rfl, hcl⟩
        rw [List.length_map, List.drop_length, climb] at hcl
        rw [List.length_map]
        walk_at "rd"
        have := q H4 (sB.trans s4)
        rw [hcl, ← Int.add_assoc] at this
        exact this
theorem ok__law_least {f : Addr} {fd : FuncData} (F : Fun K "_law_least" "_law_least" s__law_least f fd) (mF : mg "_law_least" = some (.ref f)) (bF : Binds K fd ["_law_sizes", "_law_wide", "_law_more"] []) (T : Bl mg)  : Cal P w K mg base "_law_least" ["_law_sizes", "_law_wide", "_law_more"] 1 (sp__law_least K) := by
  refine Cal.of F mF bF sc__law_least (fun vs H Q E h => ?_) (fun cdv A outer s H vs Q E hr h => ?_)
  · obtain ⟨a, w, more, cs, rfl, _⟩ := h; rfl
  obtain ⟨a, w, more, cs, rfl, ha, hne, hz, c0, w1, w2, m0, q⟩ := h
  refine ⟨_, (pss_cons (ps_set (i := 3) sc__law_least.nd rfl (Or.inl rfl) (pe_callB (call_sumL rfl) rfl T.sum bt_sum (pa_cons (pe_comp rfl (blkOk (sc := defScope s__law_least) (N := ["_law_sizes", "_law_wide", "_law_more", "_law_rows", "_law_free"]) (vs := ["_law_many"]) (fs := ["_law_wide"]) (js := [1]) (by decide +kernel) rfl rfl) (pi_list (pv 0)) (fun _ _ _ _ => pg_name (i := 0) (show (["_law_many", "_law_wide"] : List Str).Nodup by decide +kernel) rfl (Or.inl rfl)) (fun _ _ _ _ => pif0) (fun _ _ _ _ => (pe_op op_fdivB (pe_callB (call_maxI rfl) rfl T.max bt_max (pa_cons pe_int (pa_cons (pe_op op_sub (pv 0) pe_int) pa_nil stx_BinOp) stx_Constant)) (pv 1)))) pa_nil stx_ListComp)))
      (pss_cons (ps_set (i := 4) sc__law_least.nd rfl (Or.inl rfl) (pe_callB (call_sumL rfl) rfl T.sum bt_sum (pa_cons (pe_comp rfl (blkOk (sc := defScope s__law_least) (N := ["_law_sizes", "_law_wide", "_law_more", "_law_rows", "_law_free"]) (vs := ["_law_many"]) (fs := ["_law_wide"]) (js := [1]) (by decide +kernel) rfl rfl) (pi_list (pv 0)) (fun _ _ _ _ => pg_name (i := 0) (show (["_law_many", "_law_wide"] : List Str).Nodup by decide +kernel) rfl (Or.inl rfl)) (fun _ _ _ _ => pif0) (fun _ _ _ _ => (pe_op op_add (pe_op op_mod (pe_op op_sub pe_int (pv 0)) (pv 1)) (pe_op op_mul (pv 1) (pe_callTy call_intB rfl T.int bt_int (pa_cons (pe_cmpR op_eq (pv 0) pe_int (nomark _)) pa_nil stx_Compare)))))) pa_nil stx_ListComp)))
      (pss_one (ps_ret (pe_op op_add (pv 3) (pe_op op_fdivB (pe_op op_sub (pe_op op_add (pe_callB (call_maxI rfl) rfl T.max bt_max (pa_cons pe_int (pa_cons (pe_op op_sub (pv 2) (pv 4)) pa_nil stx_BinOp) stx_Constant)) (pv 1)) pe_int) (pv 1))))))), ?_⟩
  rw [st__law_least]
  walk_at "rd"
  refine ⟨a, rfl, ⟨_, SqL.of ha⟩, fun D nD => ?_⟩
  refine comp_list (xs := cs.map V.int) (fun i σ' ys H' => (∃ x, σ' = [x, some (.int w)]) ∧ Same H H' ∧ ys = ((cs.map fun x => max 0 (x - 1) / w).take i).map V.int ∧ H' D = some (.lst ys)) D ⟨⟨_, rfl⟩, same_new nD _, rfl, upd_same⟩ (fun i σ' ys H' _ h => SqL.of (h.2.1 _ _ ha)) ?_ ?_
  · rintro i x σ' ys H1 hx ⟨⟨x1, rfl⟩, s1, rfl, hD⟩
    obtain ⟨z, hz', rfl⟩ := ints_get hx
    have il := (List.getElem?_eq_some_iff.mp hz').1
    walk_at "rd"
    refine ⟨hD, by rw [List.length_map, List.length_take]; exact small1000 (by omega), ⟨_, rfl⟩, fun c o e => ?_, ?_, upd_same⟩
    · rw [upd_ne (ne_of_none e nD)]; exact s1 _ _ e
    · rw [take_get (x := max 0 (z - 1) / w) (by rw [List.getElem?_map, hz']; rfl), List.map_append]; rfl
  · rintro σ' ys H1 ⟨⟨x1, rfl⟩, s1, rfl, hD⟩
    rw [List.length_map, List.take_of_length_le (by rw [List.length_map]; omega)] at hD
    walk_at "rd"
    refine rd_sumL (SqL.of hD) ?_
    rw [sum_more w1 c0]
    have ha1 := s1 _ _ ha
    walk_at "rd"
    refine ⟨a, rfl, ⟨_, SqL.of ha1⟩, fun D2 nD2 => ?_⟩
    refine comp_list (xs := cs.map V.int) (fun i σ' ys H' => (∃ x, σ' = [x, some (.int w)]) ∧ Same H1 H' ∧ ys = ((cs.map fun x => (0 - x) % w + w * (if x = 0 then 1 else 0)).take i).map V.int ∧ H' D2 = some (.lst ys)) D2 ⟨⟨_, rfl⟩, same_new nD2 _, rfl, upd_same⟩ (fun i σ' ys H' _ h => SqL.of (h.2.1 _ _ ha1)) ?_ ?_
    · rintro i x σ' ys H2 hx ⟨⟨x2, rfl⟩, s2, rfl, hD2⟩
      obtain ⟨z, hz', rfl⟩ := ints_get hx
      have il := (List.getElem?_eq_some_iff.mp hz').1
      walk_at "rd"
      refine ⟨hD2, by rw [List.length_map, List.length_take]; exact small1000 (by omega), ⟨_, rfl⟩, fun c o e => ?_, ?_, upd_same⟩
      · rw [upd_ne (ne_of_none e nD2)]; exact s2 _ _ e
      · rw [take_get (x := (0 - z) % w + w * (if z = 0 then 1 else 0)) (by rw [List.getElem?_map, hz']; rfl), List.map_append]
        simp only [decide_eq_true_eq]
        rfl
    · rintro σ' ys H2 ⟨⟨x2, rfl⟩, s2, rfl, hD2⟩
      rw [List.length_map, List.take_of_length_le (by rw [List.length_map]; omega)] at hD2
      walk_at "rd"
      refine rd_sumL (SqL.of hD2) ?_
      rw [sum_free w1 c0]
      walk_at "rd"
      have := q H2 (s1.trans s2)
      rw [least_val w1 c0 hne m0] at this
      have e : rows0 w cs - cs.length + (max 0 (more - (rows0 w cs * w - cs.sum)) + w - 1) / w = rows0 w cs + (max 0 (more - (rows0 w cs * w - cs.sum)) + w - 1) / w - cs.length := by omega
      show Q (V.int _) H2
      rw [e]
      exact this

theorem ok__law_step {f : Addr} {fd : FuncData} (F : Fun K "_law_step" "_law_step" s__law_step f fd) (mF : mg "_law_step" = some (.ref f)) (bF : Binds K fd ["_law_hand", "_law_put"] []) (T : Bl mg) (C__law_draw : Cal P w K mg base "_law_draw" ["_law_hand", "_law_many"] 1 (sp__law_draw K)) (C__law_far : Cal P w K mg base "_law_far" ["_law_hand", "_law_many"] 2 (sp__law_far K)) : Cal P w K mg base "_law_step" ["_law_hand", "_law_put"] 3 (sp__law_step K) := by
  refine Cal.of F mF bF sc__law_step (fun vs H Q E h => ?_) (fun cdv A outer s H vs Q E hr h => ?_)
  · obtain ⟨p, l, N, xs, rfl, _⟩ := h; rfl
  obtain ⟨p, l, N, xs, rfl, hh, hN, hl, hE, hz, q⟩ := h
  have hu := hr.units
  refine ⟨_, (pss_cons (ps_set (i := 1) sc__law_step.nd rfl (Or.inl rfl) (pe_callTy call_list_of rfl T.list bt_list (pa_cons (pv 1) pa_nil stx_Name)))
      (pss_cons (ps_set (i := 2) sc__law_step.nd rfl (Or.inl rfl) (pcl C__law_draw (hr.mono (by decide)) (pa_cons (pv 0) (pa_cons pe_int pa_nil stx_Constant) stx_Name)))
      (pss_cons (ps_set (i := 3) sc__law_step.nd rfl (Or.inl rfl) (pcl C__law_draw (hr.mono (by decide)) (pa_cons (pv 0) (pa_cons pe_int pa_nil stx_Constant) stx_Name)))
      (pss_cons (ps_set (i := 4) sc__law_step.nd rfl (Or.inl rfl) (pcl C__law_draw (hr.mono (by decide)) (pa_cons (pv 0) (pa_cons pe_int pa_nil stx_Constant) stx_Name)))
      (pss_cons (ps_set (i := 5) sc__law_step.nd rfl (Or.inl rfl) (pe_op op_addN pe_int (pcl C__law_far (hr.mono (by decide)) (pa_cons (pv 0) (pa_cons (pe_ix ix_list (pe_lst (pa_cons pe_int (pa_cons pe_int (pa_cons (pe_powC (c := 1000000000) (by decide +kernel) ⟨by decide, by decide, by decide⟩) pa_nil stx_BinOp) stx_Constant) stx_Constant)) (pcl C__law_draw (hr.mono (by decide)) (pa_cons (pv 0) (pa_cons pe_int pa_nil stx_Constant) stx_Name)) (fun _ _ => rfl)) pa_nil stx_Subscript) stx_Name))))
      (pss_cons (ps_if (pt_cmpR (op_eqE hu) (pv 1) (pe_lst pa_nil) (nomark _)) (pss_one (ps_ret (pe_op op_cat (pv 1) (pe_lst (pa_cons (pv 5) pa_nil stx_Name))))) pss_nil)
      (pss_cons (ps_set (i := 3) sc__law_step.nd rfl (Or.inl rfl) (pe_op op_mod (pv 3) (pe_callB call_lenL rfl T.len bt_len (pa_cons (pv 1) pa_nil stx_Name))))
      (pss_cons (ps_set (i := 4) sc__law_step.nd rfl (Or.inl rfl) (pe_op op_mod (pv 4) (pe_callB call_lenL rfl T.len bt_len (pa_cons (pv 1) pa_nil stx_Name))))
      (pss_cons (ps_cut (ps_if (PW.pt (pw_and (pt_cmpR op_lt (pv 2) pe_int (nomark _)) (pw_and (pt_val (pe_callB call_isinst rfl T.isinstance bt_isinstance (pa_cons (pe_ix ix_list (pv 1) (pv 3) (fun _ _ => rfl)) (pa_cons (pe_bltn (v := .ty "int") rfl T.int bt_int rfl) pa_nil stx_Name) stx_Subscript))) (pw_and1 (pt_val (pe_callB call_isinst rfl T.isinstance bt_isinstance (pa_cons (pe_ix ix_list (pv 1) (pv 4) (fun _ _ => rfl)) (pa_cons (pe_bltn (v := .ty "int") rfl T.int bt_int rfl) pa_nil stx_Name) stx_Subscript))))))) (pss_cons (ps_set (i := 5) sc__law_step.nd rfl (Or.inl rfl) (pe_callB (call_minN rfl) rfl T.min bt_min (pa_cons (pv 5) (pa_cons (pe_callB (call_maxN rfl) rfl T.max bt_max (pa_cons pe_int (pa_cons (pe_ix ix_list (pv 1) (pv 3) (fun _ _ => rfl)) pa_nil stx_Subscript) stx_Constant)) pa_nil stx_Call) stx_Name)))
      (pss_cons (ps_asg (pe_op op_subN (pe_ix ix_list (pv 1) (pv 3) (fun _ _ => rfl)) (pv 5)) (pg_sub (pv 1) (pv 3) set_list))
      (pss_one (ps_asg (pe_op op_addN (pe_ix ix_list (pv 1) (pv 4) (fun _ _ => rfl)) (pv 5)) (pg_sub (pv 1) (pv 4) set_list))))) (pss_one (ps_if (PW.pt (pw_and (pt_cmpR op_eq (pv 2) pe_int (nomark _)) (pw_and1 (pt_val (pe_callB call_isinst rfl T.isinstance bt_isinstance (pa_cons (pe_ix ix_list (pv 1) (pv 3) (fun _ _ => rfl)) (pa_cons (pe_bltn (v := .ty "int") rfl T.int bt_int rfl) pa_nil stx_Name) stx_Subscript)))))) (pss_one (ps_asg (pe_op op_addN (pe_ix ix_list (pv 1) (pv 3) (fun _ _ => rfl)) (pe_ix ix_list (pe_lst (pa_cons pe_int (pa_cons (pe_un un_neg pe_int) pa_nil stx_UnaryOp) stx_Constant)) (pe_op op_mod (pv 5) pe_int) (fun _ _ => rfl))) (pg_sub (pv 1) (pv 3) set_list))) (pss_one (ps_if (pt_cmpR op_eq (pv 2) pe_int (nomark _)) (pss_one (ps_expr (pe_bm PySem.F.plainAttrs_list PySem.F.slot_list_insert PySem.F.type_list_insert mt_insert (pv 1) (pa_cons (pv 3) (pa_cons pe_int pa_nil stx_Constant) stx_Name)))) (pss_one (ps_if (pt_cmpR op_eq (pv 2) pe_int (nomark _)) (pss_one (ps_expr (pe_bm PySem.F.plainAttrs_list PySem.F.slot_list_pop PySem.F.type_list_pop mt_popAt (pv 1) (pa_cons (pv 3) pa_nil stx_Name)))) (pss_one (ps_if (pt_cmpR op_eq (pv 2) pe_int (nomark _)) (pss_one (ps_asg (pe_ix ix_list (pe_lst (pa_cons pe_non (pa_cons pe_str (pa_cons (pe_lst (pa_cons pe_int pa_nil stx_Constant)) (pa_cons (pe_tup (pa_cons pe_int pa_nil stx_Constant)) (pa_cons pe_dnewK pa_nil stx_Dict) stx_Tuple) stx_List) stx_Constant) stx_Constant)) (pe_op op_mod (pv 5) pe_int) (fun _ _ => rfl)) (pg_sub (pv 1) (pv 3) set_list))) (pss_one (ps_if (pt_cmpR op_eq (pv 2) pe_int (nomark _)) (pss_one (ps_asg (pe_ix ix_list (pe_lst (pa_cons pe_bl (pa_cons pe_bl pa_nil stx_Constant) stx_Constant)) (pe_op op_mod (pv 5) pe_int) (fun _ _ => rfl)) (pg_sub (pv 1) (pv 3) set_list))) (pss_one (ps_if (PW.pt (pw_and (pt_val (pe_callB call_isinst rfl T.isinstance bt_isinstance (pa_cons (pe_ix ix_list (pv 1) (pv 3) (fun _ _ => rfl)) (pa_cons (pe_bltn (v := .ty "int") rfl T.int bt_int rfl) pa_nil stx_Name) stx_Subscript))) (pw_and (pt_val (pe_callB call_isinst rfl T.isinstance bt_isinstance (pa_cons (pe_ix ix_list (pv 1) (pv 4) (fun _ _ => rfl)) (pa_cons (pe_bltn (v := .ty "int") rfl T.int bt_int rfl) pa_nil stx_Name) stx_Subscript))) (pw_and1 (pt_cmpR op_ne (pv 3) (pv 4) (nomark _)))))) (pss_cons (ps_asg (pe_op op_addN (pe_op op_addN (pe_ix ix_list (pv 1) (pv 4) (fun _ _ => rfl)) (pe_ix ix_list (pv 1) (pv 3) (fun _ _ => rfl))) (pv 5)) (pg_sub (pv 1) (pv 4) set_list))
      (pss_one (ps_asg (pe_op op_subN pe_int (pv 5)) (pg_sub (pv 1) (pv 3) set_list)))) pss_nil))))))))))))))
      (pss_one (ps_ret (pv 1)))))))))))), ?_⟩
  rw [st__law_step]
  walk_at "rd"
  refine ⟨l, _, rfl, .inl (SqL.of hl), fun D nD => ?_⟩
  have st : St63 H p D N xs (upd H D (.lst xs)) := ⟨CK.start hh nD, fun y hy => ⟨(hE y hy).same (same_new nD _), (hE y hy).fresh nD⟩⟩
  generalize upd H D _ = H1 at st ⊢
  walk_at "rd"
  refine ⟨p, _, 12, rfl, st.ck.hh, by omega, by decide, by decide, fun way H2 y0 y1 hh2 k2 => ?_⟩
  have st := st.draw k2 hh2
  walk_at "rd"
  refine ⟨p, _, 120, rfl, st.ck.hh, by omega, by decide, by decide, fun at0 H3 a0 a1 hh3 k3 => ?_⟩
  have st := st.draw k3 hh3
  walk_at "rd"
  refine ⟨p, _, 120, rfl, st.ck.hh, by omega, by decide, by decide, fun ot0 H4 o0 o1 hh4 k4 => ?_⟩
  have st := st.draw k4 hh4
  walk_at "rd"
  refine ⟨(by show 3 ≤ sizeLine; decide), fun l1 nl1 => ?_⟩
  generalize hE' : upd H4 l1 _ = H5
  obtain ⟨st, hl1, l1p, l1D, s5⟩ := st.new nl1 hE'
  clear hE'
  walk_at "rd"
  refine ⟨p, _, 3, rfl, st.ck.hh, by omega, by decide, by decide, fun z H6 z0 z1 hh6 k6 => ?_⟩
  have st := st.draw k6 hh6
  have hl1 := k6.1 _ _ hl1 l1p
  obtain ⟨b, hb, b0, b1⟩ : ∃ b : Int, atI [V.int 3, V.int 10, V.int 1000000000] z = some (.int b) ∧ 0 < b ∧ b ≤ 10000000001 := by
    rcases (by omega : z = 0 ∨ z = 1 ∨ z = 2) with c | c | c <;> rw [c] <;> exact ⟨_, rfl, by decide, by decide⟩
  refine rd_ixL (SqL.of hl1) hb ?_
  walk_at "rd"
  refine ⟨p, _, b, rfl, st.ck.hh, by omega, b0, by omega, fun far H7 f0 f1 hh7 k7 => ?_⟩
  have st := st.draw k7 hh7
  walk_at "rd"
  refine ⟨_, _, .int _, .int _, ?_⟩
  have many1 : 1 ≤ 1 + far := by omega
  generalize 1 + far = many at many1 ⊢
  walk_at "rd"
  refine ⟨by decide, fun e0 ne0 => ?_⟩
  generalize hE' : upd H7 e0 _ = H8
  obtain ⟨st, he0, e0p, e0D, s8⟩ := st.new ne0 hE'
  clear hE'
  have hD := st.ck.lat
  refine ⟨D, e0, xs, rfl, rfl, SqL.of hD, SqL.of he0, ?_⟩
  walk_at "rd"
  refine rd_if (fun c => ?_) (fun c => ?_)
  · subst c
    walk_at "rd"
    refine ⟨(by show 1 ≤ sizeLine; decide), fun c1 nc1 => ?_⟩
    generalize hE' : upd H8 c1 _ = H9
    obtain ⟨st, hc1, c1p, c1D, s9⟩ := st.new nc1 hE'
    clear hE'
    refine ⟨D, c1, _, _, rfl, rfl, st.ck.lat, hc1, (by show 1 ≤ sizeLine; decide), fun g ng => ?_⟩
    generalize hE' : upd H9 g _ = HA
    obtain ⟨st2, hg, gp, gD, sA⟩ := st.new ng hE'
    clear hE'
    refine q g _ HA hg (st.ck.kp.free ng gp) (fun y hy => ?_) (by simp) (st2.ck.hh.mono (by omega)) st2.ck.kp
    have : y = .int many := by simpa using hy
    rw [this]; trivial
  · have hpos : 0 < xs.length := List.length_pos_iff.mpr c
    walk_at "rd"
    obtain ⟨i, hi, ei⟩ : ∃ i : Nat, i < xs.length ∧ at0 % (xs.length : Int) = (i : Int) := ⟨(at0 % (xs.length : Int)).toNat, by have h1 := Int.emod_nonneg at0 (show (xs.length : Int) ≠ 0 by omega); have h2 := Int.emod_lt_of_pos at0 (show (0 : Int) < xs.length by omega); omega, by have h1 := Int.emod_nonneg at0 (show (xs.length : Int) ≠ 0 by omega); omega⟩
    obtain ⟨j, hj, ej⟩ : ∃ j : Nat, j < xs.length ∧ ot0 % (xs.length : Int) = (j : Int) := ⟨(ot0 % (xs.length : Int)).toNat, by have h1 := Int.emod_nonneg ot0 (show (xs.length : Int) ≠ 0 by omega); have h2 := Int.emod_lt_of_pos ot0 (show (0 : Int) < xs.length by omega); omega, by have h1 := Int.emod_nonneg ot0 (show (xs.length : Int) ≠ 0 by omega); omega⟩
    rw [ei, ej]
    refine ⟨fun σ H' => ∃ x5 ys, σ = [some (.ref p), some (.ref D), some (.int way), some (.int i), some (.int j), x5] ∧ St63 H p D (N + 11) ys H' ∧ ys.length ≤ xs.length + 1, ?_, ?_⟩
    · obtain ⟨x, hx⟩ : ∃ x, xs[i]? = some x := ⟨_, List.getElem?_eq_getElem hi⟩
      obtain ⟨y, hy⟩ : ∃ y, xs[j]? = some y := ⟨_, List.getElem?_eq_getElem hj⟩
      have ax := atI_nat hx
      have ay := atI_nat hy
      obtain ⟨tx, tyx, kx1, kx2⟩ := (st.el x (List.mem_of_getElem? hx)).1.isi (K := K)
      obtain ⟨ty, tyy, ky1, ky2⟩ := (st.el y (List.mem_of_getElem? hy)).1.isi (K := K)
      have same : ∃ x5 ys, [some (V.ref p), some (V.ref D), some (V.int way), some (V.int (i : Int)), some (V.int (j : Int)), some (V.int many)] = [some (V.ref p), some (V.ref D), some (V.int way), some (V.int (i : Int)), some (V.int (j : Int)), x5] ∧ St63 H p D (N + 11) ys H8 ∧ ys.length ≤ xs.length + 1 := ⟨_, xs, rfl, ⟨⟨st.ck.hh.mono (by omega), st.ck.lat, st.ck.kp, st.ck.n0, st.ck.np, st.ck.nc⟩, st.el⟩, by omega⟩
      have st : St63 H p D (N + 11) xs H8 := ⟨⟨st.ck.hh.mono (by omega), st.ck.lat, st.ck.kp, st.ck.n0, st.ck.np, st.ck.nc⟩, st.el⟩
      -- the last way's test where one of the two is no number
      by_cases cA : way < 6
      · walk_at "rd"
        refine rd_if (fun _ => ?_) (fun c => absurd cA c)
        walk_at "rd"
        refine rd_ixL (SqL.of hD) ax ?_
        walk_at "rd"
        refine rd_isi tyx kx1 ?_
        cases ex : numB x with
        | false =>
          walk_at "rd"
          refine rd_if (fun c => absurd c (by omega)) (fun _ => ?_)
          walk_at "rd"
          refine rd_if (fun c => absurd c (by omega)) (fun _ => ?_)
          walk_at "rd"
          refine rd_if (fun c => absurd c (by omega)) (fun _ => ?_)
          walk_at "rd"
          refine rd_if (fun c => absurd c (by omega)) (fun _ => ?_)
          walk_at "rd"
          refine rd_if (fun c => absurd c (by omega)) (fun _ => ?_)
          walk_at "rd"
          refine rd_ixL (SqL.of hD) ax ?_
          walk_at "rd"
          refine rd_isi tyx kx1 ?_
          rw [ex]
          walk_at "rd"
          exact same
        | true =>
          walk_at "rd"
          refine rd_ixL (SqL.of hD) ay ?_
          walk_at "rd"
          refine rd_isi tyy ky1 ?_
          cases ey : numB y with
          | false =>
            walk_at "rd"
            refine rd_if (fun c => absurd c (by omega)) (fun _ => ?_)
            walk_at "rd"
            refine rd_if (fun c => absurd c (by omega)) (fun _ => ?_)
            walk_at "rd"
            refine rd_if (fun c => absurd c (by omega)) (fun _ => ?_)
            walk_at "rd"
            refine rd_if (fun c => absurd c (by omega)) (fun _ => ?_)
            walk_at "rd"
            refine rd_if (fun c => absurd c (by omega)) (fun _ => ?_)
            walk_at "rd"
            refine rd_ixL (SqL.of hD) ax ?_
            walk_at "rd"
            refine rd_isi tyx kx1 ?_
            rw [ex]
            walk_at "rd"
            refine rd_ixL (SqL.of hD) ay ?_
            walk_at "rd"
            refine rd_isi tyy ky1 ?_
            rw [ey]
            walk_at "rd"
            exact same
          | true =>
            obtain ⟨xi, nx⟩ := num_of ex
            obtain ⟨yi, ny⟩ := num_of ey
            walk_at "rd"
            refine rd_ixL (SqL.of hD) ax ?_
            walk_at "rd"
            refine ⟨_, _, _, _, rfl, .int 0, nx, ?_⟩
            obtain ⟨mx, nmx⟩ : ∃ mx, Num (if xi > 0 then x else V.int 0) mx := by
              split
              · exact ⟨_, nx⟩
              · exact ⟨_, .int 0⟩
            generalize (if xi > 0 then x else V.int 0) = mxv at nmx ⊢
            walk_at "rd"
            refine ⟨_, _, _, _, rfl, .int many, nmx, ?_⟩
            obtain ⟨mv, nmv⟩ : ∃ mv, Num (if mx < many then mxv else V.int many) mv := by
              split
              · exact ⟨_, nmx⟩
              · exact ⟨_, .int many⟩
            generalize (if mx < many then mxv else V.int many) = mvv at nmv ⊢
            walk_at "rd"
            refine rd_ixL (SqL.of hD) ax ?_
            walk_at "rd"
            refine ⟨_, _, nx, nmv, ?_⟩
            generalize xi - mv = v1
            walk_at "rd"
            refine rd_setL hD (ixN_in63 hi) ?_
            generalize hE' : upd H8 D _ = H9
            have st := st.put hE' (st.el.set (j := i) (v := .int v1) trivial int_ne63)
            clear hE'
            have hD := st.ck.lat
            obtain ⟨y', y2, hy', ny'⟩ : ∃ y' y2, (xs.set i (V.int v1))[j]? = some y' ∧ Num y' y2 := by
              by_cases e : i = j
              · subst e; exact ⟨_, _, by rw [List.getElem?_set_self hi], .int v1⟩
              · exact ⟨_, _, by rw [List.getElem?_set_ne e, hy], ny⟩
            walk_at "rd"
            refine rd_ixL (SqL.of hD) (atI_nat hy') ?_
            walk_at "rd"
            refine ⟨_, _, ny', nmv, ?_⟩
            generalize y2 + mv = v2
            walk_at "rd"
            refine rd_setL hD (ixN_in63 (by rw [List.length_set]; exact hj)) ?_
            generalize hE' : upd H9 D _ = HA
            have st := st.put hE' (st.el.set (j := j) (v := .int v2) trivial int_ne63)
            exact ⟨_, _, rfl, st, by rw [List.length_set, List.length_set]; omega⟩
      · walk_at "rd"
        refine rd_if (fun c => absurd c cA) (fun _ => ?_)
        walk_at "rd"
        by_cases cB : way = 6
        · refine rd_if (fun _ => ?_) (fun c => absurd cB c)
          walk_at "rd"
          refine rd_ixL (SqL.of hD) ax ?_
          walk_at "rd"
          refine rd_isi tyx kx1 ?_
          cases ex : numB x with
          | false =>
            walk_at "rd"
            refine rd_if (fun c => absurd c (by omega)) (fun _ => ?_)
            walk_at "rd"
            refine rd_if (fun c => absurd c (by omega)) (fun _ => ?_)
            walk_at "rd"
            refine rd_if (fun c => absurd c (by omega)) (fun _ => ?_)
            walk_at "rd"
            refine rd_if (fun c => absurd c (by omega)) (fun _ => ?_)
            walk_at "rd"
            refine rd_ixL (SqL.of hD) ax ?_
            walk_at "rd"
            refine rd_isi tyx kx1 ?_
            rw [ex]
            walk_at "rd"
            exact same
          | true =>
            obtain ⟨xi, nx⟩ := num_of ex
            walk_at "rd"
            refine rd_ixL (SqL.of hD) ax ?_
            walk_at "rd"
            refine ⟨(by show 2 ≤ sizeLine; decide), fun l2 nl2 => ?_⟩
            generalize hE' : upd H8 l2 _ = H9
            obtain ⟨st, hl2, l2p, l2D, s9⟩ := st.new nl2 hE'
            clear hE'
            have hD := st.ck.lat
            walk_at "rd"
            obtain ⟨v, hv⟩ : ∃ v : Int, atI [V.int 1, V.int (-1)] (many % 2) = some (.int v) := by
              rcases (by omega : many % 2 = 0 ∨ many % 2 = 1) with c | c <;> rw [c] <;> exact ⟨_, rfl⟩
            refine rd_ixL (SqL.of hl2) hv ?_
            walk_at "rd"
            refine ⟨_, _, nx, .int _, ?_⟩
            generalize xi + v = v1
            walk_at "rd"
            refine rd_setL hD (ixN_in63 hi) ?_
            generalize hE' : upd H9 D _ = HA
            have st := st.put hE' (st.el.set (j := i) (v := .int v1) trivial int_ne63)
            exact ⟨_, _, rfl, st, by rw [List.length_set]; omega⟩
        refine rd_if (fun c => absurd c cB) (fun _ => ?_)
        walk_at "rd"
        by_cases cC : way = 7
        · refine rd_if (fun _ => ?_) (fun c => absurd cC c)
          walk_at "rd"
          refine ⟨.inl ⟨rfl, _, SqL.of hD⟩, ?_⟩
          walk_at "rd"
          refine ⟨D, xs, i, _, rfl, rfl, hD, by omega, by omega, by omega, ?_⟩
          generalize hE' : upd H8 D _ = H9
          have st := st.put hE' (st.el.ins (j := (i : Int).toNat) (v := .int 0) trivial int_ne63)
          walk_at "rd"
          refine ⟨_, _, rfl, st, ?_⟩
          simp only [List.length_append, List.length_cons, List.length_take, List.length_drop]
          omega
        refine rd_if (fun c => absurd c cC) (fun _ => ?_)
        walk_at "rd"
        by_cases cD : way = 8
        · refine rd_if (fun _ => ?_) (fun c => absurd cD c)
          walk_at "rd"
          refine ⟨.inl ⟨rfl, _, SqL.of hD⟩, ?_⟩
          walk_at "rd"
          refine ⟨D, xs, i, i, x, rfl, rfl, hD, by omega, by omega, (ixN_seq (ixN_in63 hi)).1, hx, ?_⟩
          generalize hE' : upd H8 D _ = H9
          have st := st.put hE' (st.el.erase (j := i))
          walk_at "rd"
          refine ⟨_, _, rfl, st, ?_⟩
          have := List.length_eraseIdx_le xs i
          omega
        refine rd_if (fun c => absurd c cD) (fun _ => ?_)
        walk_at "rd"
        by_cases cE : way = 9
        · refine rd_if (fun _ => ?_) (fun c => absurd cE c)
          walk_at "rd"
          refine ⟨(by show 1 ≤ sizeLine; decide), fun r1 nr1 => ?_⟩
          generalize hE' : upd H8 r1 _ = H9
          obtain ⟨st, hr1, r1p, r1D, s9⟩ := st.new nr1 hE'
          clear hE'
          walk_at "rd"
          refine ⟨(by show 1 ≤ sizeLine; decide), fun r2 nr2 => ?_⟩
          generalize hE' : upd H9 r2 _ = HA
          obtain ⟨st, hr2, r2p, r2D, sA⟩ := st.new nr2 hE'
          clear hE'
          walk_at "rd"
          intro r3 nr3
          generalize hE' : upd HA r3 _ = HB
          obtain ⟨st, hr3, r3p, r3D, sB⟩ := st.new nr3 hE'
          clear hE'
          walk_at "rd"
          refine ⟨(by show 5 ≤ sizeLine; decide), fun r4 nr4 => ?_⟩
          generalize hE' : upd HB r4 _ = HC
          obtain ⟨st, hr4, r4p, r4D, sC⟩ := st.new nr4 hE'
          clear hE'
          have hD := st.ck.lat
          walk_at "rd"
          obtain ⟨v, hv, hv1, hv2⟩ : ∃ v : V, atI [V.non, V.str "1", V.ref r1, V.ref r2, V.ref r3] (many % 5) = some v ∧ El HC v ∧ v ≠ .ref D := by
            rcases (by omega : many % 5 = 0 ∨ many % 5 = 1 ∨ many % 5 = 2 ∨ many % 5 = 3 ∨ many % 5 = 4) with c | c | c | c | c <;> rw [c]
            · exact ⟨_, rfl, trivial, nofun⟩
            · exact ⟨_, rfl, trivial, nofun⟩
            · exact ⟨_, rfl, .inl (sC _ _ (sB _ _ (sA _ _ hr1))), fun z => r1D (V.ref.inj z)⟩
            · exact ⟨_, rfl, .inr (.inl (sC _ _ (sB _ _ hr2))), fun z => r2D (V.ref.inj z)⟩
            · exact ⟨_, rfl, .inr (.inr (sC _ _ hr3)), fun z => r3D (V.ref.inj z)⟩
          refine rd_ixL (SqL.of hr4) hv ?_
          walk_at "rd"
          refine rd_setL hD (ixN_in63 hi) ?_
          generalize hE' : upd HC D _ = HD
          have st := st.put hE' (st.el.set (j := i) (v := v) hv1 hv2)
          exact ⟨_, _, rfl, st, by rw [List.length_set]; omega⟩
        refine rd_if (fun c => absurd c cE) (fun _ => ?_)
        walk_at "rd"
        by_cases cF : way = 10
        · refine rd_if (fun _ => ?_) (fun c => absurd cF c)
          walk_at "rd"
          refine ⟨(by show 2 ≤ sizeLine; decide), fun r1 nr1 => ?_⟩
          generalize hE' : upd H8 r1 _ = H9
          obtain ⟨st, hr1, r1p, r1D, s9⟩ := st.new nr1 hE'
          clear hE'
          have hD := st.ck.lat
          walk_at "rd"
          obtain ⟨v, hv⟩ : ∃ v : Bool, atI [V.bl true, V.bl false] (many % 2) = some (.bl v) := by
            rcases (by omega : many % 2 = 0 ∨ many % 2 = 1) with c | c <;> rw [c] <;> exact ⟨_, rfl⟩
          refine rd_ixL (SqL.of hr1) hv ?_
          walk_at "rd"
          refine rd_setL hD (ixN_in63 hi) ?_
          generalize hE' : upd H9 D _ = HA
          have st := st.put hE' (st.el.set (j := i) (v := .bl v) trivial nofun)
          exact ⟨_, _, rfl, st, by rw [List.length_set]; omega⟩
        refine rd_if (fun c => absurd c cF) (fun _ => ?_)
        walk_at "rd"
        refine rd_ixL (SqL.of hD) ax ?_
        walk_at "rd"
        refine rd_isi tyx kx1 ?_
        cases ex : numB x with
        | false =>
          walk_at "rd"
          exact same
        | true =>
          walk_at "rd"
          refine rd_ixL (SqL.of hD) ay ?_
          walk_at "rd"
          refine rd_isi tyy ky1 ?_
          cases ey : numB y with
          | false =>
            walk_at "rd"
            exact same
          | true =>
            obtain ⟨xi, nx⟩ := num_of ex
            obtain ⟨yi, ny⟩ := num_of ey
            walk_at "rd"
            refine rd_ifn (fun c => ?_) (fun c => ?_)
            · walk_at "rd"
              refine rd_ixL (SqL.of hD) ay ?_
              walk_at "rd"
              refine rd_ixL (SqL.of hD) ax ?_
              walk_at "rd"
              refine ⟨_, _, ny, nx, ?_⟩
              walk_at "rd"
              refine ⟨_, _, .int _, .int many, ?_⟩
              generalize yi + xi + many = v1
              walk_at "rd"
              refine rd_setL hD (ixN_in63 hj) ?_
              generalize hE' : upd H8 D _ = H9
              have st := st.put hE' (st.el.set (j := j) (v := .int v1) trivial int_ne63)
              clear hE'
              have hD := st.ck.lat
              walk_at "rd"
              refine ⟨_, _, .int 0, .int many, ?_⟩
              walk_at "rd"
              refine rd_setL hD (ixN_in63 (by rw [List.length_set]; exact hi)) ?_
              generalize hE' : upd H9 D _ = HA
              have st := st.put hE' (st.el.set (j := i) (v := .int (0 - many)) trivial int_ne63)
              exact ⟨_, _, rfl, st, by rw [List.length_set, List.length_set]; omega⟩
            · walk_at "rd"
              exact same
    · rintro σ H9 ⟨x5, ys, rfl, st, yl⟩
      walk_at "rd"
      exact q D ys H9 st.ck.lat st.ck.n0 (fun y hy => (st.el y hy).1) yl (st.ck.hh.mono (by omega)) st.ck.kp
theorem ok__law_is_put {f : Addr} {fd : FuncData} (F : Fun K "_law_is_put" "_law_is_put" s__law_is_put f fd) (mF : mg "_law_is_put" = some (.ref f)) (bF : Binds K fd ["_law_sizes", "_law_more", "_law_thing"] []) (T : Bl mg)  : Cal P w K mg base "_law_is_put" ["_law_sizes", "_law_more", "_law_thing"] 1 (sp__law_is_put K) := by
  refine Cal.of F mF bF sc__law_is_put (fun vs H Q E h => ?_) (fun cdv A outer s H vs Q E hr h => ?_)
  · obtain ⟨a, cs, more, x, o, rfl, _⟩ := h; rfl
  obtain ⟨a, cs, more, x, o, rfl, ha, hx, q⟩ := h
  refine ⟨_, (pss_cons (ps_if (PW.pt (pw_or (pt_not (pt_val (pe_callB call_isinst rfl T.isinstance bt_isinstance (pa_cons (pv 2) (pa_cons (pe_bltn (v := .ty "list") rfl T.list bt_list rfl) pa_nil stx_Name) stx_Name)))) (pw_or1 (pt_cmpR op_ne (pe_callB call_lenL rfl T.len bt_len (pa_cons (pv 2) pa_nil stx_Name)) (pe_callB call_lenL rfl T.len bt_len (pa_cons (pv 0) pa_nil stx_Name)) (nomark _))))) (pss_one (ps_ret pe_bl)) pss_nil)
      (pss_cons (ps_for PassesOwn.never rfl (pi_list (pv 2)) (pg_name (i := 3) sc__law_is_put.nd rfl (Or.inl rfl)) (pss_one (ps_if (PW.pt (pw_or (pt_not (pt_val (pe_callB call_isinst rfl T.isinstance bt_isinstance (pa_cons (pv 3) (pa_cons (pe_bltn (v := .ty "int") rfl T.int bt_int rfl) pa_nil stx_Name) stx_Name)))) (pw_or (pt_val (pe_callB call_isinst rfl T.isinstance bt_isinstance (pa_cons (pv 3) (pa_cons (pe_bltn (v := .ty "bool") rfl T.bool bt_bool rfl) pa_nil stx_Name) stx_Name))) (pw_or1 (pt_cmpR op_lt (pv 3) pe_int (nomark _)))))) (pss_one (ps_ret pe_bl)) pss_nil)))
      (pss_one (ps_ret (pe_cmpR op_eq (pe_callB (call_sumL rfl) rfl T.sum bt_sum (pa_cons (pv 2) pa_nil stx_Name)) (pv 1) (nomark _)))))), ?_⟩
  rw [st__law_is_put]
  walk_at "rd"
  cases o with
  | none =>
    obtain ⟨t, ty, k⟩ := hx.isi (K := K)
    refine rd_isi ty k ?_
    walk_at "rd"
    exact q
  | some xs =>
    obtain ⟨l, rfl, hl, hE, hz⟩ := hx
    refine rd_isi (.lst hl) (b := true) rfl ?_
    walk_at "rd"
    rw [List.length_map]
    refine rd_ifn (fun c => ?_) (fun c => ?_)
    · walk_at "rd"
      rw [isPut_some, decide_eq_false (show ¬ xs.length = cs.length by omega)] at q
      exact q
    · have cl : xs.length = cs.length := by omega
      rw [isPut_some, decide_eq_true cl, Bool.true_and] at q
      walk_at "rd"
      refine ⟨l, rfl, ⟨_, SqL.of hl⟩, ?_⟩
      refine for_list (xs := xs) (fun j σ H' => (∃ y, σ = [some (.ref a), some (.int more), some (.ref l), y]) ∧ H' = H ∧ (xs.take j).all okV = true) ⟨⟨_, rfl⟩, rfl, rfl⟩ (fun _ _ _ _ h => by rw [h.2.1]; exact SqL.of hl) ?_ ?_
      · rintro j x σ H' hx ⟨⟨y, rfl⟩, rfl, hj⟩
        have il := (List.getElem?_eq_some_iff.mp hx).1
        have mx := List.mem_of_getElem? hx
        obtain ⟨t, ty, k1, k2⟩ := (hE x mx).isi (K := K)
        have bad : okV x = false → xs.all okV = false := fun h => by
          cases e : xs.all okV with
          | false => rfl
          | true => rw [List.all_eq_true.mp e x mx] at h; cases h
        walk_at "rd"
        refine rd_isi ty k1 ?_
        cases e1 : numB x with
        | false =>
          rw [bad (not_whole (by rw [e1]; rfl))] at q
          walk_at "rd"
          exact q
        | true =>
          walk_at "rd"
          refine rd_isi ty k2 ?_
          cases e2 : blB x with
          | true =>
            rw [bad (not_whole (by rw [e1, e2]; rfl))] at q
            walk_at "rd"
            exact q
          | false =>
            obtain ⟨z, rfl⟩ := whole_int (x := x) (by rw [e1, e2]; rfl)
            walk_at "rd"
            refine rd_if (fun c => ?_) (fun c => ?_)
            · rw [bad (decide_eq_false (by omega))] at q
              walk_at "rd"
              exact q
            · walk_at "rd"
              refine ⟨⟨_, rfl⟩, rfl, ?_⟩
              rw [List.take_add_one, hx, List.all_append, hj]
              simp [okV]; omega
      · rintro σ H' ⟨⟨y, rfl⟩, rfl, hj⟩
        rw [List.take_length] at hj
        rw [hj] at q
        rw [(ok_ints hj).1] at hl
        walk_at "rd"
        refine rd_sumL (SqL.of hl) ?_
        walk_at "rd"
        exact q
theorem ok__law_right {f : Addr} {fd : FuncData} (F : Fun K "_law_right" "_law_right" s__law_right f fd) (mF : mg "_law_right" = some (.ref f)) (bF : Binds K fd ["_law_sizes", "_law_wide", "_law_more", "_law_thing"] []) (T : Bl mg) (C__law_is_put : Cal P w K mg base "_law_is_put" ["_law_sizes", "_law_more", "_law_thing"] 1 (sp__law_is_put K)) (C__law_spill : Cal P w K mg base "_law_spill" ["_law_sizes", "_law_wide", "_law_put"] 1 (sp__law_spill K)) (C_is_greatest : Cal P w K mg base "is_greatest" ["counts", "wide", "more", "thing"] 8 (sp_is_greatest K)) (C_is_least : Cal P w K mg base "is_least" ["counts", "wide", "more", "thing"] 5 (sp_is_least K)) (C__law_greatest : Cal P w K mg base "_law_greatest" ["_law_sizes", "_law_wide", "_law_more"] 2 (sp__law_greatest K)) (C__law_least : Cal P w K mg base "_law_least" ["_law_sizes", "_law_wide", "_law_more"] 1 (sp__law_least K)) : Cal P w K mg base "_law_right" ["_law_sizes", "_law_wide", "_law_more", "_law_thing"] 9 (sp__law_right K) := by
  refine Cal.of F mF bF sc__law_right (fun vs H Q E h => ?_) (fun cdv A outer s H vs Q E hr h => ?_)
  · obtain ⟨a, w, more, cs, x, o, rfl, _⟩ := h; rfl
  obtain ⟨a, w, more, cs, x, o, rfl, ha, hne, hz, c0, w1, w2, m0, hx, tb, q⟩ := h
  have hu := hr.units
  refine ⟨_, (pss_cons (ps_set (i := 4) sc__law_right.nd rfl (Or.inl rfl) (pe_lst (pa_cons pe_bl (pa_cons pe_bl pa_nil stx_Constant) stx_Constant)))
      (pss_cons (ps_cut (ps_if (pt_val (pcl C__law_is_put (hr.mono (by decide)) (pa_cons (pv 0) (pa_cons (pv 2) (pa_cons (pv 3) pa_nil stx_Name) stx_Name) stx_Name))) (pss_cons (ps_set (i := 5) sc__law_right.nd rfl (Or.inl rfl) (pcl C__law_spill (hr.mono (by decide)) (pa_cons (pv 0) (pa_cons (pv 1) (pa_cons (pv 3) pa_nil stx_Name) stx_Name) stx_Name)))
      (pss_one (ps_set (i := 4) sc__law_right.nd rfl (Or.inl rfl) (pe_lst (pa_cons (pe_cmpR op_eq (pv 5) (pcl C__law_greatest (hr.mono (by decide)) (pa_cons (pv 0) (pa_cons (pv 1) (pa_cons (pv 2) pa_nil stx_Name) stx_Name) stx_Name)) (nomark _)) (pa_cons (pe_cmpR op_eq (pv 5) (pcl C__law_least (hr.mono (by decide)) (pa_cons (pv 0) (pa_cons (pv 1) (pa_cons (pv 2) pa_nil stx_Name) stx_Name) stx_Name)) (nomark _)) pa_nil stx_Compare) stx_Compare))))) pss_nil))
      (pss_cons (ps_set (i := 6) sc__law_right.nd rfl (Or.inl rfl) (pe_callTy call_list_of rfl T.list bt_list (pa_cons (pv 0) pa_nil stx_Name)))
      (pss_cons (ps_set (i := 7) sc__law_right.nd rfl (Or.inl rfl) (pv 3))
      (pss_cons (ps_cut (ps_if (pt_val (pe_callB call_isinst rfl T.isinstance bt_isinstance (pa_cons (pv 3) (pa_cons (pe_bltn (v := .ty "list") rfl T.list bt_list rfl) pa_nil stx_Name) stx_Name))) (pss_one (ps_set (i := 7) sc__law_right.nd rfl (Or.inl rfl) (pe_callTy call_list_of rfl T.list bt_list (pa_cons (pv 3) pa_nil stx_Name)))) pss_nil))
      (pss_cons (ps_set (i := 8) sc__law_right.nd rfl (Or.inl rfl) (pe_lst (pa_cons (pcl C_is_greatest (hr.mono (by decide)) (pa_cons (pv 6) (pa_cons (pv 1) (pa_cons (pv 2) (pa_cons (pv 3) pa_nil stx_Name) stx_Name) stx_Name) stx_Name)) (pa_cons (pcl C_is_least (hr.mono (by decide)) (pa_cons (pv 6) (pa_cons (pv 1) (pa_cons (pv 2) (pa_cons (pv 3) pa_nil stx_Name) stx_Name) stx_Name) stx_Name)) pa_nil stx_Call) stx_Call)))
      (pss_cons (ps_if (PW.pt (pw_or (pt_cmpR op_in_seq pe_bl (pe_comp rfl (blkOk (sc := defScope s__law_right) (N := ["_law_sizes", "_law_wide", "_law_more", "_law_thing", "_law_due", "_law_rows", "_law_handed", "_law_kept", "_law_told"]) (vs := ["_law_one"]) (fs := []) (js := []) (by decide +kernel) rfl rfl) (pi_list (pv 8)) (fun _ _ _ _ => pg_name (i := 0) (show (["_law_one"] : List Str).Nodup by decide +kernel) rfl (Or.inl rfl)) (fun _ _ _ _ => pif0) (fun _ _ _ _ => (pe_callB (call_isinstK (K := K) rfl) rfl T.isinstance bt_isinstance (pa_cons (pv 0) (pa_cons (pe_bltn (v := .ty "bool") rfl T.bool bt_bool rfl) pa_nil stx_Name) stx_Name)))) (by with_unfolding_all rfl)) (pw_or1 (pt_cmpR (op_neD hu) (pv 8) (pv 4) (nomark _))))) (pss_one (ps_ret pe_bl)) pss_nil)
      (pss_one (ps_ret (pe_and (pe_cmpR (op_eqD hu) (pv 6) (pv 0) (nomark _)) (pe_one (pe_cmpR (op_eqW hu) (pv 7) (pv 3) (nomark _))))))))))))), ?_⟩
  rw [st__law_right]
  walk_at "rd"
  refine ⟨(by show 2 ≤ sizeLine; decide), fun d0 nd0 => ?_⟩
  generalize hE : upd H d0 _ = H1
  obtain ⟨hd0, s1⟩ := newo nd0 hE
  clear hE
  walk_at "rd"
  generalize hB1 : (isPutB cs.length more o && decide (rowsO w cs o = greatV w cs more)) = B1
  generalize hB2 : (isPutB cs.length more o && decide (rowsO w cs o = rowsT w cs (leastV w cs more) - cs.length)) = B2
  refine ⟨fun σ H' => ∃ dl x5, σ = [some (.ref a), some (.int w), some (.int more), some x, some (.ref dl), x5, none, none, none] ∧ Same H H' ∧ H' dl = some (.lst [.bl B1, .bl B2]), ?_, ?_⟩
  · walk_at "rd"
    refine ⟨a, cs, more, x, o, rfl, s1 _ _ ha, hx.sm s1.sm, ?_⟩
    cases c : isPutB cs.length more o with
    | false =>
      rw [c] at hB1 hB2
      have e1 : B1 = false := hB1.symm
      have e2 : B2 = false := hB2.symm
      subst e1 e2
      walk_at "rd"
      exact ⟨_, _, rfl, s1, hd0⟩
    | true =>
      rw [c] at hB1 hB2
      obtain ⟨xs, rfl, xl, xo, xsum⟩ := isPut_true c
      obtain ⟨l, rfl, hl, hE', lz⟩ := hx
      obtain ⟨e, x0⟩ := ok_ints xo
      have hl1 := s1 _ _ hl
      have ha1 := s1 _ _ ha
      rw [e] at hl1
      walk_at "rd"
      refine ⟨a, l, w, cs, xs.map valV, rfl, ha1, hl1, by rw [List.length_map, xl], hz, c0, x0, w1, w2, fun H2 s2 => ?_⟩
      have ha2 := s2 _ _ ha1
      walk_at "rd"
      refine ⟨a, w, more, cs, rfl, ha2, hz, c0, w1, w2, fun H3 s3 => ?_⟩
      have ha3 := s3 _ _ ha2
      walk_at "rd"
      refine ⟨a, w, more, cs, rfl, ha3, hne, hz, c0, w1, w2, m0, fun H4 s4 => ?_⟩
      walk_at "rd"
      refine ⟨(by show 2 ≤ sizeLine; decide), fun d1 nd1 => ?_⟩
      generalize hE : upd H4 d1 _ = H5
      obtain ⟨hd1, s5⟩ := newo nd1 hE
      clear hE
      refine ⟨_, _, rfl, (((s1.trans s2).trans s3).trans s4).trans s5, ?_⟩
      rw [← hB1, ← hB2]
      exact hd1
  · rintro σ H2 ⟨dl, x5, rfl, s2, hdl⟩
    have ha2 := s2 _ _ ha
    walk_at "rd"
    refine ⟨a, _, rfl, .inl (SqL.of ha2), fun h nh => ?_⟩
    generalize hE : upd H2 h _ = H3
    obtain ⟨hh, s3⟩ := newo nh hE
    clear hE
    have hdl3 := s3 _ _ hdl
    have ha3 := s3 _ _ ha2
    have sA := s2.trans s3
    walk_at "rd"
    refine ⟨fun σ H' => ∃ kx, σ = [some (.ref a), some (.int w), some (.int more), some x, some (.ref dl), x5, some (.ref h), some kx, none] ∧ Same H3 H' ∧ ((o = none ∧ kx = x) ∨ ∃ xs k l, o = some xs ∧ kx = .ref k ∧ x = .ref l ∧ H' k = some (.lst xs)), ?_, ?_⟩
    · walk_at "rd"
      have hx3 := hx.sm sA.sm
      cases o with
      | none =>
        obtain ⟨t, ty, k⟩ := hx3.isi (K := K)
        refine rd_isi ty k ?_
        walk_at "rd"
        exact ⟨_, rfl, Same.refl _, .inl ⟨rfl, rfl⟩⟩
      | some xs =>
        obtain ⟨l, rfl, hl, hE', lz⟩ := hx3
        refine rd_isi (.lst hl) (b := true) rfl ?_
        walk_at "rd"
        refine ⟨l, _, rfl, .inl (SqL.of hl), fun k nk => ?_⟩
        generalize hE : upd H3 k _ = H4
        obtain ⟨hk, s4⟩ := newo nk hE
        clear hE
        exact ⟨_, rfl, s4, .inr ⟨xs, k, l, rfl, rfl, rfl, hk⟩⟩
    · rintro σ H4 ⟨kx, rfl, s4, hk⟩
      have sB := sA.trans s4
      have hh4 := s4 _ _ hh
      walk_at "rd"
      refine ⟨h, w, more, cs, x, o, rfl, hh4, hne, hz, c0, w1, w2, m0, hx.sm sB.sm, tb.same sB, fun H5 s5 tb5 => ?_⟩
      have hh5 := s5.lst hh4
      walk_at "rd"
      refine ⟨h, w, more, cs, x, o, rfl, hh5, hne, hz, w1, w2, hx.sm (sB.sm.trans s5), fun H6 s6 => ?_⟩
      have hh6 := s6 _ _ hh5
      have sC := s5.trans s6.sm
      rw [hB1, hB2]
      walk_at "rd"
      refine ⟨(by show 2 ≤ sizeLine; decide), fun t nt => ?_⟩
      generalize hE : upd H6 t _ = H7
      obtain ⟨ht, s7⟩ := newo nt hE
      clear hE
      walk_at "rd"
      refine ⟨t, rfl, ⟨_, SqL.of ht⟩, fun D nD => ?_⟩
      refine comp_list (xs := [.bl B1, .bl B2]) (fun i σ' ys H' => (∃ x, σ' = [x]) ∧ Same H7 H' ∧ i ≤ 2 ∧ ys = (List.replicate i true).map V.bl ∧ H' D = some (.lst ys)) D ⟨⟨_, rfl⟩, same_new nD _, by omega, rfl, upd_same⟩ (fun i σ' ys H' _ h => SqL.of (h.2.1 _ _ ht)) ?_ ?_
      · rintro i y σ' ys H' hy ⟨⟨x1, rfl⟩, g1, i4, rfl, g3⟩
        have il : i < 2 := (List.getElem?_eq_some_iff.mp hy).1
        obtain ⟨z, rfl⟩ : ∃ z, y = V.bl z := by
          match i, hy with
          | 0, e => exact ⟨_, (Option.some.inj e).symm⟩
          | 1, e => exact ⟨_, (Option.some.inj e).symm⟩
        walk_at "rd"
        refine rd_isi (.bl z) (b := true) rfl ?_
        refine ⟨g3, by rw [List.length_map, List.length_replicate]; exact small1000 (by omega), ⟨_, rfl⟩, fun c o e => ?_, by omega, by rw [List.replicate_succ', List.map_append]; rfl, upd_same⟩
        rw [upd_ne (ne_of_none e nD)]; exact g1 _ _ e
      · rintro σ' ys H8 ⟨⟨x1, rfl⟩, s8, i4, rfl, hD⟩
        have hD' : H8 D = some (.lst [.bl true, .bl true]) := hD
        have ht8 := s8 _ _ ht
        have sD := (sC.trans s7.sm).trans s8.sm
        have hdl8 := sD.lst (s4 _ _ hdl3)
        have hh8 := s8 _ _ (s7 _ _ hh6)
        have ha8 := sD.lst (s4 _ _ ha3)
        walk_at "rd"
        refine ⟨D, _, rfl, .inl (SqL.of hD'), rfl, rfl, ?_⟩
        rw [show (if false = true then !inV (V.bl false) [V.bl true, V.bl true] else inV (V.bl false) [V.bl true, V.bl true]) = false from rfl]
        walk_at "rd"
        have dv1 : DV K H8 (.ref t) (.list [.bool B1, .bool B2]) := .lst (SqL.of ht8) (.cons (.bl B1) (.cons (.bl B2) .nil))
        have dv2 : DV K H8 (.ref dl) (.list [.bool B1, .bool B2]) := .lst (SqL.of hdl8) (.cons (.bl B1) (.cons (.bl B2) .nil))
        refine ⟨_, _, dv1, dv2, rfl, rfl, ?_⟩
        rw [SeqAt.eqv_refl _ rfl]
        walk_at "rd"
        refine ⟨_, _, dv_ints hh8, dv_ints ha8, shaped_ints cs, shaped_ints cs, ?_⟩
        rw [eq_I]
        walk_at "rd"
        have hx8 := hx.sm (sB.sm.trans sD)
        refine ⟨?_, q H8 (sB.sm.trans sD) ((tb5.same s6).same (s7.trans s8))⟩
        rcases hk with ⟨rfl, rfl⟩ | ⟨xs, k, l, rfl, rfl, rfl, hk⟩
        · exact .inl ⟨rfl, hx8.self⟩
        · obtain ⟨l', e, hl, hE', lz⟩ := hx8
          cases e
          exact .inr ⟨k, l, xs, rfl, rfl, SqL.of (sD.lst hk), SqL.of hl, List.all_eq_true.mpr fun y hy => (hE' y hy).plain⟩
theorem ok_law {f : Addr} {fd : FuncData} (F : Fun K "law" "law" s_law f fd) (T : Bl mg) (C__law_open : Cal P w K mg base "_law_open" ["_law_script", "_law_place"] 1 (sp__law_open K)) (C__law_draw : Cal P w K mg base "_law_draw" ["_law_hand", "_law_many"] 1 (sp__law_draw K)) (C__law_world : Cal P w K mg base "_law_world" ["_law_hand"] 3 (sp__law_world K)) (C_greatest_spill : Cal P w K mg base "greatest_spill" ["counts", "wide", "more"] 7 (sp_greatest_spill K)) (C_least_spill : Cal P w K mg base "least_spill" ["counts", "wide", "more"] 4 (sp_least_spill K)) (C__law_greatest : Cal P w K mg base "_law_greatest" ["_law_sizes", "_law_wide", "_law_more"] 2 (sp__law_greatest K)) (C__law_least : Cal P w K mg base "_law_least" ["_law_sizes", "_law_wide", "_law_more"] 1 (sp__law_least K)) (C__law_is_put : Cal P w K mg base "_law_is_put" ["_law_sizes", "_law_more", "_law_thing"] 1 (sp__law_is_put K)) (C__law_step : Cal P w K mg base "_law_step" ["_law_hand", "_law_put"] 3 (sp__law_step K)) (C__law_right : Cal P w K mg base "_law_right" ["_law_sizes", "_law_wide", "_law_more", "_law_thing"] 9 (sp__law_right K)) : FnOk P w K mg base CX0 10 f fd ["_law_script"] (sp_law K) := by
  refine F.ok sc_law (fun vs H Q E h => ?_) (fun cdv A outer s H vs Q E hr h => ?_)
  · obtain ⟨a, ns, rfl, _⟩ := h; rfl
  obtain ⟨a, ms, rfl, hS, hlen, tb, q⟩ := h
  have hu := hr.units
  refine ⟨_, (pss_cons (ps_for PassesOwn.never rfl (pi_range1 rfl T.range (pa_cons pe_int pa_nil stx_Constant)) (pg_name (i := 1) sc_law.nd rfl (Or.inl rfl)) (pss_cons (ps_set (i := 2) sc_law.nd rfl (Or.inl rfl) (pcl C__law_open (hr.mono (by decide)) (pa_cons (pv 0) (pa_cons (pv 1) pa_nil stx_Name) stx_Name)))
      (pss_cons (ps_set (i := 3) sc_law.nd rfl (Or.inl rfl) (pcl C__law_draw (hr.mono (by decide)) (pa_cons (pv 2) (pa_cons pe_int pa_nil stx_Constant) stx_Name)))
      (pss_cons (ps_asg (pcl C__law_world (hr.mono (by decide)) (pa_cons (pv 2) pa_nil stx_Name)) (pg_tup rfl (pgs_cons (pg_name (i := 4) sc_law.nd rfl (Or.inl rfl)) (pgs_cons (pg_name (i := 5) sc_law.nd rfl (Or.inl rfl)) (pgs_cons (pg_name (i := 6) sc_law.nd rfl (Or.inl rfl)) pgs_nil)))))
      (pss_cons (ps_par (i := 7) (j := 8) rfl sc_law.nd rfl rfl (by decide) rfl rfl (pa_cons (pcl C_greatest_spill (hr.mono (by decide)) (pa_cons (pv 4) (pa_cons (pv 5) (pa_cons (pv 6) pa_nil stx_Name) stx_Name) stx_Name)) (pa_cons (pcl C_least_spill (hr.mono (by decide)) (pa_cons (pv 4) (pa_cons (pv 5) (pa_cons (pv 6) pa_nil stx_Name) stx_Name) stx_Name)) pa_nil stx_Call) stx_Call) rfl)
      (pss_cons (ps_if (PW.pt (pw_or (pt_cmpR op_ne (pe_ix ix_tup (pv 7) pe_int (fun _ _ => rfl)) (pcl C__law_greatest (hr.mono (by decide)) (pa_cons (pv 4) (pa_cons (pv 5) (pa_cons (pv 6) pa_nil stx_Name) stx_Name) stx_Name)) (nomark _)) (pw_or1 (pt_cmpR op_ne (pe_ix ix_tup (pv 8) pe_int (fun _ _ => rfl)) (pcl C__law_least (hr.mono (by decide)) (pa_cons (pv 4) (pa_cons (pv 5) (pa_cons (pv 6) pa_nil stx_Name) stx_Name) stx_Name)) (nomark _))))) (pss_one (ps_ret pe_bl)) pss_nil)
      (pss_cons (ps_set (i := 9) sc_law.nd rfl (Or.inl rfl) (pe_lst (pa_cons (pe_ix ix_tup (pv 7) pe_int (fun _ _ => rfl)) (pa_cons (pe_ix ix_tup (pv 8) pe_int (fun _ _ => rfl)) pa_nil stx_Subscript) stx_Subscript)))
      (pss_cons (ps_if (PW.pt (pw_or (pt_not (pt_val (pcl C__law_is_put (hr.mono (by decide)) (pa_cons (pv 4) (pa_cons (pv 6) (pa_cons (pe_ix ix_list (pv 9) pe_int (fun _ _ => rfl)) pa_nil stx_Subscript) stx_Name) stx_Name)))) (pw_or1 (pt_not (pt_val (pcl C__law_is_put (hr.mono (by decide)) (pa_cons (pv 4) (pa_cons (pv 6) (pa_cons (pe_ix ix_list (pv 9) pe_int (fun _ _ => rfl)) pa_nil stx_Subscript) stx_Name) stx_Name))))))) (pss_one (ps_ret pe_bl)) pss_nil)
      (pss_cons (ps_for PassesOwn.never rfl (pi_list (pe_op op_cat (pv 9) (pe_lst (pa_cons (pe_op op_cat (pe_lst (pa_cons (pv 6) pa_nil stx_Name)) (pe_op op_rep (pe_lst (pa_cons pe_int pa_nil stx_Constant)) (pe_op op_sub (pe_callB call_lenL rfl T.len bt_len (pa_cons (pv 4) pa_nil stx_Name)) pe_int))) pa_nil stx_BinOp)))) (pg_name (i := 10) sc_law.nd rfl (Or.inl rfl)) (pss_one (ps_for PassesOwn.never rfl (pi_range1 rfl T.range (pa_cons pe_int pa_nil stx_Constant)) (pg_name (i := 11) sc_law.nd rfl (Or.inl rfl)) (pss_cons (ps_if (pt_not (pt_val (pcl C__law_right (hr.mono (by decide)) (pa_cons (pv 4) (pa_cons (pv 5) (pa_cons (pv 6) (pa_cons (pv 10) pa_nil stx_Name) stx_Name) stx_Name) stx_Name)))) (pss_one (ps_ret pe_bl)) pss_nil)
      (pss_one (ps_set (i := 10) sc_law.nd rfl (Or.inl rfl) (pcl C__law_step (hr.mono (by decide)) (pa_cons (pv 2) (pa_cons (pv 10) pa_nil stx_Name) stx_Name))))))))
      (pss_one (ps_for PassesOwn.never rfl (pi_list (pe_lst (pa_cons (pe_ix ix_list (pe_lst (pa_cons pe_non (pa_cons (pe_callTy call_tuple_of rfl T.tuple bt_tuple (pa_cons (pe_ix ix_list (pv 9) pe_int (fun _ _ => rfl)) pa_nil stx_Subscript)) (pa_cons pe_str (pa_cons pe_int (pa_cons pe_dnewK pa_nil stx_Dict) stx_Constant) stx_Constant) stx_Call) stx_Constant)) (pv 3) (fun _ _ => rfl)) (pa_cons (pe_lst pa_nil) (pa_cons (pe_op op_cat (pe_ix ix_list (pv 9) pe_int (fun _ _ => rfl)) (pe_lst (pa_cons pe_int pa_nil stx_Constant))) pa_nil stx_BinOp) stx_List) stx_Subscript))) (pg_name (i := 12) sc_law.nd rfl (Or.inl rfl)) (pss_one (ps_if (pt_not (pt_val (pcl C__law_right (hr.mono (by decide)) (pa_cons (pv 4) (pa_cons (pv 5) (pa_cons (pv 6) (pa_cons (pv 12) pa_nil stx_Name) stx_Name) stx_Name) stx_Name)))) (pss_one (ps_ret pe_bl)) pss_nil)))))))))))))
      (pss_one (ps_ret pe_bl))), ?_⟩
  rw [st_law]
  walk_at "rd"
  refine ⟨8, rfl, by omega, by omega, ?_⟩
  refine for_range (n := 8) (fun i σ H' => (∃ x1 x2 x3 x4 x5 x6 x7 x8 x9 y1 y2 y3, σ = [some (.ref a), x1, x2, x3, x4, x5, x6, x7, x8, x9, y1, y2, y3]) ∧ Sm H H' ∧ TB_cheap_rooms K H') ⟨⟨_, _, _, _, _, _, _, _, _, _, _, _, rfl⟩, Sm.refl H, tb⟩ ?_ ?_
  · rintro i σ H' hi ⟨⟨x1, x2, x3, x4, x5, x6, x7, x8, x9, y1, y2, y3, rfl⟩, s1, tb1⟩
    walk_at "rd"
    refine ⟨a, ms, 0 + i, rfl, s1.seq hS, hlen, by omega, by omega, fun p H1 np s2 hh1 => ?_⟩
    walk_at "rd"
    refine ⟨p, _, 5, rfl, hh1, by decide, by decide, by decide, fun which H2 n0 n1 hh2 k2 => ?_⟩
    walk_at "rd"
    refine ⟨p, _, rfl, hh2, by decide, fun t l cs w more H6 ht hl hne cl c0 w1 w2 m0 m1 hh6 k6 => ?_⟩
    have cpos := List.length_pos_iff.mpr hne
    have i0 : In63 K H1 p 1105000 H6 := ⟨hh6.mono (by omega), .kp hh1 (k2.trans k6), tb1.same (Kp.new s2 np (k2.trans k6))⟩
    refine ⟨t, _, rfl, SqT.of ht, rfl, _, _, rfl, _, _, rfl, _, _, rfl, rfl, ?_⟩
    walk_at "rd"
    refine rd_par63 ?_
    walk_at "rd"
    refine ⟨l, w, more, cs, rfl, hl, hne, by omega, c0, w1, w2, m0, i0.tb, fun P t1 l1 H7 bst nt1 nl1 tl1 ht1 hl1 s7 tb7 => ?_⟩
    have hP := bst
    have lp1 : l1 ≠ p := hh6.ne nl1
    rw [best_val w1 c0 hne m0 bst] at ht1
    have i0 := i0.sm s7 tb7
    have hl7 := s7.lst hl
    walk_at "rd"
    refine ⟨l, w, more, cs, rfl, hl7, hne, by omega, w1, w2, fun t2 l2 H8 nt2 nl2 tl2 ht2 hl2 s8 => ?_⟩
    obtain ⟨v1, v2, v3, _⟩ := leastV_ok w1 c0 hne m0
    have lp2 : l2 ≠ p := i0.hh.ne nl2
    have ht2' := ht2
    obtain ⟨Pl, ePl⟩ : ∃ Pl, leastV w cs more = Pl := ⟨_, rfl⟩
    rw [ePl] at hl2 v1 v2 v3
    walk_at "rd"
    refine ⟨_, _, rfl, ?_⟩
    dsimp only [List.set_cons_zero, List.set_cons_succ]
    have i0 := i0.same s8
    have hl8 := s8 _ _ hl7
    have ht18 := s8 _ _ ht1
    have hl18 := s8 _ _ hl1
    walk_at "rd"
    refine ⟨l, w, more, cs, rfl, hl8, by omega, c0, w1, w2, fun H9 s9 => ?_⟩
    walk_at "rd"
    refine rd_ifn (fun c => absurd rfl c) (fun _ => ?_)
    have ht29 := s9 _ _ ht2
    walk_at "rd"
    refine ⟨l, w, more, cs, rfl, s9 _ _ hl8, hne, by omega, c0, w1, w2, m0, fun H10 s10 => ?_⟩
    walk_at "rd"
    refine rd_ifn (fun c => absurd rfl c) (fun _ => ?_)
    have sB := s9.trans s10
    have i0 := i0.same sB
    have hlB := sB _ _ hl8
    have ht1B := sB _ _ ht18
    have ht2B := sB _ _ ht2
    have hl1B := sB _ _ hl18
    have hl2B := sB _ _ hl2
    clear s9 s10
    walk_at "rd"
    refine ⟨(by show 2 ≤ sizeLine; decide), fun pu npu => ?_⟩
    generalize hE : upd H10 pu _ = H11
    obtain ⟨i0, hpu, pup, s11⟩ := i0.new npu hE
    clear hE
    have hlC := s11 _ _ hlB
    have hl1C := s11 _ _ hl1B
    have hl2C := s11 _ _ hl2B
    walk_at "rd"
    refine ⟨l, cs, more, .ref l1, some (P.map V.int), rfl, hlC, ⟨l1, rfl, hl1C, els_ints, by rw [List.length_map, hP.len]; omega⟩, ?_⟩
    rw [isPut_ints hP.len hP.nn hP.sum]
    walk_at "rd"
    refine ⟨l, cs, more, .ref l2, some (Pl.map V.int), rfl, hlC, ⟨l2, rfl, hl2C, els_ints, by rw [List.length_map, v1]; omega⟩, ?_⟩
    rw [isPut_ints v1 v2 v3]
    walk_at "rd"
    refine ⟨(by show 1 ≤ sizeLine; decide), fun b1 nb1 => ?_⟩
    generalize hE : upd H11 b1 _ = H12
    obtain ⟨i0, hb1, b1p, s12⟩ := i0.new nb1 hE
    clear hE
    walk_at "rd"
    refine ⟨(by show 1 ≤ sizeLine; decide), fun b2 nb2 => ?_⟩
    generalize hE : upd H12 b2 _ = H13
    obtain ⟨i0, hb2, b2p, s13⟩ := i0.new nb2 hE
    clear hE
    have hlD := s13 _ _ (s12 _ _ hlC)
    walk_at "rd"
    rw [List.length_map]
    refine ⟨b2, _, _, rfl, rfl, hb2, by omega, by omega, ?_, fun b3 nb3 => ?_⟩
    · exact Nat.le_of_lt (small1000 (by simp; omega))
    generalize hE : upd H13 b3 _ = H14
    obtain ⟨i0, hb3, b3p, s14⟩ := i0.new nb3 hE
    clear hE
    have zl : (List.replicate ((cs.length : Int) - 1).toNat [V.int 0]).flatten.length ≤ 120 := by rw [len_rep]; simp; omega
    have ze : ∀ (G : Hp), ∀ y ∈ (List.replicate ((cs.length : Int) - 1).toNat [V.int 0]).flatten, El G y := fun G y hy => by
      obtain ⟨z, hz1, hz2⟩ := List.mem_flatten.mp hy
      rw [(List.mem_replicate.mp hz1).2] at hz2
      have : y = .int 0 := by simpa using hz2
      rw [this]; trivial
    generalize (List.replicate ((cs.length : Int) - 1).toNat [V.int 0]).flatten = zs at hb3 zl ze
    walk_at "rd"
    refine ⟨b1, b3, _, _, rfl, rfl, s14 _ _ (s13 _ _ hb1), hb3, Nat.le_of_lt (small1000 (by simp; omega)), fun b4 nb4 => ?_⟩
    generalize hE : upd H14 b4 _ = H15
    obtain ⟨i0, hb4, b4p, s15⟩ := i0.new nb4 hE
    clear hE
    walk_at "rd"
    refine ⟨(by show 1 ≤ sizeLine; decide), fun b5 nb5 => ?_⟩
    generalize hE : upd H15 b5 _ = H16
    obtain ⟨i0, hb5, b5p, s16⟩ := i0.new nb5 hE
    clear hE
    have sC := (((s12.trans s13).trans s14).trans s15).trans s16
    refine ⟨pu, b5, _, _, rfl, rfl, sC _ _ hpu, hb5, (by show 3 ≤ sizeLine; decide), fun g ng => ?_⟩
    generalize hE : upd H16 g _ = H17
    obtain ⟨i0, hg, gp, s17⟩ := i0.new ng hE
    clear hE
    have hg' : H17 g = some (.lst [.ref l1, .ref l2, .ref b4]) := hg
    have sD := sC.trans s17
    have hl17 := sD _ _ hlC
    have hl117 := sD _ _ hl1C
    have hl217 := sD _ _ hl2C
    have hb417 := s17 _ _ (s16 _ _ hb4)
    have hpu17 := sD _ _ hpu
    have lp : l ≠ p := ints_ne i0.hh hl17
    refine ⟨g, rfl, ⟨_, SqL.of hg'⟩, ?_⟩
    have hput : ∀ (j : Nat) (x : V), [V.ref l1, V.ref l2, V.ref b4][j]? = some x → ∃ q xs, x = .ref q ∧ H17 q = some (.lst xs) ∧ (∀ G, ∀ y ∈ xs, El G y) ∧ xs.length ≤ 121 ∧ q ≠ p := fun j x h => by
      match j, h with
      | 0, h => cases h; exact ⟨_, _, rfl, hl117, fun _ => els_ints, by rw [List.length_map, hP.len]; omega, lp1⟩
      | 1, h => cases h; exact ⟨_, _, rfl, hl217, fun _ => els_ints, by rw [List.length_map, v1]; omega, lp2⟩
      | 2, h =>
        cases h
        refine ⟨_, _, rfl, hb417, fun G y hy => ?_, by simp; omega, b4p⟩
        rcases List.mem_append.mp hy with h | h
        · have : y = .int more := by simpa using h
          rw [this]; trivial
        · exact ze G y h
    refine for_list (xs := [V.ref l1, V.ref l2, V.ref b4]) (fun j σ H' => (∃ y1 y2 y3, σ = [some (.ref a), some (.int (0 + i)), some (.ref p), some (.int which), some (.ref l), some (.int w), some (.int more), some (.ref t1), some (.ref t2), some (.ref pu), y1, y2, y3]) ∧ j ≤ 3 ∧ In63 K H17 p (1105000 + 200 * j) H') ⟨⟨_, _, _, rfl⟩, by omega, ⟨i0.hh.mono (by omega), .sm (Sm.refl _), i0.tb⟩⟩ (fun _ _ _ _ h => SqL.of (h.2.2.ks.lst hg' gp)) ?_ ?_
    · rintro j x σ H18 hx ⟨⟨z1, z2, z3, rfl⟩, j3, i1⟩
      obtain ⟨q0, xs0, rfl, hq0, hE0, hz0, q0p⟩ := hput j x hx
      have jl : j < 3 := (List.getElem?_eq_some_iff.mp hx).1
      walk_at "rd"
      refine ⟨4, rfl, by omega, by omega, ?_⟩
      refine for_range (n := 4) (fun m σ H' => (∃ q1 xs z2, σ = [some (.ref a), some (.int (0 + i)), some (.ref p), some (.int which), some (.ref l), some (.int w), some (.int more), some (.ref t1), some (.ref t2), some (.ref pu), some (.ref q1), z2, z3] ∧ H' q1 = some (.lst xs) ∧ (∀ y ∈ xs, El H' y) ∧ xs.length ≤ 121 + m) ∧ m ≤ 4 ∧ In63 K H17 p (1105000 + 200 * j + 40 * m) H') ⟨⟨q0, xs0, _, rfl, i1.ks.lst hq0 q0p, hE0 _, by omega⟩, by omega, i1.mono (by omega)⟩ ?_ ?_
      · rintro m σ H19 hm ⟨⟨q1, xs, z2', rfl, hq1, hE1, hz1⟩, m4, i2⟩
        walk_at "rd"
        refine ⟨l, w, more, cs, .ref q1, some xs, rfl, i2.ks.lst hl17 lp, hne, by omega, c0, w1, w2, m0, ⟨q1, rfl, hq1, hE1, by omega⟩, i2.tb, fun H20 s20 tb20 => ?_⟩
        have i3 := i2.sm s20 tb20
        walk_at "rd"
        refine ⟨p, q1, _, xs, rfl, i3.hh, by omega, s20.lst hq1, fun y hy => (hE1 y hy).sm s20, by omega, fun r ys H21 hr' nr hy yl hh21 k21 => ?_⟩
        have i4 := i3.kp k21 hh21
        walk_at "rd"
        exact ⟨⟨r, ys, _, rfl, hr', hy, by omega⟩, by omega, i4.mono (by omega)⟩
      · rintro σ H19 ⟨⟨q1, xs, z2', rfl, hq1, hE1, hz1⟩, m4, i2⟩
        walk_at "rd"
        exact ⟨⟨_, _, _, rfl⟩, by omega, i2.mono (by omega)⟩
    · rintro σ H18 ⟨⟨z1, z2, z3, rfl⟩, j3, i1⟩
      have hpu18 := i1.ks.lst hpu17 pup
      have hl118 := i1.ks.lst hl117 lp1
      have hl18' := i1.ks.lst hl17 lp
      have iE := i1
      walk_at "rd"
      refine ⟨l1, _, rfl, .inl ⟨SqL.of hl118, fun tp ntp => ?_⟩⟩
      generalize hE : upd H18 tp _ = H19
      obtain ⟨iE, htp, tpp, s19⟩ := iE.new ntp hE
      clear hE
      walk_at "rd"
      intro dd ndd
      generalize hE : upd H19 dd _ = H20
      obtain ⟨iE, hdd, ddp, s20⟩ := iE.new ndd hE
      clear hE
      walk_at "rd"
      refine ⟨(by show 5 ≤ sizeLine; decide), fun l5 nl5 => ?_⟩
      generalize hE : upd H20 l5 _ = H21
      obtain ⟨iE, hl5, l5p, s21⟩ := iE.new nl5 hE
      clear hE
      obtain ⟨v, hv, hvT⟩ : ∃ v : V, atI [V.non, V.ref tp, V.str "put", V.int 7, V.ref dd] which = some v ∧ Th H21 v none := by
        rcases (by omega : which = 0 ∨ which = 1 ∨ which = 2 ∨ which = 3 ∨ which = 4) with c | c | c | c | c <;> rw [c]
        · exact ⟨_, rfl, .inl rfl⟩
        · exact ⟨_, rfl, .inr (.inr (.inr (.inl ⟨_, _, rfl, s21 _ _ (s20 _ _ htp)⟩)))⟩
        · exact ⟨_, rfl, .inr (.inl ⟨_, rfl⟩)⟩
        · exact ⟨_, rfl, .inr (.inr (.inl ⟨_, rfl⟩))⟩
        · exact ⟨_, rfl, .inr (.inr (.inr (.inr ⟨_, rfl, s21 _ _ hdd⟩)))⟩
      walk_at "rd"
      refine rd_ixL (SqL.of hl5) hv ?_
      walk_at "rd"
      refine ⟨by decide, fun e1 ne1 => ?_⟩
      generalize hE : upd H21 e1 _ = H22
      obtain ⟨iE, he1, e1p, s22⟩ := iE.new ne1 hE
      clear hE
      have sF := ((s19.trans s20).trans s21).trans s22
      have hpu22 := sF _ _ hpu18
      walk_at "rd"
      refine ⟨(by show 1 ≤ sizeLine; decide), fun b6 nb6 => ?_⟩
      generalize hE : upd H22 b6 _ = H23
      obtain ⟨iE, hb6, b6p, s23⟩ := iE.new nb6 hE
      clear hE
      refine ⟨l1, b6, _, _, rfl, rfl, s23 _ _ (sF _ _ hl118), hb6, Nat.le_of_lt (small1000 (by rw [List.length_map, hP.len]; simp; omega)), fun g2 ng2 => ?_⟩
      generalize hE : upd H23 g2 _ = H24
      obtain ⟨iE, hg2, g2p, s24⟩ := iE.new ng2 hE
      clear hE
      walk_at "rd"
      refine ⟨(by show 3 ≤ sizeLine; decide), fun o3 no3 => ?_⟩
      generalize hE : upd H24 o3 _ = H25
      obtain ⟨iE, ho3, o3p, s25⟩ := iE.new no3 hE
      clear hE
      refine ⟨o3, rfl, ⟨_, SqL.of ho3⟩, ?_⟩
      have sG := (s23.trans s24).trans s25
      have hl25 := sG _ _ (sF _ _ hl18')
      have hth : ∀ (j : Nat) (x : V), [v, V.ref e1, V.ref g2][j]? = some x → ∃ o, Th H25 x o := fun j x h => by
        match j, h with
        | 0, h => cases h; exact ⟨none, hvT.sm (s22.trans sG).sm⟩
        | 1, h => cases h; exact ⟨some [], _, rfl, sG _ _ he1, fun y hy => absurd hy (by simp), by simp⟩
        | 2, h =>
          cases h
          refine ⟨some _, _, rfl, s25 _ _ hg2, fun y hy => ?_, by rw [List.length_append, List.length_map, hP.len]; simp; omega⟩
          rcases List.mem_append.mp hy with h | h
          · exact els_ints y h
          · have : y = .int 0 := by simpa using h
            rw [this]; trivial
      refine for_list (xs := [v, V.ref e1, V.ref g2]) (fun j σ H' => (∃ y3, σ = [some (.ref a), some (.int (0 + i)), some (.ref p), some (.int which), some (.ref l), some (.int w), some (.int more), some (.ref t1), some (.ref t2), some (.ref pu), z1, z2, y3]) ∧ Sm H25 H' ∧ TB_cheap_rooms K H') ⟨⟨_, rfl⟩, Sm.refl _, iE.tb⟩ (fun _ _ _ _ h => SqL.of (h.2.1.lst ho3)) ?_ ?_
      · rintro j x σ H26 hx ⟨⟨z3', rfl⟩, s26, tb26⟩
        obtain ⟨o, hT⟩ := hth j x hx
        walk_at "rd"
        refine ⟨l, w, more, cs, x, o, rfl, s26.lst hl25, hne, by omega, c0, w1, w2, m0, hT.sm s26, tb26, fun H27 s27 tb27 => ?_⟩
        walk_at "rd"
        exact ⟨⟨_, rfl⟩, s26.trans s27, tb27⟩
      · rintro σ H26 ⟨⟨z3', rfl⟩, s26, tb26⟩
        walk_at "rd"
        exact ⟨⟨_, _, _, _, _, _, _, _, _, _, _, _, rfl⟩, s1.trans (Ks.new s2 np ((i0.ks.trans iE.ks).trans (.sm s26))), tb26⟩
  · rintro σ H' ⟨⟨x1, x2, x3, x4, x5, x6, x7, x8, x9, y1, y2, y3, rfl⟩, s1, _⟩
    walk_at "rd"
    exact q _

end
theorem all_mk {l : PySem.W.OpenLaw} {w : World} {K : PySem.W.Frag} {h : Heap} {mg : Str → Option Value} {fa : Addr} (X : K.In h) (G : h.Ns mainGlobals mg) (hfa : mg "law" = some (.ref fa))
    {f0 : Addr} {od0 an0 : Option Addr} {sl0 : Array (Option Value)} {oc0 kV0 dc0 pm0 cd0 ct0 : Value} (a0 : PySem.W.nsIn K mainGlobals "is_whole" = some (some (.ref f0))) (l0 : K.lookup f0 = some ⟨oc0, od0, .func (PySem.W.fnOf "is_whole" "is_whole" (defArgs s_is_whole) (defBody s_is_whole) (defScope s_is_whole) .none kV0 dc0 pm0 an0 cd0 ct0), sl0⟩) (c0 : PySem.W.codeIn K cd0 "is_whole" = true) (k0 : PySem.W.keepIn K (.ref f0) = true)
    {f1 : Addr} {od1 an1 : Option Addr} {sl1 : Array (Option Value)} {oc1 kV1 dc1 pm1 cd1 ct1 : Value} (a1 : PySem.W.nsIn K mainGlobals "rows_for" = some (some (.ref f1))) (l1 : K.lookup f1 = some ⟨oc1, od1, .func (PySem.W.fnOf "rows_for" "rows_for" (defArgs s_rows_for) (defBody s_rows_for) (defScope s_rows_for) .none kV1 dc1 pm1 an1 cd1 ct1), sl1⟩) (c1 : PySem.W.codeIn K cd1 "rows_for" = true) (k1 : PySem.W.keepIn K (.ref f1) = true)
    {f2 : Addr} {od2 an2 : Option Addr} {sl2 : Array (Option Value)} {oc2 kV2 dc2 pm2 cd2 ct2 : Value} (a2 : PySem.W.nsIn K mainGlobals "rows_behind" = some (some (.ref f2))) (l2 : K.lookup f2 = some ⟨oc2, od2, .func (PySem.W.fnOf "rows_behind" "rows_behind" (defArgs s_rows_behind) (defBody s_rows_behind) (defScope s_rows_behind) .none kV2 dc2 pm2 an2 cd2 ct2), sl2⟩) (c2 : PySem.W.codeIn K cd2 "rows_behind" = true) (k2 : PySem.W.keepIn K (.ref f2) = true)
    {f3 : Addr} {od3 an3 : Option Addr} {sl3 : Array (Option Value)} {oc3 kV3 dc3 pm3 cd3 ct3 : Value} (a3 : PySem.W.nsIn K mainGlobals "greatest_spill" = some (some (.ref f3))) (l3 : K.lookup f3 = some ⟨oc3, od3, .func (PySem.W.fnOf "greatest_spill" "greatest_spill" (defArgs s_greatest_spill) (defBody s_greatest_spill) (defScope s_greatest_spill) .none kV3 dc3 pm3 an3 cd3 ct3), sl3⟩) (c3 : PySem.W.codeIn K cd3 "greatest_spill" = true) (k3 : PySem.W.keepIn K (.ref f3) = true)
    {f4 : Addr} {od4 an4 : Option Addr} {sl4 : Array (Option Value)} {oc4 kV4 dc4 pm4 cd4 ct4 : Value} (a4 : PySem.W.nsIn K mainGlobals "least_spill" = some (some (.ref f4))) (l4 : K.lookup f4 = some ⟨oc4, od4, .func (PySem.W.fnOf "least_spill" "least_spill" (defArgs s_least_spill) (defBody s_least_spill) (defScope s_least_spill) .none kV4 dc4 pm4 an4 cd4 ct4), sl4⟩) (c4 : PySem.W.codeIn K cd4 "least_spill" = true) (k4 : PySem.W.keepIn K (.ref f4) = true)
    {f5 : Addr} {od5 an5 : Option Addr} {sl5 : Array (Option Value)} {oc5 kV5 dc5 pm5 cd5 ct5 : Value} (a5 : PySem.W.nsIn K mainGlobals "gap" = some (some (.ref f5))) (l5 : K.lookup f5 = some ⟨oc5, od5, .func (PySem.W.fnOf "gap" "gap" (defArgs s_gap) (defBody s_gap) (defScope s_gap) .none kV5 dc5 pm5 an5 cd5 ct5), sl5⟩) (c5 : PySem.W.codeIn K cd5 "gap" = true) (k5 : PySem.W.keepIn K (.ref f5) = true)
    {f6 : Addr} {od6 an6 : Option Addr} {sl6 : Array (Option Value)} {oc6 kV6 dc6 pm6 cd6 ct6 : Value} (a6 : PySem.W.nsIn K mainGlobals "cheap_rooms" = some (some (.ref f6))) (l6 : K.lookup f6 = some ⟨oc6, od6, .func (PySem.W.fnOf "cheap_rooms" "cheap_rooms" (defArgs s_cheap_rooms) (defBody s_cheap_rooms) (defScope s_cheap_rooms) .none kV6 dc6 pm6 an6 cd6 ct6), sl6⟩) (c6 : PySem.W.codeIn K cd6 "cheap_rooms" = true) (k6 : PySem.W.keepIn K (.ref f6) = true)
    {f7 : Addr} {od7 an7 : Option Addr} {sl7 : Array (Option Value)} {oc7 kV7 dc7 pm7 cd7 ct7 : Value} (a7 : PySem.W.nsIn K mainGlobals "spill_behind" = some (some (.ref f7))) (l7 : K.lookup f7 = some ⟨oc7, od7, .func (PySem.W.fnOf "spill_behind" "spill_behind" (defArgs s_spill_behind) (defBody s_spill_behind) (defScope s_spill_behind) .none kV7 dc7 pm7 an7 cd7 ct7), sl7⟩) (c7 : PySem.W.codeIn K cd7 "spill_behind" = true) (k7 : PySem.W.keepIn K (.ref f7) = true)
    {f8 : Addr} {od8 an8 : Option Addr} {sl8 : Array (Option Value)} {oc8 kV8 dc8 pm8 cd8 ct8 : Value} (a8 : PySem.W.nsIn K mainGlobals "is_put" = some (some (.ref f8))) (l8 : K.lookup f8 = some ⟨oc8, od8, .func (PySem.W.fnOf "is_put" "is_put" (defArgs s_is_put) (defBody s_is_put) (defScope s_is_put) .none kV8 dc8 pm8 an8 cd8 ct8), sl8⟩) (c8 : PySem.W.codeIn K cd8 "is_put" = true) (k8 : PySem.W.keepIn K (.ref f8) = true)
    {f9 : Addr} {od9 an9 : Option Addr} {sl9 : Array (Option Value)} {oc9 kV9 dc9 pm9 cd9 ct9 : Value} (a9 : PySem.W.nsIn K mainGlobals "is_greatest" = some (some (.ref f9))) (l9 : K.lookup f9 = some ⟨oc9, od9, .func (PySem.W.fnOf "is_greatest" "is_greatest" (defArgs s_is_greatest) (defBody s_is_greatest) (defScope s_is_greatest) .none kV9 dc9 pm9 an9 cd9 ct9), sl9⟩) (c9 : PySem.W.codeIn K cd9 "is_greatest" = true) (k9 : PySem.W.keepIn K (.ref f9) = true)
    {f10 : Addr} {od10 an10 : Option Addr} {sl10 : Array (Option Value)} {oc10 kV10 dc10 pm10 cd10 ct10 : Value} (a10 : PySem.W.nsIn K mainGlobals "is_least" = some (some (.ref f10))) (l10 : K.lookup f10 = some ⟨oc10, od10, .func (PySem.W.fnOf "is_least" "is_least" (defArgs s_is_least) (defBody s_is_least) (defScope s_is_least) .none kV10 dc10 pm10 an10 cd10 ct10), sl10⟩) (c10 : PySem.W.codeIn K cd10 "is_least" = true) (k10 : PySem.W.keepIn K (.ref f10) = true)
    {f11 : Addr} {od11 an11 : Option Addr} {sl11 : Array (Option Value)} {oc11 kV11 dc11 pm11 cd11 ct11 : Value} (a11 : PySem.W.nsIn K mainGlobals "_law_open" = some (some (.ref f11))) (l11 : K.lookup f11 = some ⟨oc11, od11, .func (PySem.W.fnOf "_law_open" "_law_open" (defArgs s__law_open) (defBody s__law_open) (defScope s__law_open) .none kV11 dc11 pm11 an11 cd11 ct11), sl11⟩) (c11 : PySem.W.codeIn K cd11 "_law_open" = true) (k11 : PySem.W.keepIn K (.ref f11) = true)
    {f12 : Addr} {od12 an12 : Option Addr} {sl12 : Array (Option Value)} {oc12 kV12 dc12 pm12 cd12 ct12 : Value} (a12 : PySem.W.nsIn K mainGlobals "_law_draw" = some (some (.ref f12))) (l12 : K.lookup f12 = some ⟨oc12, od12, .func (PySem.W.fnOf "_law_draw" "_law_draw" (defArgs s__law_draw) (defBody s__law_draw) (defScope s__law_draw) .none kV12 dc12 pm12 an12 cd12 ct12), sl12⟩) (c12 : PySem.W.codeIn K cd12 "_law_draw" = true) (k12 : PySem.W.keepIn K (.ref f12) = true)
    {f13 : Addr} {od13 an13 : Option Addr} {sl13 : Array (Option Value)} {oc13 kV13 dc13 pm13 cd13 ct13 : Value} (a13 : PySem.W.nsIn K mainGlobals "_law_far" = some (some (.ref f13))) (l13 : K.lookup f13 = some ⟨oc13, od13, .func (PySem.W.fnOf "_law_far" "_law_far" (defArgs s__law_far) (defBody s__law_far) (defScope s__law_far) .none kV13 dc13 pm13 an13 cd13 ct13), sl13⟩) (c13 : PySem.W.codeIn K cd13 "_law_far" = true) (k13 : PySem.W.keepIn K (.ref f13) = true)
    {f14 : Addr} {od14 an14 : Option Addr} {sl14 : Array (Option Value)} {oc14 kV14 dc14 pm14 cd14 ct14 : Value} (a14 : PySem.W.nsIn K mainGlobals "_law_world" = some (some (.ref f14))) (l14 : K.lookup f14 = some ⟨oc14, od14, .func (PySem.W.fnOf "_law_world" "_law_world" (defArgs s__law_world) (defBody s__law_world) (defScope s__law_world) .none kV14 dc14 pm14 an14 cd14 ct14), sl14⟩) (c14 : PySem.W.codeIn K cd14 "_law_world" = true) (k14 : PySem.W.keepIn K (.ref f14) = true)
    {f15 : Addr} {od15 an15 : Option Addr} {sl15 : Array (Option Value)} {oc15 kV15 dc15 pm15 cd15 ct15 : Value} (a15 : PySem.W.nsIn K mainGlobals "_law_spill" = some (some (.ref f15))) (l15 : K.lookup f15 = some ⟨oc15, od15, .func (PySem.W.fnOf "_law_spill" "_law_spill" (defArgs s__law_spill) (defBody s__law_spill) (defScope s__law_spill) .none kV15 dc15 pm15 an15 cd15 ct15), sl15⟩) (c15 : PySem.W.codeIn K cd15 "_law_spill" = true) (k15 : PySem.W.keepIn K (.ref f15) = true)
    {f16 : Addr} {od16 an16 : Option Addr} {sl16 : Array (Option Value)} {oc16 kV16 dc16 pm16 cd16 ct16 : Value} (a16 : PySem.W.nsIn K mainGlobals "_law_needs" = some (some (.ref f16))) (l16 : K.lookup f16 = some ⟨oc16, od16, .func (PySem.W.fnOf "_law_needs" "_law_needs" (defArgs s__law_needs) (defBody s__law_needs) (defScope s__law_needs) .none kV16 dc16 pm16 an16 cd16 ct16), sl16⟩) (c16 : PySem.W.codeIn K cd16 "_law_needs" = true) (k16 : PySem.W.keepIn K (.ref f16) = true)
    {f17 : Addr} {od17 an17 : Option Addr} {sl17 : Array (Option Value)} {oc17 kV17 dc17 pm17 cd17 ct17 : Value} (a17 : PySem.W.nsIn K mainGlobals "_law_greatest" = some (some (.ref f17))) (l17 : K.lookup f17 = some ⟨oc17, od17, .func (PySem.W.fnOf "_law_greatest" "_law_greatest" (defArgs s__law_greatest) (defBody s__law_greatest) (defScope s__law_greatest) .none kV17 dc17 pm17 an17 cd17 ct17), sl17⟩) (c17 : PySem.W.codeIn K cd17 "_law_greatest" = true) (k17 : PySem.W.keepIn K (.ref f17) = true)
    {f18 : Addr} {od18 an18 : Option Addr} {sl18 : Array (Option Value)} {oc18 kV18 dc18 pm18 cd18 ct18 : Value} (a18 : PySem.W.nsIn K mainGlobals "_law_least" = some (some (.ref f18))) (l18 : K.lookup f18 = some ⟨oc18, od18, .func (PySem.W.fnOf "_law_least" "_law_least" (defArgs s__law_least) (defBody s__law_least) (defScope s__law_least) .none kV18 dc18 pm18 an18 cd18 ct18), sl18⟩) (c18 : PySem.W.codeIn K cd18 "_law_least" = true) (k18 : PySem.W.keepIn K (.ref f18) = true)
    {f19 : Addr} {od19 an19 : Option Addr} {sl19 : Array (Option Value)} {oc19 kV19 dc19 pm19 cd19 ct19 : Value} (a19 : PySem.W.nsIn K mainGlobals "_law_step" = some (some (.ref f19))) (l19 : K.lookup f19 = some ⟨oc19, od19, .func (PySem.W.fnOf "_law_step" "_law_step" (defArgs s__law_step) (defBody s__law_step) (defScope s__law_step) .none kV19 dc19 pm19 an19 cd19 ct19), sl19⟩) (c19 : PySem.W.codeIn K cd19 "_law_step" = true) (k19 : PySem.W.keepIn K (.ref f19) = true)
    {f20 : Addr} {od20 an20 : Option Addr} {sl20 : Array (Option Value)} {oc20 kV20 dc20 pm20 cd20 ct20 : Value} (a20 : PySem.W.nsIn K mainGlobals "_law_is_put" = some (some (.ref f20))) (l20 : K.lookup f20 = some ⟨oc20, od20, .func (PySem.W.fnOf "_law_is_put" "_law_is_put" (defArgs s__law_is_put) (defBody s__law_is_put) (defScope s__law_is_put) .none kV20 dc20 pm20 an20 cd20 ct20), sl20⟩) (c20 : PySem.W.codeIn K cd20 "_law_is_put" = true) (k20 : PySem.W.keepIn K (.ref f20) = true)
    {f21 : Addr} {od21 an21 : Option Addr} {sl21 : Array (Option Value)} {oc21 kV21 dc21 pm21 cd21 ct21 : Value} (a21 : PySem.W.nsIn K mainGlobals "_law_right" = some (some (.ref f21))) (l21 : K.lookup f21 = some ⟨oc21, od21, .func (PySem.W.fnOf "_law_right" "_law_right" (defArgs s__law_right) (defBody s__law_right) (defScope s__law_right) .none kV21 dc21 pm21 an21 cd21 ct21), sl21⟩) (c21 : PySem.W.codeIn K cd21 "_law_right" = true) (k21 : PySem.W.keepIn K (.ref f21) = true)
    {f22 : Addr} {od22 an22 : Option Addr} {sl22 : Array (Option Value)} {oc22 kV22 dc22 pm22 cd22 ct22 : Value} (a22 : PySem.W.nsIn K mainGlobals "law" = some (some (.ref f22))) (l22 : K.lookup f22 = some ⟨oc22, od22, .func (PySem.W.fnOf "law" "law" (defArgs s_law) (defBody s_law) (defScope s_law) .none kV22 dc22 pm22 an22 cd22 ct22), sl22⟩) (c22 : PySem.W.codeIn K cd22 "law" = true) (k22 : PySem.W.keepIn K (.ref f22) = true)
    (z_isinstance : PySem.W.nsIn K mainGlobals "isinstance" = some none)
    (z_int : PySem.W.nsIn K mainGlobals "int" = some none)
    (z_bool : PySem.W.nsIn K mainGlobals "bool" = some none)
    (z_max : PySem.W.nsIn K mainGlobals "max" = some none)
    (z_len : PySem.W.nsIn K mainGlobals "len" = some none)
    (z_min : PySem.W.nsIn K mainGlobals "min" = some none)
    (z_sorted : PySem.W.nsIn K mainGlobals "sorted" = some none)
    (z_range : PySem.W.nsIn K mainGlobals "range" = some none)
    (z_sum : PySem.W.nsIn K mainGlobals "sum" = some none)
    (z_zip : PySem.W.nsIn K mainGlobals "zip" = some none)
    (z_all : PySem.W.nsIn K mainGlobals "all" = some none)
    (z_list : PySem.W.nsIn K mainGlobals "list" = some none)
    (z_abs : PySem.W.nsIn K mainGlobals "abs" = some none)
    (z_tuple : PySem.W.nsIn K mainGlobals "tuple" = some none)
    (tL_cheap_rooms : PySem.W.tabIn K "cheap_rooms" = some (tbC K "cheap_rooms", tbP K "cheap_rooms")) (hL_cheap_rooms : PySem.W.codeHdIn K (tbC K "cheap_rooms") (tbP K "cheap_rooms") = true)
    : ∃ fd : FuncData, (∀ (s : Shared) (v : Value), BindsTo s fd ⟨[v], []⟩ [("_law_script", v)]) ∧ ∀ base : Heap, K.In base → base.Ns mainGlobals mg → BM mg base → FnOk l.prog w K mg base CX0 10 fa fd ["_law_script"] (sp_law K) := by
  have e := hfa.symm.trans (PySem.W.mg_of X G a22)
  cases e
  have T : Bl mg := ⟨PySem.W.mg_none_of X G z_isinstance, PySem.W.mg_none_of X G z_int, PySem.W.mg_none_of X G z_bool, PySem.W.mg_none_of X G z_max, PySem.W.mg_none_of X G z_len, PySem.W.mg_none_of X G z_min, PySem.W.mg_none_of X G z_sorted, PySem.W.mg_none_of X G z_range, PySem.W.mg_none_of X G z_sum, PySem.W.mg_none_of X G z_zip, PySem.W.mg_none_of X G z_all, PySem.W.mg_none_of X G z_list, PySem.W.mg_none_of X G z_abs, PySem.W.mg_none_of X G z_tuple⟩
  refine ⟨PySem.W.fnOf "law" "law" (defArgs s_law) (defBody s_law) (defScope s_law) .none kV22 dc22 pm22 an22 cd22 ct22, fun s v => .of_eq rfl, fun base _ _ hBM => ?_⟩
  have F0 := fun_mk (st := s_is_whole) l0 c0 k0
  have b0 := F0.binds (ps := ["thing"]) fun _ _ _ _ _ _ us hl => match us, hl with | [_], _ => rfl
  have C_is_whole := ok_is_whole (P := l.prog) (w := w) (base := base) F0 (PySem.W.mg_of X G a0) b0 T 
  have F1 := fun_mk (st := s_rows_for) l1 c1 k1
  have b1 := F1.binds (ps := ["many", "wide"]) fun _ _ _ _ _ _ us hl => match us, hl with | [_, _], _ => rfl
  have C_rows_for := ok_rows_for (P := l.prog) (w := w) (base := base) F1 (PySem.W.mg_of X G a1) b1 T 
  have F11 := fun_mk (st := s__law_open) l11 c11 k11
  have b11 := F11.binds (ps := ["_law_script", "_law_place"]) fun _ _ _ _ _ _ us hl => match us, hl with | [_, _], _ => rfl
  have C__law_open := ok__law_open (P := l.prog) (w := w) (base := base) F11 (PySem.W.mg_of X G a11) b11 T 
  have F12 := fun_mk (st := s__law_draw) l12 c12 k12
  have b12 := F12.binds (ps := ["_law_hand", "_law_many"]) fun _ _ _ _ _ _ us hl => match us, hl with | [_, _], _ => rfl
  have C__law_draw := ok__law_draw (P := l.prog) (w := w) (base := base) F12 (PySem.W.mg_of X G a12) b12 T 
  have F15 := fun_mk (st := s__law_spill) l15 c15 k15
  have b15 := F15.binds (ps := ["_law_sizes", "_law_wide", "_law_put"]) fun _ _ _ _ _ _ us hl => match us, hl with | [_, _, _], _ => rfl
  have C__law_spill := ok__law_spill (P := l.prog) (w := w) (base := base) F15 (PySem.W.mg_of X G a15) b15 T 
  have F16 := fun_mk (st := s__law_needs) l16 c16 k16
  have b16 := F16.binds (ps := ["_law_sizes", "_law_wide"]) fun _ _ _ _ _ _ us hl => match us, hl with | [_, _], _ => rfl
  have C__law_needs := ok__law_needs (P := l.prog) (w := w) (base := base) F16 (PySem.W.mg_of X G a16) b16 T 
  have F18 := fun_mk (st := s__law_least) l18 c18 k18
  have b18 := F18.binds (ps := ["_law_sizes", "_law_wide", "_law_more"]) fun _ _ _ _ _ _ us hl => match us, hl with | [_, _, _], _ => rfl
  have C__law_least := ok__law_least (P := l.prog) (w := w) (base := base) F18 (PySem.W.mg_of X G a18) b18 T 
  have F20 := fun_mk (st := s__law_is_put) l20 c20 k20
  have b20 := F20.binds (ps := ["_law_sizes", "_law_more", "_law_thing"]) fun _ _ _ _ _ _ us hl => match us, hl with | [_, _, _], _ => rfl
  have C__law_is_put := ok__law_is_put (P := l.prog) (w := w) (base := base) F20 (PySem.W.mg_of X G a20) b20 T 
  have F2 := fun_mk (st := s_rows_behind) l2 c2 k2
  have b2 := F2.binds (ps := ["many", "wide"]) fun _ _ _ _ _ _ us hl => match us, hl with | [_, _], _ => rfl
  have C_rows_behind := ok_rows_behind (P := l.prog) (w := w) (base := base) F2 (PySem.W.mg_of X G a2) b2 T C_rows_for
  have F5 := fun_mk (st := s_gap) l5 c5 k5
  have b5 := F5.binds (ps := ["many", "wide"]) fun _ _ _ _ _ _ us hl => match us, hl with | [_, _], _ => rfl
  have C_gap := ok_gap (P := l.prog) (w := w) (base := base) F5 (PySem.W.mg_of X G a5) b5 T C_rows_for
  have F8 := fun_mk (st := s_is_put) l8 c8 k8
  have b8 := F8.binds (ps := ["counts", "more", "thing"]) fun _ _ _ _ _ _ us hl => match us, hl with | [_, _, _], _ => rfl
  have C_is_put := ok_is_put (P := l.prog) (w := w) (base := base) F8 (PySem.W.mg_of X G a8) b8 T C_is_whole
  have F13 := fun_mk (st := s__law_far) l13 c13 k13
  have b13 := F13.binds (ps := ["_law_hand", "_law_many"]) fun _ _ _ _ _ _ us hl => match us, hl with | [_, _], _ => rfl
  have C__law_far := ok__law_far (P := l.prog) (w := w) (base := base) F13 (PySem.W.mg_of X G a13) b13 T C__law_draw
  have F17 := fun_mk (st := s__law_greatest) l17 c17 k17
  have b17 := F17.binds (ps := ["_law_sizes", "_law_wide", "_law_more"]) fun _ _ _ _ _ _ us hl => match us, hl with | [_, _, _], _ => rfl
  have C__law_greatest := ok__law_greatest (P := l.prog) (w := w) (base := base) F17 (PySem.W.mg_of X G a17) b17 T C__law_needs
  have F7 := fun_mk (st := s_spill_behind) l7 c7 k7
  have b7 := F7.binds (ps := ["counts", "wide", "put"]) fun _ _ _ _ _ _ us hl => match us, hl with | [_, _, _], _ => rfl
  have C_spill_behind := ok_spill_behind (P := l.prog) (w := w) (base := base) F7 (PySem.W.mg_of X G a7) b7 T C_rows_behind
  have F14 := fun_mk (st := s__law_world) l14 c14 k14
  have b14 := F14.binds (ps := ["_law_hand"]) fun _ _ _ _ _ _ us hl => match us, hl with | [_], _ => rfl
  have C__law_world := ok__law_world (P := l.prog) (w := w) (base := base) F14 (PySem.W.mg_of X G a14) b14 T C__law_draw C__law_far
  have F19 := fun_mk (st := s__law_step) l19 c19 k19
  have b19 := F19.binds (ps := ["_law_hand", "_law_put"]) fun _ _ _ _ _ _ us hl => match us, hl with | [_, _], _ => rfl
  have C__law_step := ok__law_step (P := l.prog) (w := w) (base := base) F19 (PySem.W.mg_of X G a19) b19 T C__law_draw C__law_far
  have F4 := fun_mk (st := s_least_spill) l4 c4 k4
  have b4 := F4.binds (ps := ["counts", "wide", "more"]) fun _ _ _ _ _ _ us hl => match us, hl with | [_, _, _], _ => rfl
  have C_least_spill := ok_least_spill (P := l.prog) (w := w) (base := base) F4 (PySem.W.mg_of X G a4) b4 T C_spill_behind C_gap
  have F10 := fun_mk (st := s_is_least) l10 c10 k10
  have b10 := F10.binds (ps := ["counts", "wide", "more", "thing"]) fun _ _ _ _ _ _ us hl => match us, hl with | [_, _, _, _], _ => rfl
  have C_is_least := ok_is_least (P := l.prog) (w := w) (base := base) F10 (PySem.W.mg_of X G a10) b10 T C_is_put C_spill_behind C_least_spill
  have F6 := fun_mk (st := s_cheap_rooms) l6 c6 k6
  have b6 := F6.binds (ps := ["counts", "wide"]) fun _ _ _ _ _ _ us hl => match us, hl with | [_, _], _ => rfl
  have C_cheap_rooms := ok_cheap_rooms (P := l.prog) (w := w) (base := base) F6 (PySem.W.mg_of X G a6) b6 T (lam_mk hBM a6 l6 tL_cheap_rooms hL_cheap_rooms) C_gap
  have F3 := fun_mk (st := s_greatest_spill) l3 c3 k3
  have b3 := F3.binds (ps := ["counts", "wide", "more"]) fun _ _ _ _ _ _ us hl => match us, hl with | [_, _, _], _ => rfl
  have C_greatest_spill := ok_greatest_spill (P := l.prog) (w := w) (base := base) F3 (PySem.W.mg_of X G a3) b3 T C_cheap_rooms C_gap C_spill_behind
  have F9 := fun_mk (st := s_is_greatest) l9 c9 k9
  have b9 := F9.binds (ps := ["counts", "wide", "more", "thing"]) fun _ _ _ _ _ _ us hl => match us, hl with | [_, _, _, _], _ => rfl
  have C_is_greatest := ok_is_greatest (P := l.prog) (w := w) (base := base) F9 (PySem.W.mg_of X G a9) b9 T C_is_put C_spill_behind C_greatest_spill
  have F21 := fun_mk (st := s__law_right) l21 c21 k21
  have b21 := F21.binds (ps := ["_law_sizes", "_law_wide", "_law_more", "_law_thing"]) fun _ _ _ _ _ _ us hl => match us, hl with | [_, _, _, _], _ => rfl
  have C__law_right := ok__law_right (P := l.prog) (w := w) (base := base) F21 (PySem.W.mg_of X G a21) b21 T C__law_is_put C__law_spill C_is_greatest C_is_least C__law_greatest C__law_least
  have F22 := fun_mk (st := s_law) l22 c22 k22
  exact ok_law F22 T C__law_open C__law_draw C__law_world C_greatest_spill C_least_spill C__law_greatest C__law_least C__law_is_put C__law_step C__law_right
theorem walk {l : PySem.W.OpenLaw} {q : Program} {loose : List Str} {XP : (Str → Option Value) → Heap → Prop} {YP : World → Heap → Prop} {d : DefRec} {K : Params → PySem.W.Frag} (hn : l.most = some 63) (hdf : d.params.defaults = [])
    (hY : ∀ (w : World) (h : Heap), YP w h → (K w.params).In h)
    (tP : Addr) (hT : ∀ (w : World) (h : Heap), YP w h → h.get? tP = some (PySem.W.tabObj #[])) (hTb : ∀ w : World, tbP (K w.params) "cheap_rooms" = tP) (hTc : ∀ w : World, PySem.W.codeHdIn (K w.params) (tbC (K w.params) "cheap_rooms") (tbP (K w.params) "cheap_rooms") = true) (hKP : ∀ w : World, (K w.params).lookup (tbP (K w.params) "cheap_rooms") = none)
    (F : ∀ (w : World) (mg : Str → Option Value) (fa : Addr) (h : Heap), (K w.params).In h → h.Ns mainGlobals mg → mg d.name = some (.ref fa) →
      ∃ fd : FuncData, (∀ (s : Shared) (u : Value), BindsTo s fd ⟨[u], []⟩ [("_law_script", u)]) ∧ ∀ base : Heap, (K w.params).In base → base.Ns mainGlobals mg → BM mg base → FnOk l.prog w (K w.params) mg base CX0 10 fa fd ["_law_script"] (sp_law (K w.params))) :
    PySem.W.WalkO q loose XP YP l.row.toRowW d [] (fun f vs => PySem.call f vs) :=
  L2.walk_ofT (n := 63) (k := 10) (x := "_law_script") (CX := fun _ => CX0) (sp := fun w => sp_law (K w.params)) (tP := tP) hn (by decide) hdf ⟨rfl, by decide, by decide⟩ hY hT (fun w => ⟨_, hTb w ▸ hTc w⟩) (fun w => hTb w ▸ hKP w) F (fun w H a ns hl hO hP hS => ⟨a, ns, rfl, hS, hl, ⟨#[], (hTb w).symm ▸ hP, trivial, .inl rfl⟩, fun _ => rfl⟩) fun _ _ _ _ _ z => z
end Law
open PySem PySem.W PyProof.Rows
set_option maxRecDepth 100000 in
set_option maxHeartbeats 0 in
theorem PySem.Challenge.cw_tailrooms_k63_puts_spoilt_anywhere_holds : PySem.Challenge.rw_tailrooms_k63_puts_spoilt_anywhere.Holds := by
  w_on; o_law; k_head; (case hw => w_witness2)
  k_fill
  refine' Law.walk (l := PySem.Challenge.rw_tailrooms_k63_puts_spoilt_anywhere) rfl rfl (fun w h Y => PySem.W.km_in_of Y) _ (fun w h Y => PySem.W.km_tabs_of Y _ (.head _)) ?tb ?tc ?kp ?F
  case tb => intro w; kernel_rfl
  case tc => intro w; kernel_rfl
  case kp => intro w; kernel_rfl
  case F =>
    intro w mg fa h KX G hmg
    refine' Law.all_mk KX G hmg ?a0 ?l0 ?c0 ?k0 ?a1 ?l1 ?c1 ?k1 ?a2 ?l2 ?c2 ?k2 ?a3 ?l3 ?c3 ?k3 ?a4 ?l4 ?c4 ?k4 ?a5 ?l5 ?c5 ?k5 ?a6 ?l6 ?c6 ?k6 ?a7 ?l7 ?c7 ?k7 ?a8 ?l8 ?c8 ?k8 ?a9 ?l9 ?c9 ?k9 ?a10 ?l10 ?c10 ?k10 ?a11 ?l11 ?c11 ?k11 ?a12 ?l12 ?c12 ?k12 ?a13 ?l13 ?c13 ?k13 ?a14 ?l14 ?c14 ?k14 ?a15 ?l15 ?c15 ?k15 ?a16 ?l16 ?c16 ?k16 ?a17 ?l17 ?c17 ?k17 ?a18 ?l18 ?c18 ?k18 ?a19 ?l19 ?c19 ?k19 ?a20 ?l20 ?c20 ?k20 ?a21 ?l21 ?c21 ?k21 ?a22 ?l22 ?c22 ?k22 ?z_isinstance ?z_int ?z_bool ?z_max ?z_len ?z_min ?z_sorted ?z_range ?z_sum ?z_zip ?z_all ?z_list ?z_abs ?z_tuple ?tL_cheap_rooms ?hL_cheap_rooms
    (case tL_cheap_rooms => kernel_rfl)
    (case hL_cheap_rooms => kernel_rfl)
    (case a0 => k_is)
    (case l0 => k_is)
    (case c0 => k_is)
    (case k0 => k_is)
    (case a1 => k_is)
    (case l1 => k_is)
    (case c1 => k_is)
    (case k1 => k_is)
    (case a2 => k_is)
    (case l2 => k_is)
    (case c2 => k_is)
    (case k2 => k_is)
    (case a3 => k_is)
    (case l3 => k_is)
    (case c3 => k_is)
    (case k3 => k_is)
    (case a4 => k_is)
    (case l4 => k_is)
    (case c4 => k_is)
    (case k4 => k_is)
    (case a5 => k_is)
    (case l5 => k_is)
    (case c5 => k_is)
    (case k5 => k_is)
    (case a6 => k_is)
    (case l6 => k_is)
    (case c6 => k_is)
    (case k6 => k_is)
    (case a7 => k_is)
    (case l7 => k_is)
    (case c7 => k_is)
    (case k7 => k_is)
    (case a8 => k_is)
    (case l8 => k_is)
    (case c8 => k_is)
    (case k8 => k_is)
    (case a9 => k_is)
    (case l9 => k_is)
    (case c9 => k_is)
    (case k9 => k_is)
    (case a10 => k_is)
    (case l10 => k_is)
    (case c10 => k_is)
    (case k10 => k_is)
    (case a11 => k_is)
    (case l11 => k_is)
    (case c11 => k_is)
    (case k11 => k_is)
    (case a12 => k_is)
    (case l12 => k_is)
    (case c12 => k_is)
    (case k12 => k_is)
    (case a13 => k_is)
    (case l13 => k_is)
    (case c13 => k_is)
    (case k13 => k_is)
    (case a14 => k_is)
    (case l14 => k_is)
    (case c14 => k_is)
    (case k14 => k_is)
    (case a15 => k_is)
    (case l15 => k_is)
    (case c15 => k_is)
    (case k15 => k_is)
    (case a16 => k_is)
    (case l16 => k_is)
    (case c16 => k_is)
    (case k16 => k_is)
    (case a17 => k_is)
    (case l17 => k_is)
    (case c17 => k_is)
    (case k17 => k_is)
    (case a18 => k_is)
    (case l18 => k_is)
    (case c18 => k_is)
    (case k18 => k_is)
    (case a19 => k_is)
    (case l19 => k_is)
    (case c19 => k_is)
    (case k19 => k_is)
    (case a20 => k_is)
    (case l20 => k_is)
    (case c20 => k_is)
    (case k20 => k_is)
    (case a21 => k_is)
    (case l21 => k_is)
    (case c21 => k_is)
    (case k21 => k_is)
    (case a22 => k_is)
    (case l22 => k_is)
    (case c22 => k_is)
    (case k22 => k_is)
    (case z_isinstance => k_is)
    (case z_int => k_is)
    (case z_bool => k_is)
    (case z_max => k_is)
    (case z_len => k_is)
    (case z_min => k_is)
    (case z_sorted => k_is)
    (case z_range => k_is)
    (case z_sum => k_is)
    (case z_zip => k_is)
    (case z_all => k_is)
    (case z_list => k_is)
    (case z_abs => k_is)
    (case z_tuple => k_is)
