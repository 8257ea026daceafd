import PyProof.Rows.All
import Wide.All
import OpenK.AllK
import Wide.FinOn
import PyProof.EqAt
import PyProof.EqKinds
import PyProof.TupleCall
import PySem.Challenge.RW_tailrooms_k27_lists_changed_and_again
set_option Elab.async false
set_option linter.all false
set_option maxRecDepth 100000
-- CHANGE: your row's module here, as the last of these rows
/-! THE HAND LAYER, for ints, bools, texts, own classes, LISTS and tuples (index, slices, in, append, pop ..), calls, loops. Paste it whole ahead of your own text; what your proof does not reach may be deleted. -/
namespace L2
open PySem PySem.Spec PyProof.Rows

/-- a key: an int or a str -/
abbrev Key := Sum Int Str
def keyIs : Key → Value → Bool
  | .inl k, v => Value.isInt k v
  | .inr x, v => Value.isStrOf x v
def keyH (w : World) : Key → Int
  | .inl k => hashInt k
  | .inr x => hashStr w x
theorem keyIs_shape : ∀ {k : Key} {v : Value}, keyIs k v = true → (∃ i t, k = Sum.inl i ∧ v = Value.int i t) ∨ (∃ x t, k = Sum.inr x ∧ v = Value.str x t)
  | .inl i, v, h => by
    obtain ⟨t, e⟩ := Value.isInt_shape (k := i) (v := v) h
    exact .inl ⟨i, t, rfl, e⟩
  | .inr x, v, h => by
    obtain ⟨t, e⟩ := Value.isStrOf_shape (x := x) (v := v) h
    exact .inr ⟨x, t, rfl, e⟩
theorem key_ll (a b : Int) : decide ((Sum.inl a : Key) = Sum.inl b) = (a == b) := by
  by_cases e : a = b
  · subst e; simp
  · have h : ¬ (Sum.inl a : Key) = Sum.inl b := fun q => e (Sum.inl.inj q)
    rw [decide_eq_false h]
    exact (beq_eq_false_iff_ne.mpr e).symm
theorem key_rr (a b : Str) : decide ((Sum.inr a : Key) = Sum.inr b) = decide (a = b) := by
  by_cases e : a = b
  · subst e; simp
  · have h : ¬ (Sum.inr a : Key) = Sum.inr b := fun q => e (Sum.inr.inj q)
    rw [decide_eq_false h, decide_eq_false e]
theorem key_lr (a : Int) (b : Str) : decide ((Sum.inl a : Key) = Sum.inr b) = false := decide_eq_false (fun q => nomatch q)
theorem key_rl (a : Str) (b : Int) : decide ((Sum.inr a : Key) = Sum.inl b) = false := decide_eq_false (fun q => nomatch q)

def mixKind (prog : Program) (w : World) : PySem.KeyKind prog w Key where
  is := keyIs
  hash := keyH w
  inj := fun v a b ha hb => by
    rcases keyIs_shape ha with ⟨i, t, rfl, rfl⟩ | ⟨x, t, rfl, rfl⟩
    · rcases keyIs_shape hb with ⟨j, u, rfl, e⟩ | ⟨y, u, rfl, e⟩
      · injection e with e1 _; rw [e1]
      · exact nomatch e
    · rcases keyIs_shape hb with ⟨j, u, rfl, e⟩ | ⟨y, u, rfl, e⟩
      · exact nomatch e
      · injection e with e1 _; rw [e1]
  byValue := fun k v h => by
    rcases keyIs_shape h with ⟨i, t, rfl, rfl⟩ | ⟨x, t, rfl, rfl⟩ <;> rfl
  pyHash := fun hv h => by
    rcases keyIs_shape hv with ⟨i, t, rfl, rfl⟩ | ⟨x, t, rfl, rfl⟩
    · exact wpAny_pyHash_int h
    · exact wpAny_pyHash_str h
  eqBool := fun hu hv h => by
    rcases keyIs_shape hu with ⟨i, t, rfl, rfl⟩ | ⟨x, t, rfl, rfl⟩
    · rcases keyIs_shape hv with ⟨j, u, rfl, rfl⟩ | ⟨y, u, rfl, rfl⟩
      · rw [key_ll] at h; exact wpAny_eqBool_int h
      · rw [key_lr] at h; exact SeqAt.EqAt.int_str i t y u _ _ _ _ h
    · rcases keyIs_shape hv with ⟨j, u, rfl, rfl⟩ | ⟨y, u, rfl, rfl⟩
      · rw [key_rl] at h; exact SeqAt.EqAt.str_int x t j u _ _ _ _ h
      · rw [key_rr] at h; exact wpAny_eqBool_str h
  «strs» := fun k x t v h => by
    rcases keyIs_shape h with ⟨i, u, rfl, e⟩ | ⟨y, u, rfl, e⟩
    · exact nomatch e
    · injection e with e1 _
      subst e1
      cases v <;> rfl

end L2

namespace L2
open PySem PySem.Spec PyProof.Rows

/-- a value, without the heap -/
inductive V where
  | non | bl (b : Bool) | int (i : Int) | str (x : Str) | byt (b : Array UInt8) | flt (b : UInt64) | ref (a : Addr) | ty (n : String)
  deriving DecidableEq

def RelV : V → Value → Prop
  | .non, u => u = Value.none
  | .bl b, u => u = Value.bool b
  | .int i, u => ∃ t, u = Value.int i t
  | .str x, u => ∃ t, u = Value.str x t
  | .byt b, u => ∃ t, u = Value.bytes b t
  | .flt b, u => ∃ t, u = Value.float b t
  | .ref a, u => u = Value.ref a
  | .ty n, u => u = Value.type n

abbrev Vals : List V → List Value → Prop := Paired RelV
theorem Vals.length {xs : List V} {us : List Value} (r : Vals xs us) : xs.length = us.length := Paired.length r
theorem Vals.get : ∀ {xs : List V} {us : List Value} {i : Nat} {x : V}, Vals xs us → xs[i]? = some x → ∃ u, us[i]? = some u ∧ RelV x u
  | _, _, _, _, .nil, e => by simp at e
  | _, _, 0, _, .cons r _, e => by simp at e; subst e; exact ⟨_, rfl, r⟩
  | _, _, i + 1, x, .cons _ t, e => by
    obtain ⟨u, h1, h2⟩ := Vals.get (i := i) (x := x) t (by simpa using e)
    exact ⟨u, by simpa using h1, h2⟩
theorem Vals.set {x : V} {u : Value} (r : RelV x u) : ∀ {xs : List V} {us : List Value} (i : Nat), Vals xs us → Vals (xs.set i x) (us.set i u)
  | _, _, _, .nil => .nil
  | _, _, 0, .cons _ t => .cons r t
  | _, _, i + 1, .cons q t => .cons q (Vals.set r i t)
theorem Vals.append : ∀ {xs ys : List V} {us ws : List Value}, Vals xs us → Vals ys ws → Vals (xs ++ ys) (us ++ ws)
  | _, _, _, _, .nil, s => s
  | _, _, _, _, .cons r t, s => .cons r (Vals.append t s)
theorem Vals.take : ∀ {xs : List V} {us : List Value} (n : Nat), Vals xs us → Vals (xs.take n) (us.take n)
  | _, _, 0, _ => .nil
  | _, _, _ + 1, .nil => .nil
  | _, _, n + 1, .cons r t => .cons r (Vals.take n t)
theorem Vals.drop : ∀ {xs : List V} {us : List Value} (n : Nat), Vals xs us → Vals (xs.drop n) (us.drop n)
  | _, _, 0, r => r
  | _, _, _ + 1, .nil => .nil
  | _, _, n + 1, .cons _ t => Vals.drop n t
def RelO : Option V → Option Value → Prop
  | some v, some u => RelV v u
  | none, none => True
  | _, _ => False
def KV {κ : Type} : List (κ × V) → List (κ × Value) → Prop := Paired fun (p : κ × V) (q : κ × Value) => p.1 = q.1 ∧ RelV p.2 q.2

/-- a key of a dict (00_mix): an int or a text -/
def kV : Key → V
  | .inl i => .int i
  | .inr x => .str x

/-- what stands at a tracked address -/
inductive HO where
  /-- a list -/
  | lst (xs : List V)
  /-- a tuple (never changes) -/
  | tup (xs : List V)
  /-- a dict whose keys are ints and texts; one whose keys are tuples of ints and texts (the empty one is both) -/
  | dK (kvs : List (Key × V)) | dT (kvs : List (List Key × V))
  /-- a set of ints: its members, its size -/
  | set (S : Int → Bool) (n : Nat)
  /-- an instance of the class at C, its dict at dx, its attributes -/
  | ins (C dx : Addr) (fs : List (Str × V))
  /-- the dict of the instance at x -/
  | own (x : Addr)
  /-- the dict of an exception -/
  | xd (fs : List (Str × V))
  /-- a bound method, f of x -/
  | met (f x : Addr)
  /-- a range object lo, lo + 1, .. below hi -/
  | rng (lo hi : Int)
  /-- a thing that is known to the object (the script; a dict while a loop walks it): read, never written while it is so -/
  | frz (o : Obj) (u : HO)
  /-- a code object's table -/
  | tbl (ps : Array Value)
  /-- any other thing, by what is true of its one object (a def of one's own: SetO a S n := HO.ext fun h => ..) -/
  | ext (φ : Heap → Prop)

abbrev Hp := Addr → Option HO
def upd (H : Hp) (a : Addr) (o : HO) : Hp := fun b => if b = a then some o else H b
theorem upd_same {H : Hp} {a : Addr} {o : HO} : upd H a o a = some o := by unfold upd; rw [if_pos rfl]
theorem upd_ne {H : Hp} {a b : Addr} {o : HO} (h : b ≠ a) : upd H a o b = H b := by unfold upd; rw [if_neg h]
/-- two objects of different content stand apart -/
theorem ne_of {H : Hp} {a b : Addr} {o u : HO} (h : H a = some o) (h' : H b = some u) (d : o ≠ u) : a ≠ b := by
  intro e; subst e; rw [h] at h'; exact d (Option.some.inj h')
theorem ne_of_none {H : Hp} {a b : Addr} {o : HO} (h : H a = some o) (h' : H b = none) : a ≠ b := by
  intro e; subst e; rw [h] at h'; cases h'

section
variable (P : Program) (w : World)
def ObjOk (H : Hp) (h : Heap) (a : Addr) : HO → Prop
  | .lst xs => xs.length ≤ sizeLine ∧ ∃ (its : List Value) (n : Nat), Vals xs its ∧ h.get? a = some { cls := .type "list", data := .seq its.toArray n }
  | .tup xs => xs.length ≤ sizeLine ∧ ∃ its : List Value, Vals xs its ∧ IsTup h a its.toArray
  | .dK kvs => kvs.length ≤ sizeLine ∧ (a == sysModules) = false ∧ ∃ vs, KV kvs vs ∧ h.DictOf (mixKind P w) a vs
  | .dT kvs => kvs.length ≤ sizeLine ∧ (a == sysModules) = false ∧ ∃ xs : List (List Key × Addr × Value),
      Paired (fun (p : List Key × V) (q : List Key × Addr × Value) => p.1 = q.1 ∧ H q.2.1 = some (.tup (p.1.map kV)) ∧ RelV p.2 q.2.2) kvs xs ∧
      ∃ o es ep, h.get? a = some o ∧ o.ExactDict ∧ o.data = .dict es ep ∧ es.toList = xs.map (entryOfKey (tupleKind (mixKind P w))) ∧ (xs.map (·.1)).Nodup
  | .set S n => h.SetOf (intKind P w) a S n
  | .ins C dx fs => H dx = some (.own a) ∧ fs.length ≤ 1000 ∧ dx ≠ a ∧ h.get? a = some (PySem.W.instObj C dx) ∧
      ∃ mA, h.Ns1 dx mA ∧ (∀ f, RelO (fs.lookup f) (mA f)) ∧ PySem.Within mA (fs.map (·.1))
  | .own _ => ∃ o, h.get? a = some o
  | .xd fs => ∃ mA, h.Ns1 a mA ∧ ∀ f, RelO (fs.lookup f) (mA f)
  | .rng lo hi => ∃ t u v, h.get? a = some { cls := .type "range", data := .fields #[.int lo t, .int hi u, .int 1 v] }
  | .frz o u => h.get? a = some o ∧ ObjOk H h a u
  | .tbl ps => h.get? a = some { cls := .none, data := .fields ps }
  | .met f x => h.get? a = some (PySem.W.methodObj (.ref f) (.ref x))
  | .ext φ => φ h ∧ (∃ o, h.get? a = some o) ∧ ∀ h1 h2 : Heap, φ h1 → (∀ o, h1.get? a = some o → h2.get? a = some o) → φ h2
/-- the abstract heap is held -/
def HOk (H : Hp) (h : Heap) : Prop := ∀ a o, H a = some o → ObjOk P w H h a o
end

section
variable {P : Program} {w : World} {H H' : Hp} {h h' : Heap} {a : Addr} {o : HO}
theorem ObjOk.lt (x : ObjOk P w H h a o) : a < h.objs.size := by
  cases o with
  | lst xs => obtain ⟨_, _, _, _, e⟩ := x; exact Heap.lt_size e
  | tup xs => obtain ⟨_, _, _, p⟩ := x; exact p.lt
  | dK kvs => obtain ⟨_, _, _, _, o, _, _, e, _⟩ := x; exact Heap.lt_size e
  | dT kvs => obtain ⟨_, _, _, _, o, _, _, e, _⟩ := x; exact Heap.lt_size e
  | set S n => obtain ⟨o, _, _, _, e, _⟩ := x; exact Heap.lt_size e
  | ins C dx fs => obtain ⟨_, _, _, e, _⟩ := x; exact Heap.lt_size e
  | own y => obtain ⟨_, e⟩ := x; exact Heap.lt_size e
  | xd fs => obtain ⟨_, ⟨_, _, _, e, _⟩, _⟩ := x; exact Heap.lt_size e
  | rng lo hi => obtain ⟨_, _, _, e⟩ := x; exact Heap.lt_size e
  | frz ob u => obtain ⟨e, _⟩ := x; exact Heap.lt_size e
  | tbl ps => exact Heap.lt_size (show h.get? a = some _ from x)
  | met f y => exact Heap.lt_size (show h.get? a = some _ from x)
  | ext φ => obtain ⟨_, ⟨_, e⟩, _⟩ := x; exact Heap.lt_size e
theorem Paired.mapP {α β : Type} {F G : α → β → Prop} : ∀ {l₁ : List α} {l₂ : List β}, Paired F l₁ l₂ → (∀ a b, F a b → G a b) → Paired G l₁ l₂
  | _, _, .nil, _ => .nil
  | _, _, .cons r t, f => .cons (f _ _ r) (Paired.mapP t f)
/-- what an object's description leans on: its own object, its own dict, the tuples -/
theorem ObjOk.stay (x : ObjOk P w H h a o) (k : ∀ b u, (b = a ∨ H b = some (.own a)) → h.get? b = some u → h'.get? b = some u)
    (ho : ∀ b, H b = some (.own a) → H' b = some (.own a)) (ht : ∀ b xs, H b = some (.tup xs) → H' b = some (.tup xs)) : ObjOk P w H' h' a o := by
  induction o with
  | lst xs => obtain ⟨z, its, n, r, e⟩ := x; exact ⟨z, its, n, r, k _ _ (.inl rfl) e⟩
  | tup xs => obtain ⟨z, its, r, ob, e, c⟩ := x; exact ⟨z, its, r, ob, k _ _ (.inl rfl) e, c⟩
  | dK kvs => obtain ⟨z, y, vs, r, ob, es, ep, e, c⟩ := x; exact ⟨z, y, vs, r, ob, es, ep, k _ _ (.inl rfl) e, c⟩
  | dT kvs =>
    obtain ⟨z, y, xs, r, ob, es, ep, e, c⟩ := x
    exact ⟨z, y, xs, Paired.mapP r fun p q z => ⟨z.1, ht _ _ z.2.1, z.2.2⟩, ob, es, ep, k _ _ (.inl rfl) e, c⟩
  | set S n => obtain ⟨ob, es, ep, t, e, c⟩ := x; exact ⟨ob, es, ep, t, k _ _ (.inl rfl) e, c⟩
  | ins C dx fs =>
    obtain ⟨d, z, ne, e, mA, ⟨od, es, ep, e2, c⟩, r⟩ := x
    exact ⟨ho _ d, z, ne, k _ _ (.inl rfl) e, mA, ⟨od, es, ep, k _ _ (.inr d) e2, c⟩, r⟩
  | own y => obtain ⟨ob, e⟩ := x; exact ⟨ob, k _ _ (.inl rfl) e⟩
  | xd fs => obtain ⟨mA, ⟨od, es, ep, e, c⟩, r⟩ := x; exact ⟨mA, ⟨od, es, ep, k _ _ (.inl rfl) e, c⟩, r⟩
  | rng lo hi => obtain ⟨t, u, v, e⟩ := x; exact ⟨t, u, v, k _ _ (.inl rfl) e⟩
  | frz ob u ih => obtain ⟨e, q⟩ := x; exact ⟨k _ _ (.inl rfl) e, ih q⟩
  | tbl ps =>
    have e : h.get? a = some { cls := .none, data := .fields ps } := x
    show h'.get? a = some { cls := .none, data := .fields ps }
    exact k a _ (.inl rfl) e
  | met f y =>
    have e : h.get? a = some (PySem.W.methodObj (.ref f) (.ref y)) := x
    show h'.get? a = some (PySem.W.methodObj (.ref f) (.ref y))
    exact k a _ (.inl rfl) e
  | ext φ => obtain ⟨p, ⟨o, e⟩, st⟩ := x; exact ⟨st _ _ p fun o q => k _ _ (.inl rfl) q, ⟨o, k _ _ (.inl rfl) e⟩, st⟩
theorem HOk.lt (x : HOk P w H h) (e : H a = some o) : a < h.objs.size := (x a o e).lt
theorem HOk.fresh (x : HOk P w H h) (e : h.objs.size ≤ a) : H a = none := by
  cases q : H a with
  | none => rfl
  | some u => exact absurd (Nat.lt_of_lt_of_le (x.lt q) e) (Nat.lt_irrefl _)
/-- every object of the heap is kept -/
theorem HOk.kept (x : HOk P w H h) (k : ∀ b u, h.get? b = some u → h'.get? b = some u) : HOk P w H h' := fun a o e =>
  (x a o e).stay (fun b u _ q => k b u q) (fun _ q => q) fun _ _ q => q
/-- a new object is laid and tracked -/
theorem HOk.laid (x : HOk P w H h) (k : ∀ b u, h.get? b = some u → h'.get? b = some u) (hp : h.objs.size ≤ a) (new : ObjOk P w (upd H a o) h' a o) : HOk P w (upd H a o) h' := fun b u e => by
  have hn := x.fresh hp
  by_cases hb : b = a
  · subst hb; rw [upd_same] at e; cases e; exact new
  · rw [upd_ne hb] at e
    exact (x b u e).stay (fun c v _ q => k c v q) (fun c q => by rw [upd_ne (ne_of_none q hn)]; exact q) fun c xs q => by rw [upd_ne (ne_of_none q hn)]; exact q
end

/-- what may be read as u: it is u, or a known u -/
def Rd (H : Hp) (a : Addr) (u : HO) : Prop := H a = some u ∨ ∃ o, H a = some (.frz o u)
theorem Rd.ok {P : Program} {w : World} {H : Hp} {h : Heap} {a : Addr} {u : HO} (r : Rd H a u) (x : HOk P w H h) : ObjOk P w H h a u := by
  rcases r with r | ⟨o, r⟩
  · exact x a u r
  · obtain ⟨_, q⟩ := x a _ r
    exact q
/-- what may be written -/
def Mut : Option HO → Prop
  | some (.lst _) => True
  | some (.dK _) => True
  | some (.dT _) => True
  | some (.set _ _) => True
  | some (.ins _ _ _) => True
  | some (.ext _) => True
  | _ => False
section
variable {P : Program} {w : World} {H : Hp} {h h' : Heap} {x e : Addr} {o' : HO}
/-- the object at e is changed: x itself, or the dict of the instance x -/
theorem HOk.write (ok : HOk P w H h) (mu : Mut (H x)) (he : e = x ∨ H e = some (.own x)) (k : ∀ b u, b ≠ e → h.get? b = some u → h'.get? b = some u) (heo : ∃ u, h'.get? e = some u)
    (new : ObjOk P w (upd H x o') h' x o') : HOk P w (upd H x o') h' := fun b u q => by
  have nown : ∀ c y, H c = some (.own y) → c ≠ x := fun c y r z => by subst z; rw [r] at mu; exact mu
  have ntup : ∀ c xs, H c = some (.tup xs) → c ≠ x := fun c xs r z => by subst z; rw [r] at mu; exact mu
  by_cases hb : b = x
  · subst hb; rw [upd_same] at q; cases q; exact new
  · rw [upd_ne hb] at q
    by_cases hbe : b = e
    · have q' : H b = some (.own x) := by
        rcases he with z | z
        · exact absurd (hbe.trans z) hb
        · rw [hbe]; exact z
      rw [q] at q'; cases q'
      obtain ⟨v, hv⟩ := heo
      exact ⟨v, by rw [hbe]; exact hv⟩
    · refine (ok b u q).stay (fun c v hc r => k c v ?_ r) (fun c r => by rw [upd_ne (nown c b r)]; exact r) fun c xs r => by rw [upd_ne (ntup c xs r)]; exact r
      rcases hc with rfl | hc
      · exact hbe
      · rintro rfl
        rcases he with z | z
        · exact nown c b hc z
        · rw [hc] at z; cases z; exact hb rfl
end

/-! ### kept unless tracked; of the frames at fs (the callers') the slots may change (an exception that passes writes there); of the records at ex (iterators) nothing is said -/
structure Un (fs ex : List Addr) (H H' : Hp) (h h' : Heap) : Prop where
  keep : ∀ b o, h.get? b = some o → H b = none → b ∉ fs → b ∉ ex → h'.get? b = some o
  slot : ∀ b o, h.get? b = some o → H b = none → b ∈ fs → b ∉ ex → ∃ sl, h'.get? b = some { o with slots := sl }
  free : ∀ b o, h.get? b = some o → H b = none → b ∉ ex → H' b = none
  there : ∀ b o, h.get? b = some o → b ∉ ex → ∃ o', h'.get? b = some o'
  tups : ∀ b xs, H b = some (.tup xs) → H' b = some (.tup xs)
  frzs : ∀ b o u, H b = some (.frz o u) → H' b = some (.frz o u)
  tbls : ∀ b ps, H b = some (.tbl ps) → ∃ more, H' b = some (.tbl (ps ++ more))
section
variable {fs fs' ex ex' : List Addr} {H H1 H2 : Hp} {h h1 h2 h' : Heap} {a x e : Addr} {o : HO}
theorem Un.any (u : Un fs ex H H1 h h1) {b : Addr} {ob : Obj} (q : h.get? b = some ob) (n : H b = none) (hx : b ∉ ex) : ∃ sl, h1.get? b = some { ob with slots := sl } := by
  by_cases hb : b ∈ fs
  · exact u.slot b ob q n hb hx
  · exact ⟨ob.slots, u.keep b ob q n hb hx⟩
theorem Un.kept (k : ∀ b u, h.get? b = some u → h'.get? b = some u) : Un fs ex H H h h' :=
  ⟨fun b ob q _ _ _ => k b ob q, fun b ob q _ _ _ => ⟨ob.slots, k b ob q⟩, fun _ _ _ n _ => n, fun b ob q _ => ⟨ob, k b ob q⟩, fun _ _ q => q, fun _ _ _ q => q, fun _ ps q => ⟨#[], by rw [q]; simp⟩⟩
theorem Un.refl : Un fs ex H H h h := Un.kept fun _ _ q => q
theorem Un.laid (k : ∀ b u, h.get? b = some u → h'.get? b = some u) (hp : h.objs.size ≤ a) (hn : H a = none) : Un fs ex H (upd H a o) h h' where
  keep := fun b u q _ _ _ => k b u q
  slot := fun b u q _ _ _ => ⟨u.slots, k b u q⟩
  free := fun b u q n _ => by rw [upd_ne (Nat.ne_of_lt (Nat.lt_of_lt_of_le (Heap.lt_size q) hp))]; exact n
  there := fun b u q _ => ⟨u, k b u q⟩
  tups := fun b xs q => by rw [upd_ne (ne_of_none q hn)]; exact q
  frzs := fun b u xs q => by rw [upd_ne (ne_of_none q hn)]; exact q
  tbls := fun b ps q => ⟨#[], by rw [upd_ne (ne_of_none q hn), q]; simp⟩
theorem Un.write (mu : Mut (H x)) (he : e = x ∨ H e = some (.own x)) (k : ∀ b u, b ≠ e → h.get? b = some u → h'.get? b = some u) (heo : ∃ u, h'.get? e = some u) : Un fs ex H (upd H x o) h h' := by
  have hx : ∀ b, H b = none → b ≠ x := fun b n z => by subst z; rw [n] at mu; exact mu
  have hb : ∀ b, H b = none → b ≠ e := fun b n z => by
    subst z
    rcases he with r | r
    · exact hx b n r
    · rw [n] at r; cases r
  have hm : ∀ b u, H b = some u → ¬ Mut (some u) → b ≠ x := fun b u q nm z => by subst z; rw [q] at mu; exact nm mu
  refine ⟨fun b u q n _ _ => k b u (hb b n) q, fun b u q n _ _ => ⟨u.slots, k b u (hb b n) q⟩, fun b u q n _ => by rw [upd_ne (hx b n)]; exact n, fun b u q _ => ?_,
    fun b xs q => by rw [upd_ne (hm b _ q fun z => z)]; exact q, fun b u xs q => by rw [upd_ne (hm b _ q fun z => z)]; exact q, fun b ps q => ⟨#[], by rw [upd_ne (hm b _ q fun z => z), q]; simp⟩⟩
  by_cases hbe : b = e
  · subst hbe; exact heo
  · exact ⟨u, k b u hbe q⟩
end

/-! ### the heap without what is tracked -/
def trk (h : Heap) (H : Hp) : List Addr := (List.range h.objs.size).filter fun a => (H a).isSome
def hidT (h : Heap) (H : Hp) : Heap := PySem.W.hideAll h (trk h H)
theorem hidT_size (h : Heap) (H : Hp) : (hidT h H).objs.size = h.objs.size := PySem.W.hideAll_size _ _
theorem hidT_get {h : Heap} {H : Hp} {b : Addr} {o : Obj} (e : h.get? b = some o) (n : H b = none) : (hidT h H).get? b = some o :=
  PySem.W.hideAll_get _ e fun hm => by
    have q : (H b).isSome = true := (List.mem_filter.mp hm).2
    rw [n] at q; simp at q
theorem of_hidT {h : Heap} {H : Hp} {b : Addr} {o : Obj} (e : (hidT h H).get? b = some o) : h.get? b = some o ∧ H b = none := by
  have e' : h.get? b = some o := PySem.W.of_hideAll (trk h H) e
  refine ⟨e', ?_⟩
  cases q : H b with
  | none => rfl
  | some x =>
    have hm : b ∈ trk h H := List.mem_filter.mpr ⟨List.mem_range.mpr (Heap.lt_size e'), by simp [q]⟩
    have z : (hidT h H).get? b = none := PySem.W.hideAll_none (trk h H) hm
    rw [z] at e; cases e

/-! ### OpenK's ledger, filled with every new object but one -/
def allNews (g h : Heap) (L : Addr) : List (Addr × Obj) := (List.range h.objs.size).filterMap fun a => if a = L ∨ (g.get? a).isSome = true then none else (h.get? a).map fun o => (a, o)
def rest (g h : Heap) (L d : Addr) : List (Addr × Obj) := (allNews g h L).filter fun p => decide (p.1 ≠ d)
end L2

namespace L2
open PySem PySem.Spec PyProof.Rows

/-- the module's facts, over the base: the heap at the law's entry without what is tracked there -/
structure Mod (K : PySem.W.Frag) (mg : Str → Option Value) (base : Heap) : Prop where
  kin : K.In base
  glob : base.Ns mainGlobals mg
  blt : ∃ mb, base.Ns builtinsNs mb ∧ ∀ x : Str, x ≠ "__name__" → mb x = bootBuiltins x
  nolimit : base.NoLimit

/-- the context: a def's body (or a comprehension's block) running. base: fixed through the whole law; s₀, H₀: the entry; outer: the frames whose slots others may change (a def's callers); stack: all frames that run;
   ex: iterators that were made ahead of the entry and are walked here (a comprehension's); fn: the names whose cells were made at the entry (a def: all; a comprehension's block: its own); calm: not within an except suite; pn: pins that every state bears; xe: what is wanted of an exception that leaves the code -/
structure Cx where
  prog : Program
  w : World
  K : PySem.W.Frag
  mg : Str → Option Value
  base : Heap
  A : Around
  N : List Str
  s₀ : Shared
  H₀ : Hp
  env : Env
  outer : List Env
  stack : List Env
  ex : List Addr
  fn : Str → Bool
  calm : Bool
  pn : List (Addr × Obj)
  xe : Value → Shared → Prop
/-- the callers' frames -/
def frs (l : List Env) : List Addr := l.filterMap (·.frame)
abbrev Cx.fs (X : Cx) : List Addr := frs X.outer

def Vis (sc : Scope) (x : Str) : Prop := sc.names.lookup x = some .local ∨ sc.names.lookup x = some .cell ∨ sc.names.lookup x = some .free
def Loc (sc : Scope) (x : Str) : Prop := sc.names.lookup x = some .local ∨ sc.names.lookup x = some .cell
def Look (env : Env) (h : Heap) (m : Str → Option Value) (x : Str) (u : Value) : Prop :=
  (env.kindOf x = some .local ∧ m x = some u) ∨ ((env.kindOf x = some .cell ∨ env.kindOf x = some .free) ∧ ∃ c, env.cells.lookup x = some c ∧ h.IsCell c (some u))

structure Cx.Ok (X : Cx) : Prop where
  mod : Mod X.K X.mg X.base
  kind : X.env.scope.kind = .function
  glob : X.env.globals = mainGlobals
  blt : X.env.builtins = builtinsNs
  above : X.s₀.heap.objs.size ≤ X.env.locals
  inj : ∀ x y c, X.env.cells.lookup x = some c → X.env.cells.lookup y = some c → x = y
  has : ∀ x, (X.env.kindOf x = some .cell ∨ X.env.kindOf x = some .free) → ∃ c, X.env.cells.lookup x = some c
  cab : ∀ x c, X.fn x = true → X.env.cells.lookup x = some c → X.s₀.heap.objs.size ≤ c
  hd : X.calm = true → X.A.handled = none
  frames : X.A.frames = some X.stack
  stk : X.stack = X.outer ∨ (X.stack = X.env :: X.outer ∧ X.env.frame = some X.env.locals)
  exf : ∀ b ∈ X.ex, b ≠ X.env.locals ∧ ∀ x c, X.env.cells.lookup x = some c → c ≠ b
  bs : ∀ b o, X.base.get? b = some o → X.s₀.heap.get? b = some o ∧ X.H₀ b = none
  bsz : X.base.objs.size ≤ X.s₀.heap.objs.size
  noex : ∀ b o, X.base.get? b = some o → b ∉ X.ex
  exfs : ∀ b ∈ X.ex, b ∉ X.fs
  funs : X.s₀.heap.FunFrames X.base X.outer
  frf : ∀ b ∈ X.fs, X.H₀ b = none

structure Inv (X : Cx) (pins : List (Addr × Obj)) (σ : List (Option V)) (H : Hp) (s : Shared) : Prop where
  ok : X.Ok
  os : s.os = X.s₀.os
  bare : AllBare s.gens
  base : Un X.fs X.ex X.H₀ H X.s₀.heap s.heap
  loc : ∃ m, s.heap.Ns X.env.locals m ∧ ∀ (i : Nat) (x : Str) (v : V), X.N[i]? = some x → σ[i]? = some (some v) → Vis X.env.scope x → ∃ u, RelV v u ∧ Look X.env s.heap m x u
  cell : ∀ x c, X.env.cells.lookup x = some c → ∃ v, s.heap.IsCell c v
  free : H X.env.locals = none
  freeC : ∀ x c, X.env.cells.lookup x = some c → H c = none
  pin : ∀ p ∈ X.pn ++ pins, s.heap.get? p.1 = some p.2 ∧ H p.1 = none ∧ p.1 ≠ X.env.locals ∧ p.1 ∉ X.fs ∧ ∀ v, p.2.data ≠ .cell v
  hok : HOk X.prog X.w H s.heap
  len : σ.length = X.N.length

section
variable {X : Cx} {pins : List (Addr × Obj)} {σ : List (Option V)} {H H' : Hp} {s : Shared} {h' : Heap}

theorem Cx.Ok.nofr (ok : X.Ok) {b : Addr} {o : Obj} (e : X.base.get? b = some o) : b ∉ X.fs := fun hb => by
  have := (ok.funs.mem hb).1
  rw [e] at this; cases this
theorem Inv.bs (I : Inv X pins σ H s) : ∀ b o, X.base.get? b = some o → s.heap.get? b = some o ∧ H b = none := fun b o e =>
  ⟨I.base.keep b o (I.ok.bs b o e).1 (I.ok.bs b o e).2 (I.ok.nofr e) (I.ok.noex b o e), I.base.free b o (I.ok.bs b o e).1 (I.ok.bs b o e).2 (I.ok.noex b o e)⟩
theorem Inv.bk (I : Inv X pins σ H s) : ∀ b o, X.base.get? b = some o → s.heap.get? b = some o := fun b o e => (I.bs b o e).1
theorem Inv.mod (I : Inv X pins σ H s) : Mod X.K X.mg X.base := I.ok.mod
theorem Inv.kIn (I : Inv X pins σ H s) : X.K.In s.heap := I.ok.mod.kin.keeps I.bk
theorem Inv.lt (I : Inv X pins σ H s) : X.env.locals < s.heap.objs.size := let ⟨_, hn, _⟩ := I.loc; hn.lt
theorem Inv.sz (I : Inv X pins σ H s) : X.s₀.heap.objs.size ≤ s.heap.objs.size := Nat.le_trans I.ok.above (Nat.le_of_lt I.lt)
theorem Inv.nofs (I : Inv X pins σ H s) {a : Addr} (h : s.heap.objs.size ≤ a) : a ∉ X.fs := fun hb => by
  obtain ⟨_, o, ho, _⟩ := I.ok.funs.mem hb
  exact absurd (Nat.lt_of_lt_of_le (Heap.lt_size ho) (Nat.le_trans I.sz h)) (Nat.lt_irrefl _)
theorem Inv.cne (I : Inv X pins σ H s) : ∀ x c, X.env.cells.lookup x = some c → c ≠ X.env.locals := fun x c e z => by
  obtain ⟨v, o, ho, hd⟩ := I.cell x c e
  obtain ⟨m, ⟨o', es, ep, ho', hd', _⟩, _⟩ := I.loc
  rw [z, ho'] at ho; cases ho; rw [hd'] at hd; cases hd
theorem Inv.funs (I : Inv X pins σ H s) : s.heap.FunFrames X.base X.outer := by
  have all : ∀ (l : List Env), (∀ b ∈ frs l, b ∈ X.fs) → X.s₀.heap.FunFrames X.base l → s.heap.FunFrames X.base l := by
    intro l
    induction l with
    | nil => intro _ _; trivial
    | cons env r ih =>
      intro hs hl
      obtain ⟨hk, ⟨L, o, hf, hn, ho, hd⟩, hr⟩ := hl
      have hL : L ∈ X.fs := hs L (by unfold frs; rw [List.filterMap_cons, hf]; exact List.mem_cons_self)
      obtain ⟨sl, e⟩ := I.base.slot L o ho (I.ok.frf L hL) hL fun z => I.ok.exfs L z hL
      exact ⟨hk, ⟨L, _, hf, hn, e, hd⟩, ih (fun b hb => hs b (by unfold frs; rw [List.filterMap_cons, hf]; exact List.mem_cons_of_mem _ hb)) hr⟩
  exact all X.outer (fun _ hb => hb) I.ok.funs

/-- the frames that run, for a call -/
theorem Inv.stack (I : Inv X pins σ H s) : s.heap.FunFrames X.base X.stack := by
  rcases I.ok.stk with e | ⟨e, hf⟩
  · rw [e]; exact I.funs
  · rw [e]
    obtain ⟨m, hn, _⟩ := I.loc
    refine .cons (by rw [I.ok.kind]; decide) hf hn ?_ I.funs
    exact Heap.get?_none_of_le (Nat.le_trans I.ok.bsz I.ok.above)
theorem Inv.stkSub (I : Inv X pins σ H s) : ∀ b ∈ frs X.stack, b ∈ X.env.locals :: X.fs := fun b hb => by
  rcases I.ok.stk with e | ⟨e, hf⟩
  · rw [e] at hb; exact List.mem_cons_of_mem _ hb
  · rw [e] at hb
    unfold frs at hb
    rw [List.filterMap_cons, hf] at hb
    exact hb
theorem Inv.stkFree (I : Inv X pins σ H s) : ∀ b ∈ frs X.stack, H b = none := fun b hb => by
  rcases List.mem_cons.mp (I.stkSub b hb) with e | hb
  · rw [e]; exact I.free
  · obtain ⟨_, o, ho, _⟩ := I.ok.funs.mem hb
    exact I.base.free b o ho (I.ok.frf b hb) fun z => I.ok.exfs b z hb

/-- THE STEP: the untracked objects but the frame and the records at ch are kept (the callers' frames up to slots), the frame's map is kept, the new abstract heap is held -/
theorem Inv.step {g' : Array GenState} {t' : Nat} {d' : Drawn} {ch : List Addr} (I : Inv X pins σ H s)
    (hch : ∀ b ∈ ch, (b ∈ X.ex ∨ X.s₀.heap.objs.size ≤ b) ∧ b ≠ X.env.locals ∧ (∀ x c, X.env.cells.lookup x = some c → c ≠ b) ∧ ∀ p ∈ X.pn ++ pins, p.1 ≠ b)
    (keep : ∀ b o, b ≠ X.env.locals → b ∉ X.fs → b ∉ ch → s.heap.get? b = some o → H b = none → h'.get? b = some o)
    (slot : ∀ b o, b ≠ X.env.locals → b ∈ X.fs → b ∉ ch → s.heap.get? b = some o → H b = none → ∃ sl, h'.get? b = some { o with slots := sl }) (free : ∀ b o, b ∉ ch → s.heap.get? b = some o → H b = none → H' b = none)
    (there : ∀ b o, b ∉ ch → s.heap.get? b = some o → ∃ o', h'.get? b = some o')
    (tups : ∀ b xs, H b = some (.tup xs) → H' b = some (.tup xs)) (frzs : ∀ b o u, H b = some (.frz o u) → H' b = some (.frz o u)) (tbls : ∀ b ps, H b = some (.tbl ps) → ∃ more, H' b = some (.tbl (ps ++ more)))
    (ns : ∀ m, s.heap.Ns X.env.locals m → h'.Ns X.env.locals m) (hok : HOk X.prog X.w H' h') (hg : AllBare g') :
    Inv X pins σ H' { s with heap := h', gens := g', drawn := d', toks := t' } := by
  have neL : ∀ b o, X.s₀.heap.get? b = some o → b ≠ X.env.locals := fun b o e => Nat.ne_of_lt (Nat.lt_of_lt_of_le (Heap.lt_size e) I.ok.above)
  have neC : ∀ b o, X.s₀.heap.get? b = some o → b ∉ X.ex → b ∉ ch := fun b o e hx hb => by
    rcases (hch b hb).1 with z | z
    · exact hx z
    · exact absurd (Nat.lt_of_lt_of_le (Heap.lt_size e) z) (Nat.lt_irrefl _)
  have cellK : ∀ x c, X.env.cells.lookup x = some c → ∀ v, s.heap.IsCell c v → h'.IsCell c v := fun x c e v ⟨o, ho, hd⟩ => by
    have nch : c ∉ ch := fun z => (hch c z).2.2.1 x c e rfl
    by_cases hc : c ∈ X.fs
    · obtain ⟨sl, q⟩ := slot c o (I.cne x c e) hc nch ho (I.freeC x c e)
      exact ⟨_, q, hd⟩
    · exact ⟨o, keep c o (I.cne x c e) hc nch ho (I.freeC x c e), hd⟩
  refine ⟨I.ok, I.os, hg, ⟨fun b o e n hb hx => ?_, fun b o e n hb hx => ?_, fun b o e n hx => ?_, fun b o e hx => ?_, fun b xs e => tups b xs (I.base.tups b xs e), fun b o xs e => frzs b o xs (I.base.frzs b o xs e), fun b ps e => ?_⟩, ?_, fun x c e => ?_, ?_, fun x c e => ?_, fun p hp => ?_, hok, I.len⟩
  · exact keep b o (neL b o e) hb (neC b o e hx) (I.base.keep b o e n hb hx) (I.base.free b o e n hx)
  · obtain ⟨sl, e1⟩ := I.base.slot b o e n hb hx
    obtain ⟨sl', e2⟩ := slot b _ (neL b o e) hb (neC b o e hx) e1 (I.base.free b o e n hx)
    exact ⟨sl', e2⟩
  · obtain ⟨o', e1⟩ := I.base.there b o e hx
    exact free b o' (neC b o e hx) e1 (I.base.free b o e n hx)
  · obtain ⟨o', e1⟩ := I.base.there b o e hx
    exact there b o' (neC b o e hx) e1
  · obtain ⟨m1, e1⟩ := I.base.tbls b ps e
    obtain ⟨m2, e2⟩ := tbls b _ e1
    exact ⟨m1 ++ m2, by rw [e2, Array.append_assoc]⟩
  · obtain ⟨m, hn, hl⟩ := I.loc
    refine ⟨m, ns m hn, fun i x v e1 e2 e3 => ?_⟩
    obtain ⟨u, r, l⟩ := hl i x v e1 e2 e3
    refine ⟨u, r, ?_⟩
    rcases l with l | ⟨k, c, e, z⟩
    · exact .inl l
    · exact .inr ⟨k, c, e, cellK x c e _ z⟩
  · obtain ⟨v, z⟩ := I.cell x c e
    exact ⟨v, cellK x c e v z⟩
  · obtain ⟨m, ⟨o, _, _, ho, _⟩, _⟩ := I.loc
    exact free _ o (fun z => (hch _ z).2.1 rfl) ho I.free
  · obtain ⟨v, o, ho, hd⟩ := I.cell x c e
    exact free c o (fun z => (hch c z).2.2.1 x c e rfl) ho (I.freeC x c e)
  · obtain ⟨e, n, ne, nf, d⟩ := I.pin p hp
    have nch : p.1 ∉ ch := fun z => (hch p.1 z).2.2.2 p hp rfl
    exact ⟨keep p.1 p.2 ne nf nch e n, free p.1 p.2 nch e n, ne, nf, d⟩
/-- .. where the frame's own object is kept too -/
theorem Inv.un {t' : Nat} (I : Inv X pins σ H s) (u : Un X.fs [] H H' s.heap h') (hok : HOk X.prog X.w H' h') : Inv X pins σ H' { s with heap := h', toks := t' } := by
  obtain ⟨m, ⟨o, es, ep, ho, r⟩, _⟩ := id I.loc
  obtain ⟨sl, hL⟩ := u.any ho I.free (by simp)
  exact I.step (g' := s.gens) (d' := s.drawn) (ch := []) (fun _ z => nomatch z) (fun b o _ hb _ e n => u.keep b o e n hb (by simp)) (fun b o _ hb _ e n => u.slot b o e n hb (by simp)) (fun b o _ e n => u.free b o e n (by simp)) (fun b o _ e => u.there b o e (by simp)) u.tups u.frzs u.tbls (fun m' hm => by
    obtain ⟨o', es', ep', ho', r'⟩ := hm
    rw [ho] at ho'; cases ho'
    exact ⟨_, es', ep', hL, r'⟩) hok I.bare
/-- behind a call (or a comprehension's block): the slots of this frame may have changed too, the records at ch may have turned -/
theorem Inv.call {g' : Array GenState} {t' : Nat} {d' : Drawn} {ch : List Addr} (I : Inv X pins σ H s) (u : Un (frs X.stack) ch H H' s.heap h') (hok : HOk X.prog X.w H' h') (hg : AllBare g')
    (hch : ∀ b ∈ ch, (b ∈ X.ex ∨ X.s₀.heap.objs.size ≤ b) ∧ b ≠ X.env.locals ∧ (∀ x c, X.env.cells.lookup x = some c → c ≠ b) ∧ ∀ p ∈ X.pn ++ pins, p.1 ≠ b) :
    Inv X pins σ H' { s with heap := h', gens := g', drawn := d', toks := t' } := by
  obtain ⟨m, ⟨o, es, ep, ho, r⟩, _⟩ := id I.loc
  obtain ⟨sl, hL⟩ := u.any ho I.free fun z => (hch _ z).2.1 rfl
  exact I.step (ch := ch) hch (fun b o hL hb hc e n => u.keep b o e n (fun z => (List.mem_cons.mp (I.stkSub b z)).elim hL hb) hc) (fun b o _ _ hc e n => u.any e n hc) (fun b o hc e n => u.free b o e n hc) (fun b o hc e => u.there b o e hc) u.tups u.frzs u.tbls (fun m' hm => by
    obtain ⟨o', es', ep', ho', r'⟩ := hm
    rw [ho] at ho'; cases ho'
    exact ⟨_, es', ep', hL, r'⟩) hok hg
/-- an untracked record of ours (an iterator) has turned -/
theorem Inv.turned {t' : Nat} {it : Addr} (I : Inv X pins σ H s) (k : ∀ b o, b ≠ it → s.heap.get? b = some o → h'.get? b = some o) (hn : H it = none) (hL : it ≠ X.env.locals)
    (h1 : it ∈ X.ex ∨ X.s₀.heap.objs.size ≤ it) (h2 : ∀ x c, X.env.cells.lookup x = some c → c ≠ it) (h3 : ∀ p ∈ X.pn ++ pins, p.1 ≠ it) : Inv X pins σ H { s with heap := h', toks := t' } := by
  have nit : ∀ b u, H b = some u → b ≠ it := fun b u e z => by rw [z, hn] at e; cases e
  refine I.step (g' := s.gens) (d' := s.drawn) (ch := [it]) (fun b hb => ?_) (fun b o _ _ hc e _ => k b o (fun z => hc (by simp [z])) e) (fun b o _ _ hc e _ => ⟨o.slots, k b o (fun z => hc (by simp [z])) e⟩) (fun _ _ _ _ n => n)
    (fun b o hc e => ⟨o, k b o (fun z => hc (by simp [z])) e⟩) (fun _ _ e => e) (fun _ _ _ e => e) (fun b ps e => ⟨#[], by rw [e]; simp⟩) (fun m hm => ?_) (fun b u e => ?_) I.bare
  · have e : b = it := by simpa using hb
    subst e
    exact ⟨h1, hL, h2, h3⟩
  · obtain ⟨o, es, ep, ho, r⟩ := hm
    exact ⟨o, es, ep, k _ o (Ne.symm hL) ho, r⟩
  · refine (I.hok b u e).stay (fun c v hc q => k c v ?_ q) (fun _ q => q) fun _ _ q => q
    rcases hc with z | z
    · rw [z]; exact nit b u e
    · exact nit c _ z
theorem Inv.tok (I : Inv X pins σ H s) (t : Nat) : Inv X pins σ H { s with toks := t } := I.un (h' := s.heap) (t' := t) Un.refl I.hok
/-- all objects kept -/
theorem Inv.kept {t' : Nat} (I : Inv X pins σ H s) (k : ∀ b u, s.heap.get? b = some u → h'.get? b = some u) : Inv X pins σ H { s with heap := h', toks := t' } := I.un (Un.kept k) (I.hok.kept k)
/-- a new object laid and tracked -/
theorem Inv.laid {a : Addr} {o : HO} {t' : Nat} (I : Inv X pins σ H s) (k : ∀ b u, s.heap.get? b = some u → h'.get? b = some u) (hp : s.heap.objs.size ≤ a) (new : ObjOk X.prog X.w (upd H a o) h' a o) :
    Inv X pins σ (upd H a o) { s with heap := h', toks := t' } := I.un (Un.laid k hp (I.hok.fresh hp)) (I.hok.laid k hp new)
/-- an object written -/
theorem Inv.write {x e : Addr} {o : HO} {t' : Nat} (I : Inv X pins σ H s) (mu : Mut (H x)) (he : e = x ∨ H e = some (.own x)) (k : ∀ b u, b ≠ e → s.heap.get? b = some u → h'.get? b = some u) (heo : ∃ u, h'.get? e = some u)
    (new : ObjOk X.prog X.w (upd H x o) h' x o) : Inv X pins σ (upd H x o) { s with heap := h', toks := t' } := I.un (Un.write mu he k heo) (I.hok.write mu he k heo new)
theorem Inv.pins_of {pins' : List (Addr × Obj)} (I : Inv X pins σ H s) (h : ∀ p ∈ pins', s.heap.get? p.1 = some p.2 ∧ H p.1 = none ∧ p.1 ≠ X.env.locals ∧ p.1 ∉ X.fs ∧ ∀ v, p.2.data ≠ .cell v) : Inv X pins' σ H s :=
  ⟨I.ok, I.os, I.bare, I.base, I.loc, I.cell, I.free, I.freeC, fun p hp => (List.mem_append.mp hp).elim (fun z => I.pin p (List.mem_append_left _ z)) (h p), I.hok, I.len⟩

theorem nodup_ix {N : List Str} (hN : N.Nodup) {i j : Nat} {x : Str} (a : N[i]? = some x) (b : N[j]? = some x) : i = j := by
  obtain ⟨h1, e1⟩ := List.getElem?_eq_some_iff.mp a
  obtain ⟨h2, e2⟩ := List.getElem?_eq_some_iff.mp b
  exact (List.getElem_inj hN).mp (e1.trans e2.symm)

/-- a name is stored; what changed -/
theorem store_ok2 {M : Model} {A : Around} {E : Value → Shared → Prop} {i : Nat} {x : Str} {v : V} {u : Value} {Q : Unit → Shared → Prop} (I : Inv X pins σ H s) (hN : X.N.Nodup) (hi : X.N[i]? = some x) (hx : Loc X.env.scope x) (r : RelV v u)
    (h : ∀ s', Inv X pins (σ.set i (some v)) H s' → (∃ a, Heap.SameBut a s.heap s'.heap ∧ (a = X.env.locals ∨ X.env.cells.lookup x = some a)) → Q () s') (hf : X.fn x = true ∨ X.env.scope.names.lookup x = some .local := by first | exact .inl rfl | exact .inr rfl | assumption) : wpAny M A (storeName X.env x u) Q E s := by
  obtain ⟨m, hn, hl⟩ := id I.loc
  have hcls : (X.env.scope.kind == .class || (X.env.scope.kind == .module && X.env.locals != X.env.globals)) = false := by rw [I.ok.kind]; rfl
  have hiσ : i < σ.length := by rw [I.len]; exact (List.getElem?_eq_some_iff.mp hi).1
  have cne := I.cne
  have tracked : ∀ {a : Addr} {h' : Heap}, (∃ o, s.heap.get? a = some o ∧ H a = none) → Heap.SameBut a s.heap h' → HOk X.prog X.w H h' := fun {a h'} ha hs b ob e => by
    obtain ⟨_, _, hfree⟩ := ha
    refine (I.hok b ob e).stay (fun c w' hc q => (hs.2 c ?_).trans q) (fun _ q => q) fun _ _ q => q
    rintro rfl
    rcases hc with rfl | hc
    · rw [hfree] at e; cases e
    · rw [hfree] at hc; cases hc
  rcases hx with hk | hk
  · refine wpAny_storeName_local hk hn (fun h' hn' hs => ?_) hcls
    obtain ⟨oL, _, _, hoL, _⟩ := id hn
    refine h _ ⟨I.ok, I.os, I.bare, ⟨fun b o e n hb hx => ?_, fun b o e n hb hx => ?_, I.base.free, fun b o e hx => ?_, I.base.tups, I.base.frzs, I.base.tbls⟩, ⟨_, hn', fun j y v' e1 e2 e3 => ?_⟩, fun y c e => ?_, I.free, I.freeC, fun p hp => ?_, tracked ⟨oL, hoL, I.free⟩ hs, by simpa using I.len⟩ ⟨_, hs, .inl rfl⟩
    · exact (hs.2 b (Nat.ne_of_lt (Nat.lt_of_lt_of_le (Heap.lt_size e) I.ok.above))).trans (I.base.keep b o e n hb hx)
    · obtain ⟨sl, e1⟩ := I.base.slot b o e n hb hx
      exact ⟨sl, (hs.2 b (Nat.ne_of_lt (Nat.lt_of_lt_of_le (Heap.lt_size e) I.ok.above))).trans e1⟩
    · obtain ⟨o', e1⟩ := I.base.there b o e hx
      exact ⟨o', (hs.2 b (Nat.ne_of_lt (Nat.lt_of_lt_of_le (Heap.lt_size e) I.ok.above))).trans e1⟩
    · by_cases hj : j = i
      · subst hj
        rw [hi] at e1; cases e1
        rw [List.getElem?_set_self hiσ] at e2
        cases e2
        exact ⟨u, r, .inl ⟨hk, by simp⟩⟩
      · rw [List.getElem?_set_ne (Ne.symm hj)] at e2
        obtain ⟨u', r', q⟩ := hl j y v' e1 e2 e3
        refine ⟨u', r', ?_⟩
        rcases q with ⟨k, e⟩ | ⟨k, c, e, z⟩
        · refine .inl ⟨k, ?_⟩
          have : y ≠ x := fun e => hj (nodup_ix hN e1 (e ▸ hi))
          simp [this, e]
        · exact .inr ⟨k, c, e, z.sameBut hs (cne y c e)⟩
    · obtain ⟨w', z⟩ := I.cell y c e
      exact ⟨w', z.sameBut hs (cne y c e)⟩
    · obtain ⟨e, n, ne, nf, d⟩ := I.pin p hp
      exact ⟨(hs.2 p.1 ne).trans e, n, ne, nf, d⟩
  · have hfn : X.fn x = true := by
      rcases hf with z | z
      · exact z
      · rw [z] at hk; cases hk
    obtain ⟨c, hc⟩ := I.ok.has x (.inl hk)
    obtain ⟨w', z⟩ := I.cell x c hc
    refine wpAny_storeName_cell I.ok.kind hk hc z (fun h' hc' hs => ?_)
    obtain ⟨oc, hoc, hocd⟩ := id z
    refine h { s with heap := h' } ⟨I.ok, I.os, I.bare, ⟨fun b o e n hb hx => ?_, fun b o e n hb hx => ?_, I.base.free, fun b o e hx => ?_, I.base.tups, I.base.frzs, I.base.tbls⟩, ⟨m, hn.sameBut hs (Ne.symm (cne x c hc)), fun j y v' e1 e2 e3 => ?_⟩, fun y c' e => ?_, I.free, I.freeC, fun p hp => ?_, tracked ⟨oc, hoc, I.freeC x c hc⟩ hs, by simpa using I.len⟩ ⟨c, hs, .inr hc⟩
    · exact (hs.2 b (Nat.ne_of_lt (Nat.lt_of_lt_of_le (Heap.lt_size e) (I.ok.cab x c hfn hc)))).trans (I.base.keep b o e n hb hx)
    · obtain ⟨sl, e1⟩ := I.base.slot b o e n hb hx
      exact ⟨sl, (hs.2 b (Nat.ne_of_lt (Nat.lt_of_lt_of_le (Heap.lt_size e) (I.ok.cab x c hfn hc)))).trans e1⟩
    · obtain ⟨o', e1⟩ := I.base.there b o e hx
      exact ⟨o', (hs.2 b (Nat.ne_of_lt (Nat.lt_of_lt_of_le (Heap.lt_size e) (I.ok.cab x c hfn hc)))).trans e1⟩
    · by_cases hj : j = i
      · subst hj
        rw [hi] at e1; cases e1
        rw [List.getElem?_set_self hiσ] at e2
        cases e2
        exact ⟨u, r, .inr ⟨.inl hk, c, hc, hc'⟩⟩
      · rw [List.getElem?_set_ne (Ne.symm hj)] at e2
        obtain ⟨u', r', q⟩ := hl j y v' e1 e2 e3
        refine ⟨u', r', ?_⟩
        rcases q with q | ⟨k, c', e, z'⟩
        · exact .inl q
        · refine .inr ⟨k, c', e, z'.sameBut hs ?_⟩
          rintro rfl
          exact hj (nodup_ix hN e1 (I.ok.inj _ _ _ e hc ▸ hi))
    · by_cases hcc : c' = c
      · subst hcc; exact ⟨_, hc'⟩
      · obtain ⟨w2, z2⟩ := I.cell y c' e
        exact ⟨w2, z2.sameBut hs hcc⟩
    · obtain ⟨e, n, ne, nf, d⟩ := I.pin p hp
      refine ⟨(hs.2 p.1 ?_).trans e, n, ne, nf, d⟩
      intro q
      rw [q, hoc] at e
      have q' : oc = p.2 := Option.some.inj e
      exact d w' (by rw [← q']; exact hocd)
theorem store_ok {M : Model} {A : Around} {E : Value → Shared → Prop} {i : Nat} {x : Str} {v : V} {u : Value} {Q : Unit → Shared → Prop} (I : Inv X pins σ H s) (hN : X.N.Nodup) (hi : X.N[i]? = some x) (hx : Loc X.env.scope x) (r : RelV v u)
    (h : ∀ s', Inv X pins (σ.set i (some v)) H s' → Q () s') (hf : X.fn x = true ∨ X.env.scope.names.lookup x = some .local := by first | exact .inl rfl | exact .inr rfl | assumption) : wpAny M A (storeName X.env x u) Q E s :=
  store_ok2 I hN hi hx r (fun s' I' _ => h s' I') hf
/-- behind a call or a block, the state as it is -/
theorem Inv.call' {s' : Shared} {ch : List Addr} (I : Inv X pins σ H s) (ho : s'.os = s.os) (u : Un (frs X.stack) ch H H' s.heap s'.heap) (hok : HOk X.prog X.w H' s'.heap) (hg : AllBare s'.gens)
    (hch : ∀ b ∈ ch, (b ∈ X.ex ∨ X.s₀.heap.objs.size ≤ b) ∧ b ≠ X.env.locals ∧ (∀ x c, X.env.cells.lookup x = some c → c ≠ b) ∧ ∀ p ∈ X.pn ++ pins, p.1 ≠ b) : Inv X pins σ H' s' := by
  obtain ⟨h', g', d', t', o'⟩ := s'
  have e : o' = s.os := ho
  subst e
  exact I.call (g' := g') (t' := t') (d' := d') u hok hg hch
end

/-! ### the judgements -/
/-- an exception: its class, its own dict's address (where it has one), the abstract heap behind it -/
abbrev XK := Value → Option Addr → Hp → Prop
abbrev St := List (Option V)
abbrev VK := V → Hp → Prop
/-- an expression's reading; a test's; an argument list's -/
abbrev TE := St → Hp → VK → Prop
abbrev TT := St → Hp → (Bool → Hp → Prop) → Prop
abbrev TA := St → Hp → (List V → Hp → Prop) → Prop
/-- what is wanted behind a statement -/
structure Ends where
  nx : St → Hp → Prop
  rt : VK
  bk : St → Hp → Prop := fun _ _ => False
  ct : St → Hp → Prop := fun _ _ => False
abbrev TS := Ends → St → Hp → Prop

def EP (X : Cx) (pins : List (Addr × Obj)) (σ : St) (Q : VK) (u : Value) (s' : Shared) : Prop := ∃ v H', Inv X pins σ H' s' ∧ RelV v u ∧ Q v H'
def TP (X : Cx) (pins : List (Addr × Obj)) (σ : St) (Q : Bool → Hp → Prop) (b : Bool) (s' : Shared) : Prop := ∃ H', Inv X pins σ H' s' ∧ Q b H'
def AP (X : Cx) (pins : List (Addr × Obj)) (σ : St) (Q : List V → Hp → Prop) (us : List Value) (s' : Shared) : Prop := ∃ vs H', Inv X pins σ H' s' ∧ Vals vs us ∧ Q vs H'
def SP (X : Cx) (pins : List (Addr × Obj)) (D : Ends) (f : Flow) (s' : Shared) : Prop :=
  match f with
  | .next => ∃ σ' H', Inv X pins σ' H' s' ∧ D.nx σ' H'
  | .brk => ∃ σ' H', Inv X pins σ' H' s' ∧ D.bk σ' H'
  | .cont => ∃ σ' H', Inv X pins σ' H' s' ∧ D.ct σ' H'
  | .ret u => ∃ v σ' H', Inv X pins σ' H' s' ∧ RelV v u ∧ D.rt v H'

def PE (X : Cx) (e : Expr) (t : TE) : Prop :=
  ∀ (pins : List (Addr × Obj)) (s : Shared) (σ : St) (H : Hp) (Q : VK), Inv X pins σ H s → t σ H Q → wpAny (model X.prog X.w) X.A (eval e X.env) (EP X pins σ Q) X.xe s
def PT (X : Cx) (e : Expr) (t : TT) : Prop :=
  ∀ (pins : List (Addr × Obj)) (s : Shared) (σ : St) (H : Hp) (Q : Bool → Hp → Prop), Inv X pins σ H s → t σ H Q → wpAny (model X.prog X.w) X.A (isTrue e X.env (eval e X.env)) (TP X pins σ Q) X.xe s
/-- a test whatever its 'whole' is (and, or) -/
def PW (X : Cx) (e : Expr) (t : TT) : Prop :=
  ∀ (whole : Sem Value) (pins : List (Addr × Obj)) (s : Shared) (σ : St) (H : Hp) (Q : Bool → Hp → Prop), Inv X pins σ H s → t σ H Q → wpAny (model X.prog X.w) X.A (isTrue e X.env whole) (TP X pins σ Q) X.xe s
theorem PW.pt {X : Cx} {e : Expr} {t : TT} (h : PW X e t) : PT X e t := h _
/-- an argument list (no star), from the left -/
def PA (X : Cx) (es : List Expr) (t : TA) : Prop :=
  ∀ (pos : Pos) (pins : List (Addr × Obj)) (s : Shared) (σ : St) (H : Hp) (Q : List V → Hp → Prop), Inv X pins σ H s → t σ H Q → wpAny (model X.prog X.w) X.A (spliced (backTo pos (starEach es X.env))) (AP X pins σ Q) X.xe s
def PS (X : Cx) (st : Stmt) (t : TS) : Prop :=
  ∀ (pins : List (Addr × Obj)) (s : Shared) (σ : St) (H : Hp) (D : Ends), Inv X pins σ H s → t D σ H → wpAny (model X.prog X.w) X.A (exec st X.env) (SP X pins D) X.xe s
def PSs (X : Cx) (st : List Stmt) (t : TS) : Prop :=
  ∀ (pins : List (Addr × Obj)) (s : Shared) (σ : St) (H : Hp) (D : Ends), Inv X pins σ H s → t D σ H → wpAny (model X.prog X.w) X.A (execs st X.env) (SP X pins D) X.xe s
/-- weaken the end -/
theorem thn {α : Type} {t : Sem α} {Q Q' : α → Shared → Prop} {M : Model} {A : Around} {E : Value → Shared → Prop} {s : Shared} (h : wpAny M A t Q E s) (hQ : ∀ a s, Q a s → Q' a s) : wpAny M A t Q' E s := wpAny_mono h hQ fun _ _ x => x
end L2

namespace L2
open PySem PySem.Spec PyProof.Rows
section
variable {X : Cx}

/-- two expressions in a row -/
theorem bin {a b : Expr} {ta tb : TE} (ha : PE X a ta) (hb : PE X b tb) {pins : List (Addr × Obj)} {s : Shared} {σ : St} {H : Hp} {R : V → V → Hp → Prop} (I : Inv X pins σ H s) (h : ta σ H fun x H1 => tb σ H1 fun y H2 => R x y H2)
    {α : Type} {Q : α → Shared → Prop} {f : Value → Value → Sem α}
    (hf : ∀ v u s2 x y H2, Inv X pins σ H2 s2 → RelV x v → RelV y u → R x y H2 → wpAny (model X.prog X.w) X.A (f v u) Q X.xe s2) :
    wpAny (model X.prog X.w) X.A (eval a X.env) (fun v s₁ => wpAny (model X.prog X.w) X.A (eval b X.env) (fun u s₂ => wpAny (model X.prog X.w) X.A (f v u) Q X.xe s₂) X.xe s₁) X.xe s := by
  refine thn (ha pins s σ H _ I h) fun v s1 ⟨x, H1, I1, r1, q1⟩ => ?_
  refine thn (hb pins s1 σ H1 _ I1 q1) fun u s2 ⟨y, H2, I2, r2, q2⟩ => ?_
  exact hf v u s2 x y H2 I2 r1 r2 q2

/-! ### names and constants -/
def tVar (i : Nat) : TE := fun σ H Q => ∃ v, σ[i]? = some (some v) ∧ Q v H
def tC (v : V) : TE := fun _ H Q => Q v H
theorem pe_var {i : Nat} {x : Str} {pos : Pos} (hN : X.N[i]? = some x) (hv : Vis X.env.scope x) (hd : (x == ("__debug__" : Str)) = false := by decide) (hcd : (x == ("__classdict__" : Str)) = false := by decide) : PE X (.Name x pos) (tVar i) := by
  intro pins s σ H Q I h
  obtain ⟨v, e, h⟩ := h
  obtain ⟨m, hn, hl⟩ := I.loc
  obtain ⟨u, r, l⟩ := hl i x v hN e hv
  have fin : EP X pins σ Q u s := ⟨v, H, I, r, h⟩
  rcases l with ⟨hk, hm⟩ | ⟨hk, c, hc, hcell⟩
  · exact wpAny_Name (wpAny_loadName_local I.ok.kind hk hn hm fin) hd
  · rcases hk with hk | hk
    · exact wpAny_Name (wpAny_loadName_cell I.ok.kind hk hc hcell fin) hd
    · exact wpAny_Name (wpAny_loadName_free I.ok.kind hk hc hcell fin hcd) hd
theorem pe_int {i j pos} : PE X (.Constant (.int i) j pos) (tC (.int i)) := fun _ _ _ H _ I h => wpAny_Constant_int ⟨.int i, H, I.tok _, ⟨_, rfl⟩, h⟩
theorem pe_bl {b j pos} : PE X (.Constant (.bool b) j pos) (tC (.bl b)) := fun _ _ _ H _ I h => Constant_bool ⟨.bl b, H, I, rfl, h⟩
/-- a global name of the def -/
def Gl (X : Cx) (x : Str) : Prop := X.env.kindOf x = some .globalImplicit
theorem ld_glob {E : Value → Shared → Prop} {pins : List (Addr × Obj)} {s : Shared} {σ : St} {H : Hp} {x : Str} {u : Value} {pos : Pos} {Q : Value → Shared → Prop} (I : Inv X pins σ H s) (hg : Gl X x) (hm : X.mg x = some u) (h : Q u s)
    (hd : (x == ("__debug__" : Str)) = false := by decide) : wpAny (model X.prog X.w) X.A (eval (.Name x pos) X.env) Q E s :=
  Calls.Name_function_global I.ok.kind hg (Calls.loadGlobal_global (by rw [I.ok.glob]; exact I.mod.glob.keeps I.bk) hm h) hd
theorem ld_blt {E : Value → Shared → Prop} {pins : List (Addr × Obj)} {s : Shared} {σ : St} {H : Hp} {x : Str} {u : Value} {pos : Pos} {Q : Value → Shared → Prop} (I : Inv X pins σ H s) (hg : Gl X x) (hm : X.mg x = none) (hv : bootBuiltins x = some u) (h : Q u s)
    (hn : x ≠ "__name__" := by decide) (hd : (x == ("__debug__" : Str)) = false := by decide) : wpAny (model X.prog X.w) X.A (eval (.Name x pos) X.env) Q E s := by
  obtain ⟨mb, h1, h2⟩ := I.mod.blt
  exact Calls.Name_function_global I.ok.kind hg (Calls.loadGlobal_builtin (by rw [I.ok.glob]; exact I.mod.glob.keeps I.bk) hm (by rw [I.ok.blt]; exact h1.keeps I.bk) ((h2 x hn).trans hv) h) hd
theorem pe_bltn {x : Str} {v : V} {u : Value} {pos : Pos} (hg : Gl X x) (hm : X.mg x = none) (hv : bootBuiltins x = some u) (r : RelV v u) (hn : x ≠ "__name__" := by decide) (hd : (x == ("__debug__" : Str)) = false := by decide) : PE X (.Name x pos) (tC v) :=
  fun _ _ _ H _ I h => ld_blt I hg hm hv ⟨v, H, I, r, h⟩ hn hd

/-! ### arithmetic -/
/-- two ints -/
def t2I (ta tb : TE) (k : Int → Int → Hp → Prop) : St → Hp → Prop := fun σ H => ta σ H fun x H1 => tb σ H1 fun y H2 => ∃ i j, x = .int i ∧ y = .int j ∧ k i j H2
def tAdd (ta tb : TE) : TE := fun σ H Q => t2I ta tb (fun i j H2 => Q (.int (i + j)) H2) σ H
def tSub (ta tb : TE) : TE := fun σ H Q => t2I ta tb (fun i j H2 => Q (.int (i - j)) H2) σ H
/-- the left factor below 2^64 -/
def tMul (ta tb : TE) : TE := fun σ H Q => t2I ta tb (fun i j H2 => (-(2 ^ 64) < i ∧ i < 2 ^ 64) ∧ Q (.int (i * j)) H2) σ H
variable {a b : Expr} {ta tb : TE} {pos : Pos}
/-! ### comparisons -/
def PC (X : Cx) (op : CmpOp) (a b : Expr) (t : TE) : Prop :=
  ∀ (pins : List (Addr × Obj)) (s : Shared) (σ : St) (H : Hp) (Q : VK), Inv X pins σ H s → t σ H Q →
    wpAny (model X.prog X.w) X.A (eval a X.env) (fun v s₁ => wpAny (model X.prog X.w) X.A (eval b X.env) (fun u s₂ => wpAny (model X.prog X.w) X.A (compareOp op v u) (EP X pins σ Q) X.xe s₂) X.xe s₁) X.xe s
def tCmp (p : Int → Int → Bool) (ta tb : TE) : TE := fun σ H Q => t2I ta tb (fun i j H2 => Q (.bl (p i j)) H2) σ H
abbrev tLt : TE → TE → TE := tCmp fun i j => decide (i < j)
abbrev tLe : TE → TE → TE := tCmp fun i j => decide (i ≤ j)
abbrev tGt : TE → TE → TE := tCmp fun i j => decide (j < i)
abbrev tGe : TE → TE → TE := tCmp fun i j => decide (j ≤ i)
abbrev tEqI : TE → TE → TE := tCmp fun i j => decide (i = j)
abbrev tNeI : TE → TE → TE := tCmp fun i j => !decide (i = j)
/-- is None -/
def tIsN (ta : TE) : TE := fun σ H Q => ta σ H fun x H1 => Q (.bl (decide (x = .non))) H1
def tNotN (ta : TE) : TE := fun σ H Q => ta σ H fun x H1 => Q (.bl (!decide (x = .non))) H1
/-- a comparison as a value, as a test -/
def tB (t : TE) : TT := fun σ H Q => t σ H fun x H1 => ∃ c, x = .bl c ∧ Q c H1
theorem pt_cmp {op : CmpOp} {t : TE} (h : PC X op a b t) (h1 : behindInMarks op b = false := by first | exact nobehind _ (by decide) (by decide) | rfl) : PT X (.Compare a [op] [b] pos) (tB t) := by
  intro pins s σ H Q I hw
  refine wpAny_isTrue_Compare1 (thn (h pins s σ H _ I hw) fun v s1 h1 => thn h1 fun u s2 h2 => thn h2 fun c s3 ⟨x, H1, I1, r1, q1⟩ => ?_) h1
  obtain ⟨d, rfl, q⟩ := q1
  cases r1
  exact wpAny_truthy_bool ⟨H1, I1, q⟩
/-- an expression whose value is a bool, as a test -/
theorem pt_val {e : Expr} {t : TE} (h : PE X e t) (he : ∀ whole, isTrue e X.env whole = (do let v ← whole; standAt e.pos; holding [v] (truthy v)) := by intro _; rfl) : PT X e (tB t) := by
  intro pins s σ H Q I hw
  refine isTrue_plain (thn (h pins s σ H _ I hw) fun v s1 ⟨x, H1, I1, r1, q1⟩ => ?_) (he _)
  obtain ⟨d, rfl, q⟩ := q1
  cases r1
  exact wpAny_truthy_bool ⟨H1, I1, q⟩

/-! ### and, or, not -/
variable {tA tB' : TT} {rest : List Expr}
def tAnd (t u : TT) : TT := fun σ H Q => t σ H fun c H1 => if c = true then u σ H1 Q else Q false H1
def tOr (t u : TT) : TT := fun σ H Q => t σ H fun c H1 => if c = true then Q true H1 else u σ H1 Q
def tNot (t : TT) : TT := fun σ H Q => t σ H fun c H1 => Q (!c) H1
theorem pw_and1 (ha : PT X a tA) : PW X (.BoolOp .And [a] pos) tA := by
  intro wh pins s σ H Q I h
  refine isTrue_and (thn (ha pins s σ H Q I h) fun c s1 e => ?_)
  cases c with
  | true => exact isTrue_and_nil e
  | false => exact e
theorem pw_or1 (ha : PT X a tA) : PW X (.BoolOp .Or [a] pos) tA := by
  intro wh pins s σ H Q I h
  refine isTrue_or (thn (ha pins s σ H Q I h) fun c s1 e => ?_)
  cases c with
  | false => exact isTrue_or_nil e
  | true => exact e
theorem pw_and (ha : PT X a tA) (hb : PW X (.BoolOp .And (b :: rest) pos) tB') : PW X (.BoolOp .And (a :: b :: rest) pos) (tAnd tA tB') := by
  intro wh pins s σ H Q I h
  refine isTrue_and (thn (ha pins s σ H _ I h) fun c s1 ⟨H1, I1, q1⟩ => ?_)
  cases c with
  | true => exact hb wh pins s1 σ H1 Q I1 q1
  | false => exact ⟨H1, I1, q1⟩
theorem pw_or (ha : PT X a tA) (hb : PW X (.BoolOp .Or (b :: rest) pos) tB') : PW X (.BoolOp .Or (a :: b :: rest) pos) (tOr tA tB') := by
  intro wh pins s σ H Q I h
  refine isTrue_or (thn (ha pins s σ H _ I h) fun c s1 ⟨H1, I1, q1⟩ => ?_)
  cases c with
  | true => exact ⟨H1, I1, q1⟩
  | false => exact hb wh pins s1 σ H1 Q I1 q1
/-- .. as values (bools) -/
def tAndV (ta tb : TE) : TE := fun σ H Q => ta σ H fun x H1 => ∃ c, x = .bl c ∧ if c = true then tb σ H1 Q else Q (.bl false) H1
def tOrV (ta tb : TE) : TE := fun σ H Q => ta σ H fun x H1 => ∃ c, x = .bl c ∧ if c = true then Q (.bl true) H1 else tb σ H1 Q
def tNotV (ta : TE) : TE := fun σ H Q => ta σ H fun x H1 => ∃ c, x = .bl c ∧ Q (.bl (!c)) H1
/-- a if t else b -/
def tIf (t : TT) (ta tb : TE) : TE := fun σ H Q => t σ H fun c H1 => if c = true then ta σ H1 Q else tb σ H1 Q
end
end L2

namespace L2
open PySem PySem.Spec PyProof.Rows

/-! ### a list, a tuple that is read: tracked, frozen, or an object of the module -/
def SqL (K : PySem.W.Frag) (H : Hp) (a : Addr) (xs : List V) : Prop :=
  Rd H a (.lst xs) ∨
    ∃ (o : Obj) (its : Array Value) (n : Nat), K.lookup a = some o ∧ o.cls = .type "list" ∧ o.dict = none ∧ o.data = .seq its n ∧ its.size ≤ sizeLine ∧ Vals xs its.toList
def SqT (K : PySem.W.Frag) (H : Hp) (a : Addr) (xs : List V) : Prop :=
  Rd H a (.tup xs) ∨
    ∃ (o : Obj) (its : Array Value) (n : Nat), K.lookup a = some o ∧ o.cls = .type "tuple" ∧ o.data = .seq its n ∧ its.size ≤ sizeLine ∧ Vals xs its.toList
def absV : Value → Option V
  | .none => some .non
  | .bool b => some (.bl b)
  | .int i _ => some (.int i)
  | .str x _ => some (.str x)
  | .bytes b _ => some (.byt b)
  | .float b _ => some (.flt b)
  | .ref a => some (.ref a)
  | .type n => some (.ty n)
  | _ => none
theorem RelV.abs {x : V} {u : Value} (r : RelV x u) : absV u = some x := by
  cases x with
  | non => cases r; rfl
  | bl _ => cases r; rfl
  | int _ => obtain ⟨t, rfl⟩ := r; rfl
  | str _ => obtain ⟨t, rfl⟩ := r; rfl
  | byt _ => obtain ⟨t, rfl⟩ := r; rfl
  | flt _ => obtain ⟨t, rfl⟩ := r; rfl
  | ref _ => cases r; rfl
  | ty _ => cases r; rfl
theorem RelV.inj {x y : V} {u : Value} (r : RelV x u) (q : RelV y u) : x = y := Option.some.inj (r.abs.symm.trans q.abs)
theorem Vals.inj : ∀ {xs ys : List V} {us : List Value}, Vals xs us → Vals ys us → xs = ys
  | _, _, _, .nil, .nil => rfl
  | _, _, _, .cons r t, .cons r' t' => by rw [r.inj r', Vals.inj t t']
section
variable {X : Cx} {pins : List (Addr × Obj)} {σ : St} {H : Hp} {s : Shared} {a : Addr} {xs ys : List V}
theorem SqL.of {K : PySem.W.Frag} (h : H a = some (.lst xs)) : SqL K H a xs := .inl (.inl h)
theorem SqT.of {K : PySem.W.Frag} (h : H a = some (.tup xs)) : SqT K H a xs := .inl (.inl h)
theorem Inv.list (I : Inv X pins σ H s) (h : SqL X.K H a xs) : ∃ its : List Value, Vals xs its ∧ PlainL s.heap a its.toArray ∧ xs.length ≤ sizeLine := by
  rcases h with h | ⟨o, its, n, hk, hc, hd, hs, hz, r⟩
  · obtain ⟨z, its, n, r, e⟩ := h.ok I.hok
    exact ⟨its, r, ⟨_, n, e, rfl, rfl, rfl⟩, z⟩
  · refine ⟨its.toList, r, ⟨o, n, I.kIn a o hk, hc, hd, by simpa using hs⟩, ?_⟩
    have e := r.length
    simp only [Array.length_toList] at e
    omega
theorem Inv.tuple (I : Inv X pins σ H s) (h : SqT X.K H a xs) : ∃ its : List Value, Vals xs its ∧ IsTup s.heap a its.toArray ∧ xs.length ≤ sizeLine := by
  rcases h with h | ⟨o, its, n, hk, hc, hs, hz, r⟩
  · obtain ⟨z, its, r, p⟩ := h.ok I.hok
    exact ⟨its, r, p, z⟩
  · refine ⟨its.toList, r, ⟨o, I.kIn a o hk, hc, n, by simpa using hs⟩, ?_⟩
    have e := r.length
    simp only [Array.length_toList] at e
    omega
theorem Inv.list_inj (I : Inv X pins σ H s) (h : SqL X.K H a xs) (h' : SqL X.K H a ys) : xs = ys := by
  obtain ⟨its, r, ⟨o, n, e, _, _, d⟩, _⟩ := I.list h
  obtain ⟨its', r', ⟨o', n', e', _, _, d'⟩, _⟩ := I.list h'
  rw [e] at e'; cases e'
  rw [d] at d'
  injection d' with d1 _
  have : its = its' := by simpa using congrArg Array.toList d1
  subst this
  exact r.inj r'
end

/-! ### another wish about exceptions -/
abbrev Cx.wish (X : Cx) (E : Value → Shared → Prop) : Cx := { X with xe := E }
/-- no exception leaves -/
abbrev Cx.nox (X : Cx) : Cx := X.wish fun _ _ => False
theorem Cx.Ok.wish {X : Cx} (ok : X.Ok) (E : Value → Shared → Prop) : (X.wish E).Ok :=
  ⟨ok.mod, ok.kind, ok.glob, ok.blt, ok.above, ok.inj, ok.has, ok.cab, ok.hd, ok.frames, ok.stk, ok.exf, ok.bs, ok.bsz, ok.noex, ok.exfs, ok.funs, ok.frf⟩
theorem Cx.Ok.unwish {X : Cx} {E : Value → Shared → Prop} (ok : (X.wish E).Ok) : X.Ok :=
  ⟨ok.mod, ok.kind, ok.glob, ok.blt, ok.above, ok.inj, ok.has, ok.cab, ok.hd, ok.frames, ok.stk, ok.exf, ok.bs, ok.bsz, ok.noex, ok.exfs, ok.funs, ok.frf⟩
section
variable {X : Cx} {pins : List (Addr × Obj)} {σ : St} {H : Hp} {s : Shared} {E : Value → Shared → Prop}
theorem Inv.wish (I : Inv X pins σ H s) (E : Value → Shared → Prop) : Inv (X.wish E) pins σ H s := ⟨I.ok.wish E, I.os, I.bare, I.base, I.loc, I.cell, I.free, I.freeC, I.pin, I.hok, I.len⟩
theorem Inv.unwish (I : Inv (X.wish E) pins σ H s) : Inv X pins σ H s := ⟨I.ok.unwish, I.os, I.bare, I.base, I.loc, I.cell, I.free, I.freeC, I.pin, I.hok, I.len⟩
theorem SP.unwish {D : Ends} {f : Flow} {s' : Shared} (h : SP (X.wish E) pins D f s') : SP X pins D f s' := by
  cases f with
  | next => obtain ⟨σ', H', I, q⟩ := h; exact ⟨σ', H', I.unwish, q⟩
  | brk => obtain ⟨σ', H', I, q⟩ := h; exact ⟨σ', H', I.unwish, q⟩
  | cont => obtain ⟨σ', H', I, q⟩ := h; exact ⟨σ', H', I.unwish, q⟩
  | ret u => obtain ⟨v, σ', H', I, r, q⟩ := h; exact ⟨v, σ', H', I.unwish, r, q⟩
theorem PSs.nox {st : List Stmt} {t : TS} (h : PSs X.nox st t) : PSs X st t := fun pins s σ H D I hw =>
  wpAny_mono (h pins s σ H D (I.wish _) hw) (fun _ _ q => q.unwish) fun _ _ z => False.elim z
end

/-! ### blocks and small statements -/
section
variable {X : Cx} {st : Stmt} {rest : List Stmt} {t u : TS} {e : Expr} {te : TE} {pos : Pos}
def tNext : TS := fun D σ H => D.nx σ H
def tSeq (t u : TS) : TS := fun D σ H => t { D with nx := u D } σ H
theorem pss_nil : PSs X [] tNext := fun _ _ σ H _ I h => wpAny_execs_nil ⟨σ, H, I, h⟩
theorem pss_cons (h1 : PS X st t) (h2 : PSs X rest u) : PSs X (st :: rest) (tSeq t u) := by
  intro pins s σ H D I h
  refine wpAny_execs_cons (thn (h1 pins s σ H { D with nx := u D } I h) fun f s1 q => ?_)
  cases f with
  | next =>
    obtain ⟨σ', H', I', q⟩ := q
    exact h2 pins s1 σ' H' D I' q
  | ret v => exact q
  | brk => exact q
  | cont => exact q
theorem pss_one (h1 : PS X st t) : PSs X [st] t := by
  intro pins s σ H D I h
  refine wpAny_execs_cons (thn (h1 pins s σ H D I h) fun f s1 q => ?_)
  cases f with
  | next => exact wpAny_execs_nil q
  | ret v => exact q
  | brk => exact q
  | cont => exact q
def tBreak : TS := fun D σ H => D.bk σ H
def tCont : TS := fun D σ H => D.ct σ H
/-- in a def's body nothing is shown -/
theorem Inv.quiet {pins : List (Addr × Obj)} {σ : St} {H : Hp} {s : Shared} (I : Inv X pins σ H s) : interactive X.env = false := by simp [interactive, I.ok.kind]
/-- an expression whose value is dropped -/
def tDrop (te : TE) : TS := fun D σ H => te σ H fun _ H1 => D.nx σ H1
theorem ps_expr (he : PE X e te) (hs : swapsWith e none pos.line X.env = pure false := by rfl) : PS X (.Expr e pos) (tDrop te) := by
  intro pins s σ H D I h
  exact wpAny_Expr_any (thn (he pins s σ H _ I h) fun v s1 ⟨x, H1, I1, r1, q1⟩ => ⟨σ, H1, I1, q1⟩) I.quiet hs
def tRet (te : TE) : TS := fun D σ H => te σ H D.rt
theorem ps_ret (he : PE X e te) : PS X (.Return (some e) pos) (tRet te) := by
  intro pins s σ H D I h
  exact wpAny_Return_some (thn (he pins s σ H _ I h) fun v s1 ⟨x, H1, I1, r1, q1⟩ => ⟨x, σ, H1, I1, r1, q1⟩)
def tRetN : TS := fun D _ H => D.rt .non H
def tIfS (c : TT) (t u : TS) : TS := fun D σ H => c σ H fun b H1 => if b = true then t D σ H1 else u D σ H1
theorem ps_if {c : Expr} {a b : List Stmt} {tc : TT} (hc : PT X c tc) (ha : PSs X a t) (hb : PSs X b u) : PS X (.If c a b pos) (tIfS tc t u) := by
  intro pins s σ H D I h
  refine wpAny_If (thn (hc pins s σ H _ I h) fun d s1 ⟨H1, I1, q1⟩ => ?_)
  cases d with
  | true => exact ha pins s1 σ H1 D I1 q1
  | false => exact hb pins s1 σ H1 D I1 q1
/-- code that the proof never comes to -/
def tNever : TS := fun _ _ _ => False
end

/-! ### targets -/
abbrev TG := V → St → Hp → (St → Hp → Prop) → Prop
abbrev TGs := List V → St → Hp → (St → Hp → Prop) → Prop
def PG (X : Cx) (target : Expr) (t : TG) : Prop :=
  ∀ (pins : List (Addr × Obj)) (s : Shared) (σ : St) (H : Hp) (v : V) (u : Value) (Q : St → Hp → Prop), Inv X pins σ H s → RelV v u → t v σ H Q →
    wpAny (model X.prog X.w) X.A (assign target X.env u) (fun _ s' => ∃ σ' H', Inv X pins σ' H' s' ∧ Q σ' H') X.xe s
/-- several targets, one after another -/
def PGs (X : Cx) (ts : List Expr) (t : TGs) : Prop :=
  ∀ (pins : List (Addr × Obj)) (s : Shared) (σ : St) (H : Hp) (vs : List V) (us : List Value) (Q : St → Hp → Prop), Inv X pins σ H s → Vals vs us → t vs σ H Q →
    wpAny (model X.prog X.w) X.A (assignInOrder ((assignEach ts X.env).map (·.2)) us) (fun _ s' => ∃ σ' H', Inv X pins σ' H' s' ∧ Q σ' H') X.xe s
/-- o[i] = v, by values -/
abbrev TSet := V → V → V → Hp → (Hp → Prop) → Prop
def PSet (X : Cx) (t : TSet) : Prop :=
  ∀ (pins : List (Addr × Obj)) (s : Shared) (σ : St) (H : Hp) (o i v : V) (ov iv u : Value) (Q : Hp → Prop), Inv X pins σ H s → RelV o ov → RelV i iv → RelV v u → t o i v H Q →
    wpAny (model X.prog X.w) X.A (setItem ov iv u) (fun _ s' => ∃ H', Inv X pins σ H' s' ∧ Q H') X.xe s
/-- a op= b, by values -/
abbrev TIp := V → V → Hp → VK → Prop
def PIp (X : Cx) (op : Operator) (t : TIp) : Prop :=
  ∀ (pins : List (Addr × Obj)) (s : Shared) (σ : St) (H : Hp) (x y : V) (v u : Value) (Q : VK), Inv X pins σ H s → RelV x v → RelV y u → t x y H Q →
    wpAny (model X.prog X.w) X.A (inplaceOp op v u) (EP X pins σ Q) X.xe s
section
variable {X : Cx} {pos : Pos}
def gName (i : Nat) : TG := fun v σ H Q => Q (σ.set i (some v)) H
theorem pg_name {i : Nat} {x : Str} (hN : X.N.Nodup) (hi : X.N[i]? = some x) (hx : Loc X.env.scope x) (hf : X.fn x = true ∨ X.env.scope.names.lookup x = some .local := by first | exact .inl rfl | exact .inr rfl | assumption) : PG X (.Name x pos) (gName i) := by
  intro pins s σ H v u Q I r h
  exact wpAny_assign_Name (store_ok I hN hi hx r (fun s' I' => ⟨_, H, I', h⟩) hf)
def gNil : TGs := fun vs σ H Q => vs = [] ∧ Q σ H
def gCons (t : TG) (u : TGs) : TGs := fun vs σ H Q => ∃ v r, vs = v :: r ∧ t v σ H fun σ' H' => u r σ' H' Q
theorem pgs_nil : PGs X [] gNil := by
  intro pins s σ H vs us Q I r h
  obtain ⟨e, h⟩ := h
  subst e
  cases r
  exact assignInOrder_nil ⟨σ, H, I, h⟩
theorem pgs_cons {e : Expr} {es : List Expr} {t : TG} {u : TGs} (h1 : PG X e t) (h2 : PGs X es u)
    (hs : (assignEach (e :: es) X.env).map (·.2) = assign e X.env :: (assignEach es X.env).map (·.2) := by rfl) : PGs X (e :: es) (gCons t u) := by
  intro pins s σ H vs us Q I r h
  obtain ⟨v, vr, e1, h⟩ := h
  subst e1
  cases r with
  | cons r rr =>
    rw [hs]
    refine assignInOrder_cons (thn (h1 pins s σ H _ _ _ I r h) fun _ s1 ⟨σ1, H1, I1, q1⟩ => ?_)
    exact h2 pins s1 σ1 H1 _ _ Q I1 rr q1
/-- (a, b, ..) = a tuple of that length -/
def gTup (K : PySem.W.Frag) (n : Nat) (t : TGs) : TG := fun v σ H Q => ∃ a xs, v = .ref a ∧ SqT K H a xs ∧ xs.length = n ∧ t xs σ H Q
theorem pg_tup {es : List Expr} {k : Nat} {t : TGs} {n : Nat} (hc : X.calm = true) (h : PGs X es t)
    (hn : (assignEach es X.env).length = n := by rfl) (hst : (assignEach es X.env).findIdx? (·.1) = none := by rfl) : PG X (.Tuple es k pos) (gTup X.K n t) := by
  intro pins s σ H v u Q I r hw
  obtain ⟨a, xs, e1, hq, hl, hw⟩ := hw
  subst e1
  cases r
  obtain ⟨its, rv, ht, hz⟩ := I.tuple hq
  refine assign_Tuple_tuple (I.ok.hd hc) ht (by simp [hn, ← hl, rv.length]) hst fun h' hx => ?_
  have I1 : Inv X pins σ H { s with heap := h' } := I.kept (t' := s.toks) fun b o e => hx b o (Nat.ne_of_lt (Heap.lt_size e)) e
  exact h pins _ σ H xs _ Q I1 (by simpa using rv) hw
/-- o[i] = .. -/
def gSub (to ti : TE) (t : TSet) : TG := fun v σ H Q => to σ H fun o H1 => ti σ H1 fun i H2 => t o i v H2 fun H3 => Q σ H3
theorem pg_sub {o i : Expr} {to ti : TE} {t : TSet} (ho : PE X o to) (hi : PE X i ti) (hs : PSet X t)
    (ha : ∀ v, assign (.Subscript o i pos) X.env v = (do
      let ov ← holding [v] (eval o X.env)
      let iv ← holding [v, ov] (eval i X.env)
      standAt pos
      holding [v, ov, iv] (setItem ov iv v)
      release [v, ov, iv] []) := by intro _; rfl) : PG X (.Subscript o i pos) (gSub to ti t) := by
  intro pins s σ H v u Q I r h
  rw [ha]
  refine wpAny_bind (wpAny_holding (thn (ho pins s σ H _ I h) fun ov s1 ⟨x, H1, I1, r1, q1⟩ => ?_))
  refine wpAny_bind (wpAny_holding (thn (hi pins s1 σ H1 _ I1 q1) fun iv s2 ⟨y, H2, I2, r2, q2⟩ => ?_))
  refine wpAny_bind (wpAny_standAt (wpAny_bind (wpAny_holding (thn (hs pins s2 σ H2 x y v ov iv u _ I2 r1 r2 r q2) fun _ s3 ⟨H3, I3, q3⟩ => ?_))))
  exact wpAny_release ⟨σ, H3, I3, q3⟩
/-- target = value -/
def tAsg (te : TE) (g : TG) : TS := fun D σ H => te σ H fun x H1 => g x σ H1 D.nx
theorem ps_asg {tg e : Expr} {te : TE} {g : TG} (he : PE X e te) (hg : PG X tg g) (hs : swapsWithSole [tg] e pos.line X.env = pure false := by rfl) (hw : swappedStores [tg] e X.env = pure none := by rfl)
    (h1 : (assignEach [tg] X.env).map (·.2) = [assign tg X.env] := by rfl) : PS X (.Assign [tg] e pos) (tAsg te g) := by
  intro pins s σ H D I h
  refine wpAny_Assign_stores (thn (he pins s σ H _ I h) fun v s1 ⟨x, H1, I1, r1, q1⟩ => ?_) hs hw
  rw [h1]
  exact thn (hg pins s1 σ H1 x v _ I1 r1 q1) fun _ s2 q => q
/-- name = value -/
theorem ps_set {i : Nat} {x : Str} {e : Expr} {te : TE} {pos' : Pos} (hN : X.N.Nodup) (hi : X.N[i]? = some x) (hx : Loc X.env.scope x) (he : PE X e te) (hs : swapsWith e (some (.Name x pos')) pos.line X.env = pure false := by rfl) (hf : X.fn x = true ∨ X.env.scope.names.lookup x = some .local := by first | exact .inl rfl | exact .inr rfl | assumption) :
    PS X (.Assign [.Name x pos'] e pos) (tAsg te (gName i)) := by
  intro pins s σ H D I h
  refine wpAny_Assign_Name (thn (he pins s σ H _ I h) fun v s1 ⟨y, H1, I1, r1, q1⟩ => ?_) hs
  exact store_ok I1 hN hi hx r1 (fun s2 I2 => ⟨_, H1, I2, q1⟩) hf
/-- a, b = x, y with plain local names: stored from the right; the pair itself is not tracked (the opening rows as in PyProof/Rows/TupAssign.lean:23) -/
def tPar (i j : Nat) (ta : TA) : TS := fun D σ H => ta σ H fun vs H1 => ∃ v w, vs = [v, w] ∧ D.nx ((σ.set i (some v)).set j (some w)) H1
/-- name op= e -/
def tAug (i : Nat) (te : TE) (ti : TIp) : TS := fun D σ H => ∃ x, σ[i]? = some (some x) ∧ te σ H fun y H1 => ti x y H1 fun z H2 => D.nx (σ.set i (some z)) H2
theorem ps_aug {i : Nat} {x : Str} {e : Expr} {te : TE} {op : Operator} {ti : TIp} {pos' : Pos} (hN : X.N.Nodup) (hi : X.N[i]? = some x) (hx : Loc X.env.scope x) (he : PE X e te) (ho : PIp X op ti) (hf : X.fn x = true ∨ X.env.scope.names.lookup x = some .local := by first | exact .inl rfl | exact .inr rfl | assumption) :
    PS X (.AugAssign (.Name x pos') op e pos) (tAug i te ti) := by
  intro pins s σ H D I h
  obtain ⟨v, e1, h⟩ := h
  obtain ⟨m, hn, hl⟩ := I.loc
  have vis : Vis X.env.scope x := by rcases hx with k | k; exact .inl k; exact .inr (.inl k)
  obtain ⟨u, r, l⟩ := hl i x v hi e1 vis
  refine wpAny_AugAssign_Name ?_
  have go : wpAny (model X.prog X.w) X.A (eval e X.env) (fun w s₂ => wpAny (model X.prog X.w) X.A (inplaceOp op u w) (fun r s₃ => wpAny (model X.prog X.w) X.A (storeName X.env x r) (fun _ => SP X pins D .next) X.xe s₃) X.xe s₂) X.xe s := by
    refine thn (he pins s σ H _ I h) fun w s1 ⟨y, H1, I1, r1, q1⟩ => ?_
    refine thn (ho pins s1 σ H1 v y u w _ I1 r r1 q1) fun z s2 ⟨zv, H2, I2, r2, q2⟩ => ?_
    exact store_ok I2 hN hi hx r2 (fun s3 I3 => ⟨_, H2, I3, q2⟩) hf
  rcases l with ⟨hk, hm⟩ | ⟨hk, c, hc, hcell⟩
  · exact wpAny_loadName_local I.ok.kind hk hn hm go
  · rcases hk with hk | hk
    · exact wpAny_loadName_cell I.ok.kind hk hc hcell go
    · rcases hx with k | k
      · have : X.env.scope.names.lookup x = some .free := hk
        rw [k] at this; cases this
      · have : X.env.scope.names.lookup x = some .free := hk
        rw [k] at this; cases this
/-- o[i] op= e -/
def tAugS (to ti te : TE) (tget : V → V → Hp → VK → Prop) (tip : TIp) (tset : TSet) : TS := fun D σ H => to σ H fun o H1 => ti σ H1 fun i H2 => tget o i H2 fun x H3 => te σ H3 fun y H4 => tip x y H4 fun z H5 => tset o i z H5 fun H6 => D.nx σ H6
/-- o[i], by values -/
def PGet (X : Cx) (t : V → V → Hp → VK → Prop) : Prop :=
  ∀ (pins : List (Addr × Obj)) (s : Shared) (σ : St) (H : Hp) (o i : V) (ov iv : Value) (Q : VK), Inv X pins σ H s → RelV o ov → RelV i iv → t o i H Q →
    wpAny (model X.prog X.w) X.A (getItem ov iv) (EP X pins σ Q) X.xe s
theorem ps_augS {o i e : Expr} {to ti te : TE} {tget : V → V → Hp → VK → Prop} {tip : TIp} {tset : TSet} {op : Operator} {tpos : Pos} (ho : PE X o to) (hi : PE X i ti) (hg : PGet X tget) (he : PE X e te) (hp : PIp X op tip) (hs : PSet X tset)
    (ha : ∀ ov iv new, augStore i ov iv new = (do holding [new, ov, iv] (setItem ov iv new); release [new, ov, iv] []; pure .next) := by intros; rfl) : PS X (.AugAssign (.Subscript o i tpos) op e pos) (tAugS to ti te tget tip tset) := by
  intro pins s σ H D I h
  refine wpAny_AugAssign_SubscriptAny (thn (ho pins s σ H _ I h) fun ov s1 ⟨x1, H1, I1, r1, q1⟩ => ?_) ha
  refine thn (hi pins s1 σ H1 _ I1 q1) fun iv s2 ⟨x2, H2, I2, r2, q2⟩ => ?_
  refine thn (hg pins s2 σ H2 x1 x2 ov iv _ I2 r1 r2 q2) fun old s3 ⟨x3, H3, I3, r3, q3⟩ => ?_
  refine thn (he pins s3 σ H3 _ I3 q3) fun v s4 ⟨x4, H4, I4, r4, q4⟩ => ?_
  refine thn (hp pins s4 σ H4 x3 x4 old v _ I4 r3 r4 q4) fun new s5 ⟨x5, H5, I5, r5, q5⟩ => ?_
  exact thn (hs pins s5 σ H5 x1 x2 x5 ov iv new _ I5 r1 r2 r5 q5) fun _ s6 ⟨H6, I6, q6⟩ => ⟨σ, H6, I6, q6⟩
/-- ints -/
def ipI (f : Int → Int → Int) : TIp := fun x y H Q => ∃ i j, x = .int i ∧ y = .int j ∧ Q (.int (f i j)) H
theorem ip_add : PIp X .Add (ipI fun i j => i + j) := by
  intro pins s σ H x y v u Q I r1 r2 h
  obtain ⟨i, j, e1, e2, q⟩ := h
  subst e1; subst e2
  obtain ⟨t, rfl⟩ := r1
  obtain ⟨t', rfl⟩ := r2
  exact iadd_int ⟨.int _, H, I.tok _, ⟨_, rfl⟩, q⟩
end

/-! ### while -/
section
variable {X : Cx} {pos : Pos}
/-- the invariant W with its measure -/
def tWhile (c : TT) (tb : TS) : TS := fun D σ H => ∃ W : Nat → St → Hp → Prop, (∃ m, W m σ H) ∧ ∀ m σ H, W m σ H →
  c σ H fun b H1 => if b = true then ∃ N : St → Hp → Prop, (∀ σ' H', N σ' H' → ∃ m', m' < m ∧ W m' σ' H') ∧ tb { D with nx := N, ct := N, bk := D.nx } σ H1 else D.nx σ H1
theorem ps_while {c : Expr} {body : List Stmt} {tc : TT} {tb : TS} (hp : PassesOwn (model X.prog X.w) X.A X.env X.xe) (hc : PT X c tc) (hb : PSs X body tb) : PS X (.While c body [] pos) (tWhile tc tb) := by
  intro pins s σ H D I h
  obtain ⟨W, ⟨m0, w0⟩, turn⟩ := h
  refine wpAny_While (codeAny_whileLoop (fun n s' => ∃ σ' H', Inv X pins σ' H' s' ∧ W n σ' H') ?_ m0 ⟨σ, H, I, w0⟩)
  rintro n s1 ⟨σ1, H1, I1, w1⟩
  refine wpAny_passesOwn hp (thn (hc pins s1 σ1 H1 _ I1 (turn n σ1 H1 w1)) fun b s2 ⟨H2, I2, q2⟩ => ?_)
  cases b with
  | true =>
    obtain ⟨N, hN, q2⟩ := q2
    rw [if_pos rfl]
    refine wpAny_passesOwn hp (thn (hb pins s2 σ1 H2 _ I2 q2) fun f s3 q3 => ?_)
    cases f with
    | next =>
      obtain ⟨σ3, H3, I3, n3⟩ := q3
      obtain ⟨m', hm, w3⟩ := hN σ3 H3 n3
      exact ⟨m', hm, σ3, H3, I3, w3⟩
    | cont =>
      obtain ⟨σ3, H3, I3, n3⟩ := q3
      obtain ⟨m', hm, w3⟩ := hN σ3 H3 n3
      exact ⟨m', hm, σ3, H3, I3, w3⟩
    | brk => exact q3
    | ret v => exact q3
  | false =>
    rw [if_neg Bool.false_ne_true]
    exact wpAny_execs_nil ⟨σ1, H2, I2, q2⟩
end

/-! ### what a loop or a comprehension walks -/
/-- at turn i: it yields x (the heap may grow), or it stops -/
structure It where
  go : Nat → Hp → Prop
  yld : Nat → Hp → V → Hp → Prop
  stop : Nat → Hp → Prop
/-- the iterator's own objects may turn: they are not the frame's, not pinned, younger than the entry (or a comprehension's own) -/
def FpOk (X : Cx) (pins : List (Addr × Obj)) (H : Hp) (b : Addr) : Prop :=
  H b = none ∧ b ≠ X.env.locals ∧ b ∉ X.fs ∧ (b ∈ X.ex ∨ X.s₀.heap.objs.size ≤ b) ∧ (∀ x c, X.env.cells.lookup x = some c → c ≠ b) ∧ ∀ p ∈ X.pn ++ pins, p.1 ≠ b
theorem Inv.fpOk {X : Cx} {pins : List (Addr × Obj)} {σ : St} {H H' : Hp} {s : Shared} {b : Addr} (I : Inv X pins σ H s) (hb : s.heap.objs.size ≤ b) (hn : H' b = none) : FpOk X pins H' b := by
  refine ⟨hn, Nat.ne_of_gt (Nat.lt_of_lt_of_le I.lt hb), I.nofs hb, .inr (Nat.le_trans I.sz hb), fun x c e z => ?_, fun p hp z => ?_⟩
  · obtain ⟨v, q⟩ := I.cell x c e
    exact absurd (Nat.lt_of_lt_of_le q.lt (by rw [z]; exact hb)) (Nat.lt_irrefl _)
  · exact absurd (Nat.lt_of_lt_of_le (Heap.lt_size (I.pin p hp).1) (by rw [z]; exact hb)) (Nat.lt_irrefl _)
structure Turn (P : Program) (w : World) (K : PySem.W.Frag) (tg : Expr) (J : It) (fp : List Addr) (it : Addr) (tn : Nat → Heap → Prop) : Prop where
  mem : it ∈ fp
  obj : ∀ i h, tn i h → ∀ b ∈ fp, ∃ o, h.get? b = some o ∧ ∀ v, o.data ≠ .cell v
  keep : ∀ i h h', tn i h → (∀ b ∈ fp, ∀ o, h.get? b = some o → h'.get? b = some o) → tn i h'
  item : ∀ (X : Cx), X.prog = P → X.w = w → X.K = K → X.calm = true → ∀ (i : Nat) (pins : List (Addr × Obj)) (s : Shared) (σ : St) (H : Hp) (E : Value → Shared → Prop), Inv X pins σ H s → (∀ b ∈ fp, FpOk X pins H b) → tn i s.heap → J.go i H →
    wpAny (model P w) X.A (pyNext (.ref it)) (fun r s1 => ∃ u, r = some u ∧
      wpAny (model P w) X.A (letOwnedTupleGo tg (.ref it) u) (fun _ s2 => ∃ x H', Inv X pins σ H' s2 ∧ RelV x u ∧ J.yld i H x H' ∧ tn (i + 1) s2.heap ∧ ∀ b ∈ fp, H' b = none) E s1) E s
  done : ∀ (X : Cx), X.prog = P → X.w = w → X.K = K → X.calm = true → ∀ (i : Nat) (pins : List (Addr × Obj)) (s : Shared) (σ : St) (H : Hp) (E : Value → Shared → Prop), Inv X pins σ H s → (∀ b ∈ fp, FpOk X pins H b) → tn i s.heap → J.stop i H →
    wpAny (model P w) X.A (pyNext (.ref it)) (fun r s1 => r = none ∧ Inv X pins σ H s1) E s
  self : ∀ (A : Around) (i : Nat) (s : Shared) (Q : Value → Shared → Prop) (E : Value → Shared → Prop), tn i s.heap → Q (.ref it) s → wpAny (model P w) A (pyIter (.ref it)) Q E s
abbrev TI := St → Hp → (It → Hp → Prop) → Prop
/-- an iterator has come -/
def PIE (X : Cx) (pins : List (Addr × Obj)) (σ : St) (tg : Expr) (R : It → Hp → Prop) (itv : Value) (s2 : Shared) : Prop :=
  ∃ (it : Addr) (fp : List Addr) (tn : Nat → Heap → Prop) (J : It) (H' : Hp), itv = .ref it ∧ Inv X pins σ H' s2 ∧ Turn X.prog X.w X.K tg J fp it tn ∧ tn 0 s2.heap ∧ (∀ b ∈ fp, FpOk X pins H' b) ∧ R J H'
def PI (X : Cx) (tg iter : Expr) (wi : TI) : Prop :=
  ∀ (pins : List (Addr × Obj)) (s : Shared) (σ : St) (H : Hp) (R : It → Hp → Prop), Inv X pins σ H s → wi σ H R →
    wpAny (model X.prog X.w) X.A (eval iter X.env) (fun v s1 => wpAny (model X.prog X.w) X.A (pyIter v) (PIE X pins σ tg R) X.xe s1) X.xe s

/-- the step ahead of the store is nothing for an iterator that keeps no tuple -/
theorem go_of {M : Model} {A : Around} {E : Value → Shared → Prop} {s : Shared} {tg : Expr} {it : Addr} {u : Value} {o : Obj} {n : String} {vs : Array Value} {Q : Unit → Shared → Prop} (ho : s.heap.get? it = some o) (hc : o.cls = .type n) (hd : o.data = .fields vs)
    (hn : ["enumerate", "zip", "dict_itemiterator", "dict_reverseitemiterator", "odict_iterator", "itertools.zip_longest", "itertools.pairwise"].contains n = false) (hQ : Q () s) : wpAny M A (letOwnedTupleGo tg (.ref it) u) Q E s := by
  unfold letOwnedTupleGo
  cases tg <;> first
    | exact wpAny_pure hQ
    | (cases u <;> first
        | exact wpAny_pure hQ
        | (refine wpAny_bind (wpAny_load ho ?_)
           rw [hc, hd]
           show wpAny M A (if (["enumerate", "zip", "dict_itemiterator", "dict_reverseitemiterator", "odict_iterator", "itertools.zip_longest", "itertools.pairwise"].contains n && vs[0]? == some (rawInt _)) = true then _ else _) Q E s
           rw [if_neg (by intro h; rw [hn, Bool.false_and] at h; cases h)]
           exact wpAny_pure hQ))

/-- the list at a, as it stands at each turn (a loop may append to it) -/
def Itl (K : PySem.W.Frag) (a : Addr) : It :=
  ⟨fun i H => ∃ xs x, SqL K H a xs ∧ xs[i]? = some x, fun i H x H' => H' = H ∧ ∀ xs, SqL K H a xs → xs[i]? = some x, fun i H => ∃ xs, SqL K H a xs ∧ xs.length ≤ i⟩
def Itt (K : PySem.W.Frag) (a : Addr) : It :=
  ⟨fun i H => ∃ xs x, SqT K H a xs ∧ xs[i]? = some x, fun i H x H' => H' = H ∧ ∀ xs, SqT K H a xs → xs[i]? = some x, fun i H => ∃ xs, SqT K H a xs ∧ xs.length ≤ i⟩
/-- lo, lo + 1, .. (n of them) -/
def Itr (lo : Int) (n : Nat) : It := ⟨fun i _ => i < n, fun i H x H' => H' = H ∧ x = .int (lo + i), fun i _ => n ≤ i⟩
theorem turn_list {P : Program} {w : World} {K : PySem.W.Frag} {tg : Expr} (a it : Addr) : Turn P w K tg (Itl K a) [it] it (fun i h => h.IsListIter it a i) where
  mem := by simp
  obj := fun i h st b hb => by
    have e : b = it := by simpa using hb
    subst e
    obtain ⟨o, e, c, d⟩ := st
    exact ⟨o, e, fun v z => by rw [d] at z; cases z⟩
  keep := fun i h h' st k => st.at fun o e => k it (by simp) o e
  item := by
    intro X hP hw hK hc i pins s σ H E I hf st hg
    subst hP hw hK
    obtain ⟨xs, x, hq, hx⟩ := hg
    obtain ⟨its, rv, p, hz⟩ := I.list hq
    obtain ⟨u, hu, ru⟩ := rv.get hx
    obtain ⟨f0, f1, f2, f3, f4, f5⟩ := hf it (by simp)
    refine wpAny_pyNext_list_item st p.isList (x := u) (by simpa using hu) fun h' st' sb => ?_
    have I1 : Inv X pins σ H { s with heap := h' } := I.turned (t' := s.toks) (fun b o hb e => (sb.2 b hb).trans e) f0 f1 f3 f4 f5
    obtain ⟨o, e, c, d⟩ := id st'
    exact ⟨u, rfl, go_of (s := { s with heap := h' }) e c d (by decide) ⟨x, H, I1, ru, ⟨rfl, fun ys hy => by rw [I.list_inj hy hq]; exact hx⟩, st', fun b hb => (hf b hb).1⟩⟩
  done := by
    intro X hP hw hK hc i pins s σ H E I hf st hg
    subst hP hw hK
    obtain ⟨xs, hq, hx⟩ := hg
    obtain ⟨its, rv, p, hz⟩ := I.list hq
    obtain ⟨f0, f1, f2, f3, f4, f5⟩ := hf it (by simp)
    have hl := rv.length
    exact wpAny_pyNext_list_end (I.ok.hd hc) st p.isList (by simp; omega) fun h' eb => ⟨rfl, I.turned (t' := s.toks) (fun b o hb e => eb b o hb e) f0 f1 f3 f4 f5⟩
  self := fun _ _ _ _ _ st h => wpAny_pyIter_listiter st h
theorem turn_range {P : Program} {w : World} {K : PySem.W.Frag} {tg : Expr} (it : Addr) (lo : Int) (n : Nat) : Turn P w K tg (Itr lo n) [it] it (fun i h => IsRangeIter h it (lo + (i : Nat) * 1) ((n : Int) - (i : Nat)) 1) where
  mem := by simp
  obj := fun i h st b hb => by
    have e : b = it := by simpa using hb
    subst e
    exact ⟨_, st, fun v z => by
      have z' : Data.fields _ = Data.cell v := z
      cases z'⟩
  keep := fun i h h' st k => k it (by simp) _ st
  item := by
    intro X hP hw hK hc i pins s σ H E I hf st hg
    subst hP hw hK
    obtain ⟨f0, f1, f2, f3, f4, f5⟩ := hf it (by simp)
    have W := Walks.range (prog := X.prog) (w := X.w) (I.ok.hd hc) it lo 1 n
    refine W.item i s _ _ hg st fun v h' tk hv st' kk => ?_
    obtain ⟨t, rfl⟩ := hv
    have I1 : Inv X pins σ H { s with heap := h', toks := tk } := I.turned (fun b o hb e => kk b o (by simpa using hb) e) f0 f1 f3 f4 f5
    refine ⟨_, rfl, go_of (s := { s with heap := h', toks := tk }) (n := "range_iterator") st' rfl rfl (by decide) ⟨.int (lo + i), H, I1, ⟨t, ?_⟩, ⟨rfl, rfl⟩, st', fun b hb => (hf b hb).1⟩⟩
    rw [Int.mul_one]
  done := by
    intro X hP hw hK hc i pins s σ H E I hf st hg
    subst hP hw hK
    obtain ⟨f0, f1, f2, f3, f4, f5⟩ := hf it (by simp)
    exact wpAny_pyNext_range_end (I.ok.hd hc) st (by have : n ≤ i := hg; omega) fun h' eb => ⟨rfl, I.turned (t' := s.toks) (fun b o hb e => eb b o hb e) f0 f1 f3 f4 f5⟩
  self := fun _ _ _ _ _ st h => wpAny_pyIter_rangeiter st h
end L2

namespace L2
open PySem PySem.Spec PyProof.Rows
section
variable {X : Cx} {tg : Expr}
def iList (K : PySem.W.Frag) (tl : TE) : TI := fun σ H R => tl σ H fun x H1 => ∃ a, x = .ref a ∧ (∃ xs, SqL K H1 a xs) ∧ R (Itl K a) H1
def iTup (K : PySem.W.Frag) (tl : TE) : TI := fun σ H R => tl σ H fun x H1 => ∃ a, x = .ref a ∧ (∃ xs, SqT K H1 a xs) ∧ R (Itt K a) H1
theorem pi_list {l : Expr} {tl : TE} (hl : PE X l tl) : PI X tg l (iList X.K tl) := by
  intro pins s σ H R I h
  refine thn (hl pins s σ H _ I h) fun v s1 ⟨x, H1, I1, r1, q1⟩ => ?_
  obtain ⟨a, e, ⟨xs, hq⟩, q⟩ := q1
  subst e
  cases r1
  obtain ⟨its, rv, p, hz⟩ := I1.list hq
  refine wpAny_pyIter_list p.isList ?_
  refine ⟨s1.heap.objs.size, [s1.heap.objs.size], _, _, H1, rfl, I1.kept (t' := s1.toks) fun b o e => Heap.get?_push_of_some _ e, turn_list a _, ⟨_, Heap.get?_push_size _ rfl, rfl, rfl⟩, fun b hb => ?_, q⟩
  have e : b = s1.heap.objs.size := by simpa using hb
  subst e
  exact I1.fpOk (Nat.le_refl _) (I1.hok.fresh (Nat.le_refl _))
/-- a range object just made, walked -/
theorem range_it {pins : List (Addr × Obj)} {σ : St} {H : Hp} {s : Shared} {R : It → Hp → Prop} {E : Value → Shared → Prop} {lo hi : Int} {t u v : Tok} {tk : Nat} (I : Inv X pins σ H s) (h1 : -(2 ^ 62) ≤ lo) (h2 : lo < 2 ^ 62) (h3 : -(2 ^ 62) ≤ hi) (h4 : hi < 2 ^ 62)
    (q : R (Itr lo (hi - lo).toNat) H) : wpAny (model X.prog X.w) X.A (pyIter (.ref s.heap.objs.size)) (PIE X pins σ tg R) E { s with heap := s.heap.push { cls := .type "range", data := .fields #[.int lo t, .int hi u, .int 1 v] }, toks := tk } := by
  refine wpAny_pyIter_range (IsRange.new ..) (small_one h1 h2 h3 h4) ?_
  have I1 : Inv X pins σ H { s with heap := s.heap.push { cls := .type "range", data := .fields #[.int lo t, .int hi u, .int 1 v] }, toks := tk } := I.kept fun b o e => Heap.get?_push_of_some _ e
  refine ⟨(s.heap.push { cls := .type "range", data := .fields #[.int lo t, .int hi u, .int 1 v] }).objs.size, [(s.heap.push { cls := .type "range", data := .fields #[.int lo t, .int hi u, .int 1 v] }).objs.size], _, _, H, rfl,
    I1.kept (t' := tk) fun b o e => Heap.get?_push_of_some _ e, turn_range _ lo (hi - lo).toNat, ?_, fun b hb => ?_, q⟩
  · have e1 : lo + ((0 : Nat) : Int) * 1 = lo := by simp
    have e2 : (((hi - lo).toNat : Nat) : Int) - ((0 : Nat) : Int) = Builtin.Range.rangeSize lo hi 1 := by rw [rangeSize_one]; split <;> omega
    show IsRangeIter _ _ (lo + ((0 : Nat) : Int) * 1) ((((hi - lo).toNat : Nat) : Int) - ((0 : Nat) : Int)) 1
    rw [e1, e2]
    exact Heap.get?_push_size _ rfl
  · have e : b = (s.heap.push { cls := .type "range", data := .fields #[.int lo t, .int hi u, .int 1 v] }).objs.size := by simpa using hb
    subst e
    exact I1.fpOk (Nat.le_refl _) (I1.hok.fresh (Nat.le_refl _))
def iRng1 (ta : TA) : TI := fun σ H R => ta σ H fun vs H1 => ∃ j : Int, vs = [.int j] ∧ -(2 ^ 62) ≤ j ∧ j < 2 ^ 62 ∧ R (Itr 0 j.toNat) H1
def iRng2 (ta : TA) : TI := fun σ H R => ta σ H fun vs H1 => ∃ i j : Int, vs = [.int i, .int j] ∧ (-(2 ^ 62) ≤ i ∧ i < 2 ^ 62 ∧ -(2 ^ 62) ≤ j ∧ j < 2 ^ 62) ∧ R (Itr i (j - i).toNat) H1
theorem pi_range1 {a : Expr} {ta : TA} {p pos : Pos} (hg : Gl X "range") (hm : X.mg "range" = none) (ha : PA X [a] ta) (hs : starEach [a] X.env = [(false, eval a X.env)] := by rfl) : PI X tg (.Call (.Name "range" p) [a] [] pos) (iRng1 ta) := by
  intro pins s σ H R I h
  refine Call_ (ld_blt I hg hm boot_range (PyProof.Rows.callWith_type1 (thn (ha pos pins s σ H _ I h) fun us s1 ⟨vs, H1, I1, r1, q1⟩ => ?_) hs rfl))
  obtain ⟨j, e, q1, q2, q⟩ := q1
  subst e
  cases r1 with
  | cons r rr =>
    cases rr
    obtain ⟨t, rfl⟩ := r
    exact call_range_1 (range_it I1 (by omega) (by omega) q1 q2 (by simpa using q))
theorem pi_range2 {a b : Expr} {ta : TA} {p pos : Pos} (hg : Gl X "range") (hm : X.mg "range" = none) (ha : PA X [a, b] ta) (hs : starEach [a, b] X.env = [(false, eval a X.env), (false, eval b X.env)] := by rfl) (hs2 : starEach [b] X.env = [(false, eval b X.env)] := by rfl) :
    PI X tg (.Call (.Name "range" p) [a, b] [] pos) (iRng2 ta) := by
  intro pins s σ H R I h
  refine Call_ (ld_blt I hg hm boot_range (PyProof.Rows.callWith_type1 (thn (ha pos pins s σ H _ I h) fun us s1 ⟨vs, H1, I1, r1, q1⟩ => ?_) (by rw [hs, hs2]) (by rw [hs2]; rfl)))
  obtain ⟨i, j, e, ⟨q1, q2, q3, q4⟩, q⟩ := q1
  subst e
  cases r1 with
  | cons r rr =>
    cases rr with
    | cons r' rr =>
      cases rr
      obtain ⟨t, rfl⟩ := r
      obtain ⟨t', rfl⟩ := r'
      exact call_range_2 (range_it I1 q1 q2 q3 q4 q)

/-! ### for -/
/-- W: the invariant by the turn and a measure; N: what the body is to reach -/
def tFor (wi : TI) (g : TG) (tb : TS) : TS := fun D σ H => wi σ H fun J H1 => ∃ W : Nat → Nat → St → Hp → Prop, (∃ m, W 0 m σ H1) ∧ ∀ i m σ H, W i m σ H →
  (J.stop i H ∧ D.nx σ H) ∨ (J.go i H ∧ ∃ N : St → Hp → Prop, (∀ σ' H', N σ' H' → ∃ m', m' < m ∧ W (i + 1) m' σ' H') ∧ ∀ x H', J.yld i H x H' → g x σ H' fun σ2 H2 => tb { D with nx := N, ct := N, bk := D.nx } σ2 H2)
/-- the records at fp as they stand -/
def pinsAt (fp : List Addr) (h : Heap) : List (Addr × Obj) := fp.filterMap fun b => (h.get? b).map fun o => (b, o)
theorem mem_pinsAt {fp : List Addr} {h : Heap} {b : Addr} {o : Obj} (hb : b ∈ fp) (e : h.get? b = some o) : (b, o) ∈ pinsAt fp h := List.mem_filterMap.mpr ⟨b, hb, by rw [e]; rfl⟩
theorem of_pinsAt {fp : List Addr} {h : Heap} {p : Addr × Obj} (hp : p ∈ pinsAt fp h) : p.1 ∈ fp ∧ h.get? p.1 = some p.2 := by
  obtain ⟨b, hb, e⟩ := List.mem_filterMap.mp hp
  cases q : h.get? b with
  | none => rw [q] at e; cases e
  | some o =>
    rw [q] at e
    have e' : (b, o) = p := Option.some.inj e
    subst e'
    exact ⟨hb, q⟩
theorem Inv.pinned {pins : List (Addr × Obj)} {σ : St} {H : Hp} {s : Shared} {fp : List Addr} (I : Inv X pins σ H s) (hf : ∀ b ∈ fp, FpOk X pins H b) (ho : ∀ b ∈ fp, ∃ o, s.heap.get? b = some o ∧ ∀ v, o.data ≠ .cell v) : Inv X (pins ++ pinsAt fp s.heap) σ H s :=
  I.pins_of fun p hp => (List.mem_append.mp hp).elim (fun z => I.pin p (List.mem_append_right _ z)) fun z => by
    obtain ⟨hb, e⟩ := of_pinsAt z
    obtain ⟨f0, f1, f2, _⟩ := hf p.1 hb
    obtain ⟨o, e', d⟩ := ho p.1 hb
    rw [e] at e'; cases e'
    exact ⟨e, f0, f1, f2, d⟩
theorem Inv.unpinned {pins pl : List (Addr × Obj)} {σ : St} {H : Hp} {s : Shared} (I : Inv X (pins ++ pl) σ H s) : Inv X pins σ H s := I.pins_of fun p hp => I.pin p (List.mem_append_right _ (List.mem_append_left _ hp))
theorem ps_for {iter : Expr} {body : List Stmt} {wi : TI} {g : TG} {tb : TS} {pos : Pos} (hp : PassesOwn (model X.prog X.w) X.A X.env X.xe) (hc : X.calm = true) (hi : PI X tg iter wi) (hg : PG X tg g) (hb : PSs X body tb)
    (hs : ∀ x, foldedSetIterable iter X.env x = pure x := by intro _; rfl) : PS X (.For tg iter body [] pos) (tFor wi g tb) := by
  intro pins s σ H D I h
  refine wpAny_For (thn (hi pins s σ H _ I h) fun v s1 h1 => thn h1 fun itv s2 h2 => ?_) hs
  obtain ⟨it, fp, tn, J, H2, e, I2, T, st2, f2, W, ⟨m0, w0⟩, turn⟩ := h2
  subst e
  -- what stays true of the iterator's objects through the loop
  have stat : ∀ {H' : Hp}, (∀ b ∈ fp, H' b = none) → ∀ b ∈ fp, FpOk X pins H' b := fun hn b hb => ⟨hn b hb, (f2 b hb).2⟩
  refine codeAny_forLoop_any (fun n s' => ∃ i σ' H', Inv X pins σ' H' s' ∧ tn i s'.heap ∧ (∀ b ∈ fp, H' b = none) ∧ W i n σ' H') ?_ m0 ⟨0, σ, H2, I2, st2, fun b hb => (f2 b hb).1, w0⟩
  rintro n s3 ⟨i, σ3, H3, I3, st3, fr3, w3⟩
  rcases turn i n σ3 H3 w3 with ⟨stop, qn⟩ | ⟨go, N, hN, step⟩
  · refine wpAny_passesOwn hp (thn (T.done X rfl rfl rfl hc i pins s3 σ3 H3 X.xe I3 (stat fr3) st3 stop) fun r s4 ⟨hr, I4⟩ => ?_)
    subst hr
    exact wpAny_execs_nil ⟨σ3, H3, I4, qn⟩
  · refine wpAny_passesOwn hp (thn (T.item X rfl rfl rfl hc i pins s3 σ3 H3 X.xe I3 (stat fr3) st3 go) fun r s4 ⟨u, hr, h4⟩ => ?_)
    subst hr
    refine wpAny_passesOwn hp (thn h4 fun _ s5 ⟨x, H5, I5, r5, y5, st5, fr5⟩ => ?_)
    have I5' := I5.pinned (stat fr5) (T.obj _ _ st5)
    refine wpAny_passesOwn hp (thn (hg _ s5 σ3 H5 x u _ I5' r5 (step x H5 y5)) fun _ s6 ⟨σ6, H6, I6, q6⟩ => ?_)
    refine wpAny_passesOwn hp (thn (hb _ s6 σ6 H6 _ I6 q6) fun f s7 q7 => ?_)
    have again : ∀ {σ7 : St} {H7 : Hp}, Inv X (pins ++ pinsAt fp s5.heap) σ7 H7 s7 → N σ7 H7 → ∃ m, m < n ∧ ∃ i σ' H', Inv X pins σ' H' s7 ∧ tn i s7.heap ∧ (∀ b ∈ fp, H' b = none) ∧ W i m σ' H' := fun {σ7 H7} I7 n7 => by
      obtain ⟨m', hm, w7⟩ := hN σ7 H7 n7
      refine ⟨m', hm, i + 1, σ7, H7, I7.unpinned, T.keep _ _ _ st5 fun b hb o e => (I7.pin (b, o) (List.mem_append_right _ (List.mem_append_right _ (mem_pinsAt hb e)))).1, fun b hb => ?_, w7⟩
      obtain ⟨o, e, d⟩ := T.obj _ _ st5 b hb
      exact (I7.pin (b, o) (List.mem_append_right _ (List.mem_append_right _ (mem_pinsAt hb e)))).2.1
    cases f with
    | next => obtain ⟨σ7, H7, I7, n7⟩ := q7; exact again I7 n7
    | cont => obtain ⟨σ7, H7, I7, n7⟩ := q7; exact again I7 n7
    | brk => obtain ⟨σ7, H7, I7, q7⟩ := q7; exact ⟨σ7, H7, I7.unpinned, q7⟩
    | ret v => obtain ⟨x7, σ7, H7, I7, r7, q7⟩ := q7; exact ⟨x7, σ7, H7, I7.unpinned, r7, q7⟩
end

/-! ### the forms one uses -/
/-- over a list that the body leaves as it is -/
theorem for_list {K : PySem.W.Frag} {a : Addr} {xs : List V} {g : TG} {tb : TS} {D : Ends} {σ : St} {H : Hp} (Pv : Nat → St → Hp → Prop) (h0 : Pv 0 σ H) (hl : ∀ i σ H, i ≤ xs.length → Pv i σ H → SqL K H a xs)
    (hs : ∀ i x σ H, xs[i]? = some x → Pv i σ H → g x σ H fun σ2 H2 => tb { D with nx := Pv (i + 1), ct := Pv (i + 1), bk := D.nx } σ2 H2) (hd : ∀ σ H, Pv xs.length σ H → D.nx σ H) :
    ∃ W : Nat → Nat → St → Hp → Prop, (∃ m, W 0 m σ H) ∧ ∀ i m σ H, W i m σ H →
      ((Itl K a).stop i H ∧ D.nx σ H) ∨ ((Itl K a).go i H ∧ ∃ N : St → Hp → Prop, (∀ σ' H', N σ' H' → ∃ m', m' < m ∧ W (i + 1) m' σ' H') ∧ ∀ x H', (Itl K a).yld i H x H' → g x σ H' fun σ2 H2 => tb { D with nx := N, ct := N, bk := D.nx } σ2 H2) := by
  refine ⟨fun i m σ H => m = xs.length - i ∧ i ≤ xs.length ∧ Pv i σ H, ⟨xs.length, by simp, Nat.zero_le _, h0⟩, ?_⟩
  rintro i m σ H ⟨rfl, hi, p⟩
  have q := hl i σ H hi p
  by_cases hlt : i < xs.length
  · refine .inr ⟨⟨xs, xs[i], q, by simp [hlt]⟩, Pv (i + 1), fun σ' H' p' => ⟨xs.length - (i + 1), by omega, rfl, hlt, p'⟩, fun x H' y => ?_⟩
    obtain ⟨e, y⟩ := y
    subst e
    exact hs i x σ _ (y xs q) p
  · have e : i = xs.length := by omega
    subst e
    exact .inl ⟨⟨xs, q, Nat.le_refl _⟩, hd σ H p⟩
theorem for_range {lo : Int} {n : Nat} {g : TG} {tb : TS} {D : Ends} {σ : St} {H : Hp} (Pv : Nat → St → Hp → Prop) (h0 : Pv 0 σ H)
    (hs : ∀ i σ H, i < n → Pv i σ H → g (.int (lo + i)) σ H fun σ2 H2 => tb { D with nx := Pv (i + 1), ct := Pv (i + 1), bk := D.nx } σ2 H2) (hd : ∀ σ H, Pv n σ H → D.nx σ H) :
    ∃ W : Nat → Nat → St → Hp → Prop, (∃ m, W 0 m σ H) ∧ ∀ i m σ H, W i m σ H →
      ((Itr lo n).stop i H ∧ D.nx σ H) ∨ ((Itr lo n).go i H ∧ ∃ N : St → Hp → Prop, (∀ σ' H', N σ' H' → ∃ m', m' < m ∧ W (i + 1) m' σ' H') ∧ ∀ x H', (Itr lo n).yld i H x H' → g x σ H' fun σ2 H2 => tb { D with nx := N, ct := N, bk := D.nx } σ2 H2) := by
  refine ⟨fun i m σ H => m = n - i ∧ i ≤ n ∧ Pv i σ H, ⟨n, by simp, Nat.zero_le _, h0⟩, ?_⟩
  rintro i m σ H ⟨rfl, hi, p⟩
  by_cases hlt : i < n
  · refine .inr ⟨hlt, Pv (i + 1), fun σ' H' p' => ⟨n - (i + 1), by omega, rfl, hlt, p'⟩, fun x H' y => ?_⟩
    obtain ⟨e, y⟩ := y
    subst e y
    exact hs i σ _ hlt p
  · have e : i = n := by omega
    subst e
    exact .inl ⟨Nat.le_refl _, hd σ H p⟩
end L2

namespace L2
open PySem PySem.Spec PyProof.Rows

abbrev R2 := V → V → Hp → VK → Prop
/-- a two-place operation on values: f is binaryOp op, inplaceOp op or compareOp op -/
def OpR (X : Cx) (f : Value → Value → Sem Value) (r : R2) : Prop :=
  ∀ (pins : List (Addr × Obj)) (s : Shared) (σ : St) (H : Hp) (x y : V) (v u : Value) (Q : VK), Inv X pins σ H s → RelV x v → RelV y u → r x y H Q →
    wpAny (model X.prog X.w) X.A (f v u) (EP X pins σ Q) X.xe s
/-- a one-place operation -/
def UnR (X : Cx) (f : Value → Sem Value) (r : V → Hp → VK → Prop) : Prop :=
  ∀ (pins : List (Addr × Obj)) (s : Shared) (σ : St) (H : Hp) (x : V) (v : Value) (Q : VK), Inv X pins σ H s → RelV x v → r x H Q →
    wpAny (model X.prog X.w) X.A (f v) (EP X pins σ Q) X.xe s
/-- a call of a value that is known (a builtin, a type) with values -/
def CallR (X : Cx) (f : Value) (r : List V → Hp → VK → Prop) : Prop :=
  ∀ (pins : List (Addr × Obj)) (s : Shared) (σ : St) (H : Hp) (xs : List V) (us : List Value) (Q : VK), Inv X pins σ H s → Vals xs us → r xs H Q →
    wpAny (model X.prog X.w) X.A (call f us) (EP X pins σ Q) X.xe s
/-- a value's truth -/
def TruR (X : Cx) (r : V → Hp → (Bool → Hp → Prop) → Prop) : Prop :=
  ∀ (pins : List (Addr × Obj)) (s : Shared) (σ : St) (H : Hp) (x : V) (v : Value) (Q : Bool → Hp → Prop), Inv X pins σ H s → RelV x v → r x H Q →
    wpAny (model X.prog X.w) X.A (truthy v) (TP X pins σ Q) X.xe s

def tOp (r : R2) (ta tb : TE) : TE := fun σ H Q => ta σ H fun x H1 => tb σ H1 fun y H2 => r x y H2 Q
def tUn (r : V → Hp → VK → Prop) (ta : TE) : TE := fun σ H Q => ta σ H fun x H1 => r x H1 Q
/-- ints in, under C, and a value out -/
def rI (C : Int → Int → Prop) (g : Int → Int → V) : R2 := fun x y H Q => ∃ i j, x = .int i ∧ y = .int j ∧ C i j ∧ Q (g i j) H
def rI0 (g : Int → Int → V) : R2 := fun x y H Q => ∃ i j, x = .int i ∧ y = .int j ∧ Q (g i j) H
def rU (g : Int → V) : V → Hp → VK → Prop := fun x H Q => ∃ i, x = .int i ∧ Q (g i) H

section
variable {X : Cx} {a b c : Expr} {ta tb tc : TE} {pos : Pos}

theorem binT (ha : PE X a ta) (hb : PE X b tb) {pins : List (Addr × Obj)} {s : Shared} {σ : St} {H : Hp} {R : V → V → Hp → Prop} (I : Inv X pins σ H s)
    (h : ta σ H fun x H1 => tb σ H1 fun y H2 => R x y H2) {Q : Value → Shared → Prop} {f : Value → Value → Sem Value}
    (hf : ∀ v u s2 x y H2, Inv X pins σ H2 s2 → RelV x v → RelV y u → R x y H2 → wpAny (model X.prog X.w) X.A (f v u) Q X.xe s2) :
    wpAny (model X.prog X.w) X.A (eval a X.env) (fun v s₁ => wpAny (model X.prog X.w) X.A (eval b X.env) (fun u s₂ => wpAny (model X.prog X.w) X.A (f v u) Q X.xe s₂) X.xe s₁) X.xe s := by
  refine thn (ha pins s σ H _ I h) fun v s1 ⟨x, H1, I1, r1, q1⟩ => ?_
  refine thn (hb pins s1 σ H1 _ I1 q1) fun u s2 ⟨y, H2, I2, r2, q2⟩ => ?_
  exact hf v u s2 x y H2 I2 r1 r2 q2

theorem pe_op {op : Operator} {r : R2} (ho : OpR X (binaryOp op) r) (ha : PE X a ta) (hb : PE X b tb) : PE X (.BinOp a op b pos) (tOp r ta tb) := by
  intro pins s σ H Q I h
  exact wpAny_BinOp (binT ha hb I h fun v u s2 x y H2 I2 rx ry q => ho pins s2 σ H2 x y v u Q I2 rx ry q)
theorem pe_un {op : UnaryOp} {r : V → Hp → VK → Prop} (ho : UnR X (unaryOp op) r) (ha : PE X a ta) : PE X (.UnaryOp op a pos) (tUn r ta) := by
  intro pins s σ H Q I h
  exact UnaryOp_ (thn (ha pins s σ H _ I h) fun v s1 ⟨x, H1, I1, r1, q1⟩ => ho pins s1 σ H1 x v Q I1 r1 q1)
/-! ### ints -/
theorem opI {f : Value → Value → Sem Value} {C : Int → Int → Prop} {g : Int → Int → Int}
    (rule : ∀ (i j : Int) (t u : Tok) (s : Shared) (Q : Value → Shared → Prop) (E : Value → Shared → Prop), C i j → Q (.int (g i j) s.toks) { s with toks := s.toks + 1 } → wpAny (model X.prog X.w) X.A (f (.int i t) (.int j u)) Q E s) :
    OpR X f (rI C fun i j => .int (g i j)) := by
  intro pins s σ H x y v u Q I rx ry h
  obtain ⟨i, j, rfl, rfl, hc, q⟩ := h
  obtain ⟨t, rfl⟩ := rx
  obtain ⟨t', rfl⟩ := ry
  exact rule i j t t' s _ _ hc ⟨.int (g i j), H, I.tok _, ⟨_, rfl⟩, q⟩
theorem opI0 {f : Value → Value → Sem Value} {g : Int → Int → Int}
    (rule : ∀ (i j : Int) (t u : Tok) (s : Shared) (Q : Value → Shared → Prop) (E : Value → Shared → Prop), Q (.int (g i j) s.toks) { s with toks := s.toks + 1 } → wpAny (model X.prog X.w) X.A (f (.int i t) (.int j u)) Q E s) :
    OpR X f (rI0 fun i j => .int (g i j)) := by
  intro pins s σ H x y v u Q I rx ry h
  obtain ⟨i, j, rfl, rfl, q⟩ := h
  obtain ⟨t, rfl⟩ := rx
  obtain ⟨t', rfl⟩ := ry
  exact rule i j t t' s _ _ ⟨.int (g i j), H, I.tok _, ⟨_, rfl⟩, q⟩
theorem opB0 {f : Value → Value → Sem Value} {g : Int → Int → Bool}
    (rule : ∀ (i j : Int) (t u : Tok) (s : Shared) (Q : Value → Shared → Prop) (E : Value → Shared → Prop), Q (.bool (g i j)) s → wpAny (model X.prog X.w) X.A (f (.int i t) (.int j u)) Q E s) :
    OpR X f (rI0 fun i j => .bl (g i j)) := by
  intro pins s σ H x y v u Q I rx ry h
  obtain ⟨i, j, rfl, rfl, q⟩ := h
  obtain ⟨t, rfl⟩ := rx
  obtain ⟨t', rfl⟩ := ry
  exact rule i j t t' s _ _ ⟨.bl (g i j), H, I, rfl, q⟩

def CDiv (i j : Int) : Prop := 0 < j ∧ j < 1073741824
def CDivN (i j : Int) : Prop := j ≠ 0 ∧ j.natAbs < 1073741824
def CPow (i j : Int) : Prop := 0 ≤ j ∧ j ≤ 1000000 ∧ i.natAbs < 2 ^ 64
def CMul (i j : Int) : Prop := (-(2 ^ 64) < i ∧ i < 2 ^ 64) ∨ (-(2 ^ 64) < j ∧ j < 2 ^ 64)
theorem CMul.ok {i j : Int} (h : CMul i j) : IntMulOk i j := by
  rcases h with ⟨h1, h2⟩ | ⟨h1, h2⟩
  · exact .of_left (intBits_le_64 h1 h2)
  · exact .of_right (intBits_le_64 h1 h2)
theorem op_add : OpR X (binaryOp .Add) (rI0 fun i j => .int (i + j)) := opI0 fun _ _ _ _ _ _ _ q => add_int q
theorem op_sub : OpR X (binaryOp .Sub) (rI0 fun i j => .int (i - j)) := opI0 fun _ _ _ _ _ _ _ q => sub_int q
theorem op_mul : OpR X (binaryOp .Mult) (rI CMul fun i j => .int (i * j)) := opI fun _ _ _ _ _ _ _ hc q => mul_int q hc.ok
/-- % by a positive divisor of any size -/
theorem op_mod : OpR X (binaryOp .Mod) (rI (fun _ j => 0 < j) fun i j => .int (i % j)) := opI fun i j _ _ _ _ _ hc q => by
  have h1 : (0 : Int) < j := hc
  exact mod_int' (by omega) (by rw [Int.fmod_eq_emod_of_nonneg i (by omega)]; exact q)
theorem op_pow : OpR X (binaryOp .Pow) (rI CPow fun i j => .int (i ^ j.toNat)) := opI fun _ _ _ _ _ _ _ hc q => pow_int_small hc.1 hc.2.1 hc.2.2 q
theorem op_shl : OpR X (binaryOp .LShift) (rI CPow fun i j => .int (i * 2 ^ j.toNat)) := opI fun _ _ _ _ _ _ _ hc q => lshift_int_small hc.1 hc.2.1 hc.2.2 q
theorem unI {f : Value → Sem Value} {g : Int → Int}
    (rule : ∀ (i : Int) (t : Tok) (s : Shared) (Q : Value → Shared → Prop) (E : Value → Shared → Prop), Q (.int (g i) s.toks) { s with toks := s.toks + 1 } → wpAny (model X.prog X.w) X.A (f (.int i t)) Q E s) :
    UnR X f (rU fun i => .int (g i)) := by
  intro pins s σ H x v Q I rx h
  obtain ⟨i, rfl, q⟩ := h
  obtain ⟨t, rfl⟩ := rx
  exact rule i t s _ _ ⟨.int (g i), H, I.tok _, ⟨_, rfl⟩, q⟩
theorem un_neg : UnR X (unaryOp .USub) (rU fun i => .int (-i)) := unI fun _ _ _ _ _ q => neg_int q
/-! ### bools among ints: n += (a < b) -/
end

/-! ### comparisons -/
/-- the scalars that == tells apart as data does -/
def scal : V → V → Bool
  | .non, .non => true | .non, .int _ => true | .int _, .non => true | .non, .bl _ => true | .bl _, .non => true | .non, .str _ => true | .str _, .non => true
  | .int _, .int _ => true | .bl _, .bl _ => true | .str _, .str _ => true | .byt _, .byt _ => true
  | .int _, .str _ => true | .str _, .int _ => true | .bl _, .str _ => true | .str _, .bl _ => true
  | _, _ => false
def rEq : R2 := fun x y H Q => scal x y = true ∧ Q (.bl (decide (x = y))) H
def rNe : R2 := fun x y H Q => scal x y = true ∧ Q (.bl (!decide (x = y))) H

theorem dec_int {i j : Int} : decide (V.int i = V.int j) = (i == j) := by
  rw [Bool.eq_iff_iff]
  simp
theorem dec_bl {i j : Bool} : decide (V.bl i = V.bl j) = (i == j) := by
  rw [Bool.eq_iff_iff]
  simp
theorem dec_str {i j : Str} : decide (V.str i = V.str j) = (i == j) := by
  rw [Bool.eq_iff_iff]
  simp
theorem dec_byt {i j : Array UInt8} : decide (V.byt i = V.byt j) = (i.toList == j.toList) := by
  rw [Bool.eq_iff_iff]
  cases i
  cases j
  simp

section
variable {X : Cx} {a b c : Expr} {ta tb tc : TE} {pos : Pos}
theorem fin_bl {pins : List (Addr × Obj)} {σ : St} {H : Hp} {s : Shared} {Q : VK} {k k' : Bool} (I : Inv X pins σ H s) (q : Q (.bl k) H) (e : k = k') : EP X pins σ Q (.bool k') s := by
  subst e
  exact ⟨.bl k, H, I, rfl, q⟩
theorem op_eq : OpR X (compareOp .Eq) rEq := by
  intro pins s σ H x y v u Q I rx ry h
  obtain ⟨hs, q⟩ := h
  cases x with
  | non =>
    cases rx
    cases y with
    | non => cases ry; exact PySem.EqNone.eq_none_none (fin_bl I q (by simp))
    | bl j => cases ry; exact PySem.EqNone.eq_none_bool (fin_bl I q (by simp))
    | int j => obtain ⟨t', rfl⟩ := ry; exact PySem.EqNone.eq_none_int (fin_bl I q (by simp))
    | str j => obtain ⟨t', rfl⟩ := ry; exact PySem.EqNone.eq_none_str (fin_bl I q (by simp))
    | _ => exact absurd (show false = true from hs) Bool.false_ne_true
  | bl i =>
    cases rx
    cases y with
    | non => cases ry; exact PySem.EqNone.eq_bool_none (fin_bl I q (by simp))
    | bl j => cases ry; exact eq_bool (fin_bl I q dec_bl)
    | str j => obtain ⟨t', rfl⟩ := ry; exact PySem.EqMixed.eq_bool_str (fin_bl I q (by simp))
    | _ => exact absurd (show false = true from hs) Bool.false_ne_true
  | int i =>
    obtain ⟨t, rfl⟩ := rx
    cases y with
    | non => cases ry; exact PySem.EqNone.eq_int_none (fin_bl I q (by simp))
    | int j => obtain ⟨t', rfl⟩ := ry; exact eq_int (fin_bl I q dec_int)
    | str j => obtain ⟨t', rfl⟩ := ry; exact PySem.EqMixed.eq_int_str (fin_bl I q (by simp))
    | _ => exact absurd (show false = true from hs) Bool.false_ne_true
  | str i =>
    obtain ⟨t, rfl⟩ := rx
    cases y with
    | non => cases ry; exact PySem.EqNone.eq_str_none (fin_bl I q (by simp))
    | bl j => cases ry; exact PySem.EqMixed.eq_str_bool (fin_bl I q (by simp))
    | int j => obtain ⟨t', rfl⟩ := ry; exact PySem.EqMixed.eq_str_int (fin_bl I q (by simp))
    | str j => obtain ⟨t', rfl⟩ := ry; exact eq_str (fin_bl I q dec_str)
    | _ => exact absurd (show false = true from hs) Bool.false_ne_true
  | byt i =>
    obtain ⟨t, rfl⟩ := rx
    cases y with
    | byt j => obtain ⟨t', rfl⟩ := ry; exact PySem.W.eq_bytes (fin_bl I q dec_byt)
    | _ => exact absurd (show false = true from hs) Bool.false_ne_true
  | _ => cases y <;> exact absurd (show false = true from hs) Bool.false_ne_true
theorem op_lt : OpR X (compareOp .Lt) (rI0 fun i j => .bl (decide (i < j))) := opB0 fun _ _ _ _ _ _ _ q => lt_int q
theorem op_le : OpR X (compareOp .LtE) (rI0 fun i j => .bl (decide (i ≤ j))) := opB0 fun _ _ _ _ _ _ _ q => le_int q
theorem op_gt : OpR X (compareOp .Gt) (rI0 fun i j => .bl (decide (j < i))) := opB0 fun _ _ _ _ _ _ _ q => gt_int q
theorem op_ge : OpR X (compareOp .GtE) (rI0 fun i j => .bl (decide (j ≤ i))) := opB0 fun _ _ _ _ _ _ _ q => ge_int q
/-- is, is not of two objects that are tracked lists or instances -/
def isObj : HO → Bool
  | .lst _ => true
  | .ins _ _ _ => true
  | _ => false
theorem nomark (b : Expr) {op : CmpOp} (h : op ≠ .In := by decide) (h2 : op ≠ .NotIn := by decide) : behindInMarks op b = false := by
  have e1 : (op == CmpOp.In) = false := by cases op <;> first | rfl | exact absurd rfl h
  have e2 : (op == CmpOp.NotIn) = false := by cases op <;> first | rfl | exact absurd rfl h2
  cases b <;> simp [behindInMarks, e1, e2]
/-- a comparison as a value; hm: nomark b, or (for in, not in) by with_unfolding_all rfl -/
theorem pe_cmpR {op : CmpOp} {r : R2} (ho : OpR X (compareOp op) r) (ha : PE X a ta) (hb : PE X b tb) (hm : behindInMarks op b = false) : PE X (.Compare a [op] [b] pos) (tOp r ta tb) := by
  intro pins s σ H Q I h
  exact wpAny_Compare1 (binT ha hb I h fun v u s2 x y H2 I2 rx ry q => ho pins s2 σ H2 x y v u Q I2 rx ry q) hm
/-- a reading of a value as a test -/
def tTest (t : TE) : TT := fun σ H Q => t σ H fun x H' => ∃ k, x = .bl k ∧ Q k H'
theorem pt_cmpR {op : CmpOp} {r : R2} (ho : OpR X (compareOp op) r) (ha : PE X a ta) (hb : PE X b tb) (hm : behindInMarks op b = false) : PT X (.Compare a [op] [b] pos) (tTest (tOp r ta tb)) := by
  intro pins s σ H Q I h
  refine wpAny_isTrue_Compare1 (thn (ha pins s σ H _ I h) fun v s1 ⟨x, H1, I1, r1, q1⟩ => thn (hb pins s1 σ H1 _ I1 q1) fun u s2 ⟨y, H2, I2, r2, q2⟩ =>
    thn (ho pins s2 σ H2 x y v u _ I2 r1 r2 q2) fun c s3 ⟨z, H3, I3, r3, k, e, q3⟩ => ?_) hm
  subst e
  cases r3
  exact wpAny_truthy_bool ⟨H3, I3, q3⟩
/-- a op1 b op2 c -/
def tChain (r r' : R2) (ta tb tc : TE) : TE := fun σ H Q => ta σ H fun x H1 => tb σ H1 fun y H2 => r x y H2 fun z H3 => ∃ k, z = .bl k ∧
  (if k = true then tc σ H3 fun w' H4 => r' y w' H4 Q else Q (.bl false) H3)
theorem pt_chain {op op' : CmpOp} {r r' : R2} (ho : OpR X (compareOp op) r) (ho' : OpR X (compareOp op') r') (ha : PE X a ta) (hb : PE X b tb) (hc : PE X c tc)
    (hm : lastMarks [op, op'] [b, c] = false := by with_unfolding_all rfl) : PT X (.Compare a [op, op'] [b, c] pos) (tTest (tChain r r' ta tb tc)) := by
  intro pins s σ H Q I h
  refine isTrue_chain (thn (ha pins s σ H _ I h) fun v s1 ⟨x, H1, I1, r1, q1⟩ => test_link (thn (hb pins s1 σ H1 _ I1 q1) fun u s2 ⟨y, H2, I2, r2, q2⟩ =>
    thn (ho pins s2 σ H2 x y v u _ I2 r1 r2 q2) fun d s3 ⟨z, H3, I3, r3, k, e, q3⟩ => ?_)) hm
  subst e
  cases r3
  refine wpAny_truthy_bool ?_
  cases k with
  | false =>
    obtain ⟨k', e', q'⟩ := q3
    cases e'
    exact ite_ff ⟨H3, I3, q'⟩
  | true =>
    refine ite_tt (test_last (thn (hc pins s3 σ H3 _ I3 q3) fun w' s4 ⟨z', H4, I4, r4, q4⟩ => thn (ho' pins s4 σ H4 y z' u w' _ I4 r2 r4 q4) fun d' s5 ⟨z2, H5, I5, r5, k2, e2, q5⟩ => ?_))
    subst e2
    cases r5
    exact wpAny_truthy_bool ⟨H5, I5, q5⟩

/-! ### truth -/
/-- a value's truth by the abstract heap -/
def TruV (K : PySem.W.Frag) (x : V) (H : Hp) (k : Bool) : Prop :=
  match x with
  | .non => k = false
  | .bl b => k = b
  | .int i => k = (i != 0)
  | .str y => y.length ≤ sizeLine ∧ k = ((y.length : Int) != 0)
  | .byt y => y.size ≤ sizeLine ∧ k = ((y.size : Int) != 0)
  | .ref p => (∃ xs, SqL K H p xs ∧ k = !xs.isEmpty) ∨ (∃ xs, SqT K H p xs ∧ k = !xs.isEmpty) ∨ ∃ kvs, H p = some (.dK kvs) ∧ k = !kvs.isEmpty
  | _ => False
theorem isEmpty_kv {κ : Type} {kvs : List (κ × V)} {vs : List (κ × Value)} (r : KV kvs vs) : (!vs.isEmpty) = !kvs.isEmpty := by
  cases r <;> rfl
theorem isEmpty_of {xs : List V} {its : List Value} (r : Vals xs its) : (!its.toArray.isEmpty) = !xs.isEmpty := by
  cases r <;> simp
theorem line63 : (sizeLine : Nat) < 2 ^ 63 := by rw [sizeLine_eq]; decide
theorem tru_ok : TruR X (fun x H Q => ∃ k, TruV X.K x H k ∧ Q k H) := by
  intro pins s σ H x v Q I rx h
  obtain ⟨k, e, q⟩ := h
  have hl := line63
  have hs : sizeLine = 16777216 := sizeLine_eq
  cases x with
  | non =>
    cases rx
    have e' : k = false := e
    subst e'
    exact truthy_none ⟨H, I, q⟩
  | bl b =>
    cases rx
    have e' : k = b := e
    subst e'
    exact wpAny_truthy_bool ⟨H, I, q⟩
  | int i =>
    obtain ⟨t, rfl⟩ := rx
    have e' : k = (i != 0) := e
    subst e'
    exact PySem.P.truthy_int ⟨H, I, q⟩
  | str y =>
    obtain ⟨t, rfl⟩ := rx
    obtain ⟨hy, e'⟩ : y.length ≤ sizeLine ∧ k = ((y.length : Int) != 0) := e
    subst e'
    exact PySem.P.truthy_str (by omega) ⟨H, I.tok _, q⟩
  | byt y =>
    obtain ⟨t, rfl⟩ := rx
    obtain ⟨hy, e'⟩ : y.size ≤ sizeLine ∧ k = ((y.size : Int) != 0) := e
    subst e'
    exact PySem.W.truthy_bytes (by omega) ⟨H, I.tok _, q⟩
  | ref p =>
    cases rx
    have e' : (∃ xs, SqL X.K H p xs ∧ k = !xs.isEmpty) ∨ (∃ xs, SqT X.K H p xs ∧ k = !xs.isEmpty) ∨ ∃ kvs, H p = some (.dK kvs) ∧ k = !kvs.isEmpty := e
    rcases e' with ⟨xs, hx, e'⟩ | ⟨xs, hx, e'⟩ | ⟨kvs, hx, e'⟩
    · subst e'
      obtain ⟨its, r, pl, hz⟩ := I.list hx
      have hlen := r.length
      exact wpAny_truthy_list pl.isList (by simp only [List.size_toArray]; omega) ⟨H, I.tok _, by rw [isEmpty_of r]; exact q⟩
    · subst e'
      obtain ⟨its, r, pl, hz⟩ := I.tuple hx
      have hlen := r.length
      exact truthy_tuple pl (by simp only [List.size_toArray]; omega) ⟨H, I.tok _, by rw [isEmpty_of r]; exact q⟩
    · subst e'
      obtain ⟨hz, hS, vs, r, m⟩ : kvs.length ≤ sizeLine ∧ (p == sysModules) = false ∧ ∃ vs, KV kvs vs ∧ s.heap.DictOf (mixKind X.prog X.w) p vs := I.hok p _ hx
      have hlen : kvs.length = vs.length := Paired.length r
      exact wpAny_truthy_dict hS m (by omega) ⟨H, I.tok _, by rw [isEmpty_kv r]; exact q⟩
  | _ => exact (show False from e).elim
/-- any expression whose test is its value's truth (a name, a call, a subscript, a field ..: he by fun _ => rfl) -/
theorem pt_truth (ha : PE X a ta) (he : ∀ whole, isTrue a X.env whole = (do let v ← whole; standAt a.pos; holding [v] (truthy v))) :
    PT X a (fun σ H Q => ta σ H fun x H' => ∃ k, TruV X.K x H' k ∧ Q k H') := by
  intro pins s σ H Q I h
  exact isTrue_plain (thn (ha pins s σ H _ I h) fun v s1 ⟨x, H1, I1, r1, q1⟩ => tru_ok pins s1 σ H1 x v Q I1 r1 q1) (he _)

/-! ### strs and bytes -/
def PlainIxT (b : Expr) : Prop := ∀ o i, subscripted b false o i = operate [o, i] (getItem o i)
/-! ### scalar builtins, by CallR -/
theorem vals1 {x : V} {us : List Value} (r : Vals [x] us) : ∃ u, us = [u] ∧ RelV x u := by
  cases r with
  | cons r1 r2 => cases r2; exact ⟨_, rfl, r1⟩
theorem vals2 {x y : V} {us : List Value} (r : Vals [x, y] us) : ∃ u w', us = [u, w'] ∧ RelV x u ∧ RelV y w' := by
  cases r with
  | cons r1 r2 =>
    cases r2 with
    | cons r3 r4 => cases r4; exact ⟨_, _, rfl, r1, r3⟩
theorem call_abs : CallR X (.builtin "abs") (fun xs H Q => ∃ i, xs = [.int i] ∧ Q (.int (if i < 0 then -i else i)) H) := by
  intro pins s σ H xs us Q I r h
  obtain ⟨i, rfl, q⟩ := h
  obtain ⟨u, rfl, t, rfl⟩ := vals1 r
  exact call_abs_int fun u tk => ⟨.int (if i < 0 then -i else i), H, I.tok _, ⟨_, rfl⟩, q⟩
theorem call_max2 (hc : X.calm = true) : CallR X (.builtin "max") (fun xs H Q => ∃ i j, xs = [.int i, .int j] ∧ Q (.int (if j > i then j else i)) H) := by
  intro pins s σ H xs us Q I r h
  obtain ⟨i, j, rfl, q⟩ := h
  obtain ⟨u, w', rfl, ⟨t, rfl⟩, ⟨t', rfl⟩⟩ := vals2 r
  refine max_two_ints (I.ok.hd hc) fun h' tk k => ⟨_, H, I.kept k, ?_, q⟩
  by_cases hj : j > i
  · rw [if_pos hj, if_pos hj]; exact ⟨_, rfl⟩
  · rw [if_neg hj, if_neg hj]; exact ⟨_, rfl⟩
/-- len of a str, a bytes, a list, a tuple -/
def LenV (K : PySem.W.Frag) (x : V) (H : Hp) (n : Nat) : Prop :=
  match x with
  | .str y => y.length ≤ sizeLine ∧ n = y.length
  | .byt y => y.size ≤ sizeLine ∧ n = y.size
  | .ref p => (∃ xs, SqL K H p xs ∧ n = xs.length) ∨ ∃ xs, SqT K H p xs ∧ n = xs.length
  | _ => False
end
end L2

namespace L2
open PySem PySem.Spec PyProof.Rows

/-! ### an instance, its attributes a map -/
structure ObjM (h : Heap) (x dx C : Addr) (mA : Str → Option Value) : Prop where
  obj : h.get? x = some (PySem.W.instObj C dx)
  ns : h.Ns1 dx mA
  ne : dx ≠ x

theorem lookIn_ns {h : Heap} {dx : Addr} {mA : Str → Option Value} (n : h.Ns1 dx mA) : ∃ od, h.get? dx = some od ∧ ∀ name, PySem.W.lookIn name od = some (mA name) := by
  obtain ⟨o, es, ep, ho, hd, hk, _, hm⟩ := n
  refine ⟨o, ho, fun name => ?_⟩
  have e := hm name
  unfold nsFind findBy at e
  rw [← Array.find?_toList] at e
  unfold PySem.W.lookIn
  rw [hd]
  dsimp only
  split
  · rename_i y q
    rw [q] at e
    exact congrArg some e
  · rename_i q
    rw [q] at e
    have a : es.toList.any (·.refKey) = false := by
      rw [List.any_eq_false]
      intro y hy
      obtain ⟨z, t, hkey⟩ := hk y (Array.mem_toList_iff.mp hy)
      simp [DictEntry.refKey, hkey]
    have a' : ¬ es.toList.any (·.refKey) = true := by rw [a]; exact Bool.false_ne_true
    rw [if_neg a']
    exact congrArg some e

theorem ObjM.look {h : Heap} {x dx C : Addr} {mA : Str → Option Value} (I : ObjM h x dx C mA) : ∃ od, PySem.W.InstAt h x (PySem.W.instObj C dx) C (some od) ∧ ∀ name, PySem.W.lookIn name od = some (mA name) :=
  let ⟨od, ho, hl⟩ := lookIn_ns I.ns
  ⟨od, ⟨I.obj, rfl, rfl, ho⟩, hl⟩

section
variable {prog : Program} {w : World} {A : Around} {E : Value → Shared → Prop} {s : Shared} {K : PySem.W.Frag} {x dx C f : Addr} {mA : Str → Option Value} {name : Str} {v : Value}

end

/-! ### the attributes as a list of pairs -/
def putF (f : Str) (v : V) : List (Str × V) → List (Str × V)
  | [] => [(f, v)]
  | (g, x) :: r => if g = f then (g, v) :: r else (g, x) :: putF f v r
section
variable {P : Program} {w : World} {H H' : Hp} {h h' : Heap} {a C dx : Addr} {fs fs' : List (Str × V)}
theorem ins_get (hok : HOk P w H h) (e : H a = some (.ins C dx fs)) : ∃ mA, ObjM h a dx C mA ∧ (∀ f, RelO (fs.lookup f) (mA f)) ∧ PySem.Within mA (fs.map (·.1)) ∧ fs.length ≤ 1000 ∧ H dx = some (.own a) := by
  obtain ⟨d, z, ne, ob, mA, n, r, q⟩ := (show ObjOk P w H h a (.ins C dx fs) from hok a _ e)
  exact ⟨mA, ⟨ob, n, ne⟩, r, q, z, d⟩
end

/-! ### what of the text a class must have -/
structure Cls (K : PySem.W.Frag) (C : Addr) : Prop where
  pg : PySem.W.plainGet K C Str.empty = true
  hd : PySem.W.hasDictIn K C = true
  po : PySem.W.plainOver K C = true
  sa : PySem.W.findIn K (.ref C) "__setattr__" = some (some (.builtin "object.__setattr__"))
theorem Cls.get {K : PySem.W.Frag} {C : Addr} (c : Cls K C) (f : Str) : PySem.W.plainGet K C f = true := c.pg
/-- no class of it has the name -/
def NoAttr (K : PySem.W.Frag) (C : Addr) (f : Str) : Prop := PySem.W.findIn K (.ref C) f = some none
/-- a constant of the class -/
structure Con (K : PySem.W.Frag) (C : Addr) (f : Str) (v : V) (u : Value) : Prop where
  at_ : PySem.W.findIn K (.ref C) f = some (some u)
  rel : RelV v u
  get : PySem.W.specialIn K u "__get__" = some none
  cp : PySem.W.copiedNames.contains f = false
/-- a method: a plain def of the class or of one above it -/
structure Meth (K : PySem.W.Frag) (C : Addr) (m : Str) (f : Addr) : Prop where
  at_ : PySem.W.findIn K (.ref C) m = some (some (.ref f))
  fn : PySem.W.isFn K (.ref f) = true
  kp : PySem.W.keepIn K (.ref f) = true

section
variable {X : Cx} {pins : List (Addr × Obj)} {σ : St} {H : Hp} {s : Shared} {a C dx : Addr} {fs : List (Str × V)} {f : Str} {v : V} {A : Around} {E : Value → Shared → Prop}

end

/-! ### readings and rules -/
/-- e.f, an attribute of the instance -/
def tFld (K : PySem.W.Frag) (ta : TE) (f : Str) : TE := fun σ H Q => ta σ H fun x H1 => ∃ a C dx fs v, x = .ref a ∧ H1 a = some (.ins C dx fs) ∧ Cls K C ∧ NoAttr K C f ∧ fs.lookup f = some v ∧ Q v H1
/-- e.f, a constant of the class -/
def tCon (K : PySem.W.Frag) (ta : TE) (f : Str) : TE := fun σ H Q => ta σ H fun x H1 => ∃ a C dx fs v u, x = .ref a ∧ H1 a = some (.ins C dx fs) ∧ Cls K C ∧ Con K C f v u ∧ fs.lookup f = none ∧ Q v H1
/-- e.f = value -/
def sFld (K : PySem.W.Frag) (ta tv : TE) (f : Str) : TS := fun D σ H => tv σ H fun y H1 => ta σ H1 fun x H2 => ∃ a C dx fs, x = .ref a ∧ H2 a = some (.ins C dx fs) ∧ Cls K C ∧ NoAttr K C f ∧ fs.length < 1000 ∧
  D.nx σ (upd H2 a (.ins C dx (putF f y fs)))
/-- an augmented operator on two values -/
def InOp (X : Cx) (op : Operator) (rd : V → V → Hp → VK → Prop) : Prop :=
  ∀ (pins : List (Addr × Obj)) (s : Shared) (σ : St) (H : Hp) (x y : V) (u v : Value) (Q : VK), Inv X pins σ H s → RelV x u → RelV y v → rd x y H Q → wpAny (model X.prog X.w) X.A (inplaceOp op u v) (EP X pins σ Q) X.xe s
/-- e.f op= value -/
def sFldAug (K : PySem.W.Frag) (ta tv : TE) (rd : V → V → Hp → VK → Prop) (f : Str) : TS := fun D σ H => ta σ H fun x H1 => ∃ a C dx fs v, x = .ref a ∧ H1 a = some (.ins C dx fs) ∧ Cls K C ∧ NoAttr K C f ∧ fs.lookup f = some v ∧
  tv σ H1 fun y H2 => rd v y H2 fun z H3 => ∃ dx' fs', H3 a = some (.ins C dx' fs') ∧ fs'.length < 1000 ∧ D.nx σ (upd H3 a (.ins C dx' (putF f z fs')))

section
variable {X : Cx} {o e value : Expr} {f : Str} {pos pos' tpos : Pos} {ta tv : TE}
def rAdd : V → V → Hp → VK → Prop := fun x y H Q => ∃ i j, x = .int i ∧ y = .int j ∧ Q (.int (i + j)) H
def rSub : V → V → Hp → VK → Prop := fun x y H Q => ∃ i j, x = .int i ∧ y = .int j ∧ Q (.int (i - j)) H
end

/-! ### isinstance -/
section
variable {X : Cx} {pins : List (Addr × Obj)} {σ : St} {H : Hp} {s : Shared} {A : Around} {E : Value → Shared → Prop} {Q : Value → Shared → Prop} {c : Value} {b : Bool}
/-- the type of a value, as the fragment's deciders take it; for an instance its class -/
inductive TyOf (K : PySem.W.Frag) (H : Hp) : V → Value → Prop where
  | non : TyOf K H .non (.type "NoneType")
  | bl (x : Bool) : TyOf K H (.bl x) (.type "bool")
  | int (i : Int) : TyOf K H (.int i) (.type "int")
  | str (x : Str) : TyOf K H (.str x) (.type "str")
  | flt (x : UInt64) : TyOf K H (.flt x) (.type "float")
  | lst {a : Addr} {xs : List V} (e : H a = some (.lst xs)) : TyOf K H (.ref a) (.type "list")
  | frz {a : Addr} {o : Obj} {xs : List V} (e : H a = some (.frz o (.lst xs))) : TyOf K H (.ref a) (.type "list")
  | tup {a : Addr} {xs : List V} (e : H a = some (.tup xs)) : TyOf K H (.ref a) (.type "tuple")
  | dK {a : Addr} {kvs : List (Key × V)} (e : H a = some (.dK kvs)) : TyOf K H (.ref a) (.type "dict")
  | dT {a : Addr} {kvs : List (List Key × V)} (e : H a = some (.dT kvs)) : TyOf K H (.ref a) (.type "dict")
  | ins {a C dx : Addr} {fs : List (Str × V)} (e : H a = some (.ins C dx fs)) (cl : Cls K C) (ha : PySem.W.findIn K (.ref C) "__class__" = some (some (.builtin "object.__class__")))
      (hn : PySem.W.specialIn K (.builtin "object.__class__") "__get__" = some (some (.builtin "getset_descriptor.__get__"))) (htk : PySem.W.takesIn K (.builtin "object.__class__") = some true)
      (hm : PySem.W.mroIn K C (.type "object") = some true) : TyOf K H (.ref a) (.ref C)
/-- isinstance(x, c) for one class c, a built-in or an own one: kitOne's answer -/
theorem isinst_ok {x : V} {u t : Value} (I : Inv X pins σ H s) (rx : RelV x u) (ty : TyOf X.K H x t) (e : PySem.W.kitOne X.K t c = some b) (h : ∀ tk, Q (.bool b) { s with toks := tk }) :
    wpAny (model X.prog X.w) A (call (.builtin "isinstance") [u, c]) Q E s := by
  cases ty with
  | non => cases (show u = Value.none from rx); exact PySem.W.kia_one PySem.W.kitx_none I.kIn True.intro e (fun z => nomatch z) h
  | bl y => cases (show u = Value.bool y from rx); exact PySem.W.kia_one PySem.W.kitx_bool I.kIn True.intro e (fun z => nomatch z) h
  | int i => obtain ⟨t, q⟩ := (show ∃ t, u = Value.int i t from rx); cases q; exact PySem.W.kia_one PySem.W.kitx_int I.kIn True.intro e (fun z => nomatch z) h
  | str y => obtain ⟨t, q⟩ := (show ∃ t, u = Value.str y t from rx); cases q; exact PySem.W.kia_one PySem.W.kitx_str I.kIn True.intro e (fun z => nomatch z) h
  | flt y => obtain ⟨t, q⟩ := (show ∃ t, u = Value.float y t from rx); cases q; exact PySem.W.kia_one PySem.W.kitx_float I.kIn True.intro e (fun z => nomatch z) h
  | @lst a xs ea =>
    cases (show u = Value.ref a from rx)
    obtain ⟨_, _, n, _, h1⟩ := (show ObjOk X.prog X.w H s.heap a (.lst xs) from I.hok a _ ea)
    exact PySem.W.kia_one PySem.W.kitx_list I.kIn ⟨_, h1, rfl⟩ e (fun z => nomatch z) h
  | @frz a ob xs ea =>
    cases (show u = Value.ref a from rx)
    obtain ⟨_, _, _, n, _, h1⟩ := (show ObjOk X.prog X.w H s.heap a (.frz ob (.lst xs)) from I.hok a _ ea)
    exact PySem.W.kia_one PySem.W.kitx_list I.kIn ⟨_, h1, rfl⟩ e (fun z => nomatch z) h
  | @tup a xs ea =>
    cases (show u = Value.ref a from rx)
    obtain ⟨_, _, _, p⟩ := (show ObjOk X.prog X.w H s.heap a (.tup xs) from I.hok a _ ea)
    obtain ⟨o, h1, h2, _⟩ := p
    exact PySem.W.kia_one PySem.W.kitx_tuple I.kIn ⟨o, h1, h2⟩ e (fun z => nomatch z) h
  | @dK a kvs ea =>
    cases (show u = Value.ref a from rx)
    obtain ⟨_, _, vs, _, p⟩ := (show ObjOk X.prog X.w H s.heap a (.dK kvs) from I.hok a _ ea)
    obtain ⟨o, es, ep, h1, h2, _⟩ := p
    exact PySem.W.kia_one PySem.W.kitx_dict I.kIn ⟨o, h1, h2.1⟩ e (fun z => nomatch z) h
  | @dT a kvs ea =>
    cases (show u = Value.ref a from rx)
    obtain ⟨_, _, xs, _, o, es, ep, h1, h2, _⟩ := (show ObjOk X.prog X.w H s.heap a (.dT kvs) from I.hok a _ ea)
    exact PySem.W.kia_one PySem.W.kitx_dict I.kIn ⟨o, h1, h2.1⟩ e (fun z => nomatch z) h
  | @ins a C dx fs ea cl ha hn htk hm =>
    cases (show u = Value.ref a from rx)
    obtain ⟨mA, O, _⟩ := ins_get I.hok ea
    obtain ⟨od, J, _⟩ := O.look
    exact PySem.W.kia_one (PySem.W.kitx_own (cl.get _) cl.hd ha hn htk hm) I.kIn J e (fun z => nomatch z) h
end
end L2

namespace L2
open PySem PySem.Spec PyProof.Rows

/-! ### room -/
structure Room (k : Nat) (A : Around) : Prop where
  hd : A.handled = none
  dp : A.depth + 3 * k + 5 < recursionLimit
  un : A.units + 16 * k + 200 < cLine
theorem Room.mono {j k : Nat} {A : Around} (r : Room k A) (h : j ≤ k) : Room j A := ⟨r.hd, by have := r.dp; omega, by have := r.un; omega⟩
theorem Room.deeper {k : Nat} {A : Around} (r : Room (k + 1) A) (env : Env) : Room k (A.deeper env) :=
  ⟨r.hd, by have := r.dp; show A.depth + 1 + 3 * k + 5 < _; omega, by have := r.un; show A.units + 3 + 16 * k + 200 < _; omega⟩
theorem Room.depth {k : Nat} {A : Around} (r : Room k A) : A.depth < recursionLimit := by have := r.dp; omega
theorem Room.units {k : Nat} {A : Around} (r : Room k A) : A.units + 64 < cLine := by have := r.un; omega
/-! ### argument lists and displays -/
def tNil : TA := fun _ H Q => Q [] H
def tCons (ta : TE) (tr : TA) : TA := fun σ H Q => ta σ H fun x H1 => tr σ H1 fun xs H2 => Q (x :: xs) H2
section
variable {X : Cx} {e : Expr} {es : List Expr} {te : TE} {t : TA} {pos : Pos}
theorem pa_nil : PA X [] tNil := fun _ _ _ _ H Q I h => Calls.spliced_nil ⟨[], H, I, .nil, h⟩
theorem pa_cons (ha : PE X e te) (hr : PA X es t) (hs : starEach (e :: es) X.env = (false, eval e X.env) :: starEach es X.env := by rfl) : PA X (e :: es) (tCons te t) := by
  intro pos pins s σ H Q I h
  rw [hs]
  show wpAny _ _ (spliced ((false, eval e X.env) :: backTo pos (starEach es X.env))) _ _ s
  refine Calls.spliced_cons (thn (ha pins s σ H _ I h) fun u s1 ⟨x, H1, I1, r1, q1⟩ => ?_)
  exact thn (hr pos pins s1 σ H1 _ I1 q1) fun us s2 ⟨xs, H2, I2, r2, q2⟩ => ⟨x :: xs, H2, I2, .cons r1 r2, q2⟩

/-- a tuple, a list of written items -/
def tTup (t : TA) : TE := fun σ H Q => t σ H fun xs H1 => xs.length ≤ sizeLine ∧ ∀ p, H1 p = none → Q (.ref p) (upd H1 p (.tup xs))
def tLst (t : TA) : TE := fun σ H Q => t σ H fun xs H1 => xs.length ≤ sizeLine ∧ ∀ p, H1 p = none → Q (.ref p) (upd H1 p (.lst xs))
theorem pe_tup {x1} (h : PA X es t) : PE X (.Tuple es x1 pos) (tTup t) := by
  intro pins s σ H Q I hq
  refine wpAny_Tuple_spliced (thn (h pos pins s σ H _ I hq) fun us s1 ⟨xs, H1, I1, r, z, q⟩ => ⟨by rw [← r.length]; exact z, ?_⟩)
  have hf : H1 s1.heap.objs.size = none := I1.hok.fresh (Nat.le_refl _)
  refine ⟨.ref s1.heap.objs.size, upd H1 s1.heap.objs.size (.tup xs), I1.laid (t' := s1.toks) (fun b u e => Heap.get?_push_of_some _ e) (Nat.le_refl _) ?_, rfl, q _ hf⟩
  exact ⟨z, us, r, ⟨_, Heap.get?_push_size _ rfl, rfl, _, rfl⟩⟩
theorem pe_lst (h : PA X es t) : PE X (.List es pos) (tLst t) := by
  intro pins s σ H Q I hq
  refine wpAny_List_spliced (thn (h pos pins s σ H _ I hq) fun us s1 ⟨xs, H1, I1, r, z, q⟩ => ⟨by rw [← r.length]; exact z, ?_⟩)
  have hf : H1 s1.heap.objs.size = none := I1.hok.fresh (Nat.le_refl _)
  refine ⟨.ref s1.heap.objs.size, upd H1 s1.heap.objs.size (.lst xs), I1.laid (t' := s1.toks) (fun b u e => Heap.get?_push_of_some _ e) (Nat.le_refl _) ?_, rfl, q _ hf⟩
  exact ⟨z, us, 0, r, Heap.get?_push_size _ rfl⟩
end

/-! ### what a def promises -/
/-- a def's promise: the bound arguments in the parameters' order, the heap, the wanted end, the wanted exception -/
abbrev Sp := List V → Hp → VK → XK → Prop
/-- how an exception lies behind a call (file 08 gives it): the callers' frames, abstract heap and state ahead of the call, the wish, the exception, the state -/
abbrev CXT := List Env → Hp → Shared → XK → Value → Shared → Prop

/-- the state at a call -/
structure Env0 (P : Program) (w : World) (K : PySem.W.Frag) (mg : Str → Option Value) (base : Heap) (A : Around) (outer : List Env) (s : Shared) (H : Hp) : Prop where
  frames : A.frames = some outer
  mod : Mod K mg base
  bs : ∀ b o, base.get? b = some o → s.heap.get? b = some o ∧ H b = none
  bsz : base.objs.size ≤ s.heap.objs.size
  funs : s.heap.FunFrames base outer
  frf : ∀ b ∈ frs outer, H b = none
  hok : HOk P w H s.heap
  bare : AllBare s.gens
/-- a call's end -/
def CE (outer : List Env) (P : Program) (w : World) (H : Hp) (s : Shared) (Q : VK) (u : Value) (s' : Shared) : Prop :=
  ∃ v H', s'.os = s.os ∧ AllBare s'.gens ∧ Un (frs outer) [] H H' s.heap s'.heap ∧ HOk P w H' s'.heap ∧ RelV v u ∧ Q v H'
def CR (CX : CXT) (outer : List Env) (P : Program) (w : World) (H : Hp) (s : Shared) (Q : VK) (E : XK) (r : Result) (s' : Shared) : Prop :=
  match r with
  | .ok (.ret u) => CE outer P w H s Q u s'
  | .ok _ => False
  | .error e => CX outer H s E e s'
structure FnOk (P : Program) (w : World) (K : PySem.W.Frag) (mg : Str → Option Value) (base : Heap) (CX : CXT) (k : Nat) (f : Addr) (fd : FuncData) (ps : List Str) (sp : Sp) : Prop where
  len : ∀ vs H Q E, sp vs H Q E → vs.length = ps.length
  run : ∀ (A : Around) (outer : List Env) (s : Shared) (H : Hp) (args : Args) (us : List Value) (vs : List V) (Q : VK) (E : XK), Room k A → Env0 P w K mg base A outer s H → BindsTo s fd args (ps.zip us) → Vals vs us → sp vs H Q E →
    codeAny (model P w) A (.call (.ref f) args) (CR CX outer P w H s Q E) s
section
variable {X : Cx} {pins : List (Addr × Obj)} {σ : St} {H : Hp} {s s' : Shared}
/-- from a body: what a callee wants -/
theorem Inv.env0 (I : Inv X pins σ H s) : Env0 X.prog X.w X.K X.mg X.base X.A X.stack s H :=
  ⟨I.ok.frames, I.ok.mod, I.bs, Nat.le_trans I.ok.bsz I.sz, I.stack, I.stkFree, I.hok, I.bare⟩
/-- behind a call -/
theorem Inv.after {Q : VK} {u : Value} (I : Inv X pins σ H s) (h : CE X.stack X.prog X.w H s Q u s') : EP X pins σ Q u s' := by
  obtain ⟨v, H', os, bare, un, hok, r, q⟩ := h
  obtain ⟨hh, g, d, t, os'⟩ := s'
  obtain rfl : os' = s.os := os
  exact ⟨v, H', I.call (h' := hh) (g' := g) (d' := d) (t' := t) (ch := []) un hok bare (fun b z => absurd z (by simp)), r, q⟩
end

/-! ### calls -/
/-- f(..): the written arguments, then the defaults dvs; E: what is wanted of an exception -/
def tCall (sp : Sp) (dvs : List V) (E : XK) (t : TA) : TE := fun σ H Q => t σ H fun vs H1 => sp (vs ++ dvs) H1 Q E
/-- o.m(..) of an instance of the class at C -/
def tMeth (C : Addr) (m : Str) (sp : Sp) (dvs : List V) (E : XK) (ta : TE) (t : TA) : TE := fun σ H Q => ta σ H fun x H1 => ∃ a dx fs, x = .ref a ∧ H1 a = some (.ins C dx fs) ∧ fs.lookup m = none ∧
  t σ H1 fun vs H2 => sp (x :: (vs ++ dvs)) H2 Q E
/-- C(..): a new instance and its dict, then __init__ -/
def tMake (C : Addr) (sp : Sp) (dvs : List V) (E : XK) (t : TA) : TE := fun σ H Q => t σ H fun vs H1 => ∀ x dx, H1 x = none → H1 dx = none → dx ≠ x →
  sp (.ref x :: (vs ++ dvs)) (upd (upd H1 dx (.own x)) x (.ins C dx [])) (fun v H2 => v = .non ∧ Q (.ref x) H2) E

/-- how the parameters are bound: us the positional arguments, kw the keywords' values by name, ds the defaults that fill up -/
def Binds (K : PySem.W.Frag) (fd : FuncData) (ps : List Str) (ds : List Value) : Prop :=
  ∀ (s : Shared) (us : List Value), K.In s.heap → (us ++ ds).length = ps.length → BindsTo s fd ⟨us, []⟩ (ps.zip (us ++ ds))
/-- every parameter is given -/
theorem Binds.all {K : PySem.W.Frag} {fd : FuncData} {ps : List Str} (h : ∀ us : List Value, us.length = ps.length → bindArgs fd ⟨us, []⟩ = pure (ps.zip us)) : Binds K fd ps [] := fun s us _ hl => by
  rw [List.append_nil] at hl ⊢
  exact .of_eq (h us hl)

/-- an exception of a callee reaches what this body wants of exceptions -/
def Passes (CX : CXT) (X : Cx) (E : XK) : Prop := ∀ (pins : List (Addr × Obj)) (σ : St) (H : Hp) (s : Shared) (e : Value) (s' : Shared), Inv X pins σ H s → CX X.stack H s E e s' → X.xe e s'

section
variable {X : Cx} {CX : CXT} {k : Nat} {f C : Addr} {fd : FuncData} {ps : List Str} {sp : Sp} {dvs : List V} {ds : List Value} {E : XK} {x m : Str} {p pos apos : Pos} {e o : Expr} {es : List Expr} {ta : TE} {t : TA}

/-- the callee runs -/
theorem run_fn {pins : List (Addr × Obj)} {σ : St} {H : Hp} {s : Shared} {Q : VK} {us : List Value} {vs : List V} (F : FnOk X.prog X.w X.K X.mg X.base CX k f fd ps sp) (hr : Room k X.A) (hb : Binds X.K fd ps ds) (hd : Vals dvs ds) (hx : Passes CX X E)
    (I : Inv X pins σ H s) (r : Vals vs us) (h : sp (vs ++ dvs) H Q E) : wpAny (model X.prog X.w) X.A (call (.ref f) us) (EP X pins σ Q) X.xe s := by
  have r2 : Vals (vs ++ dvs) (us ++ ds) := r.append hd
  have hl : (us ++ ds).length = ps.length := by rw [← r2.length]; exact F.len _ _ _ _ h
  refine wpAny_call (codeAny_mono (F.run X.A X.stack s H ⟨us, []⟩ (us ++ ds) (vs ++ dvs) Q E hr I.env0 (hb s us I.kIn hl) r2 h) fun r s' hq => ?_)
  cases r with
  | error e => exact hx pins σ H s e s' I hq
  | ok fl =>
    cases fl with
    | ret u => exact I.after hq
    | next => exact False.elim hq
    | brk => exact False.elim hq
    | cont => exact False.elim hq

theorem pe_call (F : FnOk X.prog X.w X.K X.mg X.base CX k f fd ps sp) (hr : Room k X.A) (hg : Gl X x) (hm : X.mg x = some (.ref f)) (hk : PySem.W.keepIn X.K (.ref f) = true) (hb : Binds X.K fd ps ds) (hd : Vals dvs ds) (hx : Passes CX X E)
    (ha : PA X (e :: es) t) (hdb : (x == ("__debug__" : Str)) = false := by decide) (he : starEach (e :: es) X.env = (false, eval e X.env) :: starEach es X.env := by rfl) (hpl : (backTo pos (starEach es X.env)).any (·.1) = false := by rfl) :
    PE X (.Call (.Name x p) (e :: es) [] pos) (tCall sp dvs E t) := by
  intro pins s σ H Q I h
  refine wpAny_Call_Name_kw (ld_glob I hg hm ?_ hdb)
  refine PySem.W.callWith_K (h₀ := X.base) I.ok.mod.kin hk (thn (ha pos pins s σ H _ I h) fun us s1 ⟨vs, H1, I1, r, q⟩ => ⟨I1.kIn, ?_⟩) he hpl
  exact run_fn F hr hb hd hx I1 r q
/-- what a class must have to be made -/
structure Mk (K : PySem.W.Frag) (C f : Addr) : Prop where
  makes : PySem.W.makesIn K C = true
  init : PySem.W.findIn K (.ref C) "__init__" = some (some (.ref f))
  fn : PySem.W.isFn K (.ref f) = true
  kp : PySem.W.keepIn K (.ref C) = true

end

/-! ### keywords -/
/-- the values of the keywords, from the left -/
def PK (X : Cx) (kws : List Keyword) (t : TA) : Prop :=
  ∀ (pos : Pos) (pins : List (Addr × Obj)) (s : Shared) (σ : St) (H : Hp) (Q : List V → Hp → Prop), Inv X pins σ H s → t σ H Q → wpAny (model X.prog X.w) X.A (evalAll ((backToKw pos (keywordEach kws X.env)).map (·.2))) (AP X pins σ Q) X.xe s
section
variable {X : Cx} {CX : CXT} {k : Nat} {f C : Addr} {fd : FuncData} {ps ks : List Str} {sp : Sp} {E : XK} {x m : Str} {p pos apos kpos : Pos} {e o : Expr} {es : List Expr} {kws : List Keyword} {te ta : TE} {t tk : TA} {nm : Option Str}
/-- how a call with keywords binds: g puts the positional values us and the keywords' values ws (names ks) in the parameters' order, defaults among them -/
structure KBinds (K : PySem.W.Frag) (fd : FuncData) (ps ks : List Str) (g : List Value → List Value → List Value) (gV : List V → List V → List V) : Prop where
  to : ∀ (s : Shared) (us ws : List Value), K.In s.heap → (g us ws).length = ps.length → BindsTo s fd ⟨us, ks.zip ws⟩ (ps.zip (g us ws))
  rel : ∀ {vs : List V} {us : List Value} {zs : List V} {ws : List Value}, Vals vs us → Vals zs ws → Vals (gV vs zs) (g us ws)
def tCallK (sp : Sp) (gV : List V → List V → List V) (E : XK) (t tk : TA) : TE := fun σ H Q => t σ H fun vs H1 => tk σ H1 fun zs H2 => sp (gV vs zs) H2 Q E
variable {g : List Value → List Value → List Value} {gV : List V → List V → List V}
end

/-! ### a def's body keeps its promise -/
/-- names: the parameters first -/
structure FnScope (N P : List Str) (sc : Scope) : Prop where
  kind : sc.kind = .function
  co : sc.isCoroutine = false
  gen : sc.isGenerator = false
  nd : N.Nodup
  pre : N.take P.length = P
  par : ∀ x ∈ P, sc.names.lookup x = some .local ∨ sc.names.lookup x = some .cell
  nofree : ∀ y ∈ sc.names, y.2 ≠ .free

theorem bindL_out {kindOf : Str → Option NameKind} {x : Str} : ∀ {binds : List (Str × Value)} {m : Str → Option Value}, (∀ v, (x, v) ∉ binds) → bindL kindOf binds m x = m x
  | [], _, _ => rfl
  | (n, v) :: r, m, h => by
    unfold bindL
    rw [bindL_out fun w hw => h w (List.mem_cons_of_mem _ hw)]
    split
    · have : x ≠ n := by rintro rfl; exact h v List.mem_cons_self
      simp [this]
    · rfl
theorem bindC_out {kindOf : Str → Option NameKind} {x : Str} : ∀ {binds : List (Str × Value)} {m : Str → Option Value}, (∀ v, (x, v) ∉ binds) → bindC kindOf binds m x = m x
  | [], _, _ => rfl
  | (n, v) :: r, m, h => by
    unfold bindC
    rw [bindC_out fun w hw => h w (List.mem_cons_of_mem _ hw)]
    split
    · rfl
    · have : x ≠ n := by rintro rfl; exact h v List.mem_cons_self
      simp [this]
theorem bindL_get {kindOf : Str → Option NameKind} {x : Str} {v : Value} : ∀ {P : List Str} {vs : List Value} {i : Nat} {m : Str → Option Value}, P.Nodup → P[i]? = some x → vs[i]? = some v → kindOf x = some .local →
    bindL kindOf (P.zip vs) m x = some v
  | [], _, _, _, _, h, _, _ => by simp at h
  | _ :: _, [], _, _, _, _, h, _ => by simp at h
  | p :: P, w :: vs, 0, m, nd, h1, h2, hk => by
    simp at h1 h2; subst h1; subst h2
    show bindL kindOf ((p, w) :: P.zip vs) m p = _
    unfold bindL
    rw [bindL_out fun v hv => (List.nodup_cons.mp nd).1 (List.of_mem_zip hv).1, if_pos hk]
    simp
  | p :: P, w :: vs, i + 1, m, nd, h1, h2, hk => by
    show bindL kindOf ((p, w) :: P.zip vs) m x = _
    unfold bindL
    exact bindL_get (i := i) (List.nodup_cons.mp nd).2 (by simpa using h1) (by simpa using h2) hk
theorem bindC_get {kindOf : Str → Option NameKind} {x : Str} {v : Value} : ∀ {P : List Str} {vs : List Value} {i : Nat} {m : Str → Option Value}, P.Nodup → P[i]? = some x → vs[i]? = some v → kindOf x ≠ some .local →
    bindC kindOf (P.zip vs) m x = some v
  | [], _, _, _, _, h, _, _ => by simp at h
  | _ :: _, [], _, _, _, _, h, _ => by simp at h
  | p :: P, w :: vs, 0, m, nd, h1, h2, hk => by
    simp at h1 h2; subst h1; subst h2
    show bindC kindOf ((p, w) :: P.zip vs) m p = _
    unfold bindC
    rw [bindC_out fun v hv => (List.nodup_cons.mp nd).1 (List.of_mem_zip hv).1, if_neg hk]
    simp
  | p :: P, w :: vs, i + 1, m, nd, h1, h2, hk => by
    show bindC kindOf ((p, w) :: P.zip vs) m x = _
    unfold bindC
    exact bindC_get (i := i) (List.nodup_cons.mp nd).2 (by simpa using h1) (by simpa using h2) hk

/-- the names' values at the entry -/
def start (N : List Str) (vs : List V) : St := vs.map some ++ List.replicate (N.length - vs.length) none

/-- the context of a def's body, at its entry; an exception leaves the frame, then lies as CX says -/
def cxOf (CX : CXT) (P : Program) (w : World) (K : PySem.W.Frag) (mg : Str → Option Value) (base : Heap) (N : List Str) (qual : Str) (scope : Scope) (f : Addr) (cd : Value) (A : Around) (outer : List Env) (s : Shared) (H : Hp) (E : XK) : Cx where
  prog := P
  w := w
  K := K
  mg := mg
  base := base
  A := A.deeper (envOfC qual scope s.heap.objs.size f cd)
  N := N
  s₀ := s
  H₀ := H
  env := envOfC qual scope s.heap.objs.size f cd
  outer := outer
  stack := envOfC qual scope s.heap.objs.size f cd :: outer
  ex := []
  calm := true
  fn := fun _ => true
  pn := []
  xe := fun e s' => wpAny (model P w) (A.deeper (envOfC qual scope s.heap.objs.size f cd)) (leaving (envOfC qual scope s.heap.objs.size f cd) e) (fun _ s'' => CX outer H s E e s'') (fun e' s'' => CX outer H s E e' s'') s'

theorem cell_has {sc : Scope} {n : Nat} {x : Str} (h : sc.names.lookup x = some .cell) : ∃ c, (cellsFrom n sc.names []).lookup x = some c := by
  have q := PySem.W.cellsFrom_some sc.names n [] (.inl h)
  exact Option.isSome_iff_exists.mp q

theorem inv_start {CX : CXT} {P : Program} {w : World} {K : PySem.W.Frag} {mg : Str → Option Value} {base : Heap} {N ps : List Str} {qual : Str} {scope : Scope} {f : Addr} {cd : Value} {A : Around} {outer : List Env} {s s1 : Shared} {H : Hp} {E : XK} {us : List Value} {vs : List V}
    (S : FnScope N ps scope) (hd : A.handled = none) (e0 : Env0 P w K mg base A outer s H) (hl : vs.length = ps.length) (r : Vals vs us)
    (x : InCallC s s.heap.objs.size (bindL (envOfC qual scope s.heap.objs.size f cd).kindOf (ps.zip us) fun _ => none) (cellsFrom (s.heap.objs.size + 1) scope.names []) (bindC (envOfC qual scope s.heap.objs.size f cd).kindOf (ps.zip us) fun _ => none) s1) :
    Inv (cxOf CX P w K mg base N qual scope f cd A outer s H E) [] (start N vs) H s1 := by
  have hpl : ps.length ≤ N.length := by have := congrArg List.length S.pre; rw [List.length_take] at this; omega
  obtain ⟨h1, tk, rfl, hk⟩ := x.done
  have noA : ∀ b : Addr, b ∉ (cxOf CX P w K mg base N qual scope f cd A outer s H E).ex := fun b z => absurd (show b ∈ ([] : List Addr) from z) (by simp)
  refine ⟨⟨e0.mod, S.kind, rfl, rfl, Nat.le_refl _, fun y z c h1 h2 => ?_, fun y hy => ?_, fun y c _ h => ?_, fun _ => hd, Around.frames_deeper e0.frames, .inr ⟨rfl, rfl⟩, fun b z => absurd z (noA b), e0.bs, e0.bsz, fun b _ _ => noA b, fun b z => absurd z (noA b), e0.funs, e0.frf⟩,
    rfl, e0.bare, Un.kept hk, ⟨_, x.toInCall.ns, fun i y v h1 h2 h3 => ?_⟩, fun y c h => ⟨_, x.cell y c h⟩, e0.hok.fresh (Nat.le_refl _), fun y c h => ?_, fun p hp => absurd (show p ∈ ([] : List (Addr × Obj)) from hp) (by simp), e0.hok.kept hk, ?_⟩
  · exact name_of_addr x.apart (PySem.mem_of_lookup h1) (PySem.mem_of_lookup h2)
  · have hy : scope.names.lookup y = some .cell ∨ scope.names.lookup y = some .free := hy
    rcases hy with hy | hy
    · exact cell_has hy
    · exact absurd rfl (S.nofree _ (PySem.mem_of_lookup hy))
  · exact Nat.le_of_lt (x.above y c (PySem.mem_of_lookup h))
  · have hi : i < vs.length := by
      unfold start at h2
      by_cases hi : i < vs.length
      · exact hi
      · rw [List.getElem?_append_right (by simpa using hi)] at h2
        rw [List.getElem?_replicate] at h2
        split at h2 <;> cases h2
    have ha : vs[i]? = some v := by
      unfold start at h2
      rw [List.getElem?_append_left (by simpa using hi), List.getElem?_map] at h2
      cases e : vs[i]? with
      | none => rw [e] at h2; cases h2
      | some a => rw [e] at h2; cases h2; rfl
    obtain ⟨u, hu, rv⟩ := r.get ha
    have hp : ps[i]? = some y := by
      rw [← S.pre, List.getElem?_take_of_lt (by omega)]; exact h1
    have ndP : ps.Nodup := by rw [← S.pre]; exact S.nd.sublist (List.take_sublist _ _)
    refine ⟨u, rv, ?_⟩
    rcases S.par y (List.mem_of_getElem? hp) with k | k
    · exact .inl ⟨k, bindL_get ndP hp hu k⟩
    · obtain ⟨c, e⟩ := cell_has (n := s.heap.objs.size + 1) k
      refine .inr ⟨.inl k, c, e, ?_⟩
      have q := x.cell y c e
      rw [bindC_get ndP hp hu (by show scope.names.lookup y ≠ _; rw [k]; decide)] at q
      exact q
  · exact e0.hok.fresh (Nat.le_of_lt (x.above y c (PySem.mem_of_lookup h)))
  · unfold start
    show _ = N.length
    rw [List.length_append, List.length_map, List.length_replicate]
    omega

/-- THE RULE: a def (or a method) of the text, by its body. The body's reading t is chosen for each entry; it is run at the parameters' values -/
theorem fn_of {CX : CXT} {P : Program} {w : World} {K : PySem.W.Frag} {mg : Str → Option Value} {base : Heap} {k : Nat} {f : Addr} {name qual : Str} {params : Arguments} {body : List Stmt} {scope : Scope} {dV kV doc pm cdv ct oc : Value} {an od : Option Addr}
    {osl : Array (Option Value)} {N ps : List Str} {sp : Sp} (lk : K.lookup f = some ⟨oc, od, .func (PySem.W.fnOf name qual params body scope dV kV doc pm an cdv ct), osl⟩) (hcd : PySem.W.codeIn K cdv qual = true) (S : FnScope N ps scope)
    (len : ∀ vs H Q E, sp vs H Q E → vs.length = ps.length)
    (hbody : ∀ (A : Around) (outer : List Env) (s : Shared) (H : Hp) (vs : List V) (Q : VK) (E : XK), Room k (A.deeper (envOfC qual scope s.heap.objs.size f cdv)) → sp vs H Q E →
      ∃ t, PSs (cxOf CX P w K mg base N qual scope f cdv A outer s H E) body t ∧ t { nx := fun _ H' => Q .non H', rt := Q } (start N vs) H) :
    FnOk P w K mg base CX (k + 1) f (PySem.W.fnOf name qual params body scope dV kV doc pm an cdv ct) ps sp := by
  refine ⟨len, fun A outer s H args us vs Q E hr e0 hb r hsp => ?_⟩
  have hl := len _ _ _ _ hsp
  have KX : K.In s.heap := e0.mod.kin.keeps fun b o e => (e0.bs b o e).1
  have lim : s.heap.NoLimit := e0.mod.nolimit.keeps fun b o e => (e0.bs b o e).1
  have hkind : ∀ y ∈ ps.zip us, scope.names.lookup y.1 = some .local ∨ (scope.names.lookup y.1 = some .cell ∧ ((cellsFrom (s.heap.objs.size + 1) scope.names []).lookup y.1).isSome = true) := fun ⟨n, v⟩ hy => by
    rcases S.par n (List.of_mem_zip hy).1 with q | q
    · exact .inl q
    · exact .inr ⟨q, PySem.W.cellsFrom_some _ _ _ (.inl q)⟩
  refine codeAny_call_function hr.depth (KX _ _ lk) rfl S.co S.gen rfl (PySem.W.codeRec_of KX hcd) (hb _ _ _ _ ?_)
  refine wpAny_newFunctionEnv_cells S.kind hkind fun env he s1 x => ?_
  subst he
  refine ⟨lim.keeps x.toInCall.keep, codeAny_func ?_⟩
  obtain ⟨t, ht, hq⟩ := hbody A outer s H vs Q E (hr.deeper _) hsp
  have I : Inv (cxOf CX P w K mg base N qual scope f cdv A outer s H E) [] (start N vs) H s1 := inv_start S hr.hd e0 hl r x
  refine wpAny_mono (ht [] s1 (start N vs) H _ I hq) (fun fl s' hs => ?_) fun e s' hs => hs
  have fin : ∀ {σ' : St} {H' : Hp} {v : V} {u : Value}, Inv (cxOf CX P w K mg base N qual scope f cdv A outer s H E) [] σ' H' s' → RelV v u → Q v H' → CE outer P w H s Q u s' :=
    fun {σ' H' v u} J rv q => ⟨v, H', J.os, J.bare, J.base, J.hok, rv, q⟩
  cases fl with
  | ret u =>
    obtain ⟨v, σ', H', J, rv, q⟩ := hs
    exact fin J rv q
  | next =>
    obtain ⟨σ', H', J, q⟩ := hs
    exact fin (v := V.non) (u := Value.none) J rfl q
  | brk =>
    obtain ⟨_, _, _, q⟩ := hs
    exact False.elim q
  | cont =>
    obtain ⟨_, _, _, q⟩ := hs
    exact False.elim q
end L2

namespace L2
open PySem PySem.Spec PyProof.Rows
section
variable {X : Cx} {x : Str} {p pos : Pos} {e : Expr} {es : List Expr} {t : TA} {id T : String} {r : List V → Hp → VK → Prop}

def tCB (r : List V → Hp → VK → Prop) (t : TA) : TE := fun σ H Q => t σ H fun vs H1 => r vs H1 Q
/-- f(e, ..), f a built-in function -/
theorem pe_callB (hc : CallR X (.builtin id) r) (hg : Gl X x) (hm : X.mg x = none) (hv : bootBuiltins x = some (.builtin id)) (ha : PA X (e :: es) t) (hn : x ≠ "__name__" := by decide) (hdb : (x == ("__debug__" : Str)) = false := by decide)
    (he : starEach (e :: es) X.env = (false, eval e X.env) :: starEach es X.env := by rfl) (hpl : (backTo pos (starEach es X.env)).any (·.1) = false := by rfl) : PE X (.Call (.Name x p) (e :: es) [] pos) (tCB r t) := by
  intro pins s σ H Q I h
  refine wpAny_Call_Name_kw (ld_blt I hg hm hv ?_ hn hdb)
  exact PyProof.Rows.callWith_builtin1 (thn (ha pos pins s σ H _ I h) fun us s1 ⟨vs, H1, I1, r1, q1⟩ => hc pins s1 σ H1 vs us Q I1 r1 q1) he hpl
/-- T(e, ..), T a built-in type -/
theorem pe_callTy (hc : CallR X (.type T) r) (hg : Gl X x) (hm : X.mg x = none) (hv : bootBuiltins x = some (.type T)) (ha : PA X (e :: es) t) (hn : x ≠ "__name__" := by decide) (hdb : (x == ("__debug__" : Str)) = false := by decide)
    (he : starEach (e :: es) X.env = (false, eval e X.env) :: starEach es X.env := by rfl) (hpl : (backTo pos (starEach es X.env)).any (·.1) = false := by rfl) : PE X (.Call (.Name x p) (e :: es) [] pos) (tCB r t) := by
  intro pins s σ H Q I h
  refine wpAny_Call_Name_kw (ld_blt I hg hm hv ?_ hn hdb)
  exact PyProof.Rows.callWith_type1 (thn (ha pos pins s σ H _ I h) fun us s1 ⟨vs, H1, I1, r1, q1⟩ => hc pins s1 σ H1 vs us Q I1 r1 q1) he hpl
end
end L2

namespace HT
open PySem PyProof.Rows

/-- t < u of tuples of ints -/
def lexLt : List Int → List Int → Bool
  | [], [] => false
  | [], _ :: _ => true
  | _ :: _, [] => false
  | x :: xs, y :: ys => if x = y then lexLt xs ys else decide (x < y)
section
open PySem.SeqAt
open PySem.AutoSeq1 (wpAny_loadPart')
open PySem.MeetsSeq PySem.MeetsSeq2 PySem.MeetsSeq3

end

section
variable {prog : Program} {w : World} {A : Around} {E : Value → Shared → Prop} {s : Shared}

/-! ### t[a:b], not the whole -/
/-- a slice's bound as a place among n (d where it is left out) -/
def sIx (n d : Nat) : Option Int → Nat
  | none => d
  | some v => if v < 0 then (v + (n : Int)).toNat else min v.toNat n
theorem sIx_none (n d : Nat) : sIx n d none = d := rfl
theorem sIx_nat (n d k : Nat) : sIx n d (some (k : Int)) = min k n := by
  show (if (k : Int) < 0 then ((k : Int) + (n : Int)).toNat else min (k : Int).toNat n) = min k n
  rw [if_neg (by omega), Int.toNat_natCast]
end
end HT

namespace L2
open PySem PySem.Spec PyProof.Rows

/-! ### the parts of a slice -/
abbrev TO := St → Hp → (Option Int → Hp → Prop) → Prop
/-- a slice's part (left out, or an int) -/
def PO (X : Cx) (e : Option Expr) (t : TO) : Prop :=
  ∀ (pins : List (Addr × Obj)) (s : Shared) (σ : St) (H : Hp) (Q : Option Int → Hp → Prop), Inv X pins σ H s → t σ H Q →
    wpAny (model X.prog X.w) X.A (evalPart e X.env) (fun u s' => ∃ o H', Inv X pins σ H' s' ∧ IsPart u o ∧ Q o H') X.xe s
def tNoPart : TO := fun _ H Q => Q none H
def tPart (t : TE) : TO := fun σ H Q => t σ H fun x H1 => ∃ i, x = .int i ∧ Q (some i) H1

theorem intsAre_of {ns : List Int} : ∀ {us : List Value}, Vals (ns.map V.int) us → IntsAre us ns := by
  induction ns with
  | nil => intro us r; rw [List.map_nil] at r; cases r; exact .nil
  | cons n ns ih =>
    intro us r
    rw [List.map_cons] at r
    cases r with
    | cons r1 r2 =>
      obtain ⟨t, e⟩ := r1
      subst e
      exact .cons n t (ih r2)

section
variable {X : Cx} {e : Expr} {te : TE} {lo hi : Option Expr} {tl th : TO} {pos p2 : Pos}

theorem po_none : PO X none tNoPart := by
  intro pins s σ H Q I h
  rw [evalPart_none]
  exact wpAny_pure ⟨none, H, I, .none, h⟩
theorem po_some (h : PE X e te) : PO X (some e) (tPart te) := by
  intro pins s σ H Q I hw
  rw [evalPart_some]
  refine thn (h pins s σ H _ I hw) fun u s1 ⟨x, H1, I1, r1, q1⟩ => ?_
  obtain ⟨i, rfl, q⟩ := q1
  obtain ⟨t, rfl⟩ := r1
  exact ⟨some i, H1, I1, .int i t, q⟩

/-- what a slice of a value is, by values: the slice object stands at sl -/
def SlR (X : Cx) (r : V → Option Int → Option Int → Hp → VK → Prop) : Prop :=
  ∀ (pins : List (Addr × Obj)) (s : Shared) (σ : St) (H : Hp) (x : V) (v vl vu : Value) (lo hi : Option Int) (sl : Addr) (Q : VK), Inv X pins σ H s → RelV x v → s.heap.IsSliceOf sl vl vu .none → IsPart vl lo → IsPart vu hi → r x lo hi H Q →
    ∃ T id, typeLookup (.type T) "__getitem__" = pure (some (.builtin id)) ∧ s.TypeIs v T ∧ wpAny (model X.prog X.w) X.A (getItem v (.ref sl)) (EP X pins σ Q) X.xe s
def tSl (r : V → Option Int → Option Int → Hp → VK → Prop) (te : TE) (tl th : TO) : TE := fun σ H Q => te σ H fun x H1 => tl σ H1 fun l H2 => th σ H2 fun u H3 => r x l u H3 Q
/-- a[lo:hi], any a -/
theorem pe_slice {r : V → Option Int → Option Int → Hp → VK → Prop} (hr : SlR X r) (he : PE X e te) (hl : PO X lo tl) (hu : PO X hi th) : PE X (.Subscript e (.Slice lo hi none p2) pos) (tSl r te tl th) := by
  intro pins s σ H Q I h
  refine Subscript_ (thn (he pins s σ H _ I h) fun v s1 ⟨x, H1, I1, r1, q1⟩ => ?_)
  refine wpAny_Slice (thn (hl pins s1 σ H1 _ I1 q1) fun vl s2 ⟨l, H2, I2, pl, q2⟩ => thn (hu pins s2 σ H2 _ I2 q2) fun vu s3 ⟨u, H3, I3, pu, q3⟩ => ?_)
  rw [evalPart_none]
  refine wpAny_pure ?_
  have I4 : Inv X pins σ H3 { s3 with heap := s3.heap.push { cls := .type "slice", data := .fields #[vl, vu, .none] } } := I3.kept (t' := s3.toks) fun b ob q => Heap.get?_push_of_some _ q
  obtain ⟨T, id, hT, ht, hg⟩ := hr pins { s3 with heap := s3.heap.push { cls := .type "slice", data := .fields #[vl, vu, .none] } } σ H3 x v vl vu l u s3.heap.objs.size Q I4 r1 (Heap.IsSliceOf.new ..) pl pu q3
  show wpAny (model X.prog X.w) X.A (subscriptTail e (.Slice lo hi none p2) v (.ref s3.heap.objs.size)) (EP X pins σ Q) X.xe { s3 with heap := s3.heap.push { cls := .type "slice", data := .fields #[vl, vu, .none] } }
  exact tail_any (ops := [.ref s3.heap.objs.size, v]) ht hT hg (by with_unfolding_all rfl)

/-- the items of xs[lo:hi] -/
def cutV (xs : List V) (lo hi : Option Int) : List V := (xs.drop (HT.sIx xs.length 0 lo)).take (HT.sIx xs.length xs.length hi - HT.sIx xs.length 0 lo)
theorem cutV_length (xs : List V) (lo hi : Option Int) : (cutV xs lo hi).length ≤ xs.length := by
  unfold cutV
  rw [List.length_take, List.length_drop]
  omega
/-- t[lo:hi], not the whole of it (the whole would be t itself) -/
def rSlT (K : PySem.W.Frag) : V → Option Int → Option Int → Hp → VK → Prop := fun x lo hi H Q => ∃ a xs, x = .ref a ∧ SqT K H a xs ∧
  ¬ (HT.sIx xs.length 0 lo = 0 ∧ HT.sIx xs.length xs.length hi = xs.length) ∧ ∀ p, H p = none → Q (.ref p) (upd H p (.tup (cutV xs lo hi)))
/-! ### t < u, t + u -/
def rLtT (K : PySem.W.Frag) : R2 := fun x y H Q => ∃ a b ns ms, x = .ref a ∧ y = .ref b ∧ SqT K H a (ns.map V.int) ∧ SqT K H b (ms.map V.int) ∧ Q (.bl (HT.lexLt ns ms)) H
/-- t + u, t not empty: u empty gives t itself -/
def rCatT (K : PySem.W.Frag) : R2 := fun x y H Q => ∃ a b xs ys, x = .ref a ∧ y = .ref b ∧ SqT K H a xs ∧ SqT K H b ys ∧ xs ≠ [] ∧ xs.length + ys.length ≤ sizeLine ∧
  (ys = [] → Q (.ref a) H) ∧ (ys ≠ [] → ∀ p, H p = none → Q (.ref p) (upd H p (.tup (xs ++ ys))))
end
end L2

namespace L2
open PySem PySem.Spec PyProof.Rows

/-! ### places -/
/-- the place that an index of any sign means -/
def ixN (n : Nat) (i : Int) : Option Nat := if 0 ≤ i then (if i < n then some i.toNat else none) else if -(n : Int) ≤ i then some (i + n).toNat else none
def atI {α : Type} (xs : List α) (i : Int) : Option α := (ixN xs.length i).bind fun j => xs[j]?
theorem ixN_seq {n : Nat} {i : Int} {j : Nat} (h : ixN n i = some j) : seqIndex? i n = some j ∧ j < n ∧ -(n : Int) ≤ i ∧ i < n := by
  unfold ixN at h
  by_cases h0 : 0 ≤ i
  · rw [if_pos h0] at h
    by_cases h1 : i < n
    · rw [if_pos h1] at h
      have e : i.toNat = j := Option.some.inj h
      exact ⟨by rw [seqIndex_of h0 h1, e], by omega, by omega, h1⟩
    · rw [if_neg h1] at h; cases h
  · rw [if_neg h0] at h
    by_cases h1 : -(n : Int) ≤ i
    · rw [if_pos h1] at h
      have e : (i + n).toNat = j := Option.some.inj h
      exact ⟨by rw [seqIndex_neg (by omega) h1, e], by omega, h1, by omega⟩
    · rw [if_neg h1] at h; cases h
theorem atI_get {α : Type} {xs : List α} {i : Int} {v : α} (h : atI xs i = some v) : ∃ j, seqIndex? i xs.length = some j ∧ xs[j]? = some v ∧ j < xs.length ∧ -(xs.length : Int) ≤ i ∧ i < xs.length := by
  unfold atI at h
  cases e : ixN xs.length i with
  | none => rw [e] at h; cases h
  | some j =>
    rw [e] at h
    obtain ⟨h1, h2, h3, h4⟩ := ixN_seq e
    exact ⟨j, h1, h, h2, h3, h4⟩
theorem atI_nat {α : Type} {xs : List α} {j : Nat} {v : α} (h : xs[j]? = some v) : atI xs (j : Int) = some v := by
  have hj : j < xs.length := (List.getElem?_eq_some_iff.mp h).1
  have e : ixN xs.length (j : Int) = some j := by
    unfold ixN
    rw [if_pos (by omega), if_pos (by omega)]; simp
  unfold atI; rw [e]; exact h
/-! ### what may be subscripted -/
/-- what stands as an index of a plain subscript -/
def PlainIx (b : Expr) : Prop := ∀ o i, subscripted b false o i = operate [o, i] (getItem o i)
/-- a subscript by values -/
def IxR (X : Cx) (r : R2) : Prop :=
  ∀ (value slice : Expr) (pins : List (Addr × Obj)) (s : Shared) (σ : St) (H : Hp) (x y : V) (v u : Value) (Q : VK), Inv X pins σ H s → RelV x v → RelV y u → r x y H Q →
    subscripted slice false v u = operate [v, u] (getItem v u) → wpAny (model X.prog X.w) X.A (subscriptTail value slice v u) (EP X pins σ Q) X.xe s
/-- a call of a builtin's method by values: the receiver, the arguments -/
def MtR (X : Cx) (id : String) (r : V → List V → Hp → VK → Prop) : Prop :=
  ∀ (pins : List (Addr × Obj)) (s : Shared) (σ : St) (H : Hp) (x : V) (xs : List V) (v : Value) (us : List Value) (Q : VK), Inv X pins σ H s → RelV x v → Vals xs us → r x xs H Q →
    wpAny (model X.prog X.w) X.A (call (.builtin id) (v :: us)) (EP X pins σ Q) X.xe s
section
variable {X : Cx} {a b : Expr} {ta tb : TE} {pos : Pos}
/-- a[b] -/
theorem pe_ix {r : R2} (hr : IxR X r) (ha : PE X a ta) (hb : PE X b tb) (hs : PlainIx b) : PE X (.Subscript a b pos) (tOp r ta tb) := by
  intro pins s σ H Q I h
  exact Subscript_ (binT ha hb I h fun v u s2 x y H2 I2 rx ry q => hr a b pins s2 σ H2 x y v u Q I2 rx ry q (hs _ _))

def rIxL (K : PySem.W.Frag) : R2 := fun x y H Q => ∃ p xs i v, x = .ref p ∧ y = .int i ∧ SqL K H p xs ∧ atI xs i = some v ∧ Q v H
def rIxT (K : PySem.W.Frag) : R2 := fun x y H Q => ∃ p xs i v, x = .ref p ∧ y = .int i ∧ SqT K H p xs ∧ atI xs i = some v ∧ Q v H
def rIxS : R2 := fun x y H Q => ∃ z i c, x = .str z ∧ y = .int i ∧ z.length ≤ sizeLine ∧ atI z.cps.toList i = some c ∧ Q (.str ⟨#[c]⟩) H
theorem ix_list : IxR X (rIxL X.K) := by
  intro value slice pins s σ H x y v u Q I rx ry h hs
  obtain ⟨p, xs, i, z, rfl, rfl, hq, he, q⟩ := h
  cases rx
  obtain ⟨t, rfl⟩ := ry
  obtain ⟨its, r, pl, hz⟩ := I.list hq
  obtain ⟨j, h1, h2, h3, h4, h5⟩ := atI_get he
  obtain ⟨w, ew, rw'⟩ := r.get h2
  have hl := r.length
  have hn := line63
  have fin : EP X pins σ Q w s := ⟨z, H, I, rw', q⟩
  by_cases h0 : 0 ≤ i
  · have hj : i.toNat = j := by
      rw [seqIndex_of h0 h5] at h1
      exact Option.some.inj h1
    exact item_listR pl.isList h0 (by omega) (by rw [hj]; simpa using ew) fin hs
  · have hj : (i + (its.toArray.size : Int)).toNat = j := by
      rw [seqIndex_neg (by omega) h4] at h1
      rw [List.size_toArray, ← hl]
      exact Option.some.inj h1
    exact subscriptTail_builtinR (x := w) pl.isList.typeIs slot_list_getitem.lookup
      (wpAny_getItem_list_neg (Q := fun r s' => r = w ∧ EP X pins σ Q r s') pl.isList (by omega) (by rw [List.size_toArray] <;> omega) (by omega) (by rw [hj]; simpa using ew) ⟨rfl, fin⟩) hs
theorem ix_tup : IxR X (rIxT X.K) := by
  intro value slice pins s σ H x y v u Q I rx ry h hs
  obtain ⟨p, xs, i, z, rfl, rfl, hq, he, q⟩ := h
  cases rx
  obtain ⟨t, rfl⟩ := ry
  obtain ⟨its, r, pl, hz⟩ := I.tuple hq
  obtain ⟨j, h1, h2, h3, h4, h5⟩ := atI_get he
  obtain ⟨w, ew, rw'⟩ := r.get h2
  have hl := r.length
  have hn := line63
  have fin : EP X pins σ Q w s := ⟨z, H, I, rw', q⟩
  exact subscriptTail_builtinR (x := w) pl.typeIs slot_tuple_getitem.lookup
    (getItem_tuple (j := j) (Q := fun r s' => r = w ∧ EP X pins σ Q r s') pl (by omega) (by omega) (by rw [List.size_toArray, ← hl]; exact h1) (by simpa using ew) ⟨rfl, fin⟩) hs
/-- list, tuple or str -/
def rIx (K : PySem.W.Frag) : R2 := fun x y H Q => rIxL K x y H Q ∨ rIxT K x y H Q ∨ rIxS x y H Q
/-! ### xs[i] = v, any sign -/
/-- the list's object behind a store -/
theorem mapSeq_set (its : List Value) (n j : Nat) (u : Value) : Obj.mapSeq (·.setIfInBounds j u) { cls := .type "list", data := .seq its.toArray n } = { cls := .type "list", data := .seq (its.set j u).toArray n } := by
  simp [Obj.mapSeq]
theorem Inv.lst {pins : List (Addr × Obj)} {σ : St} {H : Hp} {s : Shared} {p : Addr} {xs : List V} (I : Inv X pins σ H s) (h : H p = some (.lst xs)) :
    ∃ (its : List Value) (n : Nat), Vals xs its ∧ s.heap.get? p = some { cls := .type "list", data := .seq its.toArray n } ∧ xs.length ≤ sizeLine := by
  obtain ⟨z, its, n, r, e⟩ := I.hok p _ h
  exact ⟨its, n, r, e, z⟩
/-- the list at p is written by an update of its object -/
theorem Inv.lstUpd {pins : List (Addr × Obj)} {σ : St} {H : Hp} {s : Shared} {p : Addr} {xs ys : List V} {its its' : List Value} {n n' : Nat} {f : Obj → Obj} (I : Inv X pins σ H s) (h : H p = some (.lst xs))
    (ho : s.heap.get? p = some { cls := .type "list", data := .seq its.toArray n }) (hf : f { cls := .type "list", data := .seq its.toArray n } = { cls := .type "list", data := .seq its'.toArray n' }) (r : Vals ys its') (hz : ys.length ≤ sizeLine) (t : Nat) :
    Inv X pins σ (upd H p (.lst ys)) { s with heap := s.heap.update p f, toks := t } := by
  have e : (s.heap.update p f).get? p = some { cls := .type "list", data := .seq its'.toArray n' } := by
    rw [Heap.get?_update_self f ho (by rw [hf] <;> rfl), hf]
  refine I.write (x := p) (e := p) (by rw [h]; trivial) (.inl rfl) (fun b u hb q => (Heap.get?_update_other _ _ (Ne.symm hb)).trans q) ⟨_, e⟩ ?_
  exact ⟨hz, its', n', r, e⟩
def rSetL : V → V → V → Hp → (Hp → Prop) → Prop := fun o i v H Q => ∃ p xs k j, o = .ref p ∧ i = .int k ∧ H p = some (.lst xs) ∧ ixN xs.length k = some j ∧ Q (upd H p (.lst (xs.set j v)))
theorem set_list : PSet X rSetL := by
  intro pins s σ H o i v ov iv u Q I ro ri rv h
  obtain ⟨p, xs, k, j, rfl, rfl, hp, hj, q⟩ := h
  cases ro
  obtain ⟨t, rfl⟩ := ri
  obtain ⟨its, n, r, ho, hz⟩ := I.lst hp
  obtain ⟨h1, h2, h3, h4⟩ := ixN_seq hj
  have hl := r.length
  have hn := line63
  have I' : Inv X pins σ (upd H p (.lst (xs.set j v))) { s with heap := s.heap.update p (Obj.mapSeq (·.setIfInBounds j u)) } :=
    I.lstUpd hp ho (mapSeq_set its n j u) (r.set rv j) (by rw [List.length_set]; exact hz) s.toks
  by_cases h0 : 0 ≤ k
  · have hk : k.toNat = j := by
      rw [seqIndex_of h0 h4] at h1
      exact Option.some.inj h1
    exact PySem.W.ki_setAt ho h0 (by omega) (by rw [List.size_toArray, ← hl]; exact h4) (by rw [hk]; exact ⟨_, I', q⟩)
  · have hk : (k + (its.toArray.size : Int)).toNat = j := by
      rw [seqIndex_neg (by omega) h3] at h1
      rw [List.size_toArray, ← hl]
      exact Option.some.inj h1
    exact PySem.W.ki_setBack ho (by omega) (by rw [List.size_toArray, ← hl]; exact h3) (by omega) (by rw [hk]; exact ⟨_, I', q⟩)

/-! ### slices -/
theorem slice_bounds (lo hi : Option Int) (n : Nat) : (sliceBounds lo hi none n).1 = ((HT.sIx n 0 lo : Nat) : Int) ∧ (sliceBounds lo hi none n).2.1 = ((HT.sIx n n hi : Nat) : Int) ∧ (sliceBounds lo hi none n).2.2 = 1 := by
  refine ⟨?_, ?_, rfl⟩
  · cases lo with
    | none => simp [sliceBounds, HT.sIx]
    | some i =>
      simp only [sliceBounds, HT.sIx, Option.getD_none, show (1 : Int) > 0 by decide, if_true]
      by_cases h : i < 0
      · simp only [h, if_true] <;> omega
      · simp only [h, if_false] <;> omega
  · cases hi with
    | none => simp [sliceBounds, HT.sIx]
    | some i =>
      simp only [sliceBounds, HT.sIx, Option.getD_none, show (1 : Int) > 0 by decide, if_true]
      by_cases h : i < 0
      · simp only [h, if_true] <;> omega
      · simp only [h, if_false] <;> omega
theorem slicePick_cut (its : List Value) (lo hi : Option Int) : slicePick its.toArray lo hi none = ((its.drop (HT.sIx its.length 0 lo)).take (HT.sIx its.length its.length hi - HT.sIx its.length 0 lo)).toArray := by
  obtain ⟨h1, h2, h3⟩ := slice_bounds lo hi its.toArray.size
  unfold slicePick
  rw [h1, h2, h3]
  simp only [sliceRange_one, pick_run, List.size_toArray] <;> rfl
/-- xs[lo:hi] of a list: a new list -/
def rSlL (K : PySem.W.Frag) : V → Option Int → Option Int → Hp → VK → Prop := fun x lo hi H Q => ∃ a xs, x = .ref a ∧ SqL K H a xs ∧ ∀ p, H p = none → Q (.ref p) (upd H p (.lst (cutV xs lo hi)))
theorem sl_list : SlR X (rSlL X.K) := by
  intro pins s σ H x v vl vu lo hi sl Q I rx hs pl pu h
  obtain ⟨a, xs, rfl, hx, q⟩ := h
  cases rx
  obtain ⟨its, r, ht, hz⟩ := I.list hx
  have hlen := r.length
  refine ⟨"list", _, slot_list_getitem.lookup, ht.isList.typeIs, ?_⟩
  refine wpAny_getItem_list_slice ht.isList hs pl pu .none (by simp) ?_ (by rw [List.size_toArray] <;> omega)
  rw [slicePick_cut, ← hlen]
  refine ⟨.ref s.heap.objs.size, _, I.laid (t' := s.toks) (o := .lst (cutV xs lo hi)) (fun b ob q => Heap.get?_push_of_some _ q) (Nat.le_refl _) ?_, rfl, q _ (I.hok.fresh (Nat.le_refl _))⟩
  exact ⟨Nat.le_trans (cutV_length xs lo hi) hz, _, 0, (r.drop (HT.sIx xs.length 0 lo)).take (HT.sIx xs.length xs.length hi - HT.sIx xs.length 0 lo), Heap.get?_push_size _ rfl⟩

/-! ### in, not in: flat items -/
def flatV : V → Bool
  | .non => true
  | .bl _ => true
  | .int _ => true
  | .str _ => true
  | _ => false
/-- == of flat values -/
def eqV : V → V → Bool
  | .non, .non => true
  | .bl a, .bl b => a == b
  | .bl a, .int b => (if a then 1 else 0) == b
  | .int a, .bl b => a == (if b then 1 else 0)
  | .int a, .int b => a == b
  | .str a, .str b => a == b
  | _, _ => false
theorem eqAt_V {A : Around} {s : Shared} {y x : V} {u v : Value} (ry : RelV y u) (rx : RelV x v) (fy : flatV y = true) (fx : flatV x = true) : SeqAt.EqAt A s u v (eqV y x) := by
  cases y with
  | non =>
    cases ry
    cases x with
    | non => cases rx; exact SeqAt.EqAt.same _
    | bl b => cases rx; exact SeqAt.EqAt.none_bool b
    | int b => obtain ⟨t, rfl⟩ := rx; exact SeqAt.EqAt.none_int b t
    | str b => obtain ⟨t, rfl⟩ := rx; exact SeqAt.EqAt.none_str b t
    | _ => exact absurd (show false = true from fx) Bool.false_ne_true
  | bl a =>
    cases ry
    cases x with
    | non => cases rx; exact SeqAt.EqAt.bool_none a
    | bl b => cases rx; exact SeqAt.EqAt.bool_bool a b
    | int b => obtain ⟨t, rfl⟩ := rx; exact SeqAt.EqAt.bool_int a b t
    | str b => obtain ⟨t, rfl⟩ := rx; exact SeqAt.EqAt.bool_str a b t
    | _ => exact absurd (show false = true from fx) Bool.false_ne_true
  | int a =>
    obtain ⟨t', rfl⟩ := ry
    cases x with
    | non => cases rx; exact SeqAt.EqAt.int_none a t'
    | bl b => cases rx; exact SeqAt.EqAt.int_bool a t' b
    | int b => obtain ⟨t, rfl⟩ := rx; exact SeqAt.EqAt.int_int a t' b t
    | str b => obtain ⟨t, rfl⟩ := rx; exact SeqAt.EqAt.int_str a t' b t
    | _ => exact absurd (show false = true from fx) Bool.false_ne_true
  | str a =>
    obtain ⟨t', rfl⟩ := ry
    cases x with
    | non => cases rx; exact SeqAt.EqAt.str_none a t'
    | bl b => cases rx; exact SeqAt.EqAt.str_bool a t' b
    | int b => obtain ⟨t, rfl⟩ := rx; exact SeqAt.EqAt.str_int a t' b t
    | str b => obtain ⟨t, rfl⟩ := rx; exact SeqAt.EqAt.str_str a t' b t
    | _ => exact absurd (show false = true from fx) Bool.false_ne_true
  | _ => exact absurd (show false = true from fy) Bool.false_ne_true
/-- the items' answers, read off the values (a value's own answer does not lean on its token) -/
def eqU (x : V) (u : Value) : Bool := match u with
  | .none => eqV .non x
  | .bool b => eqV (.bl b) x
  | .int i _ => eqV (.int i) x
  | .str z _ => eqV (.str z) x
  | _ => false
theorem eqU_of {x y : V} {u : Value} (r : RelV y u) (f : flatV y = true) : eqU x u = eqV y x := by
  cases y with
  | non => cases r; rfl
  | bl b => cases r; rfl
  | int i => obtain ⟨t, rfl⟩ := r; rfl
  | str z => obtain ⟨t, rfl⟩ := r; rfl
  | _ => exact absurd (show false = true from f) Bool.false_ne_true
theorem any_eqU {x : V} : ∀ {xs : List V} {us : List Value}, Vals xs us → xs.all flatV = true → us.any (eqU x) = xs.any fun y => eqV y x
  | _, _, .nil, _ => rfl
  | y :: xs, u :: us, .cons r t, f => by
    rw [List.all_cons, Bool.and_eq_true] at f
    rw [List.any_cons, List.any_cons, eqU_of r f.1, any_eqU t f.2]
theorem mem_eqAt {A : Around} {s : Shared} {x : V} {v : Value} (rx : RelV x v) (fx : flatV x = true) : ∀ {xs : List V} {us : List Value}, Vals xs us → xs.all flatV = true → ∀ u ∈ us, SeqAt.EqAt A s u v (eqU x u)
  | _, _, .nil, _ => fun u hu => by cases hu
  | y :: xs, u :: us, .cons r t, f => fun u' hu => by
    rw [List.all_cons, Bool.and_eq_true] at f
    rcases List.mem_cons.mp hu with rfl | hu
    · rw [eqU_of r f.1]; exact eqAt_V r rx f.1 fx
    · exact mem_eqAt rx fx t f.2 u' hu
def inV (x : V) (xs : List V) : Bool := xs.any fun y => eqV y x
/-- x in a list or tuple of flat items -/
def rIn (K : PySem.W.Frag) (neg : Bool) : R2 := fun x y H Q => ∃ p xs, y = .ref p ∧ (SqL K H p xs ∨ SqT K H p xs) ∧ flatV x = true ∧ xs.all flatV = true ∧ Q (.bl (if neg then !inV x xs else inV x xs)) H
theorem op_in_seq : OpR X (compareOp .In) (rIn X.K false) := by
  intro pins s σ H x y v u Q I rx ry h
  obtain ⟨p, xs, rfl, hq, fx, fs, q⟩ := h
  cases ry
  rcases hq with hq | hq
  · obtain ⟨its, r, pl, hz⟩ := I.list hq
    refine SeqAt.in_listAt (eqU x) pl.isList (fun w hw => mem_eqAt rx fx r fs w (by simpa using hw)) ⟨.bl _, H, I, rfl, ?_⟩
    rw [show its.toArray.any (eqU x) = its.any (eqU x) by simp, any_eqU r fs]
    exact q
  · obtain ⟨its, r, pl, hz⟩ := I.tuple hq
    refine SeqAt.in_tupleAt (eqU x) pl (fun w hw => mem_eqAt rx fx r fs w (by simpa using hw)) ⟨.bl _, H, I, rfl, ?_⟩
    rw [show its.toArray.any (eqU x) = its.any (eqU x) by simp, any_eqU r fs]
    exact q
/-! ### len, list(x), tuple(x) of any list or tuple that is read -/
theorem call_len_seq : CallR X (.builtin "len") (fun xs H Q => ∃ p ys, xs = [.ref p] ∧ (SqL X.K H p ys ∨ SqT X.K H p ys) ∧ Q (.int ys.length) H) := by
  intro pins s σ H xs us Q I r h
  obtain ⟨p, ys, rfl, hq, q⟩ := h
  obtain ⟨u, rfl, rx⟩ := vals1 r
  cases rx
  have hn := line63
  rcases hq with hq | hq
  · obtain ⟨its, r', pl, hz⟩ := I.list hq
    have hlen := r'.length
    exact Calls.call_len_list pl.isList (by simp only [List.size_toArray] <;> omega) ⟨.int ys.length, H, I.tok _, ⟨s.toks + 1, by rw [List.size_toArray, hlen]⟩, q⟩
  · obtain ⟨its, r', pl, hz⟩ := I.tuple hq
    have hlen := r'.length
    exact len_tuple pl (by simp only [List.size_toArray] <;> omega) ⟨.int ys.length, H, I.tok _, ⟨s.toks + 1, by rw [List.size_toArray, hlen]⟩, q⟩
theorem call_list_of : CallR X (.type "list") (fun xs H Q => ∃ p ys, xs = [.ref p] ∧ (SqL X.K H p ys ∨ SqT X.K H p ys) ∧ ∀ l, H l = none → Q (.ref l) (upd H l (.lst ys))) := by
  intro pins s σ H xs us Q I r h
  obtain ⟨p, ys, rfl, hq, q⟩ := h
  obtain ⟨u, rfl, rx⟩ := vals1 r
  cases rx
  have fin : ∀ (its : List Value), Vals ys its → ys.length ≤ sizeLine → ∀ (h' : Heap) (c' : Nat), (∀ b o', s.heap.get? b = some o' → h'.get? b = some o') →
      h'.get? s.heap.objs.size = some { cls := .type "list", dict := none, data := .seq its.toArray c', slots := #[] } → EP X pins σ Q (.ref s.heap.objs.size) { s with heap := h' } := fun its r' hz h' c' kp e =>
    ⟨.ref s.heap.objs.size, _, I.laid (t' := s.toks) kp (Nat.le_refl _) (show ObjOk X.prog X.w _ h' _ (.lst ys) from ⟨hz, its, c', r', e⟩), rfl, q _ (I.hok.fresh (Nat.le_refl _))⟩
  rcases hq with hq | hq
  · obtain ⟨its, r', pl, hz⟩ := I.list hq
    have hlen := r'.length
    obtain ⟨o, ho, hc, n, hd⟩ := pl.isList
    exact call_list_seq p (.inl rfl) ho hc hd (fun h' c' kp e => fin its r' hz h' c' kp e) (by simp only [List.size_toArray] <;> omega)
  · obtain ⟨its, r', pl, hz⟩ := I.tuple hq
    have hlen := r'.length
    obtain ⟨o, ho, hc, n, hd⟩ := pl
    exact call_list_seq p (.inr rfl) ho hc hd (fun h' c' kp e => fin its r' hz h' c' kp e) (by simp only [List.size_toArray] <;> omega)
/-! ### the call of a builtin's method: o.m(..) -/
/-- the value is of that builtin type -/
def tyV (K : PySem.W.Frag) (T : String) (x : V) (H : Hp) : Prop := match x with
  | .str _ => T = "str"
  | .int _ => T = "int"
  | .ref p => (T = "list" ∧ ∃ xs, SqL K H p xs) ∨ (T = "tuple" ∧ ∃ o, K.lookup p = some o ∧ o.cls = .type "tuple" ∧ o.dict = none) ∨
      (T = "dict" ∧ ((∃ kvs, H p = some (.dK kvs)) ∨ ∃ kvs, H p = some (.dT kvs))) ∨ (T = "set" ∧ ∃ S n, H p = some (.set S n))
  | _ => False
theorem tyV_is {pins : List (Addr × Obj)} {σ : St} {H : Hp} {s : Shared} {T : String} {x : V} {v : Value} (I : Inv X pins σ H s) (r : RelV x v) (ty : tyV X.K T x H) :
    s.TypeIs v T ∧ ∀ a, v = .ref a → ∃ ob, s.heap.get? a = some ob ∧ ob.dict = none := by
  cases x with
  | str z =>
    obtain ⟨t, rfl⟩ := r
    cases (show T = "str" from ty)
    exact ⟨typeIs_str s z t, fun _ e => nomatch e⟩
  | int i =>
    obtain ⟨t, rfl⟩ := r
    cases (show T = "int" from ty)
    exact ⟨typeIs_int s i t, fun _ e => nomatch e⟩
  | ref p =>
    cases r
    rcases ty with ⟨rfl, xs, hq⟩ | ⟨rfl, o, hk, hc, hd⟩ | ⟨rfl, hk⟩ | ⟨rfl, S, n, hk⟩
    · obtain ⟨its, _, pl, _⟩ := I.list hq
      refine ⟨pl.isList.typeIs, fun a e => ?_⟩
      cases e
      obtain ⟨o, n, e, c, hd, _⟩ := pl
      exact ⟨o, e, hd⟩
    · refine ⟨⟨o, I.kIn p o hk, hc⟩, fun a e => ?_⟩
      cases e
      exact ⟨o, I.kIn _ o hk, hd⟩
    · have z : ∃ o, s.heap.get? p = some o ∧ o.ExactDict := by
        rcases hk with ⟨kvs, hk⟩ | ⟨kvs, hk⟩
        · obtain ⟨_, _, _, _, o, _, _, e, ex, _⟩ := I.hok p _ hk
          exact ⟨o, e, ex⟩
        · obtain ⟨_, _, _, _, o, _, _, e, ex, _⟩ := I.hok p _ hk
          exact ⟨o, e, ex⟩
      obtain ⟨o, e, ex⟩ := z
      refine ⟨⟨o, e, ex.1⟩, fun a e2 => ?_⟩
      cases e2
      exact ⟨o, e, ex.2.1⟩
    · obtain ⟨o, _, _, _, e, ex, _⟩ := I.hok p _ hk
      refine ⟨⟨o, e, ex.1⟩, fun a e2 => ?_⟩
      cases e2
      exact ⟨o, e, ex.2.1⟩
  | _ => exact False.elim ty
def tBM0 (K : PySem.W.Frag) (T : String) (r : V → List V → Hp → VK → Prop) (to : TE) : TE := fun σ H Q => to σ H fun x H1 => tyV K T x H1 ∧ r x [] H1 Q
def tBM (K : PySem.W.Frag) (T : String) (r : V → List V → Hp → VK → Prop) (to : TE) (t : TA) : TE := fun σ H Q => to σ H fun x H1 => tyV K T x H1 ∧ t σ H1 fun xs H2 => r x xs H2 Q
variable {o e : Expr} {es : List Expr} {to : TE} {t : TA} {name : Str} {apos cpos : Pos} {T id : String} {r : V → List V → Hp → VK → Prop}
theorem pe_bm0 (pa : PlainAttrs T) (slot : Slot T name id) (hty : typeOf (.builtin id) = pure (.type "method_descriptor")) (hm : MtR X id r) (ho : PE X o to)
    (hbase : attributeBase o name X.env (eval o X.env) = eval o X.env := by rfl) (hline : (apos.endLine == cpos.line) = true := by rfl) : PE X (.Call (.Attribute o name apos) [] [] cpos) (tBM0 X.K T r to) := by
  intro pins s σ H Q I h
  refine wpAny_Call_method0_late hbase hline (thn (ho pins s σ H _ I h) fun v s1 ⟨x, H1, I1, r1, ty, q1⟩ => ?_)
  obtain ⟨h1, h2⟩ := tyV_is I1 r1 ty
  exact ⟨T, id, pa, slot, hty, h1, h2, Calls.callWith_builtin rfl (PySem.evalArgs_none (hm pins s1 σ H1 x [] v [] Q I1 r1 .nil q1))⟩
theorem pe_bm (pa : PlainAttrs T) (slot : Slot T name id) (hty : typeOf (.builtin id) = pure (.type "method_descriptor")) (hm : MtR X id r) (ho : PE X o to) (ha : PA X (e :: es) t)
    (hbase : attributeBase o name X.env (eval o X.env) = eval o X.env := by rfl)
    (hfew : ((backTo cpos (starEach (e :: es) X.env)).all (fun x => !x.1) && (backToKw cpos (keywordEach [] X.env)).all (fun x => x.1.isSome)
      && decide ((e :: es).length + ([] : List Keyword).length + (if ([] : List Keyword).isEmpty then 0 else 1) < 30)) = true := by rfl)
    (hline : (apos.endLine == cpos.line) = true := by rfl) (hs : starEach (e :: es) X.env = (false, eval e X.env) :: starEach es X.env := by rfl) (hplain : (backTo cpos (starEach es X.env)).any (·.1) = false := by rfl) :
    PE X (.Call (.Attribute o name apos) (e :: es) [] cpos) (tBM X.K T r to t) := by
  intro pins s σ H Q I h
  refine wpAny_Call_method_late hbase hfew hline rfl (thn (ho pins s σ H _ I h) fun v s1 ⟨x, H1, I1, r1, ty, q1⟩ => ?_)
  obtain ⟨h1, h2⟩ := tyV_is I1 r1 ty
  refine ⟨T, id, pa, slot, hty, h1, h2, ?_⟩
  have hA := ha cpos pins s1 σ H1 _ I1 q1
  rw [hs] at hA ⊢
  refine Calls.callWith_builtin (by show (false || (backTo cpos (starEach es X.env)).any (·.1)) = false; rw [hplain] <;> rfl) (Calls.evalArgs_plain ?_)
  exact thn hA fun us s2 ⟨vs, H2, I2, r2, q2⟩ => hm pins s2 σ H2 x vs v us Q I2 r1 r2 q2
/- xs.append(e), list.index on a module's tuple .. are MtR facts of 06m -/
end
end L2

namespace L2
open PySem PySem.Spec PyProof.Rows

def MtM (X : Cx) (id : String) (r : V → List V → Hp → VK → Prop) : Prop :=
  ∀ (pins : List (Addr × Obj)) (s : Shared) (σ : St) (H : Hp) (x : V) (xs : List V) (v : Value) (us : List Value) (Q : VK), Inv X pins σ H s → RelV x v → Vals xs us → r x xs H Q →
    wpAny (model X.prog X.w) X.A (call (.builtin id) (v :: us)) (EP X pins σ Q) X.xe s

/-! ### lists of values -/
theorem Vals.one : ∀ {x : V} {us : List Value}, Vals [x] us → ∃ u, us = [u] ∧ RelV x u
  | _, _, .cons r .nil => ⟨_, rfl, r⟩
theorem Vals.dropLast {xs : List V} {us : List Value} (h : Vals xs us) : Vals xs.dropLast us.dropLast := by
  induction h with
  | nil => exact .nil
  | cons r t ih =>
    cases t with
    | nil => exact .nil
    | cons q t' => exact .cons r ih
theorem Vals.eraseIdx : ∀ {xs : List V} {us : List Value} (i : Nat), Vals xs us → Vals (xs.eraseIdx i) (us.eraseIdx i)
  | _, _, _, .nil => .nil
  | _, _, 0, .cons _ t => t
  | _, _, i + 1, .cons r t => .cons r (Vals.eraseIdx i t)
theorem erase_last {α : Type} (l : List α) : l.eraseIdx (l.length - 1) = l.dropLast := by
  induction l with
  | nil => rfl
  | cons a r ih =>
    cases r with
    | nil => rfl
    | cons b r =>
      have e : (a :: b :: r).length - 1 = ((b :: r).length - 1) + 1 := by
        have h1 : (a :: b :: r).length = r.length + 2 := rfl
        have h2 : (b :: r).length = r.length + 1 := rfl
        omega
      rw [e, List.eraseIdx_cons_succ, ih]
      all_goals rfl
theorem len_erase {α : Type} : ∀ (l : List α) (i : Nat), (l.eraseIdx i).length ≤ l.length
  | [], _ => Nat.le_refl _
  | _ :: _, 0 => Nat.le_succ _
  | _ :: r, i + 1 => Nat.succ_le_succ (len_erase r i)
section
variable {X : Cx} {pins : List (Addr × Obj)} {σ : St} {H : Hp} {s : Shared} {l b : Addr} {xs ys zs : List V}

/-! ### the two steps: a tracked list is rewritten, a new list is laid -/
theorem Inv.lset {its its' : List Value} {n : Nat} {f : Array Value → Array Value} {t' : Nat} (I : Inv X pins σ H s) (hH : H l = some (.lst xs))
    (e : s.heap.get? l = some { cls := .type "list", data := .seq its.toArray n }) (hf : f its.toArray = its'.toArray) (hv : Vals ys its') (hz : ys.length ≤ sizeLine) :
    Inv X pins σ (upd H l (.lst ys)) { s with heap := s.heap.update l (Obj.mapSeq f), toks := t' } := by
  have q := PySem.IsL.update e f
  rw [hf] at q
  refine I.write (x := l) (e := l) (by rw [hH]; exact trivial) (.inl rfl) (fun b' u hb hu => (Heap.get?_update_other s.heap (Obj.mapSeq f) (Ne.symm hb)).trans hu) ⟨_, q⟩ ?_
  exact ⟨hz, its', _, hv, q⟩
theorem Inv.lnew {its : List Value} {t' : Nat} (I : Inv X pins σ H s) (hv : Vals ys its) (hz : ys.length ≤ sizeLine) :
    Inv X pins σ (upd H s.heap.objs.size (.lst ys)) { s with heap := s.heap.push { cls := .type "list", data := .seq its.toArray }, toks := t' } :=
  I.laid (fun _ _ q => Heap.get?_push_of_some _ q) (Nat.le_refl _) ⟨hz, its, 0, hv, Heap.get?_push_size _ rfl⟩
theorem Inv.fresh (I : Inv X pins σ H s) : H s.heap.objs.size = none := I.hok.fresh (Nat.le_refl _)
theorem Inv.lstM (I : Inv X pins σ H s) (hH : H l = some (.lst xs)) : xs.length ≤ sizeLine ∧ ∃ (its : List Value) (n : Nat), Vals xs its ∧ xs.length = its.length ∧ s.heap.get? l = some { cls := .type "list", data := .seq its.toArray n } := by
  obtain ⟨z, its, n, r, e⟩ := I.hok l _ hH
  exact ⟨z, its, n, r, r.length, e⟩

theorem notLongL {n : Nat} (h : n ≤ sizeLine) : Builtin.List.listTooLong n = false := by
  unfold Builtin.List.listTooLong
  exact decide_eq_false (by omega)
end

section
variable {X : Cx}

/-! ### methods -/
def rAppend : V → List V → Hp → VK → Prop := fun x vs H Q => ∃ l xs y, x = .ref l ∧ vs = [y] ∧ H l = some (.lst xs) ∧ xs.length < sizeLine ∧ Q .non (upd H l (.lst (xs ++ [y])))
theorem mt_append : MtM X "list.append" rAppend := by
  intro pins s σ H x vs v us Q I rx rv h
  obtain ⟨l, xs, y, rfl, rfl, hH, hz, q⟩ := h
  cases rx
  obtain ⟨u, rfl, ru⟩ := rv.one
  obtain ⟨z, its, n, r, hl, e⟩ := I.lstM hH
  refine call_meets F.slot_list_append ⟨_, e, rfl⟩ F.entry_list_append (F.args_list_append_2 _ _) (PySem.list_append l its.toArray n u (by rw [List.size_toArray]; omega)) ⟨e, ?_⟩
  refine ⟨.non, _, I.lset (its' := its ++ [u]) hH e (by simp) (r.append (.cons ru .nil)) ?_, rfl, q⟩
  rw [List.length_append, List.length_singleton]
  omega

def rExtend : V → List V → Hp → VK → Prop := fun x vs H Q => ∃ l b xs zs, x = .ref l ∧ vs = [.ref b] ∧ H l = some (.lst xs) ∧ H b = some (.lst zs) ∧ xs.length + zs.length ≤ sizeLine ∧ Q .non (upd H l (.lst (xs ++ zs)))
theorem mt_extend : MtM X "list.extend" rExtend := by
  intro pins s σ H x vs v us Q I rx rv h
  obtain ⟨l, b, xs, zs, rfl, rfl, hH, hB, hz, q⟩ := h
  cases rx
  obtain ⟨u, rfl, ru⟩ := rv.one
  cases ru
  obtain ⟨z, its, n, r, hl, e⟩ := I.lstM hH
  obtain ⟨z2, its2, n2, r2, hl2, e2⟩ := I.lstM hB
  have hsz : its.toArray.size + its2.toArray.size ≤ sizeLine := by rw [List.size_toArray, List.size_toArray]; omega
  have hlong : ¬ (!its.toArray.isEmpty && Builtin.List.listTooLong (its.toArray.size + its2.toArray.size)) = true := by
    rw [notLongL hsz, Bool.and_false]
    exact Bool.false_ne_true
  refine call_meets F.slot_list_extend ⟨_, e, rfl⟩ F.entry_list_extend (F.args_list_extend_2 _ _)
    (AutoSeq1.list_extend_list_list_0 l its.toArray n b its2.toArray n2 hlong (by rw [List.size_toArray]; omega) (by omega)) ⟨e, e2, ?_⟩
  refine ⟨.non, _, I.lset (its' := its ++ its2) hH e (by simp) (r.append r2) ?_, rfl, q⟩
  rw [List.length_append]
  omega

def rPop : V → List V → Hp → VK → Prop := fun x vs H Q => ∃ l xs y, x = .ref l ∧ vs = [] ∧ H l = some (.lst xs) ∧ xs[xs.length - 1]? = some y ∧ Q y (upd H l (.lst xs.dropLast))
def rPopAt : V → List V → Hp → VK → Prop := fun x vs H Q => ∃ l xs i k y, x = .ref l ∧ vs = [.int i] ∧ H l = some (.lst xs) ∧ -(2 ^ 63) ≤ i ∧ i < 2 ^ 63 ∧ seqIndex? i xs.length = some k ∧ xs[k]? = some y ∧ Q y (upd H l (.lst (xs.eraseIdx k)))
theorem mt_popAt : MtM X "list.pop" rPopAt := by
  intro pins s σ H x vs v us Q I rx rv h
  obtain ⟨l, xs, i, k, y, rfl, rfl, hH, h1, h2, hk, hy, q⟩ := h
  cases rx
  obtain ⟨u, rfl, ru⟩ := rv.one
  obtain ⟨t, rfl⟩ := ru
  obtain ⟨z, its, n, r, hl, e⟩ := I.lstM hH
  obtain ⟨w, hw, rw'⟩ := r.get hy
  refine call_meets F.slot_list_pop ⟨_, e, rfl⟩ F.entry_list_pop (F.args_list_pop_2 _ _)
    (MeetsSeq.list_pop_at l its.toArray n i t k w (fitsIndex_both h1 h2) (by rw [List.size_toArray, ← hl]; exact hk) (by rw [← Array.getElem?_toList]; exact hw) (by rw [List.size_toArray]; omega)) ⟨e, ?_⟩
  refine ⟨y, _, I.lset (its' := its.eraseIdx k) hH e ?_ (r.eraseIdx k) ?_, rw', q⟩
  · show its.toArray.eraseIdxIfInBounds k = (its.eraseIdx k).toArray
    rw [List.eraseIdxIfInBounds_toArray]
  · have := len_erase xs k
    omega

def rReverse : V → List V → Hp → VK → Prop := fun x vs H Q => ∃ l xs, x = .ref l ∧ vs = [] ∧ H l = some (.lst xs) ∧ Q .non (upd H l (.lst xs.reverse))
def rClear : V → List V → Hp → VK → Prop := fun x vs H Q => ∃ l xs, x = .ref l ∧ vs = [] ∧ H l = some (.lst xs) ∧ Q .non (upd H l (.lst []))
/-! ### list + list, list += list, list * int -/
def rCat : R2 := fun x y H Q => ∃ l b xs zs, x = .ref l ∧ y = .ref b ∧ H l = some (.lst xs) ∧ H b = some (.lst zs) ∧ xs.length + zs.length ≤ sizeLine ∧ ∀ p, H p = none → Q (.ref p) (upd H p (.lst (xs ++ zs)))
theorem op_cat : OpR X (binaryOp .Add) rCat := by
  intro pins s σ H x y v u Q I rx ry h
  obtain ⟨l, b, xs, zs, rfl, rfl, hH, hB, hz, q⟩ := h
  cases rx
  cases ry
  obtain ⟨z, its, n, r, hl, e⟩ := I.lstM hH
  obtain ⟨z2, its2, n2, r2, hl2, e2⟩ := I.lstM hB
  refine PySem.P.add_list e e2 ?_ (by rw [List.size_toArray, List.size_toArray]; omega)
  have ea : its.toArray ++ its2.toArray = (its ++ its2).toArray := by simp
  rw [ea]
  exact ⟨.ref _, _, I.lnew (t' := s.toks) (r.append r2) (by rw [List.length_append]; omega), rfl, q _ I.fresh⟩
/-- a list times an int (a negative one is nothing) -/
def rRep : R2 := fun x y H Q => ∃ l k xs, x = .ref l ∧ y = .int k ∧ H l = some (.lst xs) ∧ -(2 ^ 63) ≤ k ∧ k < 2 ^ 63 ∧ xs.length * k.toNat ≤ sizeLine ∧
  ∀ p, H p = none → Q (.ref p) (upd H p (.lst (List.replicate k.toNat xs).flatten))
/-! ### del xs[i] -/
end

/-! ### xs[a:b] = ys -/
section
variable {prog : Program} {w : World} {A : Around} {E : Value → Shared → Prop} {s : Shared}
end

section
variable {X : Cx}
end
end L2

namespace Att
open PySem PySem.W PySem.Calls PyProof.Rows

/-! ### the script -/
theorem ints_of_wellAll {P : Params} {h : Heap} : ∀ (ns : List Int) (vs : List Value), WellAll P h vs (ns.map WData.int) → IntsAre vs ns := by
  intro ns
  induction ns with
  | nil =>
    intro vs w
    rw [List.map_nil] at w
    cases w
    exact .nil
  | cons n ns ih =>
    intro vs w
    rw [List.map_cons] at w
    cases w with
    | cons a b =>
      cases a
      exact .cons _ _ (ih _ b)

theorem script_of {l : OpenLaw} {n : Nat} (hn : l.most = some n) {P : Params} {h : Heap} {args : List WData} {vals : List Value}
    (hpre : l.row.toRowW.claim.pre args = true) (hwl : WellAll P h vals args) :
    ∃ a vs ns, vals = [Value.ref a] ∧ args = [WData.list (ns.map WData.int)] ∧ h.get? a = some { cls := .type "list", data := .seq vs.toArray } ∧ IntsAre vs ns ∧ ns.length ≤ n := by
  have hsh : WShape.hasAll [] args [.list .int] = true := (pre_splitW hpre).1
  have hc : l.pre.holds [] { args := args } = true := (pre_splitW hpre).2
  obtain ⟨d, r, rfl, h1, h2⟩ := hasAllW_cons hsh
  obtain rfl := hasAllW_nil h2
  obtain ⟨xs, rfl, h3⟩ := hasW_list h1
  obtain ⟨ns, rfl⟩ := items_int h3
  have hlen : ns.length ≤ n := by
    unfold OpenLaw.pre at hc
    have h4 : (WTm.not (.lt (.lit (.int (n : Int))) (.len (.arg 0)))).holds [] { args := [.list (ns.map .int)] } = true := by
      have h4 := (holds_andW hc).1
      rw [hn] at h4
      exact h4
    have h5 := condW_of h4 (w_not (w_lt w_lit (w_len_list (w_arg rfl))))
    rw [List.length_map] at h5
    refine Nat.le_of_not_lt fun q => ?_
    have q' : (n : Int) < ((ns.length : Nat) : Int) := by omega
    first
      | (rw [decide_eq_true q'] at h5; exact absurd h5 (by decide))
      | (simp at h5; omega)
  cases hwl with
  | cons w1 w2 =>
    cases w2
    cases w1 with
    | list ho hall => exact ⟨_, _, ns, rfl, rfl, ho, ints_of_wellAll ns _ hall, hlen⟩

theorem post_true (l : OpenLaw) (args : List WData) : l.row.toRowW.claim.post args (.bool true) args = true :=
  postW_of (r := l.row.toRowW) (X := (true == true))
    (show WShape.has [] (.bool true) .bool = true by first | rfl | decide | simp [WShape.has, WShape.arms, WShape.armsAll])
    (show (WTm.eq .res (.lit (.bool true))).value [] { args := args, res := some (.bool true), after := args } = some (.bool (true == true)) from w_eq_bool (w_res rfl) w_lit) rfl

/-! ### the attachment: holds_open's last premise (the goal 'hc' behind k_head) from a wpAny of the law's body -/
/-- the same from a codeAny of the CALL (for a layer whose function contracts speak of calls) -/
theorem attach_call {l : OpenLaw} {n : Nat} {q : Program} {loose : List Str} {XP : (Str → Option Value) → Heap → Prop} {YP : World → Heap → Prop} {d : DefRec}
    (hn : l.most = some n) (hdf : d.params.defaults = [])
    (call : ∀ (w : World) (s₀ s₁ : Shared) (mg mb : Str → Option Value) (fa : Addr) (o : Obj) (pm cd doc : Value) (a : Addr) (vs : List Value) (ns : List Int),
      Ground q loose [] XP w s₀ mg mb s₁.heap → YP w s₁.heap →
      s₁.heap.get? fa = some o → o.data = .func (docDef d.name d.params d.body d.scope pm cd doc) → s₁.heap.CodeRec cd d.name → mg d.name = some (.ref fa) →
      s₁.heap.get? a = some { cls := .type "list", data := .seq vs.toArray } → IntsAre vs ns → ns.length ≤ n → s₁.gens = #[] →
      codeAny (model l.prog w) callerA (.call (.ref fa) ⟨[.ref a], []⟩) (fun r s' => r = .ok (.ret (.bool true)) ∧ OldK s₁.heap s'.heap ∧ s'.os = s₁.os ∧ AllBare s'.gens) s₁) :
    WalkO q loose XP YP l.row.toRowW d [] (fun f vs => PySem.call f vs) := by
  intro w s₀ s₁ mg mb G Y fa o pm cd doc dV kV ho hd hcd hD hmg hg args vals as hpre hlay hrd hwl hlo
  obtain rfl : dV = .none := Dflts.none hD hdf
  obtain rfl : kV = .none := Dflts.noKw hD
  obtain ⟨a, vs, ns, rfl, rfl, hobj, hints, hlen⟩ := script_of hn hpre hwl
  refine enter_call (codeAny_mono (call w s₀ s₁ mg mb fa o pm cd doc a vs ns G Y ho (fd_plain hd) hcd hmg hobj hints hlen hg) fun r s' hq => ?_)
  obtain ⟨rfl, h2, h3, h4⟩ := hq
  exact ⟨.inl ⟨.bool true, .bool true, [], rfl, fun _ => rfl, .bool true, post_true l _, fun _ => ⟨List.Pairwise.nil, fun _ hm => (nomatch hm)⟩⟩, h2, h3, h4⟩

/-! ### rules over ANY heap (no ledger) from facts about the written part K: the library's own take a ledger (News) for what they write -/
section
variable {prog : Program} {w : World} {A : Around} {E : Value → Shared → Prop} {s : Shared} {K : Frag}

/-! the whole heap as the ledger: makes every rule that writes through a ledger a rule over any heap -/
def noObjs (h : Heap) : Heap := { h with objs := #[] }
def ledger (h : Heap) (L d : Addr) : List (Addr × Obj) := (List.range h.objs.size).filterMap fun a => if a = L ∨ a = d then none else (h.get? a).map fun o => (a, o)
end
end Att

namespace L2
open PySem PySem.Spec PyProof.Rows

theorem vals_ints : ∀ {vs : List Value} {ns : List Int}, IntsAre vs ns → Vals (ns.map V.int) vs
  | _, _, .nil => .nil
  | _, _, .cons n t h => .cons ⟨t, rfl⟩ (vals_ints h)

/-- nothing is tracked but the script, known to the object (or it is an object of the module) -/
def Only (H : Hp) : Prop := ∀ b, H b = none ∨ ∃ o xs, H b = some (.frz o (.lst xs))

/-- THE HEAD: the law's promise, at the heap behind the top. F, the promise of the law's def, may use that base is part of the heap (so K.In base, base.Ns mainGlobals mg stand in Mod) -/
theorem law_call {P : Program} {w : World} {K : PySem.W.Frag} {mg mb : Str → Option Value} {CX : CXT} {k : Nat} {fa a : Addr} {fd : FuncData} {x : Str} {sp : Sp} {s₁ : Shared} {vs : List Value} {ns : List Int}
    (KX : K.In s₁.heap) (hns : s₁.heap.Ns mainGlobals mg) (hb : s₁.heap.Ns builtinsNs mb) (hbb : ∀ x : Str, x ≠ "__name__" → mb x = bootBuiltins x) (hlim : s₁.heap.NoLimit) (hg : s₁.gens = #[])
    (ha : s₁.heap.get? a = some { cls := .type "list", data := .seq vs.toArray }) (hi : IntsAre vs ns) (hl : ns.length ≤ sizeLine) (hr : Room k callerA)
    (F : ∀ base : Heap, K.In base → base.Ns mainGlobals mg → FnOk P w K mg base CX k fa fd [x] sp) (hbind : ∀ (s : Shared) (u : Value), BindsTo s fd ⟨[u], []⟩ [(x, u)])
    (hsp : ∀ H : Hp, Only H → SqL K H a (ns.map V.int) → sp [.ref a] H (fun v _ => v = .bl true) fun _ _ _ => False)
    (hCX : ∀ H e s', CX [] H s₁ (fun _ _ _ => False) e s' → False) :
    codeAny (model P w) callerA (.call (.ref fa) ⟨[.ref a], []⟩) (fun r s' => r = .ok (.ret (.bool true)) ∧ OldK s₁.heap s'.heap ∧ s'.os = s₁.os ∧ AllBare s'.gens) s₁ := by
  have rv := vals_ints hi
  have lenV := hi.length
  -- from an abstract heap in which nothing but the script may be tracked
  have core : ∀ H : Hp, Only H → SqL K H a (ns.map V.int) → HOk P w H s₁.heap → (∀ b, H b ≠ none → b = a) → (H a ≠ none → K.lookup a = none) →
      codeAny (model P w) callerA (.call (.ref fa) ⟨[.ref a], []⟩) (fun r s' => r = .ok (.ret (.bool true)) ∧ OldK s₁.heap s'.heap ∧ s'.os = s₁.os ∧ AllBare s'.gens) s₁ := by
    intro H hO hS hok hA hK
    have base_of : ∀ {b : Addr} {o : Obj}, s₁.heap.get? b = some o → H b = none → (hidT s₁.heap H).get? b = some o := fun e n => hidT_get e n
    have noA : ∀ {b : Addr} {o : Obj} {es : Array DictEntry} {ep : Nat}, s₁.heap.get? b = some o → o.data = .dict es ep → H b = none := fun {b o es ep} e d => by
      cases q : H b with
      | none => rfl
      | some u =>
        have e' : b = a := hA b (by rw [q]; simp)
        subst e'
        rw [ha] at e; cases e
        have d' : Data.seq vs.toArray _ = Data.dict es ep := d
        cases d'
    have nsK : ∀ {b : Addr} {m : Str → Option Value}, s₁.heap.Ns b m → (hidT s₁.heap H).Ns b m := fun {b m} ⟨o, es, ep, e, d, r⟩ => ⟨o, es, ep, base_of e (noA e d), d, r⟩
    have hKb : K.In (hidT s₁.heap H) := fun b o e => base_of (KX b o e) (by
      cases q : H b with
      | none => rfl
      | some u =>
        have e' : b = a := hA b (by rw [q]; simp)
        subst e'
        rw [hK (by rw [q]; simp)] at e; cases e)
    have hM : Mod K mg (hidT s₁.heap H) := ⟨hKb, nsK hns, ⟨mb, nsK hb, hbb⟩, let ⟨mc, h1, h2⟩ := hlim; ⟨mc, nsK h1, h2⟩⟩
    have e0 : Env0 P w K mg (hidT s₁.heap H) callerA [] s₁ H := ⟨rfl, hM, fun b o e => of_hidT e, Nat.le_of_eq (hidT_size _ _), trivial, fun b hb => absurd (show b ∈ ([] : List Addr) from hb) (by simp), hok, .of_eq hg⟩
    refine codeAny_mono ((F _ hKb (nsK hns)).run callerA [] s₁ H ⟨[.ref a], []⟩ [.ref a] [.ref a] _ _ hr e0 (hbind s₁ (.ref a)) (.cons rfl .nil) (hsp H hO hS)) fun r s' h => ?_
    cases r with
    | error e => exact (hCX H e s' h).elim
    | ok fl =>
      cases fl with
      | next => exact False.elim h
      | brk => exact False.elim h
      | cont => exact False.elim h
      | ret u =>
        obtain ⟨v, H', os, bare, un, hok', r', q⟩ := h
        have q' : v = .bl true := q
        subst q'
        obtain rfl : u = Value.bool true := r'
        refine ⟨rfl, OldK.of_keep fun b o e => ?_, os, bare⟩
        cases q : H b with
        | none => exact un.keep b o e q (by intro z; exact absurd (show b ∈ ([] : List Addr) from z) (by simp)) (by simp)
        | some u =>
          rcases hO b with z | ⟨ob, xs, z⟩
          · rw [q] at z; cases z
          · have z2 := un.frzs b ob _ z
            obtain ⟨e1, _⟩ := hok b _ z
            obtain ⟨e2, _⟩ := hok' b _ z2
            rw [e] at e1; cases e1
            exact e2
  cases hk : K.lookup a with
  | some o =>
    -- the script is one of the module's own objects
    have e := KX a o hk
    rw [ha] at e
    cases e
    refine core (fun _ => none) (fun _ => .inl rfl) (.inr ⟨_, vs.toArray, _, hk, rfl, rfl, rfl, by rw [List.size_toArray, lenV]; exact hl, by simpa using rv⟩) (fun b u z => by have z' : (none : Option HO) = some u := z; cases z') (fun b z => absurd rfl z) fun z => absurd rfl z
  | none =>
    refine core (fun b => if b = a then some (.frz { cls := .type "list", data := .seq vs.toArray } (.lst (ns.map V.int))) else none) (fun b => ?_) (.inl (.inr ⟨{ cls := .type "list", data := .seq vs.toArray }, if_pos rfl⟩)) (fun b u z => ?_) (fun b z => ?_) fun _ => hk
    · by_cases hb : b = a
      · exact .inr ⟨_, _, if_pos hb⟩
      · exact .inl (if_neg hb)
    · by_cases hb : b = a
      · have z' := (if_pos hb).symm.trans z
        cases z'
        subst hb
        exact ⟨ha, by rw [List.length_map]; exact hl, vs, _, rv, ha⟩
      · have z' := (if_neg hb).symm.trans z
        cases z'
    · by_cases hb : b = a
      · exact hb
      · exact absurd (if_neg hb) z
end L2

namespace L2
open PySem PySem.Spec PyProof.Rows

abbrev KOf {K : PySem.W.Frag} {h : Heap} (_ : K.In h) : PySem.W.Frag := K

/-- the goal that k_head leaves (case hc), from the law's promise. F gives the function object fd (K's own) once, then the promise over every base -/
theorem walk_of {l : PySem.W.OpenLaw} {n k : Nat} {q : Program} {loose : List Str} {XP : (Str → Option Value) → Heap → Prop} {YP : World → Heap → Prop} {d : DefRec} {K : Params → PySem.W.Frag} {CX : World → CXT} {sp : World → Sp} {x : Str}
    (hn : l.most = some n) (hn2 : n ≤ sizeLine) (hdf : d.params.defaults = []) (hr : Room k callerA)
    (hY : ∀ (w : World) (h : Heap), YP w h → (K w.params).In h)
    (F : ∀ (w : World) (mg : Str → Option Value) (fa : Addr) (h : Heap), (K w.params).In h → h.Ns mainGlobals mg → mg d.name = some (.ref fa) →
      ∃ fd : FuncData, (∀ (s : Shared) (u : Value), BindsTo s fd ⟨[u], []⟩ [(x, u)]) ∧
        ∀ base : Heap, (K w.params).In base → base.Ns mainGlobals mg → FnOk l.prog w (K w.params) mg base (CX w) k fa fd [x] (sp w))
    (hsp : ∀ (w : World) (H : Hp) (a : Addr) (ns : List Int), ns.length ≤ n → Only H → SqL (K w.params) H a (ns.map V.int) → sp w [.ref a] H (fun v _ => v = .bl true) fun _ _ _ => False)
    (hCX : ∀ (w : World) (H : Hp) (s : Shared) (e : Value) (s' : Shared), CX w [] H s (fun _ _ _ => False) e s' → False) :
    PySem.W.WalkO q loose XP YP l.row.toRowW d [] (fun f vs => PySem.call f vs) := by
  refine Att.attach_call hn hdf fun w s₀ s₁ mg mb fa o pm cd doc a vs ns G Y ho hd hcd hmg hobj hints hlen hg => ?_
  have KX := hY w _ Y
  obtain ⟨fd, hb, hF⟩ := F w mg fa _ KX G.T.g hmg
  exact law_call KX G.T.g G.T.b G.T.builtins G.T.nolimit hg hobj hints (Nat.le_trans hlen hn2) hr hF hb (fun H hO hS => hsp w H a ns hlen hO hS) fun H e s' => hCX w H s₁ e s'
end L2

/- THE LAST THEOREM (shape; LID, My.* are yours):
   My.Adr: a structure of the addresses that your layer names (classes, functions); My.Txt K t: a structure (Prop) of the equations over K;
   My.txt_mk : {K} {implicit addresses ..} (e1 : nsIn K mainGlobals "law" = some (some (.ref f))) (e2 : K.lookup f = some ⟨oc, od, .func (fnOf "law" "law" params body scope dV kV doc pm an cdv ct), sl⟩) (e3 : codeIn K cdv "law" = true) .. : ∃ t, My.Txt K t

set_option maxRecDepth 100000 in
set_option maxHeartbeats 0 in
theorem PySem.Challenge.cw_LID_holds : PySem.Challenge.rw_LID.Holds := by
  w_on; o_law; k_head; (case hw => w_witness2)
  k_fill
  refine L2.walk_of (l := PySem.Challenge.rw_LID) (n := 63) (k := 40) (x := "script") (CX := fun w => ..) (sp := fun _ => My.sp_law) rfl (by decide) rfl ⟨rfl, by decide, by decide⟩ (fun w h Y => PySem.W.kIn_of Y) ?F ?S ?C
  case F =>
    intro w mg fa h KX G hmg
    have T : ∃ t, My.Txt (L2.KOf KX) t := by
      dsimp only [L2.KOf]                          -- K must stand as «<heap const> w.params» for k_is
      refine' My.txt_mk ?e1 ?e2 ?e3 ..
      (case e1 => PySem.W.k_is)                    -- in the order: a name -> its address -> its object -> its parts
      (case e2 => PySem.W.k_is)
      ..
    obtain ⟨t, T⟩ := T
    have e0 := hmg.symm.trans (PySem.W.mg_of KX G T.law)
    cases e0                                       -- fa is the law's own address
    exact ⟨_, fun s u => .of_eq rfl, fun base kb nb => My.law_fn T kb nb⟩     -- if «.of_eq rfl» comes too early: refine' ⟨_, ?b, fun base kb nb => My.law_fn T kb nb⟩; exact fun s u => .of_eq rfl
  case S => exact fun w H a ns hl hO hS => ..
  case C => exact ..
(the tactic k_is has no namespace: write k_is) -/

/-! SHORT WORDS over the layer: a def of the text, its body, what a loop and a test want. -/
namespace L2
open PySem PySem.Spec PyProof.Rows

/-! ### the text by places -/
/-- the j-th statement of a class's body -/
def inClass (s : Stmt) (j : Nat) : Stmt := match s with
  | .ClassDef _ _ _ body _ _ _ _ _ _ _ => body.getD j (.Pass ⟨0, 0, 0, 0⟩)
  | _ => .Pass ⟨0, 0, 0, 0⟩
def defArgs (s : Stmt) : Arguments := match s with
  | .FunctionDef _ a _ _ _ _ _ _ _ _ => a
  | _ => { posonlyargs := [], args := [], vararg := none, kwonlyargs := [], kw_defaults := [], kwarg := none, defaults := [] }
def defBody (s : Stmt) : List Stmt := match s with
  | .FunctionDef _ _ b _ _ _ _ _ _ _ => b
  | _ => []
def defScope (s : Stmt) : Scope := match s with
  | .FunctionDef _ _ _ _ _ _ sc _ _ _ => sc
  | _ => { kind := .function, names := [], isGenerator := false, isCoroutine := false }

/-! ### no exception leaves a def -/
abbrev CX0 : CXT := fun _ _ _ _ _ _ => False
abbrev E0 : XK := fun _ _ _ => False
theorem pass0 {X : Cx} : Passes CX0 X E0 := fun _ _ _ _ _ _ _ h => h.elim

/-! ### a def (or method) of the text as it stands behind the top -/
structure Fun (K : PySem.W.Frag) (x qual : Str) (st : Stmt) (f : Addr) (fd : FuncData) : Prop where
  ex : ∃ (oc : Value) (od : Option Addr) (kV doc pm : Value) (an : Option Addr) (cdv ct : Value) (osl : Array (Option Value)),
    fd = PySem.W.fnOf x qual (defArgs st) (defBody st) (defScope st) .none kV doc pm an cdv ct ∧ K.lookup f = some ⟨oc, od, .func fd, osl⟩ ∧ PySem.W.codeIn K cdv qual = true
  kp : PySem.W.keepIn K (.ref f) = true
section
variable {P : Program} {w : World} {K : PySem.W.Frag} {mg : Str → Option Value} {base : Heap}
/-- THE RULE for a def: its body as a term of rules, and the reading of that term -/
theorem Fun.ok {x qual : Str} {st : Stmt} {f : Addr} {fd : FuncData} {N ps : List Str} {k : Nat} {sp : Sp} (F : Fun K x qual st f fd) (S : FnScope N ps (defScope st)) (len : ∀ vs H Q E, sp vs H Q E → vs.length = ps.length)
    (hbody : ∀ (cdv : Value) (A : Around) (outer : List Env) (s : Shared) (H : Hp) (vs : List V) (Q : VK) (E : XK), Room k (A.deeper (envOfC qual (defScope st) s.heap.objs.size f cdv)) → sp vs H Q E →
      ∃ t, PSs (cxOf CX0 P w K mg base N qual (defScope st) f cdv A outer s H E).nox (defBody st) t ∧ t { nx := fun _ H' => Q .non H', rt := Q } (start N vs) H) : FnOk P w K mg base CX0 (k + 1) f fd ps sp := by
  obtain ⟨oc, od, kV, doc, pm, an, cdv, ct, osl, rfl, lk, hcd⟩ := F.ex
  refine fn_of lk hcd S len fun A outer s H vs Q E hr hsp => ?_
  obtain ⟨t, h, q⟩ := hbody cdv A outer s H vs Q E hr hsp
  exact ⟨t, h.nox, q⟩
/-- how its arguments bind (no defaults): h is «fun _ _ _ _ _ _ us hl => match us, hl with | [_, _], _ => rfl», one _ a parameter -/
theorem Fun.binds {x qual : Str} {st : Stmt} {f : Addr} {fd : FuncData} {ps : List Str} (F : Fun K x qual st f fd)
    (h : ∀ (kV doc pm : Value) (an : Option Addr) (cdv ct : Value) (us : List Value), us.length = ps.length → bindArgs (PySem.W.fnOf x qual (defArgs st) (defBody st) (defScope st) .none kV doc pm an cdv ct) ⟨us, []⟩ = pure (ps.zip us)) : Binds K fd ps [] := by
  obtain ⟨oc, od, kV, doc, pm, an, cdv, ct, osl, rfl, lk, hcd⟩ := F.ex
  exact .all (h kV doc pm an cdv ct)
theorem fun_mk {x qual : Str} {st : Stmt} {f : Addr} {oc : Value} {od an : Option Addr} {osl : Array (Option Value)} {kV doc pm cdv ct : Value} (l : K.lookup f = some ⟨oc, od, .func (PySem.W.fnOf x qual (defArgs st) (defBody st) (defScope st) .none kV doc pm an cdv ct), osl⟩)
    (c : PySem.W.codeIn K cdv qual = true) (k : PySem.W.keepIn K (.ref f) = true) : Fun K x qual st f (PySem.W.fnOf x qual (defArgs st) (defBody st) (defScope st) .none kV doc pm an cdv ct) := ⟨⟨oc, od, kV, doc, pm, an, cdv, ct, osl, rfl, l, c⟩, k⟩
end
theorem hu_of {A : Around} {k : Nat} (hr : Room k A) : A.units + 1 < cLine := Nat.lt_of_le_of_lt (Nat.add_le_add_left (by decide : 1 ≤ 64) _) hr.units
theorem small1000 {n : Nat} (h : n ≤ 1000) : n < sizeLine := Nat.lt_of_le_of_lt h (by decide)

/-! ### expressions in short: the name that stands in the i-th slot -/
section
variable {X : Cx}
theorem pv (i : Nat) {x : Str} {pos : Pos} (hN : X.N[i]? = some x := by rfl) (hv : Vis X.env.scope x := by first | exact Or.inl rfl | exact Or.inr (Or.inl rfl) | exact Or.inr (Or.inr rfl)) (hd : (x == ("__debug__" : Str)) = false := by decide)
    (hcd : (x == ("__classdict__" : Str)) = false := by decide) : PE X (.Name x pos) (tVar i) := pe_var hN hv hd hcd
end

/-! ### tests -/
theorem iteF {A B : Prop} (h : B) : if false = true then A else B := by
  rw [if_neg Bool.false_ne_true]
  exact h
theorem iteT {A B : Prop} (h : A) : if true = true then A else B := by
  rw [if_pos rfl]
  exact h
/-! ### heaps -/
/-- all that was tracked is as it was -/
def Same (H H' : Hp) : Prop := ∀ b o, H b = some o → H' b = some o
theorem Same.refl (H : Hp) : Same H H := fun _ _ h => h
theorem Same.trans {H H1 H2 : Hp} (a : Same H H1) (b : Same H1 H2) : Same H H2 := fun c o h => b c o (a c o h)
theorem Same.free {H H' : Hp} (e : Same H H') {l : Addr} (h : H' l = Option.none) : H l = Option.none := by
  cases q : H l with
  | none => rfl
  | some o =>
    rw [e l o q] at h
    cases h
theorem Same.seq {K : PySem.W.Frag} {H H' : Hp} {a : Addr} {xs : List V} (e : Same H H') (h : SqL K H a xs) : SqL K H' a xs := by
  rcases h with (h | ⟨o, h⟩) | h
  · exact .inl (.inl (e _ _ h))
  · exact .inl (.inr ⟨o, e _ _ h⟩)
  · exact .inr h

end L2

/-! A list comprehension of one clause over the hand layer: its block runs in a context of its own. -/
namespace L2
open PySem PySem.Spec PyProof.Rows

/-- the cells that a block takes from around it -/
def clOf (env : Env) : List (Str × NameKind) → List (Str × Addr) → List (Str × Addr)
  | [], cs => cs
  | (n, k) :: r, cs => clOf env r (if k == .free then (n, (env.cells.lookup n).getD 0) :: cs else cs)
def clStep (env : Env) (x : Str × NameKind) (s : List (Str × Addr)) : Sem (ForInStep (List (Str × Addr))) := if (x.2 == NameKind.free) = true then cellOf env x.1 >>= fun c => pure (ForInStep.yield ((x.1, c) :: s)) else pure (ForInStep.yield s)
theorem clStep_run {env : Env} : ∀ {ns : List (Str × NameKind)} (cs : List (Str × Addr)), (∀ y ∈ ns, y.2 = .free → ∃ c, env.cells.lookup y.1 = some c) → (forIn ns cs (clStep env) : Sem (List (Str × Addr))) = pure (clOf env ns cs)
  | [], cs, _ => rfl
  | (n, k) :: r, cs, h => by
    rw [List.forIn_cons]
    have hr : ∀ y ∈ r, y.2 = .free → ∃ c, env.cells.lookup y.1 = some c := fun z hz => h z (List.mem_cons_of_mem _ hz)
    cases hk : (k == NameKind.free) with
    | false =>
      have e1 : clStep env (n, k) cs = pure (ForInStep.yield cs) := by
        unfold clStep
        exact if_neg (by rw [show (n, k).2 = k from rfl, hk]; decide)
      rw [e1, pure_bind]
      show forIn r cs (clStep env) = _
      rw [clStep_run cs hr]
      show pure (clOf env r cs) = pure (clOf env r (if (k == NameKind.free) = true then (n, (List.lookup n env.cells).getD 0) :: cs else cs))
      rw [hk]
      rfl
    | true =>
      have hk' : k = .free := by simpa using hk
      obtain ⟨c, hc⟩ := h (n, k) List.mem_cons_self hk'
      have hc' : env.cells.lookup n = some c := hc
      have q : cellOf env n = pure c := by unfold cellOf; rw [hc']
      have e1 : clStep env (n, k) cs = pure (ForInStep.yield ((n, c) :: cs)) := by
        unfold clStep
        rw [if_pos (by rw [show (n, k).2 = k from rfl, hk]), show (n, k).1 = n from rfl, q, pure_bind]
      rw [e1, pure_bind]
      show forIn r ((n, c) :: cs) (clStep env) = _
      rw [clStep_run _ hr]
      show pure (clOf env r ((n, c) :: cs)) = pure (clOf env r (if (k == NameKind.free) = true then (n, (List.lookup n env.cells).getD 0) :: cs else cs))
      rw [hk, hc']
      rfl
theorem closure_eq {scope : Scope} {env : Env} (h : ∀ y ∈ scope.names, y.2 = .free → ∃ c, env.cells.lookup y.1 = some c) : closureFor scope env = pure (clOf env scope.names []) := by
  show (forIn scope.names ([] : List (Str × Addr)) (clStep env) >>= fun s => (pure s : Sem (List (Str × Addr)))) = _
  rw [clStep_run [] h, pure_bind]
theorem clOf_sound {env : Env} {n : Str} {c : Addr} : ∀ {ns : List (Str × NameKind)} {cs : List (Str × Addr)}, (∀ y ∈ ns, y.2 = .free → ∃ c, env.cells.lookup y.1 = some c) → (∀ p ∈ cs, env.cells.lookup p.1 = some p.2) → (clOf env ns cs).lookup n = some c → env.cells.lookup n = some c
  | [], cs, _, hc, h => hc _ (PySem.mem_of_lookup h)
  | (m, k) :: r, cs, hn, hc, h => by
    unfold clOf at h
    refine clOf_sound (fun y hy => hn y (List.mem_cons_of_mem _ hy)) ?_ h
    intro p hp
    split at hp
    · rename_i hk
      have hk' : k = .free := by simpa using hk
      obtain ⟨c', hc'⟩ := hn (m, k) List.mem_cons_self hk'
      have hc2 : env.cells.lookup m = some c' := hc'
      rw [hc2] at hp
      rcases List.mem_cons.mp hp with rfl | hp
      · exact hc2
      · exact hc p hp
    · exact hc p hp
theorem lookup_mono_isSome {n : Str} : ∀ {cs : List (Str × Addr)}, (∃ c, (n, c) ∈ cs) → ∃ c, cs.lookup n = some c
  | [], ⟨_, h⟩ => absurd h (by simp)
  | (m, d) :: r, ⟨c, h⟩ => by
    rw [List.lookup_cons]
    by_cases e : n = m
    · subst e; exact ⟨d, by simp⟩
    · have : (n == m) = false := beq_eq_false_iff_ne.mpr e
      rw [this]
      rcases List.mem_cons.mp h with z | z
      · cases z; exact absurd rfl e
      · exact lookup_mono_isSome ⟨c, z⟩
theorem clOf_keeps {env : Env} {p : Str × Addr} : ∀ {ns : List (Str × NameKind)} {cs : List (Str × Addr)}, p ∈ cs → p ∈ clOf env ns cs
  | [], _, h => h
  | (m, k) :: r, cs, h => by
    unfold clOf
    refine clOf_keeps ?_
    split
    · exact List.mem_cons_of_mem _ h
    · exact h
theorem clOf_has {env : Env} {n : Str} : ∀ {ns : List (Str × NameKind)} {cs : List (Str × Addr)}, (n, NameKind.free) ∈ ns → ∃ c, (n, c) ∈ clOf env ns cs
  | [], _, h => absurd h (by simp)
  | (m, k) :: r, cs, h => by
    unfold clOf
    rcases List.mem_cons.mp h with z | z
    · cases z
      exact ⟨(env.cells.lookup n).getD 0, clOf_keeps (by simp)⟩
    · exact clOf_has z

/-- the context of a block: vs its own names, fs the captured ones -/
def cxBlk (X : Cx) (scope : Scope) (N : List Str) (C : Addr) (s : Shared) (H : Hp) (ex : List Addr) : Cx :=
  { X with N := N, s₀ := s, H₀ := H, env := compEnvC scope (clOf X.env scope.names []) C X.env, outer := X.stack, ex := ex, fn := fun _ => false, pn := [], xe := fun _ _ => False }

/-- what the text of a block must have -/
structure BlkOk (X : Cx) (scope : Scope) (vs fs : List Str) (js : List Nat) : Prop where
  kind : scope.kind = .function
  cell : ∀ y ∈ scope.names, y.2 ≠ .cell
  names : ∀ y ∈ scope.names, y.2 = .local → scope.names.lookup y.1 = some .local
  free : ∀ y ∈ scope.names, y.2 = .free → X.env.kindOf y.1 = some .cell ∨ X.env.kindOf y.1 = some .free
  own : ∀ y ∈ vs, scope.names.lookup y = some .local
  cap : ∀ y ∈ fs, scope.names.lookup y = some .free
  ix : js.map (fun j => X.N[j]?) = fs.map some

/-- the values at the block's entry -/
def blkSt (vs : List Str) (js : List Nat) (σ : St) : St := vs.map (fun _ => none) ++ js.map (fun j => (σ[j]?).join)

theorem lookup_relabel_free {env : Env} {names : List (Str × NameKind)} {x : Str} (h : names.lookup x = some .free) :
    (names.map fun (n, k) => if (k == NameKind.free && env.scope.kind == .function && env.kindOf n == some .cell) then (n, NameKind.cell) else (n, k)).lookup x = some .cell ∨
    (names.map fun (n, k) => if (k == NameKind.free && env.scope.kind == .function && env.kindOf n == some .cell) then (n, NameKind.cell) else (n, k)).lookup x = some .free := by
  induction names with
  | nil => cases h
  | cons y r ih =>
    obtain ⟨n, k⟩ := y
    rw [List.map_cons]
    show List.lookup x ((if (k == NameKind.free && env.scope.kind == .function && env.kindOf n == some .cell) = true then (n, NameKind.cell) else (n, k)) :: _) = _ ∨ List.lookup x ((if (k == NameKind.free && env.scope.kind == .function && env.kindOf n == some .cell) = true then (n, NameKind.cell) else (n, k)) :: _) = _
    rw [List.lookup_cons] at h
    cases e : x == n with
    | true =>
      rw [e] at h
      have h' : k = .free := by simpa using h
      subst h'
      split
      · left; rw [List.lookup_cons, e]
      · right; rw [List.lookup_cons, e]
    | false =>
      rw [e] at h
      have h' := ih h
      split
      · rw [List.lookup_cons, e]; exact h'
      · rw [List.lookup_cons, e]; exact h'
theorem relabel_back {env : Env} {names : List (Str × NameKind)} {x : Str} {kk : NameKind}
    (h : (names.map fun (n, k) => if (k == NameKind.free && env.scope.kind == .function && env.kindOf n == some .cell) then (n, NameKind.cell) else (n, k)).lookup x = some kk) :
    (kk = .cell ∧ (x, NameKind.free) ∈ names) ∨ (x, kk) ∈ names := by
  induction names with
  | nil => cases h
  | cons y r ih =>
    obtain ⟨n, k⟩ := y
    rw [List.map_cons] at h
    have h2 : List.lookup x ((if (k == NameKind.free && env.scope.kind == .function && env.kindOf n == some .cell) = true then (n, NameKind.cell) else (n, k)) :: (r.map fun (n, k) => if (k == NameKind.free && env.scope.kind == .function && env.kindOf n == some .cell) then (n, NameKind.cell) else (n, k))) = some kk := h
    cases e : x == n with
    | true =>
      have e' : x = n := by simpa using e
      subst e'
      split at h2
      · rename_i hc
        rw [List.lookup_cons, e] at h2
        have h3 : kk = .cell := by simpa using h2.symm
        have hk : k = .free := by
          have := (Bool.and_eq_true _ _ ▸ hc).1
          have := (Bool.and_eq_true _ _ ▸ this).1
          simpa using this
        subst hk
        exact .inl ⟨h3, List.mem_cons_self⟩
      · rw [List.lookup_cons, e] at h2
        have h3 : kk = k := by simpa using h2.symm
        subst h3
        exact .inr List.mem_cons_self
    | false =>
      have h3 : (r.map fun (n, k) => if (k == NameKind.free && env.scope.kind == .function && env.kindOf n == some .cell) then (n, NameKind.cell) else (n, k)).lookup x = some kk := by
        split at h2
        · rw [List.lookup_cons, e] at h2; exact h2
        · rw [List.lookup_cons, e] at h2; exact h2
      rcases ih h3 with ⟨a, b⟩ | b
      · exact .inl ⟨a, List.mem_cons_of_mem _ b⟩
      · exact .inr (List.mem_cons_of_mem _ b)

section
variable {prog : Program} {w : World} {A : Around} {R : Result → Shared → Prop} {s : Shared}
/-- one clause, any target, tests -/
theorem codeAny_compLoop_gen {elt target iter : Expr} {ifs : List Expr} {scope : Scope} {pos : Pos} {it acc : Value} {env : Env} (I : Nat → Shared → Prop)
    (turn : ∀ n s, I n s → wpAny (model prog w) A (pyNext it) (fun r s₁ => match r with
      | none => R (.ok .next) s₁
      | some v => wpAny (model prog w) A (letOwnedTupleGo target it v) (fun _ s₁' => wpAny (model prog w) A (assign target env v) (fun _ s₂ =>
          wpAny (model prog w) A (forIn ifs true fun c r => if r = true then do let ok ← isTrue c env (eval c env); pure (ForInStep.yield ok) else pure (ForInStep.yield r)) (fun ok s₃ =>
            if ok = true then wpAny (model prog w) A (eval elt env) (fun x s₄ =>
              wpAny (model prog w) A (call (.builtin "list.append") [acc, x]) (fun _ s₅ => ∃ m, m < n ∧ I m s₅) (fun _ _ => False) s₄) (fun _ _ => False) s₃
            else ∃ m, m < n ∧ I m s₃) (fun _ _ => False) s₂) (fun _ _ => False) s₁') (fun _ _ => False) s₁) (fun _ _ => False) s)
    (n : Nat) (h : I n s) :
    codeAny (model prog w) A (.compLoop (.ListComp elt [⟨target, iter, ifs, 0⟩] scope pos) 0 it acc env) R s := by
  refine codeAny_loop rfl I (fun n s hI => ?_) n h
  show wpAny _ A ((compTurn (.ListComp elt [⟨target, iter, ifs, 0⟩] scope pos) 0 it acc env).onRaise (fun x => do noteFrame x env; theTreesLotGoes x)) _ _ s
  refine wpAny_noted ?_
  rw [compTurn_list]
  refine wpAny_bind (wpAny_standAt (wpAny_bind (wpAny_mono (turn n s hI) (fun r s₁ h₁ => ?_) fun _ _ h' => h'.elim)))
  cases r with
  | none => exact wpAny_pure h₁
  | some v =>
    refine wpAny_bind (wpAny_mono h₁ (fun _ s₁' h₁' => ?_) fun _ _ h' => h'.elim)
    refine wpAny_bind (wpAny_mono h₁' (fun _ s₂ h₂ => wpAny_bind (wpAny_mono h₂ (fun ok s₃ h₃ => ?_) fun _ _ h' => h'.elim)) fun _ _ h' => h'.elim)
    cases ok with
    | false => exact wpAny_pure ⟨rfl, h₃⟩
    | true =>
      exact wpAny_bind (wpAny_bind (wpAny_mono h₃ (fun x s₄ h₄ => wpAny_bind (wpAny_mono h₄ (fun _ s₅ h₅ => wpAny_pure (wpAny_pure ⟨rfl, h₅⟩)) fun _ _ h' => h'.elim)) fun _ _ h' => h'.elim))
end

/-- the tests of a clause -/
def PIfs (X : Cx) (ifs : List Expr) (t : TT) : Prop :=
  ∀ (pins : List (Addr × Obj)) (s : Shared) (σ : St) (H : Hp) (Q : Bool → Hp → Prop), Inv X pins σ H s → t σ H Q →
    wpAny (model X.prog X.w) X.A (forIn ifs true fun c r => if r = true then do let ok ← isTrue c X.env (eval c X.env); pure (ForInStep.yield ok) else pure (ForInStep.yield r)) (TP X pins σ Q) X.xe s
def tYes : TT := fun _ H Q => Q true H
theorem pif0 {X : Cx} : PIfs X [] tYes := fun _ _ _ H _ I h => wpAny_tests_nil ⟨H, I, h⟩
/-- W by the turn, a measure, the names, the list so far, the heap; D the new list -/
def CompW (J : It) (vs : List Str) (js : List Nat) (σ : St) (g : TG) (tt : TT) (te : TE) (Q : VK) (D : Addr) (H1 : Hp) : Prop :=
  ∃ W : Nat → Nat → St → List V → Hp → Prop, (∃ m, W 0 m (blkSt vs js σ) [] (upd H1 D (.lst []))) ∧ ∀ i m σ' ys H', W i m σ' ys H' →
    (J.stop i H' ∧ Q (.ref D) H') ∨ (J.go i H' ∧ ∃ N : St → List V → Hp → Prop, (∀ σ2 zs H2, N σ2 zs H2 → ∃ m', m' < m ∧ W (i + 1) m' σ2 zs H2) ∧
      ∀ x H2, J.yld i H' x H2 → g x σ' H2 fun σ3 H3 => tt σ3 H3 fun b H4 => if b = true then te σ3 H4 fun y H5 => H5 D = some (.lst ys) ∧ ys.length < sizeLine ∧ N σ3 (ys ++ [y]) (upd H5 D (.lst (ys ++ [y]))) else N σ3 ys H4)
def tComp (vs : List Str) (js : List Nat) (wi : TI) (g : TG) (tt : TT) (te : TE) : TE := fun σ H Q => wi σ H fun J H1 => ∀ D, H1 D = none → CompW J vs js σ g tt te Q D H1

section
variable {X : Cx} {pins : List (Addr × Obj)} {σ : St} {H : Hp} {s : Shared} {scope : Scope} {vs fs : List Str} {js : List Nat}
theorem blk_start {fp : List Addr} {C D : Addr} {h₁ : Heap} {tk : Nat} {m : Str → Option Value} (I : Inv X pins σ H s) (B : BlkOk X scope vs fs js) (hf : ∀ b ∈ fp, FpOk X pins H b) (hfp : ∀ b ∈ fp, b < s.heap.objs.size)
    (hn : h₁.Ns C m) (hk : ∀ b o, s.heap.get? b = some o → h₁.get? b = some o) (hD : D = s.heap.objs.size) (hC : s.heap.objs.size < C)
    (hl : h₁.get? D = some { cls := .type "list", data := .seq ([] : List Value).toArray }) :
    Inv (cxBlk X scope (vs ++ fs) C s H fp) [] (blkSt vs js σ) (upd H D (.lst [])) { s with heap := h₁, toks := tk } := by
  have hasX : ∀ y ∈ scope.names, y.2 = .free → ∃ c, X.env.cells.lookup y.1 = some c := fun y hy hf => I.ok.has y.1 (B.free y hy hf)
  have snd : ∀ {y : Str} {c : Addr}, (clOf X.env scope.names []).lookup y = some c → X.env.cells.lookup y = some c := fun h => clOf_sound hasX (fun p hp => absurd hp (by simp)) h
  have clt : ∀ {y : Str} {c : Addr}, X.env.cells.lookup y = some c → c < s.heap.objs.size := fun {y c} h => by
    obtain ⟨v, o, ho, _⟩ := I.cell y c h
    exact Heap.lt_size ho
  have hfr : H D = none := by rw [hD]; exact I.hok.fresh (Nat.le_refl _)
  have hfC : H C = none := I.hok.fresh (Nat.le_of_lt hC)
  have nCD : C ≠ D := by rw [hD]; exact Nat.ne_of_gt hC
  refine ⟨⟨I.ok.mod, B.kind, I.ok.glob, I.ok.blt, Nat.le_of_lt hC, fun y z c h1 h2 => I.ok.inj y z c (snd h1) (snd h2), fun y hy => ?_, fun y c z _ => absurd (show false = true from z) Bool.false_ne_true, I.ok.hd, I.ok.frames, .inl rfl, fun b hb => ⟨?_, fun y c h => (hf b hb).2.2.2.2.1 y c (snd h)⟩, I.bs, Nat.le_trans I.ok.bsz I.sz, fun b o e hb => ?_, fun b hb z => ?_, I.stack, I.stkFree⟩,
    rfl, I.bare, Un.laid hk (Nat.le_of_eq hD.symm) hfr, ⟨m, hn, fun i y v h1 h2 h3 => ?_⟩, fun y c h => ?_, ?_, fun y c h => ?_, fun p hp => absurd (show p ∈ ([] : List (Addr × Obj)) from hp) (by simp), I.hok.laid hk (Nat.le_of_eq hD.symm) ⟨by simp, [], 0, .nil, hl⟩, ?_⟩
  · -- has
    have key : (y, NameKind.free) ∈ scope.names := by
      rcases hy with hy | hy
      · rcases relabel_back hy with ⟨_, z⟩ | z
        · exact z
        · exact absurd rfl (B.cell _ z)
      · rcases relabel_back hy with ⟨z, _⟩ | z
        · cases z
        · exact z
    exact lookup_mono_isSome (clOf_has key)
  · exact Nat.ne_of_lt (Nat.lt_trans (hfp b hb) hC)
  · rcases (hf b hb).2.2.2.1 with z | z
    · exact I.ok.noex b o e z
    · exact absurd (Nat.lt_of_lt_of_le (Heap.lt_size e) (Nat.le_trans I.ok.bsz z)) (Nat.lt_irrefl _)
  · rcases List.mem_cons.mp (I.stkSub b z) with e | e
    · exact (hf b hb).2.1 e
    · exact (hf b hb).2.2.1 e
  · -- loc
    have hlen : js.length = fs.length := by have := congrArg List.length B.ix; simpa using this
    have hi : ¬ i < vs.length := fun hi => by
      unfold blkSt at h2
      rw [List.getElem?_append_left (by simpa using hi), List.getElem?_map] at h2
      cases e : vs[i]? with
      | none => rw [e] at h2; cases h2
      | some a => rw [e] at h2; cases h2
    have hi' : vs.length ≤ i := Nat.le_of_not_lt hi
    have h1' : fs[i - vs.length]? = some y := by
      have := h1
      rw [show (cxBlk X scope (vs ++ fs) C s H fp).N = vs ++ fs from rfl, List.getElem?_append_right hi'] at this
      exact this
    have h2' : (js[i - vs.length]?).map (fun j => (σ[j]?).join) = some (some v) := by
      unfold blkSt at h2
      rw [List.getElem?_append_right (by simpa using hi'), List.length_map, List.getElem?_map] at h2
      exact h2
    cases ej : js[i - vs.length]? with
    | none => rw [ej] at h2'; cases h2'
    | some j =>
      rw [ej] at h2'
      have hσ : σ[j]? = some (some v) := by
        have z : (σ[j]?).join = some v := Option.some.inj h2'
        cases q : σ[j]? with
        | none => rw [q] at z; cases z
        | some o => rw [q] at z; have z' : o = some v := z; rw [z']
      have hNj : X.N[j]? = some y := by
        have q := congrArg (fun l => l[i - vs.length]?) B.ix
        simp only [List.getElem?_map, ej, h1', Option.map_some] at q
        exact Option.some.inj q
      have hcap := B.cap y (List.mem_of_getElem? h1')
      have hmem : (y, NameKind.free) ∈ scope.names := PySem.mem_of_lookup hcap
      have hkX := B.free _ hmem rfl
      have vis : Vis X.env.scope y := by
        rcases hkX with z | z
        · exact .inr (.inl z)
        · exact .inr (.inr z)
      obtain ⟨m0, hn0, hl0⟩ := I.loc
      obtain ⟨u, r, l⟩ := hl0 j y v hNj hσ vis
      refine ⟨u, r, .inr ⟨lookup_relabel_free hcap, ?_⟩⟩
      rcases l with ⟨z, _⟩ | ⟨_, c, hc, hcell⟩
      · rcases hkX with q | q <;> (rw [q] at z; cases z)
      · obtain ⟨c', hc'⟩ := lookup_mono_isSome (clOf_has (env := X.env) (cs := []) hmem)
        have e := snd hc'
        rw [hc] at e
        cases e
        exact ⟨c, hc', hcell.keeps hk⟩
  · obtain ⟨v, z⟩ := I.cell y c (snd h)
    exact ⟨v, z.keeps hk⟩
  · rw [show (cxBlk X scope (vs ++ fs) C s H fp).env.locals = C from rfl, upd_ne nCD]
    exact hfC
  · have q := snd h
    have ne : c ≠ D := by rw [hD]; exact Nat.ne_of_lt (clt q)
    rw [upd_ne ne]
    exact I.freeC y c q
  · have hlen : js.length = fs.length := by have := congrArg List.length B.ix; simpa using this
    show (vs.map _ ++ js.map _).length = (vs ++ fs).length
    rw [List.length_append, List.length_append, List.length_map, List.length_map, hlen]

theorem Inv.goneC {H' : Hp} {s' : Shared} {C : Addr} {h'' : Heap} (I2 : Inv X pins σ H s) {σ' : St} (I' : Inv X pins σ' H' s') (hC : H' C = none) (hle : s.heap.objs.size ≤ C) (hs : Heap.SameBut C s'.heap h'') : Inv X pins σ' H' { s' with heap := h'' } := by
  refine I'.turned (t' := s'.toks) (fun b o hb e => (hs.2 b hb).trans e) hC (Nat.ne_of_gt (Nat.lt_of_lt_of_le I2.lt hle)) (.inr (Nat.le_trans I2.sz hle)) (fun y c e z => ?_) fun p hp z => ?_
  · obtain ⟨v, o, ho, _⟩ := I2.cell y c e
    have := Heap.lt_size ho
    rw [z] at this
    exact absurd (Nat.lt_of_lt_of_le this hle) (Nat.lt_irrefl _)
  · have := Heap.lt_size (I2.pin p hp).1
    rw [z] at this
    exact absurd (Nat.lt_of_lt_of_le this hle) (Nat.lt_irrefl _)

theorem blk_run {tg iter elt : Expr} {ifs : List Expr} {pos : Pos} {g : TG} {tt : TT} {te : TE} (hc : X.calm = true) (B : BlkOk X scope vs fs js)
    (hg : ∀ C s H ex, PG (cxBlk X scope (vs ++ fs) C s H ex) tg g) (ht : ∀ C s H ex, PIfs (cxBlk X scope (vs ++ fs) C s H ex) ifs tt) (he : ∀ C s H ex, PE (cxBlk X scope (vs ++ fs) C s H ex) elt te)
    {it : Addr} {fp : List Addr} {tn : Nat → Heap → Prop} {J : It} {Q : VK} {E : Value → Shared → Prop} (I2 : Inv X pins σ H s) (T : Turn X.prog X.w X.K tg J fp it tn) (st2 : tn 0 s.heap) (f2 : ∀ b ∈ fp, FpOk X pins H b)
    (hW : ∀ D, H D = none → CompW J vs js σ g tt te Q D H)
    {RR : Value → Addr → Result → Shared → Prop}
    (hR : ∀ D C H' s', Inv X pins σ H' s' → (∃ m, s'.heap.Ns C m) → H' C = none → s.heap.objs.size ≤ C → Q (.ref D) H' → RR (.ref D) C (.ok .next) s') :
    wpAny (model X.prog X.w) X.A (newList []) (fun acc s₃ => wpAny (model X.prog X.w) X.A (newFunctionEnv scope X.env.globals (clOf X.env scope.names []) [] X.env.qual none .none (some X.env)) (fun cenv s₄ =>
      codeAny (model X.prog X.w) X.A (.compStart (.ListComp elt [⟨tg, iter, ifs, 0⟩] scope pos) 0 (.ref it) acc { cenv with scope := relabel scope X.env }) (RR acc cenv.locals) s₄) E s₃) E s := by
  have hfp : ∀ b ∈ fp, b < s.heap.objs.size := fun b hb => by
    obtain ⟨o, e, _⟩ := T.obj _ _ st2 b hb
    exact Heap.lt_size e
  refine wpAny_newObj_type (wpAny_newFunctionEnv B.cell (by intro y hy; simp at hy) (fun h₁ hns₁ hsb₁ => ?_) B.kind)
  dsimp only at hns₁ hsb₁ ⊢
  generalize hH2 : s.heap.push { cls := .type "list", dict := none, data := .seq ([] : List Value).toArray } = HH at hns₁ hsb₁ ⊢
  have hC : HH.objs.size = s.heap.objs.size + 1 := by rw [← hH2, Heap.size_push]
  have hlt : s.heap.objs.size < HH.objs.size := by rw [hC]; exact Nat.lt_succ_self _
  have old : ∀ b o, s.heap.get? b = some o → h₁.get? b = some o := fun b o e => hsb₁.extBut b o (Nat.ne_of_lt (Nat.lt_trans (Heap.lt_size e) hlt)) (Heap.get?_push_of_some _ (hH2 ▸ Heap.get?_push_of_some _ e))
  have hacc : h₁.get? s.heap.objs.size = some { cls := .type "list", data := .seq ([] : List Value).toArray } := hsb₁.extBut _ _ (Nat.ne_of_lt hlt) (Heap.get?_push_of_some _ (hH2 ▸ Heap.get?_push_size _ rfl))
  have I0 : Inv (cxBlk X scope (vs ++ fs) HH.objs.size s H fp) [] (blkSt vs js σ) (upd H s.heap.objs.size (.lst [])) { s with heap := h₁, toks := s.toks + ([] : List (Str × Value)).length } := blk_start I2 B f2 hfp hns₁ old rfl hlt hacc
  obtain ⟨W, ⟨m0, w0⟩, turn⟩ := hW s.heap.objs.size (I2.hok.fresh (Nat.le_refl _))
  have st1 : tn 0 h₁ := T.keep _ _ _ st2 fun b hb o e => old b o e
  have hch : ∀ b ∈ fp, (b ∈ X.ex ∨ X.s₀.heap.objs.size ≤ b) ∧ b ≠ X.env.locals ∧ (∀ x c, X.env.cells.lookup x = some c → c ≠ b) ∧ ∀ p ∈ X.pn ++ pins, p.1 ≠ b := fun b hb => by
    obtain ⟨_, a2, _, a4, a5, a6⟩ := f2 b hb
    exact ⟨a4, a2, a5, a6⟩
  have back : ∀ {pl : List (Addr × Obj)} {σ' : St} {H' : Hp} {s' : Shared}, Inv (cxBlk X scope (vs ++ fs) HH.objs.size s H fp) pl σ' H' s' → Inv X pins σ H' s' := fun {pl σ' H' s'} J' => I2.call' (ch := fp) J'.os J'.base J'.hok J'.bare hch
  have nD : ∀ b ∈ fp, b ≠ s.heap.objs.size := fun b hb => Nat.ne_of_lt (hfp b hb)
  have stat : ∀ {H' : Hp}, (∀ b ∈ fp, H' b = none) → ∀ b ∈ fp, FpOk (cxBlk X scope (vs ++ fs) HH.objs.size s H fp) [] H' b := fun {H'} hn b hb => by
    have z := I0.ok
    refine ⟨hn b hb, (z.exf b hb).1, z.exfs b hb, .inl hb, (z.exf b hb).2, fun p hp => absurd (show p ∈ ([] : List (Addr × Obj)) from hp) (by simp)⟩
  have loop : ∀ s₃ : Shared, s₃ = { s with heap := h₁, toks := s.toks + ([] : List (Str × Value)).length } →
      codeAny (model X.prog X.w) X.A (.compLoop (.ListComp elt [⟨tg, iter, ifs, 0⟩] scope pos) 0 (.ref it) (.ref s.heap.objs.size) (compEnvC scope (clOf X.env scope.names []) HH.objs.size X.env)) (RR (.ref s.heap.objs.size) HH.objs.size) s₃ := by
    rintro s₃ rfl
    refine codeAny_compLoop_gen (fun n s' => ∃ i σ' ys H', Inv (cxBlk X scope (vs ++ fs) HH.objs.size s H fp) [] σ' H' s' ∧ tn i s'.heap ∧ (∀ b ∈ fp, H' b = none) ∧ W i n σ' ys H') ?_ m0
      ⟨0, _, _, _, I0, st1, fun b hb => by rw [upd_ne (nD b hb)]; exact (f2 b hb).1, w0⟩
    rintro n s3 ⟨i, σ3, ys, H3, I3, st3, fr3, w3⟩
    rcases turn i n σ3 ys H3 w3 with ⟨stop, q⟩ | ⟨go, N, hN, step⟩
    · refine thn (T.done (cxBlk X scope (vs ++ fs) HH.objs.size s H fp) rfl rfl rfl hc i [] s3 σ3 H3 _ I3 (stat fr3) st3 stop) fun r s4 ⟨hr, I4⟩ => ?_
      subst hr
      obtain ⟨m, hm, _⟩ := I4.loc
      exact hR _ _ H3 s4 (back I4) ⟨m, hm⟩ I4.free (Nat.le_of_lt hlt) q
    · refine thn (T.item (cxBlk X scope (vs ++ fs) HH.objs.size s H fp) rfl rfl rfl hc i [] s3 σ3 H3 _ I3 (stat fr3) st3 go) fun r s4 ⟨u, hr, h4⟩ => ?_
      subst hr
      refine thn h4 fun _ s5 ⟨x, H5, I5, r5, y5, st5, fr5⟩ => ?_
      have I5' := I5.pinned (stat fr5) (T.obj _ _ st5)
      have again : ∀ {σ7 : St} {H7 : Hp} {s7 : Shared} {zs : List V}, Inv (cxBlk X scope (vs ++ fs) HH.objs.size s H fp) ([] ++ pinsAt fp s5.heap) σ7 H7 s7 → N σ7 zs H7 → ∃ m, m < n ∧ ∃ i σ' ys H', Inv (cxBlk X scope (vs ++ fs) HH.objs.size s H fp) [] σ' H' s7 ∧ tn i s7.heap ∧ (∀ b ∈ fp, H' b = none) ∧ W i m σ' ys H' := fun {σ7 H7 s7 zs} I7 n7 => by
        obtain ⟨m', hm, w7⟩ := hN σ7 zs H7 n7
        refine ⟨m', hm, i + 1, σ7, zs, H7, I7.unpinned, T.keep _ _ _ st5 fun b hb o e => (I7.pin (b, o) (List.mem_append_right _ (List.mem_append_right _ (mem_pinsAt hb e)))).1, fun b hb => ?_, w7⟩
        obtain ⟨o, e, d⟩ := T.obj _ _ st5 b hb
        exact (I7.pin (b, o) (List.mem_append_right _ (List.mem_append_right _ (mem_pinsAt hb e)))).2.1
      refine thn (hg _ _ _ _ _ s5 σ3 H5 x u _ I5' r5 (step x H5 y5)) fun _ s6 ⟨σ6, H6, I6, q6⟩ => ?_
      refine thn (ht _ _ _ _ _ s6 σ6 H6 _ I6 q6) fun ok s7 ⟨H7, I7, q7⟩ => ?_
      cases ok with
      | false =>
        rw [if_neg Bool.false_ne_true] at q7 ⊢
        exact again I7 q7
      | true =>
        rw [if_pos rfl] at q7 ⊢
        refine thn (he _ _ _ _ _ s7 σ6 H7 _ I7 q7) fun y s8 ⟨yv, H8, I8, r8, hD8, hz, n8⟩ => ?_
        refine thn (mt_append _ s8 σ6 H8 (.ref s.heap.objs.size) [yv] (.ref s.heap.objs.size) [y] (fun _ H9 => N σ6 (ys ++ [yv]) H9) I8 rfl (.cons r8 .nil) ⟨_, ys, yv, rfl, rfl, hD8, hz, n8⟩) fun _ s9 ⟨_, H9, I9, _, n9⟩ => ?_
        exact again I9 n9
  exact codeAny_compStart_list (loop _ rfl) (T.self X.A 0 _ _ _ st1 (loop _ rfl))

theorem pe_comp {tg iter elt : Expr} {ifs : List Expr} {pos : Pos} {wi : TI} {g : TG} {tt : TT} {te : TE} (hc : X.calm = true) (B : BlkOk X scope vs fs js) (hi : PI X tg iter wi)
    (hg : ∀ C s H ex, PG (cxBlk X scope (vs ++ fs) C s H ex) tg g) (ht : ∀ C s H ex, PIfs (cxBlk X scope (vs ++ fs) C s H ex) ifs tt) (he : ∀ C s H ex, PE (cxBlk X scope (vs ++ fs) C s H ex) elt te)
    (hs : ∀ x, foldedSetIterable iter X.env x = pure x := by intro _; rfl) : PE X (.ListComp elt [⟨tg, iter, ifs, 0⟩] scope pos) (tComp vs js wi g tt te) := by
  intro pins s σ H Q I h
  rw [eval_ListComp]
  refine wpAny_comprehension_free (use := none) rfl hs (closure_eq fun y hy hf => I.ok.has y.1 (B.free y hy hf)) B.kind B.names (thn (hi pins s σ H _ I h) fun v s1 h1 => thn h1 fun itv s2 h2 => ?_)
  obtain ⟨it, fp, tn, J, H2, e, I2, T, st2, f2, hW⟩ := h2
  subst e
  refine blk_run (RR := fun acc C => compPost (model X.prog X.w) X.A X.xe none (EP X pins σ Q) acc C) hc B hg ht he I2 T st2 f2 hW ?_
  intro D C H' s' I' hn hC hle q
  obtain ⟨m, hn⟩ := hn
  exact ⟨m, hn, fun h'' hs'' => ⟨.ref D, H', I2.goneC I' hC hle hs'', rfl, q⟩⟩

/-- x = [.. for ..]: the name is stored within the block's own end -/
theorem ps_setc {i : Nat} {y : Str} {py spos : Pos} {tg iter elt : Expr} {ifs : List Expr} {pos : Pos} {wi : TI} {g : TG} {tt : TT} {te : TE} (hN : X.N.Nodup) (hi' : X.N[i]? = some y) (hy : X.env.scope.names.lookup y = some .local) (hc : X.calm = true) (B : BlkOk X scope vs fs js) (hi : PI X tg iter wi)
    (hg : ∀ C s H ex, PG (cxBlk X scope (vs ++ fs) C s H ex) tg g) (ht : ∀ C s H ex, PIfs (cxBlk X scope (vs ++ fs) C s H ex) ifs tt) (he : ∀ C s H ex, PE (cxBlk X scope (vs ++ fs) C s H ex) elt te)
    (hsw : swapsWith (.ListComp elt [⟨tg, iter, ifs, 0⟩] scope pos) (some (.Name y py)) spos.line X.env = pure true := by rfl)
    (hs : ∀ x, foldedSetIterable iter X.env x = pure x := by intro _; rfl) : PS X (.Assign [.Name y py] (.ListComp elt [⟨tg, iter, ifs, 0⟩] scope pos) spos) (tAsg (tComp vs js wi g tt te) (gName i)) := by
  intro pins s σ H D I h
  rw [exec_Assign_Name_used _ _ _ _ hsw]
  refine wpAny_bind (wpAny_standAt (wpAny_bind ?_))
  show wpAny _ X.A (do let _ ← comprehension (.ListComp elt [⟨tg, iter, ifs, 0⟩] scope pos) scope X.env _ (newList []) false (eval iter X.env) (some (assign (.Name y py) X.env))) _ _ s
  refine wpAny_bind (wpAny_mono (wpAny_comprehension_free (use := some (assign (.Name y py) X.env)) (Q := fun _ s' => SP X pins D .next s') rfl hs (closure_eq fun y hy hf => I.ok.has y.1 (B.free y hy hf)) B.kind B.names
    (thn (hi pins s σ H _ I h) fun v s1 h1 => thn h1 fun itv s2 h2 => ?_)) (fun _ s' hq => wpAny_pure (wpAny_pure hq)) fun _ _ e => e)
  obtain ⟨it, fp, tn, J, H2, e, I2, T, st2, f2, hW⟩ := h2
  subst e
  refine blk_run (Q := fun x H1 => gName i x σ H1 D.nx) (RR := fun acc C => compPost (model X.prog X.w) X.A X.xe (some (assign (.Name y py) X.env)) (fun _ s' => SP X pins D .next s') acc C) hc B hg ht he I2 T st2 f2 hW ?_
  intro D' C H' s' I' hn hC hle q
  obtain ⟨m, hn⟩ := hn
  show wpAny _ X.A (assign (.Name y py) X.env (.ref D')) _ _ _
  refine wpAny_assign_Name (store_ok2 I' hN hi' (.inl hy) (v := .ref D') rfl (fun s'' I'' hsb => ?_) (.inr hy))
  obtain ⟨a, hsb, ha⟩ := hsb
  have nCa : C ≠ a := by
    rcases ha with z | z
    · rw [z]; exact Nat.ne_of_gt (Nat.lt_of_lt_of_le I2.lt hle)
    · obtain ⟨v, o, ho, _⟩ := I2.cell y a z
      exact Nat.ne_of_gt (Nat.lt_of_lt_of_le (Heap.lt_size ho) hle)
  exact ⟨m, hn.sameBut hsb nCa, fun h'' hs'' => ⟨_, H', I2.goneC I'' hC hle hs'', q⟩⟩
end

/-! ### the forms one uses -/
section
variable {vs : List Str} {js : List Nat} {σ : St} {g : TG} {tt : TT} {te : TE} {Q : VK}
/-- over a range -/
theorem comp_range {lo : Int} {n : Nat} {H : Hp} (Pv : Nat → St → List V → Hp → Prop) (D : Addr) (h0 : Pv 0 (blkSt vs js σ) [] (upd H D (.lst [])))
    (hs : ∀ i σ' ys H', i < n → Pv i σ' ys H' → g (.int (lo + i)) σ' H' fun σ3 H3 => tt σ3 H3 fun b H4 => if b = true then te σ3 H4 fun y H5 => H5 D = some (.lst ys) ∧ ys.length < sizeLine ∧ Pv (i + 1) σ3 (ys ++ [y]) (upd H5 D (.lst (ys ++ [y]))) else Pv (i + 1) σ3 ys H4)
    (hd : ∀ σ' ys H', Pv n σ' ys H' → Q (.ref D) H') :
    CompW (Itr lo n) vs js σ g tt te Q D H := by
  refine ⟨fun i m σ' ys H' => m = n - i ∧ i ≤ n ∧ Pv i σ' ys H', ⟨n, by simp, Nat.zero_le _, h0⟩, ?_⟩
  rintro i m σ' ys H' ⟨rfl, hi, p⟩
  by_cases hlt : i < n
  · refine .inr ⟨hlt, Pv (i + 1), fun σ2 zs H2 p' => ⟨n - (i + 1), by omega, rfl, hlt, p'⟩, fun x H2 y => ?_⟩
    obtain ⟨e, y⟩ := y
    subst e y
    exact hs i σ' ys _ hlt p
  · have e : i = n := by omega
    subst e
    exact .inl ⟨Nat.le_refl _, hd σ' ys H' p⟩
/-- over a list that stays -/
theorem comp_list {K : PySem.W.Frag} {a : Addr} {xs : List V} {H : Hp} (Pv : Nat → St → List V → Hp → Prop) (D : Addr) (h0 : Pv 0 (blkSt vs js σ) [] (upd H D (.lst []))) (hl : ∀ i σ' ys H', i ≤ xs.length → Pv i σ' ys H' → SqL K H' a xs)
    (hs : ∀ i x σ' ys H', xs[i]? = some x → Pv i σ' ys H' → g x σ' H' fun σ3 H3 => tt σ3 H3 fun b H4 => if b = true then te σ3 H4 fun y H5 => H5 D = some (.lst ys) ∧ ys.length < sizeLine ∧ Pv (i + 1) σ3 (ys ++ [y]) (upd H5 D (.lst (ys ++ [y]))) else Pv (i + 1) σ3 ys H4)
    (hd : ∀ σ' ys H', Pv xs.length σ' ys H' → Q (.ref D) H') :
    CompW (Itl K a) vs js σ g tt te Q D H := by
  refine ⟨fun i m σ' ys H' => m = xs.length - i ∧ i ≤ xs.length ∧ Pv i σ' ys H', ⟨xs.length, by simp, Nat.zero_le _, h0⟩, ?_⟩
  rintro i m σ' ys H' ⟨rfl, hi, p⟩
  have q := hl i σ' ys H' hi p
  by_cases hlt : i < xs.length
  · refine .inr ⟨⟨xs, xs[i], q, by simp [hlt]⟩, Pv (i + 1), fun σ2 zs H2 p' => ⟨xs.length - (i + 1), by omega, rfl, hlt, p'⟩, fun x H2 y => ?_⟩
    obtain ⟨e, y⟩ := y
    subst e
    exact hs i x σ' ys _ (y xs q) p
  · have e : i = xs.length := by omega
    subst e
    exact .inl ⟨⟨xs, q, Nat.le_refl _⟩, hd σ' ys H' p⟩
end
end L2

/-! Further rules, the bundle of a called def, and the steps of a reading. -/
namespace L2
open PySem PySem.Spec PyProof.Rows

/-! ### the built-in names -/
theorem bt_len : bootBuiltins "len" = some (.builtin "len") := by decide +kernel
theorem bt_abs : bootBuiltins "abs" = some (.builtin "abs") := by decide +kernel
theorem bt_max : bootBuiltins "max" = some (.builtin "max") := by decide +kernel
theorem bt_isinstance : bootBuiltins "isinstance" = some (.builtin "isinstance") := by decide +kernel
theorem bt_sorted : bootBuiltins "sorted" = some (.builtin "sorted") := by decide +kernel
theorem bt_list : bootBuiltins "list" = some (.type "list") := by decide +kernel
/-! ### a called def in one word -/
structure Cal (P : Program) (w : World) (K : PySem.W.Frag) (mg : Str → Option Value) (base : Heap) (x : Str) (ps : List Str) (k : Nat) (sp : Sp) : Prop where
  ex : ∃ (f : Addr) (fd : FuncData), FnOk P w K mg base CX0 k f fd ps sp ∧ Binds K fd ps [] ∧ mg x = some (.ref f) ∧ PySem.W.keepIn K (.ref f) = true
section
variable {X : Cx} {x : Str} {ps : List Str} {k : Nat} {sp : Sp} {e : Expr} {es : List Expr} {t : TA} {p pos : Pos}
theorem pcl (C : Cal X.prog X.w X.K X.mg X.base x ps k sp) (hr : Room k X.A) (ha : PA X (e :: es) t) (hg : Gl X x := by rfl) (hdb : (x == ("__debug__" : Str)) = false := by decide) (he : starEach (e :: es) X.env = (false, eval e X.env) :: starEach es X.env := by rfl) (hpl : (backTo pos (starEach es X.env)).any (·.1) = false := by rfl) :
    PE X (.Call (.Name x p) (e :: es) [] pos) (tCall sp [] E0 t) := by
  obtain ⟨f, fd, F, hb, hm, hk⟩ := C.ex
  exact pe_call F hr hg hm hk hb .nil pass0 ha hdb he hpl
end
theorem Cal.of {P : Program} {w : World} {K : PySem.W.Frag} {mg : Str → Option Value} {base : Heap} {x : Str} {st : Stmt} {f : Addr} {fd : FuncData} {N ps : List Str} {k : Nat} {sp : Sp} (F : Fun K x x st f fd) (mF : mg x = some (.ref f)) (bF : Binds K fd ps []) (S : FnScope N ps (defScope st)) (len : ∀ vs H Q E, sp vs H Q E → vs.length = ps.length)
    (hbody : ∀ (cdv : Value) (A : Around) (outer : List Env) (s : Shared) (H : Hp) (vs : List V) (Q : VK) (E : XK), Room k (A.deeper (envOfC x (defScope st) s.heap.objs.size f cdv)) → sp vs H Q E →
      ∃ t, PSs (cxOf CX0 P w K mg base N x (defScope st) f cdv A outer s H E).nox (defBody st) t ∧ t { nx := fun _ H' => Q .non H', rt := Q } (start N vs) H) : Cal P w K mg base x ps (k + 1) sp :=
  ⟨f, fd, F.ok S len hbody, bF, mF, F.kp⟩

/-! ### blocks by a decision -/
def blkB (sc scope : Scope) (N vs fs : List Str) (js : List Nat) : Bool :=
  (scope.kind == .function) && scope.names.all (fun y => y.2 != .cell) && scope.names.all (fun y => y.2 != .local || scope.names.lookup y.1 == some .local) &&
  scope.names.all (fun y => y.2 != .free || sc.names.lookup y.1 == some .cell || sc.names.lookup y.1 == some .free) && vs.all (fun y => scope.names.lookup y == some .local) && fs.all (fun y => scope.names.lookup y == some .free) &&
  (js.map (fun j => N[j]?) == fs.map some)
theorem blkOk {X : Cx} {sc scope : Scope} {N vs fs : List Str} {js : List Nat} (h : blkB sc scope N vs fs js = true) (hs : X.env.scope = sc) (hN : X.N = N) : BlkOk X scope vs fs js := by
  unfold blkB at h
  simp only [Bool.and_eq_true, List.all_eq_true, beq_iff_eq, bne_iff_ne, Bool.or_eq_true] at h
  obtain ⟨⟨⟨⟨⟨⟨h1, h2⟩, h3⟩, h4⟩, h5⟩, h6⟩, h7⟩ := h
  refine ⟨h1, h2, fun y hy hl => ?_, fun y hy hf => ?_, h5, h6, ?_⟩
  · rcases h3 y hy with z | z
    · exact absurd hl z
    · exact z
  · unfold Env.kindOf
    rw [hs]
    rcases h4 y hy with (z | z) | z
    · exact absurd hf z
    · exact .inl z
    · exact .inr z
  · rw [hN]; exact h7

/-! ### a join behind a statement -/
def tCut (t : TS) : TS := fun D σ H => ∃ R : St → Hp → Prop, t { D with nx := R } σ H ∧ ∀ σ' H', R σ' H' → D.nx σ' H'
theorem ps_cut {X : Cx} {st : Stmt} {t : TS} (h : PS X st t) : PS X st (tCut t) := by
  intro pins s σ H D I hw
  obtain ⟨R, h1, h2⟩ := hw
  refine thn (h pins s σ H _ I h1) fun f s' q => ?_
  cases f with
  | next =>
    obtain ⟨σ', H', I', q⟩ := q
    exact ⟨σ', H', I', h2 _ _ q⟩
  | brk => exact q
  | cont => exact q
  | ret u => exact q
/-! ### rules -/
section
variable {X : Cx}
def CDivB (i j : Int) : Prop := 0 < j ∧ j < 2 ^ 100
theorem op_fdivB : OpR X (binaryOp .FloorDiv) (rI CDivB fun i j => .int (i / j)) := opI fun i j _ _ _ _ _ hc q => by
  have h1 : (0 : Int) < j := hc.1
  have h2 : j < 2 ^ 100 := hc.2
  refine floordiv_int (by omega) (by rw [Int.fdiv_eq_ediv_of_nonneg i (by omega)]; exact q) (.inl (PyProof.noPylong_of_log2 ?_))
  have h0 : j.natAbs ≠ 0 := by omega
  have h3 : j.natAbs.log2 < 100 := (Nat.log2_lt h0).mpr (by omega)
  omega
/-- a written power -/
theorem pe_powC {a b c : Int} {j1 j2 : Nat} {p1 p2 pos : Pos} (h : a ^ b.toNat = c) (h1 : CPow a b) : PE X (.BinOp (.Constant (.int a) j1 p1) .Pow (.Constant (.int b) j2 p2) pos) (tC (.int c)) := by
  intro pins s σ H Q I q
  subst h
  exact pe_op op_pow pe_int pe_int pins s σ H Q I ⟨a, b, rfl, rfl, h1, q⟩
/-- xs[i] by values -/
theorem get_list : PGet X (rIxL X.K) := by
  intro pins s σ H x y v u Q I rx ry h
  obtain ⟨p, xs, i, z, rfl, rfl, hq, he, q⟩ := h
  cases rx
  obtain ⟨t, rfl⟩ := ry
  obtain ⟨its, r, pl, hz⟩ := I.list hq
  obtain ⟨j, h1, h2, h3, h4, h5⟩ := atI_get he
  obtain ⟨w, ew, rw'⟩ := r.get h2
  have hl := r.length
  have hn := line63
  have fin : EP X pins σ Q w s := ⟨z, H, I, rw', q⟩
  by_cases h0 : 0 ≤ i
  · have hj : i.toNat = j := by
      rw [seqIndex_of h0 h5] at h1
      exact Option.some.inj h1
    exact wpAny_getItem_list pl.isList h0 (by omega) (by rw [hj]; simpa using ew) fin
  · have hj : (i + (its.toArray.size : Int)).toNat = j := by
      rw [seqIndex_neg (by omega) h4] at h1
      rw [List.size_toArray, ← hl]
      exact Option.some.inj h1
    exact wpAny_getItem_list_neg pl.isList (by omega) (by rw [List.size_toArray] <;> omega) (by omega) (by rw [hj]; simpa using ew) fin
/-- n.bit_length() -/
def rBitLen : V → List V → Hp → VK → Prop := fun x vs H Q => ∃ i, x = .int i ∧ vs = [] ∧ Q (.int (Builtin.Int.intBits i : Nat)) H
theorem mt_bitlen : MtR X "int.bit_length" rBitLen := by
  intro pins s σ H x xs v us Q I rx rs h
  obtain ⟨i, rfl, rfl, q⟩ := h
  obtain ⟨t, rfl⟩ := rx
  cases rs
  exact call_int_bit_length ⟨.int _, H, I.tok _, ⟨_, rfl⟩, q⟩
/-- len, abs, max, min by names of their own -/
def rLenL (K : PySem.W.Frag) : List V → Hp → VK → Prop := fun xs H Q => ∃ p ys, xs = [.ref p] ∧ (SqL K H p ys ∨ SqT K H p ys) ∧ Q (.int ys.length) H
theorem call_lenL : CallR X (.builtin "len") (rLenL X.K) := call_len_seq
def rAbs1 : List V → Hp → VK → Prop := fun xs H Q => ∃ i, xs = [.int i] ∧ Q (.int (if i < 0 then -i else i)) H
theorem call_abs1 : CallR X (.builtin "abs") rAbs1 := call_abs
def rMaxI : List V → Hp → VK → Prop := fun xs H Q => ∃ i j, xs = [.int i, .int j] ∧ Q (.int (if j > i then j else i)) H
theorem call_maxI (hc : X.calm = true) : CallR X (.builtin "max") rMaxI := call_max2 hc
def rMinI : List V → Hp → VK → Prop := fun xs H Q => ∃ i j, xs = [.int i, .int j] ∧ Q (.int (if j < i then j else i)) H
/-- isinstance(x, T), T a built-in type -/
def rIsi (K : PySem.W.Frag) : List V → Hp → VK → Prop := fun xs H Q => ∃ x t T b, xs = [x, .ty T] ∧ TyOf K H x t ∧ PySem.W.kitOne K t (.type T) = some b ∧ Q (.bl b) H
theorem call_isinst : CallR X (.builtin "isinstance") (rIsi X.K) := by
  intro pins s σ H xs us Q I r h
  obtain ⟨x, t, T, b, rfl, ty, e, q⟩ := h
  obtain ⟨u, w', rfl, r1, r2⟩ := vals2 r
  cases (show w' = Value.type T from r2)
  exact isinst_ok I r1 ty e fun tk => ⟨.bl b, H, I.tok _, rfl, q⟩
end

/-! ### steps of a reading -/
section
variable {σ : St} {H : Hp} {Q : VK} {D : Ends}
theorem rd_var {i : Nat} {v : V} (h : σ[i]? = some (some v)) (q : Q v H) : tVar i σ H Q := ⟨v, h, q⟩
theorem rd_c {v : V} (q : Q v H) : tC v σ H Q := q
theorem rd_op {r : R2} {ta tb : TE} (h : ta σ H fun x H1 => tb σ H1 fun y H2 => r x y H2 Q) : tOp r ta tb σ H Q := h
theorem rd_un {r : V → Hp → VK → Prop} {ta : TE} (h : ta σ H fun x H1 => r x H1 Q) : tUn r ta σ H Q := h
theorem rd_I0 {g : Int → Int → V} {i j : Int} (q : Q (g i j) H) : rI0 g (.int i) (.int j) H Q := ⟨i, j, rfl, rfl, q⟩
theorem rd_I {C : Int → Int → Prop} {g : Int → Int → V} {i j : Int} (c : C i j) (q : Q (g i j) H) : rI C g (.int i) (.int j) H Q := ⟨i, j, rfl, rfl, c, q⟩
theorem rd_U {g : Int → V} {i : Int} (q : Q (g i) H) : rU g (.int i) H Q := ⟨i, rfl, q⟩
theorem dec_int' {i j : Int} : decide (V.int i = V.int j) = decide (i = j) := by
  rw [Bool.eq_iff_iff]; simp
theorem rd_eqI {i j : Int} (q : Q (.bl (decide (i = j))) H) : rEq (.int i) (.int j) H Q := ⟨rfl, by rw [dec_int']; exact q⟩
theorem rd_bl {c : Bool} {P : Bool → Prop} (h : P c) : ∃ k, V.bl c = V.bl k ∧ P k := ⟨c, rfl, h⟩
theorem rd_test {t : TE} {R : Bool → Hp → Prop} (h : t σ H fun x H' => ∃ k, x = .bl k ∧ R k H') : tTest t σ H R := h
theorem rd_tB {t : TE} {R : Bool → Hp → Prop} (h : t σ H fun x H' => ∃ k, x = .bl k ∧ R k H') : tB t σ H R := h
theorem rd_and {t u : TT} {R : Bool → Hp → Prop} (h : t σ H fun c H1 => if c = true then u σ H1 R else R false H1) : tAnd t u σ H R := h
theorem rd_or {t u : TT} {R : Bool → Hp → Prop} (h : t σ H fun c H1 => if c = true then R true H1 else u σ H1 R) : tOr t u σ H R := h
theorem rd_chain {r r' : R2} {ta tb tc : TE} (h : ta σ H fun x H1 => tb σ H1 fun y H2 => r x y H2 fun z H3 => ∃ k, z = .bl k ∧ (if k = true then tc σ H3 fun w' H4 => r' y w' H4 Q else Q (.bl false) H3)) : tChain r r' ta tb tc σ H Q := h
theorem rd_nil {R : List V → Hp → Prop} (h : R [] H) : tNil σ H R := h
theorem rd_cons {ta : TE} {tr : TA} {R : List V → Hp → Prop} (h : ta σ H fun x H1 => tr σ H1 fun xs H2 => R (x :: xs) H2) : tCons ta tr σ H R := h
theorem rd_call {sp : Sp} {dvs : List V} {E : XK} {t : TA} (h : t σ H fun vs H1 => sp (vs ++ dvs) H1 Q E) : tCall sp dvs E t σ H Q := h
theorem rd_cb {r : List V → Hp → VK → Prop} {t : TA} (h : t σ H fun vs H1 => r vs H1 Q) : tCB r t σ H Q := h
theorem rd_lst {t : TA} (h : t σ H fun xs H1 => xs.length ≤ sizeLine ∧ ∀ p, H1 p = none → Q (.ref p) (upd H1 p (.lst xs))) : tLst t σ H Q := h
theorem rd_tup {t : TA} (h : t σ H fun xs H1 => xs.length ≤ sizeLine ∧ ∀ p, H1 p = none → Q (.ref p) (upd H1 p (.tup xs))) : tTup t σ H Q := h
theorem rd_seq {t u : TS} (h : t { D with nx := u D } σ H) : tSeq t u D σ H := h
theorem rd_asg {te : TE} {g : TG} (h : te σ H fun x H1 => g x σ H1 D.nx) : tAsg te g D σ H := h
theorem rd_gname {i : Nat} {v : V} {R : St → Hp → Prop} (h : R (σ.set i (some v)) H) : gName i v σ H R := h
theorem rd_ret {te : TE} (h : te σ H D.rt) : tRet te D σ H := h
theorem rd_next (h : D.nx σ H) : tNext D σ H := h
theorem rd_drop {te : TE} (h : te σ H fun _ H1 => D.nx σ H1) : tDrop te D σ H := h
theorem rd_ifS {c : TT} {t u : TS} (h : c σ H fun b H1 => if b = true then t D σ H1 else u D σ H1) : tIfS c t u D σ H := h
theorem rd_ixL {K : PySem.W.Frag} {p : Addr} {xs : List V} {i : Int} {v : V} (h : SqL K H p xs) (e : atI xs i = some v) (q : Q v H) : rIxL K (.ref p) (.int i) H Q := ⟨p, xs, i, v, rfl, rfl, h, e, q⟩
theorem rd_bm0 {K : PySem.W.Frag} {T : String} {r : V → List V → Hp → VK → Prop} {to : TE} (h : to σ H fun x H1 => tyV K T x H1 ∧ r x [] H1 Q) : tBM0 K T r to σ H Q := h
theorem rd_bm {K : PySem.W.Frag} {T : String} {r : V → List V → Hp → VK → Prop} {to : TE} {t : TA} (h : to σ H fun x H1 => tyV K T x H1 ∧ t σ H1 fun xs H2 => r x xs H2 Q) : tBM K T r to t σ H Q := h
theorem rd_augS {to ti te : TE} {tget : V → V → Hp → VK → Prop} {tip : TIp} {tset : TSet} (h : to σ H fun o H1 => ti σ H1 fun i H2 => tget o i H2 fun x H3 => te σ H3 fun y H4 => tip x y H4 fun z H5 => tset o i z H5 fun H6 => D.nx σ H6) : tAugS to ti te tget tip tset D σ H := h
theorem rd_ip {f : Int → Int → Int} {i j : Int} (q : Q (.int (f i j)) H) : ipI f (.int i) (.int j) H Q := ⟨i, j, rfl, rfl, q⟩
theorem rd_set0 {p : Addr} {a : V} {r : List V} {v : V} {R : Hp → Prop} (h : H p = some (.lst (a :: r))) (q : R (upd H p (.lst (v :: r)))) : rSetL (.ref p) (.int 0) v H R :=
  ⟨p, _, 0, 0, rfl, rfl, h, by unfold ixN; rw [if_pos (by decide), if_pos (by rw [List.length_cons]; omega)]; rfl, q⟩
theorem rd_set1 {p : Addr} {a b : V} {r : List V} {v : V} {R : Hp → Prop} (h : H p = some (.lst (a :: b :: r))) (q : R (upd H p (.lst (a :: v :: r)))) : rSetL (.ref p) (.int 1) v H R :=
  ⟨p, _, 1, 1, rfl, rfl, h, by unfold ixN; rw [if_pos (by decide), if_pos (by rw [List.length_cons, List.length_cons]; omega)]; rfl, q⟩
theorem rd_gsub {to ti : TE} {t : TSet} {v : V} {R : St → Hp → Prop} (h : to σ H fun o H1 => ti σ H1 fun i H2 => t o i v H2 fun H3 => R σ H3) : gSub to ti t v σ H R := h
theorem rd_sl {r : V → Option Int → Option Int → Hp → VK → Prop} {te : TE} {tl th : TO} (h : te σ H fun x H1 => tl σ H1 fun l H2 => th σ H2 fun u H3 => r x l u H3 Q) : tSl r te tl th σ H Q := h
theorem rd_nop {R : Option Int → Hp → Prop} (h : R none H) : tNoPart σ H R := h
theorem rd_part {t : TE} {R : Option Int → Hp → Prop} (h : t σ H fun x H1 => ∃ i, x = .int i ∧ R (some i) H1) : tPart t σ H R := h
theorem rd_int {i : Int} {P : Int → Prop} (h : P i) : ∃ k, V.int i = V.int k ∧ P k := ⟨i, rfl, h⟩
theorem rd_slL {K : PySem.W.Frag} {a : Addr} {xs : List V} {lo hi : Option Int} (h : SqL K H a xs) (q : ∀ p, H p = none → Q (.ref p) (upd H p (.lst (cutV xs lo hi)))) : rSlL K (.ref a) lo hi H Q := ⟨a, xs, rfl, h, q⟩
theorem rd_lenL {K : PySem.W.Frag} {a : Addr} {ys : List V} (h : SqL K H a ys) (q : Q (.int ys.length) H) : rLenL K [.ref a] H Q := ⟨a, ys, rfl, .inl h, q⟩
theorem rd_abs {i : Int} (q : Q (.int (if i < 0 then -i else i)) H) : rAbs1 [.int i] H Q := ⟨i, rfl, q⟩
theorem rd_max {i j : Int} (q : Q (.int (max i j)) H) : rMaxI [.int i, .int j] H Q := ⟨i, j, rfl, by
  have e : (if j > i then j else i) = max i j := by omega
  rw [e]; exact q⟩
theorem rd_isi {K : PySem.W.Frag} {x : V} {t : Value} {T : String} {b : Bool} (h : TyOf K H x t) (e : PySem.W.kitOne K t (.type T) = some b) (q : Q (.bl b) H) : rIsi K [x, .ty T] H Q := ⟨x, t, T, b, rfl, h, e, q⟩
theorem rd_bitlen {i : Int} (q : Q (.int (Builtin.Int.intBits i : Nat)) H) : rBitLen (.int i) [] H Q := ⟨i, rfl, rfl, q⟩
theorem rd_if {c : Prop} [Decidable c] {A B : Prop} (h1 : c → A) (h2 : ¬ c → B) : if decide c = true then A else B := by
  by_cases h : c
  · rw [decide_eq_true h, if_pos rfl]; exact h1 h
  · rw [decide_eq_false h, if_neg Bool.false_ne_true]; exact h2 h
theorem rd_for {wi : TI} {g : TG} {tb : TS} (h : wi σ H fun J H1 => ∃ W : Nat → Nat → St → Hp → Prop, (∃ m, W 0 m σ H1) ∧ ∀ i m σ H, W i m σ H →
  (J.stop i H ∧ D.nx σ H) ∨ (J.go i H ∧ ∃ N : St → Hp → Prop, (∀ σ' H', N σ' H' → ∃ m', m' < m ∧ W (i + 1) m' σ' H') ∧ ∀ x H', J.yld i H x H' → g x σ H' fun σ2 H2 => tb { D with nx := N, ct := N, bk := D.nx } σ2 H2)) : tFor wi g tb D σ H := h
theorem rd_rng1 {ta : TA} {R : It → Hp → Prop} (h : ta σ H fun vs H1 => ∃ j : Int, vs = [.int j] ∧ -(2 ^ 62) ≤ j ∧ j < 2 ^ 62 ∧ R (Itr 0 j.toNat) H1) : iRng1 ta σ H R := h
theorem rd_rng2 {ta : TA} {R : It → Hp → Prop} (h : ta σ H fun vs H1 => ∃ i j : Int, vs = [.int i, .int j] ∧ (-(2 ^ 62) ≤ i ∧ i < 2 ^ 62 ∧ -(2 ^ 62) ≤ j ∧ j < 2 ^ 62) ∧ R (Itr i (j - i).toNat) H1) : iRng2 ta σ H R := h
theorem rd_ilist {K : PySem.W.Frag} {tl : TE} {R : It → Hp → Prop} (h : tl σ H fun x H1 => ∃ a, x = .ref a ∧ (∃ xs, SqL K H1 a xs) ∧ R (Itl K a) H1) : iList K tl σ H R := h
theorem rd_comp {vs : List Str} {js : List Nat} {wi : TI} {g : TG} {tt : TT} {te : TE} (h : wi σ H fun J H1 => ∀ D, H1 D = none → CompW J vs js σ g tt te Q D H1) : tComp vs js wi g tt te σ H Q := h
theorem rd_yes {R : Bool → Hp → Prop} (h : R true H) : tYes σ H R := h
theorem rd_iteT {A B : Prop} (h : A) : if true = true then A else B := iteT h
theorem rd_iteF {A B : Prop} (h : B) : if false = true then A else B := iteF h
theorem rd_iteNT {A B : Prop} (h : B) : if (!true) = true then A else B := iteF h
theorem cut_lo {ms : List Int} {k : Nat} : cutV (ms.map V.int) (some (k : Int)) none = (ms.drop k).map V.int := by
  unfold cutV
  rw [HT.sIx_nat, HT.sIx_none, List.length_map, ← List.map_drop]
  by_cases h : k ≤ ms.length
  · rw [Nat.min_eq_left h, List.take_of_length_le (by rw [List.length_map, List.length_drop]; omega)]
  · rw [List.drop_eq_nil_of_le (by omega : ms.length ≤ min k ms.length), List.drop_eq_nil_of_le (by omega : ms.length ≤ k)]
    simp
theorem cut_hi {ms : List Int} {k : Nat} : cutV (ms.map V.int) none (some (k : Int)) = (ms.take k).map V.int := by
  unfold cutV
  rw [HT.sIx_nat, HT.sIx_none, List.length_map, List.drop_zero, Nat.sub_zero, ← List.map_take]
  by_cases h : k ≤ ms.length
  · rw [Nat.min_eq_left h]
  · rw [Nat.min_eq_right (by omega), List.take_of_length_le (Nat.le_refl _), List.take_of_length_le (by omega)]
theorem same_new {H : Hp} {p : Addr} (h : H p = none) (o : HO) : Same H (upd H p o) := fun b u q => by rw [upd_ne (ne_of_none q h)]; exact q
end
end L2


/-! Data that are read through the heap, and == of them. -/
namespace L2
open PySem PySem.Spec PyProof.Rows
mutual
inductive DV (K : PySem.W.Frag) (H : Hp) : V → PyData → Prop
  | non : DV K H .non .none
  | bl (b : Bool) : DV K H (.bl b) (.bool b)
  | int (i : Int) : DV K H (.int i) (.int i)
  | str (x : Str) : DV K H (.str x) (.str x)
  | lst {a : Addr} {xs : List V} {ds : List PyData} : SqL K H a xs → DVs K H xs ds → DV K H (.ref a) (.list ds)
  | tup {a : Addr} {xs : List V} {ds : List PyData} : SqT K H a xs → DVs K H xs ds → DV K H (.ref a) (.tuple ds)
inductive DVs (K : PySem.W.Frag) (H : Hp) : List V → List PyData → Prop
  | nil : DVs K H [] []
  | cons {x : V} {d : PyData} {xs : List V} {ds : List PyData} : DV K H x d → DVs K H xs ds → DVs K H (x :: xs) (d :: ds)
end
section
variable {X : Cx} {pins : List (Addr × Obj)} {σ : St} {H : Hp} {s : Shared}
mutual
theorem DV.reads (I : Inv X pins σ H s) : ∀ {x : V} {d : PyData} {v : Value}, DV X.K H x d → RelV x v → ∃ as, Reads s.heap v d as
  | _, _, _, .non, r => by cases r; exact ⟨_, .none⟩
  | _, _, _, .bl b, r => by cases r; exact ⟨_, .bool b⟩
  | _, _, _, .int i, r => by obtain ⟨t, rfl⟩ := r; exact ⟨_, .int i t⟩
  | _, _, _, .str x, r => by obtain ⟨t, rfl⟩ := r; exact ⟨_, .str x t⟩
  | _, _, _, .lst (a := a) h ds, r => by
    cases r
    obtain ⟨its, rv, ⟨o, n, e, c, _, d⟩, _⟩ := I.list h
    obtain ⟨as, q⟩ := DVs.reads I ds rv
    exact ⟨_, .list e c d (by simpa using q)⟩
  | _, _, _, .tup (a := a) h ds, r => by
    cases r
    obtain ⟨its, rv, ⟨o, e, c, n, d⟩, _⟩ := I.tuple h
    obtain ⟨as, q⟩ := DVs.reads I ds rv
    exact ⟨_, .tuple e c d (by simpa using q)⟩
theorem DVs.reads (I : Inv X pins σ H s) : ∀ {xs : List V} {ds : List PyData} {vs : List Value}, DVs X.K H xs ds → Vals xs vs → ∃ as, ReadsAll s.heap vs ds as
  | _, _, _, .nil, r => by cases r; exact ⟨_, .nil⟩
  | _, _, _, .cons h t, r => by
    cases r with
    | cons r1 r2 =>
      obtain ⟨as, q⟩ := DV.reads I h r1
      obtain ⟨bs, p⟩ := DVs.reads I t r2
      exact ⟨_, .cons q p⟩
end
end
theorem DVs.ints {K : PySem.W.Frag} {H : Hp} : ∀ ns : List Int, DVs K H (ns.map V.int) (ns.map PyData.int)
  | [] => .nil
  | n :: r => .cons (.int n) (DVs.ints r)
theorem lay_ints : ∀ ns : List Int, PyData.canLayAll0 (ns.map PyData.int) = true ∧ PyData.depthAll (ns.map PyData.int) = 0
  | [] => ⟨rfl, rfl⟩
  | n :: r => by
    obtain ⟨h1, h2⟩ := lay_ints r
    simp [PyData.canLayAll0, PyData.canLay0, PyData.depthAll, PyData.depth, h1, h2]
theorem shaped_ints (ns : List Int) : SeqAt.shaped (.list (ns.map PyData.int)) = true := by
  obtain ⟨h1, h2⟩ := lay_ints ns
  simp [SeqAt.shaped, PyData.canLay0, PyData.depth, h1, h2]
theorem eqv_ints : ∀ ns ms : List Int, PyData.eqvAll (ns.map PyData.int) (ms.map PyData.int) = decide (ns = ms)
  | [], [] => rfl
  | [], _ :: _ => rfl
  | _ :: _, [] => rfl
  | n :: ns, m :: ms => by
    rw [List.map_cons, List.map_cons, PyData.eqvAll, PyData.eqv, eqv_ints ns ms, Bool.eq_iff_iff]
    simp
section
variable {X : Cx}
def rEqD (K : PySem.W.Frag) : R2 := fun x y H Q => ∃ d e, DV K H x d ∧ DV K H y e ∧ SeqAt.shaped d = true ∧ SeqAt.shaped e = true ∧ Q (.bl (PyData.eqv d e)) H
def rNeD (K : PySem.W.Frag) : R2 := fun x y H Q => ∃ d e, DV K H x d ∧ DV K H y e ∧ SeqAt.shaped d = true ∧ SeqAt.shaped e = true ∧ Q (.bl (!PyData.eqv d e)) H
theorem op_eqD (hu : X.A.units + 64 < cLine) : OpR X (compareOp .Eq) (rEqD X.K) := by
  intro pins s σ H x y v u Q I rx ry h
  obtain ⟨d, e, h1, h2, h3, h4, q⟩ := h
  obtain ⟨as, r1⟩ := h1.reads I rx
  obtain ⟨bs, r2⟩ := h2.reads I ry
  exact eq_dataH r1 r2 h3 h4 hu ⟨.bl _, H, I, rfl, q⟩
theorem op_neD (hu : X.A.units + 64 < cLine) : OpR X (compareOp .NotEq) (rNeD X.K) := by
  intro pins s σ H x y v u Q I rx ry h
  obtain ⟨d, e, h1, h2, h3, h4, q⟩ := h
  obtain ⟨as, r1⟩ := h1.reads I rx
  obtain ⟨bs, r2⟩ := h2.reads I ry
  exact ne_dataH r1 r2 h3 h4 hu ⟨.bl _, H, I, rfl, q⟩
end
end L2

/-! sum, all, any of lists; module ints; tuples walked. -/
namespace L2
open PySem PySem.Spec PyProof.Rows
section
variable {X : Cx}
def rSumL (K : PySem.W.Frag) : List V → Hp → VK → Prop := fun xs H Q => ∃ a ns, xs = [.ref a] ∧ SqL K H a (List.map V.int ns) ∧ Q (.int (List.sum ns)) H
def rAllL (K : PySem.W.Frag) : List V → Hp → VK → Prop := fun xs H Q => ∃ a bs, xs = [.ref a] ∧ SqL K H a (List.map V.bl bs) ∧ Q (.bl (bs.all id)) H
def rAnyL (K : PySem.W.Frag) : List V → Hp → VK → Prop := fun xs H Q => ∃ a bs, xs = [.ref a] ∧ SqL K H a (List.map V.bl bs) ∧ Q (.bl (bs.any id)) H
end
/-! ### the same rules with the written part named: within a block -/
section
variable {X : Cx} {K : PySem.W.Frag}
theorem call_lenLK (h : X.K = K) : CallR X (.builtin "len") (rLenL K) := by subst h; exact call_lenL
theorem ix_listK (h : X.K = K) : IxR X (rIxL K) := by subst h; exact ix_list
theorem ix_tupK (h : X.K = K) : IxR X (rIxT K) := by subst h; exact ix_tup
theorem sl_listK (h : X.K = K) : SlR X (rSlL K) := by subst h; exact sl_list
end
section
variable {σ : St} {H : Hp} {Q : VK} {D : Ends}
theorem rd_ixT {K : PySem.W.Frag} {p : Addr} {xs : List V} {i : Int} {v : V} (h : SqT K H p xs) (e : atI xs i = some v) (q : Q v H) : rIxT K (.ref p) (.int i) H Q := ⟨p, xs, i, v, rfl, rfl, h, e, q⟩
end
end L2

namespace L2
open PySem PySem.Spec PyProof.Rows

/-! ### lists of pairs as tables -/
section
variable {κ : Type} [DecidableEq κ]
def valV (kvs : List (κ × V)) (k : κ) : Option V := (kvs.find? fun kv => decide (kv.1 = k)).map (·.2)
/-- in its place, or at the end -/
def putK (kvs : List (κ × V)) (k : κ) (v : V) : List (κ × V) :=
  if (kvs.any fun kv => decide (kv.1 = k)) = true then kvs.map (fun kv => if kv.1 = k then (kv.1, v) else kv) else kvs ++ [(k, v)]
def dropK (kvs : List (κ × V)) (k : κ) : List (κ × V) := kvs.filter fun kv => decide (kv.1 ≠ k)

end


/-! ### a tracked dict, its keys ints and texts or tuples of these -/
/-- raw entries of a dict with tuple keys -/
abbrev KT (H : Hp) : List (List Key × V) → List (List Key × Addr × Value) → Prop := Paired fun p q => p.1 = q.1 ∧ H q.2.1 = some (.tup (p.1.map kV)) ∧ RelV p.2 q.2.2
section
variable {P : Program} {w : World} {H : Hp} {h : Heap} {a : Addr}
end

/-- what the dict at a holds at the key y -/
def DGet (H : Hp) (a : Addr) (y : V) (r : Option V) : Prop :=
  (∃ kvs k, Rd H a (.dK kvs) ∧ y = kV k ∧ r = valV kvs k) ∨ ∃ kvs k b, Rd H a (.dT kvs) ∧ y = .ref b ∧ H b = some (.tup (k.map kV)) ∧ r = valV kvs k
/-- the heap behind a[y] = v -/
def DPut (H : Hp) (a : Addr) (y v : V) (H' : Hp) : Prop :=
  (∃ kvs k, H a = some (.dK kvs) ∧ y = kV k ∧ kvs.length < sizeLine ∧ H' = upd H a (.dK (putK kvs k v))) ∨
  ∃ kvs k b, H a = some (.dT kvs) ∧ y = .ref b ∧ H b = some (.tup (k.map kV)) ∧ kvs.length < sizeLine ∧ H' = upd H a (.dT (putK kvs k v))
section
variable {X : Cx} {pins : List (Addr × Obj)} {σ : St} {H : Hp} {s : Shared} {a : Addr} {y v : V} {u r : Value} {o : Option V} {A : Around} {E : Value → Shared → Prop}

end

section
variable {X : Cx} {pins : List (Addr × Obj)} {σ : St} {H : Hp} {s : Shared} {a : Addr} {kvs : List (Key × V)} {k : Key} {u : Value} {A : Around} {E : Value → Shared → Prop}
end


/-! ### readings and rules -/
/-- the element of a subscription, not a slice -/
def NoSl (i : Expr) : Prop := ∀ ov iv, subscripted i false ov iv = operate [ov, iv] (getItem ov iv)
/-- d[y] -/
def tDGet (td ty : TE) : TE := fun σ H Q => td σ H fun x H1 => ty σ H1 fun y H2 => ∃ a v, x = .ref a ∧ DGet H2 a y (some v) ∧ Q v H2
/-- y in d, y not in d -/
def tDIn (ty td : TE) : TE := fun σ H Q => ty σ H fun y H1 => td σ H1 fun x H2 => ∃ a o, x = .ref a ∧ DGet H2 a y o ∧ Q (.bl o.isSome) H2
def tDNotIn (ty td : TE) : TE := fun σ H Q => ty σ H fun y H1 => td σ H1 fun x H2 => ∃ a o, x = .ref a ∧ DGet H2 a y o ∧ Q (.bl (!o.isSome)) H2
/-- d[y] = v -/
def sDPut (td ty tv : TE) : TS := fun D σ H => tv σ H fun v H1 => td σ H1 fun x H2 => ty σ H2 fun y H3 => ∃ a H4, x = .ref a ∧ DPut H3 a y v H4 ∧ D.nx σ H4
/-- d[y] op= v -/
def sDAug (td ty tv : TE) (rd : V → V → Hp → VK → Prop) : TS := fun D σ H => td σ H fun x H1 => ty σ H1 fun y H2 => ∃ a v, x = .ref a ∧ DGet H2 a y (some v) ∧
  tv σ H2 fun y2 H3 => rd v y2 H3 fun z H4 => ∃ H5, DPut H4 a y z H5 ∧ D.nx σ H5
/-- del d[y] -/
def sDDel (td ty : TE) : TS := fun D σ H => td σ H fun x H1 => ty σ H1 fun y H2 => ∃ a kvs k, x = .ref a ∧ H2 a = some (.dK kvs) ∧ y = kV k ∧ (valV kvs k).isSome = true ∧ D.nx σ (upd H2 a (.dK (dropK kvs k)))

section
variable {X : Cx} {o i e value : Expr} {pos pos' tpos : Pos} {td ty tv : TE}
end


/-! ### displays -/
/-- {}, to be a dict of the kind that is wanted -/
def tDNewK : TE := fun _ H Q => ∀ p, H p = none → Q (.ref p) (upd H p (.dK []))
def tDNewT : TE := fun _ H Q => ∀ p, H p = none → Q (.ref p) (upd H p (.dT []))
section
variable {X : Cx} {pos : Pos}
end

/-- the pairs of a display, from the left -/
def tPairs : List (TE × TE) → St → Hp → (List (V × V) → Hp → Prop) → Prop
  | [], _, H, Q => Q [] H
  | (tk, tv) :: r, σ, H, Q => tk σ H fun x H1 => tv σ H1 fun y H2 => tPairs r σ H2 fun ps H3 => Q ((x, y) :: ps) H3
abbrev VV : List (V × V) → List (Value × Value) → Prop := Paired fun p q => RelV p.1 q.1 ∧ RelV p.2 q.2
def PPs (X : Cx) (pos : Pos) (keys : List (Option Expr)) (values : List Expr) (trs : List (TE × TE)) : Prop :=
  ∀ (pins : List (Addr × Obj)) (s : Shared) (σ : St) (H : Hp) (Q : List (V × V) → Hp → Prop), Inv X pins σ H s → tPairs trs σ H Q →
    wpAny (model X.prog X.w) X.A (evalPairs (pairTrees keys values X.env pos)) (fun vs s' => ∃ ps H', Inv X pins σ H' s' ∧ VV ps vs ∧ Q ps H') X.xe s
def mergeK (kvs more : List (Key × V)) : List (Key × V) := more.foldl (fun acc kv => putK acc kv.1 kv.2) kvs
/-- {k: v, ..} with keys ints and texts; the new dict stands empty while the pairs are made -/
def tDisp (trs : List (TE × TE)) : TE := fun σ H Q => ∀ p, H p = none → tPairs trs σ (upd H p (.dK [])) fun ps H2 => H2 p = some (.dK []) ∧ ∃ kvs : List (Key × V), ps = kvs.map (fun kv => (kV kv.1, kv.2)) ∧ kvs.length ≤ 15 ∧ Q (.ref p) (upd H2 p (.dK (mergeK [] kvs)))
/-! ### methods -/
/-- a method call o.m(e) of a built-in, with one argument: what must be seen of the text -/
structure M1 (X : Cx) (o : Expr) (m : Str) (apos : Pos) (e : Expr) (cpos : Pos) : Prop where
  base : attributeBase o m X.env (eval o X.env) = eval o X.env
  few : ((backTo cpos (starEach [e] X.env)).all (fun x => !x.1) && (backToKw cpos (keywordEach [] X.env)).all (fun x => x.1.isSome)
    && decide (([e] : List Expr).length + ([] : List Keyword).length + (if ([] : List Keyword).isEmpty then 0 else 1) < 30)) = true
  line : (apos.endLine == cpos.line) = true
  trees : backTo cpos (starEach [e] X.env) = [(false, eval e X.env)]
structure M2 (X : Cx) (o : Expr) (m : Str) (apos : Pos) (e f : Expr) (cpos : Pos) : Prop where
  base : attributeBase o m X.env (eval o X.env) = eval o X.env
  few : ((backTo cpos (starEach [e, f] X.env)).all (fun x => !x.1) && (backToKw cpos (keywordEach [] X.env)).all (fun x => x.1.isSome)
    && decide (([e, f] : List Expr).length + ([] : List Keyword).length + (if ([] : List Keyword).isEmpty then 0 else 1) < 30)) = true
  line : (apos.endLine == cpos.line) = true
  trees : backTo cpos (starEach [e, f] X.env) = [(false, eval e X.env), (false, eval f X.env)]

/-- a is a dict, whatever its keys -/
def IsD (H : Hp) (a : Addr) : Prop := (∃ kvs, Rd H a (.dK kvs)) ∨ ∃ kvs, Rd H a (.dT kvs)
section
variable {X : Cx} {pins : List (Addr × Obj)} {σ : St} {H : Hp} {s : Shared} {a : Addr} {y d : V} {u r : Value} {o : Option V} {A : Around} {E : Value → Shared → Prop}
end

def tDGet1 (td ty : TE) : TE := fun σ H Q => td σ H fun x H1 => ∃ a, x = .ref a ∧ IsD H1 a ∧ ty σ H1 fun y H2 => ∃ o, DGet H2 a y o ∧ Q (o.getD .non) H2
def tDGet2 (td ty tx : TE) : TE := fun σ H Q => td σ H fun x H1 => ∃ a, x = .ref a ∧ IsD H1 a ∧ ty σ H1 fun y H2 => tx σ H2 fun z H3 => ∃ o, DGet H3 a y o ∧ Q (o.getD z) H3
/-- d.pop(k): there; d.pop(k, x): there or not -/
def tDPop1 (td ty : TE) : TE := fun σ H Q => td σ H fun x H1 => ∃ a, x = .ref a ∧ IsD H1 a ∧ ty σ H1 fun y H2 => ∃ kvs k v, H2 a = some (.dK kvs) ∧ y = kV k ∧ valV kvs k = some v ∧ Q v (upd H2 a (.dK (dropK kvs k)))
def tDPop2 (td ty tx : TE) : TE := fun σ H Q => td σ H fun x H1 => ∃ a, x = .ref a ∧ IsD H1 a ∧ ty σ H1 fun y H2 => tx σ H2 fun z H3 => ∃ kvs k, H3 a = some (.dK kvs) ∧ y = kV k ∧
  (∀ v, valV kvs k = some v → Q v (upd H3 a (.dK (dropK kvs k)))) ∧ (valV kvs k = none → Q z H3)
section
variable {X : Cx} {o e f : Expr} {apos cpos : Pos} {td ty tx : TE}
end

/-! ### dict(d): a copy -/
section
variable {X : Cx} {pins : List (Addr × Obj)} {σ : St} {H : Hp} {s : Shared} {a : Addr} {kvs : List (Key × V)} {A : Around} {E : Value → Shared → Prop}
end


section
variable {X : Cx} {pins : List (Addr × Obj)} {σ : St} {H : Hp} {s : Shared} {a : Addr} {y : V} {u : Value} {A : Around} {E : Value → Shared → Prop}
end
end L2


/-! Texts: compared, cut, joined, walked sign by sign. -/
namespace L2
open PySem PySem.Spec PyProof.Rows
section
variable {X : Cx}
def rLeS : R2 := fun x y H Q => ∃ i j, x = .str i ∧ y = .str j ∧ Q (.bl (!decide (j.cps.toList < i.cps.toList))) H
def rLenS : List V → Hp → VK → Prop := fun xs H Q => ∃ z, xs = [.str z] ∧ z.length ≤ sizeLine ∧ Q (.int z.length) H
def rInS : R2 := fun x y H Q => ∃ i j, x = .str i ∧ y = .str j ∧ Q (.bl (!(Builtin.Str.occurrences j i 0 j.length 1).isEmpty)) H
def rCatS : R2 := fun x y H Q => ∃ i j, x = .str i ∧ y = .str j ∧ i.length + j.length ≤ sizeLine ∧ Q (.str (i ++ j)) H
/-- sep.join(xs) -/
def rJoin (K : PySem.W.Frag) : V → List V → Hp → VK → Prop := fun x vs H Q => ∃ z a ys, x = .str z ∧ vs = [.ref a] ∧ SqL K H a (List.map V.str ys) ∧ (ys.map (·.length)).sum + ys.length * z.length ≤ 16777216 ∧ Q (.str (Txt.join z ys)) H
/-- t[lo:hi] -/
def rSlS : V → Option Int → Option Int → Hp → VK → Prop := fun x lo hi H Q => ∃ z, x = .str z ∧ z.length ≤ sizeLine ∧ Q (.str (Txt.slice z lo hi)) H
end
/-- a text's signs -/
def Its (x : Str) : It := ⟨fun i _ => i < x.cps.size, fun i H v H' => H' = H ∧ ∃ c, x.cps[i]? = some c ∧ v = .str ⟨#[c]⟩, fun i _ => x.cps.size ≤ i⟩
section
variable {X : Cx} {tg : Expr}
def iStr (tl : TE) : TI := fun σ H R => tl σ H fun x H1 => ∃ z, x = .str z ∧ R (Its z) H1
end
section
variable {σ : St} {H : Hp} {Q : VK} {D : Ends}
end
end L2

namespace L2
open PySem PySem.Spec PyProof.Rows
section
variable {es : List Expr} {env : Env}
theorem stx_Constant {c j p} : starEach (.Constant c j p :: es) env = (false, eval (.Constant c j p) env) :: starEach es env := rfl
theorem stx_Name {x p} : starEach (.Name x p :: es) env = (false, eval (.Name x p) env) :: starEach es env := rfl
theorem stx_BinOp {a o b p} : starEach (.BinOp a o b p :: es) env = (false, eval (.BinOp a o b p) env) :: starEach es env := rfl
theorem stx_Compare {a o b p} : starEach (.Compare a o b p :: es) env = (false, eval (.Compare a o b p) env) :: starEach es env := rfl
theorem stx_Call {a o b p} : starEach (.Call a o b p :: es) env = (false, eval (.Call a o b p) env) :: starEach es env := rfl
theorem stx_Subscript {a o p} : starEach (.Subscript a o p :: es) env = (false, eval (.Subscript a o p) env) :: starEach es env := rfl
theorem stx_Tuple {a k p} : starEach (.Tuple a k p :: es) env = (false, eval (.Tuple a k p) env) :: starEach es env := rfl
theorem stx_ListComp {a b c p} : starEach (.ListComp a b c p :: es) env = (false, eval (.ListComp a b c p) env) :: starEach es env := rfl
end
end L2

namespace L2
open PySem PySem.Spec PyProof.Rows
section
variable {X : Cx}
/-- range(j) as a thing -/
def rRng1 : List V → Hp → VK → Prop := fun xs H Q => ∃ j, xs = [.int j] ∧ ∀ r, H r = none → Q (.ref r) (upd H r (.rng 0 j))
def upN (n : Nat) : List Int := (List.range n).map fun (i : Nat) => (i : Int)
/-- list(range(j)) -/
def rListR : List V → Hp → VK → Prop := fun xs H Q => ∃ r j, xs = [.ref r] ∧ H r = some (.rng 0 j) ∧ 0 ≤ j ∧ j ≤ 100000 ∧ ∀ l, H l = none → Q (.ref l) (upd H l (.lst ((upN j.toNat).map V.int)))
end
end L2

namespace L2
open PySem PySem.Spec PyProof.Rows
section
variable {X : Cx}
/-- xs.index(k) of a list of ints that has it -/
def rIndexI (K : PySem.W.Frag) : V → List V → Hp → VK → Prop := fun x vs H Q => ∃ a ns k, x = .ref a ∧ vs = [.int k] ∧ SqL K H a (List.map V.int ns) ∧ k ∈ ns ∧ Q (.int (ns.idxOf k : Nat)) H
theorem mt_indexI : MtR X "list.index" (rIndexI X.K) := by
  intro pins s σ H x xs v us Q I rx rs h
  obtain ⟨a, ns, k, rfl, rfl, hq, hk, q⟩ := h
  cases rx
  obtain ⟨u, rfl, ru⟩ := vals1 rs
  obtain ⟨t, rfl⟩ := ru
  obtain ⟨its, rv, pl, hz⟩ := I.list hq
  have hi : IntsAre its ns := intsAre_of rv
  have hlen := hi.length
  have hlt : ns.idxOf k < ns.length := List.idxOf_lt_length_iff.mpr hk
  have hline : sizeLine < 2 ^ 62 := by decide
  rw [List.length_map] at hz
  obtain ⟨⟨c1, d1, e1, f1⟩, ho, hc, n, hd⟩ := pl.isList
  simp only at hc hd
  subst hc hd
  have hM := SeqAt.list_indexAt a its.toArray n d1 f1 (.int k t) (isInt k) (ns.idxOf k) (by rw [List.size_toArray, hlen]; exact hlt) (by omega)
    (by
      have e := isInt_at k hi (ns.idxOf k) (by omega) hlt
      have e2 : isInt k its[ns.idxOf k] = true := by rw [e]; simpa using List.getElem_idxOf hlt
      simpa using e2)
    (by
      intro j h1 h2
      have h3 : j < its.length := by simpa using h1
      have e := isInt_at k hi j h3 (by omega)
      have e2 : isInt k its[j] = false := by rw [e]; exact ne_of_lt_idxOf h2 _
      simpa using e2)
  exact call_meets PySem.F.slot_list_index ⟨_, ho, rfl⟩ PySem.F.entry_list_index (PySem.F.args_list_index_2 _ _) hM
    ⟨ho, fun y hy => (eq_isInt k t hi y (by simpa using hy)).at _ _, ⟨.int _, H, I.tok _, ⟨_, rfl⟩, q⟩⟩
/-- max(xs) of a list of ints that has one -/
def rMaxL (K : PySem.W.Frag) : List V → Hp → VK → Prop := fun xs H Q => ∃ a ns, xs = [.ref a] ∧ SqL K H a (List.map V.int ns) ∧ ns ≠ [] ∧ ∀ M, M ∈ ns → (∀ z, z ∈ ns → z ≤ M) → Q (.int M) H
theorem call_maxL (hc : X.calm = true) : CallR X (.builtin "max") (rMaxL X.K) := by
  intro pins s σ H xs us Q I r h
  obtain ⟨a, ns, rfl, hq, hne, q⟩ := h
  obtain ⟨u, rfl, r1⟩ := vals1 r
  cases (show u = Value.ref a from r1)
  obtain ⟨its, rv, pl, hz⟩ := I.list hq
  have hi : IntsAre its ns := intsAre_of rv
  obtain ⟨zs, hx⟩ := hi.allInts.items
  have e1 : numsOf its = ns := hi.numsOf
  have e2 : numsOf its = zs.toList.map (·.1) := by
    have := nums_intItems zs
    rw [← hx] at this
    simpa using this
  have hns : ns = zs.toList.map (·.1) := e1.symm.trans e2
  have hl : s.heap.IsList a (intItems zs) := by rw [← hx]; exact pl.isList
  have hpos : 0 < zs.size := by
    have := List.length_pos_iff.mpr hne
    rw [hns, List.length_map, Array.length_toList] at this
    exact this
  refine max_intList (I.ok.hd hc) hl hpos fun v h' tk hv hk => ?_
  obtain ⟨t, rfl⟩ := intItems_at hv
  obtain ⟨b1, b2⟩ := argBest_gt (numAt zs) (zs.size - 1)
  refine ⟨.int _, H, I.kept hk, ⟨t, rfl⟩, q _ ?_ fun z hz => ?_⟩
  · rw [hns, numAt_eq]
    exact getD_mem (by rw [List.length_map, Array.length_toList]; omega)
  · rw [hns] at hz
    obtain ⟨j, hj, rfl⟩ := mem_getD hz
    rw [List.length_map, Array.length_toList] at hj
    rw [← numAt_eq]
    exact b2 j (by omega)
/-- xs[::-1] -/
def rRevL (K : PySem.W.Frag) : V → Hp → VK → Prop := fun x H Q => ∃ a xs, x = .ref a ∧ SqL K H a xs ∧ ∀ p, H p = none → Q (.ref p) (upd H p (.lst xs.reverse))
def tRev (K : PySem.W.Frag) (te : TE) : TE := fun σ H Q => te σ H fun x H1 => rRevL K x H1 Q
/-- int(truth) -/
def rIntB : List V → Hp → VK → Prop := fun xs H Q => ∃ k, xs = [.bl k] ∧ Q (.int (if k then 1 else 0)) H
end
section
variable {K : PySem.W.Frag} {H : Hp} {Q : VK} {σ : St}
theorem rd_maxL {a : Addr} {ns : List Int} (h : SqL K H a (ns.map V.int)) (n : ns ≠ []) (q : ∀ M, M ∈ ns → (∀ z, z ∈ ns → z ≤ M) → Q (.int M) H) : rMaxL K [.ref a] H Q := ⟨a, ns, rfl, h, n, q⟩
theorem rd_indexI {a : Addr} {ns : List Int} {k : Int} (h : SqL K H a (ns.map V.int)) (n : k ∈ ns) (q : Q (.int (ns.idxOf k : Nat)) H) : rIndexI K (.ref a) [.int k] H Q := ⟨a, ns, k, rfl, rfl, h, n, q⟩
theorem flat_ints : ∀ ns : List Int, (ns.map V.int).all flatV = true
  | [] => rfl
  | n :: r => by rw [List.map_cons, List.all_cons, flat_ints r]; rfl
theorem inV_ints (k : Int) : ∀ ns : List Int, inV (.int k) (ns.map V.int) = decide (k ∈ ns)
  | [] => by simp [inV]
  | n :: r => by
    have ih := inV_ints k r
    unfold inV at ih ⊢
    rw [List.map_cons, List.any_cons, ih]
    have e : eqV (V.int n) (V.int k) = decide (k = n) := by
      by_cases h : k = n
      · subst h; simp [eqV]
      · rw [decide_eq_false h]
        have h2 : ¬ n = k := fun z => h z.symm
        simp [eqV, h2]
    rw [e]
    simp [List.mem_cons]
theorem rd_inI {a : Addr} {ns : List Int} {k : Int} (h : SqL K H a (ns.map V.int)) (q : Q (.bl (decide (k ∈ ns))) H) : rIn K false (.int k) (.ref a) H Q :=
  ⟨a, _, rfl, .inl h, rfl, flat_ints ns, by rw [inV_ints]; exact q⟩
end
end L2

/-! enumerate in loops with a tuple of two names; min of a list -/
namespace L2
open PySem PySem.Spec PyProof.Rows
section
variable {X : Cx} {pins : List (Addr × Obj)} {σ : St} {H : Hp} {s : Shared} {h' : Heap}
end
/-- the places and items of the list at a -/
def Ite (K : PySem.W.Frag) (a : Addr) : It :=
  ⟨fun i H => ∃ xs x, SqL K H a xs ∧ xs[i]? = some x, fun i H x H' => ∃ t y, H t = none ∧ H' = upd H t (.tup [.int i, y]) ∧ x = .ref t ∧ ∀ xs, SqL K H a xs → xs[i]? = some y, fun i H => ∃ xs, SqL K H a xs ∧ xs.length ≤ i⟩
section
variable {X : Cx} {elts : List Expr} {x1 : _} {tpos : Pos}
def iEnum (K : PySem.W.Frag) (ta : TA) : TI := fun σ H R => ta σ H fun vs H1 => ∃ a, vs = [.ref a] ∧ (∃ xs, SqL K H1 a xs) ∧ R (Ite K a) H1
/-- min(xs) of a list of ints that has one -/
def rMinL (K : PySem.W.Frag) : List V → Hp → VK → Prop := fun xs H Q => ∃ a ns, xs = [.ref a] ∧ SqL K H a (List.map V.int ns) ∧ ns ≠ [] ∧ ∀ M, M ∈ ns → (∀ z, z ∈ ns → M ≤ z) → Q (.int M) H
end
section
variable {K : PySem.W.Frag} {H : Hp} {Q : VK} {σ : St}
end
end L2

namespace L2
open PySem PySem.Spec PyProof.Rows
section
variable {X : Cx} {K : PySem.W.Frag} {tg : Expr}
end
end L2

/-! sorted of any number of items: galloping, merging, runs -/
namespace L2
open PySem PySem.Spec PyProof.Rows
def galS : Bool → Keyed → Array Keyed → Nat → Nat → Nat → StateT SortSt Sem (Option Nat) := sortPriv% PySem.Builtin.gallop
def bydS (lf : Bool) (ky : Keyed) (ar : Array Keyed) (bs j : Nat) : StateT SortSt Sem (Option Bool) := do
  let z ← elem' ar (bs + j)
  if lf then lt' z ky else return (← lt' ky z).map (!·)
theorem galS_eq (lf : Bool) (ky : Keyed) (ar : Array Keyed) (bs nn ht : Nat) : galS lf ky ar bs nn ht = (do
  let mut la := 0
  let mut of := 1
  let mut lx := 0
  let mut hx := 0
  let some rt ← bydS lf ky ar bs ht | return none
  if rt then
    let mx := nn - ht
    for _ in [0:nn] do
      if of ≥ mx then break
      let some mo ← bydS lf ky ar bs (ht + of) | return none
      if !mo then break
      la := of
      of := 2 * of + 1
    lx := ht + la + 1
    hx := ht + min of mx
  else
    let mx := ht + 1
    for _ in [0:nn] do
      if of ≥ mx then break
      let some fo ← bydS lf ky ar bs (ht - of) | return none
      if fo then break
      la := of
      of := 2 * of + 1
    lx := ht + 1 - min of mx
    hx := ht - la
  for _ in [0:nn] do
    if lx ≥ hx then break
    let mi := lx + (hx - lx) / 2
    let some mo ← bydS lf ky ar bs mi | return none
    if mo then lx := mi + 1 else hx := mi
  return some hx) := rfl
section
variable {prog : Program} {w : World} {A : Around} {E : Value → Shared → Prop} {s : Shared}
/-- the comparison of good things is told by ltb -/
def LtOk (prog : Program) (w : World) (A : Around) (E : Value → Shared → Prop) (s : Shared) (ltb : Keyed → Keyed → Bool) (S : Keyed → Prop) (κ : SortKind) : Prop :=
  ∀ (x y : Keyed) (st : SortSt) (Q : Option Bool → SortSt → Prop), S x → S y → kindOf st = κ → Q (some (ltb x y)) st → wpS (model prog w) A E s (lt' x y) Q st
def Bf (ltb : Keyed → Keyed → Bool) (lf : Bool) (ky x : Keyed) : Bool := if lf then ltb x ky else !ltb ky x
variable {ltb : Keyed → Keyed → Bool} {S : Keyed → Prop} {κ : SortKind}
theorem wpS_elem {ar : Array Keyed} {i : Nat} {x : Keyed} {st : SortSt} {Q : Keyed → SortSt → Prop} (h : ar[i]? = some x) (q : Q x st) : wpS (model prog w) A E s (elem' ar i) Q st := by
  rw [elem'_eq, h]; exact wpS_pure q
theorem wpS_byd {lf : Bool} {ky : Keyed} {ar : Array Keyed} {bs j : Nat} {x : Keyed} {st : SortSt} {Q : Option Bool → SortSt → Prop} (hO : LtOk prog w A E s ltb S κ) (hk : kindOf st = κ) (hky : S ky)
    (hx : ar[bs + j]? = some x) (hS : S x) (q : Q (some (Bf ltb lf ky x)) st) : wpS (model prog w) A E s (bydS lf ky ar bs j) Q st := by
  unfold bydS
  refine wpS_bind (wpS_elem hx ?_)
  cases lf with
  | true => exact hO x ky st Q hS hky hk q
  | false =>
    refine wpS_bind (hO ky x st _ hky hS hk ?_)
    exact wpS_pure q
theorem wpS_gal {lf : Bool} {ky : Keyed} {ar : Array Keyed} {bs nn ht : Nat} {st : SortSt} {Q : Option Nat → SortSt → Prop} (hO : LtOk prog w A E s ltb S κ) (hk : kindOf st = κ) (hky : S ky) (B : Nat → Bool)
    (hB : ∀ j, j < nn → ∃ x, ar[bs + j]? = some x ∧ S x ∧ Bf ltb lf ky x = B j) (anti : ∀ i j, i ≤ j → j < nn → B j = true → B i = true) (hht : ht < nn)
    (h : ∀ k, k ≤ nn → (∀ i, i < k → B i = true) → (∀ i, k ≤ i → i < nn → B i = false) → Q (some k) st) : wpS (model prog w) A E s (galS lf ky ar bs nn ht) Q st := by
  have ask : ∀ (j : Nat) (Q : Option Bool → SortSt → Prop), j < nn → Q (some (B j)) st → wpS (model prog w) A E s (bydS lf ky ar bs j) Q st := fun j Q hj q => by
    obtain ⟨x, hx, hS, e⟩ := hB j hj
    exact wpS_byd hO hk hky hx hS (by rw [e]; exact q)
  have antiF : ∀ i j, i ≤ j → j < nn → B i = false → B j = false := fun i j hij hj e => by
    cases e2 : B j with
    | false => rfl
    | true => rw [anti i j hij hj e2] at e; cases e
  rw [galS_eq]
  refine wpS_bind (ask ht _ hht ?_)
  dsimp only
  cases hr : B ht with
  | true =>
    simp only [if_true]
    refine wpS_bind (wpS_mono (wpS_forRange (I := fun x c st' => st' = st ∧ ∃ l o, c = (none, l, o) ∧ l < o ∧ x + 1 ≤ o ∧ (l < nn - ht) ∧ B (ht + l) = true)
      (Q := fun c st' => st' = st ∧ ∃ l o, c = (none, l, o) ∧ l < o ∧ l < nn - ht ∧ B (ht + l) = true ∧ (nn - ht ≤ o ∨ (o < nn - ht ∧ B (ht + o) = false))) ?stp ?fin ⟨rfl, 0, 1, rfl, by omega, by omega, by omega, hr⟩) ?post)
    case fin =>
      rintro c st' ⟨rfl, l, o, rfl, a1, a2, a3, a4⟩
      exact ⟨rfl, l, o, rfl, a1, a3, a4, .inl (by omega)⟩
    case stp =>
      rintro x c st' _ hx ⟨rfl, l, o, rfl, a1, a2, a3, a4⟩
      dsimp only
      by_cases hge : o ≥ nn - ht
      · rw [if_pos hge]
        exact wpS_pure ⟨rfl, l, o, rfl, a1, a3, a4, .inl hge⟩
      · rw [if_neg hge]
        refine wpS_bind (ask _ _ (by omega) ?_)
        dsimp only
        cases hm : B (ht + o) with
        | true =>
          simp only [Bool.not_true, Bool.false_eq_true, if_false]
          exact wpS_pure ⟨rfl, o, _, rfl, by omega, by omega, by omega, hm⟩
        | false =>
          simp only [Bool.not_false, if_true]
          exact wpS_pure ⟨rfl, l, o, rfl, a1, a3, a4, .inr ⟨by omega, hm⟩⟩
    case post =>
      rintro c st' ⟨est, l, o, rfl, a1, a2, a3, a4⟩
      rw [est]
      dsimp only
      have P1 : ∀ i, i < ht + l + 1 → B i = true := fun i hi => anti i (ht + l) (by omega) (by omega) a3
      have P2 : ∀ i, ht + min o (nn - ht) ≤ i → i < nn → B i = false := fun i hi hi2 => by
        rcases a4 with z | ⟨z1, z2⟩
        · omega
        · exact antiF (ht + o) i (by omega) hi2 z2
      refine wpS_bind (wpS_mono (wpS_forRange (I := fun x c st' => st' = st ∧ ∃ l r, c = (none, l, r) ∧ l ≤ r ∧ r ≤ nn ∧ r - l ≤ nn - x ∧ (∀ i, i < l → B i = true) ∧ (∀ i, r ≤ i → i < nn → B i = false))
        (Q := fun c st' => st' = st ∧ ∃ l, c = (none, l, l) ∧ l ≤ nn ∧ (∀ i, i < l → B i = true) ∧ (∀ i, l ≤ i → i < nn → B i = false)) ?stp2 ?fin2 ⟨rfl, ht + l + 1, ht + min o (nn - ht), rfl, by omega, by omega, by omega, P1, P2⟩) ?post2)
      case fin2 =>
        rintro c st' ⟨rfl, l, r, rfl, a1, a2, a3, a4, a5⟩
        have : l = r := by omega
        subst this
        exact ⟨rfl, l, rfl, a2, a4, a5⟩
      case post2 =>
        rintro c st' ⟨rfl, l, rfl, a2, a4, a5⟩
        exact wpS_pure (h l a2 a4 a5)
      case stp2 =>
        rintro x c st' _ hx ⟨rfl, l, r, rfl, a1, a2, a3, a4, a5⟩
        dsimp only
        by_cases hge : l ≥ r
        · rw [if_pos hge]
          have : l = r := by omega
          subst this
          exact wpS_pure ⟨rfl, l, rfl, a2, a4, a5⟩
        · rw [if_neg hge]
          refine wpS_bind (ask _ _ (by omega) ?_)
          dsimp only
          cases hm : B (l + (r - l) / 2) with
          | true =>
            simp only [if_true]
            exact wpS_pure ⟨rfl, _, r, rfl, by omega, a2, by omega, fun i hi => anti i _ (by omega) (by omega) hm, a5⟩
          | false =>
            simp only [Bool.false_eq_true, if_false]
            exact wpS_pure ⟨rfl, l, _, rfl, by omega, by omega, by omega, a4, fun i hi hi2 => antiF _ i hi hi2 hm⟩
  | false =>
    simp only [Bool.false_eq_true, if_false]
    refine wpS_bind (wpS_mono (wpS_forRange (I := fun x c st' => st' = st ∧ ∃ l o, c = (none, l, o) ∧ l < o ∧ x + 1 ≤ o ∧ l < ht + 1 ∧ B (ht - l) = false)
      (Q := fun c st' => st' = st ∧ ∃ l o, c = (none, l, o) ∧ l < o ∧ l < ht + 1 ∧ B (ht - l) = false ∧ (ht + 1 ≤ o ∨ (o < ht + 1 ∧ B (ht - o) = true))) ?stp ?fin ⟨rfl, 0, 1, rfl, by omega, by omega, by omega, hr⟩) ?post)
    case fin =>
      rintro c st' ⟨rfl, l, o, rfl, a1, a2, a3, a4⟩
      exact ⟨rfl, l, o, rfl, a1, a3, a4, .inl (by omega)⟩
    case stp =>
      rintro x c st' _ hx ⟨rfl, l, o, rfl, a1, a2, a3, a4⟩
      dsimp only
      by_cases hge : o ≥ ht + 1
      · rw [if_pos hge]
        exact wpS_pure ⟨rfl, l, o, rfl, a1, a3, a4, .inl hge⟩
      · rw [if_neg hge]
        refine wpS_bind (ask _ _ (by omega) ?_)
        dsimp only
        cases hm : B (ht - o) with
        | true =>
          simp only [if_true]
          exact wpS_pure ⟨rfl, l, o, rfl, a1, a3, a4, .inr ⟨by omega, hm⟩⟩
        | false =>
          simp only [Bool.false_eq_true, if_false]
          exact wpS_pure ⟨rfl, o, _, rfl, by omega, by omega, by omega, hm⟩
    case post =>
      rintro c st' ⟨est, l, o, rfl, a1, a2, a3, a4⟩
      rw [est]
      dsimp only
      have P1 : ∀ i, i < ht + 1 - min o (ht + 1) → B i = true := fun i hi => by
        rcases a4 with z | ⟨z1, z2⟩
        · omega
        · exact anti i (ht - o) (by omega) (by omega) z2
      have P2 : ∀ i, ht - l ≤ i → i < nn → B i = false := fun i hi hi2 => antiF (ht - l) i (by omega) hi2 a3
      refine wpS_bind (wpS_mono (wpS_forRange (I := fun x c st' => st' = st ∧ ∃ l r, c = (none, l, r) ∧ l ≤ r ∧ r ≤ nn ∧ r - l ≤ nn - x ∧ (∀ i, i < l → B i = true) ∧ (∀ i, r ≤ i → i < nn → B i = false))
        (Q := fun c st' => st' = st ∧ ∃ l, c = (none, l, l) ∧ l ≤ nn ∧ (∀ i, i < l → B i = true) ∧ (∀ i, l ≤ i → i < nn → B i = false)) ?stp2 ?fin2 ⟨rfl, ht + 1 - min o (ht + 1), ht - l, rfl, by omega, by omega, by omega, P1, P2⟩) ?post2)
      case fin2 =>
        rintro c st' ⟨rfl, l, r, rfl, a1, a2, a3, a4, a5⟩
        have : l = r := by omega
        subst this
        exact ⟨rfl, l, rfl, a2, a4, a5⟩
      case post2 =>
        rintro c st' ⟨rfl, l, rfl, a2, a4, a5⟩
        exact wpS_pure (h l a2 a4 a5)
      case stp2 =>
        rintro x c st' _ hx ⟨rfl, l, r, rfl, a1, a2, a3, a4, a5⟩
        dsimp only
        by_cases hge : l ≥ r
        · rw [if_pos hge]
          have : l = r := by omega
          subst this
          exact wpS_pure ⟨rfl, l, rfl, a2, a4, a5⟩
        · rw [if_neg hge]
          refine wpS_bind (ask _ _ (by omega) ?_)
          dsimp only
          cases hm : B (l + (r - l) / 2) with
          | true =>
            simp only [if_true]
            exact wpS_pure ⟨rfl, _, r, rfl, by omega, a2, by omega, fun i hi => anti i _ (by omega) (by omega) hm, a5⟩
          | false =>
            simp only [Bool.false_eq_true, if_false]
            exact wpS_pure ⟨rfl, l, _, rfl, by omega, by omega, by omega, a4, fun i hi hi2 => antiF _ i hi hi2 hm⟩
end
end L2

/-! merging, as lists -/
namespace L2
open PySem PySem.Spec PyProof.Rows
/-- ltb is an order: x is no more than y where y is not less than x -/
structure OrdB (ltb : Keyed → Keyed → Bool) : Prop where
  asym : ∀ {x y}, ltb x y = true → ltb y x = false
  tr : ∀ {x y z}, ltb y x = false → ltb z y = false → ltb z x = false
def leB (ltb : Keyed → Keyed → Bool) (x y : Keyed) : Prop := ltb y x = false
section
variable {ltb : Keyed → Keyed → Bool} {xa xb ou : List Keyed} {ja jb k : Nat}
theorem drop_take_split {α : Type} (l : List α) (j k : Nat) : l.drop j = (l.drop j).take k ++ l.drop (j + k) := by
  rw [← List.drop_drop]; exact (List.take_append_drop k (l.drop j)).symm
theorem rise_le {l : List Keyed} (h : l.Pairwise (leB ltb)) {i j : Nat} (hi : i < j) {x y : Keyed} (hx : l[i]? = some x) (hy : l[j]? = some y) : leB ltb x y := by
  obtain ⟨h1, rfl⟩ := List.getElem?_eq_some_iff.mp hx
  obtain ⟨h2, rfl⟩ := List.getElem?_eq_some_iff.mp hy
  exact List.pairwise_iff_getElem.mp h i j h1 h2 hi
theorem rise_parts {l : List Keyed} (h : l.Pairwise (leB ltb)) (j k : Nat) : ((l.drop j).take k).Pairwise (leB ltb) ∧ ∀ x ∈ (l.drop j).take k, ∀ y ∈ l.drop (j + k), leB ltb x y := by
  have hd : (l.drop j).Pairwise (leB ltb) := h.drop
  rw [drop_take_split l j k, List.pairwise_append] at hd
  exact ⟨hd.1, hd.2.2⟩
/-- what has been merged, what is left -/
structure MI (ltb : Keyed → Keyed → Bool) (xa xb ou : List Keyed) (ja jb : Nat) : Prop where
  srt : ou.Pairwise (leB ltb)
  la : ∀ x ∈ ou, ∀ y ∈ xa.drop ja, leB ltb x y
  lb : ∀ x ∈ ou, ∀ y ∈ xb.drop jb, leB ltb x y
  pm : (ou ++ (xa.drop ja ++ xb.drop jb)).Perm (xa ++ xb)
  sz : ou.length = ja + jb
theorem MI.stepA (O : OrdB ltb) (sa : xa.Pairwise (leB ltb)) (sb : xb.Pairwise (leB ltb)) (m : MI ltb xa xb ou ja jb) (hk : ja + k ≤ xa.length) {z : Keyed} (hz : xb[jb]? = some z) (c : ∀ y ∈ (xa.drop ja).take k, leB ltb y z) :
    MI ltb xa xb (ou ++ (xa.drop ja).take k) (ja + k) jb := by
  obtain ⟨p1, p2⟩ := rise_parts sa ja k
  have sub : ∀ y ∈ (xa.drop ja).take k, y ∈ xa.drop ja := fun y hy => List.mem_of_mem_take hy
  have zb : ∀ y ∈ xb.drop jb, leB ltb z y ∨ y = z := fun y hy => by
    obtain ⟨i, hi, e⟩ := List.getElem_of_mem hy
    have e2 : xb[jb + i]? = some y := by rw [← List.getElem?_drop, List.getElem?_eq_getElem hi, e]
    by_cases h0 : i = 0
    · subst h0; rw [Nat.add_zero, hz] at e2; exact .inr (Option.some.inj e2).symm
    · exact .inl (rise_le sb (by omega) hz e2)
  refine ⟨?_, ?_, ?_, ?_, ?_⟩
  · rw [List.pairwise_append]
    exact ⟨m.srt, p1, fun x hx y hy => m.la x hx y (sub y hy)⟩
  · intro x hx y hy
    rcases List.mem_append.mp hx with h | h
    · exact m.la x h y (by rw [drop_take_split xa ja k]; exact List.mem_append_right _ hy)
    · exact p2 x h y hy
  · intro x hx y hy
    rcases List.mem_append.mp hx with h | h
    · exact m.lb x h y hy
    · rcases zb y hy with z1 | z1
      · exact O.tr (c x h) z1
      · rw [z1]; exact c x h
  · have e := drop_take_split xa ja k
    have := m.pm
    rw [e] at this
    simpa [List.append_assoc] using this
  · rw [List.length_append, m.sz, List.length_take, List.length_drop]; omega
theorem MI.stepB (O : OrdB ltb) (sa : xa.Pairwise (leB ltb)) (sb : xb.Pairwise (leB ltb)) (m : MI ltb xa xb ou ja jb) (hk : jb + k ≤ xb.length) {z : Keyed} (hz : xa[ja]? = some z) (c : ∀ y ∈ (xb.drop jb).take k, leB ltb y z) :
    MI ltb xa xb (ou ++ (xb.drop jb).take k) ja (jb + k) := by
  obtain ⟨p1, p2⟩ := rise_parts sb jb k
  have sub : ∀ y ∈ (xb.drop jb).take k, y ∈ xb.drop jb := fun y hy => List.mem_of_mem_take hy
  have za : ∀ y ∈ xa.drop ja, leB ltb z y ∨ y = z := fun y hy => by
    obtain ⟨i, hi, e⟩ := List.getElem_of_mem hy
    have e2 : xa[ja + i]? = some y := by rw [← List.getElem?_drop, List.getElem?_eq_getElem hi, e]
    by_cases h0 : i = 0
    · subst h0; rw [Nat.add_zero, hz] at e2; exact .inr (Option.some.inj e2).symm
    · exact .inl (rise_le sa (by omega) hz e2)
  refine ⟨?_, ?_, ?_, ?_, ?_⟩
  · rw [List.pairwise_append]
    exact ⟨m.srt, p1, fun x hx y hy => m.lb x hx y (sub y hy)⟩
  · intro x hx y hy
    rcases List.mem_append.mp hx with h | h
    · exact m.la x h y hy
    · rcases za y hy with z1 | z1
      · exact O.tr (c x h) z1
      · rw [z1]; exact c x h
  · intro x hx y hy
    rcases List.mem_append.mp hx with h | h
    · exact m.lb x h y (by rw [drop_take_split xb jb k]; exact List.mem_append_right _ hy)
    · exact p2 x h y hy
  · have e := drop_take_split xb jb k
    have := m.pm
    rw [e] at this
    refine List.Perm.trans ?_ this
    rw [List.append_assoc]
    refine List.Perm.append_left _ ?_
    rw [← List.append_assoc, ← List.append_assoc]
    refine List.Perm.append_right _ ?_
    exact List.perm_append_comm
  · rw [List.length_append, m.sz, List.length_take, List.length_drop]; omega
theorem MI.start (sb : xb.Pairwise (leB ltb)) {z y0 : Keyed} (hz : xb[0]? = some z) (c : ∀ y ∈ xa, leB ltb z y) : MI ltb xa xb [z] 0 1 := by
  have hx : xb = z :: xb.drop 1 := by
    cases xb with
    | nil => cases hz
    | cons b r => obtain rfl := Option.some.inj hz; rfl
  refine ⟨by simp, fun x hx y hy => ?_, fun x hx2 y hy => ?_, ?_, rfl⟩
  · simp at hx hy; rw [hx]; exact c y hy
  · simp at hx2
    rw [hx2]
    rw [hx, List.pairwise_cons] at sb
    exact sb.1 y hy
  · rw [List.drop_zero]
    refine List.Perm.trans ?_ (List.Perm.append_left xa (List.Perm.of_eq hx.symm))
    show (z :: (xa ++ xb.drop 1)).Perm _
    exact List.perm_middle.symm
/-- all of b is out -/
theorem MI.done (sa : xa.Pairwise (leB ltb)) (m : MI ltb xa xb ou ja jb) (h : jb = xb.length) : (ou ++ xa.drop ja ++ xb.drop jb).Pairwise (leB ltb) ∧ (ou ++ xa.drop ja ++ xb.drop jb).Perm (xa ++ xb) := by
  have e : xb.drop jb = [] := by rw [h]; exact List.drop_length
  have pm := m.pm
  rw [e, List.append_nil] at pm ⊢
  refine ⟨?_, pm⟩
  rw [List.pairwise_append]
  exact ⟨m.srt, sa.drop, m.la⟩
/-- the last one of a is left, which is the greatest -/
theorem MI.last (sa : xa.Pairwise (leB ltb)) (sb : xb.Pairwise (leB ltb)) (m : MI ltb xa xb ou ja jb) (h : ∀ x ∈ xb, ∀ y ∈ xa.drop ja, leB ltb x y) :
    (ou ++ xb.drop jb ++ xa.drop ja).Pairwise (leB ltb) ∧ (ou ++ xb.drop jb ++ xa.drop ja).Perm (xa ++ xb) := by
  constructor
  · rw [List.pairwise_append, List.pairwise_append]
    refine ⟨⟨m.srt, sb.drop, m.lb⟩, sa.drop, fun x hx y hy => ?_⟩
    rcases List.mem_append.mp hx with z | z
    · exact m.la x z y hy
    · exact h x (List.mem_of_mem_drop z) y hy
  · refine List.Perm.trans ?_ m.pm
    rw [List.append_assoc]
    exact List.Perm.append_left _ List.perm_append_comm
end
end L2

/-! mergeLo -/
namespace L2
open PySem PySem.Spec PyProof.Rows
def mloS : Array Keyed → Array Keyed → StateT SortSt Sem (Array Keyed) := sortPriv% PySem.Builtin.mergeLo
def dnS (xa xb ou : Array Keyed) (ja jb : Nat) : Array Keyed := ou ++ xa.extract ja xa.size ++ xb.extract jb xb.size
def lsS (xa xb ou : Array Keyed) (ja jb : Nat) : Array Keyed := ou ++ xb.extract jb xb.size ++ xa.extract ja xa.size
def smgS (g : Nat) : StateT SortSt Sem Unit := modify fun z => SortSt.mk' (kindOf z) (arrOf z) (pendingOf z) g (failedOf z)
theorem mloS_eq (xa xb : Array Keyed) : mloS xa xb = (do
  rule "list.sort.merge-lo"
  let mut ou : Array Keyed := #[← elem' xb 0]
  let mut ja := 0
  let mut jb := 1
  if jb == xb.size then return dnS xa xb ou ja jb
  if ja + 1 == xa.size then return lsS xa xb ou ja jb
  let mut mg := gallopOf (← get)
  for _ in [0:xa.size + xb.size] do
    let mut ca := 0
    let mut cb := 0
    for _ in [0:xa.size + xb.size] do
      let some bw ← lt' (← elem' xb jb) (← elem' xa ja) | return dnS xa xb ou ja jb
      if bw then
        ou := ou.push (← elem' xb jb); jb := jb + 1; cb := cb + 1; ca := 0
        if jb == xb.size then return dnS xa xb ou ja jb
        if cb ≥ mg then break
      else
        ou := ou.push (← elem' xa ja); ja := ja + 1; ca := ca + 1; cb := 0
        if ja + 1 == xa.size then return lsS xa xb ou ja jb
        if ca ≥ mg then break
    rule "list.sort.gallop"
    mg := mg + 1
    for _ in [0:xa.size + xb.size] do
      if mg > 1 then mg := mg - 1
      smgS mg
      let some kk ← galS false (← elem' xb jb) xa ja (xa.size - ja) 0 | return dnS xa xb ou ja jb
      ca := kk
      if kk > 0 then
        ou := ou ++ xa.extract ja (ja + kk); ja := ja + kk
        if ja + 1 == xa.size then return lsS xa xb ou ja jb
        if ja == xa.size then return dnS xa xb ou ja jb
      ou := ou.push (← elem' xb jb); jb := jb + 1
      if jb == xb.size then return dnS xa xb ou ja jb
      let some kk ← galS true (← elem' xa ja) xb jb (xb.size - jb) 0 | return dnS xa xb ou ja jb
      cb := kk
      if kk > 0 then
        ou := ou ++ xb.extract jb (jb + kk); jb := jb + kk
        if jb == xb.size then return dnS xa xb ou ja jb
      ou := ou.push (← elem' xa ja); ja := ja + 1
      if ja + 1 == xa.size then return lsS xa xb ou ja jb
      if ca < 7 && cb < 7 then break
    mg := mg + 1
    smgS mg
  unsupported "internal:list.sort.merge-bound") := rfl
theorem ext_drop (x : Array Keyed) (j : Nat) : (x.extract j x.size).toList = x.toList.drop j := by
  rw [Array.toList_extract]
  exact List.take_of_length_le (by simp)
theorem ext_part (x : Array Keyed) (j k : Nat) : (x.extract j (j + k)).toList = (x.toList.drop j).take k := by
  rw [Array.toList_extract]
  show List.take (j + k - j) (List.drop j x.toList) = _
  rw [show j + k - j = k by omega]
section
variable {ltb : Keyed → Keyed → Bool} {xa xb ou : Array Keyed} {ja jb k : Nat}
theorem one_at {x : Array Keyed} {j : Nat} {b : Keyed} (h : x[j]? = some b) : (x.toList.drop j).take 1 = [b] := by
  have hj := (Array.getElem?_eq_some_iff.mp h).1
  have e := (Array.getElem?_eq_some_iff.mp h).2
  rw [List.drop_eq_getElem_cons (by simpa using hj)]
  simp [e]
theorem MI.pB (O : OrdB ltb) (sa : xa.toList.Pairwise (leB ltb)) (sb : xb.toList.Pairwise (leB ltb)) (m : MI ltb xa.toList xb.toList ou.toList ja jb) {b y : Keyed} (hb : xb[jb]? = some b) (hy : xa[ja]? = some y) (c : leB ltb b y) : MI ltb xa.toList xb.toList (ou.push b).toList ja (jb + 1) := by
  have hj := (Array.getElem?_eq_some_iff.mp hb).1
  have := m.stepB O sa sb (k := 1) (by rw [Array.length_toList]; omega) (z := y) (by simpa using hy) (by rw [one_at hb]; intro x hx; simp at hx; rw [hx]; exact c)
  rw [one_at hb] at this
  simpa using this
theorem MI.pA (O : OrdB ltb) (sa : xa.toList.Pairwise (leB ltb)) (sb : xb.toList.Pairwise (leB ltb)) (m : MI ltb xa.toList xb.toList ou.toList ja jb) {b y : Keyed} (hb : xb[jb]? = some b) (hy : xa[ja]? = some y) (c : leB ltb y b) : MI ltb xa.toList xb.toList (ou.push y).toList (ja + 1) jb := by
  have hj := (Array.getElem?_eq_some_iff.mp hy).1
  have := m.stepA O sa sb (k := 1) (by rw [Array.length_toList]; omega) (z := b) (by simpa using hb) (by rw [one_at hy]; intro x hx; simp at hx; rw [hx]; exact c)
  rw [one_at hy] at this
  simpa using this
theorem part_at {x : Array Keyed} {j k : Nat} {y : Keyed} (h : y ∈ (x.toList.drop j).take k) : ∃ i, i < k ∧ x[j + i]? = some y := by
  obtain ⟨i, hi, e⟩ := List.getElem_of_mem h
  rw [List.length_take] at hi
  refine ⟨i, by omega, ?_⟩
  rw [List.getElem_take, List.getElem_drop] at e
  have hl : j + i < x.size := by rw [List.length_drop] at hi; simp at hi; omega
  rw [Array.getElem?_eq_getElem hl]
  simpa using e
theorem MI.eA (O : OrdB ltb) (sa : xa.toList.Pairwise (leB ltb)) (sb : xb.toList.Pairwise (leB ltb)) (m : MI ltb xa.toList xb.toList ou.toList ja jb) (hk : ja + k ≤ xa.size) {b : Keyed} (hb : xb[jb]? = some b) (c : ∀ i, i < k → ∀ x, xa[ja + i]? = some x → leB ltb x b) :
    MI ltb xa.toList xb.toList (ou ++ xa.extract ja (ja + k)).toList (ja + k) jb := by
  have := m.stepA O sa sb (k := k) (by simpa using hk) (z := b) (by simpa using hb) (fun y hy => by obtain ⟨i, h1, h2⟩ := part_at hy; exact c i h1 y h2)
  rw [Array.toList_append, ext_part]; exact this
theorem MI.eB (O : OrdB ltb) (sa : xa.toList.Pairwise (leB ltb)) (sb : xb.toList.Pairwise (leB ltb)) (m : MI ltb xa.toList xb.toList ou.toList ja jb) (hk : jb + k ≤ xb.size) {y : Keyed} (hy : xa[ja]? = some y) (c : ∀ i, i < k → ∀ x, xb[jb + i]? = some x → leB ltb x y) :
    MI ltb xa.toList xb.toList (ou ++ xb.extract jb (jb + k)).toList ja (jb + k) := by
  have := m.stepB O sa sb (k := k) (by simpa using hk) (z := y) (by simpa using hy) (fun y hy => by obtain ⟨i, h1, h2⟩ := part_at hy; exact c i h1 y h2)
  rw [Array.toList_append, ext_part]; exact this
theorem arr_le {x : Array Keyed} (h : x.toList.Pairwise (leB ltb)) {i j : Nat} (hij : i < j) {u v : Keyed} (hu : x[i]? = some u) (hv : x[j]? = some v) : leB ltb u v :=
  rise_le h hij (by simpa using hu) (by simpa using hv)
theorem arr_mem {x : Array Keyed} {i : Nat} {u : Keyed} (hu : x[i]? = some u) : u ∈ x.toList := by
  have := Array.mem_of_getElem? hu
  simpa using this
end
section
variable {prog : Program} {w : World} {A : Around} {E : Value → Shared → Prop} {s : Shared} {ltb : Keyed → Keyed → Bool} {S : Keyed → Prop} {κ : SortKind}
/-- a gallop to the right of all that are no more than the key -/
theorem wpS_galR (O : OrdB ltb) (hO : LtOk prog w A E s ltb S κ) {x : Array Keyed} {bs nn ht : Nat} {ky : Keyed} {st : SortSt} {Q : Option Nat → SortSt → Prop} (hk : kindOf st = κ) (hky : S ky) (Sx : ∀ u ∈ x.toList, S u) (sx : ∀ i j u v, i < j → j < nn → x[bs + i]? = some u → x[bs + j]? = some v → leB ltb u v)
    (hn : bs + nn ≤ x.size) (hht : ht < nn) (h : ∀ k, k ≤ nn → (∀ i, i < k → ∀ u, x[bs + i]? = some u → leB ltb u ky) → (∀ i, k ≤ i → i < nn → ∀ u, x[bs + i]? = some u → ltb ky u = true) → Q (some k) st) : wpS (model prog w) A E s (galS false ky x bs nn ht) Q st := by
  have ex : ∀ j, j < nn → ∃ u, x[bs + j]? = some u := fun j hj => ⟨_, Array.getElem?_eq_getElem (by omega)⟩
  refine wpS_gal hO hk hky (fun j => match x[bs + j]? with | some u => Bf ltb false ky u | none => false) (fun j hj => ?_) (fun i j hij hj hb => ?_) hht fun k h1 h2 h3 => h k h1 (fun i hi u hu => ?_) fun i hi hi2 u hu => ?_
  · obtain ⟨u, hu⟩ := ex j hj
    exact ⟨u, hu, Sx u (arr_mem hu), by simp only [hu]⟩
  · obtain ⟨u, hu⟩ := ex i (by omega)
    obtain ⟨v, hv⟩ := ex j hj
    simp only [hu, hv, Bf, Bool.false_eq_true, if_false, Bool.not_eq_true'] at hb ⊢
    by_cases e : i = j
    · subst e; rw [hu] at hv; cases hv; exact hb
    · exact O.tr (sx i j u v (by omega) hj hu hv) hb
  · have := h2 i hi
    simp only [hu, Bf, Bool.false_eq_true, if_false, Bool.not_eq_true'] at this
    exact this
  · have := h3 i hi hi2
    simp only [hu, Bf, Bool.false_eq_true, if_false, Bool.not_eq_false'] at this
    exact this
/-- a gallop to the right of all that are less than the key -/
theorem wpS_galL (O : OrdB ltb) (hO : LtOk prog w A E s ltb S κ) {x : Array Keyed} {bs nn ht : Nat} {ky : Keyed} {st : SortSt} {Q : Option Nat → SortSt → Prop} (hk : kindOf st = κ) (hky : S ky) (Sx : ∀ u ∈ x.toList, S u) (sx : ∀ i j u v, i < j → j < nn → x[bs + i]? = some u → x[bs + j]? = some v → leB ltb u v)
    (hn : bs + nn ≤ x.size) (hht : ht < nn) (h : ∀ k, k ≤ nn → (∀ i, i < k → ∀ u, x[bs + i]? = some u → ltb u ky = true) → (∀ i, k ≤ i → i < nn → ∀ u, x[bs + i]? = some u → leB ltb ky u) → Q (some k) st) : wpS (model prog w) A E s (galS true ky x bs nn ht) Q st := by
  have ex : ∀ j, j < nn → ∃ u, x[bs + j]? = some u := fun j hj => ⟨_, Array.getElem?_eq_getElem (by omega)⟩
  refine wpS_gal hO hk hky (fun j => match x[bs + j]? with | some u => Bf ltb true ky u | none => false) (fun j hj => ?_) (fun i j hij hj hb => ?_) hht fun k h1 h2 h3 => h k h1 (fun i hi u hu => ?_) fun i hi hi2 u hu => ?_
  · obtain ⟨u, hu⟩ := ex j hj
    exact ⟨u, hu, Sx u (arr_mem hu), by simp only [hu]⟩
  · obtain ⟨u, hu⟩ := ex i (by omega)
    obtain ⟨v, hv⟩ := ex j hj
    simp only [hu, hv, Bf, if_true] at hb ⊢
    by_cases e : i = j
    · subst e; rw [hu] at hv; cases hv; exact hb
    · have l1 := sx i j u v (by omega) hj hu hv
      cases q : ltb u ky with
      | true => rfl
      | false => have := O.tr q l1; rw [this] at hb; cases hb
  · have := h2 i hi
    simp only [hu, Bf, if_true] at this
    exact this
  · have := h3 i hi hi2
    simp only [hu, Bf, if_true] at this
    exact this
end
section
variable {prog : Program} {w : World} {A : Around} {E : Value → Shared → Prop} {s : Shared} {ltb : Keyed → Keyed → Bool} {S : Keyed → Prop} {κ : SortKind}
/-- the state but for the galloping is as it was -/
structure SS (κ : SortKind) (st st' : SortSt) : Prop where
  kind : kindOf st' = κ
  fail : failedOf st' = none
  arr : arrOf st' = arrOf st
  pend : pendingOf st' = pendingOf st
theorem SS.smg {st st' : SortSt} (h : SS κ st st') (g : Nat) : SS κ st (SortSt.mk' (kindOf st') (arrOf st') (pendingOf st') g (failedOf st')) := ⟨h.kind, h.fail, h.arr, h.pend⟩
theorem wpS_mlo (O : OrdB ltb) (hO : LtOk prog w A E s ltb S κ) {xa xb : Array Keyed} {st : SortSt} {Q : Array Keyed → SortSt → Prop} (Sa : ∀ x ∈ xa.toList, S x) (Sb : ∀ x ∈ xb.toList, S x) (sa : xa.toList.Pairwise (leB ltb)) (sb : xb.toList.Pairwise (leB ltb))
    {z : Keyed} (hz : xb[0]? = some z) (hfst : ∀ y ∈ xa.toList, leB ltb z y) (ha0 : 0 < xa.size) (hlst : ∀ x ∈ xb.toList, ∀ y, xa[xa.size - 1]? = some y → ltb x y = true) (hS : SS κ st st)
    (h : ∀ r st', r.toList.Pairwise (leB ltb) → r.toList.Perm (xa.toList ++ xb.toList) → SS κ st st' → Q r st') : wpS (model prog w) A E s (mloS xa xb) Q st := by
  have hb0 : 0 < xb.size := by
    have := (Array.getElem?_eq_some_iff.mp hz).1; exact this
  have mdone : ∀ (ou : Array Keyed) (ja jb : Nat) (st' : SortSt), MI ltb xa.toList xb.toList ou.toList ja jb → jb = xb.size → SS κ st st' → Q (dnS xa xb ou ja jb) st' := fun ou ja jb st' m e ss => by
    obtain ⟨p1, p2⟩ := m.done sa (by rw [e]; simp)
    have el : (dnS xa xb ou ja jb).toList = ou.toList ++ xa.toList.drop ja ++ xb.toList.drop jb := by unfold dnS; rw [Array.toList_append, Array.toList_append, ext_drop, ext_drop]
    exact h _ _ (by rw [el]; exact p1) (by rw [el]; exact p2) ss
  have mlast : ∀ (ou : Array Keyed) (ja jb : Nat) (st' : SortSt), MI ltb xa.toList xb.toList ou.toList ja jb → ja + 1 = xa.size → SS κ st st' → Q (lsS xa xb ou ja jb) st' := fun ou ja jb st' m e ss => by
    obtain ⟨p1, p2⟩ := m.last sa sb (fun x hx y hy => by
      obtain ⟨i, hi, e2⟩ := List.getElem_of_mem hy
      have hi0 : i = 0 := by rw [List.length_drop] at hi; simp at hi; omega
      subst hi0
      have e3 : xa[xa.size - 1]? = some y := by
        rw [List.getElem_drop] at e2
        rw [show xa.size - 1 = ja by omega]
        rw [← e2]; simp
      exact O.asym (hlst x hx y e3))
    have el : (lsS xa xb ou ja jb).toList = ou.toList ++ xb.toList.drop jb ++ xa.toList.drop ja := by unfold lsS; rw [Array.toList_append, Array.toList_append, ext_drop, ext_drop]
    exact h _ _ (by rw [el]; exact p1) (by rw [el]; exact p2) ss
  have mi0 : MI ltb xa.toList xb.toList [z] 0 1 := MI.start (y0 := z) sb (by simpa using hz) hfst
  rw [mloS_eq]
  refine wpS_bind (wpS_lift (wpAny_rule ⟨rfl, ?_⟩))
  refine wpS_bind (wpS_elem hz ?_)
  dsimp only
  by_cases c1 : 1 = xb.size
  · rw [if_pos (by simpa using c1)]
    exact wpS_pure (mdone #[z] 0 1 st mi0 c1 hS)
  rw [if_neg (by simpa using c1)]
  by_cases c2 : 0 + 1 = xa.size
  · rw [if_pos (by simpa using c2)]
    exact wpS_pure (mlast #[z] 0 1 st mi0 c2 hS)
  rw [if_neg (by simpa using c2)]
  refine wpS_bind (wpS_get ?_)
  have at1 : ∀ {x : Array Keyed} {j : Nat}, j < x.size → ∃ u, x[j]? = some u := fun {x j} hj => ⟨_, Array.getElem?_eq_getElem hj⟩
  refine wpS_bind (wpS_mono (wpS_forRange
    (I := fun x c st' => SS κ st st' ∧ ∃ ou ja jb mg, c = (none, ou, ja, jb, mg) ∧ MI ltb xa.toList xb.toList ou.toList ja jb ∧ ja + 1 < xa.size ∧ jb < xb.size ∧ x + 1 ≤ ja + jb)
    (Q := fun c st' => ∃ r ou ja jb mg, c = (some r, ou, ja, jb, mg) ∧ Q r st') ?stp ?fin ⟨hS, #[z], 0, 1, _, rfl, mi0, by omega, by omega, by omega⟩) ?post)
  case fin =>
    rintro c st' ⟨ss, ou, ja, jb, mg, rfl, m, b1, b2, b3⟩
    omega
  case post =>
    rintro c st' ⟨r, ou, ja, jb, mg, rfl, hq⟩
    exact wpS_pure hq
  case stp =>
    rintro x c st1 _ hx ⟨ss, ou, ja, jb, mg, rfl, m, b1, b2, b3⟩
    dsimp only
    refine wpS_bind (wpS_mono (wpS_forRange
      (I := fun y c st' => SS κ st st' ∧ ∃ ou' ja' jb' ca cb, c = (none, ou', ja', jb', ca, cb) ∧ MI ltb xa.toList xb.toList ou'.toList ja' jb' ∧ ja' + 1 < xa.size ∧ jb' < xb.size ∧ ja + jb + y ≤ ja' + jb')
      (Q := fun c st' => (∃ r ou' ja' jb' ca cb, c = (some r, ou', ja', jb', ca, cb) ∧ Q r st') ∨ (SS κ st st' ∧ ∃ ou' ja' jb' ca cb, c = (none, ou', ja', jb', ca, cb) ∧ MI ltb xa.toList xb.toList ou'.toList ja' jb' ∧ ja' + 1 < xa.size ∧ jb' < xb.size ∧ ja + jb + 1 ≤ ja' + jb')) ?stp1 ?fin1 ⟨ss, ou, ja, jb, 0, 0, rfl, m, b1, b2, by omega⟩) ?post1)
    case fin1 =>
      rintro c st' ⟨ss, ou', ja', jb', ca, cb, rfl, m, d1, d2, d3⟩
      exact .inr ⟨ss, ou', ja', jb', ca, cb, rfl, m, d1, d2, by omega⟩
    case stp1 =>
      rintro y c st2 _ hy ⟨ss, ou', ja', jb', ca, cb, rfl, m, d1, d2, d3⟩
      dsimp only
      obtain ⟨vb, hvb⟩ := at1 (x := xb) d2
      obtain ⟨va, hva⟩ := at1 (x := xa) (j := ja') (by omega)
      refine wpS_bind (wpS_elem hvb (wpS_bind (wpS_elem hva (wpS_bind (hO vb va _ _ (Sb _ (arr_mem hvb)) (Sa _ (arr_mem hva)) ss.kind ?_)))))
      dsimp only
      cases hw : ltb vb va with
      | true =>
        simp only [if_true]
        have m2 := m.pB O sa sb hvb hva (O.asym hw)
        refine wpS_bind (wpS_elem hvb ?_)
        by_cases e1 : jb' + 1 = xb.size
        · rw [if_pos (by simpa using e1)]
          exact wpS_pure (.inl ⟨_, _, _, _, _, _, rfl, mdone _ _ _ _ m2 e1 ss⟩)
        · rw [if_neg (by simpa using e1)]
          split
          · exact wpS_pure (.inr ⟨ss, _, _, _, _, _, rfl, m2, d1, by omega, by omega⟩)
          · exact wpS_pure ⟨ss, _, _, _, _, _, rfl, m2, d1, by omega, by omega⟩
      | false =>
        simp only [Bool.false_eq_true, if_false]
        have m2 := m.pA O sa sb hvb hva hw
        refine wpS_bind (wpS_elem hva ?_)
        by_cases e1 : ja' + 1 + 1 = xa.size
        · rw [if_pos (by simpa using e1)]
          exact wpS_pure (.inl ⟨_, _, _, _, _, _, rfl, mlast _ _ _ _ m2 e1 ss⟩)
        · rw [if_neg (by simpa using e1)]
          split
          · exact wpS_pure (.inr ⟨ss, _, _, _, _, _, rfl, m2, by omega, d2, by omega⟩)
          · exact wpS_pure ⟨ss, _, _, _, _, _, rfl, m2, by omega, d2, by omega⟩
    case post1 =>
      rintro c st2 (⟨r, ou', ja', jb', ca, cb, rfl, hq⟩ | ⟨ss, ou', ja', jb', ca, cb, rfl, m, d1, d2, d3⟩)
      · exact wpS_pure ⟨r, _, _, _, _, rfl, hq⟩
      dsimp only
      refine wpS_bind (wpS_lift (wpAny_rule ⟨rfl, ?_⟩))
      refine wpS_bind (wpS_mono (wpS_forRange
        (I := fun y c st' => SS κ st st' ∧ ∃ ou' ja' jb' mg ca cb, c = (none, ou', ja', jb', mg, ca, cb) ∧ MI ltb xa.toList xb.toList ou'.toList ja' jb' ∧ ja' + 1 < xa.size ∧ jb' < xb.size ∧ ja + jb + 1 ≤ ja' + jb')
        (Q := fun c st' => (∃ r ou' ja' jb' mg ca cb, c = (some r, ou', ja', jb', mg, ca, cb) ∧ Q r st') ∨ (SS κ st st' ∧ ∃ ou' ja' jb' mg ca cb, c = (none, ou', ja', jb', mg, ca, cb) ∧ MI ltb xa.toList xb.toList ou'.toList ja' jb' ∧ ja' + 1 < xa.size ∧ jb' < xb.size ∧ ja + jb + 1 ≤ ja' + jb')) ?stp2 ?fin2 ⟨ss, ou', ja', jb', _, ca, cb, rfl, m, d1, d2, d3⟩) ?post2)
      case fin2 =>
        rintro c st' hh
        exact .inr hh
      case post2 =>
        rintro c st3 (⟨r, ou2, ja2, jb2, mg2, ca2, cb2, rfl, hq⟩ | ⟨ss, ou2, ja2, jb2, mg2, ca2, cb2, rfl, m, f1, f2, f3⟩)
        · exact wpS_pure ⟨r, _, _, _, _, rfl, hq⟩
        · dsimp only
          refine wpS_bind (wpS_modify ?_)
          exact wpS_pure ⟨ss.smg _, _, _, _, _, rfl, m, f1, f2, by omega⟩
      case stp2 =>
        rintro y c st3 _ hy ⟨ss, ou2, ja2, jb2, mg2, ca2, cb2, rfl, m, f1, f2, f3⟩
        dsimp only
        obtain ⟨vb, hvb⟩ := at1 (x := xb) f2
        have sxa : ∀ (q : Nat) i j u v, i < j → j < xa.size - q → xa[q + i]? = some u → xa[q + j]? = some v → leB ltb u v := fun q i j u v hij _ hu hv => arr_le sa (by omega) hu hv
        have sxb : ∀ (q : Nat) i j u v, i < j → j < xb.size - q → xb[q + i]? = some u → xb[q + j]? = some v → leB ltb u v := fun q i j u v hij _ hu hv => arr_le sb (by omega) hu hv
        obtain ⟨vl, hvl⟩ := at1 (x := xa) (j := xa.size - 1) (by omega)
        have hbl := hlst vb (arr_mem hvb) vl hvl
        by_cases hg : mg2 > 1
        · rw [if_pos hg]
          refine wpS_bind (wpS_modify ?_)
          have ss2 := ss.smg (mg2 - 1)
          refine wpS_bind (wpS_elem hvb (wpS_bind (wpS_galR O hO ss2.kind (Sb _ (arr_mem hvb)) Sa (sxa ja2) (by omega) (by omega) fun k hk1 hk2 hk3 => ?_)))
          have hkl : k < xa.size - ja2 := by
            by_cases q : k < xa.size - ja2
            · exact q
            · have := hk2 (xa.size - ja2 - 1) (by omega) vl (by rw [show ja2 + (xa.size - ja2 - 1) = xa.size - 1 by omega]; exact hvl)
              unfold leB at this
              rw [hbl] at this; cases this
          dsimp only
          by_cases kp : k > 0
          · rw [if_pos kp]
            have M3 := m.eA O sa sb (k := k) (by omega) hvb hk2
            by_cases e0 : ja2 + k + 1 = xa.size
            · rw [if_pos (by simpa using e0)]
              exact wpS_pure (.inl ⟨_, _, _, _, _, _, _, rfl, mlast _ _ _ _ M3 e0 ss2⟩)
            rw [if_neg (by simpa using e0), if_neg (by simp; omega)]
            obtain ⟨va, hva⟩ := at1 (x := xa) (j := ja2 + k) (by omega)
            have hw := hk3 k (Nat.le_refl _) hkl va hva
            refine wpS_bind (wpS_elem hvb ?_)
            have m4 := M3.pB O sa sb hvb hva (O.asym hw)
            by_cases e1 : jb2 + 1 = xb.size
            · rw [if_pos (by simpa using e1)]
              exact wpS_pure (.inl ⟨_, _, _, _, _, _, _, rfl, mdone _ _ _ _ m4 e1 ss2⟩)
            rw [if_neg (by simpa using e1)]
            refine wpS_bind (wpS_elem hva (wpS_bind (wpS_galL O hO ss2.kind (Sa _ (arr_mem hva)) Sb (sxb (jb2 + 1)) (by omega) (by omega) fun k2 g1 g2 g3 => ?_)))
            dsimp only
            by_cases k2p : k2 > 0
            · rw [if_pos k2p]
              have m5 := m4.eB O sa sb (k := k2) (by omega) hva (fun i hi u hu => O.asym (g2 i hi u hu))
              by_cases e2 : jb2 + 1 + k2 = xb.size
              · rw [if_pos (by simpa using e2)]
                exact wpS_pure (.inl ⟨_, _, _, _, _, _, _, rfl, mdone _ _ _ _ m5 e2 ss2⟩)
              rw [if_neg (by simpa using e2)]
              obtain ⟨vb2, hvb2⟩ := at1 (x := xb) (j := jb2 + 1 + k2) (by omega)
              have m6 := m5.pA O sa sb hvb2 hva (g3 k2 (Nat.le_refl _) (by omega) vb2 hvb2)
              refine wpS_bind (wpS_elem hva ?_)
              by_cases e3 : ja2 + k + 1 + 1 = xa.size
              · rw [if_pos (by simpa using e3)]
                exact wpS_pure (.inl ⟨_, _, _, _, _, _, _, rfl, mlast _ _ _ _ m6 e3 ss2⟩)
              rw [if_neg (by simpa using e3)]
              split
              · exact wpS_pure (.inr ⟨ss2, _, _, _, _, _, _, rfl, m6, by omega, by omega, by omega⟩)
              · exact wpS_pure ⟨ss2, _, _, _, _, _, _, rfl, m6, by omega, by omega, by omega⟩
            · rw [if_neg k2p]
              obtain ⟨vb2, hvb2⟩ := at1 (x := xb) (j := jb2 + 1) (by omega)
              have m6 := m4.pA O sa sb hvb2 hva (g3 0 (by omega) (by omega) vb2 hvb2)
              refine wpS_bind (wpS_elem hva ?_)
              by_cases e3 : ja2 + k + 1 + 1 = xa.size
              · rw [if_pos (by simpa using e3)]
                exact wpS_pure (.inl ⟨_, _, _, _, _, _, _, rfl, mlast _ _ _ _ m6 e3 ss2⟩)
              rw [if_neg (by simpa using e3)]
              split
              · exact wpS_pure (.inr ⟨ss2, _, _, _, _, _, _, rfl, m6, by omega, by omega, by omega⟩)
              · exact wpS_pure ⟨ss2, _, _, _, _, _, _, rfl, m6, by omega, by omega, by omega⟩
          · rw [if_neg kp]
            have M3 := m
            obtain ⟨va, hva⟩ := at1 (x := xa) (j := ja2) (by omega)
            have hw := hk3 0 (by omega) (by omega) va hva
            refine wpS_bind (wpS_elem hvb ?_)
            have m4 := M3.pB O sa sb hvb hva (O.asym hw)
            by_cases e1 : jb2 + 1 = xb.size
            · rw [if_pos (by simpa using e1)]
              exact wpS_pure (.inl ⟨_, _, _, _, _, _, _, rfl, mdone _ _ _ _ m4 e1 ss2⟩)
            rw [if_neg (by simpa using e1)]
            refine wpS_bind (wpS_elem hva (wpS_bind (wpS_galL O hO ss2.kind (Sa _ (arr_mem hva)) Sb (sxb (jb2 + 1)) (by omega) (by omega) fun k2 g1 g2 g3 => ?_)))
            dsimp only
            by_cases k2p : k2 > 0
            · rw [if_pos k2p]
              have m5 := m4.eB O sa sb (k := k2) (by omega) hva (fun i hi u hu => O.asym (g2 i hi u hu))
              by_cases e2 : jb2 + 1 + k2 = xb.size
              · rw [if_pos (by simpa using e2)]
                exact wpS_pure (.inl ⟨_, _, _, _, _, _, _, rfl, mdone _ _ _ _ m5 e2 ss2⟩)
              rw [if_neg (by simpa using e2)]
              obtain ⟨vb2, hvb2⟩ := at1 (x := xb) (j := jb2 + 1 + k2) (by omega)
              have m6 := m5.pA O sa sb hvb2 hva (g3 k2 (Nat.le_refl _) (by omega) vb2 hvb2)
              refine wpS_bind (wpS_elem hva ?_)
              by_cases e3 : ja2 + 1 + 1 = xa.size
              · rw [if_pos (by simpa using e3)]
                exact wpS_pure (.inl ⟨_, _, _, _, _, _, _, rfl, mlast _ _ _ _ m6 e3 ss2⟩)
              rw [if_neg (by simpa using e3)]
              split
              · exact wpS_pure (.inr ⟨ss2, _, _, _, _, _, _, rfl, m6, by omega, by omega, by omega⟩)
              · exact wpS_pure ⟨ss2, _, _, _, _, _, _, rfl, m6, by omega, by omega, by omega⟩
            · rw [if_neg k2p]
              obtain ⟨vb2, hvb2⟩ := at1 (x := xb) (j := jb2 + 1) (by omega)
              have m6 := m4.pA O sa sb hvb2 hva (g3 0 (by omega) (by omega) vb2 hvb2)
              refine wpS_bind (wpS_elem hva ?_)
              by_cases e3 : ja2 + 1 + 1 = xa.size
              · rw [if_pos (by simpa using e3)]
                exact wpS_pure (.inl ⟨_, _, _, _, _, _, _, rfl, mlast _ _ _ _ m6 e3 ss2⟩)
              rw [if_neg (by simpa using e3)]
              split
              · exact wpS_pure (.inr ⟨ss2, _, _, _, _, _, _, rfl, m6, by omega, by omega, by omega⟩)
              · exact wpS_pure ⟨ss2, _, _, _, _, _, _, rfl, m6, by omega, by omega, by omega⟩
        · rw [if_neg hg]
          refine wpS_bind (wpS_modify ?_)
          have ss2 := ss.smg mg2
          refine wpS_bind (wpS_elem hvb (wpS_bind (wpS_galR O hO ss2.kind (Sb _ (arr_mem hvb)) Sa (sxa ja2) (by omega) (by omega) fun k hk1 hk2 hk3 => ?_)))
          have hkl : k < xa.size - ja2 := by
            by_cases q : k < xa.size - ja2
            · exact q
            · have := hk2 (xa.size - ja2 - 1) (by omega) vl (by rw [show ja2 + (xa.size - ja2 - 1) = xa.size - 1 by omega]; exact hvl)
              unfold leB at this
              rw [hbl] at this; cases this
          dsimp only
          by_cases kp : k > 0
          · rw [if_pos kp]
            have M3 := m.eA O sa sb (k := k) (by omega) hvb hk2
            by_cases e0 : ja2 + k + 1 = xa.size
            · rw [if_pos (by simpa using e0)]
              exact wpS_pure (.inl ⟨_, _, _, _, _, _, _, rfl, mlast _ _ _ _ M3 e0 ss2⟩)
            rw [if_neg (by simpa using e0), if_neg (by simp; omega)]
            obtain ⟨va, hva⟩ := at1 (x := xa) (j := ja2 + k) (by omega)
            have hw := hk3 k (Nat.le_refl _) hkl va hva
            refine wpS_bind (wpS_elem hvb ?_)
            have m4 := M3.pB O sa sb hvb hva (O.asym hw)
            by_cases e1 : jb2 + 1 = xb.size
            · rw [if_pos (by simpa using e1)]
              exact wpS_pure (.inl ⟨_, _, _, _, _, _, _, rfl, mdone _ _ _ _ m4 e1 ss2⟩)
            rw [if_neg (by simpa using e1)]
            refine wpS_bind (wpS_elem hva (wpS_bind (wpS_galL O hO ss2.kind (Sa _ (arr_mem hva)) Sb (sxb (jb2 + 1)) (by omega) (by omega) fun k2 g1 g2 g3 => ?_)))
            dsimp only
            by_cases k2p : k2 > 0
            · rw [if_pos k2p]
              have m5 := m4.eB O sa sb (k := k2) (by omega) hva (fun i hi u hu => O.asym (g2 i hi u hu))
              by_cases e2 : jb2 + 1 + k2 = xb.size
              · rw [if_pos (by simpa using e2)]
                exact wpS_pure (.inl ⟨_, _, _, _, _, _, _, rfl, mdone _ _ _ _ m5 e2 ss2⟩)
              rw [if_neg (by simpa using e2)]
              obtain ⟨vb2, hvb2⟩ := at1 (x := xb) (j := jb2 + 1 + k2) (by omega)
              have m6 := m5.pA O sa sb hvb2 hva (g3 k2 (Nat.le_refl _) (by omega) vb2 hvb2)
              refine wpS_bind (wpS_elem hva ?_)
              by_cases e3 : ja2 + k + 1 + 1 = xa.size
              · rw [if_pos (by simpa using e3)]
                exact wpS_pure (.inl ⟨_, _, _, _, _, _, _, rfl, mlast _ _ _ _ m6 e3 ss2⟩)
              rw [if_neg (by simpa using e3)]
              split
              · exact wpS_pure (.inr ⟨ss2, _, _, _, _, _, _, rfl, m6, by omega, by omega, by omega⟩)
              · exact wpS_pure ⟨ss2, _, _, _, _, _, _, rfl, m6, by omega, by omega, by omega⟩
            · rw [if_neg k2p]
              obtain ⟨vb2, hvb2⟩ := at1 (x := xb) (j := jb2 + 1) (by omega)
              have m6 := m4.pA O sa sb hvb2 hva (g3 0 (by omega) (by omega) vb2 hvb2)
              refine wpS_bind (wpS_elem hva ?_)
              by_cases e3 : ja2 + k + 1 + 1 = xa.size
              · rw [if_pos (by simpa using e3)]
                exact wpS_pure (.inl ⟨_, _, _, _, _, _, _, rfl, mlast _ _ _ _ m6 e3 ss2⟩)
              rw [if_neg (by simpa using e3)]
              split
              · exact wpS_pure (.inr ⟨ss2, _, _, _, _, _, _, rfl, m6, by omega, by omega, by omega⟩)
              · exact wpS_pure ⟨ss2, _, _, _, _, _, _, rfl, m6, by omega, by omega, by omega⟩
          · rw [if_neg kp]
            have M3 := m
            obtain ⟨va, hva⟩ := at1 (x := xa) (j := ja2) (by omega)
            have hw := hk3 0 (by omega) (by omega) va hva
            refine wpS_bind (wpS_elem hvb ?_)
            have m4 := M3.pB O sa sb hvb hva (O.asym hw)
            by_cases e1 : jb2 + 1 = xb.size
            · rw [if_pos (by simpa using e1)]
              exact wpS_pure (.inl ⟨_, _, _, _, _, _, _, rfl, mdone _ _ _ _ m4 e1 ss2⟩)
            rw [if_neg (by simpa using e1)]
            refine wpS_bind (wpS_elem hva (wpS_bind (wpS_galL O hO ss2.kind (Sa _ (arr_mem hva)) Sb (sxb (jb2 + 1)) (by omega) (by omega) fun k2 g1 g2 g3 => ?_)))
            dsimp only
            by_cases k2p : k2 > 0
            · rw [if_pos k2p]
              have m5 := m4.eB O sa sb (k := k2) (by omega) hva (fun i hi u hu => O.asym (g2 i hi u hu))
              by_cases e2 : jb2 + 1 + k2 = xb.size
              · rw [if_pos (by simpa using e2)]
                exact wpS_pure (.inl ⟨_, _, _, _, _, _, _, rfl, mdone _ _ _ _ m5 e2 ss2⟩)
              rw [if_neg (by simpa using e2)]
              obtain ⟨vb2, hvb2⟩ := at1 (x := xb) (j := jb2 + 1 + k2) (by omega)
              have m6 := m5.pA O sa sb hvb2 hva (g3 k2 (Nat.le_refl _) (by omega) vb2 hvb2)
              refine wpS_bind (wpS_elem hva ?_)
              by_cases e3 : ja2 + 1 + 1 = xa.size
              · rw [if_pos (by simpa using e3)]
                exact wpS_pure (.inl ⟨_, _, _, _, _, _, _, rfl, mlast _ _ _ _ m6 e3 ss2⟩)
              rw [if_neg (by simpa using e3)]
              split
              · exact wpS_pure (.inr ⟨ss2, _, _, _, _, _, _, rfl, m6, by omega, by omega, by omega⟩)
              · exact wpS_pure ⟨ss2, _, _, _, _, _, _, rfl, m6, by omega, by omega, by omega⟩
            · rw [if_neg k2p]
              obtain ⟨vb2, hvb2⟩ := at1 (x := xb) (j := jb2 + 1) (by omega)
              have m6 := m4.pA O sa sb hvb2 hva (g3 0 (by omega) (by omega) vb2 hvb2)
              refine wpS_bind (wpS_elem hva ?_)
              by_cases e3 : ja2 + 1 + 1 = xa.size
              · rw [if_pos (by simpa using e3)]
                exact wpS_pure (.inl ⟨_, _, _, _, _, _, _, rfl, mlast _ _ _ _ m6 e3 ss2⟩)
              rw [if_neg (by simpa using e3)]
              split
              · exact wpS_pure (.inr ⟨ss2, _, _, _, _, _, _, rfl, m6, by omega, by omega, by omega⟩)
              · exact wpS_pure ⟨ss2, _, _, _, _, _, _, rfl, m6, by omega, by omega, by omega⟩
end
end L2

/-! mergeHi, by the other order of the reversed ones -/
namespace L2
open PySem PySem.Spec PyProof.Rows
def mhiS : Array Keyed → Array Keyed → StateT SortSt Sem (Array Keyed) := sortPriv% PySem.Builtin.mergeHi
def dhS (xa xb ou : Array Keyed) (na nb : Nat) : Array Keyed := xa.extract 0 na ++ xb.extract 0 nb ++ ou.reverse
def fhS (xa xb ou : Array Keyed) (na nb : Nat) : Array Keyed := xb.extract 0 nb ++ xa.extract 0 na ++ ou.reverse
theorem mhiS_eq (xa xb : Array Keyed) : mhiS xa xb = (do
  rule "list.sort.merge-hi"
  let mut qa := xa.size - 1
  let mut qb := xb.size
  let mut ou : Array Keyed := #[← elem' xa qa]
  if qa == 0 then return dhS xa xb ou qa qb
  if qb == 1 then return fhS xa xb ou qa qb
  let mut mg := gallopOf (← get)
  for _ in [0:xa.size + xb.size] do
    let mut ca := 0
    let mut cb := 0
    for _ in [0:xa.size + xb.size] do
      let some aw ← lt' (← elem' xb (qb - 1)) (← elem' xa (qa - 1)) | return dhS xa xb ou qa qb
      if aw then
        qa := qa - 1; ou := ou.push (← elem' xa qa); ca := ca + 1; cb := 0
        if qa == 0 then return dhS xa xb ou qa qb
        if ca ≥ mg then break
      else
        qb := qb - 1; ou := ou.push (← elem' xb qb); cb := cb + 1; ca := 0
        if qb == 1 then return fhS xa xb ou qa qb
        if cb ≥ mg then break
    rule "list.sort.gallop"
    mg := mg + 1
    for _ in [0:xa.size + xb.size] do
      if mg > 1 then mg := mg - 1
      smgS mg
      let some tt ← galS false (← elem' xb (qb - 1)) xa 0 qa (qa - 1) | return dhS xa xb ou qa qb
      let kk := qa - tt
      ca := kk
      if kk > 0 then
        ou := ou ++ (xa.extract tt qa).reverse; qa := tt
        if qa == 0 then return dhS xa xb ou qa qb
      qb := qb - 1; ou := ou.push (← elem' xb qb)
      if qb == 1 then return fhS xa xb ou qa qb
      let some tt ← galS true (← elem' xa (qa - 1)) xb 0 qb (qb - 1) | return dhS xa xb ou qa qb
      let kk := qb - tt
      cb := kk
      if kk > 0 then
        ou := ou ++ (xb.extract tt qb).reverse; qb := tt
        if qb == 1 then return fhS xa xb ou qa qb
        if qb == 0 then return dhS xa xb ou qa qb
      qa := qa - 1; ou := ou.push (← elem' xa qa)
      if qa == 0 then return dhS xa xb ou qa qb
      if ca < 7 && cb < 7 then break
    mg := mg + 1
    smgS mg
  unsupported "internal:list.sort.merge-bound") := rfl
def flipB (ltb : Keyed → Keyed → Bool) : Keyed → Keyed → Bool := fun x y => ltb y x
theorem OrdB.flip {ltb : Keyed → Keyed → Bool} (O : OrdB ltb) : OrdB (flipB ltb) := ⟨fun h => O.asym h, fun h1 h2 => O.tr h2 h1⟩
section
variable {ltb : Keyed → Keyed → Bool} {xa xb ou : Array Keyed} {na nb k : Nat}
theorem rev_rise {l : List Keyed} (h : l.Pairwise (leB ltb)) : l.reverse.Pairwise (leB (flipB ltb)) := by
  rw [List.pairwise_reverse]
  exact h
theorem rise_rev {l : List Keyed} (h : l.Pairwise (leB (flipB ltb))) : l.reverse.Pairwise (leB ltb) := by
  rw [List.pairwise_reverse]
  exact h
/-- what has been merged from the end on -/
def HI (ltb : Keyed → Keyed → Bool) (xa xb ou : Array Keyed) (na nb : Nat) : Prop := MI (flipB ltb) xb.toList.reverse xa.toList.reverse ou.toList (xb.size - nb) (xa.size - na)
theorem rev_drop (x : Array Keyed) {n : Nat} (h : n ≤ x.size) : x.toList.reverse.drop (x.size - n) = (x.toList.take n).reverse := by
  rw [List.drop_reverse, Array.length_toList, show x.size - (x.size - n) = n by omega]
theorem rev_part (x : Array Keyed) {n t : Nat} (h : n ≤ x.size) (ht : t ≤ n) : (x.toList.reverse.drop (x.size - n)).take (n - t) = ((x.toList.take n).drop t).reverse := by
  rw [rev_drop x h, List.take_reverse, List.length_take, Array.length_toList, show min n x.size - (n - t) = t by omega]
theorem rev_get (x : Array Keyed) {n : Nat} (h1 : 1 ≤ n) (h : n ≤ x.size) : x.toList.reverse[x.size - n]? = x[n - 1]? := by
  rw [List.getElem?_reverse (by rw [Array.length_toList]; omega), Array.length_toList]
  rw [show x.size - 1 - (x.size - n) = n - 1 by omega]
  simp
theorem HI.chA (O : OrdB ltb) (sa : xa.toList.Pairwise (leB ltb)) (sb : xb.toList.Pairwise (leB ltb)) (m : HI ltb xa xb ou na nb) {t : Nat} (ha : na ≤ xa.size) (ht : t ≤ na) (hb1 : 1 ≤ nb) (hb : nb ≤ xb.size) {b : Keyed} (hvb : xb[nb - 1]? = some b)
    (c : ∀ i, t ≤ i → i < na → ∀ x, xa[i]? = some x → leB ltb b x) {ou2 : Array Keyed} (eo : ou2.toList = ou.toList ++ ((xa.toList.take na).drop t).reverse) : HI ltb xa xb ou2 t nb := by
  have q := MI.stepB O.flip (rev_rise sb) (rev_rise sa) m (k := na - t) (by rw [List.length_reverse, Array.length_toList]; omega) (z := b) (by rw [rev_get xb hb1 hb]; exact hvb) (fun y hy => by
    rw [rev_part xa ha ht, List.mem_reverse] at hy
    obtain ⟨i, hi, e⟩ := List.getElem_of_mem hy
    rw [List.length_drop, List.length_take, Array.length_toList] at hi
    rw [List.getElem_drop, List.getElem_take] at e
    exact c (t + i) (by omega) (by omega) y (by rw [Array.getElem?_eq_getElem (by omega)]; simpa using e))
  rw [rev_part xa ha ht, ← eo] at q
  unfold HI
  rw [show xa.size - t = xa.size - na + (na - t) by omega]
  exact q
theorem HI.chB (O : OrdB ltb) (sa : xa.toList.Pairwise (leB ltb)) (sb : xb.toList.Pairwise (leB ltb)) (m : HI ltb xa xb ou na nb) {t : Nat} (hb : nb ≤ xb.size) (ht : t ≤ nb) (ha1 : 1 ≤ na) (ha : na ≤ xa.size) {a : Keyed} (hva : xa[na - 1]? = some a)
    (c : ∀ i, t ≤ i → i < nb → ∀ x, xb[i]? = some x → leB ltb a x) {ou2 : Array Keyed} (eo : ou2.toList = ou.toList ++ ((xb.toList.take nb).drop t).reverse) : HI ltb xa xb ou2 na t := by
  have q := MI.stepA O.flip (rev_rise sb) (rev_rise sa) m (k := nb - t) (by rw [List.length_reverse, Array.length_toList]; omega) (z := a) (by rw [rev_get xa ha1 ha]; exact hva) (fun y hy => by
    rw [rev_part xb hb ht, List.mem_reverse] at hy
    obtain ⟨i, hi, e⟩ := List.getElem_of_mem hy
    rw [List.length_drop, List.length_take, Array.length_toList] at hi
    rw [List.getElem_drop, List.getElem_take] at e
    exact c (t + i) (by omega) (by omega) y (by rw [Array.getElem?_eq_getElem (by omega)]; simpa using e))
  rw [rev_part xb hb ht, ← eo] at q
  unfold HI
  rw [show xb.size - t = xb.size - nb + (nb - t) by omega]
  exact q
theorem one_rev {x : Array Keyed} {n : Nat} (h1 : 1 ≤ n) (h : n ≤ x.size) {v : Keyed} (hv : x[n - 1]? = some v) : ((x.toList.take n).drop (n - 1)).reverse = [v] := by
  have e := (Array.getElem?_eq_some_iff.mp hv).2
  rw [List.drop_eq_getElem_cons (by rw [List.length_take, Array.length_toList]; omega)]
  rw [List.drop_eq_nil_of_le (by rw [List.length_take, Array.length_toList]; omega)]
  rw [List.getElem_take]
  simp [e]
theorem HI.done (sb : xb.toList.Pairwise (leB ltb)) (m : HI ltb xa xb ou 0 nb) (hb : nb ≤ xb.size) : (dhS xa xb ou 0 nb).toList.Pairwise (leB ltb) ∧ (dhS xa xb ou 0 nb).toList.Perm (xa.toList ++ xb.toList) := by
  obtain ⟨p1, p2⟩ := MI.done (rev_rise sb) m (by rw [List.length_reverse, Array.length_toList]; omega)
  have el : (dhS xa xb ou 0 nb).toList = (ou.toList ++ xb.toList.reverse.drop (xb.size - nb) ++ xa.toList.reverse.drop (xa.size - 0)).reverse := by
    unfold dhS
    rw [rev_drop xb hb, rev_drop xa (Nat.zero_le _)]
    simp
  rw [el]
  refine ⟨rise_rev p1, ((List.reverse_perm _).trans p2).trans ?_⟩
  refine List.perm_append_comm.trans ?_
  exact List.Perm.append (List.reverse_perm _) (List.reverse_perm _)
theorem HI.first (sa : xa.toList.Pairwise (leB ltb)) (sb : xb.toList.Pairwise (leB ltb)) (m : HI ltb xa xb ou na nb) (ha : na ≤ xa.size) (hb : nb ≤ xb.size) (h : ∀ x ∈ xa.toList, ∀ y ∈ xb.toList.take nb, leB ltb y x) :
    (fhS xa xb ou na nb).toList.Pairwise (leB ltb) ∧ (fhS xa xb ou na nb).toList.Perm (xa.toList ++ xb.toList) := by
  obtain ⟨p1, p2⟩ := MI.last (rev_rise sb) (rev_rise sa) m (fun x hx y hy => by
    rw [rev_drop xb hb, List.mem_reverse] at hy
    exact h x (List.mem_reverse.mp hx) y hy)
  have el : (fhS xa xb ou na nb).toList = (ou.toList ++ xa.toList.reverse.drop (xa.size - na) ++ xb.toList.reverse.drop (xb.size - nb)).reverse := by
    unfold fhS
    rw [rev_drop xb hb, rev_drop xa ha]
    simp
  rw [el]
  refine ⟨rise_rev p1, ((List.reverse_perm _).trans p2).trans ?_⟩
  refine List.perm_append_comm.trans ?_
  exact List.Perm.append (List.reverse_perm _) (List.reverse_perm _)
end
end L2

/-! mergeHi, walked -/
namespace L2
open PySem PySem.Spec PyProof.Rows
section
variable {prog : Program} {w : World} {A : Around} {E : Value → Shared → Prop} {s : Shared} {ltb : Keyed → Keyed → Bool} {S : Keyed → Prop} {κ : SortKind}
theorem wpS_mhi (O : OrdB ltb) (hO : LtOk prog w A E s ltb S κ) {xa xb : Array Keyed} {st : SortSt} {Q : Array Keyed → SortSt → Prop} (Sa : ∀ x ∈ xa.toList, S x) (Sb : ∀ x ∈ xb.toList, S x) (sa : xa.toList.Pairwise (leB ltb)) (sb : xb.toList.Pairwise (leB ltb))
    {z zl : Keyed} (hz : xb[0]? = some z) (hfst : ∀ y ∈ xa.toList, ltb z y = true) (hzl : xa[xa.size - 1]? = some zl) (hlst : ∀ x ∈ xb.toList, ltb x zl = true) (hS : SS κ st st)
    (h : ∀ r st', r.toList.Pairwise (leB ltb) → r.toList.Perm (xa.toList ++ xb.toList) → SS κ st st' → Q r st') : wpS (model prog w) A E s (mhiS xa xb) Q st := by
  have hb0 : 0 < xb.size := (Array.getElem?_eq_some_iff.mp hz).1
  have ha0 : 0 < xa.size := by have := (Array.getElem?_eq_some_iff.mp hzl).1; omega
  have mdone : ∀ (ou : Array Keyed) (na nb : Nat) (st' : SortSt), HI ltb xa xb ou na nb → na = 0 → nb ≤ xb.size → SS κ st st' → Q (dhS xa xb ou na nb) st' := fun ou na nb st' m e hb ss => by
    subst e
    obtain ⟨p1, p2⟩ := m.done sb hb
    exact h _ _ p1 p2 ss
  have mfirst : ∀ (ou : Array Keyed) (na nb : Nat) (st' : SortSt), HI ltb xa xb ou na nb → nb = 1 → na ≤ xa.size → SS κ st st' → Q (fhS xa xb ou na nb) st' := fun ou na nb st' m e ha ss => by
    subst e
    obtain ⟨p1, p2⟩ := m.first sa sb ha (by omega) (fun x hx y hy => by
      have e1 : xb.toList.take 1 = [z] := by have := one_at hz; simpa using this
      rw [e1] at hy
      simp at hy
      rw [hy]
      exact O.asym (hfst x hx))
    exact h _ _ p1 p2 ss
  have mi0 : HI ltb xa xb #[zl] (xa.size - 1) xb.size := by
    unfold HI
    rw [Nat.sub_self, show xa.size - (xa.size - 1) = 1 by omega]
    refine MI.start (y0 := zl) (rev_rise sa) ?_ (fun y hy => O.asym (hlst y (List.mem_reverse.mp hy)))
    have := rev_get xa (n := xa.size) (by omega) (Nat.le_refl _)
    rw [Nat.sub_self] at this
    rw [this]; exact hzl
  have at1 : ∀ {x : Array Keyed} {j : Nat}, j < x.size → ∃ u, x[j]? = some u := fun {x j} hj => ⟨_, Array.getElem?_eq_getElem hj⟩
  have push1 : ∀ (ou : Array Keyed) {x : Array Keyed} {n : Nat} {v : Keyed}, 1 ≤ n → n ≤ x.size → x[n - 1]? = some v → (ou.push v).toList = ou.toList ++ ((x.toList.take n).drop (n - 1)).reverse := fun ou x n v h1 h2 h3 => by
    rw [one_rev h1 h2 h3]; simp
  have ext1 : ∀ (ou x : Array Keyed) (t n : Nat), (ou ++ (x.extract t n).reverse).toList = ou.toList ++ ((x.toList.take n).drop t).reverse := fun ou x t n => by
    rw [Array.toList_append, Array.toList_reverse, Array.toList_extract]
    show ou.toList ++ (List.take (n - t) (List.drop t x.toList)).reverse = _
    rw [List.drop_take]
  rw [mhiS_eq]
  refine wpS_bind (wpS_lift (wpAny_rule ⟨rfl, ?_⟩))
  refine wpS_bind (wpS_elem hzl ?_)
  by_cases c1 : xa.size - 1 = 0
  · rw [if_pos (by simpa using c1)]
    exact wpS_pure (mdone #[zl] _ _ st mi0 c1 (Nat.le_refl _) hS)
  rw [if_neg (by simpa using c1)]
  by_cases c2 : xb.size = 1
  · rw [if_pos (by simpa using c2)]
    exact wpS_pure (mfirst #[zl] _ _ st mi0 c2 (by omega) hS)
  rw [if_neg (by simpa using c2)]
  refine wpS_bind (wpS_get ?_)
  refine wpS_bind (wpS_mono (wpS_forRange
    (I := fun x c st' => SS κ st st' ∧ ∃ qa qb ou mg, c = (none, qa, qb, ou, mg) ∧ HI ltb xa xb ou qa qb ∧ 1 ≤ qa ∧ qa ≤ xa.size ∧ 2 ≤ qb ∧ qb ≤ xb.size ∧ x + 1 + qa + qb ≤ xa.size + xb.size)
    (Q := fun c st' => ∃ r qa qb ou mg, c = (some r, qa, qb, ou, mg) ∧ Q r st') ?stp ?fin ⟨hS, _, _, #[zl], _, rfl, mi0, by omega, by omega, by omega, by omega, by omega⟩) ?post)
  case fin =>
    rintro c st' ⟨ss, qa, qb, ou, mg, rfl, m, b1, b2, b3, b4, b5⟩
    omega
  case post =>
    rintro c st' ⟨r, qa, qb, ou, mg, rfl, hq⟩
    exact wpS_pure hq
  case stp =>
    rintro x c st1 _ hx ⟨ss, qa0, qb0, ou, mg, rfl, m, b1, b2, b3, b4, b5⟩
    dsimp only
    refine wpS_bind (wpS_mono (wpS_forRange
      (I := fun y c st' => SS κ st st' ∧ ∃ qa qb ou ca cb, c = (none, qa, qb, ou, ca, cb) ∧ HI ltb xa xb ou qa qb ∧ 1 ≤ qa ∧ qa ≤ xa.size ∧ 2 ≤ qb ∧ qb ≤ xb.size ∧ y + qa + qb ≤ qa0 + qb0)
      (Q := fun c st' => (∃ r qa qb ou ca cb, c = (some r, qa, qb, ou, ca, cb) ∧ Q r st') ∨ (SS κ st st' ∧ ∃ qa qb ou ca cb, c = (none, qa, qb, ou, ca, cb) ∧ HI ltb xa xb ou qa qb ∧ 1 ≤ qa ∧ qa ≤ xa.size ∧ 2 ≤ qb ∧ qb ≤ xb.size ∧ 1 + qa + qb ≤ qa0 + qb0)) ?stp1 ?fin1 ⟨ss, _, _, ou, 0, 0, rfl, m, b1, b2, b3, b4, by omega⟩) ?post1)
    case fin1 =>
      rintro c st' ⟨ss, qa, qb, ou, ca, cb, rfl, m, d1, d2, d3, d4, d5⟩
      exact .inr ⟨ss, _, _, _, _, _, rfl, m, d1, d2, d3, d4, by omega⟩
    case stp1 =>
      rintro y c st2 _ hy ⟨ss, qa, qb, ou, ca, cb, rfl, m, d1, d2, d3, d4, d5⟩
      dsimp only
      obtain ⟨vb, hvb⟩ := at1 (x := xb) (j := qb - 1) (by omega)
      obtain ⟨va, hva⟩ := at1 (x := xa) (j := qa - 1) (by omega)
      refine wpS_bind (wpS_elem hvb (wpS_bind (wpS_elem hva (wpS_bind (hO vb va _ _ (Sb _ (arr_mem hvb)) (Sa _ (arr_mem hva)) ss.kind ?_)))))
      dsimp only
      cases hw : ltb vb va with
      | true =>
        simp only [if_true]
        have m2 : HI ltb xa xb (ou.push va) (qa - 1) qb := m.chA O sa sb d2 (by omega) (by omega) d4 hvb (fun i h1 h2 u hu => by
          obtain rfl : i = qa - 1 := by omega
          rw [hva] at hu; cases hu; exact O.asym hw) (push1 ou d1 d2 hva)
        refine wpS_bind (wpS_elem hva ?_)
        by_cases e1 : qa - 1 = 0
        · rw [if_pos (by simpa using e1)]
          exact wpS_pure (.inl ⟨_, _, _, _, _, _, rfl, mdone _ _ _ _ m2 e1 d4 ss⟩)
        · rw [if_neg (by simpa using e1)]
          split
          · exact wpS_pure (.inr ⟨ss, _, _, _, _, _, rfl, m2, by omega, by omega, d3, d4, by omega⟩)
          · exact wpS_pure ⟨ss, _, _, _, _, _, rfl, m2, by omega, by omega, d3, d4, by omega⟩
      | false =>
        simp only [Bool.false_eq_true, if_false]
        have m2 : HI ltb xa xb (ou.push vb) qa (qb - 1) := m.chB O sa sb d4 (by omega) d1 d2 hva (fun i h1 h2 u hu => by
          obtain rfl : i = qb - 1 := by omega
          rw [hvb] at hu; cases hu; exact hw) (push1 ou (by omega) d4 hvb)
        refine wpS_bind (wpS_elem hvb ?_)
        by_cases e1 : qb - 1 = 1
        · rw [if_pos (by simpa using e1)]
          exact wpS_pure (.inl ⟨_, _, _, _, _, _, rfl, mfirst _ _ _ _ m2 e1 d2 ss⟩)
        · rw [if_neg (by simpa using e1)]
          split
          · exact wpS_pure (.inr ⟨ss, _, _, _, _, _, rfl, m2, d1, d2, by omega, by omega, by omega⟩)
          · exact wpS_pure ⟨ss, _, _, _, _, _, rfl, m2, d1, d2, by omega, by omega, by omega⟩
    case post1 =>
      rintro c st2 (⟨r, qa, qb, ou, ca, cb, rfl, hq⟩ | ⟨ss, qa1, qb1, ou, ca, cb, rfl, m, d1, d2, d3, d4, d5⟩)
      · exact wpS_pure ⟨r, _, _, _, _, rfl, hq⟩
      dsimp only
      refine wpS_bind (wpS_lift (wpAny_rule ⟨rfl, ?_⟩))
      refine wpS_bind (wpS_mono (wpS_forRange
        (I := fun y c st' => SS κ st st' ∧ ∃ qa qb ou mg ca cb, c = (none, qa, qb, ou, mg, ca, cb) ∧ HI ltb xa xb ou qa qb ∧ 1 ≤ qa ∧ qa ≤ xa.size ∧ 2 ≤ qb ∧ qb ≤ xb.size ∧ 1 + qa + qb ≤ qa0 + qb0)
        (Q := fun c st' => (∃ r qa qb ou mg ca cb, c = (some r, qa, qb, ou, mg, ca, cb) ∧ Q r st') ∨ (SS κ st st' ∧ ∃ qa qb ou mg ca cb, c = (none, qa, qb, ou, mg, ca, cb) ∧ HI ltb xa xb ou qa qb ∧ 1 ≤ qa ∧ qa ≤ xa.size ∧ 2 ≤ qb ∧ qb ≤ xb.size ∧ 1 + qa + qb ≤ qa0 + qb0)) ?stp2 ?fin2 ⟨ss, _, _, _, _, ca, cb, rfl, m, d1, d2, d3, d4, d5⟩) ?post2)
      case fin2 =>
        rintro c st' hh
        exact .inr hh
      case post2 =>
        rintro c st3 (⟨r, qa, qb, ou2, mg2, ca2, cb2, rfl, hq⟩ | ⟨ss, qa, qb, ou2, mg2, ca2, cb2, rfl, m, f1, f2, f3, f4, f5⟩)
        · exact wpS_pure ⟨r, _, _, _, _, rfl, hq⟩
        · dsimp only
          refine wpS_bind (wpS_modify ?_)
          exact wpS_pure ⟨ss.smg _, _, _, _, _, rfl, m, f1, f2, f3, f4, by omega⟩
      case stp2 =>
        rintro y c st3 _ hy ⟨ss, qa, qb, ou2, mg2, ca2, cb2, rfl, m, f1, f2, f3, f4, f5⟩
        dsimp only
        obtain ⟨vb, hvb⟩ := at1 (x := xb) (j := qb - 1) (by omega)
        have sxa : ∀ (q : Nat) i j u v, i < j → j < q → xa[0 + i]? = some u → xa[0 + j]? = some v → leB ltb u v := fun q i j u v hij _ hu hv => arr_le sa (by omega) hu hv
        have sxb : ∀ (q : Nat) i j u v, i < j → j < q → xb[0 + i]? = some u → xb[0 + j]? = some v → leB ltb u v := fun q i j u v hij _ hu hv => arr_le sb (by omega) hu hv
        by_cases hg : mg2 > 1
        · rw [if_pos hg]
          refine wpS_bind (wpS_modify ?_)
          have ss2 := ss.smg (mg2 - 1)
          refine wpS_bind (wpS_elem hvb (wpS_bind (wpS_galR O hO ss2.kind (Sb _ (arr_mem hvb)) Sa (sxa qa) (by omega) (by omega) fun tt hk1 hk2 hk3 => ?_)))
          dsimp only
          by_cases kp : qa - tt > 0
          · rw [if_pos kp]
            have M3 := m.chA O sa sb f2 (t := tt) (by omega) (by omega) f4 hvb (fun i h1 h2 u hu => O.asym (hk3 i h1 h2 u (by rw [Nat.zero_add]; exact hu))) (ext1 _ xa tt qa)
            by_cases e0 : tt = 0
            · rw [if_pos (by simpa using e0)]
              exact wpS_pure (.inl ⟨_, _, _, _, _, _, _, rfl, mdone _ _ _ _ M3 e0 f4 ss2⟩)
            rw [if_neg (by simpa using e0)]
            have QA1 : 1 ≤ tt := by omega
            obtain ⟨va, hva⟩ := at1 (x := xa) (j := tt - 1) (by omega)
            have hle : leB ltb va vb := hk2 (tt - 1) (by omega) va (by rw [Nat.zero_add]; exact hva)
            have m4 := M3.chB O sa sb f4 (t := qb - 1) (by omega) QA1 (by omega) hva (fun i h1 h2 u hu => by
              obtain rfl : i = qb - 1 := by omega
              rw [hvb] at hu; cases hu; exact hle) (push1 _ (by omega) f4 hvb)
            refine wpS_bind (wpS_elem hvb ?_)
            by_cases e1 : qb - 1 = 1
            · rw [if_pos (by simpa using e1)]
              exact wpS_pure (.inl ⟨_, _, _, _, _, _, _, rfl, mfirst _ _ _ _ m4 e1 (by omega) ss2⟩)
            rw [if_neg (by simpa using e1)]
            refine wpS_bind (wpS_elem hva (wpS_bind (wpS_galL O hO ss2.kind (Sa _ (arr_mem hva)) Sb (sxb (qb - 1)) (by omega) (by omega) fun t2 g1 g2 g3 => ?_)))
            have ht2 : 0 < t2 := by
              rcases Nat.eq_zero_or_pos t2 with q | q
              · have := g3 0 (by omega) (by omega) z (by rw [Nat.zero_add]; exact hz)
                unfold leB at this
                rw [hfst va (arr_mem hva)] at this; cases this
              · exact q
            dsimp only
            by_cases k2p : qb - 1 - t2 > 0
            · rw [if_pos k2p]
              have m5 := m4.chB O sa sb (by omega) (t := t2) (by omega) QA1 (by omega) hva (fun i h1 h2 u hu => g3 i h1 (by omega) u (by rw [Nat.zero_add]; exact hu)) (ext1 _ xb t2 (qb - 1))
              by_cases e2 : t2 = 1
              · rw [if_pos (by simpa using e2)]
                exact wpS_pure (.inl ⟨_, _, _, _, _, _, _, rfl, mfirst _ _ _ _ m5 e2 (by omega) ss2⟩)
              rw [if_neg (by simpa using e2), if_neg (by simp; omega)]
              obtain ⟨vb2, hvb2⟩ := at1 (x := xb) (j := t2 - 1) (by omega)
              have m6 := m5.chA O sa sb (by omega) (t := tt - 1) (by omega) (by omega) (by omega) hvb2 (fun i h1 h2 u hu => by
                obtain rfl : i = tt - 1 := by omega
                rw [hva] at hu; cases hu; exact O.asym (g2 (t2 - 1) (by omega) vb2 (by rw [Nat.zero_add]; exact hvb2))) (push1 _ QA1 (by omega) hva)
              refine wpS_bind (wpS_elem hva ?_)
              by_cases e3 : tt - 1 = 0
              · rw [if_pos (by simpa using e3)]
                exact wpS_pure (.inl ⟨_, _, _, _, _, _, _, rfl, mdone _ _ _ _ m6 e3 (by omega) ss2⟩)
              rw [if_neg (by simpa using e3)]
              split
              · exact wpS_pure (.inr ⟨ss2, _, _, _, _, _, _, rfl, m6, by omega, by omega, by omega, by omega, by omega⟩)
              · exact wpS_pure ⟨ss2, _, _, _, _, _, _, rfl, m6, by omega, by omega, by omega, by omega, by omega⟩
            · rw [if_neg k2p]
              have et : t2 = qb - 1 := by omega
              obtain ⟨vb2, hvb2⟩ := at1 (x := xb) (j := qb - 1 - 1) (by omega)
              have m6 := m4.chA O sa sb (by omega) (t := tt - 1) (by omega) (by omega) (by omega) hvb2 (fun i h1 h2 u hu => by
                obtain rfl : i = tt - 1 := by omega
                rw [hva] at hu; cases hu; exact O.asym (g2 (qb - 1 - 1) (by omega) vb2 (by rw [Nat.zero_add]; exact hvb2))) (push1 _ QA1 (by omega) hva)
              refine wpS_bind (wpS_elem hva ?_)
              by_cases e3 : tt - 1 = 0
              · rw [if_pos (by simpa using e3)]
                exact wpS_pure (.inl ⟨_, _, _, _, _, _, _, rfl, mdone _ _ _ _ m6 e3 (by omega) ss2⟩)
              rw [if_neg (by simpa using e3)]
              split
              · exact wpS_pure (.inr ⟨ss2, _, _, _, _, _, _, rfl, m6, by omega, by omega, by omega, by omega, by omega⟩)
              · exact wpS_pure ⟨ss2, _, _, _, _, _, _, rfl, m6, by omega, by omega, by omega, by omega, by omega⟩
          · rw [if_neg kp]
            have et0 : tt = qa := by omega
            have M3 := m
            have QA1 : 1 ≤ qa := f1
            obtain ⟨va, hva⟩ := at1 (x := xa) (j := qa - 1) (by omega)
            have hle : leB ltb va vb := hk2 (qa - 1) (by omega) va (by rw [Nat.zero_add]; exact hva)
            have m4 := M3.chB O sa sb f4 (t := qb - 1) (by omega) QA1 (by omega) hva (fun i h1 h2 u hu => by
              obtain rfl : i = qb - 1 := by omega
              rw [hvb] at hu; cases hu; exact hle) (push1 _ (by omega) f4 hvb)
            refine wpS_bind (wpS_elem hvb ?_)
            by_cases e1 : qb - 1 = 1
            · rw [if_pos (by simpa using e1)]
              exact wpS_pure (.inl ⟨_, _, _, _, _, _, _, rfl, mfirst _ _ _ _ m4 e1 (by omega) ss2⟩)
            rw [if_neg (by simpa using e1)]
            refine wpS_bind (wpS_elem hva (wpS_bind (wpS_galL O hO ss2.kind (Sa _ (arr_mem hva)) Sb (sxb (qb - 1)) (by omega) (by omega) fun t2 g1 g2 g3 => ?_)))
            have ht2 : 0 < t2 := by
              rcases Nat.eq_zero_or_pos t2 with q | q
              · have := g3 0 (by omega) (by omega) z (by rw [Nat.zero_add]; exact hz)
                unfold leB at this
                rw [hfst va (arr_mem hva)] at this; cases this
              · exact q
            dsimp only
            by_cases k2p : qb - 1 - t2 > 0
            · rw [if_pos k2p]
              have m5 := m4.chB O sa sb (by omega) (t := t2) (by omega) QA1 (by omega) hva (fun i h1 h2 u hu => g3 i h1 (by omega) u (by rw [Nat.zero_add]; exact hu)) (ext1 _ xb t2 (qb - 1))
              by_cases e2 : t2 = 1
              · rw [if_pos (by simpa using e2)]
                exact wpS_pure (.inl ⟨_, _, _, _, _, _, _, rfl, mfirst _ _ _ _ m5 e2 (by omega) ss2⟩)
              rw [if_neg (by simpa using e2), if_neg (by simp; omega)]
              obtain ⟨vb2, hvb2⟩ := at1 (x := xb) (j := t2 - 1) (by omega)
              have m6 := m5.chA O sa sb (by omega) (t := qa - 1) (by omega) (by omega) (by omega) hvb2 (fun i h1 h2 u hu => by
                obtain rfl : i = qa - 1 := by omega
                rw [hva] at hu; cases hu; exact O.asym (g2 (t2 - 1) (by omega) vb2 (by rw [Nat.zero_add]; exact hvb2))) (push1 _ QA1 (by omega) hva)
              refine wpS_bind (wpS_elem hva ?_)
              by_cases e3 : qa - 1 = 0
              · rw [if_pos (by simpa using e3)]
                exact wpS_pure (.inl ⟨_, _, _, _, _, _, _, rfl, mdone _ _ _ _ m6 e3 (by omega) ss2⟩)
              rw [if_neg (by simpa using e3)]
              split
              · exact wpS_pure (.inr ⟨ss2, _, _, _, _, _, _, rfl, m6, by omega, by omega, by omega, by omega, by omega⟩)
              · exact wpS_pure ⟨ss2, _, _, _, _, _, _, rfl, m6, by omega, by omega, by omega, by omega, by omega⟩
            · rw [if_neg k2p]
              have et : t2 = qb - 1 := by omega
              obtain ⟨vb2, hvb2⟩ := at1 (x := xb) (j := qb - 1 - 1) (by omega)
              have m6 := m4.chA O sa sb (by omega) (t := qa - 1) (by omega) (by omega) (by omega) hvb2 (fun i h1 h2 u hu => by
                obtain rfl : i = qa - 1 := by omega
                rw [hva] at hu; cases hu; exact O.asym (g2 (qb - 1 - 1) (by omega) vb2 (by rw [Nat.zero_add]; exact hvb2))) (push1 _ QA1 (by omega) hva)
              refine wpS_bind (wpS_elem hva ?_)
              by_cases e3 : qa - 1 = 0
              · rw [if_pos (by simpa using e3)]
                exact wpS_pure (.inl ⟨_, _, _, _, _, _, _, rfl, mdone _ _ _ _ m6 e3 (by omega) ss2⟩)
              rw [if_neg (by simpa using e3)]
              split
              · exact wpS_pure (.inr ⟨ss2, _, _, _, _, _, _, rfl, m6, by omega, by omega, by omega, by omega, by omega⟩)
              · exact wpS_pure ⟨ss2, _, _, _, _, _, _, rfl, m6, by omega, by omega, by omega, by omega, by omega⟩
        · rw [if_neg hg]
          refine wpS_bind (wpS_modify ?_)
          have ss2 := ss.smg mg2
          refine wpS_bind (wpS_elem hvb (wpS_bind (wpS_galR O hO ss2.kind (Sb _ (arr_mem hvb)) Sa (sxa qa) (by omega) (by omega) fun tt hk1 hk2 hk3 => ?_)))
          dsimp only
          by_cases kp : qa - tt > 0
          · rw [if_pos kp]
            have M3 := m.chA O sa sb f2 (t := tt) (by omega) (by omega) f4 hvb (fun i h1 h2 u hu => O.asym (hk3 i h1 h2 u (by rw [Nat.zero_add]; exact hu))) (ext1 _ xa tt qa)
            by_cases e0 : tt = 0
            · rw [if_pos (by simpa using e0)]
              exact wpS_pure (.inl ⟨_, _, _, _, _, _, _, rfl, mdone _ _ _ _ M3 e0 f4 ss2⟩)
            rw [if_neg (by simpa using e0)]
            have QA1 : 1 ≤ tt := by omega
            obtain ⟨va, hva⟩ := at1 (x := xa) (j := tt - 1) (by omega)
            have hle : leB ltb va vb := hk2 (tt - 1) (by omega) va (by rw [Nat.zero_add]; exact hva)
            have m4 := M3.chB O sa sb f4 (t := qb - 1) (by omega) QA1 (by omega) hva (fun i h1 h2 u hu => by
              obtain rfl : i = qb - 1 := by omega
              rw [hvb] at hu; cases hu; exact hle) (push1 _ (by omega) f4 hvb)
            refine wpS_bind (wpS_elem hvb ?_)
            by_cases e1 : qb - 1 = 1
            · rw [if_pos (by simpa using e1)]
              exact wpS_pure (.inl ⟨_, _, _, _, _, _, _, rfl, mfirst _ _ _ _ m4 e1 (by omega) ss2⟩)
            rw [if_neg (by simpa using e1)]
            refine wpS_bind (wpS_elem hva (wpS_bind (wpS_galL O hO ss2.kind (Sa _ (arr_mem hva)) Sb (sxb (qb - 1)) (by omega) (by omega) fun t2 g1 g2 g3 => ?_)))
            have ht2 : 0 < t2 := by
              rcases Nat.eq_zero_or_pos t2 with q | q
              · have := g3 0 (by omega) (by omega) z (by rw [Nat.zero_add]; exact hz)
                unfold leB at this
                rw [hfst va (arr_mem hva)] at this; cases this
              · exact q
            dsimp only
            by_cases k2p : qb - 1 - t2 > 0
            · rw [if_pos k2p]
              have m5 := m4.chB O sa sb (by omega) (t := t2) (by omega) QA1 (by omega) hva (fun i h1 h2 u hu => g3 i h1 (by omega) u (by rw [Nat.zero_add]; exact hu)) (ext1 _ xb t2 (qb - 1))
              by_cases e2 : t2 = 1
              · rw [if_pos (by simpa using e2)]
                exact wpS_pure (.inl ⟨_, _, _, _, _, _, _, rfl, mfirst _ _ _ _ m5 e2 (by omega) ss2⟩)
              rw [if_neg (by simpa using e2), if_neg (by simp; omega)]
              obtain ⟨vb2, hvb2⟩ := at1 (x := xb) (j := t2 - 1) (by omega)
              have m6 := m5.chA O sa sb (by omega) (t := tt - 1) (by omega) (by omega) (by omega) hvb2 (fun i h1 h2 u hu => by
                obtain rfl : i = tt - 1 := by omega
                rw [hva] at hu; cases hu; exact O.asym (g2 (t2 - 1) (by omega) vb2 (by rw [Nat.zero_add]; exact hvb2))) (push1 _ QA1 (by omega) hva)
              refine wpS_bind (wpS_elem hva ?_)
              by_cases e3 : tt - 1 = 0
              · rw [if_pos (by simpa using e3)]
                exact wpS_pure (.inl ⟨_, _, _, _, _, _, _, rfl, mdone _ _ _ _ m6 e3 (by omega) ss2⟩)
              rw [if_neg (by simpa using e3)]
              split
              · exact wpS_pure (.inr ⟨ss2, _, _, _, _, _, _, rfl, m6, by omega, by omega, by omega, by omega, by omega⟩)
              · exact wpS_pure ⟨ss2, _, _, _, _, _, _, rfl, m6, by omega, by omega, by omega, by omega, by omega⟩
            · rw [if_neg k2p]
              have et : t2 = qb - 1 := by omega
              obtain ⟨vb2, hvb2⟩ := at1 (x := xb) (j := qb - 1 - 1) (by omega)
              have m6 := m4.chA O sa sb (by omega) (t := tt - 1) (by omega) (by omega) (by omega) hvb2 (fun i h1 h2 u hu => by
                obtain rfl : i = tt - 1 := by omega
                rw [hva] at hu; cases hu; exact O.asym (g2 (qb - 1 - 1) (by omega) vb2 (by rw [Nat.zero_add]; exact hvb2))) (push1 _ QA1 (by omega) hva)
              refine wpS_bind (wpS_elem hva ?_)
              by_cases e3 : tt - 1 = 0
              · rw [if_pos (by simpa using e3)]
                exact wpS_pure (.inl ⟨_, _, _, _, _, _, _, rfl, mdone _ _ _ _ m6 e3 (by omega) ss2⟩)
              rw [if_neg (by simpa using e3)]
              split
              · exact wpS_pure (.inr ⟨ss2, _, _, _, _, _, _, rfl, m6, by omega, by omega, by omega, by omega, by omega⟩)
              · exact wpS_pure ⟨ss2, _, _, _, _, _, _, rfl, m6, by omega, by omega, by omega, by omega, by omega⟩
          · rw [if_neg kp]
            have et0 : tt = qa := by omega
            have M3 := m
            have QA1 : 1 ≤ qa := f1
            obtain ⟨va, hva⟩ := at1 (x := xa) (j := qa - 1) (by omega)
            have hle : leB ltb va vb := hk2 (qa - 1) (by omega) va (by rw [Nat.zero_add]; exact hva)
            have m4 := M3.chB O sa sb f4 (t := qb - 1) (by omega) QA1 (by omega) hva (fun i h1 h2 u hu => by
              obtain rfl : i = qb - 1 := by omega
              rw [hvb] at hu; cases hu; exact hle) (push1 _ (by omega) f4 hvb)
            refine wpS_bind (wpS_elem hvb ?_)
            by_cases e1 : qb - 1 = 1
            · rw [if_pos (by simpa using e1)]
              exact wpS_pure (.inl ⟨_, _, _, _, _, _, _, rfl, mfirst _ _ _ _ m4 e1 (by omega) ss2⟩)
            rw [if_neg (by simpa using e1)]
            refine wpS_bind (wpS_elem hva (wpS_bind (wpS_galL O hO ss2.kind (Sa _ (arr_mem hva)) Sb (sxb (qb - 1)) (by omega) (by omega) fun t2 g1 g2 g3 => ?_)))
            have ht2 : 0 < t2 := by
              rcases Nat.eq_zero_or_pos t2 with q | q
              · have := g3 0 (by omega) (by omega) z (by rw [Nat.zero_add]; exact hz)
                unfold leB at this
                rw [hfst va (arr_mem hva)] at this; cases this
              · exact q
            dsimp only
            by_cases k2p : qb - 1 - t2 > 0
            · rw [if_pos k2p]
              have m5 := m4.chB O sa sb (by omega) (t := t2) (by omega) QA1 (by omega) hva (fun i h1 h2 u hu => g3 i h1 (by omega) u (by rw [Nat.zero_add]; exact hu)) (ext1 _ xb t2 (qb - 1))
              by_cases e2 : t2 = 1
              · rw [if_pos (by simpa using e2)]
                exact wpS_pure (.inl ⟨_, _, _, _, _, _, _, rfl, mfirst _ _ _ _ m5 e2 (by omega) ss2⟩)
              rw [if_neg (by simpa using e2), if_neg (by simp; omega)]
              obtain ⟨vb2, hvb2⟩ := at1 (x := xb) (j := t2 - 1) (by omega)
              have m6 := m5.chA O sa sb (by omega) (t := qa - 1) (by omega) (by omega) (by omega) hvb2 (fun i h1 h2 u hu => by
                obtain rfl : i = qa - 1 := by omega
                rw [hva] at hu; cases hu; exact O.asym (g2 (t2 - 1) (by omega) vb2 (by rw [Nat.zero_add]; exact hvb2))) (push1 _ QA1 (by omega) hva)
              refine wpS_bind (wpS_elem hva ?_)
              by_cases e3 : qa - 1 = 0
              · rw [if_pos (by simpa using e3)]
                exact wpS_pure (.inl ⟨_, _, _, _, _, _, _, rfl, mdone _ _ _ _ m6 e3 (by omega) ss2⟩)
              rw [if_neg (by simpa using e3)]
              split
              · exact wpS_pure (.inr ⟨ss2, _, _, _, _, _, _, rfl, m6, by omega, by omega, by omega, by omega, by omega⟩)
              · exact wpS_pure ⟨ss2, _, _, _, _, _, _, rfl, m6, by omega, by omega, by omega, by omega, by omega⟩
            · rw [if_neg k2p]
              have et : t2 = qb - 1 := by omega
              obtain ⟨vb2, hvb2⟩ := at1 (x := xb) (j := qb - 1 - 1) (by omega)
              have m6 := m4.chA O sa sb (by omega) (t := qa - 1) (by omega) (by omega) (by omega) hvb2 (fun i h1 h2 u hu => by
                obtain rfl : i = qa - 1 := by omega
                rw [hva] at hu; cases hu; exact O.asym (g2 (qb - 1 - 1) (by omega) vb2 (by rw [Nat.zero_add]; exact hvb2))) (push1 _ QA1 (by omega) hva)
              refine wpS_bind (wpS_elem hva ?_)
              by_cases e3 : qa - 1 = 0
              · rw [if_pos (by simpa using e3)]
                exact wpS_pure (.inl ⟨_, _, _, _, _, _, _, rfl, mdone _ _ _ _ m6 e3 (by omega) ss2⟩)
              rw [if_neg (by simpa using e3)]
              split
              · exact wpS_pure (.inr ⟨ss2, _, _, _, _, _, _, rfl, m6, by omega, by omega, by omega, by omega, by omega⟩)
              · exact wpS_pure ⟨ss2, _, _, _, _, _, _, rfl, m6, by omega, by omega, by omega, by omega, by omega⟩
end
end L2

/-! mergeAt -/
namespace L2
open PySem PySem.Spec PyProof.Rows
def layS (M : Array Keyed) (o : Nat) (ar : Array Keyed) : Array Keyed := M.toList.zipIdx.foldl (fun z q => z.setIfInBounds (o + q.2) q.1) ar
theorem lay_list : ∀ (M : List Keyed) (n o : Nat) (ar : Array Keyed), o + n + M.length ≤ ar.size → ((M.zipIdx n).foldl (fun z q => z.setIfInBounds (o + q.2) q.1) ar).toList = ar.toList.take (o + n) ++ M ++ ar.toList.drop (o + n + M.length)
  | [], n, o, ar, h => by simp
  | p :: M, n, o, ar, h => by
    rw [List.length_cons] at h
    have hs : (ar.setIfInBounds (o + n) p).size = ar.size := by simp
    have ih := lay_list M (n + 1) o (ar.setIfInBounds (o + n) p) (by rw [hs]; omega)
    rw [List.zipIdx_cons, List.foldl_cons, ih, Array.toList_setIfInBounds]
    have hl : o + n < ar.toList.length := by rw [Array.length_toList]; omega
    rw [show o + (n + 1) = o + n + 1 by omega, List.take_succ_eq_append_getElem (by rw [List.length_set]; exact hl), List.getElem_set_self, List.take_set_of_le (by omega), List.drop_set_of_lt (by omega), List.length_cons]
    rw [show o + n + 1 + M.length = o + n + (M.length + 1) by omega]
    simp
theorem lay_eq (M ar : Array Keyed) (o : Nat) (h : o + M.size ≤ ar.size) : (layS M o ar).toList = ar.toList.take o ++ M.toList ++ ar.toList.drop (o + M.size) := by
  have := lay_list M.toList 0 o ar (by rw [Array.length_toList]; omega)
  rw [Nat.add_zero, Array.length_toList] at this
  exact this
theorem mergeAt_eq (ii : Nat) : mergeAt' ii = (do
  let z ← get
  let (some (ba, ka, pw), some (bb, kb, _)) := ((pendingOf z)[ii]?, (pendingOf z)[ii + 1]?) | unsupported "internal:list.sort.pending"
  set (setPending z (((pendingOf z).setIfInBounds ii (ba, ka + kb, pw)).eraseIdxIfInBounds (ii + 1)))
  let some kk ← galS false (← elem' (arrOf z) bb) (arrOf z) ba ka 0 | return false
  let (ba, ka) := (ba + kk, ka - kk)
  if ka == 0 then return true
  let some kb ← galS true (← elem' (arrOf z) (ba + ka - 1)) (arrOf z) bb kb (kb - 1) | return false
  if kb == 0 then return true
  let mm ← if ka ≤ kb then mloS ((arrOf z).extract ba bb) ((arrOf z).extract bb (bb + kb)) else mhiS ((arrOf z).extract ba bb) ((arrOf z).extract bb (bb + kb))
  modify fun z => setArr z (layS mm ba (arrOf z))
  return (failedOf (← get)).isNone) := rfl
theorem app4 {α : Type} (a b c d : List α) : a ++ (b ++ c) ++ d = (a ++ b) ++ (c ++ d) := by simp
section
variable {prog : Program} {w : World} {A : Around} {E : Value → Shared → Prop} {s : Shared} {ltb : Keyed → Keyed → Bool} {S : Keyed → Prop} {κ : SortKind}
theorem at_seg {ar : Array Keyed} {P R T : List Keyed} (h : ar.toList = P ++ R ++ T) (i : Nat) (hi : i < R.length) : ar[P.length + i]? = R[i]? := by
  have : ar.toList[P.length + i]? = R[i]? := by
    rw [h, List.append_assoc, List.getElem?_append_right (by omega), Nat.add_sub_cancel_left, List.getElem?_append_left hi]
  simpa using this
theorem wpS_set {α : Type} {st st2 : α} {Q : PUnit → α → Prop} (q : Q ⟨⟩ st2) : wpS (model prog w) A E s (set st2 : StateT α Sem PUnit) Q st := by
  unfold wpS
  show wpAny _ _ ((StateT.set st2 : StateT α Sem PUnit).run st) _ _ _
  exact wpAny_pure ⟨rfl, q⟩
theorem wpS_mergeAt (O : OrdB ltb) (hO : LtOk prog w A E s ltb S κ) {st : SortSt} {Q : Bool → SortSt → Prop} {ii ba ka bb kb pw pv : Nat} {P R1 R2 T : List Keyed} (hk : kindOf st = κ) (hf : failedOf st = none)
    (hp1 : (pendingOf st)[ii]? = some (ba, ka, pw)) (hp2 : (pendingOf st)[ii + 1]? = some (bb, kb, pv)) (harr : (arrOf st).toList = P ++ R1 ++ R2 ++ T) (eba : ba = P.length) (eka : ka = R1.length) (ebb : bb = P.length + R1.length) (ekb : kb = R2.length)
    (h1 : R1 ≠ []) (h2 : R2 ≠ []) (s1 : R1.Pairwise (leB ltb)) (s2 : R2.Pairwise (leB ltb)) (hSa : ∀ x ∈ (arrOf st).toList, S x)
    (h : ∀ (st' : SortSt) (R : List Keyed), R.Pairwise (leB ltb) → R.Perm (R1 ++ R2) → (arrOf st').toList = P ++ R ++ T → kindOf st' = κ → failedOf st' = none → pendingOf st' = ((pendingOf st).setIfInBounds ii (ba, ka + kb, pw)).eraseIdxIfInBounds (ii + 1) → Q true st') :
    wpS (model prog w) A E s (mergeAt' ii) Q st := by
  have l1 : 0 < R1.length := List.length_pos_iff.mpr h1
  have l2 : 0 < R2.length := List.length_pos_iff.mpr h2
  have hA1 : (arrOf st).toList = P ++ R1 ++ (R2 ++ T) := by rw [harr]; simp
  have hA2 : (arrOf st).toList = (P ++ R1) ++ R2 ++ T := by rw [harr]
  have hsz : (arrOf st).size = P.length + R1.length + R2.length + T.length := by
    have := congrArg List.length harr
    rw [Array.length_toList] at this
    simp at this; omega
  have g1 : ∀ i, i < R1.length → (arrOf st)[ba + i]? = R1[i]? := fun i hi => by rw [eba]; exact at_seg hA1 i hi
  have g2 : ∀ i, i < R2.length → (arrOf st)[bb + i]? = R2[i]? := fun i hi => by
    have := at_seg hA2 i hi
    rw [List.length_append] at this
    rw [ebb]; exact this
  obtain ⟨b0, hb0⟩ : ∃ b, R2[0]? = some b := ⟨_, List.getElem?_eq_getElem l2⟩
  have hb0' : (arrOf st)[bb]? = some b0 := by have := g2 0 l2; rw [Nat.add_zero] at this; rw [this]; exact hb0
  have b0le : ∀ y ∈ R2, leB ltb b0 y ∨ y = b0 := fun y hy => by
    obtain ⟨i, hi, e⟩ := List.getElem_of_mem hy
    by_cases h0 : i = 0
    · subst h0; rw [List.getElem?_eq_getElem l2] at hb0; right; rw [← e]; exact Option.some.inj hb0
    · left; exact rise_le s2 (i := 0) (j := i) (by omega) hb0 (by rw [List.getElem?_eq_getElem hi, e])
  rw [mergeAt_eq]
  refine wpS_bind (wpS_get ?_)
  rw [hp1, hp2]
  dsimp only
  refine wpS_bind (wpS_set ?_)
  refine wpS_bind (wpS_elem hb0' (wpS_bind (wpS_galR O hO (st := setPending st _) hk (hSa _ (arr_mem hb0')) hSa (fun i j u v hij hj hu hv => ?_) (by omega) (by omega) fun k k1 k2 k3 => ?_)))
  · rw [g1 i (by omega)] at hu
    rw [g1 j (by omega)] at hv
    exact rise_le s1 hij hu hv
  dsimp only
  have k2' : ∀ i, i < k → ∀ u, R1[i]? = some u → leB ltb u b0 := fun i hi u hu => k2 i hi u (by rw [g1 i (by omega)]; exact hu)
  by_cases c1 : ka - k = 0
  · rw [if_pos (by simpa using c1)]
    refine wpS_pure (h (setPending st _) (R1 ++ R2) ?_ (List.Perm.refl _) (by show (arrOf st).toList = _; rw [harr]; simp) hk hf rfl)
    rw [List.pairwise_append]
    refine ⟨s1, s2, fun x hx y hy => ?_⟩
    obtain ⟨i, hi, e⟩ := List.getElem_of_mem hx
    have hxb := k2' i (by omega) x (by rw [List.getElem?_eq_getElem hi, e])
    rcases b0le y hy with q | q
    · exact O.tr hxb q
    · rw [q]; exact hxb
  rw [if_neg (by simpa using c1)]
  have hk : kindOf st = κ := hk
  obtain ⟨al, hal⟩ : ∃ a, R1[ka - 1]? = some a := ⟨_, List.getElem?_eq_getElem (by omega)⟩
  have hal' : (arrOf st)[ba + k + (ka - k) - 1]? = some al := by
    rw [show ba + k + (ka - k) - 1 = ba + (ka - 1) by omega, g1 (ka - 1) (by omega)]; exact hal
  have alge : ∀ x ∈ R1, leB ltb x al ∨ x = al := fun x hx => by
    obtain ⟨i, hi, e⟩ := List.getElem_of_mem hx
    by_cases h0 : i = ka - 1
    · subst h0; rw [List.getElem?_eq_getElem hi] at hal; right; rw [← e]; exact Option.some.inj hal
    · left; exact rise_le s1 (i := i) (j := ka - 1) (by omega) (by rw [List.getElem?_eq_getElem hi, e]) hal
  refine wpS_bind (wpS_elem hal' (wpS_bind (wpS_galL O hO (st := setPending st _) hk (hSa _ (arr_mem hal')) hSa (fun i j u v hij hj hu hv => ?_) (by omega) (by omega) fun n n1 n2 n3 => ?_)))
  · rw [g2 i (by omega)] at hu
    rw [g2 j (by omega)] at hv
    exact rise_le s2 hij hu hv
  dsimp only
  have n3' : ∀ y ∈ R2.drop n, leB ltb al y := fun y hy => by
    obtain ⟨i, hi, e⟩ := List.getElem_of_mem hy
    rw [List.length_drop] at hi
    rw [List.getElem_drop] at e
    exact n3 (n + i) (by omega) (by omega) y (by rw [g2 (n + i) (by omega), List.getElem?_eq_getElem (by omega), e])
  by_cases c2 : n = 0
  · rw [if_pos (by simpa using c2)]
    refine wpS_pure (h (setPending st _) (R1 ++ R2) ?_ (List.Perm.refl _) (by show (arrOf st).toList = _; rw [harr]; simp) hk hf rfl)
    rw [List.pairwise_append]
    refine ⟨s1, s2, fun x hx y hy => ?_⟩
    have hy2 := n3' y (by rw [c2]; exact hy)
    rcases alge x hx with q | q
    · exact O.tr q hy2
    · rw [q]; exact hy2
  rw [if_neg (by simpa using c2)]
  have exA : ((arrOf st).extract (ba + k) bb).toList = R1.drop k := by
    rw [show bb = ba + k + (ka - k) by omega, ext_part, hA1]
    rw [show ba + k = P.length + k by omega, List.append_assoc, ← List.drop_drop, List.drop_left, List.drop_append_of_le_length (by omega), List.take_append_of_le_length (by rw [List.length_drop]; omega), List.take_of_length_le (by rw [List.length_drop]; omega)]
  have exB : ((arrOf st).extract bb (bb + n)).toList = R2.take n := by
    rw [ext_part, hA2, show bb = (P ++ R1).length by rw [List.length_append]; omega, List.append_assoc, List.drop_left, List.take_append_of_le_length (by omega)]
  have szA : ((arrOf st).extract (ba + k) bb).size = ka - k := by
    have := congrArg List.length exA
    rw [Array.length_toList, List.length_drop] at this; omega
  have szB : ((arrOf st).extract bb (bb + n)).size = n := by
    have := congrArg List.length exB
    rw [Array.length_toList, List.length_take] at this; omega
  have hSA : ∀ x ∈ ((arrOf st).extract (ba + k) bb).toList, S x := fun x hx => by
    rw [exA] at hx
    exact hSa x (by rw [hA1]; exact List.mem_append_left _ (List.mem_append_right _ (List.mem_of_mem_drop hx)))
  have hSB : ∀ x ∈ ((arrOf st).extract bb (bb + n)).toList, S x := fun x hx => by
    rw [exB] at hx
    exact hSa x (by rw [hA2]; exact List.mem_append_left _ (List.mem_append_right _ (List.mem_of_mem_take hx)))
  have rA : ((arrOf st).extract (ba + k) bb).toList.Pairwise (leB ltb) := by rw [exA]; exact s1.drop
  have rB : ((arrOf st).extract bb (bb + n)).toList.Pairwise (leB ltb) := by rw [exB]; exact s2.take
  have zB : ((arrOf st).extract bb (bb + n))[0]? = some b0 := by
    have e : ((arrOf st).extract bb (bb + n)).toList[0]? = some b0 := by rw [exB, List.getElem?_take, if_pos (by omega)]; exact hb0
    rw [← Array.getElem?_toList]; exact e
  have zA : ((arrOf st).extract (ba + k) bb)[((arrOf st).extract (ba + k) bb).size - 1]? = some al := by
    have e : ((arrOf st).extract (ba + k) bb).toList[((arrOf st).extract (ba + k) bb).size - 1]? = some al := by
      rw [exA, szA, List.getElem?_drop, show k + (ka - k - 1) = ka - 1 by omega]; exact hal
    rw [← Array.getElem?_toList]; exact e
  have fst : ∀ y ∈ ((arrOf st).extract (ba + k) bb).toList, ltb b0 y = true := fun y hy => by
    rw [exA] at hy
    obtain ⟨i, hi, e⟩ := List.getElem_of_mem hy
    rw [List.length_drop] at hi
    rw [List.getElem_drop] at e
    exact k3 (k + i) (by omega) (by omega) y (by rw [g1 (k + i) (by omega), List.getElem?_eq_getElem (by omega), e])
  have lst : ∀ x ∈ ((arrOf st).extract bb (bb + n)).toList, ltb x al = true := fun x hx => by
    rw [exB] at hx
    obtain ⟨i, hi, e⟩ := List.getElem_of_mem hx
    rw [List.length_take] at hi
    rw [List.getElem_take] at e
    exact n2 i (by omega) x (by rw [g2 i (by omega), List.getElem?_eq_getElem (by omega), e])
  have fin : ∀ (r : Array Keyed) (st' : SortSt), r.toList.Pairwise (leB ltb) → r.toList.Perm (((arrOf st).extract (ba + k) bb).toList ++ ((arrOf st).extract bb (bb + n)).toList) → SS κ (setPending st (((pendingOf st).setIfInBounds ii (ba, ka + kb, pw)).eraseIdxIfInBounds (ii + 1))) st' →
      Q true (setArr st' (layS r (ba + k) (arrOf st'))) := fun r st' rs rp ss => by
    rw [exA, exB] at rp
    have rsz : r.size = ka - k + n := by
      have := rp.length_eq
      rw [Array.length_toList, List.length_append, List.length_drop, List.length_take] at this; omega
    have earr : arrOf st' = arrOf st := ss.arr
    refine h _ (R1.take k ++ r.toList ++ R2.drop n) ?_ ?_ ?_ ss.kind ss.fail ss.pend
    · have m1 : ∀ x ∈ R1.take k, leB ltb x b0 := fun x hx => by
        obtain ⟨i, hi, e⟩ := List.getElem_of_mem hx
        rw [List.length_take] at hi
        rw [List.getElem_take] at e
        exact k2' i (by omega) x (by rw [List.getElem?_eq_getElem (by omega), e])
      have m2 : ∀ x ∈ R1.take k, ∀ y ∈ R2, leB ltb x y := fun x hx y hy => by
        rcases b0le y hy with q | q
        · exact O.tr (m1 x hx) q
        · rw [q]; exact m1 x hx
      have m3 : ∀ x ∈ R1, ∀ y ∈ R2.drop n, leB ltb x y := fun x hx y hy => by
        rcases alge x hx with q | q
        · exact O.tr q (n3' y hy)
        · rw [q]; exact n3' y hy
      have d1 := (rise_parts s1 0 k).2
      rw [List.drop_zero, Nat.zero_add] at d1
      have d2 := (rise_parts s2 0 n).2
      rw [List.drop_zero, Nat.zero_add] at d2
      rw [List.pairwise_append, List.pairwise_append]
      refine ⟨⟨s1.take, rs, fun x hx y hy => ?_⟩, s2.drop, fun x hx y hy => ?_⟩
      · rcases List.mem_append.mp (rp.mem_iff.mp hy) with q | q
        · exact d1 x hx y q
        · exact m2 x hx y (List.mem_of_mem_take q)
      · rcases List.mem_append.mp hx with q | q
        · exact m3 x (List.mem_of_mem_take q) y hy
        · rcases List.mem_append.mp (rp.mem_iff.mp q) with q | q
          · exact m3 x (List.mem_of_mem_drop q) y hy
          · exact d2 x q y hy
    · have e1 := List.take_append_drop k R1
      have e2 := List.take_append_drop n R2
      have : (R1.take k ++ r.toList ++ R2.drop n).Perm (R1.take k ++ (R1.drop k ++ R2.take n) ++ R2.drop n) := List.Perm.append_right _ (List.Perm.append_left _ rp)
      refine this.trans (List.Perm.of_eq ?_)
      rw [app4, e1, e2]
    · show (layS r (ba + k) (arrOf st')).toList = _
      rw [earr, lay_eq r _ _ (by rw [rsz]; omega), rsz, show ba + k + (ka - k + n) = bb + n by omega]
      have t1 : (arrOf st).toList.take (ba + k) = P ++ R1.take k := by
        rw [hA1, eba, List.append_assoc, List.take_length_add_append, List.take_append_of_le_length (by omega)]
      have t2 : (arrOf st).toList.drop (bb + n) = R2.drop n ++ T := by
        rw [hA2, show bb = (P ++ R1).length by rw [List.length_append]; omega, List.append_assoc, ← List.drop_drop, List.drop_left, List.drop_append_of_le_length (by omega)]
      rw [t1, t2]; simp
  have hSS : SS κ (setPending st (((pendingOf st).setIfInBounds ii (ba, ka + kb, pw)).eraseIdxIfInBounds (ii + 1))) (setPending st (((pendingOf st).setIfInBounds ii (ba, ka + kb, pw)).eraseIdxIfInBounds (ii + 1))) := ⟨hk, hf, rfl, rfl⟩
  have after : ∀ (r : Array Keyed) (st' : SortSt), Q true (setArr st' (layS r (ba + k) (arrOf st'))) → failedOf st' = none → wpS (model prog w) A E s (do
      modify fun z => setArr z (layS r (ba + k) (arrOf z))
      return (failedOf (← get)).isNone) Q st' := fun r st' q hfl => by
    refine wpS_bind (wpS_modify ?_)
    refine wpS_bind (wpS_get ?_)
    refine wpS_pure ?_
    have : (failedOf (setArr st' (layS r (ba + k) (arrOf st')))).isNone = true := by
      show (failedOf st').isNone = true
      rw [hfl]; rfl
    rw [this]; exact q
  by_cases c3 : ka - k ≤ n
  · rw [if_pos c3]
    refine wpS_bind (wpS_mlo O hO hSA hSB rA rB zB (fun y hy => O.asym (fst y hy)) (by rw [szA]; omega) (fun x hx y hy => by rw [zA] at hy; cases hy; exact lst x hx) hSS fun r st' q1 q2 q3 => ?_)
    exact after r st' (fin r st' q1 q2 q3) q3.fail
  · rw [if_neg c3]
    refine wpS_bind (wpS_mhi O hO hSA hSB rA rB zB fst zA lst hSS fun r st' q1 q2 q3 => ?_)
    exact after r st' (fin r st' q1 q2 q3) q3.fail
end
end L2

/-! binary insertion from any place on -/
namespace L2
open PySem PySem.Spec PyProof.Rows
/-- the k-th moved down to the l-th place -/
def insB (R : List Keyed) (k l : Nat) : List Keyed := R.take l ++ ((R.drop k).take 1 ++ ((R.take k).drop l ++ R.drop (k + 1)))
theorem insB_perm (R : List Keyed) {k l : Nat} (h : l ≤ k) : (insB R k l).Perm R := by
  unfold insB
  have e1 : R.take k = R.take l ++ (R.take k).drop l := by
    conv => lhs; rw [← List.take_append_drop l (R.take k)]
    rw [List.take_take, Nat.min_eq_left h]
  have e2 : R = R.take k ++ ((R.drop k).take 1 ++ R.drop (k + 1)) := by
    conv => lhs; rw [← List.take_append_drop k R, drop_take_split R k 1]
  conv => rhs; rw [e2]
  rw [e1, List.append_assoc]
  refine List.Perm.append_left _ ?_
  have e3 : List.drop l (R.take l ++ (R.take k).drop l) = (R.take k).drop l := by rw [← e1]
  rw [e3]
  rw [← List.append_assoc, ← List.append_assoc]
  exact List.Perm.append_right _ List.perm_append_comm
theorem insB_get (R : List Keyed) {k l : Nat} (hk : k < R.length) (hl : l ≤ k) (p : Nat) : (insB R k l)[p]? = if p = l then R[k]? else if l < p ∧ p ≤ k then R[p - 1]? else R[p]? := by
  unfold insB
  have len1 : (R.take l).length = l := by rw [List.length_take]; omega
  have len2 : ((R.drop k).take 1).length = 1 := by rw [List.length_take, List.length_drop]; omega
  have len3 : ((R.take k).drop l).length = k - l := by rw [List.length_drop, List.length_take]; omega
  by_cases c1 : p < l
  · rw [List.getElem?_append_left (by omega), if_neg (by omega), if_neg (by omega), List.getElem?_take, if_pos c1]
  rw [List.getElem?_append_right (by omega), len1]
  by_cases c2 : p = l
  · rw [if_pos c2, List.getElem?_append_left (by omega), List.getElem?_take, if_pos (by omega), List.getElem?_drop]
    congr 1; omega
  rw [if_neg c2, List.getElem?_append_right (by omega), len2]
  by_cases c3 : p ≤ k
  · rw [if_pos ⟨by omega, c3⟩, List.getElem?_append_left (by omega), List.getElem?_drop, List.getElem?_take, if_pos (by omega)]
    congr 1; omega
  · rw [if_neg (by omega), List.getElem?_append_right (by omega), len3, List.getElem?_drop]
    congr 1; omega
theorem bubble_list {ar : Array Keyed} {P R T : List Keyed} (h : ar.toList = P ++ R ++ T) {k l : Nat} (hk : k < R.length) (hl : l ≤ k) : (bubble ar (P.length + k) (k - l)).toList = P ++ insB R k l ++ T := by
  have hsz : ar.size = P.length + R.length + T.length := by
    have := congrArg List.length h
    rw [Array.length_toList] at this
    simp at this; omega
  have hil : (insB R k l).length = R.length := (insB_perm R hl).length_eq
  apply List.ext_getElem?
  intro p
  rw [Array.getElem?_toList, getElem?_bubble (by omega) _ (by omega) p, show P.length + k - (k - l) = P.length + l by omega]
  have get : ∀ q, ar[q]? = (P ++ R ++ T)[q]? := fun q => by rw [← h, Array.getElem?_toList]
  by_cases c1 : p < P.length
  · rw [if_neg (by omega), if_neg (by omega), get, List.append_assoc, List.append_assoc, List.getElem?_append_left c1, List.getElem?_append_left c1]
  · by_cases c2 : p < P.length + R.length
    · have eR : (P ++ insB R k l ++ T)[p]? = (insB R k l)[p - P.length]? := by
        rw [List.append_assoc, List.getElem?_append_right (by omega), List.getElem?_append_left (by omega)]
      have eg : ∀ q, P.length ≤ q → q < P.length + R.length → ar[q]? = R[q - P.length]? := fun q h1 h2 => by
        rw [get, List.append_assoc, List.getElem?_append_right h1, List.getElem?_append_left (by omega)]
      rw [eR, insB_get R hk hl]
      by_cases c3 : p = P.length + l
      · rw [if_pos c3, if_pos (show p - P.length = l by omega), eg _ (by omega) (by omega)]; congr 1; omega
      · rw [if_neg c3, if_neg (show ¬ p - P.length = l by omega)]
        by_cases c4 : P.length + l < p ∧ p ≤ P.length + k
        · rw [if_pos c4, if_pos (show l < p - P.length ∧ p - P.length ≤ k by omega), eg _ (by omega) (by omega)]; congr 1; omega
        · rw [if_neg c4, if_neg (show ¬ (l < p - P.length ∧ p - P.length ≤ k) by omega), eg _ (by omega) (by omega)]
    · rw [if_neg (by omega), if_neg (by omega), get, List.append_assoc, List.append_assoc, List.getElem?_append_right (by omega), List.getElem?_append_right (by omega), List.getElem?_append_right (by omega), List.getElem?_append_right (by omega), hil]
section
variable {prog : Program} {w : World} {A : Around} {E : Value → Shared → Prop} {s : Shared} {ltb : Keyed → Keyed → Bool} {S : Keyed → Prop} {κ : SortKind}
theorem wpS_ltAtB (hO : LtOk prog w A E s ltb S κ) {st : SortSt} {i j : Nat} {x y : Keyed} {Q : Option Bool → SortSt → Prop} (hk : kindOf st = κ) (hi : (arrOf st)[i]? = some x) (hj : (arrOf st)[j]? = some y) (Sx : S x) (Sy : S y) (q : Q (some (ltb x y)) st) : wpS (model prog w) A E s (ltAt' i j) Q st := by
  rw [ltAt'_eq]
  refine wpS_bind (wpS_get ?_)
  exact wpS_bind (wpS_elem hi (wpS_bind (wpS_elem hj (hO x y st Q Sx Sy hk q))))
/-- the first k of R rise -/
def RiseTo (ltb : Keyed → Keyed → Bool) (R : List Keyed) (k : Nat) : Prop := ∀ i j x y, i < j → j < k → R[i]? = some x → R[j]? = some y → leB ltb x y
theorem wpS_binB (O : OrdB ltb) (hO : LtOk prog w A E s ltb S κ) {st : SortSt} {Q : Bool → SortSt → Prop} {P R T : List Keyed} {ok : Nat} (hk : kindOf st = κ) (hf : failedOf st = none) (harr : (arrOf st).toList = P ++ R ++ T) (hok : ok ≤ R.length) (hr : RiseTo ltb R ok) (hSa : ∀ x ∈ R, S x)
    (h : ∀ (st' : SortSt) (R' : List Keyed), (arrOf st').toList = P ++ R' ++ T → R'.Perm R → RiseTo ltb R' R'.length → kindOf st' = κ → failedOf st' = none → pendingOf st' = pendingOf st → Q true st') : wpS (model prog w) A E s (binarySort' P.length R.length ok) Q st := by
  rw [binarySort'_eq]
  refine wpS_bind (wpS_mono (wpS_forRange (I := fun k c st' => c = (none, ()) ∧ kindOf st' = κ ∧ failedOf st' = none ∧ pendingOf st' = pendingOf st ∧ ∃ R', (arrOf st').toList = P ++ R' ++ T ∧ R'.Perm R ∧ RiseTo ltb R' (min k R.length))
    (Q := fun c st' => c = (none, ()) ∧ kindOf st' = κ ∧ failedOf st' = none ∧ pendingOf st' = pendingOf st ∧ ∃ R', (arrOf st').toList = P ++ R' ++ T ∧ R'.Perm R ∧ RiseTo ltb R' R.length) ?step ?fin ⟨rfl, hk, hf, rfl, R, harr, List.Perm.refl _, ?init⟩) ?post)
  case init =>
    intro i j x y hij hj hx hy
    exact hr i j x y hij (by omega) hx hy
  case fin =>
    rintro c st' ⟨hc, k1, k2, k3, R', a1, a2, a3⟩
    exact ⟨hc, k1, k2, k3, R', a1, a2, fun i j x y hij hj => a3 i j x y hij (by omega)⟩
  case post =>
    rintro c st' ⟨rfl, k1, k2, k3, R', a1, a2, a3⟩
    exact wpS_pure (h st' R' a1 a2 (by rw [a2.length_eq]; exact a3) k1 k2 k3)
  case step =>
    rintro k c st' h1 hkn ⟨rfl, k1, k2, k3, R', a1, a2, a3⟩
    rw [show min k R.length = k by omega] at a3
    have hlen := a2.length_eq
    have hS' : ∀ x ∈ R', S x := fun x hx => hSa x (a2.mem_iff.mp hx)
    have gt : ∀ i, i < R'.length → (arrOf st')[P.length + i]? = R'[i]? := fun i hi => at_seg a1 i hi
    obtain ⟨v, hv⟩ : ∃ v, R'[k]? = some v := ⟨_, List.getElem?_eq_getElem (by omega)⟩
    have Sv := hS' v (List.mem_of_getElem? hv)
    refine wpS_bind (wpS_mono (wpS_forRange (I := fun x c st'' => st'' = st' ∧ ∃ l r, c = (none, l, r) ∧ l ≤ r ∧ r ≤ k ∧ r - l ≤ k - x ∧ (∀ i x, i < l → R'[i]? = some x → leB ltb x v) ∧ (∀ i x, r ≤ i → i < k → R'[i]? = some x → ltb v x = true))
      (Q := fun c st'' => st'' = st' ∧ ∃ l r, c = (none, l, r) ∧ l ≤ k ∧ (∀ i x, i < l → R'[i]? = some x → leB ltb x v) ∧ (∀ i x, l ≤ i → i < k → R'[i]? = some x → ltb v x = true)) ?istep ?ifin ⟨rfl, 0, k, rfl, by omega, by omega, by omega, fun i x hi => by omega, fun i x h1 h2 => by omega⟩) ?ipost)
    case ifin =>
      rintro c st'' ⟨rfl, l, r, rfl, b1, b2, b3, b4, b5⟩
      have : l = r := by omega
      subst this
      exact ⟨rfl, l, l, rfl, b2, b4, b5⟩
    case istep =>
      rintro x c st'' _ hxk ⟨e, l, r, rfl, b1, b2, b3, b4, b5⟩
      rw [e]
      dsimp only
      by_cases hge : l ≥ r
      · rw [if_pos hge]
        have : l = r := by omega
        subst this
        exact wpS_pure ⟨rfl, l, l, rfl, b2, b4, b5⟩
      · rw [if_neg hge]
        obtain ⟨u, hu⟩ : ∃ u, R'[(l + r) / 2]? = some u := ⟨_, List.getElem?_eq_getElem (by omega)⟩
        refine wpS_bind (wpS_ltAtB hO k1 (by rw [gt k (by omega)]; exact hv) (by rw [gt _ (by omega)]; exact hu) Sv (hS' u (List.mem_of_getElem? hu)) ?_)
        dsimp only
        cases hw : ltb v u with
        | true =>
          simp only [if_true]
          refine wpS_pure ⟨rfl, l, (l + r) / 2, rfl, by omega, by omega, by omega, b4, fun i y q1 q2 hy => ?_⟩
          by_cases ei : i = (l + r) / 2
          · subst ei; rw [hu] at hy; cases hy; exact hw
          · have le1 := a3 ((l + r) / 2) i u y (by omega) q2 hu hy
            cases q : ltb v y with
            | true => rfl
            | false => have := O.tr le1 q; rw [hw] at this; cases this
        | false =>
          simp only [Bool.false_eq_true, if_false]
          refine wpS_pure ⟨rfl, (l + r) / 2 + 1, r, rfl, by omega, by omega, by omega, fun i y q1 hy => ?_, b5⟩
          by_cases ei : i = (l + r) / 2
          · subst ei; rw [hu] at hy; cases hy; exact hw
          · exact O.tr (a3 i ((l + r) / 2) y u (by omega) (by omega) hy hu) hw
    case ipost =>
      rintro c st'' ⟨e, l, r, rfl, b1, b4, b5⟩
      rw [e]
      show wpS _ _ _ _ (do moveDown' (P.length + k) (P.length + l); pure (ForInStep.yield (none, ()))) _ _
      rw [moveDown'_eq]
      refine wpS_bind (wpS_modify (wpS_pure ⟨rfl, k1, k2, k3, insB R' k l, ?_, (insB_perm R' b1).trans a2, ?_⟩))
      · show (bubble (arrOf st') (P.length + k) (P.length + k - (P.length + l))).toList = _
        rw [show P.length + k - (P.length + l) = k - l by omega]
        exact bubble_list a1 (by omega) b1
      · rw [show min (k + 1) R.length = k + 1 by omega]
        intro i j x y hij hj hx hy
        rw [insB_get R' (by omega) b1] at hx hy
        by_cases i1 : i = l
        · rw [if_pos i1, hv] at hx
          cases hx
          rw [if_neg (by omega), if_pos (by omega)] at hy
          exact O.asym (b5 (j - 1) y (by omega) (by omega) hy)
        rw [if_neg i1] at hx
        by_cases i2 : l < i ∧ i ≤ k
        · rw [if_pos i2] at hx
          rw [if_neg (by omega), if_pos (by omega)] at hy
          exact a3 (i - 1) (j - 1) x y (by omega) (by omega) hx hy
        rw [if_neg i2] at hx
        by_cases j1 : j = l
        · rw [if_pos j1, hv] at hy
          cases hy
          exact b4 i x (by omega) hx
        rw [if_neg j1] at hy
        by_cases j2 : l < j ∧ j ≤ k
        · rw [if_pos j2] at hy
          exact a3 i (j - 1) x y (by omega) (by omega) hx hy
        · rw [if_neg j2] at hy
          exact a3 i j x y hij (by omega) hx hy
end
end L2

/-! runs from any place on -/
namespace L2
open PySem PySem.Spec PyProof.Rows
def revB (R : List Keyed) (i j : Nat) : List Keyed := R.take i ++ (((R.take j).drop i).reverse ++ R.drop j)
theorem revB_perm (R : List Keyed) {i j : Nat} (h : i ≤ j) : (revB R i j).Perm R := by
  unfold revB
  have e1 : R.take j = R.take i ++ (R.take j).drop i := by
    conv => lhs; rw [← List.take_append_drop i (R.take j)]
    rw [List.take_take, Nat.min_eq_left h]
  have : (R.take i ++ (((R.take j).drop i).reverse ++ R.drop j)).Perm (R.take i ++ ((R.take j).drop i ++ R.drop j)) := List.Perm.append_left _ (List.Perm.append_right _ (List.reverse_perm _))
  refine this.trans (List.Perm.of_eq ?_)
  rw [← List.append_assoc, ← e1, List.take_append_drop]
theorem revB_get (R : List Keyed) {i j : Nat} (hj : j ≤ R.length) (h : i ≤ j) (p : Nat) : (revB R i j)[p]? = if i ≤ p ∧ p < j then R[i + j - 1 - p]? else R[p]? := by
  unfold revB
  have len1 : (R.take i).length = i := by rw [List.length_take]; omega
  have len2 : ((R.take j).drop i).length = j - i := by rw [List.length_drop, List.length_take]; omega
  by_cases c1 : p < i
  · rw [List.getElem?_append_left (by omega), if_neg (by omega), List.getElem?_take, if_pos c1]
  rw [List.getElem?_append_right (by omega), len1]
  by_cases c2 : p < j
  · rw [if_pos ⟨by omega, c2⟩, List.getElem?_append_left (by rw [List.length_reverse]; omega), List.getElem?_reverse (by omega), len2, List.getElem?_drop, List.getElem?_take, if_pos (by omega)]
    congr 1; omega
  · rw [if_neg (by omega), List.getElem?_append_right (by rw [List.length_reverse]; omega), List.length_reverse, len2, List.getElem?_drop]
    congr 1; omega
theorem mirror_list {ar : Array Keyed} {P R : List Keyed} (h : ar.toList = P ++ R) {i j : Nat} (hj : j ≤ R.length) (hi : i ≤ j) : (mirror ar (P.length + i) (P.length + j) ((P.length + j - (P.length + i)) / 2)).toList = P ++ revB R i j := by
  have hsz : ar.size = P.length + R.length := by
    have := congrArg List.length h
    rw [Array.length_toList] at this
    simp at this; omega
  apply List.ext_getElem?
  intro p
  rw [Array.getElem?_toList, getElem?_mirror_all (by omega) p]
  have get : ∀ q, ar[q]? = (P ++ R)[q]? := fun q => by rw [← h, Array.getElem?_toList]
  by_cases c1 : p < P.length
  · rw [if_neg (by omega), get, List.getElem?_append_left c1, List.getElem?_append_left c1]
  · rw [List.getElem?_append_right (by omega), revB_get R hj hi]
    by_cases c2 : P.length + i ≤ p ∧ p < P.length + j
    · rw [if_pos c2, if_pos (show i ≤ p - P.length ∧ p - P.length < j by omega), get, List.getElem?_append_right (by omega)]
      congr 1; omega
    · rw [if_neg c2, if_neg (show ¬ (i ≤ p - P.length ∧ p - P.length < j) by omega), get, List.getElem?_append_right (by omega)]
theorem OrdB.refl {ltb : Keyed → Keyed → Bool} (O : OrdB ltb) (x : Keyed) : leB ltb x x := by
  unfold leB
  cases q : ltb x x with
  | false => rfl
  | true => have := O.asym q; rw [q] at this; cases this
def FallTo (ltb : Keyed → Keyed → Bool) (R : List Keyed) (k : Nat) : Prop := ∀ i j x y, i < j → j < k → R[i]? = some x → R[j]? = some y → leB ltb y x
def EqSeg (ltb : Keyed → Keyed → Bool) (R : List Keyed) (a b : Nat) : Prop := ∀ i j x y, a ≤ i → i < b → a ≤ j → j < b → R[i]? = some x → R[j]? = some y → leB ltb x y
section
variable {ltb : Keyed → Keyed → Bool} {R : List Keyed}
theorem RiseTo.more (O : OrdB ltb) {n : Nat} (h : RiseTo ltb R n) (hn : 1 ≤ n) {u v : Keyed} (hu : R[n - 1]? = some u) (hv : R[n]? = some v) (c : leB ltb u v) : RiseTo ltb R (n + 1) := by
  intro i j x y hij hj hx hy
  by_cases e : j = n
  · subst e
    rw [hv] at hy; cases hy
    by_cases e2 : i = j - 1
    · subst e2; rw [hu] at hx; cases hx; exact c
    · exact O.tr (h i (j - 1) x u (by omega) (by omega) hx hu) c
  · exact h i j x y hij (by omega) hx hy
theorem FallTo.more (O : OrdB ltb) {n : Nat} (h : FallTo ltb R n) (hn : 1 ≤ n) {u v : Keyed} (hu : R[n - 1]? = some u) (hv : R[n]? = some v) (c : leB ltb v u) : FallTo ltb R (n + 1) := by
  intro i j x y hij hj hx hy
  by_cases e : j = n
  · subst e
    rw [hv] at hy; cases hy
    by_cases e2 : i = j - 1
    · subst e2; rw [hu] at hx; cases hx; exact c
    · exact O.tr c (h i (j - 1) x u (by omega) (by omega) hx hu)
  · exact h i j x y hij (by omega) hx hy
theorem FallTo.seg {n a : Nat} (h : FallTo ltb R n) (ha : a ≤ n) (hn : n ≤ R.length) (e : EqSeg ltb R a n) : FallTo ltb (revB R a n) n := by
  intro i j x y hij hj hx hy
  rw [revB_get R hn ha] at hx hy
  by_cases c1 : a ≤ i
  · rw [if_pos ⟨c1, by omega⟩] at hx
    rw [if_pos ⟨by omega, hj⟩] at hy
    exact e _ _ y x (by omega) (by omega) (by omega) (by omega) hy hx
  · rw [if_neg (by omega)] at hx
    by_cases c2 : a ≤ j
    · rw [if_pos ⟨c2, hj⟩] at hy
      exact h i _ x y (by omega) (by omega) hx hy
    · rw [if_neg (by omega)] at hy
      exact h i j x y hij hj hx hy
theorem FallTo.turn {n : Nat} (h : FallTo ltb R n) (hn : n ≤ R.length) : RiseTo ltb (revB R 0 n) n := by
  intro i j x y hij hj hx hy
  rw [revB_get R hn (Nat.zero_le _), if_pos ⟨Nat.zero_le _, by omega⟩] at hx
  rw [revB_get R hn (Nat.zero_le _), if_pos ⟨Nat.zero_le _, hj⟩] at hy
  exact h _ _ y x (by omega) (by omega) hy hx
end
section
variable {prog : Program} {w : World} {A : Around} {E : Value → Shared → Prop} {s : Shared} {ltb : Keyed → Keyed → Bool} {S : Keyed → Prop} {κ : SortKind}
/-- the array is P and a permutation of R -/
structure ZS (κ : SortKind) (st : SortSt) (P R : List Keyed) (st' : SortSt) (R' : List Keyed) : Prop where
  kind : kindOf st' = κ
  fail : failedOf st' = none
  pend : pendingOf st' = pendingOf st
  arr : (arrOf st').toList = P ++ R'
  perm : R'.Perm R
theorem ZS.rev {st st' : SortSt} {P R R' : List Keyed} (z : ZS κ st P R st' R') {i j : Nat} (hj : j ≤ R'.length) (hi : i ≤ j) : ZS κ st P R (setArr st' (mirror (arrOf st') (P.length + i) (P.length + j) ((P.length + j - (P.length + i)) / 2))) (revB R' i j) :=
  ⟨z.kind, z.fail, z.pend, mirror_list z.arr hj hi, (revB_perm R' hi).trans z.perm⟩
theorem ZS.at {st st' : SortSt} {P R R' : List Keyed} (z : ZS κ st P R st' R') (i : Nat) (hi : i < R'.length) : (arrOf st')[P.length + i]? = R'[i]? := at_seg (T := []) (by rw [List.append_nil]; exact z.arr) i hi
theorem ZS.ask (hO : LtOk prog w A E s ltb S κ) {st st' : SortSt} {P R R' : List Keyed} (z : ZS κ st P R st' R') (hS : ∀ x ∈ R, S x) {a b i j : Nat} (ea : a = P.length + i) (eb : b = P.length + j) (hi : i < R'.length) (hj : j < R'.length) {Q : Option Bool → SortSt → Prop} (q : ∀ x y, R'[i]? = some x → R'[j]? = some y → Q (some (ltb x y)) st') :
    wpS (model prog w) A E s (ltAt' a b) Q st' := by
  have m : ∀ x, x ∈ R' → S x := fun x hx => hS x (z.perm.mem_iff.mp hx)
  obtain ⟨x, hx⟩ : ∃ x, R'[i]? = some x := ⟨_, List.getElem?_eq_getElem hi⟩
  obtain ⟨y, hy⟩ : ∃ y, R'[j]? = some y := ⟨_, List.getElem?_eq_getElem hj⟩
  exact wpS_ltAtB hO z.kind (by rw [ea, z.at i hi]; exact hx) (by rw [eb, z.at j hj]; exact hy) (m x (List.mem_of_getElem? hx)) (m y (List.mem_of_getElem? hy)) (q x y hx hy)
theorem wpS_runB (O : OrdB ltb) (hO : LtOk prog w A E s ltb S κ) {st : SortSt} {Q : Option Nat → SortSt → Prop} {P R : List Keyed} (hk : kindOf st = κ) (hf : failedOf st = none) (harr : (arrOf st).toList = P ++ R) (hR : 1 ≤ R.length) (hS : ∀ x ∈ R, S x)
    (h : ∀ (st' : SortSt) (R' : List Keyed) (n : Nat), ZS κ st P R st' R' → 1 ≤ n → n ≤ R.length → RiseTo ltb R' n → Q (some n) st') : wpS (model prog w) A E s (countRun' P.length R.length) Q st := by
  have z0 : ZS κ st P R st R := ⟨hk, hf, rfl, harr, List.Perm.refl _⟩
  rw [countRun'_eq]
  refine wpS_bind (wpS_mono (wpS_forRange (I := fun x c st' => st' = st ∧ c = (none, x) ∧ RiseTo ltb R x ∧ x ≤ R.length)
    (Q := fun c st' => st' = st ∧ ∃ n, c = (none, n) ∧ 1 ≤ n ∧ n ≤ R.length ∧ RiseTo ltb R n ∧ (n < R.length → ∀ u v, R[n - 1]? = some u → R[n]? = some v → ltb v u = true)) ?stp ?fin ⟨rfl, rfl, fun i j x y hij hj => by omega, hR⟩) ?post)
  case fin =>
    rintro c st' ⟨rfl, rfl, a1, a2⟩
    exact ⟨rfl, _, rfl, by omega, a2, a1, fun q => by omega⟩
  case stp =>
    rintro x c st' hx1 hx2 ⟨est, rfl, a1, a2⟩
    rw [est]
    dsimp only
    refine wpS_bind (z0.ask hO hS (i := x) (j := x - 1) rfl (by omega) hx2 (by omega) fun v u hv hu => ?_)
    dsimp only
    cases hw : ltb v u with
    | true =>
      simp only [if_true]
      exact wpS_pure ⟨rfl, x, rfl, hx1, a2, a1, fun _ u' v' hu' hv' => by rw [hu] at hu'; rw [hv] at hv'; cases hu'; cases hv'; exact hw⟩
    | false =>
      simp only [Bool.false_eq_true, if_false]
      exact wpS_pure ⟨rfl, rfl, a1.more O hx1 hu hv hw, by omega⟩
  case post =>
    rintro c st' ⟨est, n, rfl, a1, a2, a3, a4⟩
    rw [est]
    dsimp only
    by_cases c1 : n = R.length
    · rw [if_pos (by simpa using c1)]
      exact wpS_pure (h st R n z0 a1 a2 a3)
    rw [if_neg (by simpa using c1)]
    have a4 := a4 (by omega)
    obtain ⟨u0, hu0⟩ : ∃ u, R[n - 1]? = some u := ⟨_, List.getElem?_eq_getElem (by omega)⟩
    obtain ⟨v0, hv0⟩ : ∃ v, R[n]? = some v := ⟨_, List.getElem?_eq_getElem (by omega)⟩
    have hw0 := a4 u0 v0 hu0 hv0
    by_cases c2 : n > 1
    · rw [if_pos c2]
      refine wpS_bind (z0.ask hO hS (i := 0) (j := n - 1) rfl (by omega) (by omega) (by omega) fun f l hf0 hl0 => ?_)
      rw [hu0] at hl0; cases hl0
      dsimp only
      cases hw1 : ltb f u0 with
      | true =>
        simp only [if_true]
        exact wpS_pure (h st R n z0 a1 a2 a3)
      | false =>
        simp only [Bool.false_eq_true, if_false]
        rw [reverseSlice'_eq]
        refine wpS_bind (wpS_modify ?_)
        have z1 := z0.rev (i := 0) (j := n) (by omega) (Nat.zero_le _)
        rw [Nat.add_zero] at z1
        have eq0 : EqSeg ltb R 0 n := fun i j x y _ i2 _ j2 hx hy => by
          have t1 : leB ltb x u0 := by
            by_cases e : i = n - 1
            · subst e; rw [hu0] at hx; cases hx; exact O.refl _
            · exact a3 i (n - 1) x u0 (by omega) (by omega) hx hu0
          have t2 : leB ltb f y := by
            by_cases e : j = 0
            · subst e; rw [hf0] at hy; cases hy; exact O.refl _
            · exact a3 0 j f y (by omega) j2 hf0 hy
          exact O.tr (O.tr t1 hw1) t2
        have f1 : FallTo ltb (revB R 0 n) (n + 1) := by
          have ff : FallTo ltb R n := fun i j x y hij hj hx hy => eq0 j i y x (by omega) hj (by omega) (by omega) hy hx
          have fr := ff.seg (a := 0) (by omega) (by omega) eq0
          obtain ⟨u2, hu2⟩ : ∃ u2, (revB R 0 n)[n - 1]? = some u2 := ⟨_, List.getElem?_eq_getElem (by rw [(revB_perm R (by omega)).length_eq]; omega)⟩
          have hu3 := hu2
          rw [revB_get R (by omega) (by omega), if_pos (by omega)] at hu3
          refine fr.more O (by omega) hu2 (by rw [revB_get R (by omega) (by omega), if_neg (by omega)]; exact hv0) (O.tr (O.asym hw0) (eq0 (n - 1) _ u0 u2 (by omega) (by omega) (by omega) (by omega) hu0 hu3))
        generalize setArr st (mirror (arrOf st) P.length (P.length + n) ((P.length + n - P.length) / 2)) = st1 at z1 ⊢
        generalize hR1 : revB R 0 n = R1 at z1 f1
        refine wpS_bind (wpS_lift (wpAny_rule ⟨rfl, ?_⟩))
        refine wpS_bind (wpS_mono (wpS_forRange (I := fun x c st' => ∃ R' q, c = (none, x, q) ∧ ZS κ st P R st' R' ∧ q + 1 ≤ x ∧ x ≤ R.length ∧ FallTo ltb R' x ∧ EqSeg ltb R' (x - (q + 1)) x)
          (Q := fun c st' => ∃ R' m q, c = (none, m, q) ∧ ZS κ st P R st' R' ∧ q + 1 ≤ m ∧ m ≤ R.length ∧ FallTo ltb R' m ∧ EqSeg ltb R' (m - (q + 1)) m) ?stp3 ?fin3 ⟨R1, 0, rfl, z1, by omega, by omega, f1, fun i j x y i1 i2 j1 j2 hx hy => by
            have e1 : i = j := by omega
            subst e1; rw [hx] at hy; cases hy; exact O.refl x⟩) ?post3)
        case fin3 =>
          rintro c st' ⟨R', q, rfl, b1, b2, b3, b4, b5⟩
          exact ⟨R', _, q, rfl, b1, b2, b3, b4, b5⟩
        case stp3 =>
          rintro x c st' hx1 hx2 ⟨R', q, rfl, b1, b2, b3, b4, b5⟩
          have hl := b1.perm.length_eq
          dsimp only
          refine wpS_bind (b1.ask hO hS (i := x) (j := x - 1) rfl (by omega) (by omega) (by omega) fun v u hv hu => ?_)
          dsimp only
          cases hw : ltb v u with
          | true =>
            simp only [if_true]
            by_cases c6 : q > 0
            · rw [if_pos c6, reverseSlice'_eq]
              refine wpS_bind (wpS_modify ?_)
              have zr := b1.rev (i := x - (q + 1)) (j := x) (by omega) (by omega)
              have fr := b4.seg (a := x - (q + 1)) (by omega) (by omega) b5
              have hv2 : (revB R' (x - (q + 1)) x)[x]? = some v := by rw [revB_get R' (by omega) (by omega), if_neg (by omega)]; exact hv
              obtain ⟨u2, hu2⟩ : ∃ u2, (revB R' (x - (q + 1)) x)[x - 1]? = some u2 := ⟨_, List.getElem?_eq_getElem (by rw [(revB_perm R' (by omega)).length_eq]; omega)⟩
              have hu3 := hu2
              rw [revB_get R' (by omega) (by omega), if_pos (by omega)] at hu3
              have cc : leB ltb v u2 := O.tr (O.asym hw) (b5 (x - 1) _ u u2 (by omega) (by omega) (by omega) (by omega) hu hu3)
              refine wpS_pure ⟨_, 0, rfl, ?_, by omega, by omega, fr.more O (by omega) hu2 hv2 cc, fun i j x y i1 i2 j1 j2 hx hy => by
                have e1 : i = j := by omega
                subst e1; rw [hx] at hy; cases hy; exact O.refl x⟩
              rw [show P.length + x - (q + 1) = P.length + (x - (q + 1)) by omega]
              exact zr
            · rw [if_neg c6]
              exact wpS_pure ⟨R', 0, rfl, b1, by omega, by omega, b4.more O (by omega) hu hv (O.asym hw), fun i j x y i1 i2 j1 j2 hx hy => by
                have e1 : i = j := by omega
                subst e1; rw [hx] at hy; cases hy; exact O.refl x⟩
          | false =>
            simp only [Bool.false_eq_true, if_false]
            refine wpS_bind (b1.ask hO hS (i := x - 1) (j := x) (by omega) rfl (by omega) (by omega) fun u' v' hu' hv' => ?_)
            rw [hu] at hu'; cases hu'
            rw [hv] at hv'; cases hv'
            dsimp only
            cases hw2 : ltb u v with
            | true =>
              simp only [if_true]
              exact wpS_pure ⟨R', x, q, rfl, b1, b2, b3, b4, b5⟩
            | false =>
              simp only [Bool.false_eq_true, if_false]
              refine wpS_pure ⟨R', q + 1, rfl, b1, by omega, by omega, b4.more O (by omega) hu hv hw2, fun i j p r i1 i2 j1 j2 hp hr => ?_⟩
              have toU : ∀ i p, x + 1 - (q + 1 + 1) ≤ i → i < x + 1 → R'[i]? = some p → leB ltb p u ∧ leB ltb u p := fun i p g1 g2 hp => by
                by_cases e : i = x
                · subst e; rw [hv] at hp; cases hp; exact ⟨hw2, hw⟩
                · exact ⟨b5 i (x - 1) p u (by omega) (by omega) (by omega) (by omega) hp hu, b5 (x - 1) i u p (by omega) (by omega) (by omega) (by omega) hu hp⟩
              exact O.tr (toU i p (by omega) i2 hp).1 (toU j r (by omega) j2 hr).2
        case post3 =>
          rintro c st3 ⟨R', m, q, rfl, b1, b2, b3, b4, b5⟩
          have hl := b1.perm.length_eq
          dsimp only
          by_cases c7 : q > 0
          · rw [if_pos c7, reverseSlice'_eq]
            refine wpS_bind (wpS_modify ?_)
            have zr := b1.rev (i := m - (q + 1)) (j := m) (by omega) (by omega)
            rw [show P.length + (m - (q + 1)) = P.length + m - (q + 1) by omega] at zr
            have fr := b4.seg (a := m - (q + 1)) (by omega) (by omega) b5
            have hl2 := zr.perm.length_eq
            generalize setArr st3 (mirror (arrOf st3) (P.length + m - (q + 1)) (P.length + m) ((P.length + m - (P.length + m - (q + 1))) / 2)) = st4 at zr ⊢
            generalize revB R' (m - (q + 1)) m = R4 at zr fr hl2
            rw [reverseSlice'_eq]
            refine wpS_bind (wpS_modify ?_)
            have z5 := zr.rev (i := 0) (j := m) (by omega) (Nat.zero_le _)
            rw [Nat.add_zero] at z5
            have r5 := fr.turn (by omega)
            generalize setArr st4 (mirror (arrOf st4) P.length (P.length + m) ((P.length + m - P.length) / 2)) = st5 at z5 ⊢
            refine wpS_bind (wpS_mono (wpS_forRange (I := fun x c st' => st' = st5 ∧ c = (none, x) ∧ RiseTo ltb (revB R4 0 m) x ∧ x ≤ R.length)
              (Q := fun c st' => st' = st5 ∧ ∃ n, c = (none, n) ∧ 1 ≤ n ∧ n ≤ R.length ∧ RiseTo ltb (revB R4 0 m) n) ?stp5 ?fin5 ⟨rfl, rfl, r5, by omega⟩) ?post5)
            case fin5 =>
              rintro c st' ⟨est, rfl, b1, b2⟩
              exact ⟨est, _, rfl, by omega, b2, b1⟩
            case post5 =>
              rintro c st' ⟨est, n5, rfl, b1, b2, b3⟩
              rw [est]
              exact wpS_pure (h _ _ n5 z5 b1 b2 b3)
            case stp5 =>
              rintro x c st' hx1 hx2 ⟨est, rfl, b1, b2⟩
              rw [est]
              dsimp only
              refine wpS_bind (z5.ask hO hS (i := x) (j := x - 1) rfl (by omega) (by rw [z5.perm.length_eq]; exact hx2) (by rw [z5.perm.length_eq]; omega) fun v u hv hu => ?_)
              dsimp only
              cases hw : ltb v u with
              | true =>
                simp only [if_true]
                exact wpS_pure ⟨rfl, x, rfl, by omega, b2, b1⟩
              | false =>
                simp only [Bool.false_eq_true, if_false]
                exact wpS_pure ⟨rfl, rfl, b1.more O (by omega) hu hv hw, by omega⟩
          · rw [if_neg c7, reverseSlice'_eq]
            refine wpS_bind (wpS_modify ?_)
            have z5 := b1.rev (i := 0) (j := m) (by omega) (Nat.zero_le _)
            rw [Nat.add_zero] at z5
            have r5 := b4.turn (by omega)
            generalize setArr st3 (mirror (arrOf st3) P.length (P.length + m) ((P.length + m - P.length) / 2)) = st5 at z5 ⊢
            refine wpS_bind (wpS_mono (wpS_forRange (I := fun x c st' => st' = st5 ∧ c = (none, x) ∧ RiseTo ltb (revB R' 0 m) x ∧ x ≤ R.length)
              (Q := fun c st' => st' = st5 ∧ ∃ n, c = (none, n) ∧ 1 ≤ n ∧ n ≤ R.length ∧ RiseTo ltb (revB R' 0 m) n) ?stp5 ?fin5 ⟨rfl, rfl, r5, by omega⟩) ?post5)
            case fin5 =>
              rintro c st' ⟨est, rfl, b1, b2⟩
              exact ⟨est, _, rfl, by omega, b2, b1⟩
            case post5 =>
              rintro c st' ⟨est, n5, rfl, b1, b2, b3⟩
              rw [est]
              exact wpS_pure (h _ _ n5 z5 b1 b2 b3)
            case stp5 =>
              rintro x c st' hx1 hx2 ⟨est, rfl, b1, b2⟩
              rw [est]
              dsimp only
              refine wpS_bind (z5.ask hO hS (i := x) (j := x - 1) rfl (by omega) (by rw [z5.perm.length_eq]; exact hx2) (by rw [z5.perm.length_eq]; omega) fun v u hv hu => ?_)
              dsimp only
              cases hw : ltb v u with
              | true =>
                simp only [if_true]
                exact wpS_pure ⟨rfl, x, rfl, by omega, b2, b1⟩
              | false =>
                simp only [Bool.false_eq_true, if_false]
                exact wpS_pure ⟨rfl, rfl, b1.more O (by omega) hu hv hw, by omega⟩
    · rw [if_neg c2]
      have e1 : n = 1 := by omega
      have f1 : FallTo ltb R (n + 1) := by
        have ff : FallTo ltb R n := fun i j x y hij hj hx hy => by omega
        exact ff.more O a1 hu0 hv0 (O.asym hw0)
      have z1 := z0
      have hR1 : ∃ R1, R1 = R := ⟨_, rfl⟩
      refine wpS_bind (wpS_lift (wpAny_rule ⟨rfl, ?_⟩))
      refine wpS_bind (wpS_mono (wpS_forRange (I := fun x c st' => ∃ R' q, c = (none, x, q) ∧ ZS κ st P R st' R' ∧ q + 1 ≤ x ∧ x ≤ R.length ∧ FallTo ltb R' x ∧ EqSeg ltb R' (x - (q + 1)) x)
        (Q := fun c st' => ∃ R' m q, c = (none, m, q) ∧ ZS κ st P R st' R' ∧ q + 1 ≤ m ∧ m ≤ R.length ∧ FallTo ltb R' m ∧ EqSeg ltb R' (m - (q + 1)) m) ?stp3 ?fin3 ⟨R, 0, rfl, z1, by omega, by omega, f1, fun i j x y i1 i2 j1 j2 hx hy => by
          have e1 : i = j := by omega
          subst e1; rw [hx] at hy; cases hy; exact O.refl x⟩) ?post3)
      case fin3 =>
        rintro c st' ⟨R', q, rfl, b1, b2, b3, b4, b5⟩
        exact ⟨R', _, q, rfl, b1, b2, b3, b4, b5⟩
      case stp3 =>
        rintro x c st' hx1 hx2 ⟨R', q, rfl, b1, b2, b3, b4, b5⟩
        have hl := b1.perm.length_eq
        dsimp only
        refine wpS_bind (b1.ask hO hS (i := x) (j := x - 1) rfl (by omega) (by omega) (by omega) fun v u hv hu => ?_)
        dsimp only
        cases hw : ltb v u with
        | true =>
          simp only [if_true]
          by_cases c6 : q > 0
          · rw [if_pos c6, reverseSlice'_eq]
            refine wpS_bind (wpS_modify ?_)
            have zr := b1.rev (i := x - (q + 1)) (j := x) (by omega) (by omega)
            have fr := b4.seg (a := x - (q + 1)) (by omega) (by omega) b5
            have hv2 : (revB R' (x - (q + 1)) x)[x]? = some v := by rw [revB_get R' (by omega) (by omega), if_neg (by omega)]; exact hv
            obtain ⟨u2, hu2⟩ : ∃ u2, (revB R' (x - (q + 1)) x)[x - 1]? = some u2 := ⟨_, List.getElem?_eq_getElem (by rw [(revB_perm R' (by omega)).length_eq]; omega)⟩
            have hu3 := hu2
            rw [revB_get R' (by omega) (by omega), if_pos (by omega)] at hu3
            have cc : leB ltb v u2 := O.tr (O.asym hw) (b5 (x - 1) _ u u2 (by omega) (by omega) (by omega) (by omega) hu hu3)
            refine wpS_pure ⟨_, 0, rfl, ?_, by omega, by omega, fr.more O (by omega) hu2 hv2 cc, fun i j x y i1 i2 j1 j2 hx hy => by
              have e1 : i = j := by omega
              subst e1; rw [hx] at hy; cases hy; exact O.refl x⟩
            rw [show P.length + x - (q + 1) = P.length + (x - (q + 1)) by omega]
            exact zr
          · rw [if_neg c6]
            exact wpS_pure ⟨R', 0, rfl, b1, by omega, by omega, b4.more O (by omega) hu hv (O.asym hw), fun i j x y i1 i2 j1 j2 hx hy => by
              have e1 : i = j := by omega
              subst e1; rw [hx] at hy; cases hy; exact O.refl x⟩
        | false =>
          simp only [Bool.false_eq_true, if_false]
          refine wpS_bind (b1.ask hO hS (i := x - 1) (j := x) (by omega) rfl (by omega) (by omega) fun u' v' hu' hv' => ?_)
          rw [hu] at hu'; cases hu'
          rw [hv] at hv'; cases hv'
          dsimp only
          cases hw2 : ltb u v with
          | true =>
            simp only [if_true]
            exact wpS_pure ⟨R', x, q, rfl, b1, b2, b3, b4, b5⟩
          | false =>
            simp only [Bool.false_eq_true, if_false]
            refine wpS_pure ⟨R', q + 1, rfl, b1, by omega, by omega, b4.more O (by omega) hu hv hw2, fun i j p r i1 i2 j1 j2 hp hr => ?_⟩
            have toU : ∀ i p, x + 1 - (q + 1 + 1) ≤ i → i < x + 1 → R'[i]? = some p → leB ltb p u ∧ leB ltb u p := fun i p g1 g2 hp => by
              by_cases e : i = x
              · subst e; rw [hv] at hp; cases hp; exact ⟨hw2, hw⟩
              · exact ⟨b5 i (x - 1) p u (by omega) (by omega) (by omega) (by omega) hp hu, b5 (x - 1) i u p (by omega) (by omega) (by omega) (by omega) hu hp⟩
            exact O.tr (toU i p (by omega) i2 hp).1 (toU j r (by omega) j2 hr).2
      case post3 =>
        rintro c st3 ⟨R', m, q, rfl, b1, b2, b3, b4, b5⟩
        have hl := b1.perm.length_eq
        dsimp only
        by_cases c7 : q > 0
        · rw [if_pos c7, reverseSlice'_eq]
          refine wpS_bind (wpS_modify ?_)
          have zr := b1.rev (i := m - (q + 1)) (j := m) (by omega) (by omega)
          rw [show P.length + (m - (q + 1)) = P.length + m - (q + 1) by omega] at zr
          have fr := b4.seg (a := m - (q + 1)) (by omega) (by omega) b5
          have hl2 := zr.perm.length_eq
          generalize setArr st3 (mirror (arrOf st3) (P.length + m - (q + 1)) (P.length + m) ((P.length + m - (P.length + m - (q + 1))) / 2)) = st4 at zr ⊢
          generalize revB R' (m - (q + 1)) m = R4 at zr fr hl2
          rw [reverseSlice'_eq]
          refine wpS_bind (wpS_modify ?_)
          have z5 := zr.rev (i := 0) (j := m) (by omega) (Nat.zero_le _)
          rw [Nat.add_zero] at z5
          have r5 := fr.turn (by omega)
          generalize setArr st4 (mirror (arrOf st4) P.length (P.length + m) ((P.length + m - P.length) / 2)) = st5 at z5 ⊢
          refine wpS_bind (wpS_mono (wpS_forRange (I := fun x c st' => st' = st5 ∧ c = (none, x) ∧ RiseTo ltb (revB R4 0 m) x ∧ x ≤ R.length)
            (Q := fun c st' => st' = st5 ∧ ∃ n, c = (none, n) ∧ 1 ≤ n ∧ n ≤ R.length ∧ RiseTo ltb (revB R4 0 m) n) ?stp5 ?fin5 ⟨rfl, rfl, r5, by omega⟩) ?post5)
          case fin5 =>
            rintro c st' ⟨est, rfl, b1, b2⟩
            exact ⟨est, _, rfl, by omega, b2, b1⟩
          case post5 =>
            rintro c st' ⟨est, n5, rfl, b1, b2, b3⟩
            rw [est]
            exact wpS_pure (h _ _ n5 z5 b1 b2 b3)
          case stp5 =>
            rintro x c st' hx1 hx2 ⟨est, rfl, b1, b2⟩
            rw [est]
            dsimp only
            refine wpS_bind (z5.ask hO hS (i := x) (j := x - 1) rfl (by omega) (by rw [z5.perm.length_eq]; exact hx2) (by rw [z5.perm.length_eq]; omega) fun v u hv hu => ?_)
            dsimp only
            cases hw : ltb v u with
            | true =>
              simp only [if_true]
              exact wpS_pure ⟨rfl, x, rfl, by omega, b2, b1⟩
            | false =>
              simp only [Bool.false_eq_true, if_false]
              exact wpS_pure ⟨rfl, rfl, b1.more O (by omega) hu hv hw, by omega⟩
        · rw [if_neg c7, reverseSlice'_eq]
          refine wpS_bind (wpS_modify ?_)
          have z5 := b1.rev (i := 0) (j := m) (by omega) (Nat.zero_le _)
          rw [Nat.add_zero] at z5
          have r5 := b4.turn (by omega)
          generalize setArr st3 (mirror (arrOf st3) P.length (P.length + m) ((P.length + m - P.length) / 2)) = st5 at z5 ⊢
          refine wpS_bind (wpS_mono (wpS_forRange (I := fun x c st' => st' = st5 ∧ c = (none, x) ∧ RiseTo ltb (revB R' 0 m) x ∧ x ≤ R.length)
            (Q := fun c st' => st' = st5 ∧ ∃ n, c = (none, n) ∧ 1 ≤ n ∧ n ≤ R.length ∧ RiseTo ltb (revB R' 0 m) n) ?stp5 ?fin5 ⟨rfl, rfl, r5, by omega⟩) ?post5)
          case fin5 =>
            rintro c st' ⟨est, rfl, b1, b2⟩
            exact ⟨est, _, rfl, by omega, b2, b1⟩
          case post5 =>
            rintro c st' ⟨est, n5, rfl, b1, b2, b3⟩
            rw [est]
            exact wpS_pure (h _ _ n5 z5 b1 b2 b3)
          case stp5 =>
            rintro x c st' hx1 hx2 ⟨est, rfl, b1, b2⟩
            rw [est]
            dsimp only
            refine wpS_bind (z5.ask hO hS (i := x) (j := x - 1) rfl (by omega) (by rw [z5.perm.length_eq]; exact hx2) (by rw [z5.perm.length_eq]; omega) fun v u hv hu => ?_)
            dsimp only
            cases hw : ltb v u with
            | true =>
              simp only [if_true]
              exact wpS_pure ⟨rfl, x, rfl, by omega, b2, b1⟩
            | false =>
              simp only [Bool.false_eq_true, if_false]
              exact wpS_pure ⟨rfl, rfl, b1.more O (by omega) hu hv hw, by omega⟩
end
end L2

/-! the runs that stand, and their merging -/
namespace L2
open PySem PySem.Spec PyProof.Rows
/-- the runs' places and lengths -/
def Offs : Nat → List (List Keyed) → List (Nat × Nat × Nat) → Prop
  | _, [], [] => True
  | o, r :: rs, p :: ps => p.1 = o ∧ p.2.1 = r.length ∧ Offs (o + r.length) rs ps
  | _, _, _ => False
theorem Offs.len : ∀ {o : Nat} {rs : List (List Keyed)} {ps : List (Nat × Nat × Nat)}, Offs o rs ps → rs.length = ps.length
  | _, [], [], _ => rfl
  | _, _ :: _, _ :: _, ⟨_, _, t⟩ => congrArg (· + 1) (Offs.len t)
theorem Offs.app : ∀ {o : Nat} {rs ts : List (List Keyed)} {ps qs : List (Nat × Nat × Nat)}, Offs o rs ps → Offs (o + rs.flatten.length) ts qs → Offs o (rs ++ ts) (ps ++ qs)
  | o, [], ts, [], qs, _, h => by simpa using h
  | o, r :: rs, ts, p :: ps, qs, ⟨a, b, t⟩, h => ⟨a, b, Offs.app t (by rw [List.flatten_cons, List.length_append] at h; rw [Nat.add_assoc]; exact h)⟩
theorem Offs.split : ∀ {o : Nat} {rs ts : List (List Keyed)} {ps : List (Nat × Nat × Nat)}, Offs o (rs ++ ts) ps → ∃ p1 p2, ps = p1 ++ p2 ∧ p1.length = rs.length ∧ Offs o rs p1 ∧ Offs (o + rs.flatten.length) ts p2
  | o, [], ts, ps, h => ⟨[], ps, rfl, rfl, trivial, by simpa using h⟩
  | o, r :: rs, ts, [], h => h.elim
  | o, r :: rs, ts, p :: ps, ⟨a, b, t⟩ => by
    obtain ⟨p1, p2, rfl, e, f, g⟩ := Offs.split t
    exact ⟨p :: p1, p2, rfl, congrArg (· + 1) e, ⟨a, b, f⟩, by rw [List.flatten_cons, List.length_append, ← Nat.add_assoc]; exact g⟩
section
variable {ltb : Keyed → Keyed → Bool} {κ : SortKind}
/-- runs that rise, one behind the other, then what is left -/
structure RI (ltb : Keyed → Keyed → Bool) (κ : SortKind) (a0 : List Keyed) (st : SortSt) (rs : List (List Keyed)) (U : List Keyed) : Prop where
  kind : kindOf st = κ
  fail : failedOf st = none
  arr : (arrOf st).toList = rs.flatten ++ U
  perm : (arrOf st).toList.Perm a0
  offs : Offs 0 rs (pendingOf st).toList
  rise : ∀ r ∈ rs, r.Pairwise (leB ltb) ∧ r ≠ []
theorem flat_len : ∀ {rs : List (List Keyed)}, (∀ r ∈ rs, r ≠ []) → rs.length ≤ rs.flatten.length
  | [], _ => Nat.le_refl _
  | r :: rs, h => by
    have := flat_len (rs := rs) fun x hx => h x (List.mem_cons_of_mem _ hx)
    have l := List.length_pos_iff.mpr (h r List.mem_cons_self)
    rw [List.flatten_cons, List.length_append, List.length_cons]; omega
end
section
variable {prog : Program} {w : World} {A : Around} {E : Value → Shared → Prop} {s : Shared} {ltb : Keyed → Keyed → Bool} {S : Keyed → Prop} {κ : SortKind}
theorem two_at {α : Type} {l : List α} {i : Nat} (h : i + 1 < l.length) : ∃ pre x y post, l = pre ++ [x, y] ++ post ∧ pre.length = i := by
  refine ⟨l.take i, l[i], l[i + 1], l.drop (i + 2), ?_, by rw [List.length_take]; omega⟩
  have e1 := List.drop_eq_getElem_cons (show i < l.length by omega)
  have e2 := List.drop_eq_getElem_cons h
  conv => lhs; rw [← List.take_append_drop i l, e1, e2]
  simp
theorem wpS_mergeR (O : OrdB ltb) (hO : LtOk prog w A E s ltb S κ) {st : SortSt} {Q : Bool → SortSt → Prop} {a0 : List Keyed} {rs : List (List Keyed)} {U : List Keyed} {i : Nat} (hS : ∀ x ∈ a0, S x) (ri : RI ltb κ a0 st rs U) (hi : i + 1 < rs.length)
    (h : ∀ st' rs', RI ltb κ a0 st' rs' U → rs'.length + 1 = rs.length → rs'.flatten.length = rs.flatten.length → Q true st') : wpS (model prog w) A E s (mergeAt' i) Q st := by
  obtain ⟨pre, r1, r2, post, rfl, hpre⟩ := two_at hi
  have off := ri.offs
  rw [List.append_assoc] at off
  obtain ⟨p1, p2, ep, lp, o1, o2⟩ := off.split
  cases p2 with
  | nil => exact o2.elim
  | cons x p2 =>
    cases p2 with
    | nil => exact o2.2.2.elim
    | cons y p3 =>
      obtain ⟨x1, x2, y1, y2, o3⟩ := o2
      obtain ⟨ba, ka, pw⟩ := x
      obtain ⟨bb, kb, pv⟩ := y
      dsimp only at x1 x2 y1 y2
      have lp' : p1.length = i := by omega
      have g1 : (pendingOf st)[i]? = some (ba, ka, pw) := by
        rw [← Array.getElem?_toList, ep, List.getElem?_append_right (by omega), lp', Nat.sub_self]; rfl
      have g2 : (pendingOf st)[i + 1]? = some (bb, kb, pv) := by
        rw [← Array.getElem?_toList, ep, List.getElem?_append_right (by omega), lp', Nat.add_sub_cancel_left]; rfl
      have q1 := ri.rise r1 (by simp)
      have q2 := ri.rise r2 (by simp)
      refine wpS_mergeAt O hO (P := pre.flatten) (R1 := r1) (R2 := r2) (T := post.flatten ++ U) ri.kind ri.fail g1 g2 (by rw [ri.arr]; simp) (by omega) x2 (by omega) y2 q1.2 q2.2 q1.1 q2.1 (fun x hx => hS x (ri.perm.mem_iff.mp hx)) fun st' R s1 s2 s3 s4 s5 s6 => ?_
      have lR : R.length = r1.length + r2.length := by rw [s2.length_eq, List.length_append]
      refine h st' (pre ++ [R] ++ post) ⟨s4, s5, by rw [s3]; simp, ?_, ?_, ?_⟩ (by simp; omega) (by simp [lR]; omega)
      · rw [s3]
        refine List.Perm.trans ?_ ri.perm
        rw [ri.arr]
        have : (pre.flatten ++ R ++ (post.flatten ++ U)).Perm (pre.flatten ++ (r1 ++ r2) ++ (post.flatten ++ U)) := List.Perm.append_right _ (List.Perm.append_left _ s2)
        refine this.trans (List.Perm.of_eq (by simp))
      · have e6 : (pendingOf st').toList = p1 ++ ((ba, ka + kb, pw) :: p3) := by
          rw [s6, Array.toList_eraseIdxIfInBounds, Array.toList_setIfInBounds, ep]
          rw [List.set_append_right _ _ (by omega), lp', Nat.sub_self]
          rw [List.eraseIdx_append_of_length_le (by omega), lp', Nat.add_sub_cancel_left]
          rfl
        rw [e6, List.append_assoc]
        refine Offs.app o1 ⟨x1, by show ka + kb = R.length; omega, ?_⟩
        have e7 : 0 + pre.flatten.length + R.length = 0 + pre.flatten.length + r1.length + r2.length := by omega
        rw [e7]; exact o3
      · intro r hr
        rcases List.mem_append.mp hr with z | z
        · rcases List.mem_append.mp z with z | z
          · exact ri.rise r (by simp [z])
          · simp at z
            rw [z]
            refine ⟨s1, fun e => ?_⟩
            rw [e] at lR
            have := List.length_pos_iff.mpr q1.2
            simp at lR; omega
        · exact ri.rise r (by simp [z])
end
end L2

/-! the whole of it -/
namespace L2
open PySem PySem.Spec PyProof.Rows
theorem Offs.mod {f : Nat × Nat × Nat → Nat × Nat × Nat} (hf : ∀ p, (f p).1 = p.1 ∧ (f p).2.1 = p.2.1) : ∀ {o : Nat} {rs : List (List Keyed)} {ps : List (Nat × Nat × Nat)} (k : Nat), Offs o rs ps → Offs o rs (ps.modify k f)
  | _, [], [], k, _ => by cases k <;> exact trivial
  | o, r :: rs, p :: ps, 0, ⟨a, b, t⟩ => ⟨(hf p).1.trans a, (hf p).2.trans b, t⟩
  | o, r :: rs, p :: ps, k + 1, ⟨a, b, t⟩ => ⟨a, b, Offs.mod hf k t⟩
section
variable {ltb : Keyed → Keyed → Bool} {κ : SortKind} {a0 : List Keyed} {st : SortSt} {rs : List (List Keyed)}
theorem RI.push {run U2 : List Keyed} {lo n : Nat} (ri : RI ltb κ a0 st rs (run ++ U2)) (h1 : run.Pairwise (leB ltb)) (h2 : run ≠ []) (el : lo = rs.flatten.length) (en : n = run.length) : RI ltb κ a0 (setPending st ((pendingOf st).push (lo, n, 0))) (rs ++ [run]) U2 := by
  refine ⟨ri.kind, ri.fail, by show (arrOf st).toList = _; rw [ri.arr]; simp, ri.perm, ?_, fun r hr => ?_⟩
  · show Offs 0 _ ((pendingOf st).push _).toList
    rw [Array.toList_push]
    exact Offs.app ri.offs ⟨by show lo = 0 + _; omega, en, trivial⟩
  · rcases List.mem_append.mp hr with z | z
    · exact ri.rise r z
    · simp at z; rw [z]; exact ⟨h1, h2⟩
theorem RI.mod {U : List Keyed} (ri : RI ltb κ a0 st rs U) (pw k : Nat) : RI ltb κ a0 (setPending st ((pendingOf st).modify k fun q => (q.1, q.2.1, pw))) rs U :=
  ⟨ri.kind, ri.fail, ri.arr, ri.perm, by
    show Offs 0 rs ((pendingOf st).modify k _).toList
    rw [Array.toList_modify]
    exact Offs.mod (f := fun q => (q.1, q.2.1, pw)) (fun p => ⟨rfl, rfl⟩) k ri.offs, ri.rise⟩
end
theorem flat_snoc (rs : List (List Keyed)) (r : List Keyed) : (rs ++ [r]).flatten.length = rs.flatten.length + r.length := by simp
theorem rise_all {ltb : Keyed → Keyed → Bool} {R : List Keyed} (h : RiseTo ltb R R.length) : R.Pairwise (leB ltb) := by
  rw [List.pairwise_iff_getElem]
  intro i j hi hj hij
  exact h i j _ _ hij hj (List.getElem?_eq_getElem hi) (List.getElem?_eq_getElem hj)
theorem rise_take {ltb : Keyed → Keyed → Bool} {R : List Keyed} {n : Nat} (h : RiseTo ltb R n) (hn : n ≤ R.length) : (R.take n).Pairwise (leB ltb) := by
  apply rise_all
  intro i j x y hij hj hx hy
  rw [List.length_take] at hj
  rw [List.getElem?_take, if_pos (by omega)] at hx hy
  exact h i j x y hij (by omega) hx hy
theorem minRun_pos : ∀ (f n r : Nat), 1 ≤ n → 1 ≤ minRun' f n r
  | 0, n, r, h => by show 1 ≤ n + r; omega
  | f + 1, n, r, h => by
    rw [minRun'_succ]
    split
    · omega
    · exact minRun_pos f (n / 2) _ (by omega)
section
variable {prog : Program} {w : World} {A : Around} {E : Value → Shared → Prop} {s : Shared} {ltb : Keyed → Keyed → Bool} {S : Keyed → Prop} {κ : SortKind}
theorem wpS_sortB (O : OrdB ltb) (hO : LtOk prog w A E s ltb S κ) {st : SortSt} {Q : Unit → SortSt → Prop} {a0 : List Keyed} (hk : kindOf st = κ) (hf : failedOf st = none) (harr : (arrOf st).toList = a0) (hp : pendingOf st = #[]) (hS : ∀ x ∈ a0, S x)
    (h : ∀ st', (arrOf st').toList.Perm a0 → (arrOf st').toList.Pairwise (leB ltb) → failedOf st' = none → Q () st') : wpS (model prog w) A E s sortRuns' Q st := by
  have hN : (arrOf st).size = a0.length := by rw [← harr, Array.length_toList]
  rw [sortRuns'_eq]
  refine wpS_bind (wpS_get ?_)
  dsimp only
  rw [hN]
  have ri0 : RI ltb κ a0 st [] a0 := ⟨hk, hf, by rw [harr]; rfl, by rw [harr], by rw [hp]; exact trivial, fun r hr => by cases hr⟩
  have split : ∀ {st' rs U}, RI ltb κ a0 st' rs U → rs.flatten.length + U.length = a0.length := fun {st' rs U} ri => by
    have := ri.perm.length_eq
    rw [ri.arr, List.length_append] at this; exact this
  refine wpS_bind (wpS_mono (wpS_forRange (I := fun x c st' => ∃ rs U, c = (none, rs.flatten.length) ∧ RI ltb κ a0 st' rs U ∧ x ≤ rs.flatten.length)
    (Q := fun c st' => ∃ rs, c = (none, a0.length) ∧ RI ltb κ a0 st' rs [] ∧ rs.flatten.length = a0.length) ?stp ?fin ⟨[], a0, rfl, ri0, Nat.zero_le _⟩) ?post)
  case fin =>
    rintro c st' ⟨rs, U, rfl, ri, hx⟩
    have := split ri
    have hU : U = [] := List.length_eq_zero_iff.mp (by omega)
    subst hU
    refine ⟨rs, ?_, ri, by omega⟩
    rw [show rs.flatten.length = a0.length by omega]
  case post =>
    rintro c st1 ⟨rs, rfl, ri, hfl⟩
    dsimp only
    have hrl := flat_len (rs := rs) fun r hr => (ri.rise r hr).2
    refine wpS_bind (wpS_mono (wpS_forRange (I := fun x c st' => ∃ rs, c = (none, ()) ∧ RI ltb κ a0 st' rs [] ∧ rs.length + x ≤ a0.length)
      (Q := fun c st' => ∃ rs, c = (none, ()) ∧ RI ltb κ a0 st' rs [] ∧ rs.length ≤ 1) ?stp9 ?fin9 ⟨rs, rfl, ri, by omega⟩) ?post9)
    case fin9 =>
      rintro c st' ⟨rs, rfl, ri, hx⟩
      exact ⟨rs, rfl, ri, by omega⟩
    case post9 =>
      rintro c st' ⟨rs, rfl, ri, hl⟩
      refine wpS_pure (h st' ri.perm ?_ ri.fail)
      rw [ri.arr, List.append_nil]
      cases rs with
      | nil => exact List.Pairwise.nil
      | cons r rs =>
        have : rs = [] := by simp at hl; exact hl
        subst this
        simp
        exact (ri.rise r (by simp)).1
    case stp9 =>
      rintro x c st' _ hx ⟨rs, rfl, ri, hl⟩
      have hpl : (pendingOf st').size = rs.length := by rw [← Array.length_toList, ← ri.offs.len]
      refine wpS_bind (wpS_get ?_)
      try dsimp only
      by_cases c1 : (pendingOf st').size ≤ 1
      · rw [if_pos c1]
        exact wpS_pure ⟨rs, rfl, ri, by omega⟩
      rw [if_neg c1]
      refine wpS_bind (wpS_mergeR O hO hS ri ?_ fun st2 rs2 ri2 e1 e2 => ?_)
      · (repeat' split) <;> omega
      · simp only [Bool.not_true, Bool.false_eq_true, if_false]
        exact wpS_pure ⟨rs2, rfl, ri2, by omega⟩
  case stp =>
    rintro x c st1 _ hx ⟨rs, U, rfl, ri, hxl⟩
    have hsp := split ri
    dsimp only
    by_cases c1 : rs.flatten.length ≥ a0.length
    · rw [if_pos c1]
      have hU : U = [] := List.length_eq_zero_iff.mp (by omega)
      subst hU
      refine wpS_pure ⟨rs, ?_, ri, by omega⟩
      rw [show rs.flatten.length = a0.length by omega]
    rw [if_neg c1, show a0.length - rs.flatten.length = U.length by omega]
    have hSU : ∀ x ∈ U, S x := fun x hx => hS x (ri.perm.mem_iff.mp (by rw [ri.arr]; exact List.mem_append_right _ hx))
    refine wpS_bind (wpS_runB O hO (P := rs.flatten) (R := U) ri.kind ri.fail ri.arr (by omega) hSU fun st2 R' n z n1 n2 rise => ?_)
    have lR' := z.perm.length_eq
    dsimp only
    by_cases c2 : n < minRun' a0.length a0.length 0
    · rw [if_pos c2]
      refine wpS_bind (wpS_lift (wpAny_rule ⟨rfl, ?_⟩))
      have mp := minRun_pos a0.length a0.length 0 (by omega)
      generalize minRun' a0.length a0.length 0 = mr at c2 mp
      obtain ⟨fo, efo⟩ : ∃ fo, min U.length mr = fo := ⟨_, rfl⟩
      rw [efo]
      have lT : (R'.take fo).length = fo := by rw [List.length_take]; omega
      rw [show binarySort' rs.flatten.length fo n = binarySort' rs.flatten.length (R'.take fo).length n by rw [lT]]
      refine wpS_bind (wpS_binB O hO (P := rs.flatten) (R := R'.take fo) (T := R'.drop fo) z.kind z.fail (by rw [z.arr, List.append_assoc, List.take_append_drop]) (by omega) (fun i j x y hij hj hx hy => by
          rw [List.getElem?_take, if_pos (by omega)] at hx hy
          exact rise i j x y hij hj hx hy) (fun x hx => hSU x (z.perm.mem_iff.mp (List.mem_of_mem_take hx))) fun st3 R3 a1 a2 a3 a4 a5 a6 => ?_)
      simp only [Bool.not_true, Bool.false_eq_true, if_false]
      have l3 : R3.length = fo := by rw [a2.length_eq, lT]
      have r1 := rise_all a3
      have r2 : R3 ≠ [] := fun e => by rw [e] at l3; simp at l3; omega
      have rj : RI ltb κ a0 st3 rs (R3 ++ R'.drop fo) := ⟨a4, a5, by rw [a1, List.append_assoc], by
        rw [a1]
        refine List.Perm.trans ?_ ri.perm
        rw [ri.arr, List.append_assoc]
        refine List.Perm.append_left _ ((List.Perm.append_right _ a2).trans ?_)
        rw [List.take_append_drop]; exact z.perm, by rw [a6, z.pend]; exact ri.offs, ri.rise⟩
      refine wpS_bind (wpS_get ?_)
      cases hb : (pendingOf st3).back? with
      | none =>
        dsimp only
        refine wpS_bind (wpS_modify (wpS_pure ⟨rs ++ [R3], R'.drop fo, ?_, rj.push r1 r2 rfl l3.symm, ?_⟩))
        · simp [l3]
        · have := List.length_pos_iff.mpr r2
          rw [flat_snoc]; omega
      | some t =>
        obtain ⟨s1, k1, p1⟩ := t
        dsimp only
        refine wpS_bind (wpS_mono (wpS_forRange (I := fun x c st' => ∃ rs', c = (none, ()) ∧ RI ltb κ a0 st' rs' (R3 ++ R'.drop fo) ∧ rs'.flatten.length = rs.flatten.length)
          (Q := fun c st' => ∃ rs', c = (none, ()) ∧ RI ltb κ a0 st' rs' (R3 ++ R'.drop fo) ∧ rs'.flatten.length = rs.flatten.length) ?stp7 ?fin7 ⟨rs, rfl, rj, rfl⟩) ?post7)
        case fin7 =>
          rintro c st' hh
          exact hh
        case post7 =>
          rintro c st4 ⟨rs', rfl, rk, ef⟩
          dsimp only
          refine wpS_bind (wpS_modify (wpS_bind (wpS_modify (wpS_pure ⟨rs' ++ [R3], R'.drop fo, ?_, (rk.mod _ _).push r1 r2 ef.symm l3.symm, ?_⟩))))
          · simp [l3, ef]
          · have := List.length_pos_iff.mpr r2
            rw [flat_snoc]; omega
        case stp7 =>
          rintro x c st4 _ hx ⟨rs', rfl, rk, ef⟩
          have hpl : (pendingOf st4).size = rs'.length := by rw [← Array.length_toList, ← rk.offs.len]
          refine wpS_bind (wpS_get ?_)
          try dsimp only
          by_cases c5 : (pendingOf st4).size > 1
          · rw [if_pos c5]
            cases hq : (pendingOf st4)[(pendingOf st4).size - 2]? with
            | none => exact wpS_pure ⟨rs', rfl, rk, ef⟩
            | some t =>
              obtain ⟨t1, t2, t3⟩ := t
              dsimp only
              split
              · exact wpS_pure ⟨rs', rfl, rk, ef⟩
              · refine wpS_bind (wpS_mergeR O hO hS rk (by omega) fun st5 rs5 r5 e1 e2 => ?_)
                simp only [Bool.not_true, Bool.false_eq_true, if_false]
                exact wpS_pure ⟨rs5, rfl, r5, by omega⟩
          · rw [if_neg c5]
            exact wpS_pure ⟨rs', rfl, rk, ef⟩
    · rw [if_neg c2]
      have lT : (R'.take n).length = n := by rw [List.length_take]; omega
      have r1 := rise_take rise (by omega)
      have r2 : R'.take n ≠ [] := fun e => by rw [e] at lT; simp at lT; omega
      have rj : RI ltb κ a0 st2 rs (R'.take n ++ R'.drop n) := ⟨z.kind, z.fail, by rw [z.arr, List.take_append_drop], by
        rw [z.arr]
        refine List.Perm.trans ?_ ri.perm
        rw [ri.arr]
        exact List.Perm.append_left _ z.perm, by rw [z.pend]; exact ri.offs, ri.rise⟩
      refine wpS_bind (wpS_get ?_)
      cases hb : (pendingOf st2).back? with
      | none =>
        dsimp only
        refine wpS_bind (wpS_modify (wpS_pure ⟨rs ++ [R'.take n], R'.drop n, ?_, rj.push r1 r2 rfl lT.symm, ?_⟩))
        · simp [lT]
        · have := List.length_pos_iff.mpr r2
          rw [flat_snoc]; omega
      | some t =>
        obtain ⟨s1, k1, p1⟩ := t
        dsimp only
        refine wpS_bind (wpS_mono (wpS_forRange (I := fun x c st' => ∃ rs', c = (none, ()) ∧ RI ltb κ a0 st' rs' (R'.take n ++ R'.drop n) ∧ rs'.flatten.length = rs.flatten.length)
          (Q := fun c st' => ∃ rs', c = (none, ()) ∧ RI ltb κ a0 st' rs' (R'.take n ++ R'.drop n) ∧ rs'.flatten.length = rs.flatten.length) ?stp7 ?fin7 ⟨rs, rfl, rj, rfl⟩) ?post7)
        case fin7 =>
          rintro c st' hh
          exact hh
        case post7 =>
          rintro c st4 ⟨rs', rfl, rk, ef⟩
          dsimp only
          refine wpS_bind (wpS_modify (wpS_bind (wpS_modify (wpS_pure ⟨rs' ++ [R'.take n], R'.drop n, ?_, (rk.mod _ _).push r1 r2 ef.symm lT.symm, ?_⟩))))
          · simp [lT, ef]
          · have := List.length_pos_iff.mpr r2
            rw [flat_snoc]; omega
        case stp7 =>
          rintro x c st4 _ hx ⟨rs', rfl, rk, ef⟩
          have hpl : (pendingOf st4).size = rs'.length := by rw [← Array.length_toList, ← rk.offs.len]
          refine wpS_bind (wpS_get ?_)
          try dsimp only
          by_cases c5 : (pendingOf st4).size > 1
          · rw [if_pos c5]
            cases hq : (pendingOf st4)[(pendingOf st4).size - 2]? with
            | none => exact wpS_pure ⟨rs', rfl, rk, ef⟩
            | some t =>
              obtain ⟨t1, t2, t3⟩ := t
              dsimp only
              split
              · exact wpS_pure ⟨rs', rfl, rk, ef⟩
              · refine wpS_bind (wpS_mergeR O hO hS rk (by omega) fun st5 rs5 r5 e1 e2 => ?_)
                simp only [Bool.not_true, Bool.false_eq_true, if_false]
                exact wpS_pure ⟨rs5, rfl, r5, by omega⟩
          · rw [if_neg c5]
            exact wpS_pure ⟨rs', rfl, rk, ef⟩
end
end L2

/-! sorted of a list of ints of any length -/
namespace L2
open PySem PySem.Spec PyProof.Rows
def ltI (x y : Keyed) : Bool := decide (numOf x.1 < numOf y.1)
def isI (x : Keyed) : Prop := ∃ n t, x.1 = Value.int n t
theorem ordI : OrdB ltI := ⟨fun {x y} h => by
  have : numOf x.1 < numOf y.1 := of_decide_eq_true h
  exact decide_eq_false (by omega), fun {x y z} h1 h2 => by
  have a1 : ¬ numOf y.1 < numOf x.1 := of_decide_eq_false h1
  have a2 : ¬ numOf z.1 < numOf y.1 := of_decide_eq_false h2
  exact decide_eq_false (by omega)⟩
section
variable {prog : Program} {w : World} {A : Around} {E : Value → Shared → Prop} {s : Shared}
theorem ltOkI : LtOk prog w A E s ltI isI oneType' := by
  intro x y st Q hx hy hk q
  obtain ⟨n, t, e1⟩ := hx
  obtain ⟨m, u, e2⟩ := hy
  rw [lt'_eq]
  refine wpS_bind (wpS_get ?_)
  rw [hk, keyLt'_oneType, e1, e2]
  refine wpS_bind (wpS_lift (wpAny_attempt (oneLt_int ⟨rfl, wpS_pure ?_⟩)))
  have : ltI x y = decide (n < m) := by unfold ltI; rw [e1, e2]; rfl
  rw [← this]; exact q
theorem riseK {xs : Array Keyed} (h : xs.toList.Pairwise (leB ltI)) (k : Nat) (hk : k = xs.size) : SortedTo xs k := by
  intro i j hij hj
  subst hk
  rw [K_eq (by omega), K_eq hj]
  by_cases e : i = j
  · subst e; exact Int.le_refl _
  · have := List.pairwise_iff_getElem.mp h i j (by simp; omega) (by simpa using hj) (by omega)
    have q : ¬ numOf xs[j].1 < numOf xs[i].1 := by
      have := of_decide_eq_false this
      simpa using this
    omega
theorem lsort_any {a : Addr} {vs : List Value} {ns : List Int} {n : Nat} {Z : Fin → Shared → Prop} (ho : s.heap.get? a = some (seqObj "list" vs.toArray n)) (hI : IntsAre vs ns) (hv : vs.length ≤ 100000)
    (hZ : ∀ (out : Array Value) (ms : List Int), IntsAre out.toList ms → ms.Perm ns → ms.Pairwise (· ≤ ·) → Z (.done (.ret .none)) { s with heap := sortedHeap s.heap a vs out }) :
    wpAny (model prog w) A (Builtin.«list.sort» ⟨[.ref a], []⟩) Z E s := by
  by_cases h64 : vs.length < 64
  · exact list_sort_tree ho hI h64 hZ
  have hline : (100000 : Nat) < sizeLine := by decide
  have lt0 := Heap.lt_size ho
  rw [list_sort_plain]
  refine (wpAny_bind (listItems_at ho rfl ?_))
  refine (wpAny_bind (listUpdate_at ho rfl ?_ (by simp; omega)))
  obtain ⟨k1, hk1⟩ : ∃ k1, (s.heap.update a (Obj.mapSeq fun _ => #[])).get? a = some (seqObj "list" #[] k1) := ⟨_, (get?_update_seq ho (fun _ => #[]))⟩
  refine (wpAny_bind (seqEpoch_at hk1 rfl ?_))
  refine (wpAny_bind (wpAny_newTuple ?_ (by simp; omega)))
  refine (wpAny_bind (wpAny_newList ?_))
  refine (wpAny_holding ?_)
  have hk6 : (((s.heap.update a (Obj.mapSeq fun _ => #[])).push (seqObj "tuple" vs.toArray 0)).push (seqObj "list" #[] 0)).get? a = some (seqObj "list" #[] k1) := (by
    rw [Heap.get?_push_ne _ _ _ (by rw [size_push', Heap.size_update]; exact Nat.ne_of_lt (Nat.lt_succ_of_lt lt0)), Heap.get?_push_ne _ _ _ (by rw [Heap.size_update]; exact Nat.ne_of_lt lt0)]
    exact hk1)
  show wpAny (model prog w) A _ Z E { s with heap := ((s.heap.update a (Obj.mapSeq fun _ => #[])).push (seqObj "tuple" vs.toArray 0)).push (seqObj "list" #[] 0) }
  dsimp only
  have two : ¬ vs.toArray.size < 2 := by simp; omega
  rw [if_neg two, if_neg two]
  obtain ⟨v, u, r, rfl⟩ : ∃ v u r, vs = v :: u :: r := by
    cases vs with
    | nil => simp at h64
    | cons v vs => cases vs with
      | nil => simp at h64
      | cons u r => exact ⟨v, u, r, rfl⟩
  rw [keyKind_ints hI]
  refine (wpAny_bind (wpAny_pure ?_))
  have a0S : ∀ x ∈ (pairsOf (v :: u :: r)).toList, isI x := hI.intKeys
  refine wpAny_bind (wpAny_mono (wpS_sortB ordI ltOkI (st := SortSt.mk' oneType' ((v :: u :: r).toArray.zip (v :: u :: r).toArray) #[] 7 none) (a0 := (pairsOf (v :: u :: r)).toList) (Q := fun _ st' => (arrOf st').toList.Perm (pairsOf (v :: u :: r)).toList ∧ (arrOf st').toList.Pairwise (leB ltI) ∧ failedOf st' = none) rfl rfl rfl rfl a0S fun st' b1 b2 b3 => ⟨b1, b2, b3⟩) ?_ fun _ _ e => e)
  rintro ⟨⟨⟩, st'⟩ s' ⟨rfl, b1, b2, b3⟩
  dsimp only
  have hp : (arrOf st').Perm (pairsOf (v :: u :: r)) := Array.perm_iff_toList_perm.mpr b1
  have hsz := hp.size_eq
  refine (wpAny_bind (seqEpoch_at hk6 rfl ?_))
  refine wpAny_bind (listUpdate_at hk6 rfl ?_ (hsz2 := by
    rw [Array.size_map, hsz, pairsOf_size]; omega))
  rw [b3]
  simp only [bne_self_eq_false, Bool.false_eq_true, if_false]
  obtain ⟨ms, c1, c2, c3⟩ := sorted_out hI hp (riseK b2 _ hsz.symm)
  exact wpAny_pure (hZ _ ms c1 c2 c3)
theorem sorted_any {l : Addr} {vs : List Value} {ns : List Int} {Q : Value → Shared → Prop} (hl : s.heap.IsList l vs.toArray) (hI : IntsAre vs ns) (hv : vs.length ≤ 100000)
    (hQ : ∀ (out : Array Value) (ms : List Int), IntsAre out.toList ms → ms.Perm ns → ms.Pairwise (· ≤ ·) → Q (.ref (s.heap.objs.size + 1)) { s with heap := sortedAll s.heap vs out }) :
    wpAny (model prog w) A (call (.builtin "sorted") [.ref l]) Q E s := by
  have hline : (100000 : Nat) < sizeLine := by decide
  refine (Calls.call_function_entry kind_sorted plain_sorted entry_sorted (args_sorted1 _) ?_)
  unfold Builtin.«sorted»
  refine (wpAny_bind (m := checkCount "sorted" 1 1 _) (wpAny_pure ?_))
  refine (wpAny_bind (collect_list hl ?_ (by omega)))
  refine (wpAny_bind (wpAny_newList ?_ (by first | omega | (simp; omega))))
  have sz1 : ((s.heap.push (seqObj "list" #[] 0)).update s.heap.objs.size (Obj.mapSeq (· ++ vs.toArray))).objs.size = s.heap.objs.size + 1 := (by rw [Heap.size_update, size_push'])
  have at1 : (((s.heap.push (seqObj "list" #[] 0)).update s.heap.objs.size (Obj.mapSeq (· ++ vs.toArray))).push (seqObj "list" vs.toArray 0)).get? (s.heap.objs.size + 1) = some (seqObj "list" vs.toArray 0) := (by
    rw [← sz1]; exact Heap.get?_push_size _ rfl)
  show wpAny _ _ _ _ E { s with heap := ((s.heap.push (seqObj "list" #[] 0)).update s.heap.objs.size (Obj.mapSeq (· ++ vs.toArray))).push (seqObj "list" vs.toArray 0) }
  rw [sz1]
  refine wpAny_bind (wpAny_holding (wpAny_call_entry slot_list_sort ⟨_, at1, rfl⟩ entry_list_sort (lsort_any at1 hI hv fun out ms c1 c2 c3 => ⟨_, rfl, ?_⟩) (args_list_sort _)))
  exact wpAny_pure ⟨_, rfl, hQ out ms c1 c2 c3⟩
end
section
variable {X : Cx}
/-- sorted(xs) of a list of ints -/
def rSortL (K : PySem.W.Frag) : List V → Hp → VK → Prop := fun xs H Q => ∃ a ns, xs = [.ref a] ∧ SqL K H a (List.map V.int ns) ∧ ns.length ≤ 100000 ∧ ∀ ms l, ms.Perm ns → ms.Pairwise (· ≤ ·) → H l = none → Q (.ref l) (upd H l (.lst (List.map V.int ms)))
theorem call_sortL : CallR X (.builtin "sorted") (rSortL X.K) := by
  intro pins s σ H xs us Q I r h
  obtain ⟨a, ns, rfl, hq, hn, q⟩ := h
  obtain ⟨u, rfl, r1⟩ := vals1 r
  cases (show u = Value.ref a from r1)
  obtain ⟨its, rv, pl, hz⟩ := I.list hq
  have hi : IntsAre its ns := intsAre_of rv
  refine sorted_any pl.isList hi (by rw [hi.length]; exact hn) fun out ms c1 c2 c3 => ?_
  obtain ⟨e, he⟩ := sortedAll_at s.heap its out
  have hz2 : (List.map V.int ms).length ≤ sizeLine := by
    have hline : (100000 : Nat) < sizeLine := by decide
    rw [List.length_map, c2.length_eq]; omega
  exact ⟨.ref (s.heap.objs.size + 1), _, I.laid (t' := s.toks) (fun b o hb => sortedAll_old hb) (Nat.le_succ _) (o := .lst (List.map V.int ms)) ⟨hz2, out.toList, e, vals_ints c1, by simpa using he⟩, rfl, q ms _ c2 c3 (I.hok.fresh (Nat.le_succ _))⟩
theorem rd_sortL {K : PySem.W.Frag} {H : Hp} {Q : VK} {a : Addr} {ns : List Int} (h : SqL K H a (ns.map V.int)) (n : ns.length ≤ 100000) (q : ∀ (ms : List Int) (l : Addr), ms.Perm ns → ms.Pairwise (· ≤ ·) → H l = none → Q (.ref l) (upd H l (.lst (ms.map V.int)))) : rSortL K [.ref a] H Q := ⟨a, ns, rfl, h, n, q⟩
end
end L2

/-! What is never reached; list(x) within a block; zip of two lists. -/
namespace L2
open PySem PySem.Spec PyProof.Rows
/-- a statement that is never reached -/
def tDead : TS := fun _ _ _ => False
section
variable {X : Cx} {K : PySem.W.Frag}
def rListOf (K : PySem.W.Frag) : List V → Hp → VK → Prop := fun xs H Q => ∃ p ys, xs = [.ref p] ∧ (SqL K H p ys ∨ SqT K H p ys) ∧ ∀ l, H l = none → Q (.ref l) (upd H l (.lst ys))
theorem call_list_ofK (h : X.K = K) : CallR X (.type "list") (rListOf K) := by subst h; exact call_list_of
end
section
variable {X : Cx} {K : PySem.W.Frag} {pos : Pos}
end
theorem rd_listOf {K : PySem.W.Frag} {H : Hp} {Q : VK} {a : Addr} {xs : List V} (h : SqL K H a xs) (q : ∀ l, H l = none → Q (.ref l) (upd H l (.lst xs))) : rListOf K [.ref a] H Q := ⟨a, xs, rfl, .inl h, q⟩
theorem rd_aug {i : Nat} {te : TE} {ti : TIp} {D : Ends} {σ : St} {H : Hp} {x : V} (h : σ[i]? = some (some x)) (q : te σ H fun y H1 => ti x y H1 fun z H2 => D.nx (σ.set i (some z)) H2) : tAug i te ti D σ H := ⟨x, h, q⟩
section
variable {σ : St} {H : Hp} {Q : VK} {D : Ends}
end
/-- the pairs of the items of two lists -/
def Itz (K : PySem.W.Frag) (a b : Addr) : It :=
  ⟨fun i H => ∃ xs x ys y, SqL K H a xs ∧ xs[i]? = some x ∧ SqL K H b ys ∧ ys[i]? = some y,
   fun i H x H' => ∃ t u v, H t = none ∧ H' = upd H t (.tup [u, v]) ∧ x = .ref t ∧ (∀ xs, SqL K H a xs → xs[i]? = some u) ∧ (∀ ys, SqL K H b ys → ys[i]? = some v),
   fun i H => ∃ xs ys, SqL K H a xs ∧ SqL K H b ys ∧ (xs.length ≤ i ∨ ys.length ≤ i)⟩
section
variable {X : Cx} {elts : List Expr} {x1 : _} {tpos : Pos}
def iZip (K : PySem.W.Frag) (ta : TA) : TI := fun σ H R => ta σ H fun vs H1 => ∃ a b, vs = [.ref a, .ref b] ∧ (∃ xs, SqL K H1 a xs) ∧ (∃ ys, SqL K H1 b ys) ∧ R (Itz K a b) H1
end
section
variable {K : PySem.W.Frag} {H : Hp} {Q : VK} {σ : St}
end
end L2

/-! sorted(xs, key=f) of a list of ints, f a function that tells ints -/
namespace L2
open PySem PySem.Spec PyProof.Rows
section
variable {X : Cx} {pins : List (Addr × Obj)} {σ : St} {H : Hp} {s : Shared} {h' : Heap}
variable {A : Around} {E : Value → Shared → Prop}
end
section
variable {prog : Program} {w : World} {A : Around} {E : Value → Shared → Prop} {s : Shared}
end
section
variable {X : Cx} {pins : List (Addr × Obj)} {σ : St} {H : Hp} {s : Shared} {E : Value → Shared → Prop}
end
section
variable {X : Cx} {e : Expr} {t : TA} {y : Str} {ps : List Str} {k : Nat} {sp : Sp} {p p2 kpos pos : Pos}
def tSortK (K : PySem.W.Frag) (sp : Sp) (t : TA) : TE := fun σ H Q => t σ H fun vs H1 => ∃ (a : Addr) (ns : List Int) (κ : Int → Int), vs = [.ref a] ∧ (SqL K H1 a (ns.map V.int) ∨ ∃ j : Int, H1 a = some (.rng 0 j) ∧ 0 ≤ j ∧ ns = upN j.toNat) ∧ ns.length ≤ 100000 ∧
  (∀ z ∈ ns, ∀ R : VK, R (.int (κ z)) H1 → sp [.int z] H1 R E0) ∧ ∀ (ms : List Int) (l : Addr), ms.Perm ns → ms.Pairwise (fun x y => κ x ≤ κ y) → H1 l = none → Q (.ref l) (upd H1 l (.lst (ms.map V.int)))
end
section
variable {X : Cx}
/-- xs += ys: the left one is written -/
def ipCat : TIp := fun x y H Q => ∃ l b xs zs, x = .ref l ∧ y = .ref b ∧ H l = some (.lst xs) ∧ H b = some (.lst zs) ∧ xs.length + zs.length ≤ sizeLine ∧ Q (.ref l) (upd H l (.lst (xs ++ zs)))
/-- x is True, x is False -/
def rIsB : R2 := fun x y H Q => ∃ a b, x = .bl a ∧ y = .bl b ∧ Q (.bl (decide (a = b))) H
end
end L2

/-! a lambda within a def: made, called; its code's place in the def's table -/
namespace L2
open PySem PySem.Spec PyProof.Rows

/-- the code that was made of a lambda, at its place -/
def CodeO (c : Addr) (qual : Str) : HO := .ext fun h => h.CodeRec (.ref c) qual
/-- a function made in a def -/
def FnO (f : Addr) (o : Obj) : HO := .ext fun h => h.get? f = some o
/-- the def's table: the lambda at pos wasn't made yet, or its code stands at a tracked place -/
def Tb (P : Addr) (pos : Pos) (qual : Str) (H : Hp) : Prop :=
  ∃ ps : Array Value, H P = some (.tbl ps) ∧ TriplesOk ps.toList ∧ (codeAmong pos ps.toList = none ∨ ∃ c, codeAmong pos ps.toList = some (.ref c) ∧ H c = some (CodeO c qual))
/-- all that was tracked is as it was, tables apart -/
structure Sm (H H' : Hp) : Prop where
  nt : ∀ b o, H b = some o → (∀ ps, o ≠ .tbl ps) → H' b = some o
  tb : ∀ b ps, H b = some (.tbl ps) → ∃ ps', H' b = some (.tbl ps')
/-- the module of the built-in names, as the top leaves it -/
def BM (mg : Str → Option Value) (base : Heap) : Prop := ∃ bm o, mg "__builtins__" = some (.ref bm) ∧ bm ≠ builtinsNs ∧ base.get? bm = some o ∧ o.cls = .type "module" ∧ o.dict = some builtinsNs ∧ o.data = .plain
/-- the table of the def's code -/
def tbP (K : PySem.W.Frag) (x : Str) : Addr := match PySem.W.tabIn K x with
  | some (_, P) => P
  | none => 0
/-- what a def with a lambda leans on -/
structure Lam (K : PySem.W.Frag) (mg : Str → Option Value) (base : Heap) (x : Str) (f : Addr) (fd : FuncData) : Prop where
  bm : BM mg base
  code : ∃ c, fd.code = .ref c ∧ PySem.W.codeHdIn K c (tbP K x) = true
def tbC (K : PySem.W.Frag) (x : Str) : Addr := match PySem.W.tabIn K x with
  | some (c, _) => c
  | none => 0
section
variable {X : Cx} {pins : List (Addr × Obj)} {σ : St} {H : Hp} {s : Shared}
/-- a made function -/
abbrev lamObj (X : Cx) (params : Arguments) (body : Expr) (scope : Scope) (c : Addr) (ctv : Value) : Obj :=
  { cls := .type "function", data := .func (PySem.W.kla_fn "<lambda>" (X.env.qual ++ "<lambda>") params body scope (clOf X.env scope.names []) ((X.mg "__name__").getD .none) (.ref c) ctv) }
def tLam (X : Cx) (P : Addr) (params : Arguments) (body : Expr) (scope : Scope) (pos : Pos) : TE := fun σ H Q => Tb P pos (X.env.qual ++ "<lambda>") H ∧
  ∀ f c ctv H', Sm H H' → Tb P pos (X.env.qual ++ "<lambda>") H' → H f = none → H' f = some (FnO f (lamObj X params body scope c ctv)) → H' c = some (CodeO c (X.env.qual ++ "<lambda>")) → Q (.ref f) H'
end
end L2

/-! a lambda called; sorted by it; the law's head where a table may grow -/
namespace L2
open PySem PySem.Spec PyProof.Rows

def lamEnv (X : Cx) (scope : Scope) (L f c : Addr) : Env := PySem.W.envX (X.env.qual ++ "<lambda>") scope L f (.ref c) (clOf X.env scope.names [])
/-- the context of a lambda's body, called by sorted -/
def cxLam (X : Cx) (scope : Scope) (N : List Str) (L f c : Addr) (s : Shared) (H : Hp) : Cx :=
  { X with A := X.A.in1.in1.deeper (lamEnv X scope L f c), N := N, s₀ := s, H₀ := H, env := lamEnv X scope L f c, outer := X.stack, stack := lamEnv X scope L f c :: X.stack, ex := [], fn := fun _ => false, pn := [], xe := fun _ _ => False }
/-- what the text of a lambda must have: y its one parameter, fs the captured names -/
structure LamOk (X : Cx) (scope : Scope) (y : Str) (fs : List Str) (js : List Nat) : Prop where
  kind : scope.kind = .function
  co : scope.isCoroutine = false
  gen : scope.isGenerator = false
  cell : ∀ z ∈ scope.names, z.2 ≠ .cell
  free : ∀ z ∈ scope.names, z.2 = .free → X.env.kindOf z.1 = some .cell ∨ X.env.kindOf z.1 = some .free
  own : scope.names.lookup y = some .local
  cap : ∀ z ∈ fs, scope.names.lookup z = some .free
  ix : js.map (fun j => X.N[j]?) = fs.map some
def lamB (sc scope : Scope) (N : List Str) (y : Str) (fs : List Str) (js : List Nat) : Bool :=
  (scope.kind == .function) && !scope.isCoroutine && !scope.isGenerator && scope.names.all (fun z => z.2 != .cell) && scope.names.all (fun z => z.2 != .free || sc.names.lookup z.1 == some .cell || sc.names.lookup z.1 == some .free) &&
  (scope.names.lookup y == some .local) && fs.all (fun z => scope.names.lookup z == some .free) && (js.map (fun j => N[j]?) == fs.map some)
def lamSt (v : V) (js : List Nat) (σ : St) : St := some v :: js.map (fun j => (σ[j]?).join)

section
variable {X : Cx} {pins : List (Addr × Obj)} {σ : St} {H : Hp} {s : Shared} {scope : Scope} {y : Str} {fs : List Str} {js : List Nat}
end

section
variable {X : Cx} {e body : Expr} {t : TA} {te : TE} {k : Nat} {p kpos pos lpos : Pos} {params : Arguments} {scope : Scope} {y : Str} {fs : List Str} {js : List Nat} {P c : Addr}
/-- sorted(xs, key=lambda ..: ..) of ints -/
def tSortL (K : PySem.W.Frag) (P : Addr) (lpos : Pos) (qual : Str) (js : List Nat) (te : TE) (t : TA) : TE := fun σ H Q => t σ H fun vs H1 => ∃ (a : Addr) (ns : List Int) (κ : Int → Int), vs = [.ref a] ∧ SqL K H1 a (ns.map V.int) ∧ ns.length ≤ 100000 ∧ Tb P lpos qual H1 ∧
  ∀ H2, Sm H1 H2 → Tb P lpos qual H2 → (∀ z ∈ ns, ∀ R : VK, R (.int (κ z)) H2 → te (lamSt (.int z) js σ) H2 R) ∧ ∀ (ms : List Int) (l : Addr), ms.Perm ns → ms.Pairwise (fun x y => κ x ≤ κ y) → H2 l = none → Q (.ref l) (upd H2 l (.lst (ms.map V.int)))
end

section
variable {X : Cx} {a b : Expr} {rest : List Expr} {ta tb : TE} {pos : Pos}
/-- .. or .. of values -/
def tOrG (K : PySem.W.Frag) (ta tb : TE) : TE := fun σ H Q => ta σ H fun x H1 => ∃ k, TruV K x H1 k ∧ if k = true then Q x H1 else tb σ H1 Q
end

/-- nothing is tracked but the script and a table -/
def OnlyT (P : Addr) (H : Hp) : Prop := ∀ b, H b = none ∨ (∃ o xs, H b = some (.frz o (.lst xs))) ∨ (b = P ∧ H b = some (.tbl #[]))
end L2

/-! for x in d.values(): the dict is known to the object from then on -/
namespace L2
open PySem PySem.Spec PyProof.Rows
def ViewO (v d : Addr) : HO := .ext fun h => h.IsValuesView v d
def rValues : V → List V → Hp → VK → Prop := fun x vs H Q => ∃ d kvs, x = .ref d ∧ vs = [] ∧ H d = some (.dK kvs) ∧ ∀ v o, H v = none → v ≠ d → Q (.ref v) (upd (upd H d (.frz o (.dK kvs))) v (ViewO v d))
/-- the values of the dict at d, which is frozen -/
def Itv (d : Addr) (o : Obj) (kvs : List (Key × V)) : It :=
  ⟨fun i H => H d = some (.frz o (.dK kvs)) ∧ i < kvs.length, fun i H x H' => H' = H ∧ ∃ k, kvs[i]? = some (k, x), fun i H => H d = some (.frz o (.dK kvs)) ∧ kvs.length ≤ i⟩
section
variable {X : Cx}
def iVals (te : TE) : TI := fun σ H R => te σ H fun x H1 => ∃ v d o kvs, x = .ref v ∧ H1 v = some (ViewO v d) ∧ H1 d = some (.frz o (.dK kvs)) ∧ R (Itv d o kvs) H1
end
end L2

set_option maxHeartbeats 4000000
local macro_rules | `(tactic| walk_at "rdc") => `(tactic| first
  | (show (0 : Int) < _; omega)
  | (show (0 : Int) ≤ _; omega)
  | (show (0 : Int) < _ ∧ _ < 2 ^ 100; omega)
  | (show (-(2 ^ 64) < _ ∧ _ < 2 ^ 64) ∨ (-(2 ^ 64) < _ ∧ _ < 2 ^ 64); omega)
  | (show (0 : Int) ≤ _ ∧ _ ≤ 1000000 ∧ Int.natAbs _ < 2 ^ 64; omega))
local macro_rules | `(tactic| walk_at "rd1") => `(tactic| first
  | (with_reducible refine' L2.rd_seq ?_) | (with_reducible refine' L2.rd_asg ?_) | ((with_reducible refine' L2.rd_gname ?_); (try dsimp only [List.set_cons_zero, List.set_cons_succ])) | (with_reducible refine' L2.rd_ret ?_) | (with_reducible refine' L2.rd_retN ?_) | (with_reducible refine' L2.rd_next ?_) | (with_reducible refine' L2.rd_drop ?_) | (with_reducible refine' L2.rd_ifS ?_)
  | (with_reducible refine' L2.rd_op ?_) | (with_reducible refine' L2.rd_un ?_) | (with_reducible refine' L2.rd_c ?_) | ((with_reducible refine' L2.rd_var ?rdv ?_); (case rdv => rfl))
  | (with_reducible refine' L2.rd_I0 ?_) | (with_reducible refine' L2.rd_U ?_) | (with_reducible refine' L2.rd_eqI ?_) | (with_reducible refine' L2.rd_neI ?_) | (with_reducible refine' L2.rd_eqB ?_) | (with_reducible refine' L2.rd_neB ?_)
  | (with_reducible refine' L2.rd_test ?_) | (with_reducible refine' L2.rd_tB ?_) | (with_reducible refine' L2.rd_and ?_) | (with_reducible refine' L2.rd_or ?_) | (with_reducible refine' L2.rd_not ?_) | (with_reducible refine' L2.rd_andV ?_) | (with_reducible refine' L2.rd_orV ?_) | (with_reducible refine' L2.rd_notV ?_) | (with_reducible refine' L2.rd_chain ?_) | (with_reducible refine' L2.rd_ifE ?_)
  | (with_reducible refine' L2.rd_nil ?_) | (with_reducible refine' L2.rd_cons ?_) | (with_reducible refine' L2.rd_call ?_) | (with_reducible refine' L2.rd_cb ?_) | (with_reducible refine' L2.rd_lst ?_) | (with_reducible refine' L2.rd_tup ?_) | (with_reducible refine' L2.rd_bm0 ?_) | (with_reducible refine' L2.rd_bm ?_) | (with_reducible refine' L2.rd_augS ?_) | ((with_reducible refine' L2.rd_ip ?_); (try dsimp only [List.set_cons_zero, List.set_cons_succ])) | ((with_reducible refine' L2.rd_aug ?rdv ?_); (case rdv => rfl)) | (with_reducible refine' L2.rd_izip ?_) | (with_reducible refine' L2.rd_ivals ?_) | (with_reducible refine' L2.rd_dget2 ?_) | (with_reducible refine' L2.rd_dput ?_) | (with_reducible refine' L2.rd_dnewK ?_) | (with_reducible refine' L2.rd_sortK ?_) | (with_reducible refine' L2.rd_sortLam ?_) | (with_reducible refine' L2.rd_orG ?_) | (with_reducible refine' L2.rd_isB ?_) | (with_reducible refine' L2.rd_gsub ?_)
  | (with_reducible refine' L2.rd_sl ?_) | (with_reducible refine' L2.rd_nop ?_) | (with_reducible refine' L2.rd_part ?_) | (with_reducible refine' L2.rd_bl ?_) | (with_reducible refine' L2.rd_int ?_)
  | (with_reducible refine' L2.rd_iteT ?_) | (with_reducible refine' L2.rd_iteF ?_) | (with_reducible refine' L2.rd_iteNF ?_) | (with_reducible refine' L2.rd_iteNT ?_)
  | (with_reducible refine' L2.rd_for ?_) | (with_reducible refine' L2.rd_rng1 ?_) | (with_reducible refine' L2.rd_rng2 ?_) | (with_reducible refine' L2.rd_ilist ?_) | (with_reducible refine' L2.rd_comp ?_) | (with_reducible refine' L2.rd_yes ?_)
  | (with_reducible refine' L2.rd_itup ?_) | (with_reducible refine' L2.rd_istr ?_) | (with_reducible refine' L2.rd_leS ?_) | (with_reducible refine' L2.rd_inS ?_)
  | (with_reducible refine' L2.rd_abs ?_) | (with_reducible refine' L2.rd_max ?_) | (with_reducible refine' L2.rd_min ?_) | (with_reducible refine' L2.rd_bitlen ?_)
  | (with_reducible refine' L2.rd_rev ?_) | (with_reducible refine' L2.rd_ienum ?_) | (with_reducible refine' L2.rd_intB ?_)
  | ((with_reducible refine' L2.rd_ixL (L2.SqL.of ?rdh) ?rde ?_); (case rdh => assumption); (case rde => rfl))
  | ((with_reducible refine' L2.rd_set0 ?rdh ?_); (case rdh => assumption))
  | ((with_reducible refine' L2.rd_set1 ?rdh ?_); (case rdh => assumption))
  | ((with_reducible refine' L2.rd_setL ?rdh ?rde ?_); (case rdh => assumption); (case rde => rfl))
  | ((with_reducible refine' L2.rd_ixT (L2.SqT.of ?rdh) ?rde ?_); (case rdh => assumption); (case rde => rfl))
  | ((with_reducible refine' L2.rd_lenL (L2.SqL.of ?rdh) ?_); (case rdh => assumption))
  | ((with_reducible refine' L2.rd_I ?rdc ?_); (case rdc => walk_at "rdc")))
local macro_rules | `(tactic| walk_at "rd") => `(tactic| repeat walk_at "rd1")
namespace Law
open PySem PySem.Spec PyProof.Rows L2
def top (i : Nat) : Stmt := PySem.Challenge.pw_tailrooms_k27_lists_changed_and_again.main.body.getD i (.Pass ⟨0, 0, 0, 0⟩)
abbrev s_last_bits : Stmt := top 1
abbrev s_level : Stmt := top 2
abbrev s_turn : Stmt := top 3
abbrev s_bits_for : Stmt := top 4
abbrev s_room_of : Stmt := top 5
abbrev s_rows_for : Stmt := top 7
abbrev s_cut_rows : Stmt := top 8
abbrev s_rows_of : Stmt := top 9
abbrev s_looked : Stmt := top 10
abbrev s_spread : Stmt := top 12
abbrev s_counts : Stmt := top 13
abbrev s_longest : Stmt := top 14
abbrev s_all_looks : Stmt := top 15
abbrev s__law_open : Stmt := top 17
abbrev s__law_draw : Stmt := top 18
abbrev s__law_far : Stmt := top 19
abbrev s__law_power : Stmt := top 20
abbrev s__law_key : Stmt := top 21
abbrev s__law_keys : Stmt := top 22
abbrev s__law_asked : Stmt := top 23
abbrev s__law_copy : Stmt := top 24
abbrev s__law_spoil : Stmt := top 25
abbrev s_law : Stmt := top 26
theorem sc_last_bits : FnScope ["key", "many"] ["key", "many"] (defScope s_last_bits) := ⟨rfl, rfl, rfl, by decide +kernel, rfl, by decide +kernel, by decide +kernel⟩
theorem sc_level : FnScope ["rooms"] ["rooms"] (defScope s_level) := ⟨rfl, rfl, rfl, by decide +kernel, rfl, by decide +kernel, by decide +kernel⟩
theorem sc_turn : FnScope ["rooms"] ["rooms"] (defScope s_turn) := ⟨rfl, rfl, rfl, by decide +kernel, rfl, by decide +kernel, by decide +kernel⟩
theorem sc_bits_for : FnScope ["room", "rooms", "deep"] ["room", "rooms"] (defScope s_bits_for) := ⟨rfl, rfl, rfl, by decide +kernel, rfl, by decide +kernel, by decide +kernel⟩
theorem sc_room_of : FnScope ["key", "rooms"] ["key", "rooms"] (defScope s_room_of) := ⟨rfl, rfl, rfl, by decide +kernel, rfl, by decide +kernel, by decide +kernel⟩
theorem sc_rows_for : FnScope ["many", "wide"] ["many", "wide"] (defScope s_rows_for) := ⟨rfl, rfl, rfl, by decide +kernel, rfl, by decide +kernel, by decide +kernel⟩
theorem sc_cut_rows : FnScope ["things", "wide"] ["things", "wide"] (defScope s_cut_rows) := ⟨rfl, rfl, rfl, by decide +kernel, rfl, by decide +kernel, by decide +kernel⟩
theorem sc_rows_of : FnScope ["keys", "wide"] ["keys", "wide"] (defScope s_rows_of) := ⟨rfl, rfl, rfl, by decide +kernel, rfl, by decide +kernel, by decide +kernel⟩
theorem sc_looked : FnScope ["rows", "key", "looks", "row"] ["rows", "key"] (defScope s_looked) := ⟨rfl, rfl, rfl, by decide +kernel, rfl, by decide +kernel, by decide +kernel⟩
theorem sc_spread : FnScope ["keys", "rooms", "told", "key"] ["keys", "rooms"] (defScope s_spread) := ⟨rfl, rfl, rfl, by decide +kernel, rfl, by decide +kernel, by decide +kernel⟩
theorem sc_counts : FnScope ["keys", "rooms"] ["keys", "rooms"] (defScope s_counts) := ⟨rfl, rfl, rfl, by decide +kernel, rfl, by decide +kernel, by decide +kernel⟩
theorem sc_longest : FnScope ["counts", "wide", "many", "most"] ["counts", "wide"] (defScope s_longest) := ⟨rfl, rfl, rfl, by decide +kernel, rfl, by decide +kernel, by decide +kernel⟩
theorem sc_all_looks : FnScope ["keys", "rooms", "wide", "rows"] ["keys", "rooms", "wide"] (defScope s_all_looks) := ⟨rfl, rfl, rfl, by decide +kernel, rfl, by decide +kernel, by decide +kernel⟩
theorem sc__law_open : FnScope ["_law_script", "_law_place", "_law_cells", "_law_at", "_law_digits"] ["_law_script", "_law_place"] (defScope s__law_open) := ⟨rfl, rfl, rfl, by decide +kernel, rfl, by decide +kernel, by decide +kernel⟩
theorem sc__law_draw : FnScope ["_law_hand", "_law_many", "_law_got", "_law_k", "_law_number"] ["_law_hand", "_law_many"] (defScope s__law_draw) := ⟨rfl, rfl, rfl, by decide +kernel, rfl, by decide +kernel, by decide +kernel⟩
theorem sc__law_far : FnScope ["_law_hand", "_law_many", "_law_number", "_law_k"] ["_law_hand", "_law_many"] (defScope s__law_far) := ⟨rfl, rfl, rfl, by decide +kernel, rfl, by decide +kernel, by decide +kernel⟩
theorem sc__law_power : FnScope ["_law_many", "_law_number", "_law_k"] ["_law_many"] (defScope s__law_power) := ⟨rfl, rfl, rfl, by decide +kernel, rfl, by decide +kernel, by decide +kernel⟩
theorem sc__law_key : FnScope ["_law_hand", "_law_way", "_law_low"] ["_law_hand"] (defScope s__law_key) := ⟨rfl, rfl, rfl, by decide +kernel, rfl, by decide +kernel, by decide +kernel⟩
theorem sc__law_keys : FnScope ["_law_hand", "_law_many", "_law_keys_here", "_law_k", "_law_key_here"] ["_law_hand", "_law_many"] (defScope s__law_keys) := ⟨rfl, rfl, rfl, by decide +kernel, rfl, by decide +kernel, by decide +kernel⟩
theorem sc__law_asked : FnScope ["_law_way", "_law_keys_here", "_law_rooms", "_law_wide"] ["_law_way", "_law_keys_here", "_law_rooms", "_law_wide"] (defScope s__law_asked) := ⟨rfl, rfl, rfl, by decide +kernel, rfl, by decide +kernel, by decide +kernel⟩
theorem sc__law_copy : FnScope ["_law_told"] ["_law_told"] (defScope s__law_copy) := ⟨rfl, rfl, rfl, by decide +kernel, rfl, by decide +kernel, by decide +kernel⟩
theorem sc__law_spoil : FnScope ["_law_told", "_law_one"] ["_law_told"] (defScope s__law_spoil) := ⟨rfl, rfl, rfl, by decide +kernel, rfl, by decide +kernel, by decide +kernel⟩
theorem sc_law : FnScope ["_law_script", "_law_worlds", "_law_place", "_law_hand", "_law_sizes", "_law_first", "_law_keys_here", "_law_rooms", "_law_wide", "_law_way", "_law_kept", "_law_at", "_law_handed", "_law_told", "_law_due"] ["_law_script"] (defScope s_law) := ⟨rfl, rfl, rfl, by decide +kernel, rfl, by decide +kernel, by decide +kernel⟩
theorem st_last_bits (x0 x1 : V) : start ["key", "many"] [x0, x1] = [some x0, some x1] := rfl
theorem st_level (x0 : V) : start ["rooms"] [x0] = [some x0] := rfl
theorem st_turn (x0 : V) : start ["rooms"] [x0] = [some x0] := rfl
theorem st_bits_for (x0 x1 : V) : start ["room", "rooms", "deep"] [x0, x1] = [some x0, some x1, none] := rfl
theorem st_room_of (x0 x1 : V) : start ["key", "rooms"] [x0, x1] = [some x0, some x1] := rfl
theorem st_rows_for (x0 x1 : V) : start ["many", "wide"] [x0, x1] = [some x0, some x1] := rfl
theorem st_cut_rows (x0 x1 : V) : start ["things", "wide"] [x0, x1] = [some x0, some x1] := rfl
theorem st_rows_of (x0 x1 : V) : start ["keys", "wide"] [x0, x1] = [some x0, some x1] := rfl
theorem st_looked (x0 x1 : V) : start ["rows", "key", "looks", "row"] [x0, x1] = [some x0, some x1, none, none] := rfl
theorem st_spread (x0 x1 : V) : start ["keys", "rooms", "told", "key"] [x0, x1] = [some x0, some x1, none, none] := rfl
theorem st_counts (x0 x1 : V) : start ["keys", "rooms"] [x0, x1] = [some x0, some x1] := rfl
theorem st_longest (x0 x1 : V) : start ["counts", "wide", "many", "most"] [x0, x1] = [some x0, some x1, none, none] := rfl
theorem st_all_looks (x0 x1 x2 : V) : start ["keys", "rooms", "wide", "rows"] [x0, x1, x2] = [some x0, some x1, some x2, none] := rfl
theorem st__law_open (x0 x1 : V) : start ["_law_script", "_law_place", "_law_cells", "_law_at", "_law_digits"] [x0, x1] = [some x0, some x1, none, none, none] := rfl
theorem st__law_draw (x0 x1 : V) : start ["_law_hand", "_law_many", "_law_got", "_law_k", "_law_number"] [x0, x1] = [some x0, some x1, none, none, none] := rfl
theorem st__law_far (x0 x1 : V) : start ["_law_hand", "_law_many", "_law_number", "_law_k"] [x0, x1] = [some x0, some x1, none, none] := rfl
theorem st__law_power (x0 : V) : start ["_law_many", "_law_number", "_law_k"] [x0] = [some x0, none, none] := rfl
theorem st__law_key (x0 : V) : start ["_law_hand", "_law_way", "_law_low"] [x0] = [some x0, none, none] := rfl
theorem st__law_keys (x0 x1 : V) : start ["_law_hand", "_law_many", "_law_keys_here", "_law_k", "_law_key_here"] [x0, x1] = [some x0, some x1, none, none, none] := rfl
theorem st__law_asked (x0 x1 x2 x3 : V) : start ["_law_way", "_law_keys_here", "_law_rooms", "_law_wide"] [x0, x1, x2, x3] = [some x0, some x1, some x2, some x3] := rfl
theorem st__law_copy (x0 : V) : start ["_law_told"] [x0] = [some x0] := rfl
theorem st__law_spoil (x0 : V) : start ["_law_told", "_law_one"] [x0] = [some x0, none] := rfl
theorem st_law (x0 : V) : start ["_law_script", "_law_worlds", "_law_place", "_law_hand", "_law_sizes", "_law_first", "_law_keys_here", "_law_rooms", "_law_wide", "_law_way", "_law_kept", "_law_at", "_law_handed", "_law_told", "_law_due"] [x0] = [some x0, none, none, none, none, none, none, none, none, none, none, none, none, none, none] := rfl
structure Bl (mg : Str → Option Value) : Prop where
  max : mg "max" = none
  range : mg "range" = none
  len : mg "len" = none
  sorted : mg "sorted" = none
  abs : mg "abs" = none
  isinstance : mg "isinstance" = none
  list : mg "list" = none
/-! ### the data -/
/-- a hand: the digits that are left, a counter of at most N, the cells -/
structure Hand (H : Hp) (p : Addr) (N : Nat) : Prop where
  ex : ∃ (l : Addr) (d c : Int) (ns : List Int), H p = some (.lst [.int d, .int c, .ref l]) ∧ H l = some (.lst (ns.map V.int)) ∧ 0 ≤ c ∧ c ≤ N ∧ ns ≠ []
theorem Hand.mono {H : Hp} {p : Addr} {N M : Nat} (h : Hand H p N) (hm : N ≤ M) : Hand H p M := by
  obtain ⟨l, d, c, ns, h1, h2, h3, h4, h5⟩ := h.ex
  exact ⟨l, d, c, ns, h1, h2, h3, by omega, h5⟩
/-- where a hand's cells stand -/
def cellsOf (H : Hp) (p : Addr) : Option Addr := match H p with
  | some (.lst [_, _, .ref l]) => some l
  | _ => none
theorem cells_of {H : Hp} {p l : Addr} {a b : V} (h : H p = some (.lst [a, b, .ref l])) : cellsOf H p = some l := by unfold cellsOf; rw [h]
/-- all but what stands at p is as it was; the cells stand where they stood -/
def Kp (H H' : Hp) (p : Addr) : Prop := (∀ b o, H b = some o → b ≠ p → H' b = some o) ∧ cellsOf H' p = cellsOf H p
theorem Kp.refl (H : Hp) (p : Addr) : Kp H H p := ⟨fun _ _ h _ => h, rfl⟩
theorem Kp.trans {H H1 H2 : Hp} {p : Addr} (a : Kp H H1 p) (b : Kp H1 H2 p) : Kp H H2 p := ⟨fun c o h n => b.1 c o (a.1 c o h n) n, b.2.trans a.2⟩
theorem Kp.hand {H : Hp} {p l : Addr} {a b a' b' : V} (h : H p = some (.lst [a, b, .ref l])) : Kp H (upd H p (.lst [a', b', .ref l])) p :=
  ⟨fun b u h n => by rw [upd_ne n]; exact h, by rw [cells_of upd_same, cells_of h]⟩
theorem Kp.of {H H' : Hp} {p : Addr} {N : Nat} (h : Same H H') (hh : Hand H p N) : Kp H H' p := by
  obtain ⟨l, d, c, ns, h1, _⟩ := hh.ex
  exact ⟨fun b o q _ => h b o q, by rw [cells_of h1, cells_of (h _ _ h1)]⟩
theorem Kp.new {H H1 H2 : Hp} {p : Addr} (a : Same H H1) (n : H p = none) (b : Kp H1 H2 p) : Same H H2 := fun c o h => b.1 c o (a c o h) (ne_of_none h n)
theorem Kp.free {H H' : Hp} {p l : Addr} (k : Kp H H' p) (n : H' l = none) (h : l ≠ p) : H l = none := by
  cases e : H l with
  | none => rfl
  | some o => rw [k.1 _ _ e h] at n; cases n
/-- a further object is written -/
theorem Hand.upd {H : Hp} {p c : Addr} {N : Nat} {o : HO} (h : Hand H p N) (n : c ≠ p) (nl : cellsOf H p ≠ some c) : Hand (L2.upd H c o) p N := by
  obtain ⟨l, d, k, ns, h1, h2, r⟩ := h.ex
  have ne : l ≠ c := fun z => nl (by rw [cells_of h1, z])
  exact ⟨l, d, k, ns, by rw [upd_ne n.symm]; exact h1, by rw [upd_ne ne]; exact h2, r⟩
theorem cells_new {H : Hp} {p c : Addr} {N : Nat} (h : Hand H p N) (n : H c = none) : cellsOf H p ≠ some c := by
  obtain ⟨l, d, k, ns, h1, h2, r⟩ := h.ex
  rw [cells_of h1]
  intro z
  exact ne_of_none h2 n (Option.some.inj z)
theorem cells_upd {H : Hp} {p c : Addr} {o : HO} (n : c ≠ p) : cellsOf (L2.upd H c o) p = cellsOf H p := by unfold cellsOf; rw [upd_ne n.symm]
theorem Hand.same {H H' : Hp} {p : Addr} {N : Nat} (h : Hand H p N) (s : Same H H') : Hand H' p N := by
  obtain ⟨l, d, c, ns, h1, h2, r⟩ := h.ex
  exact ⟨l, d, c, ns, s _ _ h1, s _ _ h2, r⟩
theorem len1 {α : Type} {a : α} : [a].length = 1 := rfl
theorem nsMod {ns : List Int} (h : ns ≠ []) (k : Int) : ∃ v, atI (ns.map V.int) (k % ((ns.map V.int).length : Int)) = some (.int v) := by
  have hl : 0 < ns.length := List.length_pos_iff.mpr h
  rw [List.length_map]
  have h0 : 0 ≤ k % (ns.length : Int) := Int.emod_nonneg _ (by omega)
  have h1 : k % (ns.length : Int) < ns.length := Int.emod_lt_of_pos _ (by omega)
  have ek : k % (ns.length : Int) = (((k % (ns.length : Int)).toNat : Nat) : Int) := by omega
  have hk : (k % (ns.length : Int)).toNat < ns.length := by omega
  obtain ⟨j, hj⟩ : ∃ j : Nat, k % (ns.length : Int) = (j : Int) := ⟨_, ek⟩
  have hk2 : j < ns.length := by omega
  refine ⟨ns[j], ?_⟩
  rw [hj]
  exact atI_nat (by rw [List.getElem?_map, List.getElem?_eq_getElem hk2] <;> rfl)
theorem hand_ne {H : Hp} {p l : Addr} {d c : Int} {ns : List Int} (hp : H p = some (.lst [.int d, .int c, .ref l])) (hl : H l = some (.lst (ns.map V.int))) : l ≠ p := by
  refine ne_of hl hp fun z => ?_
  injection z with z
  have q := congrArg (fun x => x[2]?) z
  rw [List.getElem?_map] at q
  cases e : ns[2]? with
  | none => rw [e] at q; cases q
  | some v => rw [e] at q; cases q
theorem len_pos {ns : List Int} (h : ns ≠ []) : (0 : Int) < ((ns.map V.int).length : Int) := by
  rw [List.length_map]
  have := List.length_pos_iff.mpr h
  omega
theorem pow2_cast (a : Nat) : (2 : Int) ^ a = ((2 ^ a : Nat) : Int) := by
  induction a with
  | zero => rfl
  | succ a ih => rw [Int.pow_succ, Nat.pow_succ, ih]; push_cast; rfl
theorem pow2_le {a b : Nat} (h : a ≤ b) : (2 : Int) ^ a ≤ 2 ^ b := by
  rw [pow2_cast, pow2_cast]
  exact Int.ofNat_le.mpr (Nat.pow_le_pow_right (by decide) h)
theorem pow2_pos (a : Nat) : (0 : Int) < 2 ^ a := by
  rw [pow2_cast]
  have := Nat.two_pow_pos a
  omega
/-- a new object, named: generalize e : upd H1 l _ = H2, then this -/
theorem newo {H1 H2 : Hp} {l : Addr} {o : HO} (n : H1 l = none) (e : L2.upd H1 l o = H2) : H2 l = some o ∧ Same H1 H2 := by
  subst e; exact ⟨upd_same, same_new n _⟩
theorem newl {H H1 H2 : Hp} {p l : Addr} {N : Nat} {o : HO} (hh : Hand H1 p N) (n : H1 l = none) (k : Kp H H1 p) (e : L2.upd H1 l o = H2) : Hand H2 p N ∧ Kp H H2 p ∧ H2 l = some o ∧ Same H1 H2 := by
  subst e; exact ⟨hh.same (same_new n _), k.trans (Kp.of (same_new n _) hh), upd_same, same_new n _⟩
theorem Hand.ne {H : Hp} {p l : Addr} {N : Nat} (hh : Hand H p N) (n : H l = none) : l ≠ p := by
  obtain ⟨l1, d, c, ns, h1, _⟩ := hh.ex
  exact (ne_of_none h1 n).symm
/-- a list of ints -/
def AI (xs : List V) : Prop := ∀ x ∈ xs, ∃ z, x = V.int z
theorem AI.nil : AI [] := fun _ h => by cases h
theorem AI.append {xs ys : List V} (a : AI xs) (b : AI ys) : AI (xs ++ ys) := fun x h => by
  rcases List.mem_append.mp h with h | h
  · exact a x h
  · exact b x h
theorem AI.push {xs : List V} (a : AI xs) (z : Int) : AI (xs ++ [.int z]) := a.append fun x h => ⟨z, by simpa using h⟩
theorem AI.ints (ns : List Int) : AI (ns.map V.int) := fun x h => by
  obtain ⟨z, _, e⟩ := List.mem_map.mp h
  exact ⟨z, e.symm⟩
theorem AI.cut {xs : List V} (a : AI xs) (lo hi : Option Int) : AI (cutV xs lo hi) := fun x h => by
  unfold cutV at h
  exact a x (List.mem_of_mem_drop (List.mem_of_mem_take h))
/-- while a hand is drawn from, a new list grows -/
structure CK (H0 : Hp) (p D : Addr) (N : Nat) (ys : List V) (H' : Hp) : Prop where
  hh : Hand H' p N
  lat : H' D = some (.lst ys)
  kp : Kp H0 H' p
  n0 : H0 D = none
  np : D ≠ p
  nc : cellsOf H0 p ≠ some D
theorem CK.start {H0 : Hp} {p D : Addr} {N : Nat} (hh : Hand H0 p N) (n : H0 D = none) {ys : List V} : CK H0 p D N ys (L2.upd H0 D (.lst ys)) where
  hh := hh.same (same_new n _)
  lat := upd_same
  kp := Kp.of (same_new n _) hh
  n0 := n
  np := by
    obtain ⟨l1, d, c, ns, h1, _⟩ := hh.ex
    exact (ne_of_none h1 n).symm
  nc := cells_new hh n
theorem CK.draw {H0 H' H2 : Hp} {p D : Addr} {N M : Nat} {ys : List V} (c : CK H0 p D N ys H') (k : Kp H' H2 p) (hh : Hand H2 p M) : CK H0 p D M ys H2 :=
  ⟨hh, k.1 _ _ c.lat c.np, c.kp.trans k, c.n0, c.np, c.nc⟩
theorem CK.push {H0 H' : Hp} {p D : Addr} {N : Nat} {ys zs : List V} (c : CK H0 p D N ys H') : CK H0 p D N zs (L2.upd H' D (.lst zs)) where
  hh := c.hh.upd c.np (by rw [c.kp.2]; exact c.nc)
  lat := upd_same
  kp := ⟨fun b o h n => by rw [upd_ne (ne_of_none h c.n0)]; exact c.kp.1 _ _ h n, by rw [cells_upd c.np]; exact c.kp.2⟩
  n0 := c.n0
  np := c.np
  nc := c.nc
theorem CK.new {H0 H' H2 : Hp} {p D l : Addr} {N : Nat} {ys : List V} {o : HO} (c : CK H0 p D N ys H') (n : H' l = none) (e : L2.upd H' l o = H2) : CK H0 p D N ys H2 ∧ H2 l = some o ∧ l ≠ p ∧ l ≠ D := by
  subst e
  exact ⟨⟨c.hh.same (same_new n _), same_new n _ _ _ c.lat, c.kp.trans (Kp.of (same_new n _) c.hh), c.n0, c.np, c.nc⟩, upd_same, c.hh.ne n, (ne_of_none c.lat n).symm⟩
/-! ### the promises -/
def sp__law_draw (K : PySem.W.Frag) : Sp := fun vs H Q _ => ∃ (p : Addr) (N : Nat) (n : Int), vs = [.ref p, .int n] ∧ Hand H p N ∧ N < 2 ^ 60 ∧ 0 < n ∧ n < 2 ^ 100 ∧
  ∀ (r : Int) (H' : Hp), 0 ≤ r → r < n → Hand H' p (N + 1) → Kp H H' p → Q (.int r) H'
def sp__law_far (K : PySem.W.Frag) : Sp := fun vs H Q _ => ∃ (p : Addr) (N : Nat) (n : Int), vs = [.ref p, .int n] ∧ Hand H p N ∧ N + 10 < 2 ^ 60 ∧ 0 < n ∧ n < 2 ^ 100 ∧
  ∀ (r : Int) (H' : Hp), 0 ≤ r → r < n → Hand H' p (N + 7) → Kp H H' p → Q (.int r) H'
def sp__law_power (K : PySem.W.Frag) : Sp := fun vs H Q _ => ∃ (m : Nat), vs = [.int m] ∧ m ≤ 1000 ∧ Q (.int (2 ^ m)) H
def sp__law_open (K : PySem.W.Frag) : Sp := fun vs H Q _ => ∃ (a : Addr) (ns : List Int) (pl : Int), vs = [.ref a, .int pl] ∧ SqL K H a (ns.map V.int) ∧ ns.length ≤ 63 ∧ 0 ≤ pl ∧ pl ≤ 1000 ∧
  ∀ (p : Addr) (H' : Hp), H p = none → Same H H' → Hand H' p 1100000 → Q (.ref p) H'
def sp__law_key (K : PySem.W.Frag) : Sp := fun vs H Q _ => ∃ (p : Addr) (N : Nat), vs = [.ref p] ∧ Hand H p N ∧ N + 30 < 2 ^ 60 ∧
  ∀ (r : Int) (H' : Hp), 0 ≤ r → r < 2 ^ 60 → Hand H' p (N + 20) → Kp H H' p → Q (.int r) H'
/-- law's: a list of at most 63 ints is handed in, True comes out -/
def sp_law (K : PySem.W.Frag) : Sp := fun vs H Q _ => ∃ (a : Addr) (ns : List Int), vs = [.ref a] ∧ SqL K H a (ns.map V.int) ∧ ns.length ≤ 63 ∧ ∀ H', Q (.bl true) H'
theorem sub_len : ∀ {L K : List Int}, L.Nodup → (∀ x ∈ L, x ∈ K) → L.length ≤ K.length
  | [], _, _, _ => Nat.zero_le _
  | a :: L, K, hn, hs => by
    rw [List.nodup_cons] at hn
    have ha := hs a List.mem_cons_self
    have ih := sub_len (L := L) (K := K.erase a) hn.2 fun x hx => by
      have : x ≠ a := fun e => hn.1 (e ▸ hx)
      exact (List.mem_erase_of_ne this).mpr (hs x (List.mem_cons_of_mem _ hx))
    rw [List.length_erase_of_mem ha] at ih
    have := List.length_pos_of_mem ha
    rw [List.length_cons]; omega
/-- from any key on a free one comes -/
theorem free_key {ks : List Int} (hl : ks.length < 1000) (v : Int) : ∃ m : Nat, (v + m) % 1152921504606846976 ∉ ks := by
  by_cases c : ∃ m : Nat, (v + m) % 1152921504606846976 ∉ ks
  · exact c
  · have all : ∀ m : Nat, (v + m) % 1152921504606846976 ∈ ks := fun m => Classical.not_not.mp fun z => c ⟨m, z⟩
    have hn : ((List.range (ks.length + 1)).map fun (j : Nat) => (v + j) % 1152921504606846976).Nodup := by
      rw [List.nodup_iff_pairwise_ne, List.pairwise_map]
      refine List.Pairwise.imp_of_mem ?_ List.nodup_range
      intro a b ha hb hab e
      have h1 := List.mem_range.mp ha
      have h2 := List.mem_range.mp hb
      omega
    have := sub_len hn (fun x hx => by
      obtain ⟨j, _, rfl⟩ := List.mem_map.mp hx
      exact all j)
    rw [List.length_map, List.length_range] at this
    omega
def sp__law_keys (K : PySem.W.Frag) : Sp := fun vs H Q _ => ∃ (p : Addr) (N : Nat) (n : Int), vs = [.ref p, .int n] ∧ Hand H p N ∧ N + 5000 < 2 ^ 60 ∧ 0 ≤ n ∧ n ≤ 125 ∧
  ∀ (l : Addr) (ns : List Int) (H' : Hp), H l = none → H' l = some (.lst (ns.map V.int)) → ns.Nodup → (ns.length : Int) = n → (∀ k ∈ ns, 0 ≤ k ∧ k < 1152921504606846976) → Hand H' p (N + 3000) → Kp H H' p → Q (.ref l) H'
/-! ### levels -/
def lg (R : Int) : Nat := R.toNat.log2
theorem lg_le {R : Int} (h : 1 ≤ R) : (2 : Int) ^ lg R ≤ R := by
  have h1 : R.toNat ≠ 0 := by omega
  have h2 := Nat.log2_self_le h1
  rw [pow2_cast]
  unfold lg
  omega
theorem lg_lt {R : Int} (h : 1 ≤ R) : R < (2 : Int) ^ (lg R + 1) := by
  have h1 : R.toNat ≠ 0 := by omega
  have h2 := (Nat.log2_lt h1).mp (Nat.lt_succ_self R.toNat.log2)
  rw [pow2_cast]
  unfold lg
  have h3 : R.toNat < 2 ^ (R.toNat.log2 + 1) := h2
  omega
theorem lg_60 {R : Int} (h : 1 ≤ R) (h2 : R ≤ 2 ^ 60) : lg R ≤ 60 := by
  have h1 : R.toNat ≠ 0 := by omega
  have h3 : R.toNat.log2 < 61 := (Nat.log2_lt h1).mpr (by omega)
  unfold lg
  omega
theorem lg_eq {R : Int} {m : Nat} (h1 : (2 : Int) ^ m ≤ R) (h2 : R < (2 : Int) ^ (m + 1)) : lg R = m := by
  have p := pow2_pos m
  have h0 : R.toNat ≠ 0 := by omega
  rw [pow2_cast] at h1 h2
  unfold lg
  have a1 : R.toNat.log2 < m + 1 := (Nat.log2_lt h0).mpr (by omega)
  have a2 : ¬ R.toNat.log2 < m := fun z => by
    have := (Nat.log2_lt h0).mp z
    omega
  omega
theorem bits_eq {R : Int} (h : 1 ≤ R) : ((Builtin.Int.intBits R : Nat) : Int) - 1 = (lg R : Int) := by
  unfold Builtin.Int.intBits lg
  have h0 : (R == 0) = false := by
    rw [beq_eq_false_iff_ne]; omega
  rw [h0]
  have e : R.natAbs = R.toNat := by omega
  rw [e]
  simp
/-- a key's room -/
def roomV (k R : Int) : Int := if R - 2 ^ lg R ≤ k % 2 ^ lg R then k % 2 ^ lg R else k % 2 ^ (lg R + 1)
theorem roomV_lt {k R : Int} (h : 1 ≤ R) : 0 ≤ roomV k R ∧ roomV k R < R := by
  have p := pow2_pos (lg R)
  have a := lg_le h
  have b := lg_lt h
  rw [Int.pow_succ] at b
  unfold roomV
  rw [Int.pow_succ]
  generalize (2 : Int) ^ lg R = w at p a b ⊢
  have m0 := Int.emod_nonneg k (show w ≠ 0 by omega)
  have m1 := Int.emod_lt_of_pos k p
  have d0 := Int.emod_nonneg k (show w * 2 ≠ 0 by omega)
  have d1 := Int.emod_lt_of_pos k (show (0 : Int) < w * 2 by omega)
  have e : k % (w * 2) % w = k % w := Int.emod_emod_of_dvd k ⟨2, rfl⟩
  split
  · omega
  · rename_i hn
    refine ⟨d0, ?_⟩
    by_cases c : k % (w * 2) < w
    · rw [Int.emod_eq_of_lt d0 c] at e; omega
    · have e2 : k % (w * 2) % w = k % (w * 2) - w := by
        have : k % (w * 2) = (k % (w * 2) - w) + w := by omega
        rw [this, Int.add_emod_right, Int.emod_eq_of_lt (by omega) (by omega)]
        omega
      omega
def sp_last_bits (K : PySem.W.Frag) : Sp := fun vs H Q _ => ∃ (k : Int) (m : Nat), vs = [.int k, .int m] ∧ m ≤ 100 ∧ Q (.int (k % 2 ^ m)) H
def sp_level (K : PySem.W.Frag) : Sp := fun vs H Q _ => ∃ (R : Int), vs = [.int R] ∧ 1 ≤ R ∧ Q (.int (lg R)) H
def sp_turn (K : PySem.W.Frag) : Sp := fun vs H Q _ => ∃ (R : Int), vs = [.int R] ∧ 1 ≤ R ∧ R ≤ 2 ^ 60 ∧ Q (.int (R - 2 ^ lg R)) H
/-- how many last bits tell of a room -/
def bitsV (r R : Int) : Nat := if R - 2 ^ lg R ≤ r ∧ r < 2 ^ lg R then lg R else lg R + 1
theorem bitsV_room {k R : Int} : k % 2 ^ bitsV (k % 2 ^ lg R) R = roomV k R := by
  have lt := Int.emod_lt_of_pos k (pow2_pos (lg R))
  unfold bitsV roomV
  by_cases c : R - 2 ^ lg R ≤ k % 2 ^ lg R
  · rw [if_pos ⟨c, lt⟩, if_pos c]
  · rw [if_neg (fun z => c z.1), if_neg c]
def sp_bits_for (K : PySem.W.Frag) : Sp := fun vs H Q _ => ∃ (r R : Int), vs = [.int r, .int R] ∧ 1 ≤ R ∧ R ≤ 2 ^ 60 ∧ Q (.int (bitsV r R)) H
def sp_room_of (K : PySem.W.Frag) : Sp := fun vs H Q _ => ∃ (k R : Int), vs = [.int k, .int R] ∧ 1 ≤ R ∧ R ≤ 2 ^ 60 ∧ Q (.int (roomV k R)) H
theorem up_div {m w g : Int} (hw : 1 ≤ w) (hm : 0 ≤ m) (hg : g = max 1 ((m + w - 1) / w)) : 1 ≤ g ∧ m ≤ w * g ∧ (g = 1 ∨ w * (g - 1) < m) := by
  have h1 := Int.emod_add_mul_ediv (m + w - 1) w
  have h2 := Int.emod_nonneg (m + w - 1) (show w ≠ 0 by omega)
  have h3 := Int.emod_lt_of_pos (m + w - 1) (show 0 < w by omega)
  generalize (m + w - 1) / w = q at h1 hg
  generalize (m + w - 1) % w = r at h1 h2 h3
  have e : w * (g - 1) = w * g - w := by rw [Int.mul_sub, Int.mul_one]
  refine ⟨by omega, ?_, ?_⟩
  · by_cases c : 1 ≤ q
    · have : g = q := by omega
      rw [this]; omega
    · have : g = 1 := by omega
      rw [this, Int.mul_one]
      have : w * q ≤ 0 := Int.mul_nonpos_of_nonneg_of_nonpos (by omega) (by omega)
      omega
  · by_cases c : 2 ≤ q
    · right
      have : g = q := by omega
      rw [e, this]; omega
    · left; omega
def rfor (m w : Int) : Int := max 1 ((m + w - 1) / w)
theorem cut_mid {xs : List V} {a b : Nat} (h : a ≤ b) : cutV xs (some (a : Int)) (some (b : Int)) = (xs.drop a).take (b - a) := by
  unfold cutV
  rw [HT.sIx_nat, HT.sIx_nat]
  by_cases c : a ≤ xs.length
  · rw [Nat.min_eq_left c]
    by_cases d : b ≤ xs.length
    · rw [Nat.min_eq_left d]
    · rw [Nat.min_eq_right (by omega), List.take_of_length_le (by rw [List.length_drop]; omega), List.take_of_length_le (by rw [List.length_drop]; omega)]
  · rw [List.drop_eq_nil_of_le (by omega), List.drop_eq_nil_of_le (by omega)]
    simp
def rowsN (ms : List Int) (w n : Nat) : List (List Int) := (List.range n).map fun i => (ms.drop (i * w)).take w
theorem rowsN_succ (ms : List Int) (w n : Nat) : rowsN ms w (n + 1) = rowsN ms w n ++ [(ms.drop (n * w)).take w] := by
  unfold rowsN; rw [List.range_succ, List.map_append]; rfl
theorem rowsN_len (ms : List Int) (w n : Nat) : (rowsN ms w n).length = n := by unfold rowsN; rw [List.length_map, List.length_range]
def rowsV (ms : List Int) (w : Nat) : List (List Int) := rowsN ms w (rfor ms.length w).toNat
/-- the lists at these places -/
def Ls (H : Hp) : List Addr → List (List Int) → Prop
  | [], [] => True
  | a :: as, r :: rs => H a = some (.lst (r.map V.int)) ∧ Ls H as rs
  | _, _ => False
theorem Ls.same {H H' : Hp} : ∀ {as : List Addr} {rs : List (List Int)}, (∀ a ∈ as, ∀ o, H a = some o → H' a = some o) → Ls H as rs → Ls H' as rs
  | [], [], _, _ => trivial
  | a :: _, _ :: _, s, ⟨h, t⟩ => ⟨s a List.mem_cons_self _ h, Ls.same (fun b hb => s b (List.mem_cons_of_mem _ hb)) t⟩
theorem Ls.len {H : Hp} : ∀ {as : List Addr} {rs : List (List Int)}, Ls H as rs → as.length = rs.length
  | [], [], _ => rfl
  | _ :: _, _ :: _, ⟨_, t⟩ => congrArg (· + 1) (Ls.len t)
theorem Ls.snoc {H : Hp} {a : Addr} {r : List Int} (hb : H a = some (.lst (r.map V.int))) : ∀ {as : List Addr} {rs : List (List Int)}, Ls H as rs → Ls H (as ++ [a]) (rs ++ [r])
  | [], [], _ => ⟨hb, trivial⟩
  | _ :: _, _ :: _, ⟨h, t⟩ => ⟨h, Ls.snoc hb t⟩
theorem Ls.get {H : Hp} : ∀ {as : List Addr} {rs : List (List Int)} {i : Nat} {a : Addr}, Ls H as rs → as[i]? = some a → ∃ r, rs[i]? = some r ∧ H a = some (.lst (r.map V.int))
  | [], [], _, _, _, e => by cases e
  | _ :: _, r :: _, 0, _, ⟨h, _⟩, e => by cases e; exact ⟨r, rfl, h⟩
  | _ :: _, _ :: _, i + 1, _, ⟨_, t⟩, e => Ls.get (i := i) t e
/-- a new list of new lists -/
def LL (H0 H : Hp) (l : Addr) (rs : List (List Int)) : Prop := ∃ as : List Addr, H l = some (.lst (as.map V.ref)) ∧ Ls H as rs ∧ ∀ a ∈ as, H0 a = none ∧ a ≠ l
theorem LL.same {H0 H H' : Hp} {l : Addr} {rs : List (List Int)} (s : Same H H') (h : LL H0 H l rs) : LL H0 H' l rs := by
  obtain ⟨as, h1, h2, h3⟩ := h
  exact ⟨as, s _ _ h1, h2.same fun a _ o => s a o, h3⟩
theorem LL.base {H0 H1 H : Hp} {l : Addr} {rs : List (List Int)} (s : Same H0 H1) (h : LL H1 H l rs) : LL H0 H l rs := by
  obtain ⟨as, h1, h2, h3⟩ := h
  exact ⟨as, h1, h2, fun a ha => ⟨s.free (h3 a ha).1, (h3 a ha).2⟩⟩
def sp_rows_for (K : PySem.W.Frag) : Sp := fun vs H Q _ => ∃ (m w : Int), vs = [.int m, .int w] ∧ 1 ≤ w ∧ w ≤ 8 ∧ Q (.int (rfor m w)) H
def sp_cut_rows (K : PySem.W.Frag) : Sp := fun vs H Q _ => ∃ (a : Addr) (ms : List Int) (w : Nat), vs = [.ref a, .int w] ∧ H a = some (.lst (ms.map V.int)) ∧ ms.length ≤ 200 ∧ 1 ≤ w ∧ w ≤ 8 ∧
  ∀ l H', H l = none → LL H H' l (rowsV ms w) → Same H H' → Q (.ref l) H'
def sp_rows_of (K : PySem.W.Frag) : Sp := fun vs H Q _ => ∃ (a : Addr) (ns : List Int) (w : Nat), vs = [.ref a, .int w] ∧ H a = some (.lst (ns.map V.int)) ∧ ns.length ≤ 200 ∧ 1 ≤ w ∧ w ≤ 8 ∧
  ∀ ms l H', ms.Perm ns → ms.Pairwise (· ≤ ·) → H l = none → LL H H' l (rowsV ms w) → Same H H' → Q (.ref l) H'
/-! lists of lists of ints -/
theorem refs_get {as : List Addr} {i : Nat} {x : V} (hx : (as.map V.ref)[i]? = some x) : ∃ a, as[i]? = some a ∧ x = .ref a := by
  rw [List.getElem?_map] at hx
  cases e : as[i]? with
  | none => rw [e] at hx; cases hx
  | some a => rw [e] at hx; exact ⟨a, rfl, (Option.some.inj hx).symm⟩
theorem ints_get {ns : List Int} {i : Nat} {x : V} (hx : (ns.map V.int)[i]? = some x) : ∃ z, ns[i]? = some z ∧ x = .int z := by
  rw [List.getElem?_map] at hx
  cases e : ns[i]? with
  | none => rw [e] at hx; cases hx
  | some a => rw [e] at hx; exact ⟨a, rfl, (Option.some.inj hx).symm⟩
theorem drop_get {α : Type} {xs : List α} {i : Nat} {x : α} (h : xs[i]? = some x) : xs.drop i = x :: xs.drop (i + 1) := by
  obtain ⟨hi, e⟩ := List.getElem?_eq_some_iff.mp h
  rw [List.drop_eq_getElem_cons hi, e]
theorem take_get {α : Type} {xs : List α} {i : Nat} {x : α} (h : xs[i]? = some x) : xs.take (i + 1) = xs.take i ++ [x] := by
  obtain ⟨hi, e⟩ := List.getElem?_eq_some_iff.mp h
  rw [List.take_succ_eq_append_getElem hi, e]
theorem at_ref {as : List Addr} {i : Nat} {a : Addr} (h : as[i]? = some a) : atI (as.map V.ref) (0 + (i : Int)) = some (.ref a) := by
  rw [Int.zero_add]
  exact atI_nat (by rw [List.getElem?_map, h]; rfl)
theorem at_ref' {as : List Addr} {i : Nat} {a : Addr} (h : as[i]? = some a) : atI (as.map V.ref) (i : Int) = some (.ref a) :=
  atI_nat (by rw [List.getElem?_map, h]; rfl)
theorem at_int {ns : List Int} {i : Nat} {z : Int} (h : ns[i]? = some z) : atI (ns.map V.int) (i : Int) = some (.int z) :=
  atI_nat (by rw [List.getElem?_map, h]; rfl)
theorem at_zero {a : V} {r : List V} : atI (a :: r) 0 = some a := atI_nat (j := 0) rfl
theorem pick2 {x y : Int} {c : Bool} : ∃ b, atI [V.int x, V.int y] (if c = true then 1 else 0) = some (.int b) ∧ (b = x ∨ b = y) := by
  cases c
  · exact ⟨x, rfl, .inl rfl⟩
  · exact ⟨y, rfl, .inr rfl⟩
theorem Ls.app {H : Hp} {bs : List Addr} {qs : List (List Int)} (hb : Ls H bs qs) : ∀ {as : List Addr} {rs : List (List Int)}, Ls H as rs → Ls H (as ++ bs) (rs ++ qs)
  | [], [], _ => hb
  | _ :: _, _ :: _, ⟨h, t⟩ => ⟨h, Ls.app hb t⟩
theorem Ls.rev {H : Hp} : ∀ {as : List Addr} {rs : List (List Int)}, Ls H as rs → Ls H as.reverse rs.reverse
  | [], [], _ => trivial
  | a :: as, r :: rs, ⟨h, t⟩ => by
    rw [List.reverse_cons, List.reverse_cons]
    exact Ls.app (bs := [a]) (qs := [r]) ⟨h, trivial⟩ (Ls.rev t)
theorem Ls.mem {H : Hp} : ∀ {as : List Addr} {rs : List (List Int)} {a : Addr}, Ls H as rs → a ∈ as → ∃ r, r ∈ rs ∧ H a = some (.lst (r.map V.int))
  | [], [], _, _, h => by cases h
  | b :: as, r :: rs, a, ⟨h, t⟩, m => by
    rcases List.mem_cons.mp m with e | m
    · exact ⟨r, List.mem_cons_self, e ▸ h⟩
    · obtain ⟨q, q1, q2⟩ := Ls.mem t m
      exact ⟨q, List.mem_cons_of_mem _ q1, q2⟩
/-- a list of lists of ints -/
def RL (H : Hp) (l : Addr) (rs : List (List Int)) : Prop := ∃ as : List Addr, H l = some (.lst (as.map V.ref)) ∧ Ls H as rs
theorem RL.same {H H' : Hp} {l : Addr} {rs : List (List Int)} (h : RL H l rs) (s : Same H H') : RL H' l rs := by
  obtain ⟨as, h1, h2⟩ := h
  exact ⟨as, s _ _ h1, h2.same fun a _ o => s a o⟩
theorem LL.rl {H0 H : Hp} {l : Addr} {rs : List (List Int)} (h : LL H0 H l rs) : RL H l rs := by
  obtain ⟨as, h1, h2, _⟩ := h
  exact ⟨as, h1, h2⟩
theorem ints_ne {H : Hp} {p a : Addr} {N : Nat} {ns : List Int} (hh : Hand H p N) (h : H a = some (.lst (ns.map V.int))) : a ≠ p := by
  obtain ⟨l, d, c, ms, h1, h2, _⟩ := hh.ex
  intro e
  rw [e, h1] at h
  have q := congrArg (fun x => x[2]?) (HO.lst.inj (Option.some.inj h))
  rw [List.getElem?_map] at q
  cases z : ns[2]? with
  | none => rw [z] at q; cases q
  | some v => rw [z] at q; cases q
theorem refs_ne {H : Hp} {p a : Addr} {N : Nat} {as : List Addr} (hh : Hand H p N) (h : H a = some (.lst (as.map V.ref))) : a ≠ p := by
  obtain ⟨l, d, c, ms, h1, h2, _⟩ := hh.ex
  intro e
  rw [e, h1] at h
  have q := congrArg (fun x => x[0]?) (HO.lst.inj (Option.some.inj h))
  rw [List.getElem?_map] at q
  cases z : as[0]? with
  | none => rw [z] at q; cases q
  | some v => rw [z] at q; cases q
theorem ints_kp {H H' : Hp} {p a : Addr} {N : Nat} {ns : List Int} (h : H a = some (.lst (ns.map V.int))) (hh : Hand H p N) (k : Kp H H' p) : H' a = some (.lst (ns.map V.int)) := k.1 _ _ h (ints_ne hh h)
theorem Ls.kp {H H' : Hp} {p : Addr} {N : Nat} {as : List Addr} {rs : List (List Int)} (h : Ls H as rs) (hh : Hand H p N) (k : Kp H H' p) : Ls H' as rs := by
  refine h.same fun a ha o e => k.1 _ _ e ?_
  obtain ⟨r, _, hr⟩ := h.mem ha
  exact ints_ne hh hr
theorem RL.kp {H H' : Hp} {p l : Addr} {N : Nat} {rs : List (List Int)} (h : RL H l rs) (hh : Hand H p N) (k : Kp H H' p) : RL H' l rs := by
  obtain ⟨as, h1, h2⟩ := h
  exact ⟨as, k.1 _ _ h1 (refs_ne hh h1), h2.kp hh k⟩
def dR (r : List Int) : PyData := .list (r.map PyData.int)
theorem Ls.dvs {K : PySem.W.Frag} {H : Hp} : ∀ {as : List Addr} {rs : List (List Int)}, Ls H as rs → DVs K H (as.map V.ref) (rs.map dR)
  | [], [], _ => .nil
  | _ :: _, r :: _, ⟨h, t⟩ => .cons (.lst (SqL.of h) (DVs.ints r)) (Ls.dvs t)
theorem RL.dv {K : PySem.W.Frag} {H : Hp} {l : Addr} {rs : List (List Int)} (h : RL H l rs) : DV K H (.ref l) (.list (rs.map dR)) := by
  obtain ⟨as, h1, h2⟩ := h
  exact .lst (SqL.of h1) h2.dvs
theorem lay_R : ∀ rs : List (List Int), PyData.canLayAll0 (rs.map dR) = true ∧ PyData.depthAll (rs.map dR) ≤ 1
  | [] => ⟨rfl, by simp [PyData.depthAll]⟩
  | r :: rs => by
    obtain ⟨h1, h2⟩ := lay_R rs
    obtain ⟨g1, g2⟩ := lay_ints r
    rw [List.map_cons, PyData.canLayAll0, PyData.depthAll, dR, PyData.canLay0, PyData.depth, h1, g1, g2]
    exact ⟨rfl, by omega⟩
theorem shaped_R (rs : List (List Int)) : SeqAt.shaped (.list (rs.map dR)) = true := by
  obtain ⟨h1, h2⟩ := lay_R rs
  unfold SeqAt.shaped
  rw [PyData.canLay0, PyData.depth, h1, decide_eq_true (by omega)]
  rfl
theorem eqv_R : ∀ rs qs : List (List Int), PyData.eqvAll (rs.map dR) (qs.map dR) = decide (rs = qs)
  | [], [] => rfl
  | [], _ :: _ => rfl
  | _ :: _, [] => rfl
  | r :: rs, q :: qs => by
    rw [List.map_cons, List.map_cons, PyData.eqvAll, dR, dR, PyData.eqv, eqv_ints, eqv_R rs qs, Bool.eq_iff_iff]
    simp
theorem eq_R (rs : List (List Int)) : PyData.eqv (.list (rs.map dR)) (.list (rs.map dR)) = true := by rw [PyData.eqv, eqv_R]; exact decide_eq_true rfl
theorem eq_I (ns : List Int) : PyData.eqv (.list (ns.map PyData.int)) (.list (ns.map PyData.int)) = true := by rw [PyData.eqv, eqv_ints]; exact decide_eq_true rfl
theorem eq_nil (ns : List Int) : PyData.eqv (.list (ns.map PyData.int)) (.list []) = decide (ns = []) := by
  have := eqv_ints ns []
  rw [← this, PyData.eqv]; rfl
theorem dv_ints {K : PySem.W.Frag} {H : Hp} {a : Addr} {ns : List Int} (h : H a = some (.lst (ns.map V.int))) : DV K H (.ref a) (.list (ns.map PyData.int)) := .lst (SqL.of h) (DVs.ints ns)
theorem dv_nil {K : PySem.W.Frag} {H : Hp} {a : Addr} (h : H a = some (.lst [])) : DV K H (.ref a) (.list []) := .lst (SqL.of h) .nil
theorem emp_map (r : List Int) : decide (r ≠ []) = !(r.map V.int).isEmpty := by cases r <;> simp
theorem last_at {r : List Int} {y : Int} (h : r.getLast? = some y) : atI (r.map V.int) (-1) = some (.int y) := by
  have hn : r ≠ [] := by intro e; rw [e] at h; cases h
  have hl := List.length_pos_iff.mpr hn
  have e : ixN (r.map V.int).length (-1) = some (r.length - 1) := by
    unfold ixN
    rw [List.length_map, if_neg (by decide), if_pos (by omega)]
    congr 1; omega
  unfold atI
  rw [e]
  show (r.map V.int)[r.length - 1]? = _
  rw [List.getElem?_map, ← List.getLast?_eq_getElem?, h]; rfl
theorem last_max : ∀ {r : List Int} {y : Int}, r.Pairwise (· < ·) → r.getLast? = some y → y ∈ r ∧ ∀ z ∈ r, z ≤ y
  | [], _, _, h => by cases h
  | [a], y, _, h => by
    simp at h; subst h
    exact ⟨List.mem_singleton.mpr rfl, fun z hz => by rw [List.mem_singleton.mp hz]; omega⟩
  | a :: b :: r, y, hp, h => by
    rw [List.pairwise_cons] at hp
    have h' : (b :: r).getLast? = some y := by rw [List.getLast?_cons_cons] at h; exact h
    obtain ⟨h1, h2⟩ := last_max hp.2 h'
    refine ⟨List.mem_cons_of_mem _ h1, fun z hz => ?_⟩
    rcases List.mem_cons.mp hz with e | hz
    · rw [e]; have := hp.1 y h1; omega
    · exact h2 z hz
theorem last_ex {r : List Int} (h : r ≠ []) : ∃ y, r.getLast? = some y := ⟨_, List.getLast?_eq_some_getLast h⟩
theorem count1 (k : Int) : ∀ {r : List Int}, r.Nodup → (r.filter fun z => decide (z = k)).length = if k ∈ r then 1 else 0
  | [], _ => rfl
  | a :: r, h => by
    rw [List.nodup_cons] at h
    have ih := count1 k h.2
    rw [List.filter_cons]
    by_cases c : a = k
    · rw [if_pos (decide_eq_true c), List.length_cons, ih, if_neg (c ▸ h.1), if_pos (by rw [c]; exact List.mem_cons_self)]
    · rw [if_neg (by simp [c]), ih]
      by_cases d : k ∈ r
      · rw [if_pos d, if_pos (List.mem_cons_of_mem _ d)]
      · rw [if_neg d, if_neg (fun z => (List.mem_cons.mp z).elim (fun e => c e.symm) d)]
theorem lt_nodup {r : List Int} (h : r.Pairwise (· < ·)) : r.Nodup := h.imp fun h => Int.ne_of_lt h
theorem le_lt {r : List Int} (h : r.Pairwise (· ≤ ·)) (n : r.Nodup) : r.Pairwise (· < ·) := by
  induction r with
  | nil => exact .nil
  | cons a r ih =>
    rw [List.pairwise_cons] at h
    rw [List.nodup_cons] at n
    rw [List.pairwise_cons]
    exact ⟨fun b hb => by
      have h1 := h.1 b hb
      have h2 : a ≠ b := fun e => n.1 (e ▸ hb)
      omega, ih h.2 n.2⟩

/-! a look -/
def stopsB (k : Int) (r : List Int) : Bool := match r.getLast? with
  | none => false
  | some x => decide (k ≤ x)
def stops (k : Int) (r : List Int) : Prop := stopsB k r = true
theorem stops_of {k x : Int} {r : List Int} (h : r.getLast? = some x) (d : k ≤ x) : stops k r := by
  unfold stops stopsB; rw [h]; exact decide_eq_true d
theorem stops_ex {k : Int} {r : List Int} (h : stops k r) : ∃ x, r.getLast? = some x ∧ k ≤ x := by
  unfold stops stopsB at h
  cases e : r.getLast? with
  | none => rw [e] at h; cases h
  | some x => rw [e] at h; exact ⟨x, rfl, of_decide_eq_true h⟩
def lookV (k : Int) : List (List Int) → Bool × Int
  | [] => (false, 0)
  | r :: rs => if stopsB k r = true then (decide (k ∈ r), 1) else ((lookV k rs).1, (lookV k rs).2 + 1)
theorem lookV_stop {k : Int} {r : List Int} {rs : List (List Int)} (h : stops k r) : lookV k (r :: rs) = (decide (k ∈ r), 1) := by
  rw [lookV]; exact if_pos h
theorem lookV_pass {k : Int} {r : List Int} {rs : List (List Int)} (h : ¬ stops k r) : lookV k (r :: rs) = ((lookV k rs).1, (lookV k rs).2 + 1) := by
  rw [lookV]; exact if_neg h
def sp_looked (K : PySem.W.Frag) : Sp := fun vs H Q _ => ∃ (l : Addr) (k : Int) (rs : List (List Int)), vs = [.ref l, .int k] ∧ RL H l rs ∧ rs.length ≤ 500 ∧
  ∀ t H', H t = none → H' t = some (.tup [.bl (lookV k rs).1, .int (lookV k rs).2]) → Same H H' → Q (.ref t) H'
/-! keys spread over rooms -/
def spreadV (ms : List Int) (R : Nat) : List (List Int) := (List.range R).map fun (r : Nat) => ms.filter fun k => decide (roomV k R = (r : Int))
theorem spreadV_len (ms : List Int) (R : Nat) : (spreadV ms R).length = R := by unfold spreadV; rw [List.length_map, List.length_range]
theorem spreadV_at {ms : List Int} {R j : Nat} (h : j < R) : (spreadV ms R)[j]? = some (ms.filter fun k => decide (roomV k R = (j : Int))) := by
  unfold spreadV
  rw [List.getElem?_map, List.getElem?_range h]; rfl
theorem spreadV_nil (R : Nat) : spreadV [] R = List.replicate R [] := by
  refine List.ext_getElem? fun i => ?_
  rw [List.getElem?_replicate]
  by_cases h : i < R
  · rw [spreadV_at h, if_pos h]; rfl
  · rw [if_neg h, List.getElem?_eq_none (by rw [spreadV_len]; omega)]
theorem spreadV_push {ms : List Int} {R j : Nat} {k : Int} (hj : roomV k R = (j : Int)) (h : j < R) : spreadV (ms ++ [k]) R = (spreadV ms R).set j ((ms.filter fun k => decide (roomV k R = (j : Int))) ++ [k]) := by
  refine List.ext_getElem? fun i => ?_
  rw [List.getElem?_set, spreadV_len]
  by_cases hi : i < R
  · rw [spreadV_at hi, List.filter_append, List.filter_cons]
    by_cases e : j = i
    · subst e
      rw [if_pos rfl, if_pos hi, if_pos (decide_eq_true hj)]; rfl
    · rw [if_neg e, spreadV_at hi, if_neg (by rw [hj]; simp; omega)]
      simp
  · rw [List.getElem?_eq_none (by rw [spreadV_len]; omega)]
    by_cases e : j = i
    · omega
    · rw [if_neg e, List.getElem?_eq_none (by rw [spreadV_len]; omega)]
theorem Ls.set {H : Hp} {a : Addr} {r : List Int} : ∀ {as : List Addr} {rs : List (List Int)} {j : Nat}, as.Nodup → as[j]? = some a → Ls H as rs → Ls (upd H a (.lst (r.map V.int))) as (rs.set j r)
  | [], _, _, _, h, _ => by simp at h
  | b :: as, q :: rs, 0, hn, h, ⟨h1, t⟩ => by
    simp at h; subst h
    rw [List.nodup_cons] at hn
    exact ⟨upd_same, t.same fun c hc o e => by rw [upd_ne (show c ≠ b from fun z => hn.1 (by rw [← z]; exact hc))]; exact e⟩
  | b :: as, q :: rs, j + 1, hn, h, ⟨h1, t⟩ => by
    rw [List.nodup_cons] at hn
    have h' : as[j]? = some a := by simpa using h
    have ne : b ≠ a := fun z => hn.1 (by rw [z]; exact List.mem_of_getElem? h')
    exact ⟨by rw [upd_ne ne]; exact h1, Ls.set hn.2 h' t⟩
/-- a new list of new lists, no two the same -/
def LN (H0 H : Hp) (l : Addr) (rs : List (List Int)) : Prop := ∃ as : List Addr, H l = some (.lst (as.map V.ref)) ∧ Ls H as rs ∧ as.Nodup ∧ ∀ a ∈ as, H0 a = none ∧ a ≠ l
theorem LN.ll {H0 H : Hp} {l : Addr} {rs : List (List Int)} (h : LN H0 H l rs) : LL H0 H l rs := by
  obtain ⟨as, h1, h2, _, h3⟩ := h
  exact ⟨as, h1, h2, h3⟩
theorem LN.rl {H0 H : Hp} {l : Addr} {rs : List (List Int)} (h : LN H0 H l rs) : RL H l rs := h.ll.rl
theorem LN.same {H0 H H' : Hp} {l : Addr} {rs : List (List Int)} (h : LN H0 H l rs) (s : Same H H') : LN H0 H' l rs := by
  obtain ⟨as, h1, h2, h3, h4⟩ := h
  exact ⟨as, s _ _ h1, h2.same fun a _ o => s a o, h3, h4⟩
theorem LN.base {H0 H1 H : Hp} {l : Addr} {rs : List (List Int)} (s : Same H0 H1) (h : LN H1 H l rs) : LN H0 H l rs := by
  obtain ⟨as, h1, h2, h3, h4⟩ := h
  exact ⟨as, h1, h2, h3, fun a ha => ⟨s.free (h4 a ha).1, (h4 a ha).2⟩⟩
theorem Ls.rep {H : Hp} : ∀ {as : List Addr} {n : Nat}, Ls H as (List.replicate n []) → as.length = n := fun h => by rw [h.len, List.length_replicate]
def sp_spread (K : PySem.W.Frag) : Sp := fun vs H Q _ => ∃ (a : Addr) (ns : List Int) (R : Nat), vs = [.ref a, .int R] ∧ H a = some (.lst (ns.map V.int)) ∧ ns.length ≤ 200 ∧ 1 ≤ R ∧ R ≤ 200 ∧
  ∀ ms l H', ms.Perm ns → ms.Pairwise (· ≤ ·) → H l = none → LN H H' l (spreadV ms R) → Same H H' → Q (.ref l) H'
def sp_counts (K : PySem.W.Frag) : Sp := fun vs H Q _ => ∃ (a : Addr) (ns : List Int) (R : Nat), vs = [.ref a, .int R] ∧ H a = some (.lst (ns.map V.int)) ∧ ns.length ≤ 200 ∧ 1 ≤ R ∧ R ≤ 200 ∧
  ∀ ms l H', ms.Perm ns → ms.Pairwise (· ≤ ·) → H l = none → H' l = some (.lst (((spreadV ms R).map fun r => (r.length : Int)).map V.int)) → Same H H' → Q (.ref l) H'
theorem rowAt {ms : List Int} {w n i : Nat} (h : i < n) : (rowsN ms w n)[i]? = some ((ms.drop (i * w)).take w) := by
  unfold rowsN
  rw [List.getElem?_map, List.getElem?_range h]; rfl
theorem mem_row {ms : List Int} {a w : Nat} {x : Int} : x ∈ (ms.drop a).take w ↔ ∃ j, a ≤ j ∧ j < a + w ∧ ms[j]? = some x := by
  rw [List.mem_iff_getElem?]
  constructor
  · rintro ⟨i, hi⟩
    rw [List.getElem?_take] at hi
    by_cases c : i < w
    · rw [if_pos c, List.getElem?_drop] at hi
      exact ⟨a + i, by omega, by omega, hi⟩
    · rw [if_neg c] at hi; cases hi
  · rintro ⟨j, h1, h2, h3⟩
    refine ⟨j - a, ?_⟩
    rw [List.getElem?_take, if_pos (by omega), List.getElem?_drop, show a + (j - a) = j by omega]; exact h3
theorem stops_mem {k : Int} {r : List Int} (hp : r.Pairwise (· < ·)) : stops k r ↔ ∃ x ∈ r, k ≤ x := by
  constructor
  · intro h
    obtain ⟨x, hx, hk⟩ := stops_ex h
    exact ⟨x, (last_max hp hx).1, hk⟩
  · rintro ⟨x, hx, hk⟩
    have hn : r ≠ [] := by intro e; rw [e] at hx; cases hx
    obtain ⟨y, hy⟩ := last_ex hn
    exact stops_of hy (by have := (last_max hp hy).2 x hx; omega)
theorem cnt_lt {k : Int} : ∀ {ms : List Int}, ms.Pairwise (· < ·) → ∀ (j : Nat) (x : Int), ms[j]? = some x → (x < k ↔ j < (ms.filter fun z => decide (z < k)).length)
  | [], _, j, x, h => by simp at h
  | a :: r, hp, j, x, h => by
    rw [List.pairwise_cons] at hp
    rw [List.filter_cons]
    by_cases c : a < k
    · rw [if_pos (decide_eq_true c), List.length_cons]
      cases j with
      | zero => simp at h; subst h; simp [c]
      | succ j =>
        have := cnt_lt (k := k) hp.2 j x (by simpa using h)
        rw [this]; omega
    · rw [if_neg (by simp [c])]
      have e : (r.filter fun z => decide (z < k)) = [] := by
        rw [List.filter_eq_nil_iff]
        intro z hz
        have := hp.1 z hz
        simp; omega
      rw [e]
      have : ¬ x < k := by
        cases j with
        | zero => simp at h; subst h; exact c
        | succ j =>
          have hm : x ∈ r := List.mem_of_getElem? (i := j) (by simpa using h)
          have := hp.1 x hm
          omega
      simp [this]
theorem lookV_at {k : Int} : ∀ {rs : List (List Int)} {i : Nat} {r : List Int}, rs[i]? = some r → stops k r → (∀ j q, j < i → rs[j]? = some q → ¬ stops k q) → lookV k rs = (decide (k ∈ r), (i : Int) + 1)
  | [], _, _, h, _, _ => by simp at h
  | r0 :: rs, 0, r, h, hs, _ => by
    simp at h; subst h
    rw [lookV_stop hs]; rfl
  | r0 :: rs, i + 1, r, h, hs, hn => by
    rw [lookV_pass (hn 0 r0 (by omega) rfl), lookV_at (rs := rs) (i := i) (by simpa using h) hs (fun j q hj e => hn (j + 1) q (by omega) (by simpa using e))]
    show (_, _) = (_, _)
    congr 1
theorem lookV_none {k : Int} : ∀ {rs : List (List Int)}, (∀ r ∈ rs, ¬ stops k r) → lookV k rs = (false, (rs.length : Int))
  | [], _ => rfl
  | r :: rs, h => by
    rw [lookV_pass (h r List.mem_cons_self), lookV_none fun q hq => h q (List.mem_cons_of_mem _ hq)]
    show (_, _) = (_, _)
    congr 1
theorem sorted_at {ms : List Int} (hp : ms.Pairwise (· < ·)) {i j : Nat} {x y : Int} (hx : ms[i]? = some x) (hy : ms[j]? = some y) (h : i < j) : x < y := by
  obtain ⟨h1, rfl⟩ := List.getElem?_eq_some_iff.mp hx
  obtain ⟨h2, rfl⟩ := List.getElem?_eq_some_iff.mp hy
  exact List.pairwise_iff_getElem.mp hp i j h1 h2 h
section
variable {ms : List Int} {w : Nat} {k : Int}
theorem row_srt (hp : ms.Pairwise (· < ·)) (i : Nat) : ((ms.drop (i * w)).take w).Pairwise (· < ·) := (hp.drop).take
theorem row_stops (hp : ms.Pairwise (· < ·)) (i : Nat) : stops k ((ms.drop (i * w)).take w) ↔ ∃ j, i * w ≤ j ∧ j < i * w + w ∧ j < ms.length ∧ (ms.filter fun z => decide (z < k)).length ≤ j := by
  rw [stops_mem (row_srt hp i)]
  constructor
  · rintro ⟨x, hx, hk⟩
    obtain ⟨j, h1, h2, h3⟩ := mem_row.mp hx
    have := cnt_lt (k := k) hp j x h3
    exact ⟨j, h1, h2, (List.getElem?_eq_some_iff.mp h3).1, by omega⟩
  · rintro ⟨j, h1, h2, h3, h4⟩
    have e := List.getElem?_eq_getElem h3
    have := cnt_lt (k := k) hp j _ e
    exact ⟨_, mem_row.mpr ⟨j, h1, h2, e⟩, by omega⟩
theorem all_rows (hw : 1 ≤ w) : 1 ≤ (rfor ms.length w).toNat ∧ ms.length ≤ w * (rfor ms.length w).toNat ∧ ((rfor ms.length w).toNat = 1 ∨ w * ((rfor ms.length w).toNat - 1) < ms.length) := by
  obtain ⟨g1, g2, g3⟩ := up_div (g := rfor ms.length w) (w := w) (m := ms.length) (by omega) (by omega) rfl
  obtain ⟨n, hn⟩ : ∃ n : Nat, rfor ms.length w = (n : Int) := ⟨(rfor ms.length w).toNat, by omega⟩
  rw [hn] at g1 g2 g3 ⊢
  rw [Int.toNat_natCast]
  refine ⟨by omega, ?_, ?_⟩
  · exact Int.ofNat_le.mp (by rw [Int.natCast_mul]; exact g2)
  · rcases g3 with z | z
    · left; omega
    · right
      refine Int.ofNat_lt.mp ?_
      rw [Int.natCast_mul, show ((n - 1 : Nat) : Int) = (n : Int) - 1 by omega]
      exact z
/-- the first rows left out: where the key's place is in what is left -/
theorem look_in (hp : ms.Pairwise (· < ·)) (hw : 1 ≤ w) {c g : Nat} (hc : (ms.filter fun z => decide (z < k)).length = c) (h1 : c < ms.length) (h2 : g ≤ c / w) :
    lookV k ((rowsV ms w).drop g) = (decide (k ∈ ms), ((c / w - g : Nat) : Int) + 1) ∧ c / w < (rfor ms.length w).toNat := by
  obtain ⟨n1, n2, n3⟩ := all_rows (ms := ms) hw
  have i0 : c / w < (rfor ms.length w).toNat := Nat.div_lt_of_lt_mul (Nat.lt_of_lt_of_le h1 n2)
  have d1 := Nat.div_mul_le_self c w
  have d2 : c < c / w * w + w := Nat.lt_div_mul_add (by omega)
  refine ⟨?_, i0⟩
  have hr : ((rowsV ms w).drop g)[c / w - g]? = some ((ms.drop (c / w * w)).take w) := by
    rw [List.getElem?_drop, show g + (c / w - g) = c / w by omega]
    exact rowAt i0
  rw [lookV_at hr ((row_stops hp _).mpr ⟨c, d1, d2, h1, by omega⟩) ?_]
  · congr 1
    rw [decide_eq_decide]
    constructor
    · intro h
      obtain ⟨j, _, _, h3⟩ := mem_row.mp h
      exact List.mem_of_getElem? h3
    · intro h
      obtain ⟨j, hj⟩ := List.getElem?_of_mem h
      have e1 := cnt_lt (k := k) hp j k hj
      have e2 := List.getElem?_eq_getElem h1
      have e3 := cnt_lt (k := k) hp c _ e2
      have : ¬ c < j := fun z => by
        have := sorted_at hp e2 hj z
        omega
      have ej : j = c := by omega
      rw [ej] at hj
      exact mem_row.mpr ⟨c, d1, d2, hj⟩
  · intro j q hj hq
    rw [List.getElem?_drop] at hq
    have hgj : g + j < c / w := by omega
    have : (rowsV ms w)[g + j]? = some ((ms.drop ((g + j) * w)).take w) := rowAt (by omega)
    rw [this] at hq
    cases hq
    rw [row_stops hp]
    rintro ⟨j2, a1, a2, a3, a4⟩
    have : (g + j + 1) * w ≤ c / w * w := Nat.mul_le_mul_right w hgj
    rw [Nat.succ_mul] at this
    omega
theorem look_end (hp : ms.Pairwise (· < ·)) {c : Nat} (g : Nat) (hc : (ms.filter fun z => decide (z < k)).length = c) (h1 : ms.length ≤ c) :
    lookV k ((rowsV ms w).drop g) = (false, (((rowsV ms w).drop g).length : Int)) ∧ k ∉ ms := by
  refine ⟨lookV_none fun r hr => ?_, fun h => ?_⟩
  · have hr := List.mem_of_mem_drop hr
    unfold rowsV rowsN at hr
    obtain ⟨i, _, rfl⟩ := List.mem_map.mp hr
    rw [row_stops hp]
    rintro ⟨j, _, _, a3, a4⟩
    omega
  · obtain ⟨j, hj⟩ := List.getElem?_of_mem h
    have e1 := cnt_lt (k := k) hp j k hj
    have := (List.getElem?_eq_some_iff.mp hj).1
    omega
theorem look_all (hp : ms.Pairwise (· < ·)) (hw : 1 ≤ w) {c : Nat} (hc : (ms.filter fun z => decide (z < k)).length = c) :
    lookV k (rowsV ms w) = (decide (k ∈ ms), min (rfor ms.length w) (1 + (c : Int) / w)) := by
  obtain ⟨n1, n2, n3⟩ := all_rows (ms := ms) hw
  have e0 : rfor ms.length w = ((rfor ms.length w).toNat : Int) := by omega
  have e1 : (c : Int) / w = ((c / w : Nat) : Int) := (Int.natCast_ediv c w).symm
  rw [e1]
  by_cases h : c < ms.length
  · obtain ⟨a, b⟩ := look_in (g := 0) hp hw hc h (Nat.zero_le _)
    rw [List.drop_zero] at a
    rw [a]
    congr 1
    generalize c / w = d at b ⊢
    omega
  · obtain ⟨a, b⟩ := look_end (w := w) hp 0 hc (by omega)
    rw [List.drop_zero] at a
    rw [a, decide_eq_false b]
    congr 1
    unfold rowsV
    rw [rowsN_len]
    have : (rfor ms.length w).toNat ≤ 1 + c / w := by
      rcases n3 with z | z
      · generalize c / w = d; omega
      · have h2 : w * ((rfor ms.length w).toNat - 1) ≤ c := by omega
        have h3 : (rfor ms.length w).toNat - 1 ≤ c / w := (Nat.le_div_iff_mul_le (by omega)).mpr (by rw [Nat.mul_comm]; exact h2)
        generalize c / w = d at h3 ⊢
        omega
    generalize c / w = d at this ⊢
    omega
theorem look_left (hp : ms.Pairwise (· < ·)) (hw : 1 ≤ w) {c g : Nat} (hc : (ms.filter fun z => decide (z < k)).length = c) :
    (lookV k ((rowsV ms w).drop g)).1 = (decide (k ∈ ms) && decide ((g : Int) ≤ (c : Int) / w)) := by
  obtain ⟨n1, n2, n3⟩ := all_rows (ms := ms) hw
  have e1 : (c : Int) / w = ((c / w : Nat) : Int) := (Int.natCast_ediv c w).symm
  rw [e1]
  by_cases h : c < ms.length
  · by_cases hg : g ≤ c / w
    · obtain ⟨a, b⟩ := look_in (g := g) hp hw hc h hg
      rw [a, decide_eq_true (show ((g : Nat) : Int) ≤ ((c / w : Nat) : Int) by omega), Bool.and_true]
    · rw [decide_eq_false (show ¬ ((g : Nat) : Int) ≤ ((c / w : Nat) : Int) by omega), Bool.and_false]
      by_cases hN : g < (rfor ms.length w).toNat
      · have hr : ((rowsV ms w).drop g)[0]? = some ((ms.drop (g * w)).take w) := by
          rw [List.getElem?_drop]
          exact rowAt hN
        have cg : c < g * w := (Nat.div_lt_iff_lt_mul (by omega)).mp (by omega)
        have gl : g * w < ms.length := by
          rcases n3 with z | z
          · generalize c / w = d at hg; omega
          · have : g * w ≤ w * ((rfor ms.length w).toNat - 1) := by
              rw [Nat.mul_comm]; exact Nat.mul_le_mul_left w (by omega)
            omega
        rw [lookV_at hr ((row_stops hp _).mpr ⟨g * w, Nat.le_refl _, by omega, gl, by omega⟩) fun j q hj _ => absurd hj (by omega)]
        refine decide_eq_false fun hk => ?_
        obtain ⟨j, j1, j2, j3⟩ := mem_row.mp hk
        have e2 := List.getElem?_eq_getElem h
        have e3 := cnt_lt (k := k) hp c _ e2
        have := sorted_at hp e2 j3 (by omega)
        omega
      · have : (rowsV ms w).drop g = [] := List.drop_eq_nil_of_le (by unfold rowsV; rw [rowsN_len]; omega)
        rw [this]; rfl
  · obtain ⟨a, b⟩ := look_end (w := w) hp g hc (by omega)
    rw [a, decide_eq_false b, Bool.false_and]
end
/-- how many keys are less -/
def lessN (k : Int) (ns : List Int) : Nat := (ns.filter fun z => decide (z < k)).length
theorem rows_few {ms : List Int} {w : Nat} (hl : ms.length ≤ 125) (hw : 1 ≤ w) : (rowsV ms w).length ≤ 126 := by
  obtain ⟨n1, n2, n3⟩ := all_rows (ms := ms) hw
  unfold rowsV
  rw [rowsN_len]
  rcases n3 with z | z
  · omega
  · have : 1 * ((rfor ms.length w).toNat - 1) ≤ w * ((rfor ms.length w).toNat - 1) := Nat.mul_le_mul_right _ hw
    omega

/-! ### looks of all keys -/
def rowsL (ns : List Int) (w : Int) : List Int := ns.map fun m => rfor m w
theorem sorted_eq : ∀ {l l' : List Int}, l.Perm l' → l.Pairwise (· ≤ ·) → l'.Pairwise (· ≤ ·) → l = l'
  | [], l', h, _, _ => (List.nil_perm.mp h).symm
  | a :: l, [], h, _, _ => by simpa using h.length_eq
  | a :: l, b :: l', h, h1, h2 => by
    obtain ⟨p1, p2⟩ := List.pairwise_cons.mp h1
    obtain ⟨q1, q2⟩ := List.pairwise_cons.mp h2
    have e : a = b := by
      have m1 : a ∈ b :: l' := h.mem_iff.mp List.mem_cons_self
      have m2 : b ∈ a :: l := h.mem_iff.mpr List.mem_cons_self
      have a1 : b ≤ a := by
        rcases List.mem_cons.mp m1 with e | e
        · omega
        · exact q1 a e
      have a2 : a ≤ b := by
        rcases List.mem_cons.mp m2 with e | e
        · omega
        · exact p1 b e
      omega
    subst e
    rw [sorted_eq ((List.perm_cons a).mp h) p2 q2]
/-- rising: sorted, no two alike -/
theorem strict_of {ms : List Int} (h : ms.Pairwise (· ≤ ·)) (n : ms.Nodup) : ms.Pairwise (· < ·) := by
  have := h.and n
  exact this.imp fun ⟨a, b⟩ => by omega
def ownV (R : Nat) (ms : List Int) (r : Int) : List Int := ms.filter fun k => decide (roomV k R = r)
def lkV (R w : Nat) (ms : List Int) (k : Int) : Int := 1 + (((ownV R ms (roomV k R)).filter fun z => decide (z < k)).length : Int) / w
def toldV (R w : Nat) (ms : List Int) : List (Int × Int) := ms.map fun k => (k, lkV R w ms k)
theorem own_strict {R : Nat} {ms : List Int} {r : Int} (h : ms.Pairwise (· < ·)) : (ownV R ms r).Pairwise (· < ·) := h.filter _
theorem cnt_at {k : Int} {ms : List Int} (hp : ms.Pairwise (· < ·)) {i : Nat} (h : ms[i]? = some k) : (ms.filter fun z => decide (z < k)).length = i := by
  have e1 := cnt_lt (k := k) hp i k h
  have il := (List.getElem?_eq_some_iff.mp h).1
  generalize hc : (ms.filter fun z => decide (z < k)).length = c at e1
  by_cases d : c < i
  · have e2 := cnt_lt (k := k) hp c _ (List.getElem?_eq_getElem (show c < ms.length by omega))
    have := sorted_at hp (List.getElem?_eq_getElem (show c < ms.length by omega)) h d
    rw [hc] at e2
    omega
  · omega
theorem look_own {R w : Nat} {ms : List Int} {k : Int} (hp : ms.Pairwise (· < ·)) (hw : 1 ≤ w) (hk : k ∈ ms) : (lookV k (rowsV (ownV R ms (roomV k R)) w)).2 = lkV R w ms k ∧ lkV R w ms k ≤ rfor (ownV R ms (roomV k R)).length w := by
  have ho := own_strict (R := R) (r := roomV k R) hp
  have hm : k ∈ ownV R ms (roomV k R) := List.mem_filter.mpr ⟨hk, by simp⟩
  obtain ⟨i, hi⟩ := List.getElem?_of_mem hm
  have il := (List.getElem?_eq_some_iff.mp hi).1
  have hc := cnt_at ho hi
  obtain ⟨a, b⟩ := look_in (g := 0) ho hw hc il (Nat.zero_le _)
  rw [List.drop_zero] at a
  have e1 : (i : Int) / w = ((i / w : Nat) : Int) := (Int.natCast_ediv i w).symm
  unfold lkV
  rw [a, hc, e1]
  refine ⟨?_, ?_⟩
  · show ((i / w - 0 : Nat) : Int) + 1 = _
    rw [Nat.sub_zero]; omega
  · generalize i / w = d at b ⊢
    omega
theorem filter_take {k : Int} : ∀ {ms : List Int} {i : Nat}, ms.Pairwise (· < ·) → ms[i]? = some k → (ms.filter fun z => decide (z < k)) = ms.take i
  | [], _, _, h => by simp at h
  | a :: ms, 0, hp, h => by
    have e : a = k := by simpa using h
    obtain ⟨p1, _⟩ := List.pairwise_cons.mp hp
    rw [List.take_zero, List.filter_eq_nil_iff]
    intro x hx
    rcases List.mem_cons.mp hx with z | z
    · simp; omega
    · have := p1 x z; simp; omega
  | a :: ms, i + 1, hp, h => by
    have h' : ms[i]? = some k := by simpa using h
    obtain ⟨p1, p2⟩ := List.pairwise_cons.mp hp
    have := p1 k (List.mem_of_getElem? h')
    rw [List.filter_cons, if_pos (by simpa using this), filter_take p2 h', List.take_succ_cons]
/-- by the keys ahead of it -/
theorem lk_take {R w : Nat} {ms : List Int} {k : Int} {i : Nat} (hp : ms.Pairwise (· < ·)) (h : ms[i]? = some k) : lkV R w ms k = 1 + ((ownV R (ms.take i) (roomV k R)).length : Int) / w := by
  unfold lkV ownV
  rw [List.filter_filter, ← filter_take hp h, List.filter_filter]
  have e : (fun z => decide (z < k) && decide (roomV z R = roomV k R)) = fun z => decide (roomV z R = roomV k R) && decide (z < k) := by
    funext z
    rw [Bool.and_comm]
  rw [e]
theorem own_snoc {R : Nat} {ms : List Int} {k r : Int} : ownV R (ms ++ [k]) r = ownV R ms r ++ (if roomV k R = r then [k] else []) := by
  unfold ownV
  rw [List.filter_append]
  congr 1
  by_cases h : roomV k R = r
  · rw [if_pos h, List.filter_cons, if_pos (by simpa using h)]; rfl
  · rw [if_neg h, List.filter_cons, if_neg (by simpa using h)]; rfl
theorem own_len {R : Nat} {ms : List Int} {r : Int} : (ownV R ms r).length ≤ ms.length := List.length_filter_le _ _
/-- the looks of one room's keys -/
theorem own_looks {R w : Nat} {ms : List Int} {r : Int} (hp : ms.Pairwise (· < ·)) : (ownV R ms r).map (lkV R w ms) = (List.range (ownV R ms r).length).map fun (i : Nat) => 1 + (i : Int) / w := by
  refine List.ext_getElem? fun i => ?_
  rw [List.getElem?_map, List.getElem?_map]
  by_cases h : i < (ownV R ms r).length
  · rw [List.getElem?_eq_getElem h, List.getElem?_range h, Option.map_some, Option.map_some]
    have hk := List.getElem?_eq_getElem h
    have hm := List.mem_filter.mp (List.mem_of_getElem? hk)
    have er : roomV (ownV R ms r)[i] R = r := by simpa using hm.2
    unfold lkV
    rw [er, cnt_at (own_strict hp) hk]
  · rw [List.getElem?_eq_none (by omega), List.getElem?_eq_none (by rw [List.length_range]; omega)]; rfl
def sumTo (w : Nat) (n : Nat) : Int := ((List.range n).map fun (i : Nat) => 1 + (i : Int) / w).sum
theorem sumTo_succ {w n : Nat} : sumTo w (n + 1) = sumTo w n + (1 + (n : Int) / w) := by
  unfold sumTo
  rw [List.range_succ, List.map_append, List.sum_append]; simp
theorem sumTo_row {w j : Nat} (hw : 1 ≤ w) : ∀ {d : Nat}, d ≤ w → sumTo w (j * w + d) = sumTo w (j * w) + (1 + (j : Int)) * d
  | 0, _ => by simp
  | d + 1, h => by
    rw [← Nat.add_assoc, sumTo_succ, sumTo_row hw (d := d) (by omega)]
    have e : ((j * w + d : Nat) : Int) / w = (j : Int) := by
      rw [← Int.natCast_ediv, Nat.mul_comm, Nat.mul_add_div (by omega), Nat.div_eq_of_lt (by omega), Nat.add_zero]
    rw [e]
    push_cast
    rw [Int.mul_add, Int.mul_one]
    omega
/-- pairs of ints at these places -/
def P2 (H : Hp) : List Addr → List (Int × Int) → Prop
  | [], [] => True
  | a :: as, x :: xs => H a = some (.tup [.int x.1, .int x.2]) ∧ P2 H as xs
  | _, _ => False
theorem P2.same {H H' : Hp} (s : Same H H') : ∀ {as : List Addr} {xs : List (Int × Int)}, P2 H as xs → P2 H' as xs
  | [], [], _ => trivial
  | _ :: _, _ :: _, ⟨h, t⟩ => ⟨s _ _ h, P2.same s t⟩
theorem P2.but {H : Hp} {l : Addr} {o u : HO} (hl : H l = some u) (hu : ∀ ys, u ≠ .tup ys) : ∀ {as : List Addr} {xs : List (Int × Int)}, P2 H as xs → P2 (L2.upd H l o) as xs
  | [], [], _ => trivial
  | _ :: _, _ :: _, ⟨h, t⟩ => ⟨by rw [upd_ne (ne_of h hl fun z => hu _ z.symm)]; exact h, P2.but hl hu t⟩
theorem P2.len {H : Hp} : ∀ {as : List Addr} {xs : List (Int × Int)}, P2 H as xs → as.length = xs.length
  | [], [], _ => rfl
  | _ :: _, _ :: _, ⟨_, t⟩ => congrArg (· + 1) (P2.len t)
theorem P2.snoc {H : Hp} {b : Addr} {y : Int × Int} (hb : H b = some (.tup [.int y.1, .int y.2])) : ∀ {as : List Addr} {xs : List (Int × Int)}, P2 H as xs → P2 H (as ++ [b]) (xs ++ [y])
  | [], [], _ => ⟨hb, trivial⟩
  | _ :: _, _ :: _, ⟨h, t⟩ => ⟨h, P2.snoc hb t⟩
theorem P2.get {H : Hp} : ∀ {as : List Addr} {xs : List (Int × Int)} {i : Nat} {a : Addr}, P2 H as xs → as[i]? = some a → ∃ x, xs[i]? = some x ∧ H a = some (.tup [.int x.1, .int x.2])
  | [], [], _, _, _, e => by cases e
  | _ :: _, x :: _, 0, _, ⟨h, _⟩, e => by cases e; exact ⟨x, rfl, h⟩
  | _ :: _, _ :: _, i + 1, _, ⟨_, t⟩, e => P2.get (i := i) t e
def p2D (x : Int × Int) : PyData := .tuple [.int x.1, .int x.2]
theorem P2.dv {K : PySem.W.Frag} {H : Hp} : ∀ {as : List Addr} {xs : List (Int × Int)}, P2 H as xs → DVs K H (as.map V.ref) (xs.map p2D)
  | [], [], _ => .nil
  | _ :: _, x :: _, ⟨h, t⟩ => .cons (.tup (SqT.of h) (.cons (.int _) (.cons (.int _) .nil))) (P2.dv t)
theorem lay_p2 : ∀ ns : List (Int × Int), PyData.canLayAll0 (ns.map p2D) = true ∧ PyData.depthAll (ns.map p2D) ≤ 1
  | [] => ⟨rfl, by simp [PyData.depthAll]⟩
  | n :: r => by
    obtain ⟨h1, h2⟩ := lay_p2 r
    simp [p2D, PyData.canLayAll0, PyData.canLay0, PyData.depthAll, PyData.depth] at h1 h2 ⊢
    exact ⟨h1, Nat.max_le.mpr ⟨Nat.le_refl _, h2⟩⟩
theorem shaped_p2 (ns : List (Int × Int)) : SeqAt.shaped (.list (ns.map p2D)) = true := by
  obtain ⟨h1, h2⟩ := lay_p2 ns
  simp [SeqAt.shaped, PyData.canLay0, PyData.depth, h1]
  omega
theorem eqv_p2 (ns : List (Int × Int)) : PyData.eqv (.list (ns.map p2D)) (.list (ns.map p2D)) = true := by
  rw [PyData.eqv]
  induction ns with
  | nil => simp [PyData.eqvAll]
  | cons a r ih => simp [PyData.eqvAll, p2D, PyData.eqv] at ih ⊢; exact ih
/-- a list of such tuples -/
def TL (H : Hp) (l : Addr) (xs : List (Int × Int)) : Prop := ∃ as : List Addr, H l = some (.lst (as.map V.ref)) ∧ P2 H as xs
theorem TL.same {H H' : Hp} {l : Addr} {xs : List (Int × Int)} (s : Same H H') (h : TL H l xs) : TL H' l xs := by
  obtain ⟨as, h1, h2⟩ := h
  exact ⟨as, s _ _ h1, h2.same s⟩
theorem TL.dv {K : PySem.W.Frag} {H : Hp} {l : Addr} {xs : List (Int × Int)} (h : TL H l xs) : DV K H (.ref l) (.list (xs.map p2D)) := by
  obtain ⟨as, h1, h2⟩ := h
  exact .lst (SqL.of h1) h2.dv
theorem room_nat {k : Int} {R : Nat} (h : 1 ≤ R) : ∃ j : Nat, roomV k R = (j : Int) ∧ j < R := by
  have rb := roomV_lt (k := k) (R := R) (by omega)
  exact ⟨(roomV k R).toNat, by omega, by omega⟩
/-- rows of each room, none of it at D -/
def RLn (D : Addr) (H : Hp) (a : Addr) (rs : List (List Int)) : Prop := a ≠ D ∧ ∃ as : List Addr, H a = some (.lst (as.map V.ref)) ∧ Ls H as rs ∧ ∀ b ∈ as, b ≠ D
theorem RLn.rl {D : Addr} {H : Hp} {a : Addr} {rs : List (List Int)} (h : RLn D H a rs) : RL H a rs := by
  obtain ⟨_, as, h1, h2, _⟩ := h
  exact ⟨as, h1, h2⟩
theorem RLn.same {D : Addr} {H H' : Hp} {a : Addr} {rs : List (List Int)} (s : Same H H') (h : RLn D H a rs) : RLn D H' a rs := by
  obtain ⟨n, as, h1, h2, h3⟩ := h
  exact ⟨n, as, s _ _ h1, h2.same fun b _ o => s b o, h3⟩
theorem RLn.put {D : Addr} {H : Hp} {a : Addr} {rs : List (List Int)} {o : HO} (h : RLn D H a rs) : RLn D (L2.upd H D o) a rs := by
  obtain ⟨n, as, h1, h2, h3⟩ := h
  exact ⟨n, as, by rw [upd_ne n]; exact h1, h2.same fun b hb o' e => by rw [upd_ne (h3 b hb)]; exact e, h3⟩
def RR (D : Addr) (H : Hp) : List Addr → List (List (List Int)) → Prop
  | [], [] => True
  | a :: as, x :: xs => RLn D H a x ∧ RR D H as xs
  | _, _ => False
theorem RR.same {D : Addr} {H H' : Hp} (s : Same H H') : ∀ {as : List Addr} {xs : List (List (List Int))}, RR D H as xs → RR D H' as xs
  | [], [], _ => trivial
  | _ :: _, _ :: _, ⟨h, t⟩ => ⟨h.same s, RR.same s t⟩
theorem RR.put {D : Addr} {H : Hp} {o : HO} : ∀ {as : List Addr} {xs : List (List (List Int))}, RR D H as xs → RR D (L2.upd H D o) as xs
  | [], [], _ => trivial
  | _ :: _, _ :: _, ⟨h, t⟩ => ⟨h.put, RR.put t⟩
theorem RR.len {D : Addr} {H : Hp} : ∀ {as : List Addr} {xs : List (List (List Int))}, RR D H as xs → as.length = xs.length
  | [], [], _ => rfl
  | _ :: _, _ :: _, ⟨_, t⟩ => congrArg (· + 1) (RR.len t)
theorem RR.snoc {D : Addr} {H : Hp} {b : Addr} {y : List (List Int)} (hb : RLn D H b y) : ∀ {as : List Addr} {xs : List (List (List Int))}, RR D H as xs → RR D H (as ++ [b]) (xs ++ [y])
  | [], [], _ => ⟨hb, trivial⟩
  | _ :: _, _ :: _, ⟨h, t⟩ => ⟨h, RR.snoc hb t⟩
theorem RR.at' {D : Addr} {H : Hp} : ∀ {as : List Addr} {xs : List (List (List Int))} {i : Nat} {x : List (List Int)}, RR D H as xs → xs[i]? = some x → ∃ a, as[i]? = some a ∧ RL H a x
  | [], [], _, _, _, e => by cases e
  | a :: _, _ :: _, 0, _, ⟨h, _⟩, e => by cases e; exact ⟨a, rfl, h.rl⟩
  | _ :: _, _ :: _, i + 1, _, ⟨_, t⟩, e => RR.at' (i := i) t e
def sp_all_looks (K : PySem.W.Frag) : Sp := fun vs H Q _ => ∃ (a : Addr) (ns : List Int) (R w : Nat), vs = [.ref a, .int R, .int w] ∧ H a = some (.lst (ns.map V.int)) ∧ ns.Nodup ∧ ns.length ≤ 125 ∧ 1 ≤ R ∧ R ≤ 200 ∧ 1 ≤ w ∧ w ≤ 8 ∧
  ∀ ms l H', ms.Perm ns → ms.Pairwise (· < ·) → H l = none → TL H' l (toldV R w ms) → Same H H' → Q (.ref l) H'
def sp__law_due (K : PySem.W.Frag) : Sp := fun vs H Q _ => ∃ (a : Addr) (ns : List Int) (R w : Nat), vs = [.ref a, .int R, .int w] ∧ H a = some (.lst (ns.map V.int)) ∧ ns.Nodup ∧ ns.length ≤ 125 ∧ 1 ≤ R ∧ R ≤ 200 ∧ 1 ≤ w ∧ w ≤ 8 ∧
  ∀ ms l H', ms.Perm ns → ms.Pairwise (· < ·) → TL H' l (toldV R w ms) → Same H H' → Q (.ref l) H'
theorem valV_mem {kvs : List (Key × V)} {k : Key} {x : V} (h : valV kvs k = some x) : (k, x) ∈ kvs := by
  unfold valV at h
  cases e : kvs.find? (fun kv => decide (kv.1 = k)) with
  | none => rw [e] at h; cases h
  | some p =>
    rw [e] at h
    have h1 := List.mem_of_find?_eq_some e
    have h2 : p.1 = k := by simpa using List.find?_some e
    have h3 : p.2 = x := by simpa using h
    rw [← h2, ← h3]; exact h1
theorem putK_mem {kvs : List (Key × V)} {k : Key} {v : V} {p : Key × V} (h : p ∈ putK kvs k v) : p = (k, v) ∨ (p ∈ kvs ∧ p.1 ≠ k) := by
  unfold putK at h
  split at h
  · obtain ⟨q, hq, e⟩ := List.mem_map.mp h
    split at e
    · rename_i hk
      exact .inl (by rw [← e, hk])
    · rename_i hk
      exact .inr (by rw [← e]; exact ⟨hq, hk⟩)
  · rename_i hn
    rcases List.mem_append.mp h with z | z
    · refine .inr ⟨z, fun e => hn ?_⟩
      exact List.any_eq_true.mpr ⟨p, z, by simpa using e⟩
    · exact .inl (by simpa using z)
def sp__law_sums (K : PySem.W.Frag) : Sp := fun vs H Q _ => ∃ (l : Addr) (ms : List Int) (R w : Nat), vs = [.ref l, .int R, .int w] ∧ TL H l (toldV R w ms) ∧ ms.Pairwise (· < ·) ∧ ms.length ≤ 125 ∧ 1 ≤ R ∧ R ≤ 200 ∧ 1 ≤ w ∧ w ≤ 8 ∧
  ∀ H', Same H H' → Q (.bl true) H'
def sp__law_room (K : PySem.W.Frag) : Sp := fun vs H Q _ => ∃ (k R : Int), vs = [.int k, .int R] ∧ 1 ≤ R ∧ R ≤ 2 ^ 60 ∧ Q (.int (roomV k R)) H
def sp_longest (K : PySem.W.Frag) : Sp := fun vs H Q _ => ∃ (a : Addr) (ns : List Int) (w : Int), vs = [.ref a, .int w] ∧ SqL K H a (ns.map V.int) ∧ ns ≠ [] ∧ ns.length ≤ 130 ∧ 1 ≤ w ∧ w ≤ 8 ∧
  ∀ M t H', M ∈ rowsL ns w → (∀ z, z ∈ rowsL ns w → z ≤ M) → H t = none → Same H H' → H' t = some (.tup [.int M, .int ((rowsL ns w).idxOf M : Nat)]) → Q (.ref t) H'
theorem most_looks {R w : Nat} {ms : List Int} {M : Int} (hp : ms.Pairwise (· < ·)) (hw : 1 ≤ w) (hR : 1 ≤ R) (hM : M ∈ rowsL ((spreadV ms R).map fun r => (r.length : Int)) w) (hub : ∀ z, z ∈ rowsL ((spreadV ms R).map fun r => (r.length : Int)) w → z ≤ M) : (∀ k ∈ ms, lkV R w ms k ≤ M) ∧ (ms ≠ [] → ∃ k ∈ ms, lkV R w ms k = M) := by
  have mem : ∀ j < R, rfor (ownV R ms (j : Int)).length w ∈ rowsL ((spreadV ms R).map fun r => (r.length : Int)) w := fun j hj => by
    unfold rowsL
    exact List.mem_map.mpr ⟨_, List.mem_map.mpr ⟨_, List.mem_of_getElem? (spreadV_at hj), rfl⟩, rfl⟩
  have a : ∀ k ∈ ms, lkV R w ms k ≤ M := fun k hk => by
    obtain ⟨j, hj, jR⟩ := room_nat (k := k) (R := R) hR
    have h1 := (look_own (R := R) hp hw hk).2
    rw [hj] at h1
    have h2 := hub _ (mem j jR)
    omega
  refine ⟨a, fun hne => ?_⟩
  unfold rowsL at hM
  obtain ⟨n, hn, eM⟩ := List.mem_map.mp hM
  obtain ⟨q, hq, eq⟩ := List.mem_map.mp hn
  unfold spreadV at hq
  obtain ⟨j, hj, eo⟩ := List.mem_map.mp hq
  have eo' : ownV R ms (j : Int) = q := eo
  unfold rfor at eM
  have hw' : (1 : Int) ≤ w := by omega
  by_cases z : q.length = 0
  · obtain ⟨k, hk⟩ := List.exists_mem_of_ne_nil ms hne
    refine ⟨k, hk, ?_⟩
    have h1 := a k hk
    have h2 : 1 ≤ lkV R w ms k := by
      unfold lkV
      have := Int.ediv_nonneg (a := (((ownV R ms (roomV k R)).filter fun z => decide (z < k)).length : Int)) (b := w) (by omega) (by omega)
      omega
    have h3 : (n + w - 1) / (w : Int) = 0 := Int.ediv_eq_zero_of_lt (by omega) (by omega)
    omega
  · have il : q.length - 1 < q.length := by omega
    have hi := List.getElem?_eq_getElem il
    generalize q[q.length - 1] = k at hi
    rw [← eo'] at hi
    have hm := List.mem_filter.mp (List.mem_of_getElem? hi)
    have er : roomV k R = (j : Int) := by simpa using hm.2
    refine ⟨k, hm.1, ?_⟩
    unfold lkV
    rw [er, cnt_at (own_strict hp) hi]
    have h3 : (n + w - 1) / (w : Int) = (n - 1) / w + 1 := by
      rw [show n + w - 1 = (n - 1) + 1 * (w : Int) by omega, Int.add_mul_ediv_right _ _ (by omega)]
    have h4 : ((ownV R ms (j : Int)).length - 1 : Nat) = n - 1 := by rw [eo', ← eq]; omega
    rw [h4]
    have := Int.ediv_nonneg (a := n - 1) (b := w) (by omega) (by omega)
    omega
def sp__law_right (K : PySem.W.Frag) : Sp := fun vs H Q _ => ∃ (a : Addr) (ns : List Int) (R w : Nat), vs = [.ref a, .int R, .int w] ∧ H a = some (.lst (ns.map V.int)) ∧ ns.Nodup ∧ ns.length ≤ 125 ∧ 1 ≤ R ∧ R ≤ 130 ∧ 1 ≤ w ∧ w ≤ 8 ∧
  ∀ H', Same H H' → Q (.bl true) H'
theorem cut_last {xs : List V} {x : V} : cutV (xs ++ [x]) none (some (-1)) = xs := by
  have e : HT.sIx (xs ++ [x]).length (xs ++ [x]).length (some (-1)) = xs.length := by
    unfold HT.sIx
    rw [List.length_append, List.length_singleton]
    show (if (-1 : Int) < 0 then ((-1 : Int) + ((xs.length + 1 : Nat) : Int)).toNat else _) = _
    rw [if_pos (by decide)]
    omega
  unfold cutV
  rw [e, HT.sIx_none, List.drop_zero, Nat.sub_zero, List.take_left' rfl]
theorem cut_hiI {us : List Int} {k : Nat} : cutV (us.map V.int) none (some (k : Int)) = (us.take k).map V.int := by
  unfold cutV
  rw [HT.sIx_nat, HT.sIx_none, List.drop_zero, Nat.sub_zero, List.map_take, List.length_map]
  by_cases h : k ≤ us.length
  · rw [Nat.min_eq_left h]
  · rw [Nat.min_eq_right (by omega), List.take_of_length_le (by rw [List.length_map]; omega), List.take_of_length_le (by rw [List.length_map]; omega)]
/-! ### lists changed and asked again -/
/-- data that no list is in -/
inductive AtD (H : Hp) : V → PyData → Prop
  | int (n : Int) : AtD H (.int n) (.int n)
  | tII {t : Addr} {a b : Int} : H t = some (.tup [.int a, .int b]) → AtD H (.ref t) (.tuple [.int a, .int b])
  | tBI {t : Addr} {b : Bool} {a : Int} : H t = some (.tup [.bl b, .int a]) → AtD H (.ref t) (.tuple [.bool b, .int a])
theorem AtD.keep {H H' : Hp} {v : V} {d : PyData} (k : ∀ t xs, H t = some (.tup xs) → H' t = some (.tup xs)) (h : AtD H v d) : AtD H' v d := by
  cases h with
  | int n => exact .int n
  | tII h => exact .tII (k _ _ h)
  | tBI h => exact .tBI (k _ _ h)
theorem AtD.dv {K : PySem.W.Frag} {H : Hp} {v : V} {d : PyData} (h : AtD H v d) : DV K H v d := by
  cases h with
  | int n => exact .int n
  | tII h => exact .tup (SqT.of h) (.cons (.int _) (.cons (.int _) .nil))
  | tBI h => exact .tup (SqT.of h) (.cons (.bl _) (.cons (.int _) .nil))
def AtDs (H : Hp) : List V → List PyData → Prop
  | [], [] => True
  | v :: vs, d :: ds => AtD H v d ∧ AtDs H vs ds
  | _, _ => False
theorem AtDs.keep {H H' : Hp} (k : ∀ t xs, H t = some (.tup xs) → H' t = some (.tup xs)) : ∀ {vs : List V} {ds : List PyData}, AtDs H vs ds → AtDs H' vs ds
  | [], [], _ => trivial
  | _ :: _, _ :: _, ⟨h, t⟩ => ⟨h.keep k, AtDs.keep k t⟩
theorem AtDs.dv {K : PySem.W.Frag} {H : Hp} : ∀ {vs : List V} {ds : List PyData}, AtDs H vs ds → DVs K H vs ds
  | [], [], _ => .nil
  | _ :: _, _ :: _, ⟨h, t⟩ => .cons h.dv (AtDs.dv t)
theorem AtDs.get {H : Hp} : ∀ {vs : List V} {ds : List PyData} {i : Nat} {v : V}, AtDs H vs ds → vs[i]? = some v → ∃ d, AtD H v d
  | [], [], _, _, _, e => by cases e
  | _ :: _, d :: _, 0, _, ⟨h, _⟩, e => by cases e; exact ⟨d, h⟩
  | _ :: _, _ :: _, i + 1, _, ⟨_, t⟩, e => AtDs.get (i := i) t e
theorem AtDs.ints {H : Hp} : ∀ {ns : List Int}, AtDs H (ns.map V.int) (ns.map PyData.int)
  | [] => trivial
  | n :: _ => ⟨.int n, AtDs.ints⟩
theorem AtDs.p2 {H : Hp} : ∀ {as : List Addr} {xs : List (Int × Int)}, P2 H as xs → AtDs H (as.map V.ref) (xs.map p2D)
  | [], [], _ => trivial
  | _ :: _, _ :: _, ⟨h, t⟩ => ⟨.tII h, AtDs.p2 t⟩
theorem AtDs.snoc {H : Hp} {v : V} {d : PyData} (h : AtD H v d) : ∀ {vs : List V} {ds : List PyData}, AtDs H vs ds → AtDs H (vs ++ [v]) (ds ++ [d])
  | [], [], _ => ⟨h, trivial⟩
  | _ :: _, _ :: _, ⟨a, t⟩ => ⟨a, AtDs.snoc h t⟩
theorem AtD.lay {H : Hp} {v : V} {d : PyData} (h : AtD H v d) : PyData.canLay0 d = true ∧ PyData.depth d ≤ 1 ∧ PyData.eqv d d = true := by
  cases h <;> simp [PyData.canLay0, PyData.canLayAll0, PyData.depth, PyData.depthAll, PyData.eqv, PyData.eqvAll]
theorem AtDs.lay {H : Hp} : ∀ {vs : List V} {ds : List PyData}, AtDs H vs ds → PyData.canLayAll0 ds = true ∧ PyData.depthAll ds ≤ 1 ∧ PyData.eqvAll ds ds = true
  | [], [], _ => by simp [PyData.canLayAll0, PyData.depthAll, PyData.eqvAll]
  | _ :: _, _ :: _, ⟨h, t⟩ => by
    obtain ⟨a1, a2, a3⟩ := h.lay
    obtain ⟨b1, b2, b3⟩ := AtDs.lay t
    rw [PyData.canLayAll0, PyData.depthAll, PyData.eqvAll, a1, b1, a3, b3]
    exact ⟨rfl, Nat.max_le.mpr ⟨a2, b2⟩, rfl⟩
/-- what was told: its lists lie at places of S -/
inductive TS (S : Addr → Prop) (H : Hp) : V → PyData → Prop
  | at {t : Addr} {d : PyData} : AtD H (.ref t) d → TS S H (.ref t) d
  | la {l : Addr} {xs : List V} {ds : List PyData} : S l → H l = some (.lst xs) → xs.length ≤ 130 → AtDs H xs ds → TS S H (.ref l) (.list ds)
  | ll {l : Addr} {as : List Addr} {rs : List (List Int)} : S l → H l = some (.lst (as.map V.ref)) → as.length ≤ 130 → Ls H as rs → (∀ b ∈ as, S b ∧ b ≠ l) → (∀ r ∈ rs, r.length ≤ 130) → TS S H (.ref l) (.list (rs.map dR))
theorem TS.keep {S : Addr → Prop} {H H' : Hp} {v : V} {d : PyData} (kt : ∀ t xs, H t = some (.tup xs) → H' t = some (.tup xs)) (kl : ∀ t o, S t → H t = some o → H' t = some o) (h : TS S H v d) : TS S H' v d := by
  cases h with
  | «at» h => exact .at (h.keep kt)
  | la s h l a => exact .la s (kl _ _ s h) l (a.keep kt)
  | ll s h l a b c => exact .ll s (kl _ _ s h) l (a.same fun t ht o e => kl t o (b t ht).1 e) b c
theorem TS.same {S : Addr → Prop} {H H' : Hp} {v : V} {d : PyData} (s : Same H H') (h : TS S H v d) : TS S H' v d := h.keep (fun _ _ e => s _ _ e) fun _ _ _ e => s _ _ e
theorem TS.weak {S S' : Addr → Prop} {H : Hp} {v : V} {d : PyData} (w : ∀ b, S b → S' b) (h : TS S H v d) : TS S' H v d := by
  cases h with
  | «at» h => exact .at h
  | la s h l a => exact .la (w _ s) h l a
  | ll s h l a b c => exact .ll (w _ s) h l a (fun t ht => ⟨w _ (b t ht).1, (b t ht).2⟩) c
theorem TS.dv {K : PySem.W.Frag} {S : Addr → Prop} {H : Hp} {v : V} {d : PyData} (h : TS S H v d) : DV K H v d := by
  cases h with
  | «at» h => exact h.dv
  | la s h l a => exact .lst (SqL.of h) a.dv
  | ll s h l a b c => exact (show RL H _ _ from ⟨_, h, a⟩).dv
theorem TS.eqv {S : Addr → Prop} {H : Hp} {v : V} {d : PyData} (h : TS S H v d) : SeqAt.shaped d = true ∧ PyData.eqv d d = true := by
  cases h with
  | «at» h =>
    cases h <;> exact ⟨by simp [SeqAt.shaped, PyData.canLay0, PyData.canLayAll0, PyData.depth, PyData.depthAll], by simp [PyData.eqv, PyData.eqvAll]⟩
  | la s h l a =>
    obtain ⟨a1, a2, a3⟩ := a.lay
    refine ⟨?_, by rw [PyData.eqv]; exact a3⟩
    simp [SeqAt.shaped, PyData.canLay0, PyData.depth, a1]
    omega
  | ll s h l a b c => exact ⟨shaped_R _, eq_R _⟩
def lkD (k : Int) (rs : List (List Int)) : PyData := .tuple [.bool (lookV k rs).1, .int (lookV k rs).2]
def IsAsk (way : Nat) (ns : List Int) (R w : Nat) (d : PyData) : Prop := ∃ ms : List Int, ms.Perm ns ∧ ms.Pairwise (· ≤ ·) ∧
  ((way = 0 ∧ d = .list ((spreadV ms R).map dR)) ∨ (way = 1 ∧ d = .list (((spreadV ms R).map fun r => (r.length : Int)).map PyData.int)) ∨ (way = 2 ∧ d = .list ((rowsV ms w).map dR)) ∨ (way = 3 ∧ d = .list ((toldV R w ms).map p2D)) ∨
   (way = 4 ∧ ∃ M, M ∈ rowsL ((spreadV ms R).map fun r => (r.length : Int)) w ∧ (∀ z, z ∈ rowsL ((spreadV ms R).map fun r => (r.length : Int)) w → z ≤ M) ∧ d = .tuple [.int M, .int ((rowsL ((spreadV ms R).map fun r => (r.length : Int)) w).idxOf M : Nat)]) ∨
   (way = 5 ∧ d = .list ((ns.take 9).map fun k => lkD k (rowsV ms w))))
theorem IsAsk.one {way : Nat} {ns : List Int} {R w : Nat} {d d' : PyData} (h : IsAsk way ns R w d) (h' : IsAsk way ns R w d') : d = d' := by
  obtain ⟨ms, p, q, z⟩ := h
  obtain ⟨ms', p', q', z'⟩ := h'
  have e : ms = ms' := sorted_eq (p.trans p'.symm) q q'
  subst e
  rcases z with ⟨a, b⟩ | ⟨a, b⟩ | ⟨a, b⟩ | ⟨a, b⟩ | ⟨a, M, m1, m2, b⟩ | ⟨a, b⟩ <;> subst a <;> rcases z' with ⟨a', b'⟩ | ⟨a', b'⟩ | ⟨a', b'⟩ | ⟨a', b'⟩ | ⟨a', M', m1', m2', b'⟩ | ⟨a', b'⟩ <;> first | (exact absurd a' (by decide)) | (rw [b, b']) | skip
  have e : M = M' := by
    have h1 := m2 _ m1'
    have h2 := m2' _ m1
    omega
  rw [e]
def sp__law_asked (K : PySem.W.Frag) : Sp := fun vs H Q _ => ∃ (way : Nat) (a : Addr) (ns : List Int) (R w : Nat), vs = [.int way, .ref a, .int R, .int w] ∧ H a = some (.lst (ns.map V.int)) ∧ ns.Nodup ∧ ns.length ≤ 70 ∧ 1 ≤ R ∧ R ≤ 130 ∧ 1 ≤ w ∧ w ≤ 8 ∧ way ≤ 5 ∧
  ∀ d v H', IsAsk way ns R w d → TS (fun b => H b = none) H' v d → Same H H' → Q v H'
def spr__law_copy (K : PySem.W.Frag) : Nat → Sp
  | 0 => fun _ _ _ _ => False
  | j + 1 => fun vs H Q _ => ∃ (v : V) (d : PyData), vs = [v] ∧ ((AtD H v d ∧ Q v H) ∨ (∃ (l : Addr) (xs : List V), 1 ≤ j ∧ v = .ref l ∧ H l = some (.lst xs) ∧ xs.length ≤ 130 ∧ (∀ x ∈ xs, ∃ d, AtD H x d) ∧ ∀ l' H', H l' = none → H' l' = some (.lst xs) → Same H H' → Q (.ref l') H') ∨
    (∃ (l : Addr) (as : List Addr) (rs : List (List Int)), 2 ≤ j ∧ v = .ref l ∧ H l = some (.lst (as.map V.ref)) ∧ as.length ≤ 130 ∧ Ls H as rs ∧ (∀ r ∈ rs, r.length ≤ 130) ∧ ∀ l' H', H l' = none → LL H H' l' rs → Same H H' → Q (.ref l') H'))
def sp__law_copy (K : PySem.W.Frag) : Sp := spr__law_copy K 3
def spr__law_spoil (K : PySem.W.Frag) : Nat → Sp
  | 0 => fun _ _ _ _ => False
  | j + 1 => fun vs H Q _ => ∃ (v : V), vs = [v] ∧ ((∃ d, AtD H v d ∧ Q .non H) ∨ (∃ (l : Addr) (xs : List V), 1 ≤ j ∧ v = .ref l ∧ H l = some (.lst xs) ∧ xs.length ≤ 500 ∧ (∀ x ∈ xs, ∃ d, AtD H x d) ∧ ∀ H', H' l = some (.lst (xs ++ [.int 5])) → (∀ b o, b ≠ l → H b = some o → H' b = some o) → Q .non H') ∨
    (∃ (l : Addr) (as : List Addr), 2 ≤ j ∧ v = .ref l ∧ H l = some (.lst (as.map V.ref)) ∧ as.length ≤ 130 ∧ (∀ b ∈ as, b ≠ l ∧ ∃ xs : List Int, xs.length ≤ 130 ∧ H b = some (.lst (xs.map V.int))) ∧ ∀ H', (∀ b o, b ≠ l → b ∉ as → H b = some o → H' b = some o) → Q .non H'))
def sp__law_spoil (K : PySem.W.Frag) : Sp := spr__law_spoil K 3
theorem sorted_ex (ns : List Int) : ∃ ms : List Int, ms.Perm ns ∧ ms.Pairwise (· ≤ ·) :=
  ⟨ns.mergeSort (fun a b => decide (a ≤ b)), List.mergeSort_perm _ _, (List.pairwise_mergeSort (by intro a b c; simp; omega) (by intro a b; simp; omega) ns).imp fun h => by simpa using h⟩
theorem spread_row {ms : List Int} {R : Nat} {r : List Int} (h : r ∈ spreadV ms R) : r.length ≤ ms.length := by
  unfold spreadV at h
  obtain ⟨j, _, rfl⟩ := List.mem_map.mp h
  exact List.length_filter_le _ _
theorem rows_row {ms : List Int} {w : Nat} {r : List Int} (h : r ∈ rowsV ms w) : r.length ≤ ms.length := by
  unfold rowsV rowsN at h
  obtain ⟨j, _, rfl⟩ := List.mem_map.mp h
  have h1 := List.length_take_le w (ms.drop (j * w))
  have h2 : (ms.drop (j * w)).length ≤ ms.length := by rw [List.length_drop]; omega
  have h3 := List.length_take_le' w (ms.drop (j * w))
  omega
theorem LL.parts {H0 H : Hp} {l : Addr} {rs : List (List Int)} (h : LL H0 H l rs) : ∃ as : List Addr, H l = some (.lst (as.map V.ref)) ∧ Ls H as rs ∧ ∀ a ∈ as, H0 a = none ∧ a ≠ l := h
theorem copy_of {K : PySem.W.Frag} {S : Addr → Prop} {H : Hp} {v : V} {d : PyData} {Q : VK} {E : XK} (h : TS S H v d) (q : ∀ v' H', TS (fun b => H b = none) H' v' d → Same H H' → Q v' H') : sp__law_copy K [v] H Q E := by
  cases h with
  | «at» h => exact ⟨_, _, rfl, .inl ⟨h, q _ _ (.at h) (Same.refl H)⟩⟩
  | la s h l a =>
    refine ⟨_, .none, rfl, .inr (.inl ⟨_, _, by decide, rfl, h, l, fun x hx => ?_, fun l' H' nl' hl' s' => q _ _ (.la nl' hl' l (a.keep fun _ _ e => s' _ _ e)) s'⟩)⟩
    obtain ⟨i, hi⟩ := List.getElem?_of_mem hx
    exact a.get hi
  | ll s h l a b c =>
    refine ⟨_, .none, rfl, .inr (.inr ⟨_, _, _, by decide, rfl, h, l, a, c, fun l' H' nl' hL s' => ?_⟩)⟩
    obtain ⟨bs, h1, h2, h3⟩ := hL.parts
    exact q _ _ (.ll nl' h1 (by rw [h2.len, ← a.len]; exact l) h2 h3 c) s'
theorem spoil_of {K : PySem.W.Frag} {S : Addr → Prop} {H : Hp} {v : V} {d : PyData} {Q : VK} {E : XK} (h : TS S H v d) (q : ∀ H', (∀ b o, ¬ S b → H b = some o → H' b = some o) → Q .non H') : sp__law_spoil K [v] H Q E := by
  cases h with
  | «at» h => exact ⟨_, rfl, .inl ⟨_, h, q _ fun _ _ _ e => e⟩⟩
  | la s h l a =>
    refine ⟨_, rfl, .inr (.inl ⟨_, _, by decide, rfl, h, by omega, fun x hx => ?_, fun H' _ k => q _ fun b o n e => k b o (fun z => n (z ▸ s)) e⟩)⟩
    obtain ⟨i, hi⟩ := List.getElem?_of_mem hx
    exact a.get hi
  | ll s h l a b c =>
    refine ⟨_, rfl, .inr (.inr ⟨_, _, by decide, rfl, h, l, fun t ht => ⟨(b t ht).2, ?_⟩, fun H' k => q _ fun t o n e => k t o (fun z => n (z ▸ s)) (fun z => n (b t z).1) e⟩)⟩
    obtain ⟨r, hr, e⟩ := a.mem ht
    exact ⟨r, c r hr, e⟩
/-- pair by pair -/
def Ps {α : Type} (p : Addr → α → Prop) : List Addr → List α → Prop
  | [], [] => True
  | a :: as, x :: xs => p a x ∧ Ps p as xs
  | _, _ => False
theorem Ps.imp {α : Type} {p p' : Addr → α → Prop} (f : ∀ a x, p a x → p' a x) : ∀ {as : List Addr} {xs : List α}, Ps p as xs → Ps p' as xs
  | [], [], _ => trivial
  | _ :: _, _ :: _, ⟨h, t⟩ => ⟨f _ _ h, Ps.imp f t⟩
theorem Ps.snoc {α : Type} {p : Addr → α → Prop} {b : Addr} {y : α} (hb : p b y) : ∀ {as : List Addr} {xs : List α}, Ps p as xs → Ps p (as ++ [b]) (xs ++ [y])
  | [], [], _ => ⟨hb, trivial⟩
  | _ :: _, _ :: _, ⟨h, t⟩ => ⟨h, Ps.snoc hb t⟩
theorem Ps.len {α : Type} {p : Addr → α → Prop} : ∀ {as : List Addr} {xs : List α}, Ps p as xs → as.length = xs.length
  | [], [], _ => rfl
  | _ :: _, _ :: _, ⟨_, t⟩ => congrArg (· + 1) (Ps.len t)
theorem Ps.get {α : Type} {p : Addr → α → Prop} : ∀ {as : List Addr} {xs : List α} {i : Nat} {a : Addr}, Ps p as xs → as[i]? = some a → ∃ x, xs[i]? = some x ∧ p a x
  | [], [], _, _, _, e => by cases e
  | _ :: _, x :: _, 0, _, ⟨h, _⟩, e => by cases e; exact ⟨x, rfl, h⟩
  | _ :: _, _ :: _, i + 1, _, ⟨_, t⟩, e => Ps.get (i := i) t e
def Wd (S : Addr → Prop) (H : Hp) (t : Addr) (x : List Int × Nat × Nat) : Prop := ∃ k, H t = some (.tup [.ref k, .int x.2.1, .int x.2.2]) ∧ S k ∧ H k = some (.lst (x.1.map V.int)) ∧ x.1.Nodup ∧ x.1.length ≤ 70 ∧ 1 ≤ x.2.1 ∧ x.2.1 ≤ 130 ∧ 1 ≤ x.2.2 ∧ x.2.2 ≤ 8
theorem Wd.keep {S : Addr → Prop} {H H' : Hp} {t : Addr} {x : List Int × Nat × Nat} (kt : ∀ t xs, H t = some (.tup xs) → H' t = some (.tup xs)) (kl : ∀ t o, S t → H t = some o → H' t = some o) (h : Wd S H t x) : Wd S H' t x := by
  obtain ⟨k, h1, h2, h3, h4⟩ := h
  exact ⟨k, kt _ _ h1, h2, kl _ _ h2 h3, h4⟩
def Fw (S : Addr → Prop) (H : Hp) (f : Addr) (x : List Int × Nat × Nat) : Prop := ∃ vs : List V, S f ∧ H f = some (.lst vs) ∧ ∀ way < 6, ∃ v d, vs[way]? = some v ∧ IsAsk way x.1 x.2.1 x.2.2 d ∧ TS S H v d
theorem Fw.keep {S : Addr → Prop} {H H' : Hp} {t : Addr} {x : List Int × Nat × Nat} (kt : ∀ t xs, H t = some (.tup xs) → H' t = some (.tup xs)) (kl : ∀ t o, S t → H t = some o → H' t = some o) (h : Fw S H t x) : Fw S H' t x := by
  obtain ⟨vs, h1, h2, h3⟩ := h
  refine ⟨vs, h1, kl _ _ h1 h2, fun way hw => ?_⟩
  obtain ⟨v, d, a, b, c⟩ := h3 way hw
  exact ⟨v, d, a, b, c.keep kt kl⟩
/-- told, and what it was told to be -/
def Kd (D : Addr) (H0 H : Hp) (t : Addr) : Prop := ∃ v v' d, H t = some (.tup [v, v']) ∧ TS (fun b => b ≠ D) H v d ∧ TS (fun _ => True) H0 v' d
theorem Kd.keep {D : Addr} {H0 H H' : Hp} {t : Addr} {ys : List V} (hD : H D = some (.lst ys)) (k : ∀ b o, b ≠ D → H b = some o → H' b = some o) (h : Kd D H0 H t) : Kd D H0 H' t := by
  obtain ⟨v, v', d, h1, h2, h3⟩ := h
  have kt : ∀ t xs, H t = some (.tup xs) → H' t = some (.tup xs) := fun t xs e => k _ _ (ne_of e hD (by intro z; cases z)) e
  exact ⟨v, v', d, kt _ _ h1, h2.keep kt fun t o n e => k t o n e, h3⟩
section
variable {P : Program} {w : World} {K : PySem.W.Frag} {mg : Str → Option Value} {base : Heap}
theorem ok_last_bits {f : Addr} {fd : FuncData} (F : Fun K "last_bits" "last_bits" s_last_bits f fd) (mF : mg "last_bits" = some (.ref f)) (bF : Binds K fd ["key", "many"] []) (T : Bl mg)  : Cal P w K mg base "last_bits" ["key", "many"] 1 (sp_last_bits K) := by
  refine Cal.of F mF bF sc_last_bits (fun vs H Q E h => ?_) (fun cdv A outer s H vs Q E hr h => ?_)
  · obtain ⟨k, m, rfl, _⟩ := h; rfl
  obtain ⟨k, m, rfl, hm, q⟩ := h
  refine ⟨_, (pss_one (ps_ret (pe_op op_mod (pv 0) (pe_op op_shl pe_int (pv 1))))), ?_⟩
  rw [st_last_bits]
  have p := pow2_pos m
  walk_at "rd"
  have e : (1 : Int) * 2 ^ (m : Int).toNat = 2 ^ m := by rw [Int.one_mul, Int.toNat_natCast]
  rw [e]
  walk_at "rd"
  exact q
theorem ok_level {f : Addr} {fd : FuncData} (F : Fun K "level" "level" s_level f fd) (mF : mg "level" = some (.ref f)) (bF : Binds K fd ["rooms"] []) (T : Bl mg)  : Cal P w K mg base "level" ["rooms"] 1 (sp_level K) := by
  refine Cal.of F mF bF sc_level (fun vs H Q E h => ?_) (fun cdv A outer s H vs Q E hr h => ?_)
  · obtain ⟨R, rfl, _⟩ := h; rfl
  obtain ⟨R, rfl, h1, q⟩ := h
  refine ⟨_, (pss_one (ps_ret (pe_op op_sub (pe_bm0 PySem.F.plainAttrs_int PySem.F.slot_int_bit_length PySem.F.type_int_bit_length mt_bitlen (pv 0)) pe_int))), ?_⟩
  rw [st_level]
  walk_at "rd"
  refine ⟨rfl, ?_⟩
  walk_at "rd"
  rw [bits_eq h1]
  exact q
theorem ok_turn {f : Addr} {fd : FuncData} (F : Fun K "turn" "turn" s_turn f fd) (mF : mg "turn" = some (.ref f)) (bF : Binds K fd ["rooms"] []) (T : Bl mg) (C_level : Cal P w K mg base "level" ["rooms"] 1 (sp_level K)) : Cal P w K mg base "turn" ["rooms"] 2 (sp_turn K) := by
  refine Cal.of F mF bF sc_turn (fun vs H Q E h => ?_) (fun cdv A outer s H vs Q E hr h => ?_)
  · obtain ⟨R, rfl, _⟩ := h; rfl
  obtain ⟨R, rfl, h1, h2, q⟩ := h
  have hl := lg_60 h1 h2
  refine ⟨_, (pss_one (ps_ret (pe_op op_sub (pv 0) (pe_op op_shl pe_int (pcl C_level (hr.mono (by decide)) (pa_cons (pv 0) pa_nil stx_Name)))))), ?_⟩
  rw [st_turn]
  walk_at "rd"
  refine ⟨R, rfl, h1, ?_⟩
  walk_at "rd"
  have e : (1 : Int) * 2 ^ (lg R : Int).toNat = 2 ^ lg R := by rw [Int.one_mul, Int.toNat_natCast]
  rw [e]
  exact q
theorem ok_bits_for {f : Addr} {fd : FuncData} (F : Fun K "bits_for" "bits_for" s_bits_for f fd) (mF : mg "bits_for" = some (.ref f)) (bF : Binds K fd ["room", "rooms"] []) (T : Bl mg) (C_level : Cal P w K mg base "level" ["rooms"] 1 (sp_level K)) (C_turn : Cal P w K mg base "turn" ["rooms"] 2 (sp_turn K)) : Cal P w K mg base "bits_for" ["room", "rooms"] 3 (sp_bits_for K) := by
  refine Cal.of F mF bF sc_bits_for (fun vs H Q E h => ?_) (fun cdv A outer s H vs Q E hr h => ?_)
  · obtain ⟨r, R, rfl, _⟩ := h; rfl
  obtain ⟨r, R, rfl, h1, h2, q⟩ := h
  have hl := lg_60 h1 h2
  refine ⟨_, (pss_cons (ps_set (i := 2) sc_bits_for.nd rfl (Or.inl rfl) (pcl C_level (hr.mono (by decide)) (pa_cons (pv 1) pa_nil stx_Name)))
      (pss_cons (ps_if (pt_chain op_le op_lt (pcl C_turn (hr.mono (by decide)) (pa_cons (pv 1) pa_nil stx_Name)) (pv 0) (pe_op op_shl pe_int (pv 2))) (pss_one (ps_ret (pv 2))) pss_nil)
      (pss_one (ps_ret (pe_op op_add (pv 2) pe_int))))), ?_⟩
  rw [st_bits_for]
  walk_at "rd"
  refine ⟨R, rfl, h1, ?_⟩
  walk_at "rd"
  refine ⟨R, rfl, h1, h2, ?_⟩
  walk_at "rd"
  have e : (1 : Int) * 2 ^ (lg R : Int).toNat = 2 ^ lg R := by rw [Int.one_mul, Int.toNat_natCast]
  refine rd_if (fun c => ?_) (fun c => ?_)
  · walk_at "rd"
    rw [e]
    refine rd_if (fun d => ?_) (fun d => ?_)
    · walk_at "rd"
      unfold bitsV at q
      rw [if_pos ⟨c, d⟩] at q
      exact q
    · walk_at "rd"
      unfold bitsV at q
      rw [if_neg (fun z => d z.2)] at q
      exact q
  · walk_at "rd"
    unfold bitsV at q
    rw [if_neg (fun z => c z.1)] at q
    exact q
theorem ok_room_of {f : Addr} {fd : FuncData} (F : Fun K "room_of" "room_of" s_room_of f fd) (mF : mg "room_of" = some (.ref f)) (bF : Binds K fd ["key", "rooms"] []) (T : Bl mg) (C_last_bits : Cal P w K mg base "last_bits" ["key", "many"] 1 (sp_last_bits K)) (C_bits_for : Cal P w K mg base "bits_for" ["room", "rooms"] 3 (sp_bits_for K)) (C_level : Cal P w K mg base "level" ["rooms"] 1 (sp_level K)) : Cal P w K mg base "room_of" ["key", "rooms"] 4 (sp_room_of K) := by
  refine Cal.of F mF bF sc_room_of (fun vs H Q E h => ?_) (fun cdv A outer s H vs Q E hr h => ?_)
  · obtain ⟨k, R, rfl, _⟩ := h; rfl
  obtain ⟨k, R, rfl, h1, h2, q⟩ := h
  have hl := lg_60 h1 h2
  refine ⟨_, (pss_one (ps_ret (pcl C_last_bits (hr.mono (by decide)) (pa_cons (pv 0) (pa_cons (pcl C_bits_for (hr.mono (by decide)) (pa_cons (pcl C_last_bits (hr.mono (by decide)) (pa_cons (pv 0) (pa_cons (pcl C_level (hr.mono (by decide)) (pa_cons (pv 1) pa_nil stx_Name)) pa_nil stx_Call) stx_Name)) (pa_cons (pv 1) pa_nil stx_Name) stx_Call)) pa_nil stx_Call) stx_Name)))), ?_⟩
  rw [st_room_of]
  walk_at "rd"
  refine ⟨R, rfl, h1, ?_⟩
  walk_at "rd"
  refine ⟨k, lg R, rfl, by omega, ?_⟩
  walk_at "rd"
  refine ⟨_, R, rfl, h1, h2, ?_⟩
  walk_at "rd"
  refine ⟨k, bitsV (k % 2 ^ lg R) R, rfl, by unfold bitsV; split <;> omega, ?_⟩
  rw [bitsV_room]
  exact q

theorem ok_rows_for {f : Addr} {fd : FuncData} (F : Fun K "rows_for" "rows_for" s_rows_for f fd) (mF : mg "rows_for" = some (.ref f)) (bF : Binds K fd ["many", "wide"] []) (T : Bl mg)  : Cal P w K mg base "rows_for" ["many", "wide"] 1 (sp_rows_for K) := by
  refine Cal.of F mF bF sc_rows_for (fun vs H Q E h => ?_) (fun cdv A outer s H vs Q E hr h => ?_)
  · obtain ⟨m, w, rfl, _⟩ := h; rfl
  obtain ⟨m, w, rfl, h1, h2, q⟩ := h
  refine ⟨_, (pss_one (ps_ret (pe_callB (call_maxI rfl) rfl T.max bt_max (pa_cons pe_int (pa_cons (pe_op op_fdivB (pe_op op_sub (pe_op op_add (pv 0) (pv 1)) pe_int) (pv 1)) pa_nil stx_BinOp) stx_Constant)))), ?_⟩
  rw [st_rows_for]
  walk_at "rd"
  exact q
theorem ok_cut_rows {f : Addr} {fd : FuncData} (F : Fun K "cut_rows" "cut_rows" s_cut_rows f fd) (mF : mg "cut_rows" = some (.ref f)) (bF : Binds K fd ["things", "wide"] []) (T : Bl mg) (C_rows_for : Cal P w K mg base "rows_for" ["many", "wide"] 1 (sp_rows_for K)) : Cal P w K mg base "cut_rows" ["things", "wide"] 2 (sp_cut_rows K) := by
  refine Cal.of F mF bF sc_cut_rows (fun vs H Q E h => ?_) (fun cdv A outer s H vs Q E hr h => ?_)
  · obtain ⟨a, ms, w, rfl, _⟩ := h; rfl
  obtain ⟨a, ms, w, rfl, ha, hl, w1, w2, q⟩ := h
  refine ⟨_, (pss_one (ps_ret (pe_comp rfl (blkOk (sc := defScope s_cut_rows) (N := ["things", "wide"]) (vs := ["at"]) (fs := ["things", "wide"]) (js := [0, 1]) (by decide +kernel) rfl rfl) (pi_range1 rfl T.range (pa_cons (pcl C_rows_for (hr.mono (by decide)) (pa_cons (pe_callB call_lenL rfl T.len bt_len (pa_cons (pv 0) pa_nil stx_Name)) (pa_cons (pv 1) pa_nil stx_Name) stx_Call)) pa_nil stx_Call)) (fun _ _ _ _ => pg_name (i := 0) (show (["at", "things", "wide"] : List Str).Nodup by decide +kernel) rfl (Or.inl rfl)) (fun _ _ _ _ => pif0) (fun _ _ _ _ => (pe_slice (sl_listK (K := K) rfl) (pv 1) (po_some (pe_op op_mul (pv 0) (pv 2))) (po_some (pe_op op_mul (pe_op op_add (pv 0) pe_int) (pv 2)))))))), ?_⟩
  rw [st_cut_rows]
  walk_at "rd"
  rw [List.length_map]
  refine ⟨_, w, rfl, by omega, by omega, ?_⟩
  obtain ⟨g1, g2, g3⟩ := up_div (g := rfor ms.length w) (w := w) (m := ms.length) (by omega) (by omega) rfl
  have gb : rfor (ms.length : Int) w ≤ 201 := by
    rcases g3 with z | z
    · omega
    · by_cases q : rfor (ms.length : Int) w ≤ 201
      · exact q
      · have : (1 : Int) * (rfor ms.length w - 1) ≤ w * (rfor ms.length w - 1) := Int.mul_le_mul_of_nonneg_right (by omega) (by omega)
        omega
  refine ⟨_, rfl, by omega, by omega, fun D nD => ?_⟩
  unfold rowsV at q
  have n201 : (rfor (ms.length : Int) w).toNat ≤ 201 := by omega
  generalize (rfor (ms.length : Int) w).toNat = n at q n201 ⊢
  refine comp_range (n := n) (fun i σ' ys H' => (∃ x, σ' = [x, some (.ref a), some (.int w)]) ∧ (∃ as : List Addr, ys = as.map V.ref ∧ as.length = i ∧ Ls H' as (rowsN ms w i) ∧ ∀ b ∈ as, H b = none ∧ b ≠ D) ∧ Same H H' ∧ H' D = some (.lst ys)) D ?_ ?_ ?_
  · exact ⟨⟨_, rfl⟩, ⟨[], rfl, rfl, trivial, fun b hb => by cases hb⟩, same_new nD _, upd_same⟩
  · rintro i σ' ys H' hi ⟨⟨x, rfl⟩, ⟨as, rfl, al, hL, hn⟩, s1, hD⟩
    have ha' := s1 _ _ ha
    walk_at "rd"
    have e1 : (0 + (i : Int)) * w = ((i * w : Nat) : Int) := by rw [Int.zero_add, Int.natCast_mul]
    have e2 : (0 + (i : Int) + 1) * w = (((i + 1) * w : Nat) : Int) := by rw [Int.zero_add, Int.natCast_mul]; rfl
    have e3 : (i + 1) * w = i * w + w := Nat.succ_mul i w
    rw [e1, e2]
    refine rd_slL (SqL.of ha') fun b nb => ?_
    rw [cut_mid (by omega), ← List.map_drop, ← List.map_take, show (i + 1) * w - i * w = w by omega]
    generalize hE : upd H' b _ = H1
    obtain ⟨hb1, s2⟩ := newo nb hE
    clear hE
    have bD : b ≠ D := by intro e; rw [e, hD] at nb; cases nb
    refine ⟨s2 _ _ hD, by rw [List.length_map]; exact small1000 (by omega), ⟨_, rfl⟩, ⟨as ++ [b], by rw [List.map_append]; rfl, by rw [List.length_append, al]; rfl, ?_, fun c hc => ?_⟩, fun c o e => ?_, upd_same⟩
    · rw [rowsN_succ]
      refine Ls.snoc ?_ (hL.same fun c hc o e => ?_)
      · rw [upd_ne bD]; exact hb1
      · rw [upd_ne (hn c hc).2]; exact s2 _ _ e
    · rcases List.mem_append.mp hc with z | z
      · exact hn c z
      · rw [List.mem_singleton.mp z]; exact ⟨s1.free nb, bD⟩
    · rw [upd_ne (ne_of_none e nD)]; exact s2 _ _ (s1 _ _ e)
  · rintro σ' ys H' ⟨⟨x, rfl⟩, ⟨as, rfl, al, hL, hn⟩, s1, hD⟩
    exact q D H' nD ⟨as, hD, hL, hn⟩ s1
theorem ok_rows_of {f : Addr} {fd : FuncData} (F : Fun K "rows_of" "rows_of" s_rows_of f fd) (mF : mg "rows_of" = some (.ref f)) (bF : Binds K fd ["keys", "wide"] []) (T : Bl mg) (C_cut_rows : Cal P w K mg base "cut_rows" ["things", "wide"] 2 (sp_cut_rows K)) : Cal P w K mg base "rows_of" ["keys", "wide"] 3 (sp_rows_of K) := by
  refine Cal.of F mF bF sc_rows_of (fun vs H Q E h => ?_) (fun cdv A outer s H vs Q E hr h => ?_)
  · obtain ⟨a, ns, w, rfl, _⟩ := h; rfl
  obtain ⟨a, ns, w, rfl, ha, hl, w1, w2, q⟩ := h
  refine ⟨_, (pss_one (ps_ret (pcl C_cut_rows (hr.mono (by decide)) (pa_cons (pe_callB call_sortL rfl T.sorted bt_sorted (pa_cons (pv 0) pa_nil stx_Name)) (pa_cons (pv 1) pa_nil stx_Name) stx_Call)))), ?_⟩
  rw [st_rows_of]
  walk_at "rd"
  refine rd_sortL (SqL.of ha) (by omega) fun ms l p1 p2 nl => ?_
  generalize hE : upd H l _ = H1
  obtain ⟨hl1, s1⟩ := newo nl hE
  clear hE
  walk_at "rd"
  exact ⟨l, ms, w, rfl, hl1, by rw [p1.length_eq]; exact hl, w1, w2, fun t H2 nt hL s2 => q ms t H2 p1 p2 (s1.free nt) (hL.base s1) (s1.trans s2)⟩

theorem ok_looked {f : Addr} {fd : FuncData} (F : Fun K "looked" "looked" s_looked f fd) (mF : mg "looked" = some (.ref f)) (bF : Binds K fd ["rows", "key"] []) (T : Bl mg)  : Cal P w K mg base "looked" ["rows", "key"] 1 (sp_looked K) := by
  refine Cal.of F mF bF sc_looked (fun vs H Q E h => ?_) (fun cdv A outer s H vs Q E hr h => ?_)
  · obtain ⟨l, k, rs, rfl, _⟩ := h; rfl
  obtain ⟨l, k, rs, rfl, ⟨as, hl, hL⟩, hz, q⟩ := h
  refine ⟨_, (pss_cons (ps_set (i := 2) sc_looked.nd rfl (Or.inl rfl) pe_int)
      (pss_cons (ps_for PassesOwn.never rfl (pi_list (pv 0)) (pg_name (i := 3) sc_looked.nd rfl (Or.inl rfl)) (pss_cons (ps_aug (i := 2) sc_looked.nd rfl (Or.inl rfl) pe_int ip_add)
      (pss_one (ps_if (PW.pt (pw_and (pt_truth (pv 3) (fun _ => rfl)) (pw_and1 (pt_cmpR op_ge (pe_ix ix_list (pv 3) (pe_un un_neg pe_int) (fun _ _ => rfl)) (pv 1) (nomark _))))) (pss_one (ps_ret (pe_tup (pa_cons (pe_cmpR op_in_seq (pv 1) (pv 3) (by with_unfolding_all rfl)) (pa_cons (pv 2) pa_nil stx_Name) stx_Compare)))) pss_nil))))
      (pss_one (ps_ret (pe_tup (pa_cons pe_bl (pa_cons (pv 2) pa_nil stx_Name) stx_Constant)))))), ?_⟩
  rw [st_looked]
  walk_at "rd"
  refine ⟨l, rfl, ⟨_, SqL.of hl⟩, ?_⟩
  refine for_list (xs := as.map V.ref) (fun i σ H' => (∃ x, σ = [some (.ref l), some (.int k), some (.int i), x]) ∧ H' = H ∧ lookV k rs = ((lookV k (rs.drop i)).1, (lookV k (rs.drop i)).2 + i)) ⟨⟨_, rfl⟩, rfl, by simp⟩ (fun i σ H' _ h => by rw [h.2.1]; exact SqL.of hl) ?_ ?_
  · rintro i x σ H' hx ⟨⟨x1, rfl⟩, rfl, hk⟩
    obtain ⟨a, ha, rfl⟩ := refs_get hx
    obtain ⟨r, hr1, har⟩ := hL.get ha
    rw [drop_get hr1] at hk
    walk_at "rd"
    have pass : ¬ stops k r → lookV k rs = ((lookV k (rs.drop (i + 1))).1, (lookV k (rs.drop (i + 1))).2 + ((i + 1 : Nat) : Int)) := fun z => by
      rw [hk, lookV_pass z]
      show (_, _) = (_, _)
      congr 1; omega
    refine ⟨decide (r ≠ []), .inl ⟨_, SqL.of har, emp_map r⟩, ?_⟩
    refine rd_if (fun c => ?_) (fun c => ?_)
    · obtain ⟨y, hy⟩ := last_ex c
      walk_at "rd"
      refine rd_ixL (SqL.of har) (last_at hy) ?_
      walk_at "rd"
      refine rd_if (fun d => ?_) (fun d => ?_)
      · walk_at "rd"
        refine rd_inI (SqL.of har) ?_
        walk_at "rd"
        refine ⟨(by show 2 ≤ sizeLine; decide), fun t nt => q t _ nt ?_ (same_new nt _)⟩
        rw [upd_same, hk, lookV_stop (stops_of hy d)]
        show some (HO.tup [V.bl _, V.int ((i : Int) + 1)]) = some (HO.tup [V.bl _, V.int (1 + (i : Int))])
        rw [Int.add_comm]
      · walk_at "rd"
        refine ⟨⟨_, rfl⟩, rfl, pass fun z => ?_⟩
        obtain ⟨x, hx, hkx⟩ := stops_ex z
        rw [hy] at hx
        cases hx
        exact d hkx
    · walk_at "rd"
      refine ⟨⟨_, rfl⟩, rfl, pass fun z => c fun e => ?_⟩
      obtain ⟨x, hx, _⟩ := stops_ex z
      rw [e] at hx; cases hx
  · rintro σ H' ⟨⟨x1, rfl⟩, rfl, hk⟩
    walk_at "rd"
    refine ⟨(by show 2 ≤ sizeLine; decide), fun t nt => q t _ nt ?_ (same_new nt _)⟩
    rw [List.length_map, hL.len, List.drop_length] at hk
    rw [upd_same, hk, List.length_map, hL.len]
    show some (HO.tup [V.bl false, V.int (rs.length : Int)]) = some (HO.tup [V.bl false, V.int (0 + (rs.length : Int))])
    rw [Int.zero_add]

theorem ok_spread {f : Addr} {fd : FuncData} (F : Fun K "spread" "spread" s_spread f fd) (mF : mg "spread" = some (.ref f)) (bF : Binds K fd ["keys", "rooms"] []) (T : Bl mg) (C_room_of : Cal P w K mg base "room_of" ["key", "rooms"] 4 (sp_room_of K)) : Cal P w K mg base "spread" ["keys", "rooms"] 5 (sp_spread K) := by
  refine Cal.of F mF bF sc_spread (fun vs H Q E h => ?_) (fun cdv A outer s H vs Q E hr h => ?_)
  · obtain ⟨a, ns, R, rfl, _⟩ := h; rfl
  obtain ⟨a, ns, R, rfl, ha, hl, r1, r2, q⟩ := h
  refine ⟨_, (pss_cons (ps_setc (i := 2) sc_spread.nd rfl rfl rfl (blkOk (sc := defScope s_spread) (N := ["keys", "rooms", "told", "key"]) (vs := ["room"]) (fs := []) (js := []) (by decide +kernel) rfl rfl) (pi_range1 rfl T.range (pa_cons (pv 1) pa_nil stx_Name)) (fun _ _ _ _ => pg_name (i := 0) (show (["room"] : List Str).Nodup by decide +kernel) rfl (Or.inl rfl)) (fun _ _ _ _ => pif0) (fun _ _ _ _ => (pe_lst pa_nil)))
      (pss_cons (ps_for PassesOwn.never rfl (pi_list (pe_callB call_sortL rfl T.sorted bt_sorted (pa_cons (pv 0) pa_nil stx_Name))) (pg_name (i := 3) sc_spread.nd rfl (Or.inl rfl)) (pss_one (ps_expr (pe_bm PySem.F.plainAttrs_list PySem.F.slot_list_append PySem.F.type_list_append mt_append (pe_ix ix_list (pv 2) (pcl C_room_of (hr.mono (by decide)) (pa_cons (pv 3) (pa_cons (pv 1) pa_nil stx_Name) stx_Name)) (fun _ _ => rfl)) (pa_cons (pv 3) pa_nil stx_Name)))))
      (pss_one (ps_ret (pv 2))))), ?_⟩
  rw [st_spread]
  walk_at "rd"
  refine ⟨R, rfl, by omega, by omega, fun D nD => ?_⟩
  rw [Int.toNat_natCast]
  refine comp_range (n := R) (fun i σ' ys H' => (∃ x, σ' = [x]) ∧ Same H H' ∧ ∃ as : List Addr, ys = as.map V.ref ∧ H' D = some (.lst ys) ∧ Ls H' as (List.replicate i []) ∧ as.Nodup ∧ ∀ b ∈ as, H b = none ∧ b ≠ D) D ⟨⟨_, rfl⟩, same_new nD _, [], rfl, upd_same, trivial, List.nodup_nil, fun _ h => by (cases h)⟩ ?_ ?_
  · rintro i σ' ys H1 hi ⟨⟨x, rfl⟩, s1, as, rfl, hD, hL, hn, h4⟩
    walk_at "rd"
    refine ⟨by decide, fun b nb => ?_⟩
    generalize hE : upd H1 b _ = H2
    obtain ⟨hb, s2⟩ := newo nb hE
    clear hE
    have bD : b ≠ D := by intro e; rw [e, hD] at nb; cases nb
    have bas : b ∉ as := fun m => by
      obtain ⟨r, _, e⟩ := hL.mem m
      rw [e] at nb; cases nb
    have al := hL.rep
    refine ⟨s2 _ _ hD, by rw [List.length_map, al]; exact small1000 (by omega), ⟨_, rfl⟩, fun c o e => ?_, as ++ [b], by rw [List.map_append]; rfl, upd_same, ?_, ?_⟩
    · rw [upd_ne (ne_of_none e nD)]; exact s2 _ _ (s1 _ _ e)
    · rw [List.replicate_succ']
      exact Ls.snoc (r := []) (by rw [upd_ne bD]; exact hb) (hL.same fun c hc o e => by rw [upd_ne (h4 c hc).2]; exact s2 _ _ e)
    · refine ⟨?_, fun c hc => ?_⟩
      · rw [List.nodup_append]
        exact ⟨hn, by simp, fun x hx y hy e => by simp at hy; rw [hy] at e; exact bas (e ▸ hx)⟩
      · rcases List.mem_append.mp hc with m | m
        · exact h4 c m
        · rw [List.mem_singleton.mp m]; exact ⟨s1.free nb, bD⟩
  · rintro σ' ys H1 ⟨⟨x, rfl⟩, s1, as, rfl, hD, hL, hn, h4⟩
    have hL : Ls H1 as (spreadV [] R) := by rw [spreadV_nil]; exact hL
    walk_at "rd"
    refine rd_sortL (SqL.of (s1 _ _ ha)) (by omega) fun ms e p1 p2 ne => ?_
    generalize hE : upd H1 e _ = H2
    obtain ⟨he, s2⟩ := newo ne hE
    clear hE
    have eas : ∀ b ∈ as, b ≠ e := fun b m z => by
      obtain ⟨r, _, hb⟩ := hL.mem m
      rw [z, ne] at hb; cases hb
    have ml : ms.length ≤ 200 := by rw [p1.length_eq]; exact hl
    have eD : D ≠ e := fun z => by rw [← z, hD] at ne; cases ne
    refine ⟨e, rfl, ⟨_, SqL.of he⟩, ?_⟩
    refine for_list (xs := ms.map V.int) (fun i σ H' => (∃ x, σ = [some (.ref a), some (.int R), some (.ref D), x]) ∧ Same H H' ∧ H' e = some (.lst (ms.map V.int)) ∧ H' D = some (.lst (as.map V.ref)) ∧ Ls H' as (spreadV (ms.take i) R)) ⟨⟨_, rfl⟩, s1.trans s2, he, s2 _ _ hD, hL.same fun b _ o => s2 b o⟩ (fun _ _ _ _ h => SqL.of h.2.2.1) ?_ ?_
    · rintro i x σ H3 hx ⟨⟨x1, rfl⟩, s3, he3, hD3, hL3⟩
      obtain ⟨k, hk, rfl⟩ := ints_get hx
      have il := (List.getElem?_eq_some_iff.mp hk).1
      have rb := roomV_lt (k := k) (R := R) (by omega)
      obtain ⟨j, hj, jl⟩ : ∃ j : Nat, roomV k R = (j : Int) ∧ j < R := ⟨(roomV k R).toNat, by omega, by omega⟩
      obtain ⟨b, hb⟩ : ∃ b, as[j]? = some b := ⟨_, List.getElem?_eq_getElem (show j < as.length by rw [hL3.len, spreadV_len]; exact jl)⟩
      obtain ⟨r, hr1, hbr⟩ := hL3.get hb
      have hr2 : r = (ms.take i).filter fun k => decide (roomV k R = (j : Int)) := by
        rw [spreadV_at jl] at hr1
        exact (Option.some.inj hr1).symm
      have hm := List.mem_of_getElem? hb
      walk_at "rd"
      refine ⟨k, R, rfl, by omega, by omega, ?_⟩
      rw [hj]
      refine rd_ixL (SqL.of hD3) (at_ref' hb) ?_
      walk_at "rd"
      refine ⟨.inl ⟨rfl, _, SqL.of hbr⟩, ?_⟩
      walk_at "rd"
      refine ⟨b, _, _, rfl, rfl, hbr, ?_, ?_⟩
      · rw [List.length_map, hr2]
        refine small1000 (Nat.le_trans (List.length_filter_le _ _) ?_)
        rw [List.length_take]; omega
      walk_at "rd"
      refine ⟨⟨_, rfl⟩, fun c o e => ?_, ?_, ?_, ?_⟩
      · rw [upd_ne (ne_of_none e (h4 b hm).1)]; exact s3 _ _ e
      · rw [upd_ne (eas b hm).symm]; exact he3
      · rw [upd_ne (h4 b hm).2.symm]; exact hD3
      · rw [take_get hk, spreadV_push hj jl, ← hr2]
        have := hL3.set (r := r ++ [k]) hn hb
        rw [List.map_append] at this
        exact this
    · rintro σ H3 ⟨⟨x1, rfl⟩, s3, he3, hD3, hL3⟩
      rw [List.length_map, List.take_length] at hL3
      walk_at "rd"
      exact q ms D H3 p1 p2 nD ⟨as, hD3, hL3, hn, h4⟩ s3
theorem ok_counts {f : Addr} {fd : FuncData} (F : Fun K "counts" "counts" s_counts f fd) (mF : mg "counts" = some (.ref f)) (bF : Binds K fd ["keys", "rooms"] []) (T : Bl mg) (C_spread : Cal P w K mg base "spread" ["keys", "rooms"] 5 (sp_spread K)) : Cal P w K mg base "counts" ["keys", "rooms"] 6 (sp_counts K) := by
  refine Cal.of F mF bF sc_counts (fun vs H Q E h => ?_) (fun cdv A outer s H vs Q E hr h => ?_)
  · obtain ⟨a, ns, R, rfl, _⟩ := h; rfl
  obtain ⟨a, ns, R, rfl, ha, hl, r1, r2, q⟩ := h
  refine ⟨_, (pss_one (ps_ret (pe_comp rfl (blkOk (sc := defScope s_counts) (N := ["keys", "rooms"]) (vs := ["own"]) (fs := []) (js := []) (by decide +kernel) rfl rfl) (pi_list (pcl C_spread (hr.mono (by decide)) (pa_cons (pv 0) (pa_cons (pv 1) pa_nil stx_Name) stx_Name))) (fun _ _ _ _ => pg_name (i := 0) (show (["own"] : List Str).Nodup by decide +kernel) rfl (Or.inl rfl)) (fun _ _ _ _ => pif0) (fun _ _ _ _ => (pe_callB (call_lenLK (K := K) rfl) rfl T.len bt_len (pa_cons (pv 0) pa_nil stx_Name)))))), ?_⟩
  rw [st_counts]
  walk_at "rd"
  refine ⟨a, ns, R, rfl, ha, hl, r1, r2, fun ms l H1 p1 p2 nl hN s1 => ?_⟩
  obtain ⟨as, hl1, hL, _, _⟩ := hN
  refine ⟨l, rfl, ⟨_, SqL.of hl1⟩, fun D nD => ?_⟩
  refine comp_list (xs := as.map V.ref) (fun i σ' ys H' => (∃ x, σ' = [x]) ∧ Same H1 H' ∧ ys = (((spreadV ms R).take i).map fun r => (r.length : Int)).map V.int ∧ H' D = some (.lst ys)) D ⟨⟨_, rfl⟩, same_new nD _, rfl, upd_same⟩ (fun i σ' ys H' _ h => SqL.of (h.2.1 _ _ hl1)) ?_ ?_
  · rintro i x σ' ys H' hx ⟨⟨x1, rfl⟩, s2, rfl, hD⟩
    obtain ⟨b, hb, rfl⟩ := refs_get hx
    obtain ⟨r, hr1, hbr⟩ := hL.get hb
    have hb2 := s2 _ _ hbr
    have il := (List.getElem?_eq_some_iff.mp hr1).1
    rw [spreadV_len] at il
    walk_at "rd"
    refine ⟨hD, ?_, ⟨_, rfl⟩, fun c o e => ?_, ?_, upd_same⟩
    · rw [List.length_map, List.length_map, List.length_take]
      exact small1000 (by omega)
    · rw [upd_ne (ne_of_none e nD)]; exact s2 _ _ e
    · rw [take_get hr1, List.map_append, List.map_append]
      show _ ++ [V.int _] = _ ++ [V.int _]
      rw [List.length_map]
  · rintro σ' ys H' ⟨⟨x1, rfl⟩, s2, rfl, hD⟩
    rw [List.length_map, hL.len, List.take_length] at hD
    exact q ms D H' p1 p2 (s1.free nD) hD (s1.trans s2)

theorem ok_longest {f : Addr} {fd : FuncData} (F : Fun K "longest" "longest" s_longest f fd) (mF : mg "longest" = some (.ref f)) (bF : Binds K fd ["counts", "wide"] []) (T : Bl mg) (C_rows_for : Cal P w K mg base "rows_for" ["many", "wide"] 1 (sp_rows_for K)) : Cal P w K mg base "longest" ["counts", "wide"] 2 (sp_longest K) := by
  refine Cal.of F mF bF sc_longest (fun vs H Q E h => ?_) (fun cdv A outer s H vs Q E hr h => ?_)
  · obtain ⟨a, ns, w, rfl, _⟩ := h; rfl
  obtain ⟨a, ns, w, rfl, hS, hne, hl, h1, h2, q⟩ := h
  refine ⟨_, (pss_cons (ps_setc (i := 2) sc_longest.nd rfl rfl rfl (blkOk (sc := defScope s_longest) (N := ["counts", "wide", "many", "most"]) (vs := ["count"]) (fs := ["wide"]) (js := [1]) (by decide +kernel) rfl rfl) (pi_list (pv 0)) (fun _ _ _ _ => pg_name (i := 0) (show (["count", "wide"] : List Str).Nodup by decide +kernel) rfl (Or.inl rfl)) (fun _ _ _ _ => pif0) (fun _ _ _ _ => (pcl C_rows_for (hr.mono (by decide)) (pa_cons (pv 0) (pa_cons (pv 1) pa_nil stx_Name) stx_Name))))
      (pss_cons (ps_set (i := 3) sc_longest.nd rfl (Or.inl rfl) (pe_callB (call_maxL rfl) rfl T.max bt_max (pa_cons (pv 2) pa_nil stx_Name)))
      (pss_one (ps_ret (pe_tup (pa_cons (pv 3) (pa_cons (pe_bm PySem.F.plainAttrs_list PySem.F.slot_list_index PySem.F.type_list_index mt_indexI (pv 2) (pa_cons (pv 3) pa_nil stx_Name)) pa_nil stx_Call) stx_Name)))))), ?_⟩
  rw [st_longest]
  walk_at "rd"
  refine ⟨a, rfl, ⟨_, hS⟩, fun D nD => ?_⟩
  refine comp_list (xs := ns.map V.int) (fun i σ' ys H' => (∃ x, σ' = [x, some (.int w)]) ∧ ys = ((rowsL ns w).take i).map V.int ∧ Same H H' ∧ H' D = some (.lst ys)) D ?_ (fun i σ' ys H' _ h => h.2.2.1.seq hS) ?_ ?_
  · exact ⟨⟨_, rfl⟩, rfl, same_new nD _, upd_same⟩
  · rintro i x σ' ys H' hx ⟨⟨y, rfl⟩, rfl, g1, g2⟩
    have hil : i < ns.length := by
      have := (List.getElem?_eq_some_iff.mp hx).1
      rw [List.length_map] at this; exact this
    rw [List.getElem?_map, List.getElem?_eq_getElem hil] at hx
    obtain rfl := Option.some.inj hx
    walk_at "rd"
    refine ⟨_, w, rfl, h1, h2, ?_⟩
    have hml : i < (rowsL ns w).length := by unfold rowsL; rw [List.length_map]; exact hil
    refine ⟨g2, by rw [List.length_map, List.length_take]; exact small1000 (by omega), ⟨_, rfl⟩, ?_, fun b o e => ?_, upd_same⟩
    · rw [List.take_succ_eq_append_getElem hml, List.map_append]
      have : (rowsL ns w)[i] = rfor ns[i] w := List.getElem_map _
      rw [this]; rfl
    · rw [upd_ne (ne_of_none e nD)]; exact g1 _ _ e
  · rintro σ' ys H' ⟨⟨y, rfl⟩, rfl, g1, g2⟩
    have e : (rowsL ns w).take (ns.map V.int).length = rowsL ns w := List.take_of_length_le (by unfold rowsL; rw [List.length_map, List.length_map]; exact Nat.le_refl _)
    rw [e] at g2
    have hne2 : rowsL ns w ≠ [] := by unfold rowsL; intro z; exact hne (List.map_eq_nil_iff.mp z)
    walk_at "rd"
    refine rd_maxL (SqL.of g2) hne2 fun M hM hmax => ?_
    walk_at "rd"
    refine ⟨.inl ⟨rfl, _, SqL.of g2⟩, ?_⟩
    walk_at "rd"
    refine rd_indexI (SqL.of g2) hM ?_
    walk_at "rd"
    refine ⟨(by show 2 ≤ sizeLine; decide), fun t nt => ?_⟩
    exact q M t _ hM hmax (g1.free nt) (g1.trans (same_new nt _)) upd_same
theorem ok_all_looks {f : Addr} {fd : FuncData} (F : Fun K "all_looks" "all_looks" s_all_looks f fd) (mF : mg "all_looks" = some (.ref f)) (bF : Binds K fd ["keys", "rooms", "wide"] []) (T : Bl mg) (C_rows_of : Cal P w K mg base "rows_of" ["keys", "wide"] 3 (sp_rows_of K)) (C_spread : Cal P w K mg base "spread" ["keys", "rooms"] 5 (sp_spread K)) (C_looked : Cal P w K mg base "looked" ["rows", "key"] 1 (sp_looked K)) (C_room_of : Cal P w K mg base "room_of" ["key", "rooms"] 4 (sp_room_of K)) : Cal P w K mg base "all_looks" ["keys", "rooms", "wide"] 6 (sp_all_looks K) := by
  refine Cal.of F mF bF sc_all_looks (fun vs H Q E h => ?_) (fun cdv A outer s H vs Q E hr h => ?_)
  · obtain ⟨a, ns, R, w, rfl, _⟩ := h; rfl
  obtain ⟨a, ns, R, w, rfl, ha, nd, hl, r1, r2, w1, w2, q⟩ := h
  refine ⟨_, (pss_cons (ps_set (i := 3) sc_all_looks.nd rfl (Or.inr rfl) (pe_comp rfl (blkOk (sc := defScope s_all_looks) (N := ["keys", "rooms", "wide", "rows"]) (vs := ["own"]) (fs := ["wide"]) (js := [2]) (by decide +kernel) rfl rfl) (pi_list (pcl C_spread (hr.mono (by decide)) (pa_cons (pv 0) (pa_cons (pv 1) pa_nil stx_Name) stx_Name))) (fun _ _ _ _ => pg_name (i := 0) (show (["own", "wide"] : List Str).Nodup by decide +kernel) rfl (Or.inl rfl)) (fun _ _ _ _ => pif0) (fun _ _ _ _ => (pcl C_rows_of (hr.mono (by decide)) (pa_cons (pv 0) (pa_cons (pv 1) pa_nil stx_Name) stx_Name)))))
      (pss_one (ps_ret (pe_comp rfl (blkOk (sc := defScope s_all_looks) (N := ["keys", "rooms", "wide", "rows"]) (vs := ["key"]) (fs := ["rows", "rooms"]) (js := [3, 1]) (by decide +kernel) rfl rfl) (pi_list (pe_callB call_sortL rfl T.sorted bt_sorted (pa_cons (pv 0) pa_nil stx_Name))) (fun _ _ _ _ => pg_name (i := 0) (show (["key", "rows", "rooms"] : List Str).Nodup by decide +kernel) rfl (Or.inl rfl)) (fun _ _ _ _ => pif0) (fun _ _ _ _ => (pe_tup (pa_cons (pv 0) (pa_cons (pe_ix (ix_tupK (K := K) rfl) (pcl C_looked (hr.mono (by decide)) (pa_cons (pe_ix (ix_listK (K := K) rfl) (pv 1) (pcl C_room_of (hr.mono (by decide)) (pa_cons (pv 0) (pa_cons (pv 2) pa_nil stx_Name) stx_Name)) (fun _ _ => rfl)) (pa_cons (pv 0) pa_nil stx_Name) stx_Subscript)) pe_int (fun _ _ => rfl)) pa_nil stx_Subscript) stx_Name))))))), ?_⟩
  rw [st_all_looks]
  walk_at "rd"
  refine ⟨a, ns, R, rfl, ha, by omega, r1, r2, fun ms l H1 p1 p2 nl hLN s1 => ?_⟩
  have st := strict_of p2 (p1.nodup_iff.mpr nd)
  have ml : ms.length ≤ 125 := by rw [p1.length_eq]; exact hl
  obtain ⟨as, hl1, hLs⟩ := hLN.rl
  have ha1 := s1 _ _ ha
  walk_at "rd"
  refine ⟨l, rfl, ⟨_, SqL.of hl1⟩, fun D nD => ?_⟩
  refine comp_list (xs := as.map V.ref) (fun i σ' ys H' => (∃ x, σ' = [x, some (.int w)]) ∧ Same H1 H' ∧ ∃ bs : List Addr, ys = bs.map V.ref ∧ H' D = some (.lst ys) ∧ RR D H' bs (((spreadV ms R).take i).map fun r => rowsV r w)) D ⟨⟨_, rfl⟩, same_new nD _, [], rfl, upd_same, trivial⟩ (fun i σ' ys H' _ h => SqL.of (h.2.1 _ _ hl1)) ?_ ?_
  · rintro i x σ' ys H2 hx ⟨⟨x1, rfl⟩, s2, bs, rfl, hD, hB⟩
    obtain ⟨b, hb, rfl⟩ := refs_get hx
    obtain ⟨r, hr1, hbr⟩ := hLs.get hb
    have il := (List.getElem?_eq_some_iff.mp hr1).1
    rw [spreadV_len] at il
    rw [spreadV_at il] at hr1
    have er : ownV R ms (i : Int) = r := Option.some.inj hr1
    have ro := own_len (R := R) (ms := ms) (r := (i : Int))
    rw [er] at ro
    have hbr2 := s2 _ _ hbr
    walk_at "rd"
    refine ⟨b, r, w, rfl, hbr2, by omega, w1, w2, fun ms2 l2 H3 p3 p4 nl2 hLL s3 => ?_⟩
    have e2 : ms2 = r := sorted_eq p3 p4 (by rw [← er]; exact (own_strict st).imp fun h => Int.le_of_lt h)
    subst e2
    have bl := hB.len
    rw [List.length_map, List.length_take] at bl
    have lD : l2 ≠ D := fun z => by rw [z, hD] at nl2; cases nl2
    refine ⟨s3 _ _ hD, by rw [List.length_map]; exact small1000 (by omega), ⟨_, rfl⟩, fun c o e => ?_, bs ++ [l2], by rw [List.map_append]; rfl, upd_same, ?_⟩
    · rw [upd_ne (ne_of_none e nD)]; exact s3 _ _ (s2 _ _ e)
    · rw [take_get (x := ms2) (by rw [spreadV_at il]; exact hr1), List.map_append]
      refine RR.snoc ?_ (hB.same s3).put
      obtain ⟨cs, hc1, hc2, hc3⟩ := hLL
      have fr : ∀ b ∈ cs, b ≠ D := fun b hb z => by
        have := (hc3 b hb).1
        rw [z, hD] at this; cases this
      exact RLn.put ⟨lD, cs, hc1, hc2, fr⟩
  · rintro σ' ys H2 ⟨⟨x1, rfl⟩, s2, bs, rfl, hD, hB⟩
    rw [List.length_map, hLs.len, List.take_length] at hB
    have ha2 := s2 _ _ ha1
    have nDH : H D = none := s1.free nD
    walk_at "rd"
    refine rd_sortL (SqL.of ha2) (by omega) fun ms2 l2 p3 p4 nl2 => ?_
    have e2 : ms2 = ms := sorted_eq (p3.trans p1.symm) p4 p2
    subst e2
    generalize hE : upd H2 l2 _ = H3
    obtain ⟨hl2, s3⟩ := newo nl2 hE
    clear hE
    have hD3 := s3 _ _ hD
    have hB3 := hB.same s3
    walk_at "rd"
    refine ⟨l2, rfl, ⟨_, SqL.of hl2⟩, fun D2 nD2 => ?_⟩
    have sA : Same H H3 := (s1.trans s2).trans s3
    refine comp_list (xs := ms2.map V.int) (fun i σ' ys H' => (∃ x, σ' = [x, some (.ref D), some (.int R)]) ∧ Same H3 H' ∧ ∃ bs2 : List Addr, ys = bs2.map V.ref ∧ H' D2 = some (.lst ys) ∧ P2 H' bs2 ((toldV R w ms2).take i)) D2 ⟨⟨_, rfl⟩, same_new nD2 _, [], rfl, upd_same, trivial⟩ (fun i σ' ys H' _ h => SqL.of (h.2.1 _ _ hl2)) ?_ ?_
    · rintro i x σ' ys H4 hx ⟨⟨x2, rfl⟩, s4, bs2, rfl, hD2, hP⟩
      obtain ⟨k, hk, rfl⟩ := ints_get hx
      have il := (List.getElem?_eq_some_iff.mp hk).1
      obtain ⟨j, hj, jR⟩ := room_nat (k := k) (R := R) r1
      obtain ⟨b, hb, hbR⟩ := (hB3.same s4).at' (i := j) (x := rowsV (ownV R ms2 (j : Int)) w) (by rw [List.getElem?_map, spreadV_at jR]; rfl)
      have lo := look_own (R := R) (w := w) st w1 (List.mem_of_getElem? hk)
      rw [hj] at lo
      have ol := own_len (R := R) (ms := ms2) (r := (j : Int))
      walk_at "rd"
      refine ⟨k, R, rfl, by omega, by omega, ?_⟩
      rw [hj]
      refine rd_ixL (SqL.of (s4 _ _ hD3)) (v := .ref b) (at_ref' hb) ?_
      walk_at "rd"
      refine ⟨b, k, _, rfl, hbR, by have := rows_few (ms := ownV R ms2 (j : Int)) (w := w) (by omega) w1; omega, fun t H5 nt ht s5 => ?_⟩
      rw [lo.1] at ht
      walk_at "rd"
      have bl := hP.len
      unfold toldV at bl
      rw [List.length_take, List.length_map] at bl
      refine ⟨(by show 2 ≤ sizeLine; decide), fun pt npt => ?_⟩
      generalize hE : upd H5 pt _ = H6
      obtain ⟨hpt, s6⟩ := newo npt hE
      clear hE
      have sB := s5.trans s6
      refine ⟨sB _ _ hD2, by rw [List.length_map]; exact small1000 (by omega), ⟨_, rfl⟩, fun c o e => ?_, bs2 ++ [pt], by rw [List.map_append]; rfl, upd_same, ?_⟩
      · rw [upd_ne (ne_of_none e nD2)]; exact sB _ _ (s4 _ _ e)
      · rw [take_get (x := (k, lkV R w ms2 k)) (by unfold toldV; rw [List.getElem?_map, hk]; rfl)]
        exact P2.but (sB _ _ hD2) (fun _ => nofun) (P2.snoc hpt (hP.same sB))
    · rintro σ' ys H4 ⟨⟨x2, rfl⟩, s4, bs2, rfl, hD2, hP⟩
      rw [List.length_map, List.take_of_length_le (by unfold toldV; rw [List.length_map]; exact Nat.le_refl _)] at hP
      exact q ms2 D2 H4 p1 st (sA.free nD2) ⟨bs2, hD2, hP⟩ (sA.trans s4)
theorem ok__law_open {f : Addr} {fd : FuncData} (F : Fun K "_law_open" "_law_open" s__law_open f fd) (mF : mg "_law_open" = some (.ref f)) (bF : Binds K fd ["_law_script", "_law_place"] []) (T : Bl mg)  : Cal P w K mg base "_law_open" ["_law_script", "_law_place"] 1 (sp__law_open K) := by
  refine Cal.of F mF bF sc__law_open (fun vs H Q E h => ?_) (fun cdv A outer s H vs Q E hr h => ?_)
  · obtain ⟨a, ns, pl, rfl, _⟩ := h; rfl
  obtain ⟨a, ns, pl, rfl, hS, hlen, h0, h1, q⟩ := h
  have hu := hr.units
  refine ⟨_, (pss_cons (ps_setc (i := 2) sc__law_open.nd rfl rfl rfl (blkOk (sc := defScope s__law_open) (N := ["_law_script", "_law_place", "_law_cells", "_law_at", "_law_digits"]) (vs := ["_law_cell"]) (fs := []) (js := []) (by decide +kernel) rfl rfl) (pi_list (pe_slice sl_list (pv 0) po_none (po_some pe_int))) (fun _ _ _ _ => pg_name (i := 0) (show (["_law_cell"] : List Str).Nodup by decide +kernel) rfl (Or.inl rfl)) (fun _ _ _ _ => pif0) (fun _ _ _ _ => (pe_callB call_abs1 rfl T.abs bt_abs (pa_cons (pv 0) pa_nil stx_Name))))
      (pss_cons (ps_cut (ps_if (pt_cmpR (op_eqD hu) (pv 2) (pe_lst pa_nil) (nomark _)) (pss_one (ps_set (i := 2) sc__law_open.nd rfl (Or.inl rfl) (pe_lst (pa_cons pe_int pa_nil stx_Constant)))) pss_nil))
      (pss_cons (ps_set (i := 3) sc__law_open.nd rfl (Or.inl rfl) (pe_op op_mod (pv 1) (pe_callB call_lenL rfl T.len bt_len (pa_cons (pv 2) pa_nil stx_Name))))
      (pss_cons (ps_set (i := 4) sc__law_open.nd rfl (Or.inl rfl) pe_int)
      (pss_cons (ps_cut (ps_if (PW.pt (pw_and (pt_cmpR op_ge (pe_ix ix_list (pv 2) (pv 3) (fun _ _ => rfl)) (pe_powC (c := 1000000000000000000) (by decide +kernel) ⟨by decide, by decide, by decide⟩) (nomark _)) (pw_and1 (pt_cmpR op_lt (pv 1) (pe_callB call_lenL rfl T.len bt_len (pa_cons (pv 2) pa_nil stx_Name)) (nomark _))))) (pss_one (ps_set (i := 4) sc__law_open.nd rfl (Or.inl rfl) (pe_ix ix_list (pv 2) (pv 3) (fun _ _ => rfl)))) pss_nil))
      (pss_one (ps_ret (pe_lst (pa_cons (pv 4) (pa_cons (pe_op op_add pe_int (pe_op op_mul pe_int (pv 1))) (pa_cons (pe_op op_cat (pe_slice sl_list (pv 2) (po_some (pv 3)) po_none) (pe_slice sl_list (pv 2) po_none (po_some (pv 3)))) pa_nil stx_BinOp) stx_BinOp) stx_Name))))))))), ?_⟩
  rw [st__law_open]
  walk_at "rd"
  refine rd_slL hS fun p1 n1 => ?_
  have hcut : cutV (ns.map V.int) none (some 63) = ns.map V.int := by
    have := cut_hi (ms := ns) (k := 63)
    rw [List.take_of_length_le hlen] at this
    exact this
  rw [hcut]
  have s1 := same_new n1 (.lst (ns.map V.int))
  have hp1 : (upd H p1 (.lst (ns.map V.int))) p1 = some (.lst (ns.map V.int)) := upd_same
  generalize upd H p1 (.lst (ns.map V.int)) = H1 at s1 hp1 ⊢
  refine ⟨p1, rfl, ⟨_, SqL.of hp1⟩, fun D nD => ?_⟩
  have nD0 : H D = none := s1.free nD
  have npD : p1 ≠ D := ne_of_none hp1 nD
  refine comp_list (xs := ns.map V.int) (fun i σ' ys H' => (∃ x, σ' = [x]) ∧ (∃ ms : List Int, ys = ms.map V.int ∧ ms.length = i) ∧ Same H H' ∧ H' p1 = some (.lst (ns.map V.int)) ∧ H' D = some (.lst ys)) D ?_ (fun i σ' ys H' _ h => SqL.of h.2.2.2.1) ?_ ?_
  · exact ⟨⟨_, rfl⟩, ⟨[], rfl, rfl⟩, s1.trans (same_new nD _), by rw [upd_ne npD]; exact hp1, upd_same⟩
  · rintro i x σ' ys H' hx ⟨⟨y, rfl⟩, ⟨ms, rfl, hms⟩, g1, g2, g3⟩
    have hil : i < (ns.map V.int).length := (List.getElem?_eq_some_iff.mp hx).1
    rw [List.length_map] at hil
    obtain ⟨z, rfl⟩ : ∃ z, x = V.int z := by
      rw [List.getElem?_map] at hx
      cases e : ns[i]? with
      | none => rw [e] at hx; cases hx
      | some z => rw [e] at hx; exact ⟨z, (Option.some.inj hx).symm⟩
    walk_at "rd"
    refine ⟨g3, by rw [List.length_map]; exact small1000 (by omega), ⟨_, rfl⟩, ⟨ms ++ [_], (by rw [List.map_append]; rfl), by rw [List.length_append, hms]; rfl⟩, fun b o e => ?_, ?_, upd_same⟩
    · rw [upd_ne (ne_of_none e nD0)]; exact g1 _ _ e
    · rw [upd_ne npD]; exact g2
  · rintro σ' ys H' ⟨⟨y, rfl⟩, ⟨ms, rfl, hms⟩, g1, g2, g3⟩
    walk_at "rd"
    refine ⟨fun σ H2 => ∃ C ms, σ = [some (.ref a), some (.int pl), some (.ref C), none, none] ∧ ms ≠ [] ∧ ms.length ≤ 63 ∧ H2 C = some (.lst (List.map V.int ms)) ∧ Same H H2, ?_, ?_⟩
    · walk_at "rd"
      refine ⟨by decide, fun p2 n2 => ?_⟩
      refine ⟨.list (ms.map PyData.int), .list [], DV.lst (SqL.of (by rw [upd_ne (ne_of_none g3 n2)]; exact g3)) (DVs.ints ms), DV.lst (SqL.of upd_same) .nil, shaped_ints ms, rfl, ?_⟩
      have e : PyData.eqv (.list (ms.map PyData.int)) (.list []) = decide (ms = []) := by
        have := eqv_ints ms []
        rw [← this, PyData.eqv]; rfl
      rw [e]
      have s2 := g1.trans (same_new n2 (.lst []))
      have g32 : (upd H' p2 (.lst [])) D = some (.lst (ms.map V.int)) := by rw [upd_ne (ne_of_none g3 n2)]; exact g3
      generalize upd H' p2 (.lst []) = H2 at s2 g32 ⊢
      walk_at "rd"
      refine rd_if (fun h => ?_) (fun h => ?_)
      · walk_at "rd"
        refine ⟨by decide, fun p3 n3 => ?_⟩
        walk_at "rd"
        exact ⟨p3, [0], rfl, by simp, by simp, upd_same, s2.trans (same_new n3 _)⟩
      · walk_at "rd"
        exact ⟨D, ms, rfl, h, by rw [hms, List.length_map]; exact hlen, g32, s2⟩
    · rintro σ H2 ⟨C, ms, rfl, hne, hml, hC, s2⟩
      have hnl := len_pos hne
      obtain ⟨v, hv⟩ := nsMod hne pl
      walk_at "rd"
      refine ⟨fun σ H3 => H3 = H2 ∧ ∃ d, σ = [some (.ref a), some (.int pl), some (.ref C), some (.int (pl % ((ms.map V.int).length : Int))), some (.int d)], ?_, ?_⟩
      · walk_at "rd"
        refine rd_ixL (SqL.of hC) hv ?_
        walk_at "rd"
        refine rd_if (fun h => ?_) (fun h => ?_)
        · walk_at "rd"
          refine rd_if (fun h => ?_) (fun h => ?_)
          · walk_at "rd"
            refine rd_ixL (SqL.of hC) hv ?_
            walk_at "rd"
            exact ⟨rfl, _, rfl⟩
          · walk_at "rd"
            exact ⟨rfl, _, rfl⟩
        · walk_at "rd"
          exact ⟨rfl, _, rfl⟩
      · rintro σ H3 ⟨rfl, d, rfl⟩
        obtain ⟨k, hk, hk2⟩ : ∃ k : Nat, pl % ((ms.map V.int).length : Int) = (k : Int) ∧ k < ms.length := by
          have z0 := Int.emod_nonneg pl (show ((ms.map V.int).length : Int) ≠ 0 by omega)
          have z1 := Int.emod_lt_of_pos pl hnl
          rw [List.length_map] at z0 z1 ⊢
          exact ⟨(pl % (ms.length : Int)).toNat, by omega, by omega⟩
        rw [hk]
        walk_at "rd"
        refine rd_slL (SqL.of hC) fun p4 n4 => ?_
        walk_at "rd"
        have hC4 : (upd H3 p4 (.lst (cutV (ms.map V.int) (some (k : Int)) none))) C = some (.lst (ms.map V.int)) := by rw [upd_ne (ne_of_none hC n4)]; exact hC
        refine rd_slL (SqL.of hC4) fun p5 n5 => ?_
        rw [cut_lo, cut_hi]
        rw [cut_lo] at hC4 n5
        have s4 := s2.trans (same_new n4 (.lst ((ms.drop k).map V.int)))
        have hp4 : (upd H3 p4 (.lst ((ms.drop k).map V.int))) p4 = some (.lst ((ms.drop k).map V.int)) := upd_same
        generalize upd H3 p4 (.lst ((ms.drop k).map V.int)) = H4 at s4 hp4 hC4 n5 ⊢
        have s5 := s4.trans (same_new n5 (.lst ((ms.take k).map V.int)))
        have hp5 : (upd H4 p5 (.lst ((ms.take k).map V.int))) p5 = some (.lst ((ms.take k).map V.int)) := upd_same
        have hp45 : (upd H4 p5 (.lst ((ms.take k).map V.int))) p4 = some (.lst ((ms.drop k).map V.int)) := by rw [upd_ne (ne_of_none hp4 n5)]; exact hp4
        generalize upd H4 p5 (.lst ((ms.take k).map V.int)) = H5 at s5 hp5 hp45 ⊢
        refine ⟨p4, p5, _, _, rfl, rfl, hp45, hp5, (by rw [List.length_map, List.length_map, List.length_drop, List.length_take]; exact Nat.le_of_lt (small1000 (by omega))), fun p6 n6 => ?_⟩
        walk_at "rd"
        refine ⟨(by show 3 ≤ sizeLine; decide), fun p7 n7 => ?_⟩
        have s6 := s5.trans (same_new n6 (.lst ((ms.drop k).map V.int ++ (ms.take k).map V.int)))
        refine q p7 _ (s6.free n7) (s6.trans (same_new n7 _)) ⟨p6, d, 1 + 1009 * pl, ms.drop k ++ ms.take k, upd_same, ?_, by omega, by omega, ?_⟩
        · rw [upd_ne (ne_of_none upd_same n7), upd_same, List.map_append]
        · intro e
          have := congrArg List.length e
          rw [List.length_append, List.length_drop] at this
          simp at this
          omega
theorem ok__law_draw {f : Addr} {fd : FuncData} (F : Fun K "_law_draw" "_law_draw" s__law_draw f fd) (mF : mg "_law_draw" = some (.ref f)) (bF : Binds K fd ["_law_hand", "_law_many"] []) (T : Bl mg)  : Cal P w K mg base "_law_draw" ["_law_hand", "_law_many"] 1 (sp__law_draw K) := by
  refine Cal.of F mF bF sc__law_draw (fun vs H Q E h => ?_) (fun cdv A outer s H vs Q E hr h => ?_)
  · obtain ⟨p, N, n, rfl, _⟩ := h; rfl
  obtain ⟨p, N, n, rfl, hh, hN, hn, hn2, q⟩ := h
  obtain ⟨l, d, c, ns, hp, hl, hc0, hcN, hns⟩ := hh.ex
  have npl : l ≠ p := hand_ne hp hl
  have hnl := len_pos hns
  refine ⟨_, (pss_cons (ps_if (pt_cmpR op_gt (pe_ix ix_list (pv 0) pe_int (fun _ _ => rfl)) pe_int (nomark _)) (pss_cons (ps_set (i := 2) sc__law_draw.nd rfl (Or.inl rfl) (pe_op op_mod (pe_ix ix_list (pv 0) pe_int (fun _ _ => rfl)) (pv 1)))
      (pss_cons (ps_asg (pe_op op_fdivB (pe_ix ix_list (pv 0) pe_int (fun _ _ => rfl)) (pv 1)) (pg_sub (pv 0) pe_int set_list))
      (pss_one (ps_ret (pv 2))))) pss_nil)
      (pss_cons (ps_augS (pv 0) pe_int get_list pe_int ip_add set_list)
      (pss_cons (ps_set (i := 3) sc__law_draw.nd rfl (Or.inl rfl) (pe_ix ix_list (pv 0) pe_int (fun _ _ => rfl)))
      (pss_cons (ps_set (i := 4) sc__law_draw.nd rfl (Or.inl rfl) (pe_op op_mod (pe_op op_add (pe_op op_mod (pe_ix ix_list (pe_ix ix_list (pv 0) pe_int (fun _ _ => rfl)) (pe_op op_mod (pv 3) (pe_callB call_lenL rfl T.len bt_len (pa_cons (pe_ix ix_list (pv 0) pe_int (fun _ _ => rfl)) pa_nil stx_Subscript))) (fun _ _ => rfl)) pe_int) (pe_op op_mul pe_int (pv 3))) pe_int))
      (pss_cons (ps_set (i := 4) sc__law_draw.nd rfl (Or.inl rfl) (pe_op op_mod (pe_op op_add (pe_op op_add (pe_op op_pow (pv 4) pe_int) (pe_op op_mul (pe_op op_mul pe_int (pv 3)) (pv 3))) pe_int) pe_int))
      (pss_cons (ps_set (i := 4) sc__law_draw.nd rfl (Or.inl rfl) (pe_op op_mod (pe_op op_add (pe_op op_mul (pe_op op_pow (pv 4) pe_int) (pe_op op_add (pe_op op_mul pe_int (pv 3)) pe_int)) pe_int) pe_int))
      (pss_one (ps_ret (pe_op op_mod (pe_op op_fdivB (pe_op op_mod (pe_op op_mul (pv 4) pe_int) pe_int) pe_int) (pv 1)))))))))), ?_⟩
  rw [st__law_draw]
  walk_at "rd"
  refine rd_if (fun h => ?_) (fun h => ?_)
  · walk_at "rd"
    refine q _ _ (Int.emod_nonneg _ (by omega)) (Int.emod_lt_of_pos _ hn) ⟨l, d / n, c, ns, upd_same, ?_, hc0, by omega, hns⟩ (Kp.hand hp)
    rw [upd_ne npl]; exact hl
  · walk_at "rd"
    have hp1 : (upd H p (.lst [V.int d, .int (c + 1), .ref l])) p = some (.lst [.int d, .int (c + 1), .ref l]) := upd_same
    have hl1 : (upd H p (.lst [V.int d, .int (c + 1), .ref l])) l = some (.lst (ns.map V.int)) := by rw [upd_ne npl]; exact hl
    have k1 : Kp H (upd H p (.lst [V.int d, .int (c + 1), .ref l])) p := Kp.hand hp
    generalize upd H p (.lst [V.int d, .int (c + 1), .ref l]) = H1 at hp1 hl1 k1 ⊢
    walk_at "rd"
    obtain ⟨v, hv⟩ := nsMod hns (c + 1)
    refine rd_ixL (SqL.of hl1) hv ?_
    walk_at "rd"
    have hn0 : n ≠ 0 := by omega
    exact q _ _ (Int.emod_nonneg _ hn0) (Int.emod_lt_of_pos _ hn) ⟨l, d, c + 1, ns, hp1, hl1, by omega, by omega, hns⟩ k1
theorem ok__law_far {f : Addr} {fd : FuncData} (F : Fun K "_law_far" "_law_far" s__law_far f fd) (mF : mg "_law_far" = some (.ref f)) (bF : Binds K fd ["_law_hand", "_law_many"] []) (T : Bl mg) (C__law_draw : Cal P w K mg base "_law_draw" ["_law_hand", "_law_many"] 1 (sp__law_draw K)) : Cal P w K mg base "_law_far" ["_law_hand", "_law_many"] 2 (sp__law_far K) := by
  refine Cal.of F mF bF sc__law_far (fun vs H Q E h => ?_) (fun cdv A outer s H vs Q E hr h => ?_)
  · obtain ⟨p, N, n, rfl, _⟩ := h; rfl
  obtain ⟨p, N, n, rfl, hh, hN, hn, hn2, q⟩ := h
  obtain ⟨l, d, c, ns, hp, hl, hc0, hcN, hns⟩ := hh.ex
  refine ⟨_, (pss_cons (ps_if (pt_cmpR op_gt (pe_ix ix_list (pv 0) pe_int (fun _ _ => rfl)) pe_int (nomark _)) (pss_one (ps_ret (pcl C__law_draw (hr.mono (by decide)) (pa_cons (pv 0) (pa_cons (pv 1) pa_nil stx_Name) stx_Name)))) pss_nil)
      (pss_cons (ps_set (i := 2) sc__law_far.nd rfl (Or.inl rfl) pe_int)
      (pss_cons (ps_for PassesOwn.never rfl (pi_range1 rfl T.range (pa_cons pe_int pa_nil stx_Constant)) (pg_name (i := 3) sc__law_far.nd rfl (Or.inl rfl)) (pss_one (ps_set (i := 2) sc__law_far.nd rfl (Or.inl rfl) (pe_op op_add (pe_op op_mul (pv 2) (pe_powC (c := 1000000) (by decide +kernel) ⟨by decide, by decide, by decide⟩)) (pcl C__law_draw (hr.mono (by decide)) (pa_cons (pv 0) (pa_cons (pe_powC (c := 1000000) (by decide +kernel) ⟨by decide, by decide, by decide⟩) pa_nil stx_BinOp) stx_Name))))))
      (pss_one (ps_ret (pe_op op_mod (pv 2) (pv 1))))))), ?_⟩
  rw [st__law_far]
  walk_at "rd"
  refine rd_if (fun h => ?_) (fun h => ?_)
  · walk_at "rd"
    exact ⟨p, N, n, rfl, hh, by omega, hn, hn2, fun r H' h0 h1 h2 h3 => q r H' h0 h1 (h2.mono (by omega)) h3⟩
  · walk_at "rd"
    refine ⟨7, rfl, by omega, by omega, ?_⟩
    refine for_range (n := 7) (fun i σ H' => (∃ v x, σ = [some (.ref p), some (.int n), some (.int v), x]) ∧ Hand H' p (N + i) ∧ Kp H H' p ∧ i ≤ 7) ⟨⟨_, _, rfl⟩, hh, Kp.refl _ _, by omega⟩ ?_ ?_
    · rintro i σ H' hi ⟨⟨v, x, rfl⟩, h1, h2, h3⟩
      walk_at "rd"
      exact ⟨p, N + i, _, rfl, h1, by omega, by decide, by decide, fun r H2 h0 h4 h5 h6 => by
        walk_at "rd"
        exact ⟨⟨_, _, rfl⟩, h5, h2.trans h6, by omega⟩⟩
    · rintro σ H' ⟨⟨v, x, rfl⟩, h1, h2, h3⟩
      walk_at "rd"
      exact q _ _ (Int.emod_nonneg _ (by omega)) (Int.emod_lt_of_pos _ hn) h1 h2
theorem ok__law_power {f : Addr} {fd : FuncData} (F : Fun K "_law_power" "_law_power" s__law_power f fd) (mF : mg "_law_power" = some (.ref f)) (bF : Binds K fd ["_law_many"] []) (T : Bl mg)  : Cal P w K mg base "_law_power" ["_law_many"] 1 (sp__law_power K) := by
  refine Cal.of F mF bF sc__law_power (fun vs H Q E h => ?_) (fun cdv A outer s H vs Q E hr h => ?_)
  · obtain ⟨m, rfl, _⟩ := h; rfl
  obtain ⟨m, rfl, hm, q⟩ := h
  refine ⟨_, (pss_cons (ps_set (i := 1) sc__law_power.nd rfl (Or.inl rfl) pe_int)
      (pss_cons (ps_for PassesOwn.never rfl (pi_range1 rfl T.range (pa_cons (pv 0) pa_nil stx_Name)) (pg_name (i := 2) sc__law_power.nd rfl (Or.inl rfl)) (pss_one (ps_set (i := 1) sc__law_power.nd rfl (Or.inl rfl) (pe_op op_mul (pv 1) pe_int))))
      (pss_one (ps_ret (pv 1))))), ?_⟩
  rw [st__law_power]
  walk_at "rd"
  refine ⟨(m : Int), rfl, by omega, by omega, ?_⟩
  rw [show ((m : Int)).toNat = m from by omega]
  refine for_range (n := m) (fun i σ H' => (∃ x, σ = [some (.int m), some (.int (2 ^ i)), x]) ∧ H' = H) ⟨⟨_, rfl⟩, rfl⟩ ?_ ?_
  · rintro i σ H' hi ⟨⟨x, rfl⟩, rfl⟩
    walk_at "rd"
    exact ⟨⟨_, by rw [Int.pow_succ]⟩, rfl⟩
  · rintro σ H' ⟨⟨x, rfl⟩, rfl⟩
    walk_at "rd"
    exact q
theorem ok__law_key {f : Addr} {fd : FuncData} (F : Fun K "_law_key" "_law_key" s__law_key f fd) (mF : mg "_law_key" = some (.ref f)) (bF : Binds K fd ["_law_hand"] []) (T : Bl mg) (C__law_draw : Cal P w K mg base "_law_draw" ["_law_hand", "_law_many"] 1 (sp__law_draw K)) (C__law_far : Cal P w K mg base "_law_far" ["_law_hand", "_law_many"] 2 (sp__law_far K)) (C__law_power : Cal P w K mg base "_law_power" ["_law_many"] 1 (sp__law_power K)) : Cal P w K mg base "_law_key" ["_law_hand"] 3 (sp__law_key K) := by
  refine Cal.of F mF bF sc__law_key (fun vs H Q E h => ?_) (fun cdv A outer s H vs Q E hr h => ?_)
  · obtain ⟨p, N, rfl, _⟩ := h; rfl
  obtain ⟨p, N, rfl, hh, hN, q⟩ := h
  refine ⟨_, (pss_cons (ps_set (i := 1) sc__law_key.nd rfl (Or.inl rfl) (pcl C__law_draw (hr.mono (by decide)) (pa_cons (pv 0) (pa_cons pe_int pa_nil stx_Constant) stx_Name)))
      (pss_cons (ps_set (i := 2) sc__law_key.nd rfl (Or.inl rfl) (pcl C__law_draw (hr.mono (by decide)) (pa_cons (pv 0) (pa_cons (pe_ix ix_list (pe_lst (pa_cons pe_int (pa_cons pe_int (pa_cons pe_int pa_nil stx_Constant) stx_Constant) stx_Constant)) (pcl C__law_draw (hr.mono (by decide)) (pa_cons (pv 0) (pa_cons pe_int pa_nil stx_Constant) stx_Name)) (fun _ _ => rfl)) pa_nil stx_Subscript) stx_Name)))
      (pss_cons (ps_if (pt_cmpR op_lt (pv 1) pe_int (nomark _)) (pss_one (ps_ret (pv 2))) pss_nil)
      (pss_cons (ps_if (pt_cmpR op_eq (pv 1) pe_int (nomark _)) (pss_one (ps_ret (pe_op op_sub (pe_op op_sub (pe_powC (c := 1152921504606846976) (by decide +kernel) ⟨by decide, by decide, by decide⟩) pe_int) (pv 2)))) pss_nil)
      (pss_cons (ps_if (pt_cmpR op_eq (pv 1) pe_int (nomark _)) (pss_one (ps_ret (pe_op op_add (pv 2) (pcl C__law_power (hr.mono (by decide)) (pa_cons (pe_op op_add pe_int (pcl C__law_draw (hr.mono (by decide)) (pa_cons (pv 0) (pa_cons pe_int pa_nil stx_Constant) stx_Name))) pa_nil stx_BinOp))))) pss_nil)
      (pss_cons (ps_if (pt_cmpR op_eq (pv 1) pe_int (nomark _)) (pss_one (ps_ret (pe_op op_add (pe_op op_mod (pv 2) pe_int) (pe_op op_mul pe_int (pcl C__law_far (hr.mono (by decide)) (pa_cons (pv 0) (pa_cons (pe_powC (c := 72057594037927936) (by decide +kernel) ⟨by decide, by decide, by decide⟩) pa_nil stx_BinOp) stx_Name)))))) pss_nil)
      (pss_one (ps_ret (pcl C__law_far (hr.mono (by decide)) (pa_cons (pv 0) (pa_cons (pe_powC (c := 1152921504606846976) (by decide +kernel) ⟨by decide, by decide, by decide⟩) pa_nil stx_BinOp) stx_Name)))))))))), ?_⟩
  rw [st__law_key]
  walk_at "rd"
  refine ⟨p, N, 7, rfl, hh, by omega, by decide, by decide, fun way H1 w0 w1 hh1 k1 => ?_⟩
  walk_at "rd"
  refine ⟨(by show 3 ≤ sizeLine; decide), fun l nl => ?_⟩
  walk_at "rd"
  have k2 := k1.trans (Kp.of (same_new nl (.lst [V.int 4, V.int 16, V.int 200])) hh1)
  have hh2 := hh1.same (same_new nl (.lst [V.int 4, V.int 16, V.int 200]))
  have hl : (upd H1 l (.lst [V.int 4, V.int 16, V.int 200])) l = some (.lst [V.int 4, V.int 16, V.int 200]) := upd_same
  have nlp : l ≠ p := by
    obtain ⟨l1, d, c, ns, h1, _⟩ := hh1.ex
    exact (ne_of_none h1 nl).symm
  generalize upd H1 l (.lst [V.int 4, V.int 16, V.int 200]) = H2 at k2 hh2 hl ⊢
  refine ⟨p, N + 1, 3, rfl, hh2, by omega, by decide, by decide, fun r H3 r0 r1 hh3 k3 => ?_⟩
  have hl3 := k3.1 _ _ hl nlp
  obtain ⟨b, hb, b0, b1⟩ : ∃ b : Int, atI [V.int 4, V.int 16, V.int 200] r = some (.int b) ∧ 0 < b ∧ b ≤ 200 := by
    have : r = 0 ∨ r = 1 ∨ r = 2 := by omega
    rcases this with rfl | rfl | rfl
    · exact ⟨4, rfl, by decide, by decide⟩
    · exact ⟨16, rfl, by decide, by decide⟩
    · exact ⟨200, rfl, by decide, by decide⟩
  refine rd_ixL (SqL.of hl3) hb ?_
  walk_at "rd"
  refine ⟨p, N + 1 + 1, b, rfl, hh3, by omega, b0, by omega, fun low H4 l0 l1 hh4 k4 => ?_⟩
  have k5 := (k2.trans k3).trans k4
  walk_at "rd"
  refine rd_if (fun c1 => ?_) (fun c1 => ?_)
  · walk_at "rd"
    exact q _ _ l0 (by omega) (hh4.mono (by omega)) k5
  walk_at "rd"
  refine rd_if (fun c2 => ?_) (fun c2 => ?_)
  · walk_at "rd"
    exact q _ _ (by omega) (by omega) (hh4.mono (by omega)) k5
  walk_at "rd"
  refine rd_if (fun c3 => ?_) (fun c3 => ?_)
  · walk_at "rd"
    refine ⟨p, N + 1 + 1 + 1, 52, rfl, hh4, by omega, by decide, by decide, fun e H5 e0 e1 hh5 k6 => ?_⟩
    walk_at "rd"
    obtain ⟨m, rfl⟩ : ∃ m : Nat, e = (m : Int) := ⟨e.toNat, by omega⟩
    refine ⟨8 + m, (by show [V.int (8 + (m : Int))] = [V.int ((8 + m : Nat) : Int)]; rw [show (8 + (m : Int)) = ((8 + m : Nat) : Int) by omega]), by omega, ?_⟩
    walk_at "rd"
    have h1 : (2 : Int) ^ (8 + m) ≤ 2 ^ 59 := pow2_le (by omega)
    have h2 : (0 : Int) < 2 ^ (8 + m) := Int.pow_pos (by decide)
    have h3 : (2 : Int) ^ 59 = 576460752303423488 := by decide
    exact q _ _ (by omega) (by omega) (hh5.mono (by omega)) (k5.trans k6)
  walk_at "rd"
  refine rd_if (fun c4 => ?_) (fun c4 => ?_)
  · walk_at "rd"
    refine ⟨p, N + 1 + 1 + 1, _, rfl, hh4, by omega, by decide, by decide, fun e H5 e0 e1 hh5 k6 => ?_⟩
    walk_at "rd"
    exact q _ _ (by omega) (by omega) (hh5.mono (by omega)) (k5.trans k6)
  · walk_at "rd"
    exact ⟨p, N + 1 + 1 + 1, _, rfl, hh4, by omega, by decide, by decide, fun e H5 e0 e1 hh5 k6 => q _ _ e0 e1 (hh5.mono (by omega)) (k5.trans k6)⟩

theorem ok__law_keys {f : Addr} {fd : FuncData} (F : Fun K "_law_keys" "_law_keys" s__law_keys f fd) (mF : mg "_law_keys" = some (.ref f)) (bF : Binds K fd ["_law_hand", "_law_many"] []) (T : Bl mg) (C__law_key : Cal P w K mg base "_law_key" ["_law_hand"] 3 (sp__law_key K)) : Cal P w K mg base "_law_keys" ["_law_hand", "_law_many"] 4 (sp__law_keys K) := by
  refine Cal.of F mF bF sc__law_keys (fun vs H Q E h => ?_) (fun cdv A outer s H vs Q E hr h => ?_)
  · obtain ⟨p, N, n, rfl, _⟩ := h; rfl
  obtain ⟨p, N, n, rfl, hh, hN, n0, n1, q⟩ := h
  have e60 : (2 : Int) ^ 60 = 1152921504606846976 := by decide
  refine ⟨_, (pss_cons (ps_set (i := 2) sc__law_keys.nd rfl (Or.inl rfl) (pe_lst pa_nil))
      (pss_cons (ps_for PassesOwn.never rfl (pi_range1 rfl T.range (pa_cons (pv 1) pa_nil stx_Name)) (pg_name (i := 3) sc__law_keys.nd rfl (Or.inl rfl)) (pss_cons (ps_set (i := 4) sc__law_keys.nd rfl (Or.inl rfl) (pcl C__law_key (hr.mono (by decide)) (pa_cons (pv 0) pa_nil stx_Name)))
      (pss_cons (ps_while PassesOwn.never (pt_cmpR op_in_seq (pv 4) (pv 2) (by with_unfolding_all rfl)) (pss_one (ps_set (i := 4) sc__law_keys.nd rfl (Or.inl rfl) (pe_op op_mod (pe_op op_add (pv 4) pe_int) (pe_powC (c := 1152921504606846976) (by decide +kernel) ⟨by decide, by decide, by decide⟩)))))
      (pss_one (ps_expr (pe_bm PySem.F.plainAttrs_list PySem.F.slot_list_append PySem.F.type_list_append mt_append (pv 2) (pa_cons (pv 4) pa_nil stx_Name)))))))
      (pss_one (ps_ret (pv 2))))), ?_⟩
  rw [st__law_keys]
  walk_at "rd"
  refine ⟨by decide, fun D nD => ?_⟩
  have ck := CK.start (ys := []) hh nD
  generalize upd H D _ = H1 at ck ⊢
  walk_at "rd"
  refine ⟨n, rfl, by omega, by omega, ?_⟩
  refine for_range (n := n.toNat) (fun i σ H' => (∃ x1 x2, σ = [some (.ref p), some (.int n), some (.ref D), x1, x2]) ∧ ∃ ns : List Int, ns.Nodup ∧ (∀ k ∈ ns, 0 ≤ k ∧ k < 1152921504606846976) ∧ ns.length = i ∧ CK H p D (N + 20 * i) (ns.map V.int) H') ⟨⟨_, _, rfl⟩, [], List.nodup_nil, by simp, rfl, ck⟩ ?_ ?_
  · rintro i σ H2 hi ⟨⟨x1, x2, rfl⟩, ns, nd, bd, len, ck⟩
    walk_at "rd"
    refine ⟨p, _, rfl, ck.hh, by omega, fun v H3 v0 v1 hh3 k3 => ?_⟩
    have ck := ck.draw k3 hh3
    have hD := ck.lat
    walk_at "rd"
    obtain ⟨m0, hm0⟩ := free_key (ks := ns) (by omega) v
    refine ⟨fun m σ H' => H' = H3 ∧ ∃ v, σ = [some (.ref p), some (.int n), some (.ref D), some (.int (0 + i)), some (.int v)] ∧ 0 ≤ v ∧ v < 1152921504606846976 ∧ (v + m) % 1152921504606846976 ∉ ns, ⟨m0, rfl, v, rfl, v0, by omega, hm0⟩, ?_⟩
    rintro m σ H' ⟨rfl, v, rfl, u0, u1, hm⟩
    walk_at "rd"
    refine rd_inI (SqL.of hD) ?_
    walk_at "rd"
    refine rd_if (fun c => ?_) (fun c => ?_)
    · refine ⟨_, fun σ' H'' h => h, ?_⟩
      walk_at "rd"
      have hm1 : m ≠ 0 := fun e => by
        subst e
        rw [show ((0 : Nat) : Int) = 0 from rfl, Int.add_zero, Int.emod_eq_of_lt u0 u1] at hm
        exact hm c
      refine ⟨m - 1, by omega, rfl, (v + 1) % 1152921504606846976, rfl, by omega, by omega, ?_⟩
      have e : ((v + 1) % 1152921504606846976 + ((m - 1 : Nat) : Int)) % 1152921504606846976 = (v + m) % 1152921504606846976 := by omega
      rw [e]; exact hm
    · walk_at "rd"
      refine ⟨.inl ⟨rfl, _, SqL.of hD⟩, ?_⟩
      walk_at "rd"
      refine ⟨D, _, _, rfl, rfl, hD, by rw [List.length_map]; exact small1000 (by omega), ?_⟩
      walk_at "rd"
      refine ⟨⟨_, _, rfl⟩, ns ++ [v], ?_, fun k hk => ?_, by rw [List.length_append, len]; rfl, ?_⟩
      · rw [List.nodup_append]
        exact ⟨nd, by simp, fun a ha b hb e => by simp at hb; rw [hb] at e; exact c (e ▸ ha)⟩
      · rcases List.mem_append.mp hk with z | z
        · exact bd k z
        · simp at z; rw [z]; exact ⟨u0, u1⟩
      · rw [List.map_append]
        exact ck.push
  · rintro σ H2 ⟨⟨x1, x2, rfl⟩, ns, nd, bd, len, ck⟩
    walk_at "rd"
    exact q D ns _ nD ck.lat nd (by omega) bd (ck.hh.mono (by omega)) ck.kp

theorem ok__law_asked {f : Addr} {fd : FuncData} (F : Fun K "_law_asked" "_law_asked" s__law_asked f fd) (mF : mg "_law_asked" = some (.ref f)) (bF : Binds K fd ["_law_way", "_law_keys_here", "_law_rooms", "_law_wide"] []) (T : Bl mg) (C_spread : Cal P w K mg base "spread" ["keys", "rooms"] 5 (sp_spread K)) (C_counts : Cal P w K mg base "counts" ["keys", "rooms"] 6 (sp_counts K)) (C_rows_of : Cal P w K mg base "rows_of" ["keys", "wide"] 3 (sp_rows_of K)) (C_all_looks : Cal P w K mg base "all_looks" ["keys", "rooms", "wide"] 6 (sp_all_looks K)) (C_longest : Cal P w K mg base "longest" ["counts", "wide"] 2 (sp_longest K)) (C_looked : Cal P w K mg base "looked" ["rows", "key"] 1 (sp_looked K)) : Cal P w K mg base "_law_asked" ["_law_way", "_law_keys_here", "_law_rooms", "_law_wide"] 7 (sp__law_asked K) := by
  refine Cal.of F mF bF sc__law_asked (fun vs H Q E h => ?_) (fun cdv A outer s H vs Q E hr h => ?_)
  · obtain ⟨way, a, ns, R, w, rfl, _⟩ := h; rfl
  obtain ⟨way, a, ns, R, w, rfl, ha, nd, nl, r1, r2, w1, w2, wy, q⟩ := h
  refine ⟨_, (pss_cons (ps_if (pt_cmpR op_eq (pv 0) pe_int (nomark _)) (pss_one (ps_ret (pcl C_spread (hr.mono (by decide)) (pa_cons (pv 1) (pa_cons (pv 2) pa_nil stx_Name) stx_Name)))) pss_nil)
      (pss_cons (ps_if (pt_cmpR op_eq (pv 0) pe_int (nomark _)) (pss_one (ps_ret (pcl C_counts (hr.mono (by decide)) (pa_cons (pv 1) (pa_cons (pv 2) pa_nil stx_Name) stx_Name)))) pss_nil)
      (pss_cons (ps_if (pt_cmpR op_eq (pv 0) pe_int (nomark _)) (pss_one (ps_ret (pcl C_rows_of (hr.mono (by decide)) (pa_cons (pv 1) (pa_cons (pv 3) pa_nil stx_Name) stx_Name)))) pss_nil)
      (pss_cons (ps_if (pt_cmpR op_eq (pv 0) pe_int (nomark _)) (pss_one (ps_ret (pcl C_all_looks (hr.mono (by decide)) (pa_cons (pv 1) (pa_cons (pv 2) (pa_cons (pv 3) pa_nil stx_Name) stx_Name) stx_Name)))) pss_nil)
      (pss_cons (ps_if (pt_cmpR op_eq (pv 0) pe_int (nomark _)) (pss_one (ps_ret (pcl C_longest (hr.mono (by decide)) (pa_cons (pcl C_counts (hr.mono (by decide)) (pa_cons (pv 1) (pa_cons (pv 2) pa_nil stx_Name) stx_Name)) (pa_cons (pv 3) pa_nil stx_Name) stx_Call)))) pss_nil)
      (pss_one (ps_ret (pe_comp rfl (blkOk (sc := defScope s__law_asked) (N := ["_law_way", "_law_keys_here", "_law_rooms", "_law_wide"]) (vs := ["_law_key_here"]) (fs := ["_law_keys_here", "_law_wide"]) (js := [1, 3]) (by decide +kernel) rfl rfl) (pi_list (pe_slice sl_list (pv 1) po_none (po_some pe_int))) (fun _ _ _ _ => pg_name (i := 0) (show (["_law_key_here", "_law_keys_here", "_law_wide"] : List Str).Nodup by decide +kernel) rfl (Or.inl rfl)) (fun _ _ _ _ => pif0) (fun _ _ _ _ => (pcl C_looked (hr.mono (by decide)) (pa_cons (pcl C_rows_of (hr.mono (by decide)) (pa_cons (pv 1) (pa_cons (pv 2) pa_nil stx_Name) stx_Name)) (pa_cons (pv 0) pa_nil stx_Name) stx_Call))))))))))), ?_⟩
  rw [st__law_asked]
  walk_at "rd"
  refine rd_if (fun c => ?_) (fun c0 => ?_)
  · walk_at "rd"
    refine ⟨a, ns, R, rfl, ha, by omega, r1, by omega, fun ms l H' p1 p2 nl' hL s1 => ?_⟩
    obtain ⟨as, h1, h2, h3, h4⟩ := hL
    have ll := h2.len
    rw [spreadV_len] at ll
    have mll := p1.length_eq
    exact q _ _ H' ⟨ms, p1, p2, .inl ⟨by omega, rfl⟩⟩ (.ll nl' h1 (by omega) h2 h4 fun r hr' => by have := spread_row hr'; omega) s1
  walk_at "rd"
  refine rd_if (fun c => ?_) (fun c1 => ?_)
  · walk_at "rd"
    refine ⟨a, ns, R, rfl, ha, by omega, r1, by omega, fun ms l H' p1 p2 nl' h1 s1 => ?_⟩
    exact q _ _ H' ⟨ms, p1, p2, .inr (.inl ⟨by omega, rfl⟩)⟩ (.la nl' h1 (by rw [List.length_map, List.length_map, spreadV_len]; omega) AtDs.ints) s1
  walk_at "rd"
  refine rd_if (fun c => ?_) (fun c2 => ?_)
  · walk_at "rd"
    refine ⟨a, ns, w, rfl, ha, by omega, w1, w2, fun ms l H' p1 p2 nl' hL s1 => ?_⟩
    obtain ⟨as, h1, h2, h4⟩ := hL
    have mll := p1.length_eq
    have ll := rows_few (ms := ms) (w := w) (by omega) w1
    exact q _ _ H' ⟨ms, p1, p2, .inr (.inr (.inl ⟨by omega, rfl⟩))⟩ (.ll nl' h1 (by rw [h2.len]; omega) h2 h4 fun r hr' => by have := rows_row hr'; omega) s1
  walk_at "rd"
  refine rd_if (fun c => ?_) (fun c3 => ?_)
  · walk_at "rd"
    refine ⟨a, ns, R, w, rfl, ha, nd, by omega, r1, by omega, w1, w2, fun ms l H' p1 p2 nl' hT s1 => ?_⟩
    obtain ⟨as, h1, h2⟩ := hT
    have mll := p1.length_eq
    have tl : (toldV R w ms).length = ms.length := List.length_map _
    exact q _ _ H' ⟨ms, p1, p2.imp fun h => Int.le_of_lt h, .inr (.inr (.inr (.inl ⟨by omega, rfl⟩)))⟩ (.la nl' h1 (by rw [List.length_map, h2.len]; omega) (AtDs.p2 h2)) s1
  walk_at "rd"
  refine rd_if (fun c => ?_) (fun c4 => ?_)
  · walk_at "rd"
    refine ⟨a, ns, R, rfl, ha, by omega, r1, by omega, fun ms l H1 p1 p2 nl' h1 s1 => ?_⟩
    have cl : ((spreadV ms R).map fun r => (r.length : Int)).length = R := by rw [List.length_map, spreadV_len]
    walk_at "rd"
    refine ⟨l, _, w, rfl, SqL.of h1, (fun z => by rw [z] at cl; simp at cl; omega), by omega, by omega, by omega, fun M t H2 hM hub nt s2 ht => ?_⟩
    exact q _ _ H2 ⟨ms, p1, p2, .inr (.inr (.inr (.inr (.inl ⟨by omega, M, hM, hub, rfl⟩))))⟩ (.at (.tII ht)) (s1.trans s2)
  walk_at "rd"
  refine rd_slL (SqL.of ha) fun e ne => ?_
  generalize hE : upd H e _ = H1
  obtain ⟨he, s1⟩ := newo ne hE
  clear hE
  rw [show (9 : Int) = ((9 : Nat) : Int) from rfl, cut_hiI] at he
  obtain ⟨ms, p1, p2⟩ := sorted_ex ns
  have mll := p1.length_eq
  refine ⟨e, rfl, ⟨_, SqL.of he⟩, fun D nD => ?_⟩
  have ha1 := s1 _ _ ha
  refine comp_list (xs := (ns.take 9).map V.int) (fun i σ' ys H' => (∃ x, σ' = [x, some (.ref a), some (.int w)]) ∧ Same H1 H' ∧ ys.length = i ∧ H' D = some (.lst ys) ∧ AtDs H' ys (((ns.take 9).map fun k => lkD k (rowsV ms w)).take i)) D ⟨⟨_, rfl⟩, same_new nD _, rfl, upd_same, trivial⟩ (fun i σ' ys H' _ h => SqL.of (h.2.1 _ _ he)) ?_ ?_
  · rintro i x σ' ys H2 hx ⟨⟨x1, rfl⟩, s2, yl, hD, hA⟩
    obtain ⟨k, hk, rfl⟩ := ints_get hx
    have il := (List.getElem?_eq_some_iff.mp hk).1
    rw [List.length_take] at il
    walk_at "rd"
    refine ⟨a, ns, w, rfl, s2 _ _ ha1, by omega, w1, w2, fun ms' l H3 p3 p4 nl' hL s3 => ?_⟩
    have e : ms' = ms := sorted_eq (p3.trans p1.symm) p4 p2
    subst e
    have ll := rows_few (ms := ms') (w := w) (by omega) w1
    walk_at "rd"
    refine ⟨l, k, _, rfl, hL.rl, by omega, fun t H4 nt ht s4 => ?_⟩
    have s24 := s3.trans s4
    refine ⟨s24 _ _ hD, small1000 (by omega), ⟨_, rfl⟩, fun b o e => by rw [upd_ne (ne_of_none e nD)]; exact s24 _ _ (s2 _ _ e), by rw [List.length_append, yl]; rfl, upd_same, ?_⟩
    rw [take_get (x := lkD k (rowsV ms' w)) (by rw [List.getElem?_map, hk]; rfl)]
    refine AtDs.keep (H := H4) (fun t xs e => ?_) (AtDs.snoc (.tBI ht) (hA.keep fun _ _ e => s24 _ _ e))
    rw [upd_ne (ne_of e (s24 _ _ hD) (by intro z; cases z))]; exact e
  · rintro σ' ys H2 ⟨⟨x1, rfl⟩, s2, yl, hD, hA⟩
    rw [List.length_map] at yl hA
    rw [List.take_of_length_le (by rw [List.length_map]; exact Nat.le_refl _)] at hA
    walk_at "rd"
    exact q _ _ H2 ⟨ms, p1, p2, .inr (.inr (.inr (.inr (.inr ⟨by omega, rfl⟩))))⟩ (.la (s1.free nD) hD (by rw [yl, List.length_take]; omega) hA) (s1.trans s2)
theorem ok__law_copy {f : Addr} {fd : FuncData} (F : Fun K "_law_copy" "_law_copy" s__law_copy f fd) (mF : mg "_law_copy" = some (.ref f)) (bF : Binds K fd ["_law_told"] []) (T : Bl mg) {kk jj : Nat} (C__law_copy : Cal P w K mg base "_law_copy" ["_law_told"] kk (spr__law_copy K jj)) : Cal P w K mg base "_law_copy" ["_law_told"] (kk + 1) (spr__law_copy K (jj + 1)) := by
  refine Cal.of F mF bF sc__law_copy (fun vs H Q E h => ?_) (fun cdv A outer s H vs Q E hr h => ?_)
  · obtain ⟨v, d, rfl, _⟩ := h; rfl
  obtain ⟨v, d, rfl, h⟩ := h
  refine ⟨_, (pss_cons (ps_if (pt_val (pe_callB call_isinst rfl T.isinstance bt_isinstance (pa_cons (pv 0) (pa_cons (pe_bltn (v := .ty "list") rfl T.list bt_list rfl) pa_nil stx_Name) stx_Name))) (pss_one (ps_ret (pe_comp rfl (blkOk (sc := defScope s__law_copy) (N := ["_law_told"]) (vs := ["_law_one"]) (fs := []) (js := []) (by decide +kernel) rfl rfl) (pi_list (pv 0)) (fun _ _ _ _ => pg_name (i := 0) (show (["_law_one"] : List Str).Nodup by decide +kernel) rfl (Or.inl rfl)) (fun _ _ _ _ => pif0) (fun _ _ _ _ => (pcl C__law_copy hr (pa_cons (pv 0) pa_nil stx_Name)))))) pss_nil)
      (pss_one (ps_ret (pv 0)))), ?_⟩
  rw [st__law_copy]
  walk_at "rd"
  rcases h with ⟨h, q⟩ | ⟨l, xs, hj, rfl, hl, xl, ha, q⟩ | ⟨l, as, rs, hj, rfl, hl, al, hL, rl, q⟩
  · cases h with
    | int n =>
      refine rd_isi (.int n) (b := false) rfl ?_
      walk_at "rd"
      exact q
    | tII h =>
      refine rd_isi (.tup h) (b := false) rfl ?_
      walk_at "rd"
      exact q
    | tBI h =>
      refine rd_isi (.tup h) (b := false) rfl ?_
      walk_at "rd"
      exact q
  · obtain ⟨j, rfl⟩ : ∃ j, jj = j + 1 := ⟨jj - 1, by omega⟩
    refine rd_isi (.lst hl) (b := true) rfl ?_
    walk_at "rd"
    refine ⟨l, rfl, ⟨_, SqL.of hl⟩, fun D nD => ?_⟩
    refine comp_list (xs := xs) (fun i σ' ys H' => (∃ x, σ' = [x]) ∧ Same H H' ∧ ys = xs.take i ∧ H' D = some (.lst ys)) D ⟨⟨_, rfl⟩, same_new nD _, rfl, upd_same⟩ (fun i σ' ys H' _ h => SqL.of (h.2.1 _ _ hl)) ?_ ?_
    · rintro i x σ' ys H1 hx ⟨⟨x1, rfl⟩, s1, rfl, hD⟩
      obtain ⟨d', hd'⟩ := ha x (List.mem_of_getElem? hx)
      have il := (List.getElem?_eq_some_iff.mp hx).1
      walk_at "rd"
      refine ⟨x, d', rfl, .inl ⟨hd'.keep fun _ _ e => s1 _ _ e, ?_⟩⟩
      refine ⟨hD, by rw [List.length_take]; exact small1000 (by omega), ⟨_, rfl⟩, fun b o e => by rw [upd_ne (ne_of_none e nD)]; exact s1 _ _ e, ?_, upd_same⟩
      rw [take_get hx]
    · rintro σ' ys H1 ⟨⟨x1, rfl⟩, s1, rfl, hD⟩
      rw [List.take_length] at hD
      walk_at "rd"
      exact q D H1 nD hD s1
  · obtain ⟨j, rfl⟩ : ∃ j, jj = j + 1 := ⟨jj - 1, by omega⟩
    refine rd_isi (.lst hl) (b := true) rfl ?_
    walk_at "rd"
    refine ⟨l, rfl, ⟨_, SqL.of hl⟩, fun D nD => ?_⟩
    refine comp_list (xs := as.map V.ref) (fun i σ' ys H' => (∃ x, σ' = [x]) ∧ Same H H' ∧ ∃ bs : List Addr, ys = bs.map V.ref ∧ bs.length = i ∧ Ls H' bs (rs.take i) ∧ (∀ b ∈ bs, H b = none ∧ b ≠ D) ∧ H' D = some (.lst ys)) D ⟨⟨_, rfl⟩, same_new nD _, [], rfl, rfl, trivial, fun _ h => (by cases h), upd_same⟩ (fun i σ' ys H' _ h => SqL.of (h.2.1 _ _ hl)) ?_ ?_
    · rintro i x σ' ys H1 hx ⟨⟨x1, rfl⟩, s1, bs, rfl, bl, hB, bn, hD⟩
      obtain ⟨b, hb, rfl⟩ := refs_get hx
      obtain ⟨r, hr1, hbr⟩ := hL.get hb
      have il := (List.getElem?_eq_some_iff.mp hb).1
      walk_at "rd"
      refine ⟨.ref b, .none, rfl, .inr (.inl ⟨b, r.map V.int, by omega, rfl, s1 _ _ hbr, by rw [List.length_map]; exact rl r (List.mem_of_getElem? hr1), fun x hx => ?_, fun l' H2 nl' hl' s2 => ?_⟩)⟩
      · obtain ⟨n, _, rfl⟩ := List.mem_map.mp hx
        exact ⟨_, .int n⟩
      have lD : l' ≠ D := fun z => by rw [z, hD] at nl'; cases nl'
      refine ⟨s2 _ _ hD, by rw [List.length_map]; exact small1000 (by omega), ⟨_, rfl⟩, fun c o e => ?_, bs ++ [l'], by rw [List.map_append]; rfl, by rw [List.length_append, bl]; rfl, ?_, fun c hc => ?_, upd_same⟩
      · rw [upd_ne (ne_of_none e nD)]; exact s2 _ _ (s1 _ _ e)
      · rw [take_get hr1]
        refine Ls.snoc ?_ (hB.same fun c hc o e => ?_)
        · rw [upd_ne lD]; exact hl'
        · rw [upd_ne (bn c hc).2]; exact s2 _ _ e
      · rcases List.mem_append.mp hc with h | h
        · exact bn c h
        · have e : c = l' := by simpa using h
          rw [e]; exact ⟨s1.free nl', lD⟩
    · rintro σ' ys H1 ⟨⟨x1, rfl⟩, s1, bs, rfl, bl, hB, bn, hD⟩
      rw [List.length_map, hL.len, List.take_length] at hB
      walk_at "rd"
      exact q D H1 nD ⟨bs, hD, hB, bn⟩ s1
theorem ok__law_spoil {f : Addr} {fd : FuncData} (F : Fun K "_law_spoil" "_law_spoil" s__law_spoil f fd) (mF : mg "_law_spoil" = some (.ref f)) (bF : Binds K fd ["_law_told"] []) (T : Bl mg) {kk jj : Nat} (C__law_spoil : Cal P w K mg base "_law_spoil" ["_law_told"] kk (spr__law_spoil K jj)) : Cal P w K mg base "_law_spoil" ["_law_told"] (kk + 1) (spr__law_spoil K (jj + 1)) := by
  refine Cal.of F mF bF sc__law_spoil (fun vs H Q E h => ?_) (fun cdv A outer s H vs Q E hr h => ?_)
  · obtain ⟨v, rfl, _⟩ := h; rfl
  obtain ⟨v, rfl, h⟩ := h
  refine ⟨_, (pss_one (ps_if (pt_val (pe_callB call_isinst rfl T.isinstance bt_isinstance (pa_cons (pv 0) (pa_cons (pe_bltn (v := .ty "list") rfl T.list bt_list rfl) pa_nil stx_Name) stx_Name))) (pss_cons (ps_for PassesOwn.never rfl (pi_list (pv 0)) (pg_name (i := 1) sc__law_spoil.nd rfl (Or.inl rfl)) (pss_one (ps_expr (pcl C__law_spoil hr (pa_cons (pv 1) pa_nil stx_Name)))))
      (pss_one (ps_expr (pe_bm PySem.F.plainAttrs_list PySem.F.slot_list_append PySem.F.type_list_append mt_append (pv 0) (pa_cons pe_int pa_nil stx_Constant))))) pss_nil)), ?_⟩
  rw [st__law_spoil]
  walk_at "rd"
  rcases h with ⟨d, h, q⟩ | ⟨l, xs, hj, rfl, hl, xl, ha, q⟩ | ⟨l, as, hj, rfl, hl, al, hL, q⟩
  · cases h with
    | int n =>
      refine rd_isi (.int n) (b := false) rfl ?_
      walk_at "rd"
      exact q
    | tII h =>
      refine rd_isi (.tup h) (b := false) rfl ?_
      walk_at "rd"
      exact q
    | tBI h =>
      refine rd_isi (.tup h) (b := false) rfl ?_
      walk_at "rd"
      exact q
  · obtain ⟨j, rfl⟩ : ∃ j, jj = j + 1 := ⟨jj - 1, by omega⟩
    refine rd_isi (.lst hl) (b := true) rfl ?_
    walk_at "rd"
    refine ⟨l, rfl, ⟨_, SqL.of hl⟩, ?_⟩
    refine for_list (xs := xs) (fun i σ H' => (∃ x, σ = [some (.ref l), x]) ∧ H' = H) ⟨⟨_, rfl⟩, rfl⟩ (fun _ _ _ _ h => by rw [h.2]; exact SqL.of hl) ?_ ?_
    · rintro i x σ H1 hx ⟨⟨x1, rfl⟩, eH⟩
      obtain ⟨d', hd'⟩ := ha x (List.mem_of_getElem? hx)
      walk_at "rd"
      exact ⟨x, rfl, .inl ⟨d', by rw [eH]; exact hd', ⟨_, rfl⟩, eH⟩⟩
    · rintro σ H1 ⟨⟨x1, rfl⟩, eH⟩
      subst eH
      walk_at "rd"
      refine ⟨.inl ⟨rfl, _, SqL.of hl⟩, ?_⟩
      walk_at "rd"
      refine ⟨l, _, _, rfl, rfl, hl, small1000 (by omega), ?_⟩
      exact q _ upd_same fun b o n e => by rw [upd_ne n]; exact e
  · obtain ⟨j, rfl⟩ : ∃ j, jj = j + 1 := ⟨jj - 1, by omega⟩
    refine rd_isi (.lst hl) (b := true) rfl ?_
    walk_at "rd"
    refine ⟨l, rfl, ⟨_, SqL.of hl⟩, ?_⟩
    refine for_list (xs := as.map V.ref) (fun i σ H' => (∃ x, σ = [some (.ref l), x]) ∧ H' l = some (.lst (as.map V.ref)) ∧ (∀ b ∈ as, ∃ xs : List Int, xs.length ≤ 130 + i ∧ H' b = some (.lst (xs.map V.int))) ∧ ∀ b o, b ≠ l → b ∉ as → H b = some o → H' b = some o) ⟨⟨_, rfl⟩, hl, fun b hb => (hL b hb).2, fun _ _ _ _ e => e⟩ (fun _ _ _ _ h => SqL.of h.2.1) ?_ ?_
    · rintro i x σ H1 hx ⟨⟨x1, rfl⟩, hl1, hL1, k1⟩
      obtain ⟨b, hb, rfl⟩ := refs_get hx
      have il := (List.getElem?_eq_some_iff.mp hb).1
      have bm := List.mem_of_getElem? hb
      obtain ⟨xs, xl, hx1⟩ := hL1 b bm
      walk_at "rd"
      refine ⟨.ref b, rfl, .inr (.inl ⟨b, xs.map V.int, by omega, rfl, hx1, by rw [List.length_map]; omega, fun x hx => ?_, fun H2 hb2 k2 => ?_⟩)⟩
      · obtain ⟨n, _, rfl⟩ := List.mem_map.mp hx
        exact ⟨_, .int n⟩
      refine ⟨⟨_, rfl⟩, k2 _ _ (Ne.symm (hL b bm).1) hl1, fun c hc => ?_, fun c o n1 n2 e => k2 _ _ (fun z => n2 (z ▸ bm)) (k1 c o n1 n2 e)⟩
      by_cases z : c = b
      · rw [z]
        exact ⟨xs ++ [5], by rw [List.length_append, List.length_singleton]; omega, by rw [hb2, List.map_append]; rfl⟩
      · obtain ⟨ys, yl, hy⟩ := hL1 c hc
        exact ⟨ys, by omega, k2 _ _ z hy⟩
    · rintro σ H1 ⟨⟨x1, rfl⟩, hl1, hL1, k1⟩
      walk_at "rd"
      refine ⟨.inl ⟨rfl, _, SqL.of hl1⟩, ?_⟩
      walk_at "rd"
      refine ⟨l, _, _, rfl, rfl, hl1, by rw [List.length_map]; exact small1000 (by omega), ?_⟩
      exact q _ fun b o n1 n2 e => by rw [upd_ne n1]; exact k1 b o n1 n2 e
theorem ok_law {f : Addr} {fd : FuncData} (F : Fun K "law" "law" s_law f fd) (T : Bl mg) (C__law_open : Cal P w K mg base "_law_open" ["_law_script", "_law_place"] 1 (sp__law_open K)) (C__law_draw : Cal P w K mg base "_law_draw" ["_law_hand", "_law_many"] 1 (sp__law_draw K)) (C__law_asked : Cal P w K mg base "_law_asked" ["_law_way", "_law_keys_here", "_law_rooms", "_law_wide"] 7 (sp__law_asked K)) (C__law_spoil : Cal P w K mg base "_law_spoil" ["_law_told"] 4 (sp__law_spoil K)) (C__law_keys : Cal P w K mg base "_law_keys" ["_law_hand", "_law_many"] 4 (sp__law_keys K)) (C__law_copy : Cal P w K mg base "_law_copy" ["_law_told"] 4 (sp__law_copy K)) : FnOk P w K mg base CX0 8 f fd ["_law_script"] (sp_law K) := by
  refine F.ok sc_law (fun vs H Q E h => ?_) (fun cdv A outer s H vs Q E hr h => ?_)
  · obtain ⟨a, ns, rfl, _⟩ := h; rfl
  obtain ⟨a, ms, rfl, hS, hlen, q⟩ := h
  have hu := hr.units
  have hu1 := hu_of hr
  refine ⟨_, (pss_cons (ps_set (i := 1) sc_law.nd rfl (Or.inl rfl) (pe_lst pa_nil))
      (pss_cons (ps_for PassesOwn.never rfl (pi_range1 rfl T.range (pa_cons pe_int pa_nil stx_Constant)) (pg_name (i := 2) sc_law.nd rfl (Or.inl rfl)) (pss_cons (ps_set (i := 3) sc_law.nd rfl (Or.inl rfl) (pcl C__law_open (hr.mono (by decide)) (pa_cons (pv 0) (pa_cons (pv 2) pa_nil stx_Name) stx_Name)))
      (pss_cons (ps_set (i := 4) sc_law.nd rfl (Or.inl rfl) (pe_lst (pa_cons (pe_op op_add pe_int (pcl C__law_draw (hr.mono (by decide)) (pa_cons (pv 3) (pa_cons pe_int pa_nil stx_Constant) stx_Name))) (pa_cons (pe_op op_add pe_int (pcl C__law_draw (hr.mono (by decide)) (pa_cons (pv 3) (pa_cons pe_int pa_nil stx_Constant) stx_Name))) pa_nil stx_BinOp) stx_BinOp)))
      (pss_one (ps_expr (pe_bm PySem.F.plainAttrs_list PySem.F.slot_list_append PySem.F.type_list_append mt_append (pv 1) (pa_cons (pe_tup (pa_cons (pcl C__law_keys (hr.mono (by decide)) (pa_cons (pv 3) (pa_cons (pcl C__law_draw (hr.mono (by decide)) (pa_cons (pv 3) (pa_cons pe_int pa_nil stx_Constant) stx_Name)) pa_nil stx_Call) stx_Name)) (pa_cons (pe_ix ix_list (pv 4) pe_int (fun _ _ => rfl)) (pa_cons (pe_ix ix_list (pv 4) pe_int (fun _ _ => rfl)) pa_nil stx_Subscript) stx_Subscript) stx_Call)) pa_nil stx_Tuple)))))))
      (pss_cons (ps_set (i := 5) sc_law.nd rfl (Or.inl rfl) (pe_lst pa_nil))
      (pss_cons (ps_for PassesOwn.never rfl (pi_list (pv 1)) (pg_tup rfl (pgs_cons (pg_name (i := 6) sc_law.nd rfl (Or.inr rfl)) (pgs_cons (pg_name (i := 7) sc_law.nd rfl (Or.inr rfl)) (pgs_cons (pg_name (i := 8) sc_law.nd rfl (Or.inr rfl)) pgs_nil)))) (pss_one (ps_expr (pe_bm PySem.F.plainAttrs_list PySem.F.slot_list_append PySem.F.type_list_append mt_append (pv 5) (pa_cons (pe_comp rfl (blkOk (sc := defScope s_law) (N := ["_law_script", "_law_worlds", "_law_place", "_law_hand", "_law_sizes", "_law_first", "_law_keys_here", "_law_rooms", "_law_wide", "_law_way", "_law_kept", "_law_at", "_law_handed", "_law_told", "_law_due"]) (vs := ["_law_way"]) (fs := ["_law_keys_here", "_law_rooms", "_law_wide"]) (js := [6, 7, 8]) (by decide +kernel) rfl rfl) (pi_range1 rfl T.range (pa_cons pe_int pa_nil stx_Constant)) (fun _ _ _ _ => pg_name (i := 0) (show (["_law_way", "_law_keys_here", "_law_rooms", "_law_wide"] : List Str).Nodup by decide +kernel) rfl (Or.inl rfl)) (fun _ _ _ _ => pif0) (fun _ _ _ _ => (pcl C__law_copy (hr.mono (by decide)) (pa_cons (pcl C__law_asked (hr.mono (by decide)) (pa_cons (pv 0) (pa_cons (pe_callTy (call_list_ofK (K := K) rfl) rfl T.list bt_list (pa_cons (pv 1) pa_nil stx_Name)) (pa_cons (pv 2) (pa_cons (pv 3) pa_nil stx_Name) stx_Name) stx_Call) stx_Name)) pa_nil stx_Call)))) pa_nil stx_ListComp)))))
      (pss_cons (ps_set (i := 10) sc_law.nd rfl (Or.inl rfl) (pe_lst pa_nil))
      (pss_cons (ps_for PassesOwn.never rfl (pi_range2 rfl T.range (pa_cons pe_int (pa_cons pe_int pa_nil stx_Constant) stx_Constant)) (pg_name (i := 2) sc_law.nd rfl (Or.inl rfl)) (pss_cons (ps_set (i := 3) sc_law.nd rfl (Or.inl rfl) (pcl C__law_open (hr.mono (by decide)) (pa_cons (pv 0) (pa_cons (pv 2) pa_nil stx_Name) stx_Name)))
      (pss_cons (ps_set (i := 11) sc_law.nd rfl (Or.inl rfl) (pcl C__law_draw (hr.mono (by decide)) (pa_cons (pv 3) (pa_cons pe_int pa_nil stx_Constant) stx_Name)))
      (pss_cons (ps_set (i := 9) sc_law.nd rfl (Or.inl rfl) (pcl C__law_draw (hr.mono (by decide)) (pa_cons (pv 3) (pa_cons pe_int pa_nil stx_Constant) stx_Name)))
      (pss_cons (ps_asg (pe_ix ix_list (pv 1) (pv 11) (fun _ _ => rfl)) (pg_tup rfl (pgs_cons (pg_name (i := 6) sc_law.nd rfl (Or.inr rfl)) (pgs_cons (pg_name (i := 7) sc_law.nd rfl (Or.inr rfl)) (pgs_cons (pg_name (i := 8) sc_law.nd rfl (Or.inr rfl)) pgs_nil)))))
      (pss_cons (ps_set (i := 12) sc_law.nd rfl (Or.inl rfl) (pe_callTy call_list_of rfl T.list bt_list (pa_cons (pv 6) pa_nil stx_Name)))
      (pss_cons (ps_set (i := 13) sc_law.nd rfl (Or.inl rfl) (pcl C__law_asked (hr.mono (by decide)) (pa_cons (pv 9) (pa_cons (pv 12) (pa_cons (pv 7) (pa_cons (pv 8) pa_nil stx_Name) stx_Name) stx_Name) stx_Name)))
      (pss_cons (ps_if (PW.pt (pw_or (pt_cmpR (op_neD hu) (pv 13) (pe_ix ix_list (pe_ix ix_list (pv 5) (pv 11) (fun _ _ => rfl)) (pv 9) (fun _ _ => rfl)) (nomark _)) (pw_or1 (pt_cmpR (op_neD hu) (pv 12) (pv 6) (nomark _))))) (pss_one (ps_ret pe_bl)) pss_nil)
      (pss_cons (ps_expr (pe_bm PySem.F.plainAttrs_list PySem.F.slot_list_append PySem.F.type_list_append mt_append (pv 12) (pa_cons pe_int pa_nil stx_Constant)))
      (pss_cons (ps_expr (pe_bm PySem.F.plainAttrs_list PySem.F.slot_list_pop PySem.F.type_list_pop mt_popAt (pv 12) (pa_cons pe_int pa_nil stx_Constant)))
      (pss_one (ps_if (pt_cmpR op_eq (pcl C__law_draw (hr.mono (by decide)) (pa_cons (pv 3) (pa_cons pe_int pa_nil stx_Constant) stx_Name)) pe_int (nomark _)) (pss_one (ps_expr (pe_bm PySem.F.plainAttrs_list PySem.F.slot_list_append PySem.F.type_list_append mt_append (pv 10) (pa_cons (pe_tup (pa_cons (pv 13) (pa_cons (pe_ix ix_list (pe_ix ix_list (pv 5) (pv 11) (fun _ _ => rfl)) (pv 9) (fun _ _ => rfl)) pa_nil stx_Subscript) stx_Name)) pa_nil stx_Tuple)))) (pss_one (ps_expr (pcl C__law_spoil (hr.mono (by decide)) (pa_cons (pv 13) pa_nil stx_Name))))))))))))))))
      (pss_cons (ps_for PassesOwn.never rfl (pi_list (pv 10)) (pg_tup rfl (pgs_cons (pg_name (i := 13) sc_law.nd rfl (Or.inl rfl)) (pgs_cons (pg_name (i := 14) sc_law.nd rfl (Or.inl rfl)) pgs_nil))) (pss_one (ps_if (pt_cmpR (op_neD hu) (pv 13) (pv 14) (nomark _)) (pss_one (ps_ret pe_bl)) pss_nil)))
      (pss_one (ps_ret pe_bl))))))))), ?_⟩
  rw [st_law]
  walk_at "rd"
  refine ⟨by decide, fun Wl nW => ?_⟩
  generalize hE : upd H Wl _ = H1
  obtain ⟨hW1, s1⟩ := newo nW hE
  clear hE
  walk_at "rd"
  refine ⟨2, rfl, by omega, by omega, ?_⟩
  refine for_range (n := 2) (fun i σ H' => (∃ x2 x3 x4, σ = [some (.ref a), some (.ref Wl), x2, x3, x4, none, none, none, none, none, none, none, none, none, none]) ∧ Same H H' ∧ ∃ (ts : List Addr) (xs : List (List Int × Nat × Nat)), H' Wl = some (.lst (ts.map V.ref)) ∧ ts.length = i ∧ Ps (Wd (fun b => b ≠ Wl) H') ts xs) ⟨⟨_, _, _, rfl⟩, s1, [], [], hW1, rfl, trivial⟩ ?_ ?_
  · rintro i σ H2 hi ⟨⟨x2, x3, x4, rfl⟩, s2, ts, xs, hW2, tl, hP⟩
    walk_at "rd"
    refine ⟨a, ms, 0 + i, rfl, s2.seq hS, hlen, by omega, by omega, fun p H3 np s3 hh3 => ?_⟩
    walk_at "rd"
    refine ⟨p, _, 130, rfl, hh3, by decide, by decide, by decide, fun r0 H4 u0 u1 hh4 kp4 => ?_⟩
    walk_at "rd"
    refine ⟨p, _, 8, rfl, hh4, by decide, by decide, by decide, fun w0 H5 v0 v1 hh5 kp5 => ?_⟩
    walk_at "rd"
    obtain ⟨R, hR, r1, r2⟩ : ∃ R : Nat, 1 + r0 = (R : Int) ∧ 1 ≤ R ∧ R ≤ 130 := ⟨(1 + r0).toNat, by omega, by omega, by omega⟩
    obtain ⟨w, hw, w1, w2⟩ : ∃ w : Nat, 1 + w0 = (w : Int) ∧ 1 ≤ w ∧ w ≤ 8 := ⟨(1 + w0).toNat, by omega, by omega, by omega⟩
    rw [hR, hw]
    refine ⟨(by show 2 ≤ sizeLine; decide), fun sz nsz => ?_⟩
    have szp := hh5.ne nsz
    have kp35 := kp4.trans kp5
    have s25 : Same H2 H5 := Kp.new s3 np kp35
    generalize hE : upd H5 sz _ = H6
    obtain ⟨hsz, s6⟩ := newo nsz hE
    clear hE
    have hh6 := hh5.same s6
    have s26 := s25.trans s6
    have Wp : Wl ≠ p := ne_of_none hW2 np
    walk_at "rd"
    refine ⟨.inl ⟨rfl, _, SqL.of (s26 _ _ hW2)⟩, ?_⟩
    walk_at "rd"
    refine ⟨p, _, 61, rfl, hh6, by decide, by decide, by decide, fun n H7 n0 n1 hh7 kp7 => ?_⟩
    walk_at "rd"
    refine ⟨p, _, n, rfl, hh7, by decide, n0, by omega, fun l ns H8 nl hl hns hln hks hh8 kp8 => ?_⟩
    have kp68 := kp7.trans kp8
    have s28 : Same H2 H8 := fun b o e => kp68.1 _ _ (s26 _ _ e) (ne_of_none e np)
    have hsz8 := kp68.1 _ _ hsz szp
    have lW : l ≠ Wl := fun z => by rw [z, kp7.1 _ _ (s26 _ _ hW2) Wp] at nl; cases nl
    walk_at "rd"
    refine ⟨(by show 3 ≤ sizeLine; decide), fun t nt => ?_⟩
    generalize hE : upd H8 t _ = H9
    obtain ⟨ht, s9⟩ := newo nt hE
    clear hE
    have s29 := s28.trans s9
    have hW9 := s29 _ _ hW2
    refine ⟨Wl, _, _, rfl, rfl, hW9, by rw [List.length_map]; exact small1000 (by omega), ?_⟩
    have kt : ∀ t xs, H9 t = some (.tup xs) → (upd H9 Wl (.lst (ts.map V.ref ++ [V.ref t]))) t = some (.tup xs) := fun t xs e => by rw [upd_ne (ne_of e hW9 (by intro z; cases z))]; exact e
    refine ⟨⟨_, _, _, rfl⟩, fun b o e => by rw [upd_ne (ne_of_none e nW)]; exact s29 _ _ (s2 _ _ e), ts ++ [t], xs ++ [(ns, R, w)], by rw [upd_same, List.map_append]; rfl, by rw [List.length_append, tl]; rfl, Ps.snoc ?_ (hP.imp fun t x h => h.keep (fun t xs e => ?_) fun t o n e => ?_)⟩
    · refine ⟨l, ?_, lW, ?_, hns, by show ns.length ≤ 70; omega, r1, r2, w1, w2⟩
      · rw [upd_ne (ne_of ht hW9 (by intro z; cases z))]; exact ht
      · rw [upd_ne lW]; exact s9 _ _ hl
    · have e9 := s29 _ _ e
      rw [upd_ne (ne_of e9 hW9 (by intro z; cases z))]; exact e9
    · rw [upd_ne n]; exact s29 _ _ e
  · rintro σ H2 ⟨⟨x2, x3, x4, rfl⟩, s2, ts, xs, hW2, tl, hP⟩
    walk_at "rd"
    refine ⟨by decide, fun Fl nF => ?_⟩
    generalize hE : upd H2 Fl _ = H3
    obtain ⟨hF3, s3⟩ := newo nF hE
    clear hE
    walk_at "rd"
    refine ⟨Wl, rfl, ⟨_, SqL.of (s3 _ _ hW2)⟩, ?_⟩
    refine for_list (xs := ts.map V.ref) (fun i σ H' => (∃ x6 x7 x8, σ = [some (.ref a), some (.ref Wl), x2, x3, x4, some (.ref Fl), x6, x7, x8, none, none, none, none, none, none]) ∧ Same H2 H' ∧ ∃ fs : List Addr, H' Fl = some (.lst (fs.map V.ref)) ∧ fs.length = i ∧ Ps (Fw (fun b => b ≠ Fl) H') fs (xs.take i)) ⟨⟨_, _, _, rfl⟩, s3, [], hF3, rfl, trivial⟩ (fun _ _ _ _ h => SqL.of (h.2.1 _ _ hW2)) ?_ ?_
    · rintro i x σ H4 hx ⟨⟨x6, x7, x8, rfl⟩, s4, fs, hF4, fl, hQ⟩
      obtain ⟨t, ht, rfl⟩ := refs_get hx
      obtain ⟨⟨ns, R, w⟩, hxi, k, hk1, hk2, hk3, hns, hnl, r1, r2, w1, w2⟩ := hP.get ht
      have il := (List.getElem?_eq_some_iff.mp ht).1
      refine ⟨t, _, rfl, SqT.of (s4 _ _ hk1), rfl, _, _, rfl, _, _, rfl, _, _, rfl, rfl, ?_⟩
      walk_at "rd"
      refine ⟨.inl ⟨rfl, _, SqL.of hF4⟩, ?_⟩
      walk_at "rd"
      refine ⟨6, rfl, by omega, by omega, fun D nD => ?_⟩
      have hk4 := s4 _ _ hk3
      have DF : D ≠ Fl := fun z => by rw [z, hF4] at nD; cases nD
      refine comp_range (n := 6) (fun i σ' ys H' => (∃ x, σ' = [x, some (.ref k), some (.int R), some (.int w)]) ∧ Same H4 H' ∧ ys.length = i ∧ H' D = some (.lst ys) ∧ ∀ way < i, ∃ v d, ys[way]? = some v ∧ IsAsk way ns R w d ∧ TS (fun b => b ≠ Fl ∧ b ≠ D) H' v d) D ⟨⟨_, rfl⟩, same_new nD _, rfl, upd_same, fun _ h => by omega⟩ ?_ ?_
      · rintro j σ' ys H5 hj ⟨⟨y, rfl⟩, s5, yl, hD, hA⟩
        walk_at "rd"
        refine rd_listOf (SqL.of (s5 _ _ hk4)) fun h nh => ?_
        generalize hE : upd H5 h _ = H6
        obtain ⟨hh, s6⟩ := newo nh hE
        clear hE
        walk_at "rd"
        refine ⟨j, h, ns, R, w, by rw [Int.zero_add]; rfl, hh, hns, hnl, r1, r2, w1, w2, by omega, fun d v H7 hI hT s7 => ?_⟩
        walk_at "rd"
        refine copy_of hT fun v' H8 hT8 s8 => ?_
        have s57 := s6.trans s7
        have s58 := s57.trans s8
        have hD8 := s58 _ _ hD
        have hF5 := s5 _ _ hF4
        have hT9 : TS (fun b => b ≠ Fl ∧ b ≠ D) H8 v' d := hT8.weak fun b n => ⟨fun z => (by rw [z, s57 _ _ hF5] at n; cases n), fun z => (by rw [z, s57 _ _ hD] at n; cases n)⟩
        have kt : ∀ t xs, H8 t = some (.tup xs) → (upd H8 D (.lst (ys ++ [v']))) t = some (.tup xs) := fun t xs e => by rw [upd_ne (ne_of e hD8 (by intro z; cases z))]; exact e
        have kl : ∀ t o, (t ≠ Fl ∧ t ≠ D) → H8 t = some o → (upd H8 D (.lst (ys ++ [v']))) t = some o := fun t o n e => by rw [upd_ne n.2]; exact e
        refine ⟨hD8, small1000 (by omega), ⟨_, rfl⟩, fun b o e => by rw [upd_ne (ne_of_none e nD)]; exact s58 _ _ (s5 _ _ e), by rw [List.length_append, yl]; rfl, upd_same, fun way hw => ?_⟩
        by_cases z : way < j
        · obtain ⟨v0, d0, e1, e2, e3⟩ := hA way z
          exact ⟨v0, d0, by rw [List.getElem?_append_left (by omega)]; exact e1, e2, (e3.same s58).keep kt kl⟩
        · have e : way = j := by omega
          subst e
          exact ⟨v', d, by rw [List.getElem?_append_right (by omega), yl, Nat.sub_self]; rfl, hI, hT9.keep kt kl⟩
      · rintro σ' ys H5 ⟨⟨y, rfl⟩, s5, yl, hD, hA⟩
        have hF5 := s5 _ _ hF4
        refine ⟨Fl, _, _, rfl, rfl, hF5, by rw [List.length_map]; exact small1000 (by omega), ?_⟩
        have kt : ∀ t xs, H5 t = some (.tup xs) → (upd H5 Fl (.lst (fs.map V.ref ++ [V.ref D]))) t = some (.tup xs) := fun t xs e => by rw [upd_ne (ne_of e hF5 (by intro z; cases z))]; exact e
        have kl : ∀ t o, t ≠ Fl → H5 t = some o → (upd H5 Fl (.lst (fs.map V.ref ++ [V.ref D]))) t = some o := fun t o n e => by rw [upd_ne n]; exact e
        refine ⟨⟨_, _, _, rfl⟩, fun b o e => by rw [upd_ne (ne_of_none e nF)]; exact s5 _ _ (s4 _ _ e), fs ++ [D], by rw [upd_same, List.map_append]; rfl, by rw [List.length_append, fl]; rfl, ?_⟩
        rw [take_get hxi]
        refine Ps.snoc ⟨ys, DF, kl _ _ DF hD, fun way hw => ?_⟩ (hQ.imp fun t x h => (h.keep (fun _ _ e => s5 _ _ e) fun _ _ _ e => s5 _ _ e).keep kt kl)
        obtain ⟨v0, d0, e1, e2, e3⟩ := hA way hw
        exact ⟨v0, d0, e1, e2, (e3.weak fun _ n => n.1).keep kt kl⟩
    · rintro σ H4 ⟨⟨x6, x7, x8, rfl⟩, s4, fs, hF4, fl, hQ⟩
      rw [List.length_map] at fl hQ
      have xl := hP.len
      rw [xl, List.take_length] at hQ
      have sH4 : Same H H4 := s2.trans s4
      walk_at "rd"
      refine ⟨by decide, fun Kl nK => ?_⟩
      generalize hE : upd H4 Kl _ = H5
      obtain ⟨hK5, s5⟩ := newo nK hE
      clear hE
      walk_at "rd"
      refine ⟨2, 10, rfl, by omega, ?_⟩
      refine for_range (n := 8) (fun i σ H' => (∃ y2 y3 y6 y7 y8 y9 y11 y12 y13, σ = [some (.ref a), some (.ref Wl), y2, y3, x4, some (.ref Fl), y6, y7, y8, y9, some (.ref Kl), y11, y12, y13, none]) ∧ Same H4 H' ∧ ∃ ks : List Addr, H' Kl = some (.lst (ks.map V.ref)) ∧ ks.length ≤ i ∧ ∀ t ∈ ks, Kd Kl H4 H' t) ⟨⟨_, _, _, _, _, _, _, _, _, rfl⟩, s5, [], hK5, Nat.le_refl _, fun _ h => by cases h⟩ ?_ ?_
      · rintro i σ H6 hi ⟨⟨y2, y3, y6, y7, y8, y9, y11, y12, y13, rfl⟩, s6, ks, hK6, kl, hKd⟩
        walk_at "rd"
        refine ⟨a, ms, 2 + i, rfl, (sH4.trans s6).seq hS, hlen, by omega, by omega, fun p H7 np s7 hh7 => ?_⟩
        walk_at "rd"
        refine ⟨p, _, 2, rfl, hh7, by decide, by decide, by decide, fun at_ H8 u0 u1 hh8 kp8 => ?_⟩
        walk_at "rd"
        refine ⟨p, _, 6, rfl, hh8, by decide, by decide, by decide, fun way H9 v0 v1 hh9 kp9 => ?_⟩
        have s69 : Same H6 H9 := Kp.new s7 np (kp8.trans kp9)
        obtain ⟨j, rfl⟩ : ∃ j : Nat, at_ = (j : Int) := ⟨at_.toNat, by omega⟩
        obtain ⟨y, rfl⟩ : ∃ y : Nat, way = (y : Int) := ⟨way.toNat, by omega⟩
        obtain ⟨t, ht⟩ : ∃ t, ts[j]? = some t := ⟨_, List.getElem?_eq_getElem (by omega)⟩
        obtain ⟨⟨ns, R, w⟩, hxi, k, hk1, hk2, hk3, hns, hnl, r1, r2, w1, w2⟩ := hP.get ht
        obtain ⟨f', hf'⟩ : ∃ t, fs[j]? = some t := ⟨_, List.getElem?_eq_getElem (by omega)⟩
        obtain ⟨x', hx', vs, _, hf2, hf3⟩ := hQ.get hf'
        have ex : x' = (ns, R, w) := by rw [hxi] at hx'; exact (Option.some.inj hx').symm
        subst ex
        obtain ⟨v', d', hv', hI', hT'⟩ := hf3 y (by omega)
        have s49 : Same H4 H9 := s6.trans s69
        have s29 : Same H2 H9 := s4.trans s49
        have hk9 := s29 _ _ hk3
        walk_at "rd"
        refine rd_ixL (SqL.of (s29 _ _ hW2)) (at_ref' ht) ?_
        refine ⟨t, _, rfl, SqT.of (s29 _ _ hk1), rfl, _, _, rfl, _, _, rfl, _, _, rfl, rfl, ?_⟩
        walk_at "rd"
        refine ⟨k, _, rfl, .inl (SqL.of hk9), fun h nh => ?_⟩
        generalize hE : upd H9 h _ = H10
        obtain ⟨hh10, s10⟩ := newo nh hE
        clear hE
        walk_at "rd"
        refine ⟨y, h, ns, R, w, rfl, hh10, hns, hnl, r1, r2, w1, w2, by omega, fun d v H11 hI hT s11 => ?_⟩
        have ed : d = d' := hI.one hI'
        subst ed
        have s9b := s10.trans s11
        have s4b := s49.trans s9b
        have hh11 := s11 _ _ hh10
        have hk11 := s9b _ _ hk9
        walk_at "rd"
        refine rd_ixL (SqL.of (s4b _ _ hF4)) (at_ref' hf') ?_
        walk_at "rd"
        refine rd_ixL (SqL.of (s4b _ _ hf2)) (v := v') (atI_nat hv') ?_
        refine ⟨_, _, hT.dv, (hT'.same s4b).dv, hT.eqv.1, hT.eqv.1, ?_⟩
        rw [hT.eqv.2]
        walk_at "rd"
        refine ⟨_, _, dv_ints hh11, dv_ints hk11, shaped_ints _, shaped_ints _, ?_⟩
        rw [eq_I]
        walk_at "rd"
        refine ⟨.inl ⟨rfl, _, SqL.of hh11⟩, ?_⟩
        walk_at "rd"
        refine ⟨h, _, _, rfl, rfl, hh11, by rw [List.length_map]; exact small1000 (by show ns.length ≤ 1000; have : ns.length ≤ 70 := hnl; omega), ?_⟩
        generalize hE : upd H11 h _ = H12
        have hh12 : H12 h = some (.lst (ns.map V.int ++ [V.int 3])) := by rw [← hE, upd_same]
        have k12 : ∀ b o, b ≠ h → H11 b = some o → H12 b = some o := fun b o n e => by rw [← hE, upd_ne n]; exact e
        clear hE
        walk_at "rd"
        refine ⟨.inl ⟨rfl, _, SqL.of hh12⟩, ?_⟩
        walk_at "rd"
        have hsq : seqIndex? 0 (ns.map V.int ++ [V.int 3]).length = some 0 := by
          have hl0 : 0 < (ns.map V.int ++ [V.int 3]).length := by rw [List.length_append]; exact Nat.succ_pos _
          unfold seqIndex?
          show (if decide ((0 : Int) ≤ 0) && decide ((0 : Int) < _) then some 0 else none) = some 0
          rw [if_pos (by simp)]
        obtain ⟨y0, hy0⟩ : ∃ y0, (ns.map V.int ++ [V.int 3])[0]? = some y0 := ⟨_, List.getElem?_eq_getElem (by rw [List.length_append]; exact Nat.succ_pos _)⟩
        refine ⟨h, _, 0, 0, y0, rfl, rfl, hh12, by omega, by omega, hsq, hy0, ?_⟩
        generalize hE : upd H12 h _ = H13
        have k13 : ∀ b o, b ≠ h → H11 b = some o → H13 b = some o := fun b o n e => by rw [← hE, upd_ne n]; exact k12 b o n e
        clear hE
        have s9d : Same H9 H13 := fun b o e => k13 b o (ne_of_none e nh) (s9b _ _ e)
        have hh13 := hh9.same s9d
        walk_at "rd"
        refine ⟨p, _, 2, rfl, hh13, by decide, by decide, by decide, fun r H14 q0 q1 hh14 kp14 => ?_⟩
        obtain ⟨pl, pd, pc, pn, hp13, _⟩ := hh13.ex
        obtain ⟨_, _, _, _, hp9, _⟩ := hh9.ex
        have hp10 := s10 _ _ hp9
        have hT14 : TS (fun b => H10 b = none) H14 v d := hT.keep (fun t xs e => kp14.1 _ _ (k13 _ _ (ne_of e hh11 (by intro z; cases z)) e) (ne_of (k13 _ _ (ne_of e hh11 (by intro z; cases z)) e) hp13 (by intro z; cases z))) fun t o n e => kp14.1 _ _ (k13 _ _ (fun z => by rw [z, hh10] at n; cases n) e) (fun z => by rw [z, hp10] at n; cases n)
        have s6e : Same H6 H14 := fun b o e => kp14.1 _ _ (s9d _ _ (s69 _ _ e)) (ne_of_none e np)
        have s4e : Same H4 H14 := s6.trans s6e
        have hK14 := s6e _ _ hK6
        have hK10 := s10 _ _ (s69 _ _ hK6)
        walk_at "rd"
        refine rd_if (fun c => ?_) (fun c => ?_)
        · walk_at "rd"
          refine ⟨.inl ⟨rfl, _, SqL.of hK14⟩, ?_⟩
          walk_at "rd"
          refine rd_ixL (SqL.of (s4e _ _ hF4)) (at_ref' hf') ?_
          walk_at "rd"
          refine rd_ixL (SqL.of (s4e _ _ hf2)) (v := v') (atI_nat hv') ?_
          walk_at "rd"
          refine ⟨(by show 2 ≤ sizeLine; decide), fun t' nt' => ?_⟩
          generalize hE : upd H14 t' _ = H15
          obtain ⟨ht', s15⟩ := newo nt' hE
          clear hE
          have hK15 := s15 _ _ hK14
          refine ⟨Kl, _, _, rfl, rfl, hK15, by rw [List.length_map]; exact small1000 (by omega), ?_⟩
          have s6f := s6e.trans s15
          have kt : ∀ t xs, H15 t = some (.tup xs) → (upd H15 Kl (.lst (ks.map V.ref ++ [V.ref t']))) t = some (.tup xs) := fun t xs e => by rw [upd_ne (ne_of e hK15 (by intro z; cases z))]; exact e
          refine ⟨⟨_, _, _, _, _, _, _, _, _, rfl⟩, fun b o e => by rw [upd_ne (ne_of_none e nK)]; exact s15 _ _ (s4e _ _ e), ks ++ [t'], by rw [upd_same, List.map_append]; rfl, by rw [List.length_append, List.length_singleton]; omega, fun t ht => ?_⟩
          rcases List.mem_append.mp ht with z | z
          · exact (hKd t z).keep hK6 fun b o n e => by rw [upd_ne n]; exact s6f _ _ e
          · have e : t = t' := by simpa using z
            subst e
            refine ⟨v, v', d, kt _ _ ht', ((hT14.same s15).weak fun b n => ?_).keep kt fun t o n e => ?_, hT'.weak fun _ _ => trivial⟩
            · exact fun z => by rw [z, hK10] at n; cases n
            · rw [upd_ne n]; exact e
        · walk_at "rd"
          refine spoil_of hT14 fun H15 k15 => ?_
          have s6f : Same H6 H15 := fun b o e => k15 _ _ (fun z => by rw [s10 _ _ (s69 _ _ e)] at z; cases z) (s6e _ _ e)
          exact ⟨⟨_, _, _, _, _, _, _, _, _, rfl⟩, s6.trans s6f, ks, s6f _ _ hK6, by omega, fun t ht => (hKd t ht).keep hK6 fun b o _ e => s6f _ _ e⟩
      · rintro σ H6 ⟨⟨y2, y3, y6, y7, y8, y9, y11, y12, y13, rfl⟩, s6, ks, hK6, kl, hKd⟩
        walk_at "rd"
        refine ⟨Kl, rfl, ⟨_, SqL.of hK6⟩, ?_⟩
        refine for_list (xs := ks.map V.ref) (fun i σ H' => (∃ z13 z14, σ = [some (.ref a), some (.ref Wl), y2, y3, x4, some (.ref Fl), y6, y7, y8, y9, some (.ref Kl), y11, y12, z13, z14]) ∧ H' = H6) ⟨⟨_, _, rfl⟩, rfl⟩ (fun _ _ _ _ h => by rw [h.2]; exact SqL.of hK6) ?_ ?_
        · rintro i x σ H7 hx ⟨⟨z13, z14, rfl⟩, eH⟩
          rw [eH]
          obtain ⟨t, ht, rfl⟩ := refs_get hx
          obtain ⟨v, v', d, h1, h2, h3⟩ := hKd t (List.mem_of_getElem? ht)
          refine ⟨t, _, rfl, SqT.of h1, rfl, _, _, rfl, _, _, rfl, rfl, ?_⟩
          walk_at "rd"
          refine ⟨_, _, h2.dv, (h3.same s6).dv, h2.eqv.1, h2.eqv.1, ?_⟩
          rw [h2.eqv.2]
          walk_at "rd"
          exact ⟨⟨_, _, rfl⟩, rfl⟩
        · rintro σ H7 ⟨⟨z13, z14, rfl⟩, eH⟩
          walk_at "rd"
          exact q _

end
theorem all_mk {l : PySem.W.OpenLaw} {w : World} {K : PySem.W.Frag} {h : Heap} {mg : Str → Option Value} {fa : Addr} (X : K.In h) (G : h.Ns mainGlobals mg) (hfa : mg "law" = some (.ref fa))
    {f0 : Addr} {od0 an0 : Option Addr} {sl0 : Array (Option Value)} {oc0 kV0 dc0 pm0 cd0 ct0 : Value} (a0 : PySem.W.nsIn K mainGlobals "last_bits" = some (some (.ref f0))) (l0 : K.lookup f0 = some ⟨oc0, od0, .func (PySem.W.fnOf "last_bits" "last_bits" (defArgs s_last_bits) (defBody s_last_bits) (defScope s_last_bits) .none kV0 dc0 pm0 an0 cd0 ct0), sl0⟩) (c0 : PySem.W.codeIn K cd0 "last_bits" = true) (k0 : PySem.W.keepIn K (.ref f0) = true)
    {f1 : Addr} {od1 an1 : Option Addr} {sl1 : Array (Option Value)} {oc1 kV1 dc1 pm1 cd1 ct1 : Value} (a1 : PySem.W.nsIn K mainGlobals "level" = some (some (.ref f1))) (l1 : K.lookup f1 = some ⟨oc1, od1, .func (PySem.W.fnOf "level" "level" (defArgs s_level) (defBody s_level) (defScope s_level) .none kV1 dc1 pm1 an1 cd1 ct1), sl1⟩) (c1 : PySem.W.codeIn K cd1 "level" = true) (k1 : PySem.W.keepIn K (.ref f1) = true)
    {f2 : Addr} {od2 an2 : Option Addr} {sl2 : Array (Option Value)} {oc2 kV2 dc2 pm2 cd2 ct2 : Value} (a2 : PySem.W.nsIn K mainGlobals "turn" = some (some (.ref f2))) (l2 : K.lookup f2 = some ⟨oc2, od2, .func (PySem.W.fnOf "turn" "turn" (defArgs s_turn) (defBody s_turn) (defScope s_turn) .none kV2 dc2 pm2 an2 cd2 ct2), sl2⟩) (c2 : PySem.W.codeIn K cd2 "turn" = true) (k2 : PySem.W.keepIn K (.ref f2) = true)
    {f3 : Addr} {od3 an3 : Option Addr} {sl3 : Array (Option Value)} {oc3 kV3 dc3 pm3 cd3 ct3 : Value} (a3 : PySem.W.nsIn K mainGlobals "bits_for" = some (some (.ref f3))) (l3 : K.lookup f3 = some ⟨oc3, od3, .func (PySem.W.fnOf "bits_for" "bits_for" (defArgs s_bits_for) (defBody s_bits_for) (defScope s_bits_for) .none kV3 dc3 pm3 an3 cd3 ct3), sl3⟩) (c3 : PySem.W.codeIn K cd3 "bits_for" = true) (k3 : PySem.W.keepIn K (.ref f3) = true)
    {f4 : Addr} {od4 an4 : Option Addr} {sl4 : Array (Option Value)} {oc4 kV4 dc4 pm4 cd4 ct4 : Value} (a4 : PySem.W.nsIn K mainGlobals "room_of" = some (some (.ref f4))) (l4 : K.lookup f4 = some ⟨oc4, od4, .func (PySem.W.fnOf "room_of" "room_of" (defArgs s_room_of) (defBody s_room_of) (defScope s_room_of) .none kV4 dc4 pm4 an4 cd4 ct4), sl4⟩) (c4 : PySem.W.codeIn K cd4 "room_of" = true) (k4 : PySem.W.keepIn K (.ref f4) = true)
    {f5 : Addr} {od5 an5 : Option Addr} {sl5 : Array (Option Value)} {oc5 kV5 dc5 pm5 cd5 ct5 : Value} (a5 : PySem.W.nsIn K mainGlobals "rows_for" = some (some (.ref f5))) (l5 : K.lookup f5 = some ⟨oc5, od5, .func (PySem.W.fnOf "rows_for" "rows_for" (defArgs s_rows_for) (defBody s_rows_for) (defScope s_rows_for) .none kV5 dc5 pm5 an5 cd5 ct5), sl5⟩) (c5 : PySem.W.codeIn K cd5 "rows_for" = true) (k5 : PySem.W.keepIn K (.ref f5) = true)
    {f6 : Addr} {od6 an6 : Option Addr} {sl6 : Array (Option Value)} {oc6 kV6 dc6 pm6 cd6 ct6 : Value} (a6 : PySem.W.nsIn K mainGlobals "cut_rows" = some (some (.ref f6))) (l6 : K.lookup f6 = some ⟨oc6, od6, .func (PySem.W.fnOf "cut_rows" "cut_rows" (defArgs s_cut_rows) (defBody s_cut_rows) (defScope s_cut_rows) .none kV6 dc6 pm6 an6 cd6 ct6), sl6⟩) (c6 : PySem.W.codeIn K cd6 "cut_rows" = true) (k6 : PySem.W.keepIn K (.ref f6) = true)
    {f7 : Addr} {od7 an7 : Option Addr} {sl7 : Array (Option Value)} {oc7 kV7 dc7 pm7 cd7 ct7 : Value} (a7 : PySem.W.nsIn K mainGlobals "rows_of" = some (some (.ref f7))) (l7 : K.lookup f7 = some ⟨oc7, od7, .func (PySem.W.fnOf "rows_of" "rows_of" (defArgs s_rows_of) (defBody s_rows_of) (defScope s_rows_of) .none kV7 dc7 pm7 an7 cd7 ct7), sl7⟩) (c7 : PySem.W.codeIn K cd7 "rows_of" = true) (k7 : PySem.W.keepIn K (.ref f7) = true)
    {f8 : Addr} {od8 an8 : Option Addr} {sl8 : Array (Option Value)} {oc8 kV8 dc8 pm8 cd8 ct8 : Value} (a8 : PySem.W.nsIn K mainGlobals "looked" = some (some (.ref f8))) (l8 : K.lookup f8 = some ⟨oc8, od8, .func (PySem.W.fnOf "looked" "looked" (defArgs s_looked) (defBody s_looked) (defScope s_looked) .none kV8 dc8 pm8 an8 cd8 ct8), sl8⟩) (c8 : PySem.W.codeIn K cd8 "looked" = true) (k8 : PySem.W.keepIn K (.ref f8) = true)
    {f9 : Addr} {od9 an9 : Option Addr} {sl9 : Array (Option Value)} {oc9 kV9 dc9 pm9 cd9 ct9 : Value} (a9 : PySem.W.nsIn K mainGlobals "spread" = some (some (.ref f9))) (l9 : K.lookup f9 = some ⟨oc9, od9, .func (PySem.W.fnOf "spread" "spread" (defArgs s_spread) (defBody s_spread) (defScope s_spread) .none kV9 dc9 pm9 an9 cd9 ct9), sl9⟩) (c9 : PySem.W.codeIn K cd9 "spread" = true) (k9 : PySem.W.keepIn K (.ref f9) = true)
    {f10 : Addr} {od10 an10 : Option Addr} {sl10 : Array (Option Value)} {oc10 kV10 dc10 pm10 cd10 ct10 : Value} (a10 : PySem.W.nsIn K mainGlobals "counts" = some (some (.ref f10))) (l10 : K.lookup f10 = some ⟨oc10, od10, .func (PySem.W.fnOf "counts" "counts" (defArgs s_counts) (defBody s_counts) (defScope s_counts) .none kV10 dc10 pm10 an10 cd10 ct10), sl10⟩) (c10 : PySem.W.codeIn K cd10 "counts" = true) (k10 : PySem.W.keepIn K (.ref f10) = true)
    {f11 : Addr} {od11 an11 : Option Addr} {sl11 : Array (Option Value)} {oc11 kV11 dc11 pm11 cd11 ct11 : Value} (a11 : PySem.W.nsIn K mainGlobals "longest" = some (some (.ref f11))) (l11 : K.lookup f11 = some ⟨oc11, od11, .func (PySem.W.fnOf "longest" "longest" (defArgs s_longest) (defBody s_longest) (defScope s_longest) .none kV11 dc11 pm11 an11 cd11 ct11), sl11⟩) (c11 : PySem.W.codeIn K cd11 "longest" = true) (k11 : PySem.W.keepIn K (.ref f11) = true)
    {f12 : Addr} {od12 an12 : Option Addr} {sl12 : Array (Option Value)} {oc12 kV12 dc12 pm12 cd12 ct12 : Value} (a12 : PySem.W.nsIn K mainGlobals "all_looks" = some (some (.ref f12))) (l12 : K.lookup f12 = some ⟨oc12, od12, .func (PySem.W.fnOf "all_looks" "all_looks" (defArgs s_all_looks) (defBody s_all_looks) (defScope s_all_looks) .none kV12 dc12 pm12 an12 cd12 ct12), sl12⟩) (c12 : PySem.W.codeIn K cd12 "all_looks" = true) (k12 : PySem.W.keepIn K (.ref f12) = true)
    {f13 : Addr} {od13 an13 : Option Addr} {sl13 : Array (Option Value)} {oc13 kV13 dc13 pm13 cd13 ct13 : Value} (a13 : PySem.W.nsIn K mainGlobals "_law_open" = some (some (.ref f13))) (l13 : K.lookup f13 = some ⟨oc13, od13, .func (PySem.W.fnOf "_law_open" "_law_open" (defArgs s__law_open) (defBody s__law_open) (defScope s__law_open) .none kV13 dc13 pm13 an13 cd13 ct13), sl13⟩) (c13 : PySem.W.codeIn K cd13 "_law_open" = true) (k13 : PySem.W.keepIn K (.ref f13) = true)
    {f14 : Addr} {od14 an14 : Option Addr} {sl14 : Array (Option Value)} {oc14 kV14 dc14 pm14 cd14 ct14 : Value} (a14 : PySem.W.nsIn K mainGlobals "_law_draw" = some (some (.ref f14))) (l14 : K.lookup f14 = some ⟨oc14, od14, .func (PySem.W.fnOf "_law_draw" "_law_draw" (defArgs s__law_draw) (defBody s__law_draw) (defScope s__law_draw) .none kV14 dc14 pm14 an14 cd14 ct14), sl14⟩) (c14 : PySem.W.codeIn K cd14 "_law_draw" = true) (k14 : PySem.W.keepIn K (.ref f14) = true)
    {f15 : Addr} {od15 an15 : Option Addr} {sl15 : Array (Option Value)} {oc15 kV15 dc15 pm15 cd15 ct15 : Value} (a15 : PySem.W.nsIn K mainGlobals "_law_far" = some (some (.ref f15))) (l15 : K.lookup f15 = some ⟨oc15, od15, .func (PySem.W.fnOf "_law_far" "_law_far" (defArgs s__law_far) (defBody s__law_far) (defScope s__law_far) .none kV15 dc15 pm15 an15 cd15 ct15), sl15⟩) (c15 : PySem.W.codeIn K cd15 "_law_far" = true) (k15 : PySem.W.keepIn K (.ref f15) = true)
    {f16 : Addr} {od16 an16 : Option Addr} {sl16 : Array (Option Value)} {oc16 kV16 dc16 pm16 cd16 ct16 : Value} (a16 : PySem.W.nsIn K mainGlobals "_law_power" = some (some (.ref f16))) (l16 : K.lookup f16 = some ⟨oc16, od16, .func (PySem.W.fnOf "_law_power" "_law_power" (defArgs s__law_power) (defBody s__law_power) (defScope s__law_power) .none kV16 dc16 pm16 an16 cd16 ct16), sl16⟩) (c16 : PySem.W.codeIn K cd16 "_law_power" = true) (k16 : PySem.W.keepIn K (.ref f16) = true)
    {f17 : Addr} {od17 an17 : Option Addr} {sl17 : Array (Option Value)} {oc17 kV17 dc17 pm17 cd17 ct17 : Value} (a17 : PySem.W.nsIn K mainGlobals "_law_key" = some (some (.ref f17))) (l17 : K.lookup f17 = some ⟨oc17, od17, .func (PySem.W.fnOf "_law_key" "_law_key" (defArgs s__law_key) (defBody s__law_key) (defScope s__law_key) .none kV17 dc17 pm17 an17 cd17 ct17), sl17⟩) (c17 : PySem.W.codeIn K cd17 "_law_key" = true) (k17 : PySem.W.keepIn K (.ref f17) = true)
    {f18 : Addr} {od18 an18 : Option Addr} {sl18 : Array (Option Value)} {oc18 kV18 dc18 pm18 cd18 ct18 : Value} (a18 : PySem.W.nsIn K mainGlobals "_law_keys" = some (some (.ref f18))) (l18 : K.lookup f18 = some ⟨oc18, od18, .func (PySem.W.fnOf "_law_keys" "_law_keys" (defArgs s__law_keys) (defBody s__law_keys) (defScope s__law_keys) .none kV18 dc18 pm18 an18 cd18 ct18), sl18⟩) (c18 : PySem.W.codeIn K cd18 "_law_keys" = true) (k18 : PySem.W.keepIn K (.ref f18) = true)
    {f19 : Addr} {od19 an19 : Option Addr} {sl19 : Array (Option Value)} {oc19 kV19 dc19 pm19 cd19 ct19 : Value} (a19 : PySem.W.nsIn K mainGlobals "_law_asked" = some (some (.ref f19))) (l19 : K.lookup f19 = some ⟨oc19, od19, .func (PySem.W.fnOf "_law_asked" "_law_asked" (defArgs s__law_asked) (defBody s__law_asked) (defScope s__law_asked) .none kV19 dc19 pm19 an19 cd19 ct19), sl19⟩) (c19 : PySem.W.codeIn K cd19 "_law_asked" = true) (k19 : PySem.W.keepIn K (.ref f19) = true)
    {f20 : Addr} {od20 an20 : Option Addr} {sl20 : Array (Option Value)} {oc20 kV20 dc20 pm20 cd20 ct20 : Value} (a20 : PySem.W.nsIn K mainGlobals "_law_copy" = some (some (.ref f20))) (l20 : K.lookup f20 = some ⟨oc20, od20, .func (PySem.W.fnOf "_law_copy" "_law_copy" (defArgs s__law_copy) (defBody s__law_copy) (defScope s__law_copy) .none kV20 dc20 pm20 an20 cd20 ct20), sl20⟩) (c20 : PySem.W.codeIn K cd20 "_law_copy" = true) (k20 : PySem.W.keepIn K (.ref f20) = true)
    {f21 : Addr} {od21 an21 : Option Addr} {sl21 : Array (Option Value)} {oc21 kV21 dc21 pm21 cd21 ct21 : Value} (a21 : PySem.W.nsIn K mainGlobals "_law_spoil" = some (some (.ref f21))) (l21 : K.lookup f21 = some ⟨oc21, od21, .func (PySem.W.fnOf "_law_spoil" "_law_spoil" (defArgs s__law_spoil) (defBody s__law_spoil) (defScope s__law_spoil) .none kV21 dc21 pm21 an21 cd21 ct21), sl21⟩) (c21 : PySem.W.codeIn K cd21 "_law_spoil" = true) (k21 : PySem.W.keepIn K (.ref f21) = true)
    {f22 : Addr} {od22 an22 : Option Addr} {sl22 : Array (Option Value)} {oc22 kV22 dc22 pm22 cd22 ct22 : Value} (a22 : PySem.W.nsIn K mainGlobals "law" = some (some (.ref f22))) (l22 : K.lookup f22 = some ⟨oc22, od22, .func (PySem.W.fnOf "law" "law" (defArgs s_law) (defBody s_law) (defScope s_law) .none kV22 dc22 pm22 an22 cd22 ct22), sl22⟩) (c22 : PySem.W.codeIn K cd22 "law" = true) (k22 : PySem.W.keepIn K (.ref f22) = true)
    (z_max : PySem.W.nsIn K mainGlobals "max" = some none)
    (z_range : PySem.W.nsIn K mainGlobals "range" = some none)
    (z_len : PySem.W.nsIn K mainGlobals "len" = some none)
    (z_sorted : PySem.W.nsIn K mainGlobals "sorted" = some none)
    (z_abs : PySem.W.nsIn K mainGlobals "abs" = some none)
    (z_isinstance : PySem.W.nsIn K mainGlobals "isinstance" = some none)
    (z_list : PySem.W.nsIn K mainGlobals "list" = some none)
    : ∃ fd : FuncData, (∀ (s : Shared) (v : Value), BindsTo s fd ⟨[v], []⟩ [("_law_script", v)]) ∧ ∀ base : Heap, K.In base → base.Ns mainGlobals mg → FnOk l.prog w K mg base CX0 8 fa fd ["_law_script"] (sp_law K) := by
  have e := hfa.symm.trans (PySem.W.mg_of X G a22)
  cases e
  have T : Bl mg := ⟨PySem.W.mg_none_of X G z_max, PySem.W.mg_none_of X G z_range, PySem.W.mg_none_of X G z_len, PySem.W.mg_none_of X G z_sorted, PySem.W.mg_none_of X G z_abs, PySem.W.mg_none_of X G z_isinstance, PySem.W.mg_none_of X G z_list⟩
  refine ⟨PySem.W.fnOf "law" "law" (defArgs s_law) (defBody s_law) (defScope s_law) .none kV22 dc22 pm22 an22 cd22 ct22, fun s v => .of_eq rfl, fun base _ _ => ?_⟩
  have F0 := fun_mk (st := s_last_bits) l0 c0 k0
  have b0 := F0.binds (ps := ["key", "many"]) fun _ _ _ _ _ _ us hl => match us, hl with | [_, _], _ => rfl
  have C_last_bits := ok_last_bits (P := l.prog) (w := w) (base := base) F0 (PySem.W.mg_of X G a0) b0 T 
  have F1 := fun_mk (st := s_level) l1 c1 k1
  have b1 := F1.binds (ps := ["rooms"]) fun _ _ _ _ _ _ us hl => match us, hl with | [_], _ => rfl
  have C_level := ok_level (P := l.prog) (w := w) (base := base) F1 (PySem.W.mg_of X G a1) b1 T 
  have F5 := fun_mk (st := s_rows_for) l5 c5 k5
  have b5 := F5.binds (ps := ["many", "wide"]) fun _ _ _ _ _ _ us hl => match us, hl with | [_, _], _ => rfl
  have C_rows_for := ok_rows_for (P := l.prog) (w := w) (base := base) F5 (PySem.W.mg_of X G a5) b5 T 
  have F8 := fun_mk (st := s_looked) l8 c8 k8
  have b8 := F8.binds (ps := ["rows", "key"]) fun _ _ _ _ _ _ us hl => match us, hl with | [_, _], _ => rfl
  have C_looked := ok_looked (P := l.prog) (w := w) (base := base) F8 (PySem.W.mg_of X G a8) b8 T 
  have F13 := fun_mk (st := s__law_open) l13 c13 k13
  have b13 := F13.binds (ps := ["_law_script", "_law_place"]) fun _ _ _ _ _ _ us hl => match us, hl with | [_, _], _ => rfl
  have C__law_open := ok__law_open (P := l.prog) (w := w) (base := base) F13 (PySem.W.mg_of X G a13) b13 T 
  have F14 := fun_mk (st := s__law_draw) l14 c14 k14
  have b14 := F14.binds (ps := ["_law_hand", "_law_many"]) fun _ _ _ _ _ _ us hl => match us, hl with | [_, _], _ => rfl
  have C__law_draw := ok__law_draw (P := l.prog) (w := w) (base := base) F14 (PySem.W.mg_of X G a14) b14 T 
  have F16 := fun_mk (st := s__law_power) l16 c16 k16
  have b16 := F16.binds (ps := ["_law_many"]) fun _ _ _ _ _ _ us hl => match us, hl with | [_], _ => rfl
  have C__law_power := ok__law_power (P := l.prog) (w := w) (base := base) F16 (PySem.W.mg_of X G a16) b16 T 
  have F2 := fun_mk (st := s_turn) l2 c2 k2
  have b2 := F2.binds (ps := ["rooms"]) fun _ _ _ _ _ _ us hl => match us, hl with | [_], _ => rfl
  have C_turn := ok_turn (P := l.prog) (w := w) (base := base) F2 (PySem.W.mg_of X G a2) b2 T C_level
  have F6 := fun_mk (st := s_cut_rows) l6 c6 k6
  have b6 := F6.binds (ps := ["things", "wide"]) fun _ _ _ _ _ _ us hl => match us, hl with | [_, _], _ => rfl
  have C_cut_rows := ok_cut_rows (P := l.prog) (w := w) (base := base) F6 (PySem.W.mg_of X G a6) b6 T C_rows_for
  have F11 := fun_mk (st := s_longest) l11 c11 k11
  have b11 := F11.binds (ps := ["counts", "wide"]) fun _ _ _ _ _ _ us hl => match us, hl with | [_, _], _ => rfl
  have C_longest := ok_longest (P := l.prog) (w := w) (base := base) F11 (PySem.W.mg_of X G a11) b11 T C_rows_for
  have F15 := fun_mk (st := s__law_far) l15 c15 k15
  have b15 := F15.binds (ps := ["_law_hand", "_law_many"]) fun _ _ _ _ _ _ us hl => match us, hl with | [_, _], _ => rfl
  have C__law_far := ok__law_far (P := l.prog) (w := w) (base := base) F15 (PySem.W.mg_of X G a15) b15 T C__law_draw
  have F3 := fun_mk (st := s_bits_for) l3 c3 k3
  have b3 := F3.binds (ps := ["room", "rooms"]) fun _ _ _ _ _ _ us hl => match us, hl with | [_, _], _ => rfl
  have C_bits_for := ok_bits_for (P := l.prog) (w := w) (base := base) F3 (PySem.W.mg_of X G a3) b3 T C_level C_turn
  have F7 := fun_mk (st := s_rows_of) l7 c7 k7
  have b7 := F7.binds (ps := ["keys", "wide"]) fun _ _ _ _ _ _ us hl => match us, hl with | [_, _], _ => rfl
  have C_rows_of := ok_rows_of (P := l.prog) (w := w) (base := base) F7 (PySem.W.mg_of X G a7) b7 T C_cut_rows
  have F17 := fun_mk (st := s__law_key) l17 c17 k17
  have b17 := F17.binds (ps := ["_law_hand"]) fun _ _ _ _ _ _ us hl => match us, hl with | [_], _ => rfl
  have C__law_key := ok__law_key (P := l.prog) (w := w) (base := base) F17 (PySem.W.mg_of X G a17) b17 T C__law_draw C__law_far C__law_power
  have F4 := fun_mk (st := s_room_of) l4 c4 k4
  have b4 := F4.binds (ps := ["key", "rooms"]) fun _ _ _ _ _ _ us hl => match us, hl with | [_, _], _ => rfl
  have C_room_of := ok_room_of (P := l.prog) (w := w) (base := base) F4 (PySem.W.mg_of X G a4) b4 T C_last_bits C_bits_for C_level
  have F18 := fun_mk (st := s__law_keys) l18 c18 k18
  have b18 := F18.binds (ps := ["_law_hand", "_law_many"]) fun _ _ _ _ _ _ us hl => match us, hl with | [_, _], _ => rfl
  have C__law_keys := ok__law_keys (P := l.prog) (w := w) (base := base) F18 (PySem.W.mg_of X G a18) b18 T C__law_key
  have F20 := fun_mk (st := s__law_copy) l20 c20 k20
  have b20 := F20.binds (ps := ["_law_told"]) fun _ _ _ _ _ _ us hl => match us, hl with | [_], _ => rfl
  have C__law_copy0 : Cal l.prog w K mg base "_law_copy" ["_law_told"] 1 (spr__law_copy K 0) := Cal.of (k := 0) F20 (PySem.W.mg_of X G a20) b20 sc__law_copy (fun _ _ _ _ h => h.elim) (fun _ _ _ _ _ _ _ _ _ h => h.elim)
  have C__law_copy1 := ok__law_copy (P := l.prog) (w := w) (base := base) F20 (PySem.W.mg_of X G a20) b20 T C__law_copy0
  have C__law_copy2 := ok__law_copy (P := l.prog) (w := w) (base := base) F20 (PySem.W.mg_of X G a20) b20 T C__law_copy1
  have C__law_copy3 := ok__law_copy (P := l.prog) (w := w) (base := base) F20 (PySem.W.mg_of X G a20) b20 T C__law_copy2
  have C__law_copy : Cal l.prog w K mg base "_law_copy" ["_law_told"] 4 (sp__law_copy K) := C__law_copy3
  have F21 := fun_mk (st := s__law_spoil) l21 c21 k21
  have b21 := F21.binds (ps := ["_law_told"]) fun _ _ _ _ _ _ us hl => match us, hl with | [_], _ => rfl
  have C__law_spoil0 : Cal l.prog w K mg base "_law_spoil" ["_law_told"] 1 (spr__law_spoil K 0) := Cal.of (k := 0) F21 (PySem.W.mg_of X G a21) b21 sc__law_spoil (fun _ _ _ _ h => h.elim) (fun _ _ _ _ _ _ _ _ _ h => h.elim)
  have C__law_spoil1 := ok__law_spoil (P := l.prog) (w := w) (base := base) F21 (PySem.W.mg_of X G a21) b21 T C__law_spoil0
  have C__law_spoil2 := ok__law_spoil (P := l.prog) (w := w) (base := base) F21 (PySem.W.mg_of X G a21) b21 T C__law_spoil1
  have C__law_spoil3 := ok__law_spoil (P := l.prog) (w := w) (base := base) F21 (PySem.W.mg_of X G a21) b21 T C__law_spoil2
  have C__law_spoil : Cal l.prog w K mg base "_law_spoil" ["_law_told"] 4 (sp__law_spoil K) := C__law_spoil3
  have F9 := fun_mk (st := s_spread) l9 c9 k9
  have b9 := F9.binds (ps := ["keys", "rooms"]) fun _ _ _ _ _ _ us hl => match us, hl with | [_, _], _ => rfl
  have C_spread := ok_spread (P := l.prog) (w := w) (base := base) F9 (PySem.W.mg_of X G a9) b9 T C_room_of
  have F10 := fun_mk (st := s_counts) l10 c10 k10
  have b10 := F10.binds (ps := ["keys", "rooms"]) fun _ _ _ _ _ _ us hl => match us, hl with | [_, _], _ => rfl
  have C_counts := ok_counts (P := l.prog) (w := w) (base := base) F10 (PySem.W.mg_of X G a10) b10 T C_spread
  have F12 := fun_mk (st := s_all_looks) l12 c12 k12
  have b12 := F12.binds (ps := ["keys", "rooms", "wide"]) fun _ _ _ _ _ _ us hl => match us, hl with | [_, _, _], _ => rfl
  have C_all_looks := ok_all_looks (P := l.prog) (w := w) (base := base) F12 (PySem.W.mg_of X G a12) b12 T C_rows_of C_spread C_looked C_room_of
  have F19 := fun_mk (st := s__law_asked) l19 c19 k19
  have b19 := F19.binds (ps := ["_law_way", "_law_keys_here", "_law_rooms", "_law_wide"]) fun _ _ _ _ _ _ us hl => match us, hl with | [_, _, _, _], _ => rfl
  have C__law_asked := ok__law_asked (P := l.prog) (w := w) (base := base) F19 (PySem.W.mg_of X G a19) b19 T C_spread C_counts C_rows_of C_all_looks C_longest C_looked
  have F22 := fun_mk (st := s_law) l22 c22 k22
  exact ok_law F22 T C__law_open C__law_draw C__law_asked C__law_spoil C__law_keys C__law_copy
theorem walk {l : PySem.W.OpenLaw} {q : Program} {loose : List Str} {XP : (Str → Option Value) → Heap → Prop} {YP : World → Heap → Prop} {d : DefRec} {K : Params → PySem.W.Frag} (hn : l.most = some 63) (hdf : d.params.defaults = [])
    (hY : ∀ (w : World) (h : Heap), YP w h → (K w.params).In h)
    (F : ∀ (w : World) (mg : Str → Option Value) (fa : Addr) (h : Heap), (K w.params).In h → h.Ns mainGlobals mg → mg d.name = some (.ref fa) →
      ∃ fd : FuncData, (∀ (s : Shared) (u : Value), BindsTo s fd ⟨[u], []⟩ [("_law_script", u)]) ∧ ∀ base : Heap, (K w.params).In base → base.Ns mainGlobals mg → FnOk l.prog w (K w.params) mg base CX0 8 fa fd ["_law_script"] (sp_law (K w.params))) :
    PySem.W.WalkO q loose XP YP l.row.toRowW d [] (fun f vs => PySem.call f vs) :=
  L2.walk_of (n := 63) (k := 8) (x := "_law_script") (CX := fun _ => CX0) (sp := fun w => sp_law (K w.params)) hn (by decide) hdf ⟨rfl, by decide, by decide⟩ hY F (fun _ _ a ns hl _ hS => ⟨a, ns, rfl, hS, hl, fun _ => rfl⟩) fun _ _ _ _ _ z => z
end Law
open PySem PySem.W PyProof.Rows
set_option maxRecDepth 100000 in
set_option maxHeartbeats 0 in
theorem PySem.Challenge.cw_tailrooms_k27_lists_changed_and_again_holds : PySem.Challenge.rw_tailrooms_k27_lists_changed_and_again.Holds := by
  w_on; o_law; k_head; (case hw => w_witness2)
  k_fill
  refine Law.walk (l := PySem.Challenge.rw_tailrooms_k27_lists_changed_and_again) rfl rfl (fun w h Y => PySem.W.kIn_of Y) ?F
  case F =>
    intro w mg fa h KX G hmg
    refine' Law.all_mk KX G hmg ?a0 ?l0 ?c0 ?k0 ?a1 ?l1 ?c1 ?k1 ?a2 ?l2 ?c2 ?k2 ?a3 ?l3 ?c3 ?k3 ?a4 ?l4 ?c4 ?k4 ?a5 ?l5 ?c5 ?k5 ?a6 ?l6 ?c6 ?k6 ?a7 ?l7 ?c7 ?k7 ?a8 ?l8 ?c8 ?k8 ?a9 ?l9 ?c9 ?k9 ?a10 ?l10 ?c10 ?k10 ?a11 ?l11 ?c11 ?k11 ?a12 ?l12 ?c12 ?k12 ?a13 ?l13 ?c13 ?k13 ?a14 ?l14 ?c14 ?k14 ?a15 ?l15 ?c15 ?k15 ?a16 ?l16 ?c16 ?k16 ?a17 ?l17 ?c17 ?k17 ?a18 ?l18 ?c18 ?k18 ?a19 ?l19 ?c19 ?k19 ?a20 ?l20 ?c20 ?k20 ?a21 ?l21 ?c21 ?k21 ?a22 ?l22 ?c22 ?k22 ?z_max ?z_range ?z_len ?z_sorted ?z_abs ?z_isinstance ?z_list
    (case a0 => k_is)
    (case l0 => k_is)
    (case c0 => k_is)
    (case k0 => k_is)
    (case a1 => k_is)
    (case l1 => k_is)
    (case c1 => k_is)
    (case k1 => k_is)
    (case a2 => k_is)
    (case l2 => k_is)
    (case c2 => k_is)
    (case k2 => k_is)
    (case a3 => k_is)
    (case l3 => k_is)
    (case c3 => k_is)
    (case k3 => k_is)
    (case a4 => k_is)
    (case l4 => k_is)
    (case c4 => k_is)
    (case k4 => k_is)
    (case a5 => k_is)
    (case l5 => k_is)
    (case c5 => k_is)
    (case k5 => k_is)
    (case a6 => k_is)
    (case l6 => k_is)
    (case c6 => k_is)
    (case k6 => k_is)
    (case a7 => k_is)
    (case l7 => k_is)
    (case c7 => k_is)
    (case k7 => k_is)
    (case a8 => k_is)
    (case l8 => k_is)
    (case c8 => k_is)
    (case k8 => k_is)
    (case a9 => k_is)
    (case l9 => k_is)
    (case c9 => k_is)
    (case k9 => k_is)
    (case a10 => k_is)
    (case l10 => k_is)
    (case c10 => k_is)
    (case k10 => k_is)
    (case a11 => k_is)
    (case l11 => k_is)
    (case c11 => k_is)
    (case k11 => k_is)
    (case a12 => k_is)
    (case l12 => k_is)
    (case c12 => k_is)
    (case k12 => k_is)
    (case a13 => k_is)
    (case l13 => k_is)
    (case c13 => k_is)
    (case k13 => k_is)
    (case a14 => k_is)
    (case l14 => k_is)
    (case c14 => k_is)
    (case k14 => k_is)
    (case a15 => k_is)
    (case l15 => k_is)
    (case c15 => k_is)
    (case k15 => k_is)
    (case a16 => k_is)
    (case l16 => k_is)
    (case c16 => k_is)
    (case k16 => k_is)
    (case a17 => k_is)
    (case l17 => k_is)
    (case c17 => k_is)
    (case k17 => k_is)
    (case a18 => k_is)
    (case l18 => k_is)
    (case c18 => k_is)
    (case k18 => k_is)
    (case a19 => k_is)
    (case l19 => k_is)
    (case c19 => k_is)
    (case k19 => k_is)
    (case a20 => k_is)
    (case l20 => k_is)
    (case c20 => k_is)
    (case k20 => k_is)
    (case a21 => k_is)
    (case l21 => k_is)
    (case c21 => k_is)
    (case k21 => k_is)
    (case a22 => k_is)
    (case l22 => k_is)
    (case c22 => k_is)
    (case k22 => k_is)
    (case z_max => k_is)
    (case z_range => k_is)
    (case z_len => k_is)
    (case z_sorted => k_is)
    (case z_abs => k_is)
    (case z_isinstance => k_is)
    (case z_list => k_is)
