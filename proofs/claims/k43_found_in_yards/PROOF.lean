import PyProof.Rows.All
import Wide.All
import OpenK.AllK
import Wide.FinOn
import PyProof.EqAt
import PyProof.EqKinds
import PyProof.TupleCall
import PySem.Challenge.RW_tailrooms_k43_found_in_yards
set_option Elab.async false
set_option linter.all false
set_option maxRecDepth 100000
-- CHANGE: your row's module here, as the last of these rows
/-! THE HAND LAYER, for ints, bools, texts, own classes, LISTS and tuples (index, slices, in, append, pop ..), calls, loops. Paste it whole ahead of your own text; what your proof does not reach may be deleted. -/
namespace L2
open PySem PySem.Spec PyProof.Rows

/-- a key: an int or a str -/
abbrev Key := Sum Int Str
def keyIs : Key → Value → Bool
  | .inl k, v => Value.isInt k v
  | .inr x, v => Value.isStrOf x v
def keyH (w : World) : Key → Int
  | .inl k => hashInt k
  | .inr x => hashStr w x
theorem keyIs_shape : ∀ {k : Key} {v : Value}, keyIs k v = true → (∃ i t, k = Sum.inl i ∧ v = Value.int i t) ∨ (∃ x t, k = Sum.inr x ∧ v = Value.str x t)
  | .inl i, v, h => by
    obtain ⟨t, e⟩ := Value.isInt_shape (k := i) (v := v) h
    exact .inl ⟨i, t, rfl, e⟩
  | .inr x, v, h => by
    obtain ⟨t, e⟩ := Value.isStrOf_shape (x := x) (v := v) h
    exact .inr ⟨x, t, rfl, e⟩
theorem keyIs_int (i : Int) (t : Tok) : keyIs (.inl i) (.int i t) = true := by simp [keyIs, Value.isInt]
theorem keyIs_str (x : Str) (t : Tok) : keyIs (.inr x) (.str x t) = true := by simp [keyIs, Value.isStrOf]
theorem key_ll (a b : Int) : decide ((Sum.inl a : Key) = Sum.inl b) = (a == b) := by
  by_cases e : a = b
  · subst e; simp
  · have h : ¬ (Sum.inl a : Key) = Sum.inl b := fun q => e (Sum.inl.inj q)
    rw [decide_eq_false h]
    exact (beq_eq_false_iff_ne.mpr e).symm
theorem key_rr (a b : Str) : decide ((Sum.inr a : Key) = Sum.inr b) = decide (a = b) := by
  by_cases e : a = b
  · subst e; simp
  · have h : ¬ (Sum.inr a : Key) = Sum.inr b := fun q => e (Sum.inr.inj q)
    rw [decide_eq_false h, decide_eq_false e]
theorem key_lr (a : Int) (b : Str) : decide ((Sum.inl a : Key) = Sum.inr b) = false := decide_eq_false (fun q => nomatch q)
theorem key_rl (a : Str) (b : Int) : decide ((Sum.inr a : Key) = Sum.inl b) = false := decide_eq_false (fun q => nomatch q)

def mixKind (prog : Program) (w : World) : PySem.KeyKind prog w Key where
  is := keyIs
  hash := keyH w
  inj := fun v a b ha hb => by
    rcases keyIs_shape ha with ⟨i, t, rfl, rfl⟩ | ⟨x, t, rfl, rfl⟩
    · rcases keyIs_shape hb with ⟨j, u, rfl, e⟩ | ⟨y, u, rfl, e⟩
      · injection e with e1 _; rw [e1]
      · exact nomatch e
    · rcases keyIs_shape hb with ⟨j, u, rfl, e⟩ | ⟨y, u, rfl, e⟩
      · exact nomatch e
      · injection e with e1 _; rw [e1]
  byValue := fun k v h => by
    rcases keyIs_shape h with ⟨i, t, rfl, rfl⟩ | ⟨x, t, rfl, rfl⟩ <;> rfl
  pyHash := fun hv h => by
    rcases keyIs_shape hv with ⟨i, t, rfl, rfl⟩ | ⟨x, t, rfl, rfl⟩
    · exact wpAny_pyHash_int h
    · exact wpAny_pyHash_str h
  eqBool := fun hu hv h => by
    rcases keyIs_shape hu with ⟨i, t, rfl, rfl⟩ | ⟨x, t, rfl, rfl⟩
    · rcases keyIs_shape hv with ⟨j, u, rfl, rfl⟩ | ⟨y, u, rfl, rfl⟩
      · rw [key_ll] at h; exact wpAny_eqBool_int h
      · rw [key_lr] at h; exact SeqAt.EqAt.int_str i t y u _ _ _ _ h
    · rcases keyIs_shape hv with ⟨j, u, rfl, rfl⟩ | ⟨y, u, rfl, rfl⟩
      · rw [key_rl] at h; exact SeqAt.EqAt.str_int x t j u _ _ _ _ h
      · rw [key_rr] at h; exact wpAny_eqBool_str h
  «strs» := fun k x t v h => by
    rcases keyIs_shape h with ⟨i, u, rfl, e⟩ | ⟨y, u, rfl, e⟩
    · exact nomatch e
    · injection e with e1 _
      subst e1
      cases v <;> rfl

theorem mixKind_int (prog : Program) (w : World) (i : Int) (t : Tok) : (mixKind prog w).is (.inl i) (.int i t) = true := keyIs_int i t
theorem mixKind_str (prog : Program) (w : World) (x : Str) (t : Tok) : (mixKind prog w).is (.inr x) (.str x t) = true := keyIs_str x t
end L2

namespace L2
open PySem PySem.Spec PyProof.Rows

/-- a value, without the heap -/
inductive V where
  | non | bl (b : Bool) | int (i : Int) | str (x : Str) | byt (b : Array UInt8) | flt (b : UInt64) | ref (a : Addr) | ty (n : String)
  deriving DecidableEq

def RelV : V → Value → Prop
  | .non, u => u = Value.none
  | .bl b, u => u = Value.bool b
  | .int i, u => ∃ t, u = Value.int i t
  | .str x, u => ∃ t, u = Value.str x t
  | .byt b, u => ∃ t, u = Value.bytes b t
  | .flt b, u => ∃ t, u = Value.float b t
  | .ref a, u => u = Value.ref a
  | .ty n, u => u = Value.type n

abbrev Vals : List V → List Value → Prop := Paired RelV
theorem Vals.length {xs : List V} {us : List Value} (r : Vals xs us) : xs.length = us.length := Paired.length r
theorem Vals.get : ∀ {xs : List V} {us : List Value} {i : Nat} {x : V}, Vals xs us → xs[i]? = some x → ∃ u, us[i]? = some u ∧ RelV x u
  | _, _, _, _, .nil, e => by simp at e
  | _, _, 0, _, .cons r _, e => by simp at e; subst e; exact ⟨_, rfl, r⟩
  | _, _, i + 1, x, .cons _ t, e => by
    obtain ⟨u, h1, h2⟩ := Vals.get (i := i) (x := x) t (by simpa using e)
    exact ⟨u, by simpa using h1, h2⟩
theorem Vals.set {x : V} {u : Value} (r : RelV x u) : ∀ {xs : List V} {us : List Value} (i : Nat), Vals xs us → Vals (xs.set i x) (us.set i u)
  | _, _, _, .nil => .nil
  | _, _, 0, .cons _ t => .cons r t
  | _, _, i + 1, .cons q t => .cons q (Vals.set r i t)
theorem Vals.append : ∀ {xs ys : List V} {us ws : List Value}, Vals xs us → Vals ys ws → Vals (xs ++ ys) (us ++ ws)
  | _, _, _, _, .nil, s => s
  | _, _, _, _, .cons r t, s => .cons r (Vals.append t s)
theorem Vals.take : ∀ {xs : List V} {us : List Value} (n : Nat), Vals xs us → Vals (xs.take n) (us.take n)
  | _, _, 0, _ => .nil
  | _, _, _ + 1, .nil => .nil
  | _, _, n + 1, .cons r t => .cons r (Vals.take n t)
theorem Vals.drop : ∀ {xs : List V} {us : List Value} (n : Nat), Vals xs us → Vals (xs.drop n) (us.drop n)
  | _, _, 0, r => r
  | _, _, _ + 1, .nil => .nil
  | _, _, n + 1, .cons _ t => Vals.drop n t
def RelO : Option V → Option Value → Prop
  | some v, some u => RelV v u
  | none, none => True
  | _, _ => False
def KV {κ : Type} : List (κ × V) → List (κ × Value) → Prop := Paired fun (p : κ × V) (q : κ × Value) => p.1 = q.1 ∧ RelV p.2 q.2

/-- a key of a dict (00_mix): an int or a text -/
def kV : Key → V
  | .inl i => .int i
  | .inr x => .str x

/-- what stands at a tracked address -/
inductive HO where
  /-- a list -/
  | lst (xs : List V)
  /-- a tuple (never changes) -/
  | tup (xs : List V)
  /-- a dict whose keys are ints and texts; one whose keys are tuples of ints and texts (the empty one is both) -/
  | dK (kvs : List (Key × V)) | dT (kvs : List (List Key × V))
  /-- a set of ints: its members, its size -/
  | set (S : Int → Bool) (n : Nat)
  /-- an instance of the class at C, its dict at dx, its attributes -/
  | ins (C dx : Addr) (fs : List (Str × V))
  /-- the dict of the instance at x -/
  | own (x : Addr)
  /-- the dict of an exception -/
  | xd (fs : List (Str × V))
  /-- a bound method, f of x -/
  | met (f x : Addr)
  /-- a range object lo, lo + 1, .. below hi -/
  | rng (lo hi : Int)
  /-- a thing that is known to the object (the script; a dict while a loop walks it): read, never written while it is so -/
  | frz (o : Obj) (u : HO)
  /-- a code object's table -/
  | tbl (ps : Array Value)
  /-- any other thing, by what is true of its one object (a def of one's own: SetO a S n := HO.ext fun h => ..) -/
  | ext (φ : Heap → Prop)

abbrev Hp := Addr → Option HO
def upd (H : Hp) (a : Addr) (o : HO) : Hp := fun b => if b = a then some o else H b
theorem upd_same {H : Hp} {a : Addr} {o : HO} : upd H a o a = some o := by unfold upd; rw [if_pos rfl]
theorem upd_ne {H : Hp} {a b : Addr} {o : HO} (h : b ≠ a) : upd H a o b = H b := by unfold upd; rw [if_neg h]
/-- two objects of different content stand apart -/
theorem ne_of {H : Hp} {a b : Addr} {o u : HO} (h : H a = some o) (h' : H b = some u) (d : o ≠ u) : a ≠ b := by
  intro e; subst e; rw [h] at h'; exact d (Option.some.inj h')
theorem ne_of_none {H : Hp} {a b : Addr} {o : HO} (h : H a = some o) (h' : H b = none) : a ≠ b := by
  intro e; subst e; rw [h] at h'; cases h'

section
variable (P : Program) (w : World)
def ObjOk (H : Hp) (h : Heap) (a : Addr) : HO → Prop
  | .lst xs => xs.length ≤ sizeLine ∧ ∃ (its : List Value) (n : Nat), Vals xs its ∧ h.get? a = some { cls := .type "list", data := .seq its.toArray n }
  | .tup xs => xs.length ≤ sizeLine ∧ ∃ its : List Value, Vals xs its ∧ IsTup h a its.toArray
  | .dK kvs => kvs.length ≤ sizeLine ∧ (a == sysModules) = false ∧ ∃ vs, KV kvs vs ∧ h.DictOf (mixKind P w) a vs
  | .dT kvs => kvs.length ≤ sizeLine ∧ (a == sysModules) = false ∧ ∃ xs : List (List Key × Addr × Value),
      Paired (fun (p : List Key × V) (q : List Key × Addr × Value) => p.1 = q.1 ∧ H q.2.1 = some (.tup (p.1.map kV)) ∧ RelV p.2 q.2.2) kvs xs ∧
      ∃ o es ep, h.get? a = some o ∧ o.ExactDict ∧ o.data = .dict es ep ∧ es.toList = xs.map (entryOfKey (tupleKind (mixKind P w))) ∧ (xs.map (·.1)).Nodup
  | .set S n => h.SetOf (intKind P w) a S n
  | .ins C dx fs => H dx = some (.own a) ∧ fs.length ≤ 1000 ∧ dx ≠ a ∧ h.get? a = some (PySem.W.instObj C dx) ∧
      ∃ mA, h.Ns1 dx mA ∧ (∀ f, RelO (fs.lookup f) (mA f)) ∧ PySem.Within mA (fs.map (·.1))
  | .own _ => ∃ o, h.get? a = some o
  | .xd fs => ∃ mA, h.Ns1 a mA ∧ ∀ f, RelO (fs.lookup f) (mA f)
  | .rng lo hi => ∃ t u v, h.get? a = some { cls := .type "range", data := .fields #[.int lo t, .int hi u, .int 1 v] }
  | .frz o u => h.get? a = some o ∧ ObjOk H h a u
  | .tbl ps => h.get? a = some { cls := .none, data := .fields ps }
  | .met f x => h.get? a = some (PySem.W.methodObj (.ref f) (.ref x))
  | .ext φ => φ h ∧ (∃ o, h.get? a = some o) ∧ ∀ h1 h2 : Heap, φ h1 → (∀ o, h1.get? a = some o → h2.get? a = some o) → φ h2
/-- the abstract heap is held -/
def HOk (H : Hp) (h : Heap) : Prop := ∀ a o, H a = some o → ObjOk P w H h a o
end

section
variable {P : Program} {w : World} {H H' : Hp} {h h' : Heap} {a : Addr} {o : HO}
theorem ObjOk.lt (x : ObjOk P w H h a o) : a < h.objs.size := by
  cases o with
  | lst xs => obtain ⟨_, _, _, _, e⟩ := x; exact Heap.lt_size e
  | tup xs => obtain ⟨_, _, _, p⟩ := x; exact p.lt
  | dK kvs => obtain ⟨_, _, _, _, o, _, _, e, _⟩ := x; exact Heap.lt_size e
  | dT kvs => obtain ⟨_, _, _, _, o, _, _, e, _⟩ := x; exact Heap.lt_size e
  | set S n => obtain ⟨o, _, _, _, e, _⟩ := x; exact Heap.lt_size e
  | ins C dx fs => obtain ⟨_, _, _, e, _⟩ := x; exact Heap.lt_size e
  | own y => obtain ⟨_, e⟩ := x; exact Heap.lt_size e
  | xd fs => obtain ⟨_, ⟨_, _, _, e, _⟩, _⟩ := x; exact Heap.lt_size e
  | rng lo hi => obtain ⟨_, _, _, e⟩ := x; exact Heap.lt_size e
  | frz ob u => obtain ⟨e, _⟩ := x; exact Heap.lt_size e
  | tbl ps => exact Heap.lt_size (show h.get? a = some _ from x)
  | met f y => exact Heap.lt_size (show h.get? a = some _ from x)
  | ext φ => obtain ⟨_, ⟨_, e⟩, _⟩ := x; exact Heap.lt_size e
theorem Paired.mapP {α β : Type} {F G : α → β → Prop} : ∀ {l₁ : List α} {l₂ : List β}, Paired F l₁ l₂ → (∀ a b, F a b → G a b) → Paired G l₁ l₂
  | _, _, .nil, _ => .nil
  | _, _, .cons r t, f => .cons (f _ _ r) (Paired.mapP t f)
/-- what an object's description leans on: its own object, its own dict, the tuples -/
theorem ObjOk.stay (x : ObjOk P w H h a o) (k : ∀ b u, (b = a ∨ H b = some (.own a)) → h.get? b = some u → h'.get? b = some u)
    (ho : ∀ b, H b = some (.own a) → H' b = some (.own a)) (ht : ∀ b xs, H b = some (.tup xs) → H' b = some (.tup xs)) : ObjOk P w H' h' a o := by
  induction o with
  | lst xs => obtain ⟨z, its, n, r, e⟩ := x; exact ⟨z, its, n, r, k _ _ (.inl rfl) e⟩
  | tup xs => obtain ⟨z, its, r, ob, e, c⟩ := x; exact ⟨z, its, r, ob, k _ _ (.inl rfl) e, c⟩
  | dK kvs => obtain ⟨z, y, vs, r, ob, es, ep, e, c⟩ := x; exact ⟨z, y, vs, r, ob, es, ep, k _ _ (.inl rfl) e, c⟩
  | dT kvs =>
    obtain ⟨z, y, xs, r, ob, es, ep, e, c⟩ := x
    exact ⟨z, y, xs, Paired.mapP r fun p q z => ⟨z.1, ht _ _ z.2.1, z.2.2⟩, ob, es, ep, k _ _ (.inl rfl) e, c⟩
  | set S n => obtain ⟨ob, es, ep, t, e, c⟩ := x; exact ⟨ob, es, ep, t, k _ _ (.inl rfl) e, c⟩
  | ins C dx fs =>
    obtain ⟨d, z, ne, e, mA, ⟨od, es, ep, e2, c⟩, r⟩ := x
    exact ⟨ho _ d, z, ne, k _ _ (.inl rfl) e, mA, ⟨od, es, ep, k _ _ (.inr d) e2, c⟩, r⟩
  | own y => obtain ⟨ob, e⟩ := x; exact ⟨ob, k _ _ (.inl rfl) e⟩
  | xd fs => obtain ⟨mA, ⟨od, es, ep, e, c⟩, r⟩ := x; exact ⟨mA, ⟨od, es, ep, k _ _ (.inl rfl) e, c⟩, r⟩
  | rng lo hi => obtain ⟨t, u, v, e⟩ := x; exact ⟨t, u, v, k _ _ (.inl rfl) e⟩
  | frz ob u ih => obtain ⟨e, q⟩ := x; exact ⟨k _ _ (.inl rfl) e, ih q⟩
  | tbl ps =>
    have e : h.get? a = some { cls := .none, data := .fields ps } := x
    show h'.get? a = some { cls := .none, data := .fields ps }
    exact k a _ (.inl rfl) e
  | met f y =>
    have e : h.get? a = some (PySem.W.methodObj (.ref f) (.ref y)) := x
    show h'.get? a = some (PySem.W.methodObj (.ref f) (.ref y))
    exact k a _ (.inl rfl) e
  | ext φ => obtain ⟨p, ⟨o, e⟩, st⟩ := x; exact ⟨st _ _ p fun o q => k _ _ (.inl rfl) q, ⟨o, k _ _ (.inl rfl) e⟩, st⟩
theorem HOk.lt (x : HOk P w H h) (e : H a = some o) : a < h.objs.size := (x a o e).lt
theorem HOk.fresh (x : HOk P w H h) (e : h.objs.size ≤ a) : H a = none := by
  cases q : H a with
  | none => rfl
  | some u => exact absurd (Nat.lt_of_lt_of_le (x.lt q) e) (Nat.lt_irrefl _)
/-- every object of the heap is kept -/
theorem HOk.kept (x : HOk P w H h) (k : ∀ b u, h.get? b = some u → h'.get? b = some u) : HOk P w H h' := fun a o e =>
  (x a o e).stay (fun b u _ q => k b u q) (fun _ q => q) fun _ _ q => q
/-- a new object is laid and tracked -/
theorem HOk.laid (x : HOk P w H h) (k : ∀ b u, h.get? b = some u → h'.get? b = some u) (hp : h.objs.size ≤ a) (new : ObjOk P w (upd H a o) h' a o) : HOk P w (upd H a o) h' := fun b u e => by
  have hn := x.fresh hp
  by_cases hb : b = a
  · subst hb; rw [upd_same] at e; cases e; exact new
  · rw [upd_ne hb] at e
    exact (x b u e).stay (fun c v _ q => k c v q) (fun c q => by rw [upd_ne (ne_of_none q hn)]; exact q) fun c xs q => by rw [upd_ne (ne_of_none q hn)]; exact q
end

/-- what may be read as u: it is u, or a known u -/
def Rd (H : Hp) (a : Addr) (u : HO) : Prop := H a = some u ∨ ∃ o, H a = some (.frz o u)
theorem Rd.ok {P : Program} {w : World} {H : Hp} {h : Heap} {a : Addr} {u : HO} (r : Rd H a u) (x : HOk P w H h) : ObjOk P w H h a u := by
  rcases r with r | ⟨o, r⟩
  · exact x a u r
  · obtain ⟨_, q⟩ := x a _ r
    exact q
/-- what may be written -/
def Mut : Option HO → Prop
  | some (.lst _) => True
  | some (.dK _) => True
  | some (.dT _) => True
  | some (.set _ _) => True
  | some (.ins _ _ _) => True
  | some (.ext _) => True
  | _ => False
section
variable {P : Program} {w : World} {H : Hp} {h h' : Heap} {x e : Addr} {o' : HO}
/-- the object at e is changed: x itself, or the dict of the instance x -/
theorem HOk.write (ok : HOk P w H h) (mu : Mut (H x)) (he : e = x ∨ H e = some (.own x)) (k : ∀ b u, b ≠ e → h.get? b = some u → h'.get? b = some u) (heo : ∃ u, h'.get? e = some u)
    (new : ObjOk P w (upd H x o') h' x o') : HOk P w (upd H x o') h' := fun b u q => by
  have nown : ∀ c y, H c = some (.own y) → c ≠ x := fun c y r z => by subst z; rw [r] at mu; exact mu
  have ntup : ∀ c xs, H c = some (.tup xs) → c ≠ x := fun c xs r z => by subst z; rw [r] at mu; exact mu
  by_cases hb : b = x
  · subst hb; rw [upd_same] at q; cases q; exact new
  · rw [upd_ne hb] at q
    by_cases hbe : b = e
    · have q' : H b = some (.own x) := by
        rcases he with z | z
        · exact absurd (hbe.trans z) hb
        · rw [hbe]; exact z
      rw [q] at q'; cases q'
      obtain ⟨v, hv⟩ := heo
      exact ⟨v, by rw [hbe]; exact hv⟩
    · refine (ok b u q).stay (fun c v hc r => k c v ?_ r) (fun c r => by rw [upd_ne (nown c b r)]; exact r) fun c xs r => by rw [upd_ne (ntup c xs r)]; exact r
      rcases hc with rfl | hc
      · exact hbe
      · rintro rfl
        rcases he with z | z
        · exact nown c b hc z
        · rw [hc] at z; cases z; exact hb rfl
end

/-! ### kept unless tracked; of the frames at fs (the callers') the slots may change (an exception that passes writes there); of the records at ex (iterators) nothing is said -/
structure Un (fs ex : List Addr) (H H' : Hp) (h h' : Heap) : Prop where
  keep : ∀ b o, h.get? b = some o → H b = none → b ∉ fs → b ∉ ex → h'.get? b = some o
  slot : ∀ b o, h.get? b = some o → H b = none → b ∈ fs → b ∉ ex → ∃ sl, h'.get? b = some { o with slots := sl }
  free : ∀ b o, h.get? b = some o → H b = none → b ∉ ex → H' b = none
  there : ∀ b o, h.get? b = some o → b ∉ ex → ∃ o', h'.get? b = some o'
  tups : ∀ b xs, H b = some (.tup xs) → H' b = some (.tup xs)
  frzs : ∀ b o u, H b = some (.frz o u) → H' b = some (.frz o u)
  tbls : ∀ b ps, H b = some (.tbl ps) → ∃ more, H' b = some (.tbl (ps ++ more))
section
variable {fs fs' ex ex' : List Addr} {H H1 H2 : Hp} {h h1 h2 h' : Heap} {a x e : Addr} {o : HO}
theorem Un.any (u : Un fs ex H H1 h h1) {b : Addr} {ob : Obj} (q : h.get? b = some ob) (n : H b = none) (hx : b ∉ ex) : ∃ sl, h1.get? b = some { ob with slots := sl } := by
  by_cases hb : b ∈ fs
  · exact u.slot b ob q n hb hx
  · exact ⟨ob.slots, u.keep b ob q n hb hx⟩
theorem Un.kept (k : ∀ b u, h.get? b = some u → h'.get? b = some u) : Un fs ex H H h h' :=
  ⟨fun b ob q _ _ _ => k b ob q, fun b ob q _ _ _ => ⟨ob.slots, k b ob q⟩, fun _ _ _ n _ => n, fun b ob q _ => ⟨ob, k b ob q⟩, fun _ _ q => q, fun _ _ _ q => q, fun _ ps q => ⟨#[], by rw [q]; simp⟩⟩
theorem Un.refl : Un fs ex H H h h := Un.kept fun _ _ q => q
theorem Un.laid (k : ∀ b u, h.get? b = some u → h'.get? b = some u) (hp : h.objs.size ≤ a) (hn : H a = none) : Un fs ex H (upd H a o) h h' where
  keep := fun b u q _ _ _ => k b u q
  slot := fun b u q _ _ _ => ⟨u.slots, k b u q⟩
  free := fun b u q n _ => by rw [upd_ne (Nat.ne_of_lt (Nat.lt_of_lt_of_le (Heap.lt_size q) hp))]; exact n
  there := fun b u q _ => ⟨u, k b u q⟩
  tups := fun b xs q => by rw [upd_ne (ne_of_none q hn)]; exact q
  frzs := fun b u xs q => by rw [upd_ne (ne_of_none q hn)]; exact q
  tbls := fun b ps q => ⟨#[], by rw [upd_ne (ne_of_none q hn), q]; simp⟩
theorem Un.write (mu : Mut (H x)) (he : e = x ∨ H e = some (.own x)) (k : ∀ b u, b ≠ e → h.get? b = some u → h'.get? b = some u) (heo : ∃ u, h'.get? e = some u) : Un fs ex H (upd H x o) h h' := by
  have hx : ∀ b, H b = none → b ≠ x := fun b n z => by subst z; rw [n] at mu; exact mu
  have hb : ∀ b, H b = none → b ≠ e := fun b n z => by
    subst z
    rcases he with r | r
    · exact hx b n r
    · rw [n] at r; cases r
  have hm : ∀ b u, H b = some u → ¬ Mut (some u) → b ≠ x := fun b u q nm z => by subst z; rw [q] at mu; exact nm mu
  refine ⟨fun b u q n _ _ => k b u (hb b n) q, fun b u q n _ _ => ⟨u.slots, k b u (hb b n) q⟩, fun b u q n _ => by rw [upd_ne (hx b n)]; exact n, fun b u q _ => ?_,
    fun b xs q => by rw [upd_ne (hm b _ q fun z => z)]; exact q, fun b u xs q => by rw [upd_ne (hm b _ q fun z => z)]; exact q, fun b ps q => ⟨#[], by rw [upd_ne (hm b _ q fun z => z), q]; simp⟩⟩
  by_cases hbe : b = e
  · subst hbe; exact heo
  · exact ⟨u, k b u hbe q⟩
end

/-! ### the heap without what is tracked -/
def trk (h : Heap) (H : Hp) : List Addr := (List.range h.objs.size).filter fun a => (H a).isSome
def hidT (h : Heap) (H : Hp) : Heap := PySem.W.hideAll h (trk h H)
theorem hidT_size (h : Heap) (H : Hp) : (hidT h H).objs.size = h.objs.size := PySem.W.hideAll_size _ _
theorem hidT_get {h : Heap} {H : Hp} {b : Addr} {o : Obj} (e : h.get? b = some o) (n : H b = none) : (hidT h H).get? b = some o :=
  PySem.W.hideAll_get _ e fun hm => by
    have q : (H b).isSome = true := (List.mem_filter.mp hm).2
    rw [n] at q; simp at q
theorem of_hidT {h : Heap} {H : Hp} {b : Addr} {o : Obj} (e : (hidT h H).get? b = some o) : h.get? b = some o ∧ H b = none := by
  have e' : h.get? b = some o := PySem.W.of_hideAll (trk h H) e
  refine ⟨e', ?_⟩
  cases q : H b with
  | none => rfl
  | some x =>
    have hm : b ∈ trk h H := List.mem_filter.mpr ⟨List.mem_range.mpr (Heap.lt_size e'), by simp [q]⟩
    have z : (hidT h H).get? b = none := PySem.W.hideAll_none (trk h H) hm
    rw [z] at e; cases e

/-! ### OpenK's ledger, filled with every new object but one -/
def allNews (g h : Heap) (L : Addr) : List (Addr × Obj) := (List.range h.objs.size).filterMap fun a => if a = L ∨ (g.get? a).isSome = true then none else (h.get? a).map fun o => (a, o)
def rest (g h : Heap) (L d : Addr) : List (Addr × Obj) := (allNews g h L).filter fun p => decide (p.1 ≠ d)
end L2

namespace L2
open PySem PySem.Spec PyProof.Rows

/-- the module's facts, over the base: the heap at the law's entry without what is tracked there -/
structure Mod (K : PySem.W.Frag) (mg : Str → Option Value) (base : Heap) : Prop where
  kin : K.In base
  glob : base.Ns mainGlobals mg
  blt : ∃ mb, base.Ns builtinsNs mb ∧ ∀ x : Str, x ≠ "__name__" → mb x = bootBuiltins x
  nolimit : base.NoLimit

/-- the context: a def's body (or a comprehension's block) running. base: fixed through the whole law; s₀, H₀: the entry; outer: the frames whose slots others may change (a def's callers); stack: all frames that run;
   ex: iterators that were made ahead of the entry and are walked here (a comprehension's); fn: the names whose cells were made at the entry (a def: all; a comprehension's block: its own); calm: not within an except suite; pn: pins that every state bears; xe: what is wanted of an exception that leaves the code -/
structure Cx where
  prog : Program
  w : World
  K : PySem.W.Frag
  mg : Str → Option Value
  base : Heap
  A : Around
  N : List Str
  s₀ : Shared
  H₀ : Hp
  env : Env
  outer : List Env
  stack : List Env
  ex : List Addr
  fn : Str → Bool
  calm : Bool
  pn : List (Addr × Obj)
  xe : Value → Shared → Prop
/-- the callers' frames -/
def frs (l : List Env) : List Addr := l.filterMap (·.frame)
abbrev Cx.fs (X : Cx) : List Addr := frs X.outer

def Vis (sc : Scope) (x : Str) : Prop := sc.names.lookup x = some .local ∨ sc.names.lookup x = some .cell ∨ sc.names.lookup x = some .free
def Loc (sc : Scope) (x : Str) : Prop := sc.names.lookup x = some .local ∨ sc.names.lookup x = some .cell
def Look (env : Env) (h : Heap) (m : Str → Option Value) (x : Str) (u : Value) : Prop :=
  (env.kindOf x = some .local ∧ m x = some u) ∨ ((env.kindOf x = some .cell ∨ env.kindOf x = some .free) ∧ ∃ c, env.cells.lookup x = some c ∧ h.IsCell c (some u))

structure Cx.Ok (X : Cx) : Prop where
  mod : Mod X.K X.mg X.base
  kind : X.env.scope.kind = .function
  glob : X.env.globals = mainGlobals
  blt : X.env.builtins = builtinsNs
  above : X.s₀.heap.objs.size ≤ X.env.locals
  inj : ∀ x y c, X.env.cells.lookup x = some c → X.env.cells.lookup y = some c → x = y
  has : ∀ x, (X.env.kindOf x = some .cell ∨ X.env.kindOf x = some .free) → ∃ c, X.env.cells.lookup x = some c
  cab : ∀ x c, X.fn x = true → X.env.cells.lookup x = some c → X.s₀.heap.objs.size ≤ c
  hd : X.calm = true → X.A.handled = none
  frames : X.A.frames = some X.stack
  stk : X.stack = X.outer ∨ (X.stack = X.env :: X.outer ∧ X.env.frame = some X.env.locals)
  exf : ∀ b ∈ X.ex, b ≠ X.env.locals ∧ ∀ x c, X.env.cells.lookup x = some c → c ≠ b
  bs : ∀ b o, X.base.get? b = some o → X.s₀.heap.get? b = some o ∧ X.H₀ b = none
  bsz : X.base.objs.size ≤ X.s₀.heap.objs.size
  noex : ∀ b o, X.base.get? b = some o → b ∉ X.ex
  exfs : ∀ b ∈ X.ex, b ∉ X.fs
  funs : X.s₀.heap.FunFrames X.base X.outer
  frf : ∀ b ∈ X.fs, X.H₀ b = none

structure Inv (X : Cx) (pins : List (Addr × Obj)) (σ : List (Option V)) (H : Hp) (s : Shared) : Prop where
  ok : X.Ok
  os : s.os = X.s₀.os
  bare : AllBare s.gens
  base : Un X.fs X.ex X.H₀ H X.s₀.heap s.heap
  loc : ∃ m, s.heap.Ns X.env.locals m ∧ ∀ (i : Nat) (x : Str) (v : V), X.N[i]? = some x → σ[i]? = some (some v) → Vis X.env.scope x → ∃ u, RelV v u ∧ Look X.env s.heap m x u
  cell : ∀ x c, X.env.cells.lookup x = some c → ∃ v, s.heap.IsCell c v
  free : H X.env.locals = none
  freeC : ∀ x c, X.env.cells.lookup x = some c → H c = none
  pin : ∀ p ∈ X.pn ++ pins, s.heap.get? p.1 = some p.2 ∧ H p.1 = none ∧ p.1 ≠ X.env.locals ∧ p.1 ∉ X.fs ∧ ∀ v, p.2.data ≠ .cell v
  hok : HOk X.prog X.w H s.heap
  len : σ.length = X.N.length

section
variable {X : Cx} {pins : List (Addr × Obj)} {σ : List (Option V)} {H H' : Hp} {s : Shared} {h' : Heap}

theorem Cx.Ok.nofr (ok : X.Ok) {b : Addr} {o : Obj} (e : X.base.get? b = some o) : b ∉ X.fs := fun hb => by
  have := (ok.funs.mem hb).1
  rw [e] at this; cases this
theorem Inv.bs (I : Inv X pins σ H s) : ∀ b o, X.base.get? b = some o → s.heap.get? b = some o ∧ H b = none := fun b o e =>
  ⟨I.base.keep b o (I.ok.bs b o e).1 (I.ok.bs b o e).2 (I.ok.nofr e) (I.ok.noex b o e), I.base.free b o (I.ok.bs b o e).1 (I.ok.bs b o e).2 (I.ok.noex b o e)⟩
theorem Inv.bk (I : Inv X pins σ H s) : ∀ b o, X.base.get? b = some o → s.heap.get? b = some o := fun b o e => (I.bs b o e).1
theorem Inv.mod (I : Inv X pins σ H s) : Mod X.K X.mg X.base := I.ok.mod
theorem Inv.kIn (I : Inv X pins σ H s) : X.K.In s.heap := I.ok.mod.kin.keeps I.bk
theorem Inv.lt (I : Inv X pins σ H s) : X.env.locals < s.heap.objs.size := let ⟨_, hn, _⟩ := I.loc; hn.lt
theorem Inv.sz (I : Inv X pins σ H s) : X.s₀.heap.objs.size ≤ s.heap.objs.size := Nat.le_trans I.ok.above (Nat.le_of_lt I.lt)
theorem Inv.nofs (I : Inv X pins σ H s) {a : Addr} (h : s.heap.objs.size ≤ a) : a ∉ X.fs := fun hb => by
  obtain ⟨_, o, ho, _⟩ := I.ok.funs.mem hb
  exact absurd (Nat.lt_of_lt_of_le (Heap.lt_size ho) (Nat.le_trans I.sz h)) (Nat.lt_irrefl _)
theorem Inv.cne (I : Inv X pins σ H s) : ∀ x c, X.env.cells.lookup x = some c → c ≠ X.env.locals := fun x c e z => by
  obtain ⟨v, o, ho, hd⟩ := I.cell x c e
  obtain ⟨m, ⟨o', es, ep, ho', hd', _⟩, _⟩ := I.loc
  rw [z, ho'] at ho; cases ho; rw [hd'] at hd; cases hd
theorem Inv.funs (I : Inv X pins σ H s) : s.heap.FunFrames X.base X.outer := by
  have all : ∀ (l : List Env), (∀ b ∈ frs l, b ∈ X.fs) → X.s₀.heap.FunFrames X.base l → s.heap.FunFrames X.base l := by
    intro l
    induction l with
    | nil => intro _ _; trivial
    | cons env r ih =>
      intro hs hl
      obtain ⟨hk, ⟨L, o, hf, hn, ho, hd⟩, hr⟩ := hl
      have hL : L ∈ X.fs := hs L (by unfold frs; rw [List.filterMap_cons, hf]; exact List.mem_cons_self)
      obtain ⟨sl, e⟩ := I.base.slot L o ho (I.ok.frf L hL) hL fun z => I.ok.exfs L z hL
      exact ⟨hk, ⟨L, _, hf, hn, e, hd⟩, ih (fun b hb => hs b (by unfold frs; rw [List.filterMap_cons, hf]; exact List.mem_cons_of_mem _ hb)) hr⟩
  exact all X.outer (fun _ hb => hb) I.ok.funs

/-- the frames that run, for a call -/
theorem Inv.stack (I : Inv X pins σ H s) : s.heap.FunFrames X.base X.stack := by
  rcases I.ok.stk with e | ⟨e, hf⟩
  · rw [e]; exact I.funs
  · rw [e]
    obtain ⟨m, hn, _⟩ := I.loc
    refine .cons (by rw [I.ok.kind]; decide) hf hn ?_ I.funs
    exact Heap.get?_none_of_le (Nat.le_trans I.ok.bsz I.ok.above)
theorem Inv.stkSub (I : Inv X pins σ H s) : ∀ b ∈ frs X.stack, b ∈ X.env.locals :: X.fs := fun b hb => by
  rcases I.ok.stk with e | ⟨e, hf⟩
  · rw [e] at hb; exact List.mem_cons_of_mem _ hb
  · rw [e] at hb
    unfold frs at hb
    rw [List.filterMap_cons, hf] at hb
    exact hb
theorem Inv.stkFree (I : Inv X pins σ H s) : ∀ b ∈ frs X.stack, H b = none := fun b hb => by
  rcases List.mem_cons.mp (I.stkSub b hb) with e | hb
  · rw [e]; exact I.free
  · obtain ⟨_, o, ho, _⟩ := I.ok.funs.mem hb
    exact I.base.free b o ho (I.ok.frf b hb) fun z => I.ok.exfs b z hb

/-- THE STEP: the untracked objects but the frame and the records at ch are kept (the callers' frames up to slots), the frame's map is kept, the new abstract heap is held -/
theorem Inv.step {g' : Array GenState} {t' : Nat} {d' : Drawn} {ch : List Addr} (I : Inv X pins σ H s)
    (hch : ∀ b ∈ ch, (b ∈ X.ex ∨ X.s₀.heap.objs.size ≤ b) ∧ b ≠ X.env.locals ∧ (∀ x c, X.env.cells.lookup x = some c → c ≠ b) ∧ ∀ p ∈ X.pn ++ pins, p.1 ≠ b)
    (keep : ∀ b o, b ≠ X.env.locals → b ∉ X.fs → b ∉ ch → s.heap.get? b = some o → H b = none → h'.get? b = some o)
    (slot : ∀ b o, b ≠ X.env.locals → b ∈ X.fs → b ∉ ch → s.heap.get? b = some o → H b = none → ∃ sl, h'.get? b = some { o with slots := sl }) (free : ∀ b o, b ∉ ch → s.heap.get? b = some o → H b = none → H' b = none)
    (there : ∀ b o, b ∉ ch → s.heap.get? b = some o → ∃ o', h'.get? b = some o')
    (tups : ∀ b xs, H b = some (.tup xs) → H' b = some (.tup xs)) (frzs : ∀ b o u, H b = some (.frz o u) → H' b = some (.frz o u)) (tbls : ∀ b ps, H b = some (.tbl ps) → ∃ more, H' b = some (.tbl (ps ++ more)))
    (ns : ∀ m, s.heap.Ns X.env.locals m → h'.Ns X.env.locals m) (hok : HOk X.prog X.w H' h') (hg : AllBare g') :
    Inv X pins σ H' { s with heap := h', gens := g', drawn := d', toks := t' } := by
  have neL : ∀ b o, X.s₀.heap.get? b = some o → b ≠ X.env.locals := fun b o e => Nat.ne_of_lt (Nat.lt_of_lt_of_le (Heap.lt_size e) I.ok.above)
  have neC : ∀ b o, X.s₀.heap.get? b = some o → b ∉ X.ex → b ∉ ch := fun b o e hx hb => by
    rcases (hch b hb).1 with z | z
    · exact hx z
    · exact absurd (Nat.lt_of_lt_of_le (Heap.lt_size e) z) (Nat.lt_irrefl _)
  have cellK : ∀ x c, X.env.cells.lookup x = some c → ∀ v, s.heap.IsCell c v → h'.IsCell c v := fun x c e v ⟨o, ho, hd⟩ => by
    have nch : c ∉ ch := fun z => (hch c z).2.2.1 x c e rfl
    by_cases hc : c ∈ X.fs
    · obtain ⟨sl, q⟩ := slot c o (I.cne x c e) hc nch ho (I.freeC x c e)
      exact ⟨_, q, hd⟩
    · exact ⟨o, keep c o (I.cne x c e) hc nch ho (I.freeC x c e), hd⟩
  refine ⟨I.ok, I.os, hg, ⟨fun b o e n hb hx => ?_, fun b o e n hb hx => ?_, fun b o e n hx => ?_, fun b o e hx => ?_, fun b xs e => tups b xs (I.base.tups b xs e), fun b o xs e => frzs b o xs (I.base.frzs b o xs e), fun b ps e => ?_⟩, ?_, fun x c e => ?_, ?_, fun x c e => ?_, fun p hp => ?_, hok, I.len⟩
  · exact keep b o (neL b o e) hb (neC b o e hx) (I.base.keep b o e n hb hx) (I.base.free b o e n hx)
  · obtain ⟨sl, e1⟩ := I.base.slot b o e n hb hx
    obtain ⟨sl', e2⟩ := slot b _ (neL b o e) hb (neC b o e hx) e1 (I.base.free b o e n hx)
    exact ⟨sl', e2⟩
  · obtain ⟨o', e1⟩ := I.base.there b o e hx
    exact free b o' (neC b o e hx) e1 (I.base.free b o e n hx)
  · obtain ⟨o', e1⟩ := I.base.there b o e hx
    exact there b o' (neC b o e hx) e1
  · obtain ⟨m1, e1⟩ := I.base.tbls b ps e
    obtain ⟨m2, e2⟩ := tbls b _ e1
    exact ⟨m1 ++ m2, by rw [e2, Array.append_assoc]⟩
  · obtain ⟨m, hn, hl⟩ := I.loc
    refine ⟨m, ns m hn, fun i x v e1 e2 e3 => ?_⟩
    obtain ⟨u, r, l⟩ := hl i x v e1 e2 e3
    refine ⟨u, r, ?_⟩
    rcases l with l | ⟨k, c, e, z⟩
    · exact .inl l
    · exact .inr ⟨k, c, e, cellK x c e _ z⟩
  · obtain ⟨v, z⟩ := I.cell x c e
    exact ⟨v, cellK x c e v z⟩
  · obtain ⟨m, ⟨o, _, _, ho, _⟩, _⟩ := I.loc
    exact free _ o (fun z => (hch _ z).2.1 rfl) ho I.free
  · obtain ⟨v, o, ho, hd⟩ := I.cell x c e
    exact free c o (fun z => (hch c z).2.2.1 x c e rfl) ho (I.freeC x c e)
  · obtain ⟨e, n, ne, nf, d⟩ := I.pin p hp
    have nch : p.1 ∉ ch := fun z => (hch p.1 z).2.2.2 p hp rfl
    exact ⟨keep p.1 p.2 ne nf nch e n, free p.1 p.2 nch e n, ne, nf, d⟩
/-- .. where the frame's own object is kept too -/
theorem Inv.un {t' : Nat} (I : Inv X pins σ H s) (u : Un X.fs [] H H' s.heap h') (hok : HOk X.prog X.w H' h') : Inv X pins σ H' { s with heap := h', toks := t' } := by
  obtain ⟨m, ⟨o, es, ep, ho, r⟩, _⟩ := id I.loc
  obtain ⟨sl, hL⟩ := u.any ho I.free (by simp)
  exact I.step (g' := s.gens) (d' := s.drawn) (ch := []) (fun _ z => nomatch z) (fun b o _ hb _ e n => u.keep b o e n hb (by simp)) (fun b o _ hb _ e n => u.slot b o e n hb (by simp)) (fun b o _ e n => u.free b o e n (by simp)) (fun b o _ e => u.there b o e (by simp)) u.tups u.frzs u.tbls (fun m' hm => by
    obtain ⟨o', es', ep', ho', r'⟩ := hm
    rw [ho] at ho'; cases ho'
    exact ⟨_, es', ep', hL, r'⟩) hok I.bare
/-- behind a call (or a comprehension's block): the slots of this frame may have changed too, the records at ch may have turned -/
theorem Inv.call {g' : Array GenState} {t' : Nat} {d' : Drawn} {ch : List Addr} (I : Inv X pins σ H s) (u : Un (frs X.stack) ch H H' s.heap h') (hok : HOk X.prog X.w H' h') (hg : AllBare g')
    (hch : ∀ b ∈ ch, (b ∈ X.ex ∨ X.s₀.heap.objs.size ≤ b) ∧ b ≠ X.env.locals ∧ (∀ x c, X.env.cells.lookup x = some c → c ≠ b) ∧ ∀ p ∈ X.pn ++ pins, p.1 ≠ b) :
    Inv X pins σ H' { s with heap := h', gens := g', drawn := d', toks := t' } := by
  obtain ⟨m, ⟨o, es, ep, ho, r⟩, _⟩ := id I.loc
  obtain ⟨sl, hL⟩ := u.any ho I.free fun z => (hch _ z).2.1 rfl
  exact I.step (ch := ch) hch (fun b o hL hb hc e n => u.keep b o e n (fun z => (List.mem_cons.mp (I.stkSub b z)).elim hL hb) hc) (fun b o _ _ hc e n => u.any e n hc) (fun b o hc e n => u.free b o e n hc) (fun b o hc e => u.there b o e hc) u.tups u.frzs u.tbls (fun m' hm => by
    obtain ⟨o', es', ep', ho', r'⟩ := hm
    rw [ho] at ho'; cases ho'
    exact ⟨_, es', ep', hL, r'⟩) hok hg
/-- an untracked record of ours (an iterator) has turned -/
theorem Inv.turned {t' : Nat} {it : Addr} (I : Inv X pins σ H s) (k : ∀ b o, b ≠ it → s.heap.get? b = some o → h'.get? b = some o) (hn : H it = none) (hL : it ≠ X.env.locals)
    (h1 : it ∈ X.ex ∨ X.s₀.heap.objs.size ≤ it) (h2 : ∀ x c, X.env.cells.lookup x = some c → c ≠ it) (h3 : ∀ p ∈ X.pn ++ pins, p.1 ≠ it) : Inv X pins σ H { s with heap := h', toks := t' } := by
  have nit : ∀ b u, H b = some u → b ≠ it := fun b u e z => by rw [z, hn] at e; cases e
  refine I.step (g' := s.gens) (d' := s.drawn) (ch := [it]) (fun b hb => ?_) (fun b o _ _ hc e _ => k b o (fun z => hc (by simp [z])) e) (fun b o _ _ hc e _ => ⟨o.slots, k b o (fun z => hc (by simp [z])) e⟩) (fun _ _ _ _ n => n)
    (fun b o hc e => ⟨o, k b o (fun z => hc (by simp [z])) e⟩) (fun _ _ e => e) (fun _ _ _ e => e) (fun b ps e => ⟨#[], by rw [e]; simp⟩) (fun m hm => ?_) (fun b u e => ?_) I.bare
  · have e : b = it := by simpa using hb
    subst e
    exact ⟨h1, hL, h2, h3⟩
  · obtain ⟨o, es, ep, ho, r⟩ := hm
    exact ⟨o, es, ep, k _ o (Ne.symm hL) ho, r⟩
  · refine (I.hok b u e).stay (fun c v hc q => k c v ?_ q) (fun _ q => q) fun _ _ q => q
    rcases hc with z | z
    · rw [z]; exact nit b u e
    · exact nit c _ z
theorem Inv.tok (I : Inv X pins σ H s) (t : Nat) : Inv X pins σ H { s with toks := t } := I.un (h' := s.heap) (t' := t) Un.refl I.hok
/-- all objects kept -/
theorem Inv.kept {t' : Nat} (I : Inv X pins σ H s) (k : ∀ b u, s.heap.get? b = some u → h'.get? b = some u) : Inv X pins σ H { s with heap := h', toks := t' } := I.un (Un.kept k) (I.hok.kept k)
/-- a new object laid and tracked -/
theorem Inv.laid {a : Addr} {o : HO} {t' : Nat} (I : Inv X pins σ H s) (k : ∀ b u, s.heap.get? b = some u → h'.get? b = some u) (hp : s.heap.objs.size ≤ a) (new : ObjOk X.prog X.w (upd H a o) h' a o) :
    Inv X pins σ (upd H a o) { s with heap := h', toks := t' } := I.un (Un.laid k hp (I.hok.fresh hp)) (I.hok.laid k hp new)
/-- an object written -/
theorem Inv.write {x e : Addr} {o : HO} {t' : Nat} (I : Inv X pins σ H s) (mu : Mut (H x)) (he : e = x ∨ H e = some (.own x)) (k : ∀ b u, b ≠ e → s.heap.get? b = some u → h'.get? b = some u) (heo : ∃ u, h'.get? e = some u)
    (new : ObjOk X.prog X.w (upd H x o) h' x o) : Inv X pins σ (upd H x o) { s with heap := h', toks := t' } := I.un (Un.write mu he k heo) (I.hok.write mu he k heo new)
theorem Inv.pins_of {pins' : List (Addr × Obj)} (I : Inv X pins σ H s) (h : ∀ p ∈ pins', s.heap.get? p.1 = some p.2 ∧ H p.1 = none ∧ p.1 ≠ X.env.locals ∧ p.1 ∉ X.fs ∧ ∀ v, p.2.data ≠ .cell v) : Inv X pins' σ H s :=
  ⟨I.ok, I.os, I.bare, I.base, I.loc, I.cell, I.free, I.freeC, fun p hp => (List.mem_append.mp hp).elim (fun z => I.pin p (List.mem_append_left _ z)) (h p), I.hok, I.len⟩

theorem nodup_ix {N : List Str} (hN : N.Nodup) {i j : Nat} {x : Str} (a : N[i]? = some x) (b : N[j]? = some x) : i = j := by
  obtain ⟨h1, e1⟩ := List.getElem?_eq_some_iff.mp a
  obtain ⟨h2, e2⟩ := List.getElem?_eq_some_iff.mp b
  exact (List.getElem_inj hN).mp (e1.trans e2.symm)

/-- a name is stored; what changed -/
theorem store_ok2 {M : Model} {A : Around} {E : Value → Shared → Prop} {i : Nat} {x : Str} {v : V} {u : Value} {Q : Unit → Shared → Prop} (I : Inv X pins σ H s) (hN : X.N.Nodup) (hi : X.N[i]? = some x) (hx : Loc X.env.scope x) (r : RelV v u)
    (h : ∀ s', Inv X pins (σ.set i (some v)) H s' → (∃ a, Heap.SameBut a s.heap s'.heap ∧ (a = X.env.locals ∨ X.env.cells.lookup x = some a)) → Q () s') (hf : X.fn x = true ∨ X.env.scope.names.lookup x = some .local := by first | exact .inl rfl | exact .inr rfl | assumption) : wpAny M A (storeName X.env x u) Q E s := by
  obtain ⟨m, hn, hl⟩ := id I.loc
  have hcls : (X.env.scope.kind == .class || (X.env.scope.kind == .module && X.env.locals != X.env.globals)) = false := by rw [I.ok.kind]; rfl
  have hiσ : i < σ.length := by rw [I.len]; exact (List.getElem?_eq_some_iff.mp hi).1
  have cne := I.cne
  have tracked : ∀ {a : Addr} {h' : Heap}, (∃ o, s.heap.get? a = some o ∧ H a = none) → Heap.SameBut a s.heap h' → HOk X.prog X.w H h' := fun {a h'} ha hs b ob e => by
    obtain ⟨_, _, hfree⟩ := ha
    refine (I.hok b ob e).stay (fun c w' hc q => (hs.2 c ?_).trans q) (fun _ q => q) fun _ _ q => q
    rintro rfl
    rcases hc with rfl | hc
    · rw [hfree] at e; cases e
    · rw [hfree] at hc; cases hc
  rcases hx with hk | hk
  · refine wpAny_storeName_local hk hn (fun h' hn' hs => ?_) hcls
    obtain ⟨oL, _, _, hoL, _⟩ := id hn
    refine h _ ⟨I.ok, I.os, I.bare, ⟨fun b o e n hb hx => ?_, fun b o e n hb hx => ?_, I.base.free, fun b o e hx => ?_, I.base.tups, I.base.frzs, I.base.tbls⟩, ⟨_, hn', fun j y v' e1 e2 e3 => ?_⟩, fun y c e => ?_, I.free, I.freeC, fun p hp => ?_, tracked ⟨oL, hoL, I.free⟩ hs, by simpa using I.len⟩ ⟨_, hs, .inl rfl⟩
    · exact (hs.2 b (Nat.ne_of_lt (Nat.lt_of_lt_of_le (Heap.lt_size e) I.ok.above))).trans (I.base.keep b o e n hb hx)
    · obtain ⟨sl, e1⟩ := I.base.slot b o e n hb hx
      exact ⟨sl, (hs.2 b (Nat.ne_of_lt (Nat.lt_of_lt_of_le (Heap.lt_size e) I.ok.above))).trans e1⟩
    · obtain ⟨o', e1⟩ := I.base.there b o e hx
      exact ⟨o', (hs.2 b (Nat.ne_of_lt (Nat.lt_of_lt_of_le (Heap.lt_size e) I.ok.above))).trans e1⟩
    · by_cases hj : j = i
      · subst hj
        rw [hi] at e1; cases e1
        rw [List.getElem?_set_self hiσ] at e2
        cases e2
        exact ⟨u, r, .inl ⟨hk, by simp⟩⟩
      · rw [List.getElem?_set_ne (Ne.symm hj)] at e2
        obtain ⟨u', r', q⟩ := hl j y v' e1 e2 e3
        refine ⟨u', r', ?_⟩
        rcases q with ⟨k, e⟩ | ⟨k, c, e, z⟩
        · refine .inl ⟨k, ?_⟩
          have : y ≠ x := fun e => hj (nodup_ix hN e1 (e ▸ hi))
          simp [this, e]
        · exact .inr ⟨k, c, e, z.sameBut hs (cne y c e)⟩
    · obtain ⟨w', z⟩ := I.cell y c e
      exact ⟨w', z.sameBut hs (cne y c e)⟩
    · obtain ⟨e, n, ne, nf, d⟩ := I.pin p hp
      exact ⟨(hs.2 p.1 ne).trans e, n, ne, nf, d⟩
  · have hfn : X.fn x = true := by
      rcases hf with z | z
      · exact z
      · rw [z] at hk; cases hk
    obtain ⟨c, hc⟩ := I.ok.has x (.inl hk)
    obtain ⟨w', z⟩ := I.cell x c hc
    refine wpAny_storeName_cell I.ok.kind hk hc z (fun h' hc' hs => ?_)
    obtain ⟨oc, hoc, hocd⟩ := id z
    refine h { s with heap := h' } ⟨I.ok, I.os, I.bare, ⟨fun b o e n hb hx => ?_, fun b o e n hb hx => ?_, I.base.free, fun b o e hx => ?_, I.base.tups, I.base.frzs, I.base.tbls⟩, ⟨m, hn.sameBut hs (Ne.symm (cne x c hc)), fun j y v' e1 e2 e3 => ?_⟩, fun y c' e => ?_, I.free, I.freeC, fun p hp => ?_, tracked ⟨oc, hoc, I.freeC x c hc⟩ hs, by simpa using I.len⟩ ⟨c, hs, .inr hc⟩
    · exact (hs.2 b (Nat.ne_of_lt (Nat.lt_of_lt_of_le (Heap.lt_size e) (I.ok.cab x c hfn hc)))).trans (I.base.keep b o e n hb hx)
    · obtain ⟨sl, e1⟩ := I.base.slot b o e n hb hx
      exact ⟨sl, (hs.2 b (Nat.ne_of_lt (Nat.lt_of_lt_of_le (Heap.lt_size e) (I.ok.cab x c hfn hc)))).trans e1⟩
    · obtain ⟨o', e1⟩ := I.base.there b o e hx
      exact ⟨o', (hs.2 b (Nat.ne_of_lt (Nat.lt_of_lt_of_le (Heap.lt_size e) (I.ok.cab x c hfn hc)))).trans e1⟩
    · by_cases hj : j = i
      · subst hj
        rw [hi] at e1; cases e1
        rw [List.getElem?_set_self hiσ] at e2
        cases e2
        exact ⟨u, r, .inr ⟨.inl hk, c, hc, hc'⟩⟩
      · rw [List.getElem?_set_ne (Ne.symm hj)] at e2
        obtain ⟨u', r', q⟩ := hl j y v' e1 e2 e3
        refine ⟨u', r', ?_⟩
        rcases q with q | ⟨k, c', e, z'⟩
        · exact .inl q
        · refine .inr ⟨k, c', e, z'.sameBut hs ?_⟩
          rintro rfl
          exact hj (nodup_ix hN e1 (I.ok.inj _ _ _ e hc ▸ hi))
    · by_cases hcc : c' = c
      · subst hcc; exact ⟨_, hc'⟩
      · obtain ⟨w2, z2⟩ := I.cell y c' e
        exact ⟨w2, z2.sameBut hs hcc⟩
    · obtain ⟨e, n, ne, nf, d⟩ := I.pin p hp
      refine ⟨(hs.2 p.1 ?_).trans e, n, ne, nf, d⟩
      intro q
      rw [q, hoc] at e
      have q' : oc = p.2 := Option.some.inj e
      exact d w' (by rw [← q']; exact hocd)
theorem store_ok {M : Model} {A : Around} {E : Value → Shared → Prop} {i : Nat} {x : Str} {v : V} {u : Value} {Q : Unit → Shared → Prop} (I : Inv X pins σ H s) (hN : X.N.Nodup) (hi : X.N[i]? = some x) (hx : Loc X.env.scope x) (r : RelV v u)
    (h : ∀ s', Inv X pins (σ.set i (some v)) H s' → Q () s') (hf : X.fn x = true ∨ X.env.scope.names.lookup x = some .local := by first | exact .inl rfl | exact .inr rfl | assumption) : wpAny M A (storeName X.env x u) Q E s :=
  store_ok2 I hN hi hx r (fun s' I' _ => h s' I') hf
/-- behind a call or a block, the state as it is -/
theorem Inv.call' {s' : Shared} {ch : List Addr} (I : Inv X pins σ H s) (ho : s'.os = s.os) (u : Un (frs X.stack) ch H H' s.heap s'.heap) (hok : HOk X.prog X.w H' s'.heap) (hg : AllBare s'.gens)
    (hch : ∀ b ∈ ch, (b ∈ X.ex ∨ X.s₀.heap.objs.size ≤ b) ∧ b ≠ X.env.locals ∧ (∀ x c, X.env.cells.lookup x = some c → c ≠ b) ∧ ∀ p ∈ X.pn ++ pins, p.1 ≠ b) : Inv X pins σ H' s' := by
  obtain ⟨h', g', d', t', o'⟩ := s'
  have e : o' = s.os := ho
  subst e
  exact I.call (g' := g') (t' := t') (d' := d') u hok hg hch
end

/-! ### the judgements -/
/-- an exception: its class, its own dict's address (where it has one), the abstract heap behind it -/
abbrev XK := Value → Option Addr → Hp → Prop
abbrev St := List (Option V)
abbrev VK := V → Hp → Prop
/-- an expression's reading; a test's; an argument list's -/
abbrev TE := St → Hp → VK → Prop
abbrev TT := St → Hp → (Bool → Hp → Prop) → Prop
abbrev TA := St → Hp → (List V → Hp → Prop) → Prop
/-- what is wanted behind a statement -/
structure Ends where
  nx : St → Hp → Prop
  rt : VK
  bk : St → Hp → Prop := fun _ _ => False
  ct : St → Hp → Prop := fun _ _ => False
abbrev TS := Ends → St → Hp → Prop

def EP (X : Cx) (pins : List (Addr × Obj)) (σ : St) (Q : VK) (u : Value) (s' : Shared) : Prop := ∃ v H', Inv X pins σ H' s' ∧ RelV v u ∧ Q v H'
def TP (X : Cx) (pins : List (Addr × Obj)) (σ : St) (Q : Bool → Hp → Prop) (b : Bool) (s' : Shared) : Prop := ∃ H', Inv X pins σ H' s' ∧ Q b H'
def AP (X : Cx) (pins : List (Addr × Obj)) (σ : St) (Q : List V → Hp → Prop) (us : List Value) (s' : Shared) : Prop := ∃ vs H', Inv X pins σ H' s' ∧ Vals vs us ∧ Q vs H'
def SP (X : Cx) (pins : List (Addr × Obj)) (D : Ends) (f : Flow) (s' : Shared) : Prop :=
  match f with
  | .next => ∃ σ' H', Inv X pins σ' H' s' ∧ D.nx σ' H'
  | .brk => ∃ σ' H', Inv X pins σ' H' s' ∧ D.bk σ' H'
  | .cont => ∃ σ' H', Inv X pins σ' H' s' ∧ D.ct σ' H'
  | .ret u => ∃ v σ' H', Inv X pins σ' H' s' ∧ RelV v u ∧ D.rt v H'

def PE (X : Cx) (e : Expr) (t : TE) : Prop :=
  ∀ (pins : List (Addr × Obj)) (s : Shared) (σ : St) (H : Hp) (Q : VK), Inv X pins σ H s → t σ H Q → wpAny (model X.prog X.w) X.A (eval e X.env) (EP X pins σ Q) X.xe s
def PT (X : Cx) (e : Expr) (t : TT) : Prop :=
  ∀ (pins : List (Addr × Obj)) (s : Shared) (σ : St) (H : Hp) (Q : Bool → Hp → Prop), Inv X pins σ H s → t σ H Q → wpAny (model X.prog X.w) X.A (isTrue e X.env (eval e X.env)) (TP X pins σ Q) X.xe s
/-- a test whatever its 'whole' is (and, or) -/
def PW (X : Cx) (e : Expr) (t : TT) : Prop :=
  ∀ (whole : Sem Value) (pins : List (Addr × Obj)) (s : Shared) (σ : St) (H : Hp) (Q : Bool → Hp → Prop), Inv X pins σ H s → t σ H Q → wpAny (model X.prog X.w) X.A (isTrue e X.env whole) (TP X pins σ Q) X.xe s
theorem PW.pt {X : Cx} {e : Expr} {t : TT} (h : PW X e t) : PT X e t := h _
/-- an argument list (no star), from the left -/
def PA (X : Cx) (es : List Expr) (t : TA) : Prop :=
  ∀ (pos : Pos) (pins : List (Addr × Obj)) (s : Shared) (σ : St) (H : Hp) (Q : List V → Hp → Prop), Inv X pins σ H s → t σ H Q → wpAny (model X.prog X.w) X.A (spliced (backTo pos (starEach es X.env))) (AP X pins σ Q) X.xe s
def PS (X : Cx) (st : Stmt) (t : TS) : Prop :=
  ∀ (pins : List (Addr × Obj)) (s : Shared) (σ : St) (H : Hp) (D : Ends), Inv X pins σ H s → t D σ H → wpAny (model X.prog X.w) X.A (exec st X.env) (SP X pins D) X.xe s
def PSs (X : Cx) (st : List Stmt) (t : TS) : Prop :=
  ∀ (pins : List (Addr × Obj)) (s : Shared) (σ : St) (H : Hp) (D : Ends), Inv X pins σ H s → t D σ H → wpAny (model X.prog X.w) X.A (execs st X.env) (SP X pins D) X.xe s
/-- weaken the end -/
theorem thn {α : Type} {t : Sem α} {Q Q' : α → Shared → Prop} {M : Model} {A : Around} {E : Value → Shared → Prop} {s : Shared} (h : wpAny M A t Q E s) (hQ : ∀ a s, Q a s → Q' a s) : wpAny M A t Q' E s := wpAny_mono h hQ fun _ _ x => x
end L2

namespace L2
open PySem PySem.Spec PyProof.Rows
section
variable {X : Cx}

/-- two expressions in a row -/
theorem bin {a b : Expr} {ta tb : TE} (ha : PE X a ta) (hb : PE X b tb) {pins : List (Addr × Obj)} {s : Shared} {σ : St} {H : Hp} {R : V → V → Hp → Prop} (I : Inv X pins σ H s) (h : ta σ H fun x H1 => tb σ H1 fun y H2 => R x y H2)
    {α : Type} {Q : α → Shared → Prop} {f : Value → Value → Sem α}
    (hf : ∀ v u s2 x y H2, Inv X pins σ H2 s2 → RelV x v → RelV y u → R x y H2 → wpAny (model X.prog X.w) X.A (f v u) Q X.xe s2) :
    wpAny (model X.prog X.w) X.A (eval a X.env) (fun v s₁ => wpAny (model X.prog X.w) X.A (eval b X.env) (fun u s₂ => wpAny (model X.prog X.w) X.A (f v u) Q X.xe s₂) X.xe s₁) X.xe s := by
  refine thn (ha pins s σ H _ I h) fun v s1 ⟨x, H1, I1, r1, q1⟩ => ?_
  refine thn (hb pins s1 σ H1 _ I1 q1) fun u s2 ⟨y, H2, I2, r2, q2⟩ => ?_
  exact hf v u s2 x y H2 I2 r1 r2 q2

/-! ### names and constants -/
def tVar (i : Nat) : TE := fun σ H Q => ∃ v, σ[i]? = some (some v) ∧ Q v H
def tC (v : V) : TE := fun _ H Q => Q v H
theorem pe_var {i : Nat} {x : Str} {pos : Pos} (hN : X.N[i]? = some x) (hv : Vis X.env.scope x) (hd : (x == ("__debug__" : Str)) = false := by decide) (hcd : (x == ("__classdict__" : Str)) = false := by decide) : PE X (.Name x pos) (tVar i) := by
  intro pins s σ H Q I h
  obtain ⟨v, e, h⟩ := h
  obtain ⟨m, hn, hl⟩ := I.loc
  obtain ⟨u, r, l⟩ := hl i x v hN e hv
  have fin : EP X pins σ Q u s := ⟨v, H, I, r, h⟩
  rcases l with ⟨hk, hm⟩ | ⟨hk, c, hc, hcell⟩
  · exact wpAny_Name (wpAny_loadName_local I.ok.kind hk hn hm fin) hd
  · rcases hk with hk | hk
    · exact wpAny_Name (wpAny_loadName_cell I.ok.kind hk hc hcell fin) hd
    · exact wpAny_Name (wpAny_loadName_free I.ok.kind hk hc hcell fin hcd) hd
theorem pe_int {i j pos} : PE X (.Constant (.int i) j pos) (tC (.int i)) := fun _ _ _ H _ I h => wpAny_Constant_int ⟨.int i, H, I.tok _, ⟨_, rfl⟩, h⟩
theorem pe_bl {b j pos} : PE X (.Constant (.bool b) j pos) (tC (.bl b)) := fun _ _ _ H _ I h => Constant_bool ⟨.bl b, H, I, rfl, h⟩
theorem pe_non {j pos} : PE X (.Constant .none j pos) (tC .non) := fun _ _ _ H _ I h => Constant_none ⟨.non, H, I, rfl, h⟩
theorem pe_str {x j pos} : PE X (.Constant (.str x) j pos) (tC (.str x)) := fun _ _ _ H _ I h => Calls.Constant_str ⟨.str x, H, I.tok _, ⟨_, rfl⟩, h⟩

/-- a global name of the def -/
def Gl (X : Cx) (x : Str) : Prop := X.env.kindOf x = some .globalImplicit
theorem ld_glob {E : Value → Shared → Prop} {pins : List (Addr × Obj)} {s : Shared} {σ : St} {H : Hp} {x : Str} {u : Value} {pos : Pos} {Q : Value → Shared → Prop} (I : Inv X pins σ H s) (hg : Gl X x) (hm : X.mg x = some u) (h : Q u s)
    (hd : (x == ("__debug__" : Str)) = false := by decide) : wpAny (model X.prog X.w) X.A (eval (.Name x pos) X.env) Q E s :=
  Calls.Name_function_global I.ok.kind hg (Calls.loadGlobal_global (by rw [I.ok.glob]; exact I.mod.glob.keeps I.bk) hm h) hd
theorem ld_blt {E : Value → Shared → Prop} {pins : List (Addr × Obj)} {s : Shared} {σ : St} {H : Hp} {x : Str} {u : Value} {pos : Pos} {Q : Value → Shared → Prop} (I : Inv X pins σ H s) (hg : Gl X x) (hm : X.mg x = none) (hv : bootBuiltins x = some u) (h : Q u s)
    (hn : x ≠ "__name__" := by decide) (hd : (x == ("__debug__" : Str)) = false := by decide) : wpAny (model X.prog X.w) X.A (eval (.Name x pos) X.env) Q E s := by
  obtain ⟨mb, h1, h2⟩ := I.mod.blt
  exact Calls.Name_function_global I.ok.kind hg (Calls.loadGlobal_builtin (by rw [I.ok.glob]; exact I.mod.glob.keeps I.bk) hm (by rw [I.ok.blt]; exact h1.keeps I.bk) ((h2 x hn).trans hv) h) hd
theorem pe_bltn {x : Str} {v : V} {u : Value} {pos : Pos} (hg : Gl X x) (hm : X.mg x = none) (hv : bootBuiltins x = some u) (r : RelV v u) (hn : x ≠ "__name__" := by decide) (hd : (x == ("__debug__" : Str)) = false := by decide) : PE X (.Name x pos) (tC v) :=
  fun _ _ _ H _ I h => ld_blt I hg hm hv ⟨v, H, I, r, h⟩ hn hd

/-! ### arithmetic -/
/-- two ints -/
def t2I (ta tb : TE) (k : Int → Int → Hp → Prop) : St → Hp → Prop := fun σ H => ta σ H fun x H1 => tb σ H1 fun y H2 => ∃ i j, x = .int i ∧ y = .int j ∧ k i j H2
def tAdd (ta tb : TE) : TE := fun σ H Q => t2I ta tb (fun i j H2 => Q (.int (i + j)) H2) σ H
def tSub (ta tb : TE) : TE := fun σ H Q => t2I ta tb (fun i j H2 => Q (.int (i - j)) H2) σ H
/-- the left factor below 2^64 -/
def tMul (ta tb : TE) : TE := fun σ H Q => t2I ta tb (fun i j H2 => (-(2 ^ 64) < i ∧ i < 2 ^ 64) ∧ Q (.int (i * j)) H2) σ H
variable {a b : Expr} {ta tb : TE} {pos : Pos}
/-! ### comparisons -/
def PC (X : Cx) (op : CmpOp) (a b : Expr) (t : TE) : Prop :=
  ∀ (pins : List (Addr × Obj)) (s : Shared) (σ : St) (H : Hp) (Q : VK), Inv X pins σ H s → t σ H Q →
    wpAny (model X.prog X.w) X.A (eval a X.env) (fun v s₁ => wpAny (model X.prog X.w) X.A (eval b X.env) (fun u s₂ => wpAny (model X.prog X.w) X.A (compareOp op v u) (EP X pins σ Q) X.xe s₂) X.xe s₁) X.xe s
def tCmp (p : Int → Int → Bool) (ta tb : TE) : TE := fun σ H Q => t2I ta tb (fun i j H2 => Q (.bl (p i j)) H2) σ H
abbrev tLt : TE → TE → TE := tCmp fun i j => decide (i < j)
abbrev tLe : TE → TE → TE := tCmp fun i j => decide (i ≤ j)
abbrev tGt : TE → TE → TE := tCmp fun i j => decide (j < i)
abbrev tGe : TE → TE → TE := tCmp fun i j => decide (j ≤ i)
abbrev tEqI : TE → TE → TE := tCmp fun i j => decide (i = j)
abbrev tNeI : TE → TE → TE := tCmp fun i j => !decide (i = j)
/-- is None -/
def tIsN (ta : TE) : TE := fun σ H Q => ta σ H fun x H1 => Q (.bl (decide (x = .non))) H1
def tNotN (ta : TE) : TE := fun σ H Q => ta σ H fun x H1 => Q (.bl (!decide (x = .non))) H1
/-- a comparison as a value, as a test -/
def tB (t : TE) : TT := fun σ H Q => t σ H fun x H1 => ∃ c, x = .bl c ∧ Q c H1
theorem pt_cmp {op : CmpOp} {t : TE} (h : PC X op a b t) (h1 : behindInMarks op b = false := by first | exact nobehind _ (by decide) (by decide) | rfl) : PT X (.Compare a [op] [b] pos) (tB t) := by
  intro pins s σ H Q I hw
  refine wpAny_isTrue_Compare1 (thn (h pins s σ H _ I hw) fun v s1 h1 => thn h1 fun u s2 h2 => thn h2 fun c s3 ⟨x, H1, I1, r1, q1⟩ => ?_) h1
  obtain ⟨d, rfl, q⟩ := q1
  cases r1
  exact wpAny_truthy_bool ⟨H1, I1, q⟩
/-- an expression whose value is a bool, as a test -/
theorem pt_val {e : Expr} {t : TE} (h : PE X e t) (he : ∀ whole, isTrue e X.env whole = (do let v ← whole; standAt e.pos; holding [v] (truthy v)) := by intro _; rfl) : PT X e (tB t) := by
  intro pins s σ H Q I hw
  refine isTrue_plain (thn (h pins s σ H _ I hw) fun v s1 ⟨x, H1, I1, r1, q1⟩ => ?_) (he _)
  obtain ⟨d, rfl, q⟩ := q1
  cases r1
  exact wpAny_truthy_bool ⟨H1, I1, q⟩

/-! ### and, or, not -/
variable {tA tB' : TT} {rest : List Expr}
def tAnd (t u : TT) : TT := fun σ H Q => t σ H fun c H1 => if c = true then u σ H1 Q else Q false H1
def tOr (t u : TT) : TT := fun σ H Q => t σ H fun c H1 => if c = true then Q true H1 else u σ H1 Q
def tNot (t : TT) : TT := fun σ H Q => t σ H fun c H1 => Q (!c) H1
theorem pw_and1 (ha : PT X a tA) : PW X (.BoolOp .And [a] pos) tA := by
  intro wh pins s σ H Q I h
  refine isTrue_and (thn (ha pins s σ H Q I h) fun c s1 e => ?_)
  cases c with
  | true => exact isTrue_and_nil e
  | false => exact e
theorem pw_or1 (ha : PT X a tA) : PW X (.BoolOp .Or [a] pos) tA := by
  intro wh pins s σ H Q I h
  refine isTrue_or (thn (ha pins s σ H Q I h) fun c s1 e => ?_)
  cases c with
  | false => exact isTrue_or_nil e
  | true => exact e
theorem pw_and (ha : PT X a tA) (hb : PW X (.BoolOp .And (b :: rest) pos) tB') : PW X (.BoolOp .And (a :: b :: rest) pos) (tAnd tA tB') := by
  intro wh pins s σ H Q I h
  refine isTrue_and (thn (ha pins s σ H _ I h) fun c s1 ⟨H1, I1, q1⟩ => ?_)
  cases c with
  | true => exact hb wh pins s1 σ H1 Q I1 q1
  | false => exact ⟨H1, I1, q1⟩
theorem pw_or (ha : PT X a tA) (hb : PW X (.BoolOp .Or (b :: rest) pos) tB') : PW X (.BoolOp .Or (a :: b :: rest) pos) (tOr tA tB') := by
  intro wh pins s σ H Q I h
  refine isTrue_or (thn (ha pins s σ H _ I h) fun c s1 ⟨H1, I1, q1⟩ => ?_)
  cases c with
  | true => exact ⟨H1, I1, q1⟩
  | false => exact hb wh pins s1 σ H1 Q I1 q1
theorem pt_not (ha : PT X a tA) : PT X (.UnaryOp .Not a pos) (tNot tA) := by
  intro pins s σ H Q I h
  exact isTrue_not (ha pins s σ H (fun c H1 => Q (!c) H1) I h)
/-- .. as values (bools) -/
def tAndV (ta tb : TE) : TE := fun σ H Q => ta σ H fun x H1 => ∃ c, x = .bl c ∧ if c = true then tb σ H1 Q else Q (.bl false) H1
def tOrV (ta tb : TE) : TE := fun σ H Q => ta σ H fun x H1 => ∃ c, x = .bl c ∧ if c = true then Q (.bl true) H1 else tb σ H1 Q
def tNotV (ta : TE) : TE := fun σ H Q => ta σ H fun x H1 => ∃ c, x = .bl c ∧ Q (.bl (!c)) H1
theorem pe_one {op} {t : TE} (h : PE X a t) : PE X (.BoolOp op [a] pos) t := fun pins s σ H Q I hw => BoolOp_one (h pins s σ H Q I hw)
theorem pe_and (ha : PE X a ta) (hb : PE X (.BoolOp .And (b :: rest) pos) tb) : PE X (.BoolOp .And (a :: b :: rest) pos) (tAndV ta tb) := by
  intro pins s σ H Q I h
  refine BoolOp_and (thn (ha pins s σ H _ I h) fun v s1 ⟨x, H1, I1, r1, q1⟩ => ?_)
  obtain ⟨c, rfl, q1⟩ := q1
  cases r1
  refine wpAny_truthy_bool ?_
  cases c with
  | true => exact hb pins s1 σ H1 Q I1 q1
  | false => exact ⟨.bl false, H1, I1, rfl, q1⟩
theorem pe_not (ha : PE X a ta) : PE X (.UnaryOp .Not a pos) (tNotV ta) := by
  intro pins s σ H Q I h
  refine UnaryOp_ (thn (ha pins s σ H _ I h) fun v s1 ⟨x, H1, I1, r1, q1⟩ => ?_)
  obtain ⟨c, rfl, q1⟩ := q1
  cases r1
  exact not_of (wpAny_truthy_bool ⟨.bl (!c), H1, I1, rfl, q1⟩)
/-- a if t else b -/
def tIf (t : TT) (ta tb : TE) : TE := fun σ H Q => t σ H fun c H1 => if c = true then ta σ H1 Q else tb σ H1 Q
theorem pe_ifExp {c : Expr} (hc : PT X c tA) (ha : PE X a ta) (hb : PE X b tb) : PE X (.IfExp c a b pos) (tIf tA ta tb) := by
  intro pins s σ H Q I h
  refine wpAny_IfExp (thn (hc pins s σ H _ I h) fun d s1 ⟨H1, I1, q1⟩ => ?_)
  cases d with
  | true => exact ha pins s1 σ H1 Q I1 q1
  | false => exact hb pins s1 σ H1 Q I1 q1
end
end L2

namespace L2
open PySem PySem.Spec PyProof.Rows

/-! ### a list, a tuple that is read: tracked, frozen, or an object of the module -/
def SqL (K : PySem.W.Frag) (H : Hp) (a : Addr) (xs : List V) : Prop :=
  Rd H a (.lst xs) ∨
    ∃ (o : Obj) (its : Array Value) (n : Nat), K.lookup a = some o ∧ o.cls = .type "list" ∧ o.dict = none ∧ o.data = .seq its n ∧ its.size ≤ sizeLine ∧ Vals xs its.toList
def SqT (K : PySem.W.Frag) (H : Hp) (a : Addr) (xs : List V) : Prop :=
  Rd H a (.tup xs) ∨
    ∃ (o : Obj) (its : Array Value) (n : Nat), K.lookup a = some o ∧ o.cls = .type "tuple" ∧ o.data = .seq its n ∧ its.size ≤ sizeLine ∧ Vals xs its.toList
def absV : Value → Option V
  | .none => some .non
  | .bool b => some (.bl b)
  | .int i _ => some (.int i)
  | .str x _ => some (.str x)
  | .bytes b _ => some (.byt b)
  | .float b _ => some (.flt b)
  | .ref a => some (.ref a)
  | .type n => some (.ty n)
  | _ => none
theorem RelV.abs {x : V} {u : Value} (r : RelV x u) : absV u = some x := by
  cases x with
  | non => cases r; rfl
  | bl _ => cases r; rfl
  | int _ => obtain ⟨t, rfl⟩ := r; rfl
  | str _ => obtain ⟨t, rfl⟩ := r; rfl
  | byt _ => obtain ⟨t, rfl⟩ := r; rfl
  | flt _ => obtain ⟨t, rfl⟩ := r; rfl
  | ref _ => cases r; rfl
  | ty _ => cases r; rfl
theorem RelV.inj {x y : V} {u : Value} (r : RelV x u) (q : RelV y u) : x = y := Option.some.inj (r.abs.symm.trans q.abs)
theorem Vals.inj : ∀ {xs ys : List V} {us : List Value}, Vals xs us → Vals ys us → xs = ys
  | _, _, _, .nil, .nil => rfl
  | _, _, _, .cons r t, .cons r' t' => by rw [r.inj r', Vals.inj t t']
section
variable {X : Cx} {pins : List (Addr × Obj)} {σ : St} {H : Hp} {s : Shared} {a : Addr} {xs ys : List V}
theorem SqL.of {K : PySem.W.Frag} (h : H a = some (.lst xs)) : SqL K H a xs := .inl (.inl h)
theorem SqT.of {K : PySem.W.Frag} (h : H a = some (.tup xs)) : SqT K H a xs := .inl (.inl h)
theorem Inv.list (I : Inv X pins σ H s) (h : SqL X.K H a xs) : ∃ its : List Value, Vals xs its ∧ PlainL s.heap a its.toArray ∧ xs.length ≤ sizeLine := by
  rcases h with h | ⟨o, its, n, hk, hc, hd, hs, hz, r⟩
  · obtain ⟨z, its, n, r, e⟩ := h.ok I.hok
    exact ⟨its, r, ⟨_, n, e, rfl, rfl, rfl⟩, z⟩
  · refine ⟨its.toList, r, ⟨o, n, I.kIn a o hk, hc, hd, by simpa using hs⟩, ?_⟩
    have e := r.length
    simp only [Array.length_toList] at e
    omega
theorem Inv.tuple (I : Inv X pins σ H s) (h : SqT X.K H a xs) : ∃ its : List Value, Vals xs its ∧ IsTup s.heap a its.toArray ∧ xs.length ≤ sizeLine := by
  rcases h with h | ⟨o, its, n, hk, hc, hs, hz, r⟩
  · obtain ⟨z, its, r, p⟩ := h.ok I.hok
    exact ⟨its, r, p, z⟩
  · refine ⟨its.toList, r, ⟨o, I.kIn a o hk, hc, n, by simpa using hs⟩, ?_⟩
    have e := r.length
    simp only [Array.length_toList] at e
    omega
theorem Inv.list_inj (I : Inv X pins σ H s) (h : SqL X.K H a xs) (h' : SqL X.K H a ys) : xs = ys := by
  obtain ⟨its, r, ⟨o, n, e, _, _, d⟩, _⟩ := I.list h
  obtain ⟨its', r', ⟨o', n', e', _, _, d'⟩, _⟩ := I.list h'
  rw [e] at e'; cases e'
  rw [d] at d'
  injection d' with d1 _
  have : its = its' := by simpa using congrArg Array.toList d1
  subst this
  exact r.inj r'
end

/-! ### another wish about exceptions -/
abbrev Cx.wish (X : Cx) (E : Value → Shared → Prop) : Cx := { X with xe := E }
/-- no exception leaves -/
abbrev Cx.nox (X : Cx) : Cx := X.wish fun _ _ => False
theorem Cx.Ok.wish {X : Cx} (ok : X.Ok) (E : Value → Shared → Prop) : (X.wish E).Ok :=
  ⟨ok.mod, ok.kind, ok.glob, ok.blt, ok.above, ok.inj, ok.has, ok.cab, ok.hd, ok.frames, ok.stk, ok.exf, ok.bs, ok.bsz, ok.noex, ok.exfs, ok.funs, ok.frf⟩
theorem Cx.Ok.unwish {X : Cx} {E : Value → Shared → Prop} (ok : (X.wish E).Ok) : X.Ok :=
  ⟨ok.mod, ok.kind, ok.glob, ok.blt, ok.above, ok.inj, ok.has, ok.cab, ok.hd, ok.frames, ok.stk, ok.exf, ok.bs, ok.bsz, ok.noex, ok.exfs, ok.funs, ok.frf⟩
section
variable {X : Cx} {pins : List (Addr × Obj)} {σ : St} {H : Hp} {s : Shared} {E : Value → Shared → Prop}
theorem Inv.wish (I : Inv X pins σ H s) (E : Value → Shared → Prop) : Inv (X.wish E) pins σ H s := ⟨I.ok.wish E, I.os, I.bare, I.base, I.loc, I.cell, I.free, I.freeC, I.pin, I.hok, I.len⟩
theorem Inv.unwish (I : Inv (X.wish E) pins σ H s) : Inv X pins σ H s := ⟨I.ok.unwish, I.os, I.bare, I.base, I.loc, I.cell, I.free, I.freeC, I.pin, I.hok, I.len⟩
theorem SP.unwish {D : Ends} {f : Flow} {s' : Shared} (h : SP (X.wish E) pins D f s') : SP X pins D f s' := by
  cases f with
  | next => obtain ⟨σ', H', I, q⟩ := h; exact ⟨σ', H', I.unwish, q⟩
  | brk => obtain ⟨σ', H', I, q⟩ := h; exact ⟨σ', H', I.unwish, q⟩
  | cont => obtain ⟨σ', H', I, q⟩ := h; exact ⟨σ', H', I.unwish, q⟩
  | ret u => obtain ⟨v, σ', H', I, r, q⟩ := h; exact ⟨v, σ', H', I.unwish, r, q⟩
theorem PSs.nox {st : List Stmt} {t : TS} (h : PSs X.nox st t) : PSs X st t := fun pins s σ H D I hw =>
  wpAny_mono (h pins s σ H D (I.wish _) hw) (fun _ _ q => q.unwish) fun _ _ z => False.elim z
end

/-! ### blocks and small statements -/
section
variable {X : Cx} {st : Stmt} {rest : List Stmt} {t u : TS} {e : Expr} {te : TE} {pos : Pos}
def tNext : TS := fun D σ H => D.nx σ H
def tSeq (t u : TS) : TS := fun D σ H => t { D with nx := u D } σ H
theorem pss_nil : PSs X [] tNext := fun _ _ σ H _ I h => wpAny_execs_nil ⟨σ, H, I, h⟩
theorem pss_cons (h1 : PS X st t) (h2 : PSs X rest u) : PSs X (st :: rest) (tSeq t u) := by
  intro pins s σ H D I h
  refine wpAny_execs_cons (thn (h1 pins s σ H { D with nx := u D } I h) fun f s1 q => ?_)
  cases f with
  | next =>
    obtain ⟨σ', H', I', q⟩ := q
    exact h2 pins s1 σ' H' D I' q
  | ret v => exact q
  | brk => exact q
  | cont => exact q
theorem pss_one (h1 : PS X st t) : PSs X [st] t := by
  intro pins s σ H D I h
  refine wpAny_execs_cons (thn (h1 pins s σ H D I h) fun f s1 q => ?_)
  cases f with
  | next => exact wpAny_execs_nil q
  | ret v => exact q
  | brk => exact q
  | cont => exact q
def tBreak : TS := fun D σ H => D.bk σ H
def tCont : TS := fun D σ H => D.ct σ H
/-- in a def's body nothing is shown -/
theorem Inv.quiet {pins : List (Addr × Obj)} {σ : St} {H : Hp} {s : Shared} (I : Inv X pins σ H s) : interactive X.env = false := by simp [interactive, I.ok.kind]
/-- an expression whose value is dropped -/
def tDrop (te : TE) : TS := fun D σ H => te σ H fun _ H1 => D.nx σ H1
theorem ps_expr (he : PE X e te) (hs : swapsWith e none pos.line X.env = pure false := by rfl) : PS X (.Expr e pos) (tDrop te) := by
  intro pins s σ H D I h
  exact wpAny_Expr_any (thn (he pins s σ H _ I h) fun v s1 ⟨x, H1, I1, r1, q1⟩ => ⟨σ, H1, I1, q1⟩) I.quiet hs
def tRet (te : TE) : TS := fun D σ H => te σ H D.rt
theorem ps_ret (he : PE X e te) : PS X (.Return (some e) pos) (tRet te) := by
  intro pins s σ H D I h
  exact wpAny_Return_some (thn (he pins s σ H _ I h) fun v s1 ⟨x, H1, I1, r1, q1⟩ => ⟨x, σ, H1, I1, r1, q1⟩)
def tRetN : TS := fun D _ H => D.rt .non H
def tIfS (c : TT) (t u : TS) : TS := fun D σ H => c σ H fun b H1 => if b = true then t D σ H1 else u D σ H1
theorem ps_if {c : Expr} {a b : List Stmt} {tc : TT} (hc : PT X c tc) (ha : PSs X a t) (hb : PSs X b u) : PS X (.If c a b pos) (tIfS tc t u) := by
  intro pins s σ H D I h
  refine wpAny_If (thn (hc pins s σ H _ I h) fun d s1 ⟨H1, I1, q1⟩ => ?_)
  cases d with
  | true => exact ha pins s1 σ H1 D I1 q1
  | false => exact hb pins s1 σ H1 D I1 q1
/-- code that the proof never comes to -/
def tNever : TS := fun _ _ _ => False
end

/-! ### targets -/
abbrev TG := V → St → Hp → (St → Hp → Prop) → Prop
abbrev TGs := List V → St → Hp → (St → Hp → Prop) → Prop
def PG (X : Cx) (target : Expr) (t : TG) : Prop :=
  ∀ (pins : List (Addr × Obj)) (s : Shared) (σ : St) (H : Hp) (v : V) (u : Value) (Q : St → Hp → Prop), Inv X pins σ H s → RelV v u → t v σ H Q →
    wpAny (model X.prog X.w) X.A (assign target X.env u) (fun _ s' => ∃ σ' H', Inv X pins σ' H' s' ∧ Q σ' H') X.xe s
/-- several targets, one after another -/
def PGs (X : Cx) (ts : List Expr) (t : TGs) : Prop :=
  ∀ (pins : List (Addr × Obj)) (s : Shared) (σ : St) (H : Hp) (vs : List V) (us : List Value) (Q : St → Hp → Prop), Inv X pins σ H s → Vals vs us → t vs σ H Q →
    wpAny (model X.prog X.w) X.A (assignInOrder ((assignEach ts X.env).map (·.2)) us) (fun _ s' => ∃ σ' H', Inv X pins σ' H' s' ∧ Q σ' H') X.xe s
/-- o[i] = v, by values -/
abbrev TSet := V → V → V → Hp → (Hp → Prop) → Prop
def PSet (X : Cx) (t : TSet) : Prop :=
  ∀ (pins : List (Addr × Obj)) (s : Shared) (σ : St) (H : Hp) (o i v : V) (ov iv u : Value) (Q : Hp → Prop), Inv X pins σ H s → RelV o ov → RelV i iv → RelV v u → t o i v H Q →
    wpAny (model X.prog X.w) X.A (setItem ov iv u) (fun _ s' => ∃ H', Inv X pins σ H' s' ∧ Q H') X.xe s
/-- a op= b, by values -/
abbrev TIp := V → V → Hp → VK → Prop
def PIp (X : Cx) (op : Operator) (t : TIp) : Prop :=
  ∀ (pins : List (Addr × Obj)) (s : Shared) (σ : St) (H : Hp) (x y : V) (v u : Value) (Q : VK), Inv X pins σ H s → RelV x v → RelV y u → t x y H Q →
    wpAny (model X.prog X.w) X.A (inplaceOp op v u) (EP X pins σ Q) X.xe s
section
variable {X : Cx} {pos : Pos}
def gName (i : Nat) : TG := fun v σ H Q => Q (σ.set i (some v)) H
theorem pg_name {i : Nat} {x : Str} (hN : X.N.Nodup) (hi : X.N[i]? = some x) (hx : Loc X.env.scope x) (hf : X.fn x = true ∨ X.env.scope.names.lookup x = some .local := by first | exact .inl rfl | exact .inr rfl | assumption) : PG X (.Name x pos) (gName i) := by
  intro pins s σ H v u Q I r h
  exact wpAny_assign_Name (store_ok I hN hi hx r (fun s' I' => ⟨_, H, I', h⟩) hf)
def gNil : TGs := fun vs σ H Q => vs = [] ∧ Q σ H
def gCons (t : TG) (u : TGs) : TGs := fun vs σ H Q => ∃ v r, vs = v :: r ∧ t v σ H fun σ' H' => u r σ' H' Q
theorem pgs_nil : PGs X [] gNil := by
  intro pins s σ H vs us Q I r h
  obtain ⟨e, h⟩ := h
  subst e
  cases r
  exact assignInOrder_nil ⟨σ, H, I, h⟩
theorem pgs_cons {e : Expr} {es : List Expr} {t : TG} {u : TGs} (h1 : PG X e t) (h2 : PGs X es u)
    (hs : (assignEach (e :: es) X.env).map (·.2) = assign e X.env :: (assignEach es X.env).map (·.2) := by rfl) : PGs X (e :: es) (gCons t u) := by
  intro pins s σ H vs us Q I r h
  obtain ⟨v, vr, e1, h⟩ := h
  subst e1
  cases r with
  | cons r rr =>
    rw [hs]
    refine assignInOrder_cons (thn (h1 pins s σ H _ _ _ I r h) fun _ s1 ⟨σ1, H1, I1, q1⟩ => ?_)
    exact h2 pins s1 σ1 H1 _ _ Q I1 rr q1
/-- (a, b, ..) = a tuple of that length -/
def gTup (K : PySem.W.Frag) (n : Nat) (t : TGs) : TG := fun v σ H Q => ∃ a xs, v = .ref a ∧ SqT K H a xs ∧ xs.length = n ∧ t xs σ H Q
theorem pg_tup {es : List Expr} {k : Nat} {t : TGs} {n : Nat} (hc : X.calm = true) (h : PGs X es t)
    (hn : (assignEach es X.env).length = n := by rfl) (hst : (assignEach es X.env).findIdx? (·.1) = none := by rfl) : PG X (.Tuple es k pos) (gTup X.K n t) := by
  intro pins s σ H v u Q I r hw
  obtain ⟨a, xs, e1, hq, hl, hw⟩ := hw
  subst e1
  cases r
  obtain ⟨its, rv, ht, hz⟩ := I.tuple hq
  refine assign_Tuple_tuple (I.ok.hd hc) ht (by simp [hn, ← hl, rv.length]) hst fun h' hx => ?_
  have I1 : Inv X pins σ H { s with heap := h' } := I.kept (t' := s.toks) fun b o e => hx b o (Nat.ne_of_lt (Heap.lt_size e)) e
  exact h pins _ σ H xs _ Q I1 (by simpa using rv) hw
/-- o[i] = .. -/
def gSub (to ti : TE) (t : TSet) : TG := fun v σ H Q => to σ H fun o H1 => ti σ H1 fun i H2 => t o i v H2 fun H3 => Q σ H3
theorem pg_sub {o i : Expr} {to ti : TE} {t : TSet} (ho : PE X o to) (hi : PE X i ti) (hs : PSet X t)
    (ha : ∀ v, assign (.Subscript o i pos) X.env v = (do
      let ov ← holding [v] (eval o X.env)
      let iv ← holding [v, ov] (eval i X.env)
      standAt pos
      holding [v, ov, iv] (setItem ov iv v)
      release [v, ov, iv] []) := by intro _; rfl) : PG X (.Subscript o i pos) (gSub to ti t) := by
  intro pins s σ H v u Q I r h
  rw [ha]
  refine wpAny_bind (wpAny_holding (thn (ho pins s σ H _ I h) fun ov s1 ⟨x, H1, I1, r1, q1⟩ => ?_))
  refine wpAny_bind (wpAny_holding (thn (hi pins s1 σ H1 _ I1 q1) fun iv s2 ⟨y, H2, I2, r2, q2⟩ => ?_))
  refine wpAny_bind (wpAny_standAt (wpAny_bind (wpAny_holding (thn (hs pins s2 σ H2 x y v ov iv u _ I2 r1 r2 r q2) fun _ s3 ⟨H3, I3, q3⟩ => ?_))))
  exact wpAny_release ⟨σ, H3, I3, q3⟩
/-- target = value -/
def tAsg (te : TE) (g : TG) : TS := fun D σ H => te σ H fun x H1 => g x σ H1 D.nx
theorem ps_asg {tg e : Expr} {te : TE} {g : TG} (he : PE X e te) (hg : PG X tg g) (hs : swapsWithSole [tg] e pos.line X.env = pure false := by rfl) (hw : swappedStores [tg] e X.env = pure none := by rfl)
    (h1 : (assignEach [tg] X.env).map (·.2) = [assign tg X.env] := by rfl) : PS X (.Assign [tg] e pos) (tAsg te g) := by
  intro pins s σ H D I h
  refine wpAny_Assign_stores (thn (he pins s σ H _ I h) fun v s1 ⟨x, H1, I1, r1, q1⟩ => ?_) hs hw
  rw [h1]
  exact thn (hg pins s1 σ H1 x v _ I1 r1 q1) fun _ s2 q => q
/-- name = value -/
theorem ps_set {i : Nat} {x : Str} {e : Expr} {te : TE} {pos' : Pos} (hN : X.N.Nodup) (hi : X.N[i]? = some x) (hx : Loc X.env.scope x) (he : PE X e te) (hs : swapsWith e (some (.Name x pos')) pos.line X.env = pure false := by rfl) (hf : X.fn x = true ∨ X.env.scope.names.lookup x = some .local := by first | exact .inl rfl | exact .inr rfl | assumption) :
    PS X (.Assign [.Name x pos'] e pos) (tAsg te (gName i)) := by
  intro pins s σ H D I h
  refine wpAny_Assign_Name (thn (he pins s σ H _ I h) fun v s1 ⟨y, H1, I1, r1, q1⟩ => ?_) hs
  exact store_ok I1 hN hi hx r1 (fun s2 I2 => ⟨_, H1, I2, q1⟩) hf
/-- a, b = x, y with plain local names: stored from the right; the pair itself is not tracked (the opening rows as in PyProof/Rows/TupAssign.lean:23) -/
def tPar (i j : Nat) (ta : TA) : TS := fun D σ H => ta σ H fun vs H1 => ∃ v w, vs = [v, w] ∧ D.nx ((σ.set i (some v)).set j (some w)) H1
/-- name op= e -/
def tAug (i : Nat) (te : TE) (ti : TIp) : TS := fun D σ H => ∃ x, σ[i]? = some (some x) ∧ te σ H fun y H1 => ti x y H1 fun z H2 => D.nx (σ.set i (some z)) H2
theorem ps_aug {i : Nat} {x : Str} {e : Expr} {te : TE} {op : Operator} {ti : TIp} {pos' : Pos} (hN : X.N.Nodup) (hi : X.N[i]? = some x) (hx : Loc X.env.scope x) (he : PE X e te) (ho : PIp X op ti) (hf : X.fn x = true ∨ X.env.scope.names.lookup x = some .local := by first | exact .inl rfl | exact .inr rfl | assumption) :
    PS X (.AugAssign (.Name x pos') op e pos) (tAug i te ti) := by
  intro pins s σ H D I h
  obtain ⟨v, e1, h⟩ := h
  obtain ⟨m, hn, hl⟩ := I.loc
  have vis : Vis X.env.scope x := by rcases hx with k | k; exact .inl k; exact .inr (.inl k)
  obtain ⟨u, r, l⟩ := hl i x v hi e1 vis
  refine wpAny_AugAssign_Name ?_
  have go : wpAny (model X.prog X.w) X.A (eval e X.env) (fun w s₂ => wpAny (model X.prog X.w) X.A (inplaceOp op u w) (fun r s₃ => wpAny (model X.prog X.w) X.A (storeName X.env x r) (fun _ => SP X pins D .next) X.xe s₃) X.xe s₂) X.xe s := by
    refine thn (he pins s σ H _ I h) fun w s1 ⟨y, H1, I1, r1, q1⟩ => ?_
    refine thn (ho pins s1 σ H1 v y u w _ I1 r r1 q1) fun z s2 ⟨zv, H2, I2, r2, q2⟩ => ?_
    exact store_ok I2 hN hi hx r2 (fun s3 I3 => ⟨_, H2, I3, q2⟩) hf
  rcases l with ⟨hk, hm⟩ | ⟨hk, c, hc, hcell⟩
  · exact wpAny_loadName_local I.ok.kind hk hn hm go
  · rcases hk with hk | hk
    · exact wpAny_loadName_cell I.ok.kind hk hc hcell go
    · rcases hx with k | k
      · have : X.env.scope.names.lookup x = some .free := hk
        rw [k] at this; cases this
      · have : X.env.scope.names.lookup x = some .free := hk
        rw [k] at this; cases this
/-- o[i] op= e -/
def tAugS (to ti te : TE) (tget : V → V → Hp → VK → Prop) (tip : TIp) (tset : TSet) : TS := fun D σ H => to σ H fun o H1 => ti σ H1 fun i H2 => tget o i H2 fun x H3 => te σ H3 fun y H4 => tip x y H4 fun z H5 => tset o i z H5 fun H6 => D.nx σ H6
/-- o[i], by values -/
def PGet (X : Cx) (t : V → V → Hp → VK → Prop) : Prop :=
  ∀ (pins : List (Addr × Obj)) (s : Shared) (σ : St) (H : Hp) (o i : V) (ov iv : Value) (Q : VK), Inv X pins σ H s → RelV o ov → RelV i iv → t o i H Q →
    wpAny (model X.prog X.w) X.A (getItem ov iv) (EP X pins σ Q) X.xe s
theorem ps_augS {o i e : Expr} {to ti te : TE} {tget : V → V → Hp → VK → Prop} {tip : TIp} {tset : TSet} {op : Operator} {tpos : Pos} (ho : PE X o to) (hi : PE X i ti) (hg : PGet X tget) (he : PE X e te) (hp : PIp X op tip) (hs : PSet X tset)
    (ha : ∀ ov iv new, augStore i ov iv new = (do holding [new, ov, iv] (setItem ov iv new); release [new, ov, iv] []; pure .next) := by intros; rfl) : PS X (.AugAssign (.Subscript o i tpos) op e pos) (tAugS to ti te tget tip tset) := by
  intro pins s σ H D I h
  refine wpAny_AugAssign_SubscriptAny (thn (ho pins s σ H _ I h) fun ov s1 ⟨x1, H1, I1, r1, q1⟩ => ?_) ha
  refine thn (hi pins s1 σ H1 _ I1 q1) fun iv s2 ⟨x2, H2, I2, r2, q2⟩ => ?_
  refine thn (hg pins s2 σ H2 x1 x2 ov iv _ I2 r1 r2 q2) fun old s3 ⟨x3, H3, I3, r3, q3⟩ => ?_
  refine thn (he pins s3 σ H3 _ I3 q3) fun v s4 ⟨x4, H4, I4, r4, q4⟩ => ?_
  refine thn (hp pins s4 σ H4 x3 x4 old v _ I4 r3 r4 q4) fun new s5 ⟨x5, H5, I5, r5, q5⟩ => ?_
  exact thn (hs pins s5 σ H5 x1 x2 x5 ov iv new _ I5 r1 r2 r5 q5) fun _ s6 ⟨H6, I6, q6⟩ => ⟨σ, H6, I6, q6⟩
/-- ints -/
def ipI (f : Int → Int → Int) : TIp := fun x y H Q => ∃ i j, x = .int i ∧ y = .int j ∧ Q (.int (f i j)) H
theorem ip_add : PIp X .Add (ipI fun i j => i + j) := by
  intro pins s σ H x y v u Q I r1 r2 h
  obtain ⟨i, j, e1, e2, q⟩ := h
  subst e1; subst e2
  obtain ⟨t, rfl⟩ := r1
  obtain ⟨t', rfl⟩ := r2
  exact iadd_int ⟨.int _, H, I.tok _, ⟨_, rfl⟩, q⟩
end

/-! ### while -/
section
variable {X : Cx} {pos : Pos}
/-- the invariant W with its measure -/
def tWhile (c : TT) (tb : TS) : TS := fun D σ H => ∃ W : Nat → St → Hp → Prop, (∃ m, W m σ H) ∧ ∀ m σ H, W m σ H →
  c σ H fun b H1 => if b = true then ∃ N : St → Hp → Prop, (∀ σ' H', N σ' H' → ∃ m', m' < m ∧ W m' σ' H') ∧ tb { D with nx := N, ct := N, bk := D.nx } σ H1 else D.nx σ H1
theorem ps_while {c : Expr} {body : List Stmt} {tc : TT} {tb : TS} (hp : PassesOwn (model X.prog X.w) X.A X.env X.xe) (hc : PT X c tc) (hb : PSs X body tb) : PS X (.While c body [] pos) (tWhile tc tb) := by
  intro pins s σ H D I h
  obtain ⟨W, ⟨m0, w0⟩, turn⟩ := h
  refine wpAny_While (codeAny_whileLoop (fun n s' => ∃ σ' H', Inv X pins σ' H' s' ∧ W n σ' H') ?_ m0 ⟨σ, H, I, w0⟩)
  rintro n s1 ⟨σ1, H1, I1, w1⟩
  refine wpAny_passesOwn hp (thn (hc pins s1 σ1 H1 _ I1 (turn n σ1 H1 w1)) fun b s2 ⟨H2, I2, q2⟩ => ?_)
  cases b with
  | true =>
    obtain ⟨N, hN, q2⟩ := q2
    rw [if_pos rfl]
    refine wpAny_passesOwn hp (thn (hb pins s2 σ1 H2 _ I2 q2) fun f s3 q3 => ?_)
    cases f with
    | next =>
      obtain ⟨σ3, H3, I3, n3⟩ := q3
      obtain ⟨m', hm, w3⟩ := hN σ3 H3 n3
      exact ⟨m', hm, σ3, H3, I3, w3⟩
    | cont =>
      obtain ⟨σ3, H3, I3, n3⟩ := q3
      obtain ⟨m', hm, w3⟩ := hN σ3 H3 n3
      exact ⟨m', hm, σ3, H3, I3, w3⟩
    | brk => exact q3
    | ret v => exact q3
  | false =>
    rw [if_neg Bool.false_ne_true]
    exact wpAny_execs_nil ⟨σ1, H2, I2, q2⟩
end

/-! ### what a loop or a comprehension walks -/
/-- at turn i: it yields x (the heap may grow), or it stops -/
structure It where
  go : Nat → Hp → Prop
  yld : Nat → Hp → V → Hp → Prop
  stop : Nat → Hp → Prop
/-- the iterator's own objects may turn: they are not the frame's, not pinned, younger than the entry (or a comprehension's own) -/
def FpOk (X : Cx) (pins : List (Addr × Obj)) (H : Hp) (b : Addr) : Prop :=
  H b = none ∧ b ≠ X.env.locals ∧ b ∉ X.fs ∧ (b ∈ X.ex ∨ X.s₀.heap.objs.size ≤ b) ∧ (∀ x c, X.env.cells.lookup x = some c → c ≠ b) ∧ ∀ p ∈ X.pn ++ pins, p.1 ≠ b
theorem Inv.fpOk {X : Cx} {pins : List (Addr × Obj)} {σ : St} {H H' : Hp} {s : Shared} {b : Addr} (I : Inv X pins σ H s) (hb : s.heap.objs.size ≤ b) (hn : H' b = none) : FpOk X pins H' b := by
  refine ⟨hn, Nat.ne_of_gt (Nat.lt_of_lt_of_le I.lt hb), I.nofs hb, .inr (Nat.le_trans I.sz hb), fun x c e z => ?_, fun p hp z => ?_⟩
  · obtain ⟨v, q⟩ := I.cell x c e
    exact absurd (Nat.lt_of_lt_of_le q.lt (by rw [z]; exact hb)) (Nat.lt_irrefl _)
  · exact absurd (Nat.lt_of_lt_of_le (Heap.lt_size (I.pin p hp).1) (by rw [z]; exact hb)) (Nat.lt_irrefl _)
structure Turn (P : Program) (w : World) (K : PySem.W.Frag) (tg : Expr) (J : It) (fp : List Addr) (it : Addr) (tn : Nat → Heap → Prop) : Prop where
  mem : it ∈ fp
  obj : ∀ i h, tn i h → ∀ b ∈ fp, ∃ o, h.get? b = some o ∧ ∀ v, o.data ≠ .cell v
  keep : ∀ i h h', tn i h → (∀ b ∈ fp, ∀ o, h.get? b = some o → h'.get? b = some o) → tn i h'
  item : ∀ (X : Cx), X.prog = P → X.w = w → X.K = K → X.calm = true → ∀ (i : Nat) (pins : List (Addr × Obj)) (s : Shared) (σ : St) (H : Hp) (E : Value → Shared → Prop), Inv X pins σ H s → (∀ b ∈ fp, FpOk X pins H b) → tn i s.heap → J.go i H →
    wpAny (model P w) X.A (pyNext (.ref it)) (fun r s1 => ∃ u, r = some u ∧
      wpAny (model P w) X.A (letOwnedTupleGo tg (.ref it) u) (fun _ s2 => ∃ x H', Inv X pins σ H' s2 ∧ RelV x u ∧ J.yld i H x H' ∧ tn (i + 1) s2.heap ∧ ∀ b ∈ fp, H' b = none) E s1) E s
  done : ∀ (X : Cx), X.prog = P → X.w = w → X.K = K → X.calm = true → ∀ (i : Nat) (pins : List (Addr × Obj)) (s : Shared) (σ : St) (H : Hp) (E : Value → Shared → Prop), Inv X pins σ H s → (∀ b ∈ fp, FpOk X pins H b) → tn i s.heap → J.stop i H →
    wpAny (model P w) X.A (pyNext (.ref it)) (fun r s1 => r = none ∧ Inv X pins σ H s1) E s
  self : ∀ (A : Around) (i : Nat) (s : Shared) (Q : Value → Shared → Prop) (E : Value → Shared → Prop), tn i s.heap → Q (.ref it) s → wpAny (model P w) A (pyIter (.ref it)) Q E s
abbrev TI := St → Hp → (It → Hp → Prop) → Prop
/-- an iterator has come -/
def PIE (X : Cx) (pins : List (Addr × Obj)) (σ : St) (tg : Expr) (R : It → Hp → Prop) (itv : Value) (s2 : Shared) : Prop :=
  ∃ (it : Addr) (fp : List Addr) (tn : Nat → Heap → Prop) (J : It) (H' : Hp), itv = .ref it ∧ Inv X pins σ H' s2 ∧ Turn X.prog X.w X.K tg J fp it tn ∧ tn 0 s2.heap ∧ (∀ b ∈ fp, FpOk X pins H' b) ∧ R J H'
def PI (X : Cx) (tg iter : Expr) (wi : TI) : Prop :=
  ∀ (pins : List (Addr × Obj)) (s : Shared) (σ : St) (H : Hp) (R : It → Hp → Prop), Inv X pins σ H s → wi σ H R →
    wpAny (model X.prog X.w) X.A (eval iter X.env) (fun v s1 => wpAny (model X.prog X.w) X.A (pyIter v) (PIE X pins σ tg R) X.xe s1) X.xe s

/-- the step ahead of the store is nothing for an iterator that keeps no tuple -/
theorem go_of {M : Model} {A : Around} {E : Value → Shared → Prop} {s : Shared} {tg : Expr} {it : Addr} {u : Value} {o : Obj} {n : String} {vs : Array Value} {Q : Unit → Shared → Prop} (ho : s.heap.get? it = some o) (hc : o.cls = .type n) (hd : o.data = .fields vs)
    (hn : ["enumerate", "zip", "dict_itemiterator", "dict_reverseitemiterator", "odict_iterator", "itertools.zip_longest", "itertools.pairwise"].contains n = false) (hQ : Q () s) : wpAny M A (letOwnedTupleGo tg (.ref it) u) Q E s := by
  unfold letOwnedTupleGo
  cases tg <;> first
    | exact wpAny_pure hQ
    | (cases u <;> first
        | exact wpAny_pure hQ
        | (refine wpAny_bind (wpAny_load ho ?_)
           rw [hc, hd]
           show wpAny M A (if (["enumerate", "zip", "dict_itemiterator", "dict_reverseitemiterator", "odict_iterator", "itertools.zip_longest", "itertools.pairwise"].contains n && vs[0]? == some (rawInt _)) = true then _ else _) Q E s
           rw [if_neg (by intro h; rw [hn, Bool.false_and] at h; cases h)]
           exact wpAny_pure hQ))

/-- the list at a, as it stands at each turn (a loop may append to it) -/
def Itl (K : PySem.W.Frag) (a : Addr) : It :=
  ⟨fun i H => ∃ xs x, SqL K H a xs ∧ xs[i]? = some x, fun i H x H' => H' = H ∧ ∀ xs, SqL K H a xs → xs[i]? = some x, fun i H => ∃ xs, SqL K H a xs ∧ xs.length ≤ i⟩
def Itt (K : PySem.W.Frag) (a : Addr) : It :=
  ⟨fun i H => ∃ xs x, SqT K H a xs ∧ xs[i]? = some x, fun i H x H' => H' = H ∧ ∀ xs, SqT K H a xs → xs[i]? = some x, fun i H => ∃ xs, SqT K H a xs ∧ xs.length ≤ i⟩
/-- lo, lo + 1, .. (n of them) -/
def Itr (lo : Int) (n : Nat) : It := ⟨fun i _ => i < n, fun i H x H' => H' = H ∧ x = .int (lo + i), fun i _ => n ≤ i⟩
theorem turn_list {P : Program} {w : World} {K : PySem.W.Frag} {tg : Expr} (a it : Addr) : Turn P w K tg (Itl K a) [it] it (fun i h => h.IsListIter it a i) where
  mem := by simp
  obj := fun i h st b hb => by
    have e : b = it := by simpa using hb
    subst e
    obtain ⟨o, e, c, d⟩ := st
    exact ⟨o, e, fun v z => by rw [d] at z; cases z⟩
  keep := fun i h h' st k => st.at fun o e => k it (by simp) o e
  item := by
    intro X hP hw hK hc i pins s σ H E I hf st hg
    subst hP hw hK
    obtain ⟨xs, x, hq, hx⟩ := hg
    obtain ⟨its, rv, p, hz⟩ := I.list hq
    obtain ⟨u, hu, ru⟩ := rv.get hx
    obtain ⟨f0, f1, f2, f3, f4, f5⟩ := hf it (by simp)
    refine wpAny_pyNext_list_item st p.isList (x := u) (by simpa using hu) fun h' st' sb => ?_
    have I1 : Inv X pins σ H { s with heap := h' } := I.turned (t' := s.toks) (fun b o hb e => (sb.2 b hb).trans e) f0 f1 f3 f4 f5
    obtain ⟨o, e, c, d⟩ := id st'
    exact ⟨u, rfl, go_of (s := { s with heap := h' }) e c d (by decide) ⟨x, H, I1, ru, ⟨rfl, fun ys hy => by rw [I.list_inj hy hq]; exact hx⟩, st', fun b hb => (hf b hb).1⟩⟩
  done := by
    intro X hP hw hK hc i pins s σ H E I hf st hg
    subst hP hw hK
    obtain ⟨xs, hq, hx⟩ := hg
    obtain ⟨its, rv, p, hz⟩ := I.list hq
    obtain ⟨f0, f1, f2, f3, f4, f5⟩ := hf it (by simp)
    have hl := rv.length
    exact wpAny_pyNext_list_end (I.ok.hd hc) st p.isList (by simp; omega) fun h' eb => ⟨rfl, I.turned (t' := s.toks) (fun b o hb e => eb b o hb e) f0 f1 f3 f4 f5⟩
  self := fun _ _ _ _ _ st h => wpAny_pyIter_listiter st h
theorem turn_range {P : Program} {w : World} {K : PySem.W.Frag} {tg : Expr} (it : Addr) (lo : Int) (n : Nat) : Turn P w K tg (Itr lo n) [it] it (fun i h => IsRangeIter h it (lo + (i : Nat) * 1) ((n : Int) - (i : Nat)) 1) where
  mem := by simp
  obj := fun i h st b hb => by
    have e : b = it := by simpa using hb
    subst e
    exact ⟨_, st, fun v z => by
      have z' : Data.fields _ = Data.cell v := z
      cases z'⟩
  keep := fun i h h' st k => k it (by simp) _ st
  item := by
    intro X hP hw hK hc i pins s σ H E I hf st hg
    subst hP hw hK
    obtain ⟨f0, f1, f2, f3, f4, f5⟩ := hf it (by simp)
    have W := Walks.range (prog := X.prog) (w := X.w) (I.ok.hd hc) it lo 1 n
    refine W.item i s _ _ hg st fun v h' tk hv st' kk => ?_
    obtain ⟨t, rfl⟩ := hv
    have I1 : Inv X pins σ H { s with heap := h', toks := tk } := I.turned (fun b o hb e => kk b o (by simpa using hb) e) f0 f1 f3 f4 f5
    refine ⟨_, rfl, go_of (s := { s with heap := h', toks := tk }) (n := "range_iterator") st' rfl rfl (by decide) ⟨.int (lo + i), H, I1, ⟨t, ?_⟩, ⟨rfl, rfl⟩, st', fun b hb => (hf b hb).1⟩⟩
    rw [Int.mul_one]
  done := by
    intro X hP hw hK hc i pins s σ H E I hf st hg
    subst hP hw hK
    obtain ⟨f0, f1, f2, f3, f4, f5⟩ := hf it (by simp)
    exact wpAny_pyNext_range_end (I.ok.hd hc) st (by have : n ≤ i := hg; omega) fun h' eb => ⟨rfl, I.turned (t' := s.toks) (fun b o hb e => eb b o hb e) f0 f1 f3 f4 f5⟩
  self := fun _ _ _ _ _ st h => wpAny_pyIter_rangeiter st h
end L2

namespace L2
open PySem PySem.Spec PyProof.Rows
section
variable {X : Cx} {tg : Expr}
def iList (K : PySem.W.Frag) (tl : TE) : TI := fun σ H R => tl σ H fun x H1 => ∃ a, x = .ref a ∧ (∃ xs, SqL K H1 a xs) ∧ R (Itl K a) H1
def iTup (K : PySem.W.Frag) (tl : TE) : TI := fun σ H R => tl σ H fun x H1 => ∃ a, x = .ref a ∧ (∃ xs, SqT K H1 a xs) ∧ R (Itt K a) H1
theorem pi_list {l : Expr} {tl : TE} (hl : PE X l tl) : PI X tg l (iList X.K tl) := by
  intro pins s σ H R I h
  refine thn (hl pins s σ H _ I h) fun v s1 ⟨x, H1, I1, r1, q1⟩ => ?_
  obtain ⟨a, e, ⟨xs, hq⟩, q⟩ := q1
  subst e
  cases r1
  obtain ⟨its, rv, p, hz⟩ := I1.list hq
  refine wpAny_pyIter_list p.isList ?_
  refine ⟨s1.heap.objs.size, [s1.heap.objs.size], _, _, H1, rfl, I1.kept (t' := s1.toks) fun b o e => Heap.get?_push_of_some _ e, turn_list a _, ⟨_, Heap.get?_push_size _ rfl, rfl, rfl⟩, fun b hb => ?_, q⟩
  have e : b = s1.heap.objs.size := by simpa using hb
  subst e
  exact I1.fpOk (Nat.le_refl _) (I1.hok.fresh (Nat.le_refl _))
/-- a range object just made, walked -/
theorem range_it {pins : List (Addr × Obj)} {σ : St} {H : Hp} {s : Shared} {R : It → Hp → Prop} {E : Value → Shared → Prop} {lo hi : Int} {t u v : Tok} {tk : Nat} (I : Inv X pins σ H s) (h1 : -(2 ^ 62) ≤ lo) (h2 : lo < 2 ^ 62) (h3 : -(2 ^ 62) ≤ hi) (h4 : hi < 2 ^ 62)
    (q : R (Itr lo (hi - lo).toNat) H) : wpAny (model X.prog X.w) X.A (pyIter (.ref s.heap.objs.size)) (PIE X pins σ tg R) E { s with heap := s.heap.push { cls := .type "range", data := .fields #[.int lo t, .int hi u, .int 1 v] }, toks := tk } := by
  refine wpAny_pyIter_range (IsRange.new ..) (small_one h1 h2 h3 h4) ?_
  have I1 : Inv X pins σ H { s with heap := s.heap.push { cls := .type "range", data := .fields #[.int lo t, .int hi u, .int 1 v] }, toks := tk } := I.kept fun b o e => Heap.get?_push_of_some _ e
  refine ⟨(s.heap.push { cls := .type "range", data := .fields #[.int lo t, .int hi u, .int 1 v] }).objs.size, [(s.heap.push { cls := .type "range", data := .fields #[.int lo t, .int hi u, .int 1 v] }).objs.size], _, _, H, rfl,
    I1.kept (t' := tk) fun b o e => Heap.get?_push_of_some _ e, turn_range _ lo (hi - lo).toNat, ?_, fun b hb => ?_, q⟩
  · have e1 : lo + ((0 : Nat) : Int) * 1 = lo := by simp
    have e2 : (((hi - lo).toNat : Nat) : Int) - ((0 : Nat) : Int) = Builtin.Range.rangeSize lo hi 1 := by rw [rangeSize_one]; split <;> omega
    show IsRangeIter _ _ (lo + ((0 : Nat) : Int) * 1) ((((hi - lo).toNat : Nat) : Int) - ((0 : Nat) : Int)) 1
    rw [e1, e2]
    exact Heap.get?_push_size _ rfl
  · have e : b = (s.heap.push { cls := .type "range", data := .fields #[.int lo t, .int hi u, .int 1 v] }).objs.size := by simpa using hb
    subst e
    exact I1.fpOk (Nat.le_refl _) (I1.hok.fresh (Nat.le_refl _))
def iRng1 (ta : TA) : TI := fun σ H R => ta σ H fun vs H1 => ∃ j : Int, vs = [.int j] ∧ -(2 ^ 62) ≤ j ∧ j < 2 ^ 62 ∧ R (Itr 0 j.toNat) H1
def iRng2 (ta : TA) : TI := fun σ H R => ta σ H fun vs H1 => ∃ i j : Int, vs = [.int i, .int j] ∧ (-(2 ^ 62) ≤ i ∧ i < 2 ^ 62 ∧ -(2 ^ 62) ≤ j ∧ j < 2 ^ 62) ∧ R (Itr i (j - i).toNat) H1
theorem pi_range1 {a : Expr} {ta : TA} {p pos : Pos} (hg : Gl X "range") (hm : X.mg "range" = none) (ha : PA X [a] ta) (hs : starEach [a] X.env = [(false, eval a X.env)] := by rfl) : PI X tg (.Call (.Name "range" p) [a] [] pos) (iRng1 ta) := by
  intro pins s σ H R I h
  refine Call_ (ld_blt I hg hm boot_range (PyProof.Rows.callWith_type1 (thn (ha pos pins s σ H _ I h) fun us s1 ⟨vs, H1, I1, r1, q1⟩ => ?_) hs rfl))
  obtain ⟨j, e, q1, q2, q⟩ := q1
  subst e
  cases r1 with
  | cons r rr =>
    cases rr
    obtain ⟨t, rfl⟩ := r
    exact call_range_1 (range_it I1 (by omega) (by omega) q1 q2 (by simpa using q))
/-! ### for -/
/-- W: the invariant by the turn and a measure; N: what the body is to reach -/
def tFor (wi : TI) (g : TG) (tb : TS) : TS := fun D σ H => wi σ H fun J H1 => ∃ W : Nat → Nat → St → Hp → Prop, (∃ m, W 0 m σ H1) ∧ ∀ i m σ H, W i m σ H →
  (J.stop i H ∧ D.nx σ H) ∨ (J.go i H ∧ ∃ N : St → Hp → Prop, (∀ σ' H', N σ' H' → ∃ m', m' < m ∧ W (i + 1) m' σ' H') ∧ ∀ x H', J.yld i H x H' → g x σ H' fun σ2 H2 => tb { D with nx := N, ct := N, bk := D.nx } σ2 H2)
/-- the records at fp as they stand -/
def pinsAt (fp : List Addr) (h : Heap) : List (Addr × Obj) := fp.filterMap fun b => (h.get? b).map fun o => (b, o)
theorem mem_pinsAt {fp : List Addr} {h : Heap} {b : Addr} {o : Obj} (hb : b ∈ fp) (e : h.get? b = some o) : (b, o) ∈ pinsAt fp h := List.mem_filterMap.mpr ⟨b, hb, by rw [e]; rfl⟩
theorem of_pinsAt {fp : List Addr} {h : Heap} {p : Addr × Obj} (hp : p ∈ pinsAt fp h) : p.1 ∈ fp ∧ h.get? p.1 = some p.2 := by
  obtain ⟨b, hb, e⟩ := List.mem_filterMap.mp hp
  cases q : h.get? b with
  | none => rw [q] at e; cases e
  | some o =>
    rw [q] at e
    have e' : (b, o) = p := Option.some.inj e
    subst e'
    exact ⟨hb, q⟩
theorem Inv.pinned {pins : List (Addr × Obj)} {σ : St} {H : Hp} {s : Shared} {fp : List Addr} (I : Inv X pins σ H s) (hf : ∀ b ∈ fp, FpOk X pins H b) (ho : ∀ b ∈ fp, ∃ o, s.heap.get? b = some o ∧ ∀ v, o.data ≠ .cell v) : Inv X (pins ++ pinsAt fp s.heap) σ H s :=
  I.pins_of fun p hp => (List.mem_append.mp hp).elim (fun z => I.pin p (List.mem_append_right _ z)) fun z => by
    obtain ⟨hb, e⟩ := of_pinsAt z
    obtain ⟨f0, f1, f2, _⟩ := hf p.1 hb
    obtain ⟨o, e', d⟩ := ho p.1 hb
    rw [e] at e'; cases e'
    exact ⟨e, f0, f1, f2, d⟩
theorem Inv.unpinned {pins pl : List (Addr × Obj)} {σ : St} {H : Hp} {s : Shared} (I : Inv X (pins ++ pl) σ H s) : Inv X pins σ H s := I.pins_of fun p hp => I.pin p (List.mem_append_right _ (List.mem_append_left _ hp))
theorem ps_for {iter : Expr} {body : List Stmt} {wi : TI} {g : TG} {tb : TS} {pos : Pos} (hp : PassesOwn (model X.prog X.w) X.A X.env X.xe) (hc : X.calm = true) (hi : PI X tg iter wi) (hg : PG X tg g) (hb : PSs X body tb)
    (hs : ∀ x, foldedSetIterable iter X.env x = pure x := by intro _; rfl) : PS X (.For tg iter body [] pos) (tFor wi g tb) := by
  intro pins s σ H D I h
  refine wpAny_For (thn (hi pins s σ H _ I h) fun v s1 h1 => thn h1 fun itv s2 h2 => ?_) hs
  obtain ⟨it, fp, tn, J, H2, e, I2, T, st2, f2, W, ⟨m0, w0⟩, turn⟩ := h2
  subst e
  -- what stays true of the iterator's objects through the loop
  have stat : ∀ {H' : Hp}, (∀ b ∈ fp, H' b = none) → ∀ b ∈ fp, FpOk X pins H' b := fun hn b hb => ⟨hn b hb, (f2 b hb).2⟩
  refine codeAny_forLoop_any (fun n s' => ∃ i σ' H', Inv X pins σ' H' s' ∧ tn i s'.heap ∧ (∀ b ∈ fp, H' b = none) ∧ W i n σ' H') ?_ m0 ⟨0, σ, H2, I2, st2, fun b hb => (f2 b hb).1, w0⟩
  rintro n s3 ⟨i, σ3, H3, I3, st3, fr3, w3⟩
  rcases turn i n σ3 H3 w3 with ⟨stop, qn⟩ | ⟨go, N, hN, step⟩
  · refine wpAny_passesOwn hp (thn (T.done X rfl rfl rfl hc i pins s3 σ3 H3 X.xe I3 (stat fr3) st3 stop) fun r s4 ⟨hr, I4⟩ => ?_)
    subst hr
    exact wpAny_execs_nil ⟨σ3, H3, I4, qn⟩
  · refine wpAny_passesOwn hp (thn (T.item X rfl rfl rfl hc i pins s3 σ3 H3 X.xe I3 (stat fr3) st3 go) fun r s4 ⟨u, hr, h4⟩ => ?_)
    subst hr
    refine wpAny_passesOwn hp (thn h4 fun _ s5 ⟨x, H5, I5, r5, y5, st5, fr5⟩ => ?_)
    have I5' := I5.pinned (stat fr5) (T.obj _ _ st5)
    refine wpAny_passesOwn hp (thn (hg _ s5 σ3 H5 x u _ I5' r5 (step x H5 y5)) fun _ s6 ⟨σ6, H6, I6, q6⟩ => ?_)
    refine wpAny_passesOwn hp (thn (hb _ s6 σ6 H6 _ I6 q6) fun f s7 q7 => ?_)
    have again : ∀ {σ7 : St} {H7 : Hp}, Inv X (pins ++ pinsAt fp s5.heap) σ7 H7 s7 → N σ7 H7 → ∃ m, m < n ∧ ∃ i σ' H', Inv X pins σ' H' s7 ∧ tn i s7.heap ∧ (∀ b ∈ fp, H' b = none) ∧ W i m σ' H' := fun {σ7 H7} I7 n7 => by
      obtain ⟨m', hm, w7⟩ := hN σ7 H7 n7
      refine ⟨m', hm, i + 1, σ7, H7, I7.unpinned, T.keep _ _ _ st5 fun b hb o e => (I7.pin (b, o) (List.mem_append_right _ (List.mem_append_right _ (mem_pinsAt hb e)))).1, fun b hb => ?_, w7⟩
      obtain ⟨o, e, d⟩ := T.obj _ _ st5 b hb
      exact (I7.pin (b, o) (List.mem_append_right _ (List.mem_append_right _ (mem_pinsAt hb e)))).2.1
    cases f with
    | next => obtain ⟨σ7, H7, I7, n7⟩ := q7; exact again I7 n7
    | cont => obtain ⟨σ7, H7, I7, n7⟩ := q7; exact again I7 n7
    | brk => obtain ⟨σ7, H7, I7, q7⟩ := q7; exact ⟨σ7, H7, I7.unpinned, q7⟩
    | ret v => obtain ⟨x7, σ7, H7, I7, r7, q7⟩ := q7; exact ⟨x7, σ7, H7, I7.unpinned, r7, q7⟩
end

/-! ### the forms one uses -/
/-- over a list that the body leaves as it is -/
theorem for_list {K : PySem.W.Frag} {a : Addr} {xs : List V} {g : TG} {tb : TS} {D : Ends} {σ : St} {H : Hp} (Pv : Nat → St → Hp → Prop) (h0 : Pv 0 σ H) (hl : ∀ i σ H, i ≤ xs.length → Pv i σ H → SqL K H a xs)
    (hs : ∀ i x σ H, xs[i]? = some x → Pv i σ H → g x σ H fun σ2 H2 => tb { D with nx := Pv (i + 1), ct := Pv (i + 1), bk := D.nx } σ2 H2) (hd : ∀ σ H, Pv xs.length σ H → D.nx σ H) :
    ∃ W : Nat → Nat → St → Hp → Prop, (∃ m, W 0 m σ H) ∧ ∀ i m σ H, W i m σ H →
      ((Itl K a).stop i H ∧ D.nx σ H) ∨ ((Itl K a).go i H ∧ ∃ N : St → Hp → Prop, (∀ σ' H', N σ' H' → ∃ m', m' < m ∧ W (i + 1) m' σ' H') ∧ ∀ x H', (Itl K a).yld i H x H' → g x σ H' fun σ2 H2 => tb { D with nx := N, ct := N, bk := D.nx } σ2 H2) := by
  refine ⟨fun i m σ H => m = xs.length - i ∧ i ≤ xs.length ∧ Pv i σ H, ⟨xs.length, by simp, Nat.zero_le _, h0⟩, ?_⟩
  rintro i m σ H ⟨rfl, hi, p⟩
  have q := hl i σ H hi p
  by_cases hlt : i < xs.length
  · refine .inr ⟨⟨xs, xs[i], q, by simp [hlt]⟩, Pv (i + 1), fun σ' H' p' => ⟨xs.length - (i + 1), by omega, rfl, hlt, p'⟩, fun x H' y => ?_⟩
    obtain ⟨e, y⟩ := y
    subst e
    exact hs i x σ _ (y xs q) p
  · have e : i = xs.length := by omega
    subst e
    exact .inl ⟨⟨xs, q, Nat.le_refl _⟩, hd σ H p⟩
theorem for_range {lo : Int} {n : Nat} {g : TG} {tb : TS} {D : Ends} {σ : St} {H : Hp} (Pv : Nat → St → Hp → Prop) (h0 : Pv 0 σ H)
    (hs : ∀ i σ H, i < n → Pv i σ H → g (.int (lo + i)) σ H fun σ2 H2 => tb { D with nx := Pv (i + 1), ct := Pv (i + 1), bk := D.nx } σ2 H2) (hd : ∀ σ H, Pv n σ H → D.nx σ H) :
    ∃ W : Nat → Nat → St → Hp → Prop, (∃ m, W 0 m σ H) ∧ ∀ i m σ H, W i m σ H →
      ((Itr lo n).stop i H ∧ D.nx σ H) ∨ ((Itr lo n).go i H ∧ ∃ N : St → Hp → Prop, (∀ σ' H', N σ' H' → ∃ m', m' < m ∧ W (i + 1) m' σ' H') ∧ ∀ x H', (Itr lo n).yld i H x H' → g x σ H' fun σ2 H2 => tb { D with nx := N, ct := N, bk := D.nx } σ2 H2) := by
  refine ⟨fun i m σ H => m = n - i ∧ i ≤ n ∧ Pv i σ H, ⟨n, by simp, Nat.zero_le _, h0⟩, ?_⟩
  rintro i m σ H ⟨rfl, hi, p⟩
  by_cases hlt : i < n
  · refine .inr ⟨hlt, Pv (i + 1), fun σ' H' p' => ⟨n - (i + 1), by omega, rfl, hlt, p'⟩, fun x H' y => ?_⟩
    obtain ⟨e, y⟩ := y
    subst e y
    exact hs i σ _ hlt p
  · have e : i = n := by omega
    subst e
    exact .inl ⟨Nat.le_refl _, hd σ H p⟩
end L2

namespace L2
open PySem PySem.Spec PyProof.Rows

abbrev R2 := V → V → Hp → VK → Prop
/-- a two-place operation on values: f is binaryOp op, inplaceOp op or compareOp op -/
def OpR (X : Cx) (f : Value → Value → Sem Value) (r : R2) : Prop :=
  ∀ (pins : List (Addr × Obj)) (s : Shared) (σ : St) (H : Hp) (x y : V) (v u : Value) (Q : VK), Inv X pins σ H s → RelV x v → RelV y u → r x y H Q →
    wpAny (model X.prog X.w) X.A (f v u) (EP X pins σ Q) X.xe s
/-- a one-place operation -/
def UnR (X : Cx) (f : Value → Sem Value) (r : V → Hp → VK → Prop) : Prop :=
  ∀ (pins : List (Addr × Obj)) (s : Shared) (σ : St) (H : Hp) (x : V) (v : Value) (Q : VK), Inv X pins σ H s → RelV x v → r x H Q →
    wpAny (model X.prog X.w) X.A (f v) (EP X pins σ Q) X.xe s
/-- a call of a value that is known (a builtin, a type) with values -/
def CallR (X : Cx) (f : Value) (r : List V → Hp → VK → Prop) : Prop :=
  ∀ (pins : List (Addr × Obj)) (s : Shared) (σ : St) (H : Hp) (xs : List V) (us : List Value) (Q : VK), Inv X pins σ H s → Vals xs us → r xs H Q →
    wpAny (model X.prog X.w) X.A (call f us) (EP X pins σ Q) X.xe s
/-- a value's truth -/
def TruR (X : Cx) (r : V → Hp → (Bool → Hp → Prop) → Prop) : Prop :=
  ∀ (pins : List (Addr × Obj)) (s : Shared) (σ : St) (H : Hp) (x : V) (v : Value) (Q : Bool → Hp → Prop), Inv X pins σ H s → RelV x v → r x H Q →
    wpAny (model X.prog X.w) X.A (truthy v) (TP X pins σ Q) X.xe s

def tOp (r : R2) (ta tb : TE) : TE := fun σ H Q => ta σ H fun x H1 => tb σ H1 fun y H2 => r x y H2 Q
def tUn (r : V → Hp → VK → Prop) (ta : TE) : TE := fun σ H Q => ta σ H fun x H1 => r x H1 Q
/-- ints in, under C, and a value out -/
def rI (C : Int → Int → Prop) (g : Int → Int → V) : R2 := fun x y H Q => ∃ i j, x = .int i ∧ y = .int j ∧ C i j ∧ Q (g i j) H
def rI0 (g : Int → Int → V) : R2 := fun x y H Q => ∃ i j, x = .int i ∧ y = .int j ∧ Q (g i j) H
def rU (g : Int → V) : V → Hp → VK → Prop := fun x H Q => ∃ i, x = .int i ∧ Q (g i) H

section
variable {X : Cx} {a b c : Expr} {ta tb tc : TE} {pos : Pos}

theorem binT (ha : PE X a ta) (hb : PE X b tb) {pins : List (Addr × Obj)} {s : Shared} {σ : St} {H : Hp} {R : V → V → Hp → Prop} (I : Inv X pins σ H s)
    (h : ta σ H fun x H1 => tb σ H1 fun y H2 => R x y H2) {Q : Value → Shared → Prop} {f : Value → Value → Sem Value}
    (hf : ∀ v u s2 x y H2, Inv X pins σ H2 s2 → RelV x v → RelV y u → R x y H2 → wpAny (model X.prog X.w) X.A (f v u) Q X.xe s2) :
    wpAny (model X.prog X.w) X.A (eval a X.env) (fun v s₁ => wpAny (model X.prog X.w) X.A (eval b X.env) (fun u s₂ => wpAny (model X.prog X.w) X.A (f v u) Q X.xe s₂) X.xe s₁) X.xe s := by
  refine thn (ha pins s σ H _ I h) fun v s1 ⟨x, H1, I1, r1, q1⟩ => ?_
  refine thn (hb pins s1 σ H1 _ I1 q1) fun u s2 ⟨y, H2, I2, r2, q2⟩ => ?_
  exact hf v u s2 x y H2 I2 r1 r2 q2

theorem pe_op {op : Operator} {r : R2} (ho : OpR X (binaryOp op) r) (ha : PE X a ta) (hb : PE X b tb) : PE X (.BinOp a op b pos) (tOp r ta tb) := by
  intro pins s σ H Q I h
  exact wpAny_BinOp (binT ha hb I h fun v u s2 x y H2 I2 rx ry q => ho pins s2 σ H2 x y v u Q I2 rx ry q)
theorem pe_un {op : UnaryOp} {r : V → Hp → VK → Prop} (ho : UnR X (unaryOp op) r) (ha : PE X a ta) : PE X (.UnaryOp op a pos) (tUn r ta) := by
  intro pins s σ H Q I h
  exact UnaryOp_ (thn (ha pins s σ H _ I h) fun v s1 ⟨x, H1, I1, r1, q1⟩ => ho pins s1 σ H1 x v Q I1 r1 q1)
/-! ### ints -/
theorem opI {f : Value → Value → Sem Value} {C : Int → Int → Prop} {g : Int → Int → Int}
    (rule : ∀ (i j : Int) (t u : Tok) (s : Shared) (Q : Value → Shared → Prop) (E : Value → Shared → Prop), C i j → Q (.int (g i j) s.toks) { s with toks := s.toks + 1 } → wpAny (model X.prog X.w) X.A (f (.int i t) (.int j u)) Q E s) :
    OpR X f (rI C fun i j => .int (g i j)) := by
  intro pins s σ H x y v u Q I rx ry h
  obtain ⟨i, j, rfl, rfl, hc, q⟩ := h
  obtain ⟨t, rfl⟩ := rx
  obtain ⟨t', rfl⟩ := ry
  exact rule i j t t' s _ _ hc ⟨.int (g i j), H, I.tok _, ⟨_, rfl⟩, q⟩
theorem opI0 {f : Value → Value → Sem Value} {g : Int → Int → Int}
    (rule : ∀ (i j : Int) (t u : Tok) (s : Shared) (Q : Value → Shared → Prop) (E : Value → Shared → Prop), Q (.int (g i j) s.toks) { s with toks := s.toks + 1 } → wpAny (model X.prog X.w) X.A (f (.int i t) (.int j u)) Q E s) :
    OpR X f (rI0 fun i j => .int (g i j)) := by
  intro pins s σ H x y v u Q I rx ry h
  obtain ⟨i, j, rfl, rfl, q⟩ := h
  obtain ⟨t, rfl⟩ := rx
  obtain ⟨t', rfl⟩ := ry
  exact rule i j t t' s _ _ ⟨.int (g i j), H, I.tok _, ⟨_, rfl⟩, q⟩
theorem opB0 {f : Value → Value → Sem Value} {g : Int → Int → Bool}
    (rule : ∀ (i j : Int) (t u : Tok) (s : Shared) (Q : Value → Shared → Prop) (E : Value → Shared → Prop), Q (.bool (g i j)) s → wpAny (model X.prog X.w) X.A (f (.int i t) (.int j u)) Q E s) :
    OpR X f (rI0 fun i j => .bl (g i j)) := by
  intro pins s σ H x y v u Q I rx ry h
  obtain ⟨i, j, rfl, rfl, q⟩ := h
  obtain ⟨t, rfl⟩ := rx
  obtain ⟨t', rfl⟩ := ry
  exact rule i j t t' s _ _ ⟨.bl (g i j), H, I, rfl, q⟩

def CDiv (i j : Int) : Prop := 0 < j ∧ j < 1073741824
def CDivN (i j : Int) : Prop := j ≠ 0 ∧ j.natAbs < 1073741824
def CPow (i j : Int) : Prop := 0 ≤ j ∧ j ≤ 1000000 ∧ i.natAbs < 2 ^ 64
def CMul (i j : Int) : Prop := (-(2 ^ 64) < i ∧ i < 2 ^ 64) ∨ (-(2 ^ 64) < j ∧ j < 2 ^ 64)
theorem CMul.ok {i j : Int} (h : CMul i j) : IntMulOk i j := by
  rcases h with ⟨h1, h2⟩ | ⟨h1, h2⟩
  · exact .of_left (intBits_le_64 h1 h2)
  · exact .of_right (intBits_le_64 h1 h2)
theorem op_add : OpR X (binaryOp .Add) (rI0 fun i j => .int (i + j)) := opI0 fun _ _ _ _ _ _ _ q => add_int q
theorem op_sub : OpR X (binaryOp .Sub) (rI0 fun i j => .int (i - j)) := opI0 fun _ _ _ _ _ _ _ q => sub_int q
theorem op_mul : OpR X (binaryOp .Mult) (rI CMul fun i j => .int (i * j)) := opI fun _ _ _ _ _ _ _ hc q => mul_int q hc.ok
/-- % by a positive divisor of any size -/
theorem op_mod : OpR X (binaryOp .Mod) (rI (fun _ j => 0 < j) fun i j => .int (i % j)) := opI fun i j _ _ _ _ _ hc q => by
  have h1 : (0 : Int) < j := hc
  exact mod_int' (by omega) (by rw [Int.fmod_eq_emod_of_nonneg i (by omega)]; exact q)
theorem op_pow : OpR X (binaryOp .Pow) (rI CPow fun i j => .int (i ^ j.toNat)) := opI fun _ _ _ _ _ _ _ hc q => pow_int_small hc.1 hc.2.1 hc.2.2 q
theorem op_shl : OpR X (binaryOp .LShift) (rI CPow fun i j => .int (i * 2 ^ j.toNat)) := opI fun _ _ _ _ _ _ _ hc q => lshift_int_small hc.1 hc.2.1 hc.2.2 q
theorem unI {f : Value → Sem Value} {g : Int → Int}
    (rule : ∀ (i : Int) (t : Tok) (s : Shared) (Q : Value → Shared → Prop) (E : Value → Shared → Prop), Q (.int (g i) s.toks) { s with toks := s.toks + 1 } → wpAny (model X.prog X.w) X.A (f (.int i t)) Q E s) :
    UnR X f (rU fun i => .int (g i)) := by
  intro pins s σ H x v Q I rx h
  obtain ⟨i, rfl, q⟩ := h
  obtain ⟨t, rfl⟩ := rx
  exact rule i t s _ _ ⟨.int (g i), H, I.tok _, ⟨_, rfl⟩, q⟩
theorem un_neg : UnR X (unaryOp .USub) (rU fun i => .int (-i)) := unI fun _ _ _ _ _ q => neg_int q
/-! ### bools among ints: n += (a < b) -/
end

/-! ### comparisons -/
/-- the scalars that == tells apart as data does -/
def scal : V → V → Bool
  | .non, .non => true | .non, .int _ => true | .int _, .non => true | .non, .bl _ => true | .bl _, .non => true | .non, .str _ => true | .str _, .non => true
  | .int _, .int _ => true | .bl _, .bl _ => true | .str _, .str _ => true | .byt _, .byt _ => true
  | .int _, .str _ => true | .str _, .int _ => true | .bl _, .str _ => true | .str _, .bl _ => true
  | _, _ => false
def rEq : R2 := fun x y H Q => scal x y = true ∧ Q (.bl (decide (x = y))) H
def rNe : R2 := fun x y H Q => scal x y = true ∧ Q (.bl (!decide (x = y))) H

theorem dec_int {i j : Int} : decide (V.int i = V.int j) = (i == j) := by
  rw [Bool.eq_iff_iff]
  simp
theorem dec_bl {i j : Bool} : decide (V.bl i = V.bl j) = (i == j) := by
  rw [Bool.eq_iff_iff]
  simp
theorem dec_str {i j : Str} : decide (V.str i = V.str j) = (i == j) := by
  rw [Bool.eq_iff_iff]
  simp
theorem dec_byt {i j : Array UInt8} : decide (V.byt i = V.byt j) = (i.toList == j.toList) := by
  rw [Bool.eq_iff_iff]
  cases i
  cases j
  simp

section
variable {X : Cx} {a b c : Expr} {ta tb tc : TE} {pos : Pos}
theorem fin_bl {pins : List (Addr × Obj)} {σ : St} {H : Hp} {s : Shared} {Q : VK} {k k' : Bool} (I : Inv X pins σ H s) (q : Q (.bl k) H) (e : k = k') : EP X pins σ Q (.bool k') s := by
  subst e
  exact ⟨.bl k, H, I, rfl, q⟩
theorem op_eq : OpR X (compareOp .Eq) rEq := by
  intro pins s σ H x y v u Q I rx ry h
  obtain ⟨hs, q⟩ := h
  cases x with
  | non =>
    cases rx
    cases y with
    | non => cases ry; exact PySem.EqNone.eq_none_none (fin_bl I q (by simp))
    | bl j => cases ry; exact PySem.EqNone.eq_none_bool (fin_bl I q (by simp))
    | int j => obtain ⟨t', rfl⟩ := ry; exact PySem.EqNone.eq_none_int (fin_bl I q (by simp))
    | str j => obtain ⟨t', rfl⟩ := ry; exact PySem.EqNone.eq_none_str (fin_bl I q (by simp))
    | _ => exact absurd (show false = true from hs) Bool.false_ne_true
  | bl i =>
    cases rx
    cases y with
    | non => cases ry; exact PySem.EqNone.eq_bool_none (fin_bl I q (by simp))
    | bl j => cases ry; exact eq_bool (fin_bl I q dec_bl)
    | str j => obtain ⟨t', rfl⟩ := ry; exact PySem.EqMixed.eq_bool_str (fin_bl I q (by simp))
    | _ => exact absurd (show false = true from hs) Bool.false_ne_true
  | int i =>
    obtain ⟨t, rfl⟩ := rx
    cases y with
    | non => cases ry; exact PySem.EqNone.eq_int_none (fin_bl I q (by simp))
    | int j => obtain ⟨t', rfl⟩ := ry; exact eq_int (fin_bl I q dec_int)
    | str j => obtain ⟨t', rfl⟩ := ry; exact PySem.EqMixed.eq_int_str (fin_bl I q (by simp))
    | _ => exact absurd (show false = true from hs) Bool.false_ne_true
  | str i =>
    obtain ⟨t, rfl⟩ := rx
    cases y with
    | non => cases ry; exact PySem.EqNone.eq_str_none (fin_bl I q (by simp))
    | bl j => cases ry; exact PySem.EqMixed.eq_str_bool (fin_bl I q (by simp))
    | int j => obtain ⟨t', rfl⟩ := ry; exact PySem.EqMixed.eq_str_int (fin_bl I q (by simp))
    | str j => obtain ⟨t', rfl⟩ := ry; exact eq_str (fin_bl I q dec_str)
    | _ => exact absurd (show false = true from hs) Bool.false_ne_true
  | byt i =>
    obtain ⟨t, rfl⟩ := rx
    cases y with
    | byt j => obtain ⟨t', rfl⟩ := ry; exact PySem.W.eq_bytes (fin_bl I q dec_byt)
    | _ => exact absurd (show false = true from hs) Bool.false_ne_true
  | _ => cases y <;> exact absurd (show false = true from hs) Bool.false_ne_true
theorem op_ne : OpR X (compareOp .NotEq) rNe := by
  intro pins s σ H x y v u Q I rx ry h
  obtain ⟨hs, q⟩ := h
  cases x with
  | non =>
    cases rx
    cases y with
    | non => cases ry; exact PySem.EqNone.ne_none_none (fin_bl I q (by simp))
    | bl j => cases ry; exact PySem.EqNone.ne_none_bool (fin_bl I q (by simp))
    | int j => obtain ⟨t', rfl⟩ := ry; exact PySem.EqNone.ne_none_int (fin_bl I q (by simp))
    | str j => obtain ⟨t', rfl⟩ := ry; exact PySem.EqNone.ne_none_str (fin_bl I q (by simp))
    | _ => exact absurd (show false = true from hs) Bool.false_ne_true
  | bl i =>
    cases rx
    cases y with
    | non => cases ry; exact PySem.EqNone.ne_bool_none (fin_bl I q (by simp))
    | bl j => cases ry; exact ne_bool (fin_bl I q (congrArg not dec_bl))
    | str j => obtain ⟨t', rfl⟩ := ry; exact PySem.EqMixed.ne_bool_str (fin_bl I q (by simp))
    | _ => exact absurd (show false = true from hs) Bool.false_ne_true
  | int i =>
    obtain ⟨t, rfl⟩ := rx
    cases y with
    | non => cases ry; exact PySem.EqNone.ne_int_none (fin_bl I q (by simp))
    | int j => obtain ⟨t', rfl⟩ := ry; exact ne_int (fin_bl I q (congrArg not dec_int))
    | str j => obtain ⟨t', rfl⟩ := ry; exact PySem.EqMixed.ne_int_str (fin_bl I q (by simp))
    | _ => exact absurd (show false = true from hs) Bool.false_ne_true
  | str i =>
    obtain ⟨t, rfl⟩ := rx
    cases y with
    | non => cases ry; exact PySem.EqNone.ne_str_none (fin_bl I q (by simp))
    | bl j => cases ry; exact PySem.EqMixed.ne_str_bool (fin_bl I q (by simp))
    | int j => obtain ⟨t', rfl⟩ := ry; exact PySem.EqMixed.ne_str_int (fin_bl I q (by simp))
    | str j => obtain ⟨t', rfl⟩ := ry; exact ne_str (fin_bl I q (congrArg not dec_str))
    | _ => exact absurd (show false = true from hs) Bool.false_ne_true
  | byt i =>
    obtain ⟨t, rfl⟩ := rx
    cases y with
    | byt j => obtain ⟨t', rfl⟩ := ry; exact PySem.W.ne_bytes (fin_bl I q (congrArg not dec_byt))
    | _ => exact absurd (show false = true from hs) Bool.false_ne_true
  | _ => cases y <;> exact absurd (show false = true from hs) Bool.false_ne_true

theorem op_lt : OpR X (compareOp .Lt) (rI0 fun i j => .bl (decide (i < j))) := opB0 fun _ _ _ _ _ _ _ q => lt_int q
theorem op_le : OpR X (compareOp .LtE) (rI0 fun i j => .bl (decide (i ≤ j))) := opB0 fun _ _ _ _ _ _ _ q => le_int q
theorem op_gt : OpR X (compareOp .Gt) (rI0 fun i j => .bl (decide (j < i))) := opB0 fun _ _ _ _ _ _ _ q => gt_int q
theorem op_ge : OpR X (compareOp .GtE) (rI0 fun i j => .bl (decide (j ≤ i))) := opB0 fun _ _ _ _ _ _ _ q => ge_int q
/-- is, is not of two objects that are tracked lists or instances -/
def isObj : HO → Bool
  | .lst _ => true
  | .ins _ _ _ => true
  | _ => false
theorem nomark (b : Expr) {op : CmpOp} (h : op ≠ .In := by decide) (h2 : op ≠ .NotIn := by decide) : behindInMarks op b = false := by
  have e1 : (op == CmpOp.In) = false := by cases op <;> first | rfl | exact absurd rfl h
  have e2 : (op == CmpOp.NotIn) = false := by cases op <;> first | rfl | exact absurd rfl h2
  cases b <;> simp [behindInMarks, e1, e2]
/-- a comparison as a value; hm: nomark b, or (for in, not in) by with_unfolding_all rfl -/
theorem pe_cmpR {op : CmpOp} {r : R2} (ho : OpR X (compareOp op) r) (ha : PE X a ta) (hb : PE X b tb) (hm : behindInMarks op b = false) : PE X (.Compare a [op] [b] pos) (tOp r ta tb) := by
  intro pins s σ H Q I h
  exact wpAny_Compare1 (binT ha hb I h fun v u s2 x y H2 I2 rx ry q => ho pins s2 σ H2 x y v u Q I2 rx ry q) hm
/-- a reading of a value as a test -/
def tTest (t : TE) : TT := fun σ H Q => t σ H fun x H' => ∃ k, x = .bl k ∧ Q k H'
theorem pt_cmpR {op : CmpOp} {r : R2} (ho : OpR X (compareOp op) r) (ha : PE X a ta) (hb : PE X b tb) (hm : behindInMarks op b = false) : PT X (.Compare a [op] [b] pos) (tTest (tOp r ta tb)) := by
  intro pins s σ H Q I h
  refine wpAny_isTrue_Compare1 (thn (ha pins s σ H _ I h) fun v s1 ⟨x, H1, I1, r1, q1⟩ => thn (hb pins s1 σ H1 _ I1 q1) fun u s2 ⟨y, H2, I2, r2, q2⟩ =>
    thn (ho pins s2 σ H2 x y v u _ I2 r1 r2 q2) fun c s3 ⟨z, H3, I3, r3, k, e, q3⟩ => ?_) hm
  subst e
  cases r3
  exact wpAny_truthy_bool ⟨H3, I3, q3⟩
/-- a op1 b op2 c -/
def tChain (r r' : R2) (ta tb tc : TE) : TE := fun σ H Q => ta σ H fun x H1 => tb σ H1 fun y H2 => r x y H2 fun z H3 => ∃ k, z = .bl k ∧
  (if k = true then tc σ H3 fun w' H4 => r' y w' H4 Q else Q (.bl false) H3)
theorem pt_chain {op op' : CmpOp} {r r' : R2} (ho : OpR X (compareOp op) r) (ho' : OpR X (compareOp op') r') (ha : PE X a ta) (hb : PE X b tb) (hc : PE X c tc)
    (hm : lastMarks [op, op'] [b, c] = false := by with_unfolding_all rfl) : PT X (.Compare a [op, op'] [b, c] pos) (tTest (tChain r r' ta tb tc)) := by
  intro pins s σ H Q I h
  refine isTrue_chain (thn (ha pins s σ H _ I h) fun v s1 ⟨x, H1, I1, r1, q1⟩ => test_link (thn (hb pins s1 σ H1 _ I1 q1) fun u s2 ⟨y, H2, I2, r2, q2⟩ =>
    thn (ho pins s2 σ H2 x y v u _ I2 r1 r2 q2) fun d s3 ⟨z, H3, I3, r3, k, e, q3⟩ => ?_)) hm
  subst e
  cases r3
  refine wpAny_truthy_bool ?_
  cases k with
  | false =>
    obtain ⟨k', e', q'⟩ := q3
    cases e'
    exact ite_ff ⟨H3, I3, q'⟩
  | true =>
    refine ite_tt (test_last (thn (hc pins s3 σ H3 _ I3 q3) fun w' s4 ⟨z', H4, I4, r4, q4⟩ => thn (ho' pins s4 σ H4 y z' u w' _ I4 r2 r4 q4) fun d' s5 ⟨z2, H5, I5, r5, k2, e2, q5⟩ => ?_))
    subst e2
    cases r5
    exact wpAny_truthy_bool ⟨H5, I5, q5⟩

/-! ### truth -/
/-- a value's truth by the abstract heap -/
def TruV (K : PySem.W.Frag) (x : V) (H : Hp) (k : Bool) : Prop :=
  match x with
  | .non => k = false
  | .bl b => k = b
  | .int i => k = (i != 0)
  | .str y => y.length ≤ sizeLine ∧ k = ((y.length : Int) != 0)
  | .byt y => y.size ≤ sizeLine ∧ k = ((y.size : Int) != 0)
  | .ref p => (∃ xs, SqL K H p xs ∧ k = !xs.isEmpty) ∨ (∃ xs, SqT K H p xs ∧ k = !xs.isEmpty) ∨ ∃ kvs, H p = some (.dK kvs) ∧ k = !kvs.isEmpty
  | _ => False
theorem isEmpty_kv {κ : Type} {kvs : List (κ × V)} {vs : List (κ × Value)} (r : KV kvs vs) : (!vs.isEmpty) = !kvs.isEmpty := by
  cases r <;> rfl
theorem isEmpty_of {xs : List V} {its : List Value} (r : Vals xs its) : (!its.toArray.isEmpty) = !xs.isEmpty := by
  cases r <;> simp
theorem line63 : (sizeLine : Nat) < 2 ^ 63 := by rw [sizeLine_eq]; decide
theorem tru_ok : TruR X (fun x H Q => ∃ k, TruV X.K x H k ∧ Q k H) := by
  intro pins s σ H x v Q I rx h
  obtain ⟨k, e, q⟩ := h
  have hl := line63
  have hs : sizeLine = 16777216 := sizeLine_eq
  cases x with
  | non =>
    cases rx
    have e' : k = false := e
    subst e'
    exact truthy_none ⟨H, I, q⟩
  | bl b =>
    cases rx
    have e' : k = b := e
    subst e'
    exact wpAny_truthy_bool ⟨H, I, q⟩
  | int i =>
    obtain ⟨t, rfl⟩ := rx
    have e' : k = (i != 0) := e
    subst e'
    exact PySem.P.truthy_int ⟨H, I, q⟩
  | str y =>
    obtain ⟨t, rfl⟩ := rx
    obtain ⟨hy, e'⟩ : y.length ≤ sizeLine ∧ k = ((y.length : Int) != 0) := e
    subst e'
    exact PySem.P.truthy_str (by omega) ⟨H, I.tok _, q⟩
  | byt y =>
    obtain ⟨t, rfl⟩ := rx
    obtain ⟨hy, e'⟩ : y.size ≤ sizeLine ∧ k = ((y.size : Int) != 0) := e
    subst e'
    exact PySem.W.truthy_bytes (by omega) ⟨H, I.tok _, q⟩
  | ref p =>
    cases rx
    have e' : (∃ xs, SqL X.K H p xs ∧ k = !xs.isEmpty) ∨ (∃ xs, SqT X.K H p xs ∧ k = !xs.isEmpty) ∨ ∃ kvs, H p = some (.dK kvs) ∧ k = !kvs.isEmpty := e
    rcases e' with ⟨xs, hx, e'⟩ | ⟨xs, hx, e'⟩ | ⟨kvs, hx, e'⟩
    · subst e'
      obtain ⟨its, r, pl, hz⟩ := I.list hx
      have hlen := r.length
      exact wpAny_truthy_list pl.isList (by simp only [List.size_toArray]; omega) ⟨H, I.tok _, by rw [isEmpty_of r]; exact q⟩
    · subst e'
      obtain ⟨its, r, pl, hz⟩ := I.tuple hx
      have hlen := r.length
      exact truthy_tuple pl (by simp only [List.size_toArray]; omega) ⟨H, I.tok _, by rw [isEmpty_of r]; exact q⟩
    · subst e'
      obtain ⟨hz, hS, vs, r, m⟩ : kvs.length ≤ sizeLine ∧ (p == sysModules) = false ∧ ∃ vs, KV kvs vs ∧ s.heap.DictOf (mixKind X.prog X.w) p vs := I.hok p _ hx
      have hlen : kvs.length = vs.length := Paired.length r
      exact wpAny_truthy_dict hS m (by omega) ⟨H, I.tok _, by rw [isEmpty_kv r]; exact q⟩
  | _ => exact (show False from e).elim
/-- any expression whose test is its value's truth (a name, a call, a subscript, a field ..: he by fun _ => rfl) -/
theorem pt_truth (ha : PE X a ta) (he : ∀ whole, isTrue a X.env whole = (do let v ← whole; standAt a.pos; holding [v] (truthy v))) :
    PT X a (fun σ H Q => ta σ H fun x H' => ∃ k, TruV X.K x H' k ∧ Q k H') := by
  intro pins s σ H Q I h
  exact isTrue_plain (thn (ha pins s σ H _ I h) fun v s1 ⟨x, H1, I1, r1, q1⟩ => tru_ok pins s1 σ H1 x v Q I1 r1 q1) (he _)

/-! ### strs and bytes -/
def PlainIxT (b : Expr) : Prop := ∀ o i, subscripted b false o i = operate [o, i] (getItem o i)
/-! ### scalar builtins, by CallR -/
theorem vals1 {x : V} {us : List Value} (r : Vals [x] us) : ∃ u, us = [u] ∧ RelV x u := by
  cases r with
  | cons r1 r2 => cases r2; exact ⟨_, rfl, r1⟩
theorem vals2 {x y : V} {us : List Value} (r : Vals [x, y] us) : ∃ u w', us = [u, w'] ∧ RelV x u ∧ RelV y w' := by
  cases r with
  | cons r1 r2 =>
    cases r2 with
    | cons r3 r4 => cases r4; exact ⟨_, _, rfl, r1, r3⟩
theorem call_abs : CallR X (.builtin "abs") (fun xs H Q => ∃ i, xs = [.int i] ∧ Q (.int (if i < 0 then -i else i)) H) := by
  intro pins s σ H xs us Q I r h
  obtain ⟨i, rfl, q⟩ := h
  obtain ⟨u, rfl, t, rfl⟩ := vals1 r
  exact call_abs_int fun u tk => ⟨.int (if i < 0 then -i else i), H, I.tok _, ⟨_, rfl⟩, q⟩
theorem call_max2 (hc : X.calm = true) : CallR X (.builtin "max") (fun xs H Q => ∃ i j, xs = [.int i, .int j] ∧ Q (.int (if j > i then j else i)) H) := by
  intro pins s σ H xs us Q I r h
  obtain ⟨i, j, rfl, q⟩ := h
  obtain ⟨u, w', rfl, ⟨t, rfl⟩, ⟨t', rfl⟩⟩ := vals2 r
  refine max_two_ints (I.ok.hd hc) fun h' tk k => ⟨_, H, I.kept k, ?_, q⟩
  by_cases hj : j > i
  · rw [if_pos hj, if_pos hj]; exact ⟨_, rfl⟩
  · rw [if_neg hj, if_neg hj]; exact ⟨_, rfl⟩
theorem call_min2 (hc : X.calm = true) : CallR X (.builtin "min") (fun xs H Q => ∃ i j, xs = [.int i, .int j] ∧ Q (.int (if j < i then j else i)) H) := by
  intro pins s σ H xs us Q I r h
  obtain ⟨i, j, rfl, q⟩ := h
  obtain ⟨u, w', rfl, ⟨t, rfl⟩, ⟨t', rfl⟩⟩ := vals2 r
  refine min_two_ints (I.ok.hd hc) fun h' tk k => ⟨_, H, I.kept k, ?_, q⟩
  by_cases hj : j < i
  · rw [if_pos hj, if_pos hj]; exact ⟨_, rfl⟩
  · rw [if_neg hj, if_neg hj]; exact ⟨_, rfl⟩
/-- len of a str, a bytes, a list, a tuple -/
def LenV (K : PySem.W.Frag) (x : V) (H : Hp) (n : Nat) : Prop :=
  match x with
  | .str y => y.length ≤ sizeLine ∧ n = y.length
  | .byt y => y.size ≤ sizeLine ∧ n = y.size
  | .ref p => (∃ xs, SqL K H p xs ∧ n = xs.length) ∨ ∃ xs, SqT K H p xs ∧ n = xs.length
  | _ => False
end
end L2

namespace L2
open PySem PySem.Spec PyProof.Rows

/-! ### an instance, its attributes a map -/
structure ObjM (h : Heap) (x dx C : Addr) (mA : Str → Option Value) : Prop where
  obj : h.get? x = some (PySem.W.instObj C dx)
  ns : h.Ns1 dx mA
  ne : dx ≠ x

theorem lookIn_ns {h : Heap} {dx : Addr} {mA : Str → Option Value} (n : h.Ns1 dx mA) : ∃ od, h.get? dx = some od ∧ ∀ name, PySem.W.lookIn name od = some (mA name) := by
  obtain ⟨o, es, ep, ho, hd, hk, _, hm⟩ := n
  refine ⟨o, ho, fun name => ?_⟩
  have e := hm name
  unfold nsFind findBy at e
  rw [← Array.find?_toList] at e
  unfold PySem.W.lookIn
  rw [hd]
  dsimp only
  split
  · rename_i y q
    rw [q] at e
    exact congrArg some e
  · rename_i q
    rw [q] at e
    have a : es.toList.any (·.refKey) = false := by
      rw [List.any_eq_false]
      intro y hy
      obtain ⟨z, t, hkey⟩ := hk y (Array.mem_toList_iff.mp hy)
      simp [DictEntry.refKey, hkey]
    have a' : ¬ es.toList.any (·.refKey) = true := by rw [a]; exact Bool.false_ne_true
    rw [if_neg a']
    exact congrArg some e

theorem ObjM.look {h : Heap} {x dx C : Addr} {mA : Str → Option Value} (I : ObjM h x dx C mA) : ∃ od, PySem.W.InstAt h x (PySem.W.instObj C dx) C (some od) ∧ ∀ name, PySem.W.lookIn name od = some (mA name) :=
  let ⟨od, ho, hl⟩ := lookIn_ns I.ns
  ⟨od, ⟨I.obj, rfl, rfl, ho⟩, hl⟩

section
variable {prog : Program} {w : World} {A : Around} {E : Value → Shared → Prop} {s : Shared} {K : PySem.W.Frag} {x dx C f : Addr} {mA : Str → Option Value} {name : Str} {v : Value}

end

/-! ### the attributes as a list of pairs -/
def putF (f : Str) (v : V) : List (Str × V) → List (Str × V)
  | [] => [(f, v)]
  | (g, x) :: r => if g = f then (g, v) :: r else (g, x) :: putF f v r
theorem RelO.some_of {v : V} {o : Option Value} (r : RelO (some v) o) : ∃ u, o = some u ∧ RelV v u := by
  cases o with
  | none => exact (show False from r).elim
  | some u => exact ⟨u, rfl, r⟩
section
variable {P : Program} {w : World} {H H' : Hp} {h h' : Heap} {a C dx : Addr} {fs fs' : List (Str × V)}
theorem ins_get (hok : HOk P w H h) (e : H a = some (.ins C dx fs)) : ∃ mA, ObjM h a dx C mA ∧ (∀ f, RelO (fs.lookup f) (mA f)) ∧ PySem.Within mA (fs.map (·.1)) ∧ fs.length ≤ 1000 ∧ H dx = some (.own a) := by
  obtain ⟨d, z, ne, ob, mA, n, r, q⟩ := (show ObjOk P w H h a (.ins C dx fs) from hok a _ e)
  exact ⟨mA, ⟨ob, n, ne⟩, r, q, z, d⟩
end

/-! ### what of the text a class must have -/
structure Cls (K : PySem.W.Frag) (C : Addr) : Prop where
  pg : PySem.W.plainGet K C Str.empty = true
  hd : PySem.W.hasDictIn K C = true
  po : PySem.W.plainOver K C = true
  sa : PySem.W.findIn K (.ref C) "__setattr__" = some (some (.builtin "object.__setattr__"))
theorem Cls.get {K : PySem.W.Frag} {C : Addr} (c : Cls K C) (f : Str) : PySem.W.plainGet K C f = true := c.pg
/-- no class of it has the name -/
def NoAttr (K : PySem.W.Frag) (C : Addr) (f : Str) : Prop := PySem.W.findIn K (.ref C) f = some none
/-- a constant of the class -/
structure Con (K : PySem.W.Frag) (C : Addr) (f : Str) (v : V) (u : Value) : Prop where
  at_ : PySem.W.findIn K (.ref C) f = some (some u)
  rel : RelV v u
  get : PySem.W.specialIn K u "__get__" = some none
  cp : PySem.W.copiedNames.contains f = false
/-- a method: a plain def of the class or of one above it -/
structure Meth (K : PySem.W.Frag) (C : Addr) (m : Str) (f : Addr) : Prop where
  at_ : PySem.W.findIn K (.ref C) m = some (some (.ref f))
  fn : PySem.W.isFn K (.ref f) = true
  kp : PySem.W.keepIn K (.ref f) = true

section
variable {X : Cx} {pins : List (Addr × Obj)} {σ : St} {H : Hp} {s : Shared} {a C dx : Addr} {fs : List (Str × V)} {f : Str} {v : V} {A : Around} {E : Value → Shared → Prop}

end

/-! ### readings and rules -/
/-- e.f, an attribute of the instance -/
def tFld (K : PySem.W.Frag) (ta : TE) (f : Str) : TE := fun σ H Q => ta σ H fun x H1 => ∃ a C dx fs v, x = .ref a ∧ H1 a = some (.ins C dx fs) ∧ Cls K C ∧ NoAttr K C f ∧ fs.lookup f = some v ∧ Q v H1
/-- e.f, a constant of the class -/
def tCon (K : PySem.W.Frag) (ta : TE) (f : Str) : TE := fun σ H Q => ta σ H fun x H1 => ∃ a C dx fs v u, x = .ref a ∧ H1 a = some (.ins C dx fs) ∧ Cls K C ∧ Con K C f v u ∧ fs.lookup f = none ∧ Q v H1
/-- e.f = value -/
def sFld (K : PySem.W.Frag) (ta tv : TE) (f : Str) : TS := fun D σ H => tv σ H fun y H1 => ta σ H1 fun x H2 => ∃ a C dx fs, x = .ref a ∧ H2 a = some (.ins C dx fs) ∧ Cls K C ∧ NoAttr K C f ∧ fs.length < 1000 ∧
  D.nx σ (upd H2 a (.ins C dx (putF f y fs)))
/-- an augmented operator on two values -/
def InOp (X : Cx) (op : Operator) (rd : V → V → Hp → VK → Prop) : Prop :=
  ∀ (pins : List (Addr × Obj)) (s : Shared) (σ : St) (H : Hp) (x y : V) (u v : Value) (Q : VK), Inv X pins σ H s → RelV x u → RelV y v → rd x y H Q → wpAny (model X.prog X.w) X.A (inplaceOp op u v) (EP X pins σ Q) X.xe s
/-- e.f op= value -/
def sFldAug (K : PySem.W.Frag) (ta tv : TE) (rd : V → V → Hp → VK → Prop) (f : Str) : TS := fun D σ H => ta σ H fun x H1 => ∃ a C dx fs v, x = .ref a ∧ H1 a = some (.ins C dx fs) ∧ Cls K C ∧ NoAttr K C f ∧ fs.lookup f = some v ∧
  tv σ H1 fun y H2 => rd v y H2 fun z H3 => ∃ dx' fs', H3 a = some (.ins C dx' fs') ∧ fs'.length < 1000 ∧ D.nx σ (upd H3 a (.ins C dx' (putF f z fs')))

section
variable {X : Cx} {o e value : Expr} {f : Str} {pos pos' tpos : Pos} {ta tv : TE}
def rAdd : V → V → Hp → VK → Prop := fun x y H Q => ∃ i j, x = .int i ∧ y = .int j ∧ Q (.int (i + j)) H
def rSub : V → V → Hp → VK → Prop := fun x y H Q => ∃ i j, x = .int i ∧ y = .int j ∧ Q (.int (i - j)) H
end

/-! ### isinstance -/
section
variable {X : Cx} {pins : List (Addr × Obj)} {σ : St} {H : Hp} {s : Shared} {A : Around} {E : Value → Shared → Prop} {Q : Value → Shared → Prop} {c : Value} {b : Bool}
/-- the type of a value, as the fragment's deciders take it; for an instance its class -/
inductive TyOf (K : PySem.W.Frag) (H : Hp) : V → Value → Prop where
  | non : TyOf K H .non (.type "NoneType")
  | bl (x : Bool) : TyOf K H (.bl x) (.type "bool")
  | int (i : Int) : TyOf K H (.int i) (.type "int")
  | str (x : Str) : TyOf K H (.str x) (.type "str")
  | flt (x : UInt64) : TyOf K H (.flt x) (.type "float")
  | lst {a : Addr} {xs : List V} (e : H a = some (.lst xs)) : TyOf K H (.ref a) (.type "list")
  | frz {a : Addr} {o : Obj} {xs : List V} (e : H a = some (.frz o (.lst xs))) : TyOf K H (.ref a) (.type "list")
  | tup {a : Addr} {xs : List V} (e : H a = some (.tup xs)) : TyOf K H (.ref a) (.type "tuple")
  | dK {a : Addr} {kvs : List (Key × V)} (e : H a = some (.dK kvs)) : TyOf K H (.ref a) (.type "dict")
  | dT {a : Addr} {kvs : List (List Key × V)} (e : H a = some (.dT kvs)) : TyOf K H (.ref a) (.type "dict")
  | ins {a C dx : Addr} {fs : List (Str × V)} (e : H a = some (.ins C dx fs)) (cl : Cls K C) (ha : PySem.W.findIn K (.ref C) "__class__" = some (some (.builtin "object.__class__")))
      (hn : PySem.W.specialIn K (.builtin "object.__class__") "__get__" = some (some (.builtin "getset_descriptor.__get__"))) (htk : PySem.W.takesIn K (.builtin "object.__class__") = some true)
      (hm : PySem.W.mroIn K C (.type "object") = some true) : TyOf K H (.ref a) (.ref C)
/-- isinstance(x, c) for one class c, a built-in or an own one: kitOne's answer -/
theorem isinst_ok {x : V} {u t : Value} (I : Inv X pins σ H s) (rx : RelV x u) (ty : TyOf X.K H x t) (e : PySem.W.kitOne X.K t c = some b) (h : ∀ tk, Q (.bool b) { s with toks := tk }) :
    wpAny (model X.prog X.w) A (call (.builtin "isinstance") [u, c]) Q E s := by
  cases ty with
  | non => cases (show u = Value.none from rx); exact PySem.W.kia_one PySem.W.kitx_none I.kIn True.intro e (fun z => nomatch z) h
  | bl y => cases (show u = Value.bool y from rx); exact PySem.W.kia_one PySem.W.kitx_bool I.kIn True.intro e (fun z => nomatch z) h
  | int i => obtain ⟨t, q⟩ := (show ∃ t, u = Value.int i t from rx); cases q; exact PySem.W.kia_one PySem.W.kitx_int I.kIn True.intro e (fun z => nomatch z) h
  | str y => obtain ⟨t, q⟩ := (show ∃ t, u = Value.str y t from rx); cases q; exact PySem.W.kia_one PySem.W.kitx_str I.kIn True.intro e (fun z => nomatch z) h
  | flt y => obtain ⟨t, q⟩ := (show ∃ t, u = Value.float y t from rx); cases q; exact PySem.W.kia_one PySem.W.kitx_float I.kIn True.intro e (fun z => nomatch z) h
  | @lst a xs ea =>
    cases (show u = Value.ref a from rx)
    obtain ⟨_, _, n, _, h1⟩ := (show ObjOk X.prog X.w H s.heap a (.lst xs) from I.hok a _ ea)
    exact PySem.W.kia_one PySem.W.kitx_list I.kIn ⟨_, h1, rfl⟩ e (fun z => nomatch z) h
  | @frz a ob xs ea =>
    cases (show u = Value.ref a from rx)
    obtain ⟨_, _, _, n, _, h1⟩ := (show ObjOk X.prog X.w H s.heap a (.frz ob (.lst xs)) from I.hok a _ ea)
    exact PySem.W.kia_one PySem.W.kitx_list I.kIn ⟨_, h1, rfl⟩ e (fun z => nomatch z) h
  | @tup a xs ea =>
    cases (show u = Value.ref a from rx)
    obtain ⟨_, _, _, p⟩ := (show ObjOk X.prog X.w H s.heap a (.tup xs) from I.hok a _ ea)
    obtain ⟨o, h1, h2, _⟩ := p
    exact PySem.W.kia_one PySem.W.kitx_tuple I.kIn ⟨o, h1, h2⟩ e (fun z => nomatch z) h
  | @dK a kvs ea =>
    cases (show u = Value.ref a from rx)
    obtain ⟨_, _, vs, _, p⟩ := (show ObjOk X.prog X.w H s.heap a (.dK kvs) from I.hok a _ ea)
    obtain ⟨o, es, ep, h1, h2, _⟩ := p
    exact PySem.W.kia_one PySem.W.kitx_dict I.kIn ⟨o, h1, h2.1⟩ e (fun z => nomatch z) h
  | @dT a kvs ea =>
    cases (show u = Value.ref a from rx)
    obtain ⟨_, _, xs, _, o, es, ep, h1, h2, _⟩ := (show ObjOk X.prog X.w H s.heap a (.dT kvs) from I.hok a _ ea)
    exact PySem.W.kia_one PySem.W.kitx_dict I.kIn ⟨o, h1, h2.1⟩ e (fun z => nomatch z) h
  | @ins a C dx fs ea cl ha hn htk hm =>
    cases (show u = Value.ref a from rx)
    obtain ⟨mA, O, _⟩ := ins_get I.hok ea
    obtain ⟨od, J, _⟩ := O.look
    exact PySem.W.kia_one (PySem.W.kitx_own (cl.get _) cl.hd ha hn htk hm) I.kIn J e (fun z => nomatch z) h
end
end L2

namespace L2
open PySem PySem.Spec PyProof.Rows

/-! ### room -/
structure Room (k : Nat) (A : Around) : Prop where
  hd : A.handled = none
  dp : A.depth + 3 * k + 5 < recursionLimit
  un : A.units + 16 * k + 200 < cLine
theorem Room.mono {j k : Nat} {A : Around} (r : Room k A) (h : j ≤ k) : Room j A := ⟨r.hd, by have := r.dp; omega, by have := r.un; omega⟩
theorem Room.deeper {k : Nat} {A : Around} (r : Room (k + 1) A) (env : Env) : Room k (A.deeper env) :=
  ⟨r.hd, by have := r.dp; show A.depth + 1 + 3 * k + 5 < _; omega, by have := r.un; show A.units + 3 + 16 * k + 200 < _; omega⟩
theorem Room.depth {k : Nat} {A : Around} (r : Room k A) : A.depth < recursionLimit := by have := r.dp; omega
theorem Room.units {k : Nat} {A : Around} (r : Room k A) : A.units + 64 < cLine := by have := r.un; omega
/-! ### argument lists and displays -/
def tNil : TA := fun _ H Q => Q [] H
def tCons (ta : TE) (tr : TA) : TA := fun σ H Q => ta σ H fun x H1 => tr σ H1 fun xs H2 => Q (x :: xs) H2
section
variable {X : Cx} {e : Expr} {es : List Expr} {te : TE} {t : TA} {pos : Pos}
theorem pa_nil : PA X [] tNil := fun _ _ _ _ H Q I h => Calls.spliced_nil ⟨[], H, I, .nil, h⟩
theorem pa_cons (ha : PE X e te) (hr : PA X es t) (hs : starEach (e :: es) X.env = (false, eval e X.env) :: starEach es X.env := by rfl) : PA X (e :: es) (tCons te t) := by
  intro pos pins s σ H Q I h
  rw [hs]
  show wpAny _ _ (spliced ((false, eval e X.env) :: backTo pos (starEach es X.env))) _ _ s
  refine Calls.spliced_cons (thn (ha pins s σ H _ I h) fun u s1 ⟨x, H1, I1, r1, q1⟩ => ?_)
  exact thn (hr pos pins s1 σ H1 _ I1 q1) fun us s2 ⟨xs, H2, I2, r2, q2⟩ => ⟨x :: xs, H2, I2, .cons r1 r2, q2⟩

/-- a tuple, a list of written items -/
def tTup (t : TA) : TE := fun σ H Q => t σ H fun xs H1 => xs.length ≤ sizeLine ∧ ∀ p, H1 p = none → Q (.ref p) (upd H1 p (.tup xs))
def tLst (t : TA) : TE := fun σ H Q => t σ H fun xs H1 => xs.length ≤ sizeLine ∧ ∀ p, H1 p = none → Q (.ref p) (upd H1 p (.lst xs))
theorem pe_tup {x1} (h : PA X es t) : PE X (.Tuple es x1 pos) (tTup t) := by
  intro pins s σ H Q I hq
  refine wpAny_Tuple_spliced (thn (h pos pins s σ H _ I hq) fun us s1 ⟨xs, H1, I1, r, z, q⟩ => ⟨by rw [← r.length]; exact z, ?_⟩)
  have hf : H1 s1.heap.objs.size = none := I1.hok.fresh (Nat.le_refl _)
  refine ⟨.ref s1.heap.objs.size, upd H1 s1.heap.objs.size (.tup xs), I1.laid (t' := s1.toks) (fun b u e => Heap.get?_push_of_some _ e) (Nat.le_refl _) ?_, rfl, q _ hf⟩
  exact ⟨z, us, r, ⟨_, Heap.get?_push_size _ rfl, rfl, _, rfl⟩⟩
theorem pe_lst (h : PA X es t) : PE X (.List es pos) (tLst t) := by
  intro pins s σ H Q I hq
  refine wpAny_List_spliced (thn (h pos pins s σ H _ I hq) fun us s1 ⟨xs, H1, I1, r, z, q⟩ => ⟨by rw [← r.length]; exact z, ?_⟩)
  have hf : H1 s1.heap.objs.size = none := I1.hok.fresh (Nat.le_refl _)
  refine ⟨.ref s1.heap.objs.size, upd H1 s1.heap.objs.size (.lst xs), I1.laid (t' := s1.toks) (fun b u e => Heap.get?_push_of_some _ e) (Nat.le_refl _) ?_, rfl, q _ hf⟩
  exact ⟨z, us, 0, r, Heap.get?_push_size _ rfl⟩
end

/-! ### what a def promises -/
/-- a def's promise: the bound arguments in the parameters' order, the heap, the wanted end, the wanted exception -/
abbrev Sp := List V → Hp → VK → XK → Prop
/-- how an exception lies behind a call (file 08 gives it): the callers' frames, abstract heap and state ahead of the call, the wish, the exception, the state -/
abbrev CXT := List Env → Hp → Shared → XK → Value → Shared → Prop

/-- the state at a call -/
structure Env0 (P : Program) (w : World) (K : PySem.W.Frag) (mg : Str → Option Value) (base : Heap) (A : Around) (outer : List Env) (s : Shared) (H : Hp) : Prop where
  frames : A.frames = some outer
  mod : Mod K mg base
  bs : ∀ b o, base.get? b = some o → s.heap.get? b = some o ∧ H b = none
  bsz : base.objs.size ≤ s.heap.objs.size
  funs : s.heap.FunFrames base outer
  frf : ∀ b ∈ frs outer, H b = none
  hok : HOk P w H s.heap
  bare : AllBare s.gens
/-- a call's end -/
def CE (outer : List Env) (P : Program) (w : World) (H : Hp) (s : Shared) (Q : VK) (u : Value) (s' : Shared) : Prop :=
  ∃ v H', s'.os = s.os ∧ AllBare s'.gens ∧ Un (frs outer) [] H H' s.heap s'.heap ∧ HOk P w H' s'.heap ∧ RelV v u ∧ Q v H'
def CR (CX : CXT) (outer : List Env) (P : Program) (w : World) (H : Hp) (s : Shared) (Q : VK) (E : XK) (r : Result) (s' : Shared) : Prop :=
  match r with
  | .ok (.ret u) => CE outer P w H s Q u s'
  | .ok _ => False
  | .error e => CX outer H s E e s'
structure FnOk (P : Program) (w : World) (K : PySem.W.Frag) (mg : Str → Option Value) (base : Heap) (CX : CXT) (k : Nat) (f : Addr) (fd : FuncData) (ps : List Str) (sp : Sp) : Prop where
  len : ∀ vs H Q E, sp vs H Q E → vs.length = ps.length
  run : ∀ (A : Around) (outer : List Env) (s : Shared) (H : Hp) (args : Args) (us : List Value) (vs : List V) (Q : VK) (E : XK), Room k A → Env0 P w K mg base A outer s H → BindsTo s fd args (ps.zip us) → Vals vs us → sp vs H Q E →
    codeAny (model P w) A (.call (.ref f) args) (CR CX outer P w H s Q E) s
section
variable {X : Cx} {pins : List (Addr × Obj)} {σ : St} {H : Hp} {s s' : Shared}
/-- from a body: what a callee wants -/
theorem Inv.env0 (I : Inv X pins σ H s) : Env0 X.prog X.w X.K X.mg X.base X.A X.stack s H :=
  ⟨I.ok.frames, I.ok.mod, I.bs, Nat.le_trans I.ok.bsz I.sz, I.stack, I.stkFree, I.hok, I.bare⟩
/-- behind a call -/
theorem Inv.after {Q : VK} {u : Value} (I : Inv X pins σ H s) (h : CE X.stack X.prog X.w H s Q u s') : EP X pins σ Q u s' := by
  obtain ⟨v, H', os, bare, un, hok, r, q⟩ := h
  obtain ⟨hh, g, d, t, os'⟩ := s'
  obtain rfl : os' = s.os := os
  exact ⟨v, H', I.call (h' := hh) (g' := g) (d' := d) (t' := t) (ch := []) un hok bare (fun b z => absurd z (by simp)), r, q⟩
end

/-! ### calls -/
/-- f(..): the written arguments, then the defaults dvs; E: what is wanted of an exception -/
def tCall (sp : Sp) (dvs : List V) (E : XK) (t : TA) : TE := fun σ H Q => t σ H fun vs H1 => sp (vs ++ dvs) H1 Q E
/-- o.m(..) of an instance of the class at C -/
def tMeth (C : Addr) (m : Str) (sp : Sp) (dvs : List V) (E : XK) (ta : TE) (t : TA) : TE := fun σ H Q => ta σ H fun x H1 => ∃ a dx fs, x = .ref a ∧ H1 a = some (.ins C dx fs) ∧ fs.lookup m = none ∧
  t σ H1 fun vs H2 => sp (x :: (vs ++ dvs)) H2 Q E
/-- C(..): a new instance and its dict, then __init__ -/
def tMake (C : Addr) (sp : Sp) (dvs : List V) (E : XK) (t : TA) : TE := fun σ H Q => t σ H fun vs H1 => ∀ x dx, H1 x = none → H1 dx = none → dx ≠ x →
  sp (.ref x :: (vs ++ dvs)) (upd (upd H1 dx (.own x)) x (.ins C dx [])) (fun v H2 => v = .non ∧ Q (.ref x) H2) E

/-- how the parameters are bound: us the positional arguments, kw the keywords' values by name, ds the defaults that fill up -/
def Binds (K : PySem.W.Frag) (fd : FuncData) (ps : List Str) (ds : List Value) : Prop :=
  ∀ (s : Shared) (us : List Value), K.In s.heap → (us ++ ds).length = ps.length → BindsTo s fd ⟨us, []⟩ (ps.zip (us ++ ds))
/-- every parameter is given -/
theorem Binds.all {K : PySem.W.Frag} {fd : FuncData} {ps : List Str} (h : ∀ us : List Value, us.length = ps.length → bindArgs fd ⟨us, []⟩ = pure (ps.zip us)) : Binds K fd ps [] := fun s us _ hl => by
  rw [List.append_nil] at hl ⊢
  exact .of_eq (h us hl)

/-- an exception of a callee reaches what this body wants of exceptions -/
def Passes (CX : CXT) (X : Cx) (E : XK) : Prop := ∀ (pins : List (Addr × Obj)) (σ : St) (H : Hp) (s : Shared) (e : Value) (s' : Shared), Inv X pins σ H s → CX X.stack H s E e s' → X.xe e s'

section
variable {X : Cx} {CX : CXT} {k : Nat} {f C : Addr} {fd : FuncData} {ps : List Str} {sp : Sp} {dvs : List V} {ds : List Value} {E : XK} {x m : Str} {p pos apos : Pos} {e o : Expr} {es : List Expr} {ta : TE} {t : TA}

/-- the callee runs -/
theorem run_fn {pins : List (Addr × Obj)} {σ : St} {H : Hp} {s : Shared} {Q : VK} {us : List Value} {vs : List V} (F : FnOk X.prog X.w X.K X.mg X.base CX k f fd ps sp) (hr : Room k X.A) (hb : Binds X.K fd ps ds) (hd : Vals dvs ds) (hx : Passes CX X E)
    (I : Inv X pins σ H s) (r : Vals vs us) (h : sp (vs ++ dvs) H Q E) : wpAny (model X.prog X.w) X.A (call (.ref f) us) (EP X pins σ Q) X.xe s := by
  have r2 : Vals (vs ++ dvs) (us ++ ds) := r.append hd
  have hl : (us ++ ds).length = ps.length := by rw [← r2.length]; exact F.len _ _ _ _ h
  refine wpAny_call (codeAny_mono (F.run X.A X.stack s H ⟨us, []⟩ (us ++ ds) (vs ++ dvs) Q E hr I.env0 (hb s us I.kIn hl) r2 h) fun r s' hq => ?_)
  cases r with
  | error e => exact hx pins σ H s e s' I hq
  | ok fl =>
    cases fl with
    | ret u => exact I.after hq
    | next => exact False.elim hq
    | brk => exact False.elim hq
    | cont => exact False.elim hq

theorem pe_call (F : FnOk X.prog X.w X.K X.mg X.base CX k f fd ps sp) (hr : Room k X.A) (hg : Gl X x) (hm : X.mg x = some (.ref f)) (hk : PySem.W.keepIn X.K (.ref f) = true) (hb : Binds X.K fd ps ds) (hd : Vals dvs ds) (hx : Passes CX X E)
    (ha : PA X (e :: es) t) (hdb : (x == ("__debug__" : Str)) = false := by decide) (he : starEach (e :: es) X.env = (false, eval e X.env) :: starEach es X.env := by rfl) (hpl : (backTo pos (starEach es X.env)).any (·.1) = false := by rfl) :
    PE X (.Call (.Name x p) (e :: es) [] pos) (tCall sp dvs E t) := by
  intro pins s σ H Q I h
  refine wpAny_Call_Name_kw (ld_glob I hg hm ?_ hdb)
  refine PySem.W.callWith_K (h₀ := X.base) I.ok.mod.kin hk (thn (ha pos pins s σ H _ I h) fun us s1 ⟨vs, H1, I1, r, q⟩ => ⟨I1.kIn, ?_⟩) he hpl
  exact run_fn F hr hb hd hx I1 r q
/-- what a class must have to be made -/
structure Mk (K : PySem.W.Frag) (C f : Addr) : Prop where
  makes : PySem.W.makesIn K C = true
  init : PySem.W.findIn K (.ref C) "__init__" = some (some (.ref f))
  fn : PySem.W.isFn K (.ref f) = true
  kp : PySem.W.keepIn K (.ref C) = true

end

/-! ### keywords -/
/-- the values of the keywords, from the left -/
def PK (X : Cx) (kws : List Keyword) (t : TA) : Prop :=
  ∀ (pos : Pos) (pins : List (Addr × Obj)) (s : Shared) (σ : St) (H : Hp) (Q : List V → Hp → Prop), Inv X pins σ H s → t σ H Q → wpAny (model X.prog X.w) X.A (evalAll ((backToKw pos (keywordEach kws X.env)).map (·.2))) (AP X pins σ Q) X.xe s
section
variable {X : Cx} {CX : CXT} {k : Nat} {f C : Addr} {fd : FuncData} {ps ks : List Str} {sp : Sp} {E : XK} {x m : Str} {p pos apos kpos : Pos} {e o : Expr} {es : List Expr} {kws : List Keyword} {te ta : TE} {t tk : TA} {nm : Option Str}
/-- how a call with keywords binds: g puts the positional values us and the keywords' values ws (names ks) in the parameters' order, defaults among them -/
structure KBinds (K : PySem.W.Frag) (fd : FuncData) (ps ks : List Str) (g : List Value → List Value → List Value) (gV : List V → List V → List V) : Prop where
  to : ∀ (s : Shared) (us ws : List Value), K.In s.heap → (g us ws).length = ps.length → BindsTo s fd ⟨us, ks.zip ws⟩ (ps.zip (g us ws))
  rel : ∀ {vs : List V} {us : List Value} {zs : List V} {ws : List Value}, Vals vs us → Vals zs ws → Vals (gV vs zs) (g us ws)
def tCallK (sp : Sp) (gV : List V → List V → List V) (E : XK) (t tk : TA) : TE := fun σ H Q => t σ H fun vs H1 => tk σ H1 fun zs H2 => sp (gV vs zs) H2 Q E
variable {g : List Value → List Value → List Value} {gV : List V → List V → List V}
end

/-! ### a def's body keeps its promise -/
/-- names: the parameters first -/
structure FnScope (N P : List Str) (sc : Scope) : Prop where
  kind : sc.kind = .function
  co : sc.isCoroutine = false
  gen : sc.isGenerator = false
  nd : N.Nodup
  pre : N.take P.length = P
  par : ∀ x ∈ P, sc.names.lookup x = some .local ∨ sc.names.lookup x = some .cell
  nofree : ∀ y ∈ sc.names, y.2 ≠ .free

theorem bindL_out {kindOf : Str → Option NameKind} {x : Str} : ∀ {binds : List (Str × Value)} {m : Str → Option Value}, (∀ v, (x, v) ∉ binds) → bindL kindOf binds m x = m x
  | [], _, _ => rfl
  | (n, v) :: r, m, h => by
    unfold bindL
    rw [bindL_out fun w hw => h w (List.mem_cons_of_mem _ hw)]
    split
    · have : x ≠ n := by rintro rfl; exact h v List.mem_cons_self
      simp [this]
    · rfl
theorem bindC_out {kindOf : Str → Option NameKind} {x : Str} : ∀ {binds : List (Str × Value)} {m : Str → Option Value}, (∀ v, (x, v) ∉ binds) → bindC kindOf binds m x = m x
  | [], _, _ => rfl
  | (n, v) :: r, m, h => by
    unfold bindC
    rw [bindC_out fun w hw => h w (List.mem_cons_of_mem _ hw)]
    split
    · rfl
    · have : x ≠ n := by rintro rfl; exact h v List.mem_cons_self
      simp [this]
theorem bindL_get {kindOf : Str → Option NameKind} {x : Str} {v : Value} : ∀ {P : List Str} {vs : List Value} {i : Nat} {m : Str → Option Value}, P.Nodup → P[i]? = some x → vs[i]? = some v → kindOf x = some .local →
    bindL kindOf (P.zip vs) m x = some v
  | [], _, _, _, _, h, _, _ => by simp at h
  | _ :: _, [], _, _, _, _, h, _ => by simp at h
  | p :: P, w :: vs, 0, m, nd, h1, h2, hk => by
    simp at h1 h2; subst h1; subst h2
    show bindL kindOf ((p, w) :: P.zip vs) m p = _
    unfold bindL
    rw [bindL_out fun v hv => (List.nodup_cons.mp nd).1 (List.of_mem_zip hv).1, if_pos hk]
    simp
  | p :: P, w :: vs, i + 1, m, nd, h1, h2, hk => by
    show bindL kindOf ((p, w) :: P.zip vs) m x = _
    unfold bindL
    exact bindL_get (i := i) (List.nodup_cons.mp nd).2 (by simpa using h1) (by simpa using h2) hk
theorem bindC_get {kindOf : Str → Option NameKind} {x : Str} {v : Value} : ∀ {P : List Str} {vs : List Value} {i : Nat} {m : Str → Option Value}, P.Nodup → P[i]? = some x → vs[i]? = some v → kindOf x ≠ some .local →
    bindC kindOf (P.zip vs) m x = some v
  | [], _, _, _, _, h, _, _ => by simp at h
  | _ :: _, [], _, _, _, _, h, _ => by simp at h
  | p :: P, w :: vs, 0, m, nd, h1, h2, hk => by
    simp at h1 h2; subst h1; subst h2
    show bindC kindOf ((p, w) :: P.zip vs) m p = _
    unfold bindC
    rw [bindC_out fun v hv => (List.nodup_cons.mp nd).1 (List.of_mem_zip hv).1, if_neg hk]
    simp
  | p :: P, w :: vs, i + 1, m, nd, h1, h2, hk => by
    show bindC kindOf ((p, w) :: P.zip vs) m x = _
    unfold bindC
    exact bindC_get (i := i) (List.nodup_cons.mp nd).2 (by simpa using h1) (by simpa using h2) hk

/-- the names' values at the entry -/
def start (N : List Str) (vs : List V) : St := vs.map some ++ List.replicate (N.length - vs.length) none

/-- the context of a def's body, at its entry; an exception leaves the frame, then lies as CX says -/
def cxOf (CX : CXT) (P : Program) (w : World) (K : PySem.W.Frag) (mg : Str → Option Value) (base : Heap) (N : List Str) (qual : Str) (scope : Scope) (f : Addr) (cd : Value) (A : Around) (outer : List Env) (s : Shared) (H : Hp) (E : XK) : Cx where
  prog := P
  w := w
  K := K
  mg := mg
  base := base
  A := A.deeper (envOfC qual scope s.heap.objs.size f cd)
  N := N
  s₀ := s
  H₀ := H
  env := envOfC qual scope s.heap.objs.size f cd
  outer := outer
  stack := envOfC qual scope s.heap.objs.size f cd :: outer
  ex := []
  calm := true
  fn := fun _ => true
  pn := []
  xe := fun e s' => wpAny (model P w) (A.deeper (envOfC qual scope s.heap.objs.size f cd)) (leaving (envOfC qual scope s.heap.objs.size f cd) e) (fun _ s'' => CX outer H s E e s'') (fun e' s'' => CX outer H s E e' s'') s'

theorem cell_has {sc : Scope} {n : Nat} {x : Str} (h : sc.names.lookup x = some .cell) : ∃ c, (cellsFrom n sc.names []).lookup x = some c := by
  have q := PySem.W.cellsFrom_some sc.names n [] (.inl h)
  exact Option.isSome_iff_exists.mp q

theorem inv_start {CX : CXT} {P : Program} {w : World} {K : PySem.W.Frag} {mg : Str → Option Value} {base : Heap} {N ps : List Str} {qual : Str} {scope : Scope} {f : Addr} {cd : Value} {A : Around} {outer : List Env} {s s1 : Shared} {H : Hp} {E : XK} {us : List Value} {vs : List V}
    (S : FnScope N ps scope) (hd : A.handled = none) (e0 : Env0 P w K mg base A outer s H) (hl : vs.length = ps.length) (r : Vals vs us)
    (x : InCallC s s.heap.objs.size (bindL (envOfC qual scope s.heap.objs.size f cd).kindOf (ps.zip us) fun _ => none) (cellsFrom (s.heap.objs.size + 1) scope.names []) (bindC (envOfC qual scope s.heap.objs.size f cd).kindOf (ps.zip us) fun _ => none) s1) :
    Inv (cxOf CX P w K mg base N qual scope f cd A outer s H E) [] (start N vs) H s1 := by
  have hpl : ps.length ≤ N.length := by have := congrArg List.length S.pre; rw [List.length_take] at this; omega
  obtain ⟨h1, tk, rfl, hk⟩ := x.done
  have noA : ∀ b : Addr, b ∉ (cxOf CX P w K mg base N qual scope f cd A outer s H E).ex := fun b z => absurd (show b ∈ ([] : List Addr) from z) (by simp)
  refine ⟨⟨e0.mod, S.kind, rfl, rfl, Nat.le_refl _, fun y z c h1 h2 => ?_, fun y hy => ?_, fun y c _ h => ?_, fun _ => hd, Around.frames_deeper e0.frames, .inr ⟨rfl, rfl⟩, fun b z => absurd z (noA b), e0.bs, e0.bsz, fun b _ _ => noA b, fun b z => absurd z (noA b), e0.funs, e0.frf⟩,
    rfl, e0.bare, Un.kept hk, ⟨_, x.toInCall.ns, fun i y v h1 h2 h3 => ?_⟩, fun y c h => ⟨_, x.cell y c h⟩, e0.hok.fresh (Nat.le_refl _), fun y c h => ?_, fun p hp => absurd (show p ∈ ([] : List (Addr × Obj)) from hp) (by simp), e0.hok.kept hk, ?_⟩
  · exact name_of_addr x.apart (PySem.mem_of_lookup h1) (PySem.mem_of_lookup h2)
  · have hy : scope.names.lookup y = some .cell ∨ scope.names.lookup y = some .free := hy
    rcases hy with hy | hy
    · exact cell_has hy
    · exact absurd rfl (S.nofree _ (PySem.mem_of_lookup hy))
  · exact Nat.le_of_lt (x.above y c (PySem.mem_of_lookup h))
  · have hi : i < vs.length := by
      unfold start at h2
      by_cases hi : i < vs.length
      · exact hi
      · rw [List.getElem?_append_right (by simpa using hi)] at h2
        rw [List.getElem?_replicate] at h2
        split at h2 <;> cases h2
    have ha : vs[i]? = some v := by
      unfold start at h2
      rw [List.getElem?_append_left (by simpa using hi), List.getElem?_map] at h2
      cases e : vs[i]? with
      | none => rw [e] at h2; cases h2
      | some a => rw [e] at h2; cases h2; rfl
    obtain ⟨u, hu, rv⟩ := r.get ha
    have hp : ps[i]? = some y := by
      rw [← S.pre, List.getElem?_take_of_lt (by omega)]; exact h1
    have ndP : ps.Nodup := by rw [← S.pre]; exact S.nd.sublist (List.take_sublist _ _)
    refine ⟨u, rv, ?_⟩
    rcases S.par y (List.mem_of_getElem? hp) with k | k
    · exact .inl ⟨k, bindL_get ndP hp hu k⟩
    · obtain ⟨c, e⟩ := cell_has (n := s.heap.objs.size + 1) k
      refine .inr ⟨.inl k, c, e, ?_⟩
      have q := x.cell y c e
      rw [bindC_get ndP hp hu (by show scope.names.lookup y ≠ _; rw [k]; decide)] at q
      exact q
  · exact e0.hok.fresh (Nat.le_of_lt (x.above y c (PySem.mem_of_lookup h)))
  · unfold start
    show _ = N.length
    rw [List.length_append, List.length_map, List.length_replicate]
    omega

/-- THE RULE: a def (or a method) of the text, by its body. The body's reading t is chosen for each entry; it is run at the parameters' values -/
theorem fn_of {CX : CXT} {P : Program} {w : World} {K : PySem.W.Frag} {mg : Str → Option Value} {base : Heap} {k : Nat} {f : Addr} {name qual : Str} {params : Arguments} {body : List Stmt} {scope : Scope} {dV kV doc pm cdv ct oc : Value} {an od : Option Addr}
    {osl : Array (Option Value)} {N ps : List Str} {sp : Sp} (lk : K.lookup f = some ⟨oc, od, .func (PySem.W.fnOf name qual params body scope dV kV doc pm an cdv ct), osl⟩) (hcd : PySem.W.codeIn K cdv qual = true) (S : FnScope N ps scope)
    (len : ∀ vs H Q E, sp vs H Q E → vs.length = ps.length)
    (hbody : ∀ (A : Around) (outer : List Env) (s : Shared) (H : Hp) (vs : List V) (Q : VK) (E : XK), Room k (A.deeper (envOfC qual scope s.heap.objs.size f cdv)) → sp vs H Q E →
      ∃ t, PSs (cxOf CX P w K mg base N qual scope f cdv A outer s H E) body t ∧ t { nx := fun _ H' => Q .non H', rt := Q } (start N vs) H) :
    FnOk P w K mg base CX (k + 1) f (PySem.W.fnOf name qual params body scope dV kV doc pm an cdv ct) ps sp := by
  refine ⟨len, fun A outer s H args us vs Q E hr e0 hb r hsp => ?_⟩
  have hl := len _ _ _ _ hsp
  have KX : K.In s.heap := e0.mod.kin.keeps fun b o e => (e0.bs b o e).1
  have lim : s.heap.NoLimit := e0.mod.nolimit.keeps fun b o e => (e0.bs b o e).1
  have hkind : ∀ y ∈ ps.zip us, scope.names.lookup y.1 = some .local ∨ (scope.names.lookup y.1 = some .cell ∧ ((cellsFrom (s.heap.objs.size + 1) scope.names []).lookup y.1).isSome = true) := fun ⟨n, v⟩ hy => by
    rcases S.par n (List.of_mem_zip hy).1 with q | q
    · exact .inl q
    · exact .inr ⟨q, PySem.W.cellsFrom_some _ _ _ (.inl q)⟩
  refine codeAny_call_function hr.depth (KX _ _ lk) rfl S.co S.gen rfl (PySem.W.codeRec_of KX hcd) (hb _ _ _ _ ?_)
  refine wpAny_newFunctionEnv_cells S.kind hkind fun env he s1 x => ?_
  subst he
  refine ⟨lim.keeps x.toInCall.keep, codeAny_func ?_⟩
  obtain ⟨t, ht, hq⟩ := hbody A outer s H vs Q E (hr.deeper _) hsp
  have I : Inv (cxOf CX P w K mg base N qual scope f cdv A outer s H E) [] (start N vs) H s1 := inv_start S hr.hd e0 hl r x
  refine wpAny_mono (ht [] s1 (start N vs) H _ I hq) (fun fl s' hs => ?_) fun e s' hs => hs
  have fin : ∀ {σ' : St} {H' : Hp} {v : V} {u : Value}, Inv (cxOf CX P w K mg base N qual scope f cdv A outer s H E) [] σ' H' s' → RelV v u → Q v H' → CE outer P w H s Q u s' :=
    fun {σ' H' v u} J rv q => ⟨v, H', J.os, J.bare, J.base, J.hok, rv, q⟩
  cases fl with
  | ret u =>
    obtain ⟨v, σ', H', J, rv, q⟩ := hs
    exact fin J rv q
  | next =>
    obtain ⟨σ', H', J, q⟩ := hs
    exact fin (v := V.non) (u := Value.none) J rfl q
  | brk =>
    obtain ⟨_, _, _, q⟩ := hs
    exact False.elim q
  | cont =>
    obtain ⟨_, _, _, q⟩ := hs
    exact False.elim q
end L2

namespace L2
open PySem PySem.Spec PyProof.Rows
section
variable {X : Cx} {x : Str} {p pos : Pos} {e : Expr} {es : List Expr} {t : TA} {id T : String} {r : List V → Hp → VK → Prop}

def tCB (r : List V → Hp → VK → Prop) (t : TA) : TE := fun σ H Q => t σ H fun vs H1 => r vs H1 Q
/-- f(e, ..), f a built-in function -/
theorem pe_callB (hc : CallR X (.builtin id) r) (hg : Gl X x) (hm : X.mg x = none) (hv : bootBuiltins x = some (.builtin id)) (ha : PA X (e :: es) t) (hn : x ≠ "__name__" := by decide) (hdb : (x == ("__debug__" : Str)) = false := by decide)
    (he : starEach (e :: es) X.env = (false, eval e X.env) :: starEach es X.env := by rfl) (hpl : (backTo pos (starEach es X.env)).any (·.1) = false := by rfl) : PE X (.Call (.Name x p) (e :: es) [] pos) (tCB r t) := by
  intro pins s σ H Q I h
  refine wpAny_Call_Name_kw (ld_blt I hg hm hv ?_ hn hdb)
  exact PyProof.Rows.callWith_builtin1 (thn (ha pos pins s σ H _ I h) fun us s1 ⟨vs, H1, I1, r1, q1⟩ => hc pins s1 σ H1 vs us Q I1 r1 q1) he hpl
/-- T(e, ..), T a built-in type -/
theorem pe_callTy (hc : CallR X (.type T) r) (hg : Gl X x) (hm : X.mg x = none) (hv : bootBuiltins x = some (.type T)) (ha : PA X (e :: es) t) (hn : x ≠ "__name__" := by decide) (hdb : (x == ("__debug__" : Str)) = false := by decide)
    (he : starEach (e :: es) X.env = (false, eval e X.env) :: starEach es X.env := by rfl) (hpl : (backTo pos (starEach es X.env)).any (·.1) = false := by rfl) : PE X (.Call (.Name x p) (e :: es) [] pos) (tCB r t) := by
  intro pins s σ H Q I h
  refine wpAny_Call_Name_kw (ld_blt I hg hm hv ?_ hn hdb)
  exact PyProof.Rows.callWith_type1 (thn (ha pos pins s σ H _ I h) fun us s1 ⟨vs, H1, I1, r1, q1⟩ => hc pins s1 σ H1 vs us Q I1 r1 q1) he hpl
end
end L2

namespace HT
open PySem PyProof.Rows

/-- t < u of tuples of ints -/
def lexLt : List Int → List Int → Bool
  | [], [] => false
  | [], _ :: _ => true
  | _ :: _, [] => false
  | x :: xs, y :: ys => if x = y then lexLt xs ys else decide (x < y)
section
open PySem.SeqAt
open PySem.AutoSeq1 (wpAny_loadPart')
open PySem.MeetsSeq PySem.MeetsSeq2 PySem.MeetsSeq3

end

section
variable {prog : Program} {w : World} {A : Around} {E : Value → Shared → Prop} {s : Shared}

/-! ### t[a:b], not the whole -/
/-- a slice's bound as a place among n (d where it is left out) -/
def sIx (n d : Nat) : Option Int → Nat
  | none => d
  | some v => if v < 0 then (v + (n : Int)).toNat else min v.toNat n
theorem sIx_none (n d : Nat) : sIx n d none = d := rfl
theorem sIx_nat (n d k : Nat) : sIx n d (some (k : Int)) = min k n := by
  show (if (k : Int) < 0 then ((k : Int) + (n : Int)).toNat else min (k : Int).toNat n) = min k n
  rw [if_neg (by omega), Int.toNat_natCast]
end
end HT

namespace L2
open PySem PySem.Spec PyProof.Rows

/-! ### the parts of a slice -/
abbrev TO := St → Hp → (Option Int → Hp → Prop) → Prop
/-- a slice's part (left out, or an int) -/
def PO (X : Cx) (e : Option Expr) (t : TO) : Prop :=
  ∀ (pins : List (Addr × Obj)) (s : Shared) (σ : St) (H : Hp) (Q : Option Int → Hp → Prop), Inv X pins σ H s → t σ H Q →
    wpAny (model X.prog X.w) X.A (evalPart e X.env) (fun u s' => ∃ o H', Inv X pins σ H' s' ∧ IsPart u o ∧ Q o H') X.xe s
def tNoPart : TO := fun _ H Q => Q none H
def tPart (t : TE) : TO := fun σ H Q => t σ H fun x H1 => ∃ i, x = .int i ∧ Q (some i) H1

section
variable {X : Cx} {e : Expr} {te : TE} {lo hi : Option Expr} {tl th : TO} {pos p2 : Pos}

theorem po_none : PO X none tNoPart := by
  intro pins s σ H Q I h
  rw [evalPart_none]
  exact wpAny_pure ⟨none, H, I, .none, h⟩
theorem po_some (h : PE X e te) : PO X (some e) (tPart te) := by
  intro pins s σ H Q I hw
  rw [evalPart_some]
  refine thn (h pins s σ H _ I hw) fun u s1 ⟨x, H1, I1, r1, q1⟩ => ?_
  obtain ⟨i, rfl, q⟩ := q1
  obtain ⟨t, rfl⟩ := r1
  exact ⟨some i, H1, I1, .int i t, q⟩

/-- what a slice of a value is, by values: the slice object stands at sl -/
def SlR (X : Cx) (r : V → Option Int → Option Int → Hp → VK → Prop) : Prop :=
  ∀ (pins : List (Addr × Obj)) (s : Shared) (σ : St) (H : Hp) (x : V) (v vl vu : Value) (lo hi : Option Int) (sl : Addr) (Q : VK), Inv X pins σ H s → RelV x v → s.heap.IsSliceOf sl vl vu .none → IsPart vl lo → IsPart vu hi → r x lo hi H Q →
    ∃ T id, typeLookup (.type T) "__getitem__" = pure (some (.builtin id)) ∧ s.TypeIs v T ∧ wpAny (model X.prog X.w) X.A (getItem v (.ref sl)) (EP X pins σ Q) X.xe s
def tSl (r : V → Option Int → Option Int → Hp → VK → Prop) (te : TE) (tl th : TO) : TE := fun σ H Q => te σ H fun x H1 => tl σ H1 fun l H2 => th σ H2 fun u H3 => r x l u H3 Q
/-- a[lo:hi], any a -/
theorem pe_slice {r : V → Option Int → Option Int → Hp → VK → Prop} (hr : SlR X r) (he : PE X e te) (hl : PO X lo tl) (hu : PO X hi th) : PE X (.Subscript e (.Slice lo hi none p2) pos) (tSl r te tl th) := by
  intro pins s σ H Q I h
  refine Subscript_ (thn (he pins s σ H _ I h) fun v s1 ⟨x, H1, I1, r1, q1⟩ => ?_)
  refine wpAny_Slice (thn (hl pins s1 σ H1 _ I1 q1) fun vl s2 ⟨l, H2, I2, pl, q2⟩ => thn (hu pins s2 σ H2 _ I2 q2) fun vu s3 ⟨u, H3, I3, pu, q3⟩ => ?_)
  rw [evalPart_none]
  refine wpAny_pure ?_
  have I4 : Inv X pins σ H3 { s3 with heap := s3.heap.push { cls := .type "slice", data := .fields #[vl, vu, .none] } } := I3.kept (t' := s3.toks) fun b ob q => Heap.get?_push_of_some _ q
  obtain ⟨T, id, hT, ht, hg⟩ := hr pins { s3 with heap := s3.heap.push { cls := .type "slice", data := .fields #[vl, vu, .none] } } σ H3 x v vl vu l u s3.heap.objs.size Q I4 r1 (Heap.IsSliceOf.new ..) pl pu q3
  show wpAny (model X.prog X.w) X.A (subscriptTail e (.Slice lo hi none p2) v (.ref s3.heap.objs.size)) (EP X pins σ Q) X.xe { s3 with heap := s3.heap.push { cls := .type "slice", data := .fields #[vl, vu, .none] } }
  exact tail_any (ops := [.ref s3.heap.objs.size, v]) ht hT hg (by with_unfolding_all rfl)

/-- the items of xs[lo:hi] -/
def cutV (xs : List V) (lo hi : Option Int) : List V := (xs.drop (HT.sIx xs.length 0 lo)).take (HT.sIx xs.length xs.length hi - HT.sIx xs.length 0 lo)
theorem cutV_length (xs : List V) (lo hi : Option Int) : (cutV xs lo hi).length ≤ xs.length := by
  unfold cutV
  rw [List.length_take, List.length_drop]
  omega
/-- t[lo:hi], not the whole of it (the whole would be t itself) -/
def rSlT (K : PySem.W.Frag) : V → Option Int → Option Int → Hp → VK → Prop := fun x lo hi H Q => ∃ a xs, x = .ref a ∧ SqT K H a xs ∧
  ¬ (HT.sIx xs.length 0 lo = 0 ∧ HT.sIx xs.length xs.length hi = xs.length) ∧ ∀ p, H p = none → Q (.ref p) (upd H p (.tup (cutV xs lo hi)))
/-! ### t < u, t + u -/
def rLtT (K : PySem.W.Frag) : R2 := fun x y H Q => ∃ a b ns ms, x = .ref a ∧ y = .ref b ∧ SqT K H a (ns.map V.int) ∧ SqT K H b (ms.map V.int) ∧ Q (.bl (HT.lexLt ns ms)) H
/-- t + u, t not empty: u empty gives t itself -/
def rCatT (K : PySem.W.Frag) : R2 := fun x y H Q => ∃ a b xs ys, x = .ref a ∧ y = .ref b ∧ SqT K H a xs ∧ SqT K H b ys ∧ xs ≠ [] ∧ xs.length + ys.length ≤ sizeLine ∧
  (ys = [] → Q (.ref a) H) ∧ (ys ≠ [] → ∀ p, H p = none → Q (.ref p) (upd H p (.tup (xs ++ ys))))
end
end L2

namespace L2
open PySem PySem.Spec PyProof.Rows

/-! ### places -/
/-- the place that an index of any sign means -/
def ixN (n : Nat) (i : Int) : Option Nat := if 0 ≤ i then (if i < n then some i.toNat else none) else if -(n : Int) ≤ i then some (i + n).toNat else none
def atI {α : Type} (xs : List α) (i : Int) : Option α := (ixN xs.length i).bind fun j => xs[j]?
theorem ixN_seq {n : Nat} {i : Int} {j : Nat} (h : ixN n i = some j) : seqIndex? i n = some j ∧ j < n ∧ -(n : Int) ≤ i ∧ i < n := by
  unfold ixN at h
  by_cases h0 : 0 ≤ i
  · rw [if_pos h0] at h
    by_cases h1 : i < n
    · rw [if_pos h1] at h
      have e : i.toNat = j := Option.some.inj h
      exact ⟨by rw [seqIndex_of h0 h1, e], by omega, by omega, h1⟩
    · rw [if_neg h1] at h; cases h
  · rw [if_neg h0] at h
    by_cases h1 : -(n : Int) ≤ i
    · rw [if_pos h1] at h
      have e : (i + n).toNat = j := Option.some.inj h
      exact ⟨by rw [seqIndex_neg (by omega) h1, e], by omega, h1, by omega⟩
    · rw [if_neg h1] at h; cases h
theorem atI_get {α : Type} {xs : List α} {i : Int} {v : α} (h : atI xs i = some v) : ∃ j, seqIndex? i xs.length = some j ∧ xs[j]? = some v ∧ j < xs.length ∧ -(xs.length : Int) ≤ i ∧ i < xs.length := by
  unfold atI at h
  cases e : ixN xs.length i with
  | none => rw [e] at h; cases h
  | some j =>
    rw [e] at h
    obtain ⟨h1, h2, h3, h4⟩ := ixN_seq e
    exact ⟨j, h1, h, h2, h3, h4⟩
theorem atI_nat {α : Type} {xs : List α} {j : Nat} {v : α} (h : xs[j]? = some v) : atI xs (j : Int) = some v := by
  have hj : j < xs.length := (List.getElem?_eq_some_iff.mp h).1
  have e : ixN xs.length (j : Int) = some j := by
    unfold ixN
    rw [if_pos (by omega), if_pos (by omega)]; simp
  unfold atI; rw [e]; exact h
theorem atI_last {α : Type} (xs : List α) (v : α) : atI (xs ++ [v]) (-1) = some v := by
  have hl : (xs ++ [v]).length = xs.length + 1 := by simp
  have e : ixN (xs ++ [v]).length (-1) = some xs.length := by
    unfold ixN
    rw [hl, if_neg (by decide), if_pos (by omega)]
    congr 1
    omega
  unfold atI
  rw [e]
  show (xs ++ [v])[xs.length]? = some v
  simp

/-! ### what may be subscripted -/
/-- what stands as an index of a plain subscript -/
def PlainIx (b : Expr) : Prop := ∀ o i, subscripted b false o i = operate [o, i] (getItem o i)
/-- a subscript by values -/
def IxR (X : Cx) (r : R2) : Prop :=
  ∀ (value slice : Expr) (pins : List (Addr × Obj)) (s : Shared) (σ : St) (H : Hp) (x y : V) (v u : Value) (Q : VK), Inv X pins σ H s → RelV x v → RelV y u → r x y H Q →
    subscripted slice false v u = operate [v, u] (getItem v u) → wpAny (model X.prog X.w) X.A (subscriptTail value slice v u) (EP X pins σ Q) X.xe s
/-- a call of a builtin's method by values: the receiver, the arguments -/
def MtR (X : Cx) (id : String) (r : V → List V → Hp → VK → Prop) : Prop :=
  ∀ (pins : List (Addr × Obj)) (s : Shared) (σ : St) (H : Hp) (x : V) (xs : List V) (v : Value) (us : List Value) (Q : VK), Inv X pins σ H s → RelV x v → Vals xs us → r x xs H Q →
    wpAny (model X.prog X.w) X.A (call (.builtin id) (v :: us)) (EP X pins σ Q) X.xe s
section
variable {X : Cx} {a b : Expr} {ta tb : TE} {pos : Pos}
/-- a[b] -/
theorem pe_ix {r : R2} (hr : IxR X r) (ha : PE X a ta) (hb : PE X b tb) (hs : PlainIx b) : PE X (.Subscript a b pos) (tOp r ta tb) := by
  intro pins s σ H Q I h
  exact Subscript_ (binT ha hb I h fun v u s2 x y H2 I2 rx ry q => hr a b pins s2 σ H2 x y v u Q I2 rx ry q (hs _ _))

def rIxL (K : PySem.W.Frag) : R2 := fun x y H Q => ∃ p xs i v, x = .ref p ∧ y = .int i ∧ SqL K H p xs ∧ atI xs i = some v ∧ Q v H
def rIxT (K : PySem.W.Frag) : R2 := fun x y H Q => ∃ p xs i v, x = .ref p ∧ y = .int i ∧ SqT K H p xs ∧ atI xs i = some v ∧ Q v H
def rIxS : R2 := fun x y H Q => ∃ z i c, x = .str z ∧ y = .int i ∧ z.length ≤ sizeLine ∧ atI z.cps.toList i = some c ∧ Q (.str ⟨#[c]⟩) H
theorem ix_list : IxR X (rIxL X.K) := by
  intro value slice pins s σ H x y v u Q I rx ry h hs
  obtain ⟨p, xs, i, z, rfl, rfl, hq, he, q⟩ := h
  cases rx
  obtain ⟨t, rfl⟩ := ry
  obtain ⟨its, r, pl, hz⟩ := I.list hq
  obtain ⟨j, h1, h2, h3, h4, h5⟩ := atI_get he
  obtain ⟨w, ew, rw'⟩ := r.get h2
  have hl := r.length
  have hn := line63
  have fin : EP X pins σ Q w s := ⟨z, H, I, rw', q⟩
  by_cases h0 : 0 ≤ i
  · have hj : i.toNat = j := by
      rw [seqIndex_of h0 h5] at h1
      exact Option.some.inj h1
    exact item_listR pl.isList h0 (by omega) (by rw [hj]; simpa using ew) fin hs
  · have hj : (i + (its.toArray.size : Int)).toNat = j := by
      rw [seqIndex_neg (by omega) h4] at h1
      rw [List.size_toArray, ← hl]
      exact Option.some.inj h1
    exact subscriptTail_builtinR (x := w) pl.isList.typeIs slot_list_getitem.lookup
      (wpAny_getItem_list_neg (Q := fun r s' => r = w ∧ EP X pins σ Q r s') pl.isList (by omega) (by rw [List.size_toArray] <;> omega) (by omega) (by rw [hj]; simpa using ew) ⟨rfl, fin⟩) hs
theorem ix_tup : IxR X (rIxT X.K) := by
  intro value slice pins s σ H x y v u Q I rx ry h hs
  obtain ⟨p, xs, i, z, rfl, rfl, hq, he, q⟩ := h
  cases rx
  obtain ⟨t, rfl⟩ := ry
  obtain ⟨its, r, pl, hz⟩ := I.tuple hq
  obtain ⟨j, h1, h2, h3, h4, h5⟩ := atI_get he
  obtain ⟨w, ew, rw'⟩ := r.get h2
  have hl := r.length
  have hn := line63
  have fin : EP X pins σ Q w s := ⟨z, H, I, rw', q⟩
  exact subscriptTail_builtinR (x := w) pl.typeIs slot_tuple_getitem.lookup
    (getItem_tuple (j := j) (Q := fun r s' => r = w ∧ EP X pins σ Q r s') pl (by omega) (by omega) (by rw [List.size_toArray, ← hl]; exact h1) (by simpa using ew) ⟨rfl, fin⟩) hs
theorem ix_str : IxR X rIxS := by
  intro value slice pins s σ H x y v u Q I rx ry h hs
  obtain ⟨z, i, c, rfl, rfl, hz, he, q⟩ := h
  obtain ⟨t, rfl⟩ := rx
  obtain ⟨t', rfl⟩ := ry
  obtain ⟨j, h1, h2, h3, h4, h5⟩ := atI_get he
  have hl : z.cps.toList.length = z.length := by simp [Str.length]
  rw [hl] at h1 h4 h5
  have hn := line63
  exact tail_any (typeIs_str s z t) slot_str_getitem.lookup (getItem_str (c := c) (by
    have e1 : decide (i < -(2 ^ 63 : Int)) = false := decide_eq_false (by omega)
    have e2 : decide (i ≥ 2 ^ 63) = false := decide_eq_false (by omega)
    rw [e1, e2, Bool.or_false]) (by rw [h1]; simpa using h2) ⟨.str ⟨#[c]⟩, H, I.tok _, ⟨_, rfl⟩, q⟩) hs
/-- list, tuple or str -/
def rIx (K : PySem.W.Frag) : R2 := fun x y H Q => rIxL K x y H Q ∨ rIxT K x y H Q ∨ rIxS x y H Q
/-! ### xs[i] = v, any sign -/
/-- the list's object behind a store -/
theorem mapSeq_set (its : List Value) (n j : Nat) (u : Value) : Obj.mapSeq (·.setIfInBounds j u) { cls := .type "list", data := .seq its.toArray n } = { cls := .type "list", data := .seq (its.set j u).toArray n } := by
  simp [Obj.mapSeq]
theorem Inv.lst {pins : List (Addr × Obj)} {σ : St} {H : Hp} {s : Shared} {p : Addr} {xs : List V} (I : Inv X pins σ H s) (h : H p = some (.lst xs)) :
    ∃ (its : List Value) (n : Nat), Vals xs its ∧ s.heap.get? p = some { cls := .type "list", data := .seq its.toArray n } ∧ xs.length ≤ sizeLine := by
  obtain ⟨z, its, n, r, e⟩ := I.hok p _ h
  exact ⟨its, n, r, e, z⟩
/-- the list at p is written by an update of its object -/
theorem Inv.lstUpd {pins : List (Addr × Obj)} {σ : St} {H : Hp} {s : Shared} {p : Addr} {xs ys : List V} {its its' : List Value} {n n' : Nat} {f : Obj → Obj} (I : Inv X pins σ H s) (h : H p = some (.lst xs))
    (ho : s.heap.get? p = some { cls := .type "list", data := .seq its.toArray n }) (hf : f { cls := .type "list", data := .seq its.toArray n } = { cls := .type "list", data := .seq its'.toArray n' }) (r : Vals ys its') (hz : ys.length ≤ sizeLine) (t : Nat) :
    Inv X pins σ (upd H p (.lst ys)) { s with heap := s.heap.update p f, toks := t } := by
  have e : (s.heap.update p f).get? p = some { cls := .type "list", data := .seq its'.toArray n' } := by
    rw [Heap.get?_update_self f ho (by rw [hf] <;> rfl), hf]
  refine I.write (x := p) (e := p) (by rw [h]; trivial) (.inl rfl) (fun b u hb q => (Heap.get?_update_other _ _ (Ne.symm hb)).trans q) ⟨_, e⟩ ?_
  exact ⟨hz, its', n', r, e⟩
def rSetL : V → V → V → Hp → (Hp → Prop) → Prop := fun o i v H Q => ∃ p xs k j, o = .ref p ∧ i = .int k ∧ H p = some (.lst xs) ∧ ixN xs.length k = some j ∧ Q (upd H p (.lst (xs.set j v)))
theorem set_list : PSet X rSetL := by
  intro pins s σ H o i v ov iv u Q I ro ri rv h
  obtain ⟨p, xs, k, j, rfl, rfl, hp, hj, q⟩ := h
  cases ro
  obtain ⟨t, rfl⟩ := ri
  obtain ⟨its, n, r, ho, hz⟩ := I.lst hp
  obtain ⟨h1, h2, h3, h4⟩ := ixN_seq hj
  have hl := r.length
  have hn := line63
  have I' : Inv X pins σ (upd H p (.lst (xs.set j v))) { s with heap := s.heap.update p (Obj.mapSeq (·.setIfInBounds j u)) } :=
    I.lstUpd hp ho (mapSeq_set its n j u) (r.set rv j) (by rw [List.length_set]; exact hz) s.toks
  by_cases h0 : 0 ≤ k
  · have hk : k.toNat = j := by
      rw [seqIndex_of h0 h4] at h1
      exact Option.some.inj h1
    exact PySem.W.ki_setAt ho h0 (by omega) (by rw [List.size_toArray, ← hl]; exact h4) (by rw [hk]; exact ⟨_, I', q⟩)
  · have hk : (k + (its.toArray.size : Int)).toNat = j := by
      rw [seqIndex_neg (by omega) h3] at h1
      rw [List.size_toArray, ← hl]
      exact Option.some.inj h1
    exact PySem.W.ki_setBack ho (by omega) (by rw [List.size_toArray, ← hl]; exact h3) (by omega) (by rw [hk]; exact ⟨_, I', q⟩)

/-! ### slices -/
theorem slice_bounds (lo hi : Option Int) (n : Nat) : (sliceBounds lo hi none n).1 = ((HT.sIx n 0 lo : Nat) : Int) ∧ (sliceBounds lo hi none n).2.1 = ((HT.sIx n n hi : Nat) : Int) ∧ (sliceBounds lo hi none n).2.2 = 1 := by
  refine ⟨?_, ?_, rfl⟩
  · cases lo with
    | none => simp [sliceBounds, HT.sIx]
    | some i =>
      simp only [sliceBounds, HT.sIx, Option.getD_none, show (1 : Int) > 0 by decide, if_true]
      by_cases h : i < 0
      · simp only [h, if_true] <;> omega
      · simp only [h, if_false] <;> omega
  · cases hi with
    | none => simp [sliceBounds, HT.sIx]
    | some i =>
      simp only [sliceBounds, HT.sIx, Option.getD_none, show (1 : Int) > 0 by decide, if_true]
      by_cases h : i < 0
      · simp only [h, if_true] <;> omega
      · simp only [h, if_false] <;> omega
theorem slicePick_cut (its : List Value) (lo hi : Option Int) : slicePick its.toArray lo hi none = ((its.drop (HT.sIx its.length 0 lo)).take (HT.sIx its.length its.length hi - HT.sIx its.length 0 lo)).toArray := by
  obtain ⟨h1, h2, h3⟩ := slice_bounds lo hi its.toArray.size
  unfold slicePick
  rw [h1, h2, h3]
  simp only [sliceRange_one, pick_run, List.size_toArray] <;> rfl
/-- xs[lo:hi] of a list: a new list -/
def rSlL (K : PySem.W.Frag) : V → Option Int → Option Int → Hp → VK → Prop := fun x lo hi H Q => ∃ a xs, x = .ref a ∧ SqL K H a xs ∧ ∀ p, H p = none → Q (.ref p) (upd H p (.lst (cutV xs lo hi)))
theorem sl_list : SlR X (rSlL X.K) := by
  intro pins s σ H x v vl vu lo hi sl Q I rx hs pl pu h
  obtain ⟨a, xs, rfl, hx, q⟩ := h
  cases rx
  obtain ⟨its, r, ht, hz⟩ := I.list hx
  have hlen := r.length
  refine ⟨"list", _, slot_list_getitem.lookup, ht.isList.typeIs, ?_⟩
  refine wpAny_getItem_list_slice ht.isList hs pl pu .none (by simp) ?_ (by rw [List.size_toArray] <;> omega)
  rw [slicePick_cut, ← hlen]
  refine ⟨.ref s.heap.objs.size, _, I.laid (t' := s.toks) (o := .lst (cutV xs lo hi)) (fun b ob q => Heap.get?_push_of_some _ q) (Nat.le_refl _) ?_, rfl, q _ (I.hok.fresh (Nat.le_refl _))⟩
  exact ⟨Nat.le_trans (cutV_length xs lo hi) hz, _, 0, (r.drop (HT.sIx xs.length 0 lo)).take (HT.sIx xs.length xs.length hi - HT.sIx xs.length 0 lo), Heap.get?_push_size _ rfl⟩

/-! ### in, not in: flat items -/
def flatV : V → Bool
  | .non => true
  | .bl _ => true
  | .int _ => true
  | .str _ => true
  | _ => false
/-- == of flat values -/
def eqV : V → V → Bool
  | .non, .non => true
  | .bl a, .bl b => a == b
  | .bl a, .int b => (if a then 1 else 0) == b
  | .int a, .bl b => a == (if b then 1 else 0)
  | .int a, .int b => a == b
  | .str a, .str b => a == b
  | _, _ => false
theorem eqAt_V {A : Around} {s : Shared} {y x : V} {u v : Value} (ry : RelV y u) (rx : RelV x v) (fy : flatV y = true) (fx : flatV x = true) : SeqAt.EqAt A s u v (eqV y x) := by
  cases y with
  | non =>
    cases ry
    cases x with
    | non => cases rx; exact SeqAt.EqAt.same _
    | bl b => cases rx; exact SeqAt.EqAt.none_bool b
    | int b => obtain ⟨t, rfl⟩ := rx; exact SeqAt.EqAt.none_int b t
    | str b => obtain ⟨t, rfl⟩ := rx; exact SeqAt.EqAt.none_str b t
    | _ => exact absurd (show false = true from fx) Bool.false_ne_true
  | bl a =>
    cases ry
    cases x with
    | non => cases rx; exact SeqAt.EqAt.bool_none a
    | bl b => cases rx; exact SeqAt.EqAt.bool_bool a b
    | int b => obtain ⟨t, rfl⟩ := rx; exact SeqAt.EqAt.bool_int a b t
    | str b => obtain ⟨t, rfl⟩ := rx; exact SeqAt.EqAt.bool_str a b t
    | _ => exact absurd (show false = true from fx) Bool.false_ne_true
  | int a =>
    obtain ⟨t', rfl⟩ := ry
    cases x with
    | non => cases rx; exact SeqAt.EqAt.int_none a t'
    | bl b => cases rx; exact SeqAt.EqAt.int_bool a t' b
    | int b => obtain ⟨t, rfl⟩ := rx; exact SeqAt.EqAt.int_int a t' b t
    | str b => obtain ⟨t, rfl⟩ := rx; exact SeqAt.EqAt.int_str a t' b t
    | _ => exact absurd (show false = true from fx) Bool.false_ne_true
  | str a =>
    obtain ⟨t', rfl⟩ := ry
    cases x with
    | non => cases rx; exact SeqAt.EqAt.str_none a t'
    | bl b => cases rx; exact SeqAt.EqAt.str_bool a t' b
    | int b => obtain ⟨t, rfl⟩ := rx; exact SeqAt.EqAt.str_int a t' b t
    | str b => obtain ⟨t, rfl⟩ := rx; exact SeqAt.EqAt.str_str a t' b t
    | _ => exact absurd (show false = true from fx) Bool.false_ne_true
  | _ => exact absurd (show false = true from fy) Bool.false_ne_true
/-- the items' answers, read off the values (a value's own answer does not lean on its token) -/
def eqU (x : V) (u : Value) : Bool := match u with
  | .none => eqV .non x
  | .bool b => eqV (.bl b) x
  | .int i _ => eqV (.int i) x
  | .str z _ => eqV (.str z) x
  | _ => false
theorem eqU_of {x y : V} {u : Value} (r : RelV y u) (f : flatV y = true) : eqU x u = eqV y x := by
  cases y with
  | non => cases r; rfl
  | bl b => cases r; rfl
  | int i => obtain ⟨t, rfl⟩ := r; rfl
  | str z => obtain ⟨t, rfl⟩ := r; rfl
  | _ => exact absurd (show false = true from f) Bool.false_ne_true
theorem any_eqU {x : V} : ∀ {xs : List V} {us : List Value}, Vals xs us → xs.all flatV = true → us.any (eqU x) = xs.any fun y => eqV y x
  | _, _, .nil, _ => rfl
  | y :: xs, u :: us, .cons r t, f => by
    rw [List.all_cons, Bool.and_eq_true] at f
    rw [List.any_cons, List.any_cons, eqU_of r f.1, any_eqU t f.2]
theorem mem_eqAt {A : Around} {s : Shared} {x : V} {v : Value} (rx : RelV x v) (fx : flatV x = true) : ∀ {xs : List V} {us : List Value}, Vals xs us → xs.all flatV = true → ∀ u ∈ us, SeqAt.EqAt A s u v (eqU x u)
  | _, _, .nil, _ => fun u hu => by cases hu
  | y :: xs, u :: us, .cons r t, f => fun u' hu => by
    rw [List.all_cons, Bool.and_eq_true] at f
    rcases List.mem_cons.mp hu with rfl | hu
    · rw [eqU_of r f.1]; exact eqAt_V r rx f.1 fx
    · exact mem_eqAt rx fx t f.2 u' hu
def inV (x : V) (xs : List V) : Bool := xs.any fun y => eqV y x
/-- x in a list or tuple of flat items -/
def rIn (K : PySem.W.Frag) (neg : Bool) : R2 := fun x y H Q => ∃ p xs, y = .ref p ∧ (SqL K H p xs ∨ SqT K H p xs) ∧ flatV x = true ∧ xs.all flatV = true ∧ Q (.bl (if neg then !inV x xs else inV x xs)) H
theorem op_in_seq : OpR X (compareOp .In) (rIn X.K false) := by
  intro pins s σ H x y v u Q I rx ry h
  obtain ⟨p, xs, rfl, hq, fx, fs, q⟩ := h
  cases ry
  rcases hq with hq | hq
  · obtain ⟨its, r, pl, hz⟩ := I.list hq
    refine SeqAt.in_listAt (eqU x) pl.isList (fun w hw => mem_eqAt rx fx r fs w (by simpa using hw)) ⟨.bl _, H, I, rfl, ?_⟩
    rw [show its.toArray.any (eqU x) = its.any (eqU x) by simp, any_eqU r fs]
    exact q
  · obtain ⟨its, r, pl, hz⟩ := I.tuple hq
    refine SeqAt.in_tupleAt (eqU x) pl (fun w hw => mem_eqAt rx fx r fs w (by simpa using hw)) ⟨.bl _, H, I, rfl, ?_⟩
    rw [show its.toArray.any (eqU x) = its.any (eqU x) by simp, any_eqU r fs]
    exact q
theorem op_notIn_seq : OpR X (compareOp .NotIn) (rIn X.K true) := by
  intro pins s σ H x y v u Q I rx ry h
  obtain ⟨p, xs, rfl, hq, fx, fs, q⟩ := h
  cases ry
  rcases hq with hq | hq
  · obtain ⟨its, r, pl, hz⟩ := I.list hq
    refine SeqAt.notIn_listAt (eqU x) pl.isList (fun w hw => mem_eqAt rx fx r fs w (by simpa using hw)) ⟨.bl _, H, I, rfl, ?_⟩
    rw [show its.toArray.any (eqU x) = its.any (eqU x) by simp, any_eqU r fs]
    exact q
  · obtain ⟨its, r, pl, hz⟩ := I.tuple hq
    refine SeqAt.notIn_tupleAt (eqU x) pl (fun w hw => mem_eqAt rx fx r fs w (by simpa using hw)) ⟨.bl _, H, I, rfl, ?_⟩
    rw [show its.toArray.any (eqU x) = its.any (eqU x) by simp, any_eqU r fs]
    exact q
/-! ### len, list(x), tuple(x) of any list or tuple that is read -/
theorem call_len_seq : CallR X (.builtin "len") (fun xs H Q => ∃ p ys, xs = [.ref p] ∧ (SqL X.K H p ys ∨ SqT X.K H p ys) ∧ Q (.int ys.length) H) := by
  intro pins s σ H xs us Q I r h
  obtain ⟨p, ys, rfl, hq, q⟩ := h
  obtain ⟨u, rfl, rx⟩ := vals1 r
  cases rx
  have hn := line63
  rcases hq with hq | hq
  · obtain ⟨its, r', pl, hz⟩ := I.list hq
    have hlen := r'.length
    exact Calls.call_len_list pl.isList (by simp only [List.size_toArray] <;> omega) ⟨.int ys.length, H, I.tok _, ⟨s.toks + 1, by rw [List.size_toArray, hlen]⟩, q⟩
  · obtain ⟨its, r', pl, hz⟩ := I.tuple hq
    have hlen := r'.length
    exact len_tuple pl (by simp only [List.size_toArray] <;> omega) ⟨.int ys.length, H, I.tok _, ⟨s.toks + 1, by rw [List.size_toArray, hlen]⟩, q⟩
theorem call_list_of : CallR X (.type "list") (fun xs H Q => ∃ p ys, xs = [.ref p] ∧ (SqL X.K H p ys ∨ SqT X.K H p ys) ∧ ∀ l, H l = none → Q (.ref l) (upd H l (.lst ys))) := by
  intro pins s σ H xs us Q I r h
  obtain ⟨p, ys, rfl, hq, q⟩ := h
  obtain ⟨u, rfl, rx⟩ := vals1 r
  cases rx
  have fin : ∀ (its : List Value), Vals ys its → ys.length ≤ sizeLine → ∀ (h' : Heap) (c' : Nat), (∀ b o', s.heap.get? b = some o' → h'.get? b = some o') →
      h'.get? s.heap.objs.size = some { cls := .type "list", dict := none, data := .seq its.toArray c', slots := #[] } → EP X pins σ Q (.ref s.heap.objs.size) { s with heap := h' } := fun its r' hz h' c' kp e =>
    ⟨.ref s.heap.objs.size, _, I.laid (t' := s.toks) kp (Nat.le_refl _) (show ObjOk X.prog X.w _ h' _ (.lst ys) from ⟨hz, its, c', r', e⟩), rfl, q _ (I.hok.fresh (Nat.le_refl _))⟩
  rcases hq with hq | hq
  · obtain ⟨its, r', pl, hz⟩ := I.list hq
    have hlen := r'.length
    obtain ⟨o, ho, hc, n, hd⟩ := pl.isList
    exact call_list_seq p (.inl rfl) ho hc hd (fun h' c' kp e => fin its r' hz h' c' kp e) (by simp only [List.size_toArray] <;> omega)
  · obtain ⟨its, r', pl, hz⟩ := I.tuple hq
    have hlen := r'.length
    obtain ⟨o, ho, hc, n, hd⟩ := pl
    exact call_list_seq p (.inr rfl) ho hc hd (fun h' c' kp e => fin its r' hz h' c' kp e) (by simp only [List.size_toArray] <;> omega)
/-! ### the call of a builtin's method: o.m(..) -/
/-- the value is of that builtin type -/
def tyV (K : PySem.W.Frag) (T : String) (x : V) (H : Hp) : Prop := match x with
  | .str _ => T = "str"
  | .int _ => T = "int"
  | .ref p => (T = "list" ∧ ∃ xs, SqL K H p xs) ∨ (T = "tuple" ∧ ∃ o, K.lookup p = some o ∧ o.cls = .type "tuple" ∧ o.dict = none) ∨
      (T = "dict" ∧ ((∃ kvs, H p = some (.dK kvs)) ∨ ∃ kvs, H p = some (.dT kvs))) ∨ (T = "set" ∧ ∃ S n, H p = some (.set S n))
  | _ => False
theorem tyV_is {pins : List (Addr × Obj)} {σ : St} {H : Hp} {s : Shared} {T : String} {x : V} {v : Value} (I : Inv X pins σ H s) (r : RelV x v) (ty : tyV X.K T x H) :
    s.TypeIs v T ∧ ∀ a, v = .ref a → ∃ ob, s.heap.get? a = some ob ∧ ob.dict = none := by
  cases x with
  | str z =>
    obtain ⟨t, rfl⟩ := r
    cases (show T = "str" from ty)
    exact ⟨typeIs_str s z t, fun _ e => nomatch e⟩
  | int i =>
    obtain ⟨t, rfl⟩ := r
    cases (show T = "int" from ty)
    exact ⟨typeIs_int s i t, fun _ e => nomatch e⟩
  | ref p =>
    cases r
    rcases ty with ⟨rfl, xs, hq⟩ | ⟨rfl, o, hk, hc, hd⟩ | ⟨rfl, hk⟩ | ⟨rfl, S, n, hk⟩
    · obtain ⟨its, _, pl, _⟩ := I.list hq
      refine ⟨pl.isList.typeIs, fun a e => ?_⟩
      cases e
      obtain ⟨o, n, e, c, hd, _⟩ := pl
      exact ⟨o, e, hd⟩
    · refine ⟨⟨o, I.kIn p o hk, hc⟩, fun a e => ?_⟩
      cases e
      exact ⟨o, I.kIn _ o hk, hd⟩
    · have z : ∃ o, s.heap.get? p = some o ∧ o.ExactDict := by
        rcases hk with ⟨kvs, hk⟩ | ⟨kvs, hk⟩
        · obtain ⟨_, _, _, _, o, _, _, e, ex, _⟩ := I.hok p _ hk
          exact ⟨o, e, ex⟩
        · obtain ⟨_, _, _, _, o, _, _, e, ex, _⟩ := I.hok p _ hk
          exact ⟨o, e, ex⟩
      obtain ⟨o, e, ex⟩ := z
      refine ⟨⟨o, e, ex.1⟩, fun a e2 => ?_⟩
      cases e2
      exact ⟨o, e, ex.2.1⟩
    · obtain ⟨o, _, _, _, e, ex, _⟩ := I.hok p _ hk
      refine ⟨⟨o, e, ex.1⟩, fun a e2 => ?_⟩
      cases e2
      exact ⟨o, e, ex.2.1⟩
  | _ => exact False.elim ty
def tBM0 (K : PySem.W.Frag) (T : String) (r : V → List V → Hp → VK → Prop) (to : TE) : TE := fun σ H Q => to σ H fun x H1 => tyV K T x H1 ∧ r x [] H1 Q
def tBM (K : PySem.W.Frag) (T : String) (r : V → List V → Hp → VK → Prop) (to : TE) (t : TA) : TE := fun σ H Q => to σ H fun x H1 => tyV K T x H1 ∧ t σ H1 fun xs H2 => r x xs H2 Q
variable {o e : Expr} {es : List Expr} {to : TE} {t : TA} {name : Str} {apos cpos : Pos} {T id : String} {r : V → List V → Hp → VK → Prop}
theorem pe_bm0 (pa : PlainAttrs T) (slot : Slot T name id) (hty : typeOf (.builtin id) = pure (.type "method_descriptor")) (hm : MtR X id r) (ho : PE X o to)
    (hbase : attributeBase o name X.env (eval o X.env) = eval o X.env := by rfl) (hline : (apos.endLine == cpos.line) = true := by rfl) : PE X (.Call (.Attribute o name apos) [] [] cpos) (tBM0 X.K T r to) := by
  intro pins s σ H Q I h
  refine wpAny_Call_method0_late hbase hline (thn (ho pins s σ H _ I h) fun v s1 ⟨x, H1, I1, r1, ty, q1⟩ => ?_)
  obtain ⟨h1, h2⟩ := tyV_is I1 r1 ty
  exact ⟨T, id, pa, slot, hty, h1, h2, Calls.callWith_builtin rfl (PySem.evalArgs_none (hm pins s1 σ H1 x [] v [] Q I1 r1 .nil q1))⟩
theorem pe_bm (pa : PlainAttrs T) (slot : Slot T name id) (hty : typeOf (.builtin id) = pure (.type "method_descriptor")) (hm : MtR X id r) (ho : PE X o to) (ha : PA X (e :: es) t)
    (hbase : attributeBase o name X.env (eval o X.env) = eval o X.env := by rfl)
    (hfew : ((backTo cpos (starEach (e :: es) X.env)).all (fun x => !x.1) && (backToKw cpos (keywordEach [] X.env)).all (fun x => x.1.isSome)
      && decide ((e :: es).length + ([] : List Keyword).length + (if ([] : List Keyword).isEmpty then 0 else 1) < 30)) = true := by rfl)
    (hline : (apos.endLine == cpos.line) = true := by rfl) (hs : starEach (e :: es) X.env = (false, eval e X.env) :: starEach es X.env := by rfl) (hplain : (backTo cpos (starEach es X.env)).any (·.1) = false := by rfl) :
    PE X (.Call (.Attribute o name apos) (e :: es) [] cpos) (tBM X.K T r to t) := by
  intro pins s σ H Q I h
  refine wpAny_Call_method_late hbase hfew hline rfl (thn (ho pins s σ H _ I h) fun v s1 ⟨x, H1, I1, r1, ty, q1⟩ => ?_)
  obtain ⟨h1, h2⟩ := tyV_is I1 r1 ty
  refine ⟨T, id, pa, slot, hty, h1, h2, ?_⟩
  have hA := ha cpos pins s1 σ H1 _ I1 q1
  rw [hs] at hA ⊢
  refine Calls.callWith_builtin (by show (false || (backTo cpos (starEach es X.env)).any (·.1)) = false; rw [hplain] <;> rfl) (Calls.evalArgs_plain ?_)
  exact thn hA fun us s2 ⟨vs, H2, I2, r2, q2⟩ => hm pins s2 σ H2 x vs v us Q I2 r1 r2 q2
/- xs.append(e), list.index on a module's tuple .. are MtR facts of 06m -/
end
end L2

namespace L2
open PySem PySem.Spec PyProof.Rows

def MtM (X : Cx) (id : String) (r : V → List V → Hp → VK → Prop) : Prop :=
  ∀ (pins : List (Addr × Obj)) (s : Shared) (σ : St) (H : Hp) (x : V) (xs : List V) (v : Value) (us : List Value) (Q : VK), Inv X pins σ H s → RelV x v → Vals xs us → r x xs H Q →
    wpAny (model X.prog X.w) X.A (call (.builtin id) (v :: us)) (EP X pins σ Q) X.xe s

/-! ### lists of values -/
theorem Vals.one : ∀ {x : V} {us : List Value}, Vals [x] us → ∃ u, us = [u] ∧ RelV x u
  | _, _, .cons r .nil => ⟨_, rfl, r⟩
theorem Vals.zero : ∀ {us : List Value}, Vals [] us → us = []
  | _, .nil => rfl
theorem Vals.dropLast {xs : List V} {us : List Value} (h : Vals xs us) : Vals xs.dropLast us.dropLast := by
  induction h with
  | nil => exact .nil
  | cons r t ih =>
    cases t with
    | nil => exact .nil
    | cons q t' => exact .cons r ih
theorem erase_last {α : Type} (l : List α) : l.eraseIdx (l.length - 1) = l.dropLast := by
  induction l with
  | nil => rfl
  | cons a r ih =>
    cases r with
    | nil => rfl
    | cons b r =>
      have e : (a :: b :: r).length - 1 = ((b :: r).length - 1) + 1 := by
        have h1 : (a :: b :: r).length = r.length + 2 := rfl
        have h2 : (b :: r).length = r.length + 1 := rfl
        omega
      rw [e, List.eraseIdx_cons_succ, ih]
      all_goals rfl
section
variable {X : Cx} {pins : List (Addr × Obj)} {σ : St} {H : Hp} {s : Shared} {l b : Addr} {xs ys zs : List V}

/-! ### the two steps: a tracked list is rewritten, a new list is laid -/
theorem Inv.lset {its its' : List Value} {n : Nat} {f : Array Value → Array Value} {t' : Nat} (I : Inv X pins σ H s) (hH : H l = some (.lst xs))
    (e : s.heap.get? l = some { cls := .type "list", data := .seq its.toArray n }) (hf : f its.toArray = its'.toArray) (hv : Vals ys its') (hz : ys.length ≤ sizeLine) :
    Inv X pins σ (upd H l (.lst ys)) { s with heap := s.heap.update l (Obj.mapSeq f), toks := t' } := by
  have q := PySem.IsL.update e f
  rw [hf] at q
  refine I.write (x := l) (e := l) (by rw [hH]; exact trivial) (.inl rfl) (fun b' u hb hu => (Heap.get?_update_other s.heap (Obj.mapSeq f) (Ne.symm hb)).trans hu) ⟨_, q⟩ ?_
  exact ⟨hz, its', _, hv, q⟩
theorem Inv.lnew {its : List Value} {t' : Nat} (I : Inv X pins σ H s) (hv : Vals ys its) (hz : ys.length ≤ sizeLine) :
    Inv X pins σ (upd H s.heap.objs.size (.lst ys)) { s with heap := s.heap.push { cls := .type "list", data := .seq its.toArray }, toks := t' } :=
  I.laid (fun _ _ q => Heap.get?_push_of_some _ q) (Nat.le_refl _) ⟨hz, its, 0, hv, Heap.get?_push_size _ rfl⟩
theorem Inv.fresh (I : Inv X pins σ H s) : H s.heap.objs.size = none := I.hok.fresh (Nat.le_refl _)
theorem Inv.lstM (I : Inv X pins σ H s) (hH : H l = some (.lst xs)) : xs.length ≤ sizeLine ∧ ∃ (its : List Value) (n : Nat), Vals xs its ∧ xs.length = its.length ∧ s.heap.get? l = some { cls := .type "list", data := .seq its.toArray n } := by
  obtain ⟨z, its, n, r, e⟩ := I.hok l _ hH
  exact ⟨z, its, n, r, r.length, e⟩

theorem notLongL {n : Nat} (h : n ≤ sizeLine) : Builtin.List.listTooLong n = false := by
  unfold Builtin.List.listTooLong
  exact decide_eq_false (by omega)
end

section
variable {X : Cx}

/-! ### methods -/
def rAppend : V → List V → Hp → VK → Prop := fun x vs H Q => ∃ l xs y, x = .ref l ∧ vs = [y] ∧ H l = some (.lst xs) ∧ xs.length < sizeLine ∧ Q .non (upd H l (.lst (xs ++ [y])))
theorem mt_append : MtM X "list.append" rAppend := by
  intro pins s σ H x vs v us Q I rx rv h
  obtain ⟨l, xs, y, rfl, rfl, hH, hz, q⟩ := h
  cases rx
  obtain ⟨u, rfl, ru⟩ := rv.one
  obtain ⟨z, its, n, r, hl, e⟩ := I.lstM hH
  refine call_meets F.slot_list_append ⟨_, e, rfl⟩ F.entry_list_append (F.args_list_append_2 _ _) (PySem.list_append l its.toArray n u (by rw [List.size_toArray]; omega)) ⟨e, ?_⟩
  refine ⟨.non, _, I.lset (its' := its ++ [u]) hH e (by simp) (r.append (.cons ru .nil)) ?_, rfl, q⟩
  rw [List.length_append, List.length_singleton]
  omega

def rExtend : V → List V → Hp → VK → Prop := fun x vs H Q => ∃ l b xs zs, x = .ref l ∧ vs = [.ref b] ∧ H l = some (.lst xs) ∧ H b = some (.lst zs) ∧ xs.length + zs.length ≤ sizeLine ∧ Q .non (upd H l (.lst (xs ++ zs)))
theorem mt_extend : MtM X "list.extend" rExtend := by
  intro pins s σ H x vs v us Q I rx rv h
  obtain ⟨l, b, xs, zs, rfl, rfl, hH, hB, hz, q⟩ := h
  cases rx
  obtain ⟨u, rfl, ru⟩ := rv.one
  cases ru
  obtain ⟨z, its, n, r, hl, e⟩ := I.lstM hH
  obtain ⟨z2, its2, n2, r2, hl2, e2⟩ := I.lstM hB
  have hsz : its.toArray.size + its2.toArray.size ≤ sizeLine := by rw [List.size_toArray, List.size_toArray]; omega
  have hlong : ¬ (!its.toArray.isEmpty && Builtin.List.listTooLong (its.toArray.size + its2.toArray.size)) = true := by
    rw [notLongL hsz, Bool.and_false]
    exact Bool.false_ne_true
  refine call_meets F.slot_list_extend ⟨_, e, rfl⟩ F.entry_list_extend (F.args_list_extend_2 _ _)
    (AutoSeq1.list_extend_list_list_0 l its.toArray n b its2.toArray n2 hlong (by rw [List.size_toArray]; omega) (by omega)) ⟨e, e2, ?_⟩
  refine ⟨.non, _, I.lset (its' := its ++ its2) hH e (by simp) (r.append r2) ?_, rfl, q⟩
  rw [List.length_append]
  omega

def rPop : V → List V → Hp → VK → Prop := fun x vs H Q => ∃ l xs y, x = .ref l ∧ vs = [] ∧ H l = some (.lst xs) ∧ xs[xs.length - 1]? = some y ∧ Q y (upd H l (.lst xs.dropLast))
theorem mt_pop : MtM X "list.pop" rPop := by
  intro pins s σ H x vs v us Q I rx rv h
  obtain ⟨l, xs, y, rfl, rfl, hH, hy, q⟩ := h
  cases rx
  have hus := rv.zero
  subst hus
  obtain ⟨z, its, n, r, hl, e⟩ := I.lstM hH
  obtain ⟨u, hu, ru⟩ := r.get hy
  have hy' : its.toArray[its.toArray.size - 1]? = some u := by
    show its.toArray[its.length - 1]? = some u
    rw [← Array.getElem?_toList, ← hl]
    exact hu
  refine call_meets F.slot_list_pop ⟨_, e, rfl⟩ F.entry_list_pop (F.args_list_pop_1 _) (MeetsSeq.list_pop_last l its.toArray n u hy' (by rw [List.size_toArray]; omega)) ⟨e, ?_⟩
  refine ⟨y, _, I.lset (its' := its.dropLast) hH e ?_ r.dropLast ?_, ru, q⟩
  · show its.toArray.eraseIdxIfInBounds (its.toArray.size - 1) = its.dropLast.toArray
    rw [List.size_toArray, List.eraseIdxIfInBounds_toArray, erase_last]
  · rw [List.length_dropLast]
    omega

def rPopAt : V → List V → Hp → VK → Prop := fun x vs H Q => ∃ l xs i k y, x = .ref l ∧ vs = [.int i] ∧ H l = some (.lst xs) ∧ -(2 ^ 63) ≤ i ∧ i < 2 ^ 63 ∧ seqIndex? i xs.length = some k ∧ xs[k]? = some y ∧ Q y (upd H l (.lst (xs.eraseIdx k)))
def rReverse : V → List V → Hp → VK → Prop := fun x vs H Q => ∃ l xs, x = .ref l ∧ vs = [] ∧ H l = some (.lst xs) ∧ Q .non (upd H l (.lst xs.reverse))
def rClear : V → List V → Hp → VK → Prop := fun x vs H Q => ∃ l xs, x = .ref l ∧ vs = [] ∧ H l = some (.lst xs) ∧ Q .non (upd H l (.lst []))
/-! ### list + list, list += list, list * int -/
def rCat : R2 := fun x y H Q => ∃ l b xs zs, x = .ref l ∧ y = .ref b ∧ H l = some (.lst xs) ∧ H b = some (.lst zs) ∧ xs.length + zs.length ≤ sizeLine ∧ ∀ p, H p = none → Q (.ref p) (upd H p (.lst (xs ++ zs)))
theorem op_cat : OpR X (binaryOp .Add) rCat := by
  intro pins s σ H x y v u Q I rx ry h
  obtain ⟨l, b, xs, zs, rfl, rfl, hH, hB, hz, q⟩ := h
  cases rx
  cases ry
  obtain ⟨z, its, n, r, hl, e⟩ := I.lstM hH
  obtain ⟨z2, its2, n2, r2, hl2, e2⟩ := I.lstM hB
  refine PySem.P.add_list e e2 ?_ (by rw [List.size_toArray, List.size_toArray]; omega)
  have ea : its.toArray ++ its2.toArray = (its ++ its2).toArray := by simp
  rw [ea]
  exact ⟨.ref _, _, I.lnew (t' := s.toks) (r.append r2) (by rw [List.length_append]; omega), rfl, q _ I.fresh⟩
/-- a list times an int (a negative one is nothing) -/
def rRep : R2 := fun x y H Q => ∃ l k xs, x = .ref l ∧ y = .int k ∧ H l = some (.lst xs) ∧ -(2 ^ 63) ≤ k ∧ k < 2 ^ 63 ∧ xs.length * k.toNat ≤ sizeLine ∧
  ∀ p, H p = none → Q (.ref p) (upd H p (.lst (List.replicate k.toNat xs).flatten))
/-! ### del xs[i] -/
end

/-! ### xs[a:b] = ys -/
section
variable {prog : Program} {w : World} {A : Around} {E : Value → Shared → Prop} {s : Shared}
end

section
variable {X : Cx}
end
end L2

namespace Att
open PySem PySem.W PySem.Calls PyProof.Rows

/-! ### the script -/
theorem ints_of_wellAll {P : Params} {h : Heap} : ∀ (ns : List Int) (vs : List Value), WellAll P h vs (ns.map WData.int) → IntsAre vs ns := by
  intro ns
  induction ns with
  | nil =>
    intro vs w
    rw [List.map_nil] at w
    cases w
    exact .nil
  | cons n ns ih =>
    intro vs w
    rw [List.map_cons] at w
    cases w with
    | cons a b =>
      cases a
      exact .cons _ _ (ih _ b)

theorem script_of {l : OpenLaw} {n : Nat} (hn : l.most = some n) {P : Params} {h : Heap} {args : List WData} {vals : List Value}
    (hpre : l.row.toRowW.claim.pre args = true) (hwl : WellAll P h vals args) :
    ∃ a vs ns, vals = [Value.ref a] ∧ args = [WData.list (ns.map WData.int)] ∧ h.get? a = some { cls := .type "list", data := .seq vs.toArray } ∧ IntsAre vs ns ∧ ns.length ≤ n := by
  have hsh : WShape.hasAll [] args [.list .int] = true := (pre_splitW hpre).1
  have hc : l.pre.holds [] { args := args } = true := (pre_splitW hpre).2
  obtain ⟨d, r, rfl, h1, h2⟩ := hasAllW_cons hsh
  obtain rfl := hasAllW_nil h2
  obtain ⟨xs, rfl, h3⟩ := hasW_list h1
  obtain ⟨ns, rfl⟩ := items_int h3
  have hlen : ns.length ≤ n := by
    unfold OpenLaw.pre at hc
    have h4 : (WTm.not (.lt (.lit (.int (n : Int))) (.len (.arg 0)))).holds [] { args := [.list (ns.map .int)] } = true := by
      have h4 := (holds_andW hc).1
      rw [hn] at h4
      exact h4
    have h5 := condW_of h4 (w_not (w_lt w_lit (w_len_list (w_arg rfl))))
    rw [List.length_map] at h5
    refine Nat.le_of_not_lt fun q => ?_
    have q' : (n : Int) < ((ns.length : Nat) : Int) := by omega
    first
      | (rw [decide_eq_true q'] at h5; exact absurd h5 (by decide))
      | (simp at h5; omega)
  cases hwl with
  | cons w1 w2 =>
    cases w2
    cases w1 with
    | list ho hall => exact ⟨_, _, ns, rfl, rfl, ho, ints_of_wellAll ns _ hall, hlen⟩

theorem post_true (l : OpenLaw) (args : List WData) : l.row.toRowW.claim.post args (.bool true) args = true :=
  postW_of (r := l.row.toRowW) (X := (true == true))
    (show WShape.has [] (.bool true) .bool = true by first | rfl | decide | simp [WShape.has, WShape.arms, WShape.armsAll])
    (show (WTm.eq .res (.lit (.bool true))).value [] { args := args, res := some (.bool true), after := args } = some (.bool (true == true)) from w_eq_bool (w_res rfl) w_lit) rfl

/-! ### the attachment: holds_open's last premise (the goal 'hc' behind k_head) from a wpAny of the law's body -/
/-- the same from a codeAny of the CALL (for a layer whose function contracts speak of calls) -/
theorem attach_call {l : OpenLaw} {n : Nat} {q : Program} {loose : List Str} {XP : (Str → Option Value) → Heap → Prop} {YP : World → Heap → Prop} {d : DefRec}
    (hn : l.most = some n) (hdf : d.params.defaults = [])
    (call : ∀ (w : World) (s₀ s₁ : Shared) (mg mb : Str → Option Value) (fa : Addr) (o : Obj) (pm cd doc : Value) (a : Addr) (vs : List Value) (ns : List Int),
      Ground q loose [] XP w s₀ mg mb s₁.heap → YP w s₁.heap →
      s₁.heap.get? fa = some o → o.data = .func (docDef d.name d.params d.body d.scope pm cd doc) → s₁.heap.CodeRec cd d.name → mg d.name = some (.ref fa) →
      s₁.heap.get? a = some { cls := .type "list", data := .seq vs.toArray } → IntsAre vs ns → ns.length ≤ n → s₁.gens = #[] →
      codeAny (model l.prog w) callerA (.call (.ref fa) ⟨[.ref a], []⟩) (fun r s' => r = .ok (.ret (.bool true)) ∧ OldK s₁.heap s'.heap ∧ s'.os = s₁.os ∧ AllBare s'.gens) s₁) :
    WalkO q loose XP YP l.row.toRowW d [] (fun f vs => PySem.call f vs) := by
  intro w s₀ s₁ mg mb G Y fa o pm cd doc dV kV ho hd hcd hD hmg hg args vals as hpre hlay hrd hwl hlo
  obtain rfl : dV = .none := Dflts.none hD hdf
  obtain rfl : kV = .none := Dflts.noKw hD
  obtain ⟨a, vs, ns, rfl, rfl, hobj, hints, hlen⟩ := script_of hn hpre hwl
  refine enter_call (codeAny_mono (call w s₀ s₁ mg mb fa o pm cd doc a vs ns G Y ho (fd_plain hd) hcd hmg hobj hints hlen hg) fun r s' hq => ?_)
  obtain ⟨rfl, h2, h3, h4⟩ := hq
  exact ⟨.inl ⟨.bool true, .bool true, [], rfl, fun _ => rfl, .bool true, post_true l _, fun _ => ⟨List.Pairwise.nil, fun _ hm => (nomatch hm)⟩⟩, h2, h3, h4⟩

/-! ### rules over ANY heap (no ledger) from facts about the written part K: the library's own take a ledger (News) for what they write -/
section
variable {prog : Program} {w : World} {A : Around} {E : Value → Shared → Prop} {s : Shared} {K : Frag}

/-! the whole heap as the ledger: makes every rule that writes through a ledger a rule over any heap -/
def noObjs (h : Heap) : Heap := { h with objs := #[] }
def ledger (h : Heap) (L d : Addr) : List (Addr × Obj) := (List.range h.objs.size).filterMap fun a => if a = L ∨ a = d then none else (h.get? a).map fun o => (a, o)
end
end Att

namespace L2
open PySem PySem.Spec PyProof.Rows

theorem vals_ints : ∀ {vs : List Value} {ns : List Int}, IntsAre vs ns → Vals (ns.map V.int) vs
  | _, _, .nil => .nil
  | _, _, .cons n t h => .cons ⟨t, rfl⟩ (vals_ints h)

/-- nothing is tracked but the script, known to the object (or it is an object of the module) -/
def Only (H : Hp) : Prop := ∀ b, H b = none ∨ ∃ o xs, H b = some (.frz o (.lst xs))

/-- THE HEAD: the law's promise, at the heap behind the top. F, the promise of the law's def, may use that base is part of the heap (so K.In base, base.Ns mainGlobals mg stand in Mod) -/
theorem law_call {P : Program} {w : World} {K : PySem.W.Frag} {mg mb : Str → Option Value} {CX : CXT} {k : Nat} {fa a : Addr} {fd : FuncData} {x : Str} {sp : Sp} {s₁ : Shared} {vs : List Value} {ns : List Int}
    (KX : K.In s₁.heap) (hns : s₁.heap.Ns mainGlobals mg) (hb : s₁.heap.Ns builtinsNs mb) (hbb : ∀ x : Str, x ≠ "__name__" → mb x = bootBuiltins x) (hlim : s₁.heap.NoLimit) (hg : s₁.gens = #[])
    (ha : s₁.heap.get? a = some { cls := .type "list", data := .seq vs.toArray }) (hi : IntsAre vs ns) (hl : ns.length ≤ sizeLine) (hr : Room k callerA)
    (F : ∀ base : Heap, K.In base → base.Ns mainGlobals mg → FnOk P w K mg base CX k fa fd [x] sp) (hbind : ∀ (s : Shared) (u : Value), BindsTo s fd ⟨[u], []⟩ [(x, u)])
    (hsp : ∀ H : Hp, Only H → SqL K H a (ns.map V.int) → sp [.ref a] H (fun v _ => v = .bl true) fun _ _ _ => False)
    (hCX : ∀ H e s', CX [] H s₁ (fun _ _ _ => False) e s' → False) :
    codeAny (model P w) callerA (.call (.ref fa) ⟨[.ref a], []⟩) (fun r s' => r = .ok (.ret (.bool true)) ∧ OldK s₁.heap s'.heap ∧ s'.os = s₁.os ∧ AllBare s'.gens) s₁ := by
  have rv := vals_ints hi
  have lenV := hi.length
  -- from an abstract heap in which nothing but the script may be tracked
  have core : ∀ H : Hp, Only H → SqL K H a (ns.map V.int) → HOk P w H s₁.heap → (∀ b, H b ≠ none → b = a) → (H a ≠ none → K.lookup a = none) →
      codeAny (model P w) callerA (.call (.ref fa) ⟨[.ref a], []⟩) (fun r s' => r = .ok (.ret (.bool true)) ∧ OldK s₁.heap s'.heap ∧ s'.os = s₁.os ∧ AllBare s'.gens) s₁ := by
    intro H hO hS hok hA hK
    have base_of : ∀ {b : Addr} {o : Obj}, s₁.heap.get? b = some o → H b = none → (hidT s₁.heap H).get? b = some o := fun e n => hidT_get e n
    have noA : ∀ {b : Addr} {o : Obj} {es : Array DictEntry} {ep : Nat}, s₁.heap.get? b = some o → o.data = .dict es ep → H b = none := fun {b o es ep} e d => by
      cases q : H b with
      | none => rfl
      | some u =>
        have e' : b = a := hA b (by rw [q]; simp)
        subst e'
        rw [ha] at e; cases e
        have d' : Data.seq vs.toArray _ = Data.dict es ep := d
        cases d'
    have nsK : ∀ {b : Addr} {m : Str → Option Value}, s₁.heap.Ns b m → (hidT s₁.heap H).Ns b m := fun {b m} ⟨o, es, ep, e, d, r⟩ => ⟨o, es, ep, base_of e (noA e d), d, r⟩
    have hKb : K.In (hidT s₁.heap H) := fun b o e => base_of (KX b o e) (by
      cases q : H b with
      | none => rfl
      | some u =>
        have e' : b = a := hA b (by rw [q]; simp)
        subst e'
        rw [hK (by rw [q]; simp)] at e; cases e)
    have hM : Mod K mg (hidT s₁.heap H) := ⟨hKb, nsK hns, ⟨mb, nsK hb, hbb⟩, let ⟨mc, h1, h2⟩ := hlim; ⟨mc, nsK h1, h2⟩⟩
    have e0 : Env0 P w K mg (hidT s₁.heap H) callerA [] s₁ H := ⟨rfl, hM, fun b o e => of_hidT e, Nat.le_of_eq (hidT_size _ _), trivial, fun b hb => absurd (show b ∈ ([] : List Addr) from hb) (by simp), hok, .of_eq hg⟩
    refine codeAny_mono ((F _ hKb (nsK hns)).run callerA [] s₁ H ⟨[.ref a], []⟩ [.ref a] [.ref a] _ _ hr e0 (hbind s₁ (.ref a)) (.cons rfl .nil) (hsp H hO hS)) fun r s' h => ?_
    cases r with
    | error e => exact (hCX H e s' h).elim
    | ok fl =>
      cases fl with
      | next => exact False.elim h
      | brk => exact False.elim h
      | cont => exact False.elim h
      | ret u =>
        obtain ⟨v, H', os, bare, un, hok', r', q⟩ := h
        have q' : v = .bl true := q
        subst q'
        obtain rfl : u = Value.bool true := r'
        refine ⟨rfl, OldK.of_keep fun b o e => ?_, os, bare⟩
        cases q : H b with
        | none => exact un.keep b o e q (by intro z; exact absurd (show b ∈ ([] : List Addr) from z) (by simp)) (by simp)
        | some u =>
          rcases hO b with z | ⟨ob, xs, z⟩
          · rw [q] at z; cases z
          · have z2 := un.frzs b ob _ z
            obtain ⟨e1, _⟩ := hok b _ z
            obtain ⟨e2, _⟩ := hok' b _ z2
            rw [e] at e1; cases e1
            exact e2
  cases hk : K.lookup a with
  | some o =>
    -- the script is one of the module's own objects
    have e := KX a o hk
    rw [ha] at e
    cases e
    refine core (fun _ => none) (fun _ => .inl rfl) (.inr ⟨_, vs.toArray, _, hk, rfl, rfl, rfl, by rw [List.size_toArray, lenV]; exact hl, by simpa using rv⟩) (fun b u z => by have z' : (none : Option HO) = some u := z; cases z') (fun b z => absurd rfl z) fun z => absurd rfl z
  | none =>
    refine core (fun b => if b = a then some (.frz { cls := .type "list", data := .seq vs.toArray } (.lst (ns.map V.int))) else none) (fun b => ?_) (.inl (.inr ⟨{ cls := .type "list", data := .seq vs.toArray }, if_pos rfl⟩)) (fun b u z => ?_) (fun b z => ?_) fun _ => hk
    · by_cases hb : b = a
      · exact .inr ⟨_, _, if_pos hb⟩
      · exact .inl (if_neg hb)
    · by_cases hb : b = a
      · have z' := (if_pos hb).symm.trans z
        cases z'
        subst hb
        exact ⟨ha, by rw [List.length_map]; exact hl, vs, _, rv, ha⟩
      · have z' := (if_neg hb).symm.trans z
        cases z'
    · by_cases hb : b = a
      · exact hb
      · exact absurd (if_neg hb) z
end L2

namespace L2
open PySem PySem.Spec PyProof.Rows

abbrev KOf {K : PySem.W.Frag} {h : Heap} (_ : K.In h) : PySem.W.Frag := K

/-- the goal that k_head leaves (case hc), from the law's promise. F gives the function object fd (K's own) once, then the promise over every base -/
theorem walk_of {l : PySem.W.OpenLaw} {n k : Nat} {q : Program} {loose : List Str} {XP : (Str → Option Value) → Heap → Prop} {YP : World → Heap → Prop} {d : DefRec} {K : Params → PySem.W.Frag} {CX : World → CXT} {sp : World → Sp} {x : Str}
    (hn : l.most = some n) (hn2 : n ≤ sizeLine) (hdf : d.params.defaults = []) (hr : Room k callerA)
    (hY : ∀ (w : World) (h : Heap), YP w h → (K w.params).In h)
    (F : ∀ (w : World) (mg : Str → Option Value) (fa : Addr) (h : Heap), (K w.params).In h → h.Ns mainGlobals mg → mg d.name = some (.ref fa) →
      ∃ fd : FuncData, (∀ (s : Shared) (u : Value), BindsTo s fd ⟨[u], []⟩ [(x, u)]) ∧
        ∀ base : Heap, (K w.params).In base → base.Ns mainGlobals mg → FnOk l.prog w (K w.params) mg base (CX w) k fa fd [x] (sp w))
    (hsp : ∀ (w : World) (H : Hp) (a : Addr) (ns : List Int), ns.length ≤ n → Only H → SqL (K w.params) H a (ns.map V.int) → sp w [.ref a] H (fun v _ => v = .bl true) fun _ _ _ => False)
    (hCX : ∀ (w : World) (H : Hp) (s : Shared) (e : Value) (s' : Shared), CX w [] H s (fun _ _ _ => False) e s' → False) :
    PySem.W.WalkO q loose XP YP l.row.toRowW d [] (fun f vs => PySem.call f vs) := by
  refine Att.attach_call hn hdf fun w s₀ s₁ mg mb fa o pm cd doc a vs ns G Y ho hd hcd hmg hobj hints hlen hg => ?_
  have KX := hY w _ Y
  obtain ⟨fd, hb, hF⟩ := F w mg fa _ KX G.T.g hmg
  exact law_call KX G.T.g G.T.b G.T.builtins G.T.nolimit hg hobj hints (Nat.le_trans hlen hn2) hr hF hb (fun H hO hS => hsp w H a ns hlen hO hS) fun H e s' => hCX w H s₁ e s'
end L2

/- THE LAST THEOREM (shape; LID, My.* are yours):
   My.Adr: a structure of the addresses that your layer names (classes, functions); My.Txt K t: a structure (Prop) of the equations over K;
   My.txt_mk : {K} {implicit addresses ..} (e1 : nsIn K mainGlobals "law" = some (some (.ref f))) (e2 : K.lookup f = some ⟨oc, od, .func (fnOf "law" "law" params body scope dV kV doc pm an cdv ct), sl⟩) (e3 : codeIn K cdv "law" = true) .. : ∃ t, My.Txt K t

set_option maxRecDepth 100000 in
set_option maxHeartbeats 0 in
theorem PySem.Challenge.cw_LID_holds : PySem.Challenge.rw_LID.Holds := by
  w_on; o_law; k_head; (case hw => w_witness2)
  k_fill
  refine L2.walk_of (l := PySem.Challenge.rw_LID) (n := 63) (k := 40) (x := "script") (CX := fun w => ..) (sp := fun _ => My.sp_law) rfl (by decide) rfl ⟨rfl, by decide, by decide⟩ (fun w h Y => PySem.W.kIn_of Y) ?F ?S ?C
  case F =>
    intro w mg fa h KX G hmg
    have T : ∃ t, My.Txt (L2.KOf KX) t := by
      dsimp only [L2.KOf]                          -- K must stand as «<heap const> w.params» for k_is
      refine' My.txt_mk ?e1 ?e2 ?e3 ..
      (case e1 => PySem.W.k_is)                    -- in the order: a name -> its address -> its object -> its parts
      (case e2 => PySem.W.k_is)
      ..
    obtain ⟨t, T⟩ := T
    have e0 := hmg.symm.trans (PySem.W.mg_of KX G T.law)
    cases e0                                       -- fa is the law's own address
    exact ⟨_, fun s u => .of_eq rfl, fun base kb nb => My.law_fn T kb nb⟩     -- if «.of_eq rfl» comes too early: refine' ⟨_, ?b, fun base kb nb => My.law_fn T kb nb⟩; exact fun s u => .of_eq rfl
  case S => exact fun w H a ns hl hO hS => ..
  case C => exact ..
(the tactic k_is has no namespace: write k_is) -/

/-! SHORT WORDS over the layer: a def of the text, its body, what a loop and a test want. -/
namespace L2
open PySem PySem.Spec PyProof.Rows

/-! ### the text by places -/
/-- the j-th statement of a class's body -/
def inClass (s : Stmt) (j : Nat) : Stmt := match s with
  | .ClassDef _ _ _ body _ _ _ _ _ _ _ => body.getD j (.Pass ⟨0, 0, 0, 0⟩)
  | _ => .Pass ⟨0, 0, 0, 0⟩
def defArgs (s : Stmt) : Arguments := match s with
  | .FunctionDef _ a _ _ _ _ _ _ _ _ => a
  | _ => { posonlyargs := [], args := [], vararg := none, kwonlyargs := [], kw_defaults := [], kwarg := none, defaults := [] }
def defBody (s : Stmt) : List Stmt := match s with
  | .FunctionDef _ _ b _ _ _ _ _ _ _ => b
  | _ => []
def defScope (s : Stmt) : Scope := match s with
  | .FunctionDef _ _ _ _ _ _ sc _ _ _ => sc
  | _ => { kind := .function, names := [], isGenerator := false, isCoroutine := false }

/-! ### no exception leaves a def -/
abbrev CX0 : CXT := fun _ _ _ _ _ _ => False
abbrev E0 : XK := fun _ _ _ => False
theorem pass0 {X : Cx} : Passes CX0 X E0 := fun _ _ _ _ _ _ _ h => h.elim

/-! ### a def (or method) of the text as it stands behind the top -/
structure Fun (K : PySem.W.Frag) (x qual : Str) (st : Stmt) (f : Addr) (fd : FuncData) : Prop where
  ex : ∃ (oc : Value) (od : Option Addr) (kV doc pm : Value) (an : Option Addr) (cdv ct : Value) (osl : Array (Option Value)),
    fd = PySem.W.fnOf x qual (defArgs st) (defBody st) (defScope st) .none kV doc pm an cdv ct ∧ K.lookup f = some ⟨oc, od, .func fd, osl⟩ ∧ PySem.W.codeIn K cdv qual = true
  kp : PySem.W.keepIn K (.ref f) = true
section
variable {P : Program} {w : World} {K : PySem.W.Frag} {mg : Str → Option Value} {base : Heap}
/-- THE RULE for a def: its body as a term of rules, and the reading of that term -/
theorem Fun.ok {x qual : Str} {st : Stmt} {f : Addr} {fd : FuncData} {N ps : List Str} {k : Nat} {sp : Sp} (F : Fun K x qual st f fd) (S : FnScope N ps (defScope st)) (len : ∀ vs H Q E, sp vs H Q E → vs.length = ps.length)
    (hbody : ∀ (cdv : Value) (A : Around) (outer : List Env) (s : Shared) (H : Hp) (vs : List V) (Q : VK) (E : XK), Room k (A.deeper (envOfC qual (defScope st) s.heap.objs.size f cdv)) → sp vs H Q E →
      ∃ t, PSs (cxOf CX0 P w K mg base N qual (defScope st) f cdv A outer s H E).nox (defBody st) t ∧ t { nx := fun _ H' => Q .non H', rt := Q } (start N vs) H) : FnOk P w K mg base CX0 (k + 1) f fd ps sp := by
  obtain ⟨oc, od, kV, doc, pm, an, cdv, ct, osl, rfl, lk, hcd⟩ := F.ex
  refine fn_of lk hcd S len fun A outer s H vs Q E hr hsp => ?_
  obtain ⟨t, h, q⟩ := hbody cdv A outer s H vs Q E hr hsp
  exact ⟨t, h.nox, q⟩
/-- how its arguments bind (no defaults): h is «fun _ _ _ _ _ _ us hl => match us, hl with | [_, _], _ => rfl», one _ a parameter -/
theorem Fun.binds {x qual : Str} {st : Stmt} {f : Addr} {fd : FuncData} {ps : List Str} (F : Fun K x qual st f fd)
    (h : ∀ (kV doc pm : Value) (an : Option Addr) (cdv ct : Value) (us : List Value), us.length = ps.length → bindArgs (PySem.W.fnOf x qual (defArgs st) (defBody st) (defScope st) .none kV doc pm an cdv ct) ⟨us, []⟩ = pure (ps.zip us)) : Binds K fd ps [] := by
  obtain ⟨oc, od, kV, doc, pm, an, cdv, ct, osl, rfl, lk, hcd⟩ := F.ex
  exact .all (h kV doc pm an cdv ct)
theorem fun_mk {x qual : Str} {st : Stmt} {f : Addr} {oc : Value} {od an : Option Addr} {osl : Array (Option Value)} {kV doc pm cdv ct : Value} (l : K.lookup f = some ⟨oc, od, .func (PySem.W.fnOf x qual (defArgs st) (defBody st) (defScope st) .none kV doc pm an cdv ct), osl⟩)
    (c : PySem.W.codeIn K cdv qual = true) (k : PySem.W.keepIn K (.ref f) = true) : Fun K x qual st f (PySem.W.fnOf x qual (defArgs st) (defBody st) (defScope st) .none kV doc pm an cdv ct) := ⟨⟨oc, od, kV, doc, pm, an, cdv, ct, osl, rfl, l, c⟩, k⟩
end
theorem hu_of {A : Around} {k : Nat} (hr : Room k A) : A.units + 1 < cLine := Nat.lt_of_le_of_lt (Nat.add_le_add_left (by decide : 1 ≤ 64) _) hr.units
theorem small1000 {n : Nat} (h : n ≤ 1000) : n < sizeLine := Nat.lt_of_le_of_lt h (by decide)

/-! ### expressions in short: the name that stands in the i-th slot -/
section
variable {X : Cx}
theorem pv (i : Nat) {x : Str} {pos : Pos} (hN : X.N[i]? = some x := by rfl) (hv : Vis X.env.scope x := by first | exact Or.inl rfl | exact Or.inr (Or.inl rfl) | exact Or.inr (Or.inr rfl)) (hd : (x == ("__debug__" : Str)) = false := by decide)
    (hcd : (x == ("__classdict__" : Str)) = false := by decide) : PE X (.Name x pos) (tVar i) := pe_var hN hv hd hcd
end

/-! ### tests -/
theorem iteF {A B : Prop} (h : B) : if false = true then A else B := by
  rw [if_neg Bool.false_ne_true]
  exact h
theorem iteT {A B : Prop} (h : A) : if true = true then A else B := by
  rw [if_pos rfl]
  exact h
/-! ### heaps -/
/-- all that was tracked is as it was -/
def Same (H H' : Hp) : Prop := ∀ b o, H b = some o → H' b = some o
theorem Same.refl (H : Hp) : Same H H := fun _ _ h => h
theorem Same.trans {H H1 H2 : Hp} (a : Same H H1) (b : Same H1 H2) : Same H H2 := fun c o h => b c o (a c o h)
theorem Same.free {H H' : Hp} (e : Same H H') {l : Addr} (h : H' l = Option.none) : H l = Option.none := by
  cases q : H l with
  | none => rfl
  | some o =>
    rw [e l o q] at h
    cases h
theorem Same.seq {K : PySem.W.Frag} {H H' : Hp} {a : Addr} {xs : List V} (e : Same H H') (h : SqL K H a xs) : SqL K H' a xs := by
  rcases h with (h | ⟨o, h⟩) | h
  · exact .inl (.inl (e _ _ h))
  · exact .inl (.inr ⟨o, e _ _ h⟩)
  · exact .inr h

end L2

/-! A list comprehension of one clause over the hand layer: its block runs in a context of its own. -/
namespace L2
open PySem PySem.Spec PyProof.Rows

/-- the cells that a block takes from around it -/
def clOf (env : Env) : List (Str × NameKind) → List (Str × Addr) → List (Str × Addr)
  | [], cs => cs
  | (n, k) :: r, cs => clOf env r (if k == .free then (n, (env.cells.lookup n).getD 0) :: cs else cs)
def clStep (env : Env) (x : Str × NameKind) (s : List (Str × Addr)) : Sem (ForInStep (List (Str × Addr))) := if (x.2 == NameKind.free) = true then cellOf env x.1 >>= fun c => pure (ForInStep.yield ((x.1, c) :: s)) else pure (ForInStep.yield s)
theorem clStep_run {env : Env} : ∀ {ns : List (Str × NameKind)} (cs : List (Str × Addr)), (∀ y ∈ ns, y.2 = .free → ∃ c, env.cells.lookup y.1 = some c) → (forIn ns cs (clStep env) : Sem (List (Str × Addr))) = pure (clOf env ns cs)
  | [], cs, _ => rfl
  | (n, k) :: r, cs, h => by
    rw [List.forIn_cons]
    have hr : ∀ y ∈ r, y.2 = .free → ∃ c, env.cells.lookup y.1 = some c := fun z hz => h z (List.mem_cons_of_mem _ hz)
    cases hk : (k == NameKind.free) with
    | false =>
      have e1 : clStep env (n, k) cs = pure (ForInStep.yield cs) := by
        unfold clStep
        exact if_neg (by rw [show (n, k).2 = k from rfl, hk]; decide)
      rw [e1, pure_bind]
      show forIn r cs (clStep env) = _
      rw [clStep_run cs hr]
      show pure (clOf env r cs) = pure (clOf env r (if (k == NameKind.free) = true then (n, (List.lookup n env.cells).getD 0) :: cs else cs))
      rw [hk]
      rfl
    | true =>
      have hk' : k = .free := by simpa using hk
      obtain ⟨c, hc⟩ := h (n, k) List.mem_cons_self hk'
      have hc' : env.cells.lookup n = some c := hc
      have q : cellOf env n = pure c := by unfold cellOf; rw [hc']
      have e1 : clStep env (n, k) cs = pure (ForInStep.yield ((n, c) :: cs)) := by
        unfold clStep
        rw [if_pos (by rw [show (n, k).2 = k from rfl, hk]), show (n, k).1 = n from rfl, q, pure_bind]
      rw [e1, pure_bind]
      show forIn r ((n, c) :: cs) (clStep env) = _
      rw [clStep_run _ hr]
      show pure (clOf env r ((n, c) :: cs)) = pure (clOf env r (if (k == NameKind.free) = true then (n, (List.lookup n env.cells).getD 0) :: cs else cs))
      rw [hk, hc']
      rfl
theorem closure_eq {scope : Scope} {env : Env} (h : ∀ y ∈ scope.names, y.2 = .free → ∃ c, env.cells.lookup y.1 = some c) : closureFor scope env = pure (clOf env scope.names []) := by
  show (forIn scope.names ([] : List (Str × Addr)) (clStep env) >>= fun s => (pure s : Sem (List (Str × Addr)))) = _
  rw [clStep_run [] h, pure_bind]
theorem clOf_sound {env : Env} {n : Str} {c : Addr} : ∀ {ns : List (Str × NameKind)} {cs : List (Str × Addr)}, (∀ y ∈ ns, y.2 = .free → ∃ c, env.cells.lookup y.1 = some c) → (∀ p ∈ cs, env.cells.lookup p.1 = some p.2) → (clOf env ns cs).lookup n = some c → env.cells.lookup n = some c
  | [], cs, _, hc, h => hc _ (PySem.mem_of_lookup h)
  | (m, k) :: r, cs, hn, hc, h => by
    unfold clOf at h
    refine clOf_sound (fun y hy => hn y (List.mem_cons_of_mem _ hy)) ?_ h
    intro p hp
    split at hp
    · rename_i hk
      have hk' : k = .free := by simpa using hk
      obtain ⟨c', hc'⟩ := hn (m, k) List.mem_cons_self hk'
      have hc2 : env.cells.lookup m = some c' := hc'
      rw [hc2] at hp
      rcases List.mem_cons.mp hp with rfl | hp
      · exact hc2
      · exact hc p hp
    · exact hc p hp
theorem lookup_mono_isSome {n : Str} : ∀ {cs : List (Str × Addr)}, (∃ c, (n, c) ∈ cs) → ∃ c, cs.lookup n = some c
  | [], ⟨_, h⟩ => absurd h (by simp)
  | (m, d) :: r, ⟨c, h⟩ => by
    rw [List.lookup_cons]
    by_cases e : n = m
    · subst e; exact ⟨d, by simp⟩
    · have : (n == m) = false := beq_eq_false_iff_ne.mpr e
      rw [this]
      rcases List.mem_cons.mp h with z | z
      · cases z; exact absurd rfl e
      · exact lookup_mono_isSome ⟨c, z⟩
theorem clOf_keeps {env : Env} {p : Str × Addr} : ∀ {ns : List (Str × NameKind)} {cs : List (Str × Addr)}, p ∈ cs → p ∈ clOf env ns cs
  | [], _, h => h
  | (m, k) :: r, cs, h => by
    unfold clOf
    refine clOf_keeps ?_
    split
    · exact List.mem_cons_of_mem _ h
    · exact h
theorem clOf_has {env : Env} {n : Str} : ∀ {ns : List (Str × NameKind)} {cs : List (Str × Addr)}, (n, NameKind.free) ∈ ns → ∃ c, (n, c) ∈ clOf env ns cs
  | [], _, h => absurd h (by simp)
  | (m, k) :: r, cs, h => by
    unfold clOf
    rcases List.mem_cons.mp h with z | z
    · cases z
      exact ⟨(env.cells.lookup n).getD 0, clOf_keeps (by simp)⟩
    · exact clOf_has z

/-- the context of a block: vs its own names, fs the captured ones -/
def cxBlk (X : Cx) (scope : Scope) (N : List Str) (C : Addr) (s : Shared) (H : Hp) (ex : List Addr) : Cx :=
  { X with N := N, s₀ := s, H₀ := H, env := compEnvC scope (clOf X.env scope.names []) C X.env, outer := X.stack, ex := ex, fn := fun _ => false, pn := [], xe := fun _ _ => False }

/-- what the text of a block must have -/
structure BlkOk (X : Cx) (scope : Scope) (vs fs : List Str) (js : List Nat) : Prop where
  kind : scope.kind = .function
  cell : ∀ y ∈ scope.names, y.2 ≠ .cell
  names : ∀ y ∈ scope.names, y.2 = .local → scope.names.lookup y.1 = some .local
  free : ∀ y ∈ scope.names, y.2 = .free → X.env.kindOf y.1 = some .cell ∨ X.env.kindOf y.1 = some .free
  own : ∀ y ∈ vs, scope.names.lookup y = some .local
  cap : ∀ y ∈ fs, scope.names.lookup y = some .free
  ix : js.map (fun j => X.N[j]?) = fs.map some

/-- the values at the block's entry -/
def blkSt (vs : List Str) (js : List Nat) (σ : St) : St := vs.map (fun _ => none) ++ js.map (fun j => (σ[j]?).join)

theorem lookup_relabel_free {env : Env} {names : List (Str × NameKind)} {x : Str} (h : names.lookup x = some .free) :
    (names.map fun (n, k) => if (k == NameKind.free && env.scope.kind == .function && env.kindOf n == some .cell) then (n, NameKind.cell) else (n, k)).lookup x = some .cell ∨
    (names.map fun (n, k) => if (k == NameKind.free && env.scope.kind == .function && env.kindOf n == some .cell) then (n, NameKind.cell) else (n, k)).lookup x = some .free := by
  induction names with
  | nil => cases h
  | cons y r ih =>
    obtain ⟨n, k⟩ := y
    rw [List.map_cons]
    show List.lookup x ((if (k == NameKind.free && env.scope.kind == .function && env.kindOf n == some .cell) = true then (n, NameKind.cell) else (n, k)) :: _) = _ ∨ List.lookup x ((if (k == NameKind.free && env.scope.kind == .function && env.kindOf n == some .cell) = true then (n, NameKind.cell) else (n, k)) :: _) = _
    rw [List.lookup_cons] at h
    cases e : x == n with
    | true =>
      rw [e] at h
      have h' : k = .free := by simpa using h
      subst h'
      split
      · left; rw [List.lookup_cons, e]
      · right; rw [List.lookup_cons, e]
    | false =>
      rw [e] at h
      have h' := ih h
      split
      · rw [List.lookup_cons, e]; exact h'
      · rw [List.lookup_cons, e]; exact h'
theorem relabel_back {env : Env} {names : List (Str × NameKind)} {x : Str} {kk : NameKind}
    (h : (names.map fun (n, k) => if (k == NameKind.free && env.scope.kind == .function && env.kindOf n == some .cell) then (n, NameKind.cell) else (n, k)).lookup x = some kk) :
    (kk = .cell ∧ (x, NameKind.free) ∈ names) ∨ (x, kk) ∈ names := by
  induction names with
  | nil => cases h
  | cons y r ih =>
    obtain ⟨n, k⟩ := y
    rw [List.map_cons] at h
    have h2 : List.lookup x ((if (k == NameKind.free && env.scope.kind == .function && env.kindOf n == some .cell) = true then (n, NameKind.cell) else (n, k)) :: (r.map fun (n, k) => if (k == NameKind.free && env.scope.kind == .function && env.kindOf n == some .cell) then (n, NameKind.cell) else (n, k))) = some kk := h
    cases e : x == n with
    | true =>
      have e' : x = n := by simpa using e
      subst e'
      split at h2
      · rename_i hc
        rw [List.lookup_cons, e] at h2
        have h3 : kk = .cell := by simpa using h2.symm
        have hk : k = .free := by
          have := (Bool.and_eq_true _ _ ▸ hc).1
          have := (Bool.and_eq_true _ _ ▸ this).1
          simpa using this
        subst hk
        exact .inl ⟨h3, List.mem_cons_self⟩
      · rw [List.lookup_cons, e] at h2
        have h3 : kk = k := by simpa using h2.symm
        subst h3
        exact .inr List.mem_cons_self
    | false =>
      have h3 : (r.map fun (n, k) => if (k == NameKind.free && env.scope.kind == .function && env.kindOf n == some .cell) then (n, NameKind.cell) else (n, k)).lookup x = some kk := by
        split at h2
        · rw [List.lookup_cons, e] at h2; exact h2
        · rw [List.lookup_cons, e] at h2; exact h2
      rcases ih h3 with ⟨a, b⟩ | b
      · exact .inl ⟨a, List.mem_cons_of_mem _ b⟩
      · exact .inr (List.mem_cons_of_mem _ b)

section
variable {prog : Program} {w : World} {A : Around} {R : Result → Shared → Prop} {s : Shared}
/-- one clause, any target, tests -/
theorem codeAny_compLoop_gen {elt target iter : Expr} {ifs : List Expr} {scope : Scope} {pos : Pos} {it acc : Value} {env : Env} (I : Nat → Shared → Prop)
    (turn : ∀ n s, I n s → wpAny (model prog w) A (pyNext it) (fun r s₁ => match r with
      | none => R (.ok .next) s₁
      | some v => wpAny (model prog w) A (letOwnedTupleGo target it v) (fun _ s₁' => wpAny (model prog w) A (assign target env v) (fun _ s₂ =>
          wpAny (model prog w) A (forIn ifs true fun c r => if r = true then do let ok ← isTrue c env (eval c env); pure (ForInStep.yield ok) else pure (ForInStep.yield r)) (fun ok s₃ =>
            if ok = true then wpAny (model prog w) A (eval elt env) (fun x s₄ =>
              wpAny (model prog w) A (call (.builtin "list.append") [acc, x]) (fun _ s₅ => ∃ m, m < n ∧ I m s₅) (fun _ _ => False) s₄) (fun _ _ => False) s₃
            else ∃ m, m < n ∧ I m s₃) (fun _ _ => False) s₂) (fun _ _ => False) s₁') (fun _ _ => False) s₁) (fun _ _ => False) s)
    (n : Nat) (h : I n s) :
    codeAny (model prog w) A (.compLoop (.ListComp elt [⟨target, iter, ifs, 0⟩] scope pos) 0 it acc env) R s := by
  refine codeAny_loop rfl I (fun n s hI => ?_) n h
  show wpAny _ A ((compTurn (.ListComp elt [⟨target, iter, ifs, 0⟩] scope pos) 0 it acc env).onRaise (fun x => do noteFrame x env; theTreesLotGoes x)) _ _ s
  refine wpAny_noted ?_
  rw [compTurn_list]
  refine wpAny_bind (wpAny_standAt (wpAny_bind (wpAny_mono (turn n s hI) (fun r s₁ h₁ => ?_) fun _ _ h' => h'.elim)))
  cases r with
  | none => exact wpAny_pure h₁
  | some v =>
    refine wpAny_bind (wpAny_mono h₁ (fun _ s₁' h₁' => ?_) fun _ _ h' => h'.elim)
    refine wpAny_bind (wpAny_mono h₁' (fun _ s₂ h₂ => wpAny_bind (wpAny_mono h₂ (fun ok s₃ h₃ => ?_) fun _ _ h' => h'.elim)) fun _ _ h' => h'.elim)
    cases ok with
    | false => exact wpAny_pure ⟨rfl, h₃⟩
    | true =>
      exact wpAny_bind (wpAny_bind (wpAny_mono h₃ (fun x s₄ h₄ => wpAny_bind (wpAny_mono h₄ (fun _ s₅ h₅ => wpAny_pure (wpAny_pure ⟨rfl, h₅⟩)) fun _ _ h' => h'.elim)) fun _ _ h' => h'.elim))
end

/-- the tests of a clause -/
def PIfs (X : Cx) (ifs : List Expr) (t : TT) : Prop :=
  ∀ (pins : List (Addr × Obj)) (s : Shared) (σ : St) (H : Hp) (Q : Bool → Hp → Prop), Inv X pins σ H s → t σ H Q →
    wpAny (model X.prog X.w) X.A (forIn ifs true fun c r => if r = true then do let ok ← isTrue c X.env (eval c X.env); pure (ForInStep.yield ok) else pure (ForInStep.yield r)) (TP X pins σ Q) X.xe s
def tYes : TT := fun _ H Q => Q true H
theorem pif0 {X : Cx} : PIfs X [] tYes := fun _ _ _ H _ I h => wpAny_tests_nil ⟨H, I, h⟩
theorem pif1 {X : Cx} {c : Expr} {t : TT} (h : PT X c t) : PIfs X [c] t := fun pins s σ H Q I q => wpAny_tests_one (h pins s σ H Q I q)

/-- W by the turn, a measure, the names, the list so far, the heap; D the new list -/
def CompW (J : It) (vs : List Str) (js : List Nat) (σ : St) (g : TG) (tt : TT) (te : TE) (Q : VK) (D : Addr) (H1 : Hp) : Prop :=
  ∃ W : Nat → Nat → St → List V → Hp → Prop, (∃ m, W 0 m (blkSt vs js σ) [] (upd H1 D (.lst []))) ∧ ∀ i m σ' ys H', W i m σ' ys H' →
    (J.stop i H' ∧ Q (.ref D) H') ∨ (J.go i H' ∧ ∃ N : St → List V → Hp → Prop, (∀ σ2 zs H2, N σ2 zs H2 → ∃ m', m' < m ∧ W (i + 1) m' σ2 zs H2) ∧
      ∀ x H2, J.yld i H' x H2 → g x σ' H2 fun σ3 H3 => tt σ3 H3 fun b H4 => if b = true then te σ3 H4 fun y H5 => H5 D = some (.lst ys) ∧ ys.length < sizeLine ∧ N σ3 (ys ++ [y]) (upd H5 D (.lst (ys ++ [y]))) else N σ3 ys H4)
def tComp (vs : List Str) (js : List Nat) (wi : TI) (g : TG) (tt : TT) (te : TE) : TE := fun σ H Q => wi σ H fun J H1 => ∀ D, H1 D = none → CompW J vs js σ g tt te Q D H1

section
variable {X : Cx} {pins : List (Addr × Obj)} {σ : St} {H : Hp} {s : Shared} {scope : Scope} {vs fs : List Str} {js : List Nat}
theorem blk_start {fp : List Addr} {C D : Addr} {h₁ : Heap} {tk : Nat} {m : Str → Option Value} (I : Inv X pins σ H s) (B : BlkOk X scope vs fs js) (hf : ∀ b ∈ fp, FpOk X pins H b) (hfp : ∀ b ∈ fp, b < s.heap.objs.size)
    (hn : h₁.Ns C m) (hk : ∀ b o, s.heap.get? b = some o → h₁.get? b = some o) (hD : D = s.heap.objs.size) (hC : s.heap.objs.size < C)
    (hl : h₁.get? D = some { cls := .type "list", data := .seq ([] : List Value).toArray }) :
    Inv (cxBlk X scope (vs ++ fs) C s H fp) [] (blkSt vs js σ) (upd H D (.lst [])) { s with heap := h₁, toks := tk } := by
  have hasX : ∀ y ∈ scope.names, y.2 = .free → ∃ c, X.env.cells.lookup y.1 = some c := fun y hy hf => I.ok.has y.1 (B.free y hy hf)
  have snd : ∀ {y : Str} {c : Addr}, (clOf X.env scope.names []).lookup y = some c → X.env.cells.lookup y = some c := fun h => clOf_sound hasX (fun p hp => absurd hp (by simp)) h
  have clt : ∀ {y : Str} {c : Addr}, X.env.cells.lookup y = some c → c < s.heap.objs.size := fun {y c} h => by
    obtain ⟨v, o, ho, _⟩ := I.cell y c h
    exact Heap.lt_size ho
  have hfr : H D = none := by rw [hD]; exact I.hok.fresh (Nat.le_refl _)
  have hfC : H C = none := I.hok.fresh (Nat.le_of_lt hC)
  have nCD : C ≠ D := by rw [hD]; exact Nat.ne_of_gt hC
  refine ⟨⟨I.ok.mod, B.kind, I.ok.glob, I.ok.blt, Nat.le_of_lt hC, fun y z c h1 h2 => I.ok.inj y z c (snd h1) (snd h2), fun y hy => ?_, fun y c z _ => absurd (show false = true from z) Bool.false_ne_true, I.ok.hd, I.ok.frames, .inl rfl, fun b hb => ⟨?_, fun y c h => (hf b hb).2.2.2.2.1 y c (snd h)⟩, I.bs, Nat.le_trans I.ok.bsz I.sz, fun b o e hb => ?_, fun b hb z => ?_, I.stack, I.stkFree⟩,
    rfl, I.bare, Un.laid hk (Nat.le_of_eq hD.symm) hfr, ⟨m, hn, fun i y v h1 h2 h3 => ?_⟩, fun y c h => ?_, ?_, fun y c h => ?_, fun p hp => absurd (show p ∈ ([] : List (Addr × Obj)) from hp) (by simp), I.hok.laid hk (Nat.le_of_eq hD.symm) ⟨by simp, [], 0, .nil, hl⟩, ?_⟩
  · -- has
    have key : (y, NameKind.free) ∈ scope.names := by
      rcases hy with hy | hy
      · rcases relabel_back hy with ⟨_, z⟩ | z
        · exact z
        · exact absurd rfl (B.cell _ z)
      · rcases relabel_back hy with ⟨z, _⟩ | z
        · cases z
        · exact z
    exact lookup_mono_isSome (clOf_has key)
  · exact Nat.ne_of_lt (Nat.lt_trans (hfp b hb) hC)
  · rcases (hf b hb).2.2.2.1 with z | z
    · exact I.ok.noex b o e z
    · exact absurd (Nat.lt_of_lt_of_le (Heap.lt_size e) (Nat.le_trans I.ok.bsz z)) (Nat.lt_irrefl _)
  · rcases List.mem_cons.mp (I.stkSub b z) with e | e
    · exact (hf b hb).2.1 e
    · exact (hf b hb).2.2.1 e
  · -- loc
    have hlen : js.length = fs.length := by have := congrArg List.length B.ix; simpa using this
    have hi : ¬ i < vs.length := fun hi => by
      unfold blkSt at h2
      rw [List.getElem?_append_left (by simpa using hi), List.getElem?_map] at h2
      cases e : vs[i]? with
      | none => rw [e] at h2; cases h2
      | some a => rw [e] at h2; cases h2
    have hi' : vs.length ≤ i := Nat.le_of_not_lt hi
    have h1' : fs[i - vs.length]? = some y := by
      have := h1
      rw [show (cxBlk X scope (vs ++ fs) C s H fp).N = vs ++ fs from rfl, List.getElem?_append_right hi'] at this
      exact this
    have h2' : (js[i - vs.length]?).map (fun j => (σ[j]?).join) = some (some v) := by
      unfold blkSt at h2
      rw [List.getElem?_append_right (by simpa using hi'), List.length_map, List.getElem?_map] at h2
      exact h2
    cases ej : js[i - vs.length]? with
    | none => rw [ej] at h2'; cases h2'
    | some j =>
      rw [ej] at h2'
      have hσ : σ[j]? = some (some v) := by
        have z : (σ[j]?).join = some v := Option.some.inj h2'
        cases q : σ[j]? with
        | none => rw [q] at z; cases z
        | some o => rw [q] at z; have z' : o = some v := z; rw [z']
      have hNj : X.N[j]? = some y := by
        have q := congrArg (fun l => l[i - vs.length]?) B.ix
        simp only [List.getElem?_map, ej, h1', Option.map_some] at q
        exact Option.some.inj q
      have hcap := B.cap y (List.mem_of_getElem? h1')
      have hmem : (y, NameKind.free) ∈ scope.names := PySem.mem_of_lookup hcap
      have hkX := B.free _ hmem rfl
      have vis : Vis X.env.scope y := by
        rcases hkX with z | z
        · exact .inr (.inl z)
        · exact .inr (.inr z)
      obtain ⟨m0, hn0, hl0⟩ := I.loc
      obtain ⟨u, r, l⟩ := hl0 j y v hNj hσ vis
      refine ⟨u, r, .inr ⟨lookup_relabel_free hcap, ?_⟩⟩
      rcases l with ⟨z, _⟩ | ⟨_, c, hc, hcell⟩
      · rcases hkX with q | q <;> (rw [q] at z; cases z)
      · obtain ⟨c', hc'⟩ := lookup_mono_isSome (clOf_has (env := X.env) (cs := []) hmem)
        have e := snd hc'
        rw [hc] at e
        cases e
        exact ⟨c, hc', hcell.keeps hk⟩
  · obtain ⟨v, z⟩ := I.cell y c (snd h)
    exact ⟨v, z.keeps hk⟩
  · rw [show (cxBlk X scope (vs ++ fs) C s H fp).env.locals = C from rfl, upd_ne nCD]
    exact hfC
  · have q := snd h
    have ne : c ≠ D := by rw [hD]; exact Nat.ne_of_lt (clt q)
    rw [upd_ne ne]
    exact I.freeC y c q
  · have hlen : js.length = fs.length := by have := congrArg List.length B.ix; simpa using this
    show (vs.map _ ++ js.map _).length = (vs ++ fs).length
    rw [List.length_append, List.length_append, List.length_map, List.length_map, hlen]

theorem Inv.goneC {H' : Hp} {s' : Shared} {C : Addr} {h'' : Heap} (I2 : Inv X pins σ H s) {σ' : St} (I' : Inv X pins σ' H' s') (hC : H' C = none) (hle : s.heap.objs.size ≤ C) (hs : Heap.SameBut C s'.heap h'') : Inv X pins σ' H' { s' with heap := h'' } := by
  refine I'.turned (t' := s'.toks) (fun b o hb e => (hs.2 b hb).trans e) hC (Nat.ne_of_gt (Nat.lt_of_lt_of_le I2.lt hle)) (.inr (Nat.le_trans I2.sz hle)) (fun y c e z => ?_) fun p hp z => ?_
  · obtain ⟨v, o, ho, _⟩ := I2.cell y c e
    have := Heap.lt_size ho
    rw [z] at this
    exact absurd (Nat.lt_of_lt_of_le this hle) (Nat.lt_irrefl _)
  · have := Heap.lt_size (I2.pin p hp).1
    rw [z] at this
    exact absurd (Nat.lt_of_lt_of_le this hle) (Nat.lt_irrefl _)

theorem blk_run {tg iter elt : Expr} {ifs : List Expr} {pos : Pos} {g : TG} {tt : TT} {te : TE} (hc : X.calm = true) (B : BlkOk X scope vs fs js)
    (hg : ∀ C s H ex, PG (cxBlk X scope (vs ++ fs) C s H ex) tg g) (ht : ∀ C s H ex, PIfs (cxBlk X scope (vs ++ fs) C s H ex) ifs tt) (he : ∀ C s H ex, PE (cxBlk X scope (vs ++ fs) C s H ex) elt te)
    {it : Addr} {fp : List Addr} {tn : Nat → Heap → Prop} {J : It} {Q : VK} {E : Value → Shared → Prop} (I2 : Inv X pins σ H s) (T : Turn X.prog X.w X.K tg J fp it tn) (st2 : tn 0 s.heap) (f2 : ∀ b ∈ fp, FpOk X pins H b)
    (hW : ∀ D, H D = none → CompW J vs js σ g tt te Q D H)
    {RR : Value → Addr → Result → Shared → Prop}
    (hR : ∀ D C H' s', Inv X pins σ H' s' → (∃ m, s'.heap.Ns C m) → H' C = none → s.heap.objs.size ≤ C → Q (.ref D) H' → RR (.ref D) C (.ok .next) s') :
    wpAny (model X.prog X.w) X.A (newList []) (fun acc s₃ => wpAny (model X.prog X.w) X.A (newFunctionEnv scope X.env.globals (clOf X.env scope.names []) [] X.env.qual none .none (some X.env)) (fun cenv s₄ =>
      codeAny (model X.prog X.w) X.A (.compStart (.ListComp elt [⟨tg, iter, ifs, 0⟩] scope pos) 0 (.ref it) acc { cenv with scope := relabel scope X.env }) (RR acc cenv.locals) s₄) E s₃) E s := by
  have hfp : ∀ b ∈ fp, b < s.heap.objs.size := fun b hb => by
    obtain ⟨o, e, _⟩ := T.obj _ _ st2 b hb
    exact Heap.lt_size e
  refine wpAny_newObj_type (wpAny_newFunctionEnv B.cell (by intro y hy; simp at hy) (fun h₁ hns₁ hsb₁ => ?_) B.kind)
  dsimp only at hns₁ hsb₁ ⊢
  generalize hH2 : s.heap.push { cls := .type "list", dict := none, data := .seq ([] : List Value).toArray } = HH at hns₁ hsb₁ ⊢
  have hC : HH.objs.size = s.heap.objs.size + 1 := by rw [← hH2, Heap.size_push]
  have hlt : s.heap.objs.size < HH.objs.size := by rw [hC]; exact Nat.lt_succ_self _
  have old : ∀ b o, s.heap.get? b = some o → h₁.get? b = some o := fun b o e => hsb₁.extBut b o (Nat.ne_of_lt (Nat.lt_trans (Heap.lt_size e) hlt)) (Heap.get?_push_of_some _ (hH2 ▸ Heap.get?_push_of_some _ e))
  have hacc : h₁.get? s.heap.objs.size = some { cls := .type "list", data := .seq ([] : List Value).toArray } := hsb₁.extBut _ _ (Nat.ne_of_lt hlt) (Heap.get?_push_of_some _ (hH2 ▸ Heap.get?_push_size _ rfl))
  have I0 : Inv (cxBlk X scope (vs ++ fs) HH.objs.size s H fp) [] (blkSt vs js σ) (upd H s.heap.objs.size (.lst [])) { s with heap := h₁, toks := s.toks + ([] : List (Str × Value)).length } := blk_start I2 B f2 hfp hns₁ old rfl hlt hacc
  obtain ⟨W, ⟨m0, w0⟩, turn⟩ := hW s.heap.objs.size (I2.hok.fresh (Nat.le_refl _))
  have st1 : tn 0 h₁ := T.keep _ _ _ st2 fun b hb o e => old b o e
  have hch : ∀ b ∈ fp, (b ∈ X.ex ∨ X.s₀.heap.objs.size ≤ b) ∧ b ≠ X.env.locals ∧ (∀ x c, X.env.cells.lookup x = some c → c ≠ b) ∧ ∀ p ∈ X.pn ++ pins, p.1 ≠ b := fun b hb => by
    obtain ⟨_, a2, _, a4, a5, a6⟩ := f2 b hb
    exact ⟨a4, a2, a5, a6⟩
  have back : ∀ {pl : List (Addr × Obj)} {σ' : St} {H' : Hp} {s' : Shared}, Inv (cxBlk X scope (vs ++ fs) HH.objs.size s H fp) pl σ' H' s' → Inv X pins σ H' s' := fun {pl σ' H' s'} J' => I2.call' (ch := fp) J'.os J'.base J'.hok J'.bare hch
  have nD : ∀ b ∈ fp, b ≠ s.heap.objs.size := fun b hb => Nat.ne_of_lt (hfp b hb)
  have stat : ∀ {H' : Hp}, (∀ b ∈ fp, H' b = none) → ∀ b ∈ fp, FpOk (cxBlk X scope (vs ++ fs) HH.objs.size s H fp) [] H' b := fun {H'} hn b hb => by
    have z := I0.ok
    refine ⟨hn b hb, (z.exf b hb).1, z.exfs b hb, .inl hb, (z.exf b hb).2, fun p hp => absurd (show p ∈ ([] : List (Addr × Obj)) from hp) (by simp)⟩
  have loop : ∀ s₃ : Shared, s₃ = { s with heap := h₁, toks := s.toks + ([] : List (Str × Value)).length } →
      codeAny (model X.prog X.w) X.A (.compLoop (.ListComp elt [⟨tg, iter, ifs, 0⟩] scope pos) 0 (.ref it) (.ref s.heap.objs.size) (compEnvC scope (clOf X.env scope.names []) HH.objs.size X.env)) (RR (.ref s.heap.objs.size) HH.objs.size) s₃ := by
    rintro s₃ rfl
    refine codeAny_compLoop_gen (fun n s' => ∃ i σ' ys H', Inv (cxBlk X scope (vs ++ fs) HH.objs.size s H fp) [] σ' H' s' ∧ tn i s'.heap ∧ (∀ b ∈ fp, H' b = none) ∧ W i n σ' ys H') ?_ m0
      ⟨0, _, _, _, I0, st1, fun b hb => by rw [upd_ne (nD b hb)]; exact (f2 b hb).1, w0⟩
    rintro n s3 ⟨i, σ3, ys, H3, I3, st3, fr3, w3⟩
    rcases turn i n σ3 ys H3 w3 with ⟨stop, q⟩ | ⟨go, N, hN, step⟩
    · refine thn (T.done (cxBlk X scope (vs ++ fs) HH.objs.size s H fp) rfl rfl rfl hc i [] s3 σ3 H3 _ I3 (stat fr3) st3 stop) fun r s4 ⟨hr, I4⟩ => ?_
      subst hr
      obtain ⟨m, hm, _⟩ := I4.loc
      exact hR _ _ H3 s4 (back I4) ⟨m, hm⟩ I4.free (Nat.le_of_lt hlt) q
    · refine thn (T.item (cxBlk X scope (vs ++ fs) HH.objs.size s H fp) rfl rfl rfl hc i [] s3 σ3 H3 _ I3 (stat fr3) st3 go) fun r s4 ⟨u, hr, h4⟩ => ?_
      subst hr
      refine thn h4 fun _ s5 ⟨x, H5, I5, r5, y5, st5, fr5⟩ => ?_
      have I5' := I5.pinned (stat fr5) (T.obj _ _ st5)
      have again : ∀ {σ7 : St} {H7 : Hp} {s7 : Shared} {zs : List V}, Inv (cxBlk X scope (vs ++ fs) HH.objs.size s H fp) ([] ++ pinsAt fp s5.heap) σ7 H7 s7 → N σ7 zs H7 → ∃ m, m < n ∧ ∃ i σ' ys H', Inv (cxBlk X scope (vs ++ fs) HH.objs.size s H fp) [] σ' H' s7 ∧ tn i s7.heap ∧ (∀ b ∈ fp, H' b = none) ∧ W i m σ' ys H' := fun {σ7 H7 s7 zs} I7 n7 => by
        obtain ⟨m', hm, w7⟩ := hN σ7 zs H7 n7
        refine ⟨m', hm, i + 1, σ7, zs, H7, I7.unpinned, T.keep _ _ _ st5 fun b hb o e => (I7.pin (b, o) (List.mem_append_right _ (List.mem_append_right _ (mem_pinsAt hb e)))).1, fun b hb => ?_, w7⟩
        obtain ⟨o, e, d⟩ := T.obj _ _ st5 b hb
        exact (I7.pin (b, o) (List.mem_append_right _ (List.mem_append_right _ (mem_pinsAt hb e)))).2.1
      refine thn (hg _ _ _ _ _ s5 σ3 H5 x u _ I5' r5 (step x H5 y5)) fun _ s6 ⟨σ6, H6, I6, q6⟩ => ?_
      refine thn (ht _ _ _ _ _ s6 σ6 H6 _ I6 q6) fun ok s7 ⟨H7, I7, q7⟩ => ?_
      cases ok with
      | false =>
        rw [if_neg Bool.false_ne_true] at q7 ⊢
        exact again I7 q7
      | true =>
        rw [if_pos rfl] at q7 ⊢
        refine thn (he _ _ _ _ _ s7 σ6 H7 _ I7 q7) fun y s8 ⟨yv, H8, I8, r8, hD8, hz, n8⟩ => ?_
        refine thn (mt_append _ s8 σ6 H8 (.ref s.heap.objs.size) [yv] (.ref s.heap.objs.size) [y] (fun _ H9 => N σ6 (ys ++ [yv]) H9) I8 rfl (.cons r8 .nil) ⟨_, ys, yv, rfl, rfl, hD8, hz, n8⟩) fun _ s9 ⟨_, H9, I9, _, n9⟩ => ?_
        exact again I9 n9
  exact codeAny_compStart_list (loop _ rfl) (T.self X.A 0 _ _ _ st1 (loop _ rfl))

theorem pe_comp {tg iter elt : Expr} {ifs : List Expr} {pos : Pos} {wi : TI} {g : TG} {tt : TT} {te : TE} (hc : X.calm = true) (B : BlkOk X scope vs fs js) (hi : PI X tg iter wi)
    (hg : ∀ C s H ex, PG (cxBlk X scope (vs ++ fs) C s H ex) tg g) (ht : ∀ C s H ex, PIfs (cxBlk X scope (vs ++ fs) C s H ex) ifs tt) (he : ∀ C s H ex, PE (cxBlk X scope (vs ++ fs) C s H ex) elt te)
    (hs : ∀ x, foldedSetIterable iter X.env x = pure x := by intro _; rfl) : PE X (.ListComp elt [⟨tg, iter, ifs, 0⟩] scope pos) (tComp vs js wi g tt te) := by
  intro pins s σ H Q I h
  rw [eval_ListComp]
  refine wpAny_comprehension_free (use := none) rfl hs (closure_eq fun y hy hf => I.ok.has y.1 (B.free y hy hf)) B.kind B.names (thn (hi pins s σ H _ I h) fun v s1 h1 => thn h1 fun itv s2 h2 => ?_)
  obtain ⟨it, fp, tn, J, H2, e, I2, T, st2, f2, hW⟩ := h2
  subst e
  refine blk_run (RR := fun acc C => compPost (model X.prog X.w) X.A X.xe none (EP X pins σ Q) acc C) hc B hg ht he I2 T st2 f2 hW ?_
  intro D C H' s' I' hn hC hle q
  obtain ⟨m, hn⟩ := hn
  exact ⟨m, hn, fun h'' hs'' => ⟨.ref D, H', I2.goneC I' hC hle hs'', rfl, q⟩⟩

/-- x = [.. for ..]: the name is stored within the block's own end -/
theorem ps_setc {i : Nat} {y : Str} {py spos : Pos} {tg iter elt : Expr} {ifs : List Expr} {pos : Pos} {wi : TI} {g : TG} {tt : TT} {te : TE} (hN : X.N.Nodup) (hi' : X.N[i]? = some y) (hy : X.env.scope.names.lookup y = some .local) (hc : X.calm = true) (B : BlkOk X scope vs fs js) (hi : PI X tg iter wi)
    (hg : ∀ C s H ex, PG (cxBlk X scope (vs ++ fs) C s H ex) tg g) (ht : ∀ C s H ex, PIfs (cxBlk X scope (vs ++ fs) C s H ex) ifs tt) (he : ∀ C s H ex, PE (cxBlk X scope (vs ++ fs) C s H ex) elt te)
    (hsw : swapsWith (.ListComp elt [⟨tg, iter, ifs, 0⟩] scope pos) (some (.Name y py)) spos.line X.env = pure true := by rfl)
    (hs : ∀ x, foldedSetIterable iter X.env x = pure x := by intro _; rfl) : PS X (.Assign [.Name y py] (.ListComp elt [⟨tg, iter, ifs, 0⟩] scope pos) spos) (tAsg (tComp vs js wi g tt te) (gName i)) := by
  intro pins s σ H D I h
  rw [exec_Assign_Name_used _ _ _ _ hsw]
  refine wpAny_bind (wpAny_standAt (wpAny_bind ?_))
  show wpAny _ X.A (do let _ ← comprehension (.ListComp elt [⟨tg, iter, ifs, 0⟩] scope pos) scope X.env _ (newList []) false (eval iter X.env) (some (assign (.Name y py) X.env))) _ _ s
  refine wpAny_bind (wpAny_mono (wpAny_comprehension_free (use := some (assign (.Name y py) X.env)) (Q := fun _ s' => SP X pins D .next s') rfl hs (closure_eq fun y hy hf => I.ok.has y.1 (B.free y hy hf)) B.kind B.names
    (thn (hi pins s σ H _ I h) fun v s1 h1 => thn h1 fun itv s2 h2 => ?_)) (fun _ s' hq => wpAny_pure (wpAny_pure hq)) fun _ _ e => e)
  obtain ⟨it, fp, tn, J, H2, e, I2, T, st2, f2, hW⟩ := h2
  subst e
  refine blk_run (Q := fun x H1 => gName i x σ H1 D.nx) (RR := fun acc C => compPost (model X.prog X.w) X.A X.xe (some (assign (.Name y py) X.env)) (fun _ s' => SP X pins D .next s') acc C) hc B hg ht he I2 T st2 f2 hW ?_
  intro D' C H' s' I' hn hC hle q
  obtain ⟨m, hn⟩ := hn
  show wpAny _ X.A (assign (.Name y py) X.env (.ref D')) _ _ _
  refine wpAny_assign_Name (store_ok2 I' hN hi' (.inl hy) (v := .ref D') rfl (fun s'' I'' hsb => ?_) (.inr hy))
  obtain ⟨a, hsb, ha⟩ := hsb
  have nCa : C ≠ a := by
    rcases ha with z | z
    · rw [z]; exact Nat.ne_of_gt (Nat.lt_of_lt_of_le I2.lt hle)
    · obtain ⟨v, o, ho, _⟩ := I2.cell y a z
      exact Nat.ne_of_gt (Nat.lt_of_lt_of_le (Heap.lt_size ho) hle)
  exact ⟨m, hn.sameBut hsb nCa, fun h'' hs'' => ⟨_, H', I2.goneC I'' hC hle hs'', q⟩⟩
end

/-! ### the forms one uses -/
section
variable {vs : List Str} {js : List Nat} {σ : St} {g : TG} {tt : TT} {te : TE} {Q : VK}
/-- over a range -/
theorem comp_range {lo : Int} {n : Nat} {H : Hp} (Pv : Nat → St → List V → Hp → Prop) (D : Addr) (h0 : Pv 0 (blkSt vs js σ) [] (upd H D (.lst [])))
    (hs : ∀ i σ' ys H', i < n → Pv i σ' ys H' → g (.int (lo + i)) σ' H' fun σ3 H3 => tt σ3 H3 fun b H4 => if b = true then te σ3 H4 fun y H5 => H5 D = some (.lst ys) ∧ ys.length < sizeLine ∧ Pv (i + 1) σ3 (ys ++ [y]) (upd H5 D (.lst (ys ++ [y]))) else Pv (i + 1) σ3 ys H4)
    (hd : ∀ σ' ys H', Pv n σ' ys H' → Q (.ref D) H') :
    CompW (Itr lo n) vs js σ g tt te Q D H := by
  refine ⟨fun i m σ' ys H' => m = n - i ∧ i ≤ n ∧ Pv i σ' ys H', ⟨n, by simp, Nat.zero_le _, h0⟩, ?_⟩
  rintro i m σ' ys H' ⟨rfl, hi, p⟩
  by_cases hlt : i < n
  · refine .inr ⟨hlt, Pv (i + 1), fun σ2 zs H2 p' => ⟨n - (i + 1), by omega, rfl, hlt, p'⟩, fun x H2 y => ?_⟩
    obtain ⟨e, y⟩ := y
    subst e y
    exact hs i σ' ys _ hlt p
  · have e : i = n := by omega
    subst e
    exact .inl ⟨Nat.le_refl _, hd σ' ys H' p⟩
/-- over a list that stays -/
theorem comp_list {K : PySem.W.Frag} {a : Addr} {xs : List V} {H : Hp} (Pv : Nat → St → List V → Hp → Prop) (D : Addr) (h0 : Pv 0 (blkSt vs js σ) [] (upd H D (.lst []))) (hl : ∀ i σ' ys H', i ≤ xs.length → Pv i σ' ys H' → SqL K H' a xs)
    (hs : ∀ i x σ' ys H', xs[i]? = some x → Pv i σ' ys H' → g x σ' H' fun σ3 H3 => tt σ3 H3 fun b H4 => if b = true then te σ3 H4 fun y H5 => H5 D = some (.lst ys) ∧ ys.length < sizeLine ∧ Pv (i + 1) σ3 (ys ++ [y]) (upd H5 D (.lst (ys ++ [y]))) else Pv (i + 1) σ3 ys H4)
    (hd : ∀ σ' ys H', Pv xs.length σ' ys H' → Q (.ref D) H') :
    CompW (Itl K a) vs js σ g tt te Q D H := by
  refine ⟨fun i m σ' ys H' => m = xs.length - i ∧ i ≤ xs.length ∧ Pv i σ' ys H', ⟨xs.length, by simp, Nat.zero_le _, h0⟩, ?_⟩
  rintro i m σ' ys H' ⟨rfl, hi, p⟩
  have q := hl i σ' ys H' hi p
  by_cases hlt : i < xs.length
  · refine .inr ⟨⟨xs, xs[i], q, by simp [hlt]⟩, Pv (i + 1), fun σ2 zs H2 p' => ⟨xs.length - (i + 1), by omega, rfl, hlt, p'⟩, fun x H2 y => ?_⟩
    obtain ⟨e, y⟩ := y
    subst e
    exact hs i x σ' ys _ (y xs q) p
  · have e : i = xs.length := by omega
    subst e
    exact .inl ⟨⟨xs, q, Nat.le_refl _⟩, hd σ' ys H' p⟩
end
end L2

/-! Further rules, the bundle of a called def, and the steps of a reading. -/
namespace L2
open PySem PySem.Spec PyProof.Rows

/-! ### the built-in names -/
theorem bt_len : bootBuiltins "len" = some (.builtin "len") := by decide +kernel
theorem bt_abs : bootBuiltins "abs" = some (.builtin "abs") := by decide +kernel
theorem bt_max : bootBuiltins "max" = some (.builtin "max") := by decide +kernel
theorem bt_min : bootBuiltins "min" = some (.builtin "min") := by decide +kernel
theorem bt_isinstance : bootBuiltins "isinstance" = some (.builtin "isinstance") := by decide +kernel
theorem bt_sorted : bootBuiltins "sorted" = some (.builtin "sorted") := by decide +kernel
theorem bt_int : bootBuiltins "int" = some (.type "int") := by decide +kernel
theorem bt_bool : bootBuiltins "bool" = some (.type "bool") := by decide +kernel
theorem bt_list : bootBuiltins "list" = some (.type "list") := by decide +kernel
theorem bt_tuple : bootBuiltins "tuple" = some (.type "tuple") := by decide +kernel
theorem bt_dict : bootBuiltins "dict" = some (.type "dict") := by decide +kernel
theorem bt_range : bootBuiltins "range" = some (.type "range") := by decide +kernel
theorem bt_enumerate : bootBuiltins "enumerate" = some (.type "enumerate") := by decide +kernel
/-! ### a called def in one word -/
structure Cal (P : Program) (w : World) (K : PySem.W.Frag) (mg : Str → Option Value) (base : Heap) (x : Str) (ps : List Str) (k : Nat) (sp : Sp) : Prop where
  ex : ∃ (f : Addr) (fd : FuncData), FnOk P w K mg base CX0 k f fd ps sp ∧ Binds K fd ps [] ∧ mg x = some (.ref f) ∧ PySem.W.keepIn K (.ref f) = true
section
variable {X : Cx} {x : Str} {ps : List Str} {k : Nat} {sp : Sp} {e : Expr} {es : List Expr} {t : TA} {p pos : Pos}
theorem pcl (C : Cal X.prog X.w X.K X.mg X.base x ps k sp) (hr : Room k X.A) (ha : PA X (e :: es) t) (hg : Gl X x := by rfl) (hdb : (x == ("__debug__" : Str)) = false := by decide) (he : starEach (e :: es) X.env = (false, eval e X.env) :: starEach es X.env := by rfl) (hpl : (backTo pos (starEach es X.env)).any (·.1) = false := by rfl) :
    PE X (.Call (.Name x p) (e :: es) [] pos) (tCall sp [] E0 t) := by
  obtain ⟨f, fd, F, hb, hm, hk⟩ := C.ex
  exact pe_call F hr hg hm hk hb .nil pass0 ha hdb he hpl
end
theorem Cal.of {P : Program} {w : World} {K : PySem.W.Frag} {mg : Str → Option Value} {base : Heap} {x : Str} {st : Stmt} {f : Addr} {fd : FuncData} {N ps : List Str} {k : Nat} {sp : Sp} (F : Fun K x x st f fd) (mF : mg x = some (.ref f)) (bF : Binds K fd ps []) (S : FnScope N ps (defScope st)) (len : ∀ vs H Q E, sp vs H Q E → vs.length = ps.length)
    (hbody : ∀ (cdv : Value) (A : Around) (outer : List Env) (s : Shared) (H : Hp) (vs : List V) (Q : VK) (E : XK), Room k (A.deeper (envOfC x (defScope st) s.heap.objs.size f cdv)) → sp vs H Q E →
      ∃ t, PSs (cxOf CX0 P w K mg base N x (defScope st) f cdv A outer s H E).nox (defBody st) t ∧ t { nx := fun _ H' => Q .non H', rt := Q } (start N vs) H) : Cal P w K mg base x ps (k + 1) sp :=
  ⟨f, fd, F.ok S len hbody, bF, mF, F.kp⟩

/-! ### blocks by a decision -/
def blkB (sc scope : Scope) (N vs fs : List Str) (js : List Nat) : Bool :=
  (scope.kind == .function) && scope.names.all (fun y => y.2 != .cell) && scope.names.all (fun y => y.2 != .local || scope.names.lookup y.1 == some .local) &&
  scope.names.all (fun y => y.2 != .free || sc.names.lookup y.1 == some .cell || sc.names.lookup y.1 == some .free) && vs.all (fun y => scope.names.lookup y == some .local) && fs.all (fun y => scope.names.lookup y == some .free) &&
  (js.map (fun j => N[j]?) == fs.map some)
theorem blkOk {X : Cx} {sc scope : Scope} {N vs fs : List Str} {js : List Nat} (h : blkB sc scope N vs fs js = true) (hs : X.env.scope = sc) (hN : X.N = N) : BlkOk X scope vs fs js := by
  unfold blkB at h
  simp only [Bool.and_eq_true, List.all_eq_true, beq_iff_eq, bne_iff_ne, Bool.or_eq_true] at h
  obtain ⟨⟨⟨⟨⟨⟨h1, h2⟩, h3⟩, h4⟩, h5⟩, h6⟩, h7⟩ := h
  refine ⟨h1, h2, fun y hy hl => ?_, fun y hy hf => ?_, h5, h6, ?_⟩
  · rcases h3 y hy with z | z
    · exact absurd hl z
    · exact z
  · unfold Env.kindOf
    rw [hs]
    rcases h4 y hy with (z | z) | z
    · exact absurd hf z
    · exact .inl z
    · exact .inr z
  · rw [hN]; exact h7

/-! ### a join behind a statement -/
def tCut (t : TS) : TS := fun D σ H => ∃ R : St → Hp → Prop, t { D with nx := R } σ H ∧ ∀ σ' H', R σ' H' → D.nx σ' H'
theorem ps_cut {X : Cx} {st : Stmt} {t : TS} (h : PS X st t) : PS X st (tCut t) := by
  intro pins s σ H D I hw
  obtain ⟨R, h1, h2⟩ := hw
  refine thn (h pins s σ H _ I h1) fun f s' q => ?_
  cases f with
  | next =>
    obtain ⟨σ', H', I', q⟩ := q
    exact ⟨σ', H', I', h2 _ _ q⟩
  | brk => exact q
  | cont => exact q
  | ret u => exact q
/-! ### rules -/
section
variable {X : Cx}
def CDivB (i j : Int) : Prop := 0 < j ∧ j < 2 ^ 100
theorem op_fdivB : OpR X (binaryOp .FloorDiv) (rI CDivB fun i j => .int (i / j)) := opI fun i j _ _ _ _ _ hc q => by
  have h1 : (0 : Int) < j := hc.1
  have h2 : j < 2 ^ 100 := hc.2
  refine floordiv_int (by omega) (by rw [Int.fdiv_eq_ediv_of_nonneg i (by omega)]; exact q) (.inl (PyProof.noPylong_of_log2 ?_))
  have h0 : j.natAbs ≠ 0 := by omega
  have h3 : j.natAbs.log2 < 100 := (Nat.log2_lt h0).mpr (by omega)
  omega
/-- a written power -/
theorem pe_powC {a b c : Int} {j1 j2 : Nat} {p1 p2 pos : Pos} (h : a ^ b.toNat = c) (h1 : CPow a b) : PE X (.BinOp (.Constant (.int a) j1 p1) .Pow (.Constant (.int b) j2 p2) pos) (tC (.int c)) := by
  intro pins s σ H Q I q
  subst h
  exact pe_op op_pow pe_int pe_int pins s σ H Q I ⟨a, b, rfl, rfl, h1, q⟩
/-- xs[i] by values -/
theorem get_list : PGet X (rIxL X.K) := by
  intro pins s σ H x y v u Q I rx ry h
  obtain ⟨p, xs, i, z, rfl, rfl, hq, he, q⟩ := h
  cases rx
  obtain ⟨t, rfl⟩ := ry
  obtain ⟨its, r, pl, hz⟩ := I.list hq
  obtain ⟨j, h1, h2, h3, h4, h5⟩ := atI_get he
  obtain ⟨w, ew, rw'⟩ := r.get h2
  have hl := r.length
  have hn := line63
  have fin : EP X pins σ Q w s := ⟨z, H, I, rw', q⟩
  by_cases h0 : 0 ≤ i
  · have hj : i.toNat = j := by
      rw [seqIndex_of h0 h5] at h1
      exact Option.some.inj h1
    exact wpAny_getItem_list pl.isList h0 (by omega) (by rw [hj]; simpa using ew) fin
  · have hj : (i + (its.toArray.size : Int)).toNat = j := by
      rw [seqIndex_neg (by omega) h4] at h1
      rw [List.size_toArray, ← hl]
      exact Option.some.inj h1
    exact wpAny_getItem_list_neg pl.isList (by omega) (by rw [List.size_toArray] <;> omega) (by omega) (by rw [hj]; simpa using ew) fin
/-- n.bit_length() -/
def rBitLen : V → List V → Hp → VK → Prop := fun x vs H Q => ∃ i, x = .int i ∧ vs = [] ∧ Q (.int (Builtin.Int.intBits i : Nat)) H
theorem mt_bitlen : MtR X "int.bit_length" rBitLen := by
  intro pins s σ H x xs v us Q I rx rs h
  obtain ⟨i, rfl, rfl, q⟩ := h
  obtain ⟨t, rfl⟩ := rx
  cases rs
  exact call_int_bit_length ⟨.int _, H, I.tok _, ⟨_, rfl⟩, q⟩
/-- len, abs, max, min by names of their own -/
def rLenL (K : PySem.W.Frag) : List V → Hp → VK → Prop := fun xs H Q => ∃ p ys, xs = [.ref p] ∧ (SqL K H p ys ∨ SqT K H p ys) ∧ Q (.int ys.length) H
theorem call_lenL : CallR X (.builtin "len") (rLenL X.K) := call_len_seq
def rAbs1 : List V → Hp → VK → Prop := fun xs H Q => ∃ i, xs = [.int i] ∧ Q (.int (if i < 0 then -i else i)) H
theorem call_abs1 : CallR X (.builtin "abs") rAbs1 := call_abs
def rMaxI : List V → Hp → VK → Prop := fun xs H Q => ∃ i j, xs = [.int i, .int j] ∧ Q (.int (if j > i then j else i)) H
theorem call_maxI (hc : X.calm = true) : CallR X (.builtin "max") rMaxI := call_max2 hc
def rMinI : List V → Hp → VK → Prop := fun xs H Q => ∃ i j, xs = [.int i, .int j] ∧ Q (.int (if j < i then j else i)) H
theorem call_minI (hc : X.calm = true) : CallR X (.builtin "min") rMinI := call_min2 hc
/-- isinstance(x, T), T a built-in type -/
def rIsi (K : PySem.W.Frag) : List V → Hp → VK → Prop := fun xs H Q => ∃ x t T b, xs = [x, .ty T] ∧ TyOf K H x t ∧ PySem.W.kitOne K t (.type T) = some b ∧ Q (.bl b) H
theorem call_isinst : CallR X (.builtin "isinstance") (rIsi X.K) := by
  intro pins s σ H xs us Q I r h
  obtain ⟨x, t, T, b, rfl, ty, e, q⟩ := h
  obtain ⟨u, w', rfl, r1, r2⟩ := vals2 r
  cases (show w' = Value.type T from r2)
  exact isinst_ok I r1 ty e fun tk => ⟨.bl b, H, I.tok _, rfl, q⟩
end

/-! ### steps of a reading -/
section
variable {σ : St} {H : Hp} {Q : VK} {D : Ends}
theorem rd_var {i : Nat} {v : V} (h : σ[i]? = some (some v)) (q : Q v H) : tVar i σ H Q := ⟨v, h, q⟩
theorem rd_c {v : V} (q : Q v H) : tC v σ H Q := q
theorem rd_op {r : R2} {ta tb : TE} (h : ta σ H fun x H1 => tb σ H1 fun y H2 => r x y H2 Q) : tOp r ta tb σ H Q := h
theorem rd_un {r : V → Hp → VK → Prop} {ta : TE} (h : ta σ H fun x H1 => r x H1 Q) : tUn r ta σ H Q := h
theorem rd_I0 {g : Int → Int → V} {i j : Int} (q : Q (g i j) H) : rI0 g (.int i) (.int j) H Q := ⟨i, j, rfl, rfl, q⟩
theorem rd_I {C : Int → Int → Prop} {g : Int → Int → V} {i j : Int} (c : C i j) (q : Q (g i j) H) : rI C g (.int i) (.int j) H Q := ⟨i, j, rfl, rfl, c, q⟩
theorem rd_U {g : Int → V} {i : Int} (q : Q (g i) H) : rU g (.int i) H Q := ⟨i, rfl, q⟩
theorem dec_int' {i j : Int} : decide (V.int i = V.int j) = decide (i = j) := by
  rw [Bool.eq_iff_iff]; simp
theorem rd_eqI {i j : Int} (q : Q (.bl (decide (i = j))) H) : rEq (.int i) (.int j) H Q := ⟨rfl, by rw [dec_int']; exact q⟩
theorem rd_neI {i j : Int} (q : Q (.bl (!decide (i = j))) H) : rNe (.int i) (.int j) H Q := ⟨rfl, by rw [dec_int']; exact q⟩
theorem rd_bl {c : Bool} {P : Bool → Prop} (h : P c) : ∃ k, V.bl c = V.bl k ∧ P k := ⟨c, rfl, h⟩
theorem rd_test {t : TE} {R : Bool → Hp → Prop} (h : t σ H fun x H' => ∃ k, x = .bl k ∧ R k H') : tTest t σ H R := h
theorem rd_tB {t : TE} {R : Bool → Hp → Prop} (h : t σ H fun x H' => ∃ k, x = .bl k ∧ R k H') : tB t σ H R := h
theorem rd_and {t u : TT} {R : Bool → Hp → Prop} (h : t σ H fun c H1 => if c = true then u σ H1 R else R false H1) : tAnd t u σ H R := h
theorem rd_or {t u : TT} {R : Bool → Hp → Prop} (h : t σ H fun c H1 => if c = true then R true H1 else u σ H1 R) : tOr t u σ H R := h
theorem rd_not {t : TT} {R : Bool → Hp → Prop} (h : t σ H fun c H1 => R (!c) H1) : tNot t σ H R := h
theorem rd_andV {ta tb : TE} (h : ta σ H fun x H1 => ∃ c, x = .bl c ∧ if c = true then tb σ H1 Q else Q (.bl false) H1) : tAndV ta tb σ H Q := h
theorem rd_notV {ta : TE} (h : ta σ H fun x H1 => ∃ c, x = .bl c ∧ Q (.bl (!c)) H1) : tNotV ta σ H Q := h
theorem rd_chain {r r' : R2} {ta tb tc : TE} (h : ta σ H fun x H1 => tb σ H1 fun y H2 => r x y H2 fun z H3 => ∃ k, z = .bl k ∧ (if k = true then tc σ H3 fun w' H4 => r' y w' H4 Q else Q (.bl false) H3)) : tChain r r' ta tb tc σ H Q := h
theorem rd_ifE {t : TT} {ta tb : TE} (h : t σ H fun c H1 => if c = true then ta σ H1 Q else tb σ H1 Q) : tIf t ta tb σ H Q := h
theorem rd_nil {R : List V → Hp → Prop} (h : R [] H) : tNil σ H R := h
theorem rd_cons {ta : TE} {tr : TA} {R : List V → Hp → Prop} (h : ta σ H fun x H1 => tr σ H1 fun xs H2 => R (x :: xs) H2) : tCons ta tr σ H R := h
theorem rd_call {sp : Sp} {dvs : List V} {E : XK} {t : TA} (h : t σ H fun vs H1 => sp (vs ++ dvs) H1 Q E) : tCall sp dvs E t σ H Q := h
theorem rd_cb {r : List V → Hp → VK → Prop} {t : TA} (h : t σ H fun vs H1 => r vs H1 Q) : tCB r t σ H Q := h
theorem rd_lst {t : TA} (h : t σ H fun xs H1 => xs.length ≤ sizeLine ∧ ∀ p, H1 p = none → Q (.ref p) (upd H1 p (.lst xs))) : tLst t σ H Q := h
theorem rd_tup {t : TA} (h : t σ H fun xs H1 => xs.length ≤ sizeLine ∧ ∀ p, H1 p = none → Q (.ref p) (upd H1 p (.tup xs))) : tTup t σ H Q := h
theorem rd_seq {t u : TS} (h : t { D with nx := u D } σ H) : tSeq t u D σ H := h
theorem rd_asg {te : TE} {g : TG} (h : te σ H fun x H1 => g x σ H1 D.nx) : tAsg te g D σ H := h
theorem rd_gname {i : Nat} {v : V} {R : St → Hp → Prop} (h : R (σ.set i (some v)) H) : gName i v σ H R := h
theorem rd_ret {te : TE} (h : te σ H D.rt) : tRet te D σ H := h
theorem rd_next (h : D.nx σ H) : tNext D σ H := h
theorem rd_drop {te : TE} (h : te σ H fun _ H1 => D.nx σ H1) : tDrop te D σ H := h
theorem rd_ifS {c : TT} {t u : TS} (h : c σ H fun b H1 => if b = true then t D σ H1 else u D σ H1) : tIfS c t u D σ H := h
theorem rd_ixL {K : PySem.W.Frag} {p : Addr} {xs : List V} {i : Int} {v : V} (h : SqL K H p xs) (e : atI xs i = some v) (q : Q v H) : rIxL K (.ref p) (.int i) H Q := ⟨p, xs, i, v, rfl, rfl, h, e, q⟩
theorem rd_bm0 {K : PySem.W.Frag} {T : String} {r : V → List V → Hp → VK → Prop} {to : TE} (h : to σ H fun x H1 => tyV K T x H1 ∧ r x [] H1 Q) : tBM0 K T r to σ H Q := h
theorem rd_bm {K : PySem.W.Frag} {T : String} {r : V → List V → Hp → VK → Prop} {to : TE} {t : TA} (h : to σ H fun x H1 => tyV K T x H1 ∧ t σ H1 fun xs H2 => r x xs H2 Q) : tBM K T r to t σ H Q := h
theorem rd_augS {to ti te : TE} {tget : V → V → Hp → VK → Prop} {tip : TIp} {tset : TSet} (h : to σ H fun o H1 => ti σ H1 fun i H2 => tget o i H2 fun x H3 => te σ H3 fun y H4 => tip x y H4 fun z H5 => tset o i z H5 fun H6 => D.nx σ H6) : tAugS to ti te tget tip tset D σ H := h
theorem rd_ip {f : Int → Int → Int} {i j : Int} (q : Q (.int (f i j)) H) : ipI f (.int i) (.int j) H Q := ⟨i, j, rfl, rfl, q⟩
theorem rd_set0 {p : Addr} {a : V} {r : List V} {v : V} {R : Hp → Prop} (h : H p = some (.lst (a :: r))) (q : R (upd H p (.lst (v :: r)))) : rSetL (.ref p) (.int 0) v H R :=
  ⟨p, _, 0, 0, rfl, rfl, h, by unfold ixN; rw [if_pos (by decide), if_pos (by rw [List.length_cons]; omega)]; rfl, q⟩
theorem rd_set1 {p : Addr} {a b : V} {r : List V} {v : V} {R : Hp → Prop} (h : H p = some (.lst (a :: b :: r))) (q : R (upd H p (.lst (a :: v :: r)))) : rSetL (.ref p) (.int 1) v H R :=
  ⟨p, _, 1, 1, rfl, rfl, h, by unfold ixN; rw [if_pos (by decide), if_pos (by rw [List.length_cons, List.length_cons]; omega)]; rfl, q⟩
theorem rd_gsub {to ti : TE} {t : TSet} {v : V} {R : St → Hp → Prop} (h : to σ H fun o H1 => ti σ H1 fun i H2 => t o i v H2 fun H3 => R σ H3) : gSub to ti t v σ H R := h
theorem rd_sl {r : V → Option Int → Option Int → Hp → VK → Prop} {te : TE} {tl th : TO} (h : te σ H fun x H1 => tl σ H1 fun l H2 => th σ H2 fun u H3 => r x l u H3 Q) : tSl r te tl th σ H Q := h
theorem rd_nop {R : Option Int → Hp → Prop} (h : R none H) : tNoPart σ H R := h
theorem rd_part {t : TE} {R : Option Int → Hp → Prop} (h : t σ H fun x H1 => ∃ i, x = .int i ∧ R (some i) H1) : tPart t σ H R := h
theorem rd_int {i : Int} {P : Int → Prop} (h : P i) : ∃ k, V.int i = V.int k ∧ P k := ⟨i, rfl, h⟩
theorem rd_slL {K : PySem.W.Frag} {a : Addr} {xs : List V} {lo hi : Option Int} (h : SqL K H a xs) (q : ∀ p, H p = none → Q (.ref p) (upd H p (.lst (cutV xs lo hi)))) : rSlL K (.ref a) lo hi H Q := ⟨a, xs, rfl, h, q⟩
theorem rd_lenL {K : PySem.W.Frag} {a : Addr} {ys : List V} (h : SqL K H a ys) (q : Q (.int ys.length) H) : rLenL K [.ref a] H Q := ⟨a, ys, rfl, .inl h, q⟩
theorem rd_abs {i : Int} (q : Q (.int (if i < 0 then -i else i)) H) : rAbs1 [.int i] H Q := ⟨i, rfl, q⟩
theorem rd_max {i j : Int} (q : Q (.int (max i j)) H) : rMaxI [.int i, .int j] H Q := ⟨i, j, rfl, by
  have e : (if j > i then j else i) = max i j := by omega
  rw [e]; exact q⟩
theorem rd_min {i j : Int} (q : Q (.int (min i j)) H) : rMinI [.int i, .int j] H Q := ⟨i, j, rfl, by
  have e : (if j < i then j else i) = min i j := by omega
  rw [e]; exact q⟩
theorem rd_isi {K : PySem.W.Frag} {x : V} {t : Value} {T : String} {b : Bool} (h : TyOf K H x t) (e : PySem.W.kitOne K t (.type T) = some b) (q : Q (.bl b) H) : rIsi K [x, .ty T] H Q := ⟨x, t, T, b, rfl, h, e, q⟩
theorem rd_bitlen {i : Int} (q : Q (.int (Builtin.Int.intBits i : Nat)) H) : rBitLen (.int i) [] H Q := ⟨i, rfl, rfl, q⟩
theorem rd_if {c : Prop} [Decidable c] {A B : Prop} (h1 : c → A) (h2 : ¬ c → B) : if decide c = true then A else B := by
  by_cases h : c
  · rw [decide_eq_true h, if_pos rfl]; exact h1 h
  · rw [decide_eq_false h, if_neg Bool.false_ne_true]; exact h2 h
theorem rd_for {wi : TI} {g : TG} {tb : TS} (h : wi σ H fun J H1 => ∃ W : Nat → Nat → St → Hp → Prop, (∃ m, W 0 m σ H1) ∧ ∀ i m σ H, W i m σ H →
  (J.stop i H ∧ D.nx σ H) ∨ (J.go i H ∧ ∃ N : St → Hp → Prop, (∀ σ' H', N σ' H' → ∃ m', m' < m ∧ W (i + 1) m' σ' H') ∧ ∀ x H', J.yld i H x H' → g x σ H' fun σ2 H2 => tb { D with nx := N, ct := N, bk := D.nx } σ2 H2)) : tFor wi g tb D σ H := h
theorem rd_rng1 {ta : TA} {R : It → Hp → Prop} (h : ta σ H fun vs H1 => ∃ j : Int, vs = [.int j] ∧ -(2 ^ 62) ≤ j ∧ j < 2 ^ 62 ∧ R (Itr 0 j.toNat) H1) : iRng1 ta σ H R := h
theorem rd_ilist {K : PySem.W.Frag} {tl : TE} {R : It → Hp → Prop} (h : tl σ H fun x H1 => ∃ a, x = .ref a ∧ (∃ xs, SqL K H1 a xs) ∧ R (Itl K a) H1) : iList K tl σ H R := h
theorem rd_comp {vs : List Str} {js : List Nat} {wi : TI} {g : TG} {tt : TT} {te : TE} (h : wi σ H fun J H1 => ∀ D, H1 D = none → CompW J vs js σ g tt te Q D H1) : tComp vs js wi g tt te σ H Q := h
theorem rd_yes {R : Bool → Hp → Prop} (h : R true H) : tYes σ H R := h
theorem rd_iteT {A B : Prop} (h : A) : if true = true then A else B := iteT h
theorem rd_iteF {A B : Prop} (h : B) : if false = true then A else B := iteF h
theorem rd_iteNF {A B : Prop} (h : A) : if (!false) = true then A else B := iteT h
theorem rd_iteNT {A B : Prop} (h : B) : if (!true) = true then A else B := iteF h
theorem cut_lo {ms : List Int} {k : Nat} : cutV (ms.map V.int) (some (k : Int)) none = (ms.drop k).map V.int := by
  unfold cutV
  rw [HT.sIx_nat, HT.sIx_none, List.length_map, ← List.map_drop]
  by_cases h : k ≤ ms.length
  · rw [Nat.min_eq_left h, List.take_of_length_le (by rw [List.length_map, List.length_drop]; omega)]
  · rw [List.drop_eq_nil_of_le (by omega : ms.length ≤ min k ms.length), List.drop_eq_nil_of_le (by omega : ms.length ≤ k)]
    simp
theorem cut_hi {ms : List Int} {k : Nat} : cutV (ms.map V.int) none (some (k : Int)) = (ms.take k).map V.int := by
  unfold cutV
  rw [HT.sIx_nat, HT.sIx_none, List.length_map, List.drop_zero, Nat.sub_zero, ← List.map_take]
  by_cases h : k ≤ ms.length
  · rw [Nat.min_eq_left h]
  · rw [Nat.min_eq_right (by omega), List.take_of_length_le (Nat.le_refl _), List.take_of_length_le (by omega)]
theorem same_new {H : Hp} {p : Addr} (h : H p = none) (o : HO) : Same H (upd H p o) := fun b u q => by rw [upd_ne (ne_of_none q h)]; exact q
end
end L2


/-! Data that are read through the heap, and == of them. -/
namespace L2
open PySem PySem.Spec PyProof.Rows
mutual
inductive DV (K : PySem.W.Frag) (H : Hp) : V → PyData → Prop
  | non : DV K H .non .none
  | bl (b : Bool) : DV K H (.bl b) (.bool b)
  | int (i : Int) : DV K H (.int i) (.int i)
  | str (x : Str) : DV K H (.str x) (.str x)
  | lst {a : Addr} {xs : List V} {ds : List PyData} : SqL K H a xs → DVs K H xs ds → DV K H (.ref a) (.list ds)
  | tup {a : Addr} {xs : List V} {ds : List PyData} : SqT K H a xs → DVs K H xs ds → DV K H (.ref a) (.tuple ds)
inductive DVs (K : PySem.W.Frag) (H : Hp) : List V → List PyData → Prop
  | nil : DVs K H [] []
  | cons {x : V} {d : PyData} {xs : List V} {ds : List PyData} : DV K H x d → DVs K H xs ds → DVs K H (x :: xs) (d :: ds)
end
section
variable {X : Cx} {pins : List (Addr × Obj)} {σ : St} {H : Hp} {s : Shared}
mutual
theorem DV.reads (I : Inv X pins σ H s) : ∀ {x : V} {d : PyData} {v : Value}, DV X.K H x d → RelV x v → ∃ as, Reads s.heap v d as
  | _, _, _, .non, r => by cases r; exact ⟨_, .none⟩
  | _, _, _, .bl b, r => by cases r; exact ⟨_, .bool b⟩
  | _, _, _, .int i, r => by obtain ⟨t, rfl⟩ := r; exact ⟨_, .int i t⟩
  | _, _, _, .str x, r => by obtain ⟨t, rfl⟩ := r; exact ⟨_, .str x t⟩
  | _, _, _, .lst (a := a) h ds, r => by
    cases r
    obtain ⟨its, rv, ⟨o, n, e, c, _, d⟩, _⟩ := I.list h
    obtain ⟨as, q⟩ := DVs.reads I ds rv
    exact ⟨_, .list e c d (by simpa using q)⟩
  | _, _, _, .tup (a := a) h ds, r => by
    cases r
    obtain ⟨its, rv, ⟨o, e, c, n, d⟩, _⟩ := I.tuple h
    obtain ⟨as, q⟩ := DVs.reads I ds rv
    exact ⟨_, .tuple e c d (by simpa using q)⟩
theorem DVs.reads (I : Inv X pins σ H s) : ∀ {xs : List V} {ds : List PyData} {vs : List Value}, DVs X.K H xs ds → Vals xs vs → ∃ as, ReadsAll s.heap vs ds as
  | _, _, _, .nil, r => by cases r; exact ⟨_, .nil⟩
  | _, _, _, .cons h t, r => by
    cases r with
    | cons r1 r2 =>
      obtain ⟨as, q⟩ := DV.reads I h r1
      obtain ⟨bs, p⟩ := DVs.reads I t r2
      exact ⟨_, .cons q p⟩
end
end
theorem DVs.ints {K : PySem.W.Frag} {H : Hp} : ∀ ns : List Int, DVs K H (ns.map V.int) (ns.map PyData.int)
  | [] => .nil
  | n :: r => .cons (.int n) (DVs.ints r)
theorem lay_ints : ∀ ns : List Int, PyData.canLayAll0 (ns.map PyData.int) = true ∧ PyData.depthAll (ns.map PyData.int) = 0
  | [] => ⟨rfl, rfl⟩
  | n :: r => by
    obtain ⟨h1, h2⟩ := lay_ints r
    simp [PyData.canLayAll0, PyData.canLay0, PyData.depthAll, PyData.depth, h1, h2]
theorem shaped_ints (ns : List Int) : SeqAt.shaped (.list (ns.map PyData.int)) = true := by
  obtain ⟨h1, h2⟩ := lay_ints ns
  simp [SeqAt.shaped, PyData.canLay0, PyData.depth, h1, h2]
theorem eqv_ints : ∀ ns ms : List Int, PyData.eqvAll (ns.map PyData.int) (ms.map PyData.int) = decide (ns = ms)
  | [], [] => rfl
  | [], _ :: _ => rfl
  | _ :: _, [] => rfl
  | n :: ns, m :: ms => by
    rw [List.map_cons, List.map_cons, PyData.eqvAll, PyData.eqv, eqv_ints ns ms, Bool.eq_iff_iff]
    simp
section
variable {X : Cx}
def rEqD (K : PySem.W.Frag) : R2 := fun x y H Q => ∃ d e, DV K H x d ∧ DV K H y e ∧ SeqAt.shaped d = true ∧ SeqAt.shaped e = true ∧ Q (.bl (PyData.eqv d e)) H
def rNeD (K : PySem.W.Frag) : R2 := fun x y H Q => ∃ d e, DV K H x d ∧ DV K H y e ∧ SeqAt.shaped d = true ∧ SeqAt.shaped e = true ∧ Q (.bl (!PyData.eqv d e)) H
theorem op_eqD (hu : X.A.units + 64 < cLine) : OpR X (compareOp .Eq) (rEqD X.K) := by
  intro pins s σ H x y v u Q I rx ry h
  obtain ⟨d, e, h1, h2, h3, h4, q⟩ := h
  obtain ⟨as, r1⟩ := h1.reads I rx
  obtain ⟨bs, r2⟩ := h2.reads I ry
  exact eq_dataH r1 r2 h3 h4 hu ⟨.bl _, H, I, rfl, q⟩
theorem op_neD (hu : X.A.units + 64 < cLine) : OpR X (compareOp .NotEq) (rNeD X.K) := by
  intro pins s σ H x y v u Q I rx ry h
  obtain ⟨d, e, h1, h2, h3, h4, q⟩ := h
  obtain ⟨as, r1⟩ := h1.reads I rx
  obtain ⟨bs, r2⟩ := h2.reads I ry
  exact ne_dataH r1 r2 h3 h4 hu ⟨.bl _, H, I, rfl, q⟩
end
end L2

/-! sum, all, any of lists; module ints; tuples walked. -/
namespace L2
open PySem PySem.Spec PyProof.Rows
section
variable {X : Cx}
def rSumL (K : PySem.W.Frag) : List V → Hp → VK → Prop := fun xs H Q => ∃ a ns, xs = [.ref a] ∧ SqL K H a (List.map V.int ns) ∧ Q (.int (List.sum ns)) H
def rAllL (K : PySem.W.Frag) : List V → Hp → VK → Prop := fun xs H Q => ∃ a bs, xs = [.ref a] ∧ SqL K H a (List.map V.bl bs) ∧ Q (.bl (bs.all id)) H
def rAnyL (K : PySem.W.Frag) : List V → Hp → VK → Prop := fun xs H Q => ∃ a bs, xs = [.ref a] ∧ SqL K H a (List.map V.bl bs) ∧ Q (.bl (bs.any id)) H
end
/-! ### the same rules with the written part named: within a block -/
section
variable {X : Cx} {K : PySem.W.Frag}
theorem ix_tupK (h : X.K = K) : IxR X (rIxT K) := by subst h; exact ix_tup
end
section
variable {σ : St} {H : Hp} {Q : VK} {D : Ends}
theorem rd_ixT {K : PySem.W.Frag} {p : Addr} {xs : List V} {i : Int} {v : V} (h : SqT K H p xs) (e : atI xs i = some v) (q : Q v H) : rIxT K (.ref p) (.int i) H Q := ⟨p, xs, i, v, rfl, rfl, h, e, q⟩
end
end L2

namespace L2
open PySem PySem.Spec PyProof.Rows

/-! ### lists of pairs as tables -/
section
variable {κ : Type} [DecidableEq κ]
def valV (kvs : List (κ × V)) (k : κ) : Option V := (kvs.find? fun kv => decide (kv.1 = k)).map (·.2)
/-- in its place, or at the end -/
def putK (kvs : List (κ × V)) (k : κ) (v : V) : List (κ × V) :=
  if (kvs.any fun kv => decide (kv.1 = k)) = true then kvs.map (fun kv => if kv.1 = k then (kv.1, v) else kv) else kvs ++ [(k, v)]
def dropK (kvs : List (κ × V)) (k : κ) : List (κ × V) := kvs.filter fun kv => decide (kv.1 ≠ k)

theorem valV_pos {p : κ × V} {r : List (κ × V)} {k : κ} (e : p.1 = k) : valV (p :: r) k = some p.2 := by simp [valV, List.find?_cons, e]
theorem valV_neg {p : κ × V} {r : List (κ × V)} {k : κ} (e : ¬ p.1 = k) : valV (p :: r) k = valV r k := by simp [valV, List.find?_cons, e]
theorem valV_any (k : κ) : ∀ kvs : List (κ × V), (kvs.any fun kv => decide (kv.1 = k)) = (valV kvs k).isSome
  | [] => rfl
  | p :: r => by
    rw [List.any_cons]
    by_cases e : p.1 = k
    · simp only [valV_pos e, decide_eq_true e, Bool.true_or, Option.isSome_some]
    · rw [valV_neg e, decide_eq_false e, Bool.false_or]; exact valV_any k r
theorem valV_map (k j : κ) (y : V) : ∀ kvs : List (κ × V), valV (kvs.map fun kv => if kv.1 = k then (kv.1, y) else kv) j = (valV kvs j).map fun x => if j = k then y else x
  | [] => rfl
  | p :: r => by
    have ih := valV_map k j y r
    rw [List.map_cons]
    by_cases h : p.1 = k
    · rw [if_pos h]
      by_cases e : p.1 = j
      · rw [valV_pos (p := (p.1, y)) e, valV_pos e, Option.map_some, if_pos (e.symm.trans h)]
      · rw [valV_neg (p := (p.1, y)) e, valV_neg e, ih]
    · rw [if_neg h]
      by_cases e : p.1 = j
      · rw [valV_pos (p := p) e, valV_pos e, Option.map_some, if_neg (fun z => h (e.trans z))]
      · rw [valV_neg (p := p) e, valV_neg e, ih]
theorem valV_snoc (k j : κ) (y : V) : ∀ kvs : List (κ × V), valV kvs k = none → valV (kvs ++ [(k, y)]) j = if j = k then some y else valV kvs j
  | [], _ => by
    by_cases e : k = j
    · rw [if_pos e.symm]; exact valV_pos (p := (k, y)) e
    · rw [if_neg (fun z => e z.symm)]; exact valV_neg (p := (k, y)) e
  | p :: r, hn => by
    rw [List.cons_append]
    have hk : ¬ p.1 = k := fun z => by rw [valV_pos z] at hn; cases hn
    rw [valV_neg hk] at hn
    have ih := valV_snoc k j y r hn
    by_cases e : p.1 = j
    · rw [valV_pos e, valV_pos e, if_neg (fun z => hk (e.trans z))]
    · rw [valV_neg e, valV_neg e, ih]
theorem valV_put (kvs : List (κ × V)) (k j : κ) (y : V) : valV (putK kvs k y) j = if j = k then some y else valV kvs j := by
  unfold putK
  by_cases a : (kvs.any fun kv => decide (kv.1 = k)) = true
  · rw [if_pos a, valV_map]
    rw [valV_any] at a
    by_cases e : j = k
    · obtain ⟨x, hx⟩ := Option.isSome_iff_exists.mp a
      rw [if_pos e, e, hx, Option.map_some, if_pos rfl]
    · rw [if_neg e]
      cases valV kvs j with
      | none => rfl
      | some x => rw [Option.map_some, if_neg e]
  · rw [if_neg a]
    refine valV_snoc k j y kvs ?_
    rw [valV_any] at a
    cases q : valV kvs k with
    | none => rfl
    | some x => rw [q] at a; exact (a rfl).elim
theorem length_putK (kvs : List (κ × V)) (k : κ) (v : V) : (putK kvs k v).length ≤ kvs.length + 1 := by
  unfold putK
  split
  · rw [List.length_map]; omega
  · rw [List.length_append, List.length_cons, List.length_nil]; omega
/-- raw tables of the same keys -/
theorem KV.val {kvs : List (κ × V)} {vs : List (κ × Value)} (r : KV kvs vs) (k : κ) : RelO (valV kvs k) (valueAt vs k) := by
  unfold KV at r
  induction r with
  | nil => exact True.intro
  | @cons p q ps qs h t ih =>
    obtain ⟨h1, h2⟩ := h
    by_cases e : p.1 = k
    · have e' : q.1 = k := h1.symm.trans e
      have b : valueAt (q :: qs) k = some q.2 := by simp [valueAt, List.find?_cons, e']
      rw [valV_pos e, b]; exact h2
    · have e' : ¬ q.1 = k := fun z => e (h1.trans z)
      have b : valueAt (q :: qs) k = valueAt qs k := by simp [valueAt, List.find?_cons, e']
      rw [valV_neg e, b]; exact ih
theorem KV.any {kvs : List (κ × V)} {vs : List (κ × Value)} (r : KV kvs vs) (k : κ) : (kvs.any fun kv => decide (kv.1 = k)) = vs.any fun kv => decide (kv.1 = k) := by
  unfold KV at r
  induction r with
  | nil => rfl
  | cons h t ih => rw [List.any_cons, List.any_cons, ih, h.1]
theorem KV.repl {kvs : List (κ × V)} {vs : List (κ × Value)} (r : KV kvs vs) (k : κ) {y : V} {u : Value} (ry : RelV y u) :
    KV (kvs.map fun kv => if kv.1 = k then (kv.1, y) else kv) (vs.map fun kv => if kv.1 = k then (kv.1, u) else kv) := by
  unfold KV at r ⊢
  induction r with
  | nil => exact .nil
  | @cons p q ps qs h t ih =>
    rw [List.map_cons, List.map_cons]
    refine .cons ?_ ih
    obtain ⟨h1, h2⟩ := h
    by_cases e : p.1 = k
    · rw [if_pos e, if_pos (h1.symm.trans e)]; exact ⟨h1, ry⟩
    · rw [if_neg e, if_neg (fun z => e (h1.trans z))]; exact ⟨h1, h2⟩
theorem KV.put {kvs : List (κ × V)} {vs : List (κ × Value)} (r : KV kvs vs) (k : κ) {y : V} {u : Value} (ry : RelV y u) : KV (putK kvs k y) (stored vs k u) := by
  unfold putK stored
  rw [r.any k]
  by_cases e : (vs.any fun kv => decide (kv.1 = k)) = true
  · rw [if_pos e, if_pos e]; exact r.repl k ry
  · rw [if_neg e, if_neg e]; exact Paired.snoc r ⟨rfl, ry⟩
end


/-! ### a tracked dict, its keys ints and texts or tuples of these -/
theorem kV_is {P : Program} {w : World} {k : Key} {u : Value} (r : RelV (kV k) u) : (mixKind P w).is k u = true := by
  cases k with
  | inl i => obtain ⟨t, e⟩ := (show ∃ t, u = Value.int i t from r); subst e; exact mixKind_int P w i t
  | inr x => obtain ⟨t, e⟩ := (show ∃ t, u = Value.str x t from r); subst e; exact mixKind_str P w x t
theorem items_are {P : Program} {w : World} : ∀ {ks : List Key} {us : List Value}, Vals (ks.map kV) us → ItemsAre (mixKind P w) ks us
  | [], _, r => by rw [List.map_nil] at r; cases r; exact .nil
  | k :: ks, _, r => by
    rw [List.map_cons] at r
    cases r with
    | cons h t => exact .cons (kV_is h) (items_are t)

/-- raw entries of a dict with tuple keys -/
abbrev KT (H : Hp) : List (List Key × V) → List (List Key × Addr × Value) → Prop := Paired fun p q => p.1 = q.1 ∧ H q.2.1 = some (.tup (p.1.map kV)) ∧ RelV p.2 q.2.2
theorem KT.val {H : Hp} {kvs : List (List Key × V)} {xs : List (List Key × Addr × Value)} (r : KT H kvs xs) (k : List Key) : RelO (valV kvs k) ((atKey xs k).map (·.2)) := by
  induction r with
  | nil => exact True.intro
  | @cons p q ps qs h t ih =>
    obtain ⟨h1, _, h2⟩ := h
    by_cases e : p.1 = k
    · have e' : q.1 = k := h1.symm.trans e
      have b : atKey (q :: qs) k = some q.2 := by simp [atKey, List.find?_cons, e']
      rw [valV_pos e, b]; exact h2
    · have e' : ¬ q.1 = k := fun z => e (h1.trans z)
      have b : atKey (q :: qs) k = atKey qs k := by simp [atKey, List.find?_cons, e']
      rw [valV_neg e, b]; exact ih
section
variable {P : Program} {w : World} {H : Hp} {h : Heap} {a : Addr}
theorem rd_of {u : HO} (ok : HOk P w H h) (e : Rd H a u) : ObjOk P w H h a u := e.ok ok
theorem dk_rd {kvs : List (Key × V)} (ok : HOk P w H h) (e : Rd H a (.dK kvs)) : kvs.length ≤ sizeLine ∧ (a == sysModules) = false ∧ ∃ vs, KV kvs vs ∧ h.DictOf (mixKind P w) a vs :=
  show ObjOk P w H h a (.dK kvs) from rd_of ok e
/-- a tracked tuple of ints and texts is a key -/
theorem key_of {ks : List Key} (ok : HOk P w H h) (e : H a = some (.tup (ks.map kV))) : (tupleKind (mixKind P w)).is h ks a := by
  obtain ⟨_, its, r, o, h1, h2, n, h3⟩ := (show ObjOk P w H h a (.tup (ks.map kV)) from ok a _ e)
  exact ⟨o, its.toArray, n, h1, h2, h3, by simpa using items_are r⟩
theorem dt_rd {kvs : List (List Key × V)} (ok : HOk P w H h) (e : Rd H a (.dT kvs)) : kvs.length ≤ sizeLine ∧ (a == sysModules) = false ∧
    ∃ xs, KT H kvs xs ∧ h.DictOfH (tupleKind (mixKind P w)) a xs := by
  obtain ⟨z, y, xs, r, o, es, ep, h1, h2, h3, h4, h5⟩ := (show ObjOk P w H h a (.dT kvs) from rd_of ok e)
  refine ⟨z, y, xs, r, o, es, ep, h1, h2, h3, h4, fun x hx => ?_, h5⟩
  have all : ∀ {l : List (List Key × V)} {m : List (List Key × Addr × Value)}, KT H l m → ∀ x ∈ m, (tupleKind (mixKind P w)).is h x.1 x.2.1 := by
    intro l m q
    induction q with
    | nil => intro x hx; exact nomatch hx
    | @cons p q ps qs hq t ih =>
      intro x hx
      rcases List.mem_cons.mp hx with e | hx
      · subst e
        exact key_of ok (by rw [← hq.1]; exact hq.2.1)
      · exact ih x hx
  exact all r x hx
end

/-- what the dict at a holds at the key y -/
def DGet (H : Hp) (a : Addr) (y : V) (r : Option V) : Prop :=
  (∃ kvs k, Rd H a (.dK kvs) ∧ y = kV k ∧ r = valV kvs k) ∨ ∃ kvs k b, Rd H a (.dT kvs) ∧ y = .ref b ∧ H b = some (.tup (k.map kV)) ∧ r = valV kvs k
/-- the heap behind a[y] = v -/
def DPut (H : Hp) (a : Addr) (y v : V) (H' : Hp) : Prop :=
  (∃ kvs k, H a = some (.dK kvs) ∧ y = kV k ∧ kvs.length < sizeLine ∧ H' = upd H a (.dK (putK kvs k v))) ∨
  ∃ kvs k b, H a = some (.dT kvs) ∧ y = .ref b ∧ H b = some (.tup (k.map kV)) ∧ kvs.length < sizeLine ∧ H' = upd H a (.dT (putK kvs k v))
theorem DGet.k {H : Hp} {a : Addr} {kvs : List (Key × V)} {k : Key} (e : H a = some (.dK kvs)) : DGet H a (kV k) (valV kvs k) := .inl ⟨kvs, k, .inl e, rfl, rfl⟩
section
variable {X : Cx} {pins : List (Addr × Obj)} {σ : St} {H : Hp} {s : Shared} {a : Addr} {y v : V} {u r : Value} {o : Option V} {A : Around} {E : Value → Shared → Prop}

theorem Inv.big (I : Inv X pins σ H s) : sysModules < s.heap.objs.size := by
  have h : mainGlobals < s.heap.objs.size := (I.mod.glob.keeps I.bk).lt
  exact Nat.lt_trans (by decide) h

/-- d[y], there -/
theorem d_getItem {Q : Value → Shared → Prop} (hu : A.units + 1 < cLine) (I : Inv X pins σ H s) (g : DGet H a y (some v)) (ry : RelV y u) (h : ∀ w' s', Inv X pins σ H s' → RelV v w' → Q w' s') :
    wpAny (model X.prog X.w) A (getItem (.ref a) u) Q E s := by
  rcases g with ⟨kvs, k, e, ey, l⟩ | ⟨kvs, k, b, e, ey, eb, l⟩
  · subst ey
    obtain ⟨z, hd, vs, rel, dd⟩ := dk_rd I.hok e
    obtain ⟨w', hw, rw'⟩ := RelO.some_of (v := v) (o := valueAt vs k) (by rw [l]; exact rel.val k)
    exact wpAny_getItem_of (kV_is ry) dd.mapOf hw (h w' _ (I.tok _) rw')
  · subst ey
    cases (show u = Value.ref b from ry)
    obtain ⟨z, hd, xs, rel, dd⟩ := dt_rd I.hok e
    obtain ⟨w', hw, rw'⟩ := RelO.some_of (v := v) (o := (atKey xs k).map (·.2)) (by rw [l]; exact rel.val k)
    obtain ⟨p, hp, hp2⟩ := Option.map_eq_some_iff.mp hw
    refine wpAny_getItem_heap (tupleKind_room_in1 hu) (key_of I.hok eb) dd hp ?_
    rw [hp2]
    exact h w' _ (I.tok _) rw'
theorem dk_new {P : Program} {w : World} {H' : Hp} {h' : Heap} {kvs : List (Key × V)} {vs : List (Key × Value)} (z : kvs.length ≤ sizeLine) (hd : (a == sysModules) = false) (rel : KV kvs vs) (dd : h'.DictOf (mixKind P w) a vs) :
    ObjOk P w H' h' a (.dK kvs) := ⟨z, hd, vs, rel, dd⟩
end

section
variable {X : Cx} {pins : List (Addr × Obj)} {σ : St} {H : Hp} {s : Shared} {a : Addr} {kvs : List (Key × V)} {k : Key} {u : Value} {A : Around} {E : Value → Shared → Prop}
end


/-! ### readings and rules -/
/-- the element of a subscription, not a slice -/
def NoSl (i : Expr) : Prop := ∀ ov iv, subscripted i false ov iv = operate [ov, iv] (getItem ov iv)
theorem subD_of {prog : Program} {w : World} {A : Around} {E : Value → Shared → Prop} {s : Shared} {env : Env} {value slice : Expr} {pos : Pos} {T id : String} {Q : Value → Shared → Prop}
    (hl : typeLookup (.type T) "__getitem__" = pure (some (.builtin id))) (hs : NoSl slice)
    (h : wpAny (model prog w) A (eval value env) (fun o s₁ => wpAny (model prog w) A (eval slice env) (fun i s₂ => s₂.TypeIs o T ∧ wpAny (model prog w) A (getItem o i) Q E s₂) E s₁) E s) :
    wpAny (model prog w) A (eval (.Subscript value slice pos) env) Q E s := by
  refine Subscript_ (wpAny_mono h (fun o s₁ h₁ => wpAny_mono h₁ (fun i s₂ h₂ => ?_) fun _ _ x => x) fun _ _ x => x)
  obtain ⟨hT, h₂⟩ := h₂
  unfold subscriptTail
  refine wpAny_bind ?_
  rw [getitemInPython_of_ne hT.not_modules]
  refine wpAny_bind (wpAny_specialOf hT hl ?_)
  have fin : wpAny (model prog w) A (subscripted slice false o i) (fun r s₃ => wpAny (model prog w) A (letTemporaryGo value o r >>= fun _ => pure r) Q E s₃) E s₂ := by
    rw [hs o i]
    exact wpAny_operating (wpAny_mono h₂ (fun r s₃ h₃ => wpAny_bind (wpAny_letTemporaryGo (wpAny_pure h₃))) fun _ _ x => x)
  first
    | exact wpAny_pure (wpAny_bind fin)
    | exact wpAny_bind (wpAny_pure (wpAny_bind fin))
    | exact wpAny_bind fin

theorem dict_typeIs {X : Cx} {pins : List (Addr × Obj)} {σ : St} {H : Hp} {s : Shared} {a : Addr} {y : V} {o : Option V} (I : Inv X pins σ H s) (g : DGet H a y o) : s.TypeIs (.ref a) "dict" := by
  rcases g with ⟨kvs, k, e, _, _⟩ | ⟨kvs, k, b, e, _, _, _⟩
  · obtain ⟨_, _, vs, _, dd⟩ := dk_rd I.hok e
    exact dd.typeIs
  · obtain ⟨_, _, xs, _, dd⟩ := dt_rd I.hok e
    exact dd.typeIs
/-- d[y] -/
def tDGet (td ty : TE) : TE := fun σ H Q => td σ H fun x H1 => ty σ H1 fun y H2 => ∃ a v, x = .ref a ∧ DGet H2 a y (some v) ∧ Q v H2
/-- y in d, y not in d -/
def tDIn (ty td : TE) : TE := fun σ H Q => ty σ H fun y H1 => td σ H1 fun x H2 => ∃ a o, x = .ref a ∧ DGet H2 a y o ∧ Q (.bl o.isSome) H2
def tDNotIn (ty td : TE) : TE := fun σ H Q => ty σ H fun y H1 => td σ H1 fun x H2 => ∃ a o, x = .ref a ∧ DGet H2 a y o ∧ Q (.bl (!o.isSome)) H2
/-- d[y] = v -/
def sDPut (td ty tv : TE) : TS := fun D σ H => tv σ H fun v H1 => td σ H1 fun x H2 => ty σ H2 fun y H3 => ∃ a H4, x = .ref a ∧ DPut H3 a y v H4 ∧ D.nx σ H4
/-- d[y] op= v -/
def sDAug (td ty tv : TE) (rd : V → V → Hp → VK → Prop) : TS := fun D σ H => td σ H fun x H1 => ty σ H1 fun y H2 => ∃ a v, x = .ref a ∧ DGet H2 a y (some v) ∧
  tv σ H2 fun y2 H3 => rd v y2 H3 fun z H4 => ∃ H5, DPut H4 a y z H5 ∧ D.nx σ H5
/-- del d[y] -/
def sDDel (td ty : TE) : TS := fun D σ H => td σ H fun x H1 => ty σ H1 fun y H2 => ∃ a kvs k, x = .ref a ∧ H2 a = some (.dK kvs) ∧ y = kV k ∧ (valV kvs k).isSome = true ∧ D.nx σ (upd H2 a (.dK (dropK kvs k)))

section
variable {X : Cx} {o i e value : Expr} {pos pos' tpos : Pos} {td ty tv : TE}
theorem pe_dget (hu : X.A.units + 1 < cLine) (ho : PE X o td) (hi : PE X i ty) (hs : NoSl i) : PE X (.Subscript o i pos) (tDGet td ty) := by
  intro pins s σ H Q I h
  refine subD_of PySem.F.slot_dict_getitem.lookup hs (thn (ho pins s σ H _ I h) fun u s1 ⟨x, H1, I1, rx, q1⟩ => thn (hi pins s1 σ H1 _ I1 q1) fun iv s2 ⟨y, H2, I2, ry, a, v, ex, g, q2⟩ => ?_)
  subst ex
  obtain rfl : u = Value.ref a := rx
  exact ⟨dict_typeIs I2 g, d_getItem hu I2 g ry fun w' s3 I3 rw' => ⟨v, H2, I3, rw', q2⟩⟩
end


/-! ### displays -/
/-- {}, to be a dict of the kind that is wanted -/
def tDNewK : TE := fun _ H Q => ∀ p, H p = none → Q (.ref p) (upd H p (.dK []))
def tDNewT : TE := fun _ H Q => ∀ p, H p = none → Q (.ref p) (upd H p (.dT []))
section
variable {X : Cx} {pos : Pos}
end

/-- the pairs of a display, from the left -/
def tPairs : List (TE × TE) → St → Hp → (List (V × V) → Hp → Prop) → Prop
  | [], _, H, Q => Q [] H
  | (tk, tv) :: r, σ, H, Q => tk σ H fun x H1 => tv σ H1 fun y H2 => tPairs r σ H2 fun ps H3 => Q ((x, y) :: ps) H3
abbrev VV : List (V × V) → List (Value × Value) → Prop := Paired fun p q => RelV p.1 q.1 ∧ RelV p.2 q.2
def PPs (X : Cx) (pos : Pos) (keys : List (Option Expr)) (values : List Expr) (trs : List (TE × TE)) : Prop :=
  ∀ (pins : List (Addr × Obj)) (s : Shared) (σ : St) (H : Hp) (Q : List (V × V) → Hp → Prop), Inv X pins σ H s → tPairs trs σ H Q →
    wpAny (model X.prog X.w) X.A (evalPairs (pairTrees keys values X.env pos)) (fun vs s' => ∃ ps H', Inv X pins σ H' s' ∧ VV ps vs ∧ Q ps H') X.xe s
def mergeK (kvs more : List (Key × V)) : List (Key × V) := more.foldl (fun acc kv => putK acc kv.1 kv.2) kvs
theorem KV.merge : ∀ {more : List (Key × V)} {rs : List (Key × Value)} {kvs : List (Key × V)} {vs : List (Key × Value)}, KV more rs → KV kvs vs → KV (mergeK kvs more) (merged vs rs) := by
  intro more rs kvs vs r
  unfold KV at r
  induction r generalizing kvs vs with
  | nil => intro q; exact q
  | @cons p q ps qs h t ih =>
    intro r0
    have e : KV (putK kvs p.1 p.2) (stored vs q.1 q.2) := by
      have := r0.put p.1 h.2
      rw [← h.1]; exact this
    exact ih e
theorem length_mergeK : ∀ (more kvs : List (Key × V)), (mergeK kvs more).length ≤ kvs.length + more.length
  | [], kvs => by show kvs.length ≤ kvs.length + 0; omega
  | p :: r, kvs => by
    have h1 := length_mergeK r (putK kvs p.1 p.2)
    have h2 := length_putK kvs p.1 p.2
    show (mergeK (putK kvs p.1 p.2) r).length ≤ _
    rw [List.length_cons]; omega
/-- {k: v, ..} with keys ints and texts; the new dict stands empty while the pairs are made -/
def tDisp (trs : List (TE × TE)) : TE := fun σ H Q => ∀ p, H p = none → tPairs trs σ (upd H p (.dK [])) fun ps H2 => H2 p = some (.dK []) ∧ ∃ kvs : List (Key × V), ps = kvs.map (fun kv => (kV kv.1, kv.2)) ∧ kvs.length ≤ 15 ∧ Q (.ref p) (upd H2 p (.dK (mergeK [] kvs)))
/-! ### methods -/
/-- a method call o.m(e) of a built-in, with one argument: what must be seen of the text -/
structure M1 (X : Cx) (o : Expr) (m : Str) (apos : Pos) (e : Expr) (cpos : Pos) : Prop where
  base : attributeBase o m X.env (eval o X.env) = eval o X.env
  few : ((backTo cpos (starEach [e] X.env)).all (fun x => !x.1) && (backToKw cpos (keywordEach [] X.env)).all (fun x => x.1.isSome)
    && decide (([e] : List Expr).length + ([] : List Keyword).length + (if ([] : List Keyword).isEmpty then 0 else 1) < 30)) = true
  line : (apos.endLine == cpos.line) = true
  trees : backTo cpos (starEach [e] X.env) = [(false, eval e X.env)]
structure M2 (X : Cx) (o : Expr) (m : Str) (apos : Pos) (e f : Expr) (cpos : Pos) : Prop where
  base : attributeBase o m X.env (eval o X.env) = eval o X.env
  few : ((backTo cpos (starEach [e, f] X.env)).all (fun x => !x.1) && (backToKw cpos (keywordEach [] X.env)).all (fun x => x.1.isSome)
    && decide (([e, f] : List Expr).length + ([] : List Keyword).length + (if ([] : List Keyword).isEmpty then 0 else 1) < 30)) = true
  line : (apos.endLine == cpos.line) = true
  trees : backTo cpos (starEach [e, f] X.env) = [(false, eval e X.env), (false, eval f X.env)]

/-- a is a dict, whatever its keys -/
def IsD (H : Hp) (a : Addr) : Prop := (∃ kvs, Rd H a (.dK kvs)) ∨ ∃ kvs, Rd H a (.dT kvs)
section
variable {X : Cx} {pins : List (Addr × Obj)} {σ : St} {H : Hp} {s : Shared} {a : Addr} {y d : V} {u r : Value} {o : Option V} {A : Around} {E : Value → Shared → Prop}
end

def tDGet1 (td ty : TE) : TE := fun σ H Q => td σ H fun x H1 => ∃ a, x = .ref a ∧ IsD H1 a ∧ ty σ H1 fun y H2 => ∃ o, DGet H2 a y o ∧ Q (o.getD .non) H2
def tDGet2 (td ty tx : TE) : TE := fun σ H Q => td σ H fun x H1 => ∃ a, x = .ref a ∧ IsD H1 a ∧ ty σ H1 fun y H2 => tx σ H2 fun z H3 => ∃ o, DGet H3 a y o ∧ Q (o.getD z) H3
/-- d.pop(k): there; d.pop(k, x): there or not -/
def tDPop1 (td ty : TE) : TE := fun σ H Q => td σ H fun x H1 => ∃ a, x = .ref a ∧ IsD H1 a ∧ ty σ H1 fun y H2 => ∃ kvs k v, H2 a = some (.dK kvs) ∧ y = kV k ∧ valV kvs k = some v ∧ Q v (upd H2 a (.dK (dropK kvs k)))
def tDPop2 (td ty tx : TE) : TE := fun σ H Q => td σ H fun x H1 => ∃ a, x = .ref a ∧ IsD H1 a ∧ ty σ H1 fun y H2 => tx σ H2 fun z H3 => ∃ kvs k, H3 a = some (.dK kvs) ∧ y = kV k ∧
  (∀ v, valV kvs k = some v → Q v (upd H3 a (.dK (dropK kvs k)))) ∧ (valV kvs k = none → Q z H3)
section
variable {X : Cx} {o e f : Expr} {apos cpos : Pos} {td ty tx : TE}
end

/-! ### dict(d): a copy -/
section
variable {X : Cx} {pins : List (Addr × Obj)} {σ : St} {H : Hp} {s : Shared} {a : Addr} {kvs : List (Key × V)} {A : Around} {E : Value → Shared → Prop}
end


section
variable {X : Cx} {pins : List (Addr × Obj)} {σ : St} {H : Hp} {s : Shared} {a : Addr} {y : V} {u : Value} {A : Around} {E : Value → Shared → Prop}
end
end L2


/-! Texts: compared, cut, joined, walked sign by sign. -/
namespace L2
open PySem PySem.Spec PyProof.Rows
section
variable {X : Cx}
def rLeS : R2 := fun x y H Q => ∃ i j, x = .str i ∧ y = .str j ∧ Q (.bl (!decide (j.cps.toList < i.cps.toList))) H
def rLenS : List V → Hp → VK → Prop := fun xs H Q => ∃ z, xs = [.str z] ∧ z.length ≤ sizeLine ∧ Q (.int z.length) H
def rInS : R2 := fun x y H Q => ∃ i j, x = .str i ∧ y = .str j ∧ Q (.bl (!(Builtin.Str.occurrences j i 0 j.length 1).isEmpty)) H
def rCatS : R2 := fun x y H Q => ∃ i j, x = .str i ∧ y = .str j ∧ i.length + j.length ≤ sizeLine ∧ Q (.str (i ++ j)) H
theorem strsAre_of {ns : List Str} : ∀ {us : List Value}, Vals (ns.map V.str) us → StrsAre us ns := by
  induction ns with
  | nil => intro us r; cases r; exact .nil
  | cons n ns ih =>
    intro us r
    cases r with
    | cons r t =>
      obtain ⟨tk, rfl⟩ := r
      exact .cons n tk (ih t)
/-- sep.join(xs) -/
def rJoin (K : PySem.W.Frag) : V → List V → Hp → VK → Prop := fun x vs H Q => ∃ z a ys, x = .str z ∧ vs = [.ref a] ∧ SqL K H a (List.map V.str ys) ∧ (ys.map (·.length)).sum + ys.length * z.length ≤ 16777216 ∧ Q (.str (Txt.join z ys)) H
theorem mt_join : MtR X "str.join" (rJoin X.K) := by
  intro pins s σ H x xs v us Q I rx rs h
  obtain ⟨z, a, ys, rfl, rfl, hq, hz, q⟩ := h
  obtain ⟨t, rfl⟩ := rx
  obtain ⟨u, rfl, ru⟩ := vals1 rs
  cases (show u = Value.ref a from ru)
  obtain ⟨its, rv, pl, _⟩ := I.list hq
  exact join_list pl.isList (by simpa using strsAre_of rv) hz fun t' k => ⟨.str _, H, I.tok _, ⟨_, rfl⟩, q⟩
/-- t[lo:hi] -/
def rSlS : V → Option Int → Option Int → Hp → VK → Prop := fun x lo hi H Q => ∃ z, x = .str z ∧ z.length ≤ sizeLine ∧ Q (.str (Txt.slice z lo hi)) H
end
/-- a text's signs -/
def Its (x : Str) : It := ⟨fun i _ => i < x.cps.size, fun i H v H' => H' = H ∧ ∃ c, x.cps[i]? = some c ∧ v = .str ⟨#[c]⟩, fun i _ => x.cps.size ≤ i⟩
section
variable {X : Cx} {tg : Expr}
def iStr (tl : TE) : TI := fun σ H R => tl σ H fun x H1 => ∃ z, x = .str z ∧ R (Its z) H1
end
section
variable {σ : St} {H : Hp} {Q : VK} {D : Ends}
theorem rd_ixS {z : Str} {i : Int} {c : Nat} (h : z.length ≤ sizeLine) (e : atI z.cps.toList i = some c) (q : Q (.str ⟨#[c]⟩) H) : rIxS (.str z) (.int i) H Q := ⟨z, i, c, rfl, rfl, h, e, q⟩
end
end L2

namespace L2
open PySem PySem.Spec PyProof.Rows
section
variable {es : List Expr} {env : Env}
theorem stx_Constant {c j p} : starEach (.Constant c j p :: es) env = (false, eval (.Constant c j p) env) :: starEach es env := rfl
theorem stx_Name {x p} : starEach (.Name x p :: es) env = (false, eval (.Name x p) env) :: starEach es env := rfl
theorem stx_BinOp {a o b p} : starEach (.BinOp a o b p :: es) env = (false, eval (.BinOp a o b p) env) :: starEach es env := rfl
theorem stx_Compare {a o b p} : starEach (.Compare a o b p :: es) env = (false, eval (.Compare a o b p) env) :: starEach es env := rfl
theorem stx_Call {a o b p} : starEach (.Call a o b p :: es) env = (false, eval (.Call a o b p) env) :: starEach es env := rfl
theorem stx_Subscript {a o p} : starEach (.Subscript a o p :: es) env = (false, eval (.Subscript a o p) env) :: starEach es env := rfl
theorem stx_List {a p} : starEach (.List a p :: es) env = (false, eval (.List a p) env) :: starEach es env := rfl
theorem stx_Tuple {a k p} : starEach (.Tuple a k p :: es) env = (false, eval (.Tuple a k p) env) :: starEach es env := rfl
theorem stx_ListComp {a b c p} : starEach (.ListComp a b c p :: es) env = (false, eval (.ListComp a b c p) env) :: starEach es env := rfl
end
end L2

namespace L2
open PySem PySem.Spec PyProof.Rows
section
variable {X : Cx}
/-- range(j) as a thing -/
def rRng1 : List V → Hp → VK → Prop := fun xs H Q => ∃ j, xs = [.int j] ∧ ∀ r, H r = none → Q (.ref r) (upd H r (.rng 0 j))
theorem call_rng1 : CallR X (.type "range") rRng1 := by
  intro pins s σ H xs us Q I r h
  obtain ⟨j, rfl, q⟩ := h
  obtain ⟨u, rfl, rx⟩ := vals1 r
  obtain ⟨t, rfl⟩ := rx
  refine call_range_1 ⟨.ref s.heap.objs.size, _, I.laid (fun b u e => Heap.get?_push_of_some _ e) (Nat.le_refl _) (o := .rng 0 j) ?_, rfl, q _ (I.hok.fresh (Nat.le_refl _))⟩
  exact ⟨_, _, _, Heap.get?_push_size _ rfl⟩
def upN (n : Nat) : List Int := (List.range n).map fun (i : Nat) => (i : Int)
/-- list(range(j)) -/
def rListR : List V → Hp → VK → Prop := fun xs H Q => ∃ r j, xs = [.ref r] ∧ H r = some (.rng 0 j) ∧ 0 ≤ j ∧ j ≤ 100000 ∧ ∀ l, H l = none → Q (.ref l) (upd H l (.lst ((upN j.toNat).map V.int)))
theorem vals_of_items {n : Nat} {acc : Array Value} (h : ItemsOf (fun i v => ∃ t, v = Value.int (0 + i * 1) t) acc n) : Vals ((upN n).map V.int) acc.toList := by
  obtain ⟨hs, hi⟩ := h
  have key : ∀ (m : Nat) (l : List Value), l.length = m → (∀ (i : Nat) v, l[i]? = some v → ∃ t, v = Value.int (0 + (i : Int) * 1) t) → Vals ((upN m).map V.int) l := by
    intro m
    induction m with
    | zero => intro l hl _; cases l with
      | nil => exact .nil
      | cons a b => cases hl
    | succ m ih =>
      intro l hl hv
      have hne : l ≠ [] := by intro z; rw [z] at hl; cases hl
      have hd : l = l.dropLast ++ [l.getLast hne] := (List.dropLast_concat_getLast hne).symm
      have e : (upN (m + 1)).map V.int = (upN m).map V.int ++ [V.int (m : Int)] := by
        unfold upN
        rw [List.range_succ, List.map_append, List.map_append]; rfl
      rw [e, hd]
      refine Vals.append (ih _ (by rw [List.length_dropLast, hl]; rfl) fun i v hh => hv i v ?_) (.cons ?_ .nil)
      · have : i < l.dropLast.length := (List.getElem?_eq_some_iff.mp hh).1
        rw [hd, List.getElem?_append_left this]; exact hh
      · obtain ⟨t, ht⟩ := hv m (l.getLast hne) (by
          rw [List.getLast_eq_getElem, ← List.getElem?_eq_getElem]
          congr 1
          omega)
        exact ⟨t, by rw [ht]; congr 1; omega⟩
  refine key n acc.toList (by rw [← hs]; simp) fun i v hh => ?_
  exact hi i v (by simpa using hh)
theorem call_listR (hc : X.calm = true) : CallR X (.type "list") rListR := by
  intro pins s σ H xs us Q I r h
  obtain ⟨a, j, rfl, ha, hj0, hj, q⟩ := h
  obtain ⟨u, rfl, rx⟩ := vals1 r
  cases rx
  obtain ⟨t, u, v, e⟩ := I.hok _ _ ha
  have hn : Builtin.Range.rangeSize 0 j 1 = (j.toNat : Nat) := by rw [rangeSize_one]; split <;> omega
  have hlow : -(2 ^ 62) ≤ j := by omega
  · refine call_list_range (n := j.toNat) (I.ok.hd hc) e (small_one (by omega) (by omega) hlow (by omega)) hn (by omega) fun h' tk acc c hk hD hI => ?_
    have hv := vals_of_items hI
    have hz : ((upN j.toNat).map V.int).length ≤ sizeLine := by
      rw [List.length_map]; unfold upN; rw [List.length_map, List.length_range]
      have : (100000 : Nat) ≤ sizeLine := by decide
      omega
    refine ⟨.ref s.heap.objs.size, _, I.laid (t' := tk) hk (Nat.le_refl _) (o := .lst ((upN j.toNat).map V.int)) ⟨hz, acc.toList, c, hv, by simpa using hD⟩, rfl, q _ (I.hok.fresh (Nat.le_refl _))⟩
theorem rd_rngV {j : Int} {H : Hp} {Q : VK} (q : ∀ r, H r = none → Q (.ref r) (upd H r (.rng 0 j))) : rRng1 [.int j] H Q := ⟨j, rfl, q⟩
theorem upN_get {n i : Nat} {x : V} (h : ((upN n).map V.int)[i]? = some x) : i < n ∧ x = .int i := by
  have hl := (List.getElem?_eq_some_iff.mp h).1
  rw [List.length_map] at hl
  unfold upN at hl h
  rw [List.length_map, List.length_range] at hl
  rw [List.getElem?_map, List.getElem?_map, List.getElem?_range hl] at h
  exact ⟨hl, (Option.some.inj h).symm⟩
end
end L2

namespace L2
open PySem PySem.Spec PyProof.Rows
section
variable {X : Cx}
/-- xs.index(k) of a list of ints that has it -/
def rIndexI (K : PySem.W.Frag) : V → List V → Hp → VK → Prop := fun x vs H Q => ∃ a ns k, x = .ref a ∧ vs = [.int k] ∧ SqL K H a (List.map V.int ns) ∧ k ∈ ns ∧ Q (.int (ns.idxOf k : Nat)) H
/-- max(xs) of a list of ints that has one -/
def rMaxL (K : PySem.W.Frag) : List V → Hp → VK → Prop := fun xs H Q => ∃ a ns, xs = [.ref a] ∧ SqL K H a (List.map V.int ns) ∧ ns ≠ [] ∧ ∀ M, M ∈ ns → (∀ z, z ∈ ns → z ≤ M) → Q (.int M) H
/-- xs[::-1] -/
def rRevL (K : PySem.W.Frag) : V → Hp → VK → Prop := fun x H Q => ∃ a xs, x = .ref a ∧ SqL K H a xs ∧ ∀ p, H p = none → Q (.ref p) (upd H p (.lst xs.reverse))
def tRev (K : PySem.W.Frag) (te : TE) : TE := fun σ H Q => te σ H fun x H1 => rRevL K x H1 Q
/-- int(truth) -/
def rIntB : List V → Hp → VK → Prop := fun xs H Q => ∃ k, xs = [.bl k] ∧ Q (.int (if k then 1 else 0)) H
end
section
variable {K : PySem.W.Frag} {H : Hp} {Q : VK} {σ : St}
theorem flat_ints : ∀ ns : List Int, (ns.map V.int).all flatV = true
  | [] => rfl
  | n :: r => by rw [List.map_cons, List.all_cons, flat_ints r]; rfl
theorem inV_ints (k : Int) : ∀ ns : List Int, inV (.int k) (ns.map V.int) = decide (k ∈ ns)
  | [] => by simp [inV]
  | n :: r => by
    have ih := inV_ints k r
    unfold inV at ih ⊢
    rw [List.map_cons, List.any_cons, ih]
    have e : eqV (V.int n) (V.int k) = decide (k = n) := by
      by_cases h : k = n
      · subst h; simp [eqV]
      · rw [decide_eq_false h]
        have h2 : ¬ n = k := fun z => h z.symm
        simp [eqV, h2]
    rw [e]
    simp [List.mem_cons]
theorem rd_inI {a : Addr} {ns : List Int} {k : Int} (h : SqL K H a (ns.map V.int)) (q : Q (.bl (decide (k ∈ ns))) H) : rIn K false (.int k) (.ref a) H Q :=
  ⟨a, _, rfl, .inl h, rfl, flat_ints ns, by rw [inV_ints]; exact q⟩
theorem rd_ninI {a : Addr} {ns : List Int} {k : Int} (h : SqL K H a (ns.map V.int)) (q : Q (.bl (!decide (k ∈ ns))) H) : rIn K true (.int k) (.ref a) H Q :=
  ⟨a, _, rfl, .inl h, rfl, flat_ints ns, by rw [inV_ints]; exact q⟩
end
end L2

/-! enumerate in loops with a tuple of two names; min of a list -/
namespace L2
open PySem PySem.Spec PyProof.Rows
section
variable {X : Cx} {pins : List (Addr × Obj)} {σ : St} {H : Hp} {s : Shared} {h' : Heap}
/-- .. and a new object is laid and tracked -/
theorem Inv.turnedN {t' : Nat} {ch : List Addr} {a : Addr} {o : HO} (I : Inv X pins σ H s) (k : ∀ b o, b ∉ ch → s.heap.get? b = some o → h'.get? b = some o) (f : ∀ b ∈ ch, FpOk X pins H b)
    (ha : s.heap.objs.size ≤ a) (new : ObjOk X.prog X.w (upd H a o) h' a o) : Inv X pins σ (upd H a o) { s with heap := h', toks := t' } := by
  have nit : ∀ b u, H b = some u → b ∉ ch := fun b u e z => by rw [(f b z).1] at e; cases e
  have hn := I.hok.fresh ha
  have old : ∀ b ob, s.heap.get? b = some ob → b ≠ a := fun b ob q => Nat.ne_of_lt (Nat.lt_of_lt_of_le (Heap.lt_size q) ha)
  have up : ∀ b u, H b = some u → upd H a o b = some u := fun b u q => by rw [upd_ne (ne_of_none q hn)]; exact q
  refine I.step (g' := s.gens) (d' := s.drawn) (ch := ch) (fun b hb => ?_) (fun b o _ _ hc e _ => k b o hc e) (fun b o _ _ hc e _ => ⟨o.slots, k b o hc e⟩) (fun b ob _ e n => by rw [upd_ne (old b ob e)]; exact n) (fun b o hc e => ⟨o, k b o hc e⟩) (fun b xs e => up _ _ e) (fun b ob u e => up _ _ e)
    (fun b ps e => ⟨#[], by rw [up _ _ e]; simp⟩) (fun m hm => ?_) (fun b u e => ?_) I.bare
  · obtain ⟨f0, f1, f2, f3, f4, f5⟩ := f b hb
    exact ⟨f3, f1, f4, f5⟩
  · obtain ⟨o, es, ep, ho, r⟩ := hm
    exact ⟨o, es, ep, k _ o (fun z => (f _ z).2.1 rfl) ho, r⟩
  · by_cases hb : b = a
    · subst hb; rw [upd_same] at e; cases e; exact new
    · rw [upd_ne hb] at e
      refine (I.hok b u e).stay (fun c v hc q => k c v ?_ q) (fun c q => up _ _ q) fun c xs q => up _ _ q
      rcases hc with z | z
      · rw [z]; exact nit b u e
      · exact nit c _ z
end
/-- the places and items of the list at a -/
def Ite (K : PySem.W.Frag) (a : Addr) : It :=
  ⟨fun i H => ∃ xs x, SqL K H a xs ∧ xs[i]? = some x, fun i H x H' => ∃ t y, H t = none ∧ H' = upd H t (.tup [.int i, y]) ∧ x = .ref t ∧ ∀ xs, SqL K H a xs → xs[i]? = some y, fun i H => ∃ xs, SqL K H a xs ∧ xs.length ≤ i⟩
theorem turn_enum {P : Program} {w : World} {K : PySem.W.Frag} {elts : List Expr} {x1} {tpos : Pos} (a e it : Addr) (hne : e ≠ it) :
    Turn P w K (.Tuple elts x1 tpos) (Ite K a) [e, it] e (fun i h => (∃ old, IsEnum h e it ((i : Nat) : Int) old) ∧ h.IsListIter it a i) where
  mem := by simp
  obj := fun i h st b hb => by
    obtain ⟨⟨old, he⟩, ⟨o, e1, c, d⟩⟩ := st
    have : b = e ∨ b = it := by simpa using hb
    rcases this with rfl | rfl
    · exact ⟨_, he, fun v z => by cases z⟩
    · exact ⟨o, e1, fun v z => by rw [d] at z; cases z⟩
  keep := fun i h h' st k => by
    obtain ⟨⟨old, he⟩, hi⟩ := st
    exact ⟨⟨old, k e (by simp) _ he⟩, hi.at fun o q => k it (by simp) o q⟩
  item := by
    intro X hP hw hK hc i pins s σ H E I hf st hg
    subst hP hw hK
    obtain ⟨xs, x, hq, hx⟩ := hg
    obtain ⟨⟨old, he⟩, hit⟩ := st
    obtain ⟨its, rv, p, hz⟩ := I.list hq
    obtain ⟨u, hu, ru⟩ := rv.get hx
    have fe := hf e (by simp)
    have fi := hf it (by simp)
    have heH : e < s.heap.objs.size := Heap.lt_size he
    obtain ⟨oi, hoi, ci, di⟩ := id hit
    have hiH : it < s.heap.objs.size := Heap.lt_size hoi
    refine wpAny_pyNext_enum_item he hit p.isList (x := u) (by simpa using hu) hne fun h₁ heo hit₁ ht₁ hz₁ hk₁ => ⟨_, rfl, ?_⟩
    refine wpAny_letOwnedTupleGo_enum heo fun h₂ he₂ hs₂ => ?_
    replace hs₂ : Heap.SameBut e h₁ h₂ := hs₂
    have hnew : h₂.get? s.heap.objs.size = some { cls := .type "tuple", data := .seq #[.int i s.toks, u] } := (hs₂.2 _ (Nat.ne_of_gt heH)).trans ht₁
    have hkeep : ∀ b o, b ∉ [e, it] → s.heap.get? b = some o → h₂.get? b = some o := fun b o hb q => by
      have n1 : b ≠ e := fun z => hb (by simp [z])
      have n2 : b ≠ it := fun z => hb (by simp [z])
      exact (hs₂.2 b n1).trans (hk₁ b o n1 n2 q)
    -- the records turned, then the tuple is laid
    have free0 := I.hok.fresh (Nat.le_refl s.heap.objs.size)
    have hT : ObjOk X.prog X.w (upd H s.heap.objs.size (.tup [.int i, x])) h₂ s.heap.objs.size (.tup [.int i, x]) :=
      ⟨(by show 2 ≤ sizeLine; decide), [.int i s.toks, u], .cons ⟨_, rfl⟩ (.cons ru .nil), ⟨_, hnew, rfl, _, rfl⟩⟩
    have I2 : Inv X pins σ (upd H s.heap.objs.size (.tup [.int i, x])) { s with heap := h₂, toks := s.toks + 1 } := I.turnedN (t' := s.toks + 1) hkeep hf (Nat.le_refl _) hT
    refine ⟨.ref s.heap.objs.size, upd H s.heap.objs.size (.tup [.int i, x]), I2, rfl, ⟨s.heap.objs.size, x, free0, rfl, rfl, fun ys hy => by rw [I.list_inj hy hq]; exact hx⟩, ⟨⟨u, ?_⟩, ?_⟩, fun b hb => ?_⟩
    · have : (((i + 1 : Nat)) : Int) = (i : Int) + 1 := by omega
      rw [this]; exact he₂
    · exact hit₁.extBut hs₂.extBut (Ne.symm hne)
    · have hb2 : b = e ∨ b = it := by simpa using hb
      rw [upd_ne]
      · exact (hf b hb).1
      · rcases hb2 with z | z
        · rw [z]; exact Nat.ne_of_lt heH
        · rw [z]; exact Nat.ne_of_lt hiH
  done := by
    intro X hP hw hK hc i pins s σ H E I hf st hg
    subst hP hw hK
    obtain ⟨xs, hq, hx⟩ := hg
    obtain ⟨⟨old, he⟩, hit⟩ := st
    obtain ⟨its, rv, p, hz⟩ := I.list hq
    obtain ⟨f0, f1, f2, f3, f4, f5⟩ := hf it (by simp)
    have hl := rv.length
    exact wpAny_pyNext_enum_end (I.ok.hd hc) he hit p.isList (by simp; omega) fun h' eb => ⟨rfl, I.turned (t' := s.toks) (fun b o hb e => eb b o hb e) f0 f1 f3 f4 f5⟩
  self := fun _ _ _ _ _ st h => by
    obtain ⟨⟨old, he⟩, _⟩ := st
    exact wpAny_pyIter_enum he h
section
variable {X : Cx} {elts : List Expr} {x1 : _} {tpos : Pos}
def iEnum (K : PySem.W.Frag) (ta : TA) : TI := fun σ H R => ta σ H fun vs H1 => ∃ a, vs = [.ref a] ∧ (∃ xs, SqL K H1 a xs) ∧ R (Ite K a) H1
theorem pi_enum {x1} {l : Expr} {ta : TA} {p pos : Pos} (hg : Gl X "enumerate") (hm : X.mg "enumerate" = none) (ha : PA X [l] ta) (hs : starEach [l] X.env = [(false, eval l X.env)] := by rfl) :
    PI X (.Tuple elts x1 tpos) (.Call (.Name "enumerate" p) [l] [] pos) (iEnum X.K ta) := by
  intro pins s σ H R I h
  refine Call_ (ld_blt I hg hm bt_enumerate (PyProof.Rows.callWith_type1 (thn (ha pos pins s σ H _ I h) fun us s1 ⟨vs, H1, I1, r1, q1⟩ => ?_) hs rfl))
  obtain ⟨a, rfl, ⟨xs, hq⟩, q⟩ := q1
  obtain ⟨u, rfl, ru⟩ := vals1 r1
  cases ru
  obtain ⟨its, rv, pl, hz⟩ := I1.list hq
  refine call_enumerate_list pl.isList fun h' he hit hsz hk => ?_
  refine wpAny_pyIter_enum he ?_
  have I2 : Inv X pins σ H1 { s1 with heap := h' } := I1.kept (t' := s1.toks) hk
  refine ⟨s1.heap.objs.size + 1, [s1.heap.objs.size + 1, s1.heap.objs.size], _, _, H1, rfl, I2, turn_enum a (s1.heap.objs.size + 1) s1.heap.objs.size (Nat.succ_ne_self _), ⟨⟨_, he⟩, hit⟩, fun b hb => ?_, q⟩
  have hb2 : b = s1.heap.objs.size + 1 ∨ b = s1.heap.objs.size := by simpa using hb
  rcases hb2 with rfl | rfl
  · exact I1.fpOk (Nat.le_succ _) (I1.hok.fresh (Nat.le_succ _))
  · exact I1.fpOk (Nat.le_refl _) (I1.hok.fresh (Nat.le_refl _))
/-- min(xs) of a list of ints that has one -/
def rMinL (K : PySem.W.Frag) : List V → Hp → VK → Prop := fun xs H Q => ∃ a ns, xs = [.ref a] ∧ SqL K H a (List.map V.int ns) ∧ ns ≠ [] ∧ ∀ M, M ∈ ns → (∀ z, z ∈ ns → M ≤ z) → Q (.int M) H
end
section
variable {K : PySem.W.Frag} {H : Hp} {Q : VK} {σ : St}
theorem rd_ienum {ta : TA} {R : It → Hp → Prop} (h : ta σ H fun vs H1 => ∃ a, vs = [.ref a] ∧ (∃ xs, SqL K H1 a xs) ∧ R (Ite K a) H1) : iEnum K ta σ H R := h
/-- a loop over the places and items of a list that stays -/
theorem for_enum {a : Addr} {xs : List V} {g : TG} {tb : TS} {D : Ends} (Pv : Nat → St → Hp → Prop) (h0 : Pv 0 σ H) (hl : ∀ i σ H, i ≤ xs.length → Pv i σ H → SqL K H a xs)
    (hs : ∀ i x σ H t, xs[i]? = some x → Pv i σ H → H t = none → g (.ref t) σ (upd H t (.tup [.int i, x])) fun σ2 H2 => tb { D with nx := Pv (i + 1), ct := Pv (i + 1), bk := D.nx } σ2 H2) (hd : ∀ σ H, Pv xs.length σ H → D.nx σ H) :
    ∃ W : Nat → Nat → St → Hp → Prop, (∃ m, W 0 m σ H) ∧ ∀ i m σ H, W i m σ H →
      ((Ite K a).stop i H ∧ D.nx σ H) ∨ ((Ite K a).go i H ∧ ∃ N : St → Hp → Prop, (∀ σ' H', N σ' H' → ∃ m', m' < m ∧ W (i + 1) m' σ' H') ∧ ∀ x H', (Ite K a).yld i H x H' → g x σ H' fun σ2 H2 => tb { D with nx := N, ct := N, bk := D.nx } σ2 H2) := by
  refine ⟨fun i m σ H => m = xs.length - i ∧ i ≤ xs.length ∧ Pv i σ H, ⟨xs.length, by simp, Nat.zero_le _, h0⟩, ?_⟩
  rintro i m σ H ⟨rfl, hi, p⟩
  have q := hl i σ H hi p
  by_cases hlt : i < xs.length
  · refine .inr ⟨⟨xs, xs[i], q, by simp [hlt]⟩, Pv (i + 1), fun σ2 H2 p' => ⟨xs.length - (i + 1), by omega, rfl, hlt, p'⟩, fun x H2 y => ?_⟩
    obtain ⟨t, z, nt, rfl, rfl, hz⟩ := y
    exact hs i z σ H t (hz xs q) p nt
  · have e : i = xs.length := by omega
    subst e
    exact .inl ⟨⟨xs, q, Nat.le_refl _⟩, hd σ H p⟩
end
end L2

namespace L2
open PySem PySem.Spec PyProof.Rows
section
variable {X : Cx} {K : PySem.W.Frag} {tg : Expr}
theorem pi_listK {l : Expr} {tl : TE} (h : X.K = K) (hl : PE X l tl) : PI X tg l (iList K tl) := by subst h; exact pi_list hl
end
/-- a block within a block -/
theorem blkOkM {X : Cx} {k n g c} {scope : Scope} {N vs fs : List Str} {js : List Nat} (hs : X.env.scope = { kind := k, names := n, isGenerator := g, isCoroutine := c }) (hN : X.N = N)
    (h : blkB { kind := k, names := n, isGenerator := g, isCoroutine := c } scope N vs fs js = true) : BlkOk X scope vs fs js := blkOk h hs hN
end L2

/-! sorted of any number of items: galloping, merging, runs -/
namespace L2
open PySem PySem.Spec PyProof.Rows
def galS : Bool → Keyed → Array Keyed → Nat → Nat → Nat → StateT SortSt Sem (Option Nat) := sortPriv% PySem.Builtin.gallop
def bydS (lf : Bool) (ky : Keyed) (ar : Array Keyed) (bs j : Nat) : StateT SortSt Sem (Option Bool) := do
  let z ← elem' ar (bs + j)
  if lf then lt' z ky else return (← lt' ky z).map (!·)
theorem galS_eq (lf : Bool) (ky : Keyed) (ar : Array Keyed) (bs nn ht : Nat) : galS lf ky ar bs nn ht = (do
  let mut la := 0
  let mut of := 1
  let mut lx := 0
  let mut hx := 0
  let some rt ← bydS lf ky ar bs ht | return none
  if rt then
    let mx := nn - ht
    for _ in [0:nn] do
      if of ≥ mx then break
      let some mo ← bydS lf ky ar bs (ht + of) | return none
      if !mo then break
      la := of
      of := 2 * of + 1
    lx := ht + la + 1
    hx := ht + min of mx
  else
    let mx := ht + 1
    for _ in [0:nn] do
      if of ≥ mx then break
      let some fo ← bydS lf ky ar bs (ht - of) | return none
      if fo then break
      la := of
      of := 2 * of + 1
    lx := ht + 1 - min of mx
    hx := ht - la
  for _ in [0:nn] do
    if lx ≥ hx then break
    let mi := lx + (hx - lx) / 2
    let some mo ← bydS lf ky ar bs mi | return none
    if mo then lx := mi + 1 else hx := mi
  return some hx) := rfl
section
variable {prog : Program} {w : World} {A : Around} {E : Value → Shared → Prop} {s : Shared}
/-- the comparison of good things is told by ltb -/
def LtOk (prog : Program) (w : World) (A : Around) (E : Value → Shared → Prop) (s : Shared) (ltb : Keyed → Keyed → Bool) (S : Keyed → Prop) (κ : SortKind) : Prop :=
  ∀ (x y : Keyed) (st : SortSt) (Q : Option Bool → SortSt → Prop), S x → S y → kindOf st = κ → Q (some (ltb x y)) st → wpS (model prog w) A E s (lt' x y) Q st
def Bf (ltb : Keyed → Keyed → Bool) (lf : Bool) (ky x : Keyed) : Bool := if lf then ltb x ky else !ltb ky x
variable {ltb : Keyed → Keyed → Bool} {S : Keyed → Prop} {κ : SortKind}
theorem wpS_elem {ar : Array Keyed} {i : Nat} {x : Keyed} {st : SortSt} {Q : Keyed → SortSt → Prop} (h : ar[i]? = some x) (q : Q x st) : wpS (model prog w) A E s (elem' ar i) Q st := by
  rw [elem'_eq, h]; exact wpS_pure q
theorem wpS_byd {lf : Bool} {ky : Keyed} {ar : Array Keyed} {bs j : Nat} {x : Keyed} {st : SortSt} {Q : Option Bool → SortSt → Prop} (hO : LtOk prog w A E s ltb S κ) (hk : kindOf st = κ) (hky : S ky)
    (hx : ar[bs + j]? = some x) (hS : S x) (q : Q (some (Bf ltb lf ky x)) st) : wpS (model prog w) A E s (bydS lf ky ar bs j) Q st := by
  unfold bydS
  refine wpS_bind (wpS_elem hx ?_)
  cases lf with
  | true => exact hO x ky st Q hS hky hk q
  | false =>
    refine wpS_bind (hO ky x st _ hky hS hk ?_)
    exact wpS_pure q
theorem wpS_gal {lf : Bool} {ky : Keyed} {ar : Array Keyed} {bs nn ht : Nat} {st : SortSt} {Q : Option Nat → SortSt → Prop} (hO : LtOk prog w A E s ltb S κ) (hk : kindOf st = κ) (hky : S ky) (B : Nat → Bool)
    (hB : ∀ j, j < nn → ∃ x, ar[bs + j]? = some x ∧ S x ∧ Bf ltb lf ky x = B j) (anti : ∀ i j, i ≤ j → j < nn → B j = true → B i = true) (hht : ht < nn)
    (h : ∀ k, k ≤ nn → (∀ i, i < k → B i = true) → (∀ i, k ≤ i → i < nn → B i = false) → Q (some k) st) : wpS (model prog w) A E s (galS lf ky ar bs nn ht) Q st := by
  have ask : ∀ (j : Nat) (Q : Option Bool → SortSt → Prop), j < nn → Q (some (B j)) st → wpS (model prog w) A E s (bydS lf ky ar bs j) Q st := fun j Q hj q => by
    obtain ⟨x, hx, hS, e⟩ := hB j hj
    exact wpS_byd hO hk hky hx hS (by rw [e]; exact q)
  have antiF : ∀ i j, i ≤ j → j < nn → B i = false → B j = false := fun i j hij hj e => by
    cases e2 : B j with
    | false => rfl
    | true => rw [anti i j hij hj e2] at e; cases e
  rw [galS_eq]
  refine wpS_bind (ask ht _ hht ?_)
  dsimp only
  cases hr : B ht with
  | true =>
    simp only [if_true]
    refine wpS_bind (wpS_mono (wpS_forRange (I := fun x c st' => st' = st ∧ ∃ l o, c = (none, l, o) ∧ l < o ∧ x + 1 ≤ o ∧ (l < nn - ht) ∧ B (ht + l) = true)
      (Q := fun c st' => st' = st ∧ ∃ l o, c = (none, l, o) ∧ l < o ∧ l < nn - ht ∧ B (ht + l) = true ∧ (nn - ht ≤ o ∨ (o < nn - ht ∧ B (ht + o) = false))) ?stp ?fin ⟨rfl, 0, 1, rfl, by omega, by omega, by omega, hr⟩) ?post)
    case fin =>
      rintro c st' ⟨rfl, l, o, rfl, a1, a2, a3, a4⟩
      exact ⟨rfl, l, o, rfl, a1, a3, a4, .inl (by omega)⟩
    case stp =>
      rintro x c st' _ hx ⟨rfl, l, o, rfl, a1, a2, a3, a4⟩
      dsimp only
      by_cases hge : o ≥ nn - ht
      · rw [if_pos hge]
        exact wpS_pure ⟨rfl, l, o, rfl, a1, a3, a4, .inl hge⟩
      · rw [if_neg hge]
        refine wpS_bind (ask _ _ (by omega) ?_)
        dsimp only
        cases hm : B (ht + o) with
        | true =>
          simp only [Bool.not_true, Bool.false_eq_true, if_false]
          exact wpS_pure ⟨rfl, o, _, rfl, by omega, by omega, by omega, hm⟩
        | false =>
          simp only [Bool.not_false, if_true]
          exact wpS_pure ⟨rfl, l, o, rfl, a1, a3, a4, .inr ⟨by omega, hm⟩⟩
    case post =>
      rintro c st' ⟨est, l, o, rfl, a1, a2, a3, a4⟩
      rw [est]
      dsimp only
      have P1 : ∀ i, i < ht + l + 1 → B i = true := fun i hi => anti i (ht + l) (by omega) (by omega) a3
      have P2 : ∀ i, ht + min o (nn - ht) ≤ i → i < nn → B i = false := fun i hi hi2 => by
        rcases a4 with z | ⟨z1, z2⟩
        · omega
        · exact antiF (ht + o) i (by omega) hi2 z2
      refine wpS_bind (wpS_mono (wpS_forRange (I := fun x c st' => st' = st ∧ ∃ l r, c = (none, l, r) ∧ l ≤ r ∧ r ≤ nn ∧ r - l ≤ nn - x ∧ (∀ i, i < l → B i = true) ∧ (∀ i, r ≤ i → i < nn → B i = false))
        (Q := fun c st' => st' = st ∧ ∃ l, c = (none, l, l) ∧ l ≤ nn ∧ (∀ i, i < l → B i = true) ∧ (∀ i, l ≤ i → i < nn → B i = false)) ?stp2 ?fin2 ⟨rfl, ht + l + 1, ht + min o (nn - ht), rfl, by omega, by omega, by omega, P1, P2⟩) ?post2)
      case fin2 =>
        rintro c st' ⟨rfl, l, r, rfl, a1, a2, a3, a4, a5⟩
        have : l = r := by omega
        subst this
        exact ⟨rfl, l, rfl, a2, a4, a5⟩
      case post2 =>
        rintro c st' ⟨rfl, l, rfl, a2, a4, a5⟩
        exact wpS_pure (h l a2 a4 a5)
      case stp2 =>
        rintro x c st' _ hx ⟨rfl, l, r, rfl, a1, a2, a3, a4, a5⟩
        dsimp only
        by_cases hge : l ≥ r
        · rw [if_pos hge]
          have : l = r := by omega
          subst this
          exact wpS_pure ⟨rfl, l, rfl, a2, a4, a5⟩
        · rw [if_neg hge]
          refine wpS_bind (ask _ _ (by omega) ?_)
          dsimp only
          cases hm : B (l + (r - l) / 2) with
          | true =>
            simp only [if_true]
            exact wpS_pure ⟨rfl, _, r, rfl, by omega, a2, by omega, fun i hi => anti i _ (by omega) (by omega) hm, a5⟩
          | false =>
            simp only [Bool.false_eq_true, if_false]
            exact wpS_pure ⟨rfl, l, _, rfl, by omega, by omega, by omega, a4, fun i hi hi2 => antiF _ i hi hi2 hm⟩
  | false =>
    simp only [Bool.false_eq_true, if_false]
    refine wpS_bind (wpS_mono (wpS_forRange (I := fun x c st' => st' = st ∧ ∃ l o, c = (none, l, o) ∧ l < o ∧ x + 1 ≤ o ∧ l < ht + 1 ∧ B (ht - l) = false)
      (Q := fun c st' => st' = st ∧ ∃ l o, c = (none, l, o) ∧ l < o ∧ l < ht + 1 ∧ B (ht - l) = false ∧ (ht + 1 ≤ o ∨ (o < ht + 1 ∧ B (ht - o) = true))) ?stp ?fin ⟨rfl, 0, 1, rfl, by omega, by omega, by omega, hr⟩) ?post)
    case fin =>
      rintro c st' ⟨rfl, l, o, rfl, a1, a2, a3, a4⟩
      exact ⟨rfl, l, o, rfl, a1, a3, a4, .inl (by omega)⟩
    case stp =>
      rintro x c st' _ hx ⟨rfl, l, o, rfl, a1, a2, a3, a4⟩
      dsimp only
      by_cases hge : o ≥ ht + 1
      · rw [if_pos hge]
        exact wpS_pure ⟨rfl, l, o, rfl, a1, a3, a4, .inl hge⟩
      · rw [if_neg hge]
        refine wpS_bind (ask _ _ (by omega) ?_)
        dsimp only
        cases hm : B (ht - o) with
        | true =>
          simp only [if_true]
          exact wpS_pure ⟨rfl, l, o, rfl, a1, a3, a4, .inr ⟨by omega, hm⟩⟩
        | false =>
          simp only [Bool.false_eq_true, if_false]
          exact wpS_pure ⟨rfl, o, _, rfl, by omega, by omega, by omega, hm⟩
    case post =>
      rintro c st' ⟨est, l, o, rfl, a1, a2, a3, a4⟩
      rw [est]
      dsimp only
      have P1 : ∀ i, i < ht + 1 - min o (ht + 1) → B i = true := fun i hi => by
        rcases a4 with z | ⟨z1, z2⟩
        · omega
        · exact anti i (ht - o) (by omega) (by omega) z2
      have P2 : ∀ i, ht - l ≤ i → i < nn → B i = false := fun i hi hi2 => antiF (ht - l) i (by omega) hi2 a3
      refine wpS_bind (wpS_mono (wpS_forRange (I := fun x c st' => st' = st ∧ ∃ l r, c = (none, l, r) ∧ l ≤ r ∧ r ≤ nn ∧ r - l ≤ nn - x ∧ (∀ i, i < l → B i = true) ∧ (∀ i, r ≤ i → i < nn → B i = false))
        (Q := fun c st' => st' = st ∧ ∃ l, c = (none, l, l) ∧ l ≤ nn ∧ (∀ i, i < l → B i = true) ∧ (∀ i, l ≤ i → i < nn → B i = false)) ?stp2 ?fin2 ⟨rfl, ht + 1 - min o (ht + 1), ht - l, rfl, by omega, by omega, by omega, P1, P2⟩) ?post2)
      case fin2 =>
        rintro c st' ⟨rfl, l, r, rfl, a1, a2, a3, a4, a5⟩
        have : l = r := by omega
        subst this
        exact ⟨rfl, l, rfl, a2, a4, a5⟩
      case post2 =>
        rintro c st' ⟨rfl, l, rfl, a2, a4, a5⟩
        exact wpS_pure (h l a2 a4 a5)
      case stp2 =>
        rintro x c st' _ hx ⟨rfl, l, r, rfl, a1, a2, a3, a4, a5⟩
        dsimp only
        by_cases hge : l ≥ r
        · rw [if_pos hge]
          have : l = r := by omega
          subst this
          exact wpS_pure ⟨rfl, l, rfl, a2, a4, a5⟩
        · rw [if_neg hge]
          refine wpS_bind (ask _ _ (by omega) ?_)
          dsimp only
          cases hm : B (l + (r - l) / 2) with
          | true =>
            simp only [if_true]
            exact wpS_pure ⟨rfl, _, r, rfl, by omega, a2, by omega, fun i hi => anti i _ (by omega) (by omega) hm, a5⟩
          | false =>
            simp only [Bool.false_eq_true, if_false]
            exact wpS_pure ⟨rfl, l, _, rfl, by omega, by omega, by omega, a4, fun i hi hi2 => antiF _ i hi hi2 hm⟩
end
end L2

/-! merging, as lists -/
namespace L2
open PySem PySem.Spec PyProof.Rows
/-- ltb is an order: x is no more than y where y is not less than x -/
structure OrdB (ltb : Keyed → Keyed → Bool) : Prop where
  asym : ∀ {x y}, ltb x y = true → ltb y x = false
  tr : ∀ {x y z}, ltb y x = false → ltb z y = false → ltb z x = false
def leB (ltb : Keyed → Keyed → Bool) (x y : Keyed) : Prop := ltb y x = false
section
variable {ltb : Keyed → Keyed → Bool} {xa xb ou : List Keyed} {ja jb k : Nat}
theorem drop_take_split {α : Type} (l : List α) (j k : Nat) : l.drop j = (l.drop j).take k ++ l.drop (j + k) := by
  rw [← List.drop_drop]; exact (List.take_append_drop k (l.drop j)).symm
theorem rise_le {l : List Keyed} (h : l.Pairwise (leB ltb)) {i j : Nat} (hi : i < j) {x y : Keyed} (hx : l[i]? = some x) (hy : l[j]? = some y) : leB ltb x y := by
  obtain ⟨h1, rfl⟩ := List.getElem?_eq_some_iff.mp hx
  obtain ⟨h2, rfl⟩ := List.getElem?_eq_some_iff.mp hy
  exact List.pairwise_iff_getElem.mp h i j h1 h2 hi
theorem rise_parts {l : List Keyed} (h : l.Pairwise (leB ltb)) (j k : Nat) : ((l.drop j).take k).Pairwise (leB ltb) ∧ ∀ x ∈ (l.drop j).take k, ∀ y ∈ l.drop (j + k), leB ltb x y := by
  have hd : (l.drop j).Pairwise (leB ltb) := h.drop
  rw [drop_take_split l j k, List.pairwise_append] at hd
  exact ⟨hd.1, hd.2.2⟩
/-- what has been merged, what is left -/
structure MI (ltb : Keyed → Keyed → Bool) (xa xb ou : List Keyed) (ja jb : Nat) : Prop where
  srt : ou.Pairwise (leB ltb)
  la : ∀ x ∈ ou, ∀ y ∈ xa.drop ja, leB ltb x y
  lb : ∀ x ∈ ou, ∀ y ∈ xb.drop jb, leB ltb x y
  pm : (ou ++ (xa.drop ja ++ xb.drop jb)).Perm (xa ++ xb)
  sz : ou.length = ja + jb
theorem MI.stepA (O : OrdB ltb) (sa : xa.Pairwise (leB ltb)) (sb : xb.Pairwise (leB ltb)) (m : MI ltb xa xb ou ja jb) (hk : ja + k ≤ xa.length) {z : Keyed} (hz : xb[jb]? = some z) (c : ∀ y ∈ (xa.drop ja).take k, leB ltb y z) :
    MI ltb xa xb (ou ++ (xa.drop ja).take k) (ja + k) jb := by
  obtain ⟨p1, p2⟩ := rise_parts sa ja k
  have sub : ∀ y ∈ (xa.drop ja).take k, y ∈ xa.drop ja := fun y hy => List.mem_of_mem_take hy
  have zb : ∀ y ∈ xb.drop jb, leB ltb z y ∨ y = z := fun y hy => by
    obtain ⟨i, hi, e⟩ := List.getElem_of_mem hy
    have e2 : xb[jb + i]? = some y := by rw [← List.getElem?_drop, List.getElem?_eq_getElem hi, e]
    by_cases h0 : i = 0
    · subst h0; rw [Nat.add_zero, hz] at e2; exact .inr (Option.some.inj e2).symm
    · exact .inl (rise_le sb (by omega) hz e2)
  refine ⟨?_, ?_, ?_, ?_, ?_⟩
  · rw [List.pairwise_append]
    exact ⟨m.srt, p1, fun x hx y hy => m.la x hx y (sub y hy)⟩
  · intro x hx y hy
    rcases List.mem_append.mp hx with h | h
    · exact m.la x h y (by rw [drop_take_split xa ja k]; exact List.mem_append_right _ hy)
    · exact p2 x h y hy
  · intro x hx y hy
    rcases List.mem_append.mp hx with h | h
    · exact m.lb x h y hy
    · rcases zb y hy with z1 | z1
      · exact O.tr (c x h) z1
      · rw [z1]; exact c x h
  · have e := drop_take_split xa ja k
    have := m.pm
    rw [e] at this
    simpa [List.append_assoc] using this
  · rw [List.length_append, m.sz, List.length_take, List.length_drop]; omega
theorem MI.stepB (O : OrdB ltb) (sa : xa.Pairwise (leB ltb)) (sb : xb.Pairwise (leB ltb)) (m : MI ltb xa xb ou ja jb) (hk : jb + k ≤ xb.length) {z : Keyed} (hz : xa[ja]? = some z) (c : ∀ y ∈ (xb.drop jb).take k, leB ltb y z) :
    MI ltb xa xb (ou ++ (xb.drop jb).take k) ja (jb + k) := by
  obtain ⟨p1, p2⟩ := rise_parts sb jb k
  have sub : ∀ y ∈ (xb.drop jb).take k, y ∈ xb.drop jb := fun y hy => List.mem_of_mem_take hy
  have za : ∀ y ∈ xa.drop ja, leB ltb z y ∨ y = z := fun y hy => by
    obtain ⟨i, hi, e⟩ := List.getElem_of_mem hy
    have e2 : xa[ja + i]? = some y := by rw [← List.getElem?_drop, List.getElem?_eq_getElem hi, e]
    by_cases h0 : i = 0
    · subst h0; rw [Nat.add_zero, hz] at e2; exact .inr (Option.some.inj e2).symm
    · exact .inl (rise_le sa (by omega) hz e2)
  refine ⟨?_, ?_, ?_, ?_, ?_⟩
  · rw [List.pairwise_append]
    exact ⟨m.srt, p1, fun x hx y hy => m.lb x hx y (sub y hy)⟩
  · intro x hx y hy
    rcases List.mem_append.mp hx with h | h
    · exact m.la x h y hy
    · rcases za y hy with z1 | z1
      · exact O.tr (c x h) z1
      · rw [z1]; exact c x h
  · intro x hx y hy
    rcases List.mem_append.mp hx with h | h
    · exact m.lb x h y (by rw [drop_take_split xb jb k]; exact List.mem_append_right _ hy)
    · exact p2 x h y hy
  · have e := drop_take_split xb jb k
    have := m.pm
    rw [e] at this
    refine List.Perm.trans ?_ this
    rw [List.append_assoc]
    refine List.Perm.append_left _ ?_
    rw [← List.append_assoc, ← List.append_assoc]
    refine List.Perm.append_right _ ?_
    exact List.perm_append_comm
  · rw [List.length_append, m.sz, List.length_take, List.length_drop]; omega
theorem MI.start (sb : xb.Pairwise (leB ltb)) {z y0 : Keyed} (hz : xb[0]? = some z) (c : ∀ y ∈ xa, leB ltb z y) : MI ltb xa xb [z] 0 1 := by
  have hx : xb = z :: xb.drop 1 := by
    cases xb with
    | nil => cases hz
    | cons b r => obtain rfl := Option.some.inj hz; rfl
  refine ⟨by simp, fun x hx y hy => ?_, fun x hx2 y hy => ?_, ?_, rfl⟩
  · simp at hx hy; rw [hx]; exact c y hy
  · simp at hx2
    rw [hx2]
    rw [hx, List.pairwise_cons] at sb
    exact sb.1 y hy
  · rw [List.drop_zero]
    refine List.Perm.trans ?_ (List.Perm.append_left xa (List.Perm.of_eq hx.symm))
    show (z :: (xa ++ xb.drop 1)).Perm _
    exact List.perm_middle.symm
/-- all of b is out -/
theorem MI.done (sa : xa.Pairwise (leB ltb)) (m : MI ltb xa xb ou ja jb) (h : jb = xb.length) : (ou ++ xa.drop ja ++ xb.drop jb).Pairwise (leB ltb) ∧ (ou ++ xa.drop ja ++ xb.drop jb).Perm (xa ++ xb) := by
  have e : xb.drop jb = [] := by rw [h]; exact List.drop_length
  have pm := m.pm
  rw [e, List.append_nil] at pm ⊢
  refine ⟨?_, pm⟩
  rw [List.pairwise_append]
  exact ⟨m.srt, sa.drop, m.la⟩
/-- the last one of a is left, which is the greatest -/
theorem MI.last (sa : xa.Pairwise (leB ltb)) (sb : xb.Pairwise (leB ltb)) (m : MI ltb xa xb ou ja jb) (h : ∀ x ∈ xb, ∀ y ∈ xa.drop ja, leB ltb x y) :
    (ou ++ xb.drop jb ++ xa.drop ja).Pairwise (leB ltb) ∧ (ou ++ xb.drop jb ++ xa.drop ja).Perm (xa ++ xb) := by
  constructor
  · rw [List.pairwise_append, List.pairwise_append]
    refine ⟨⟨m.srt, sb.drop, m.lb⟩, sa.drop, fun x hx y hy => ?_⟩
    rcases List.mem_append.mp hx with z | z
    · exact m.la x z y hy
    · exact h x (List.mem_of_mem_drop z) y hy
  · refine List.Perm.trans ?_ m.pm
    rw [List.append_assoc]
    exact List.Perm.append_left _ List.perm_append_comm
end
end L2

/-! mergeLo -/
namespace L2
open PySem PySem.Spec PyProof.Rows
def mloS : Array Keyed → Array Keyed → StateT SortSt Sem (Array Keyed) := sortPriv% PySem.Builtin.mergeLo
def dnS (xa xb ou : Array Keyed) (ja jb : Nat) : Array Keyed := ou ++ xa.extract ja xa.size ++ xb.extract jb xb.size
def lsS (xa xb ou : Array Keyed) (ja jb : Nat) : Array Keyed := ou ++ xb.extract jb xb.size ++ xa.extract ja xa.size
def smgS (g : Nat) : StateT SortSt Sem Unit := modify fun z => SortSt.mk' (kindOf z) (arrOf z) (pendingOf z) g (failedOf z)
theorem mloS_eq (xa xb : Array Keyed) : mloS xa xb = (do
  rule "list.sort.merge-lo"
  let mut ou : Array Keyed := #[← elem' xb 0]
  let mut ja := 0
  let mut jb := 1
  if jb == xb.size then return dnS xa xb ou ja jb
  if ja + 1 == xa.size then return lsS xa xb ou ja jb
  let mut mg := gallopOf (← get)
  for _ in [0:xa.size + xb.size] do
    let mut ca := 0
    let mut cb := 0
    for _ in [0:xa.size + xb.size] do
      let some bw ← lt' (← elem' xb jb) (← elem' xa ja) | return dnS xa xb ou ja jb
      if bw then
        ou := ou.push (← elem' xb jb); jb := jb + 1; cb := cb + 1; ca := 0
        if jb == xb.size then return dnS xa xb ou ja jb
        if cb ≥ mg then break
      else
        ou := ou.push (← elem' xa ja); ja := ja + 1; ca := ca + 1; cb := 0
        if ja + 1 == xa.size then return lsS xa xb ou ja jb
        if ca ≥ mg then break
    rule "list.sort.gallop"
    mg := mg + 1
    for _ in [0:xa.size + xb.size] do
      if mg > 1 then mg := mg - 1
      smgS mg
      let some kk ← galS false (← elem' xb jb) xa ja (xa.size - ja) 0 | return dnS xa xb ou ja jb
      ca := kk
      if kk > 0 then
        ou := ou ++ xa.extract ja (ja + kk); ja := ja + kk
        if ja + 1 == xa.size then return lsS xa xb ou ja jb
        if ja == xa.size then return dnS xa xb ou ja jb
      ou := ou.push (← elem' xb jb); jb := jb + 1
      if jb == xb.size then return dnS xa xb ou ja jb
      let some kk ← galS true (← elem' xa ja) xb jb (xb.size - jb) 0 | return dnS xa xb ou ja jb
      cb := kk
      if kk > 0 then
        ou := ou ++ xb.extract jb (jb + kk); jb := jb + kk
        if jb == xb.size then return dnS xa xb ou ja jb
      ou := ou.push (← elem' xa ja); ja := ja + 1
      if ja + 1 == xa.size then return lsS xa xb ou ja jb
      if ca < 7 && cb < 7 then break
    mg := mg + 1
    smgS mg
  unsupported "internal:list.sort.merge-bound") := rfl
theorem ext_drop (x : Array Keyed) (j : Nat) : (x.extract j x.size).toList = x.toList.drop j := by
  rw [Array.toList_extract]
  exact List.take_of_length_le (by simp)
theorem ext_part (x : Array Keyed) (j k : Nat) : (x.extract j (j + k)).toList = (x.toList.drop j).take k := by
  rw [Array.toList_extract]
  show List.take (j + k - j) (List.drop j x.toList) = _
  rw [show j + k - j = k by omega]
section
variable {ltb : Keyed → Keyed → Bool} {xa xb ou : Array Keyed} {ja jb k : Nat}
theorem one_at {x : Array Keyed} {j : Nat} {b : Keyed} (h : x[j]? = some b) : (x.toList.drop j).take 1 = [b] := by
  have hj := (Array.getElem?_eq_some_iff.mp h).1
  have e := (Array.getElem?_eq_some_iff.mp h).2
  rw [List.drop_eq_getElem_cons (by simpa using hj)]
  simp [e]
theorem MI.pB (O : OrdB ltb) (sa : xa.toList.Pairwise (leB ltb)) (sb : xb.toList.Pairwise (leB ltb)) (m : MI ltb xa.toList xb.toList ou.toList ja jb) {b y : Keyed} (hb : xb[jb]? = some b) (hy : xa[ja]? = some y) (c : leB ltb b y) : MI ltb xa.toList xb.toList (ou.push b).toList ja (jb + 1) := by
  have hj := (Array.getElem?_eq_some_iff.mp hb).1
  have := m.stepB O sa sb (k := 1) (by rw [Array.length_toList]; omega) (z := y) (by simpa using hy) (by rw [one_at hb]; intro x hx; simp at hx; rw [hx]; exact c)
  rw [one_at hb] at this
  simpa using this
theorem MI.pA (O : OrdB ltb) (sa : xa.toList.Pairwise (leB ltb)) (sb : xb.toList.Pairwise (leB ltb)) (m : MI ltb xa.toList xb.toList ou.toList ja jb) {b y : Keyed} (hb : xb[jb]? = some b) (hy : xa[ja]? = some y) (c : leB ltb y b) : MI ltb xa.toList xb.toList (ou.push y).toList (ja + 1) jb := by
  have hj := (Array.getElem?_eq_some_iff.mp hy).1
  have := m.stepA O sa sb (k := 1) (by rw [Array.length_toList]; omega) (z := b) (by simpa using hb) (by rw [one_at hy]; intro x hx; simp at hx; rw [hx]; exact c)
  rw [one_at hy] at this
  simpa using this
theorem part_at {x : Array Keyed} {j k : Nat} {y : Keyed} (h : y ∈ (x.toList.drop j).take k) : ∃ i, i < k ∧ x[j + i]? = some y := by
  obtain ⟨i, hi, e⟩ := List.getElem_of_mem h
  rw [List.length_take] at hi
  refine ⟨i, by omega, ?_⟩
  rw [List.getElem_take, List.getElem_drop] at e
  have hl : j + i < x.size := by rw [List.length_drop] at hi; simp at hi; omega
  rw [Array.getElem?_eq_getElem hl]
  simpa using e
theorem MI.eA (O : OrdB ltb) (sa : xa.toList.Pairwise (leB ltb)) (sb : xb.toList.Pairwise (leB ltb)) (m : MI ltb xa.toList xb.toList ou.toList ja jb) (hk : ja + k ≤ xa.size) {b : Keyed} (hb : xb[jb]? = some b) (c : ∀ i, i < k → ∀ x, xa[ja + i]? = some x → leB ltb x b) :
    MI ltb xa.toList xb.toList (ou ++ xa.extract ja (ja + k)).toList (ja + k) jb := by
  have := m.stepA O sa sb (k := k) (by simpa using hk) (z := b) (by simpa using hb) (fun y hy => by obtain ⟨i, h1, h2⟩ := part_at hy; exact c i h1 y h2)
  rw [Array.toList_append, ext_part]; exact this
theorem MI.eB (O : OrdB ltb) (sa : xa.toList.Pairwise (leB ltb)) (sb : xb.toList.Pairwise (leB ltb)) (m : MI ltb xa.toList xb.toList ou.toList ja jb) (hk : jb + k ≤ xb.size) {y : Keyed} (hy : xa[ja]? = some y) (c : ∀ i, i < k → ∀ x, xb[jb + i]? = some x → leB ltb x y) :
    MI ltb xa.toList xb.toList (ou ++ xb.extract jb (jb + k)).toList ja (jb + k) := by
  have := m.stepB O sa sb (k := k) (by simpa using hk) (z := y) (by simpa using hy) (fun y hy => by obtain ⟨i, h1, h2⟩ := part_at hy; exact c i h1 y h2)
  rw [Array.toList_append, ext_part]; exact this
theorem arr_le {x : Array Keyed} (h : x.toList.Pairwise (leB ltb)) {i j : Nat} (hij : i < j) {u v : Keyed} (hu : x[i]? = some u) (hv : x[j]? = some v) : leB ltb u v :=
  rise_le h hij (by simpa using hu) (by simpa using hv)
theorem arr_mem {x : Array Keyed} {i : Nat} {u : Keyed} (hu : x[i]? = some u) : u ∈ x.toList := by
  have := Array.mem_of_getElem? hu
  simpa using this
end
section
variable {prog : Program} {w : World} {A : Around} {E : Value → Shared → Prop} {s : Shared} {ltb : Keyed → Keyed → Bool} {S : Keyed → Prop} {κ : SortKind}
/-- a gallop to the right of all that are no more than the key -/
theorem wpS_galR (O : OrdB ltb) (hO : LtOk prog w A E s ltb S κ) {x : Array Keyed} {bs nn ht : Nat} {ky : Keyed} {st : SortSt} {Q : Option Nat → SortSt → Prop} (hk : kindOf st = κ) (hky : S ky) (Sx : ∀ u ∈ x.toList, S u) (sx : ∀ i j u v, i < j → j < nn → x[bs + i]? = some u → x[bs + j]? = some v → leB ltb u v)
    (hn : bs + nn ≤ x.size) (hht : ht < nn) (h : ∀ k, k ≤ nn → (∀ i, i < k → ∀ u, x[bs + i]? = some u → leB ltb u ky) → (∀ i, k ≤ i → i < nn → ∀ u, x[bs + i]? = some u → ltb ky u = true) → Q (some k) st) : wpS (model prog w) A E s (galS false ky x bs nn ht) Q st := by
  have ex : ∀ j, j < nn → ∃ u, x[bs + j]? = some u := fun j hj => ⟨_, Array.getElem?_eq_getElem (by omega)⟩
  refine wpS_gal hO hk hky (fun j => match x[bs + j]? with | some u => Bf ltb false ky u | none => false) (fun j hj => ?_) (fun i j hij hj hb => ?_) hht fun k h1 h2 h3 => h k h1 (fun i hi u hu => ?_) fun i hi hi2 u hu => ?_
  · obtain ⟨u, hu⟩ := ex j hj
    exact ⟨u, hu, Sx u (arr_mem hu), by simp only [hu]⟩
  · obtain ⟨u, hu⟩ := ex i (by omega)
    obtain ⟨v, hv⟩ := ex j hj
    simp only [hu, hv, Bf, Bool.false_eq_true, if_false, Bool.not_eq_true'] at hb ⊢
    by_cases e : i = j
    · subst e; rw [hu] at hv; cases hv; exact hb
    · exact O.tr (sx i j u v (by omega) hj hu hv) hb
  · have := h2 i hi
    simp only [hu, Bf, Bool.false_eq_true, if_false, Bool.not_eq_true'] at this
    exact this
  · have := h3 i hi hi2
    simp only [hu, Bf, Bool.false_eq_true, if_false, Bool.not_eq_false'] at this
    exact this
/-- a gallop to the right of all that are less than the key -/
theorem wpS_galL (O : OrdB ltb) (hO : LtOk prog w A E s ltb S κ) {x : Array Keyed} {bs nn ht : Nat} {ky : Keyed} {st : SortSt} {Q : Option Nat → SortSt → Prop} (hk : kindOf st = κ) (hky : S ky) (Sx : ∀ u ∈ x.toList, S u) (sx : ∀ i j u v, i < j → j < nn → x[bs + i]? = some u → x[bs + j]? = some v → leB ltb u v)
    (hn : bs + nn ≤ x.size) (hht : ht < nn) (h : ∀ k, k ≤ nn → (∀ i, i < k → ∀ u, x[bs + i]? = some u → ltb u ky = true) → (∀ i, k ≤ i → i < nn → ∀ u, x[bs + i]? = some u → leB ltb ky u) → Q (some k) st) : wpS (model prog w) A E s (galS true ky x bs nn ht) Q st := by
  have ex : ∀ j, j < nn → ∃ u, x[bs + j]? = some u := fun j hj => ⟨_, Array.getElem?_eq_getElem (by omega)⟩
  refine wpS_gal hO hk hky (fun j => match x[bs + j]? with | some u => Bf ltb true ky u | none => false) (fun j hj => ?_) (fun i j hij hj hb => ?_) hht fun k h1 h2 h3 => h k h1 (fun i hi u hu => ?_) fun i hi hi2 u hu => ?_
  · obtain ⟨u, hu⟩ := ex j hj
    exact ⟨u, hu, Sx u (arr_mem hu), by simp only [hu]⟩
  · obtain ⟨u, hu⟩ := ex i (by omega)
    obtain ⟨v, hv⟩ := ex j hj
    simp only [hu, hv, Bf, if_true] at hb ⊢
    by_cases e : i = j
    · subst e; rw [hu] at hv; cases hv; exact hb
    · have l1 := sx i j u v (by omega) hj hu hv
      cases q : ltb u ky with
      | true => rfl
      | false => have := O.tr q l1; rw [this] at hb; cases hb
  · have := h2 i hi
    simp only [hu, Bf, if_true] at this
    exact this
  · have := h3 i hi hi2
    simp only [hu, Bf, if_true] at this
    exact this
end
section
variable {prog : Program} {w : World} {A : Around} {E : Value → Shared → Prop} {s : Shared} {ltb : Keyed → Keyed → Bool} {S : Keyed → Prop} {κ : SortKind}
/-- the state but for the galloping is as it was -/
structure SS (κ : SortKind) (st st' : SortSt) : Prop where
  kind : kindOf st' = κ
  fail : failedOf st' = none
  arr : arrOf st' = arrOf st
  pend : pendingOf st' = pendingOf st
theorem SS.smg {st st' : SortSt} (h : SS κ st st') (g : Nat) : SS κ st (SortSt.mk' (kindOf st') (arrOf st') (pendingOf st') g (failedOf st')) := ⟨h.kind, h.fail, h.arr, h.pend⟩
theorem wpS_mlo (O : OrdB ltb) (hO : LtOk prog w A E s ltb S κ) {xa xb : Array Keyed} {st : SortSt} {Q : Array Keyed → SortSt → Prop} (Sa : ∀ x ∈ xa.toList, S x) (Sb : ∀ x ∈ xb.toList, S x) (sa : xa.toList.Pairwise (leB ltb)) (sb : xb.toList.Pairwise (leB ltb))
    {z : Keyed} (hz : xb[0]? = some z) (hfst : ∀ y ∈ xa.toList, leB ltb z y) (ha0 : 0 < xa.size) (hlst : ∀ x ∈ xb.toList, ∀ y, xa[xa.size - 1]? = some y → ltb x y = true) (hS : SS κ st st)
    (h : ∀ r st', r.toList.Pairwise (leB ltb) → r.toList.Perm (xa.toList ++ xb.toList) → SS κ st st' → Q r st') : wpS (model prog w) A E s (mloS xa xb) Q st := by
  have hb0 : 0 < xb.size := by
    have := (Array.getElem?_eq_some_iff.mp hz).1; exact this
  have mdone : ∀ (ou : Array Keyed) (ja jb : Nat) (st' : SortSt), MI ltb xa.toList xb.toList ou.toList ja jb → jb = xb.size → SS κ st st' → Q (dnS xa xb ou ja jb) st' := fun ou ja jb st' m e ss => by
    obtain ⟨p1, p2⟩ := m.done sa (by rw [e]; simp)
    have el : (dnS xa xb ou ja jb).toList = ou.toList ++ xa.toList.drop ja ++ xb.toList.drop jb := by unfold dnS; rw [Array.toList_append, Array.toList_append, ext_drop, ext_drop]
    exact h _ _ (by rw [el]; exact p1) (by rw [el]; exact p2) ss
  have mlast : ∀ (ou : Array Keyed) (ja jb : Nat) (st' : SortSt), MI ltb xa.toList xb.toList ou.toList ja jb → ja + 1 = xa.size → SS κ st st' → Q (lsS xa xb ou ja jb) st' := fun ou ja jb st' m e ss => by
    obtain ⟨p1, p2⟩ := m.last sa sb (fun x hx y hy => by
      obtain ⟨i, hi, e2⟩ := List.getElem_of_mem hy
      have hi0 : i = 0 := by rw [List.length_drop] at hi; simp at hi; omega
      subst hi0
      have e3 : xa[xa.size - 1]? = some y := by
        rw [List.getElem_drop] at e2
        rw [show xa.size - 1 = ja by omega]
        rw [← e2]; simp
      exact O.asym (hlst x hx y e3))
    have el : (lsS xa xb ou ja jb).toList = ou.toList ++ xb.toList.drop jb ++ xa.toList.drop ja := by unfold lsS; rw [Array.toList_append, Array.toList_append, ext_drop, ext_drop]
    exact h _ _ (by rw [el]; exact p1) (by rw [el]; exact p2) ss
  have mi0 : MI ltb xa.toList xb.toList [z] 0 1 := MI.start (y0 := z) sb (by simpa using hz) hfst
  rw [mloS_eq]
  refine wpS_bind (wpS_lift (wpAny_rule ⟨rfl, ?_⟩))
  refine wpS_bind (wpS_elem hz ?_)
  dsimp only
  by_cases c1 : 1 = xb.size
  · rw [if_pos (by simpa using c1)]
    exact wpS_pure (mdone #[z] 0 1 st mi0 c1 hS)
  rw [if_neg (by simpa using c1)]
  by_cases c2 : 0 + 1 = xa.size
  · rw [if_pos (by simpa using c2)]
    exact wpS_pure (mlast #[z] 0 1 st mi0 c2 hS)
  rw [if_neg (by simpa using c2)]
  refine wpS_bind (wpS_get ?_)
  have at1 : ∀ {x : Array Keyed} {j : Nat}, j < x.size → ∃ u, x[j]? = some u := fun {x j} hj => ⟨_, Array.getElem?_eq_getElem hj⟩
  refine wpS_bind (wpS_mono (wpS_forRange
    (I := fun x c st' => SS κ st st' ∧ ∃ ou ja jb mg, c = (none, ou, ja, jb, mg) ∧ MI ltb xa.toList xb.toList ou.toList ja jb ∧ ja + 1 < xa.size ∧ jb < xb.size ∧ x + 1 ≤ ja + jb)
    (Q := fun c st' => ∃ r ou ja jb mg, c = (some r, ou, ja, jb, mg) ∧ Q r st') ?stp ?fin ⟨hS, #[z], 0, 1, _, rfl, mi0, by omega, by omega, by omega⟩) ?post)
  case fin =>
    rintro c st' ⟨ss, ou, ja, jb, mg, rfl, m, b1, b2, b3⟩
    omega
  case post =>
    rintro c st' ⟨r, ou, ja, jb, mg, rfl, hq⟩
    exact wpS_pure hq
  case stp =>
    rintro x c st1 _ hx ⟨ss, ou, ja, jb, mg, rfl, m, b1, b2, b3⟩
    dsimp only
    refine wpS_bind (wpS_mono (wpS_forRange
      (I := fun y c st' => SS κ st st' ∧ ∃ ou' ja' jb' ca cb, c = (none, ou', ja', jb', ca, cb) ∧ MI ltb xa.toList xb.toList ou'.toList ja' jb' ∧ ja' + 1 < xa.size ∧ jb' < xb.size ∧ ja + jb + y ≤ ja' + jb')
      (Q := fun c st' => (∃ r ou' ja' jb' ca cb, c = (some r, ou', ja', jb', ca, cb) ∧ Q r st') ∨ (SS κ st st' ∧ ∃ ou' ja' jb' ca cb, c = (none, ou', ja', jb', ca, cb) ∧ MI ltb xa.toList xb.toList ou'.toList ja' jb' ∧ ja' + 1 < xa.size ∧ jb' < xb.size ∧ ja + jb + 1 ≤ ja' + jb')) ?stp1 ?fin1 ⟨ss, ou, ja, jb, 0, 0, rfl, m, b1, b2, by omega⟩) ?post1)
    case fin1 =>
      rintro c st' ⟨ss, ou', ja', jb', ca, cb, rfl, m, d1, d2, d3⟩
      exact .inr ⟨ss, ou', ja', jb', ca, cb, rfl, m, d1, d2, by omega⟩
    case stp1 =>
      rintro y c st2 _ hy ⟨ss, ou', ja', jb', ca, cb, rfl, m, d1, d2, d3⟩
      dsimp only
      obtain ⟨vb, hvb⟩ := at1 (x := xb) d2
      obtain ⟨va, hva⟩ := at1 (x := xa) (j := ja') (by omega)
      refine wpS_bind (wpS_elem hvb (wpS_bind (wpS_elem hva (wpS_bind (hO vb va _ _ (Sb _ (arr_mem hvb)) (Sa _ (arr_mem hva)) ss.kind ?_)))))
      dsimp only
      cases hw : ltb vb va with
      | true =>
        simp only [if_true]
        have m2 := m.pB O sa sb hvb hva (O.asym hw)
        refine wpS_bind (wpS_elem hvb ?_)
        by_cases e1 : jb' + 1 = xb.size
        · rw [if_pos (by simpa using e1)]
          exact wpS_pure (.inl ⟨_, _, _, _, _, _, rfl, mdone _ _ _ _ m2 e1 ss⟩)
        · rw [if_neg (by simpa using e1)]
          split
          · exact wpS_pure (.inr ⟨ss, _, _, _, _, _, rfl, m2, d1, by omega, by omega⟩)
          · exact wpS_pure ⟨ss, _, _, _, _, _, rfl, m2, d1, by omega, by omega⟩
      | false =>
        simp only [Bool.false_eq_true, if_false]
        have m2 := m.pA O sa sb hvb hva hw
        refine wpS_bind (wpS_elem hva ?_)
        by_cases e1 : ja' + 1 + 1 = xa.size
        · rw [if_pos (by simpa using e1)]
          exact wpS_pure (.inl ⟨_, _, _, _, _, _, rfl, mlast _ _ _ _ m2 e1 ss⟩)
        · rw [if_neg (by simpa using e1)]
          split
          · exact wpS_pure (.inr ⟨ss, _, _, _, _, _, rfl, m2, by omega, d2, by omega⟩)
          · exact wpS_pure ⟨ss, _, _, _, _, _, rfl, m2, by omega, d2, by omega⟩
    case post1 =>
      rintro c st2 (⟨r, ou', ja', jb', ca, cb, rfl, hq⟩ | ⟨ss, ou', ja', jb', ca, cb, rfl, m, d1, d2, d3⟩)
      · exact wpS_pure ⟨r, _, _, _, _, rfl, hq⟩
      dsimp only
      refine wpS_bind (wpS_lift (wpAny_rule ⟨rfl, ?_⟩))
      refine wpS_bind (wpS_mono (wpS_forRange
        (I := fun y c st' => SS κ st st' ∧ ∃ ou' ja' jb' mg ca cb, c = (none, ou', ja', jb', mg, ca, cb) ∧ MI ltb xa.toList xb.toList ou'.toList ja' jb' ∧ ja' + 1 < xa.size ∧ jb' < xb.size ∧ ja + jb + 1 ≤ ja' + jb')
        (Q := fun c st' => (∃ r ou' ja' jb' mg ca cb, c = (some r, ou', ja', jb', mg, ca, cb) ∧ Q r st') ∨ (SS κ st st' ∧ ∃ ou' ja' jb' mg ca cb, c = (none, ou', ja', jb', mg, ca, cb) ∧ MI ltb xa.toList xb.toList ou'.toList ja' jb' ∧ ja' + 1 < xa.size ∧ jb' < xb.size ∧ ja + jb + 1 ≤ ja' + jb')) ?stp2 ?fin2 ⟨ss, ou', ja', jb', _, ca, cb, rfl, m, d1, d2, d3⟩) ?post2)
      case fin2 =>
        rintro c st' hh
        exact .inr hh
      case post2 =>
        rintro c st3 (⟨r, ou2, ja2, jb2, mg2, ca2, cb2, rfl, hq⟩ | ⟨ss, ou2, ja2, jb2, mg2, ca2, cb2, rfl, m, f1, f2, f3⟩)
        · exact wpS_pure ⟨r, _, _, _, _, rfl, hq⟩
        · dsimp only
          refine wpS_bind (wpS_modify ?_)
          exact wpS_pure ⟨ss.smg _, _, _, _, _, rfl, m, f1, f2, by omega⟩
      case stp2 =>
        rintro y c st3 _ hy ⟨ss, ou2, ja2, jb2, mg2, ca2, cb2, rfl, m, f1, f2, f3⟩
        dsimp only
        obtain ⟨vb, hvb⟩ := at1 (x := xb) f2
        have sxa : ∀ (q : Nat) i j u v, i < j → j < xa.size - q → xa[q + i]? = some u → xa[q + j]? = some v → leB ltb u v := fun q i j u v hij _ hu hv => arr_le sa (by omega) hu hv
        have sxb : ∀ (q : Nat) i j u v, i < j → j < xb.size - q → xb[q + i]? = some u → xb[q + j]? = some v → leB ltb u v := fun q i j u v hij _ hu hv => arr_le sb (by omega) hu hv
        obtain ⟨vl, hvl⟩ := at1 (x := xa) (j := xa.size - 1) (by omega)
        have hbl := hlst vb (arr_mem hvb) vl hvl
        by_cases hg : mg2 > 1
        · rw [if_pos hg]
          refine wpS_bind (wpS_modify ?_)
          have ss2 := ss.smg (mg2 - 1)
          refine wpS_bind (wpS_elem hvb (wpS_bind (wpS_galR O hO ss2.kind (Sb _ (arr_mem hvb)) Sa (sxa ja2) (by omega) (by omega) fun k hk1 hk2 hk3 => ?_)))
          have hkl : k < xa.size - ja2 := by
            by_cases q : k < xa.size - ja2
            · exact q
            · have := hk2 (xa.size - ja2 - 1) (by omega) vl (by rw [show ja2 + (xa.size - ja2 - 1) = xa.size - 1 by omega]; exact hvl)
              unfold leB at this
              rw [hbl] at this; cases this
          dsimp only
          by_cases kp : k > 0
          · rw [if_pos kp]
            have M3 := m.eA O sa sb (k := k) (by omega) hvb hk2
            by_cases e0 : ja2 + k + 1 = xa.size
            · rw [if_pos (by simpa using e0)]
              exact wpS_pure (.inl ⟨_, _, _, _, _, _, _, rfl, mlast _ _ _ _ M3 e0 ss2⟩)
            rw [if_neg (by simpa using e0), if_neg (by simp; omega)]
            obtain ⟨va, hva⟩ := at1 (x := xa) (j := ja2 + k) (by omega)
            have hw := hk3 k (Nat.le_refl _) hkl va hva
            refine wpS_bind (wpS_elem hvb ?_)
            have m4 := M3.pB O sa sb hvb hva (O.asym hw)
            by_cases e1 : jb2 + 1 = xb.size
            · rw [if_pos (by simpa using e1)]
              exact wpS_pure (.inl ⟨_, _, _, _, _, _, _, rfl, mdone _ _ _ _ m4 e1 ss2⟩)
            rw [if_neg (by simpa using e1)]
            refine wpS_bind (wpS_elem hva (wpS_bind (wpS_galL O hO ss2.kind (Sa _ (arr_mem hva)) Sb (sxb (jb2 + 1)) (by omega) (by omega) fun k2 g1 g2 g3 => ?_)))
            dsimp only
            by_cases k2p : k2 > 0
            · rw [if_pos k2p]
              have m5 := m4.eB O sa sb (k := k2) (by omega) hva (fun i hi u hu => O.asym (g2 i hi u hu))
              by_cases e2 : jb2 + 1 + k2 = xb.size
              · rw [if_pos (by simpa using e2)]
                exact wpS_pure (.inl ⟨_, _, _, _, _, _, _, rfl, mdone _ _ _ _ m5 e2 ss2⟩)
              rw [if_neg (by simpa using e2)]
              obtain ⟨vb2, hvb2⟩ := at1 (x := xb) (j := jb2 + 1 + k2) (by omega)
              have m6 := m5.pA O sa sb hvb2 hva (g3 k2 (Nat.le_refl _) (by omega) vb2 hvb2)
              refine wpS_bind (wpS_elem hva ?_)
              by_cases e3 : ja2 + k + 1 + 1 = xa.size
              · rw [if_pos (by simpa using e3)]
                exact wpS_pure (.inl ⟨_, _, _, _, _, _, _, rfl, mlast _ _ _ _ m6 e3 ss2⟩)
              rw [if_neg (by simpa using e3)]
              split
              · exact wpS_pure (.inr ⟨ss2, _, _, _, _, _, _, rfl, m6, by omega, by omega, by omega⟩)
              · exact wpS_pure ⟨ss2, _, _, _, _, _, _, rfl, m6, by omega, by omega, by omega⟩
            · rw [if_neg k2p]
              obtain ⟨vb2, hvb2⟩ := at1 (x := xb) (j := jb2 + 1) (by omega)
              have m6 := m4.pA O sa sb hvb2 hva (g3 0 (by omega) (by omega) vb2 hvb2)
              refine wpS_bind (wpS_elem hva ?_)
              by_cases e3 : ja2 + k + 1 + 1 = xa.size
              · rw [if_pos (by simpa using e3)]
                exact wpS_pure (.inl ⟨_, _, _, _, _, _, _, rfl, mlast _ _ _ _ m6 e3 ss2⟩)
              rw [if_neg (by simpa using e3)]
              split
              · exact wpS_pure (.inr ⟨ss2, _, _, _, _, _, _, rfl, m6, by omega, by omega, by omega⟩)
              · exact wpS_pure ⟨ss2, _, _, _, _, _, _, rfl, m6, by omega, by omega, by omega⟩
          · rw [if_neg kp]
            have M3 := m
            obtain ⟨va, hva⟩ := at1 (x := xa) (j := ja2) (by omega)
            have hw := hk3 0 (by omega) (by omega) va hva
            refine wpS_bind (wpS_elem hvb ?_)
            have m4 := M3.pB O sa sb hvb hva (O.asym hw)
            by_cases e1 : jb2 + 1 = xb.size
            · rw [if_pos (by simpa using e1)]
              exact wpS_pure (.inl ⟨_, _, _, _, _, _, _, rfl, mdone _ _ _ _ m4 e1 ss2⟩)
            rw [if_neg (by simpa using e1)]
            refine wpS_bind (wpS_elem hva (wpS_bind (wpS_galL O hO ss2.kind (Sa _ (arr_mem hva)) Sb (sxb (jb2 + 1)) (by omega) (by omega) fun k2 g1 g2 g3 => ?_)))
            dsimp only
            by_cases k2p : k2 > 0
            · rw [if_pos k2p]
              have m5 := m4.eB O sa sb (k := k2) (by omega) hva (fun i hi u hu => O.asym (g2 i hi u hu))
              by_cases e2 : jb2 + 1 + k2 = xb.size
              · rw [if_pos (by simpa using e2)]
                exact wpS_pure (.inl ⟨_, _, _, _, _, _, _, rfl, mdone _ _ _ _ m5 e2 ss2⟩)
              rw [if_neg (by simpa using e2)]
              obtain ⟨vb2, hvb2⟩ := at1 (x := xb) (j := jb2 + 1 + k2) (by omega)
              have m6 := m5.pA O sa sb hvb2 hva (g3 k2 (Nat.le_refl _) (by omega) vb2 hvb2)
              refine wpS_bind (wpS_elem hva ?_)
              by_cases e3 : ja2 + 1 + 1 = xa.size
              · rw [if_pos (by simpa using e3)]
                exact wpS_pure (.inl ⟨_, _, _, _, _, _, _, rfl, mlast _ _ _ _ m6 e3 ss2⟩)
              rw [if_neg (by simpa using e3)]
              split
              · exact wpS_pure (.inr ⟨ss2, _, _, _, _, _, _, rfl, m6, by omega, by omega, by omega⟩)
              · exact wpS_pure ⟨ss2, _, _, _, _, _, _, rfl, m6, by omega, by omega, by omega⟩
            · rw [if_neg k2p]
              obtain ⟨vb2, hvb2⟩ := at1 (x := xb) (j := jb2 + 1) (by omega)
              have m6 := m4.pA O sa sb hvb2 hva (g3 0 (by omega) (by omega) vb2 hvb2)
              refine wpS_bind (wpS_elem hva ?_)
              by_cases e3 : ja2 + 1 + 1 = xa.size
              · rw [if_pos (by simpa using e3)]
                exact wpS_pure (.inl ⟨_, _, _, _, _, _, _, rfl, mlast _ _ _ _ m6 e3 ss2⟩)
              rw [if_neg (by simpa using e3)]
              split
              · exact wpS_pure (.inr ⟨ss2, _, _, _, _, _, _, rfl, m6, by omega, by omega, by omega⟩)
              · exact wpS_pure ⟨ss2, _, _, _, _, _, _, rfl, m6, by omega, by omega, by omega⟩
        · rw [if_neg hg]
          refine wpS_bind (wpS_modify ?_)
          have ss2 := ss.smg mg2
          refine wpS_bind (wpS_elem hvb (wpS_bind (wpS_galR O hO ss2.kind (Sb _ (arr_mem hvb)) Sa (sxa ja2) (by omega) (by omega) fun k hk1 hk2 hk3 => ?_)))
          have hkl : k < xa.size - ja2 := by
            by_cases q : k < xa.size - ja2
            · exact q
            · have := hk2 (xa.size - ja2 - 1) (by omega) vl (by rw [show ja2 + (xa.size - ja2 - 1) = xa.size - 1 by omega]; exact hvl)
              unfold leB at this
              rw [hbl] at this; cases this
          dsimp only
          by_cases kp : k > 0
          · rw [if_pos kp]
            have M3 := m.eA O sa sb (k := k) (by omega) hvb hk2
            by_cases e0 : ja2 + k + 1 = xa.size
            · rw [if_pos (by simpa using e0)]
              exact wpS_pure (.inl ⟨_, _, _, _, _, _, _, rfl, mlast _ _ _ _ M3 e0 ss2⟩)
            rw [if_neg (by simpa using e0), if_neg (by simp; omega)]
            obtain ⟨va, hva⟩ := at1 (x := xa) (j := ja2 + k) (by omega)
            have hw := hk3 k (Nat.le_refl _) hkl va hva
            refine wpS_bind (wpS_elem hvb ?_)
            have m4 := M3.pB O sa sb hvb hva (O.asym hw)
            by_cases e1 : jb2 + 1 = xb.size
            · rw [if_pos (by simpa using e1)]
              exact wpS_pure (.inl ⟨_, _, _, _, _, _, _, rfl, mdone _ _ _ _ m4 e1 ss2⟩)
            rw [if_neg (by simpa using e1)]
            refine wpS_bind (wpS_elem hva (wpS_bind (wpS_galL O hO ss2.kind (Sa _ (arr_mem hva)) Sb (sxb (jb2 + 1)) (by omega) (by omega) fun k2 g1 g2 g3 => ?_)))
            dsimp only
            by_cases k2p : k2 > 0
            · rw [if_pos k2p]
              have m5 := m4.eB O sa sb (k := k2) (by omega) hva (fun i hi u hu => O.asym (g2 i hi u hu))
              by_cases e2 : jb2 + 1 + k2 = xb.size
              · rw [if_pos (by simpa using e2)]
                exact wpS_pure (.inl ⟨_, _, _, _, _, _, _, rfl, mdone _ _ _ _ m5 e2 ss2⟩)
              rw [if_neg (by simpa using e2)]
              obtain ⟨vb2, hvb2⟩ := at1 (x := xb) (j := jb2 + 1 + k2) (by omega)
              have m6 := m5.pA O sa sb hvb2 hva (g3 k2 (Nat.le_refl _) (by omega) vb2 hvb2)
              refine wpS_bind (wpS_elem hva ?_)
              by_cases e3 : ja2 + k + 1 + 1 = xa.size
              · rw [if_pos (by simpa using e3)]
                exact wpS_pure (.inl ⟨_, _, _, _, _, _, _, rfl, mlast _ _ _ _ m6 e3 ss2⟩)
              rw [if_neg (by simpa using e3)]
              split
              · exact wpS_pure (.inr ⟨ss2, _, _, _, _, _, _, rfl, m6, by omega, by omega, by omega⟩)
              · exact wpS_pure ⟨ss2, _, _, _, _, _, _, rfl, m6, by omega, by omega, by omega⟩
            · rw [if_neg k2p]
              obtain ⟨vb2, hvb2⟩ := at1 (x := xb) (j := jb2 + 1) (by omega)
              have m6 := m4.pA O sa sb hvb2 hva (g3 0 (by omega) (by omega) vb2 hvb2)
              refine wpS_bind (wpS_elem hva ?_)
              by_cases e3 : ja2 + k + 1 + 1 = xa.size
              · rw [if_pos (by simpa using e3)]
                exact wpS_pure (.inl ⟨_, _, _, _, _, _, _, rfl, mlast _ _ _ _ m6 e3 ss2⟩)
              rw [if_neg (by simpa using e3)]
              split
              · exact wpS_pure (.inr ⟨ss2, _, _, _, _, _, _, rfl, m6, by omega, by omega, by omega⟩)
              · exact wpS_pure ⟨ss2, _, _, _, _, _, _, rfl, m6, by omega, by omega, by omega⟩
          · rw [if_neg kp]
            have M3 := m
            obtain ⟨va, hva⟩ := at1 (x := xa) (j := ja2) (by omega)
            have hw := hk3 0 (by omega) (by omega) va hva
            refine wpS_bind (wpS_elem hvb ?_)
            have m4 := M3.pB O sa sb hvb hva (O.asym hw)
            by_cases e1 : jb2 + 1 = xb.size
            · rw [if_pos (by simpa using e1)]
              exact wpS_pure (.inl ⟨_, _, _, _, _, _, _, rfl, mdone _ _ _ _ m4 e1 ss2⟩)
            rw [if_neg (by simpa using e1)]
            refine wpS_bind (wpS_elem hva (wpS_bind (wpS_galL O hO ss2.kind (Sa _ (arr_mem hva)) Sb (sxb (jb2 + 1)) (by omega) (by omega) fun k2 g1 g2 g3 => ?_)))
            dsimp only
            by_cases k2p : k2 > 0
            · rw [if_pos k2p]
              have m5 := m4.eB O sa sb (k := k2) (by omega) hva (fun i hi u hu => O.asym (g2 i hi u hu))
              by_cases e2 : jb2 + 1 + k2 = xb.size
              · rw [if_pos (by simpa using e2)]
                exact wpS_pure (.inl ⟨_, _, _, _, _, _, _, rfl, mdone _ _ _ _ m5 e2 ss2⟩)
              rw [if_neg (by simpa using e2)]
              obtain ⟨vb2, hvb2⟩ := at1 (x := xb) (j := jb2 + 1 + k2) (by omega)
              have m6 := m5.pA O sa sb hvb2 hva (g3 k2 (Nat.le_refl _) (by omega) vb2 hvb2)
              refine wpS_bind (wpS_elem hva ?_)
              by_cases e3 : ja2 + 1 + 1 = xa.size
              · rw [if_pos (by simpa using e3)]
                exact wpS_pure (.inl ⟨_, _, _, _, _, _, _, rfl, mlast _ _ _ _ m6 e3 ss2⟩)
              rw [if_neg (by simpa using e3)]
              split
              · exact wpS_pure (.inr ⟨ss2, _, _, _, _, _, _, rfl, m6, by omega, by omega, by omega⟩)
              · exact wpS_pure ⟨ss2, _, _, _, _, _, _, rfl, m6, by omega, by omega, by omega⟩
            · rw [if_neg k2p]
              obtain ⟨vb2, hvb2⟩ := at1 (x := xb) (j := jb2 + 1) (by omega)
              have m6 := m4.pA O sa sb hvb2 hva (g3 0 (by omega) (by omega) vb2 hvb2)
              refine wpS_bind (wpS_elem hva ?_)
              by_cases e3 : ja2 + 1 + 1 = xa.size
              · rw [if_pos (by simpa using e3)]
                exact wpS_pure (.inl ⟨_, _, _, _, _, _, _, rfl, mlast _ _ _ _ m6 e3 ss2⟩)
              rw [if_neg (by simpa using e3)]
              split
              · exact wpS_pure (.inr ⟨ss2, _, _, _, _, _, _, rfl, m6, by omega, by omega, by omega⟩)
              · exact wpS_pure ⟨ss2, _, _, _, _, _, _, rfl, m6, by omega, by omega, by omega⟩
end
end L2

/-! mergeHi, by the other order of the reversed ones -/
namespace L2
open PySem PySem.Spec PyProof.Rows
def mhiS : Array Keyed → Array Keyed → StateT SortSt Sem (Array Keyed) := sortPriv% PySem.Builtin.mergeHi
def dhS (xa xb ou : Array Keyed) (na nb : Nat) : Array Keyed := xa.extract 0 na ++ xb.extract 0 nb ++ ou.reverse
def fhS (xa xb ou : Array Keyed) (na nb : Nat) : Array Keyed := xb.extract 0 nb ++ xa.extract 0 na ++ ou.reverse
theorem mhiS_eq (xa xb : Array Keyed) : mhiS xa xb = (do
  rule "list.sort.merge-hi"
  let mut qa := xa.size - 1
  let mut qb := xb.size
  let mut ou : Array Keyed := #[← elem' xa qa]
  if qa == 0 then return dhS xa xb ou qa qb
  if qb == 1 then return fhS xa xb ou qa qb
  let mut mg := gallopOf (← get)
  for _ in [0:xa.size + xb.size] do
    let mut ca := 0
    let mut cb := 0
    for _ in [0:xa.size + xb.size] do
      let some aw ← lt' (← elem' xb (qb - 1)) (← elem' xa (qa - 1)) | return dhS xa xb ou qa qb
      if aw then
        qa := qa - 1; ou := ou.push (← elem' xa qa); ca := ca + 1; cb := 0
        if qa == 0 then return dhS xa xb ou qa qb
        if ca ≥ mg then break
      else
        qb := qb - 1; ou := ou.push (← elem' xb qb); cb := cb + 1; ca := 0
        if qb == 1 then return fhS xa xb ou qa qb
        if cb ≥ mg then break
    rule "list.sort.gallop"
    mg := mg + 1
    for _ in [0:xa.size + xb.size] do
      if mg > 1 then mg := mg - 1
      smgS mg
      let some tt ← galS false (← elem' xb (qb - 1)) xa 0 qa (qa - 1) | return dhS xa xb ou qa qb
      let kk := qa - tt
      ca := kk
      if kk > 0 then
        ou := ou ++ (xa.extract tt qa).reverse; qa := tt
        if qa == 0 then return dhS xa xb ou qa qb
      qb := qb - 1; ou := ou.push (← elem' xb qb)
      if qb == 1 then return fhS xa xb ou qa qb
      let some tt ← galS true (← elem' xa (qa - 1)) xb 0 qb (qb - 1) | return dhS xa xb ou qa qb
      let kk := qb - tt
      cb := kk
      if kk > 0 then
        ou := ou ++ (xb.extract tt qb).reverse; qb := tt
        if qb == 1 then return fhS xa xb ou qa qb
        if qb == 0 then return dhS xa xb ou qa qb
      qa := qa - 1; ou := ou.push (← elem' xa qa)
      if qa == 0 then return dhS xa xb ou qa qb
      if ca < 7 && cb < 7 then break
    mg := mg + 1
    smgS mg
  unsupported "internal:list.sort.merge-bound") := rfl
def flipB (ltb : Keyed → Keyed → Bool) : Keyed → Keyed → Bool := fun x y => ltb y x
theorem OrdB.flip {ltb : Keyed → Keyed → Bool} (O : OrdB ltb) : OrdB (flipB ltb) := ⟨fun h => O.asym h, fun h1 h2 => O.tr h2 h1⟩
section
variable {ltb : Keyed → Keyed → Bool} {xa xb ou : Array Keyed} {na nb k : Nat}
theorem rev_rise {l : List Keyed} (h : l.Pairwise (leB ltb)) : l.reverse.Pairwise (leB (flipB ltb)) := by
  rw [List.pairwise_reverse]
  exact h
theorem rise_rev {l : List Keyed} (h : l.Pairwise (leB (flipB ltb))) : l.reverse.Pairwise (leB ltb) := by
  rw [List.pairwise_reverse]
  exact h
/-- what has been merged from the end on -/
def HI (ltb : Keyed → Keyed → Bool) (xa xb ou : Array Keyed) (na nb : Nat) : Prop := MI (flipB ltb) xb.toList.reverse xa.toList.reverse ou.toList (xb.size - nb) (xa.size - na)
theorem rev_drop (x : Array Keyed) {n : Nat} (h : n ≤ x.size) : x.toList.reverse.drop (x.size - n) = (x.toList.take n).reverse := by
  rw [List.drop_reverse, Array.length_toList, show x.size - (x.size - n) = n by omega]
theorem rev_part (x : Array Keyed) {n t : Nat} (h : n ≤ x.size) (ht : t ≤ n) : (x.toList.reverse.drop (x.size - n)).take (n - t) = ((x.toList.take n).drop t).reverse := by
  rw [rev_drop x h, List.take_reverse, List.length_take, Array.length_toList, show min n x.size - (n - t) = t by omega]
theorem rev_get (x : Array Keyed) {n : Nat} (h1 : 1 ≤ n) (h : n ≤ x.size) : x.toList.reverse[x.size - n]? = x[n - 1]? := by
  rw [List.getElem?_reverse (by rw [Array.length_toList]; omega), Array.length_toList]
  rw [show x.size - 1 - (x.size - n) = n - 1 by omega]
  simp
theorem HI.chA (O : OrdB ltb) (sa : xa.toList.Pairwise (leB ltb)) (sb : xb.toList.Pairwise (leB ltb)) (m : HI ltb xa xb ou na nb) {t : Nat} (ha : na ≤ xa.size) (ht : t ≤ na) (hb1 : 1 ≤ nb) (hb : nb ≤ xb.size) {b : Keyed} (hvb : xb[nb - 1]? = some b)
    (c : ∀ i, t ≤ i → i < na → ∀ x, xa[i]? = some x → leB ltb b x) {ou2 : Array Keyed} (eo : ou2.toList = ou.toList ++ ((xa.toList.take na).drop t).reverse) : HI ltb xa xb ou2 t nb := by
  have q := MI.stepB O.flip (rev_rise sb) (rev_rise sa) m (k := na - t) (by rw [List.length_reverse, Array.length_toList]; omega) (z := b) (by rw [rev_get xb hb1 hb]; exact hvb) (fun y hy => by
    rw [rev_part xa ha ht, List.mem_reverse] at hy
    obtain ⟨i, hi, e⟩ := List.getElem_of_mem hy
    rw [List.length_drop, List.length_take, Array.length_toList] at hi
    rw [List.getElem_drop, List.getElem_take] at e
    exact c (t + i) (by omega) (by omega) y (by rw [Array.getElem?_eq_getElem (by omega)]; simpa using e))
  rw [rev_part xa ha ht, ← eo] at q
  unfold HI
  rw [show xa.size - t = xa.size - na + (na - t) by omega]
  exact q
theorem HI.chB (O : OrdB ltb) (sa : xa.toList.Pairwise (leB ltb)) (sb : xb.toList.Pairwise (leB ltb)) (m : HI ltb xa xb ou na nb) {t : Nat} (hb : nb ≤ xb.size) (ht : t ≤ nb) (ha1 : 1 ≤ na) (ha : na ≤ xa.size) {a : Keyed} (hva : xa[na - 1]? = some a)
    (c : ∀ i, t ≤ i → i < nb → ∀ x, xb[i]? = some x → leB ltb a x) {ou2 : Array Keyed} (eo : ou2.toList = ou.toList ++ ((xb.toList.take nb).drop t).reverse) : HI ltb xa xb ou2 na t := by
  have q := MI.stepA O.flip (rev_rise sb) (rev_rise sa) m (k := nb - t) (by rw [List.length_reverse, Array.length_toList]; omega) (z := a) (by rw [rev_get xa ha1 ha]; exact hva) (fun y hy => by
    rw [rev_part xb hb ht, List.mem_reverse] at hy
    obtain ⟨i, hi, e⟩ := List.getElem_of_mem hy
    rw [List.length_drop, List.length_take, Array.length_toList] at hi
    rw [List.getElem_drop, List.getElem_take] at e
    exact c (t + i) (by omega) (by omega) y (by rw [Array.getElem?_eq_getElem (by omega)]; simpa using e))
  rw [rev_part xb hb ht, ← eo] at q
  unfold HI
  rw [show xb.size - t = xb.size - nb + (nb - t) by omega]
  exact q
theorem one_rev {x : Array Keyed} {n : Nat} (h1 : 1 ≤ n) (h : n ≤ x.size) {v : Keyed} (hv : x[n - 1]? = some v) : ((x.toList.take n).drop (n - 1)).reverse = [v] := by
  have e := (Array.getElem?_eq_some_iff.mp hv).2
  rw [List.drop_eq_getElem_cons (by rw [List.length_take, Array.length_toList]; omega)]
  rw [List.drop_eq_nil_of_le (by rw [List.length_take, Array.length_toList]; omega)]
  rw [List.getElem_take]
  simp [e]
theorem HI.done (sb : xb.toList.Pairwise (leB ltb)) (m : HI ltb xa xb ou 0 nb) (hb : nb ≤ xb.size) : (dhS xa xb ou 0 nb).toList.Pairwise (leB ltb) ∧ (dhS xa xb ou 0 nb).toList.Perm (xa.toList ++ xb.toList) := by
  obtain ⟨p1, p2⟩ := MI.done (rev_rise sb) m (by rw [List.length_reverse, Array.length_toList]; omega)
  have el : (dhS xa xb ou 0 nb).toList = (ou.toList ++ xb.toList.reverse.drop (xb.size - nb) ++ xa.toList.reverse.drop (xa.size - 0)).reverse := by
    unfold dhS
    rw [rev_drop xb hb, rev_drop xa (Nat.zero_le _)]
    simp
  rw [el]
  refine ⟨rise_rev p1, ((List.reverse_perm _).trans p2).trans ?_⟩
  refine List.perm_append_comm.trans ?_
  exact List.Perm.append (List.reverse_perm _) (List.reverse_perm _)
theorem HI.first (sa : xa.toList.Pairwise (leB ltb)) (sb : xb.toList.Pairwise (leB ltb)) (m : HI ltb xa xb ou na nb) (ha : na ≤ xa.size) (hb : nb ≤ xb.size) (h : ∀ x ∈ xa.toList, ∀ y ∈ xb.toList.take nb, leB ltb y x) :
    (fhS xa xb ou na nb).toList.Pairwise (leB ltb) ∧ (fhS xa xb ou na nb).toList.Perm (xa.toList ++ xb.toList) := by
  obtain ⟨p1, p2⟩ := MI.last (rev_rise sb) (rev_rise sa) m (fun x hx y hy => by
    rw [rev_drop xb hb, List.mem_reverse] at hy
    exact h x (List.mem_reverse.mp hx) y hy)
  have el : (fhS xa xb ou na nb).toList = (ou.toList ++ xa.toList.reverse.drop (xa.size - na) ++ xb.toList.reverse.drop (xb.size - nb)).reverse := by
    unfold fhS
    rw [rev_drop xb hb, rev_drop xa ha]
    simp
  rw [el]
  refine ⟨rise_rev p1, ((List.reverse_perm _).trans p2).trans ?_⟩
  refine List.perm_append_comm.trans ?_
  exact List.Perm.append (List.reverse_perm _) (List.reverse_perm _)
end
end L2

/-! mergeHi, walked -/
namespace L2
open PySem PySem.Spec PyProof.Rows
section
variable {prog : Program} {w : World} {A : Around} {E : Value → Shared → Prop} {s : Shared} {ltb : Keyed → Keyed → Bool} {S : Keyed → Prop} {κ : SortKind}
theorem wpS_mhi (O : OrdB ltb) (hO : LtOk prog w A E s ltb S κ) {xa xb : Array Keyed} {st : SortSt} {Q : Array Keyed → SortSt → Prop} (Sa : ∀ x ∈ xa.toList, S x) (Sb : ∀ x ∈ xb.toList, S x) (sa : xa.toList.Pairwise (leB ltb)) (sb : xb.toList.Pairwise (leB ltb))
    {z zl : Keyed} (hz : xb[0]? = some z) (hfst : ∀ y ∈ xa.toList, ltb z y = true) (hzl : xa[xa.size - 1]? = some zl) (hlst : ∀ x ∈ xb.toList, ltb x zl = true) (hS : SS κ st st)
    (h : ∀ r st', r.toList.Pairwise (leB ltb) → r.toList.Perm (xa.toList ++ xb.toList) → SS κ st st' → Q r st') : wpS (model prog w) A E s (mhiS xa xb) Q st := by
  have hb0 : 0 < xb.size := (Array.getElem?_eq_some_iff.mp hz).1
  have ha0 : 0 < xa.size := by have := (Array.getElem?_eq_some_iff.mp hzl).1; omega
  have mdone : ∀ (ou : Array Keyed) (na nb : Nat) (st' : SortSt), HI ltb xa xb ou na nb → na = 0 → nb ≤ xb.size → SS κ st st' → Q (dhS xa xb ou na nb) st' := fun ou na nb st' m e hb ss => by
    subst e
    obtain ⟨p1, p2⟩ := m.done sb hb
    exact h _ _ p1 p2 ss
  have mfirst : ∀ (ou : Array Keyed) (na nb : Nat) (st' : SortSt), HI ltb xa xb ou na nb → nb = 1 → na ≤ xa.size → SS κ st st' → Q (fhS xa xb ou na nb) st' := fun ou na nb st' m e ha ss => by
    subst e
    obtain ⟨p1, p2⟩ := m.first sa sb ha (by omega) (fun x hx y hy => by
      have e1 : xb.toList.take 1 = [z] := by have := one_at hz; simpa using this
      rw [e1] at hy
      simp at hy
      rw [hy]
      exact O.asym (hfst x hx))
    exact h _ _ p1 p2 ss
  have mi0 : HI ltb xa xb #[zl] (xa.size - 1) xb.size := by
    unfold HI
    rw [Nat.sub_self, show xa.size - (xa.size - 1) = 1 by omega]
    refine MI.start (y0 := zl) (rev_rise sa) ?_ (fun y hy => O.asym (hlst y (List.mem_reverse.mp hy)))
    have := rev_get xa (n := xa.size) (by omega) (Nat.le_refl _)
    rw [Nat.sub_self] at this
    rw [this]; exact hzl
  have at1 : ∀ {x : Array Keyed} {j : Nat}, j < x.size → ∃ u, x[j]? = some u := fun {x j} hj => ⟨_, Array.getElem?_eq_getElem hj⟩
  have push1 : ∀ (ou : Array Keyed) {x : Array Keyed} {n : Nat} {v : Keyed}, 1 ≤ n → n ≤ x.size → x[n - 1]? = some v → (ou.push v).toList = ou.toList ++ ((x.toList.take n).drop (n - 1)).reverse := fun ou x n v h1 h2 h3 => by
    rw [one_rev h1 h2 h3]; simp
  have ext1 : ∀ (ou x : Array Keyed) (t n : Nat), (ou ++ (x.extract t n).reverse).toList = ou.toList ++ ((x.toList.take n).drop t).reverse := fun ou x t n => by
    rw [Array.toList_append, Array.toList_reverse, Array.toList_extract]
    show ou.toList ++ (List.take (n - t) (List.drop t x.toList)).reverse = _
    rw [List.drop_take]
  rw [mhiS_eq]
  refine wpS_bind (wpS_lift (wpAny_rule ⟨rfl, ?_⟩))
  refine wpS_bind (wpS_elem hzl ?_)
  by_cases c1 : xa.size - 1 = 0
  · rw [if_pos (by simpa using c1)]
    exact wpS_pure (mdone #[zl] _ _ st mi0 c1 (Nat.le_refl _) hS)
  rw [if_neg (by simpa using c1)]
  by_cases c2 : xb.size = 1
  · rw [if_pos (by simpa using c2)]
    exact wpS_pure (mfirst #[zl] _ _ st mi0 c2 (by omega) hS)
  rw [if_neg (by simpa using c2)]
  refine wpS_bind (wpS_get ?_)
  refine wpS_bind (wpS_mono (wpS_forRange
    (I := fun x c st' => SS κ st st' ∧ ∃ qa qb ou mg, c = (none, qa, qb, ou, mg) ∧ HI ltb xa xb ou qa qb ∧ 1 ≤ qa ∧ qa ≤ xa.size ∧ 2 ≤ qb ∧ qb ≤ xb.size ∧ x + 1 + qa + qb ≤ xa.size + xb.size)
    (Q := fun c st' => ∃ r qa qb ou mg, c = (some r, qa, qb, ou, mg) ∧ Q r st') ?stp ?fin ⟨hS, _, _, #[zl], _, rfl, mi0, by omega, by omega, by omega, by omega, by omega⟩) ?post)
  case fin =>
    rintro c st' ⟨ss, qa, qb, ou, mg, rfl, m, b1, b2, b3, b4, b5⟩
    omega
  case post =>
    rintro c st' ⟨r, qa, qb, ou, mg, rfl, hq⟩
    exact wpS_pure hq
  case stp =>
    rintro x c st1 _ hx ⟨ss, qa0, qb0, ou, mg, rfl, m, b1, b2, b3, b4, b5⟩
    dsimp only
    refine wpS_bind (wpS_mono (wpS_forRange
      (I := fun y c st' => SS κ st st' ∧ ∃ qa qb ou ca cb, c = (none, qa, qb, ou, ca, cb) ∧ HI ltb xa xb ou qa qb ∧ 1 ≤ qa ∧ qa ≤ xa.size ∧ 2 ≤ qb ∧ qb ≤ xb.size ∧ y + qa + qb ≤ qa0 + qb0)
      (Q := fun c st' => (∃ r qa qb ou ca cb, c = (some r, qa, qb, ou, ca, cb) ∧ Q r st') ∨ (SS κ st st' ∧ ∃ qa qb ou ca cb, c = (none, qa, qb, ou, ca, cb) ∧ HI ltb xa xb ou qa qb ∧ 1 ≤ qa ∧ qa ≤ xa.size ∧ 2 ≤ qb ∧ qb ≤ xb.size ∧ 1 + qa + qb ≤ qa0 + qb0)) ?stp1 ?fin1 ⟨ss, _, _, ou, 0, 0, rfl, m, b1, b2, b3, b4, by omega⟩) ?post1)
    case fin1 =>
      rintro c st' ⟨ss, qa, qb, ou, ca, cb, rfl, m, d1, d2, d3, d4, d5⟩
      exact .inr ⟨ss, _, _, _, _, _, rfl, m, d1, d2, d3, d4, by omega⟩
    case stp1 =>
      rintro y c st2 _ hy ⟨ss, qa, qb, ou, ca, cb, rfl, m, d1, d2, d3, d4, d5⟩
      dsimp only
      obtain ⟨vb, hvb⟩ := at1 (x := xb) (j := qb - 1) (by omega)
      obtain ⟨va, hva⟩ := at1 (x := xa) (j := qa - 1) (by omega)
      refine wpS_bind (wpS_elem hvb (wpS_bind (wpS_elem hva (wpS_bind (hO vb va _ _ (Sb _ (arr_mem hvb)) (Sa _ (arr_mem hva)) ss.kind ?_)))))
      dsimp only
      cases hw : ltb vb va with
      | true =>
        simp only [if_true]
        have m2 : HI ltb xa xb (ou.push va) (qa - 1) qb := m.chA O sa sb d2 (by omega) (by omega) d4 hvb (fun i h1 h2 u hu => by
          obtain rfl : i = qa - 1 := by omega
          rw [hva] at hu; cases hu; exact O.asym hw) (push1 ou d1 d2 hva)
        refine wpS_bind (wpS_elem hva ?_)
        by_cases e1 : qa - 1 = 0
        · rw [if_pos (by simpa using e1)]
          exact wpS_pure (.inl ⟨_, _, _, _, _, _, rfl, mdone _ _ _ _ m2 e1 d4 ss⟩)
        · rw [if_neg (by simpa using e1)]
          split
          · exact wpS_pure (.inr ⟨ss, _, _, _, _, _, rfl, m2, by omega, by omega, d3, d4, by omega⟩)
          · exact wpS_pure ⟨ss, _, _, _, _, _, rfl, m2, by omega, by omega, d3, d4, by omega⟩
      | false =>
        simp only [Bool.false_eq_true, if_false]
        have m2 : HI ltb xa xb (ou.push vb) qa (qb - 1) := m.chB O sa sb d4 (by omega) d1 d2 hva (fun i h1 h2 u hu => by
          obtain rfl : i = qb - 1 := by omega
          rw [hvb] at hu; cases hu; exact hw) (push1 ou (by omega) d4 hvb)
        refine wpS_bind (wpS_elem hvb ?_)
        by_cases e1 : qb - 1 = 1
        · rw [if_pos (by simpa using e1)]
          exact wpS_pure (.inl ⟨_, _, _, _, _, _, rfl, mfirst _ _ _ _ m2 e1 d2 ss⟩)
        · rw [if_neg (by simpa using e1)]
          split
          · exact wpS_pure (.inr ⟨ss, _, _, _, _, _, rfl, m2, d1, d2, by omega, by omega, by omega⟩)
          · exact wpS_pure ⟨ss, _, _, _, _, _, rfl, m2, d1, d2, by omega, by omega, by omega⟩
    case post1 =>
      rintro c st2 (⟨r, qa, qb, ou, ca, cb, rfl, hq⟩ | ⟨ss, qa1, qb1, ou, ca, cb, rfl, m, d1, d2, d3, d4, d5⟩)
      · exact wpS_pure ⟨r, _, _, _, _, rfl, hq⟩
      dsimp only
      refine wpS_bind (wpS_lift (wpAny_rule ⟨rfl, ?_⟩))
      refine wpS_bind (wpS_mono (wpS_forRange
        (I := fun y c st' => SS κ st st' ∧ ∃ qa qb ou mg ca cb, c = (none, qa, qb, ou, mg, ca, cb) ∧ HI ltb xa xb ou qa qb ∧ 1 ≤ qa ∧ qa ≤ xa.size ∧ 2 ≤ qb ∧ qb ≤ xb.size ∧ 1 + qa + qb ≤ qa0 + qb0)
        (Q := fun c st' => (∃ r qa qb ou mg ca cb, c = (some r, qa, qb, ou, mg, ca, cb) ∧ Q r st') ∨ (SS κ st st' ∧ ∃ qa qb ou mg ca cb, c = (none, qa, qb, ou, mg, ca, cb) ∧ HI ltb xa xb ou qa qb ∧ 1 ≤ qa ∧ qa ≤ xa.size ∧ 2 ≤ qb ∧ qb ≤ xb.size ∧ 1 + qa + qb ≤ qa0 + qb0)) ?stp2 ?fin2 ⟨ss, _, _, _, _, ca, cb, rfl, m, d1, d2, d3, d4, d5⟩) ?post2)
      case fin2 =>
        rintro c st' hh
        exact .inr hh
      case post2 =>
        rintro c st3 (⟨r, qa, qb, ou2, mg2, ca2, cb2, rfl, hq⟩ | ⟨ss, qa, qb, ou2, mg2, ca2, cb2, rfl, m, f1, f2, f3, f4, f5⟩)
        · exact wpS_pure ⟨r, _, _, _, _, rfl, hq⟩
        · dsimp only
          refine wpS_bind (wpS_modify ?_)
          exact wpS_pure ⟨ss.smg _, _, _, _, _, rfl, m, f1, f2, f3, f4, by omega⟩
      case stp2 =>
        rintro y c st3 _ hy ⟨ss, qa, qb, ou2, mg2, ca2, cb2, rfl, m, f1, f2, f3, f4, f5⟩
        dsimp only
        obtain ⟨vb, hvb⟩ := at1 (x := xb) (j := qb - 1) (by omega)
        have sxa : ∀ (q : Nat) i j u v, i < j → j < q → xa[0 + i]? = some u → xa[0 + j]? = some v → leB ltb u v := fun q i j u v hij _ hu hv => arr_le sa (by omega) hu hv
        have sxb : ∀ (q : Nat) i j u v, i < j → j < q → xb[0 + i]? = some u → xb[0 + j]? = some v → leB ltb u v := fun q i j u v hij _ hu hv => arr_le sb (by omega) hu hv
        by_cases hg : mg2 > 1
        · rw [if_pos hg]
          refine wpS_bind (wpS_modify ?_)
          have ss2 := ss.smg (mg2 - 1)
          refine wpS_bind (wpS_elem hvb (wpS_bind (wpS_galR O hO ss2.kind (Sb _ (arr_mem hvb)) Sa (sxa qa) (by omega) (by omega) fun tt hk1 hk2 hk3 => ?_)))
          dsimp only
          by_cases kp : qa - tt > 0
          · rw [if_pos kp]
            have M3 := m.chA O sa sb f2 (t := tt) (by omega) (by omega) f4 hvb (fun i h1 h2 u hu => O.asym (hk3 i h1 h2 u (by rw [Nat.zero_add]; exact hu))) (ext1 _ xa tt qa)
            by_cases e0 : tt = 0
            · rw [if_pos (by simpa using e0)]
              exact wpS_pure (.inl ⟨_, _, _, _, _, _, _, rfl, mdone _ _ _ _ M3 e0 f4 ss2⟩)
            rw [if_neg (by simpa using e0)]
            have QA1 : 1 ≤ tt := by omega
            obtain ⟨va, hva⟩ := at1 (x := xa) (j := tt - 1) (by omega)
            have hle : leB ltb va vb := hk2 (tt - 1) (by omega) va (by rw [Nat.zero_add]; exact hva)
            have m4 := M3.chB O sa sb f4 (t := qb - 1) (by omega) QA1 (by omega) hva (fun i h1 h2 u hu => by
              obtain rfl : i = qb - 1 := by omega
              rw [hvb] at hu; cases hu; exact hle) (push1 _ (by omega) f4 hvb)
            refine wpS_bind (wpS_elem hvb ?_)
            by_cases e1 : qb - 1 = 1
            · rw [if_pos (by simpa using e1)]
              exact wpS_pure (.inl ⟨_, _, _, _, _, _, _, rfl, mfirst _ _ _ _ m4 e1 (by omega) ss2⟩)
            rw [if_neg (by simpa using e1)]
            refine wpS_bind (wpS_elem hva (wpS_bind (wpS_galL O hO ss2.kind (Sa _ (arr_mem hva)) Sb (sxb (qb - 1)) (by omega) (by omega) fun t2 g1 g2 g3 => ?_)))
            have ht2 : 0 < t2 := by
              rcases Nat.eq_zero_or_pos t2 with q | q
              · have := g3 0 (by omega) (by omega) z (by rw [Nat.zero_add]; exact hz)
                unfold leB at this
                rw [hfst va (arr_mem hva)] at this; cases this
              · exact q
            dsimp only
            by_cases k2p : qb - 1 - t2 > 0
            · rw [if_pos k2p]
              have m5 := m4.chB O sa sb (by omega) (t := t2) (by omega) QA1 (by omega) hva (fun i h1 h2 u hu => g3 i h1 (by omega) u (by rw [Nat.zero_add]; exact hu)) (ext1 _ xb t2 (qb - 1))
              by_cases e2 : t2 = 1
              · rw [if_pos (by simpa using e2)]
                exact wpS_pure (.inl ⟨_, _, _, _, _, _, _, rfl, mfirst _ _ _ _ m5 e2 (by omega) ss2⟩)
              rw [if_neg (by simpa using e2), if_neg (by simp; omega)]
              obtain ⟨vb2, hvb2⟩ := at1 (x := xb) (j := t2 - 1) (by omega)
              have m6 := m5.chA O sa sb (by omega) (t := tt - 1) (by omega) (by omega) (by omega) hvb2 (fun i h1 h2 u hu => by
                obtain rfl : i = tt - 1 := by omega
                rw [hva] at hu; cases hu; exact O.asym (g2 (t2 - 1) (by omega) vb2 (by rw [Nat.zero_add]; exact hvb2))) (push1 _ QA1 (by omega) hva)
              refine wpS_bind (wpS_elem hva ?_)
              by_cases e3 : tt - 1 = 0
              · rw [if_pos (by simpa using e3)]
                exact wpS_pure (.inl ⟨_, _, _, _, _, _, _, rfl, mdone _ _ _ _ m6 e3 (by omega) ss2⟩)
              rw [if_neg (by simpa using e3)]
              split
              · exact wpS_pure (.inr ⟨ss2, _, _, _, _, _, _, rfl, m6, by omega, by omega, by omega, by omega, by omega⟩)
              · exact wpS_pure ⟨ss2, _, _, _, _, _, _, rfl, m6, by omega, by omega, by omega, by omega, by omega⟩
            · rw [if_neg k2p]
              have et : t2 = qb - 1 := by omega
              obtain ⟨vb2, hvb2⟩ := at1 (x := xb) (j := qb - 1 - 1) (by omega)
              have m6 := m4.chA O sa sb (by omega) (t := tt - 1) (by omega) (by omega) (by omega) hvb2 (fun i h1 h2 u hu => by
                obtain rfl : i = tt - 1 := by omega
                rw [hva] at hu; cases hu; exact O.asym (g2 (qb - 1 - 1) (by omega) vb2 (by rw [Nat.zero_add]; exact hvb2))) (push1 _ QA1 (by omega) hva)
              refine wpS_bind (wpS_elem hva ?_)
              by_cases e3 : tt - 1 = 0
              · rw [if_pos (by simpa using e3)]
                exact wpS_pure (.inl ⟨_, _, _, _, _, _, _, rfl, mdone _ _ _ _ m6 e3 (by omega) ss2⟩)
              rw [if_neg (by simpa using e3)]
              split
              · exact wpS_pure (.inr ⟨ss2, _, _, _, _, _, _, rfl, m6, by omega, by omega, by omega, by omega, by omega⟩)
              · exact wpS_pure ⟨ss2, _, _, _, _, _, _, rfl, m6, by omega, by omega, by omega, by omega, by omega⟩
          · rw [if_neg kp]
            have et0 : tt = qa := by omega
            have M3 := m
            have QA1 : 1 ≤ qa := f1
            obtain ⟨va, hva⟩ := at1 (x := xa) (j := qa - 1) (by omega)
            have hle : leB ltb va vb := hk2 (qa - 1) (by omega) va (by rw [Nat.zero_add]; exact hva)
            have m4 := M3.chB O sa sb f4 (t := qb - 1) (by omega) QA1 (by omega) hva (fun i h1 h2 u hu => by
              obtain rfl : i = qb - 1 := by omega
              rw [hvb] at hu; cases hu; exact hle) (push1 _ (by omega) f4 hvb)
            refine wpS_bind (wpS_elem hvb ?_)
            by_cases e1 : qb - 1 = 1
            · rw [if_pos (by simpa using e1)]
              exact wpS_pure (.inl ⟨_, _, _, _, _, _, _, rfl, mfirst _ _ _ _ m4 e1 (by omega) ss2⟩)
            rw [if_neg (by simpa using e1)]
            refine wpS_bind (wpS_elem hva (wpS_bind (wpS_galL O hO ss2.kind (Sa _ (arr_mem hva)) Sb (sxb (qb - 1)) (by omega) (by omega) fun t2 g1 g2 g3 => ?_)))
            have ht2 : 0 < t2 := by
              rcases Nat.eq_zero_or_pos t2 with q | q
              · have := g3 0 (by omega) (by omega) z (by rw [Nat.zero_add]; exact hz)
                unfold leB at this
                rw [hfst va (arr_mem hva)] at this; cases this
              · exact q
            dsimp only
            by_cases k2p : qb - 1 - t2 > 0
            · rw [if_pos k2p]
              have m5 := m4.chB O sa sb (by omega) (t := t2) (by omega) QA1 (by omega) hva (fun i h1 h2 u hu => g3 i h1 (by omega) u (by rw [Nat.zero_add]; exact hu)) (ext1 _ xb t2 (qb - 1))
              by_cases e2 : t2 = 1
              · rw [if_pos (by simpa using e2)]
                exact wpS_pure (.inl ⟨_, _, _, _, _, _, _, rfl, mfirst _ _ _ _ m5 e2 (by omega) ss2⟩)
              rw [if_neg (by simpa using e2), if_neg (by simp; omega)]
              obtain ⟨vb2, hvb2⟩ := at1 (x := xb) (j := t2 - 1) (by omega)
              have m6 := m5.chA O sa sb (by omega) (t := qa - 1) (by omega) (by omega) (by omega) hvb2 (fun i h1 h2 u hu => by
                obtain rfl : i = qa - 1 := by omega
                rw [hva] at hu; cases hu; exact O.asym (g2 (t2 - 1) (by omega) vb2 (by rw [Nat.zero_add]; exact hvb2))) (push1 _ QA1 (by omega) hva)
              refine wpS_bind (wpS_elem hva ?_)
              by_cases e3 : qa - 1 = 0
              · rw [if_pos (by simpa using e3)]
                exact wpS_pure (.inl ⟨_, _, _, _, _, _, _, rfl, mdone _ _ _ _ m6 e3 (by omega) ss2⟩)
              rw [if_neg (by simpa using e3)]
              split
              · exact wpS_pure (.inr ⟨ss2, _, _, _, _, _, _, rfl, m6, by omega, by omega, by omega, by omega, by omega⟩)
              · exact wpS_pure ⟨ss2, _, _, _, _, _, _, rfl, m6, by omega, by omega, by omega, by omega, by omega⟩
            · rw [if_neg k2p]
              have et : t2 = qb - 1 := by omega
              obtain ⟨vb2, hvb2⟩ := at1 (x := xb) (j := qb - 1 - 1) (by omega)
              have m6 := m4.chA O sa sb (by omega) (t := qa - 1) (by omega) (by omega) (by omega) hvb2 (fun i h1 h2 u hu => by
                obtain rfl : i = qa - 1 := by omega
                rw [hva] at hu; cases hu; exact O.asym (g2 (qb - 1 - 1) (by omega) vb2 (by rw [Nat.zero_add]; exact hvb2))) (push1 _ QA1 (by omega) hva)
              refine wpS_bind (wpS_elem hva ?_)
              by_cases e3 : qa - 1 = 0
              · rw [if_pos (by simpa using e3)]
                exact wpS_pure (.inl ⟨_, _, _, _, _, _, _, rfl, mdone _ _ _ _ m6 e3 (by omega) ss2⟩)
              rw [if_neg (by simpa using e3)]
              split
              · exact wpS_pure (.inr ⟨ss2, _, _, _, _, _, _, rfl, m6, by omega, by omega, by omega, by omega, by omega⟩)
              · exact wpS_pure ⟨ss2, _, _, _, _, _, _, rfl, m6, by omega, by omega, by omega, by omega, by omega⟩
        · rw [if_neg hg]
          refine wpS_bind (wpS_modify ?_)
          have ss2 := ss.smg mg2
          refine wpS_bind (wpS_elem hvb (wpS_bind (wpS_galR O hO ss2.kind (Sb _ (arr_mem hvb)) Sa (sxa qa) (by omega) (by omega) fun tt hk1 hk2 hk3 => ?_)))
          dsimp only
          by_cases kp : qa - tt > 0
          · rw [if_pos kp]
            have M3 := m.chA O sa sb f2 (t := tt) (by omega) (by omega) f4 hvb (fun i h1 h2 u hu => O.asym (hk3 i h1 h2 u (by rw [Nat.zero_add]; exact hu))) (ext1 _ xa tt qa)
            by_cases e0 : tt = 0
            · rw [if_pos (by simpa using e0)]
              exact wpS_pure (.inl ⟨_, _, _, _, _, _, _, rfl, mdone _ _ _ _ M3 e0 f4 ss2⟩)
            rw [if_neg (by simpa using e0)]
            have QA1 : 1 ≤ tt := by omega
            obtain ⟨va, hva⟩ := at1 (x := xa) (j := tt - 1) (by omega)
            have hle : leB ltb va vb := hk2 (tt - 1) (by omega) va (by rw [Nat.zero_add]; exact hva)
            have m4 := M3.chB O sa sb f4 (t := qb - 1) (by omega) QA1 (by omega) hva (fun i h1 h2 u hu => by
              obtain rfl : i = qb - 1 := by omega
              rw [hvb] at hu; cases hu; exact hle) (push1 _ (by omega) f4 hvb)
            refine wpS_bind (wpS_elem hvb ?_)
            by_cases e1 : qb - 1 = 1
            · rw [if_pos (by simpa using e1)]
              exact wpS_pure (.inl ⟨_, _, _, _, _, _, _, rfl, mfirst _ _ _ _ m4 e1 (by omega) ss2⟩)
            rw [if_neg (by simpa using e1)]
            refine wpS_bind (wpS_elem hva (wpS_bind (wpS_galL O hO ss2.kind (Sa _ (arr_mem hva)) Sb (sxb (qb - 1)) (by omega) (by omega) fun t2 g1 g2 g3 => ?_)))
            have ht2 : 0 < t2 := by
              rcases Nat.eq_zero_or_pos t2 with q | q
              · have := g3 0 (by omega) (by omega) z (by rw [Nat.zero_add]; exact hz)
                unfold leB at this
                rw [hfst va (arr_mem hva)] at this; cases this
              · exact q
            dsimp only
            by_cases k2p : qb - 1 - t2 > 0
            · rw [if_pos k2p]
              have m5 := m4.chB O sa sb (by omega) (t := t2) (by omega) QA1 (by omega) hva (fun i h1 h2 u hu => g3 i h1 (by omega) u (by rw [Nat.zero_add]; exact hu)) (ext1 _ xb t2 (qb - 1))
              by_cases e2 : t2 = 1
              · rw [if_pos (by simpa using e2)]
                exact wpS_pure (.inl ⟨_, _, _, _, _, _, _, rfl, mfirst _ _ _ _ m5 e2 (by omega) ss2⟩)
              rw [if_neg (by simpa using e2), if_neg (by simp; omega)]
              obtain ⟨vb2, hvb2⟩ := at1 (x := xb) (j := t2 - 1) (by omega)
              have m6 := m5.chA O sa sb (by omega) (t := tt - 1) (by omega) (by omega) (by omega) hvb2 (fun i h1 h2 u hu => by
                obtain rfl : i = tt - 1 := by omega
                rw [hva] at hu; cases hu; exact O.asym (g2 (t2 - 1) (by omega) vb2 (by rw [Nat.zero_add]; exact hvb2))) (push1 _ QA1 (by omega) hva)
              refine wpS_bind (wpS_elem hva ?_)
              by_cases e3 : tt - 1 = 0
              · rw [if_pos (by simpa using e3)]
                exact wpS_pure (.inl ⟨_, _, _, _, _, _, _, rfl, mdone _ _ _ _ m6 e3 (by omega) ss2⟩)
              rw [if_neg (by simpa using e3)]
              split
              · exact wpS_pure (.inr ⟨ss2, _, _, _, _, _, _, rfl, m6, by omega, by omega, by omega, by omega, by omega⟩)
              · exact wpS_pure ⟨ss2, _, _, _, _, _, _, rfl, m6, by omega, by omega, by omega, by omega, by omega⟩
            · rw [if_neg k2p]
              have et : t2 = qb - 1 := by omega
              obtain ⟨vb2, hvb2⟩ := at1 (x := xb) (j := qb - 1 - 1) (by omega)
              have m6 := m4.chA O sa sb (by omega) (t := tt - 1) (by omega) (by omega) (by omega) hvb2 (fun i h1 h2 u hu => by
                obtain rfl : i = tt - 1 := by omega
                rw [hva] at hu; cases hu; exact O.asym (g2 (qb - 1 - 1) (by omega) vb2 (by rw [Nat.zero_add]; exact hvb2))) (push1 _ QA1 (by omega) hva)
              refine wpS_bind (wpS_elem hva ?_)
              by_cases e3 : tt - 1 = 0
              · rw [if_pos (by simpa using e3)]
                exact wpS_pure (.inl ⟨_, _, _, _, _, _, _, rfl, mdone _ _ _ _ m6 e3 (by omega) ss2⟩)
              rw [if_neg (by simpa using e3)]
              split
              · exact wpS_pure (.inr ⟨ss2, _, _, _, _, _, _, rfl, m6, by omega, by omega, by omega, by omega, by omega⟩)
              · exact wpS_pure ⟨ss2, _, _, _, _, _, _, rfl, m6, by omega, by omega, by omega, by omega, by omega⟩
          · rw [if_neg kp]
            have et0 : tt = qa := by omega
            have M3 := m
            have QA1 : 1 ≤ qa := f1
            obtain ⟨va, hva⟩ := at1 (x := xa) (j := qa - 1) (by omega)
            have hle : leB ltb va vb := hk2 (qa - 1) (by omega) va (by rw [Nat.zero_add]; exact hva)
            have m4 := M3.chB O sa sb f4 (t := qb - 1) (by omega) QA1 (by omega) hva (fun i h1 h2 u hu => by
              obtain rfl : i = qb - 1 := by omega
              rw [hvb] at hu; cases hu; exact hle) (push1 _ (by omega) f4 hvb)
            refine wpS_bind (wpS_elem hvb ?_)
            by_cases e1 : qb - 1 = 1
            · rw [if_pos (by simpa using e1)]
              exact wpS_pure (.inl ⟨_, _, _, _, _, _, _, rfl, mfirst _ _ _ _ m4 e1 (by omega) ss2⟩)
            rw [if_neg (by simpa using e1)]
            refine wpS_bind (wpS_elem hva (wpS_bind (wpS_galL O hO ss2.kind (Sa _ (arr_mem hva)) Sb (sxb (qb - 1)) (by omega) (by omega) fun t2 g1 g2 g3 => ?_)))
            have ht2 : 0 < t2 := by
              rcases Nat.eq_zero_or_pos t2 with q | q
              · have := g3 0 (by omega) (by omega) z (by rw [Nat.zero_add]; exact hz)
                unfold leB at this
                rw [hfst va (arr_mem hva)] at this; cases this
              · exact q
            dsimp only
            by_cases k2p : qb - 1 - t2 > 0
            · rw [if_pos k2p]
              have m5 := m4.chB O sa sb (by omega) (t := t2) (by omega) QA1 (by omega) hva (fun i h1 h2 u hu => g3 i h1 (by omega) u (by rw [Nat.zero_add]; exact hu)) (ext1 _ xb t2 (qb - 1))
              by_cases e2 : t2 = 1
              · rw [if_pos (by simpa using e2)]
                exact wpS_pure (.inl ⟨_, _, _, _, _, _, _, rfl, mfirst _ _ _ _ m5 e2 (by omega) ss2⟩)
              rw [if_neg (by simpa using e2), if_neg (by simp; omega)]
              obtain ⟨vb2, hvb2⟩ := at1 (x := xb) (j := t2 - 1) (by omega)
              have m6 := m5.chA O sa sb (by omega) (t := qa - 1) (by omega) (by omega) (by omega) hvb2 (fun i h1 h2 u hu => by
                obtain rfl : i = qa - 1 := by omega
                rw [hva] at hu; cases hu; exact O.asym (g2 (t2 - 1) (by omega) vb2 (by rw [Nat.zero_add]; exact hvb2))) (push1 _ QA1 (by omega) hva)
              refine wpS_bind (wpS_elem hva ?_)
              by_cases e3 : qa - 1 = 0
              · rw [if_pos (by simpa using e3)]
                exact wpS_pure (.inl ⟨_, _, _, _, _, _, _, rfl, mdone _ _ _ _ m6 e3 (by omega) ss2⟩)
              rw [if_neg (by simpa using e3)]
              split
              · exact wpS_pure (.inr ⟨ss2, _, _, _, _, _, _, rfl, m6, by omega, by omega, by omega, by omega, by omega⟩)
              · exact wpS_pure ⟨ss2, _, _, _, _, _, _, rfl, m6, by omega, by omega, by omega, by omega, by omega⟩
            · rw [if_neg k2p]
              have et : t2 = qb - 1 := by omega
              obtain ⟨vb2, hvb2⟩ := at1 (x := xb) (j := qb - 1 - 1) (by omega)
              have m6 := m4.chA O sa sb (by omega) (t := qa - 1) (by omega) (by omega) (by omega) hvb2 (fun i h1 h2 u hu => by
                obtain rfl : i = qa - 1 := by omega
                rw [hva] at hu; cases hu; exact O.asym (g2 (qb - 1 - 1) (by omega) vb2 (by rw [Nat.zero_add]; exact hvb2))) (push1 _ QA1 (by omega) hva)
              refine wpS_bind (wpS_elem hva ?_)
              by_cases e3 : qa - 1 = 0
              · rw [if_pos (by simpa using e3)]
                exact wpS_pure (.inl ⟨_, _, _, _, _, _, _, rfl, mdone _ _ _ _ m6 e3 (by omega) ss2⟩)
              rw [if_neg (by simpa using e3)]
              split
              · exact wpS_pure (.inr ⟨ss2, _, _, _, _, _, _, rfl, m6, by omega, by omega, by omega, by omega, by omega⟩)
              · exact wpS_pure ⟨ss2, _, _, _, _, _, _, rfl, m6, by omega, by omega, by omega, by omega, by omega⟩
end
end L2

/-! mergeAt -/
namespace L2
open PySem PySem.Spec PyProof.Rows
def layS (M : Array Keyed) (o : Nat) (ar : Array Keyed) : Array Keyed := M.toList.zipIdx.foldl (fun z q => z.setIfInBounds (o + q.2) q.1) ar
theorem lay_list : ∀ (M : List Keyed) (n o : Nat) (ar : Array Keyed), o + n + M.length ≤ ar.size → ((M.zipIdx n).foldl (fun z q => z.setIfInBounds (o + q.2) q.1) ar).toList = ar.toList.take (o + n) ++ M ++ ar.toList.drop (o + n + M.length)
  | [], n, o, ar, h => by simp
  | p :: M, n, o, ar, h => by
    rw [List.length_cons] at h
    have hs : (ar.setIfInBounds (o + n) p).size = ar.size := by simp
    have ih := lay_list M (n + 1) o (ar.setIfInBounds (o + n) p) (by rw [hs]; omega)
    rw [List.zipIdx_cons, List.foldl_cons, ih, Array.toList_setIfInBounds]
    have hl : o + n < ar.toList.length := by rw [Array.length_toList]; omega
    rw [show o + (n + 1) = o + n + 1 by omega, List.take_succ_eq_append_getElem (by rw [List.length_set]; exact hl), List.getElem_set_self, List.take_set_of_le (by omega), List.drop_set_of_lt (by omega), List.length_cons]
    rw [show o + n + 1 + M.length = o + n + (M.length + 1) by omega]
    simp
theorem lay_eq (M ar : Array Keyed) (o : Nat) (h : o + M.size ≤ ar.size) : (layS M o ar).toList = ar.toList.take o ++ M.toList ++ ar.toList.drop (o + M.size) := by
  have := lay_list M.toList 0 o ar (by rw [Array.length_toList]; omega)
  rw [Nat.add_zero, Array.length_toList] at this
  exact this
theorem mergeAt_eq (ii : Nat) : mergeAt' ii = (do
  let z ← get
  let (some (ba, ka, pw), some (bb, kb, _)) := ((pendingOf z)[ii]?, (pendingOf z)[ii + 1]?) | unsupported "internal:list.sort.pending"
  set (setPending z (((pendingOf z).setIfInBounds ii (ba, ka + kb, pw)).eraseIdxIfInBounds (ii + 1)))
  let some kk ← galS false (← elem' (arrOf z) bb) (arrOf z) ba ka 0 | return false
  let (ba, ka) := (ba + kk, ka - kk)
  if ka == 0 then return true
  let some kb ← galS true (← elem' (arrOf z) (ba + ka - 1)) (arrOf z) bb kb (kb - 1) | return false
  if kb == 0 then return true
  let mm ← if ka ≤ kb then mloS ((arrOf z).extract ba bb) ((arrOf z).extract bb (bb + kb)) else mhiS ((arrOf z).extract ba bb) ((arrOf z).extract bb (bb + kb))
  modify fun z => setArr z (layS mm ba (arrOf z))
  return (failedOf (← get)).isNone) := rfl
theorem app4 {α : Type} (a b c d : List α) : a ++ (b ++ c) ++ d = (a ++ b) ++ (c ++ d) := by simp
section
variable {prog : Program} {w : World} {A : Around} {E : Value → Shared → Prop} {s : Shared} {ltb : Keyed → Keyed → Bool} {S : Keyed → Prop} {κ : SortKind}
theorem at_seg {ar : Array Keyed} {P R T : List Keyed} (h : ar.toList = P ++ R ++ T) (i : Nat) (hi : i < R.length) : ar[P.length + i]? = R[i]? := by
  have : ar.toList[P.length + i]? = R[i]? := by
    rw [h, List.append_assoc, List.getElem?_append_right (by omega), Nat.add_sub_cancel_left, List.getElem?_append_left hi]
  simpa using this
theorem wpS_set {α : Type} {st st2 : α} {Q : PUnit → α → Prop} (q : Q ⟨⟩ st2) : wpS (model prog w) A E s (set st2 : StateT α Sem PUnit) Q st := by
  unfold wpS
  show wpAny _ _ ((StateT.set st2 : StateT α Sem PUnit).run st) _ _ _
  exact wpAny_pure ⟨rfl, q⟩
theorem wpS_mergeAt (O : OrdB ltb) (hO : LtOk prog w A E s ltb S κ) {st : SortSt} {Q : Bool → SortSt → Prop} {ii ba ka bb kb pw pv : Nat} {P R1 R2 T : List Keyed} (hk : kindOf st = κ) (hf : failedOf st = none)
    (hp1 : (pendingOf st)[ii]? = some (ba, ka, pw)) (hp2 : (pendingOf st)[ii + 1]? = some (bb, kb, pv)) (harr : (arrOf st).toList = P ++ R1 ++ R2 ++ T) (eba : ba = P.length) (eka : ka = R1.length) (ebb : bb = P.length + R1.length) (ekb : kb = R2.length)
    (h1 : R1 ≠ []) (h2 : R2 ≠ []) (s1 : R1.Pairwise (leB ltb)) (s2 : R2.Pairwise (leB ltb)) (hSa : ∀ x ∈ (arrOf st).toList, S x)
    (h : ∀ (st' : SortSt) (R : List Keyed), R.Pairwise (leB ltb) → R.Perm (R1 ++ R2) → (arrOf st').toList = P ++ R ++ T → kindOf st' = κ → failedOf st' = none → pendingOf st' = ((pendingOf st).setIfInBounds ii (ba, ka + kb, pw)).eraseIdxIfInBounds (ii + 1) → Q true st') :
    wpS (model prog w) A E s (mergeAt' ii) Q st := by
  have l1 : 0 < R1.length := List.length_pos_iff.mpr h1
  have l2 : 0 < R2.length := List.length_pos_iff.mpr h2
  have hA1 : (arrOf st).toList = P ++ R1 ++ (R2 ++ T) := by rw [harr]; simp
  have hA2 : (arrOf st).toList = (P ++ R1) ++ R2 ++ T := by rw [harr]
  have hsz : (arrOf st).size = P.length + R1.length + R2.length + T.length := by
    have := congrArg List.length harr
    rw [Array.length_toList] at this
    simp at this; omega
  have g1 : ∀ i, i < R1.length → (arrOf st)[ba + i]? = R1[i]? := fun i hi => by rw [eba]; exact at_seg hA1 i hi
  have g2 : ∀ i, i < R2.length → (arrOf st)[bb + i]? = R2[i]? := fun i hi => by
    have := at_seg hA2 i hi
    rw [List.length_append] at this
    rw [ebb]; exact this
  obtain ⟨b0, hb0⟩ : ∃ b, R2[0]? = some b := ⟨_, List.getElem?_eq_getElem l2⟩
  have hb0' : (arrOf st)[bb]? = some b0 := by have := g2 0 l2; rw [Nat.add_zero] at this; rw [this]; exact hb0
  have b0le : ∀ y ∈ R2, leB ltb b0 y ∨ y = b0 := fun y hy => by
    obtain ⟨i, hi, e⟩ := List.getElem_of_mem hy
    by_cases h0 : i = 0
    · subst h0; rw [List.getElem?_eq_getElem l2] at hb0; right; rw [← e]; exact Option.some.inj hb0
    · left; exact rise_le s2 (i := 0) (j := i) (by omega) hb0 (by rw [List.getElem?_eq_getElem hi, e])
  rw [mergeAt_eq]
  refine wpS_bind (wpS_get ?_)
  rw [hp1, hp2]
  dsimp only
  refine wpS_bind (wpS_set ?_)
  refine wpS_bind (wpS_elem hb0' (wpS_bind (wpS_galR O hO (st := setPending st _) hk (hSa _ (arr_mem hb0')) hSa (fun i j u v hij hj hu hv => ?_) (by omega) (by omega) fun k k1 k2 k3 => ?_)))
  · rw [g1 i (by omega)] at hu
    rw [g1 j (by omega)] at hv
    exact rise_le s1 hij hu hv
  dsimp only
  have k2' : ∀ i, i < k → ∀ u, R1[i]? = some u → leB ltb u b0 := fun i hi u hu => k2 i hi u (by rw [g1 i (by omega)]; exact hu)
  by_cases c1 : ka - k = 0
  · rw [if_pos (by simpa using c1)]
    refine wpS_pure (h (setPending st _) (R1 ++ R2) ?_ (List.Perm.refl _) (by show (arrOf st).toList = _; rw [harr]; simp) hk hf rfl)
    rw [List.pairwise_append]
    refine ⟨s1, s2, fun x hx y hy => ?_⟩
    obtain ⟨i, hi, e⟩ := List.getElem_of_mem hx
    have hxb := k2' i (by omega) x (by rw [List.getElem?_eq_getElem hi, e])
    rcases b0le y hy with q | q
    · exact O.tr hxb q
    · rw [q]; exact hxb
  rw [if_neg (by simpa using c1)]
  have hk : kindOf st = κ := hk
  obtain ⟨al, hal⟩ : ∃ a, R1[ka - 1]? = some a := ⟨_, List.getElem?_eq_getElem (by omega)⟩
  have hal' : (arrOf st)[ba + k + (ka - k) - 1]? = some al := by
    rw [show ba + k + (ka - k) - 1 = ba + (ka - 1) by omega, g1 (ka - 1) (by omega)]; exact hal
  have alge : ∀ x ∈ R1, leB ltb x al ∨ x = al := fun x hx => by
    obtain ⟨i, hi, e⟩ := List.getElem_of_mem hx
    by_cases h0 : i = ka - 1
    · subst h0; rw [List.getElem?_eq_getElem hi] at hal; right; rw [← e]; exact Option.some.inj hal
    · left; exact rise_le s1 (i := i) (j := ka - 1) (by omega) (by rw [List.getElem?_eq_getElem hi, e]) hal
  refine wpS_bind (wpS_elem hal' (wpS_bind (wpS_galL O hO (st := setPending st _) hk (hSa _ (arr_mem hal')) hSa (fun i j u v hij hj hu hv => ?_) (by omega) (by omega) fun n n1 n2 n3 => ?_)))
  · rw [g2 i (by omega)] at hu
    rw [g2 j (by omega)] at hv
    exact rise_le s2 hij hu hv
  dsimp only
  have n3' : ∀ y ∈ R2.drop n, leB ltb al y := fun y hy => by
    obtain ⟨i, hi, e⟩ := List.getElem_of_mem hy
    rw [List.length_drop] at hi
    rw [List.getElem_drop] at e
    exact n3 (n + i) (by omega) (by omega) y (by rw [g2 (n + i) (by omega), List.getElem?_eq_getElem (by omega), e])
  by_cases c2 : n = 0
  · rw [if_pos (by simpa using c2)]
    refine wpS_pure (h (setPending st _) (R1 ++ R2) ?_ (List.Perm.refl _) (by show (arrOf st).toList = _; rw [harr]; simp) hk hf rfl)
    rw [List.pairwise_append]
    refine ⟨s1, s2, fun x hx y hy => ?_⟩
    have hy2 := n3' y (by rw [c2]; exact hy)
    rcases alge x hx with q | q
    · exact O.tr q hy2
    · rw [q]; exact hy2
  rw [if_neg (by simpa using c2)]
  have exA : ((arrOf st).extract (ba + k) bb).toList = R1.drop k := by
    rw [show bb = ba + k + (ka - k) by omega, ext_part, hA1]
    rw [show ba + k = P.length + k by omega, List.append_assoc, ← List.drop_drop, List.drop_left, List.drop_append_of_le_length (by omega), List.take_append_of_le_length (by rw [List.length_drop]; omega), List.take_of_length_le (by rw [List.length_drop]; omega)]
  have exB : ((arrOf st).extract bb (bb + n)).toList = R2.take n := by
    rw [ext_part, hA2, show bb = (P ++ R1).length by rw [List.length_append]; omega, List.append_assoc, List.drop_left, List.take_append_of_le_length (by omega)]
  have szA : ((arrOf st).extract (ba + k) bb).size = ka - k := by
    have := congrArg List.length exA
    rw [Array.length_toList, List.length_drop] at this; omega
  have szB : ((arrOf st).extract bb (bb + n)).size = n := by
    have := congrArg List.length exB
    rw [Array.length_toList, List.length_take] at this; omega
  have hSA : ∀ x ∈ ((arrOf st).extract (ba + k) bb).toList, S x := fun x hx => by
    rw [exA] at hx
    exact hSa x (by rw [hA1]; exact List.mem_append_left _ (List.mem_append_right _ (List.mem_of_mem_drop hx)))
  have hSB : ∀ x ∈ ((arrOf st).extract bb (bb + n)).toList, S x := fun x hx => by
    rw [exB] at hx
    exact hSa x (by rw [hA2]; exact List.mem_append_left _ (List.mem_append_right _ (List.mem_of_mem_take hx)))
  have rA : ((arrOf st).extract (ba + k) bb).toList.Pairwise (leB ltb) := by rw [exA]; exact s1.drop
  have rB : ((arrOf st).extract bb (bb + n)).toList.Pairwise (leB ltb) := by rw [exB]; exact s2.take
  have zB : ((arrOf st).extract bb (bb + n))[0]? = some b0 := by
    have e : ((arrOf st).extract bb (bb + n)).toList[0]? = some b0 := by rw [exB, List.getElem?_take, if_pos (by omega)]; exact hb0
    rw [← Array.getElem?_toList]; exact e
  have zA : ((arrOf st).extract (ba + k) bb)[((arrOf st).extract (ba + k) bb).size - 1]? = some al := by
    have e : ((arrOf st).extract (ba + k) bb).toList[((arrOf st).extract (ba + k) bb).size - 1]? = some al := by
      rw [exA, szA, List.getElem?_drop, show k + (ka - k - 1) = ka - 1 by omega]; exact hal
    rw [← Array.getElem?_toList]; exact e
  have fst : ∀ y ∈ ((arrOf st).extract (ba + k) bb).toList, ltb b0 y = true := fun y hy => by
    rw [exA] at hy
    obtain ⟨i, hi, e⟩ := List.getElem_of_mem hy
    rw [List.length_drop] at hi
    rw [List.getElem_drop] at e
    exact k3 (k + i) (by omega) (by omega) y (by rw [g1 (k + i) (by omega), List.getElem?_eq_getElem (by omega), e])
  have lst : ∀ x ∈ ((arrOf st).extract bb (bb + n)).toList, ltb x al = true := fun x hx => by
    rw [exB] at hx
    obtain ⟨i, hi, e⟩ := List.getElem_of_mem hx
    rw [List.length_take] at hi
    rw [List.getElem_take] at e
    exact n2 i (by omega) x (by rw [g2 i (by omega), List.getElem?_eq_getElem (by omega), e])
  have fin : ∀ (r : Array Keyed) (st' : SortSt), r.toList.Pairwise (leB ltb) → r.toList.Perm (((arrOf st).extract (ba + k) bb).toList ++ ((arrOf st).extract bb (bb + n)).toList) → SS κ (setPending st (((pendingOf st).setIfInBounds ii (ba, ka + kb, pw)).eraseIdxIfInBounds (ii + 1))) st' →
      Q true (setArr st' (layS r (ba + k) (arrOf st'))) := fun r st' rs rp ss => by
    rw [exA, exB] at rp
    have rsz : r.size = ka - k + n := by
      have := rp.length_eq
      rw [Array.length_toList, List.length_append, List.length_drop, List.length_take] at this; omega
    have earr : arrOf st' = arrOf st := ss.arr
    refine h _ (R1.take k ++ r.toList ++ R2.drop n) ?_ ?_ ?_ ss.kind ss.fail ss.pend
    · have m1 : ∀ x ∈ R1.take k, leB ltb x b0 := fun x hx => by
        obtain ⟨i, hi, e⟩ := List.getElem_of_mem hx
        rw [List.length_take] at hi
        rw [List.getElem_take] at e
        exact k2' i (by omega) x (by rw [List.getElem?_eq_getElem (by omega), e])
      have m2 : ∀ x ∈ R1.take k, ∀ y ∈ R2, leB ltb x y := fun x hx y hy => by
        rcases b0le y hy with q | q
        · exact O.tr (m1 x hx) q
        · rw [q]; exact m1 x hx
      have m3 : ∀ x ∈ R1, ∀ y ∈ R2.drop n, leB ltb x y := fun x hx y hy => by
        rcases alge x hx with q | q
        · exact O.tr q (n3' y hy)
        · rw [q]; exact n3' y hy
      have d1 := (rise_parts s1 0 k).2
      rw [List.drop_zero, Nat.zero_add] at d1
      have d2 := (rise_parts s2 0 n).2
      rw [List.drop_zero, Nat.zero_add] at d2
      rw [List.pairwise_append, List.pairwise_append]
      refine ⟨⟨s1.take, rs, fun x hx y hy => ?_⟩, s2.drop, fun x hx y hy => ?_⟩
      · rcases List.mem_append.mp (rp.mem_iff.mp hy) with q | q
        · exact d1 x hx y q
        · exact m2 x hx y (List.mem_of_mem_take q)
      · rcases List.mem_append.mp hx with q | q
        · exact m3 x (List.mem_of_mem_take q) y hy
        · rcases List.mem_append.mp (rp.mem_iff.mp q) with q | q
          · exact m3 x (List.mem_of_mem_drop q) y hy
          · exact d2 x q y hy
    · have e1 := List.take_append_drop k R1
      have e2 := List.take_append_drop n R2
      have : (R1.take k ++ r.toList ++ R2.drop n).Perm (R1.take k ++ (R1.drop k ++ R2.take n) ++ R2.drop n) := List.Perm.append_right _ (List.Perm.append_left _ rp)
      refine this.trans (List.Perm.of_eq ?_)
      rw [app4, e1, e2]
    · show (layS r (ba + k) (arrOf st')).toList = _
      rw [earr, lay_eq r _ _ (by rw [rsz]; omega), rsz, show ba + k + (ka - k + n) = bb + n by omega]
      have t1 : (arrOf st).toList.take (ba + k) = P ++ R1.take k := by
        rw [hA1, eba, List.append_assoc, List.take_length_add_append, List.take_append_of_le_length (by omega)]
      have t2 : (arrOf st).toList.drop (bb + n) = R2.drop n ++ T := by
        rw [hA2, show bb = (P ++ R1).length by rw [List.length_append]; omega, List.append_assoc, ← List.drop_drop, List.drop_left, List.drop_append_of_le_length (by omega)]
      rw [t1, t2]; simp
  have hSS : SS κ (setPending st (((pendingOf st).setIfInBounds ii (ba, ka + kb, pw)).eraseIdxIfInBounds (ii + 1))) (setPending st (((pendingOf st).setIfInBounds ii (ba, ka + kb, pw)).eraseIdxIfInBounds (ii + 1))) := ⟨hk, hf, rfl, rfl⟩
  have after : ∀ (r : Array Keyed) (st' : SortSt), Q true (setArr st' (layS r (ba + k) (arrOf st'))) → failedOf st' = none → wpS (model prog w) A E s (do
      modify fun z => setArr z (layS r (ba + k) (arrOf z))
      return (failedOf (← get)).isNone) Q st' := fun r st' q hfl => by
    refine wpS_bind (wpS_modify ?_)
    refine wpS_bind (wpS_get ?_)
    refine wpS_pure ?_
    have : (failedOf (setArr st' (layS r (ba + k) (arrOf st')))).isNone = true := by
      show (failedOf st').isNone = true
      rw [hfl]; rfl
    rw [this]; exact q
  by_cases c3 : ka - k ≤ n
  · rw [if_pos c3]
    refine wpS_bind (wpS_mlo O hO hSA hSB rA rB zB (fun y hy => O.asym (fst y hy)) (by rw [szA]; omega) (fun x hx y hy => by rw [zA] at hy; cases hy; exact lst x hx) hSS fun r st' q1 q2 q3 => ?_)
    exact after r st' (fin r st' q1 q2 q3) q3.fail
  · rw [if_neg c3]
    refine wpS_bind (wpS_mhi O hO hSA hSB rA rB zB fst zA lst hSS fun r st' q1 q2 q3 => ?_)
    exact after r st' (fin r st' q1 q2 q3) q3.fail
end
end L2

/-! binary insertion from any place on -/
namespace L2
open PySem PySem.Spec PyProof.Rows
/-- the k-th moved down to the l-th place -/
def insB (R : List Keyed) (k l : Nat) : List Keyed := R.take l ++ ((R.drop k).take 1 ++ ((R.take k).drop l ++ R.drop (k + 1)))
theorem insB_perm (R : List Keyed) {k l : Nat} (h : l ≤ k) : (insB R k l).Perm R := by
  unfold insB
  have e1 : R.take k = R.take l ++ (R.take k).drop l := by
    conv => lhs; rw [← List.take_append_drop l (R.take k)]
    rw [List.take_take, Nat.min_eq_left h]
  have e2 : R = R.take k ++ ((R.drop k).take 1 ++ R.drop (k + 1)) := by
    conv => lhs; rw [← List.take_append_drop k R, drop_take_split R k 1]
  conv => rhs; rw [e2]
  rw [e1, List.append_assoc]
  refine List.Perm.append_left _ ?_
  have e3 : List.drop l (R.take l ++ (R.take k).drop l) = (R.take k).drop l := by rw [← e1]
  rw [e3]
  rw [← List.append_assoc, ← List.append_assoc]
  exact List.Perm.append_right _ List.perm_append_comm
theorem insB_get (R : List Keyed) {k l : Nat} (hk : k < R.length) (hl : l ≤ k) (p : Nat) : (insB R k l)[p]? = if p = l then R[k]? else if l < p ∧ p ≤ k then R[p - 1]? else R[p]? := by
  unfold insB
  have len1 : (R.take l).length = l := by rw [List.length_take]; omega
  have len2 : ((R.drop k).take 1).length = 1 := by rw [List.length_take, List.length_drop]; omega
  have len3 : ((R.take k).drop l).length = k - l := by rw [List.length_drop, List.length_take]; omega
  by_cases c1 : p < l
  · rw [List.getElem?_append_left (by omega), if_neg (by omega), if_neg (by omega), List.getElem?_take, if_pos c1]
  rw [List.getElem?_append_right (by omega), len1]
  by_cases c2 : p = l
  · rw [if_pos c2, List.getElem?_append_left (by omega), List.getElem?_take, if_pos (by omega), List.getElem?_drop]
    congr 1; omega
  rw [if_neg c2, List.getElem?_append_right (by omega), len2]
  by_cases c3 : p ≤ k
  · rw [if_pos ⟨by omega, c3⟩, List.getElem?_append_left (by omega), List.getElem?_drop, List.getElem?_take, if_pos (by omega)]
    congr 1; omega
  · rw [if_neg (by omega), List.getElem?_append_right (by omega), len3, List.getElem?_drop]
    congr 1; omega
theorem bubble_list {ar : Array Keyed} {P R T : List Keyed} (h : ar.toList = P ++ R ++ T) {k l : Nat} (hk : k < R.length) (hl : l ≤ k) : (bubble ar (P.length + k) (k - l)).toList = P ++ insB R k l ++ T := by
  have hsz : ar.size = P.length + R.length + T.length := by
    have := congrArg List.length h
    rw [Array.length_toList] at this
    simp at this; omega
  have hil : (insB R k l).length = R.length := (insB_perm R hl).length_eq
  apply List.ext_getElem?
  intro p
  rw [Array.getElem?_toList, getElem?_bubble (by omega) _ (by omega) p, show P.length + k - (k - l) = P.length + l by omega]
  have get : ∀ q, ar[q]? = (P ++ R ++ T)[q]? := fun q => by rw [← h, Array.getElem?_toList]
  by_cases c1 : p < P.length
  · rw [if_neg (by omega), if_neg (by omega), get, List.append_assoc, List.append_assoc, List.getElem?_append_left c1, List.getElem?_append_left c1]
  · by_cases c2 : p < P.length + R.length
    · have eR : (P ++ insB R k l ++ T)[p]? = (insB R k l)[p - P.length]? := by
        rw [List.append_assoc, List.getElem?_append_right (by omega), List.getElem?_append_left (by omega)]
      have eg : ∀ q, P.length ≤ q → q < P.length + R.length → ar[q]? = R[q - P.length]? := fun q h1 h2 => by
        rw [get, List.append_assoc, List.getElem?_append_right h1, List.getElem?_append_left (by omega)]
      rw [eR, insB_get R hk hl]
      by_cases c3 : p = P.length + l
      · rw [if_pos c3, if_pos (show p - P.length = l by omega), eg _ (by omega) (by omega)]; congr 1; omega
      · rw [if_neg c3, if_neg (show ¬ p - P.length = l by omega)]
        by_cases c4 : P.length + l < p ∧ p ≤ P.length + k
        · rw [if_pos c4, if_pos (show l < p - P.length ∧ p - P.length ≤ k by omega), eg _ (by omega) (by omega)]; congr 1; omega
        · rw [if_neg c4, if_neg (show ¬ (l < p - P.length ∧ p - P.length ≤ k) by omega), eg _ (by omega) (by omega)]
    · rw [if_neg (by omega), if_neg (by omega), get, List.append_assoc, List.append_assoc, List.getElem?_append_right (by omega), List.getElem?_append_right (by omega), List.getElem?_append_right (by omega), List.getElem?_append_right (by omega), hil]
section
variable {prog : Program} {w : World} {A : Around} {E : Value → Shared → Prop} {s : Shared} {ltb : Keyed → Keyed → Bool} {S : Keyed → Prop} {κ : SortKind}
theorem wpS_ltAtB (hO : LtOk prog w A E s ltb S κ) {st : SortSt} {i j : Nat} {x y : Keyed} {Q : Option Bool → SortSt → Prop} (hk : kindOf st = κ) (hi : (arrOf st)[i]? = some x) (hj : (arrOf st)[j]? = some y) (Sx : S x) (Sy : S y) (q : Q (some (ltb x y)) st) : wpS (model prog w) A E s (ltAt' i j) Q st := by
  rw [ltAt'_eq]
  refine wpS_bind (wpS_get ?_)
  exact wpS_bind (wpS_elem hi (wpS_bind (wpS_elem hj (hO x y st Q Sx Sy hk q))))
/-- the first k of R rise -/
def RiseTo (ltb : Keyed → Keyed → Bool) (R : List Keyed) (k : Nat) : Prop := ∀ i j x y, i < j → j < k → R[i]? = some x → R[j]? = some y → leB ltb x y
theorem wpS_binB (O : OrdB ltb) (hO : LtOk prog w A E s ltb S κ) {st : SortSt} {Q : Bool → SortSt → Prop} {P R T : List Keyed} {ok : Nat} (hk : kindOf st = κ) (hf : failedOf st = none) (harr : (arrOf st).toList = P ++ R ++ T) (hok : ok ≤ R.length) (hr : RiseTo ltb R ok) (hSa : ∀ x ∈ R, S x)
    (h : ∀ (st' : SortSt) (R' : List Keyed), (arrOf st').toList = P ++ R' ++ T → R'.Perm R → RiseTo ltb R' R'.length → kindOf st' = κ → failedOf st' = none → pendingOf st' = pendingOf st → Q true st') : wpS (model prog w) A E s (binarySort' P.length R.length ok) Q st := by
  rw [binarySort'_eq]
  refine wpS_bind (wpS_mono (wpS_forRange (I := fun k c st' => c = (none, ()) ∧ kindOf st' = κ ∧ failedOf st' = none ∧ pendingOf st' = pendingOf st ∧ ∃ R', (arrOf st').toList = P ++ R' ++ T ∧ R'.Perm R ∧ RiseTo ltb R' (min k R.length))
    (Q := fun c st' => c = (none, ()) ∧ kindOf st' = κ ∧ failedOf st' = none ∧ pendingOf st' = pendingOf st ∧ ∃ R', (arrOf st').toList = P ++ R' ++ T ∧ R'.Perm R ∧ RiseTo ltb R' R.length) ?step ?fin ⟨rfl, hk, hf, rfl, R, harr, List.Perm.refl _, ?init⟩) ?post)
  case init =>
    intro i j x y hij hj hx hy
    exact hr i j x y hij (by omega) hx hy
  case fin =>
    rintro c st' ⟨hc, k1, k2, k3, R', a1, a2, a3⟩
    exact ⟨hc, k1, k2, k3, R', a1, a2, fun i j x y hij hj => a3 i j x y hij (by omega)⟩
  case post =>
    rintro c st' ⟨rfl, k1, k2, k3, R', a1, a2, a3⟩
    exact wpS_pure (h st' R' a1 a2 (by rw [a2.length_eq]; exact a3) k1 k2 k3)
  case step =>
    rintro k c st' h1 hkn ⟨rfl, k1, k2, k3, R', a1, a2, a3⟩
    rw [show min k R.length = k by omega] at a3
    have hlen := a2.length_eq
    have hS' : ∀ x ∈ R', S x := fun x hx => hSa x (a2.mem_iff.mp hx)
    have gt : ∀ i, i < R'.length → (arrOf st')[P.length + i]? = R'[i]? := fun i hi => at_seg a1 i hi
    obtain ⟨v, hv⟩ : ∃ v, R'[k]? = some v := ⟨_, List.getElem?_eq_getElem (by omega)⟩
    have Sv := hS' v (List.mem_of_getElem? hv)
    refine wpS_bind (wpS_mono (wpS_forRange (I := fun x c st'' => st'' = st' ∧ ∃ l r, c = (none, l, r) ∧ l ≤ r ∧ r ≤ k ∧ r - l ≤ k - x ∧ (∀ i x, i < l → R'[i]? = some x → leB ltb x v) ∧ (∀ i x, r ≤ i → i < k → R'[i]? = some x → ltb v x = true))
      (Q := fun c st'' => st'' = st' ∧ ∃ l r, c = (none, l, r) ∧ l ≤ k ∧ (∀ i x, i < l → R'[i]? = some x → leB ltb x v) ∧ (∀ i x, l ≤ i → i < k → R'[i]? = some x → ltb v x = true)) ?istep ?ifin ⟨rfl, 0, k, rfl, by omega, by omega, by omega, fun i x hi => by omega, fun i x h1 h2 => by omega⟩) ?ipost)
    case ifin =>
      rintro c st'' ⟨rfl, l, r, rfl, b1, b2, b3, b4, b5⟩
      have : l = r := by omega
      subst this
      exact ⟨rfl, l, l, rfl, b2, b4, b5⟩
    case istep =>
      rintro x c st'' _ hxk ⟨e, l, r, rfl, b1, b2, b3, b4, b5⟩
      rw [e]
      dsimp only
      by_cases hge : l ≥ r
      · rw [if_pos hge]
        have : l = r := by omega
        subst this
        exact wpS_pure ⟨rfl, l, l, rfl, b2, b4, b5⟩
      · rw [if_neg hge]
        obtain ⟨u, hu⟩ : ∃ u, R'[(l + r) / 2]? = some u := ⟨_, List.getElem?_eq_getElem (by omega)⟩
        refine wpS_bind (wpS_ltAtB hO k1 (by rw [gt k (by omega)]; exact hv) (by rw [gt _ (by omega)]; exact hu) Sv (hS' u (List.mem_of_getElem? hu)) ?_)
        dsimp only
        cases hw : ltb v u with
        | true =>
          simp only [if_true]
          refine wpS_pure ⟨rfl, l, (l + r) / 2, rfl, by omega, by omega, by omega, b4, fun i y q1 q2 hy => ?_⟩
          by_cases ei : i = (l + r) / 2
          · subst ei; rw [hu] at hy; cases hy; exact hw
          · have le1 := a3 ((l + r) / 2) i u y (by omega) q2 hu hy
            cases q : ltb v y with
            | true => rfl
            | false => have := O.tr le1 q; rw [hw] at this; cases this
        | false =>
          simp only [Bool.false_eq_true, if_false]
          refine wpS_pure ⟨rfl, (l + r) / 2 + 1, r, rfl, by omega, by omega, by omega, fun i y q1 hy => ?_, b5⟩
          by_cases ei : i = (l + r) / 2
          · subst ei; rw [hu] at hy; cases hy; exact hw
          · exact O.tr (a3 i ((l + r) / 2) y u (by omega) (by omega) hy hu) hw
    case ipost =>
      rintro c st'' ⟨e, l, r, rfl, b1, b4, b5⟩
      rw [e]
      show wpS _ _ _ _ (do moveDown' (P.length + k) (P.length + l); pure (ForInStep.yield (none, ()))) _ _
      rw [moveDown'_eq]
      refine wpS_bind (wpS_modify (wpS_pure ⟨rfl, k1, k2, k3, insB R' k l, ?_, (insB_perm R' b1).trans a2, ?_⟩))
      · show (bubble (arrOf st') (P.length + k) (P.length + k - (P.length + l))).toList = _
        rw [show P.length + k - (P.length + l) = k - l by omega]
        exact bubble_list a1 (by omega) b1
      · rw [show min (k + 1) R.length = k + 1 by omega]
        intro i j x y hij hj hx hy
        rw [insB_get R' (by omega) b1] at hx hy
        by_cases i1 : i = l
        · rw [if_pos i1, hv] at hx
          cases hx
          rw [if_neg (by omega), if_pos (by omega)] at hy
          exact O.asym (b5 (j - 1) y (by omega) (by omega) hy)
        rw [if_neg i1] at hx
        by_cases i2 : l < i ∧ i ≤ k
        · rw [if_pos i2] at hx
          rw [if_neg (by omega), if_pos (by omega)] at hy
          exact a3 (i - 1) (j - 1) x y (by omega) (by omega) hx hy
        rw [if_neg i2] at hx
        by_cases j1 : j = l
        · rw [if_pos j1, hv] at hy
          cases hy
          exact b4 i x (by omega) hx
        rw [if_neg j1] at hy
        by_cases j2 : l < j ∧ j ≤ k
        · rw [if_pos j2] at hy
          exact a3 i (j - 1) x y (by omega) (by omega) hx hy
        · rw [if_neg j2] at hy
          exact a3 i j x y hij (by omega) hx hy
end
end L2

/-! runs from any place on -/
namespace L2
open PySem PySem.Spec PyProof.Rows
def revB (R : List Keyed) (i j : Nat) : List Keyed := R.take i ++ (((R.take j).drop i).reverse ++ R.drop j)
theorem revB_perm (R : List Keyed) {i j : Nat} (h : i ≤ j) : (revB R i j).Perm R := by
  unfold revB
  have e1 : R.take j = R.take i ++ (R.take j).drop i := by
    conv => lhs; rw [← List.take_append_drop i (R.take j)]
    rw [List.take_take, Nat.min_eq_left h]
  have : (R.take i ++ (((R.take j).drop i).reverse ++ R.drop j)).Perm (R.take i ++ ((R.take j).drop i ++ R.drop j)) := List.Perm.append_left _ (List.Perm.append_right _ (List.reverse_perm _))
  refine this.trans (List.Perm.of_eq ?_)
  rw [← List.append_assoc, ← e1, List.take_append_drop]
theorem revB_get (R : List Keyed) {i j : Nat} (hj : j ≤ R.length) (h : i ≤ j) (p : Nat) : (revB R i j)[p]? = if i ≤ p ∧ p < j then R[i + j - 1 - p]? else R[p]? := by
  unfold revB
  have len1 : (R.take i).length = i := by rw [List.length_take]; omega
  have len2 : ((R.take j).drop i).length = j - i := by rw [List.length_drop, List.length_take]; omega
  by_cases c1 : p < i
  · rw [List.getElem?_append_left (by omega), if_neg (by omega), List.getElem?_take, if_pos c1]
  rw [List.getElem?_append_right (by omega), len1]
  by_cases c2 : p < j
  · rw [if_pos ⟨by omega, c2⟩, List.getElem?_append_left (by rw [List.length_reverse]; omega), List.getElem?_reverse (by omega), len2, List.getElem?_drop, List.getElem?_take, if_pos (by omega)]
    congr 1; omega
  · rw [if_neg (by omega), List.getElem?_append_right (by rw [List.length_reverse]; omega), List.length_reverse, len2, List.getElem?_drop]
    congr 1; omega
theorem mirror_list {ar : Array Keyed} {P R : List Keyed} (h : ar.toList = P ++ R) {i j : Nat} (hj : j ≤ R.length) (hi : i ≤ j) : (mirror ar (P.length + i) (P.length + j) ((P.length + j - (P.length + i)) / 2)).toList = P ++ revB R i j := by
  have hsz : ar.size = P.length + R.length := by
    have := congrArg List.length h
    rw [Array.length_toList] at this
    simp at this; omega
  apply List.ext_getElem?
  intro p
  rw [Array.getElem?_toList, getElem?_mirror_all (by omega) p]
  have get : ∀ q, ar[q]? = (P ++ R)[q]? := fun q => by rw [← h, Array.getElem?_toList]
  by_cases c1 : p < P.length
  · rw [if_neg (by omega), get, List.getElem?_append_left c1, List.getElem?_append_left c1]
  · rw [List.getElem?_append_right (by omega), revB_get R hj hi]
    by_cases c2 : P.length + i ≤ p ∧ p < P.length + j
    · rw [if_pos c2, if_pos (show i ≤ p - P.length ∧ p - P.length < j by omega), get, List.getElem?_append_right (by omega)]
      congr 1; omega
    · rw [if_neg c2, if_neg (show ¬ (i ≤ p - P.length ∧ p - P.length < j) by omega), get, List.getElem?_append_right (by omega)]
theorem OrdB.refl {ltb : Keyed → Keyed → Bool} (O : OrdB ltb) (x : Keyed) : leB ltb x x := by
  unfold leB
  cases q : ltb x x with
  | false => rfl
  | true => have := O.asym q; rw [q] at this; cases this
def FallTo (ltb : Keyed → Keyed → Bool) (R : List Keyed) (k : Nat) : Prop := ∀ i j x y, i < j → j < k → R[i]? = some x → R[j]? = some y → leB ltb y x
def EqSeg (ltb : Keyed → Keyed → Bool) (R : List Keyed) (a b : Nat) : Prop := ∀ i j x y, a ≤ i → i < b → a ≤ j → j < b → R[i]? = some x → R[j]? = some y → leB ltb x y
section
variable {ltb : Keyed → Keyed → Bool} {R : List Keyed}
theorem RiseTo.more (O : OrdB ltb) {n : Nat} (h : RiseTo ltb R n) (hn : 1 ≤ n) {u v : Keyed} (hu : R[n - 1]? = some u) (hv : R[n]? = some v) (c : leB ltb u v) : RiseTo ltb R (n + 1) := by
  intro i j x y hij hj hx hy
  by_cases e : j = n
  · subst e
    rw [hv] at hy; cases hy
    by_cases e2 : i = j - 1
    · subst e2; rw [hu] at hx; cases hx; exact c
    · exact O.tr (h i (j - 1) x u (by omega) (by omega) hx hu) c
  · exact h i j x y hij (by omega) hx hy
theorem FallTo.more (O : OrdB ltb) {n : Nat} (h : FallTo ltb R n) (hn : 1 ≤ n) {u v : Keyed} (hu : R[n - 1]? = some u) (hv : R[n]? = some v) (c : leB ltb v u) : FallTo ltb R (n + 1) := by
  intro i j x y hij hj hx hy
  by_cases e : j = n
  · subst e
    rw [hv] at hy; cases hy
    by_cases e2 : i = j - 1
    · subst e2; rw [hu] at hx; cases hx; exact c
    · exact O.tr c (h i (j - 1) x u (by omega) (by omega) hx hu)
  · exact h i j x y hij (by omega) hx hy
theorem FallTo.seg {n a : Nat} (h : FallTo ltb R n) (ha : a ≤ n) (hn : n ≤ R.length) (e : EqSeg ltb R a n) : FallTo ltb (revB R a n) n := by
  intro i j x y hij hj hx hy
  rw [revB_get R hn ha] at hx hy
  by_cases c1 : a ≤ i
  · rw [if_pos ⟨c1, by omega⟩] at hx
    rw [if_pos ⟨by omega, hj⟩] at hy
    exact e _ _ y x (by omega) (by omega) (by omega) (by omega) hy hx
  · rw [if_neg (by omega)] at hx
    by_cases c2 : a ≤ j
    · rw [if_pos ⟨c2, hj⟩] at hy
      exact h i _ x y (by omega) (by omega) hx hy
    · rw [if_neg (by omega)] at hy
      exact h i j x y hij hj hx hy
theorem FallTo.turn {n : Nat} (h : FallTo ltb R n) (hn : n ≤ R.length) : RiseTo ltb (revB R 0 n) n := by
  intro i j x y hij hj hx hy
  rw [revB_get R hn (Nat.zero_le _), if_pos ⟨Nat.zero_le _, by omega⟩] at hx
  rw [revB_get R hn (Nat.zero_le _), if_pos ⟨Nat.zero_le _, hj⟩] at hy
  exact h _ _ y x (by omega) (by omega) hy hx
end
section
variable {prog : Program} {w : World} {A : Around} {E : Value → Shared → Prop} {s : Shared} {ltb : Keyed → Keyed → Bool} {S : Keyed → Prop} {κ : SortKind}
/-- the array is P and a permutation of R -/
structure ZS (κ : SortKind) (st : SortSt) (P R : List Keyed) (st' : SortSt) (R' : List Keyed) : Prop where
  kind : kindOf st' = κ
  fail : failedOf st' = none
  pend : pendingOf st' = pendingOf st
  arr : (arrOf st').toList = P ++ R'
  perm : R'.Perm R
theorem ZS.rev {st st' : SortSt} {P R R' : List Keyed} (z : ZS κ st P R st' R') {i j : Nat} (hj : j ≤ R'.length) (hi : i ≤ j) : ZS κ st P R (setArr st' (mirror (arrOf st') (P.length + i) (P.length + j) ((P.length + j - (P.length + i)) / 2))) (revB R' i j) :=
  ⟨z.kind, z.fail, z.pend, mirror_list z.arr hj hi, (revB_perm R' hi).trans z.perm⟩
theorem ZS.at {st st' : SortSt} {P R R' : List Keyed} (z : ZS κ st P R st' R') (i : Nat) (hi : i < R'.length) : (arrOf st')[P.length + i]? = R'[i]? := at_seg (T := []) (by rw [List.append_nil]; exact z.arr) i hi
theorem ZS.ask (hO : LtOk prog w A E s ltb S κ) {st st' : SortSt} {P R R' : List Keyed} (z : ZS κ st P R st' R') (hS : ∀ x ∈ R, S x) {a b i j : Nat} (ea : a = P.length + i) (eb : b = P.length + j) (hi : i < R'.length) (hj : j < R'.length) {Q : Option Bool → SortSt → Prop} (q : ∀ x y, R'[i]? = some x → R'[j]? = some y → Q (some (ltb x y)) st') :
    wpS (model prog w) A E s (ltAt' a b) Q st' := by
  have m : ∀ x, x ∈ R' → S x := fun x hx => hS x (z.perm.mem_iff.mp hx)
  obtain ⟨x, hx⟩ : ∃ x, R'[i]? = some x := ⟨_, List.getElem?_eq_getElem hi⟩
  obtain ⟨y, hy⟩ : ∃ y, R'[j]? = some y := ⟨_, List.getElem?_eq_getElem hj⟩
  exact wpS_ltAtB hO z.kind (by rw [ea, z.at i hi]; exact hx) (by rw [eb, z.at j hj]; exact hy) (m x (List.mem_of_getElem? hx)) (m y (List.mem_of_getElem? hy)) (q x y hx hy)
theorem wpS_runB (O : OrdB ltb) (hO : LtOk prog w A E s ltb S κ) {st : SortSt} {Q : Option Nat → SortSt → Prop} {P R : List Keyed} (hk : kindOf st = κ) (hf : failedOf st = none) (harr : (arrOf st).toList = P ++ R) (hR : 1 ≤ R.length) (hS : ∀ x ∈ R, S x)
    (h : ∀ (st' : SortSt) (R' : List Keyed) (n : Nat), ZS κ st P R st' R' → 1 ≤ n → n ≤ R.length → RiseTo ltb R' n → Q (some n) st') : wpS (model prog w) A E s (countRun' P.length R.length) Q st := by
  have z0 : ZS κ st P R st R := ⟨hk, hf, rfl, harr, List.Perm.refl _⟩
  rw [countRun'_eq]
  refine wpS_bind (wpS_mono (wpS_forRange (I := fun x c st' => st' = st ∧ c = (none, x) ∧ RiseTo ltb R x ∧ x ≤ R.length)
    (Q := fun c st' => st' = st ∧ ∃ n, c = (none, n) ∧ 1 ≤ n ∧ n ≤ R.length ∧ RiseTo ltb R n ∧ (n < R.length → ∀ u v, R[n - 1]? = some u → R[n]? = some v → ltb v u = true)) ?stp ?fin ⟨rfl, rfl, fun i j x y hij hj => by omega, hR⟩) ?post)
  case fin =>
    rintro c st' ⟨rfl, rfl, a1, a2⟩
    exact ⟨rfl, _, rfl, by omega, a2, a1, fun q => by omega⟩
  case stp =>
    rintro x c st' hx1 hx2 ⟨est, rfl, a1, a2⟩
    rw [est]
    dsimp only
    refine wpS_bind (z0.ask hO hS (i := x) (j := x - 1) rfl (by omega) hx2 (by omega) fun v u hv hu => ?_)
    dsimp only
    cases hw : ltb v u with
    | true =>
      simp only [if_true]
      exact wpS_pure ⟨rfl, x, rfl, hx1, a2, a1, fun _ u' v' hu' hv' => by rw [hu] at hu'; rw [hv] at hv'; cases hu'; cases hv'; exact hw⟩
    | false =>
      simp only [Bool.false_eq_true, if_false]
      exact wpS_pure ⟨rfl, rfl, a1.more O hx1 hu hv hw, by omega⟩
  case post =>
    rintro c st' ⟨est, n, rfl, a1, a2, a3, a4⟩
    rw [est]
    dsimp only
    by_cases c1 : n = R.length
    · rw [if_pos (by simpa using c1)]
      exact wpS_pure (h st R n z0 a1 a2 a3)
    rw [if_neg (by simpa using c1)]
    have a4 := a4 (by omega)
    obtain ⟨u0, hu0⟩ : ∃ u, R[n - 1]? = some u := ⟨_, List.getElem?_eq_getElem (by omega)⟩
    obtain ⟨v0, hv0⟩ : ∃ v, R[n]? = some v := ⟨_, List.getElem?_eq_getElem (by omega)⟩
    have hw0 := a4 u0 v0 hu0 hv0
    by_cases c2 : n > 1
    · rw [if_pos c2]
      refine wpS_bind (z0.ask hO hS (i := 0) (j := n - 1) rfl (by omega) (by omega) (by omega) fun f l hf0 hl0 => ?_)
      rw [hu0] at hl0; cases hl0
      dsimp only
      cases hw1 : ltb f u0 with
      | true =>
        simp only [if_true]
        exact wpS_pure (h st R n z0 a1 a2 a3)
      | false =>
        simp only [Bool.false_eq_true, if_false]
        rw [reverseSlice'_eq]
        refine wpS_bind (wpS_modify ?_)
        have z1 := z0.rev (i := 0) (j := n) (by omega) (Nat.zero_le _)
        rw [Nat.add_zero] at z1
        have eq0 : EqSeg ltb R 0 n := fun i j x y _ i2 _ j2 hx hy => by
          have t1 : leB ltb x u0 := by
            by_cases e : i = n - 1
            · subst e; rw [hu0] at hx; cases hx; exact O.refl _
            · exact a3 i (n - 1) x u0 (by omega) (by omega) hx hu0
          have t2 : leB ltb f y := by
            by_cases e : j = 0
            · subst e; rw [hf0] at hy; cases hy; exact O.refl _
            · exact a3 0 j f y (by omega) j2 hf0 hy
          exact O.tr (O.tr t1 hw1) t2
        have f1 : FallTo ltb (revB R 0 n) (n + 1) := by
          have ff : FallTo ltb R n := fun i j x y hij hj hx hy => eq0 j i y x (by omega) hj (by omega) (by omega) hy hx
          have fr := ff.seg (a := 0) (by omega) (by omega) eq0
          obtain ⟨u2, hu2⟩ : ∃ u2, (revB R 0 n)[n - 1]? = some u2 := ⟨_, List.getElem?_eq_getElem (by rw [(revB_perm R (by omega)).length_eq]; omega)⟩
          have hu3 := hu2
          rw [revB_get R (by omega) (by omega), if_pos (by omega)] at hu3
          refine fr.more O (by omega) hu2 (by rw [revB_get R (by omega) (by omega), if_neg (by omega)]; exact hv0) (O.tr (O.asym hw0) (eq0 (n - 1) _ u0 u2 (by omega) (by omega) (by omega) (by omega) hu0 hu3))
        generalize setArr st (mirror (arrOf st) P.length (P.length + n) ((P.length + n - P.length) / 2)) = st1 at z1 ⊢
        generalize hR1 : revB R 0 n = R1 at z1 f1
        refine wpS_bind (wpS_lift (wpAny_rule ⟨rfl, ?_⟩))
        refine wpS_bind (wpS_mono (wpS_forRange (I := fun x c st' => ∃ R' q, c = (none, x, q) ∧ ZS κ st P R st' R' ∧ q + 1 ≤ x ∧ x ≤ R.length ∧ FallTo ltb R' x ∧ EqSeg ltb R' (x - (q + 1)) x)
          (Q := fun c st' => ∃ R' m q, c = (none, m, q) ∧ ZS κ st P R st' R' ∧ q + 1 ≤ m ∧ m ≤ R.length ∧ FallTo ltb R' m ∧ EqSeg ltb R' (m - (q + 1)) m) ?stp3 ?fin3 ⟨R1, 0, rfl, z1, by omega, by omega, f1, fun i j x y i1 i2 j1 j2 hx hy => by
            have e1 : i = j := by omega
            subst e1; rw [hx] at hy; cases hy; exact O.refl x⟩) ?post3)
        case fin3 =>
          rintro c st' ⟨R', q, rfl, b1, b2, b3, b4, b5⟩
          exact ⟨R', _, q, rfl, b1, b2, b3, b4, b5⟩
        case stp3 =>
          rintro x c st' hx1 hx2 ⟨R', q, rfl, b1, b2, b3, b4, b5⟩
          have hl := b1.perm.length_eq
          dsimp only
          refine wpS_bind (b1.ask hO hS (i := x) (j := x - 1) rfl (by omega) (by omega) (by omega) fun v u hv hu => ?_)
          dsimp only
          cases hw : ltb v u with
          | true =>
            simp only [if_true]
            by_cases c6 : q > 0
            · rw [if_pos c6, reverseSlice'_eq]
              refine wpS_bind (wpS_modify ?_)
              have zr := b1.rev (i := x - (q + 1)) (j := x) (by omega) (by omega)
              have fr := b4.seg (a := x - (q + 1)) (by omega) (by omega) b5
              have hv2 : (revB R' (x - (q + 1)) x)[x]? = some v := by rw [revB_get R' (by omega) (by omega), if_neg (by omega)]; exact hv
              obtain ⟨u2, hu2⟩ : ∃ u2, (revB R' (x - (q + 1)) x)[x - 1]? = some u2 := ⟨_, List.getElem?_eq_getElem (by rw [(revB_perm R' (by omega)).length_eq]; omega)⟩
              have hu3 := hu2
              rw [revB_get R' (by omega) (by omega), if_pos (by omega)] at hu3
              have cc : leB ltb v u2 := O.tr (O.asym hw) (b5 (x - 1) _ u u2 (by omega) (by omega) (by omega) (by omega) hu hu3)
              refine wpS_pure ⟨_, 0, rfl, ?_, by omega, by omega, fr.more O (by omega) hu2 hv2 cc, fun i j x y i1 i2 j1 j2 hx hy => by
                have e1 : i = j := by omega
                subst e1; rw [hx] at hy; cases hy; exact O.refl x⟩
              rw [show P.length + x - (q + 1) = P.length + (x - (q + 1)) by omega]
              exact zr
            · rw [if_neg c6]
              exact wpS_pure ⟨R', 0, rfl, b1, by omega, by omega, b4.more O (by omega) hu hv (O.asym hw), fun i j x y i1 i2 j1 j2 hx hy => by
                have e1 : i = j := by omega
                subst e1; rw [hx] at hy; cases hy; exact O.refl x⟩
          | false =>
            simp only [Bool.false_eq_true, if_false]
            refine wpS_bind (b1.ask hO hS (i := x - 1) (j := x) (by omega) rfl (by omega) (by omega) fun u' v' hu' hv' => ?_)
            rw [hu] at hu'; cases hu'
            rw [hv] at hv'; cases hv'
            dsimp only
            cases hw2 : ltb u v with
            | true =>
              simp only [if_true]
              exact wpS_pure ⟨R', x, q, rfl, b1, b2, b3, b4, b5⟩
            | false =>
              simp only [Bool.false_eq_true, if_false]
              refine wpS_pure ⟨R', q + 1, rfl, b1, by omega, by omega, b4.more O (by omega) hu hv hw2, fun i j p r i1 i2 j1 j2 hp hr => ?_⟩
              have toU : ∀ i p, x + 1 - (q + 1 + 1) ≤ i → i < x + 1 → R'[i]? = some p → leB ltb p u ∧ leB ltb u p := fun i p g1 g2 hp => by
                by_cases e : i = x
                · subst e; rw [hv] at hp; cases hp; exact ⟨hw2, hw⟩
                · exact ⟨b5 i (x - 1) p u (by omega) (by omega) (by omega) (by omega) hp hu, b5 (x - 1) i u p (by omega) (by omega) (by omega) (by omega) hu hp⟩
              exact O.tr (toU i p (by omega) i2 hp).1 (toU j r (by omega) j2 hr).2
        case post3 =>
          rintro c st3 ⟨R', m, q, rfl, b1, b2, b3, b4, b5⟩
          have hl := b1.perm.length_eq
          dsimp only
          by_cases c7 : q > 0
          · rw [if_pos c7, reverseSlice'_eq]
            refine wpS_bind (wpS_modify ?_)
            have zr := b1.rev (i := m - (q + 1)) (j := m) (by omega) (by omega)
            rw [show P.length + (m - (q + 1)) = P.length + m - (q + 1) by omega] at zr
            have fr := b4.seg (a := m - (q + 1)) (by omega) (by omega) b5
            have hl2 := zr.perm.length_eq
            generalize setArr st3 (mirror (arrOf st3) (P.length + m - (q + 1)) (P.length + m) ((P.length + m - (P.length + m - (q + 1))) / 2)) = st4 at zr ⊢
            generalize revB R' (m - (q + 1)) m = R4 at zr fr hl2
            rw [reverseSlice'_eq]
            refine wpS_bind (wpS_modify ?_)
            have z5 := zr.rev (i := 0) (j := m) (by omega) (Nat.zero_le _)
            rw [Nat.add_zero] at z5
            have r5 := fr.turn (by omega)
            generalize setArr st4 (mirror (arrOf st4) P.length (P.length + m) ((P.length + m - P.length) / 2)) = st5 at z5 ⊢
            refine wpS_bind (wpS_mono (wpS_forRange (I := fun x c st' => st' = st5 ∧ c = (none, x) ∧ RiseTo ltb (revB R4 0 m) x ∧ x ≤ R.length)
              (Q := fun c st' => st' = st5 ∧ ∃ n, c = (none, n) ∧ 1 ≤ n ∧ n ≤ R.length ∧ RiseTo ltb (revB R4 0 m) n) ?stp5 ?fin5 ⟨rfl, rfl, r5, by omega⟩) ?post5)
            case fin5 =>
              rintro c st' ⟨est, rfl, b1, b2⟩
              exact ⟨est, _, rfl, by omega, b2, b1⟩
            case post5 =>
              rintro c st' ⟨est, n5, rfl, b1, b2, b3⟩
              rw [est]
              exact wpS_pure (h _ _ n5 z5 b1 b2 b3)
            case stp5 =>
              rintro x c st' hx1 hx2 ⟨est, rfl, b1, b2⟩
              rw [est]
              dsimp only
              refine wpS_bind (z5.ask hO hS (i := x) (j := x - 1) rfl (by omega) (by rw [z5.perm.length_eq]; exact hx2) (by rw [z5.perm.length_eq]; omega) fun v u hv hu => ?_)
              dsimp only
              cases hw : ltb v u with
              | true =>
                simp only [if_true]
                exact wpS_pure ⟨rfl, x, rfl, by omega, b2, b1⟩
              | false =>
                simp only [Bool.false_eq_true, if_false]
                exact wpS_pure ⟨rfl, rfl, b1.more O (by omega) hu hv hw, by omega⟩
          · rw [if_neg c7, reverseSlice'_eq]
            refine wpS_bind (wpS_modify ?_)
            have z5 := b1.rev (i := 0) (j := m) (by omega) (Nat.zero_le _)
            rw [Nat.add_zero] at z5
            have r5 := b4.turn (by omega)
            generalize setArr st3 (mirror (arrOf st3) P.length (P.length + m) ((P.length + m - P.length) / 2)) = st5 at z5 ⊢
            refine wpS_bind (wpS_mono (wpS_forRange (I := fun x c st' => st' = st5 ∧ c = (none, x) ∧ RiseTo ltb (revB R' 0 m) x ∧ x ≤ R.length)
              (Q := fun c st' => st' = st5 ∧ ∃ n, c = (none, n) ∧ 1 ≤ n ∧ n ≤ R.length ∧ RiseTo ltb (revB R' 0 m) n) ?stp5 ?fin5 ⟨rfl, rfl, r5, by omega⟩) ?post5)
            case fin5 =>
              rintro c st' ⟨est, rfl, b1, b2⟩
              exact ⟨est, _, rfl, by omega, b2, b1⟩
            case post5 =>
              rintro c st' ⟨est, n5, rfl, b1, b2, b3⟩
              rw [est]
              exact wpS_pure (h _ _ n5 z5 b1 b2 b3)
            case stp5 =>
              rintro x c st' hx1 hx2 ⟨est, rfl, b1, b2⟩
              rw [est]
              dsimp only
              refine wpS_bind (z5.ask hO hS (i := x) (j := x - 1) rfl (by omega) (by rw [z5.perm.length_eq]; exact hx2) (by rw [z5.perm.length_eq]; omega) fun v u hv hu => ?_)
              dsimp only
              cases hw : ltb v u with
              | true =>
                simp only [if_true]
                exact wpS_pure ⟨rfl, x, rfl, by omega, b2, b1⟩
              | false =>
                simp only [Bool.false_eq_true, if_false]
                exact wpS_pure ⟨rfl, rfl, b1.more O (by omega) hu hv hw, by omega⟩
    · rw [if_neg c2]
      have e1 : n = 1 := by omega
      have f1 : FallTo ltb R (n + 1) := by
        have ff : FallTo ltb R n := fun i j x y hij hj hx hy => by omega
        exact ff.more O a1 hu0 hv0 (O.asym hw0)
      have z1 := z0
      have hR1 : ∃ R1, R1 = R := ⟨_, rfl⟩
      refine wpS_bind (wpS_lift (wpAny_rule ⟨rfl, ?_⟩))
      refine wpS_bind (wpS_mono (wpS_forRange (I := fun x c st' => ∃ R' q, c = (none, x, q) ∧ ZS κ st P R st' R' ∧ q + 1 ≤ x ∧ x ≤ R.length ∧ FallTo ltb R' x ∧ EqSeg ltb R' (x - (q + 1)) x)
        (Q := fun c st' => ∃ R' m q, c = (none, m, q) ∧ ZS κ st P R st' R' ∧ q + 1 ≤ m ∧ m ≤ R.length ∧ FallTo ltb R' m ∧ EqSeg ltb R' (m - (q + 1)) m) ?stp3 ?fin3 ⟨R, 0, rfl, z1, by omega, by omega, f1, fun i j x y i1 i2 j1 j2 hx hy => by
          have e1 : i = j := by omega
          subst e1; rw [hx] at hy; cases hy; exact O.refl x⟩) ?post3)
      case fin3 =>
        rintro c st' ⟨R', q, rfl, b1, b2, b3, b4, b5⟩
        exact ⟨R', _, q, rfl, b1, b2, b3, b4, b5⟩
      case stp3 =>
        rintro x c st' hx1 hx2 ⟨R', q, rfl, b1, b2, b3, b4, b5⟩
        have hl := b1.perm.length_eq
        dsimp only
        refine wpS_bind (b1.ask hO hS (i := x) (j := x - 1) rfl (by omega) (by omega) (by omega) fun v u hv hu => ?_)
        dsimp only
        cases hw : ltb v u with
        | true =>
          simp only [if_true]
          by_cases c6 : q > 0
          · rw [if_pos c6, reverseSlice'_eq]
            refine wpS_bind (wpS_modify ?_)
            have zr := b1.rev (i := x - (q + 1)) (j := x) (by omega) (by omega)
            have fr := b4.seg (a := x - (q + 1)) (by omega) (by omega) b5
            have hv2 : (revB R' (x - (q + 1)) x)[x]? = some v := by rw [revB_get R' (by omega) (by omega), if_neg (by omega)]; exact hv
            obtain ⟨u2, hu2⟩ : ∃ u2, (revB R' (x - (q + 1)) x)[x - 1]? = some u2 := ⟨_, List.getElem?_eq_getElem (by rw [(revB_perm R' (by omega)).length_eq]; omega)⟩
            have hu3 := hu2
            rw [revB_get R' (by omega) (by omega), if_pos (by omega)] at hu3
            have cc : leB ltb v u2 := O.tr (O.asym hw) (b5 (x - 1) _ u u2 (by omega) (by omega) (by omega) (by omega) hu hu3)
            refine wpS_pure ⟨_, 0, rfl, ?_, by omega, by omega, fr.more O (by omega) hu2 hv2 cc, fun i j x y i1 i2 j1 j2 hx hy => by
              have e1 : i = j := by omega
              subst e1; rw [hx] at hy; cases hy; exact O.refl x⟩
            rw [show P.length + x - (q + 1) = P.length + (x - (q + 1)) by omega]
            exact zr
          · rw [if_neg c6]
            exact wpS_pure ⟨R', 0, rfl, b1, by omega, by omega, b4.more O (by omega) hu hv (O.asym hw), fun i j x y i1 i2 j1 j2 hx hy => by
              have e1 : i = j := by omega
              subst e1; rw [hx] at hy; cases hy; exact O.refl x⟩
        | false =>
          simp only [Bool.false_eq_true, if_false]
          refine wpS_bind (b1.ask hO hS (i := x - 1) (j := x) (by omega) rfl (by omega) (by omega) fun u' v' hu' hv' => ?_)
          rw [hu] at hu'; cases hu'
          rw [hv] at hv'; cases hv'
          dsimp only
          cases hw2 : ltb u v with
          | true =>
            simp only [if_true]
            exact wpS_pure ⟨R', x, q, rfl, b1, b2, b3, b4, b5⟩
          | false =>
            simp only [Bool.false_eq_true, if_false]
            refine wpS_pure ⟨R', q + 1, rfl, b1, by omega, by omega, b4.more O (by omega) hu hv hw2, fun i j p r i1 i2 j1 j2 hp hr => ?_⟩
            have toU : ∀ i p, x + 1 - (q + 1 + 1) ≤ i → i < x + 1 → R'[i]? = some p → leB ltb p u ∧ leB ltb u p := fun i p g1 g2 hp => by
              by_cases e : i = x
              · subst e; rw [hv] at hp; cases hp; exact ⟨hw2, hw⟩
              · exact ⟨b5 i (x - 1) p u (by omega) (by omega) (by omega) (by omega) hp hu, b5 (x - 1) i u p (by omega) (by omega) (by omega) (by omega) hu hp⟩
            exact O.tr (toU i p (by omega) i2 hp).1 (toU j r (by omega) j2 hr).2
      case post3 =>
        rintro c st3 ⟨R', m, q, rfl, b1, b2, b3, b4, b5⟩
        have hl := b1.perm.length_eq
        dsimp only
        by_cases c7 : q > 0
        · rw [if_pos c7, reverseSlice'_eq]
          refine wpS_bind (wpS_modify ?_)
          have zr := b1.rev (i := m - (q + 1)) (j := m) (by omega) (by omega)
          rw [show P.length + (m - (q + 1)) = P.length + m - (q + 1) by omega] at zr
          have fr := b4.seg (a := m - (q + 1)) (by omega) (by omega) b5
          have hl2 := zr.perm.length_eq
          generalize setArr st3 (mirror (arrOf st3) (P.length + m - (q + 1)) (P.length + m) ((P.length + m - (P.length + m - (q + 1))) / 2)) = st4 at zr ⊢
          generalize revB R' (m - (q + 1)) m = R4 at zr fr hl2
          rw [reverseSlice'_eq]
          refine wpS_bind (wpS_modify ?_)
          have z5 := zr.rev (i := 0) (j := m) (by omega) (Nat.zero_le _)
          rw [Nat.add_zero] at z5
          have r5 := fr.turn (by omega)
          generalize setArr st4 (mirror (arrOf st4) P.length (P.length + m) ((P.length + m - P.length) / 2)) = st5 at z5 ⊢
          refine wpS_bind (wpS_mono (wpS_forRange (I := fun x c st' => st' = st5 ∧ c = (none, x) ∧ RiseTo ltb (revB R4 0 m) x ∧ x ≤ R.length)
            (Q := fun c st' => st' = st5 ∧ ∃ n, c = (none, n) ∧ 1 ≤ n ∧ n ≤ R.length ∧ RiseTo ltb (revB R4 0 m) n) ?stp5 ?fin5 ⟨rfl, rfl, r5, by omega⟩) ?post5)
          case fin5 =>
            rintro c st' ⟨est, rfl, b1, b2⟩
            exact ⟨est, _, rfl, by omega, b2, b1⟩
          case post5 =>
            rintro c st' ⟨est, n5, rfl, b1, b2, b3⟩
            rw [est]
            exact wpS_pure (h _ _ n5 z5 b1 b2 b3)
          case stp5 =>
            rintro x c st' hx1 hx2 ⟨est, rfl, b1, b2⟩
            rw [est]
            dsimp only
            refine wpS_bind (z5.ask hO hS (i := x) (j := x - 1) rfl (by omega) (by rw [z5.perm.length_eq]; exact hx2) (by rw [z5.perm.length_eq]; omega) fun v u hv hu => ?_)
            dsimp only
            cases hw : ltb v u with
            | true =>
              simp only [if_true]
              exact wpS_pure ⟨rfl, x, rfl, by omega, b2, b1⟩
            | false =>
              simp only [Bool.false_eq_true, if_false]
              exact wpS_pure ⟨rfl, rfl, b1.more O (by omega) hu hv hw, by omega⟩
        · rw [if_neg c7, reverseSlice'_eq]
          refine wpS_bind (wpS_modify ?_)
          have z5 := b1.rev (i := 0) (j := m) (by omega) (Nat.zero_le _)
          rw [Nat.add_zero] at z5
          have r5 := b4.turn (by omega)
          generalize setArr st3 (mirror (arrOf st3) P.length (P.length + m) ((P.length + m - P.length) / 2)) = st5 at z5 ⊢
          refine wpS_bind (wpS_mono (wpS_forRange (I := fun x c st' => st' = st5 ∧ c = (none, x) ∧ RiseTo ltb (revB R' 0 m) x ∧ x ≤ R.length)
            (Q := fun c st' => st' = st5 ∧ ∃ n, c = (none, n) ∧ 1 ≤ n ∧ n ≤ R.length ∧ RiseTo ltb (revB R' 0 m) n) ?stp5 ?fin5 ⟨rfl, rfl, r5, by omega⟩) ?post5)
          case fin5 =>
            rintro c st' ⟨est, rfl, b1, b2⟩
            exact ⟨est, _, rfl, by omega, b2, b1⟩
          case post5 =>
            rintro c st' ⟨est, n5, rfl, b1, b2, b3⟩
            rw [est]
            exact wpS_pure (h _ _ n5 z5 b1 b2 b3)
          case stp5 =>
            rintro x c st' hx1 hx2 ⟨est, rfl, b1, b2⟩
            rw [est]
            dsimp only
            refine wpS_bind (z5.ask hO hS (i := x) (j := x - 1) rfl (by omega) (by rw [z5.perm.length_eq]; exact hx2) (by rw [z5.perm.length_eq]; omega) fun v u hv hu => ?_)
            dsimp only
            cases hw : ltb v u with
            | true =>
              simp only [if_true]
              exact wpS_pure ⟨rfl, x, rfl, by omega, b2, b1⟩
            | false =>
              simp only [Bool.false_eq_true, if_false]
              exact wpS_pure ⟨rfl, rfl, b1.more O (by omega) hu hv hw, by omega⟩
end
end L2

/-! the runs that stand, and their merging -/
namespace L2
open PySem PySem.Spec PyProof.Rows
/-- the runs' places and lengths -/
def Offs : Nat → List (List Keyed) → List (Nat × Nat × Nat) → Prop
  | _, [], [] => True
  | o, r :: rs, p :: ps => p.1 = o ∧ p.2.1 = r.length ∧ Offs (o + r.length) rs ps
  | _, _, _ => False
theorem Offs.len : ∀ {o : Nat} {rs : List (List Keyed)} {ps : List (Nat × Nat × Nat)}, Offs o rs ps → rs.length = ps.length
  | _, [], [], _ => rfl
  | _, _ :: _, _ :: _, ⟨_, _, t⟩ => congrArg (· + 1) (Offs.len t)
theorem Offs.app : ∀ {o : Nat} {rs ts : List (List Keyed)} {ps qs : List (Nat × Nat × Nat)}, Offs o rs ps → Offs (o + rs.flatten.length) ts qs → Offs o (rs ++ ts) (ps ++ qs)
  | o, [], ts, [], qs, _, h => by simpa using h
  | o, r :: rs, ts, p :: ps, qs, ⟨a, b, t⟩, h => ⟨a, b, Offs.app t (by rw [List.flatten_cons, List.length_append] at h; rw [Nat.add_assoc]; exact h)⟩
theorem Offs.split : ∀ {o : Nat} {rs ts : List (List Keyed)} {ps : List (Nat × Nat × Nat)}, Offs o (rs ++ ts) ps → ∃ p1 p2, ps = p1 ++ p2 ∧ p1.length = rs.length ∧ Offs o rs p1 ∧ Offs (o + rs.flatten.length) ts p2
  | o, [], ts, ps, h => ⟨[], ps, rfl, rfl, trivial, by simpa using h⟩
  | o, r :: rs, ts, [], h => h.elim
  | o, r :: rs, ts, p :: ps, ⟨a, b, t⟩ => by
    obtain ⟨p1, p2, rfl, e, f, g⟩ := Offs.split t
    exact ⟨p :: p1, p2, rfl, congrArg (· + 1) e, ⟨a, b, f⟩, by rw [List.flatten_cons, List.length_append, ← Nat.add_assoc]; exact g⟩
section
variable {ltb : Keyed → Keyed → Bool} {κ : SortKind}
/-- runs that rise, one behind the other, then what is left -/
structure RI (ltb : Keyed → Keyed → Bool) (κ : SortKind) (a0 : List Keyed) (st : SortSt) (rs : List (List Keyed)) (U : List Keyed) : Prop where
  kind : kindOf st = κ
  fail : failedOf st = none
  arr : (arrOf st).toList = rs.flatten ++ U
  perm : (arrOf st).toList.Perm a0
  offs : Offs 0 rs (pendingOf st).toList
  rise : ∀ r ∈ rs, r.Pairwise (leB ltb) ∧ r ≠ []
theorem flat_len : ∀ {rs : List (List Keyed)}, (∀ r ∈ rs, r ≠ []) → rs.length ≤ rs.flatten.length
  | [], _ => Nat.le_refl _
  | r :: rs, h => by
    have := flat_len (rs := rs) fun x hx => h x (List.mem_cons_of_mem _ hx)
    have l := List.length_pos_iff.mpr (h r List.mem_cons_self)
    rw [List.flatten_cons, List.length_append, List.length_cons]; omega
end
section
variable {prog : Program} {w : World} {A : Around} {E : Value → Shared → Prop} {s : Shared} {ltb : Keyed → Keyed → Bool} {S : Keyed → Prop} {κ : SortKind}
theorem two_at {α : Type} {l : List α} {i : Nat} (h : i + 1 < l.length) : ∃ pre x y post, l = pre ++ [x, y] ++ post ∧ pre.length = i := by
  refine ⟨l.take i, l[i], l[i + 1], l.drop (i + 2), ?_, by rw [List.length_take]; omega⟩
  have e1 := List.drop_eq_getElem_cons (show i < l.length by omega)
  have e2 := List.drop_eq_getElem_cons h
  conv => lhs; rw [← List.take_append_drop i l, e1, e2]
  simp
theorem wpS_mergeR (O : OrdB ltb) (hO : LtOk prog w A E s ltb S κ) {st : SortSt} {Q : Bool → SortSt → Prop} {a0 : List Keyed} {rs : List (List Keyed)} {U : List Keyed} {i : Nat} (hS : ∀ x ∈ a0, S x) (ri : RI ltb κ a0 st rs U) (hi : i + 1 < rs.length)
    (h : ∀ st' rs', RI ltb κ a0 st' rs' U → rs'.length + 1 = rs.length → rs'.flatten.length = rs.flatten.length → Q true st') : wpS (model prog w) A E s (mergeAt' i) Q st := by
  obtain ⟨pre, r1, r2, post, rfl, hpre⟩ := two_at hi
  have off := ri.offs
  rw [List.append_assoc] at off
  obtain ⟨p1, p2, ep, lp, o1, o2⟩ := off.split
  cases p2 with
  | nil => exact o2.elim
  | cons x p2 =>
    cases p2 with
    | nil => exact o2.2.2.elim
    | cons y p3 =>
      obtain ⟨x1, x2, y1, y2, o3⟩ := o2
      obtain ⟨ba, ka, pw⟩ := x
      obtain ⟨bb, kb, pv⟩ := y
      dsimp only at x1 x2 y1 y2
      have lp' : p1.length = i := by omega
      have g1 : (pendingOf st)[i]? = some (ba, ka, pw) := by
        rw [← Array.getElem?_toList, ep, List.getElem?_append_right (by omega), lp', Nat.sub_self]; rfl
      have g2 : (pendingOf st)[i + 1]? = some (bb, kb, pv) := by
        rw [← Array.getElem?_toList, ep, List.getElem?_append_right (by omega), lp', Nat.add_sub_cancel_left]; rfl
      have q1 := ri.rise r1 (by simp)
      have q2 := ri.rise r2 (by simp)
      refine wpS_mergeAt O hO (P := pre.flatten) (R1 := r1) (R2 := r2) (T := post.flatten ++ U) ri.kind ri.fail g1 g2 (by rw [ri.arr]; simp) (by omega) x2 (by omega) y2 q1.2 q2.2 q1.1 q2.1 (fun x hx => hS x (ri.perm.mem_iff.mp hx)) fun st' R s1 s2 s3 s4 s5 s6 => ?_
      have lR : R.length = r1.length + r2.length := by rw [s2.length_eq, List.length_append]
      refine h st' (pre ++ [R] ++ post) ⟨s4, s5, by rw [s3]; simp, ?_, ?_, ?_⟩ (by simp; omega) (by simp [lR]; omega)
      · rw [s3]
        refine List.Perm.trans ?_ ri.perm
        rw [ri.arr]
        have : (pre.flatten ++ R ++ (post.flatten ++ U)).Perm (pre.flatten ++ (r1 ++ r2) ++ (post.flatten ++ U)) := List.Perm.append_right _ (List.Perm.append_left _ s2)
        refine this.trans (List.Perm.of_eq (by simp))
      · have e6 : (pendingOf st').toList = p1 ++ ((ba, ka + kb, pw) :: p3) := by
          rw [s6, Array.toList_eraseIdxIfInBounds, Array.toList_setIfInBounds, ep]
          rw [List.set_append_right _ _ (by omega), lp', Nat.sub_self]
          rw [List.eraseIdx_append_of_length_le (by omega), lp', Nat.add_sub_cancel_left]
          rfl
        rw [e6, List.append_assoc]
        refine Offs.app o1 ⟨x1, by show ka + kb = R.length; omega, ?_⟩
        have e7 : 0 + pre.flatten.length + R.length = 0 + pre.flatten.length + r1.length + r2.length := by omega
        rw [e7]; exact o3
      · intro r hr
        rcases List.mem_append.mp hr with z | z
        · rcases List.mem_append.mp z with z | z
          · exact ri.rise r (by simp [z])
          · simp at z
            rw [z]
            refine ⟨s1, fun e => ?_⟩
            rw [e] at lR
            have := List.length_pos_iff.mpr q1.2
            simp at lR; omega
        · exact ri.rise r (by simp [z])
end
end L2

/-! the whole of it -/
namespace L2
open PySem PySem.Spec PyProof.Rows
theorem Offs.mod {f : Nat × Nat × Nat → Nat × Nat × Nat} (hf : ∀ p, (f p).1 = p.1 ∧ (f p).2.1 = p.2.1) : ∀ {o : Nat} {rs : List (List Keyed)} {ps : List (Nat × Nat × Nat)} (k : Nat), Offs o rs ps → Offs o rs (ps.modify k f)
  | _, [], [], k, _ => by cases k <;> exact trivial
  | o, r :: rs, p :: ps, 0, ⟨a, b, t⟩ => ⟨(hf p).1.trans a, (hf p).2.trans b, t⟩
  | o, r :: rs, p :: ps, k + 1, ⟨a, b, t⟩ => ⟨a, b, Offs.mod hf k t⟩
section
variable {ltb : Keyed → Keyed → Bool} {κ : SortKind} {a0 : List Keyed} {st : SortSt} {rs : List (List Keyed)}
theorem RI.push {run U2 : List Keyed} {lo n : Nat} (ri : RI ltb κ a0 st rs (run ++ U2)) (h1 : run.Pairwise (leB ltb)) (h2 : run ≠ []) (el : lo = rs.flatten.length) (en : n = run.length) : RI ltb κ a0 (setPending st ((pendingOf st).push (lo, n, 0))) (rs ++ [run]) U2 := by
  refine ⟨ri.kind, ri.fail, by show (arrOf st).toList = _; rw [ri.arr]; simp, ri.perm, ?_, fun r hr => ?_⟩
  · show Offs 0 _ ((pendingOf st).push _).toList
    rw [Array.toList_push]
    exact Offs.app ri.offs ⟨by show lo = 0 + _; omega, en, trivial⟩
  · rcases List.mem_append.mp hr with z | z
    · exact ri.rise r z
    · simp at z; rw [z]; exact ⟨h1, h2⟩
theorem RI.mod {U : List Keyed} (ri : RI ltb κ a0 st rs U) (pw k : Nat) : RI ltb κ a0 (setPending st ((pendingOf st).modify k fun q => (q.1, q.2.1, pw))) rs U :=
  ⟨ri.kind, ri.fail, ri.arr, ri.perm, by
    show Offs 0 rs ((pendingOf st).modify k _).toList
    rw [Array.toList_modify]
    exact Offs.mod (f := fun q => (q.1, q.2.1, pw)) (fun p => ⟨rfl, rfl⟩) k ri.offs, ri.rise⟩
end
theorem flat_snoc (rs : List (List Keyed)) (r : List Keyed) : (rs ++ [r]).flatten.length = rs.flatten.length + r.length := by simp
theorem rise_all {ltb : Keyed → Keyed → Bool} {R : List Keyed} (h : RiseTo ltb R R.length) : R.Pairwise (leB ltb) := by
  rw [List.pairwise_iff_getElem]
  intro i j hi hj hij
  exact h i j _ _ hij hj (List.getElem?_eq_getElem hi) (List.getElem?_eq_getElem hj)
theorem rise_take {ltb : Keyed → Keyed → Bool} {R : List Keyed} {n : Nat} (h : RiseTo ltb R n) (hn : n ≤ R.length) : (R.take n).Pairwise (leB ltb) := by
  apply rise_all
  intro i j x y hij hj hx hy
  rw [List.length_take] at hj
  rw [List.getElem?_take, if_pos (by omega)] at hx hy
  exact h i j x y hij (by omega) hx hy
theorem minRun_pos : ∀ (f n r : Nat), 1 ≤ n → 1 ≤ minRun' f n r
  | 0, n, r, h => by show 1 ≤ n + r; omega
  | f + 1, n, r, h => by
    rw [minRun'_succ]
    split
    · omega
    · exact minRun_pos f (n / 2) _ (by omega)
section
variable {prog : Program} {w : World} {A : Around} {E : Value → Shared → Prop} {s : Shared} {ltb : Keyed → Keyed → Bool} {S : Keyed → Prop} {κ : SortKind}
theorem wpS_sortB (O : OrdB ltb) (hO : LtOk prog w A E s ltb S κ) {st : SortSt} {Q : Unit → SortSt → Prop} {a0 : List Keyed} (hk : kindOf st = κ) (hf : failedOf st = none) (harr : (arrOf st).toList = a0) (hp : pendingOf st = #[]) (hS : ∀ x ∈ a0, S x)
    (h : ∀ st', (arrOf st').toList.Perm a0 → (arrOf st').toList.Pairwise (leB ltb) → failedOf st' = none → Q () st') : wpS (model prog w) A E s sortRuns' Q st := by
  have hN : (arrOf st).size = a0.length := by rw [← harr, Array.length_toList]
  rw [sortRuns'_eq]
  refine wpS_bind (wpS_get ?_)
  dsimp only
  rw [hN]
  have ri0 : RI ltb κ a0 st [] a0 := ⟨hk, hf, by rw [harr]; rfl, by rw [harr], by rw [hp]; exact trivial, fun r hr => by cases hr⟩
  have split : ∀ {st' rs U}, RI ltb κ a0 st' rs U → rs.flatten.length + U.length = a0.length := fun {st' rs U} ri => by
    have := ri.perm.length_eq
    rw [ri.arr, List.length_append] at this; exact this
  refine wpS_bind (wpS_mono (wpS_forRange (I := fun x c st' => ∃ rs U, c = (none, rs.flatten.length) ∧ RI ltb κ a0 st' rs U ∧ x ≤ rs.flatten.length)
    (Q := fun c st' => ∃ rs, c = (none, a0.length) ∧ RI ltb κ a0 st' rs [] ∧ rs.flatten.length = a0.length) ?stp ?fin ⟨[], a0, rfl, ri0, Nat.zero_le _⟩) ?post)
  case fin =>
    rintro c st' ⟨rs, U, rfl, ri, hx⟩
    have := split ri
    have hU : U = [] := List.length_eq_zero_iff.mp (by omega)
    subst hU
    refine ⟨rs, ?_, ri, by omega⟩
    rw [show rs.flatten.length = a0.length by omega]
  case post =>
    rintro c st1 ⟨rs, rfl, ri, hfl⟩
    dsimp only
    have hrl := flat_len (rs := rs) fun r hr => (ri.rise r hr).2
    refine wpS_bind (wpS_mono (wpS_forRange (I := fun x c st' => ∃ rs, c = (none, ()) ∧ RI ltb κ a0 st' rs [] ∧ rs.length + x ≤ a0.length)
      (Q := fun c st' => ∃ rs, c = (none, ()) ∧ RI ltb κ a0 st' rs [] ∧ rs.length ≤ 1) ?stp9 ?fin9 ⟨rs, rfl, ri, by omega⟩) ?post9)
    case fin9 =>
      rintro c st' ⟨rs, rfl, ri, hx⟩
      exact ⟨rs, rfl, ri, by omega⟩
    case post9 =>
      rintro c st' ⟨rs, rfl, ri, hl⟩
      refine wpS_pure (h st' ri.perm ?_ ri.fail)
      rw [ri.arr, List.append_nil]
      cases rs with
      | nil => exact List.Pairwise.nil
      | cons r rs =>
        have : rs = [] := by simp at hl; exact hl
        subst this
        simp
        exact (ri.rise r (by simp)).1
    case stp9 =>
      rintro x c st' _ hx ⟨rs, rfl, ri, hl⟩
      have hpl : (pendingOf st').size = rs.length := by rw [← Array.length_toList, ← ri.offs.len]
      refine wpS_bind (wpS_get ?_)
      try dsimp only
      by_cases c1 : (pendingOf st').size ≤ 1
      · rw [if_pos c1]
        exact wpS_pure ⟨rs, rfl, ri, by omega⟩
      rw [if_neg c1]
      refine wpS_bind (wpS_mergeR O hO hS ri ?_ fun st2 rs2 ri2 e1 e2 => ?_)
      · (repeat' split) <;> omega
      · simp only [Bool.not_true, Bool.false_eq_true, if_false]
        exact wpS_pure ⟨rs2, rfl, ri2, by omega⟩
  case stp =>
    rintro x c st1 _ hx ⟨rs, U, rfl, ri, hxl⟩
    have hsp := split ri
    dsimp only
    by_cases c1 : rs.flatten.length ≥ a0.length
    · rw [if_pos c1]
      have hU : U = [] := List.length_eq_zero_iff.mp (by omega)
      subst hU
      refine wpS_pure ⟨rs, ?_, ri, by omega⟩
      rw [show rs.flatten.length = a0.length by omega]
    rw [if_neg c1, show a0.length - rs.flatten.length = U.length by omega]
    have hSU : ∀ x ∈ U, S x := fun x hx => hS x (ri.perm.mem_iff.mp (by rw [ri.arr]; exact List.mem_append_right _ hx))
    refine wpS_bind (wpS_runB O hO (P := rs.flatten) (R := U) ri.kind ri.fail ri.arr (by omega) hSU fun st2 R' n z n1 n2 rise => ?_)
    have lR' := z.perm.length_eq
    dsimp only
    by_cases c2 : n < minRun' a0.length a0.length 0
    · rw [if_pos c2]
      refine wpS_bind (wpS_lift (wpAny_rule ⟨rfl, ?_⟩))
      have mp := minRun_pos a0.length a0.length 0 (by omega)
      generalize minRun' a0.length a0.length 0 = mr at c2 mp
      obtain ⟨fo, efo⟩ : ∃ fo, min U.length mr = fo := ⟨_, rfl⟩
      rw [efo]
      have lT : (R'.take fo).length = fo := by rw [List.length_take]; omega
      rw [show binarySort' rs.flatten.length fo n = binarySort' rs.flatten.length (R'.take fo).length n by rw [lT]]
      refine wpS_bind (wpS_binB O hO (P := rs.flatten) (R := R'.take fo) (T := R'.drop fo) z.kind z.fail (by rw [z.arr, List.append_assoc, List.take_append_drop]) (by omega) (fun i j x y hij hj hx hy => by
          rw [List.getElem?_take, if_pos (by omega)] at hx hy
          exact rise i j x y hij hj hx hy) (fun x hx => hSU x (z.perm.mem_iff.mp (List.mem_of_mem_take hx))) fun st3 R3 a1 a2 a3 a4 a5 a6 => ?_)
      simp only [Bool.not_true, Bool.false_eq_true, if_false]
      have l3 : R3.length = fo := by rw [a2.length_eq, lT]
      have r1 := rise_all a3
      have r2 : R3 ≠ [] := fun e => by rw [e] at l3; simp at l3; omega
      have rj : RI ltb κ a0 st3 rs (R3 ++ R'.drop fo) := ⟨a4, a5, by rw [a1, List.append_assoc], by
        rw [a1]
        refine List.Perm.trans ?_ ri.perm
        rw [ri.arr, List.append_assoc]
        refine List.Perm.append_left _ ((List.Perm.append_right _ a2).trans ?_)
        rw [List.take_append_drop]; exact z.perm, by rw [a6, z.pend]; exact ri.offs, ri.rise⟩
      refine wpS_bind (wpS_get ?_)
      cases hb : (pendingOf st3).back? with
      | none =>
        dsimp only
        refine wpS_bind (wpS_modify (wpS_pure ⟨rs ++ [R3], R'.drop fo, ?_, rj.push r1 r2 rfl l3.symm, ?_⟩))
        · simp [l3]
        · have := List.length_pos_iff.mpr r2
          rw [flat_snoc]; omega
      | some t =>
        obtain ⟨s1, k1, p1⟩ := t
        dsimp only
        refine wpS_bind (wpS_mono (wpS_forRange (I := fun x c st' => ∃ rs', c = (none, ()) ∧ RI ltb κ a0 st' rs' (R3 ++ R'.drop fo) ∧ rs'.flatten.length = rs.flatten.length)
          (Q := fun c st' => ∃ rs', c = (none, ()) ∧ RI ltb κ a0 st' rs' (R3 ++ R'.drop fo) ∧ rs'.flatten.length = rs.flatten.length) ?stp7 ?fin7 ⟨rs, rfl, rj, rfl⟩) ?post7)
        case fin7 =>
          rintro c st' hh
          exact hh
        case post7 =>
          rintro c st4 ⟨rs', rfl, rk, ef⟩
          dsimp only
          refine wpS_bind (wpS_modify (wpS_bind (wpS_modify (wpS_pure ⟨rs' ++ [R3], R'.drop fo, ?_, (rk.mod _ _).push r1 r2 ef.symm l3.symm, ?_⟩))))
          · simp [l3, ef]
          · have := List.length_pos_iff.mpr r2
            rw [flat_snoc]; omega
        case stp7 =>
          rintro x c st4 _ hx ⟨rs', rfl, rk, ef⟩
          have hpl : (pendingOf st4).size = rs'.length := by rw [← Array.length_toList, ← rk.offs.len]
          refine wpS_bind (wpS_get ?_)
          try dsimp only
          by_cases c5 : (pendingOf st4).size > 1
          · rw [if_pos c5]
            cases hq : (pendingOf st4)[(pendingOf st4).size - 2]? with
            | none => exact wpS_pure ⟨rs', rfl, rk, ef⟩
            | some t =>
              obtain ⟨t1, t2, t3⟩ := t
              dsimp only
              split
              · exact wpS_pure ⟨rs', rfl, rk, ef⟩
              · refine wpS_bind (wpS_mergeR O hO hS rk (by omega) fun st5 rs5 r5 e1 e2 => ?_)
                simp only [Bool.not_true, Bool.false_eq_true, if_false]
                exact wpS_pure ⟨rs5, rfl, r5, by omega⟩
          · rw [if_neg c5]
            exact wpS_pure ⟨rs', rfl, rk, ef⟩
    · rw [if_neg c2]
      have lT : (R'.take n).length = n := by rw [List.length_take]; omega
      have r1 := rise_take rise (by omega)
      have r2 : R'.take n ≠ [] := fun e => by rw [e] at lT; simp at lT; omega
      have rj : RI ltb κ a0 st2 rs (R'.take n ++ R'.drop n) := ⟨z.kind, z.fail, by rw [z.arr, List.take_append_drop], by
        rw [z.arr]
        refine List.Perm.trans ?_ ri.perm
        rw [ri.arr]
        exact List.Perm.append_left _ z.perm, by rw [z.pend]; exact ri.offs, ri.rise⟩
      refine wpS_bind (wpS_get ?_)
      cases hb : (pendingOf st2).back? with
      | none =>
        dsimp only
        refine wpS_bind (wpS_modify (wpS_pure ⟨rs ++ [R'.take n], R'.drop n, ?_, rj.push r1 r2 rfl lT.symm, ?_⟩))
        · simp [lT]
        · have := List.length_pos_iff.mpr r2
          rw [flat_snoc]; omega
      | some t =>
        obtain ⟨s1, k1, p1⟩ := t
        dsimp only
        refine wpS_bind (wpS_mono (wpS_forRange (I := fun x c st' => ∃ rs', c = (none, ()) ∧ RI ltb κ a0 st' rs' (R'.take n ++ R'.drop n) ∧ rs'.flatten.length = rs.flatten.length)
          (Q := fun c st' => ∃ rs', c = (none, ()) ∧ RI ltb κ a0 st' rs' (R'.take n ++ R'.drop n) ∧ rs'.flatten.length = rs.flatten.length) ?stp7 ?fin7 ⟨rs, rfl, rj, rfl⟩) ?post7)
        case fin7 =>
          rintro c st' hh
          exact hh
        case post7 =>
          rintro c st4 ⟨rs', rfl, rk, ef⟩
          dsimp only
          refine wpS_bind (wpS_modify (wpS_bind (wpS_modify (wpS_pure ⟨rs' ++ [R'.take n], R'.drop n, ?_, (rk.mod _ _).push r1 r2 ef.symm lT.symm, ?_⟩))))
          · simp [lT, ef]
          · have := List.length_pos_iff.mpr r2
            rw [flat_snoc]; omega
        case stp7 =>
          rintro x c st4 _ hx ⟨rs', rfl, rk, ef⟩
          have hpl : (pendingOf st4).size = rs'.length := by rw [← Array.length_toList, ← rk.offs.len]
          refine wpS_bind (wpS_get ?_)
          try dsimp only
          by_cases c5 : (pendingOf st4).size > 1
          · rw [if_pos c5]
            cases hq : (pendingOf st4)[(pendingOf st4).size - 2]? with
            | none => exact wpS_pure ⟨rs', rfl, rk, ef⟩
            | some t =>
              obtain ⟨t1, t2, t3⟩ := t
              dsimp only
              split
              · exact wpS_pure ⟨rs', rfl, rk, ef⟩
              · refine wpS_bind (wpS_mergeR O hO hS rk (by omega) fun st5 rs5 r5 e1 e2 => ?_)
                simp only [Bool.not_true, Bool.false_eq_true, if_false]
                exact wpS_pure ⟨rs5, rfl, r5, by omega⟩
          · rw [if_neg c5]
            exact wpS_pure ⟨rs', rfl, rk, ef⟩
end
end L2

/-! sorted of a list of ints of any length -/
namespace L2
open PySem PySem.Spec PyProof.Rows
def ltI (x y : Keyed) : Bool := decide (numOf x.1 < numOf y.1)
def isI (x : Keyed) : Prop := ∃ n t, x.1 = Value.int n t
section
variable {prog : Program} {w : World} {A : Around} {E : Value → Shared → Prop} {s : Shared}
end
section
variable {X : Cx}
/-- sorted(xs) of a list of ints -/
def rSortL (K : PySem.W.Frag) : List V → Hp → VK → Prop := fun xs H Q => ∃ a ns, xs = [.ref a] ∧ SqL K H a (List.map V.int ns) ∧ ns.length ≤ 100000 ∧ ∀ ms l, ms.Perm ns → ms.Pairwise (· ≤ ·) → H l = none → Q (.ref l) (upd H l (.lst (List.map V.int ms)))
end
end L2

/-! What is never reached; list(x) within a block; zip of two lists. -/
namespace L2
open PySem PySem.Spec PyProof.Rows
/-- a statement that is never reached -/
def tDead : TS := fun _ _ _ => False
section
variable {X : Cx} {K : PySem.W.Frag}
def rListOf (K : PySem.W.Frag) : List V → Hp → VK → Prop := fun xs H Q => ∃ p ys, xs = [.ref p] ∧ (SqL K H p ys ∨ SqT K H p ys) ∧ ∀ l, H l = none → Q (.ref l) (upd H l (.lst ys))
theorem call_list_ofK (h : X.K = K) : CallR X (.type "list") (rListOf K) := by subst h; exact call_list_of
end
section
variable {X : Cx} {K : PySem.W.Frag} {pos : Pos}
theorem pg_tupK {es : List Expr} {k : Nat} {t : TGs} {n : Nat} (h : X.K = K) (hc : X.calm = true) (hp : PGs X es t)
    (hn : (assignEach es X.env).length = n := by rfl) (hst : (assignEach es X.env).findIdx? (·.1) = none := by rfl) : PG X (.Tuple es k pos) (gTup K n t) := by subst h; exact pg_tup hc hp hn hst
end
theorem rd_listOf {K : PySem.W.Frag} {H : Hp} {Q : VK} {a : Addr} {xs : List V} (h : SqL K H a xs) (q : ∀ l, H l = none → Q (.ref l) (upd H l (.lst xs))) : rListOf K [.ref a] H Q := ⟨a, xs, rfl, .inl h, q⟩
theorem rd_aug {i : Nat} {te : TE} {ti : TIp} {D : Ends} {σ : St} {H : Hp} {x : V} (h : σ[i]? = some (some x)) (q : te σ H fun y H1 => ti x y H1 fun z H2 => D.nx (σ.set i (some z)) H2) : tAug i te ti D σ H := ⟨x, h, q⟩
section
variable {σ : St} {H : Hp} {Q : VK} {D : Ends}
end
/-- the pairs of the items of two lists -/
def Itz (K : PySem.W.Frag) (a b : Addr) : It :=
  ⟨fun i H => ∃ xs x ys y, SqL K H a xs ∧ xs[i]? = some x ∧ SqL K H b ys ∧ ys[i]? = some y,
   fun i H x H' => ∃ t u v, H t = none ∧ H' = upd H t (.tup [u, v]) ∧ x = .ref t ∧ (∀ xs, SqL K H a xs → xs[i]? = some u) ∧ (∀ ys, SqL K H b ys → ys[i]? = some v),
   fun i H => ∃ xs ys, SqL K H a xs ∧ SqL K H b ys ∧ (xs.length ≤ i ∨ ys.length ≤ i)⟩
section
variable {X : Cx} {elts : List Expr} {x1 : _} {tpos : Pos}
def iZip (K : PySem.W.Frag) (ta : TA) : TI := fun σ H R => ta σ H fun vs H1 => ∃ a b, vs = [.ref a, .ref b] ∧ (∃ xs, SqL K H1 a xs) ∧ (∃ ys, SqL K H1 b ys) ∧ R (Itz K a b) H1
end
section
variable {K : PySem.W.Frag} {H : Hp} {Q : VK} {σ : St}
end
end L2

/-! sorted(xs, key=f) of a list of ints, f a function that tells ints -/
namespace L2
open PySem PySem.Spec PyProof.Rows
section
variable {X : Cx} {pins : List (Addr × Obj)} {σ : St} {H : Hp} {s : Shared} {h' : Heap}
variable {A : Around} {E : Value → Shared → Prop}
end
section
variable {prog : Program} {w : World} {A : Around} {E : Value → Shared → Prop} {s : Shared}
end
section
variable {X : Cx} {pins : List (Addr × Obj)} {σ : St} {H : Hp} {s : Shared} {E : Value → Shared → Prop}
end
section
variable {X : Cx} {e : Expr} {t : TA} {y : Str} {ps : List Str} {k : Nat} {sp : Sp} {p p2 kpos pos : Pos}
def tSortK (K : PySem.W.Frag) (sp : Sp) (t : TA) : TE := fun σ H Q => t σ H fun vs H1 => ∃ (a : Addr) (ns : List Int) (κ : Int → Int), vs = [.ref a] ∧ (SqL K H1 a (ns.map V.int) ∨ ∃ j : Int, H1 a = some (.rng 0 j) ∧ 0 ≤ j ∧ ns = upN j.toNat) ∧ ns.length ≤ 100000 ∧
  (∀ z ∈ ns, ∀ R : VK, R (.int (κ z)) H1 → sp [.int z] H1 R E0) ∧ ∀ (ms : List Int) (l : Addr), ms.Perm ns → ms.Pairwise (fun x y => κ x ≤ κ y) → H1 l = none → Q (.ref l) (upd H1 l (.lst (ms.map V.int)))
end
section
variable {X : Cx}
/-- xs += ys: the left one is written -/
def ipCat : TIp := fun x y H Q => ∃ l b xs zs, x = .ref l ∧ y = .ref b ∧ H l = some (.lst xs) ∧ H b = some (.lst zs) ∧ xs.length + zs.length ≤ sizeLine ∧ Q (.ref l) (upd H l (.lst (xs ++ zs)))
/-- x is True, x is False -/
def rIsB : R2 := fun x y H Q => ∃ a b, x = .bl a ∧ y = .bl b ∧ Q (.bl (decide (a = b))) H
end
end L2

/-! a lambda within a def: made, called; its code's place in the def's table -/
namespace L2
open PySem PySem.Spec PyProof.Rows

/-- the code that was made of a lambda, at its place -/
def CodeO (c : Addr) (qual : Str) : HO := .ext fun h => h.CodeRec (.ref c) qual
/-- a function made in a def -/
def FnO (f : Addr) (o : Obj) : HO := .ext fun h => h.get? f = some o
/-- the def's table: the lambda at pos wasn't made yet, or its code stands at a tracked place -/
def Tb (P : Addr) (pos : Pos) (qual : Str) (H : Hp) : Prop :=
  ∃ ps : Array Value, H P = some (.tbl ps) ∧ TriplesOk ps.toList ∧ (codeAmong pos ps.toList = none ∨ ∃ c, codeAmong pos ps.toList = some (.ref c) ∧ H c = some (CodeO c qual))
/-- all that was tracked is as it was, tables apart -/
structure Sm (H H' : Hp) : Prop where
  nt : ∀ b o, H b = some o → (∀ ps, o ≠ .tbl ps) → H' b = some o
  tb : ∀ b ps, H b = some (.tbl ps) → ∃ ps', H' b = some (.tbl ps')
/-- the module of the built-in names, as the top leaves it -/
def BM (mg : Str → Option Value) (base : Heap) : Prop := ∃ bm o, mg "__builtins__" = some (.ref bm) ∧ bm ≠ builtinsNs ∧ base.get? bm = some o ∧ o.cls = .type "module" ∧ o.dict = some builtinsNs ∧ o.data = .plain
/-- the table of the def's code -/
def tbP (K : PySem.W.Frag) (x : Str) : Addr := match PySem.W.tabIn K x with
  | some (_, P) => P
  | none => 0
/-- what a def with a lambda leans on -/
structure Lam (K : PySem.W.Frag) (mg : Str → Option Value) (base : Heap) (x : Str) (f : Addr) (fd : FuncData) : Prop where
  bm : BM mg base
  code : ∃ c, fd.code = .ref c ∧ PySem.W.codeHdIn K c (tbP K x) = true
def tbC (K : PySem.W.Frag) (x : Str) : Addr := match PySem.W.tabIn K x with
  | some (c, _) => c
  | none => 0
section
variable {X : Cx} {pins : List (Addr × Obj)} {σ : St} {H : Hp} {s : Shared}
/-- a made function -/
abbrev lamObj (X : Cx) (params : Arguments) (body : Expr) (scope : Scope) (c : Addr) (ctv : Value) : Obj :=
  { cls := .type "function", data := .func (PySem.W.kla_fn "<lambda>" (X.env.qual ++ "<lambda>") params body scope (clOf X.env scope.names []) ((X.mg "__name__").getD .none) (.ref c) ctv) }
def tLam (X : Cx) (P : Addr) (params : Arguments) (body : Expr) (scope : Scope) (pos : Pos) : TE := fun σ H Q => Tb P pos (X.env.qual ++ "<lambda>") H ∧
  ∀ f c ctv H', Sm H H' → Tb P pos (X.env.qual ++ "<lambda>") H' → H f = none → H' f = some (FnO f (lamObj X params body scope c ctv)) → H' c = some (CodeO c (X.env.qual ++ "<lambda>")) → Q (.ref f) H'
end
end L2

/-! a lambda called; sorted by it; the law's head where a table may grow -/
namespace L2
open PySem PySem.Spec PyProof.Rows

def lamEnv (X : Cx) (scope : Scope) (L f c : Addr) : Env := PySem.W.envX (X.env.qual ++ "<lambda>") scope L f (.ref c) (clOf X.env scope.names [])
/-- the context of a lambda's body, called by sorted -/
def cxLam (X : Cx) (scope : Scope) (N : List Str) (L f c : Addr) (s : Shared) (H : Hp) : Cx :=
  { X with A := X.A.in1.in1.deeper (lamEnv X scope L f c), N := N, s₀ := s, H₀ := H, env := lamEnv X scope L f c, outer := X.stack, stack := lamEnv X scope L f c :: X.stack, ex := [], fn := fun _ => false, pn := [], xe := fun _ _ => False }
/-- what the text of a lambda must have: y its one parameter, fs the captured names -/
structure LamOk (X : Cx) (scope : Scope) (y : Str) (fs : List Str) (js : List Nat) : Prop where
  kind : scope.kind = .function
  co : scope.isCoroutine = false
  gen : scope.isGenerator = false
  cell : ∀ z ∈ scope.names, z.2 ≠ .cell
  free : ∀ z ∈ scope.names, z.2 = .free → X.env.kindOf z.1 = some .cell ∨ X.env.kindOf z.1 = some .free
  own : scope.names.lookup y = some .local
  cap : ∀ z ∈ fs, scope.names.lookup z = some .free
  ix : js.map (fun j => X.N[j]?) = fs.map some
def lamB (sc scope : Scope) (N : List Str) (y : Str) (fs : List Str) (js : List Nat) : Bool :=
  (scope.kind == .function) && !scope.isCoroutine && !scope.isGenerator && scope.names.all (fun z => z.2 != .cell) && scope.names.all (fun z => z.2 != .free || sc.names.lookup z.1 == some .cell || sc.names.lookup z.1 == some .free) &&
  (scope.names.lookup y == some .local) && fs.all (fun z => scope.names.lookup z == some .free) && (js.map (fun j => N[j]?) == fs.map some)
def lamSt (v : V) (js : List Nat) (σ : St) : St := some v :: js.map (fun j => (σ[j]?).join)

section
variable {X : Cx} {pins : List (Addr × Obj)} {σ : St} {H : Hp} {s : Shared} {scope : Scope} {y : Str} {fs : List Str} {js : List Nat}
end

section
variable {X : Cx} {e body : Expr} {t : TA} {te : TE} {k : Nat} {p kpos pos lpos : Pos} {params : Arguments} {scope : Scope} {y : Str} {fs : List Str} {js : List Nat} {P c : Addr}
/-- sorted(xs, key=lambda ..: ..) of ints -/
def tSortL (K : PySem.W.Frag) (P : Addr) (lpos : Pos) (qual : Str) (js : List Nat) (te : TE) (t : TA) : TE := fun σ H Q => t σ H fun vs H1 => ∃ (a : Addr) (ns : List Int) (κ : Int → Int), vs = [.ref a] ∧ SqL K H1 a (ns.map V.int) ∧ ns.length ≤ 100000 ∧ Tb P lpos qual H1 ∧
  ∀ H2, Sm H1 H2 → Tb P lpos qual H2 → (∀ z ∈ ns, ∀ R : VK, R (.int (κ z)) H2 → te (lamSt (.int z) js σ) H2 R) ∧ ∀ (ms : List Int) (l : Addr), ms.Perm ns → ms.Pairwise (fun x y => κ x ≤ κ y) → H2 l = none → Q (.ref l) (upd H2 l (.lst (ms.map V.int)))
end

section
variable {X : Cx} {a b : Expr} {rest : List Expr} {ta tb : TE} {pos : Pos}
/-- .. or .. of values -/
def tOrG (K : PySem.W.Frag) (ta tb : TE) : TE := fun σ H Q => ta σ H fun x H1 => ∃ k, TruV K x H1 k ∧ if k = true then Q x H1 else tb σ H1 Q
end

/-- nothing is tracked but the script and a table -/
def OnlyT (P : Addr) (H : Hp) : Prop := ∀ b, H b = none ∨ (∃ o xs, H b = some (.frz o (.lst xs))) ∨ (b = P ∧ H b = some (.tbl #[]))
end L2

/-! for x in d.values(): the dict is known to the object from then on -/
namespace L2
open PySem PySem.Spec PyProof.Rows
def ViewO (v d : Addr) : HO := .ext fun h => h.IsValuesView v d
def rValues : V → List V → Hp → VK → Prop := fun x vs H Q => ∃ d kvs, x = .ref d ∧ vs = [] ∧ H d = some (.dK kvs) ∧ ∀ v o, H v = none → v ≠ d → Q (.ref v) (upd (upd H d (.frz o (.dK kvs))) v (ViewO v d))
/-- the values of the dict at d, which is frozen -/
def Itv (d : Addr) (o : Obj) (kvs : List (Key × V)) : It :=
  ⟨fun i H => H d = some (.frz o (.dK kvs)) ∧ i < kvs.length, fun i H x H' => H' = H ∧ ∃ k, kvs[i]? = some (k, x), fun i H => H d = some (.frz o (.dK kvs)) ∧ kvs.length ≤ i⟩
section
variable {X : Cx}
def iVals (te : TE) : TI := fun σ H R => te σ H fun x H1 => ∃ v d o kvs, x = .ref v ∧ H1 v = some (ViewO v d) ∧ H1 d = some (.frz o (.dK kvs)) ∧ R (Itv d o kvs) H1
end
end L2

/-! list(range(lo, hi)) -/
namespace L2
open PySem PySem.Spec PyProof.Rows
section
variable {X : Cx}
def rRng2 : List V → Hp → VK → Prop := fun xs H Q => ∃ i j, xs = [.int i, .int j] ∧ ∀ r, H r = none → Q (.ref r) (upd H r (.rng i j))
def fromN (lo : Int) (n : Nat) : List Int := (List.range n).map fun (i : Nat) => lo + (i : Int)
def rListR2 : List V → Hp → VK → Prop := fun xs H Q => ∃ r i j, xs = [.ref r] ∧ H r = some (.rng i j) ∧ 0 ≤ i ∧ i ≤ 100000 ∧ i ≤ j ∧ j ≤ 100000 ∧ ∀ l, H l = none → Q (.ref l) (upd H l (.lst ((fromN i (j - i).toNat).map V.int)))
end
end L2

/-! sorted of a list of tuples that begin with ints, no two alike -/
namespace L2
open PySem PySem.Spec PyProof.Rows
/-- a tuple that begins with an int -/
def TupI (h : Heap) (v : Value) (k : Int) : Prop := ∃ (a : Addr) (o : Obj) (n : Nat) (t : Tok) (rest : List Value), v = .ref a ∧ h.get? a = some o ∧ o.cls = .type "tuple" ∧ o.data = .seq (Value.int k t :: rest).toArray n
def ltT (kf : Value → Int) (x y : Keyed) : Bool := decide (kf x.1 < kf y.1)
theorem ordT (kf : Value → Int) : OrdB (ltT kf) := ⟨fun {x y} h => by
  have : kf x.1 < kf y.1 := of_decide_eq_true h
  exact decide_eq_false (by omega), fun {x y z} h1 h2 => by
  have a1 : ¬ kf y.1 < kf x.1 := of_decide_eq_false h1
  have a2 : ¬ kf z.1 < kf y.1 := of_decide_eq_false h2
  exact decide_eq_false (by omega)⟩
theorem keyLt'_tuples (b : Bool) (x y : Value) : keyLt' (tuples' b) x y = (do
    let xs ← Builtin.List.listItems x; let ys ← Builtin.List.listItems y
    for ((p, q), i) in (xs.toList.zip ys.toList).zipIdx do
      if !(← eqBool p q) then return ← oneLt' (b && i == 0) p q
    return decide (xs.size < ys.size)) := rfl
section
variable {prog : Program} {w : World} {A : Around} {E : Value → Shared → Prop} {s : Shared}
theorem eqBool_self {v : Value} {Q : Bool → Shared → Prop} (q : Q true s) : wpAny (model prog w) A (eqBool v v) Q E s := by
  unfold eqBool
  refine wpAny_holding ?_
  rw [if_pos (by simp)]
  refine wpAny_bind (wpAny_rule ?_)
  exact wpAny_pure q
theorem loop_same {b : Bool} {E' : Value → Shared → Prop} : ∀ (l : List Value) (i : Nat) (Q : Option Bool × Unit → Shared → Prop), Q (none, ()) s → wpAny (model prog w) A (forIn ((l.zip l).zipIdx i) ((none, ()) : Option Bool × Unit) fun x __s => do
      let __do_lift ← eqBool x.1.fst x.1.snd
      if (!__do_lift) = true then do
          let __do_lift ← oneLt' (b && x.snd == 0) x.1.fst x.1.snd
          pure (ForInStep.done (some __do_lift, ()))
        else pure (ForInStep.yield (none, ()))) Q E' s
  | [], i, Q, q => by
    show wpAny (model prog w) A (pure (none, ())) Q E' s
    exact wpAny_pure q
  | v :: l, i, Q, q => by
    simp only [List.zip_cons_cons, List.zipIdx_cons, List.forIn_cons]
    refine wpAny_bind (wpAny_bind (eqBool_self ?_))
    rw [if_neg (by simp)]
    refine wpAny_pure ?_
    exact loop_same l (i + 1) Q q
theorem ltOkT {kf : Value → Int} {a0 : List Keyed} (hT : ∀ x ∈ a0, TupI s.heap x.1 (kf x.1)) (hN : ∀ x ∈ a0, ∀ y ∈ a0, kf x.1 = kf y.1 → x.1 = y.1) : LtOk prog w A E s (ltT kf) (fun x => x ∈ a0) (tuples' true) := by
  intro x y st Q hx hy hk q
  obtain ⟨a, o, n, t, rest, e1, g1, c1, d1⟩ := hT x hx
  obtain ⟨a', o', n', t', rest', e2, g2, c2, d2⟩ := hT y hy
  have hxy := hN x hx y hy
  rw [lt'_eq]
  refine wpS_bind (wpS_get ?_)
  rw [hk, keyLt'_tuples]
  have hq : ltT kf x y = decide (kf x.1 < kf y.1) := rfl
  generalize kf x.1 = k1 at *
  generalize kf y.1 = k2 at *
  rw [e1, e2]
  refine wpS_bind (wpS_lift (wpAny_attempt (wpAny_bind (listItems_at g1 d1 (wpAny_bind (listItems_at g2 d2 ?_))))))
  simp only [List.zip_cons_cons, List.zipIdx_cons, List.forIn_cons]
  by_cases c : k1 = k2
  · have exy := hxy c
    rw [e1, e2] at exy
    cases exy
    rw [g1] at g2
    cases g2
    rw [d1] at d2
    cases d2
    refine wpAny_bind (wpAny_bind (wpAny_bind (eqBool_self ?_)))
    rw [if_neg (by simp)]
    refine wpAny_pure (loop_same rest _ _ ?_)
    refine wpAny_pure ⟨rfl, wpS_pure ?_⟩
    have e : decide ((Value.int k1 t :: rest).toArray.size < (Value.int k1 t :: rest).toArray.size) = ltT kf x y := by rw [hq]; simp
    rw [e]; exact q
  · refine wpAny_bind (wpAny_bind (wpAny_bind (wpAny_eqBool_int ?_)))
    rw [if_pos (by simp [c])]
    refine wpAny_bind (oneLt_int (wpAny_pure ?_))
    refine wpAny_pure (wpAny_pure ⟨rfl, wpS_pure ?_⟩)
    rw [← hq]; exact q
theorem first_tup {v : Value} {k : Int} {Q : Option Value → Shared → Prop} (h : TupI s.heap v k) (q : ∀ t, Q (some (.int k t)) s) : wpAny (model prog w) A (firstOfTuple' v) Q E s := by
  obtain ⟨a, o, n, t, rest, rfl, g1, c1, d1⟩ := h
  show wpAny (model prog w) A (do
    if (← typeOf (.ref a)) != .type "tuple" then return none
    return (← Builtin.List.listItems (.ref a))[0]?) Q E s
  refine wpAny_bind (wpAny_typeOf_ref g1 ?_)
  rw [c1, if_neg (by simp)]
  refine wpAny_bind (listItems_at g1 d1 (wpAny_pure ?_))
  exact q t
theorem firsts_tup : ∀ {vs : List Value} {ks : List Int} {Q : List (Option Value) → Shared → Prop}, (∀ p ∈ vs.zip ks, TupI s.heap p.1 p.2) → vs.length = ks.length → (∀ us : List Value, IntsAre us ks → Q (us.map some) s) → wpAny (model prog w) A (vs.mapM firstOfTuple') Q E s
  | [], [], Q, _, _, q => by
    rw [List.mapM_nil]
    exact wpAny_pure (q [] .nil)
  | [], _ :: _, _, _, l, _ => by cases l
  | _ :: _, [], _, _, l, _ => by cases l
  | v :: vs, k :: ks, Q, h, l, q => by
    rw [List.mapM_cons]
    refine wpAny_bind (first_tup (h (v, k) (by simp)) fun t => ?_)
    refine wpAny_bind (firsts_tup (ks := ks) (fun p hp => h p (by simp [hp])) (by simpa using l) fun us hu => ?_)
    exact wpAny_pure (q (.int k t :: us) (.cons k t hu))
theorem one_int {us : List Value} {k : Int} {ks : List Int} (h : IntsAre us (k :: ks)) : oneTypeOnly' us.toArray = pure (some (.type "int")) := by
  rw [oneTypeOnly'_eq, List.mapM_toArray, mapM_typeOf_ints h]
  simp only [map_pure, pure_bind]
  cases h with
  | cons n t h =>
    have hall : ∀ l : List Value, ((List.map (fun _ => Value.type "int") l).toArray.all fun x => x == Value.type "int") = true := fun l => by
      simp only [List.all_toArray, List.all_map, List.all_eq_true]
      intro _ _
      rfl
    have h0 : ∀ (u : Value) (l : List Value), (List.map (fun _ => Value.type "int") (u :: l)).toArray[0]? = some (Value.type "int") := fun _ _ => by simp
    rw [h0]
    simp only [hall, if_true]
theorem keyKind_tups {vs : List Value} {k : Int} {ks : List Int} {Q : SortKind → Shared → Prop} (h : ∀ p ∈ vs.zip (k :: ks), TupI s.heap p.1 p.2) (l : vs.length = (k :: ks).length) (q : Q (tuples' true) s) : wpAny (model prog w) A (keyKind' vs.toArray) Q E s := by
  rw [keyKind'_eq, List.mapM_toArray]
  refine wpAny_bind ?_
  refine wpAny_map ?_
  refine firsts_tup h l fun us hu => ?_
  rw [if_pos (by simp)]
  refine wpAny_bind (wpAny_rule ?_)
  have e : (us.map some).toArray.filterMap id = us.toArray := by simp
  rw [e, one_int hu]
  refine wpAny_bind (wpAny_pure ?_)
  exact wpAny_pure q
theorem TupI.keep {h h' : Heap} {v : Value} {k : Int} (t : TupI h v k) (f : ∀ a o, o.cls = .type "tuple" → h.get? a = some o → h'.get? a = some o) : TupI h' v k := by
  obtain ⟨a, o, n, t, rest, e, g, c, d⟩ := t
  exact ⟨a, o, n, t, rest, e, f a o c g, c, d⟩
theorem zip_self {vs : List Value} : ∀ {p : Value × Value}, p ∈ vs.zip vs → p.1 = p.2 ∧ p.1 ∈ vs := fun h => mem_zip_self h
theorem zipk {kf : Value → Int} : ∀ {l : List Value} {p : Value × Int}, p ∈ l.zip (l.map kf) → p.1 ∈ l ∧ p.2 = kf p.1
  | [], _, h => by simp at h
  | v :: l, p, h => by
    rw [List.map_cons, List.zip_cons_cons] at h
    rcases List.mem_cons.mp h with z | z
    · rw [z]; exact ⟨List.mem_cons_self, rfl⟩
    · obtain ⟨a, b⟩ := zipk z
      exact ⟨List.mem_cons_of_mem _ a, b⟩
theorem lsort_tups {kf : Value → Int} {a : Addr} {vs : List Value} {n : Nat} {Z : Fin → Shared → Prop} (ho : s.heap.get? a = some (seqObj "list" vs.toArray n)) (hT : ∀ v ∈ vs, TupI s.heap v (kf v)) (hN : ∀ v ∈ vs, ∀ u ∈ vs, kf v = kf u → v = u) (hv : vs.length ≤ 100000)
    (hZ : ∀ out : Array Value, out.toList.Perm vs → out.toList.Pairwise (fun u v => kf u ≤ kf v) → Z (.done (.ret .none)) { s with heap := sortedHeap s.heap a vs out }) :
    wpAny (model prog w) A (Builtin.«list.sort» ⟨[.ref a], []⟩) Z E s := by
  have hline : (100000 : Nat) < sizeLine := by decide
  have lt0 := Heap.lt_size ho
  rw [list_sort_plain]
  refine (wpAny_bind (listItems_at ho rfl ?_))
  refine (wpAny_bind (listUpdate_at ho rfl ?_ (by simp; omega)))
  obtain ⟨k1, hk1⟩ : ∃ k1, (s.heap.update a (Obj.mapSeq fun _ => #[])).get? a = some (seqObj "list" #[] k1) := ⟨_, (get?_update_seq ho (fun _ => #[]))⟩
  refine (wpAny_bind (seqEpoch_at hk1 rfl ?_))
  refine (wpAny_bind (wpAny_newTuple ?_ (by simp; omega)))
  refine (wpAny_bind (wpAny_newList ?_))
  refine (wpAny_holding ?_)
  have hk6 : (((s.heap.update a (Obj.mapSeq fun _ => #[])).push (seqObj "tuple" vs.toArray 0)).push (seqObj "list" #[] 0)).get? a = some (seqObj "list" #[] k1) := (by
    rw [Heap.get?_push_ne _ _ _ (by rw [size_push', Heap.size_update]; exact Nat.ne_of_lt (Nat.lt_succ_of_lt lt0)), Heap.get?_push_ne _ _ _ (by rw [Heap.size_update]; exact Nat.ne_of_lt lt0)]
    exact hk1)
  have keep : ∀ b o, o.cls = .type "tuple" → s.heap.get? b = some o → (((s.heap.update a (Obj.mapSeq fun _ => #[])).push (seqObj "tuple" vs.toArray 0)).push (seqObj "list" #[] 0)).get? b = some o := fun b o hc hb => by
    have hlt := Heap.lt_size hb
    have nb : b ≠ a := fun z => by
      subst z
      rw [ho] at hb
      cases hb
      exact absurd (show Value.type "list" = Value.type "tuple" from hc) (by decide)
    rw [Heap.get?_push_ne _ _ _ (by rw [size_push', Heap.size_update]; exact Nat.ne_of_lt (Nat.lt_succ_of_lt hlt)), Heap.get?_push_ne _ _ _ (by rw [Heap.size_update]; exact Nat.ne_of_lt hlt), Heap.get?_update_ne _ _ _ _ nb]
    exact hb
  show wpAny (model prog w) A _ Z E { s with heap := ((s.heap.update a (Obj.mapSeq fun _ => #[])).push (seqObj "tuple" vs.toArray 0)).push (seqObj "list" #[] 0) }
  dsimp only
  by_cases two : vs.toArray.size < 2
  · rw [if_pos two, if_pos two]
    refine (wpAny_bind (wpAny_pure ?_))
    refine wpAny_bind ?_
    show wpAny (model prog w) A (pure ((), SortSt.mk' general' (vs.toArray.zip vs.toArray) #[] 7 none)) _ _ _
    refine wpAny_pure ?_
    refine (wpAny_bind (seqEpoch_at hk6 rfl ?_))
    have ev : (vs.toArray.zip vs.toArray).map (·.2) = vs.toArray := by
      apply Array.ext'
      rw [Array.toList_map, Array.toList_zip, List.map_snd_zip (by simp)]
    refine wpAny_bind (listUpdate_at hk6 rfl ?_ (hsz2 := by
      rw [show arrOf (SortSt.mk' general' (vs.toArray.zip vs.toArray) #[] 7 none) = vs.toArray.zip vs.toArray from rfl, ev]; simp; omega))
    dsimp only
    rw [show arrOf (SortSt.mk' general' (vs.toArray.zip vs.toArray) #[] 7 none) = vs.toArray.zip vs.toArray from rfl, ev]
    simp only [bne_self_eq_false, Bool.false_eq_true, if_false]
    refine wpAny_pure (hZ _ (by simp) ?_)
    match vs, two with
    | [], _ => simp
    | [_], _ => simp
    | _ :: _ :: _, h => simp at h; omega
  · rw [if_neg two, if_neg two]
    obtain ⟨v, r, rfl⟩ : ∃ v r, vs = v :: r := by
      cases vs with
      | nil => simp at two
      | cons v r => exact ⟨v, r, rfl⟩
    refine wpAny_bind (keyKind_tups (k := kf v) (ks := r.map kf) (fun p hp => ?_) (by simp) ?_)
    · obtain ⟨m1, m2⟩ := zipk (l := v :: r) (p := p) (by simpa using hp)
      rw [m2]
      exact (hT _ m1).keep keep
    have a0T : ∀ x ∈ (pairsOf (v :: r)).toList, TupI (((s.heap.update a (Obj.mapSeq fun _ => #[])).push (seqObj "tuple" (v :: r).toArray 0)).push (seqObj "list" #[] 0)) x.1 (kf x.1) := fun x hx => by
      rw [pairsOf_toList] at hx
      exact (hT _ (zip_self hx).2).keep keep
    have a0N : ∀ x ∈ (pairsOf (v :: r)).toList, ∀ y ∈ (pairsOf (v :: r)).toList, kf x.1 = kf y.1 → x.1 = y.1 := fun x hx y hy => by
      rw [pairsOf_toList] at hx hy
      exact hN _ (zip_self hx).2 _ (zip_self hy).2
    refine wpAny_bind (wpAny_mono (wpS_sortB (ordT kf) (ltOkT a0T a0N) (st := SortSt.mk' (tuples' true) ((v :: r).toArray.zip (v :: r).toArray) #[] 7 none) (a0 := (pairsOf (v :: r)).toList) (Q := fun _ st' => (arrOf st').toList.Perm (pairsOf (v :: r)).toList ∧ (arrOf st').toList.Pairwise (leB (ltT kf)) ∧ failedOf st' = none) rfl rfl rfl rfl (fun x hx => hx) fun st' b1 b2 b3 => ⟨b1, b2, b3⟩) ?_ fun _ _ e => e)
    rintro ⟨⟨⟩, st'⟩ s' ⟨rfl, b1, b2, b3⟩
    dsimp only
    have hp : (arrOf st').Perm (pairsOf (v :: r)) := Array.perm_iff_toList_perm.mpr b1
    have hsz := hp.size_eq
    refine (wpAny_bind (seqEpoch_at hk6 rfl ?_))
    refine wpAny_bind (listUpdate_at hk6 rfl ?_ (hsz2 := by
      rw [Array.size_map, hsz, pairsOf_size]; omega))
    rw [b3]
    simp only [bne_self_eq_false, Bool.false_eq_true, if_false]
    refine wpAny_pure (hZ _ ?_ ?_)
    · rw [Array.toList_map]
      have := b1.map (·.2)
      rw [pairsOf_toList] at this
      refine this.trans ?_
      rw [List.map_snd_zip (by simp)]
    · rw [Array.toList_map, List.pairwise_map]
      refine b2.imp_of_mem fun {x y} hx hy h => ?_
      have ex := zip_self (by rw [← pairsOf_toList]; exact b1.mem_iff.mp hx)
      have ey := zip_self (by rw [← pairsOf_toList]; exact b1.mem_iff.mp hy)
      rw [← ex.1, ← ey.1]
      have := of_decide_eq_false h
      omega
theorem sorted_tups {kf : Value → Int} {l : Addr} {vs : List Value} {Q : Value → Shared → Prop} (hl : s.heap.IsList l vs.toArray) (hT : ∀ v ∈ vs, TupI s.heap v (kf v)) (hN : ∀ v ∈ vs, ∀ u ∈ vs, kf v = kf u → v = u) (hv : vs.length ≤ 100000)
    (hQ : ∀ out : Array Value, out.toList.Perm vs → out.toList.Pairwise (fun u v => kf u ≤ kf v) → Q (.ref (s.heap.objs.size + 1)) { s with heap := sortedAll s.heap vs out }) :
    wpAny (model prog w) A (call (.builtin "sorted") [.ref l]) Q E s := by
  have hline : (100000 : Nat) < sizeLine := by decide
  refine (Calls.call_function_entry kind_sorted plain_sorted entry_sorted (args_sorted1 _) ?_)
  unfold Builtin.«sorted»
  refine (wpAny_bind (m := checkCount "sorted" 1 1 _) (wpAny_pure ?_))
  refine (wpAny_bind (collect_list hl ?_ (by omega)))
  refine (wpAny_bind (wpAny_newList ?_ (by first | omega | (simp; omega))))
  have sz1 : ((s.heap.push (seqObj "list" #[] 0)).update s.heap.objs.size (Obj.mapSeq (· ++ vs.toArray))).objs.size = s.heap.objs.size + 1 := (by rw [Heap.size_update, size_push'])
  have at1 : (((s.heap.push (seqObj "list" #[] 0)).update s.heap.objs.size (Obj.mapSeq (· ++ vs.toArray))).push (seqObj "list" vs.toArray 0)).get? (s.heap.objs.size + 1) = some (seqObj "list" vs.toArray 0) := (by
    rw [← sz1]; exact Heap.get?_push_size _ rfl)
  have keep : ∀ b o, o.cls = .type "tuple" → s.heap.get? b = some o → (((s.heap.push (seqObj "list" #[] 0)).update s.heap.objs.size (Obj.mapSeq (· ++ vs.toArray))).push (seqObj "list" vs.toArray 0)).get? b = some o := fun b o _ hb => by
    have hlt := Heap.lt_size hb
    rw [Heap.get?_push_ne _ _ _ (by rw [Heap.size_update, size_push']; exact Nat.ne_of_lt (Nat.lt_succ_of_lt hlt)), Heap.get?_update_ne _ _ _ _ (Nat.ne_of_lt hlt), Heap.get?_push_ne _ _ _ (Nat.ne_of_lt hlt)]
    exact hb
  show wpAny _ _ _ _ E { s with heap := ((s.heap.push (seqObj "list" #[] 0)).update s.heap.objs.size (Obj.mapSeq (· ++ vs.toArray))).push (seqObj "list" vs.toArray 0) }
  rw [sz1]
  refine wpAny_bind (wpAny_holding (wpAny_call_entry slot_list_sort ⟨_, at1, rfl⟩ entry_list_sort (lsort_tups (kf := kf) at1 (fun v hv => (hT v hv).keep keep) hN hv fun out c1 c2 => ⟨_, rfl, ?_⟩) (args_list_sort _)))
  exact wpAny_pure ⟨_, rfl, hQ out c1 c2⟩
end
section
variable {X : Cx}
/-- sorted(xs) of a list of tuples that begin with ints, no two alike -/
def rSortT (K : PySem.W.Frag) : List V → Hp → VK → Prop := fun xs H Q => ∃ (a : Addr) (ts : List Addr) (kf : Addr → Int), xs = [.ref a] ∧ SqL K H a (ts.map V.ref) ∧ ts.length ≤ 100000 ∧ (∀ t ∈ ts, ∃ rest, H t = some (.tup (V.int (kf t) :: rest))) ∧ (∀ t ∈ ts, ∀ u ∈ ts, kf t = kf u → t = u) ∧
  ∀ (us : List Addr) (l : Addr), us.Perm ts → us.Pairwise (fun t u => kf t ≤ kf u) → H l = none → Q (.ref l) (upd H l (.lst (us.map V.ref)))
theorem vals_refs : ∀ {ts : List Addr} {its : List Value}, Vals (ts.map V.ref) its → its = ts.map Value.ref
  | [], _, r => by cases r; rfl
  | t :: ts, _, r => by
    cases r with
    | cons r1 r2 =>
      rw [vals_refs r2]
      cases (show _ = Value.ref t from r1)
      rfl
theorem refs_vals : ∀ (ts : List Addr), Vals (ts.map V.ref) (ts.map Value.ref)
  | [] => .nil
  | t :: ts => .cons rfl (refs_vals ts)
def kfV (kf : Addr → Int) : Value → Int
  | .ref a => kf a
  | _ => 0
theorem call_sortT : CallR X (.builtin "sorted") (rSortT X.K) := by
  intro pins s σ H xs us Q I r h
  obtain ⟨a, ts, kf, rfl, hq, hn, hT, hN, q⟩ := h
  obtain ⟨u, rfl, r1⟩ := vals1 r
  cases (show u = Value.ref a from r1)
  obtain ⟨its, rv, pl, hz⟩ := I.list hq
  have ei := vals_refs rv
  subst ei
  refine sorted_tups (kf := kfV kf) pl.isList (fun v hv => ?_) (fun v hv u hu e => ?_) (by rw [List.length_map]; exact hn) fun out c1 c2 => ?_
  · obtain ⟨t, ht, rfl⟩ := List.mem_map.mp hv
    obtain ⟨rest, hr⟩ := hT t ht
    obtain ⟨its2, rv2, ⟨o, e, c, n, d⟩, _⟩ := I.tuple (SqT.of hr)
    cases rv2 with
    | cons r1 r2 =>
      obtain ⟨tk, rfl⟩ := r1
      exact ⟨t, o, n, tk, _, rfl, e, c, d⟩
  · obtain ⟨t, ht, rfl⟩ := List.mem_map.mp hv
    obtain ⟨t', ht', rfl⟩ := List.mem_map.mp hu
    exact congrArg Value.ref (hN t ht t' ht' e)
  · obtain ⟨e, he⟩ := sortedAll_at s.heap (ts.map Value.ref) out
    obtain ⟨us2, p1, p2⟩ : ∃ us2 : List Addr, us2.Perm ts ∧ out.toList = us2.map Value.ref := by
      refine ⟨out.toList.map fun v => match v with | .ref a => a | _ => 0, ?_, ?_⟩
      · have := c1.map (fun v => match v with | Value.ref a => a | _ => 0)
        refine this.trans ?_
        rw [List.map_map]
        exact List.Perm.of_eq (by simp [Function.comp_def])
      · rw [List.map_map]
        refine (List.map_id _).symm.trans (List.map_congr_left fun v hv => ?_)
        obtain ⟨t, _, rfl⟩ := List.mem_map.mp (c1.mem_iff.mp hv)
        rfl
    have hz2 : (us2.map V.ref).length ≤ sizeLine := by
      have hline : (100000 : Nat) < sizeLine := by decide
      rw [List.length_map, p1.length_eq]; omega
    rw [p2, List.pairwise_map] at c2
    exact ⟨.ref (s.heap.objs.size + 1), _, I.laid (t' := s.toks) (fun b o hb => sortedAll_old hb) (Nat.le_succ _) (o := .lst (us2.map V.ref)) ⟨hz2, out.toList, e, by rw [p2]; exact refs_vals us2, by simpa using he⟩, rfl, q us2 _ p1 c2 (I.hok.fresh (Nat.le_succ _))⟩
end
end L2

/-! dict(xs) of a list of pairs -/
namespace PySem
namespace F
theorem plain_upd_loop : plainId "dict.update.loop" = true := by decide +kernel
theorem entry_upd_loop : entryFor table "dict.update.loop" = some Builtin.«dict.update.loop» := entryFor_of_fast (by kernel_rfl)
theorem list_no_keys : typeLookup (.type "list") "keys" = pure none := by rw [typeLookup_type, builtinLookup_eq_fast]; kernel_rfl
end F
theorem getAttrQ_miss_list {prog : Program} {w : World} {A : Around} {E : Value → Shared → Prop} {s : Shared} {a : Addr} {o : Obj} {xs : Array Value} {k : Nat} {Q : Option Value → Shared → Prop}
    (hx : s.heap.get? a = some o) (hc : o.cls = .type "list") (hdat : o.data = .seq xs k) (hd : o.dict = none) (hA : A.handled = none)
    (h : ∀ h' tk, (∀ b ob, s.heap.get? b = some ob → h'.get? b = some ob) → Q none { s with heap := h', toks := tk }) :
    wpAny (model prog w) A (getAttr? (.ref a) "keys") Q E s := by
  have hmiss := F.list_no_keys
  obtain ⟨c, dct, dat, sl⟩ := o
  simp only at hc hdat hd
  subst hc hdat hd
  obtain ⟨hp, g, d, tk, os⟩ := s
  have hT : ∀ tk', (⟨hp, g, d, tk', os⟩ : Shared).TypeIs (.ref a) "list" := fun _ => ⟨_, hx, rfl⟩
  have f1 := sub_AttributeError
  have f3 := F.slot_list_getattribute.lookup
  have f4 := F.slot_list_getattribute.bind (.ref a)
  have f5 := am_list_getattr_none
  unfold getAttr? getAttrBy? getAttrBy
  repeat (any_goals (first | assumption | exact hT _ | ((with_reducible show wpAny _ _ (call (Value.builtin "list.__getattribute__") _ _) _ _ _); refine call_meets F.slot_list_getattribute (hT _) am_entry_list_getattribute (F.args_list_getattribute_2 _ _) (meets_getattribute_miss_list a xs k sl "keys" _ hmiss (by decide +kernel) (by decide +kernel)) ⟨hx, hA, fun h' tk' e hx' => ?_⟩) | wp_step))
  obtain ⟨t', u', he⟩ := hx'.there
  show wpAny _ _ (getattributeRaised _ _ _ _ _ _ _) _ _ _
  unfold getattributeRaised
  repeat (any_goals (first | assumption | wp_step))
  exact h _ _ hx'.keeps
end PySem

/-! dict(xs) of a list of pairs: the loop -/
namespace L2
open PySem PySem.Spec PyProof.Rows
section
variable {prog : Program} {w : World} {κ : Type} [DecidableEq κ] {knd : KeyKind prog w κ} {A : Around} {E : Value → Shared → Prop} {s : Shared}
/-- the pairs that a list's tuples are -/
inductive PairsAt (knd : KeyKind prog w κ) (h : Heap) : List Value → List (κ × Value) → Prop
  | nil : PairsAt knd h [] []
  | cons {a : Addr} {o : Obj} {n : Nat} {key val : Value} {k : κ} {vs : List Value} {rs : List (κ × Value)} : h.get? a = some o → o.cls = .type "tuple" → o.data = .seq #[key, val] n → knd.is k key = true → PairsAt knd h vs rs → PairsAt knd h (.ref a :: vs) ((k, val) :: rs)
theorem PairsAt.get {h : Heap} : ∀ {vs : List Value} {rs : List (κ × Value)} {i : Nat} {v : Value}, PairsAt knd h vs rs → vs[i]? = some v → ∃ a o n key val k, v = .ref a ∧ h.get? a = some o ∧ o.cls = .type "tuple" ∧ o.data = .seq #[key, val] n ∧ knd.is k key = true ∧ rs[i]? = some (k, val)
  | _, _, _, _, .nil, e => by simp at e
  | _, _, 0, _, .cons h1 h2 h3 h4 t, e => by
    rw [List.getElem?_cons_zero] at e
    cases e
    exact ⟨_, _, _, _, _, _, rfl, h1, h2, h3, h4, rfl⟩
  | _, _, i + 1, _, .cons h1 h2 h3 h4 t, e => PairsAt.get (i := i) t (by simpa using e)
theorem PairsAt.len {h : Heap} : ∀ {vs : List Value} {rs : List (κ × Value)}, PairsAt knd h vs rs → vs.length = rs.length
  | _, _, .nil => rfl
  | _, _, .cons _ _ _ _ t => congrArg (· + 1) t.len
theorem codeAny_pairs_loop {h0 : Heap} {l d it : Addr} {items : List Value} {rs : List (κ × Value)} {R : Result → Shared → Prop} (hA : A.in1.handled = none) (hl : h0.IsList l items.toArray) (hP : PairsAt knd h0 items rs) (hd : h0.get? d = none) (hi : h0.get? it = none) (di : d ≠ it) (hz : items.length ≤ 100000) :
    ∀ (k i : Nat) (s : Shared) (vs : List (κ × Value)), items.length - i = k → i ≤ items.length → vs.length ≤ i → s.heap.IsListIter it l i → (∀ b o, h0.get? b = some o → s.heap.get? b = some o) → s.heap.DictOf knd d vs →
    (∀ s', s'.gens = s.gens → s'.drawn = s.drawn → s'.os = s.os → (∀ b o, b ≠ d → b ≠ it → s.heap.get? b = some o → s'.heap.get? b = some o) → s'.heap.DictOf knd d (merged vs (rs.drop i)) → R (.ok (.ret .none)) s') →
    codeAny (model prog w) A (.builtin "dict.update.loop" ⟨[.ref d, .ref it, .int i 0, .none], []⟩) R s := by
  have hline : (100000 : Nat) < sizeLine := by decide
  have rl := hP.len
  intro k
  induction k with
  | zero =>
    intro i s vs hk hi' hv hit hb hm hR
    have hin : i = items.length := by omega
    refine codeAny_builtin F.entry_upd_loop ?_
    rw [Around.under_plainId F.plain_upd_loop _]
    show wpAny _ A.in1 (pyNext (.ref it) >>= _) _ _ s
    have hl' : s.heap.IsList l items.toArray := by
      obtain ⟨o, e, r⟩ := hl
      exact ⟨o, hb _ _ e, r⟩
    refine wpAny_bind (wpAny_pyNext_list_end hA hit hl' (by simp; omega) fun h' hx => ?_)
    show wpAny _ A.in1 (Builtin.Dict.addKeywords d [] >>= fun _ => ret .none) _ _ _
    refine wpAny_bind (wpAny_pure ?_)
    refine wpAny_pure (hR _ rfl rfl rfl (fun b o n1 n2 e => hx b o n2 e) ?_)
    rw [List.drop_eq_nil_of_le (by omega)]
    exact hm.extBut hx di
  | succ k ih =>
    intro i s vs hk hi' hv hit hb hm hR
    have hlt : i < items.length := by omega
    obtain ⟨x, hx⟩ : ∃ x, items[i]? = some x := ⟨_, List.getElem?_eq_getElem hlt⟩
    obtain ⟨a, o, n, key, val, kk, rfl, g1, c1, d1, k1, r1⟩ := hP.get hx
    refine codeAny_builtin F.entry_upd_loop ?_
    rw [Around.under_plainId F.plain_upd_loop _]
    show wpAny _ A.in1 (pyNext (.ref it) >>= _) _ _ s
    have hl' : s.heap.IsList l items.toArray := by
      obtain ⟨o, e, r⟩ := hl
      exact ⟨o, hb _ _ e, r⟩
    refine wpAny_bind (wpAny_pyNext_list_item hit hl' (by simpa using hx) fun h' hit' sb => ?_)
    have hb' : ∀ b o, h0.get? b = some o → h'.get? b = some o := fun b o e => by
      have nb : b ≠ it := fun z => by rw [z, hi] at e; cases e
      rw [sb.2 b nb]; exact hb _ _ e
    have hm' : h'.DictOf knd d vs := hm.sameBut sb di
    have ga := hb' _ _ g1
    refine wpAny_bind (wpAny_holding ?_)
    refine wpAny_bind (wpAny_tryCatch ?_)
    unfold Builtin.Dict.pairItems
    refine wpAny_bind (wpAny_typeOf_ref ga ?_)
    rw [c1, if_pos (by decide)]
    refine wpAny_bind (wpAny_seqItems ga d1 ?_)
    refine wpAny_pure ?_
    show wpAny _ _ (holding [key, val] (dictSet d key val)) _ _ _
    refine wpAny_holding (wpAny_dictSet_pairs k1 hm' (fun h'' hd'' sb'' => ?_) (by omega))
    refine wpAny_pure ⟨plainId_quiet F.plain_upd_loop _, ?_⟩
    have e : rawInt ((i : Int) + 1) = .int ((i + 1 : Nat) : Int) 0 := rfl
    rw [e]
    have sl : (stored vs kk val).length ≤ i + 1 := by
      unfold stored
      split
      · rw [List.length_map]; omega
      · rw [List.length_append, List.length_singleton]; omega
    refine ih (i + 1) _ (stored vs kk val) (by omega) hlt sl ?_ (fun b o e => ?_) hd'' fun s' q1 q2 q3 q5 q6 => hR s' q1 q2 q3 (fun b o n1 n2 e => q5 b o n1 n2 ?_) ?_
    · obtain ⟨oi, ei, ri⟩ := hit'
      exact ⟨oi, (sb''.2 it di.symm).trans ei, ri⟩
    · have nb : b ≠ d := fun z => by rw [z, hd] at e; cases e
      rw [sb''.2 b nb]; exact hb' _ _ e
    · rw [sb''.2 b n1, sb.2 b n2]; exact e
    · have ed : rs.drop i = (kk, val) :: rs.drop (i + 1) := by
        obtain ⟨h1, h2⟩ := List.getElem?_eq_some_iff.mp r1
        rw [List.drop_eq_getElem_cons h1, h2]
      rw [ed]
      exact q6
theorem call_dict_pairs {l : Addr} {items : List Value} {rs : List (κ × Value)} {Q : Value → Shared → Prop} (hA : A.handled = none) (hl : s.heap.IsList l items.toArray) (hld : ∀ o, s.heap.get? l = some o → o.dict = none) (hP : PairsAt knd s.heap items rs) (hz : items.length ≤ 100000)
    (h : ∀ s', s'.gens = s.gens → s'.drawn = s.drawn → s'.os = s.os → (∀ b o, s.heap.get? b = some o → s'.heap.get? b = some o) → s'.heap.DictOf knd s.heap.objs.size (merged [] rs) → Q (.ref s.heap.objs.size) s') :
    wpAny (model prog w) A (call (.type "dict") [.ref l]) Q E s := by
  refine callType_codes (Q₁ := fun obj s₁ => obj = .ref s.heap.objs.size ∧ s₁ = { s with heap := s.heap.push { cls := .type "dict", data := .dict #[] } }) F.kt_called_dict (F.kt_typeCall_dict_1 _) F.entry_dict_init (kt_code_dict_new _ ⟨rfl, rfl⟩) ?_
  rintro obj s₁ ⟨rfl, rfl⟩
  have hnew : (s.heap.push { cls := .type "dict", data := .dict #[] }).DictOf knd s.heap.objs.size [] := Heap.DictOf.new s.heap
  refine ⟨hnew.typeIs, F.args_dict_init_2 _ _, ?_⟩
  unfold Builtin.«dict.__init__»
  refine wpAny_bind ?_
  unfold Builtin.Dict.selfAndRest
  refine wpAny_bind (wpAny_notOrdered_dict hnew.typeIs ?_)
  show wpAny _ _ (pure (s.heap.objs.size, [Value.ref l])) _ _ _
  refine wpAny_pure ?_
  show wpAny _ _ (Builtin.Dict.updateFrom "dict.__init__" s.heap.objs.size (.ref l) [] .none) _ _ _
  unfold Builtin.Dict.updateFrom
  obtain ⟨ol, gl, cl, nl, dl⟩ := id hl
  have gl1 : (s.heap.push { cls := .type "dict", data := .dict #[] }).get? l = some ol := Heap.get?_push_of_some _ gl
  refine wpAny_bind (wpAny_typeOf_ref gl1 ?_)
  rw [cl, if_pos (by decide)]
  refine wpAny_bind (getAttrQ_miss_list gl1 cl dl (hld _ gl) (show A.handled = none from hA) (fun h' tk kp => ?_))
  rw [if_pos (show (none : Option Value).isNone = true from rfl)]
  refine wpAny_bind (wpAny_rule ?_)
  have hl2 : h'.IsList l items.toArray := ⟨ol, kp _ _ gl1, cl, nl, dl⟩
  refine wpAny_bind (wpAny_pyIter_list (s := { s with heap := h', toks := tk }) hl2 ?_)
  refine wpAny_pure ⟨plainId_quiet F.plain_upd_loop _, ?_⟩
  have hit0 : s.heap.get? h'.objs.size = none := by
    cases e : s.heap.get? h'.objs.size with
    | none => rfl
    | some o => exact absurd (Heap.lt_size (kp _ _ (Heap.get?_push_of_some _ e))) (Nat.lt_irrefl _)
  obtain ⟨od, es, ep, ho, r⟩ := hnew
  have hd2 := kp _ _ ho
  have di : s.heap.objs.size ≠ h'.objs.size := Nat.ne_of_lt (Heap.lt_size hd2)
  refine codeAny_pairs_loop (h0 := s.heap) (knd := knd) (A := A.in1) (rs := rs) hA hl hP (Heap.get?_none_of_le (Nat.le_refl _)) hit0 di hz items.length 0 _ [] rfl (Nat.zero_le _) (Nat.le_refl _) ⟨_, Heap.get?_push_size _ rfl, rfl, rfl⟩ (fun b o e => Heap.get?_push_of_some _ (kp _ _ (Heap.get?_push_of_some _ e))) ⟨od, es, ep, Heap.get?_push_of_some _ hd2, r⟩ fun s' q1 q2 q3 q5 q6 => ?_
  refine ⟨rfl, h s' q1 q2 q3 (fun b o e => ?_) q6⟩
  have lt := Heap.lt_size e
  refine q5 b o (Nat.ne_of_lt lt) (fun z => by rw [z, hit0] at e; cases e) ?_
  exact Heap.get?_push_of_some _ (kp _ _ (Heap.get?_push_of_some _ e))
end
section
variable {X : Cx}
/-- dict(xs) of a list of pairs -/
def rDictP (K : PySem.W.Frag) : List V → Hp → VK → Prop := fun xs H Q => ∃ (a : Addr) (ts : List Addr) (ps : List (Key × V)), xs = [.ref a] ∧ SqL K H a (ts.map V.ref) ∧ ts.length ≤ 100000 ∧ ts.length = ps.length ∧ (∀ (i : Nat) (t : Addr) (p : Key × V), ts[i]? = some t → ps[i]? = some p → H t = some (.tup [kV p.1, p.2])) ∧
  ∀ d, H d = none → Q (.ref d) (upd H d (.dK (mergeK [] ps)))
theorem pairs_of {pins : List (Addr × Obj)} {σ : St} {H : Hp} {s : Shared} (I : Inv X pins σ H s) : ∀ {ts : List Addr} {ps : List (Key × V)}, ts.length = ps.length → (∀ (i : Nat) (t : Addr) (p : Key × V), ts[i]? = some t → ps[i]? = some p → H t = some (.tup [kV p.1, p.2])) → ∃ rs, PairsAt (mixKind X.prog X.w) s.heap (ts.map Value.ref) rs ∧ KV ps rs
  | [], [], _, _ => ⟨[], .nil, .nil⟩
  | [], _ :: _, l, _ => by cases l
  | _ :: _, [], l, _ => by cases l
  | t :: ts, p :: ps, l, h => by
    obtain ⟨rs, h1, h2⟩ := pairs_of I (ts := ts) (ps := ps) (by simpa using l) fun i t p a b => h (i + 1) t p (by simpa using a) (by simpa using b)
    obtain ⟨its2, rv2, ⟨o, e, c, n, d⟩, _⟩ := I.tuple (SqT.of (h 0 t p rfl rfl))
    cases rv2 with
    | cons r1 r2 =>
      cases r2 with
      | cons r3 r4 =>
        cases r4
        exact ⟨(p.1, _) :: rs, .cons e c d (kV_is r1) h1, .cons ⟨rfl, r3⟩ h2⟩
theorem call_dictP (hc : X.calm = true) : CallR X (.type "dict") (rDictP X.K) := by
  intro pins s σ H xs us Q I r h
  obtain ⟨a, ts, ps, rfl, hq, hn, hl, hp, q⟩ := h
  obtain ⟨u, rfl, r1⟩ := vals1 r
  cases (show u = Value.ref a from r1)
  obtain ⟨its, rv, pl, hz⟩ := I.list hq
  have ei := vals_refs rv
  subst ei
  obtain ⟨rs, hP, hk⟩ := pairs_of I hl hp
  have pl' := pl
  obtain ⟨o, n, e, c, dn, d⟩ := pl'
  refine call_dict_pairs (I.ok.hd hc) pl.isList (fun o' e' => by rw [e] at e'; cases e'; exact dn) hP (by rw [List.length_map]; exact hn) fun s' g1 g2 g3 kp hd => ?_
  obtain ⟨h', g', d', t', os'⟩ := s'
  simp only at g1 g2 g3
  subst g1 g2 g3
  have hz2 : (mergeK [] ps).length ≤ sizeLine := by
    have h1 := length_mergeK ps []
    have hline : (100000 : Nat) < sizeLine := by decide
    rw [List.length_nil] at h1; omega
  exact ⟨.ref s.heap.objs.size, _, I.laid (h' := h') (t' := t') kp (Nat.le_refl _) (o := .dK (mergeK [] ps)) (dk_new hz2 (beq_eq_false_iff_ne.mpr (Ne.symm (Nat.ne_of_lt I.big))) (hk.merge .nil) hd), rfl, q _ (I.hok.fresh (Nat.le_refl _))⟩
end
theorem rd_dget {td ty : TE} {σ : St} {H : Hp} {Q : VK} (h : td σ H fun x H1 => ty σ H1 fun y H2 => ∃ a v, x = .ref a ∧ DGet H2 a y (some v) ∧ Q v H2) : tDGet td ty σ H Q := h
end L2

set_option maxHeartbeats 4000000
local macro_rules | `(tactic| walk_at "rdc") => `(tactic| first
  | (show (0 : Int) < _; omega)
  | (show (0 : Int) ≤ _; omega)
  | (show (0 : Int) < _ ∧ _ < 2 ^ 100; omega)
  | (show (-(2 ^ 64) < _ ∧ _ < 2 ^ 64) ∨ (-(2 ^ 64) < _ ∧ _ < 2 ^ 64); omega)
  | (show (0 : Int) ≤ _ ∧ _ ≤ 1000000 ∧ Int.natAbs _ < 2 ^ 64; omega))
local macro_rules | `(tactic| walk_at "rd1") => `(tactic| first
  | (with_reducible refine' L2.rd_seq ?_) | (with_reducible refine' L2.rd_asg ?_) | ((with_reducible refine' L2.rd_gname ?_); (try dsimp only [List.set_cons_zero, List.set_cons_succ])) | (with_reducible refine' L2.rd_ret ?_) | (with_reducible refine' L2.rd_retN ?_) | (with_reducible refine' L2.rd_next ?_) | (with_reducible refine' L2.rd_drop ?_) | (with_reducible refine' L2.rd_ifS ?_)
  | (with_reducible refine' L2.rd_op ?_) | (with_reducible refine' L2.rd_un ?_) | (with_reducible refine' L2.rd_c ?_) | ((with_reducible refine' L2.rd_var ?rdv ?_); (case rdv => rfl))
  | (with_reducible refine' L2.rd_I0 ?_) | (with_reducible refine' L2.rd_U ?_) | (with_reducible refine' L2.rd_eqI ?_) | (with_reducible refine' L2.rd_neI ?_) | (with_reducible refine' L2.rd_eqB ?_) | (with_reducible refine' L2.rd_neB ?_)
  | (with_reducible refine' L2.rd_test ?_) | (with_reducible refine' L2.rd_tB ?_) | (with_reducible refine' L2.rd_and ?_) | (with_reducible refine' L2.rd_or ?_) | (with_reducible refine' L2.rd_not ?_) | (with_reducible refine' L2.rd_andV ?_) | (with_reducible refine' L2.rd_orV ?_) | (with_reducible refine' L2.rd_notV ?_) | (with_reducible refine' L2.rd_chain ?_) | (with_reducible refine' L2.rd_ifE ?_)
  | (with_reducible refine' L2.rd_nil ?_) | (with_reducible refine' L2.rd_cons ?_) | (with_reducible refine' L2.rd_call ?_) | (with_reducible refine' L2.rd_cb ?_) | (with_reducible refine' L2.rd_lst ?_) | (with_reducible refine' L2.rd_tup ?_) | (with_reducible refine' L2.rd_bm0 ?_) | (with_reducible refine' L2.rd_bm ?_) | (with_reducible refine' L2.rd_augS ?_) | ((with_reducible refine' L2.rd_ip ?_); (try dsimp only [List.set_cons_zero, List.set_cons_succ])) | ((with_reducible refine' L2.rd_aug ?rdv ?_); (case rdv => rfl)) | (with_reducible refine' L2.rd_izip ?_) | (with_reducible refine' L2.rd_ivals ?_) | (with_reducible refine' L2.rd_dget2 ?_) | (with_reducible refine' L2.rd_dput ?_) | (with_reducible refine' L2.rd_dget ?_) | (with_reducible refine' L2.rd_dnewK ?_) | (with_reducible refine' L2.rd_sortK ?_) | (with_reducible refine' L2.rd_sortLam ?_) | (with_reducible refine' L2.rd_orG ?_) | (with_reducible refine' L2.rd_isB ?_) | (with_reducible refine' L2.rd_gsub ?_)
  | (with_reducible refine' L2.rd_sl ?_) | (with_reducible refine' L2.rd_nop ?_) | (with_reducible refine' L2.rd_part ?_) | (with_reducible refine' L2.rd_bl ?_) | (with_reducible refine' L2.rd_int ?_)
  | (with_reducible refine' L2.rd_iteT ?_) | (with_reducible refine' L2.rd_iteF ?_) | (with_reducible refine' L2.rd_iteNF ?_) | (with_reducible refine' L2.rd_iteNT ?_)
  | (with_reducible refine' L2.rd_for ?_) | (with_reducible refine' L2.rd_rng1 ?_) | (with_reducible refine' L2.rd_rng2 ?_) | (with_reducible refine' L2.rd_ilist ?_) | (with_reducible refine' L2.rd_comp ?_) | (with_reducible refine' L2.rd_yes ?_)
  | (with_reducible refine' L2.rd_itup ?_) | (with_reducible refine' L2.rd_istr ?_) | (with_reducible refine' L2.rd_leS ?_) | (with_reducible refine' L2.rd_inS ?_)
  | (with_reducible refine' L2.rd_abs ?_) | (with_reducible refine' L2.rd_max ?_) | (with_reducible refine' L2.rd_min ?_) | (with_reducible refine' L2.rd_bitlen ?_)
  | (with_reducible refine' L2.rd_rev ?_) | (with_reducible refine' L2.rd_ienum ?_) | (with_reducible refine' L2.rd_intB ?_)
  | ((with_reducible refine' L2.rd_ixL (L2.SqL.of ?rdh) ?rde ?_); (case rdh => assumption); (case rde => rfl))
  | ((with_reducible refine' L2.rd_set0 ?rdh ?_); (case rdh => assumption))
  | ((with_reducible refine' L2.rd_set1 ?rdh ?_); (case rdh => assumption))
  | ((with_reducible refine' L2.rd_setL ?rdh ?rde ?_); (case rdh => assumption); (case rde => rfl))
  | ((with_reducible refine' L2.rd_ixT (L2.SqT.of ?rdh) ?rde ?_); (case rdh => assumption); (case rde => rfl))
  | ((with_reducible refine' L2.rd_lenL (L2.SqL.of ?rdh) ?_); (case rdh => assumption))
  | ((with_reducible refine' L2.rd_I ?rdc ?_); (case rdc => walk_at "rdc")))
local macro_rules | `(tactic| walk_at "rd") => `(tactic| repeat walk_at "rd1")
namespace Law
open PySem PySem.Spec PyProof.Rows L2
def top (i : Nat) : Stmt := PySem.Challenge.pw_tailrooms_k43_found_in_yards.main.body.getD i (.Pass ⟨0, 0, 0, 0⟩)
abbrev s_last_bits : Stmt := top 1
abbrev s_level : Stmt := top 2
abbrev s_turn : Stmt := top 3
abbrev s_bits_for : Stmt := top 4
abbrev s_room_of : Stmt := top 5
abbrev s_looked : Stmt := top 7
abbrev s_rows_at : Stmt := top 9
abbrev s_found : Stmt := top 10
abbrev s__law_open : Stmt := top 12
abbrev s__law_draw : Stmt := top 13
abbrev s__law_far : Stmt := top 14
abbrev s__law_power : Stmt := top 15
abbrev s__law_key : Stmt := top 16
abbrev s__law_thing : Stmt := top 17
abbrev s__law_whole : Stmt := top 18
abbrev s__law_room : Stmt := top 19
abbrev s__law_copy : Stmt := top 20
abbrev s__law_found : Stmt := top 21
abbrev s__law_places : Stmt := top 22
abbrev s__law_row : Stmt := top 23
abbrev s__law_right : Stmt := top 24
abbrev s_law : Stmt := top 25
theorem sc_last_bits : FnScope ["key", "many"] ["key", "many"] (defScope s_last_bits) := ⟨rfl, rfl, rfl, by decide +kernel, rfl, by decide +kernel, by decide +kernel⟩
theorem sc_level : FnScope ["rooms"] ["rooms"] (defScope s_level) := ⟨rfl, rfl, rfl, by decide +kernel, rfl, by decide +kernel, by decide +kernel⟩
theorem sc_turn : FnScope ["rooms"] ["rooms"] (defScope s_turn) := ⟨rfl, rfl, rfl, by decide +kernel, rfl, by decide +kernel, by decide +kernel⟩
theorem sc_bits_for : FnScope ["room", "rooms", "deep"] ["room", "rooms"] (defScope s_bits_for) := ⟨rfl, rfl, rfl, by decide +kernel, rfl, by decide +kernel, by decide +kernel⟩
theorem sc_room_of : FnScope ["key", "rooms"] ["key", "rooms"] (defScope s_room_of) := ⟨rfl, rfl, rfl, by decide +kernel, rfl, by decide +kernel, by decide +kernel⟩
theorem sc_looked : FnScope ["rows", "key", "looks", "row"] ["rows", "key"] (defScope s_looked) := ⟨rfl, rfl, rfl, by decide +kernel, rfl, by decide +kernel, by decide +kernel⟩
theorem sc_rows_at : FnScope ["held", "room"] ["held", "room"] (defScope s_rows_at) := ⟨rfl, rfl, rfl, by decide +kernel, rfl, by decide +kernel, by decide +kernel⟩
theorem sc_found : FnScope ["yard", "key", "wide", "rooms", "held", "own", "there", "looks"] ["yard", "key"] (defScope s_found) := ⟨rfl, rfl, rfl, by decide +kernel, rfl, by decide +kernel, by decide +kernel⟩
theorem sc__law_open : FnScope ["_law_script", "_law_place", "_law_cells", "_law_at", "_law_digits"] ["_law_script", "_law_place"] (defScope s__law_open) := ⟨rfl, rfl, rfl, by decide +kernel, rfl, by decide +kernel, by decide +kernel⟩
theorem sc__law_draw : FnScope ["_law_hand", "_law_many", "_law_got", "_law_k", "_law_number"] ["_law_hand", "_law_many"] (defScope s__law_draw) := ⟨rfl, rfl, rfl, by decide +kernel, rfl, by decide +kernel, by decide +kernel⟩
theorem sc__law_far : FnScope ["_law_hand", "_law_many", "_law_number", "_law_k"] ["_law_hand", "_law_many"] (defScope s__law_far) := ⟨rfl, rfl, rfl, by decide +kernel, rfl, by decide +kernel, by decide +kernel⟩
theorem sc__law_power : FnScope ["_law_many", "_law_number", "_law_k"] ["_law_many"] (defScope s__law_power) := ⟨rfl, rfl, rfl, by decide +kernel, rfl, by decide +kernel, by decide +kernel⟩
theorem sc__law_key : FnScope ["_law_hand", "_law_way", "_law_low"] ["_law_hand"] (defScope s__law_key) := ⟨rfl, rfl, rfl, by decide +kernel, rfl, by decide +kernel, by decide +kernel⟩
theorem sc__law_thing : FnScope ["_law_hand", "_law_letters"] ["_law_hand"] (defScope s__law_thing) := ⟨rfl, rfl, rfl, by decide +kernel, rfl, by decide +kernel, by decide +kernel⟩
theorem sc__law_whole : FnScope ["_law_got"] ["_law_got"] (defScope s__law_whole) := ⟨rfl, rfl, rfl, by decide +kernel, rfl, by decide +kernel, by decide +kernel⟩
theorem sc__law_room : FnScope ["_law_key_here", "_law_rooms", "_law_room_here", "_law_grade"] ["_law_key_here", "_law_rooms"] (defScope s__law_room) := ⟨rfl, rfl, rfl, by decide +kernel, rfl, by decide +kernel, by decide +kernel⟩
theorem sc__law_copy : FnScope ["_law_yard"] ["_law_yard"] (defScope s__law_copy) := ⟨rfl, rfl, rfl, by decide +kernel, rfl, by decide +kernel, by decide +kernel⟩
theorem sc__law_found : FnScope ["_law_yard", "_law_key_here", "_law_wide", "_law_rooms", "_law_held", "_law_room_here", "_law_at", "_law_row_here", "_law_some"] ["_law_yard", "_law_key_here"] (defScope s__law_found) := ⟨rfl, rfl, rfl, by decide +kernel, rfl, by decide +kernel, by decide +kernel⟩
theorem sc__law_places : FnScope ["_law_script", "_law_least", "_law_most"] ["_law_script", "_law_least", "_law_most"] (defScope s__law_places) := ⟨rfl, rfl, rfl, by decide +kernel, rfl, by decide +kernel, by decide +kernel⟩
theorem sc__law_row : FnScope ["_law_hand", "_law_keys", "_law_row_here", "_law_k", "_law_key_here"] ["_law_hand", "_law_keys"] (defScope s__law_row) := ⟨rfl, rfl, rfl, by decide +kernel, rfl, by decide +kernel, by decide +kernel⟩
theorem sc__law_right : FnScope ["_law_yard", "_law_key_here", "_law_kept", "_law_told"] ["_law_yard", "_law_key_here"] (defScope s__law_right) := ⟨rfl, rfl, rfl, by decide +kernel, rfl, by decide +kernel, by decide +kernel⟩
theorem sc_law : FnScope ["_law_script", "_law_place", "_law_hand", "_law_few", "_law_rooms", "_law_keys", "_law_key_here", "_law_held", "_law_room_here", "_law_yard"] ["_law_script"] (defScope s_law) := ⟨rfl, rfl, rfl, by decide +kernel, rfl, by decide +kernel, by decide +kernel⟩
theorem st_last_bits (x0 x1 : V) : start ["key", "many"] [x0, x1] = [some x0, some x1] := rfl
theorem st_level (x0 : V) : start ["rooms"] [x0] = [some x0] := rfl
theorem st_turn (x0 : V) : start ["rooms"] [x0] = [some x0] := rfl
theorem st_bits_for (x0 x1 : V) : start ["room", "rooms", "deep"] [x0, x1] = [some x0, some x1, none] := rfl
theorem st_room_of (x0 x1 : V) : start ["key", "rooms"] [x0, x1] = [some x0, some x1] := rfl
theorem st_looked (x0 x1 : V) : start ["rows", "key", "looks", "row"] [x0, x1] = [some x0, some x1, none, none] := rfl
theorem st_rows_at (x0 x1 : V) : start ["held", "room"] [x0, x1] = [some x0, some x1] := rfl
theorem st_found (x0 x1 : V) : start ["yard", "key", "wide", "rooms", "held", "own", "there", "looks"] [x0, x1] = [some x0, some x1, none, none, none, none, none, none] := rfl
theorem st__law_open (x0 x1 : V) : start ["_law_script", "_law_place", "_law_cells", "_law_at", "_law_digits"] [x0, x1] = [some x0, some x1, none, none, none] := rfl
theorem st__law_draw (x0 x1 : V) : start ["_law_hand", "_law_many", "_law_got", "_law_k", "_law_number"] [x0, x1] = [some x0, some x1, none, none, none] := rfl
theorem st__law_far (x0 x1 : V) : start ["_law_hand", "_law_many", "_law_number", "_law_k"] [x0, x1] = [some x0, some x1, none, none] := rfl
theorem st__law_power (x0 : V) : start ["_law_many", "_law_number", "_law_k"] [x0] = [some x0, none, none] := rfl
theorem st__law_key (x0 : V) : start ["_law_hand", "_law_way", "_law_low"] [x0] = [some x0, none, none] := rfl
theorem st__law_thing (x0 : V) : start ["_law_hand", "_law_letters"] [x0] = [some x0, none] := rfl
theorem st__law_whole (x0 : V) : start ["_law_got"] [x0] = [some x0] := rfl
theorem st__law_room (x0 x1 : V) : start ["_law_key_here", "_law_rooms", "_law_room_here", "_law_grade"] [x0, x1] = [some x0, some x1, none, none] := rfl
theorem st__law_copy (x0 : V) : start ["_law_yard"] [x0] = [some x0] := rfl
theorem st__law_found (x0 x1 : V) : start ["_law_yard", "_law_key_here", "_law_wide", "_law_rooms", "_law_held", "_law_room_here", "_law_at", "_law_row_here", "_law_some"] [x0, x1] = [some x0, some x1, none, none, none, none, none, none, none] := rfl
theorem st__law_places (x0 x1 x2 : V) : start ["_law_script", "_law_least", "_law_most"] [x0, x1, x2] = [some x0, some x1, some x2] := rfl
theorem st__law_row (x0 x1 : V) : start ["_law_hand", "_law_keys", "_law_row_here", "_law_k", "_law_key_here"] [x0, x1] = [some x0, some x1, none, none, none] := rfl
theorem st__law_right (x0 x1 : V) : start ["_law_yard", "_law_key_here", "_law_kept", "_law_told"] [x0, x1] = [some x0, some x1, none, none] := rfl
theorem st_law (x0 : V) : start ["_law_script", "_law_place", "_law_hand", "_law_few", "_law_rooms", "_law_keys", "_law_key_here", "_law_held", "_law_room_here", "_law_yard"] [x0] = [some x0, none, none, none, none, none, none, none, none, none] := rfl
structure Bl (mg : Str → Option Value) : Prop where
  len : mg "len" = none
  dict : mg "dict" = none
  abs : mg "abs" = none
  range : mg "range" = none
  isinstance : mg "isinstance" = none
  int : mg "int" = none
  bool : mg "bool" = none
  list : mg "list" = none
  enumerate : mg "enumerate" = none
  max : mg "max" = none
  min : mg "min" = none
  sorted : mg "sorted" = none
  tuple : mg "tuple" = none
/-! ### the data -/
/-- a hand: the digits that are left, a counter of at most N, the cells -/
structure Hand (H : Hp) (p : Addr) (N : Nat) : Prop where
  ex : ∃ (l : Addr) (d c : Int) (ns : List Int), H p = some (.lst [.int d, .int c, .ref l]) ∧ H l = some (.lst (ns.map V.int)) ∧ 0 ≤ c ∧ c ≤ N ∧ ns ≠ []
theorem Hand.mono {H : Hp} {p : Addr} {N M : Nat} (h : Hand H p N) (hm : N ≤ M) : Hand H p M := by
  obtain ⟨l, d, c, ns, h1, h2, h3, h4, h5⟩ := h.ex
  exact ⟨l, d, c, ns, h1, h2, h3, by omega, h5⟩
/-- where a hand's cells stand -/
def cellsOf (H : Hp) (p : Addr) : Option Addr := match H p with
  | some (.lst [_, _, .ref l]) => some l
  | _ => none
theorem cells_of {H : Hp} {p l : Addr} {a b : V} (h : H p = some (.lst [a, b, .ref l])) : cellsOf H p = some l := by unfold cellsOf; rw [h]
/-- all but what stands at p is as it was; the cells stand where they stood -/
def Kp (H H' : Hp) (p : Addr) : Prop := (∀ b o, H b = some o → b ≠ p → H' b = some o) ∧ cellsOf H' p = cellsOf H p
theorem Kp.refl (H : Hp) (p : Addr) : Kp H H p := ⟨fun _ _ h _ => h, rfl⟩
theorem Kp.trans {H H1 H2 : Hp} {p : Addr} (a : Kp H H1 p) (b : Kp H1 H2 p) : Kp H H2 p := ⟨fun c o h n => b.1 c o (a.1 c o h n) n, b.2.trans a.2⟩
theorem Kp.hand {H : Hp} {p l : Addr} {a b a' b' : V} (h : H p = some (.lst [a, b, .ref l])) : Kp H (upd H p (.lst [a', b', .ref l])) p :=
  ⟨fun b u h n => by rw [upd_ne n]; exact h, by rw [cells_of upd_same, cells_of h]⟩
theorem Kp.of {H H' : Hp} {p : Addr} {N : Nat} (h : Same H H') (hh : Hand H p N) : Kp H H' p := by
  obtain ⟨l, d, c, ns, h1, _⟩ := hh.ex
  exact ⟨fun b o q _ => h b o q, by rw [cells_of h1, cells_of (h _ _ h1)]⟩
theorem Kp.new {H H1 H2 : Hp} {p : Addr} (a : Same H H1) (n : H p = none) (b : Kp H1 H2 p) : Same H H2 := fun c o h => b.1 c o (a c o h) (ne_of_none h n)
theorem Kp.free {H H' : Hp} {p l : Addr} (k : Kp H H' p) (n : H' l = none) (h : l ≠ p) : H l = none := by
  cases e : H l with
  | none => rfl
  | some o => rw [k.1 _ _ e h] at n; cases n
/-- a further object is written -/
theorem Hand.upd {H : Hp} {p c : Addr} {N : Nat} {o : HO} (h : Hand H p N) (n : c ≠ p) (nl : cellsOf H p ≠ some c) : Hand (L2.upd H c o) p N := by
  obtain ⟨l, d, k, ns, h1, h2, r⟩ := h.ex
  have ne : l ≠ c := fun z => nl (by rw [cells_of h1, z])
  exact ⟨l, d, k, ns, by rw [upd_ne n.symm]; exact h1, by rw [upd_ne ne]; exact h2, r⟩
theorem cells_new {H : Hp} {p c : Addr} {N : Nat} (h : Hand H p N) (n : H c = none) : cellsOf H p ≠ some c := by
  obtain ⟨l, d, k, ns, h1, h2, r⟩ := h.ex
  rw [cells_of h1]
  intro z
  exact ne_of_none h2 n (Option.some.inj z)
theorem cells_upd {H : Hp} {p c : Addr} {o : HO} (n : c ≠ p) : cellsOf (L2.upd H c o) p = cellsOf H p := by unfold cellsOf; rw [upd_ne n.symm]
theorem Hand.same {H H' : Hp} {p : Addr} {N : Nat} (h : Hand H p N) (s : Same H H') : Hand H' p N := by
  obtain ⟨l, d, c, ns, h1, h2, r⟩ := h.ex
  exact ⟨l, d, c, ns, s _ _ h1, s _ _ h2, r⟩
theorem len1 {α : Type} {a : α} : [a].length = 1 := rfl
theorem nsMod {ns : List Int} (h : ns ≠ []) (k : Int) : ∃ v, atI (ns.map V.int) (k % ((ns.map V.int).length : Int)) = some (.int v) := by
  have hl : 0 < ns.length := List.length_pos_iff.mpr h
  rw [List.length_map]
  have h0 : 0 ≤ k % (ns.length : Int) := Int.emod_nonneg _ (by omega)
  have h1 : k % (ns.length : Int) < ns.length := Int.emod_lt_of_pos _ (by omega)
  have ek : k % (ns.length : Int) = (((k % (ns.length : Int)).toNat : Nat) : Int) := by omega
  have hk : (k % (ns.length : Int)).toNat < ns.length := by omega
  obtain ⟨j, hj⟩ : ∃ j : Nat, k % (ns.length : Int) = (j : Int) := ⟨_, ek⟩
  have hk2 : j < ns.length := by omega
  refine ⟨ns[j], ?_⟩
  rw [hj]
  exact atI_nat (by rw [List.getElem?_map, List.getElem?_eq_getElem hk2] <;> rfl)
theorem hand_ne {H : Hp} {p l : Addr} {d c : Int} {ns : List Int} (hp : H p = some (.lst [.int d, .int c, .ref l])) (hl : H l = some (.lst (ns.map V.int))) : l ≠ p := by
  refine ne_of hl hp fun z => ?_
  injection z with z
  have q := congrArg (fun x => x[2]?) z
  rw [List.getElem?_map] at q
  cases e : ns[2]? with
  | none => rw [e] at q; cases q
  | some v => rw [e] at q; cases q
theorem len_pos {ns : List Int} (h : ns ≠ []) : (0 : Int) < ((ns.map V.int).length : Int) := by
  rw [List.length_map]
  have := List.length_pos_iff.mpr h
  omega
theorem pow2_cast (a : Nat) : (2 : Int) ^ a = ((2 ^ a : Nat) : Int) := by
  induction a with
  | zero => rfl
  | succ a ih => rw [Int.pow_succ, Nat.pow_succ, ih]; push_cast; rfl
theorem pow2_le {a b : Nat} (h : a ≤ b) : (2 : Int) ^ a ≤ 2 ^ b := by
  rw [pow2_cast, pow2_cast]
  exact Int.ofNat_le.mpr (Nat.pow_le_pow_right (by decide) h)
theorem pow2_pos (a : Nat) : (0 : Int) < 2 ^ a := by
  rw [pow2_cast]
  have := Nat.two_pow_pos a
  omega
/-- a new object, named: generalize e : upd H1 l _ = H2, then this -/
theorem newo {H1 H2 : Hp} {l : Addr} {o : HO} (n : H1 l = none) (e : L2.upd H1 l o = H2) : H2 l = some o ∧ Same H1 H2 := by
  subst e; exact ⟨upd_same, same_new n _⟩
theorem newl {H H1 H2 : Hp} {p l : Addr} {N : Nat} {o : HO} (hh : Hand H1 p N) (n : H1 l = none) (k : Kp H H1 p) (e : L2.upd H1 l o = H2) : Hand H2 p N ∧ Kp H H2 p ∧ H2 l = some o ∧ Same H1 H2 := by
  subst e; exact ⟨hh.same (same_new n _), k.trans (Kp.of (same_new n _) hh), upd_same, same_new n _⟩
theorem Hand.ne {H : Hp} {p l : Addr} {N : Nat} (hh : Hand H p N) (n : H l = none) : l ≠ p := by
  obtain ⟨l1, d, c, ns, h1, _⟩ := hh.ex
  exact (ne_of_none h1 n).symm
/-- a list of ints -/
def AI (xs : List V) : Prop := ∀ x ∈ xs, ∃ z, x = V.int z
theorem AI.nil : AI [] := fun _ h => by cases h
theorem AI.append {xs ys : List V} (a : AI xs) (b : AI ys) : AI (xs ++ ys) := fun x h => by
  rcases List.mem_append.mp h with h | h
  · exact a x h
  · exact b x h
theorem AI.push {xs : List V} (a : AI xs) (z : Int) : AI (xs ++ [.int z]) := a.append fun x h => ⟨z, by simpa using h⟩
theorem AI.ints (ns : List Int) : AI (ns.map V.int) := fun x h => by
  obtain ⟨z, _, e⟩ := List.mem_map.mp h
  exact ⟨z, e.symm⟩
theorem AI.cut {xs : List V} (a : AI xs) (lo hi : Option Int) : AI (cutV xs lo hi) := fun x h => by
  unfold cutV at h
  exact a x (List.mem_of_mem_drop (List.mem_of_mem_take h))
/-- while a hand is drawn from, a new list grows -/
structure CK (H0 : Hp) (p D : Addr) (N : Nat) (ys : List V) (H' : Hp) : Prop where
  hh : Hand H' p N
  lat : H' D = some (.lst ys)
  kp : Kp H0 H' p
  n0 : H0 D = none
  np : D ≠ p
  nc : cellsOf H0 p ≠ some D
theorem CK.start {H0 : Hp} {p D : Addr} {N : Nat} (hh : Hand H0 p N) (n : H0 D = none) {ys : List V} : CK H0 p D N ys (L2.upd H0 D (.lst ys)) where
  hh := hh.same (same_new n _)
  lat := upd_same
  kp := Kp.of (same_new n _) hh
  n0 := n
  np := by
    obtain ⟨l1, d, c, ns, h1, _⟩ := hh.ex
    exact (ne_of_none h1 n).symm
  nc := cells_new hh n
theorem CK.draw {H0 H' H2 : Hp} {p D : Addr} {N M : Nat} {ys : List V} (c : CK H0 p D N ys H') (k : Kp H' H2 p) (hh : Hand H2 p M) : CK H0 p D M ys H2 :=
  ⟨hh, k.1 _ _ c.lat c.np, c.kp.trans k, c.n0, c.np, c.nc⟩
theorem CK.push {H0 H' : Hp} {p D : Addr} {N : Nat} {ys zs : List V} (c : CK H0 p D N ys H') : CK H0 p D N zs (L2.upd H' D (.lst zs)) where
  hh := c.hh.upd c.np (by rw [c.kp.2]; exact c.nc)
  lat := upd_same
  kp := ⟨fun b o h n => by rw [upd_ne (ne_of_none h c.n0)]; exact c.kp.1 _ _ h n, by rw [cells_upd c.np]; exact c.kp.2⟩
  n0 := c.n0
  np := c.np
  nc := c.nc
theorem CK.new {H0 H' H2 : Hp} {p D l : Addr} {N : Nat} {ys : List V} {o : HO} (c : CK H0 p D N ys H') (n : H' l = none) (e : L2.upd H' l o = H2) : CK H0 p D N ys H2 ∧ H2 l = some o ∧ l ≠ p ∧ l ≠ D := by
  subst e
  exact ⟨⟨c.hh.same (same_new n _), same_new n _ _ _ c.lat, c.kp.trans (Kp.of (same_new n _) c.hh), c.n0, c.np, c.nc⟩, upd_same, c.hh.ne n, (ne_of_none c.lat n).symm⟩
/-! ### the promises -/
def sp__law_draw (K : PySem.W.Frag) : Sp := fun vs H Q _ => ∃ (p : Addr) (N : Nat) (n : Int), vs = [.ref p, .int n] ∧ Hand H p N ∧ N < 2 ^ 60 ∧ 0 < n ∧ n < 2 ^ 100 ∧
  ∀ (r : Int) (H' : Hp), 0 ≤ r → r < n → Hand H' p (N + 1) → Kp H H' p → Q (.int r) H'
def sp__law_far (K : PySem.W.Frag) : Sp := fun vs H Q _ => ∃ (p : Addr) (N : Nat) (n : Int), vs = [.ref p, .int n] ∧ Hand H p N ∧ N + 10 < 2 ^ 60 ∧ 0 < n ∧ n < 2 ^ 100 ∧
  ∀ (r : Int) (H' : Hp), 0 ≤ r → r < n → Hand H' p (N + 7) → Kp H H' p → Q (.int r) H'
def sp__law_power (K : PySem.W.Frag) : Sp := fun vs H Q _ => ∃ (m : Nat), vs = [.int m] ∧ m ≤ 1000 ∧ Q (.int (2 ^ m)) H
def sp__law_open (K : PySem.W.Frag) : Sp := fun vs H Q _ => ∃ (a : Addr) (ns : List Int) (pl : Int), vs = [.ref a, .int pl] ∧ SqL K H a (ns.map V.int) ∧ ns.length ≤ 63 ∧ 0 ≤ pl ∧ pl ≤ 1000 ∧
  ∀ (p : Addr) (H' : Hp), H p = none → Same H H' → Hand H' p 1100000 → Q (.ref p) H'
def sp__law_key (K : PySem.W.Frag) : Sp := fun vs H Q _ => ∃ (p : Addr) (N : Nat), vs = [.ref p] ∧ Hand H p N ∧ N + 30 < 2 ^ 60 ∧
  ∀ (r : Int) (H' : Hp), 0 ≤ r → r < 2 ^ 60 → Hand H' p (N + 20) → Kp H H' p → Q (.int r) H'
/-- law's: a list of at most 63 ints is handed in, True comes out -/
def sp_law (K : PySem.W.Frag) : Sp := fun vs H Q _ => ∃ (a : Addr) (ns : List Int), vs = [.ref a] ∧ SqL K H a (ns.map V.int) ∧ ns.length ≤ 63 ∧ ∀ H', Q (.bl true) H'
/-! ### levels -/
def lg (R : Int) : Nat := R.toNat.log2
theorem lg_le {R : Int} (h : 1 ≤ R) : (2 : Int) ^ lg R ≤ R := by
  have h1 : R.toNat ≠ 0 := by omega
  have h2 := Nat.log2_self_le h1
  rw [pow2_cast]
  unfold lg
  omega
theorem lg_lt {R : Int} (h : 1 ≤ R) : R < (2 : Int) ^ (lg R + 1) := by
  have h1 : R.toNat ≠ 0 := by omega
  have h2 := (Nat.log2_lt h1).mp (Nat.lt_succ_self R.toNat.log2)
  rw [pow2_cast]
  unfold lg
  have h3 : R.toNat < 2 ^ (R.toNat.log2 + 1) := h2
  omega
theorem lg_60 {R : Int} (h : 1 ≤ R) (h2 : R ≤ 2 ^ 60) : lg R ≤ 60 := by
  have h1 : R.toNat ≠ 0 := by omega
  have h3 : R.toNat.log2 < 61 := (Nat.log2_lt h1).mpr (by omega)
  unfold lg
  omega
theorem lg_eq {R : Int} {m : Nat} (h1 : (2 : Int) ^ m ≤ R) (h2 : R < (2 : Int) ^ (m + 1)) : lg R = m := by
  have p := pow2_pos m
  have h0 : R.toNat ≠ 0 := by omega
  rw [pow2_cast] at h1 h2
  unfold lg
  have a1 : R.toNat.log2 < m + 1 := (Nat.log2_lt h0).mpr (by omega)
  have a2 : ¬ R.toNat.log2 < m := fun z => by
    have := (Nat.log2_lt h0).mp z
    omega
  omega
theorem bits_eq {R : Int} (h : 1 ≤ R) : ((Builtin.Int.intBits R : Nat) : Int) - 1 = (lg R : Int) := by
  unfold Builtin.Int.intBits lg
  have h0 : (R == 0) = false := by
    rw [beq_eq_false_iff_ne]; omega
  rw [h0]
  have e : R.natAbs = R.toNat := by omega
  rw [e]
  simp
/-- a key's room -/
def roomV (k R : Int) : Int := if R - 2 ^ lg R ≤ k % 2 ^ lg R then k % 2 ^ lg R else k % 2 ^ (lg R + 1)
theorem roomV_lt {k R : Int} (h : 1 ≤ R) : 0 ≤ roomV k R ∧ roomV k R < R := by
  have p := pow2_pos (lg R)
  have a := lg_le h
  have b := lg_lt h
  rw [Int.pow_succ] at b
  unfold roomV
  rw [Int.pow_succ]
  generalize (2 : Int) ^ lg R = w at p a b ⊢
  have m0 := Int.emod_nonneg k (show w ≠ 0 by omega)
  have m1 := Int.emod_lt_of_pos k p
  have d0 := Int.emod_nonneg k (show w * 2 ≠ 0 by omega)
  have d1 := Int.emod_lt_of_pos k (show (0 : Int) < w * 2 by omega)
  have e : k % (w * 2) % w = k % w := Int.emod_emod_of_dvd k ⟨2, rfl⟩
  split
  · omega
  · rename_i hn
    refine ⟨d0, ?_⟩
    by_cases c : k % (w * 2) < w
    · rw [Int.emod_eq_of_lt d0 c] at e; omega
    · have e2 : k % (w * 2) % w = k % (w * 2) - w := by
        have : k % (w * 2) = (k % (w * 2) - w) + w := by omega
        rw [this, Int.add_emod_right, Int.emod_eq_of_lt (by omega) (by omega)]
        omega
      omega
def sp_last_bits (K : PySem.W.Frag) : Sp := fun vs H Q _ => ∃ (k : Int) (m : Nat), vs = [.int k, .int m] ∧ m ≤ 100 ∧ Q (.int (k % 2 ^ m)) H
def sp_level (K : PySem.W.Frag) : Sp := fun vs H Q _ => ∃ (R : Int), vs = [.int R] ∧ 1 ≤ R ∧ Q (.int (lg R)) H
def sp_turn (K : PySem.W.Frag) : Sp := fun vs H Q _ => ∃ (R : Int), vs = [.int R] ∧ 1 ≤ R ∧ R ≤ 2 ^ 60 ∧ Q (.int (R - 2 ^ lg R)) H
/-- how many last bits tell of a room -/
def bitsV (r R : Int) : Nat := if R - 2 ^ lg R ≤ r ∧ r < 2 ^ lg R then lg R else lg R + 1
theorem bitsV_room {k R : Int} : k % 2 ^ bitsV (k % 2 ^ lg R) R = roomV k R := by
  have lt := Int.emod_lt_of_pos k (pow2_pos (lg R))
  unfold bitsV roomV
  by_cases c : R - 2 ^ lg R ≤ k % 2 ^ lg R
  · rw [if_pos ⟨c, lt⟩, if_pos c]
  · rw [if_neg (fun z => c z.1), if_neg c]
def sp_bits_for (K : PySem.W.Frag) : Sp := fun vs H Q _ => ∃ (r R : Int), vs = [.int r, .int R] ∧ 1 ≤ R ∧ R ≤ 2 ^ 60 ∧ Q (.int (bitsV r R)) H
def sp_room_of (K : PySem.W.Frag) : Sp := fun vs H Q _ => ∃ (k R : Int), vs = [.int k, .int R] ∧ 1 ≤ R ∧ R ≤ 2 ^ 60 ∧ Q (.int (roomV k R)) H
theorem up_div {m w g : Int} (hw : 1 ≤ w) (hm : 0 ≤ m) (hg : g = max 1 ((m + w - 1) / w)) : 1 ≤ g ∧ m ≤ w * g ∧ (g = 1 ∨ w * (g - 1) < m) := by
  have h1 := Int.emod_add_mul_ediv (m + w - 1) w
  have h2 := Int.emod_nonneg (m + w - 1) (show w ≠ 0 by omega)
  have h3 := Int.emod_lt_of_pos (m + w - 1) (show 0 < w by omega)
  generalize (m + w - 1) / w = q at h1 hg
  generalize (m + w - 1) % w = r at h1 h2 h3
  have e : w * (g - 1) = w * g - w := by rw [Int.mul_sub, Int.mul_one]
  refine ⟨by omega, ?_, ?_⟩
  · by_cases c : 1 ≤ q
    · have : g = q := by omega
      rw [this]; omega
    · have : g = 1 := by omega
      rw [this, Int.mul_one]
      have : w * q ≤ 0 := Int.mul_nonpos_of_nonneg_of_nonpos (by omega) (by omega)
      omega
  · by_cases c : 2 ≤ q
    · right
      have : g = q := by omega
      rw [e, this]; omega
    · left; omega
def rfor (m w : Int) : Int := max 1 ((m + w - 1) / w)
theorem cut_mid {xs : List V} {a b : Nat} (h : a ≤ b) : cutV xs (some (a : Int)) (some (b : Int)) = (xs.drop a).take (b - a) := by
  unfold cutV
  rw [HT.sIx_nat, HT.sIx_nat]
  by_cases c : a ≤ xs.length
  · rw [Nat.min_eq_left c]
    by_cases d : b ≤ xs.length
    · rw [Nat.min_eq_left d]
    · rw [Nat.min_eq_right (by omega), List.take_of_length_le (by rw [List.length_drop]; omega), List.take_of_length_le (by rw [List.length_drop]; omega)]
  · rw [List.drop_eq_nil_of_le (by omega), List.drop_eq_nil_of_le (by omega)]
    simp
def rowsN (ms : List Int) (w n : Nat) : List (List Int) := (List.range n).map fun i => (ms.drop (i * w)).take w
theorem rowsN_succ (ms : List Int) (w n : Nat) : rowsN ms w (n + 1) = rowsN ms w n ++ [(ms.drop (n * w)).take w] := by
  unfold rowsN; rw [List.range_succ, List.map_append]; rfl
theorem rowsN_len (ms : List Int) (w n : Nat) : (rowsN ms w n).length = n := by unfold rowsN; rw [List.length_map, List.length_range]
def rowsV (ms : List Int) (w : Nat) : List (List Int) := rowsN ms w (rfor ms.length w).toNat
/-- the lists at these places -/
def Ls (H : Hp) : List Addr → List (List Int) → Prop
  | [], [] => True
  | a :: as, r :: rs => H a = some (.lst (r.map V.int)) ∧ Ls H as rs
  | _, _ => False
theorem Ls.same {H H' : Hp} : ∀ {as : List Addr} {rs : List (List Int)}, (∀ a ∈ as, ∀ o, H a = some o → H' a = some o) → Ls H as rs → Ls H' as rs
  | [], [], _, _ => trivial
  | a :: _, _ :: _, s, ⟨h, t⟩ => ⟨s a List.mem_cons_self _ h, Ls.same (fun b hb => s b (List.mem_cons_of_mem _ hb)) t⟩
theorem Ls.len {H : Hp} : ∀ {as : List Addr} {rs : List (List Int)}, Ls H as rs → as.length = rs.length
  | [], [], _ => rfl
  | _ :: _, _ :: _, ⟨_, t⟩ => congrArg (· + 1) (Ls.len t)
theorem Ls.snoc {H : Hp} {a : Addr} {r : List Int} (hb : H a = some (.lst (r.map V.int))) : ∀ {as : List Addr} {rs : List (List Int)}, Ls H as rs → Ls H (as ++ [a]) (rs ++ [r])
  | [], [], _ => ⟨hb, trivial⟩
  | _ :: _, _ :: _, ⟨h, t⟩ => ⟨h, Ls.snoc hb t⟩
theorem Ls.get {H : Hp} : ∀ {as : List Addr} {rs : List (List Int)} {i : Nat} {a : Addr}, Ls H as rs → as[i]? = some a → ∃ r, rs[i]? = some r ∧ H a = some (.lst (r.map V.int))
  | [], [], _, _, _, e => by cases e
  | _ :: _, r :: _, 0, _, ⟨h, _⟩, e => by cases e; exact ⟨r, rfl, h⟩
  | _ :: _, _ :: _, i + 1, _, ⟨_, t⟩, e => Ls.get (i := i) t e
/-- a new list of new lists -/
def LL (H0 H : Hp) (l : Addr) (rs : List (List Int)) : Prop := ∃ as : List Addr, H l = some (.lst (as.map V.ref)) ∧ Ls H as rs ∧ ∀ a ∈ as, H0 a = none ∧ a ≠ l
theorem LL.same {H0 H H' : Hp} {l : Addr} {rs : List (List Int)} (s : Same H H') (h : LL H0 H l rs) : LL H0 H' l rs := by
  obtain ⟨as, h1, h2, h3⟩ := h
  exact ⟨as, s _ _ h1, h2.same fun a _ o => s a o, h3⟩
theorem LL.base {H0 H1 H : Hp} {l : Addr} {rs : List (List Int)} (s : Same H0 H1) (h : LL H1 H l rs) : LL H0 H l rs := by
  obtain ⟨as, h1, h2, h3⟩ := h
  exact ⟨as, h1, h2, fun a ha => ⟨s.free (h3 a ha).1, (h3 a ha).2⟩⟩
def sp_rows_for (K : PySem.W.Frag) : Sp := fun vs H Q _ => ∃ (m w : Int), vs = [.int m, .int w] ∧ 1 ≤ w ∧ w ≤ 8 ∧ Q (.int (rfor m w)) H
def sp_cut_rows (K : PySem.W.Frag) : Sp := fun vs H Q _ => ∃ (a : Addr) (ms : List Int) (w : Nat), vs = [.ref a, .int w] ∧ H a = some (.lst (ms.map V.int)) ∧ ms.length ≤ 200 ∧ 1 ≤ w ∧ w ≤ 8 ∧
  ∀ l H', H l = none → LL H H' l (rowsV ms w) → Same H H' → Q (.ref l) H'
def sp_rows_of (K : PySem.W.Frag) : Sp := fun vs H Q _ => ∃ (a : Addr) (ns : List Int) (w : Nat), vs = [.ref a, .int w] ∧ H a = some (.lst (ns.map V.int)) ∧ ns.length ≤ 200 ∧ 1 ≤ w ∧ w ≤ 8 ∧
  ∀ ms l H', ms.Perm ns → ms.Pairwise (· ≤ ·) → H l = none → LL H H' l (rowsV ms w) → Same H H' → Q (.ref l) H'
/-! lists of lists of ints -/
theorem refs_get {as : List Addr} {i : Nat} {x : V} (hx : (as.map V.ref)[i]? = some x) : ∃ a, as[i]? = some a ∧ x = .ref a := by
  rw [List.getElem?_map] at hx
  cases e : as[i]? with
  | none => rw [e] at hx; cases hx
  | some a => rw [e] at hx; exact ⟨a, rfl, (Option.some.inj hx).symm⟩
theorem ints_get {ns : List Int} {i : Nat} {x : V} (hx : (ns.map V.int)[i]? = some x) : ∃ z, ns[i]? = some z ∧ x = .int z := by
  rw [List.getElem?_map] at hx
  cases e : ns[i]? with
  | none => rw [e] at hx; cases hx
  | some a => rw [e] at hx; exact ⟨a, rfl, (Option.some.inj hx).symm⟩
theorem drop_get {α : Type} {xs : List α} {i : Nat} {x : α} (h : xs[i]? = some x) : xs.drop i = x :: xs.drop (i + 1) := by
  obtain ⟨hi, e⟩ := List.getElem?_eq_some_iff.mp h
  rw [List.drop_eq_getElem_cons hi, e]
theorem take_get {α : Type} {xs : List α} {i : Nat} {x : α} (h : xs[i]? = some x) : xs.take (i + 1) = xs.take i ++ [x] := by
  obtain ⟨hi, e⟩ := List.getElem?_eq_some_iff.mp h
  rw [List.take_succ_eq_append_getElem hi, e]
theorem at_ref {as : List Addr} {i : Nat} {a : Addr} (h : as[i]? = some a) : atI (as.map V.ref) (0 + (i : Int)) = some (.ref a) := by
  rw [Int.zero_add]
  exact atI_nat (by rw [List.getElem?_map, h]; rfl)
theorem at_ref' {as : List Addr} {i : Nat} {a : Addr} (h : as[i]? = some a) : atI (as.map V.ref) (i : Int) = some (.ref a) :=
  atI_nat (by rw [List.getElem?_map, h]; rfl)
theorem at_int {ns : List Int} {i : Nat} {z : Int} (h : ns[i]? = some z) : atI (ns.map V.int) (i : Int) = some (.int z) :=
  atI_nat (by rw [List.getElem?_map, h]; rfl)
theorem at_zero {a : V} {r : List V} : atI (a :: r) 0 = some a := atI_nat (j := 0) rfl
theorem pick2 {x y : Int} {c : Bool} : ∃ b, atI [V.int x, V.int y] (if c = true then 1 else 0) = some (.int b) ∧ (b = x ∨ b = y) := by
  cases c
  · exact ⟨x, rfl, .inl rfl⟩
  · exact ⟨y, rfl, .inr rfl⟩
theorem Ls.app {H : Hp} {bs : List Addr} {qs : List (List Int)} (hb : Ls H bs qs) : ∀ {as : List Addr} {rs : List (List Int)}, Ls H as rs → Ls H (as ++ bs) (rs ++ qs)
  | [], [], _ => hb
  | _ :: _, _ :: _, ⟨h, t⟩ => ⟨h, Ls.app hb t⟩
theorem Ls.rev {H : Hp} : ∀ {as : List Addr} {rs : List (List Int)}, Ls H as rs → Ls H as.reverse rs.reverse
  | [], [], _ => trivial
  | a :: as, r :: rs, ⟨h, t⟩ => by
    rw [List.reverse_cons, List.reverse_cons]
    exact Ls.app (bs := [a]) (qs := [r]) ⟨h, trivial⟩ (Ls.rev t)
theorem Ls.mem {H : Hp} : ∀ {as : List Addr} {rs : List (List Int)} {a : Addr}, Ls H as rs → a ∈ as → ∃ r, r ∈ rs ∧ H a = some (.lst (r.map V.int))
  | [], [], _, _, h => by cases h
  | b :: as, r :: rs, a, ⟨h, t⟩, m => by
    rcases List.mem_cons.mp m with e | m
    · exact ⟨r, List.mem_cons_self, e ▸ h⟩
    · obtain ⟨q, q1, q2⟩ := Ls.mem t m
      exact ⟨q, List.mem_cons_of_mem _ q1, q2⟩
/-- a list of lists of ints -/
def RL (H : Hp) (l : Addr) (rs : List (List Int)) : Prop := ∃ as : List Addr, H l = some (.lst (as.map V.ref)) ∧ Ls H as rs
theorem RL.same {H H' : Hp} {l : Addr} {rs : List (List Int)} (h : RL H l rs) (s : Same H H') : RL H' l rs := by
  obtain ⟨as, h1, h2⟩ := h
  exact ⟨as, s _ _ h1, h2.same fun a _ o => s a o⟩
theorem LL.rl {H0 H : Hp} {l : Addr} {rs : List (List Int)} (h : LL H0 H l rs) : RL H l rs := by
  obtain ⟨as, h1, h2, _⟩ := h
  exact ⟨as, h1, h2⟩
theorem ints_ne {H : Hp} {p a : Addr} {N : Nat} {ns : List Int} (hh : Hand H p N) (h : H a = some (.lst (ns.map V.int))) : a ≠ p := by
  obtain ⟨l, d, c, ms, h1, h2, _⟩ := hh.ex
  intro e
  rw [e, h1] at h
  have q := congrArg (fun x => x[2]?) (HO.lst.inj (Option.some.inj h))
  rw [List.getElem?_map] at q
  cases z : ns[2]? with
  | none => rw [z] at q; cases q
  | some v => rw [z] at q; cases q
theorem refs_ne {H : Hp} {p a : Addr} {N : Nat} {as : List Addr} (hh : Hand H p N) (h : H a = some (.lst (as.map V.ref))) : a ≠ p := by
  obtain ⟨l, d, c, ms, h1, h2, _⟩ := hh.ex
  intro e
  rw [e, h1] at h
  have q := congrArg (fun x => x[0]?) (HO.lst.inj (Option.some.inj h))
  rw [List.getElem?_map] at q
  cases z : as[0]? with
  | none => rw [z] at q; cases q
  | some v => rw [z] at q; cases q
theorem ints_kp {H H' : Hp} {p a : Addr} {N : Nat} {ns : List Int} (h : H a = some (.lst (ns.map V.int))) (hh : Hand H p N) (k : Kp H H' p) : H' a = some (.lst (ns.map V.int)) := k.1 _ _ h (ints_ne hh h)
theorem Ls.kp {H H' : Hp} {p : Addr} {N : Nat} {as : List Addr} {rs : List (List Int)} (h : Ls H as rs) (hh : Hand H p N) (k : Kp H H' p) : Ls H' as rs := by
  refine h.same fun a ha o e => k.1 _ _ e ?_
  obtain ⟨r, _, hr⟩ := h.mem ha
  exact ints_ne hh hr
theorem RL.kp {H H' : Hp} {p l : Addr} {N : Nat} {rs : List (List Int)} (h : RL H l rs) (hh : Hand H p N) (k : Kp H H' p) : RL H' l rs := by
  obtain ⟨as, h1, h2⟩ := h
  exact ⟨as, k.1 _ _ h1 (refs_ne hh h1), h2.kp hh k⟩
def dR (r : List Int) : PyData := .list (r.map PyData.int)
theorem Ls.dvs {K : PySem.W.Frag} {H : Hp} : ∀ {as : List Addr} {rs : List (List Int)}, Ls H as rs → DVs K H (as.map V.ref) (rs.map dR)
  | [], [], _ => .nil
  | _ :: _, r :: _, ⟨h, t⟩ => .cons (.lst (SqL.of h) (DVs.ints r)) (Ls.dvs t)
theorem RL.dv {K : PySem.W.Frag} {H : Hp} {l : Addr} {rs : List (List Int)} (h : RL H l rs) : DV K H (.ref l) (.list (rs.map dR)) := by
  obtain ⟨as, h1, h2⟩ := h
  exact .lst (SqL.of h1) h2.dvs
theorem lay_R : ∀ rs : List (List Int), PyData.canLayAll0 (rs.map dR) = true ∧ PyData.depthAll (rs.map dR) ≤ 1
  | [] => ⟨rfl, by simp [PyData.depthAll]⟩
  | r :: rs => by
    obtain ⟨h1, h2⟩ := lay_R rs
    obtain ⟨g1, g2⟩ := lay_ints r
    rw [List.map_cons, PyData.canLayAll0, PyData.depthAll, dR, PyData.canLay0, PyData.depth, h1, g1, g2]
    exact ⟨rfl, by omega⟩
theorem shaped_R (rs : List (List Int)) : SeqAt.shaped (.list (rs.map dR)) = true := by
  obtain ⟨h1, h2⟩ := lay_R rs
  unfold SeqAt.shaped
  rw [PyData.canLay0, PyData.depth, h1, decide_eq_true (by omega)]
  rfl
theorem eqv_R : ∀ rs qs : List (List Int), PyData.eqvAll (rs.map dR) (qs.map dR) = decide (rs = qs)
  | [], [] => rfl
  | [], _ :: _ => rfl
  | _ :: _, [] => rfl
  | r :: rs, q :: qs => by
    rw [List.map_cons, List.map_cons, PyData.eqvAll, dR, dR, PyData.eqv, eqv_ints, eqv_R rs qs, Bool.eq_iff_iff]
    simp
theorem eq_R (rs : List (List Int)) : PyData.eqv (.list (rs.map dR)) (.list (rs.map dR)) = true := by rw [PyData.eqv, eqv_R]; exact decide_eq_true rfl
theorem eq_I (ns : List Int) : PyData.eqv (.list (ns.map PyData.int)) (.list (ns.map PyData.int)) = true := by rw [PyData.eqv, eqv_ints]; exact decide_eq_true rfl
theorem eq_nil (ns : List Int) : PyData.eqv (.list (ns.map PyData.int)) (.list []) = decide (ns = []) := by
  have := eqv_ints ns []
  rw [← this, PyData.eqv]; rfl
theorem dv_ints {K : PySem.W.Frag} {H : Hp} {a : Addr} {ns : List Int} (h : H a = some (.lst (ns.map V.int))) : DV K H (.ref a) (.list (ns.map PyData.int)) := .lst (SqL.of h) (DVs.ints ns)
theorem dv_nil {K : PySem.W.Frag} {H : Hp} {a : Addr} (h : H a = some (.lst [])) : DV K H (.ref a) (.list []) := .lst (SqL.of h) .nil
theorem emp_map (r : List Int) : decide (r ≠ []) = !(r.map V.int).isEmpty := by cases r <;> simp
theorem last_at {r : List Int} {y : Int} (h : r.getLast? = some y) : atI (r.map V.int) (-1) = some (.int y) := by
  have hn : r ≠ [] := by intro e; rw [e] at h; cases h
  have hl := List.length_pos_iff.mpr hn
  have e : ixN (r.map V.int).length (-1) = some (r.length - 1) := by
    unfold ixN
    rw [List.length_map, if_neg (by decide), if_pos (by omega)]
    congr 1; omega
  unfold atI
  rw [e]
  show (r.map V.int)[r.length - 1]? = _
  rw [List.getElem?_map, ← List.getLast?_eq_getElem?, h]; rfl
theorem last_max : ∀ {r : List Int} {y : Int}, r.Pairwise (· < ·) → r.getLast? = some y → y ∈ r ∧ ∀ z ∈ r, z ≤ y
  | [], _, _, h => by cases h
  | [a], y, _, h => by
    simp at h; subst h
    exact ⟨List.mem_singleton.mpr rfl, fun z hz => by rw [List.mem_singleton.mp hz]; omega⟩
  | a :: b :: r, y, hp, h => by
    rw [List.pairwise_cons] at hp
    have h' : (b :: r).getLast? = some y := by rw [List.getLast?_cons_cons] at h; exact h
    obtain ⟨h1, h2⟩ := last_max hp.2 h'
    refine ⟨List.mem_cons_of_mem _ h1, fun z hz => ?_⟩
    rcases List.mem_cons.mp hz with e | hz
    · rw [e]; have := hp.1 y h1; omega
    · exact h2 z hz
theorem last_ex {r : List Int} (h : r ≠ []) : ∃ y, r.getLast? = some y := ⟨_, List.getLast?_eq_some_getLast h⟩
theorem count1 (k : Int) : ∀ {r : List Int}, r.Nodup → (r.filter fun z => decide (z = k)).length = if k ∈ r then 1 else 0
  | [], _ => rfl
  | a :: r, h => by
    rw [List.nodup_cons] at h
    have ih := count1 k h.2
    rw [List.filter_cons]
    by_cases c : a = k
    · rw [if_pos (decide_eq_true c), List.length_cons, ih, if_neg (c ▸ h.1), if_pos (by rw [c]; exact List.mem_cons_self)]
    · rw [if_neg (by simp [c]), ih]
      by_cases d : k ∈ r
      · rw [if_pos d, if_pos (List.mem_cons_of_mem _ d)]
      · rw [if_neg d, if_neg (fun z => (List.mem_cons.mp z).elim (fun e => c e.symm) d)]
theorem lt_nodup {r : List Int} (h : r.Pairwise (· < ·)) : r.Nodup := h.imp fun h => Int.ne_of_lt h
theorem le_lt {r : List Int} (h : r.Pairwise (· ≤ ·)) (n : r.Nodup) : r.Pairwise (· < ·) := by
  induction r with
  | nil => exact .nil
  | cons a r ih =>
    rw [List.pairwise_cons] at h
    rw [List.nodup_cons] at n
    rw [List.pairwise_cons]
    exact ⟨fun b hb => by
      have h1 := h.1 b hb
      have h2 : a ≠ b := fun e => n.1 (e ▸ hb)
      omega, ih h.2 n.2⟩

/-! a look -/
def stopsB (k : Int) (r : List Int) : Bool := match r.getLast? with
  | none => false
  | some x => decide (k ≤ x)
def stops (k : Int) (r : List Int) : Prop := stopsB k r = true
theorem stops_of {k x : Int} {r : List Int} (h : r.getLast? = some x) (d : k ≤ x) : stops k r := by
  unfold stops stopsB; rw [h]; exact decide_eq_true d
theorem stops_ex {k : Int} {r : List Int} (h : stops k r) : ∃ x, r.getLast? = some x ∧ k ≤ x := by
  unfold stops stopsB at h
  cases e : r.getLast? with
  | none => rw [e] at h; cases h
  | some x => rw [e] at h; exact ⟨x, rfl, of_decide_eq_true h⟩
def lookV (k : Int) : List (List Int) → Bool × Int
  | [] => (false, 0)
  | r :: rs => if stopsB k r = true then (decide (k ∈ r), 1) else ((lookV k rs).1, (lookV k rs).2 + 1)
theorem lookV_stop {k : Int} {r : List Int} {rs : List (List Int)} (h : stops k r) : lookV k (r :: rs) = (decide (k ∈ r), 1) := by
  rw [lookV]; exact if_pos h
theorem lookV_pass {k : Int} {r : List Int} {rs : List (List Int)} (h : ¬ stops k r) : lookV k (r :: rs) = ((lookV k rs).1, (lookV k rs).2 + 1) := by
  rw [lookV]; exact if_neg h
def sp_looked (K : PySem.W.Frag) : Sp := fun vs H Q _ => ∃ (l : Addr) (k : Int) (rs : List (List Int)), vs = [.ref l, .int k] ∧ RL H l rs ∧ rs.length ≤ 500 ∧
  ∀ t H', H t = none → H' t = some (.tup [.bl (lookV k rs).1, .int (lookV k rs).2]) → Same H H' → Q (.ref t) H'
/-! ### yards: rooms of rows of entries -/
def P1 {α : Type} (p : Addr → α → Prop) (as : List Addr) (xs : List α) : Prop := as.length = xs.length ∧ ∀ (i : Nat) (a : Addr) (x : α), as[i]? = some a → xs[i]? = some x → p a x
section
variable {α : Type} {p p' : Addr → α → Prop} {as bs : List Addr} {xs ys : List α} {a b : Addr} {x y : α} {i : Nat}
theorem P1.imp (f : ∀ a x, p a x → p' a x) (h : P1 p as xs) : P1 p' as xs := ⟨h.1, fun i a x e1 e2 => f a x (h.2 i a x e1 e2)⟩
theorem P1.imp' (f : ∀ a x, a ∈ as → x ∈ xs → p a x → p' a x) (h : P1 p as xs) : P1 p' as xs := ⟨h.1, fun i a x e1 e2 => f a x (List.mem_of_getElem? e1) (List.mem_of_getElem? e2) (h.2 i a x e1 e2)⟩
theorem P1.nil : P1 p [] [] := ⟨rfl, fun i a x e => by simp at e⟩
theorem P1.get (h : P1 p as xs) (e : as[i]? = some a) : ∃ x, xs[i]? = some x ∧ p a x := by
  have il := (List.getElem?_eq_some_iff.mp e).1
  rw [h.1] at il
  exact ⟨_, List.getElem?_eq_getElem il, h.2 i a _ e (List.getElem?_eq_getElem il)⟩
theorem P1.at' (h : P1 p as xs) (e : xs[i]? = some x) : ∃ a, as[i]? = some a ∧ p a x := by
  have il := (List.getElem?_eq_some_iff.mp e).1
  rw [← h.1] at il
  exact ⟨_, List.getElem?_eq_getElem il, h.2 i _ x (List.getElem?_eq_getElem il) e⟩
theorem P1.app (h : P1 p as xs) (h' : P1 p bs ys) : P1 p (as ++ bs) (xs ++ ys) := by
  refine ⟨by rw [List.length_append, List.length_append, h.1, h'.1], fun i a x e1 e2 => ?_⟩
  have hl := h.1
  by_cases z : i < as.length
  · rw [List.getElem?_append_left z] at e1
    rw [List.getElem?_append_left (by omega)] at e2
    exact h.2 i a x e1 e2
  · rw [List.getElem?_append_right (by omega)] at e1
    rw [List.getElem?_append_right (by omega), ← hl] at e2
    exact h'.2 _ a x e1 e2
theorem P1.one (hb : p b y) : P1 p [b] [y] := by
  refine ⟨rfl, fun i a x e1 e2 => ?_⟩
  cases i with
  | zero => cases e1; cases e2; exact hb
  | succ i => simp at e1
theorem P1.snoc (h : P1 p as xs) (hb : p b y) : P1 p (as ++ [b]) (xs ++ [y]) := h.app (P1.one hb)
theorem P1.set (h : P1 p as xs) (hb : p b y) : P1 p (as.set i b) (xs.set i y) := by
  refine ⟨by rw [List.length_set, List.length_set, h.1], fun j a x e1 e2 => ?_⟩
  have hl := h.1
  rw [List.getElem?_set] at e1 e2
  by_cases z : i = j
  · rw [if_pos z] at e1 e2
    subst z
    by_cases c : i < as.length
    · rw [if_pos c] at e1
      rw [if_pos (by omega)] at e2
      cases e1; cases e2; exact hb
    · rw [if_neg c] at e1; cases e1
  · rw [if_neg z] at e1 e2
    exact h.2 j a x e1 e2
theorem P1.setx (h : P1 p as xs) (n : as.Nodup) (e : as[i]? = some a) (f : ∀ b x, b ∈ as → b ≠ a → p b x → p' b x) (hy : p' a y) : P1 p' as (xs.set i y) := by
  refine ⟨by rw [List.length_set, h.1], fun j b x e1 e2 => ?_⟩
  rw [List.getElem?_set] at e2
  by_cases z : i = j
  · rw [if_pos z] at e2
    subst z
    rw [e] at e1
    cases e1
    split at e2
    · cases e2; exact hy
    · cases e2
  · rw [if_neg z] at e2
    refine f b x (List.mem_of_getElem? e1) (fun w => z ?_) (h.2 j b x e1 e2)
    subst w
    exact (List.getElem?_inj (List.getElem?_eq_some_iff.mp e).1 n).mp (e.trans e1.symm)
theorem P1.take (h : P1 p as xs) (n : Nat) : P1 p (as.take n) (xs.take n) := by
  refine ⟨by rw [List.length_take, List.length_take, h.1], fun i a x e1 e2 => ?_⟩
  rw [List.getElem?_take] at e1 e2
  split at e1
  · rename_i c
    rw [if_pos c] at e2
    exact h.2 i a x e1 e2
  · cases e1
theorem P1.drop (h : P1 p as xs) (n : Nat) : P1 p (as.drop n) (xs.drop n) := by
  refine ⟨by rw [List.length_drop, List.length_drop, h.1], fun i a x e1 e2 => ?_⟩
  rw [List.getElem?_drop] at e1 e2
  exact h.2 _ a x e1 e2
theorem P1.dropLast (h : P1 p as xs) : P1 p as.dropLast xs.dropLast := by
  rw [List.dropLast_eq_take, List.dropLast_eq_take, ← h.1]
  exact h.take _
theorem P1.tail (h : P1 p (a :: as) (x :: xs)) : p a x ∧ P1 p as xs := by
  refine ⟨h.2 0 a x rfl rfl, by have := h.1; simpa using this, fun i b y e1 e2 => h.2 (i + 1) b y (by simpa using e1) (by simpa using e2)⟩
end
/-- data that can be held against data -/
def GD (K : PySem.W.Frag) (H : Hp) (n : Nat) (v : V) (d : PyData) : Prop := DV K H v d ∧ PyData.canLay0 d = true ∧ PyData.depth d ≤ n
def GDs (K : PySem.W.Frag) (H : Hp) (n : Nat) (vs : List V) (ds : List PyData) : Prop := DVs K H vs ds ∧ PyData.canLayAll0 ds = true ∧ PyData.depthAll ds ≤ n
section
variable {K : PySem.W.Frag} {H : Hp} {n : Nat} {v : V} {d : PyData} {vs : List V} {ds : List PyData}
theorem GDs.nil : GDs K H n [] [] := ⟨.nil, rfl, by simp [PyData.depthAll]⟩
theorem GDs.cons (h : GD K H n v d) (t : GDs K H n vs ds) : GDs K H n (v :: vs) (d :: ds) := by
  refine ⟨.cons h.1 t.1, ?_, ?_⟩
  · rw [PyData.canLayAll0, h.2.1, t.2.1]; rfl
  · rw [PyData.depthAll]; exact Nat.max_le.mpr ⟨h.2.2, t.2.2⟩
theorem GD.mono {m : Nat} (h : GD K H n v d) (l : n ≤ m) : GD K H m v d := ⟨h.1, h.2.1, Nat.le_trans h.2.2 l⟩
theorem GD.lst {a : Addr} (h : H a = some (.lst vs)) (g : GDs K H n vs ds) : GD K H (n + 1) (.ref a) (.list ds) :=
  ⟨.lst (SqL.of h) g.1, by rw [PyData.canLay0]; exact g.2.1, by rw [PyData.depth]; have := g.2.2; omega⟩
theorem GD.tup {a : Addr} (h : H a = some (.tup vs)) (g : GDs K H n vs ds) : GD K H (n + 1) (.ref a) (.tuple ds) :=
  ⟨.tup (SqT.of h) g.1, by rw [PyData.canLay0]; exact g.2.1, by rw [PyData.depth]; have := g.2.2; omega⟩
theorem GD.int (i : Int) : GD K H n (.int i) (.int i) := ⟨.int i, rfl, by simp [PyData.depth]⟩
theorem GD.str {z : Str} (h : PyData.strOk z = true) : GD K H n (.str z) (.str z) := ⟨.str z, by rw [PyData.canLay0]; exact h, by simp [PyData.depth]⟩
theorem GD.shaped (h : GD K H n v d) (l : n ≤ 64) : SeqAt.shaped d = true := by
  have := h.2.2
  simp [SeqAt.shaped, h.2.1]; omega
theorem GD.refl (h : GD K H n v d) : PyData.eqv d d = true := SeqAt.eqv_refl d h.2.1
theorem gds_map {α : Type} {p : Addr → α → Prop} {f : α → PyData} : ∀ {as : List Addr} {xs : List α}, P1 p as xs → (∀ a x, x ∈ xs → p a x → GD K H n (.ref a) (f x)) → GDs K H n (as.map V.ref) (xs.map f)
  | [], [], _, _ => GDs.nil
  | [], _ :: _, h, _ => by cases h.1
  | _ :: _, [], h, _ => by cases h.1
  | a :: as, x :: xs, h, g => GDs.cons (g a x List.mem_cons_self h.tail.1) (gds_map h.tail.2 fun a x m => g a x (List.mem_cons_of_mem _ m))
end
/-- an entry: a key and a thing -/
def En (H : Hp) (v : V) : Prop := ∃ t k z, v = .ref t ∧ H t = some (.tup [.int k, .str z]) ∧ PyData.strOk z = true
def dE (H : Hp) (v : V) : PyData := match v with
  | .ref t => (match H t with
    | some (.tup [.int k, .str z]) => .tuple [.int k, .str z]
    | _ => .none)
  | _ => .none
theorem En.gd {K : PySem.W.Frag} {H : Hp} {v : V} (h : En H v) : GD K H 1 v (dE H v) := by
  obtain ⟨t, k, z, rfl, h1, h2⟩ := h
  have e : dE H (.ref t) = .tuple [.int k, .str z] := by
    show (match H t with | some (.tup [.int k, .str z]) => PyData.tuple [.int k, .str z] | _ => .none) = _
    rw [h1]
  rw [e]
  exact GD.tup h1 (.cons (.int _) (.cons (.str h2) .nil))
theorem En.keep {H H' : Hp} {v : V} (kt : ∀ t xs, H t = some (.tup xs) → H' t = some (.tup xs)) (h : En H v) : En H' v := by
  obtain ⟨t, k, z, rfl, h1, h2⟩ := h
  exact ⟨t, k, z, rfl, kt _ _ h1, h2⟩
theorem gds_en {K : PySem.W.Frag} {H : Hp} : ∀ {es : List V}, (∀ v ∈ es, En H v) → GDs K H 1 es (es.map (dE H))
  | [], _ => GDs.nil
  | v :: es, h => GDs.cons (h v List.mem_cons_self).gd (gds_en fun v m => h v (List.mem_cons_of_mem _ m))
def R1 (S : Addr → Prop) (H : Hp) (a : Addr) (es : List V) : Prop := S a ∧ H a = some (.lst es)
def R2 (S : Addr → Prop) (H : Hp) (b : Addr) (rows : List (List V)) : Prop := S b ∧ ∃ as : List Addr, H b = some (.lst (as.map V.ref)) ∧ P1 (R1 S H) as rows
def R3 (S : Addr → Prop) (H : Hp) (h : Addr) (X : List (List (List V))) : Prop := ∃ bs : List Addr, H h = some (.lst (bs.map V.ref)) ∧ P1 (R2 S H) bs X
section
variable {S S' : Addr → Prop} {H H' : Hp} {a b h : Addr} {es : List V} {rows : List (List V)} {X : List (List (List V))}
theorem R1.keep (kl : ∀ a o, S a → H a = some o → H' a = some o) (r : R1 S H a es) : R1 S H' a es := ⟨r.1, kl _ _ r.1 r.2⟩
theorem R2.keep (kl : ∀ a o, S a → H a = some o → H' a = some o) (r : R2 S H b rows) : R2 S H' b rows := by
  obtain ⟨s, as, h1, h2⟩ := r
  exact ⟨s, as, kl _ _ s h1, h2.imp fun _ _ r => r.keep kl⟩
theorem R1.weak (w : ∀ a, S a → S' a) (r : R1 S H a es) : R1 S' H a es := ⟨w _ r.1, r.2⟩
theorem R2.weak (w : ∀ a, S a → S' a) (r : R2 S H b rows) : R2 S' H b rows := by
  obtain ⟨s, as, h1, h2⟩ := r
  exact ⟨w _ s, as, h1, h2.imp fun _ _ r => r.weak w⟩
theorem R3.weak (w : ∀ a, S a → S' a) (r : R3 S H h X) : R3 S' H h X := by
  obtain ⟨bs, h1, h2⟩ := r
  exact ⟨bs, h1, h2.imp fun _ _ r => r.weak w⟩
theorem R3.same (s : Same H H') (r : R3 S H h X) : R3 S H' h X := by
  obtain ⟨bs, h1, h2⟩ := r
  exact ⟨bs, s _ _ h1, h2.imp fun _ _ r => r.keep fun _ _ _ e => s _ _ e⟩
end
theorem R2.mem {S : Addr → Prop} {H : Hp} {b : Addr} {rows : List (List V)} (r : R2 S H b rows) : R2 (fun x => S x ∧ ∃ o, H x = some o) H b rows := by
  obtain ⟨s, as, h1, h2⟩ := r
  exact ⟨⟨s, _, h1⟩, as, h1, h2.imp fun _ _ r => ⟨⟨r.1, _, r.2⟩, r.2⟩⟩
def EnX (H : Hp) (X : List (List (List V))) : Prop := ∀ rows ∈ X, ∀ es ∈ rows, ∀ v ∈ es, En H v
def SzX (X : List (List (List V))) : Prop := X.length ≤ 131 ∧ ∀ rows ∈ X, rows.length ≤ 131 ∧ ∀ es ∈ rows, es.length ≤ 5
theorem EnX.keep {H H' : Hp} {X : List (List (List V))} (kt : ∀ t xs, H t = some (.tup xs) → H' t = some (.tup xs)) (h : EnX H X) : EnX H' X := fun r hr es he v hv => (h r hr es he v hv).keep kt
theorem EnX.same {H H' : Hp} {X : List (List (List V))} (s : Same H H') (h : EnX H X) : EnX H' X := h.keep fun _ _ e => s _ _ e
def dRow (H : Hp) (es : List V) : PyData := .list (es.map (dE H))
def dRows (H : Hp) (rows : List (List V)) : PyData := .list (rows.map (dRow H))
def dX (H : Hp) (X : List (List (List V))) : PyData := .list (X.map (dRows H))
theorem R3.gd {K : PySem.W.Frag} {S : Addr → Prop} {H : Hp} {h : Addr} {X : List (List (List V))} (r : R3 S H h X) (e : EnX H X) : GD K H 4 (.ref h) (dX H X) := by
  obtain ⟨bs, h1, h2⟩ := r
  refine GD.lst h1 (gds_map h2 fun b rows hm hb => ?_)
  obtain ⟨_, as, h3, h4⟩ := hb
  refine GD.lst h3 (gds_map h4 fun a es hm2 ha => ?_)
  exact GD.lst ha.2 (gds_en fun v hv => e rows hm es hm2 v hv)
def Yd (H : Hp) (y : Addr) (w R : Int) (X : List (List (List V))) : Prop := ∃ h, H y = some (.tup [.int w, .int R, .ref h]) ∧ R3 (fun _ => True) H h X ∧ EnX H X ∧ SzX X
theorem Yd.same {H H' : Hp} {y : Addr} {w R : Int} {X : List (List (List V))} (s : Same H H') (h : Yd H y w R X) : Yd H' y w R X := by
  obtain ⟨t, h1, h2, h3, h4⟩ := h
  exact ⟨t, s _ _ h1, h2.same s, h3.same s, h4⟩
def dY (H : Hp) (w R : Int) (X : List (List (List V))) : PyData := .tuple [.int w, .int R, dX H X]
theorem Yd.gd {K : PySem.W.Frag} {H : Hp} {y : Addr} {w R : Int} {X : List (List (List V))} (h : Yd H y w R X) : GD K H 5 (.ref y) (dY H w R X) := by
  obtain ⟨t, h1, h2, h3, h4⟩ := h
  exact GD.tup h1 (.cons (.int _) (.cons (.int _) (.cons (h2.gd h3) .nil)))
/-- a step -/
inductive St3
  | rooms (n : Nat)
  | cut (r m : Nat)
  | row (r a : Nat) (es : List V)
def StA (H : Hp) (s : Addr) : St3 → Prop
  | .rooms n => H s = some (.tup [.str "rooms", .int n]) ∧ 1 ≤ n ∧ n ≤ 130
  | .cut r m => H s = some (.tup [.str "cut", .int r, .int m]) ∧ r ≤ 129 ∧ m ≤ 130
  | .row r a es => ∃ l, H s = some (.tup [.str "row", .int r, .int a, .ref l]) ∧ H l = some (.lst es) ∧ r ≤ 129 ∧ a ≤ 129 ∧ es.length ≤ 4 ∧ ∀ v ∈ es, En H v
theorem StA.same {H H' : Hp} {s : Addr} {st : St3} (sm : Same H H') (h : StA H s st) : StA H' s st := by
  cases st with
  | rooms n => exact ⟨sm _ _ h.1, h.2⟩
  | cut r m => exact ⟨sm _ _ h.1, h.2⟩
  | row r a es =>
    obtain ⟨l, h1, h2, h3, h4, h5, h6⟩ := h
    exact ⟨l, sm _ _ h1, sm _ _ h2, h3, h4, h5, fun v hv => (h6 v hv).keep fun _ _ e => sm _ _ e⟩
def dSt (H : Hp) : St3 → PyData
  | .rooms n => .tuple [.str "rooms", .int n]
  | .cut r m => .tuple [.str "cut", .int r, .int m]
  | .row r a es => .tuple [.str "row", .int r, .int a, dRow H es]
theorem StA.gd {K : PySem.W.Frag} {H : Hp} {s : Addr} {st : St3} (h : StA H s st) : GD K H 5 (.ref s) (dSt H st) := by
  cases st with
  | rooms n => exact (GD.tup (n := 1) h.1 (.cons (.str (by decide +kernel)) (.cons (.int _) .nil))).mono (by omega)
  | cut r m => exact (GD.tup (n := 1) h.1 (.cons (.str (by decide +kernel)) (.cons (.int _) (.cons (.int _) .nil)))).mono (by omega)
  | row r a es =>
    obtain ⟨l, h1, h2, h3, h4, h5, h6⟩ := h
    exact (GD.tup (n := 2) h1 (.cons (.str (by decide +kernel)) (.cons (.int _) (.cons (.int _) (.cons (GD.lst h2 (gds_en h6)) .nil))))).mono (by omega)
/-! what a step does -/
def trim {α : Type} (X : List (List α)) : List (List α) := (X.reverse.dropWhile (·.isEmpty)).reverse
theorem trim_nil {α : Type} : trim ([] : List (List α)) = [] := rfl
theorem trim_snoc {α : Type} {X : List (List α)} : trim (X ++ [[]]) = trim X := by
  unfold trim
  rw [List.reverse_append]; rfl
theorem trim_stop {α : Type} {X : List (List α)} {r : List α} (h : r ≠ []) : trim (X ++ [r]) = X ++ [r] := by
  unfold trim
  rw [List.reverse_append]
  show (List.dropWhile (·.isEmpty) (r :: X.reverse)).reverse = _
  rw [List.dropWhile_cons, if_neg (by simpa using h), List.reverse_cons, List.reverse_reverse]
theorem trim_sub {α : Type} {X : List (List α)} : (∀ r ∈ trim X, r ∈ X) ∧ (trim X).length ≤ X.length := by
  unfold trim
  have s := List.dropWhile_sublist (l := X.reverse) (p := fun r : List α => r.isEmpty)
  exact ⟨fun r hr => List.mem_reverse.mp (s.subset (List.mem_reverse.mp hr)), by rw [List.length_reverse]; have := s.length_le; rw [List.length_reverse] at this; exact this⟩
def pad {α : Type} (X : List (List α)) (n : Nat) : List (List α) := X ++ List.replicate (n - X.length) []
theorem pad_len {α : Type} {X : List (List α)} {n : Nat} : (pad X n).length = max X.length n := by
  unfold pad; rw [List.length_append, List.length_replicate]; omega
theorem pad_done {α : Type} {X : List (List α)} {n : Nat} (h : n ≤ X.length) : pad X n = X := by
  unfold pad; rw [Nat.sub_eq_zero_of_le h]; simp
theorem pad_more {α : Type} {X : List (List α)} {n : Nat} (h : X.length < n) : pad (X ++ [[]]) n = pad X n := by
  unfold pad
  rw [List.length_append, List.length_singleton, List.append_assoc]
  congr 1
  rw [show n - X.length = (n - (X.length + 1)) + 1 by omega, List.replicate_succ]; rfl
theorem pad_mem {α : Type} {X : List (List α)} {n : Nat} {r : List α} (h : r ∈ pad X n) : r ∈ X ∨ r = [] := by
  unfold pad at h
  rcases List.mem_append.mp h with z | z
  · exact .inl z
  · exact .inr (List.eq_of_mem_replicate z)
def rowX (X : List (List (List V))) (r a : Nat) (es : List V) : List (List (List V)) := (pad X (r + 1)).modify r fun rows => (pad rows (a + 1)).set a es
def doX (X : List (List (List V))) : St3 → List (List (List V))
  | .rooms _ => trim X
  | .cut r m => trim (X.modify r (List.take m))
  | .row r a es => trim (rowX X r a es)
def doR (R : Int) : St3 → Int
  | .rooms n => n
  | _ => R
theorem mod_mem {α : Type} {X : List α} {r : Nat} {f : α → α} {y : α} (h : y ∈ X.modify r f) : y ∈ X ∨ ∃ x ∈ X, y = f x := by
  obtain ⟨i, hi⟩ := List.getElem?_of_mem h
  rw [List.getElem?_modify] at hi
  cases e : X[i]? with
  | none => rw [e] at hi; simp at hi
  | some x =>
    rw [e] at hi
    have hm := List.mem_of_getElem? e
    by_cases z : r = i
    · have e2 : f x = y := by simpa [z] using hi
      exact .inr ⟨x, hm, e2.symm⟩
    · have e2 : x = y := by simpa [z] using hi
      exact .inl (e2 ▸ hm)
theorem mod_set {α : Type} {X : List α} {r : Nat} {f : α → α} {x : α} (h : X[r]? = some x) : X.modify r f = X.set r (f x) := by
  refine List.ext_getElem? fun i => ?_
  rw [List.getElem?_modify, List.getElem?_set]
  by_cases z : r = i
  · subst z
    obtain ⟨hl, e⟩ := List.getElem?_eq_some_iff.mp h
    simp [hl, e]
  · simp [z]
theorem mod_none {α : Type} {X : List α} {r : Nat} {f : α → α} (h : X.length ≤ r) : X.modify r f = X := by
  refine List.ext_getElem? fun i => ?_
  rw [List.getElem?_modify]
  by_cases z : r = i
  · subst z
    rw [List.getElem?_eq_none h]; rfl
  · simp [z]
def doM (X : List (List (List V))) : St3 → List (List (List V))
  | .rooms _ => X
  | .cut r m => X.modify r (List.take m)
  | .row r a es => rowX X r a es
theorem doX_eq {X : List (List (List V))} {st : St3} : doX X st = trim (doM X st) := by cases st <;> rfl
theorem dm_of {X : List (List (List V))} {q : List V → Prop} {st : St3} (h : ∀ rows ∈ X, ∀ es ∈ rows, q es) (h0 : q []) (hs : ∀ r a es, st = .row r a es → q es) : ∀ rows ∈ doM X st, ∀ es ∈ rows, q es := by
  cases st with
  | rooms n => exact h
  | cut r m =>
    intro rows hr es he
    rcases mod_mem hr with z | ⟨x, hx, rfl⟩
    · exact h rows z es he
    · exact h x hx es (List.mem_of_mem_take he)
  | row r a e2 =>
    intro rows hr es he
    have hp : ∀ rows ∈ pad X (r + 1), ∀ es ∈ rows, q es := fun rows hr es he => by
      rcases pad_mem hr with z | z
      · exact h rows z es he
      · rw [z] at he; cases he
    rcases mod_mem hr with z | ⟨x, hx, rfl⟩
    · exact hp rows z es he
    · rcases List.mem_or_eq_of_mem_set he with z | z
      · rcases pad_mem z with w | w
        · exact hp x hx es w
        · rw [w]; exact h0
      · rw [z]; exact hs r a e2 rfl
/-- all that the rows hold after a step was there or came with it -/
theorem do_of {X : List (List (List V))} {q : List V → Prop} {st : St3} (h : ∀ rows ∈ X, ∀ es ∈ rows, q es) (h0 : q []) (hs : ∀ r a es, st = .row r a es → q es) : ∀ rows ∈ doX X st, ∀ es ∈ rows, q es := by
  cases st with
  | rooms n => exact fun rows hr => h rows (trim_sub.1 rows hr)
  | cut r m =>
    intro rows hr es he
    rcases mod_mem (trim_sub.1 rows hr) with z | ⟨x, hx, rfl⟩
    · exact h rows z es he
    · exact h x hx es (List.mem_of_mem_take he)
  | row r a e2 =>
    intro rows hr es he
    have hp : ∀ rows ∈ pad X (r + 1), ∀ es ∈ rows, q es := fun rows hr es he => by
      rcases pad_mem hr with z | z
      · exact h rows z es he
      · rw [z] at he; cases he
    rcases mod_mem (trim_sub.1 rows hr) with z | ⟨x, hx, rfl⟩
    · exact hp rows z es he
    · rcases List.mem_or_eq_of_mem_set he with z | z
      · rcases pad_mem z with w | w
        · exact hp x hx es w
        · rw [w]; exact h0
      · rw [z]; exact hs r a e2 rfl
theorem SzX.step {H : Hp} {s : Addr} {X : List (List (List V))} {st : St3} (h : SzX X) (hs : StA H s st) : SzX (doX X st) := by
  have q := do_of (X := X) (q := fun es => es.length ≤ 5) (st := st) (fun rows hr es he => (h.2 rows hr).2 es he) (by simp) (fun r a es e => by subst e; obtain ⟨l, _, _, _, _, h5, _⟩ := hs; omega)
  refine ⟨?_, fun rows hr => ⟨?_, q rows hr⟩⟩
  · have h1 := h.1
    cases st with
    | rooms n => exact Nat.le_trans trim_sub.2 h1
    | cut r m => exact Nat.le_trans trim_sub.2 (by rw [List.length_modify]; exact h1)
    | row r a es =>
      obtain ⟨l, _, _, h3, _⟩ := hs
      refine Nat.le_trans trim_sub.2 ?_
      unfold rowX
      rw [List.length_modify, pad_len]; omega
  · cases st with
    | rooms n => exact (h.2 rows (trim_sub.1 rows hr)).1
    | cut r m =>
      rcases mod_mem (trim_sub.1 rows hr) with z | ⟨x, hx, rfl⟩
      · exact (h.2 rows z).1
      · have := (h.2 x hx).1
        rw [List.length_take]; omega
    | row r a es =>
      obtain ⟨l, _, _, h3, h4, _⟩ := hs
      have hp : ∀ rows ∈ pad X (r + 1), rows.length ≤ 131 := fun rows hr => by
        rcases pad_mem hr with z | z
        · exact (h.2 rows z).1
        · rw [z]; simp
      rcases mod_mem (trim_sub.1 rows hr) with z | ⟨x, hx, rfl⟩
      · exact hp rows z
      · have := hp x hx
        rw [List.length_set, pad_len]; omega
theorem EnX.mid {H : Hp} {s : Addr} {X : List (List (List V))} {st : St3} (h : EnX H X) (hs : StA H s st) : EnX H (doM X st) :=
  dm_of (q := fun es => ∀ v ∈ es, En H v) h (fun v hv => by cases hv) fun r a es e => by subst e; obtain ⟨l, _, _, _, _, _, h6⟩ := hs; exact h6
theorem EnX.step {H : Hp} {s : Addr} {X : List (List (List V))} {st : St3} (h : EnX H X) (hs : StA H s st) : EnX H (doX X st) :=
  do_of (q := fun es => ∀ v ∈ es, En H v) h (fun v hv => by cases hv) fun r a es e => by subst e; obtain ⟨l, _, _, _, _, _, h6⟩ := hs; exact h6
/-! the program's own yard: none of its lists lies elsewhere -/
def T1 (S : Addr → Prop) (h : Addr) (bs : List Addr) (H : Hp) (a : Addr) (es : List V) : Prop := S a ∧ a ≠ h ∧ a ∉ bs ∧ H a = some (.lst es)
def T2 (S : Addr → Prop) (h : Addr) (bs : List Addr) (H : Hp) (b : Addr) (rows : List (List V)) : Prop := S b ∧ ∃ as : List Addr, H b = some (.lst (as.map V.ref)) ∧ P1 (T1 S h bs H) as rows
def T3 (S : Addr → Prop) (H : Hp) (h : Addr) (bs : List Addr) (X : List (List (List V))) : Prop := S h ∧ H h = some (.lst (bs.map V.ref)) ∧ bs.Nodup ∧ h ∉ bs ∧ P1 (T2 S h bs H) bs X
def Kq (S : Addr → Prop) (H H' : Hp) : Prop := ∀ b o, ¬ S b → H b = some o → H' b = some o
def Fr (S : Addr → Prop) (H : Hp) : Prop := ∀ e, H e = none → S e
theorem Kq.trans {S : Addr → Prop} {H H1 H2 : Hp} (a : Kq S H H1) (b : Kq S H1 H2) : Kq S H H2 := fun c o n e => b c o n (a c o n e)
theorem Fr.keep {S : Addr → Prop} {H H' : Hp} (f : Fr S H) (k : Kq S H H') : Fr S H' := fun e n => by
  by_cases z : S e
  · exact z
  · cases c : H e with
    | none => exact f e c
    | some o => rw [k e o z c] at n; cases n
section
variable {S : Addr → Prop} {H H' : Hp} {h a b c e : Addr} {bs bs' as : List Addr} {es : List V} {rows : List (List V)} {X : List (List (List V))} {i j m : Nat}
theorem T2.keep (kb : ∀ o, H b = some o → H' b = some o) (kr : ∀ a o, a ≠ h → a ∉ bs → H a = some o → H' a = some o ∧ a ∉ bs') (t : T2 S h bs H b rows) : T2 S h bs' H' b rows := by
  obtain ⟨s, as, h1, h2⟩ := t
  refine ⟨s, as, kb _ h1, h2.imp fun a es t => ?_⟩
  obtain ⟨t1, t2, t3, t4⟩ := t
  obtain ⟨k1, k2⟩ := kr a _ t2 t3 t4
  exact ⟨t1, t2, k2, k1⟩
theorem T3.has (t : T3 S H h bs X) (hb : b ∈ bs) : ∃ o, H b = some o := by
  obtain ⟨i, hi⟩ := List.getElem?_of_mem hb
  obtain ⟨rows, _, _, as, h1, _⟩ := t.2.2.2.2.get hi
  exact ⟨_, h1⟩
theorem T3.new (t : T3 S H h bs X) (ne : H e = none) : e ≠ h ∧ e ∉ bs := by
  refine ⟨fun z => (by rw [z, t.2.1] at ne; cases ne), fun z => ?_⟩
  obtain ⟨o, ho⟩ := t.has z
  rw [ho] at ne; cases ne
theorem T3.push (t : T3 S H h bs X) (ne : H e = none) (se : S e) (hk : ∀ b o, b ≠ h → H b = some o → H' b = some o) (hh : H' h = some (.lst ((bs ++ [e]).map V.ref))) (he : H' e = some (.lst [])) : T3 S H' h (bs ++ [e]) (X ++ [[]]) := by
  obtain ⟨n1, n2⟩ := t.new ne
  obtain ⟨sh, h1, h2, h3, h4⟩ := t
  refine ⟨sh, hh, ?_, ?_, (h4.imp' fun b rows hb _ t => t.keep (fun o e => hk _ _ (fun z => h3 (z ▸ hb)) e) fun a o m1 m2 e' => ⟨hk _ _ m1 e', fun z => ?_⟩).snoc ⟨se, [], he, P1.nil⟩⟩
  · rw [List.nodup_append]
    refine ⟨h2, by simp, fun x hx y hy z => n2 ?_⟩
    have : y = e := by simpa using hy
    rw [← this, ← z]; exact hx
  · intro z
    rcases List.mem_append.mp z with w | w
    · exact h3 w
    · have : h = e := by simpa using w
      exact n1 this.symm
  · rcases List.mem_append.mp z with w | w
    · exact m2 w
    · have : a = e := by simpa using w
      rw [this, ne] at e'; cases e'
theorem T3.add (t : T3 S H h bs X) (hk : ∀ b o, b ≠ h → H b = some o → H' b = some o) (hh : H' h = some (.lst ((bs ++ [c]).map V.ref))) (nc : H c = none) (sc : S c) (hc : H' c = some (.lst (as.map V.ref))) (hA : P1 (fun a es => S a ∧ H a = none ∧ a ≠ c ∧ H' a = some (.lst es)) as rows) : T3 S H' h (bs ++ [c]) (X ++ [rows]) := by
  obtain ⟨n1, n2⟩ := t.new nc
  have t0 := t
  obtain ⟨sh, h1, h2, h3, h4⟩ := t
  refine ⟨sh, hh, ?_, ?_, (h4.imp' fun b rows hb _ t => t.keep (fun o e => hk _ _ (fun z => h3 (z ▸ hb)) e) fun a o m1 m2 e' => ⟨hk _ _ m1 e', fun z => ?_⟩).snoc ⟨sc, as, hc, hA.imp fun a es t => ?_⟩⟩
  · rw [List.nodup_append]
    refine ⟨h2, by simp, fun x hx y hy z => n2 ?_⟩
    have : y = c := by simpa using hy
    rw [← this, ← z]; exact hx
  · intro z
    rcases List.mem_append.mp z with w | w
    · exact h3 w
    · have : h = c := by simpa using w
      exact n1 this.symm
  · obtain ⟨m1, m2⟩ := t0.new t.2.1
    refine ⟨t.1, m1, fun z => ?_, t.2.2.2⟩
    rcases List.mem_append.mp z with w | w
    · exact m2 w
    · exact t.2.2.1 (by simpa using w)
  · rcases List.mem_append.mp z with w | w
    · exact m2 w
    · have : a = c := by simpa using w
      rw [this, nc] at e'; cases e'
theorem T3.inrow (t : T3 S H h bs X) (hb : bs[i]? = some b) (hr : X[i]? = some rows) : S b ∧ ∃ as : List Addr, H b = some (.lst (as.map V.ref)) ∧ P1 (T1 S h bs H) as rows := t.2.2.2.2.2 i b rows hb hr
/-- the rows of one room changed -/
theorem T3.one (t : T3 S H h bs X) (hb : bs[i]? = some b) (hk : ∀ c o, c ≠ b → H c = some o → H' c = some o) (hn : T2 S h bs H' b rows) : T3 S H' h bs (X.set i rows) := by
  obtain ⟨sh, h1, h2, h3, h4⟩ := t
  have bm := List.mem_of_getElem? hb
  refine ⟨sh, hk _ _ (fun z => h3 (z ▸ bm)) h1, h2, h3, h4.setx h2 hb (fun c rows hc n t => t.keep (fun o e => hk _ _ n e) fun a o m1 m2 e => ⟨hk _ _ (fun z => m2 (z ▸ bm)) e, m2⟩) hn⟩
theorem nodup_set {bs : List Addr} {c : Addr} (n : bs.Nodup) (nc : c ∉ bs) : ∀ {i : Nat}, (bs.set i c).Nodup := by
  intro i
  induction bs generalizing i with
  | nil => simp
  | cons x bs ih =>
    obtain ⟨n1, n2⟩ := List.nodup_cons.mp n
    cases i with
    | zero => exact List.nodup_cons.mpr ⟨fun z => nc (List.mem_cons_of_mem _ z), n2⟩
    | succ i =>
      refine List.nodup_cons.mpr ⟨fun z => ?_, ih n2 (fun z => nc (List.mem_cons_of_mem _ z))⟩
      rcases List.mem_or_eq_of_mem_set z with w | w
      · exact n1 w
      · exact nc (w ▸ List.mem_cons_self)
theorem T3.put (t : T3 S H h bs X) (nc : H c = none) (hk : ∀ b o, b ≠ h → H b = some o → H' b = some o) (hh : H' h = some (.lst ((bs.set i c).map V.ref))) (hn : T2 S h (bs.set i c) H' c rows) : T3 S H' h (bs.set i c) (X.set i rows) := by
  obtain ⟨n1, n2⟩ := t.new nc
  obtain ⟨sh, h1, h2, h3, h4⟩ := t
  have mem : ∀ {x}, x ∈ bs.set i c → x ∈ bs ∨ x = c := fun z => List.mem_or_eq_of_mem_set z
  refine ⟨sh, hh, nodup_set h2 n2, fun z => ?_, P1.set (h4.imp' fun b rows hb _ t => t.keep (fun o e => hk _ _ (fun z => h3 (z ▸ hb)) e) fun a o m1 m2 e' => ⟨hk _ _ m1 e', fun z => ?_⟩) hn⟩
  · rcases mem z with w | w
    · exact h3 w
    · exact n1 w.symm
  · rcases mem z with w | w
    · exact m2 w
    · rw [w, nc] at e'; cases e'
theorem T3.pop (t : T3 S H h bs X) (hk : ∀ b o, b ≠ h → H b = some o → H' b = some o) (hh : H' h = some (.lst (bs.dropLast.map V.ref))) : T3 S H' h bs.dropLast X.dropLast := by
  obtain ⟨sh, h1, h2, h3, h4⟩ := t
  have sub := List.dropLast_sublist bs
  refine ⟨sh, hh, h2.sublist sub, fun z => h3 (sub.subset z), P1.dropLast (h4.imp' fun b rows hb _ t => t.keep (fun o e => hk _ _ (fun z => h3 (z ▸ hb)) e) fun a o m1 m2 e' => ⟨hk _ _ m1 e', fun z => m2 (sub.subset z)⟩)⟩
theorem T3.same (s : Same H H') (t : T3 S H h bs X) : T3 S H' h bs X := by
  obtain ⟨sh, h1, h2, h3, h4⟩ := t
  exact ⟨sh, s _ _ h1, h2, h3, h4.imp fun b rows t => t.keep (fun o e => s _ _ e) fun a o m1 m2 e => ⟨s _ _ e, m2⟩⟩
theorem T3.weak {S' : Addr → Prop} (w : ∀ b, S b → S' b) (t : T3 S H h bs X) : T3 S' H h bs X := by
  obtain ⟨sh, h1, h2, h3, h4⟩ := t
  refine ⟨w _ sh, h1, h2, h3, h4.imp fun b rows t => ?_⟩
  obtain ⟨sb, as, h5, h6⟩ := t
  exact ⟨w _ sb, as, h5, h6.imp fun a es t => ⟨w _ t.1, t.2⟩⟩
theorem T2.r2 (t : T2 S h bs H b rows) : R2 S H b rows := by
  obtain ⟨s, as, h5, h6⟩ := t
  exact ⟨s, as, h5, h6.imp fun a es t => ⟨t.1, t.2.2.2⟩⟩
theorem T3.r3S (t : T3 S H h bs X) : R3 S H h X := by
  obtain ⟨sh, h1, h2, h3, h4⟩ := t
  refine ⟨bs, h1, h4.imp fun b rows t => ?_⟩
  obtain ⟨s, as, h5, h6⟩ := t
  exact ⟨s, as, h5, h6.imp fun a es t => ⟨t.1, t.2.2.2⟩⟩
theorem T3.r3 (t : T3 S H h bs X) : R3 (fun _ => True) H h X := by
  obtain ⟨sh, h1, h2, h3, h4⟩ := t
  refine ⟨bs, h1, h4.imp fun b rows t => ?_⟩
  obtain ⟨s, as, h5, h6⟩ := t
  exact ⟨trivial, as, h5, h6.imp fun a es t => ⟨trivial, t.2.2.2⟩⟩
end
theorem ixN_in {n j : Nat} (h : j < n) : ixN n (j : Int) = some j := by
  unfold ixN
  rw [if_pos (by omega), if_pos (by omega), Int.toNat_natCast]
theorem cut_refsT {as : List Addr} {k : Nat} : cutV (as.map V.ref) none (some (k : Int)) = (as.take k).map V.ref := by
  unfold cutV
  rw [HT.sIx_nat, HT.sIx_none, List.drop_zero, Nat.sub_zero, List.map_take, List.length_map]
  by_cases h : k ≤ as.length
  · rw [Nat.min_eq_left h]
  · rw [Nat.min_eq_right (by omega), List.take_of_length_le (by rw [List.length_map]; omega), List.take_of_length_le (by rw [List.length_map]; omega)]
theorem set_id {α : Type} {xs : List α} {i : Nat} {x : α} (h : xs[i]? = some x) : xs.set i x = xs := by
  refine List.ext_getElem? fun j => ?_
  rw [List.getElem?_set]
  by_cases z : i = j
  · subst z
    rw [if_pos rfl, if_pos (List.getElem?_eq_some_iff.mp h).1, h]
  · rw [if_neg z]
theorem snoc_ex {α : Type} {xs : List α} (h : xs ≠ []) : ∃ ys y, xs = ys ++ [y] := ⟨xs.dropLast, xs.getLast h, (List.dropLast_concat_getLast h).symm⟩
theorem tru_refs {as : List Addr} : decide (as ≠ []) = !(as.map V.ref).isEmpty := by cases as <;> rfl
def sp_cut_room (K : PySem.W.Frag) : Sp := fun vs H Q _ => ∃ (S : Addr → Prop) (h : Addr) (bs : List Addr) (X : List (List (List V))) (r m : Nat), vs = [.ref h, .int r, .int m] ∧ T3 S H h bs X ∧ Fr S H ∧
  ∀ bs' H', T3 S H' h bs' (X.modify r (List.take m)) → Kq S H H' → Q .non H'
def sp_leave_last_rooms (K : PySem.W.Frag) : Sp := fun vs H Q _ => ∃ (S : Addr → Prop) (h : Addr) (bs : List Addr) (X : List (List (List V))), vs = [.ref h] ∧ T3 S H h bs X ∧
  ∀ bs' H', T3 S H' h bs' (trim X) → Kq S H H' → Q .non H'
def sp_lay_row (K : PySem.W.Frag) : Sp := fun vs H Q _ => ∃ (S : Addr → Prop) (h : Addr) (bs : List Addr) (X : List (List (List V))) (r a : Nat) (l : Addr) (es : List V), vs = [.ref h, .int r, .int a, .ref l] ∧ T3 S H h bs X ∧ Fr S H ∧ SzX X ∧ r ≤ 129 ∧ a ≤ 129 ∧ ¬ S l ∧ H l = some (.lst es) ∧ es.length ≤ 5 ∧
  ∀ bs' H', T3 S H' h bs' (rowX X r a es) → Kq S H H' → Q .non H'
def sp_done_all (K : PySem.W.Frag) : Sp := fun vs H Q _ => ∃ (y ss : Addr) (w R : Int) (X : List (List (List V))) (sa : List Addr) (sts : List St3), vs = [.ref y, .ref ss] ∧ Yd H y w R X ∧ H ss = some (.lst (sa.map V.ref)) ∧ P1 (StA H) sa sts ∧
  ∀ y' h' bs' H', H' y' = some (.tup [.int w, .int (sts.foldl doR R), .ref h']) → T3 (fun b => H b = none) H' h' bs' (sts.foldl doX X) → Same H H' → Q (.ref y') H'
def sp_done (K : PySem.W.Frag) : Sp := fun vs H Q _ => ∃ (y s : Addr) (w R : Int) (X : List (List (List V))) (st : St3), vs = [.ref y, .ref s] ∧ Yd H y w R X ∧ StA H s st ∧
  ∀ y' h' bs' H', H' y' = some (.tup [.int w, .int (doR R st), .ref h']) → T3 (fun b => H b = none) H' h' bs' (doX X st) → Same H H' → Q (.ref y') H'
/-! ### the law's own yards -/
theorem str_app (a b : Str) : (a ++ b).cps = a.cps ++ b.cps := rfl
theorem str_applen (a b : Str) : (a ++ b).length = a.length + b.length := by
  show (a.cps ++ b.cps).size = _
  rw [Array.size_append]; rfl
theorem app_low {a b : Str} (h1 : ∀ c ∈ a.cps, c < 128) (h2 : ∀ c ∈ b.cps, c < 128) : ∀ c ∈ (a ++ b).cps, c < 128 := by
  intro c hc
  rw [str_app] at hc
  rcases Array.mem_append.mp hc with z | z
  · exact h1 c z
  · exact h2 c z
theorem join_low : ∀ ys : List Str, (∀ y ∈ ys, y.length = 1 ∧ ∀ c ∈ y.cps, c < 128) → (Str.join ⟨#[]⟩ ys).length = ys.length ∧ ∀ c ∈ (Str.join ⟨#[]⟩ ys).cps, c < 128
  | [], _ => ⟨rfl, fun c hc => absurd hc (by simp [Str.join, Str.empty])⟩
  | y :: r, h => by
    obtain ⟨h1, h2⟩ := join_low r fun z hz => h z (List.mem_cons_of_mem _ hz)
    obtain ⟨g1, g2⟩ := h y List.mem_cons_self
    rw [PyProof.Rows.join_nil_cons]
    refine ⟨by rw [str_applen, h1, g1, List.length_cons]; omega, app_low g2 h2⟩
theorem joinT (ys : List Str) : Txt.join (Str.ofString "") ys = Str.join ⟨#[]⟩ ys := by
  have e : Str.ofString "" = ⟨#[]⟩ := by decide
  rw [e]
  exact StrLaws.glued_eq_join _ _
theorem sum_ones : ∀ ys : List Str, (∀ y ∈ ys, y.length = 1 ∧ ∀ c ∈ y.cps, c < 128) → (ys.map (·.length)).sum = ys.length
  | [], _ => rfl
  | y :: r, h => by
    rw [List.map_cons, List.sum_cons, sum_ones r fun z hz => h z (List.mem_cons_of_mem _ hz), (h y List.mem_cons_self).1, List.length_cons]; omega
theorem strOk_low {z : Str} (h : ∀ c ∈ z.cps, c < 128) : PyData.strOk z = true := by
  unfold PyData.strOk
  rw [Array.all_eq_true_iff_forall_mem]
  intro c hc
  have := h c hc
  simp; omega
/-- what is new since H -/
def newSince (H H' : Hp) : Hp := fun b => match H b with
  | none => H' b
  | some _ => none
theorem newSince_at {H H' : Hp} {b : Addr} (n : H b = none) : newSince H H' b = H' b := by unfold newSince; rw [n]
theorem newSince_same {H H' : Hp} : Same (newSince H H') H' := fun b o e => by
  unfold newSince at e
  split at e
  · exact e
  · cases e
theorem newSince_some {H H' : Hp} {b : Addr} {o : HO} (e : newSince H H' b = some o) : H b = none := by
  unfold newSince at e
  split at e
  · assumption
  · cases e
/-- all but D -/
def mask (D : Addr) (H : Hp) : Hp := fun b => if b = D then none else H b
theorem mask_ne {D b : Addr} {H : Hp} (n : b ≠ D) : mask D H b = H b := if_neg n
theorem mask_same {D : Addr} {H : Hp} : Same (mask D H) H := fun b o e => by
  unfold mask at e
  split at e
  · cases e
  · exact e
theorem mask_keep {D : Addr} {H H' : Hp} (k : ∀ b o, b ≠ D → H b = some o → H' b = some o) : Same (mask D H) (mask D H') := fun b o e => by
  unfold mask at e ⊢
  split at e
  · cases e
  · rename_i n
    rw [if_neg n]; exact k b o n e
theorem mask_new {D : Addr} {H H' : Hp} {o : HO} (h : H D = some o) : Same (newSince H H') (mask D H') := fun b o' e => by
  have n := newSince_some e
  have nD : b ≠ D := fun z => by rw [z, h] at n; cases n
  rw [mask_ne nD]
  exact newSince_same _ _ e
def sp__law_thing (K : PySem.W.Frag) : Sp := fun vs H Q _ => ∃ (p : Addr) (N : Nat), vs = [.ref p] ∧ Hand H p N ∧ N + 30 < 2 ^ 60 ∧
  ∀ (z : Str) (H' : Hp), PyData.strOk z = true → Hand H' p (N + 20) → Kp H H' p → Q (.str z) H'
def sp__law_whole (K : PySem.W.Frag) : Sp := fun vs H Q _ => ∃ (n : Int), vs = [.int n] ∧ Q (.bl true) H
def sp__law_copy (K : PySem.W.Frag) : Sp := fun vs H Q _ => ∃ (y : Addr) (w R : Int) (X : List (List (List V))), vs = [.ref y] ∧ Yd H y w R X ∧
  ∀ y' h' bs' H', H y' = none → H' y' = some (.tup [.int w, .int R, .ref h']) → T3 (fun b => H b = none) H' h' bs' X → Same H H' → Q (.ref y') H'
theorem newSince_mono {H0 H H' : Hp} (f : ∀ b, H b = none → H0 b = none) : Same (newSince H H') (newSince H0 H') := fun b o e => by
  rw [newSince_at (f b (newSince_some e))]
  exact newSince_same _ _ e
theorem kp_free {H H' : Hp} {p : Addr} {N : Nat} (hh : Hand H' p N) (k : Kp H H' p) : ∀ b, H' b = none → H b = none := fun b n => k.free n (hh.ne n)
theorem pick40 {x y g : Int} (h : g = 0 ∨ g = 1) : ∃ b : Int, atI [V.int x, V.int y] g = some (.int b) ∧ (b = x ∨ b = y) := by
  rcases h with rfl | rfl
  · exact ⟨x, rfl, .inl rfl⟩
  · exact ⟨y, rfl, .inr rfl⟩
theorem kt_of {H H' : Hp} {p : Addr} {N : Nat} (hh : Hand H p N) (k : Kp H H' p) : ∀ t xs, H t = some (.tup xs) → H' t = some (.tup xs) := fun t xs e => by
  obtain ⟨l1, d, c, ns, h1, _⟩ := hh.ex
  exact k.1 _ _ e (ne_of e h1 (by intro z; cases z))
theorem En.new {H H1 H2 : Hp} {v : V} (kt : ∀ t xs, H1 t = some (.tup xs) → H2 t = some (.tup xs)) (h : En (newSince H H1) v) : En (newSince H H2) v := by
  obtain ⟨t, k, z, rfl, h1, h2⟩ := h
  exact ⟨t, k, z, rfl, by rw [newSince_at (newSince_some h1)]; exact kt _ _ (newSince_same _ _ h1), h2⟩
theorem let26 {r : Int} (h0 : 0 ≤ r) (h1 : r < 26) : ∃ c, atI (Str.ofString "abcdefghijklmnopqrstuvwxyz").cps.toList r = some c ∧ c < 128 := by
  obtain ⟨n, rfl⟩ : ∃ n : Nat, r = (n : Int) := ⟨r.toNat, by omega⟩
  have hl : (Str.ofString "abcdefghijklmnopqrstuvwxyz").cps.toList.length = 26 := by decide +kernel
  have ha : ∀ c ∈ (Str.ofString "abcdefghijklmnopqrstuvwxyz").cps.toList, c < 128 := by decide +kernel
  have hi := List.getElem?_eq_getElem (l := (Str.ofString "abcdefghijklmnopqrstuvwxyz").cps.toList) (i := n) (by omega)
  exact ⟨_, atI_nat hi, ha _ (List.mem_of_getElem? hi)⟩
theorem eqv_nil {α : Type} {f : α → PyData} {xs : List α} : PyData.eqv (.list (xs.map f)) (.list []) = decide (xs = []) := by
  rw [PyData.eqv]
  cases xs with
  | nil => rfl
  | cons x xs => rw [List.map_cons, PyData.eqvAll]; simp
theorem cut_refsD {as : List Addr} {k : Nat} : cutV (as.map V.ref) (some (k : Int)) none = (as.drop k).map V.ref := by
  unfold cutV
  rw [HT.sIx_nat, HT.sIx_none, List.length_map, ← List.map_drop]
  by_cases h : k ≤ as.length
  · rw [Nat.min_eq_left h, List.take_of_length_le (by rw [List.length_map, List.length_drop]; omega)]
  · rw [List.drop_eq_nil_of_le (by omega : as.length ≤ min k as.length), List.drop_eq_nil_of_le (by omega : as.length ≤ k)]
    simp
theorem cut_lastR {as : List Addr} {x : Addr} : cutV ((as ++ [x]).map V.ref) none (some (-1)) = as.map V.ref := by
  rw [List.map_append]
  have e : HT.sIx (as.map V.ref ++ [V.ref x]).length (as.map V.ref ++ [V.ref x]).length (some (-1)) = (as.map V.ref).length := by
    unfold HT.sIx
    rw [List.length_append, List.length_singleton]
    show (if (-1 : Int) < 0 then ((-1 : Int) + (((as.map V.ref).length + 1 : Nat) : Int)).toNat else _) = _
    rw [if_pos (by decide)]
    omega
  unfold cutV
  show ((as.map V.ref ++ [V.ref x]).drop _).take (HT.sIx (as.map V.ref ++ [V.ref x]).length (as.map V.ref ++ [V.ref x]).length (some (-1)) - _) = _
  rw [e, HT.sIx_none, List.drop_zero, Nat.sub_zero, List.take_left' rfl]
theorem set_cut {α : Type} {P : List α} {a : Nat} {x : α} (h : a < P.length) : P.take a ++ [x] ++ P.drop (a + 1) = P.set a x := by
  rw [List.set_eq_take_append_cons_drop, if_pos h, List.append_assoc]; rfl
theorem cut_tail1 {xs : List V} {v : V} : cutV (xs ++ [v]) (some (-1)) none = [v] := by
  have e : HT.sIx (xs ++ [v]).length 0 (some (-1)) = xs.length := by
    unfold HT.sIx
    rw [List.length_append, List.length_singleton]
    show (if (-1 : Int) < 0 then ((-1 : Int) + ((xs.length + 1 : Nat) : Int)).toNat else _) = _
    rw [if_pos (by decide)]
    omega
  unfold cutV
  rw [e, HT.sIx_none, List.drop_left, List.length_append, List.length_singleton, Nat.add_sub_cancel_left]; rfl
/-! lists to be spoilt -/
def Wr (S : Addr → Prop) (h : Addr) (bs : List Addr) (H : Hp) (n : Nat) (as : List Addr) : Prop := ∀ a ∈ as, S a ∧ a ≠ h ∧ a ∉ bs ∧ ∃ es, H a = some (.lst es) ∧ es.length ≤ n
def Wk (S : Addr → Prop) (h : Addr) (bs : List Addr) (i n : Nat) (H : Hp) : Prop := H h = some (.lst (bs.map V.ref)) ∧ ∀ j b, bs[j]? = some b → i ≤ j → S b ∧ ∃ as : List Addr, H b = some (.lst (as.map V.ref)) ∧ as.length ≤ 131 ∧ Wr S h bs H n as
def Kk (S : Addr → Prop) (H H' : Hp) : Prop := (∀ b o, ¬ S b → H b = some o → H' b = some o) ∧ ∀ t xs, H t = some (.tup xs) → H' t = some (.tup xs)
section
variable {S : Addr → Prop} {H H0 H1 : Hp} {h a0 b : Addr} {bs as : List Addr} {X : List (List (List V))} {i n m : Nat} {es0 : List V} {v : V} {o : HO}
theorem Kk.refl : Kk S H H := ⟨fun _ _ _ e => e, fun _ _ e => e⟩
theorem Kk.put (k : Kk S H0 H) (s : Same H H1) (sa : S a0) (ha : H1 a0 = some (.lst es0)) : Kk S H0 (upd H1 a0 o) :=
  ⟨fun b o n e => by rw [upd_ne (show b ≠ a0 from fun z => n (z ▸ sa))]; exact s _ _ (k.1 b o n e), fun t xs e => by
    have e1 := s _ _ (k.2 t xs e)
    rw [upd_ne (ne_of e1 ha (by intro z; cases z))]; exact e1⟩
theorem Wr.mono (l : n ≤ m) (w : Wr S h bs H n as) : Wr S h bs H m as := fun a ha => by
  obtain ⟨x1, x2, x3, es, x4, x5⟩ := w a ha
  exact ⟨x1, x2, x3, es, x4, by omega⟩
theorem Wk.mono {j : Nat} (l : n ≤ m) (w : Wk S h bs i n H) : Wk S h bs i m H := ⟨w.1, fun j b hb hj => by
  obtain ⟨x1, as, x2, x3, x4⟩ := w.2 j b hb hj
  exact ⟨x1, as, x2, x3, x4.mono l⟩⟩
theorem Wk.of (t : T3 S H h bs X) (sz : SzX X) : Wk S h bs 0 5 H := by
  obtain ⟨sh, h1, h2, h3, h4⟩ := t
  refine ⟨h1, fun j b hb _ => ?_⟩
  obtain ⟨rows, hx, sb, as, h5, h6⟩ := h4.get hb
  have hr := sz.2 rows (List.mem_of_getElem? hx)
  refine ⟨sb, as, h5, by rw [h6.1]; exact hr.1, fun a ha => ?_⟩
  obtain ⟨k, hk⟩ := List.getElem?_of_mem ha
  obtain ⟨es, he, t1, t2, t3, t4⟩ := h6.get hk
  exact ⟨t1, t2, t3, es, t4, hr.2 es (List.mem_of_getElem? he)⟩
theorem Wr.row (s : Same H H1) (l : es0.length ≤ n) (w : Wr S h bs H n as) : Wr S h bs (upd H1 a0 (.lst (es0 ++ [v]))) (n + 1) as := fun a ha => by
  obtain ⟨x1, x2, x3, es, x4, x5⟩ := w a ha
  by_cases z : a = a0
  · subst z
    exact ⟨x1, x2, x3, _, upd_same, by rw [List.length_append, List.length_singleton]; omega⟩
  · exact ⟨x1, x2, x3, es, by rw [upd_ne z]; exact s _ _ x4, by omega⟩
theorem Wk.row (s : Same H H1) (l : es0.length ≤ n) (n1 : a0 ≠ h) (n2 : a0 ∉ bs) (w : Wk S h bs i n H) : Wk S h bs i (n + 1) (upd H1 a0 (.lst (es0 ++ [v]))) := by
  refine ⟨by rw [upd_ne n1.symm]; exact s _ _ w.1, fun j b hb hj => ?_⟩
  obtain ⟨x1, as, x2, x3, x4⟩ := w.2 j b hb hj
  exact ⟨x1, as, by rw [upd_ne (show b ≠ a0 from fun z => n2 (z ▸ List.mem_of_getElem? hb))]; exact s _ _ x2, x3, x4.row s l⟩
theorem Wk.room (s : Same H H1) (nd : bs.Nodup) (hn : h ∉ bs) (hb : bs[i]? = some b) (w : Wk S h bs i n H) : Wk S h bs (i + 1) n (upd H1 b o) := by
  have bm := List.mem_of_getElem? hb
  refine ⟨by rw [upd_ne (show h ≠ b from fun z => hn (z ▸ bm))]; exact s _ _ w.1, fun j c hc hj => ?_⟩
  obtain ⟨x1, as, x2, x3, x4⟩ := w.2 j c hc (by omega)
  have cb : c ≠ b := fun z => by
    subst z
    have := (List.getElem?_inj (List.getElem?_eq_some_iff.mp hb).1 nd).mp (hb.trans hc.symm)
    omega
  refine ⟨x1, as, by rw [upd_ne cb]; exact s _ _ x2, x3, fun a ha => ?_⟩
  obtain ⟨y1, y2, y3, es, y4, y5⟩ := x4 a ha
  exact ⟨y1, y2, y3, es, by rw [upd_ne (show a ≠ b from fun z => y3 (z ▸ bm))]; exact s _ _ y4, y5⟩
theorem Wk.next (w : Wk S h bs i n H) : Wk S h bs (i + 1) n H := ⟨w.1, fun j b hb hj => w.2 j b hb (by omega)⟩
end
/-! ### found in yards -/
def eD (H : Hp) (v : V) : Int × Str := match v with
  | .ref t => (match H t with
    | some (.tup [.int k, .str z]) => (k, z)
    | _ => (0, ⟨#[]⟩))
  | _ => (0, ⟨#[]⟩)
theorem eD_at {H : Hp} {t : Addr} {k : Int} {z : Str} (h : H t = some (.tup [.int k, .str z])) : eD H (.ref t) = (k, z) := by
  show (match H t with | some (.tup [.int k, .str z]) => (k, z) | _ => (0, ⟨#[]⟩)) = _
  rw [h]
theorem En.pt {H : Hp} {v : V} (h : En H v) : ∃ t, v = .ref t ∧ H t = some (.tup [.int (eD H v).1, .str (eD H v).2]) ∧ PyData.strOk (eD H v).2 = true := by
  obtain ⟨t, k, z, rfl, h1, h2⟩ := h
  rw [eD_at h1]
  exact ⟨t, rfl, h1, h2⟩
theorem En.eD {H H' : Hp} {v : V} (kt : ∀ t xs, H t = some (.tup xs) → H' t = some (.tup xs)) (h : En H v) : eD H' v = eD H v := by
  obtain ⟨t, k, z, rfl, h1, h2⟩ := h
  rw [eD_at h1, eD_at (kt _ _ h1)]
def rowD (H : Hp) (es : List V) : List (Int × Str) := es.map (eD H)
def rowsDD (H : Hp) (rows : List (List V)) : List (List (Int × Str)) := rows.map (rowD H)
def keysD (rs : List (List (Int × Str))) : List (List Int) := rs.map fun r => r.map (·.1)
def DkX (H : Hp) (X : List (List (List V))) : Prop := ∀ rows ∈ X, ∀ es ∈ rows, ((rowD H es).map (·.1)).Nodup
theorem rowD_keep {H H' : Hp} {es : List V} (kt : ∀ t xs, H t = some (.tup xs) → H' t = some (.tup xs)) (h : ∀ v ∈ es, En H v) : rowD H' es = rowD H es := List.map_congr_left fun v hv => (h v hv).eD kt
theorem DkX.keep {H H' : Hp} {X : List (List (List V))} (kt : ∀ t xs, H t = some (.tup xs) → H' t = some (.tup xs)) (e : EnX H X) (h : DkX H X) : DkX H' X := fun rows hr es he => by
  rw [rowD_keep kt (e rows hr es he)]; exact h rows hr es he
theorem rowsDD_keep {H H' : Hp} {rows : List (List V)} (kt : ∀ t xs, H t = some (.tup xs) → H' t = some (.tup xs)) (h : ∀ es ∈ rows, ∀ v ∈ es, En H v) : rowsDD H' rows = rowsDD H rows := List.map_congr_left fun es he => rowD_keep kt (h es he)
def pick (k : Int) (r : List (Int × Str)) : Option Str := (r.find? fun e => decide (e.1 = k)).map (·.2)
def fnd (k : Int) : List (List (Int × Str)) → Option Str × Int
  | [] => (none, 0)
  | r :: rs => if stopsB k (r.map (·.1)) = true then (pick k r, 1) else ((fnd k rs).1, (fnd k rs).2 + 1)
theorem pick_mem {k : Int} {r : List (Int × Str)} : (pick k r).isSome = decide (k ∈ r.map (·.1)) := by
  unfold pick
  rw [Option.isSome_map]
  cases e : r.find? fun e => decide (e.1 = k) with
  | none =>
    have h := List.find?_eq_none.mp e
    refine (decide_eq_false fun hm => ?_).symm
    obtain ⟨x, hx, hk⟩ := List.mem_map.mp hm
    exact h x hx (by simpa using hk)
  | some x =>
    have h1 := List.mem_of_find?_eq_some e
    have h2 : x.1 = k := by simpa using List.find?_some e
    exact (decide_eq_true (List.mem_map.mpr ⟨x, h1, h2⟩)).symm
theorem fnd_look {k : Int} : ∀ {rs : List (List (Int × Str))}, lookV k (keysD rs) = ((fnd k rs).1.isSome, (fnd k rs).2)
  | [] => rfl
  | r :: rs => by
    show lookV k (r.map (·.1) :: keysD rs) = _
    rw [lookV, fnd]
    split
    · rw [pick_mem]
    · rw [fnd_look (rs := rs)]
theorem fnd_at {k : Int} {z : Str} : ∀ {rs : List (List (Int × Str))}, (fnd k rs).1 = some z → ∃ (i : Nat) (r : List (Int × Str)), (fnd k rs).2 = i + 1 ∧ rs[i]? = some r ∧ pick k r = some z
  | [], h => by cases h
  | r :: rs, h => by
    rw [fnd] at h ⊢
    split at h
    · rename_i c
      rw [if_pos c]
      exact ⟨0, r, rfl, rfl, h⟩
    · rename_i c
      rw [if_neg c]
      obtain ⟨i, r', h1, h2, h3⟩ := fnd_at (rs := rs) h
      exact ⟨i + 1, r', by show (fnd k rs).2 + 1 = _; rw [h1]; push_cast; rfl, by simpa using h2, h3⟩
def xV : Option Str → V
  | none => .non
  | some z => .str z
def ownR (X : List (List (List V))) (k R : Int) : List (List V) := (X[(roomV k R).toNat]?).getD []
/-! a dict of a row's pairs -/
theorem merge_out {k : Key} : ∀ {ps : List (Key × V)} {kvs : List (Key × V)}, (∀ p ∈ ps, p.1 ≠ k) → valV (mergeK kvs ps) k = valV kvs k
  | [], _, _ => rfl
  | p :: ps, kvs, h => by
    show valV (mergeK (putK kvs p.1 p.2) ps) k = _
    rw [merge_out fun q hq => h q (List.mem_cons_of_mem _ hq), valV_put, if_neg (fun z => h p List.mem_cons_self z.symm)]
theorem merge_pick {k : Int} {z : Str} : ∀ {r : List (Int × Str)} {kvs : List (Key × V)}, (r.map (·.1)).Nodup → pick k r = some z → valV (mergeK kvs (r.map fun e => ((Sum.inl e.1 : Key), V.str e.2))) (Sum.inl k) = some (.str z)
  | [], _, _, h => by cases h
  | e :: r, kvs, hn, h => by
    rw [List.map_cons] at hn
    obtain ⟨n1, n2⟩ := List.nodup_cons.mp hn
    show valV (mergeK (putK kvs (Sum.inl e.1) (.str e.2)) _) _ = _
    by_cases c : e.1 = k
    · have hz : e.2 = z := by
        unfold pick at h
        rw [List.find?_cons_of_pos (by simpa using c)] at h
        simpa using h
      rw [merge_out, valV_put, if_pos (by rw [c]), hz]
      intro p hp
      obtain ⟨x, hx, rfl⟩ := List.mem_map.mp hp
      intro w
      have w' : x.1 = k := Sum.inl.inj w
      exact n1 (by rw [c, ← w']; exact List.mem_map.mpr ⟨x, hx, rfl⟩)
    · refine merge_pick n2 ?_
      unfold pick at h ⊢
      rw [List.find?_cons_of_neg (by simpa using c)] at h
      exact h
def sp__law_room (K : PySem.W.Frag) : Sp := fun vs H Q _ => ∃ (k R : Int), vs = [.int k, .int R] ∧ 0 ≤ k ∧ k < 2 ^ 61 ∧ 1 ≤ R ∧ R ≤ 2 ^ 60 ∧ Q (.int (roomV k R)) H
def sp_rows_at (K : PySem.W.Frag) : Sp := fun vs H Q _ => ∃ (h : Addr) (bs : List Addr) (r : Nat), vs = [.ref h, .int r] ∧ H h = some (.lst (bs.map V.ref)) ∧ ∀ o H1, Same H H1 → (bs[r]? = some o ∨ (bs.length ≤ r ∧ H1 o = some (.lst []))) → Q (.ref o) H1
def sp_found (K : PySem.W.Frag) : Sp := fun vs H Q _ => ∃ (y : Addr) (w R k : Int) (X : List (List (List V))), vs = [.ref y, .int k] ∧ Yd H y w R X ∧ DkX H X ∧ 1 ≤ R ∧ R ≤ 2 ^ 60 ∧
  ∀ t H', H' t = some (.tup [xV (fnd k (rowsDD H (ownR X k R))).1, .int (fnd k (rowsDD H (ownR X k R))).2]) → Same H H' → Q (.ref t) H'
def sp__law_found (K : PySem.W.Frag) : Sp := fun vs H Q _ => ∃ (y : Addr) (w R k : Int) (X : List (List (List V))), vs = [.ref y, .int k] ∧ Yd H y w R X ∧ 0 ≤ k ∧ k < 2 ^ 61 ∧ 1 ≤ R ∧ R ≤ 2 ^ 60 ∧
  ∀ t H', H' t = some (.tup [xV (fnd k (rowsDD H (ownR X k R))).1, .int (fnd k (rowsDD H (ownR X k R))).2]) → Same H H' → Q (.ref t) H'
theorem CK.sm {H0 H' H2 : Hp} {p D : Addr} {N : Nat} {ys : List V} (c : CK H0 p D N ys H') (s : Same H' H2) : CK H0 p D N ys H2 :=
  ⟨c.hh.same s, s _ _ c.lat, c.kp.trans (Kp.of s c.hh), c.n0, c.np, c.nc⟩
theorem CK.mono {H0 H' : Hp} {p D : Addr} {N M : Nat} {ys : List V} (c : CK H0 p D N ys H') (h : N ≤ M) : CK H0 p D M ys H' := ⟨c.hh.mono h, c.lat, c.kp, c.n0, c.np, c.nc⟩
def sp__law_row (K : PySem.W.Frag) : Sp := fun vs H Q _ => ∃ (p kl : Addr) (N : Nat) (ks : List Int), vs = [.ref p, .ref kl] ∧ Hand H p N ∧ N + 2000 < 2 ^ 60 ∧ H kl = some (.lst (ks.map V.int)) ∧ kl ≠ p ∧ ks ≠ [] ∧ ks.length ≤ 50 ∧
  ∀ (l : Addr) (es : List V) (H' : Hp), H l = none → H' l = some (.lst es) → es.length ≤ 3 → (∀ v ∈ es, En (newSince H H') v) → ((rowD H' es).map (·.1)).Nodup → Hand H' p (N + 300) → Kp H H' p → Q (.ref l) H'
def sp__law_places (K : PySem.W.Frag) : Sp := fun vs H Q _ => ∃ (a : Addr) (ns : List Int) (l m : Int), vs = [.ref a, .int l, .int m] ∧ SqL K H a (ns.map V.int) ∧ ns.length ≤ 63 ∧ 0 ≤ l ∧ l ≤ 100 ∧ 0 ≤ m ∧ m ≤ 100 ∧
  ∀ (n : Nat) (l' : Addr) (H' : Hp), n ≤ 100 → H l' = none → H' l' = some (.lst ((upN n).map V.int)) → Same H H' → Q (.ref l') H'
def sp__law_right (K : PySem.W.Frag) : Sp := fun vs H Q _ => ∃ (y : Addr) (w R k : Int) (X : List (List (List V))), vs = [.ref y, .int k] ∧ Yd H y w R X ∧ DkX H X ∧ 0 ≤ k ∧ k < 2 ^ 61 ∧ 1 ≤ R ∧ R ≤ 2 ^ 60 ∧ ∀ H', Same H H' → Q (.bl true) H'
def kE (H : Hp) (t : Addr) : Int := (eD H (.ref t)).1
theorem rowD_refs {H : Hp} {ts : List Addr} : (rowD H (ts.map V.ref)).map (·.1) = ts.map (kE H) := by
  unfold rowD kE
  rw [List.map_map, List.map_map]; rfl
theorem inj_of {α : Type} {f : Addr → α} {ts : List Addr} (n : (ts.map f).Nodup) : ∀ t ∈ ts, ∀ u ∈ ts, f t = f u → t = u := fun t ht u hu e => by
  obtain ⟨i, hi⟩ := List.getElem?_of_mem ht
  obtain ⟨j, hj⟩ := List.getElem?_of_mem hu
  have e1 : (ts.map f)[i]? = (ts.map f)[j]? := by rw [List.getElem?_map, List.getElem?_map, hi, hj]; exact congrArg some e
  have il : i < (ts.map f).length := by rw [List.length_map]; exact (List.getElem?_eq_some_iff.mp hi).1
  have ij := (List.getElem?_inj il n).mp e1
  subst ij
  rw [hi] at hj
  exact Option.some.inj hj
theorem newSince_tup {H H' : Hp} {t : Addr} {xs : List V} (h : newSince H H' t = some (.tup xs)) : H' t = some (.tup xs) := newSince_same _ _ h
def xD : Option Str → PyData
  | none => .none
  | some z => .str z
theorem xV_gd {K : PySem.W.Frag} {H : Hp} {o : Option Str} (h : ∀ z, o = some z → PyData.strOk z = true) : GD K H 1 (xV o) (xD o) := by
  cases o with
  | none => exact ⟨.non, rfl, by simp [xD, PyData.depth]⟩
  | some z => exact GD.str (h z rfl)
theorem fnd_ok {k : Int} {rs : List (List (Int × Str))} (h : ∀ r ∈ rs, ∀ e ∈ r, PyData.strOk e.2 = true) : ∀ z, (fnd k rs).1 = some z → PyData.strOk z = true := fun z hz => by
  obtain ⟨i, r, _, h2, h3⟩ := fnd_at hz
  unfold pick at h3
  obtain ⟨e, he, rfl⟩ := Option.map_eq_some_iff.mp h3
  exact h r (List.mem_of_getElem? h2) e (List.mem_of_find?_eq_some he)
theorem rows_ok {H : Hp} {X : List (List (List V))} {k R : Int} (h : EnX H X) : (∀ es ∈ ownR X k R, ∀ v ∈ es, En H v) ∧ ∀ r ∈ rowsDD H (ownR X k R), ∀ e ∈ r, PyData.strOk e.2 = true := by
  have a : ∀ es ∈ ownR X k R, ∀ v ∈ es, En H v := by
    unfold ownR
    cases e : X[(roomV k R).toNat]? with
    | none => exact fun es he => by cases he
    | some rows => exact h rows (List.mem_of_getElem? e)
  refine ⟨a, fun r hr e he => ?_⟩
  unfold rowsDD at hr
  obtain ⟨es, hes, rfl⟩ := List.mem_map.mp hr
  unfold rowD at he
  obtain ⟨v, hv, rfl⟩ := List.mem_map.mp he
  obtain ⟨_, _, _, h3⟩ := (a es hes v hv).pt
  exact h3
/-! a yard being built while a hand is drawn from -/
section
variable {S : Addr → Prop} {H H' H0 H2 : Hp} {h a b c e p : Addr} {bs cs as : List Addr} {es : List V} {rows : List (List V)} {X : List (List (List V))} {i j m N M : Nat}
theorem T3.keepS (k : ∀ b o, S b → H b = some o → H' b = some o) (t : T3 S H h bs X) : T3 S H' h bs X := by
  obtain ⟨sh, h1, h2, h3, h4⟩ := t
  refine ⟨sh, k _ _ sh h1, h2, h3, h4.imp fun b rows t => ?_⟩
  obtain ⟨sb, as, h5, h6⟩ := t
  exact ⟨sb, as, k _ _ sb h5, h6.imp fun a es t => ⟨t.1, t.2.1, t.2.2.1, k _ _ t.1 t.2.2.2⟩⟩
theorem T3.grow (t : T3 S H h bs X) (hk : ∀ b o, S b → b ≠ h → H b = some o → H' b = some o) (hh : H' h = some (.lst ((bs ++ [c]).map V.ref))) (nc : H c = none) (sc : S c) (hc : H' c = some (.lst (as.map V.ref))) (hA : P1 (fun a es => S a ∧ H a = none ∧ a ≠ c ∧ H' a = some (.lst es)) as rows) : T3 S H' h (bs ++ [c]) (X ++ [rows]) := by
  obtain ⟨n1, n2⟩ := t.new nc
  have t0 := t
  obtain ⟨sh, h1, h2, h3, h4⟩ := t
  have old : P1 (T2 S h (bs ++ [c]) H') bs X := h4.imp' fun b rows hb _ t => by
    obtain ⟨sb, as, h5, h6⟩ := t
    refine ⟨sb, as, hk _ _ sb (fun z => h3 (z ▸ hb)) h5, h6.imp fun a es t => ⟨t.1, t.2.1, fun z => ?_, hk _ _ t.1 t.2.1 t.2.2.2⟩⟩
    rcases List.mem_append.mp z with w | w
    · exact t.2.2.1 w
    · have e : a = c := by simpa using w
      have := t.2.2.2
      rw [e, nc] at this; cases this
  have new : T2 S h (bs ++ [c]) H' c rows := ⟨sc, as, hc, hA.imp fun a es t => by
    obtain ⟨m1, m2⟩ := t0.new t.2.1
    refine ⟨t.1, m1, fun z => ?_, t.2.2.2⟩
    rcases List.mem_append.mp z with w | w
    · exact m2 w
    · exact t.2.2.1 (by simpa using w)⟩
  refine ⟨sh, hh, ?_, ?_, old.snoc new⟩
  · rw [List.nodup_append]
    refine ⟨h2, by simp, fun x hx y hy z => n2 ?_⟩
    have : y = c := by simpa using hy
    rw [← this, ← z]; exact hx
  · intro z
    rcases List.mem_append.mp z with w | w
    · exact h3 w
    · have : h = c := by simpa using w
      exact n1 this.symm
/-- another list of rooms: some of these, some new -/
theorem T3.other {as' : List Addr} {X' : List (List (List V))} (hh : H' e = some (.lst (cs.map V.ref))) (se : S e) (nd : cs.Nodup) (ne : e ∉ cs) (hP : P1 (fun b rows => S b ∧ ∃ as : List Addr, H' b = some (.lst (as.map V.ref)) ∧ P1 (fun a es => S a ∧ a ≠ e ∧ a ∉ cs ∧ H' a = some (.lst es)) as rows) cs X') : T3 S H' e cs X' := ⟨se, hh, nd, ne, hP⟩
end
structure Bd (H0 : Hp) (p : Addr) (N : Nat) (H : Hp) (h : Addr) (bs : List Addr) (X : List (List (List V))) : Prop where
  hh : Hand H p N
  kp : Kp H0 H p
  t : T3 (fun b => H0 b = none) H h bs X
  en : EnX H X
  dk : DkX H X
theorem hand_some {H : Hp} {p : Addr} {N : Nat} (h : Hand H p N) : ∃ o, H p = some o := by
  obtain ⟨l, d, c, ns, h1, _⟩ := h.ex
  exact ⟨_, h1⟩
theorem Bd.mono {H0 H : Hp} {p h : Addr} {N M : Nat} {bs : List Addr} {X : List (List (List V))} (b : Bd H0 p N H h bs X) (l : N ≤ M) : Bd H0 p M H h bs X := ⟨b.hh.mono l, b.kp, b.t, b.en, b.dk⟩
theorem Bd.draw {H0 H H2 : Hp} {p h : Addr} {N M : Nat} {bs : List Addr} {X : List (List (List V))} (b : Bd H0 p N H h bs X) (h0 : ∃ o, H0 p = some o) (k : Kp H H2 p) (hh2 : Hand H2 p M) : Bd H0 p M H2 h bs X := by
  obtain ⟨o, ho⟩ := h0
  have kt := kt_of b.hh k
  exact ⟨hh2, b.kp.trans k, b.t.keepS fun x o' sx e => k.1 _ _ e (fun z => by have sx' : H0 x = none := sx; rw [z, ho] at sx'; cases sx'), b.en.keep kt, b.dk.keep kt b.en⟩
theorem Bd.same {H0 H H2 : Hp} {p h : Addr} {N : Nat} {bs : List Addr} {X : List (List (List V))} (b : Bd H0 p N H h bs X) (s : Same H H2) : Bd H0 p N H2 h bs X :=
  ⟨b.hh.same s, b.kp.trans (Kp.of s b.hh), b.t.same s, b.en.same s, b.dk.keep (fun _ _ e => s _ _ e) b.en⟩
theorem Bd.free {H0 H : Hp} {p h e : Addr} {N : Nat} {bs : List Addr} {X : List (List (List V))} (b : Bd H0 p N H h bs X) (n : H e = none) : H0 e = none := b.kp.free n (b.hh.ne n)
/-- a list at a new place changed -/
theorem upd_kp {H0 H : Hp} {p b : Addr} {N : Nat} {o : HO} (hh0 : Hand H0 p N) (k : Kp H0 H p) (nb : H0 b = none) : Kp H0 (upd H b o) p ∧ (∀ {M : Nat}, Hand H p M → Hand (upd H b o) p M) := by
  obtain ⟨l, d, c, ns, h1, h2, _⟩ := hh0.ex
  have bp : b ≠ p := fun z => by rw [z, h1] at nb; cases nb
  refine ⟨⟨fun x u e n => by rw [upd_ne (ne_of_none e nb)]; exact k.1 _ _ e n, by rw [cells_upd bp]; exact k.2⟩, fun hh => hh.upd bp ?_⟩
  rw [k.2, cells_of h1]
  intro z
  have : l = b := Option.some.inj z
  rw [this, nb] at h2; cases h2
theorem roomV_pow {k : Int} {j : Nat} : k % 2 ^ (j + 1) = k % 2 ^ j + 2 ^ j * (k / 2 ^ j % 2) := by
  have pp := pow2_pos j
  rw [Int.pow_succ]
  generalize (2 : Int) ^ j = p at *
  have e : k / (p * 2) = k / p / 2 := (Int.ediv_ediv_of_nonneg (show 0 ≤ p by omega)).symm
  rw [Int.emod_def k (p * 2), Int.emod_def k p, Int.emod_def (k / p) 2, e, Int.mul_sub]
  have a : p * 2 * (k / p / 2) = p * (2 * (k / p / 2)) := Int.mul_assoc _ _ _
  omega
theorem low_of {k : Int} {i j : Nat} (h0 : 0 ≤ k) (h : k / 2 ^ j ≤ 0) (hij : j ≤ i) : k % 2 ^ i = k := by
  have p := pow2_pos j
  have m := pow2_le hij
  have : k < 2 ^ j := by
    by_cases c : k < 2 ^ j
    · exact c
    · have := Int.le_ediv_of_mul_le p (show 1 * 2 ^ j ≤ k by omega)
      omega
  exact Int.emod_eq_of_lt h0 (by omega)
theorem cut_intsT {us : List Int} {k : Nat} : cutV (us.map V.int) none (some (k : Int)) = (us.take k).map V.int := by
  unfold cutV
  rw [HT.sIx_nat, HT.sIx_none, List.drop_zero, Nat.sub_zero, List.map_take, List.length_map]
  by_cases h : k ≤ us.length
  · rw [Nat.min_eq_left h]
  · rw [Nat.min_eq_right (by omega), List.take_of_length_le (by rw [List.length_map]; omega), List.take_of_length_le (by rw [List.length_map]; omega)]
theorem refs_of {H : Hp} : ∀ {es : List V}, (∀ v ∈ es, En H v) → ∃ ts : List Addr, es = ts.map V.ref
  | [], _ => ⟨[], rfl⟩
  | v :: es, h => by
    obtain ⟨t, _, _, rfl, _⟩ := h v List.mem_cons_self
    obtain ⟨ts, rfl⟩ := refs_of fun v hv => h v (List.mem_cons_of_mem _ hv)
    exact ⟨t :: ts, rfl⟩
theorem pick_first {k : Int} {r : List (Int × Str)} : ((r.filter fun e => decide (e.1 = k)).map (fun e => V.str e.2) ++ [V.non])[0]? = some (xV (pick k r)) := by
  unfold pick
  rw [← List.head?_filter]
  cases r.filter fun e => decide (e.1 = k) with
  | nil => rfl
  | cons x l => rfl
section
variable {P : Program} {w : World} {K : PySem.W.Frag} {mg : Str → Option Value} {base : Heap}
theorem ok_last_bits {f : Addr} {fd : FuncData} (F : Fun K "last_bits" "last_bits" s_last_bits f fd) (mF : mg "last_bits" = some (.ref f)) (bF : Binds K fd ["key", "many"] []) (T : Bl mg)  : Cal P w K mg base "last_bits" ["key", "many"] 1 (sp_last_bits K) := by
  refine Cal.of F mF bF sc_last_bits (fun vs H Q E h => ?_) (fun cdv A outer s H vs Q E hr h => ?_)
  · obtain ⟨k, m, rfl, _⟩ := h; rfl
  obtain ⟨k, m, rfl, hm, q⟩ := h
  refine ⟨_, (pss_one (ps_ret (pe_op op_mod (pv 0) (pe_op op_shl pe_int (pv 1))))), ?_⟩
  rw [st_last_bits]
  have p := pow2_pos m
  walk_at "rd"
  have e : (1 : Int) * 2 ^ (m : Int).toNat = 2 ^ m := by rw [Int.one_mul, Int.toNat_natCast]
  rw [e]
  walk_at "rd"
  exact q
theorem ok_level {f : Addr} {fd : FuncData} (F : Fun K "level" "level" s_level f fd) (mF : mg "level" = some (.ref f)) (bF : Binds K fd ["rooms"] []) (T : Bl mg)  : Cal P w K mg base "level" ["rooms"] 1 (sp_level K) := by
  refine Cal.of F mF bF sc_level (fun vs H Q E h => ?_) (fun cdv A outer s H vs Q E hr h => ?_)
  · obtain ⟨R, rfl, _⟩ := h; rfl
  obtain ⟨R, rfl, h1, q⟩ := h
  refine ⟨_, (pss_one (ps_ret (pe_op op_sub (pe_bm0 PySem.F.plainAttrs_int PySem.F.slot_int_bit_length PySem.F.type_int_bit_length mt_bitlen (pv 0)) pe_int))), ?_⟩
  rw [st_level]
  walk_at "rd"
  refine ⟨rfl, ?_⟩
  walk_at "rd"
  rw [bits_eq h1]
  exact q
theorem ok_turn {f : Addr} {fd : FuncData} (F : Fun K "turn" "turn" s_turn f fd) (mF : mg "turn" = some (.ref f)) (bF : Binds K fd ["rooms"] []) (T : Bl mg) (C_level : Cal P w K mg base "level" ["rooms"] 1 (sp_level K)) : Cal P w K mg base "turn" ["rooms"] 2 (sp_turn K) := by
  refine Cal.of F mF bF sc_turn (fun vs H Q E h => ?_) (fun cdv A outer s H vs Q E hr h => ?_)
  · obtain ⟨R, rfl, _⟩ := h; rfl
  obtain ⟨R, rfl, h1, h2, q⟩ := h
  have hl := lg_60 h1 h2
  refine ⟨_, (pss_one (ps_ret (pe_op op_sub (pv 0) (pe_op op_shl pe_int (pcl C_level (hr.mono (by decide)) (pa_cons (pv 0) pa_nil stx_Name)))))), ?_⟩
  rw [st_turn]
  walk_at "rd"
  refine ⟨R, rfl, h1, ?_⟩
  walk_at "rd"
  have e : (1 : Int) * 2 ^ (lg R : Int).toNat = 2 ^ lg R := by rw [Int.one_mul, Int.toNat_natCast]
  rw [e]
  exact q
theorem ok_bits_for {f : Addr} {fd : FuncData} (F : Fun K "bits_for" "bits_for" s_bits_for f fd) (mF : mg "bits_for" = some (.ref f)) (bF : Binds K fd ["room", "rooms"] []) (T : Bl mg) (C_level : Cal P w K mg base "level" ["rooms"] 1 (sp_level K)) (C_turn : Cal P w K mg base "turn" ["rooms"] 2 (sp_turn K)) : Cal P w K mg base "bits_for" ["room", "rooms"] 3 (sp_bits_for K) := by
  refine Cal.of F mF bF sc_bits_for (fun vs H Q E h => ?_) (fun cdv A outer s H vs Q E hr h => ?_)
  · obtain ⟨r, R, rfl, _⟩ := h; rfl
  obtain ⟨r, R, rfl, h1, h2, q⟩ := h
  have hl := lg_60 h1 h2
  refine ⟨_, (pss_cons (ps_set (i := 2) sc_bits_for.nd rfl (Or.inl rfl) (pcl C_level (hr.mono (by decide)) (pa_cons (pv 1) pa_nil stx_Name)))
      (pss_cons (ps_if (pt_chain op_le op_lt (pcl C_turn (hr.mono (by decide)) (pa_cons (pv 1) pa_nil stx_Name)) (pv 0) (pe_op op_shl pe_int (pv 2))) (pss_one (ps_ret (pv 2))) pss_nil)
      (pss_one (ps_ret (pe_op op_add (pv 2) pe_int))))), ?_⟩
  rw [st_bits_for]
  walk_at "rd"
  refine ⟨R, rfl, h1, ?_⟩
  walk_at "rd"
  refine ⟨R, rfl, h1, h2, ?_⟩
  walk_at "rd"
  have e : (1 : Int) * 2 ^ (lg R : Int).toNat = 2 ^ lg R := by rw [Int.one_mul, Int.toNat_natCast]
  refine rd_if (fun c => ?_) (fun c => ?_)
  · walk_at "rd"
    rw [e]
    refine rd_if (fun d => ?_) (fun d => ?_)
    · walk_at "rd"
      unfold bitsV at q
      rw [if_pos ⟨c, d⟩] at q
      exact q
    · walk_at "rd"
      unfold bitsV at q
      rw [if_neg (fun z => d z.2)] at q
      exact q
  · walk_at "rd"
    unfold bitsV at q
    rw [if_neg (fun z => c z.1)] at q
    exact q
theorem ok_room_of {f : Addr} {fd : FuncData} (F : Fun K "room_of" "room_of" s_room_of f fd) (mF : mg "room_of" = some (.ref f)) (bF : Binds K fd ["key", "rooms"] []) (T : Bl mg) (C_last_bits : Cal P w K mg base "last_bits" ["key", "many"] 1 (sp_last_bits K)) (C_bits_for : Cal P w K mg base "bits_for" ["room", "rooms"] 3 (sp_bits_for K)) (C_level : Cal P w K mg base "level" ["rooms"] 1 (sp_level K)) : Cal P w K mg base "room_of" ["key", "rooms"] 4 (sp_room_of K) := by
  refine Cal.of F mF bF sc_room_of (fun vs H Q E h => ?_) (fun cdv A outer s H vs Q E hr h => ?_)
  · obtain ⟨k, R, rfl, _⟩ := h; rfl
  obtain ⟨k, R, rfl, h1, h2, q⟩ := h
  have hl := lg_60 h1 h2
  refine ⟨_, (pss_one (ps_ret (pcl C_last_bits (hr.mono (by decide)) (pa_cons (pv 0) (pa_cons (pcl C_bits_for (hr.mono (by decide)) (pa_cons (pcl C_last_bits (hr.mono (by decide)) (pa_cons (pv 0) (pa_cons (pcl C_level (hr.mono (by decide)) (pa_cons (pv 1) pa_nil stx_Name)) pa_nil stx_Call) stx_Name)) (pa_cons (pv 1) pa_nil stx_Name) stx_Call)) pa_nil stx_Call) stx_Name)))), ?_⟩
  rw [st_room_of]
  walk_at "rd"
  refine ⟨R, rfl, h1, ?_⟩
  walk_at "rd"
  refine ⟨k, lg R, rfl, by omega, ?_⟩
  walk_at "rd"
  refine ⟨_, R, rfl, h1, h2, ?_⟩
  walk_at "rd"
  refine ⟨k, bitsV (k % 2 ^ lg R) R, rfl, by unfold bitsV; split <;> omega, ?_⟩
  rw [bitsV_room]
  exact q

theorem ok_looked {f : Addr} {fd : FuncData} (F : Fun K "looked" "looked" s_looked f fd) (mF : mg "looked" = some (.ref f)) (bF : Binds K fd ["rows", "key"] []) (T : Bl mg)  : Cal P w K mg base "looked" ["rows", "key"] 1 (sp_looked K) := by
  refine Cal.of F mF bF sc_looked (fun vs H Q E h => ?_) (fun cdv A outer s H vs Q E hr h => ?_)
  · obtain ⟨l, k, rs, rfl, _⟩ := h; rfl
  obtain ⟨l, k, rs, rfl, ⟨as, hl, hL⟩, hz, q⟩ := h
  refine ⟨_, (pss_cons (ps_set (i := 2) sc_looked.nd rfl (Or.inl rfl) pe_int)
      (pss_cons (ps_for PassesOwn.never rfl (pi_list (pv 0)) (pg_name (i := 3) sc_looked.nd rfl (Or.inl rfl)) (pss_cons (ps_aug (i := 2) sc_looked.nd rfl (Or.inl rfl) pe_int ip_add)
      (pss_one (ps_if (PW.pt (pw_and (pt_truth (pv 3) (fun _ => rfl)) (pw_and1 (pt_cmpR op_ge (pe_ix ix_list (pv 3) (pe_un un_neg pe_int) (fun _ _ => rfl)) (pv 1) (nomark _))))) (pss_one (ps_ret (pe_tup (pa_cons (pe_cmpR op_in_seq (pv 1) (pv 3) (by with_unfolding_all rfl)) (pa_cons (pv 2) pa_nil stx_Name) stx_Compare)))) pss_nil))))
      (pss_one (ps_ret (pe_tup (pa_cons pe_bl (pa_cons (pv 2) pa_nil stx_Name) stx_Constant)))))), ?_⟩
  rw [st_looked]
  walk_at "rd"
  refine ⟨l, rfl, ⟨_, SqL.of hl⟩, ?_⟩
  refine for_list (xs := as.map V.ref) (fun i σ H' => (∃ x, σ = [some (.ref l), some (.int k), some (.int i), x]) ∧ H' = H ∧ lookV k rs = ((lookV k (rs.drop i)).1, (lookV k (rs.drop i)).2 + i)) ⟨⟨_, rfl⟩, rfl, by simp⟩ (fun i σ H' _ h => by rw [h.2.1]; exact SqL.of hl) ?_ ?_
  · rintro i x σ H' hx ⟨⟨x1, rfl⟩, rfl, hk⟩
    obtain ⟨a, ha, rfl⟩ := refs_get hx
    obtain ⟨r, hr1, har⟩ := hL.get ha
    rw [drop_get hr1] at hk
    walk_at "rd"
    have pass : ¬ stops k r → lookV k rs = ((lookV k (rs.drop (i + 1))).1, (lookV k (rs.drop (i + 1))).2 + ((i + 1 : Nat) : Int)) := fun z => by
      rw [hk, lookV_pass z]
      show (_, _) = (_, _)
      congr 1; omega
    refine ⟨decide (r ≠ []), .inl ⟨_, SqL.of har, emp_map r⟩, ?_⟩
    refine rd_if (fun c => ?_) (fun c => ?_)
    · obtain ⟨y, hy⟩ := last_ex c
      walk_at "rd"
      refine rd_ixL (SqL.of har) (last_at hy) ?_
      walk_at "rd"
      refine rd_if (fun d => ?_) (fun d => ?_)
      · walk_at "rd"
        refine rd_inI (SqL.of har) ?_
        walk_at "rd"
        refine ⟨(by show 2 ≤ sizeLine; decide), fun t nt => q t _ nt ?_ (same_new nt _)⟩
        rw [upd_same, hk, lookV_stop (stops_of hy d)]
        show some (HO.tup [V.bl _, V.int ((i : Int) + 1)]) = some (HO.tup [V.bl _, V.int (1 + (i : Int))])
        rw [Int.add_comm]
      · walk_at "rd"
        refine ⟨⟨_, rfl⟩, rfl, pass fun z => ?_⟩
        obtain ⟨x, hx, hkx⟩ := stops_ex z
        rw [hy] at hx
        cases hx
        exact d hkx
    · walk_at "rd"
      refine ⟨⟨_, rfl⟩, rfl, pass fun z => c fun e => ?_⟩
      obtain ⟨x, hx, _⟩ := stops_ex z
      rw [e] at hx; cases hx
  · rintro σ H' ⟨⟨x1, rfl⟩, rfl, hk⟩
    walk_at "rd"
    refine ⟨(by show 2 ≤ sizeLine; decide), fun t nt => q t _ nt ?_ (same_new nt _)⟩
    rw [List.length_map, hL.len, List.drop_length] at hk
    rw [upd_same, hk, List.length_map, hL.len]
    show some (HO.tup [V.bl false, V.int (rs.length : Int)]) = some (HO.tup [V.bl false, V.int (0 + (rs.length : Int))])
    rw [Int.zero_add]

theorem ok_rows_at {f : Addr} {fd : FuncData} (F : Fun K "rows_at" "rows_at" s_rows_at f fd) (mF : mg "rows_at" = some (.ref f)) (bF : Binds K fd ["held", "room"] []) (T : Bl mg)  : Cal P w K mg base "rows_at" ["held", "room"] 1 (sp_rows_at K) := by
  refine Cal.of F mF bF sc_rows_at (fun vs H Q E h => ?_) (fun cdv A outer s H vs Q E hr h => ?_)
  · obtain ⟨h, bs, r, rfl, _⟩ := h; rfl
  obtain ⟨h, bs, r, rfl, hh, q⟩ := h
  refine ⟨_, (pss_one (ps_ret (pe_ifExp (pt_cmpR op_lt (pv 1) (pe_callB call_lenL rfl T.len bt_len (pa_cons (pv 0) pa_nil stx_Name)) (nomark _)) (pe_ix ix_list (pv 0) (pv 1) (fun _ _ => rfl)) (pe_lst pa_nil)))), ?_⟩
  rw [st_rows_at]
  walk_at "rd"
  refine rd_if (fun c => ?_) (fun c => ?_)
  · rw [List.length_map] at c
    have hb := List.getElem?_eq_getElem (show r < bs.length by omega)
    walk_at "rd"
    refine rd_ixL (SqL.of hh) (at_ref' hb) ?_
    exact q _ H (Same.refl H) (.inl hb)
  · rw [List.length_map] at c
    walk_at "rd"
    exact ⟨by decide, fun e ne => q e _ (same_new ne _) (.inr ⟨by omega, upd_same⟩)⟩
theorem ok_found {f : Addr} {fd : FuncData} (F : Fun K "found" "found" s_found f fd) (mF : mg "found" = some (.ref f)) (bF : Binds K fd ["yard", "key"] []) (T : Bl mg) (C_rows_at : Cal P w K mg base "rows_at" ["held", "room"] 1 (sp_rows_at K)) (C_looked : Cal P w K mg base "looked" ["rows", "key"] 1 (sp_looked K)) (C_room_of : Cal P w K mg base "room_of" ["key", "rooms"] 4 (sp_room_of K)) : Cal P w K mg base "found" ["yard", "key"] 5 (sp_found K) := by
  refine Cal.of F mF bF sc_found (fun vs H Q E h => ?_) (fun cdv A outer s H vs Q E hr h => ?_)
  · obtain ⟨y, w, R, k, X, rfl, _⟩ := h; rfl
  obtain ⟨y, w, R, k, X, rfl, ⟨h0, hy, ⟨bs0, hh0, hP0⟩, hen, sz⟩, hdk, r1, r2, q⟩ := h
  have hu1 := hu_of hr
  refine ⟨_, (pss_cons (ps_asg (pv 0) (pg_tup rfl (pgs_cons (pg_name (i := 2) sc_found.nd rfl (Or.inl rfl)) (pgs_cons (pg_name (i := 3) sc_found.nd rfl (Or.inl rfl)) (pgs_cons (pg_name (i := 4) sc_found.nd rfl (Or.inl rfl)) pgs_nil)))))
      (pss_cons (ps_set (i := 5) sc_found.nd rfl (Or.inl rfl) (pcl C_rows_at (hr.mono (by decide)) (pa_cons (pv 4) (pa_cons (pcl C_room_of (hr.mono (by decide)) (pa_cons (pv 1) (pa_cons (pv 3) pa_nil stx_Name) stx_Name)) pa_nil stx_Call) stx_Name)))
      (pss_cons (ps_asg (pcl C_looked (hr.mono (by decide)) (pa_cons (pe_comp rfl (blkOk (sc := defScope s_found) (N := ["yard", "key", "wide", "rooms", "held", "own", "there", "looks"]) (vs := ["row"]) (fs := []) (js := []) (by decide +kernel) rfl rfl) (pi_list (pv 5)) (fun _ _ _ _ => pg_name (i := 0) (show (["row"] : List Str).Nodup by decide +kernel) rfl (Or.inl rfl)) (fun _ _ _ _ => pif0) (fun _ _ _ _ => (pe_comp rfl (blkOkM (N := ["row"]) (vs := ["entry"]) (fs := []) (js := []) rfl rfl (by kernel_rfl)) (pi_listK (K := K) rfl (pv 0)) (fun _ _ _ _ => pg_name (i := 0) (show (["entry"] : List Str).Nodup by decide +kernel) rfl (Or.inl rfl)) (fun _ _ _ _ => pif0) (fun _ _ _ _ => (pe_ix (ix_tupK (K := K) rfl) (pv 0) pe_int (fun _ _ => rfl)))))) (pa_cons (pv 1) pa_nil stx_Name) stx_ListComp)) (pg_tup rfl (pgs_cons (pg_name (i := 6) sc_found.nd rfl (Or.inl rfl)) (pgs_cons (pg_name (i := 7) sc_found.nd rfl (Or.inl rfl)) pgs_nil))))
      (pss_cons (ps_if (pt_not (pt_val (pv 6))) (pss_one (ps_ret (pe_tup (pa_cons pe_non (pa_cons (pv 7) pa_nil stx_Name) stx_Constant)))) pss_nil)
      (pss_one (ps_ret (pe_tup (pa_cons (pe_dget hu1 (pe_callTy (call_dictP rfl) rfl T.dict bt_dict (pa_cons (pe_ix ix_list (pv 5) (pe_op op_sub (pv 7) pe_int) (fun _ _ => rfl)) pa_nil stx_Subscript)) (pv 1) (fun _ _ => rfl)) (pa_cons (pv 7) pa_nil stx_Name) stx_Subscript)))))))), ?_⟩
  rw [st_found]
  walk_at "rd"
  refine ⟨y, _, rfl, SqT.of hy, rfl, _, _, rfl, _, _, rfl, _, _, rfl, rfl, ?_⟩
  walk_at "rd"
  refine ⟨k, R, rfl, r1, r2, ?_⟩
  have rb := roomV_lt (k := k) r1
  obtain ⟨r, hr0⟩ : ∃ r : Nat, roomV k R = (r : Int) := ⟨(roomV k R).toNat, by omega⟩
  rw [hr0]
  walk_at "rd"
  have bl0 := hP0.1
  have szl := sz.1
  have own_at : ∀ (o : Addr) (H1 : Hp), Same H H1 → (bs0[r]? = some o ∨ (bs0.length ≤ r ∧ H1 o = some (.lst []))) → ∃ as : List Addr, H1 o = some (.lst (as.map V.ref)) ∧ P1 (R1 (fun _ => True) H1) as (ownR X k R) := fun o H1 s1 ho => by
    have ex : (roomV k R).toNat = r := by omega
    rcases ho with ho | ⟨ho, h1⟩
    · obtain ⟨rows, hx, _, as, h2, h3⟩ := hP0.get ho
      refine ⟨as, s1 _ _ h2, ?_⟩
      unfold ownR
      rw [ex, hx]
      exact h3.imp fun a es t => t.keep fun _ _ _ e => s1 _ _ e
    · refine ⟨[], h1, ?_⟩
      unfold ownR
      rw [ex, List.getElem?_eq_none (by omega)]
      exact P1.nil
  have own_in : ownR X k R = [] ∨ ownR X k R ∈ X := by
    unfold ownR
    cases e : X[(roomV k R).toNat]? with
    | none => exact .inl rfl
    | some x => exact .inr (List.mem_of_getElem? e)
  have own_ok : (ownR X k R).length ≤ 131 ∧ ∀ es ∈ ownR X k R, es.length ≤ 5 ∧ (∀ v ∈ es, En H v) ∧ ((rowD H es).map (·.1)).Nodup := by
    rcases own_in with e | e
    · rw [e]; exact ⟨by simp, fun es he => by cases he⟩
    · exact ⟨(sz.2 _ e).1, fun es he => ⟨(sz.2 _ e).2 es he, hen _ e es he, hdk _ e es he⟩⟩
  refine ⟨h0, bs0, r, rfl, hh0, fun o H1 s1 ho => ?_⟩
  obtain ⟨as, ho1, hA⟩ := own_at o H1 s1 ho
  obtain ⟨rl, hrow⟩ := own_ok
  generalize ownR X k R = rows at hA rl hrow q
  have al := hA.1
  walk_at "rd"
  refine ⟨o, rfl, ⟨_, SqL.of ho1⟩, fun D nD => ?_⟩
  refine comp_list (xs := as.map V.ref) (fun i σ' ys H' => (∃ x, σ' = [x]) ∧ Same H1 H' ∧ ∃ cs : List Addr, ys = cs.map V.ref ∧ H' D = some (.lst ys) ∧ (∀ c ∈ cs, c ≠ D) ∧ Ls H' cs (keysD ((rowsDD H rows).take i))) D ⟨⟨_, rfl⟩, same_new nD _, [], rfl, upd_same, (fun _ h => by cases h), trivial⟩ (fun i σ' ys H' _ h => SqL.of (h.2.1 _ _ ho1)) ?_ ?_
  · rintro i x σ' ys H2 hx ⟨⟨x1, rfl⟩, s2, cs, rfl, hD, hcD, hC⟩
    obtain ⟨a, ha, rfl⟩ := refs_get hx
    obtain ⟨es, hes, _, ha1⟩ := hA.get ha
    have il := (List.getElem?_eq_some_iff.mp ha).1
    obtain ⟨el, hen2, _⟩ := hrow es (List.mem_of_getElem? hes)
    have s12 := s1.trans s2
    have cl := hC.len
    unfold keysD rowsDD at cl
    rw [List.length_map, List.length_take, List.length_map] at cl
    walk_at "rd"
    refine ⟨a, rfl, ⟨_, SqL.of (s2 _ _ ha1)⟩, fun D' nD' => ?_⟩
    have DD : D' ≠ D := fun z => by rw [z, hD] at nD'; cases nD'
    refine comp_list (xs := es) (fun j σ' ys H' => (∃ x, σ' = [x]) ∧ Same H2 H' ∧ ys = ((rowD H es).take j).map (fun e => V.int e.1) ∧ H' D' = some (.lst ys)) D' ⟨⟨_, rfl⟩, same_new nD' _, rfl, upd_same⟩ (fun i σ' ys H' _ h => SqL.of (h.2.1 _ _ (s2 _ _ ha1))) ?_ ?_
    · rintro j x σ' ys H3 hx ⟨⟨x2, rfl⟩, s3, rfl, hD'⟩
      obtain ⟨t, et, ht, _⟩ := (hen2 x (List.mem_of_getElem? hx)).pt
      have jl := (List.getElem?_eq_some_iff.mp hx).1
      have ht3 := s3 _ _ (s12 _ _ ht)
      have hxd : (rowD H es)[j]? = some (eD H x) := by unfold rowD; rw [List.getElem?_map, hx]; rfl
      rw [et]
      walk_at "rd"
      refine ⟨hD', by rw [List.length_map, List.length_take]; exact small1000 (by omega), ⟨_, rfl⟩, fun b o e => by rw [upd_ne (ne_of_none e nD')]; exact s3 _ _ e, ?_, upd_same⟩
      rw [take_get hxd, List.map_append]; rfl
    · rintro σ' ys H3 ⟨⟨x2, rfl⟩, s3, rfl, hD'⟩
      rw [List.take_of_length_le (by unfold rowD; rw [List.length_map]; exact Nat.le_refl _)] at hD'
      have hxr : (rowsDD H rows)[i]? = some (rowD H es) := by unfold rowsDD; rw [List.getElem?_map, hes]; rfl
      refine ⟨s3 _ _ hD, by rw [List.length_map]; exact small1000 (by omega), ⟨_, rfl⟩, fun b o e => by rw [upd_ne (ne_of_none e nD)]; exact s3 _ _ (s2 _ _ e), cs ++ [D'], by rw [List.map_append]; rfl, upd_same, fun c hc => ?_, ?_⟩
      · rcases List.mem_append.mp hc with z | z
        · exact hcD c z
        · have e : c = D' := by simpa using z
          rw [e]; exact DD
      · rw [take_get hxr]
        unfold keysD
        rw [List.map_append]
        refine Ls.snoc ?_ (hC.same fun c hc o e => by rw [upd_ne (hcD c hc)]; exact s3 _ _ e)
        rw [upd_ne DD, hD', List.map_map]; rfl
  · rintro σ' ys H2 ⟨⟨x1, rfl⟩, s2, cs, rfl, hD, hcD, hC⟩
    have rdl : (rowsDD H rows).length = rows.length := List.length_map _
    rw [List.length_map, al, ← rdl, List.take_length] at hC
    have s12 := s1.trans s2
    walk_at "rd"
    refine ⟨D, k, keysD (rowsDD H rows), rfl, ⟨cs, hD, hC⟩, by unfold keysD; rw [List.length_map, rdl]; omega, fun t1 H3 nt1 ht1 s3 => ?_⟩
    rw [fnd_look] at ht1
    have s13 := s12.trans s3
    cases hf : (fnd k (rowsDD H rows)).1 with
    | none =>
      rw [hf] at q
      have ht2 : H3 t1 = some (.tup [.bl false, .int (fnd k (rowsDD H rows)).2]) := by rw [ht1, hf]; rfl
      refine ⟨t1, _, rfl, SqT.of ht2, rfl, _, _, rfl, _, _, rfl, rfl, ?_⟩
      walk_at "rd"
      refine ⟨(by show 2 ≤ sizeLine; decide), fun t nt => ?_⟩
      generalize hE : upd H3 t _ = H4
      obtain ⟨ht, s4⟩ := newo nt hE
      clear hE
      exact q t H4 ht (s13.trans s4)
    | some z =>
      rw [hf] at q
      obtain ⟨i, rw', e1, e2, e3⟩ := fnd_at hf
      rw [e1] at q
      have ht2 : H3 t1 = some (.tup [.bl true, .int ((i : Int) + 1)]) := by rw [ht1, hf, e1]; rfl
      refine ⟨t1, _, rfl, SqT.of ht2, rfl, _, _, rfl, _, _, rfl, rfl, ?_⟩
      unfold rowsDD at e2
      rw [List.getElem?_map] at e2
      obtain ⟨es, hes, rfl⟩ := Option.map_eq_some_iff.mp e2
      obtain ⟨a, ha, _, ha1⟩ := hA.at' hes
      obtain ⟨el, hen2, hnd⟩ := hrow es (List.mem_of_getElem? hes)
      have ho3 := s3 _ _ (s2 _ _ ho1)
      have ha3 := s3 _ _ (s2 _ _ ha1)
      obtain ⟨ts, ets⟩ := refs_of hen2
      walk_at "rd"
      rw [show (i : Int) + 1 - 1 = (i : Int) by omega]
      refine rd_ixL (SqL.of ho3) (at_ref' ha) ?_
      walk_at "rd"
      rw [ets] at ha3
      have tl : ts.length = es.length := by rw [ets, List.length_map]
      refine ⟨a, ts, (rowD H es).map (fun e => ((Sum.inl e.1 : Key), V.str e.2)), rfl, SqL.of ha3, by omega, by unfold rowD; rw [List.length_map, List.length_map]; exact tl, fun j t p ej ep => ?_, fun d nd => ?_⟩
      · have hv : es[j]? = some (.ref t) := by rw [ets, List.getElem?_map, ej]; rfl
        obtain ⟨t', et, ht', _⟩ := (hen2 _ (List.mem_of_getElem? hv)).pt
        have ep2 : p = ((Sum.inl (eD H (.ref t)).1 : Key), V.str (eD H (.ref t)).2) := by
          unfold rowD at ep
          rw [List.getElem?_map, List.getElem?_map, hv] at ep
          simpa using ep.symm
        cases et
        rw [ep2]
        exact s13 _ _ ht'
      generalize hE : upd H3 d _ = H4
      obtain ⟨hd, s4⟩ := newo nd hE
      clear hE
      walk_at "rd"
      have hg := DGet.k (k := Sum.inl k) hd
      rw [merge_pick hnd e3] at hg
      refine ⟨d, .str z, rfl, hg, ?_⟩
      walk_at "rd"
      refine ⟨(by show 2 ≤ sizeLine; decide), fun t nt => ?_⟩
      generalize hE : upd H4 t _ = H5
      obtain ⟨ht, s5⟩ := newo nt hE
      clear hE
      exact q t H5 ht ((s13.trans s4).trans s5)
theorem ok__law_open {f : Addr} {fd : FuncData} (F : Fun K "_law_open" "_law_open" s__law_open f fd) (mF : mg "_law_open" = some (.ref f)) (bF : Binds K fd ["_law_script", "_law_place"] []) (T : Bl mg)  : Cal P w K mg base "_law_open" ["_law_script", "_law_place"] 1 (sp__law_open K) := by
  refine Cal.of F mF bF sc__law_open (fun vs H Q E h => ?_) (fun cdv A outer s H vs Q E hr h => ?_)
  · obtain ⟨a, ns, pl, rfl, _⟩ := h; rfl
  obtain ⟨a, ns, pl, rfl, hS, hlen, h0, h1, q⟩ := h
  have hu := hr.units
  refine ⟨_, (pss_cons (ps_setc (i := 2) sc__law_open.nd rfl rfl rfl (blkOk (sc := defScope s__law_open) (N := ["_law_script", "_law_place", "_law_cells", "_law_at", "_law_digits"]) (vs := ["_law_cell"]) (fs := []) (js := []) (by decide +kernel) rfl rfl) (pi_list (pe_slice sl_list (pv 0) po_none (po_some pe_int))) (fun _ _ _ _ => pg_name (i := 0) (show (["_law_cell"] : List Str).Nodup by decide +kernel) rfl (Or.inl rfl)) (fun _ _ _ _ => pif0) (fun _ _ _ _ => (pe_callB call_abs1 rfl T.abs bt_abs (pa_cons (pv 0) pa_nil stx_Name))))
      (pss_cons (ps_cut (ps_if (pt_cmpR (op_eqD hu) (pv 2) (pe_lst pa_nil) (nomark _)) (pss_one (ps_set (i := 2) sc__law_open.nd rfl (Or.inl rfl) (pe_lst (pa_cons pe_int pa_nil stx_Constant)))) pss_nil))
      (pss_cons (ps_set (i := 3) sc__law_open.nd rfl (Or.inl rfl) (pe_op op_mod (pv 1) (pe_callB call_lenL rfl T.len bt_len (pa_cons (pv 2) pa_nil stx_Name))))
      (pss_cons (ps_set (i := 4) sc__law_open.nd rfl (Or.inl rfl) pe_int)
      (pss_cons (ps_cut (ps_if (PW.pt (pw_and (pt_cmpR op_ge (pe_ix ix_list (pv 2) (pv 3) (fun _ _ => rfl)) (pe_powC (c := 1000000000000000000) (by decide +kernel) ⟨by decide, by decide, by decide⟩) (nomark _)) (pw_and1 (pt_cmpR op_lt (pv 1) (pe_callB call_lenL rfl T.len bt_len (pa_cons (pv 2) pa_nil stx_Name)) (nomark _))))) (pss_one (ps_set (i := 4) sc__law_open.nd rfl (Or.inl rfl) (pe_ix ix_list (pv 2) (pv 3) (fun _ _ => rfl)))) pss_nil))
      (pss_one (ps_ret (pe_lst (pa_cons (pv 4) (pa_cons (pe_op op_add pe_int (pe_op op_mul pe_int (pv 1))) (pa_cons (pe_op op_cat (pe_slice sl_list (pv 2) (po_some (pv 3)) po_none) (pe_slice sl_list (pv 2) po_none (po_some (pv 3)))) pa_nil stx_BinOp) stx_BinOp) stx_Name))))))))), ?_⟩
  rw [st__law_open]
  walk_at "rd"
  refine rd_slL hS fun p1 n1 => ?_
  have hcut : cutV (ns.map V.int) none (some 63) = ns.map V.int := by
    have := cut_hi (ms := ns) (k := 63)
    rw [List.take_of_length_le hlen] at this
    exact this
  rw [hcut]
  have s1 := same_new n1 (.lst (ns.map V.int))
  have hp1 : (upd H p1 (.lst (ns.map V.int))) p1 = some (.lst (ns.map V.int)) := upd_same
  generalize upd H p1 (.lst (ns.map V.int)) = H1 at s1 hp1 ⊢
  refine ⟨p1, rfl, ⟨_, SqL.of hp1⟩, fun D nD => ?_⟩
  have nD0 : H D = none := s1.free nD
  have npD : p1 ≠ D := ne_of_none hp1 nD
  refine comp_list (xs := ns.map V.int) (fun i σ' ys H' => (∃ x, σ' = [x]) ∧ (∃ ms : List Int, ys = ms.map V.int ∧ ms.length = i) ∧ Same H H' ∧ H' p1 = some (.lst (ns.map V.int)) ∧ H' D = some (.lst ys)) D ?_ (fun i σ' ys H' _ h => SqL.of h.2.2.2.1) ?_ ?_
  · exact ⟨⟨_, rfl⟩, ⟨[], rfl, rfl⟩, s1.trans (same_new nD _), by rw [upd_ne npD]; exact hp1, upd_same⟩
  · rintro i x σ' ys H' hx ⟨⟨y, rfl⟩, ⟨ms, rfl, hms⟩, g1, g2, g3⟩
    have hil : i < (ns.map V.int).length := (List.getElem?_eq_some_iff.mp hx).1
    rw [List.length_map] at hil
    obtain ⟨z, rfl⟩ : ∃ z, x = V.int z := by
      rw [List.getElem?_map] at hx
      cases e : ns[i]? with
      | none => rw [e] at hx; cases hx
      | some z => rw [e] at hx; exact ⟨z, (Option.some.inj hx).symm⟩
    walk_at "rd"
    refine ⟨g3, by rw [List.length_map]; exact small1000 (by omega), ⟨_, rfl⟩, ⟨ms ++ [_], (by rw [List.map_append]; rfl), by rw [List.length_append, hms]; rfl⟩, fun b o e => ?_, ?_, upd_same⟩
    · rw [upd_ne (ne_of_none e nD0)]; exact g1 _ _ e
    · rw [upd_ne npD]; exact g2
  · rintro σ' ys H' ⟨⟨y, rfl⟩, ⟨ms, rfl, hms⟩, g1, g2, g3⟩
    walk_at "rd"
    refine ⟨fun σ H2 => ∃ C ms, σ = [some (.ref a), some (.int pl), some (.ref C), none, none] ∧ ms ≠ [] ∧ ms.length ≤ 63 ∧ H2 C = some (.lst (List.map V.int ms)) ∧ Same H H2, ?_, ?_⟩
    · walk_at "rd"
      refine ⟨by decide, fun p2 n2 => ?_⟩
      refine ⟨.list (ms.map PyData.int), .list [], DV.lst (SqL.of (by rw [upd_ne (ne_of_none g3 n2)]; exact g3)) (DVs.ints ms), DV.lst (SqL.of upd_same) .nil, shaped_ints ms, rfl, ?_⟩
      have e : PyData.eqv (.list (ms.map PyData.int)) (.list []) = decide (ms = []) := by
        have := eqv_ints ms []
        rw [← this, PyData.eqv]; rfl
      rw [e]
      have s2 := g1.trans (same_new n2 (.lst []))
      have g32 : (upd H' p2 (.lst [])) D = some (.lst (ms.map V.int)) := by rw [upd_ne (ne_of_none g3 n2)]; exact g3
      generalize upd H' p2 (.lst []) = H2 at s2 g32 ⊢
      walk_at "rd"
      refine rd_if (fun h => ?_) (fun h => ?_)
      · walk_at "rd"
        refine ⟨by decide, fun p3 n3 => ?_⟩
        walk_at "rd"
        exact ⟨p3, [0], rfl, by simp, by simp, upd_same, s2.trans (same_new n3 _)⟩
      · walk_at "rd"
        exact ⟨D, ms, rfl, h, by rw [hms, List.length_map]; exact hlen, g32, s2⟩
    · rintro σ H2 ⟨C, ms, rfl, hne, hml, hC, s2⟩
      have hnl := len_pos hne
      obtain ⟨v, hv⟩ := nsMod hne pl
      walk_at "rd"
      refine ⟨fun σ H3 => H3 = H2 ∧ ∃ d, σ = [some (.ref a), some (.int pl), some (.ref C), some (.int (pl % ((ms.map V.int).length : Int))), some (.int d)], ?_, ?_⟩
      · walk_at "rd"
        refine rd_ixL (SqL.of hC) hv ?_
        walk_at "rd"
        refine rd_if (fun h => ?_) (fun h => ?_)
        · walk_at "rd"
          refine rd_if (fun h => ?_) (fun h => ?_)
          · walk_at "rd"
            refine rd_ixL (SqL.of hC) hv ?_
            walk_at "rd"
            exact ⟨rfl, _, rfl⟩
          · walk_at "rd"
            exact ⟨rfl, _, rfl⟩
        · walk_at "rd"
          exact ⟨rfl, _, rfl⟩
      · rintro σ H3 ⟨rfl, d, rfl⟩
        obtain ⟨k, hk, hk2⟩ : ∃ k : Nat, pl % ((ms.map V.int).length : Int) = (k : Int) ∧ k < ms.length := by
          have z0 := Int.emod_nonneg pl (show ((ms.map V.int).length : Int) ≠ 0 by omega)
          have z1 := Int.emod_lt_of_pos pl hnl
          rw [List.length_map] at z0 z1 ⊢
          exact ⟨(pl % (ms.length : Int)).toNat, by omega, by omega⟩
        rw [hk]
        walk_at "rd"
        refine rd_slL (SqL.of hC) fun p4 n4 => ?_
        walk_at "rd"
        have hC4 : (upd H3 p4 (.lst (cutV (ms.map V.int) (some (k : Int)) none))) C = some (.lst (ms.map V.int)) := by rw [upd_ne (ne_of_none hC n4)]; exact hC
        refine rd_slL (SqL.of hC4) fun p5 n5 => ?_
        rw [cut_lo, cut_hi]
        rw [cut_lo] at hC4 n5
        have s4 := s2.trans (same_new n4 (.lst ((ms.drop k).map V.int)))
        have hp4 : (upd H3 p4 (.lst ((ms.drop k).map V.int))) p4 = some (.lst ((ms.drop k).map V.int)) := upd_same
        generalize upd H3 p4 (.lst ((ms.drop k).map V.int)) = H4 at s4 hp4 hC4 n5 ⊢
        have s5 := s4.trans (same_new n5 (.lst ((ms.take k).map V.int)))
        have hp5 : (upd H4 p5 (.lst ((ms.take k).map V.int))) p5 = some (.lst ((ms.take k).map V.int)) := upd_same
        have hp45 : (upd H4 p5 (.lst ((ms.take k).map V.int))) p4 = some (.lst ((ms.drop k).map V.int)) := by rw [upd_ne (ne_of_none hp4 n5)]; exact hp4
        generalize upd H4 p5 (.lst ((ms.take k).map V.int)) = H5 at s5 hp5 hp45 ⊢
        refine ⟨p4, p5, _, _, rfl, rfl, hp45, hp5, (by rw [List.length_map, List.length_map, List.length_drop, List.length_take]; exact Nat.le_of_lt (small1000 (by omega))), fun p6 n6 => ?_⟩
        walk_at "rd"
        refine ⟨(by show 3 ≤ sizeLine; decide), fun p7 n7 => ?_⟩
        have s6 := s5.trans (same_new n6 (.lst ((ms.drop k).map V.int ++ (ms.take k).map V.int)))
        refine q p7 _ (s6.free n7) (s6.trans (same_new n7 _)) ⟨p6, d, 1 + 1009 * pl, ms.drop k ++ ms.take k, upd_same, ?_, by omega, by omega, ?_⟩
        · rw [upd_ne (ne_of_none upd_same n7), upd_same, List.map_append]
        · intro e
          have := congrArg List.length e
          rw [List.length_append, List.length_drop] at this
          simp at this
          omega
theorem ok__law_draw {f : Addr} {fd : FuncData} (F : Fun K "_law_draw" "_law_draw" s__law_draw f fd) (mF : mg "_law_draw" = some (.ref f)) (bF : Binds K fd ["_law_hand", "_law_many"] []) (T : Bl mg)  : Cal P w K mg base "_law_draw" ["_law_hand", "_law_many"] 1 (sp__law_draw K) := by
  refine Cal.of F mF bF sc__law_draw (fun vs H Q E h => ?_) (fun cdv A outer s H vs Q E hr h => ?_)
  · obtain ⟨p, N, n, rfl, _⟩ := h; rfl
  obtain ⟨p, N, n, rfl, hh, hN, hn, hn2, q⟩ := h
  obtain ⟨l, d, c, ns, hp, hl, hc0, hcN, hns⟩ := hh.ex
  have npl : l ≠ p := hand_ne hp hl
  have hnl := len_pos hns
  refine ⟨_, (pss_cons (ps_if (pt_cmpR op_gt (pe_ix ix_list (pv 0) pe_int (fun _ _ => rfl)) pe_int (nomark _)) (pss_cons (ps_set (i := 2) sc__law_draw.nd rfl (Or.inl rfl) (pe_op op_mod (pe_ix ix_list (pv 0) pe_int (fun _ _ => rfl)) (pv 1)))
      (pss_cons (ps_asg (pe_op op_fdivB (pe_ix ix_list (pv 0) pe_int (fun _ _ => rfl)) (pv 1)) (pg_sub (pv 0) pe_int set_list))
      (pss_one (ps_ret (pv 2))))) pss_nil)
      (pss_cons (ps_augS (pv 0) pe_int get_list pe_int ip_add set_list)
      (pss_cons (ps_set (i := 3) sc__law_draw.nd rfl (Or.inl rfl) (pe_ix ix_list (pv 0) pe_int (fun _ _ => rfl)))
      (pss_cons (ps_set (i := 4) sc__law_draw.nd rfl (Or.inl rfl) (pe_op op_mod (pe_op op_add (pe_op op_mod (pe_ix ix_list (pe_ix ix_list (pv 0) pe_int (fun _ _ => rfl)) (pe_op op_mod (pv 3) (pe_callB call_lenL rfl T.len bt_len (pa_cons (pe_ix ix_list (pv 0) pe_int (fun _ _ => rfl)) pa_nil stx_Subscript))) (fun _ _ => rfl)) pe_int) (pe_op op_mul pe_int (pv 3))) pe_int))
      (pss_cons (ps_set (i := 4) sc__law_draw.nd rfl (Or.inl rfl) (pe_op op_mod (pe_op op_add (pe_op op_add (pe_op op_pow (pv 4) pe_int) (pe_op op_mul (pe_op op_mul pe_int (pv 3)) (pv 3))) pe_int) pe_int))
      (pss_cons (ps_set (i := 4) sc__law_draw.nd rfl (Or.inl rfl) (pe_op op_mod (pe_op op_add (pe_op op_mul (pe_op op_pow (pv 4) pe_int) (pe_op op_add (pe_op op_mul pe_int (pv 3)) pe_int)) pe_int) pe_int))
      (pss_one (ps_ret (pe_op op_mod (pe_op op_fdivB (pe_op op_mod (pe_op op_mul (pv 4) pe_int) pe_int) pe_int) (pv 1)))))))))), ?_⟩
  rw [st__law_draw]
  walk_at "rd"
  refine rd_if (fun h => ?_) (fun h => ?_)
  · walk_at "rd"
    refine q _ _ (Int.emod_nonneg _ (by omega)) (Int.emod_lt_of_pos _ hn) ⟨l, d / n, c, ns, upd_same, ?_, hc0, by omega, hns⟩ (Kp.hand hp)
    rw [upd_ne npl]; exact hl
  · walk_at "rd"
    have hp1 : (upd H p (.lst [V.int d, .int (c + 1), .ref l])) p = some (.lst [.int d, .int (c + 1), .ref l]) := upd_same
    have hl1 : (upd H p (.lst [V.int d, .int (c + 1), .ref l])) l = some (.lst (ns.map V.int)) := by rw [upd_ne npl]; exact hl
    have k1 : Kp H (upd H p (.lst [V.int d, .int (c + 1), .ref l])) p := Kp.hand hp
    generalize upd H p (.lst [V.int d, .int (c + 1), .ref l]) = H1 at hp1 hl1 k1 ⊢
    walk_at "rd"
    obtain ⟨v, hv⟩ := nsMod hns (c + 1)
    refine rd_ixL (SqL.of hl1) hv ?_
    walk_at "rd"
    have hn0 : n ≠ 0 := by omega
    exact q _ _ (Int.emod_nonneg _ hn0) (Int.emod_lt_of_pos _ hn) ⟨l, d, c + 1, ns, hp1, hl1, by omega, by omega, hns⟩ k1
theorem ok__law_far {f : Addr} {fd : FuncData} (F : Fun K "_law_far" "_law_far" s__law_far f fd) (mF : mg "_law_far" = some (.ref f)) (bF : Binds K fd ["_law_hand", "_law_many"] []) (T : Bl mg) (C__law_draw : Cal P w K mg base "_law_draw" ["_law_hand", "_law_many"] 1 (sp__law_draw K)) : Cal P w K mg base "_law_far" ["_law_hand", "_law_many"] 2 (sp__law_far K) := by
  refine Cal.of F mF bF sc__law_far (fun vs H Q E h => ?_) (fun cdv A outer s H vs Q E hr h => ?_)
  · obtain ⟨p, N, n, rfl, _⟩ := h; rfl
  obtain ⟨p, N, n, rfl, hh, hN, hn, hn2, q⟩ := h
  obtain ⟨l, d, c, ns, hp, hl, hc0, hcN, hns⟩ := hh.ex
  refine ⟨_, (pss_cons (ps_if (pt_cmpR op_gt (pe_ix ix_list (pv 0) pe_int (fun _ _ => rfl)) pe_int (nomark _)) (pss_one (ps_ret (pcl C__law_draw (hr.mono (by decide)) (pa_cons (pv 0) (pa_cons (pv 1) pa_nil stx_Name) stx_Name)))) pss_nil)
      (pss_cons (ps_set (i := 2) sc__law_far.nd rfl (Or.inl rfl) pe_int)
      (pss_cons (ps_for PassesOwn.never rfl (pi_range1 rfl T.range (pa_cons pe_int pa_nil stx_Constant)) (pg_name (i := 3) sc__law_far.nd rfl (Or.inl rfl)) (pss_one (ps_set (i := 2) sc__law_far.nd rfl (Or.inl rfl) (pe_op op_add (pe_op op_mul (pv 2) (pe_powC (c := 1000000) (by decide +kernel) ⟨by decide, by decide, by decide⟩)) (pcl C__law_draw (hr.mono (by decide)) (pa_cons (pv 0) (pa_cons (pe_powC (c := 1000000) (by decide +kernel) ⟨by decide, by decide, by decide⟩) pa_nil stx_BinOp) stx_Name))))))
      (pss_one (ps_ret (pe_op op_mod (pv 2) (pv 1))))))), ?_⟩
  rw [st__law_far]
  walk_at "rd"
  refine rd_if (fun h => ?_) (fun h => ?_)
  · walk_at "rd"
    exact ⟨p, N, n, rfl, hh, by omega, hn, hn2, fun r H' h0 h1 h2 h3 => q r H' h0 h1 (h2.mono (by omega)) h3⟩
  · walk_at "rd"
    refine ⟨7, rfl, by omega, by omega, ?_⟩
    refine for_range (n := 7) (fun i σ H' => (∃ v x, σ = [some (.ref p), some (.int n), some (.int v), x]) ∧ Hand H' p (N + i) ∧ Kp H H' p ∧ i ≤ 7) ⟨⟨_, _, rfl⟩, hh, Kp.refl _ _, by omega⟩ ?_ ?_
    · rintro i σ H' hi ⟨⟨v, x, rfl⟩, h1, h2, h3⟩
      walk_at "rd"
      exact ⟨p, N + i, _, rfl, h1, by omega, by decide, by decide, fun r H2 h0 h4 h5 h6 => by
        walk_at "rd"
        exact ⟨⟨_, _, rfl⟩, h5, h2.trans h6, by omega⟩⟩
    · rintro σ H' ⟨⟨v, x, rfl⟩, h1, h2, h3⟩
      walk_at "rd"
      exact q _ _ (Int.emod_nonneg _ (by omega)) (Int.emod_lt_of_pos _ hn) h1 h2
theorem ok__law_power {f : Addr} {fd : FuncData} (F : Fun K "_law_power" "_law_power" s__law_power f fd) (mF : mg "_law_power" = some (.ref f)) (bF : Binds K fd ["_law_many"] []) (T : Bl mg)  : Cal P w K mg base "_law_power" ["_law_many"] 1 (sp__law_power K) := by
  refine Cal.of F mF bF sc__law_power (fun vs H Q E h => ?_) (fun cdv A outer s H vs Q E hr h => ?_)
  · obtain ⟨m, rfl, _⟩ := h; rfl
  obtain ⟨m, rfl, hm, q⟩ := h
  refine ⟨_, (pss_cons (ps_set (i := 1) sc__law_power.nd rfl (Or.inl rfl) pe_int)
      (pss_cons (ps_for PassesOwn.never rfl (pi_range1 rfl T.range (pa_cons (pv 0) pa_nil stx_Name)) (pg_name (i := 2) sc__law_power.nd rfl (Or.inl rfl)) (pss_one (ps_set (i := 1) sc__law_power.nd rfl (Or.inl rfl) (pe_op op_mul (pv 1) pe_int))))
      (pss_one (ps_ret (pv 1))))), ?_⟩
  rw [st__law_power]
  walk_at "rd"
  refine ⟨(m : Int), rfl, by omega, by omega, ?_⟩
  rw [show ((m : Int)).toNat = m from by omega]
  refine for_range (n := m) (fun i σ H' => (∃ x, σ = [some (.int m), some (.int (2 ^ i)), x]) ∧ H' = H) ⟨⟨_, rfl⟩, rfl⟩ ?_ ?_
  · rintro i σ H' hi ⟨⟨x, rfl⟩, rfl⟩
    walk_at "rd"
    exact ⟨⟨_, by rw [Int.pow_succ]⟩, rfl⟩
  · rintro σ H' ⟨⟨x, rfl⟩, rfl⟩
    walk_at "rd"
    exact q
theorem ok__law_key {f : Addr} {fd : FuncData} (F : Fun K "_law_key" "_law_key" s__law_key f fd) (mF : mg "_law_key" = some (.ref f)) (bF : Binds K fd ["_law_hand"] []) (T : Bl mg) (C__law_draw : Cal P w K mg base "_law_draw" ["_law_hand", "_law_many"] 1 (sp__law_draw K)) (C__law_far : Cal P w K mg base "_law_far" ["_law_hand", "_law_many"] 2 (sp__law_far K)) (C__law_power : Cal P w K mg base "_law_power" ["_law_many"] 1 (sp__law_power K)) : Cal P w K mg base "_law_key" ["_law_hand"] 3 (sp__law_key K) := by
  refine Cal.of F mF bF sc__law_key (fun vs H Q E h => ?_) (fun cdv A outer s H vs Q E hr h => ?_)
  · obtain ⟨p, N, rfl, _⟩ := h; rfl
  obtain ⟨p, N, rfl, hh, hN, q⟩ := h
  refine ⟨_, (pss_cons (ps_set (i := 1) sc__law_key.nd rfl (Or.inl rfl) (pcl C__law_draw (hr.mono (by decide)) (pa_cons (pv 0) (pa_cons pe_int pa_nil stx_Constant) stx_Name)))
      (pss_cons (ps_set (i := 2) sc__law_key.nd rfl (Or.inl rfl) (pcl C__law_draw (hr.mono (by decide)) (pa_cons (pv 0) (pa_cons (pe_ix ix_list (pe_lst (pa_cons pe_int (pa_cons pe_int (pa_cons pe_int pa_nil stx_Constant) stx_Constant) stx_Constant)) (pcl C__law_draw (hr.mono (by decide)) (pa_cons (pv 0) (pa_cons pe_int pa_nil stx_Constant) stx_Name)) (fun _ _ => rfl)) pa_nil stx_Subscript) stx_Name)))
      (pss_cons (ps_if (pt_cmpR op_lt (pv 1) pe_int (nomark _)) (pss_one (ps_ret (pv 2))) pss_nil)
      (pss_cons (ps_if (pt_cmpR op_eq (pv 1) pe_int (nomark _)) (pss_one (ps_ret (pe_op op_sub (pe_op op_sub (pe_powC (c := 1152921504606846976) (by decide +kernel) ⟨by decide, by decide, by decide⟩) pe_int) (pv 2)))) pss_nil)
      (pss_cons (ps_if (pt_cmpR op_eq (pv 1) pe_int (nomark _)) (pss_one (ps_ret (pe_op op_add (pv 2) (pcl C__law_power (hr.mono (by decide)) (pa_cons (pe_op op_add pe_int (pcl C__law_draw (hr.mono (by decide)) (pa_cons (pv 0) (pa_cons pe_int pa_nil stx_Constant) stx_Name))) pa_nil stx_BinOp))))) pss_nil)
      (pss_cons (ps_if (pt_cmpR op_eq (pv 1) pe_int (nomark _)) (pss_one (ps_ret (pe_op op_add (pe_op op_mod (pv 2) pe_int) (pe_op op_mul pe_int (pcl C__law_far (hr.mono (by decide)) (pa_cons (pv 0) (pa_cons (pe_powC (c := 72057594037927936) (by decide +kernel) ⟨by decide, by decide, by decide⟩) pa_nil stx_BinOp) stx_Name)))))) pss_nil)
      (pss_one (ps_ret (pcl C__law_far (hr.mono (by decide)) (pa_cons (pv 0) (pa_cons (pe_powC (c := 1152921504606846976) (by decide +kernel) ⟨by decide, by decide, by decide⟩) pa_nil stx_BinOp) stx_Name)))))))))), ?_⟩
  rw [st__law_key]
  walk_at "rd"
  refine ⟨p, N, 7, rfl, hh, by omega, by decide, by decide, fun way H1 w0 w1 hh1 k1 => ?_⟩
  walk_at "rd"
  refine ⟨(by show 3 ≤ sizeLine; decide), fun l nl => ?_⟩
  walk_at "rd"
  have k2 := k1.trans (Kp.of (same_new nl (.lst [V.int 4, V.int 16, V.int 200])) hh1)
  have hh2 := hh1.same (same_new nl (.lst [V.int 4, V.int 16, V.int 200]))
  have hl : (upd H1 l (.lst [V.int 4, V.int 16, V.int 200])) l = some (.lst [V.int 4, V.int 16, V.int 200]) := upd_same
  have nlp : l ≠ p := by
    obtain ⟨l1, d, c, ns, h1, _⟩ := hh1.ex
    exact (ne_of_none h1 nl).symm
  generalize upd H1 l (.lst [V.int 4, V.int 16, V.int 200]) = H2 at k2 hh2 hl ⊢
  refine ⟨p, N + 1, 3, rfl, hh2, by omega, by decide, by decide, fun r H3 r0 r1 hh3 k3 => ?_⟩
  have hl3 := k3.1 _ _ hl nlp
  obtain ⟨b, hb, b0, b1⟩ : ∃ b : Int, atI [V.int 4, V.int 16, V.int 200] r = some (.int b) ∧ 0 < b ∧ b ≤ 200 := by
    have : r = 0 ∨ r = 1 ∨ r = 2 := by omega
    rcases this with rfl | rfl | rfl
    · exact ⟨4, rfl, by decide, by decide⟩
    · exact ⟨16, rfl, by decide, by decide⟩
    · exact ⟨200, rfl, by decide, by decide⟩
  refine rd_ixL (SqL.of hl3) hb ?_
  walk_at "rd"
  refine ⟨p, N + 1 + 1, b, rfl, hh3, by omega, b0, by omega, fun low H4 l0 l1 hh4 k4 => ?_⟩
  have k5 := (k2.trans k3).trans k4
  walk_at "rd"
  refine rd_if (fun c1 => ?_) (fun c1 => ?_)
  · walk_at "rd"
    exact q _ _ l0 (by omega) (hh4.mono (by omega)) k5
  walk_at "rd"
  refine rd_if (fun c2 => ?_) (fun c2 => ?_)
  · walk_at "rd"
    exact q _ _ (by omega) (by omega) (hh4.mono (by omega)) k5
  walk_at "rd"
  refine rd_if (fun c3 => ?_) (fun c3 => ?_)
  · walk_at "rd"
    refine ⟨p, N + 1 + 1 + 1, 52, rfl, hh4, by omega, by decide, by decide, fun e H5 e0 e1 hh5 k6 => ?_⟩
    walk_at "rd"
    obtain ⟨m, rfl⟩ : ∃ m : Nat, e = (m : Int) := ⟨e.toNat, by omega⟩
    refine ⟨8 + m, (by show [V.int (8 + (m : Int))] = [V.int ((8 + m : Nat) : Int)]; rw [show (8 + (m : Int)) = ((8 + m : Nat) : Int) by omega]), by omega, ?_⟩
    walk_at "rd"
    have h1 : (2 : Int) ^ (8 + m) ≤ 2 ^ 59 := pow2_le (by omega)
    have h2 : (0 : Int) < 2 ^ (8 + m) := Int.pow_pos (by decide)
    have h3 : (2 : Int) ^ 59 = 576460752303423488 := by decide
    exact q _ _ (by omega) (by omega) (hh5.mono (by omega)) (k5.trans k6)
  walk_at "rd"
  refine rd_if (fun c4 => ?_) (fun c4 => ?_)
  · walk_at "rd"
    refine ⟨p, N + 1 + 1 + 1, _, rfl, hh4, by omega, by decide, by decide, fun e H5 e0 e1 hh5 k6 => ?_⟩
    walk_at "rd"
    exact q _ _ (by omega) (by omega) (hh5.mono (by omega)) (k5.trans k6)
  · walk_at "rd"
    exact ⟨p, N + 1 + 1 + 1, _, rfl, hh4, by omega, by decide, by decide, fun e H5 e0 e1 hh5 k6 => q _ _ e0 e1 (hh5.mono (by omega)) (k5.trans k6)⟩

theorem ok__law_thing {f : Addr} {fd : FuncData} (F : Fun K "_law_thing" "_law_thing" s__law_thing f fd) (mF : mg "_law_thing" = some (.ref f)) (bF : Binds K fd ["_law_hand"] []) (T : Bl mg) (C__law_draw : Cal P w K mg base "_law_draw" ["_law_hand", "_law_many"] 1 (sp__law_draw K)) : Cal P w K mg base "_law_thing" ["_law_hand"] 2 (sp__law_thing K) := by
  refine Cal.of F mF bF sc__law_thing (fun vs H Q E h => ?_) (fun cdv A outer s H vs Q E hr h => ?_)
  · obtain ⟨p, N, rfl, _⟩ := h; rfl
  obtain ⟨p, N, rfl, hh, hN, q⟩ := h
  refine ⟨_, (pss_cons (ps_set (i := 1) sc__law_thing.nd rfl (Or.inr rfl) pe_str)
      (pss_one (ps_ret (pe_bm PySem.F.plainAttrs_str PySem.F.slot_str_join PySem.F.type_str_join mt_join pe_str (pa_cons (pe_comp rfl (blkOk (sc := defScope s__law_thing) (N := ["_law_hand", "_law_letters"]) (vs := ["_law_k"]) (fs := ["_law_letters", "_law_hand"]) (js := [1, 0]) (by decide +kernel) rfl rfl) (pi_range1 rfl T.range (pa_cons (pe_op op_add pe_int (pcl C__law_draw (hr.mono (by decide)) (pa_cons (pv 0) (pa_cons pe_int pa_nil stx_Constant) stx_Name))) pa_nil stx_BinOp)) (fun _ _ _ _ => pg_name (i := 0) (show (["_law_k", "_law_letters", "_law_hand"] : List Str).Nodup by decide +kernel) rfl (Or.inl rfl)) (fun _ _ _ _ => pif0) (fun _ _ _ _ => (pe_ix ix_str (pv 1) (pcl C__law_draw (hr.mono (by decide)) (pa_cons (pv 2) (pa_cons pe_int pa_nil stx_Constant) stx_Name)) (fun _ _ => rfl)))) pa_nil stx_ListComp))))), ?_⟩
  rw [st__law_thing]
  walk_at "rd"
  refine ⟨rfl, ?_⟩
  walk_at "rd"
  refine ⟨p, _, 8, rfl, hh, by omega, by decide, by decide, fun n H1 n0 n1 hh1 k1 => ?_⟩
  walk_at "rd"
  refine ⟨_, rfl, by omega, by omega, fun D nD => ?_⟩
  refine comp_range (n := (1 + n).toNat) (fun j σ' ys H' => (∃ x, σ' = [x, some (.str (Str.ofString "abcdefghijklmnopqrstuvwxyz")), some (.ref p)]) ∧ (∃ zs : List Str, ys = zs.map V.str ∧ zs.length = j ∧ ∀ y ∈ zs, y.length = 1 ∧ ∀ c ∈ y.cps, c < 128) ∧ j ≤ 8 ∧ CK H1 p D (N + 1 + j) ys H') D ⟨⟨_, rfl⟩, ⟨[], rfl, rfl, fun _ h => (by cases h)⟩, by omega, CK.start hh1 nD⟩ ?_ ?_
  · rintro j σ' ys H2 hj ⟨⟨x, rfl⟩, ⟨zs, rfl, zl, zc⟩, j8, ck⟩
    walk_at "rd"
    refine ⟨p, _, 26, rfl, ck.hh, by omega, by decide, by decide, fun v H3 v0 v1 hh3 k3 => ?_⟩
    have ck := ck.draw k3 hh3
    obtain ⟨c, hc, c1⟩ := let26 v0 v1
    refine rd_ixS (by decide +kernel) hc ?_
    refine ⟨ck.lat, by rw [List.length_map]; exact small1000 (by omega), ⟨_, rfl⟩, ⟨zs ++ [⟨#[c]⟩], by rw [List.map_append]; rfl, by rw [List.length_append, zl]; rfl, fun y hy => ?_⟩, by omega, ck.push⟩
    rcases List.mem_append.mp hy with h | h
    · exact zc y h
    · have e : y = ⟨#[c]⟩ := by simpa using h
      subst e
      exact ⟨rfl, fun d hd => by have : d = c := by simpa using hd
                                 omega⟩
  · rintro σ' ys H2 ⟨⟨x, rfl⟩, ⟨zs, rfl, zl, zc⟩, j8, ck⟩
    walk_at "rd"
    refine ⟨_, D, zs, rfl, rfl, SqL.of ck.lat, ?_, ?_⟩
    · rw [sum_ones zs zc, show (Str.ofString "").length = 0 by decide]; omega
    obtain ⟨_, w2⟩ := join_low zs zc
    rw [joinT]
    exact q _ _ (strOk_low w2) (ck.hh.mono (by omega)) (k1.trans ck.kp)
theorem ok__law_whole {f : Addr} {fd : FuncData} (F : Fun K "_law_whole" "_law_whole" s__law_whole f fd) (mF : mg "_law_whole" = some (.ref f)) (bF : Binds K fd ["_law_got"] []) (T : Bl mg)  : Cal P w K mg base "_law_whole" ["_law_got"] 1 (sp__law_whole K) := by
  refine Cal.of F mF bF sc__law_whole (fun vs H Q E h => ?_) (fun cdv A outer s H vs Q E hr h => ?_)
  · obtain ⟨n, rfl, _⟩ := h; rfl
  obtain ⟨n, rfl, q⟩ := h
  refine ⟨_, (pss_one (ps_ret (pe_and (pe_callB call_isinst rfl T.isinstance bt_isinstance (pa_cons (pv 0) (pa_cons (pe_bltn (v := .ty "int") rfl T.int bt_int rfl) pa_nil stx_Name) stx_Name)) (pe_one (pe_not (pe_callB call_isinst rfl T.isinstance bt_isinstance (pa_cons (pv 0) (pa_cons (pe_bltn (v := .ty "bool") rfl T.bool bt_bool rfl) pa_nil stx_Name) stx_Name))))))), ?_⟩
  rw [st__law_whole]
  walk_at "rd"
  refine rd_isi (.int n) (b := true) rfl ?_
  walk_at "rd"
  refine rd_isi (.int n) (b := false) rfl ?_
  walk_at "rd"
  exact q
theorem ok__law_room {f : Addr} {fd : FuncData} (F : Fun K "_law_room" "_law_room" s__law_room f fd) (mF : mg "_law_room" = some (.ref f)) (bF : Binds K fd ["_law_key_here", "_law_rooms"] []) (T : Bl mg)  : Cal P w K mg base "_law_room" ["_law_key_here", "_law_rooms"] 1 (sp__law_room K) := by
  refine Cal.of F mF bF sc__law_room (fun vs H Q E h => ?_) (fun cdv A outer s H vs Q E hr h => ?_)
  · obtain ⟨k, R, rfl, _⟩ := h; rfl
  obtain ⟨k, R, rfl, k0, k1, h1, h2, q⟩ := h
  have hl := lg_60 h1 h2
  have gl := lg_le h1
  have gt := lg_lt h1
  refine ⟨_, (pss_cons (ps_set (i := 2) sc__law_room.nd rfl (Or.inl rfl) pe_int)
      (pss_cons (ps_set (i := 3) sc__law_room.nd rfl (Or.inl rfl) pe_int)
      (pss_cons (ps_while PassesOwn.never (PW.pt (pw_and (pt_cmpR op_gt (pv 0) pe_int (nomark _)) (pw_and1 (pt_cmpR op_lt (pv 3) (pv 1) (nomark _))))) (pss_cons (ps_cut (ps_if (PW.pt (pw_and (pt_cmpR op_eq (pe_op op_mod (pv 0) pe_int) pe_int (nomark _)) (pw_and1 (pt_cmpR op_lt (pe_op op_add (pv 2) (pv 3)) (pv 1) (nomark _))))) (pss_one (ps_set (i := 2) sc__law_room.nd rfl (Or.inl rfl) (pe_op op_add (pv 2) (pv 3)))) pss_nil))
      (pss_cons (ps_set (i := 0) sc__law_room.nd rfl (Or.inl rfl) (pe_op op_fdivB (pv 0) pe_int))
      (pss_one (ps_set (i := 3) sc__law_room.nd rfl (Or.inl rfl) (pe_op op_mul (pv 3) pe_int))))))
      (pss_one (ps_ret (pv 2)))))), ?_⟩
  rw [st__law_room]
  walk_at "rd"
  refine ⟨fun m σ H' => H' = H ∧ ((∃ j : Nat, σ = [some (.int (k / 2 ^ j)), some (.int R), some (.int (k % 2 ^ j)), some (.int (2 ^ j))] ∧ j ≤ lg R ∧ m = lg R + 1 - j) ∨ (σ = [some (.int (k / 2 ^ (lg R + 1))), some (.int R), some (.int (roomV k R)), some (.int (2 ^ (lg R + 1)))] ∧ m = 0)), ⟨lg R + 1, rfl, .inl ⟨0, by simp, by omega, by omega⟩⟩, ?_⟩
  rintro m σ H' ⟨rfl, ⟨j, rfl, hj, rfl⟩ | ⟨rfl, rfl⟩⟩
  · have pj := pow2_pos j
    have pl := pow2_le hj
    have lo1 := Int.emod_nonneg k (b := 2 ^ j) (by omega)
    have lo2 := Int.emod_lt_of_pos k pj
    walk_at "rd"
    refine rd_if (fun c => ?_) (fun c => ?_)
    · walk_at "rd"
      refine rd_if (fun c2 => ?_) (fun c2 => ?_)
      · refine ⟨_, fun σ' H'' h => h, ?_⟩
        have hp := roomV_pow (k := k) (j := j)
        have hpl := roomV_pow (k := k) (j := lg R)
        have ep : (2 : Int) ^ (j + 1) = 2 ^ j * 2 := Int.pow_succ 2 j
        have small : j < lg R → (2 : Int) ^ (j + 1) ≤ 2 ^ lg R := fun h => pow2_le h
        have fin : ∀ v : Int, v = (if j = lg R then roomV k R else k % 2 ^ (j + 1)) → ∃ m', m' < lg R + 1 - j ∧ (H' = H' ∧ ((∃ j' : Nat, [some (V.int (k / 2 ^ j / 2)), some (V.int R), some (V.int v), some (V.int (2 ^ j * 2))] = [some (.int (k / 2 ^ j')), some (.int R), some (.int (k % 2 ^ j')), some (.int (2 ^ j'))] ∧ j' ≤ lg R ∧ m' = lg R + 1 - j') ∨ ([some (V.int (k / 2 ^ j / 2)), some (V.int R), some (V.int v), some (V.int (2 ^ j * 2))] = [some (.int (k / 2 ^ (lg R + 1))), some (.int R), some (.int (roomV k R)), some (.int (2 ^ (lg R + 1)))] ∧ m' = 0))) := fun v hv => by
          have ed : k / 2 ^ j / 2 = k / 2 ^ (j + 1) := by rw [ep]; exact Int.ediv_ediv_of_nonneg (show (0 : Int) ≤ 2 ^ j by omega)
          rw [ed, ← ep, hv]
          by_cases z : j = lg R
          · rw [if_pos z]
            exact ⟨0, by omega, rfl, .inr ⟨by rw [z], rfl⟩⟩
          · rw [if_neg z]
            exact ⟨lg R + 1 - (j + 1), by omega, rfl, .inl ⟨j + 1, rfl, by omega, rfl⟩⟩
        walk_at "rd"
        refine ⟨fun σ' H'' => H'' = H' ∧ σ' = [some (.int (k / 2 ^ j)), some (.int R), some (.int (if j = lg R then roomV k R else k % 2 ^ (j + 1))), some (.int (2 ^ j))], ?_, ?_⟩
        · walk_at "rd"
          refine rd_if (fun b1 => ?_) (fun b1 => ?_)
          · rw [b1, Int.mul_one] at hp
            walk_at "rd"
            refine rd_if (fun b2 => ?_) (fun b2 => ?_)
            · walk_at "rd"
              refine ⟨rfl, ?_⟩
              have ev : k % 2 ^ j + 2 ^ j = (if j = lg R then roomV k R else k % 2 ^ (j + 1)) := by
                split
                · rename_i z
                  unfold roomV
                  rw [if_neg (by rw [← z]; omega), ← z, hp]
                · exact hp.symm
              rw [ev]
            · walk_at "rd"
              refine ⟨rfl, ?_⟩
              have z : j = lg R := by
                by_cases z : j = lg R
                · exact z
                · have := small (by omega)
                  omega
              have ev : k % 2 ^ j = (if j = lg R then roomV k R else k % 2 ^ (j + 1)) := by
                rw [if_pos z]
                unfold roomV
                rw [if_pos (by rw [← z]; omega), ← z]
              rw [← ev]
          · have b0 : k / 2 ^ j % 2 = 0 := by omega
            rw [b0, Int.mul_zero, Int.add_zero] at hp
            walk_at "rd"
            refine ⟨rfl, ?_⟩
            have ev : k % 2 ^ j = (if j = lg R then roomV k R else k % 2 ^ (j + 1)) := by
              split
              · rename_i z
                unfold roomV
                split
                · rw [z]
                · rw [← z, hp]
              · exact hp.symm
            rw [← ev]
        · rintro σ' H'' ⟨rfl, rfl⟩
          walk_at "rd"
          exact fin _ rfl
      · walk_at "rd"
        have z : j = lg R := by
          by_cases z : j = lg R
          · exact z
          · have m := pow2_le (show j + 1 ≤ lg R by omega)
            rw [Int.pow_succ] at m
            omega
        unfold roomV at q
        rw [if_pos (by rw [← z]; omega), ← z] at q
        exact q
    · walk_at "rd"
      have e1 := low_of (i := j) (j := j) k0 (by omega) (Nat.le_refl _)
      have e2 := low_of (i := lg R) (j := j) k0 (by omega) hj
      have e3 := low_of (i := lg R + 1) (j := j) k0 (by omega) (by omega)
      unfold roomV at q
      rw [e2, e3] at q
      rw [e1]
      split at q <;> exact q
  · walk_at "rd"
    refine rd_if (fun c => ?_) (fun c => ?_)
    · walk_at "rd"
      refine rd_if (fun c2 => absurd c2 (by omega)) (fun c2 => ?_)
      walk_at "rd"
      exact q
    · walk_at "rd"
      exact q
theorem ok__law_copy {f : Addr} {fd : FuncData} (F : Fun K "_law_copy" "_law_copy" s__law_copy f fd) (mF : mg "_law_copy" = some (.ref f)) (bF : Binds K fd ["_law_yard"] []) (T : Bl mg)  : Cal P w K mg base "_law_copy" ["_law_yard"] 1 (sp__law_copy K) := by
  refine Cal.of F mF bF sc__law_copy (fun vs H Q E h => ?_) (fun cdv A outer s H vs Q E hr h => ?_)
  · obtain ⟨y, w, R, X, rfl, _⟩ := h; rfl
  obtain ⟨y, w, R, X, rfl, ⟨h0, hy, ⟨bs0, hh0, hP0⟩, hen, sz⟩, q⟩ := h
  refine ⟨_, (pss_one (ps_ret (pe_tup (pa_cons (pe_ix ix_tup (pv 0) pe_int (fun _ _ => rfl)) (pa_cons (pe_ix ix_tup (pv 0) pe_int (fun _ _ => rfl)) (pa_cons (pe_comp rfl (blkOk (sc := defScope s__law_copy) (N := ["_law_yard"]) (vs := ["_law_rows"]) (fs := []) (js := []) (by decide +kernel) rfl rfl) (pi_list (pe_ix ix_tup (pv 0) pe_int (fun _ _ => rfl))) (fun _ _ _ _ => pg_name (i := 0) (show (["_law_rows"] : List Str).Nodup by decide +kernel) rfl (Or.inl rfl)) (fun _ _ _ _ => pif0) (fun _ _ _ _ => (pe_comp rfl (blkOkM (N := ["_law_rows"]) (vs := ["_law_row_here"]) (fs := []) (js := []) rfl rfl (by kernel_rfl)) (pi_listK (K := K) rfl (pv 0)) (fun _ _ _ _ => pg_name (i := 0) (show (["_law_row_here"] : List Str).Nodup by decide +kernel) rfl (Or.inl rfl)) (fun _ _ _ _ => pif0) (fun _ _ _ _ => (pe_callTy (call_list_ofK (K := K) rfl) rfl T.list bt_list (pa_cons (pv 0) pa_nil stx_Name)))))) pa_nil stx_ListComp) stx_Subscript) stx_Subscript)))), ?_⟩
  rw [st__law_copy]
  walk_at "rd"
  refine ⟨h0, rfl, ⟨_, SqL.of hh0⟩, fun D nD => ?_⟩
  refine comp_list (xs := bs0.map V.ref) (fun i σ' ys H' => (∃ x, σ' = [x]) ∧ Same H H' ∧ ∃ cs : List Addr, ys = cs.map V.ref ∧ T3 (fun b => H b = none) H' D cs (X.take i)) D ⟨⟨_, rfl⟩, same_new nD _, [], rfl, nD, upd_same, List.nodup_nil, (fun z => by cases z), P1.nil⟩ (fun i σ' ys H' _ h => SqL.of (h.2.1 _ _ hh0)) ?_ ?_
  · rintro i x σ' ys H1 hx ⟨⟨x1, rfl⟩, s1, cs, rfl, t1⟩
    obtain ⟨b, hb, rfl⟩ := refs_get hx
    obtain ⟨rows, hxi, _, as, hb1, hA⟩ := hP0.get hb
    have il := (List.getElem?_eq_some_iff.mp hb).1
    have bl0 := hP0.1
    have szr := (sz.2 rows (List.mem_of_getElem? hxi)).1
    have al := hA.1
    have hD1 := t1.2.1
    walk_at "rd"
    refine ⟨b, rfl, ⟨_, SqL.of (s1 _ _ hb1)⟩, fun D' nD' => ?_⟩
    obtain ⟨nDD, _⟩ := t1.new nD'
    refine comp_list (xs := as.map V.ref) (fun j σ' ys H' => (∃ x, σ' = [x]) ∧ Same H1 H' ∧ ∃ cs' : List Addr, ys = cs'.map V.ref ∧ H' D' = some (.lst ys) ∧ P1 (fun a es => H1 a = none ∧ a ≠ D' ∧ H' a = some (.lst es)) cs' (rows.take j)) D' ⟨⟨_, rfl⟩, same_new nD' _, [], rfl, upd_same, P1.nil⟩ (fun i σ' ys H' _ h => SqL.of (h.2.1 _ _ (s1 _ _ hb1))) ?_ ?_
    · rintro j x σ' ys H2 hx ⟨⟨x2, rfl⟩, s2, cs', rfl, hD', hC⟩
      obtain ⟨a, ha, rfl⟩ := refs_get hx
      obtain ⟨es, hes, _, ha1⟩ := hA.get ha
      have jl := (List.getElem?_eq_some_iff.mp ha).1
      have cl := hC.1
      rw [List.length_take] at cl
      walk_at "rd"
      refine rd_listOf (SqL.of (s2 _ _ (s1 _ _ ha1))) fun e ne => ?_
      generalize hE : upd H2 e _ = H3
      obtain ⟨he, s3⟩ := newo ne hE
      clear hE
      have eD : e ≠ D' := fun z => by rw [z, hD'] at ne; cases ne
      refine ⟨s3 _ _ hD', by rw [List.length_map]; exact small1000 (by omega), ⟨_, rfl⟩, fun c o e => by rw [upd_ne (ne_of_none e nD')]; exact s3 _ _ (s2 _ _ e), cs' ++ [e], by rw [List.map_append]; rfl, upd_same, ?_⟩
      rw [take_get hes]
      refine (hC.imp fun a es t => ⟨t.1, t.2.1, ?_⟩).snoc ⟨s2.free ne, eD, ?_⟩
      · rw [upd_ne eD]; exact he
      · rw [upd_ne t.2.1]; exact s3 _ _ t.2.2
    · rintro σ' ys H2 ⟨⟨x2, rfl⟩, s2, cs', rfl, hD', hC⟩
      rw [List.length_map, al, List.take_length] at hC
      have hD2 := s2 _ _ hD1
      have cl := t1.2.2.2.2.1
      rw [List.length_take] at cl
      walk_at "rd"
      refine ⟨hD2, by rw [List.length_map]; exact small1000 (by have := sz.1; omega), ⟨_, rfl⟩, fun c o e => by rw [upd_ne (ne_of_none e nD)]; exact s2 _ _ (s1 _ _ e), cs ++ [D'], by rw [List.map_append]; rfl, ?_⟩
      rw [take_get hxi]
      refine t1.add (fun b o n e => by rw [upd_ne n]; exact s2 _ _ e) (by rw [upd_same, List.map_append]; rfl) nD' (s1.free nD') (by rw [upd_ne nDD]; exact hD') (hC.imp fun a es t => ⟨s1.free t.1, t.1, t.2.1, ?_⟩)
      rw [upd_ne (t1.new t.1).1]; exact t.2.2
  rintro σ' ys H1 ⟨⟨x1, rfl⟩, s1, cs, rfl, t1⟩
  rw [List.length_map, hP0.1, List.take_length] at t1
  walk_at "rd"
  refine ⟨(by show 3 ≤ sizeLine; decide), fun t nt => ?_⟩
  generalize hE : upd H1 t _ = H2
  obtain ⟨ht, s2⟩ := newo nt hE
  clear hE
  exact q t D cs H2 (s1.free nt) ht (t1.same s2) (s1.trans s2)

theorem ok__law_found {f : Addr} {fd : FuncData} (F : Fun K "_law_found" "_law_found" s__law_found f fd) (mF : mg "_law_found" = some (.ref f)) (bF : Binds K fd ["_law_yard", "_law_key_here"] []) (T : Bl mg) (C__law_room : Cal P w K mg base "_law_room" ["_law_key_here", "_law_rooms"] 1 (sp__law_room K)) : Cal P w K mg base "_law_found" ["_law_yard", "_law_key_here"] 2 (sp__law_found K) := by
  refine Cal.of F mF bF sc__law_found (fun vs H Q E h => ?_) (fun cdv A outer s H vs Q E hr h => ?_)
  · obtain ⟨y, w, R, k, X, rfl, _⟩ := h; rfl
  obtain ⟨y, w, R, k, X, rfl, ⟨h0, hy, ⟨bs0, hh0, hP0⟩, hen, sz⟩, k0, k1, r1, r2, q⟩ := h
  have hu := hr.units
  refine ⟨_, (pss_cons (ps_asg (pv 0) (pg_tup rfl (pgs_cons (pg_name (i := 2) sc__law_found.nd rfl (Or.inl rfl)) (pgs_cons (pg_name (i := 3) sc__law_found.nd rfl (Or.inl rfl)) (pgs_cons (pg_name (i := 4) sc__law_found.nd rfl (Or.inl rfl)) pgs_nil)))))
      (pss_cons (ps_set (i := 5) sc__law_found.nd rfl (Or.inl rfl) (pcl C__law_room (hr.mono (by decide)) (pa_cons (pv 1) (pa_cons (pv 3) pa_nil stx_Name) stx_Name)))
      (pss_cons (ps_if (pt_cmpR op_ge (pv 5) (pe_callB call_lenL rfl T.len bt_len (pa_cons (pv 4) pa_nil stx_Name)) (nomark _)) (pss_one (ps_ret (pe_tup (pa_cons pe_non (pa_cons pe_int pa_nil stx_Constant) stx_Constant)))) pss_nil)
      (pss_cons (ps_for PassesOwn.never rfl (pi_enum rfl T.enumerate (pa_cons (pe_ix ix_list (pv 4) (pv 5) (fun _ _ => rfl)) pa_nil stx_Subscript)) (pg_tup rfl (pgs_cons (pg_name (i := 6) sc__law_found.nd rfl (Or.inl rfl)) (pgs_cons (pg_name (i := 7) sc__law_found.nd rfl (Or.inl rfl)) pgs_nil))) (pss_one (ps_if (PW.pt (pw_and (pt_cmpR (op_neD hu) (pv 7) (pe_lst pa_nil) (nomark _)) (pw_and1 (pt_cmpR op_ge (pe_ix ix_tup (pe_ix ix_list (pv 7) (pe_un un_neg pe_int) (fun _ _ => rfl)) pe_int (fun _ _ => rfl)) (pv 1) (nomark _))))) (pss_cons (ps_setc (i := 8) sc__law_found.nd rfl rfl rfl (blkOk (sc := defScope s__law_found) (N := ["_law_yard", "_law_key_here", "_law_wide", "_law_rooms", "_law_held", "_law_room_here", "_law_at", "_law_row_here", "_law_some"]) (vs := ["_law_one", "_law_thing_here"]) (fs := ["_law_key_here"]) (js := [1]) (by decide +kernel) rfl rfl) (pi_list (pv 7)) (fun _ _ _ _ => pg_tupK (K := K) (n := 2) rfl rfl (pgs_cons (pg_name (i := 0) (show (["_law_one", "_law_thing_here", "_law_key_here"] : List Str).Nodup by decide +kernel) rfl (Or.inl rfl)) (pgs_cons (pg_name (i := 1) (show (["_law_one", "_law_thing_here", "_law_key_here"] : List Str).Nodup by decide +kernel) rfl (Or.inl rfl)) pgs_nil))) (fun _ _ _ _ => pif1 (pt_cmpR op_eq (pv 0) (pv 2) (nomark _))) (fun _ _ _ _ => (pv 1)))
      (pss_one (ps_ret (pe_tup (pa_cons (pe_ix ix_list (pe_op op_cat (pv 8) (pe_lst (pa_cons pe_non pa_nil stx_Constant))) pe_int (fun _ _ => rfl)) (pa_cons (pe_op op_add (pv 6) pe_int) pa_nil stx_BinOp) stx_Subscript))))) pss_nil)))
      (pss_one (ps_ret (pe_tup (pa_cons pe_non (pa_cons (pe_callB call_lenL rfl T.len bt_len (pa_cons (pe_ix ix_list (pv 4) (pv 5) (fun _ _ => rfl)) pa_nil stx_Subscript)) pa_nil stx_Call) stx_Constant)))))))), ?_⟩
  rw [st__law_found]
  walk_at "rd"
  refine ⟨y, _, rfl, SqT.of hy, rfl, _, _, rfl, _, _, rfl, _, _, rfl, rfl, ?_⟩
  walk_at "rd"
  refine ⟨k, R, rfl, k0, k1, r1, r2, ?_⟩
  have rb := roomV_lt (k := k) r1
  obtain ⟨r, hr0⟩ : ∃ r : Nat, roomV k R = (r : Int) := ⟨(roomV k R).toNat, by omega⟩
  have ex : (roomV k R).toNat = r := by omega
  have bl0 := hP0.1
  have szl := sz.1
  rw [hr0]
  walk_at "rd"
  refine rd_if (fun c => ?_) (fun c => ?_)
  · rw [List.length_map] at c
    have eo : ownR X k R = [] := by
      unfold ownR
      rw [ex, List.getElem?_eq_none (by omega)]; rfl
    rw [eo] at q
    walk_at "rd"
    refine ⟨(by show 2 ≤ sizeLine; decide), fun t nt => ?_⟩
    exact q t _ upd_same (same_new nt _)
  · rw [List.length_map] at c
    have hb := List.getElem?_eq_getElem (show r < bs0.length by omega)
    generalize bs0[r] = b at hb
    obtain ⟨rows, hx, _, as, hb1, hA⟩ := hP0.get hb
    have eo : ownR X k R = rows := by
      unfold ownR
      rw [ex, hx]; rfl
    rw [eo] at q
    have hrm := List.mem_of_getElem? hx
    have al := hA.1
    obtain ⟨rwl, rww⟩ := sz.2 _ hrm
    have hen2 := hen _ hrm
    walk_at "rd"
    refine rd_ixL (SqL.of hh0) (at_ref' hb) ?_
    refine ⟨b, rfl, ⟨_, SqL.of hb1⟩, ?_⟩
    refine for_enum (xs := as.map V.ref) (fun i σ H' => (∃ x6 x7 x8, σ = [some (.ref y), some (.int k), some (.int w), some (.int R), some (.ref h0), some (.int r), x6, x7, x8]) ∧ Same H H' ∧ fnd k (rowsDD H rows) = ((fnd k ((rowsDD H rows).drop i)).1, (fnd k ((rowsDD H rows).drop i)).2 + i)) ⟨⟨_, _, _, rfl⟩, Same.refl H, by simp⟩ (fun _ _ _ _ h => SqL.of (h.2.1 _ _ hb1)) ?_ ?_
    · rintro i x σ H1 u hx ⟨⟨x6, x7, x8, rfl⟩, s1, hk⟩ nu
      obtain ⟨a, ha, rfl⟩ := refs_get hx
      obtain ⟨es, hes, _, ha1⟩ := hA.get ha
      have hem := List.mem_of_getElem? hes
      have hen3 := hen2 es hem
      have el := rww es hem
      have hxr : (rowsDD H rows)[i]? = some (rowD H es) := by unfold rowsDD; rw [List.getElem?_map, hes]; rfl
      rw [drop_get hxr] at hk
      have pass : stopsB k ((rowD H es).map (·.1)) ≠ true → fnd k (rowsDD H rows) = ((fnd k ((rowsDD H rows).drop (i + 1))).1, (fnd k ((rowsDD H rows).drop (i + 1))).2 + ((i + 1 : Nat) : Int)) := fun z => by
        rw [hk, fnd, if_neg z]
        show (_, _) = (_, _)
        congr 1; omega
      generalize hE : upd H1 u _ = H2
      obtain ⟨hu2, s2⟩ := newo nu hE
      clear hE
      refine ⟨u, _, rfl, SqT.of hu2, rfl, _, _, rfl, _, _, rfl, rfl, ?_⟩
      have s12 := s1.trans s2
      walk_at "rd"
      refine ⟨by decide, fun d nd => ?_⟩
      generalize hE : upd H2 d _ = H3
      obtain ⟨hd, s3⟩ := newo nd hE
      clear hE
      have s13 := s12.trans s3
      have ha3 := s13 _ _ ha1
      have g3 : GD K H3 2 (.ref a) (dRow H3 es) := GD.lst ha3 (gds_en fun v hv => (hen3 v hv).keep fun _ _ e => s13 _ _ e)
      walk_at "rd"
      refine ⟨_, _, g3.1, (GD.lst (K := K) (n := 0) hd GDs.nil).1, g3.shaped (by omega), rfl, ?_⟩
      rw [show PyData.eqv (dRow H3 es) (.list []) = decide (es = []) from eqv_nil]
      by_cases c : es = []
      · rw [decide_eq_true c]
        walk_at "rd"
        refine ⟨⟨_, _, _, rfl⟩, s13, pass ?_⟩
        rw [c]; exact Bool.false_ne_true
      · rw [decide_eq_false c]
        obtain ⟨es', v, rfl⟩ := snoc_ex c
        obtain ⟨t, et, ht, _⟩ := (hen3 v (by simp)).pt
        have ht3 := s13 _ _ ht
        have lastk : ((rowD H (es' ++ [v])).map (·.1)).getLast? = some (eD H v).1 := by
          unfold rowD
          rw [List.map_append, List.map_append]
          simp
        walk_at "rd"
        refine rd_ixL (SqL.of ha3) (v := v) (atI_last _ _) ?_
        rw [et] at ht3
        rw [et]
        walk_at "rd"
        refine rd_if (fun c2 => ?_) (fun c2 => ?_)
        · have st : stopsB k ((rowD H (es' ++ [v])).map (·.1)) = true := stops_of lastk (by rw [et]; exact c2)
          rw [fnd, if_pos st] at hk
          rw [hk] at q
          walk_at "rd"
          refine ⟨a, rfl, ⟨_, SqL.of ha3⟩, fun D nD => ?_⟩
          generalize es' ++ [v] = es at *
          refine comp_list (xs := es) (fun j σ' ys H' => (∃ x x', σ' = [x, x', some (.int k)]) ∧ Same H3 H' ∧ ys = (((rowD H es).take j).filter fun e => decide (e.1 = k)).map (fun e => V.str e.2) ∧ H' D = some (.lst ys)) D ⟨⟨_, _, rfl⟩, same_new nD _, rfl, upd_same⟩ (fun i σ' ys H' _ h => SqL.of (h.2.1 _ _ ha3)) ?_ ?_
          · rintro j x σ' ys H4 hx ⟨⟨z1, z2, rfl⟩, s4, rfl, hD⟩
            obtain ⟨t', et', ht', _⟩ := (hen3 x (List.mem_of_getElem? hx)).pt
            have jl := (List.getElem?_eq_some_iff.mp hx).1
            have ht4 := s4 _ _ (s13 _ _ ht')
            have hxd : (rowD H es)[j]? = some (eD H x) := by unfold rowD; rw [List.getElem?_map, hx]; rfl
            rw [et']
            refine ⟨t', _, rfl, SqT.of ht4, rfl, _, _, rfl, _, _, rfl, rfl, ?_⟩
            walk_at "rd"
            refine rd_if (fun c1 => ?_) (fun c1 => ?_)
            · walk_at "rd"
              refine ⟨hD, ?_, ⟨_, _, rfl⟩, fun b o e => by rw [upd_ne (ne_of_none e nD)]; exact s4 _ _ e, ?_, upd_same⟩
              · rw [List.length_map]
                refine small1000 (Nat.le_trans (List.length_filter_le _ _) ?_)
                rw [List.length_take]; omega
              · rw [take_get hxd, List.filter_append, List.map_append, List.filter_cons, if_pos (decide_eq_true c1)]; rfl
            · refine ⟨⟨_, _, rfl⟩, s4, ?_, hD⟩
              rw [take_get hxd, List.filter_append, List.map_append, List.filter_cons, if_neg (by simp [c1])]
              simp
          · rintro σ' ys H4 ⟨⟨z1, z2, rfl⟩, s4, rfl, hD⟩
            rw [List.take_of_length_le (by unfold rowD; rw [List.length_map]; exact Nat.le_refl _)] at hD
            walk_at "rd"
            refine ⟨(by show 1 ≤ sizeLine; decide), fun g ng => ?_⟩
            generalize hE : upd H4 g _ = H5
            obtain ⟨hg, s5⟩ := newo ng hE
            clear hE
            refine ⟨D, g, _, _, rfl, rfl, s5 _ _ hD, hg, ?_, fun f nf => ?_⟩
            · rw [List.length_map]
              have h1 := List.length_filter_le (fun e : Int × Str => decide (e.1 = k)) (rowD H es)
              have h2 : (rowD H es).length = es.length := by unfold rowD; rw [List.length_map]
              exact Nat.le_of_lt (small1000 (by show _ + 1 ≤ 1000; omega))
            generalize hE : upd H5 f _ = H6
            obtain ⟨hf, s6⟩ := newo nf hE
            clear hE
            walk_at "rd"
            refine rd_ixL (SqL.of hf) (v := xV (pick k (rowD H es))) (atI_nat (j := 0) pick_first) ?_
            walk_at "rd"
            refine ⟨(by show 2 ≤ sizeLine; decide), fun t9 nt9 => ?_⟩
            generalize hE : upd H6 t9 _ = H7
            obtain ⟨ht9, s7⟩ := newo nt9 hE
            clear hE
            refine q t9 H7 ?_ ((((s13.trans s4).trans s5).trans s6).trans s7)
            rw [ht9, Int.add_comm]
        · walk_at "rd"
          refine ⟨⟨_, _, _, rfl⟩, s13, pass fun z => ?_⟩
          obtain ⟨x, hx, hkx⟩ := stops_ex z
          rw [lastk] at hx
          cases hx
          rw [et] at hkx
          exact c2 hkx
    · rintro σ H1 ⟨⟨x6, x7, x8, rfl⟩, s1, hk⟩
      rw [List.length_map, al, List.drop_eq_nil_of_le (by unfold rowsDD; rw [List.length_map]; exact Nat.le_refl _)] at hk
      rw [hk] at q
      walk_at "rd"
      refine rd_ixL (SqL.of (s1 _ _ hh0)) (at_ref' hb) ?_
      have hb2 := s1 _ _ hb1
      walk_at "rd"
      refine ⟨(by show 2 ≤ sizeLine; decide), fun t nt => ?_⟩
      generalize hE : upd H1 t _ = H2
      obtain ⟨ht, s2⟩ := newo nt hE
      clear hE
      refine q t H2 ?_ (s1.trans s2)
      rw [ht, List.length_map, al]
      show some (HO.tup [V.non, V.int (rows.length : Int)]) = some (HO.tup [V.non, V.int (0 + (rows.length : Int))])
      rw [Int.zero_add]
theorem ok__law_places {f : Addr} {fd : FuncData} (F : Fun K "_law_places" "_law_places" s__law_places f fd) (mF : mg "_law_places" = some (.ref f)) (bF : Binds K fd ["_law_script", "_law_least", "_law_most"] []) (T : Bl mg)  : Cal P w K mg base "_law_places" ["_law_script", "_law_least", "_law_most"] 1 (sp__law_places K) := by
  refine Cal.of F mF bF sc__law_places (fun vs H Q E h => ?_) (fun cdv A outer s H vs Q E hr h => ?_)
  · obtain ⟨a, ns, l, m, rfl, _⟩ := h; rfl
  obtain ⟨a, ns, l, m, rfl, ha, hl, l0, l1, m0, m1, q⟩ := h
  refine ⟨_, (pss_one (ps_ret (pe_callTy (call_listR rfl) rfl T.list bt_list (pa_cons (pe_callTy call_rng1 rfl T.range bt_range (pa_cons (pe_callB (call_maxI rfl) rfl T.max bt_max (pa_cons (pv 1) (pa_cons (pe_callB (call_minI rfl) rfl T.min bt_min (pa_cons (pe_callB call_lenL rfl T.len bt_len (pa_cons (pv 0) pa_nil stx_Name)) (pa_cons (pv 2) pa_nil stx_Name) stx_Call)) pa_nil stx_Call) stx_Name)) pa_nil stx_Call)) pa_nil stx_Call)))), ?_⟩
  rw [st__law_places]
  walk_at "rd"
  refine ⟨a, _, rfl, .inl ha, ?_⟩
  rw [List.length_map]
  walk_at "rd"
  refine rd_rngV fun r nr => ?_
  generalize hE : upd H r _ = H1
  obtain ⟨hr1, s1⟩ := newo nr hE
  clear hE
  walk_at "rd"
  refine ⟨r, _, rfl, hr1, by omega, by omega, fun l' nl' => ?_⟩
  exact q _ l' _ (by omega) (s1.free nl') upd_same (s1.trans (same_new nl' _))
theorem ok__law_row {f : Addr} {fd : FuncData} (F : Fun K "_law_row" "_law_row" s__law_row f fd) (mF : mg "_law_row" = some (.ref f)) (bF : Binds K fd ["_law_hand", "_law_keys"] []) (T : Bl mg) (C__law_draw : Cal P w K mg base "_law_draw" ["_law_hand", "_law_many"] 1 (sp__law_draw K)) (C__law_thing : Cal P w K mg base "_law_thing" ["_law_hand"] 2 (sp__law_thing K)) : Cal P w K mg base "_law_row" ["_law_hand", "_law_keys"] 3 (sp__law_row K) := by
  refine Cal.of F mF bF sc__law_row (fun vs H Q E h => ?_) (fun cdv A outer s H vs Q E hr h => ?_)
  · obtain ⟨p, kl, N, ks, rfl, _⟩ := h; rfl
  obtain ⟨p, kl, N, ks, rfl, hh, hN, hkl, klp, kne, ksl, q⟩ := h
  refine ⟨_, (pss_cons (ps_set (i := 2) sc__law_row.nd rfl (Or.inl rfl) (pe_lst pa_nil))
      (pss_cons (ps_for PassesOwn.never rfl (pi_range1 rfl T.range (pa_cons (pcl C__law_draw (hr.mono (by decide)) (pa_cons (pv 0) (pa_cons pe_int pa_nil stx_Constant) stx_Name)) pa_nil stx_Call)) (pg_name (i := 3) sc__law_row.nd rfl (Or.inl rfl)) (pss_cons (ps_set (i := 4) sc__law_row.nd rfl (Or.inl rfl) (pe_ix ix_list (pv 1) (pe_op op_mod (pcl C__law_draw (hr.mono (by decide)) (pa_cons (pv 0) (pa_cons pe_int pa_nil stx_Constant) stx_Name)) (pe_callB call_lenL rfl T.len bt_len (pa_cons (pv 1) pa_nil stx_Name))) (fun _ _ => rfl)))
      (pss_one (ps_if (pt_cmpR op_notIn_seq (pv 4) (pe_comp rfl (blkOk (sc := defScope s__law_row) (N := ["_law_hand", "_law_keys", "_law_row_here", "_law_k", "_law_key_here"]) (vs := ["_law_one", "_law_thing_here"]) (fs := []) (js := []) (by decide +kernel) rfl rfl) (pi_list (pv 2)) (fun _ _ _ _ => pg_tupK (K := K) (n := 2) rfl rfl (pgs_cons (pg_name (i := 0) (show (["_law_one", "_law_thing_here"] : List Str).Nodup by decide +kernel) rfl (Or.inl rfl)) (pgs_cons (pg_name (i := 1) (show (["_law_one", "_law_thing_here"] : List Str).Nodup by decide +kernel) rfl (Or.inl rfl)) pgs_nil))) (fun _ _ _ _ => pif0) (fun _ _ _ _ => (pv 0))) (by with_unfolding_all rfl)) (pss_one (ps_expr (pe_bm PySem.F.plainAttrs_list PySem.F.slot_list_append PySem.F.type_list_append mt_append (pv 2) (pa_cons (pe_tup (pa_cons (pv 4) (pa_cons (pcl C__law_thing (hr.mono (by decide)) (pa_cons (pv 0) pa_nil stx_Name)) pa_nil stx_Call) stx_Name)) pa_nil stx_Tuple)))) pss_nil))))
      (pss_one (ps_ret (pe_callB call_sortT rfl T.sorted bt_sorted (pa_cons (pv 2) pa_nil stx_Name)))))), ?_⟩
  rw [st__law_row]
  walk_at "rd"
  refine ⟨by decide, fun D nD => ?_⟩
  have ck := CK.start (ys := []) hh nD
  generalize upd H D _ = H1 at ck ⊢
  walk_at "rd"
  refine ⟨p, _, 4, rfl, ck.hh, by omega, by decide, by decide, fun n H2 n0 n1 hh2 k2 => ?_⟩
  have ck := ck.draw k2 hh2
  walk_at "rd"
  refine ⟨n, rfl, by omega, by omega, ?_⟩
  have kpos : 0 < ks.length := List.length_pos_iff.mpr kne
  refine for_range (n := n.toNat) (fun i σ H' => (∃ x3 x4, σ = [some (.ref p), some (.ref kl), some (.ref D), x3, x4]) ∧ i ≤ 3 ∧ ∃ ts : List Addr, CK H p D (N + 1 + 60 * i) (ts.map V.ref) H' ∧ ts.length ≤ i ∧ (∀ t ∈ ts, En (newSince H H') (.ref t)) ∧ (ts.map (kE H')).Nodup) ⟨⟨_, _, rfl⟩, by omega, [], ck, Nat.le_refl _, (fun _ h => by cases h), List.nodup_nil⟩ ?_ ?_
  · rintro i σ H3 hi ⟨⟨x3, x4, rfl⟩, i3, ts, ck, tl, hEn, hNd⟩
    walk_at "rd"
    refine ⟨p, _, 500, rfl, ck.hh, by omega, by decide, by decide, fun v H4 v0 v1 hh4 k4 => ?_⟩
    have kt4 := kt_of ck.hh k4
    have ck := ck.draw k4 hh4
    have hk4 : H4 kl = some (.lst (ks.map V.int)) := ck.kp.1 _ _ hkl klp
    have kml : (ks.map V.int).length = ks.length := List.length_map _
    have kpos' : (0 : Int) < ((ks.map V.int).length : Nat) := by omega
    walk_at "rd"
    obtain ⟨m, hm, ml⟩ : ∃ m : Nat, v % ((ks.map V.int).length : Nat) = (m : Int) ∧ m < ks.length := by
      have a1 := Int.emod_nonneg v (b := ((ks.map V.int).length : Nat)) (by omega)
      have a2 := Int.emod_lt_of_pos v kpos'
      exact ⟨(v % ((ks.map V.int).length : Nat)).toNat, by omega, by omega⟩
    rw [hm]
    have hkm := List.getElem?_eq_getElem ml
    generalize ks[m] = key at hkm
    refine rd_ixL (SqL.of hk4) (at_int hkm) ?_
    walk_at "rd"
    have hEn4 : ∀ t ∈ ts, En (newSince H H4) (.ref t) := fun t ht => (hEn t ht).new kt4
    have kE4 : ts.map (kE H4) = ts.map (kE H3) := List.map_congr_left fun t ht => by
      unfold kE
      rw [((hEn t ht).keep fun _ _ e => newSince_tup e).eD kt4]
    rw [← kE4] at hNd
    clear hEn kE4
    refine ⟨D, rfl, ⟨_, SqL.of ck.lat⟩, fun D2 nD2 => ?_⟩
    have D2D : D2 ≠ D := fun z => by rw [z, ck.lat] at nD2; cases nD2
    refine comp_list (xs := ts.map V.ref) (fun j σ' ys H' => (∃ x x', σ' = [x, x']) ∧ Same H4 H' ∧ ys = ((ts.take j).map (kE H4)).map V.int ∧ H' D2 = some (.lst ys)) D2 ⟨⟨_, _, rfl⟩, same_new nD2 _, rfl, upd_same⟩ (fun i σ' ys H' _ h => SqL.of (h.2.1 _ _ ck.lat)) ?_ ?_
    · rintro j x σ' ys H5 hx ⟨⟨z1, z2, rfl⟩, s5, rfl, hD2⟩
      obtain ⟨t, ht, rfl⟩ := refs_get hx
      have jl := (List.getElem?_eq_some_iff.mp ht).1
      obtain ⟨t', et, ht', _⟩ := ((hEn4 t (List.mem_of_getElem? ht)).keep fun _ _ e => newSince_tup e).pt
      cases et
      refine ⟨t, _, rfl, SqT.of (s5 _ _ ht'), rfl, _, _, rfl, _, _, rfl, rfl, ?_⟩
      walk_at "rd"
      refine ⟨hD2, by rw [List.length_map, List.length_map, List.length_take]; exact small1000 (by omega), ⟨_, _, rfl⟩, fun b o e => by rw [upd_ne (ne_of_none e nD2)]; exact s5 _ _ e, ?_, upd_same⟩
      rw [take_get ht, List.map_append, List.map_append]; rfl
    · rintro σ' ys H5 ⟨⟨z1, z2, rfl⟩, s5, rfl, hD2⟩
      rw [List.length_map, List.take_length] at hD2
      refine rd_ninI (SqL.of hD2) ?_
      have ck5 := ck.sm s5
      have hEn5 : ∀ t ∈ ts, En (newSince H H5) (.ref t) := fun t ht => (hEn4 t ht).new fun _ _ e => s5 _ _ e
      have kE5 : ts.map (kE H5) = ts.map (kE H4) := List.map_congr_left fun t ht => by
        unfold kE
        rw [((hEn4 t ht).keep fun _ _ e => newSince_tup e).eD fun _ _ e => s5 _ _ e]
      by_cases cm : key ∈ ts.map (kE H4)
      · rw [decide_eq_true cm]
        walk_at "rd"
        exact ⟨⟨_, _, rfl⟩, by omega, ts, ck5.mono (by omega), by omega, hEn5, by rw [kE5]; exact hNd⟩
      · rw [decide_eq_false cm]
        walk_at "rd"
        refine ⟨.inl ⟨rfl, _, SqL.of ck5.lat⟩, ?_⟩
        walk_at "rd"
        refine ⟨p, _, rfl, ck5.hh, by omega, fun z H6 zo hh6 k6 => ?_⟩
        have kt6 := kt_of ck5.hh k6
        have ck6 := ck5.draw k6 hh6
        walk_at "rd"
        refine ⟨(by show 2 ≤ sizeLine; decide), fun t nt => ?_⟩
        have tn := ck6.kp.free nt (ck6.hh.ne nt)
        generalize hE7 : upd H6 t _ = H7
        have s7 := (newo nt hE7).2
        obtain ⟨ck7, ht, tp, tD⟩ := ck6.new nt hE7
        clear hE7
        have kt8 : ∀ t' xs, H7 t' = some (.tup xs) → (upd H7 D (.lst (ts.map V.ref ++ [V.ref t]))) t' = some (.tup xs) := fun t' xs e => by rw [upd_ne (ne_of e ck7.lat (by intro z; cases z))]; exact e
        have kt58 : ∀ t' xs, H5 t' = some (.tup xs) → (upd H7 D (.lst (ts.map V.ref ++ [V.ref t]))) t' = some (.tup xs) := fun t' xs e => kt8 _ _ (s7 _ _ (kt6 _ _ e))
        have cp := ck7.push (zs := ts.map V.ref ++ [V.ref t])
        refine ⟨D, _, _, rfl, rfl, ck7.lat, by rw [List.length_map]; exact small1000 (by omega), ?_⟩
        have kE8 : ts.map (kE (upd H7 D (.lst (ts.map V.ref ++ [V.ref t])))) = ts.map (kE H4) := by
          rw [← kE5]
          refine List.map_congr_left fun t ht => ?_
          unfold kE
          rw [((hEn5 t ht).keep fun _ _ e => newSince_tup e).eD kt58]
        have kt' : kE (upd H7 D (.lst (ts.map V.ref ++ [V.ref t]))) t = key := by unfold kE; rw [eD_at (kt8 _ _ ht)]
        refine ⟨⟨_, _, rfl⟩, by omega, ts ++ [t], ⟨cp.hh.mono (by omega), by rw [cp.lat, List.map_append]; rfl, cp.kp, cp.n0, cp.np, cp.nc⟩, by rw [List.length_append, List.length_singleton]; omega, fun t' ht' => ?_, ?_⟩
        · rcases List.mem_append.mp ht' with w | w
          · exact (hEn5 t' w).new kt58
          · have e : t' = t := by simpa using w
            rw [e]
            exact ⟨t, key, z, rfl, by rw [newSince_at tn]; exact kt8 _ _ ht, zo⟩
        · rw [List.map_append, kE8, List.nodup_append]
          refine ⟨hNd, by simp, fun x hx y hy e => cm ?_⟩
          have ey : y = key := by rw [List.map_singleton, kt'] at hy; simpa using hy
          rw [← ey, ← e]; exact hx
  · rintro σ H3 ⟨⟨x3, x4, rfl⟩, i3, ts, ck, tl, hEn, hNd⟩
    walk_at "rd"
    refine ⟨D, ts, kE H3, rfl, SqL.of ck.lat, by omega, fun t ht => ?_, inj_of hNd, fun us l p1 p2 nl => ?_⟩
    · obtain ⟨t', et, ht', _⟩ := ((hEn t ht).keep fun _ _ e => newSince_tup e).pt
      cases et
      exact ⟨_, ht'⟩
    generalize hE : upd H3 l _ = H4
    obtain ⟨hl, s4⟩ := newo nl hE
    clear hE
    refine q l (us.map V.ref) H4 (ck.kp.free nl (ck.hh.ne nl)) hl (by rw [List.length_map, p1.length_eq]; omega) (fun v hv => ?_) ?_ ((ck.hh.same s4).mono (by omega)) (ck.kp.trans (Kp.of s4 ck.hh))
    · obtain ⟨t, ht, rfl⟩ := List.mem_map.mp hv
      exact (hEn t (p1.mem_iff.mp ht)).new fun _ _ e => s4 _ _ e
    · rw [rowD_refs]
      have : us.map (kE H4) = us.map (kE H3) := List.map_congr_left fun t ht => by
        unfold kE
        rw [((hEn t (p1.mem_iff.mp ht)).keep fun _ _ e => newSince_tup e).eD fun _ _ e => s4 _ _ e]
      rw [this]
      exact (p1.map (kE H3)).nodup_iff.mpr hNd
theorem ok__law_right {f : Addr} {fd : FuncData} (F : Fun K "_law_right" "_law_right" s__law_right f fd) (mF : mg "_law_right" = some (.ref f)) (bF : Binds K fd ["_law_yard", "_law_key_here"] []) (T : Bl mg) (C__law_copy : Cal P w K mg base "_law_copy" ["_law_yard"] 1 (sp__law_copy K)) (C_found : Cal P w K mg base "found" ["yard", "key"] 5 (sp_found K)) (C__law_found : Cal P w K mg base "_law_found" ["_law_yard", "_law_key_here"] 2 (sp__law_found K)) (C__law_whole : Cal P w K mg base "_law_whole" ["_law_got"] 1 (sp__law_whole K)) : Cal P w K mg base "_law_right" ["_law_yard", "_law_key_here"] 6 (sp__law_right K) := by
  refine Cal.of F mF bF sc__law_right (fun vs H Q E h => ?_) (fun cdv A outer s H vs Q E hr h => ?_)
  · obtain ⟨y, w, R, k, X, rfl, _⟩ := h; rfl
  obtain ⟨y, w, R, k, X, rfl, hy, hdk, k0, k1, r1, r2, q⟩ := h
  have hu := hr.units
  obtain ⟨_, _, _, hen, sz⟩ := id hy
  refine ⟨_, (pss_cons (ps_set (i := 2) sc__law_right.nd rfl (Or.inl rfl) (pcl C__law_copy (hr.mono (by decide)) (pa_cons (pv 0) pa_nil stx_Name)))
      (pss_cons (ps_set (i := 3) sc__law_right.nd rfl (Or.inl rfl) (pcl C_found (hr.mono (by decide)) (pa_cons (pv 0) (pa_cons (pv 1) pa_nil stx_Name) stx_Name)))
      (pss_cons (ps_if (PW.pt (pw_or (pt_not (pt_val (pe_callB call_isinst rfl T.isinstance bt_isinstance (pa_cons (pv 3) (pa_cons (pe_bltn (v := .ty "tuple") rfl T.tuple bt_tuple rfl) pa_nil stx_Name) stx_Name)))) (pw_or (pt_cmpR op_ne (pe_callB call_lenL rfl T.len bt_len (pa_cons (pv 3) pa_nil stx_Name)) pe_int (nomark _)) (pw_or (pt_not (pt_val (pcl C__law_whole (hr.mono (by decide)) (pa_cons (pe_ix ix_tup (pv 3) pe_int (fun _ _ => rfl)) pa_nil stx_Subscript)))) (pw_or1 (pt_cmpR (op_neD hu) (pv 0) (pv 2) (nomark _))))))) (pss_one (ps_ret pe_bl)) pss_nil)
      (pss_one (ps_ret (pe_cmpR (op_eqD hu) (pv 3) (pcl C__law_found (hr.mono (by decide)) (pa_cons (pv 2) (pa_cons (pv 1) pa_nil stx_Name) stx_Name)) (nomark _))))))), ?_⟩
  rw [st__law_right]
  walk_at "rd"
  refine ⟨y, w, R, X, rfl, hy, fun yc hc bsc H1 nyc hyc tc s1 => ?_⟩
  have hYc : Yd H1 yc w R X := ⟨hc, hyc, tc.r3, hen.same s1, sz⟩
  have hdk1 : DkX H1 X := hdk.keep (fun _ _ e => s1 _ _ e) hen
  walk_at "rd"
  refine ⟨y, w, R, k, X, rfl, hy.same s1, hdk1, r1, r2, fun t H2 ht s2 => ?_⟩
  walk_at "rd"
  refine rd_isi (.tup ht) (b := true) rfl ?_
  walk_at "rd"
  refine ⟨t, _, rfl, .inr (SqT.of ht), ?_⟩
  rw [show (([xV (fnd k (rowsDD H1 (ownR X k R))).1, V.int (fnd k (rowsDD H1 (ownR X k R))).2].length : Nat) : Int) = 2 from rfl]
  walk_at "rd"
  rw [if_neg (by simp)]
  walk_at "rd"
  refine ⟨_, rfl, ?_⟩
  walk_at "rd"
  have g1 := (hy.same (s1.trans s2)).gd (K := K)
  have g2 := (hYc.same s2).gd (K := K)
  refine ⟨_, _, g1.1, g2.1, g1.shaped (by omega), g2.shaped (by omega), ?_⟩
  rw [show PyData.eqv (dY H2 w R X) (dY H2 w R X) = true from g1.refl]
  walk_at "rd"
  refine ⟨yc, w, R, k, X, rfl, hYc.same s2, k0, k1, r1, r2, fun t2 H3 ht2 s3 => ?_⟩
  obtain ⟨ra, rb⟩ := rows_ok (k := k) (R := R) (hen.same s1)
  rw [rowsDD_keep (fun _ _ e => s2 _ _ e) ra] at ht2
  have gx := fun H => xV_gd (K := K) (H := H) (fnd_ok (k := k) rb)
  have g3 : GD K H3 2 (.ref t) _ := GD.tup (s3 _ _ ht) (.cons (gx H3) (.cons (.int _) .nil))
  have g4 : GD K H3 2 (.ref t2) _ := GD.tup ht2 (.cons (gx H3) (.cons (.int _) .nil))
  refine ⟨_, _, g3.1, g4.1, g3.shaped (by omega), g3.shaped (by omega), ?_⟩
  rw [g3.refl]
  walk_at "rd"
  exact q H3 ((s1.trans s2).trans s3)
theorem ok_law {f : Addr} {fd : FuncData} (F : Fun K "law" "law" s_law f fd) (T : Bl mg) (C__law_places : Cal P w K mg base "_law_places" ["_law_script", "_law_least", "_law_most"] 1 (sp__law_places K)) (C__law_open : Cal P w K mg base "_law_open" ["_law_script", "_law_place"] 1 (sp__law_open K)) (C__law_draw : Cal P w K mg base "_law_draw" ["_law_hand", "_law_many"] 1 (sp__law_draw K)) (C__law_key : Cal P w K mg base "_law_key" ["_law_hand"] 3 (sp__law_key K)) (C__law_room : Cal P w K mg base "_law_room" ["_law_key_here", "_law_rooms"] 1 (sp__law_room K)) (C__law_row : Cal P w K mg base "_law_row" ["_law_hand", "_law_keys"] 3 (sp__law_row K)) (C__law_right : Cal P w K mg base "_law_right" ["_law_yard", "_law_key_here"] 6 (sp__law_right K)) (C__law_thing : Cal P w K mg base "_law_thing" ["_law_hand"] 2 (sp__law_thing K)) : FnOk P w K mg base CX0 7 f fd ["_law_script"] (sp_law K) := by
  refine F.ok sc_law (fun vs H Q E h => ?_) (fun cdv A outer s H vs Q E hr h => ?_)
  · obtain ⟨a, ns, rfl, _⟩ := h; rfl
  obtain ⟨a, ms, rfl, hS, hlen, q⟩ := h
  have hu := hr.units
  refine ⟨_, (pss_cons (ps_for PassesOwn.never rfl (pi_list (pcl C__law_places (hr.mono (by decide)) (pa_cons (pv 0) (pa_cons pe_int (pa_cons pe_int pa_nil stx_Constant) stx_Constant) stx_Name))) (pg_name (i := 1) sc_law.nd rfl (Or.inl rfl)) (pss_cons (ps_set (i := 2) sc_law.nd rfl (Or.inr rfl) (pcl C__law_open (hr.mono (by decide)) (pa_cons (pv 0) (pa_cons (pv 1) pa_nil stx_Name) stx_Name)))
      (pss_cons (ps_set (i := 3) sc_law.nd rfl (Or.inl rfl) (pcl C__law_draw (hr.mono (by decide)) (pa_cons (pv 2) (pa_cons pe_int pa_nil stx_Constant) stx_Name)))
      (pss_cons (ps_set (i := 4) sc_law.nd rfl (Or.inl rfl) (pe_op op_add pe_int (pcl C__law_draw (hr.mono (by decide)) (pa_cons (pv 2) (pa_cons (pe_ix ix_list (pe_lst (pa_cons pe_int (pa_cons pe_int (pa_cons pe_int (pa_cons pe_int pa_nil stx_Constant) stx_Constant) stx_Constant) stx_Constant)) (pv 3) (fun _ _ => rfl)) pa_nil stx_Subscript) stx_Name))))
      (pss_cons (ps_set (i := 5) sc_law.nd rfl (Or.inr rfl) (pe_comp rfl (blkOk (sc := defScope s_law) (N := ["_law_script", "_law_place", "_law_hand", "_law_few", "_law_rooms", "_law_keys", "_law_key_here", "_law_held", "_law_room_here", "_law_yard"]) (vs := ["_law_k"]) (fs := ["_law_hand"]) (js := [2]) (by decide +kernel) rfl rfl) (pi_range1 rfl T.range (pa_cons (pe_op op_add pe_int (pcl C__law_draw (hr.mono (by decide)) (pa_cons (pv 2) (pa_cons pe_int pa_nil stx_Constant) stx_Name))) pa_nil stx_BinOp)) (fun _ _ _ _ => pg_name (i := 0) (show (["_law_k", "_law_hand"] : List Str).Nodup by decide +kernel) rfl (Or.inl rfl)) (fun _ _ _ _ => pif0) (fun _ _ _ _ => (pcl C__law_key (hr.mono (by decide)) (pa_cons (pv 1) pa_nil stx_Name)))))
      (pss_cons (ps_set (i := 5) sc_law.nd rfl (Or.inr rfl) (pe_op op_cat (pe_op op_cat (pv 5) (pe_comp rfl (blkOk (sc := defScope s_law) (N := ["_law_script", "_law_place", "_law_hand", "_law_few", "_law_rooms", "_law_keys", "_law_key_here", "_law_held", "_law_room_here", "_law_yard"]) (vs := ["_law_key_here"]) (fs := []) (js := []) (by decide +kernel) rfl rfl) (pi_list (pe_slice sl_list (pv 5) po_none (po_some pe_int))) (fun _ _ _ _ => pg_name (i := 0) (show (["_law_key_here"] : List Str).Nodup by decide +kernel) rfl (Or.inl rfl)) (fun _ _ _ _ => pif0) (fun _ _ _ _ => (pe_op op_mul (pe_op op_fdivB (pv 0) pe_int) pe_int)))) (pe_lst (pa_cons (pcl C__law_draw (hr.mono (by decide)) (pa_cons (pv 2) (pa_cons pe_int pa_nil stx_Constant) stx_Name)) pa_nil stx_Call))))
      (pss_cons (ps_setc (i := 7) sc_law.nd rfl rfl rfl (blkOk (sc := defScope s_law) (N := ["_law_script", "_law_place", "_law_hand", "_law_few", "_law_rooms", "_law_keys", "_law_key_here", "_law_held", "_law_room_here", "_law_yard"]) (vs := ["_law_j"]) (fs := ["_law_hand", "_law_keys"]) (js := [2, 5]) (by decide +kernel) rfl rfl) (pi_range1 rfl T.range (pa_cons (pcl C__law_draw (hr.mono (by decide)) (pa_cons (pv 2) (pa_cons pe_int pa_nil stx_Constant) stx_Name)) pa_nil stx_Call)) (fun _ _ _ _ => pg_name (i := 0) (show (["_law_j", "_law_hand", "_law_keys"] : List Str).Nodup by decide +kernel) rfl (Or.inl rfl)) (fun _ _ _ _ => pif0) (fun _ _ _ _ => (pe_comp rfl (blkOkM (N := ["_law_j", "_law_hand", "_law_keys"]) (vs := ["_law_k"]) (fs := ["_law_hand", "_law_keys"]) (js := [1, 2]) rfl rfl (by kernel_rfl)) (pi_range1 rfl T.range (pa_cons (pcl C__law_draw (hr.mono (by decide)) (pa_cons (pv 1) (pa_cons pe_int pa_nil stx_Constant) stx_Name)) pa_nil stx_Call)) (fun _ _ _ _ => pg_name (i := 0) (show (["_law_k", "_law_hand", "_law_keys"] : List Str).Nodup by decide +kernel) rfl (Or.inl rfl)) (fun _ _ _ _ => pif0) (fun _ _ _ _ => (pcl C__law_row (hr.mono (by decide)) (pa_cons (pv 1) (pa_cons (pv 2) pa_nil stx_Name) stx_Name))))))
      (pss_cons (ps_for PassesOwn.never rfl (pi_list (pe_slice sl_list (pv 5) po_none (po_some pe_int))) (pg_name (i := 6) sc_law.nd rfl (Or.inl rfl)) (pss_cons (ps_set (i := 8) sc_law.nd rfl (Or.inl rfl) (pcl C__law_room (hr.mono (by decide)) (pa_cons (pv 6) (pa_cons (pv 4) pa_nil stx_Name) stx_Name)))
      (pss_cons (ps_cut (ps_if (pt_cmpR op_eq (pv 3) pe_int (nomark _)) (pss_one (ps_set (i := 7) sc_law.nd rfl (Or.inl rfl) (pe_op op_cat (pv 7) (pe_comp rfl (blkOk (sc := defScope s_law) (N := ["_law_script", "_law_place", "_law_hand", "_law_few", "_law_rooms", "_law_keys", "_law_key_here", "_law_held", "_law_room_here", "_law_yard"]) (vs := ["_law_k"]) (fs := []) (js := []) (by decide +kernel) rfl rfl) (pi_range1 rfl T.range (pa_cons (pe_op op_sub (pe_op op_add (pv 8) pe_int) (pe_callB call_lenL rfl T.len bt_len (pa_cons (pv 7) pa_nil stx_Name))) pa_nil stx_BinOp)) (fun _ _ _ _ => pg_name (i := 0) (show (["_law_k"] : List Str).Nodup by decide +kernel) rfl (Or.inl rfl)) (fun _ _ _ _ => pif0) (fun _ _ _ _ => (pe_lst pa_nil)))))) pss_nil))
      (pss_one (ps_if (pt_cmpR op_lt (pv 8) (pe_callB call_lenL rfl T.len bt_len (pa_cons (pv 7) pa_nil stx_Name)) (nomark _)) (pss_one (ps_expr (pe_bm PySem.F.plainAttrs_list PySem.F.slot_list_append PySem.F.type_list_append mt_append (pe_ix ix_list (pv 7) (pv 8) (fun _ _ => rfl)) (pa_cons (pe_lst (pa_cons (pe_tup (pa_cons (pv 6) (pa_cons (pcl C__law_thing (hr.mono (by decide)) (pa_cons (pv 2) pa_nil stx_Name)) pa_nil stx_Call) stx_Name)) pa_nil stx_Tuple)) pa_nil stx_List)))) pss_nil)))))
      (pss_cons (ps_cut (ps_if (pt_cmpR op_eq (pv 1) pe_int (nomark _)) (pss_one (ps_set (i := 7) sc_law.nd rfl (Or.inl rfl) (pe_op op_cat (pe_lst (pa_cons (pe_comp rfl (blkOk (sc := defScope s_law) (N := ["_law_script", "_law_place", "_law_hand", "_law_few", "_law_rooms", "_law_keys", "_law_key_here", "_law_held", "_law_room_here", "_law_yard"]) (vs := ["_law_k"]) (fs := ["_law_hand", "_law_keys"]) (js := [2, 5]) (by decide +kernel) rfl rfl) (pi_range1 rfl T.range (pa_cons (pcl C__law_draw (hr.mono (by decide)) (pa_cons (pv 2) (pa_cons pe_int pa_nil stx_Constant) stx_Name)) pa_nil stx_Call)) (fun _ _ _ _ => pg_name (i := 0) (show (["_law_k", "_law_hand", "_law_keys"] : List Str).Nodup by decide +kernel) rfl (Or.inl rfl)) (fun _ _ _ _ => pif0) (fun _ _ _ _ => (pcl C__law_row (hr.mono (by decide)) (pa_cons (pv 1) (pa_cons (pv 2) pa_nil stx_Name) stx_Name)))) pa_nil stx_ListComp)) (pe_slice sl_list (pv 7) (po_some pe_int) po_none)))) pss_nil))
      (pss_cons (ps_cut (ps_while PassesOwn.never (PW.pt (pw_and (pt_cmpR (op_neD hu) (pv 7) (pe_lst pa_nil) (nomark _)) (pw_and1 (pt_cmpR (op_eqD hu) (pe_ix ix_list (pv 7) (pe_un un_neg pe_int) (fun _ _ => rfl)) (pe_lst pa_nil) (nomark _))))) (pss_one (ps_expr (pe_bm0 PySem.F.plainAttrs_list PySem.F.slot_list_pop PySem.F.type_list_pop mt_pop (pv 7))))))
      (pss_cons (ps_set (i := 9) sc_law.nd rfl (Or.inl rfl) (pe_tup (pa_cons (pe_op op_add pe_int (pcl C__law_draw (hr.mono (by decide)) (pa_cons (pv 2) (pa_cons pe_int pa_nil stx_Constant) stx_Name))) (pa_cons (pv 4) (pa_cons (pv 7) pa_nil stx_Name) stx_Name) stx_BinOp)))
      (pss_one (ps_for PassesOwn.never rfl (pi_list (pe_op op_cat (pv 5) (pe_lst (pa_cons (pe_op op_sub (pe_op op_add (pe_ix ix_list (pv 5) pe_int (fun _ _ => rfl)) pe_int) (pe_op op_mul pe_int (pe_op op_mod (pe_ix ix_list (pv 5) pe_int (fun _ _ => rfl)) pe_int))) (pa_cons (pcl C__law_key (hr.mono (by decide)) (pa_cons (pv 2) pa_nil stx_Name)) pa_nil stx_Call) stx_BinOp)))) (pg_name (i := 6) sc_law.nd rfl (Or.inl rfl)) (pss_one (ps_if (pt_not (pt_val (pcl C__law_right (hr.mono (by decide)) (pa_cons (pv 9) (pa_cons (pv 6) pa_nil stx_Name) stx_Name)))) (pss_one (ps_ret pe_bl)) pss_nil)))))))))))))))
      (pss_one (ps_ret pe_bl))), ?_⟩
  rw [st_law]
  walk_at "rd"
  refine ⟨a, ms, 8, 30, rfl, hS, hlen, by omega, by omega, by omega, by omega, fun np' pl H15 npl nplH hpl s15 => ?_⟩
  walk_at "rd"
  refine ⟨pl, rfl, ⟨_, SqL.of hpl⟩, ?_⟩
  refine for_list (xs := (upN np').map V.int) (fun i σ H' => (∃ y1 y2 y3 y4 y5 y6 y7 y8 y9, σ = [some (.ref a), y1, y2, y3, y4, y5, y6, y7, y8, y9]) ∧ Same H15 H') ⟨⟨_, _, _, _, _, _, _, _, _, rfl⟩, Same.refl _⟩ (fun _ _ _ _ h => SqL.of (h.2 _ _ hpl)) ?_ ?_
  · rintro i x σ H1 hx ⟨⟨y1, y2, y3, y4, y5, y6, y7, y8, y9, rfl⟩, sm⟩
    obtain ⟨iln, rfl⟩ := upN_get hx
    walk_at "rd"
    refine ⟨a, ms, i, rfl, (s15.trans sm).seq hS, hlen, by omega, by omega, fun p H2 np s2 hh2 => ?_⟩
    walk_at "rd"
    refine ⟨p, _, 4, rfl, hh2, by decide, by decide, by decide, fun few H3 f0 f1 hh3 k3 => ?_⟩
    walk_at "rd"
    refine ⟨(by show 4 ≤ sizeLine; decide), fun l1 nl1 => ?_⟩
    generalize hE : upd H3 l1 _ = H4
    obtain ⟨hh4, k4, hl1, s4⟩ := newl hh3 nl1 k3 hE
    clear hE
    obtain ⟨b1, hb1, b10, b11⟩ : ∃ b : Int, atI [V.int 1, V.int 4, V.int 12, V.int 130] few = some (.int b) ∧ 1 ≤ b ∧ b ≤ 130 := by
      rcases (by omega : few = 0 ∨ few = 1 ∨ few = 2 ∨ few = 3) with h | h | h | h <;> rw [h] <;> exact ⟨_, rfl, by decide, by decide⟩
    walk_at "rd"
    refine rd_ixL (SqL.of hl1) hb1 ?_
    walk_at "rd"
    refine ⟨p, _, b1, rfl, hh4, by omega, by omega, by omega, fun r0 H5 r00 r01 hh5 k5 => ?_⟩
    walk_at "rd"
    have R1 : (1 : Int) ≤ 1 + r0 := by omega
    have R2 : 1 + r0 ≤ 130 := by omega
    generalize 1 + r0 = R at R1 R2 ⊢
    refine ⟨p, _, 8, rfl, hh5, by omega, by decide, by decide, fun m0 H6 m00 m01 hh6 k6 => ?_⟩
    walk_at "rd"
    refine ⟨_, rfl, by omega, by omega, fun D nD => ?_⟩
    have k06 := (k4.trans k5).trans k6
    refine comp_range (n := (2 + m0).toNat) (fun j σ' ys H' => (∃ x, σ' = [x, some (.ref p)]) ∧ (∃ zs : List Int, ys = zs.map V.int ∧ zs.length = j ∧ ∀ z ∈ zs, 0 ≤ z ∧ z < 2 ^ 60) ∧ j ≤ 9 ∧ CK H6 p D (1100010 + 20 * j) ys H') D ⟨⟨_, rfl⟩, ⟨[], rfl, rfl, fun _ h => (by cases h)⟩, by omega, (CK.start hh6 nD).mono (by omega)⟩ ?_ ?_
    · rintro j σ' ys H7 hj ⟨⟨x, rfl⟩, ⟨zs, rfl, zl, zc⟩, j9, ck⟩
      walk_at "rd"
      refine ⟨p, _, rfl, ck.hh, by omega, fun k H8 k0 k1 hh8 k8 => ?_⟩
      have ck := ck.draw k8 hh8
      refine ⟨ck.lat, by rw [List.length_map]; exact small1000 (by omega), ⟨_, rfl⟩, ⟨zs ++ [k], by rw [List.map_append]; rfl, by rw [List.length_append, zl]; rfl, fun z hz => ?_⟩, by omega, ck.push.mono (by omega)⟩
      rcases List.mem_append.mp hz with w | w
      · exact zc z w
      · have e : z = k := by simpa using w
        rw [e]; exact ⟨k0, k1⟩
    rintro σ' ys H7 ⟨⟨x, rfl⟩, ⟨zs, rfl, zl, zc⟩, j9, ck⟩
    have hz7 := ck.lat
    have hh7 := ck.hh
    have k07 := k06.trans ck.kp
    have Dp := ck.np
    clear ck
    walk_at "rd"
    refine rd_slL (SqL.of hz7) fun e1 ne1 => ?_
    rw [show (2 : Int) = ((2 : Nat) : Int) from rfl, cut_intsT]
    generalize hE : upd H7 e1 _ = H8
    obtain ⟨he1, s8⟩ := newo ne1 hE
    clear hE
    refine ⟨e1, rfl, ⟨_, SqL.of he1⟩, fun D2 nD2 => ?_⟩
    refine comp_list (xs := (zs.take 2).map V.int) (fun j σ' ys H' => (∃ x, σ' = [x]) ∧ Same H8 H' ∧ (∃ us : List Int, ys = us.map V.int ∧ us.length = j ∧ ∀ z ∈ us, 0 ≤ z ∧ z < 2 ^ 60) ∧ H' D2 = some (.lst ys)) D2 ⟨⟨_, rfl⟩, same_new nD2 _, ⟨[], rfl, rfl, fun _ h => (by cases h)⟩, upd_same⟩ (fun _ _ _ _ _ h => SqL.of (h.2.1 _ _ he1)) ?_ ?_
    · rintro j x σ' ys H9 hx ⟨⟨x1, rfl⟩, s9, ⟨us, rfl, ul, uc⟩, hD2⟩
      obtain ⟨k, hk, rfl⟩ := ints_get hx
      have jl := (List.getElem?_eq_some_iff.mp hk).1
      rw [List.length_take] at jl
      obtain ⟨kk0, kk1⟩ := zc k (List.mem_of_mem_take (List.mem_of_getElem? hk))
      walk_at "rd"
      refine ⟨hD2, by rw [List.length_map]; exact small1000 (by omega), ⟨_, rfl⟩, fun b o e => by rw [upd_ne (ne_of_none e nD2)]; exact s9 _ _ e, ⟨us ++ [_], by rw [List.map_append]; rfl, by rw [List.length_append, ul]; rfl, fun z hz => ?_⟩, upd_same⟩
      rcases List.mem_append.mp hz with w | w
      · exact uc z w
      · have e : z = k / 2 * 2 := by simpa using w
        rw [e]; omega
    rintro σ' ys H9 ⟨⟨x1, rfl⟩, s9, ⟨us, rfl, ul, uc⟩, hD2⟩
    rw [List.length_map, List.length_take] at ul
    have s79 := s8.trans s9
    have hz9 := s79 _ _ hz7
    walk_at "rd"
    refine ⟨D, D2, _, _, rfl, rfl, hz9, hD2, by rw [List.length_map, List.length_map]; exact Nat.le_of_lt (small1000 (by omega)), fun e3 ne3 => ?_⟩
    generalize hE : upd H9 e3 _ = H10
    obtain ⟨he3, s10⟩ := newo ne3 hE
    clear hE
    have hh10 := hh7.same (s79.trans s10)
    have k010 := k07.trans (Kp.of (s79.trans s10) hh7)
    have e3p := (hh7.same s79).ne ne3
    walk_at "rd"
    refine ⟨p, _, 12, rfl, hh10, by omega, by decide, by decide, fun d12 H11 d0 d1 hh11 k11 => ?_⟩
    walk_at "rd"
    refine ⟨(by show 1 ≤ sizeLine; decide), fun e4 ne4 => ?_⟩
    generalize hE : upd H11 e4 _ = H12
    obtain ⟨he4, s12⟩ := newo ne4 hE
    clear hE
    refine ⟨e3, e4, _, _, rfl, rfl, s12 _ _ (k11.1 _ _ he3 e3p), he4, by rw [List.length_append, List.length_map, List.length_map]; exact Nat.le_of_lt (small1000 (by show _ + 1 ≤ 1000; omega)), fun kl nkl => ?_⟩
    generalize hE : upd H12 kl _ = H13
    obtain ⟨hkl, s13⟩ := newo nkl hE
    clear hE
    have hh12 := hh11.same s12
    have klp := hh12.ne nkl
    have hh13 := hh12.same s13
    have k013 : Kp H2 H13 p := (k010.trans k11).trans (Kp.of (s12.trans s13) hh11)
    have hkl' : H13 kl = some (.lst ((zs ++ us ++ [d12]).map V.int)) := by rw [hkl, List.map_append, List.map_append]; rfl
    have hks : ∀ z ∈ zs ++ us ++ [d12], 0 ≤ z ∧ z < 2 ^ 60 := fun z hz => by
      rcases List.mem_append.mp hz with w | w
      · rcases List.mem_append.mp w with w | w
        · exact zc z w
        · exact uc z w
      · have e : z = d12 := by simpa using w
        rw [e]; omega
    have kll : 3 ≤ (zs ++ us ++ [d12]).length ∧ (zs ++ us ++ [d12]).length ≤ 20 := by
      rw [List.length_append, List.length_append, List.length_singleton]; omega
    generalize zs ++ us ++ [d12] = ks at hkl' hks kll
    have s1d : Same H1 H13 := Kp.new s2 np k013
    have hh0 := hh13.mono (show _ ≤ 1101000 by omega)
    clear hkl he3 he4 hz7 hz9 hD2 hh12 hh11 hh10 hh7 hh6 hh5 hh4 hh3 hh2 k3 k4 k5 k6 k06 k07 k010 k11 k013 s79 s8 s9 s10 s12 s13 he1 s4 hl1 hh13
    walk_at "rd"
    have h0p := hand_some hh0
    have kne : ks ≠ [] := fun z => by rw [z] at kll; simp at kll
    refine ⟨p, _, 8, rfl, hh0, by omega, by decide, by decide, fun n8 Ha n80 n81 hha ka => ?_⟩
    walk_at "rd"
    refine ⟨_, rfl, by omega, by omega, fun D nD => ?_⟩
    have nD0 : H13 D = none := ka.free nD (hha.ne nD)
    have B0 : Bd H13 p (1101010 + 3000 * 0) (upd Ha D (.lst [])) D [] [] := ⟨(hha.same (same_new nD _)).mono (by omega), ka.trans (Kp.of (same_new nD _) hha), ⟨nD0, upd_same, List.nodup_nil, (fun z => by cases z), P1.nil⟩, (fun _ h => by cases h), (fun _ h => by cases h)⟩
    refine comp_range (n := n8.toNat) (fun j σ' ys H' => (∃ x, σ' = [x, some (.ref p), some (.ref kl)]) ∧ j ≤ 7 ∧ ∃ (cs : List Addr) (X : List (List (List V))), ys = cs.map V.ref ∧ X.length = j ∧ Bd H13 p (1101010 + 3000 * j) H' D cs X ∧ ∀ rows ∈ X, rows.length ≤ 4 ∧ ∀ es ∈ rows, es.length ≤ 3) D ⟨⟨_, rfl⟩, by omega, [], [], rfl, rfl, B0, fun _ h => (by cases h)⟩ ?_ ?_
    · rintro j σ' ys H5 hj ⟨⟨x, rfl⟩, j7, cs, X, rfl, xl, B, hsz⟩
      have cl := B.t.2.2.2.2.1
      walk_at "rd"
      refine ⟨p, _, 5, rfl, B.hh, by omega, by decide, by decide, fun m5 Hb m50 m51 hhb kb => ?_⟩
      have B1 := B.draw h0p kb hhb
      walk_at "rd"
      refine ⟨_, rfl, by omega, by omega, fun E1 nE1 => ?_⟩
      obtain ⟨E1D, _⟩ := B1.t.new nE1
      refine comp_range (n := m5.toNat) (fun k σ' ys H' => (∃ x, σ' = [x, some (.ref p), some (.ref kl)]) ∧ k ≤ 4 ∧ ∃ (as : List Addr) (rows : List (List V)), ys = as.map V.ref ∧ rows.length = k ∧ CK Hb p E1 ((1101010 + 3000 * j + 1) + 400 * k) ys H' ∧ P1 (fun a es => Hb a = none ∧ a ≠ E1 ∧ H' a = some (.lst es)) as rows ∧ ∀ es ∈ rows, es.length ≤ 3 ∧ (∀ v ∈ es, En H' v) ∧ ((rowD H' es).map (·.1)).Nodup) E1 ⟨⟨_, rfl⟩, by omega, [], [], rfl, rfl, CK.start hhb nE1, P1.nil, fun _ h => (by cases h)⟩ ?_ ?_
      · rintro k σ' ys H6 hk ⟨⟨x, rfl⟩, k4, as, rows, rfl, rl, c, hA, hR⟩
        have al := hA.1
        have hk6 := c.kp.1 _ _ (B1.kp.1 _ _ hkl' klp) klp
        walk_at "rd"
        refine ⟨p, kl, _, ks, rfl, c.hh, by omega, hk6, klp, kne, by omega, fun l es H7 nl hl el hen hnd hh7 k7 => ?_⟩
        have kt7 := kt_of c.hh k7
        have c7 := c.draw k7 hh7
        have lD : l ≠ E1 := fun z => by rw [z, c.lat] at nl; cases nl
        have ln : Hb l = none := c.kp.free nl (c.hh.ne nl)
        have cp := c7.push (zs := as.map V.ref ++ [V.ref l])
        have kt8 : ∀ t xs, H7 t = some (.tup xs) → (upd H7 E1 (.lst (as.map V.ref ++ [V.ref l]))) t = some (.tup xs) := fun t xs e => by rw [upd_ne (ne_of e c7.lat (by intro z; cases z))]; exact e
        have old : P1 (fun a es => Hb a = none ∧ a ≠ E1 ∧ (upd H7 E1 (.lst (as.map V.ref ++ [V.ref l]))) a = some (.lst es)) as rows := hA.imp fun a es t => ⟨t.1, t.2.1, by rw [upd_ne t.2.1]; exact k7.1 _ _ t.2.2 (fun z => by have := hand_some hhb; rw [← z, t.1] at this; obtain ⟨_, z'⟩ := this; cases z')⟩
        refine ⟨c7.lat, by rw [List.length_map]; exact small1000 (by omega), ⟨_, rfl⟩, by omega, as ++ [l], rows ++ [es], by rw [List.map_append]; rfl, by rw [List.length_append, rl]; rfl, ⟨cp.hh.mono (by omega), cp.lat, cp.kp, cp.n0, cp.np, cp.nc⟩, old.snoc ⟨ln, lD, by rw [upd_ne lD]; exact hl⟩, fun es' he => ?_⟩
        rcases List.mem_append.mp he with z | z
        · obtain ⟨r1, r2, r3⟩ := hR es' z
          exact ⟨r1, fun v hv => (r2 v hv).keep fun t xs e => kt8 _ _ (kt7 _ _ e), by rw [rowD_keep (fun t xs e => kt8 _ _ (kt7 _ _ e)) r2]; exact r3⟩
        · have e : es' = es := by simpa using z
          rw [e]
          have hen' : ∀ v ∈ es, En H7 v := fun v hv => (hen v hv).keep fun _ _ e => newSince_tup e
          exact ⟨el, fun v hv => (hen' v hv).keep kt8, by rw [rowD_keep kt8 hen']; exact hnd⟩

      rintro σ' ys H6 ⟨⟨x, rfl⟩, k4, as, rows, rfl, rl, c, hA, hR⟩
      have B2 := B1.draw h0p c.kp c.hh
      have hD6 := B2.t.2.1
      have kt6 := kt_of hhb c.kp
      have kt8 : ∀ t xs, H6 t = some (.tup xs) → (upd H6 D (.lst (cs.map V.ref ++ [V.ref E1]))) t = some (.tup xs) := fun t xs e => by rw [upd_ne (ne_of e hD6 (by intro z; cases z))]; exact e
      obtain ⟨kpU, hhU⟩ := upd_kp (o := .lst (cs.map V.ref ++ [V.ref E1])) hh0 B2.kp nD0
      have np0 : ∀ b, H13 b = none → b ≠ p := fun b n z => by obtain ⟨o, ho⟩ := h0p; rw [z, ho] at n; cases n
      have tN : T3 (fun b => H13 b = none) (upd H6 D (.lst (cs.map V.ref ++ [V.ref E1]))) D (cs ++ [E1]) (X ++ [rows]) := by
        refine B1.t.grow (fun b o sb nb e => by rw [upd_ne nb]; exact c.kp.1 _ _ e (np0 b sb)) (by rw [upd_same, List.map_append]; rfl) nE1 (B1.free nE1) (by rw [upd_ne E1D]; exact c.lat) (hA.imp fun a es t => ⟨B1.free t.1, t.1, t.2.1, ?_⟩)
        rw [upd_ne (B1.t.new t.1).1]; exact t.2.2
      have enN : EnX (upd H6 D (.lst (cs.map V.ref ++ [V.ref E1]))) (X ++ [rows]) := fun r hr es he v hv => by
        rcases List.mem_append.mp hr with z | z
        · exact (B2.en r z es he v hv).keep kt8
        · have e : r = rows := by simpa using z
          rw [e] at he
          exact ((hR es he).2.1 v hv).keep kt8
      have dkN : DkX (upd H6 D (.lst (cs.map V.ref ++ [V.ref E1]))) (X ++ [rows]) := fun r hr es he => by
        rcases List.mem_append.mp hr with z | z
        · rw [rowD_keep kt8 (B2.en r z es he)]; exact B2.dk r z es he
        · have e : r = rows := by simpa using z
          rw [e] at he
          rw [rowD_keep kt8 (hR es he).2.1]; exact (hR es he).2.2
      refine ⟨hD6, by rw [List.length_map]; exact small1000 (by omega), ⟨_, rfl⟩, by omega, cs ++ [E1], X ++ [rows], by rw [List.map_append]; rfl, by rw [List.length_append, xl]; rfl, ⟨(hhU c.hh).mono (by omega), kpU, tN, enN, dkN⟩, fun r hr => ?_⟩
      rcases List.mem_append.mp hr with z | z
      · exact hsz r z
      · have e : r = rows := by simpa using z
        rw [e]
        exact ⟨by omega, fun es he => (hR es he).1⟩
    rintro σ' ys H5 ⟨⟨x, rfl⟩, j7, cs, X, rfl, xl, B, hsz⟩
    walk_at "rd"
    have hkl5 := B.kp.1 _ _ hkl' klp
    refine rd_slL (SqL.of hkl5) fun e5 ne5 => ?_
    rw [show (4 : Int) = ((4 : Nat) : Int) from rfl, cut_intsT]
    generalize hE : upd H5 e5 _ = H6
    obtain ⟨he5, s6⟩ := newo ne5 hE
    clear hE
    obtain ⟨_, ne5b⟩ := B.t.new ne5
    have e5p := B.hh.ne ne5
    have B6 := B.same s6
    have np0 : ∀ b, H13 b = none → b ≠ p := fun b n z => by obtain ⟨o, ho⟩ := h0p; rw [z, ho] at n; cases n
    refine ⟨e5, rfl, ⟨_, SqL.of he5⟩, ?_⟩
    refine for_list (xs := (ks.take 4).map V.int) (fun j σ H' => j ≤ 4 ∧ ∃ x6 x8 h bs X, σ = [some (.ref a), some (.int i), some (.ref p), some (.int few), some (.int R), some (.ref kl), x6, some (.ref h), x8, y9] ∧ Bd H13 p (1130000 + 100 * j) H' h bs X ∧ H' e5 = some (.lst ((ks.take 4).map V.int)) ∧ e5 ∉ bs ∧ X.length ≤ 131 ∧ ∀ rows ∈ X, rows.length ≤ 4 + j ∧ ∀ es ∈ rows, es.length ≤ 3) ⟨by omega, _, _, D, cs, X, rfl, B6.mono (by omega), he5, ne5b, by omega, fun r hr => ⟨by have := (hsz r hr).1; omega, (hsz r hr).2⟩⟩ (fun _ _ _ _ h => by obtain ⟨_, _, _, _, _, _, _, _, he, _⟩ := h; exact SqL.of he) ?_ ?_
    · rintro j x σ H7 hx ⟨j4, x6, x8, h, bs, X, rfl, B, he5, n5, xl, hsz⟩
      obtain ⟨k, hk, rfl⟩ := ints_get hx
      have jl := (List.getElem?_eq_some_iff.mp hk).1
      rw [List.length_take] at jl
      obtain ⟨k0, k1⟩ := hks k (List.mem_of_mem_take (List.mem_of_getElem? hk))
      have bl := B.t.2.2.2.2.1
      walk_at "rd"
      refine ⟨k, R, rfl, k0, by omega, R1, by omega, ?_⟩
      have rb := roomV_lt (k := k) R1
      obtain ⟨r, hr0⟩ : ∃ r : Nat, roomV k R = (r : Int) := ⟨(roomV k R).toNat, by omega⟩
      rw [hr0]
      walk_at "rd"
      refine ⟨fun σ' H' => ∃ h bs X, σ' = [some (.ref a), some (.int i), some (.ref p), some (.int few), some (.int R), some (.ref kl), some (.int k), some (.ref h), some (.int r), y9] ∧ Bd H13 p (1130000 + 100 * j) H' h bs X ∧ H' e5 = some (.lst ((ks.take 4).map V.int)) ∧ e5 ∉ bs ∧ X.length ≤ 131 ∧ ∀ rows ∈ X, rows.length ≤ 4 + j ∧ ∀ es ∈ rows, es.length ≤ 3, ?_, ?_⟩
      · walk_at "rd"
        refine rd_if (fun c => ?_) (fun c => ?_)
        · have hh7 := B.t.2.1
          have lm1 : (bs.map V.ref).length = bs.length := List.length_map _
          walk_at "rd"
          refine ⟨_, rfl, by omega, by omega, fun D9 nD9 => ?_⟩
          refine comp_range (n := ((r : Int) + 1 - ((bs.map V.ref).length : Nat)).toNat) (fun i σ' ys H' => (∃ x, σ' = [x]) ∧ Same H7 H' ∧ ∃ cs : List Addr, ys = cs.map V.ref ∧ cs.length = i ∧ i ≤ 131 ∧ cs.Nodup ∧ H' D9 = some (.lst ys) ∧ ∀ c ∈ cs, H7 c = none ∧ c ≠ D9 ∧ H' c = some (.lst [])) D9 ⟨⟨_, rfl⟩, same_new nD9 _, [], rfl, rfl, by omega, List.nodup_nil, upd_same, fun _ h => by cases h⟩ ?_ ?_
          · rintro j' σ' ys G1 hj' ⟨⟨x, rfl⟩, g1, cs, rfl, cl, c131, cnd, gD, gC⟩
            walk_at "rd"
            refine ⟨by decide, fun e ne => ?_⟩
            generalize hE : upd G1 e _ = G2
            obtain ⟨he, g2⟩ := newo ne hE
            clear hE
            have eD : e ≠ D9 := fun z => by rw [z, gD] at ne; cases ne
            have enc : e ∉ cs := fun z => by rw [(gC e z).2.2] at ne; cases ne
            refine ⟨g2 _ _ gD, by rw [List.length_map]; exact small1000 (by omega), ⟨_, rfl⟩, fun b o e => by rw [upd_ne (ne_of_none e nD9)]; exact g2 _ _ (g1 _ _ e), cs ++ [e], by rw [List.map_append]; rfl, by rw [List.length_append, cl]; rfl, by omega, ?_, upd_same, fun c hc => ?_⟩
            · rw [List.nodup_append]
              refine ⟨cnd, by simp, fun x hx y hy z => enc ?_⟩
              have : y = e := by simpa using hy
              rw [← this, ← z]; exact hx
            rcases List.mem_append.mp hc with z | z
            · obtain ⟨c1, c2, c3⟩ := gC c z
              exact ⟨c1, c2, by rw [upd_ne c2]; exact g2 _ _ c3⟩
            · have z2 : c = e := by simpa using z
              rw [z2]
              exact ⟨g1.free ne, eD, by rw [upd_ne eD]; exact he⟩
          rintro σ' ys H8 ⟨⟨x, rfl⟩, s8, cs, rfl, cl, c131, cnd, hD9, hC⟩
          have hh8 := s8 _ _ hh7
          refine ⟨h, D9, _, _, rfl, rfl, hh8, hD9, by rw [List.length_map, List.length_map]; exact Nat.le_of_lt (small1000 (by omega)), fun h2 nh2 => ?_⟩
          generalize hE : upd H8 h2 _ = H9
          obtain ⟨hh9, s9⟩ := newo nh2 hE
          clear hE
          rw [← List.map_append] at hh9
          have s79 := s8.trans s9
          have h7some : ∀ {x : Addr} {o : HO}, H7 x = some o → x ≠ h2 ∧ x ∉ cs := fun {x o} e => ⟨ne_of_none (s8 _ _ e) nh2, fun z => by rw [(hC x z).1] at e; cases e⟩
          have tN : T3 (fun b => H13 b = none) H9 h2 (bs ++ cs) (pad X (r + 1)) := by
            have t0 := B.t
            obtain ⟨sh, t1, t2, t3, t4⟩ := B.t
            have old : P1 (T2 (fun b => H13 b = none) h2 (bs ++ cs) H9) bs X := t4.imp fun b rows t => by
              obtain ⟨sb, as, h5, h6⟩ := t
              refine ⟨sb, as, s79 _ _ h5, h6.imp fun a es t => ?_⟩
              obtain ⟨m1, m2⟩ := h7some t.2.2.2
              refine ⟨t.1, m1, fun z => ?_, s79 _ _ t.2.2.2⟩
              rcases List.mem_append.mp z with w | w
              · exact t.2.2.1 w
              · exact m2 w
            have new : P1 (T2 (fun b => H13 b = none) h2 (bs ++ cs) H9) cs (List.replicate (r + 1 - X.length) []) := by
              refine ⟨by rw [List.length_replicate]; omega, fun i c rows ec er => ?_⟩
              have e0 := List.eq_of_mem_replicate (List.mem_of_getElem? er)
              subst e0
              obtain ⟨c1, c2, c3⟩ := hC c (List.mem_of_getElem? ec)
              exact ⟨B.free c1, [], s9 _ _ c3, P1.nil⟩
            refine ⟨B.free (s8.free nh2), hh9, ?_, fun z => ?_, old.app new⟩
            · rw [List.nodup_append]
              refine ⟨t2, cnd, fun x hx y hy z => ?_⟩
              obtain ⟨o, ho⟩ := t0.has hx
              rw [z, (hC y hy).1] at ho; cases ho
            · rcases List.mem_append.mp z with w | w
              · obtain ⟨o, ho⟩ := t0.has w
                exact (h7some ho).1 rfl
              · have := (hC h2 w).2.2
                rw [nh2] at this; cases this
          have enN : EnX H9 (pad X (r + 1)) := fun rows hr es he v hv => by
            rcases pad_mem hr with z | z
            · exact (B.en rows z es he v hv).keep fun _ _ e => s79 _ _ e
            · rw [z] at he; cases he
          have dkN : DkX H9 (pad X (r + 1)) := fun rows hr es he => by
            rcases pad_mem hr with z | z
            · rw [rowD_keep (fun _ _ e => s79 _ _ e) (B.en rows z es he)]; exact B.dk rows z es he
            · rw [z] at he; cases he
          walk_at "rd"
          refine ⟨h2, bs ++ cs, pad X (r + 1), rfl, ⟨B.hh.same s79, B.kp.trans (Kp.of s79 B.hh), tN, enN, dkN⟩, s79 _ _ he5, fun z => ?_, by rw [pad_len]; omega, fun rows hr => ?_⟩
          · rcases List.mem_append.mp z with w | w
            · exact n5 w
            · exact (h7some he5).2 w
          · rcases pad_mem hr with z | z
            · exact hsz rows z
            · rw [z]; exact ⟨by simp, fun es he => by cases he⟩
        · walk_at "rd"
          exact ⟨h, bs, X, rfl, B, he5, n5, xl, hsz⟩
      · clear B he5 n5 xl hsz bl
        rintro σ' H8 ⟨h, bs, X, rfl, B, he5, n5, xl, hsz⟩
        have hh8 := B.t.2.1
        have bl := B.t.2.2.2.2.1
        walk_at "rd"
        refine rd_if (fun c => ?_) (fun c => ?_)
        · rw [List.length_map] at c
          have hb := List.getElem?_eq_getElem (show r < bs.length by omega)
          generalize bs[r] = b at hb
          obtain ⟨rows, hxr, sb, as, hb1, hA⟩ := B.t.2.2.2.2.get hb
          have bm := List.mem_of_getElem? hb
          have hrm := List.mem_of_getElem? hxr
          walk_at "rd"
          refine rd_ixL (SqL.of hh8) (at_ref' hb) ?_
          refine ⟨.inl ⟨rfl, _, SqL.of hb1⟩, ?_⟩
          walk_at "rd"
          refine ⟨p, _, rfl, B.hh, by omega, fun z H9 zo hh9 k9 => ?_⟩
          have B9 := B.draw h0p k9 hh9
          walk_at "rd"
          refine ⟨(by show 2 ≤ sizeLine; decide), fun t nt => ?_⟩
          generalize hE : upd H9 t _ = H10
          obtain ⟨ht, s10⟩ := newo nt hE
          clear hE
          have B10 := B9.same s10
          walk_at "rd"
          refine ⟨(by show 1 ≤ sizeLine; decide), fun l nl => ?_⟩
          generalize hE : upd H10 l _ = H11
          obtain ⟨hl, s11⟩ := newo nl hE
          clear hE
          obtain ⟨lh, lb⟩ := B10.t.new nl
          have ls := B10.free nl
          have B11 := B10.same s11
          obtain ⟨_, as2, hb2, hA2⟩ := B11.t.inrow hb hxr
          have al2 := hA2.1
          have rwl := (hsz rows hrm).1
          refine ⟨b, _, _, rfl, rfl, hb2, by rw [List.length_map]; exact small1000 (by omega), ?_⟩
          have lneb : l ≠ b := fun z => lb (z ▸ bm)
          have hk : ∀ c o, c ≠ b → H11 c = some o → (upd H11 b (.lst (as2.map V.ref ++ [V.ref l]))) c = some o := fun c o n e => by rw [upd_ne n]; exact e
          have kt : ∀ t xs, H11 t = some (.tup xs) → (upd H11 b (.lst (as2.map V.ref ++ [V.ref l]))) t = some (.tup xs) := fun t xs e => hk _ _ (ne_of e hb2 (by intro z; cases z)) e
          have tN := B11.t.one hb hk (rows := rows ++ [[.ref t]]) ⟨sb, as2 ++ [l], by rw [upd_same, List.map_append]; rfl, (hA2.imp fun a es t => ⟨t.1, t.2.1, t.2.2.1, hk _ _ (fun z => t.2.2.1 (z ▸ bm)) t.2.2.2⟩).snoc ⟨ls, lh, lb, by rw [upd_ne lneb]; exact hl⟩⟩
          have enT : En (upd H11 b (.lst (as2.map V.ref ++ [V.ref l]))) (.ref t) := ⟨t, k, z, rfl, kt _ _ (s11 _ _ ht), zo⟩
          have inS : ∀ r' ∈ X.set r (rows ++ [[V.ref t]]), ∀ es ∈ r', (∃ r'' ∈ X, es ∈ r'') ∨ es = [.ref t] := fun r' hr es he => by
            rcases List.mem_or_eq_of_mem_set hr with w | w
            · exact .inl ⟨r', w, he⟩
            · rw [w] at he
              rcases List.mem_append.mp he with w2 | w2
              · exact .inl ⟨rows, hrm, w2⟩
              · exact .inr (by simpa using w2)
          have enN : EnX (upd H11 b (.lst (as2.map V.ref ++ [V.ref l]))) (X.set r (rows ++ [[V.ref t]])) := fun r' hr es he v hv => by
            rcases inS r' hr es he with ⟨r'', w, w2⟩ | w
            · exact (B11.en r'' w es w2 v hv).keep kt
            · rw [w] at hv
              have e : v = .ref t := by simpa using hv
              rw [e]; exact enT
          have dkN : DkX (upd H11 b (.lst (as2.map V.ref ++ [V.ref l]))) (X.set r (rows ++ [[V.ref t]])) := fun r' hr es he => by
            rcases inS r' hr es he with ⟨r'', w, w2⟩ | w
            · rw [rowD_keep kt (B11.en r'' w es w2)]; exact B11.dk r'' w es w2
            · rw [w]; simp [rowD]
          obtain ⟨kpU, hhU⟩ := upd_kp (o := .lst (as2.map V.ref ++ [V.ref l])) hh0 B11.kp sb
          refine ⟨by omega, _, _, h, bs, X.set r (rows ++ [[.ref t]]), rfl, ⟨(hhU B11.hh).mono (by omega), kpU, tN, enN, dkN⟩, hk _ _ (fun z => n5 (z ▸ bm)) (s11 _ _ (s10 _ _ (k9.1 _ _ he5 e5p))), n5, by rw [List.length_set]; exact xl, fun r' hr => ?_⟩
          rcases List.mem_or_eq_of_mem_set hr with w | w
          · exact ⟨by have := (hsz r' w).1; omega, (hsz r' w).2⟩
          · rw [w]
            refine ⟨by rw [List.length_append, List.length_singleton]; omega, fun es he => ?_⟩
            rcases List.mem_append.mp he with w2 | w2
            · exact (hsz rows hrm).2 es w2
            · have e : es = [.ref t] := by simpa using w2
              rw [e]; simp
        · walk_at "rd"
          exact ⟨by omega, _, _, h, bs, X, rfl, B.mono (by omega), he5, n5, xl, fun r' hr => ⟨by have := (hsz r' hr).1; omega, (hsz r' hr).2⟩⟩
    · clear B B6 he5 hsz xl ne5b
      rintro σ H7 ⟨j4, x6, x8, h, bs, X, rfl, B, _, _, xl, hsz⟩
      have B := B.mono (show _ ≤ 1130500 by omega)
      walk_at "rd"
      refine ⟨fun σ' H' => ∃ x6 x8 h bs X, σ' = [some (.ref a), some (.int i), some (.ref p), some (.int few), some (.int R), some (.ref kl), x6, some (.ref h), x8, y9] ∧ Bd H13 p 1200000 H' h bs X ∧ X.length ≤ 131 ∧ ∀ rows ∈ X, rows.length ≤ 131 ∧ ∀ es ∈ rows, es.length ≤ 3, ?_, ?_⟩
      · walk_at "rd"
        refine rd_if (fun c1 => ?_) (fun c1 => ?_)
        · walk_at "rd"
          refine ⟨p, _, 131, rfl, B.hh, by omega, by decide, by decide, fun m5 Hb m50 m51 hhb kb => ?_⟩
          have B1 := B.draw h0p kb hhb
          walk_at "rd"
          refine ⟨_, rfl, by omega, by omega, fun E1 nE1 => ?_⟩
          obtain ⟨E1D, E1b⟩ := B1.t.new nE1
          refine comp_range (n := m5.toNat) (fun k σ' ys H' => (∃ x, σ' = [x, some (.ref p), some (.ref kl)]) ∧ k ≤ 130 ∧ ∃ (as : List Addr) (rows : List (List V)), ys = as.map V.ref ∧ rows.length = k ∧ CK Hb p E1 ((1130500 + 1) + 400 * k) ys H' ∧ P1 (fun a es => Hb a = none ∧ a ≠ E1 ∧ H' a = some (.lst es)) as rows ∧ ∀ es ∈ rows, es.length ≤ 3 ∧ (∀ v ∈ es, En H' v) ∧ ((rowD H' es).map (·.1)).Nodup) E1 ⟨⟨_, rfl⟩, by omega, [], [], rfl, rfl, CK.start hhb nE1, P1.nil, fun _ h => (by cases h)⟩ ?_ ?_
          · rintro k σ' ys H6 hk ⟨⟨x, rfl⟩, k4, as, rows, rfl, rl, c, hA, hR⟩
            have al := hA.1
            have hk6 := c.kp.1 _ _ (B1.kp.1 _ _ hkl' klp) klp
            walk_at "rd"
            refine ⟨p, kl, _, ks, rfl, c.hh, by omega, hk6, klp, kne, by omega, fun l es H7 nl hl el hen hnd hh7 k7 => ?_⟩
            have kt7 := kt_of c.hh k7
            have c7 := c.draw k7 hh7
            have lD : l ≠ E1 := fun z => by rw [z, c.lat] at nl; cases nl
            have ln : Hb l = none := c.kp.free nl (c.hh.ne nl)
            have cp := c7.push (zs := as.map V.ref ++ [V.ref l])
            have kt8 : ∀ t xs, H7 t = some (.tup xs) → (upd H7 E1 (.lst (as.map V.ref ++ [V.ref l]))) t = some (.tup xs) := fun t xs e => by rw [upd_ne (ne_of e c7.lat (by intro z; cases z))]; exact e
            have old : P1 (fun a es => Hb a = none ∧ a ≠ E1 ∧ (upd H7 E1 (.lst (as.map V.ref ++ [V.ref l]))) a = some (.lst es)) as rows := hA.imp fun a es t => ⟨t.1, t.2.1, by rw [upd_ne t.2.1]; exact k7.1 _ _ t.2.2 (fun z => by have := hand_some hhb; rw [← z, t.1] at this; obtain ⟨_, z'⟩ := this; cases z')⟩
            refine ⟨c7.lat, by rw [List.length_map]; exact small1000 (by omega), ⟨_, rfl⟩, by omega, as ++ [l], rows ++ [es], by rw [List.map_append]; rfl, by rw [List.length_append, rl]; rfl, ⟨cp.hh.mono (by omega), cp.lat, cp.kp, cp.n0, cp.np, cp.nc⟩, old.snoc ⟨ln, lD, by rw [upd_ne lD]; exact hl⟩, fun es' he => ?_⟩
            rcases List.mem_append.mp he with z | z
            · obtain ⟨r1, r2, r3⟩ := hR es' z
              exact ⟨r1, fun v hv => (r2 v hv).keep fun t xs e => kt8 _ _ (kt7 _ _ e), by rw [rowD_keep (fun t xs e => kt8 _ _ (kt7 _ _ e)) r2]; exact r3⟩
            · have e : es' = es := by simpa using z
              rw [e]
              have hen' : ∀ v ∈ es, En H7 v := fun v hv => (hen v hv).keep fun _ _ e => newSince_tup e
              exact ⟨el, fun v hv => (hen' v hv).keep kt8, by rw [rowD_keep kt8 hen']; exact hnd⟩
          rintro σ' ys H6 ⟨⟨x, rfl⟩, k4, as, rows, rfl, rl, c, hA, hR⟩
          have B2 := B1.draw h0p c.kp c.hh
          walk_at "rd"
          refine ⟨(by show 1 ≤ sizeLine; decide), fun e6 ne6 => ?_⟩
          generalize hE : upd H6 e6 _ = H8
          obtain ⟨he6, s8⟩ := newo ne6 hE
          clear hE
          have B3 := B2.same s8
          have hh3 := B3.t.2.1
          walk_at "rd"
          refine rd_slL (SqL.of hh3) fun e7 ne7 => ?_
          rw [show (1 : Int) = ((1 : Nat) : Int) from rfl, cut_refsD]
          generalize hE : upd H8 e7 _ = H9
          obtain ⟨he7, s9⟩ := newo ne7 hE
          clear hE
          have bl3 := B3.t.2.2.2.2.1
          refine ⟨e6, e7, _, _, rfl, rfl, s9 _ _ he6, he7, by rw [List.length_map, List.length_drop]; exact Nat.le_of_lt (small1000 (by show 1 + _ ≤ 1000; omega)), fun h3 nh3 => ?_⟩
          generalize hE : upd H9 h3 _ = H10
          obtain ⟨hh10, s10⟩ := newo nh3 hE
          clear hE
          have s610 := (s8.trans s9).trans s10
          have B4 := B2.same s610
          have kb10 : ∀ b o, H13 b = none → Hb b = some o → H10 b = some o := fun b o n e => s610 _ _ (c.kp.1 _ _ e (np0 b n))
          have s69 := s8.trans s9
          have nh3' : ∀ {x : Addr} {o : HO}, H6 x = some o → x ≠ h3 := fun e => ne_of_none (s69 _ _ e) nh3
          have hb6 : ∀ {x : Addr} {o : HO}, H13 x = none → Hb x = some o → H6 x = some o := fun n e => c.kp.1 _ _ e (np0 _ n)
          have sh3 : H13 h3 = none := (B2.same s69).free nh3
          have tN : T3 (fun b => H13 b = none) H10 h3 (E1 :: bs.drop 1) (rows :: X.drop 1) := by
            have t0 := B1.t
            obtain ⟨sh, t1, t2, t3, t4⟩ := B1.t
            have nd : (E1 :: bs.drop 1).Nodup := List.nodup_cons.mpr ⟨fun z => E1b (List.mem_of_mem_drop z), t2.sublist (List.drop_sublist 1 bs)⟩
            have old : P1 (T2 (fun b => H13 b = none) h3 (E1 :: bs.drop 1) H10) (bs.drop 1) (X.drop 1) := (t4.drop 1).imp fun b r t => by
              obtain ⟨sb, as, h5, h6⟩ := t
              refine ⟨sb, as, kb10 _ _ sb h5, h6.imp fun a es t => ⟨t.1, nh3' (hb6 t.1 t.2.2.2), fun z => ?_, kb10 _ _ t.1 t.2.2.2⟩⟩
              rcases List.mem_cons.mp z with w | w
              · have := t.2.2.2
                rw [w, nE1] at this; cases this
              · exact t.2.2.1 (List.mem_of_mem_drop w)
            have new : T2 (fun b => H13 b = none) h3 (E1 :: bs.drop 1) H10 E1 rows := ⟨B1.free nE1, as, s610 _ _ c.lat, hA.imp fun a es t => ⟨B1.free t.1, nh3' t.2.2, fun z => by
              rcases List.mem_cons.mp z with w | w
              · exact t.2.1 w
              · exact (t0.new t.1).2 (List.mem_of_mem_drop w), s610 _ _ t.2.2⟩⟩
            refine ⟨sh3, hh10, nd, fun z => ?_, (P1.one new).app old⟩
            rcases List.mem_cons.mp z with w | w
            · exact nh3' c.lat w.symm
            · obtain ⟨o, ho⟩ := B2.t.has (List.mem_of_mem_drop w)
              exact nh3' ho rfl
          have inX : ∀ r ∈ rows :: X.drop 1, r = rows ∨ r ∈ X := fun r hr => by
            rcases List.mem_cons.mp hr with w | w
            · exact .inl w
            · exact .inr (List.mem_of_mem_drop w)
          have enN : EnX H10 (rows :: X.drop 1) := fun r hr es he v hv => by
            rcases inX r hr with w | w
            · rw [w] at he
              exact ((hR es he).2.1 v hv).keep fun _ _ e => s610 _ _ e
            · exact B4.en r w es he v hv
          have dkN : DkX H10 (rows :: X.drop 1) := fun r hr es he => by
            rcases inX r hr with w | w
            · rw [w] at he
              rw [rowD_keep (fun _ _ e => s610 _ _ e) (hR es he).2.1]; exact (hR es he).2.2
            · exact B4.dk r w es he
          walk_at "rd"
          refine ⟨_, _, h3, E1 :: bs.drop 1, rows :: X.drop 1, rfl, ⟨B4.hh.mono (by omega), B4.kp, tN, enN, dkN⟩, by rw [List.length_cons, List.length_drop]; omega, fun r hr => ?_⟩
          rcases inX r hr with w | w
          · rw [w]; exact ⟨by omega, fun es he => (hR es he).1⟩
          · exact ⟨by have := (hsz r w).1; omega, (hsz r w).2⟩
        · walk_at "rd"
          exact ⟨_, _, h, bs, X, rfl, B.mono (by omega), xl, fun r hr => ⟨by have := (hsz r hr).1; omega, (hsz r hr).2⟩⟩
      clear B hsz xl
      rintro σ' H8 ⟨x6, x8, h, bs, X, rfl, B, xl, hsz⟩
      walk_at "rd"
      refine ⟨fun σ' H' => ∃ bs X, σ' = [some (.ref a), some (.int i), some (.ref p), some (.int few), some (.int R), some (.ref kl), x6, some (.ref h), x8, y9] ∧ Bd H13 p 1200000 H' h bs X ∧ X.length ≤ 131 ∧ ∀ rows ∈ X, rows.length ≤ 131 ∧ ∀ es ∈ rows, es.length ≤ 3, ?_, ?_⟩
      · walk_at "rd"
        refine ⟨fun m σ H' => ∃ bs X, σ = [some (.ref a), some (.int i), some (.ref p), some (.int few), some (.int R), some (.ref kl), x6, some (.ref h), x8, y9] ∧ Bd H13 p 1200000 H' h bs X ∧ X.length ≤ 131 ∧ (∀ rows ∈ X, rows.length ≤ 131 ∧ ∀ es ∈ rows, es.length ≤ 3) ∧ m = X.length, ⟨_, bs, X, rfl, B, xl, hsz, rfl⟩, ?_⟩
        clear B hsz xl
        rintro m σ H9 ⟨bs, X, rfl, B, xl, hsz, rfl⟩
        have hh9 := B.t.2.1
        have hP9 := B.t.2.2.2.2
        have sh := B.t.1
        walk_at "rd"
        refine ⟨by decide, fun d nd => ?_⟩
        generalize hE : upd H9 d _ = G1
        obtain ⟨hd, s1⟩ := newo nd hE
        clear hE
        have B1 := B.same s1
        have g1 := B1.t.r3.gd (K := K) B1.en
        walk_at "rd"
        refine ⟨_, _, g1.1, (GD.lst (K := K) (n := 0) hd GDs.nil).1, g1.shaped (by omega), rfl, ?_⟩
        rw [show PyData.eqv (dX G1 X) (.list []) = decide (X = []) from eqv_nil]
        by_cases c : X = []
        · rw [decide_eq_true c]
          walk_at "rd"
          exact ⟨bs, X, rfl, B1, xl, hsz⟩
        · rw [decide_eq_false c]
          obtain ⟨Z, rows, rfl⟩ := snoc_ex c
          obtain ⟨cs, b, rfl⟩ := snoc_ex (xs := bs) (fun z => by have := hP9.1; rw [z, List.length_append] at this; simp at this)
          have yl : cs.length = Z.length := by have := hP9.1; rw [List.length_append, List.length_append] at this; simpa using this
          walk_at "rd"
          refine rd_ixL (SqL.of (s1 _ _ hh9)) (v := .ref b) (by rw [List.map_append]; exact atI_last _ _) ?_
          walk_at "rd"
          refine ⟨by decide, fun d2 nd2 => ?_⟩
          generalize hE : upd G1 d2 _ = G2
          obtain ⟨hd2, s2⟩ := newo nd2 hE
          clear hE
          have B2 := B1.same s2
          obtain ⟨_, as, hb2, hA2⟩ := B2.t.2.2.2.2.2 cs.length b rows (by simp) (by rw [yl]; simp)
          have g5 : GD K G2 3 (.ref b) (dRows G2 rows) := GD.lst hb2 (gds_map hA2 fun a es hm ha => GD.lst ha.2.2.2 (gds_en fun v hv => B2.en rows (by simp) es hm v hv))
          walk_at "rd"
          refine ⟨_, _, g5.1, (GD.lst (K := K) (n := 0) hd2 GDs.nil).1, g5.shaped (by omega), rfl, ?_⟩
          rw [show PyData.eqv (dRows G2 rows) (.list []) = decide (rows = []) from eqv_nil]
          by_cases c2 : rows = []
          · rw [decide_eq_true c2]
            walk_at "rd"
            refine ⟨_, fun σ' H'' h => h, ?_⟩
            have hh2 := B2.t.2.1
            walk_at "rd"
            refine ⟨.inl ⟨rfl, _, SqL.of hh2⟩, ?_⟩
            walk_at "rd"
            refine ⟨h, _, .ref b, rfl, rfl, hh2, by simp, ?_⟩
            rw [show ((cs ++ [b]).map V.ref).dropLast = (cs ++ [b]).dropLast.map V.ref from List.map_dropLast.symm]
            have kt : ∀ t xs, G2 t = some (.tup xs) → (upd G2 h (.lst ((cs ++ [b]).dropLast.map V.ref))) t = some (.tup xs) := fun t xs e => by rw [upd_ne (ne_of e hh2 (by intro z; cases z))]; exact e
            obtain ⟨kpU, hhU⟩ := upd_kp (o := .lst ((cs ++ [b]).dropLast.map V.ref)) hh0 B2.kp sh
            have tN := B2.t.pop (H' := upd G2 h (.lst ((cs ++ [b]).dropLast.map V.ref))) (fun b o n e => by rw [upd_ne n]; exact e) upd_same
            have sub : ∀ r ∈ (Z ++ [rows]).dropLast, r ∈ Z ++ [rows] := fun r hr => (List.dropLast_sublist _).subset hr
            refine ⟨Z.length, by rw [List.length_append]; exact Nat.lt_succ_self _, (cs ++ [b]).dropLast, (Z ++ [rows]).dropLast, rfl, ⟨hhU B2.hh, kpU, tN, fun r hr => (B2.en.keep kt) r (sub r hr), fun r hr => (B2.dk.keep kt B2.en) r (sub r hr)⟩, ?_, fun r hr => hsz r (sub r hr), ?_⟩
            · rw [List.length_dropLast]; omega
            · rw [List.dropLast_concat]
          · rw [decide_eq_false c2]
            walk_at "rd"
            exact ⟨cs ++ [b], Z ++ [rows], rfl, B2, xl, hsz⟩
      clear B hsz xl
      rintro σ' H9 ⟨bs, X, rfl, B, xl, hsz⟩
      walk_at "rd"
      refine ⟨p, _, 8, rfl, B.hh, by omega, by decide, by decide, fun w0 G1 w00 w01 hg1 kg1 => ?_⟩
      have B1 := B.draw h0p kg1 hg1
      walk_at "rd"
      generalize 1 + w0 = w
      refine ⟨(by show 3 ≤ sizeLine; decide), fun y ny => ?_⟩
      generalize hE : upd G1 y _ = G2
      obtain ⟨hy, sg2⟩ := newo ny hE
      clear hE
      have B2 := B1.same sg2
      have hkl2 := B2.kp.1 _ _ hkl' klp
      obtain ⟨kz, hkz⟩ : ∃ kz, ks[0]? = some kz := ⟨_, List.getElem?_eq_getElem (by omega)⟩
      obtain ⟨kz0, kz1⟩ := hks kz (List.mem_of_getElem? hkz)
      have hY2 : Yd G2 y w R X := ⟨h, hy, B2.t.r3, B2.en, xl, fun r hr => ⟨(hsz r hr).1, fun es he => by have := (hsz r hr).2 es he; omega⟩⟩
      have at0 : atI (ks.map V.int) 0 = some (.int kz) := at_int (i := 0) hkz
      walk_at "rd"
      refine rd_ixL (SqL.of hkl2) at0 ?_
      walk_at "rd"
      refine rd_ixL (SqL.of hkl2) at0 ?_
      walk_at "rd"
      refine ⟨p, _, rfl, B2.hh, by omega, fun kq G3 q0 q1 hg3 kg3 => ?_⟩
      have B3 := B2.draw h0p kg3 hg3
      walk_at "rd"
      refine ⟨(by show 2 ≤ sizeLine; decide), fun e8 ne8 => ?_⟩
      generalize hE : upd G3 e8 _ = G4
      obtain ⟨he8, sg4⟩ := newo ne8 hE
      clear hE
      have hkl4 := sg4 _ _ (B3.kp.1 _ _ hkl' klp)
      refine ⟨kl, e8, _, _, rfl, rfl, hkl4, he8, by rw [List.length_map]; exact Nat.le_of_lt (small1000 (by show _ + 2 ≤ 1000; omega)), fun e9 ne9 => ?_⟩
      generalize hE : upd G4 e9 _ = G5
      obtain ⟨he9, sg5⟩ := newo ne9 hE
      clear hE
      have B5 := B3.same (sg4.trans sg5)
      have hy5 : G5 y = some (.tup [.int w, .int R, .ref h]) := (sg4.trans sg5) _ _ (kt_of B2.hh kg3 _ _ hy)
      have hY5 : Yd G5 y w R X := ⟨h, hy5, B5.t.r3, B5.en, xl, fun r hr => ⟨(hsz r hr).1, fun es he => by have := (hsz r hr).2 es he; omega⟩⟩
      have all9 : ∃ zs9 : List Int, G5 e9 = some (.lst (zs9.map V.int)) ∧ ∀ z ∈ zs9, 0 ≤ z ∧ z < 2 ^ 61 := by
        refine ⟨ks ++ [kz + 1 - 2 * (kz % 2), kq], by rw [he9, List.map_append]; rfl, fun z hz => ?_⟩
        rcases List.mem_append.mp hz with w1 | w1
        · have := hks z w1; omega
        · rcases List.mem_cons.mp w1 with w2 | w2
          · rw [w2]; omega
          · have e : z = kq := by simpa using w2
            rw [e]; omega
      obtain ⟨zs9, hz9, hz0⟩ := all9
      have sH5 : Same H1 G5 := fun b o e => B5.kp.1 _ _ (s1d _ _ e) (ne_of_none e np)
      walk_at "rd"
      refine ⟨e9, rfl, ⟨_, SqL.of hz9⟩, ?_⟩
      refine for_list (xs := zs9.map V.int) (fun j σ H' => (∃ x6, σ = [some (.ref a), some (.int i), some (.ref p), some (.int few), some (.int R), some (.ref kl), x6, some (.ref h), x8, some (.ref y)]) ∧ Same G5 H') ⟨⟨_, rfl⟩, Same.refl _⟩ (fun _ _ _ _ h => SqL.of (h.2 _ _ hz9)) ?_ ?_
      · rintro j x σ G6 hx ⟨⟨x6', rfl⟩, s6⟩
        obtain ⟨z, hz, rfl⟩ := ints_get hx
        obtain ⟨z0, z1⟩ := hz0 z (List.mem_of_getElem? hz)
        walk_at "rd"
        refine ⟨y, w, R, z, X, rfl, hY5.same s6, B5.dk.keep (fun _ _ e => s6 _ _ e) B5.en, z0, z1, R1, by omega, fun G7 s7 => ?_⟩
        walk_at "rd"
        exact ⟨⟨_, rfl⟩, s6.trans s7⟩
      · rintro σ G6 ⟨⟨x6', rfl⟩, s6⟩
        exact ⟨⟨_, _, _, _, _, _, _, _, _, rfl⟩, (sm.trans sH5).trans s6⟩
  · rintro σ H1 ⟨⟨y1, y2, y3, y4, y5, y6, y7, y8, y9, rfl⟩, sm⟩
    walk_at "rd"
    exact q _

end
theorem all_mk {l : PySem.W.OpenLaw} {w : World} {K : PySem.W.Frag} {h : Heap} {mg : Str → Option Value} {fa : Addr} (X : K.In h) (G : h.Ns mainGlobals mg) (hfa : mg "law" = some (.ref fa))
    {f0 : Addr} {od0 an0 : Option Addr} {sl0 : Array (Option Value)} {oc0 kV0 dc0 pm0 cd0 ct0 : Value} (a0 : PySem.W.nsIn K mainGlobals "last_bits" = some (some (.ref f0))) (l0 : K.lookup f0 = some ⟨oc0, od0, .func (PySem.W.fnOf "last_bits" "last_bits" (defArgs s_last_bits) (defBody s_last_bits) (defScope s_last_bits) .none kV0 dc0 pm0 an0 cd0 ct0), sl0⟩) (c0 : PySem.W.codeIn K cd0 "last_bits" = true) (k0 : PySem.W.keepIn K (.ref f0) = true)
    {f1 : Addr} {od1 an1 : Option Addr} {sl1 : Array (Option Value)} {oc1 kV1 dc1 pm1 cd1 ct1 : Value} (a1 : PySem.W.nsIn K mainGlobals "level" = some (some (.ref f1))) (l1 : K.lookup f1 = some ⟨oc1, od1, .func (PySem.W.fnOf "level" "level" (defArgs s_level) (defBody s_level) (defScope s_level) .none kV1 dc1 pm1 an1 cd1 ct1), sl1⟩) (c1 : PySem.W.codeIn K cd1 "level" = true) (k1 : PySem.W.keepIn K (.ref f1) = true)
    {f2 : Addr} {od2 an2 : Option Addr} {sl2 : Array (Option Value)} {oc2 kV2 dc2 pm2 cd2 ct2 : Value} (a2 : PySem.W.nsIn K mainGlobals "turn" = some (some (.ref f2))) (l2 : K.lookup f2 = some ⟨oc2, od2, .func (PySem.W.fnOf "turn" "turn" (defArgs s_turn) (defBody s_turn) (defScope s_turn) .none kV2 dc2 pm2 an2 cd2 ct2), sl2⟩) (c2 : PySem.W.codeIn K cd2 "turn" = true) (k2 : PySem.W.keepIn K (.ref f2) = true)
    {f3 : Addr} {od3 an3 : Option Addr} {sl3 : Array (Option Value)} {oc3 kV3 dc3 pm3 cd3 ct3 : Value} (a3 : PySem.W.nsIn K mainGlobals "bits_for" = some (some (.ref f3))) (l3 : K.lookup f3 = some ⟨oc3, od3, .func (PySem.W.fnOf "bits_for" "bits_for" (defArgs s_bits_for) (defBody s_bits_for) (defScope s_bits_for) .none kV3 dc3 pm3 an3 cd3 ct3), sl3⟩) (c3 : PySem.W.codeIn K cd3 "bits_for" = true) (k3 : PySem.W.keepIn K (.ref f3) = true)
    {f4 : Addr} {od4 an4 : Option Addr} {sl4 : Array (Option Value)} {oc4 kV4 dc4 pm4 cd4 ct4 : Value} (a4 : PySem.W.nsIn K mainGlobals "room_of" = some (some (.ref f4))) (l4 : K.lookup f4 = some ⟨oc4, od4, .func (PySem.W.fnOf "room_of" "room_of" (defArgs s_room_of) (defBody s_room_of) (defScope s_room_of) .none kV4 dc4 pm4 an4 cd4 ct4), sl4⟩) (c4 : PySem.W.codeIn K cd4 "room_of" = true) (k4 : PySem.W.keepIn K (.ref f4) = true)
    {f5 : Addr} {od5 an5 : Option Addr} {sl5 : Array (Option Value)} {oc5 kV5 dc5 pm5 cd5 ct5 : Value} (a5 : PySem.W.nsIn K mainGlobals "looked" = some (some (.ref f5))) (l5 : K.lookup f5 = some ⟨oc5, od5, .func (PySem.W.fnOf "looked" "looked" (defArgs s_looked) (defBody s_looked) (defScope s_looked) .none kV5 dc5 pm5 an5 cd5 ct5), sl5⟩) (c5 : PySem.W.codeIn K cd5 "looked" = true) (k5 : PySem.W.keepIn K (.ref f5) = true)
    {f6 : Addr} {od6 an6 : Option Addr} {sl6 : Array (Option Value)} {oc6 kV6 dc6 pm6 cd6 ct6 : Value} (a6 : PySem.W.nsIn K mainGlobals "rows_at" = some (some (.ref f6))) (l6 : K.lookup f6 = some ⟨oc6, od6, .func (PySem.W.fnOf "rows_at" "rows_at" (defArgs s_rows_at) (defBody s_rows_at) (defScope s_rows_at) .none kV6 dc6 pm6 an6 cd6 ct6), sl6⟩) (c6 : PySem.W.codeIn K cd6 "rows_at" = true) (k6 : PySem.W.keepIn K (.ref f6) = true)
    {f7 : Addr} {od7 an7 : Option Addr} {sl7 : Array (Option Value)} {oc7 kV7 dc7 pm7 cd7 ct7 : Value} (a7 : PySem.W.nsIn K mainGlobals "found" = some (some (.ref f7))) (l7 : K.lookup f7 = some ⟨oc7, od7, .func (PySem.W.fnOf "found" "found" (defArgs s_found) (defBody s_found) (defScope s_found) .none kV7 dc7 pm7 an7 cd7 ct7), sl7⟩) (c7 : PySem.W.codeIn K cd7 "found" = true) (k7 : PySem.W.keepIn K (.ref f7) = true)
    {f8 : Addr} {od8 an8 : Option Addr} {sl8 : Array (Option Value)} {oc8 kV8 dc8 pm8 cd8 ct8 : Value} (a8 : PySem.W.nsIn K mainGlobals "_law_open" = some (some (.ref f8))) (l8 : K.lookup f8 = some ⟨oc8, od8, .func (PySem.W.fnOf "_law_open" "_law_open" (defArgs s__law_open) (defBody s__law_open) (defScope s__law_open) .none kV8 dc8 pm8 an8 cd8 ct8), sl8⟩) (c8 : PySem.W.codeIn K cd8 "_law_open" = true) (k8 : PySem.W.keepIn K (.ref f8) = true)
    {f9 : Addr} {od9 an9 : Option Addr} {sl9 : Array (Option Value)} {oc9 kV9 dc9 pm9 cd9 ct9 : Value} (a9 : PySem.W.nsIn K mainGlobals "_law_draw" = some (some (.ref f9))) (l9 : K.lookup f9 = some ⟨oc9, od9, .func (PySem.W.fnOf "_law_draw" "_law_draw" (defArgs s__law_draw) (defBody s__law_draw) (defScope s__law_draw) .none kV9 dc9 pm9 an9 cd9 ct9), sl9⟩) (c9 : PySem.W.codeIn K cd9 "_law_draw" = true) (k9 : PySem.W.keepIn K (.ref f9) = true)
    {f10 : Addr} {od10 an10 : Option Addr} {sl10 : Array (Option Value)} {oc10 kV10 dc10 pm10 cd10 ct10 : Value} (a10 : PySem.W.nsIn K mainGlobals "_law_far" = some (some (.ref f10))) (l10 : K.lookup f10 = some ⟨oc10, od10, .func (PySem.W.fnOf "_law_far" "_law_far" (defArgs s__law_far) (defBody s__law_far) (defScope s__law_far) .none kV10 dc10 pm10 an10 cd10 ct10), sl10⟩) (c10 : PySem.W.codeIn K cd10 "_law_far" = true) (k10 : PySem.W.keepIn K (.ref f10) = true)
    {f11 : Addr} {od11 an11 : Option Addr} {sl11 : Array (Option Value)} {oc11 kV11 dc11 pm11 cd11 ct11 : Value} (a11 : PySem.W.nsIn K mainGlobals "_law_power" = some (some (.ref f11))) (l11 : K.lookup f11 = some ⟨oc11, od11, .func (PySem.W.fnOf "_law_power" "_law_power" (defArgs s__law_power) (defBody s__law_power) (defScope s__law_power) .none kV11 dc11 pm11 an11 cd11 ct11), sl11⟩) (c11 : PySem.W.codeIn K cd11 "_law_power" = true) (k11 : PySem.W.keepIn K (.ref f11) = true)
    {f12 : Addr} {od12 an12 : Option Addr} {sl12 : Array (Option Value)} {oc12 kV12 dc12 pm12 cd12 ct12 : Value} (a12 : PySem.W.nsIn K mainGlobals "_law_key" = some (some (.ref f12))) (l12 : K.lookup f12 = some ⟨oc12, od12, .func (PySem.W.fnOf "_law_key" "_law_key" (defArgs s__law_key) (defBody s__law_key) (defScope s__law_key) .none kV12 dc12 pm12 an12 cd12 ct12), sl12⟩) (c12 : PySem.W.codeIn K cd12 "_law_key" = true) (k12 : PySem.W.keepIn K (.ref f12) = true)
    {f13 : Addr} {od13 an13 : Option Addr} {sl13 : Array (Option Value)} {oc13 kV13 dc13 pm13 cd13 ct13 : Value} (a13 : PySem.W.nsIn K mainGlobals "_law_thing" = some (some (.ref f13))) (l13 : K.lookup f13 = some ⟨oc13, od13, .func (PySem.W.fnOf "_law_thing" "_law_thing" (defArgs s__law_thing) (defBody s__law_thing) (defScope s__law_thing) .none kV13 dc13 pm13 an13 cd13 ct13), sl13⟩) (c13 : PySem.W.codeIn K cd13 "_law_thing" = true) (k13 : PySem.W.keepIn K (.ref f13) = true)
    {f14 : Addr} {od14 an14 : Option Addr} {sl14 : Array (Option Value)} {oc14 kV14 dc14 pm14 cd14 ct14 : Value} (a14 : PySem.W.nsIn K mainGlobals "_law_whole" = some (some (.ref f14))) (l14 : K.lookup f14 = some ⟨oc14, od14, .func (PySem.W.fnOf "_law_whole" "_law_whole" (defArgs s__law_whole) (defBody s__law_whole) (defScope s__law_whole) .none kV14 dc14 pm14 an14 cd14 ct14), sl14⟩) (c14 : PySem.W.codeIn K cd14 "_law_whole" = true) (k14 : PySem.W.keepIn K (.ref f14) = true)
    {f15 : Addr} {od15 an15 : Option Addr} {sl15 : Array (Option Value)} {oc15 kV15 dc15 pm15 cd15 ct15 : Value} (a15 : PySem.W.nsIn K mainGlobals "_law_room" = some (some (.ref f15))) (l15 : K.lookup f15 = some ⟨oc15, od15, .func (PySem.W.fnOf "_law_room" "_law_room" (defArgs s__law_room) (defBody s__law_room) (defScope s__law_room) .none kV15 dc15 pm15 an15 cd15 ct15), sl15⟩) (c15 : PySem.W.codeIn K cd15 "_law_room" = true) (k15 : PySem.W.keepIn K (.ref f15) = true)
    {f16 : Addr} {od16 an16 : Option Addr} {sl16 : Array (Option Value)} {oc16 kV16 dc16 pm16 cd16 ct16 : Value} (a16 : PySem.W.nsIn K mainGlobals "_law_copy" = some (some (.ref f16))) (l16 : K.lookup f16 = some ⟨oc16, od16, .func (PySem.W.fnOf "_law_copy" "_law_copy" (defArgs s__law_copy) (defBody s__law_copy) (defScope s__law_copy) .none kV16 dc16 pm16 an16 cd16 ct16), sl16⟩) (c16 : PySem.W.codeIn K cd16 "_law_copy" = true) (k16 : PySem.W.keepIn K (.ref f16) = true)
    {f17 : Addr} {od17 an17 : Option Addr} {sl17 : Array (Option Value)} {oc17 kV17 dc17 pm17 cd17 ct17 : Value} (a17 : PySem.W.nsIn K mainGlobals "_law_found" = some (some (.ref f17))) (l17 : K.lookup f17 = some ⟨oc17, od17, .func (PySem.W.fnOf "_law_found" "_law_found" (defArgs s__law_found) (defBody s__law_found) (defScope s__law_found) .none kV17 dc17 pm17 an17 cd17 ct17), sl17⟩) (c17 : PySem.W.codeIn K cd17 "_law_found" = true) (k17 : PySem.W.keepIn K (.ref f17) = true)
    {f18 : Addr} {od18 an18 : Option Addr} {sl18 : Array (Option Value)} {oc18 kV18 dc18 pm18 cd18 ct18 : Value} (a18 : PySem.W.nsIn K mainGlobals "_law_places" = some (some (.ref f18))) (l18 : K.lookup f18 = some ⟨oc18, od18, .func (PySem.W.fnOf "_law_places" "_law_places" (defArgs s__law_places) (defBody s__law_places) (defScope s__law_places) .none kV18 dc18 pm18 an18 cd18 ct18), sl18⟩) (c18 : PySem.W.codeIn K cd18 "_law_places" = true) (k18 : PySem.W.keepIn K (.ref f18) = true)
    {f19 : Addr} {od19 an19 : Option Addr} {sl19 : Array (Option Value)} {oc19 kV19 dc19 pm19 cd19 ct19 : Value} (a19 : PySem.W.nsIn K mainGlobals "_law_row" = some (some (.ref f19))) (l19 : K.lookup f19 = some ⟨oc19, od19, .func (PySem.W.fnOf "_law_row" "_law_row" (defArgs s__law_row) (defBody s__law_row) (defScope s__law_row) .none kV19 dc19 pm19 an19 cd19 ct19), sl19⟩) (c19 : PySem.W.codeIn K cd19 "_law_row" = true) (k19 : PySem.W.keepIn K (.ref f19) = true)
    {f20 : Addr} {od20 an20 : Option Addr} {sl20 : Array (Option Value)} {oc20 kV20 dc20 pm20 cd20 ct20 : Value} (a20 : PySem.W.nsIn K mainGlobals "_law_right" = some (some (.ref f20))) (l20 : K.lookup f20 = some ⟨oc20, od20, .func (PySem.W.fnOf "_law_right" "_law_right" (defArgs s__law_right) (defBody s__law_right) (defScope s__law_right) .none kV20 dc20 pm20 an20 cd20 ct20), sl20⟩) (c20 : PySem.W.codeIn K cd20 "_law_right" = true) (k20 : PySem.W.keepIn K (.ref f20) = true)
    {f21 : Addr} {od21 an21 : Option Addr} {sl21 : Array (Option Value)} {oc21 kV21 dc21 pm21 cd21 ct21 : Value} (a21 : PySem.W.nsIn K mainGlobals "law" = some (some (.ref f21))) (l21 : K.lookup f21 = some ⟨oc21, od21, .func (PySem.W.fnOf "law" "law" (defArgs s_law) (defBody s_law) (defScope s_law) .none kV21 dc21 pm21 an21 cd21 ct21), sl21⟩) (c21 : PySem.W.codeIn K cd21 "law" = true) (k21 : PySem.W.keepIn K (.ref f21) = true)
    (z_len : PySem.W.nsIn K mainGlobals "len" = some none)
    (z_dict : PySem.W.nsIn K mainGlobals "dict" = some none)
    (z_abs : PySem.W.nsIn K mainGlobals "abs" = some none)
    (z_range : PySem.W.nsIn K mainGlobals "range" = some none)
    (z_isinstance : PySem.W.nsIn K mainGlobals "isinstance" = some none)
    (z_int : PySem.W.nsIn K mainGlobals "int" = some none)
    (z_bool : PySem.W.nsIn K mainGlobals "bool" = some none)
    (z_list : PySem.W.nsIn K mainGlobals "list" = some none)
    (z_enumerate : PySem.W.nsIn K mainGlobals "enumerate" = some none)
    (z_max : PySem.W.nsIn K mainGlobals "max" = some none)
    (z_min : PySem.W.nsIn K mainGlobals "min" = some none)
    (z_sorted : PySem.W.nsIn K mainGlobals "sorted" = some none)
    (z_tuple : PySem.W.nsIn K mainGlobals "tuple" = some none)
    : ∃ fd : FuncData, (∀ (s : Shared) (v : Value), BindsTo s fd ⟨[v], []⟩ [("_law_script", v)]) ∧ ∀ base : Heap, K.In base → base.Ns mainGlobals mg → FnOk l.prog w K mg base CX0 7 fa fd ["_law_script"] (sp_law K) := by
  have e := hfa.symm.trans (PySem.W.mg_of X G a21)
  cases e
  have T : Bl mg := ⟨PySem.W.mg_none_of X G z_len, PySem.W.mg_none_of X G z_dict, PySem.W.mg_none_of X G z_abs, PySem.W.mg_none_of X G z_range, PySem.W.mg_none_of X G z_isinstance, PySem.W.mg_none_of X G z_int, PySem.W.mg_none_of X G z_bool, PySem.W.mg_none_of X G z_list, PySem.W.mg_none_of X G z_enumerate, PySem.W.mg_none_of X G z_max, PySem.W.mg_none_of X G z_min, PySem.W.mg_none_of X G z_sorted, PySem.W.mg_none_of X G z_tuple⟩
  refine ⟨PySem.W.fnOf "law" "law" (defArgs s_law) (defBody s_law) (defScope s_law) .none kV21 dc21 pm21 an21 cd21 ct21, fun s v => .of_eq rfl, fun base _ _ => ?_⟩
  have F0 := fun_mk (st := s_last_bits) l0 c0 k0
  have b0 := F0.binds (ps := ["key", "many"]) fun _ _ _ _ _ _ us hl => match us, hl with | [_, _], _ => rfl
  have C_last_bits := ok_last_bits (P := l.prog) (w := w) (base := base) F0 (PySem.W.mg_of X G a0) b0 T 
  have F1 := fun_mk (st := s_level) l1 c1 k1
  have b1 := F1.binds (ps := ["rooms"]) fun _ _ _ _ _ _ us hl => match us, hl with | [_], _ => rfl
  have C_level := ok_level (P := l.prog) (w := w) (base := base) F1 (PySem.W.mg_of X G a1) b1 T 
  have F5 := fun_mk (st := s_looked) l5 c5 k5
  have b5 := F5.binds (ps := ["rows", "key"]) fun _ _ _ _ _ _ us hl => match us, hl with | [_, _], _ => rfl
  have C_looked := ok_looked (P := l.prog) (w := w) (base := base) F5 (PySem.W.mg_of X G a5) b5 T 
  have F6 := fun_mk (st := s_rows_at) l6 c6 k6
  have b6 := F6.binds (ps := ["held", "room"]) fun _ _ _ _ _ _ us hl => match us, hl with | [_, _], _ => rfl
  have C_rows_at := ok_rows_at (P := l.prog) (w := w) (base := base) F6 (PySem.W.mg_of X G a6) b6 T 
  have F8 := fun_mk (st := s__law_open) l8 c8 k8
  have b8 := F8.binds (ps := ["_law_script", "_law_place"]) fun _ _ _ _ _ _ us hl => match us, hl with | [_, _], _ => rfl
  have C__law_open := ok__law_open (P := l.prog) (w := w) (base := base) F8 (PySem.W.mg_of X G a8) b8 T 
  have F9 := fun_mk (st := s__law_draw) l9 c9 k9
  have b9 := F9.binds (ps := ["_law_hand", "_law_many"]) fun _ _ _ _ _ _ us hl => match us, hl with | [_, _], _ => rfl
  have C__law_draw := ok__law_draw (P := l.prog) (w := w) (base := base) F9 (PySem.W.mg_of X G a9) b9 T 
  have F11 := fun_mk (st := s__law_power) l11 c11 k11
  have b11 := F11.binds (ps := ["_law_many"]) fun _ _ _ _ _ _ us hl => match us, hl with | [_], _ => rfl
  have C__law_power := ok__law_power (P := l.prog) (w := w) (base := base) F11 (PySem.W.mg_of X G a11) b11 T 
  have F14 := fun_mk (st := s__law_whole) l14 c14 k14
  have b14 := F14.binds (ps := ["_law_got"]) fun _ _ _ _ _ _ us hl => match us, hl with | [_], _ => rfl
  have C__law_whole := ok__law_whole (P := l.prog) (w := w) (base := base) F14 (PySem.W.mg_of X G a14) b14 T 
  have F15 := fun_mk (st := s__law_room) l15 c15 k15
  have b15 := F15.binds (ps := ["_law_key_here", "_law_rooms"]) fun _ _ _ _ _ _ us hl => match us, hl with | [_, _], _ => rfl
  have C__law_room := ok__law_room (P := l.prog) (w := w) (base := base) F15 (PySem.W.mg_of X G a15) b15 T 
  have F16 := fun_mk (st := s__law_copy) l16 c16 k16
  have b16 := F16.binds (ps := ["_law_yard"]) fun _ _ _ _ _ _ us hl => match us, hl with | [_], _ => rfl
  have C__law_copy := ok__law_copy (P := l.prog) (w := w) (base := base) F16 (PySem.W.mg_of X G a16) b16 T 
  have F18 := fun_mk (st := s__law_places) l18 c18 k18
  have b18 := F18.binds (ps := ["_law_script", "_law_least", "_law_most"]) fun _ _ _ _ _ _ us hl => match us, hl with | [_, _, _], _ => rfl
  have C__law_places := ok__law_places (P := l.prog) (w := w) (base := base) F18 (PySem.W.mg_of X G a18) b18 T 
  have F2 := fun_mk (st := s_turn) l2 c2 k2
  have b2 := F2.binds (ps := ["rooms"]) fun _ _ _ _ _ _ us hl => match us, hl with | [_], _ => rfl
  have C_turn := ok_turn (P := l.prog) (w := w) (base := base) F2 (PySem.W.mg_of X G a2) b2 T C_level
  have F10 := fun_mk (st := s__law_far) l10 c10 k10
  have b10 := F10.binds (ps := ["_law_hand", "_law_many"]) fun _ _ _ _ _ _ us hl => match us, hl with | [_, _], _ => rfl
  have C__law_far := ok__law_far (P := l.prog) (w := w) (base := base) F10 (PySem.W.mg_of X G a10) b10 T C__law_draw
  have F13 := fun_mk (st := s__law_thing) l13 c13 k13
  have b13 := F13.binds (ps := ["_law_hand"]) fun _ _ _ _ _ _ us hl => match us, hl with | [_], _ => rfl
  have C__law_thing := ok__law_thing (P := l.prog) (w := w) (base := base) F13 (PySem.W.mg_of X G a13) b13 T C__law_draw
  have F17 := fun_mk (st := s__law_found) l17 c17 k17
  have b17 := F17.binds (ps := ["_law_yard", "_law_key_here"]) fun _ _ _ _ _ _ us hl => match us, hl with | [_, _], _ => rfl
  have C__law_found := ok__law_found (P := l.prog) (w := w) (base := base) F17 (PySem.W.mg_of X G a17) b17 T C__law_room
  have F3 := fun_mk (st := s_bits_for) l3 c3 k3
  have b3 := F3.binds (ps := ["room", "rooms"]) fun _ _ _ _ _ _ us hl => match us, hl with | [_, _], _ => rfl
  have C_bits_for := ok_bits_for (P := l.prog) (w := w) (base := base) F3 (PySem.W.mg_of X G a3) b3 T C_level C_turn
  have F12 := fun_mk (st := s__law_key) l12 c12 k12
  have b12 := F12.binds (ps := ["_law_hand"]) fun _ _ _ _ _ _ us hl => match us, hl with | [_], _ => rfl
  have C__law_key := ok__law_key (P := l.prog) (w := w) (base := base) F12 (PySem.W.mg_of X G a12) b12 T C__law_draw C__law_far C__law_power
  have F19 := fun_mk (st := s__law_row) l19 c19 k19
  have b19 := F19.binds (ps := ["_law_hand", "_law_keys"]) fun _ _ _ _ _ _ us hl => match us, hl with | [_, _], _ => rfl
  have C__law_row := ok__law_row (P := l.prog) (w := w) (base := base) F19 (PySem.W.mg_of X G a19) b19 T C__law_draw C__law_thing
  have F4 := fun_mk (st := s_room_of) l4 c4 k4
  have b4 := F4.binds (ps := ["key", "rooms"]) fun _ _ _ _ _ _ us hl => match us, hl with | [_, _], _ => rfl
  have C_room_of := ok_room_of (P := l.prog) (w := w) (base := base) F4 (PySem.W.mg_of X G a4) b4 T C_last_bits C_bits_for C_level
  have F7 := fun_mk (st := s_found) l7 c7 k7
  have b7 := F7.binds (ps := ["yard", "key"]) fun _ _ _ _ _ _ us hl => match us, hl with | [_, _], _ => rfl
  have C_found := ok_found (P := l.prog) (w := w) (base := base) F7 (PySem.W.mg_of X G a7) b7 T C_rows_at C_looked C_room_of
  have F20 := fun_mk (st := s__law_right) l20 c20 k20
  have b20 := F20.binds (ps := ["_law_yard", "_law_key_here"]) fun _ _ _ _ _ _ us hl => match us, hl with | [_, _], _ => rfl
  have C__law_right := ok__law_right (P := l.prog) (w := w) (base := base) F20 (PySem.W.mg_of X G a20) b20 T C__law_copy C_found C__law_found C__law_whole
  have F21 := fun_mk (st := s_law) l21 c21 k21
  exact ok_law F21 T C__law_places C__law_open C__law_draw C__law_key C__law_room C__law_row C__law_right C__law_thing
theorem walk {l : PySem.W.OpenLaw} {q : Program} {loose : List Str} {XP : (Str → Option Value) → Heap → Prop} {YP : World → Heap → Prop} {d : DefRec} {K : Params → PySem.W.Frag} (hn : l.most = some 63) (hdf : d.params.defaults = [])
    (hY : ∀ (w : World) (h : Heap), YP w h → (K w.params).In h)
    (F : ∀ (w : World) (mg : Str → Option Value) (fa : Addr) (h : Heap), (K w.params).In h → h.Ns mainGlobals mg → mg d.name = some (.ref fa) →
      ∃ fd : FuncData, (∀ (s : Shared) (u : Value), BindsTo s fd ⟨[u], []⟩ [("_law_script", u)]) ∧ ∀ base : Heap, (K w.params).In base → base.Ns mainGlobals mg → FnOk l.prog w (K w.params) mg base CX0 7 fa fd ["_law_script"] (sp_law (K w.params))) :
    PySem.W.WalkO q loose XP YP l.row.toRowW d [] (fun f vs => PySem.call f vs) :=
  L2.walk_of (n := 63) (k := 7) (x := "_law_script") (CX := fun _ => CX0) (sp := fun w => sp_law (K w.params)) hn (by decide) hdf ⟨rfl, by decide, by decide⟩ hY F (fun _ _ a ns hl _ hS => ⟨a, ns, rfl, hS, hl, fun _ => rfl⟩) fun _ _ _ _ _ z => z
end Law
open PySem PySem.W PyProof.Rows
set_option maxRecDepth 100000 in
set_option maxHeartbeats 0 in
theorem PySem.Challenge.cw_tailrooms_k43_found_in_yards_holds : PySem.Challenge.rw_tailrooms_k43_found_in_yards.Holds := by
  w_on; o_law; k_head; (case hw => w_witness2)
  k_fill
  refine Law.walk (l := PySem.Challenge.rw_tailrooms_k43_found_in_yards) rfl rfl (fun w h Y => PySem.W.kIn_of Y) ?F
  case F =>
    intro w mg fa h KX G hmg
    refine' Law.all_mk KX G hmg ?a0 ?l0 ?c0 ?k0 ?a1 ?l1 ?c1 ?k1 ?a2 ?l2 ?c2 ?k2 ?a3 ?l3 ?c3 ?k3 ?a4 ?l4 ?c4 ?k4 ?a5 ?l5 ?c5 ?k5 ?a6 ?l6 ?c6 ?k6 ?a7 ?l7 ?c7 ?k7 ?a8 ?l8 ?c8 ?k8 ?a9 ?l9 ?c9 ?k9 ?a10 ?l10 ?c10 ?k10 ?a11 ?l11 ?c11 ?k11 ?a12 ?l12 ?c12 ?k12 ?a13 ?l13 ?c13 ?k13 ?a14 ?l14 ?c14 ?k14 ?a15 ?l15 ?c15 ?k15 ?a16 ?l16 ?c16 ?k16 ?a17 ?l17 ?c17 ?k17 ?a18 ?l18 ?c18 ?k18 ?a19 ?l19 ?c19 ?k19 ?a20 ?l20 ?c20 ?k20 ?a21 ?l21 ?c21 ?k21 ?z_len ?z_dict ?z_abs ?z_range ?z_isinstance ?z_int ?z_bool ?z_list ?z_enumerate ?z_max ?z_min ?z_sorted ?z_tuple
    (case a0 => k_is)
    (case l0 => k_is)
    (case c0 => k_is)
    (case k0 => k_is)
    (case a1 => k_is)
    (case l1 => k_is)
    (case c1 => k_is)
    (case k1 => k_is)
    (case a2 => k_is)
    (case l2 => k_is)
    (case c2 => k_is)
    (case k2 => k_is)
    (case a3 => k_is)
    (case l3 => k_is)
    (case c3 => k_is)
    (case k3 => k_is)
    (case a4 => k_is)
    (case l4 => k_is)
    (case c4 => k_is)
    (case k4 => k_is)
    (case a5 => k_is)
    (case l5 => k_is)
    (case c5 => k_is)
    (case k5 => k_is)
    (case a6 => k_is)
    (case l6 => k_is)
    (case c6 => k_is)
    (case k6 => k_is)
    (case a7 => k_is)
    (case l7 => k_is)
    (case c7 => k_is)
    (case k7 => k_is)
    (case a8 => k_is)
    (case l8 => k_is)
    (case c8 => k_is)
    (case k8 => k_is)
    (case a9 => k_is)
    (case l9 => k_is)
    (case c9 => k_is)
    (case k9 => k_is)
    (case a10 => k_is)
    (case l10 => k_is)
    (case c10 => k_is)
    (case k10 => k_is)
    (case a11 => k_is)
    (case l11 => k_is)
    (case c11 => k_is)
    (case k11 => k_is)
    (case a12 => k_is)
    (case l12 => k_is)
    (case c12 => k_is)
    (case k12 => k_is)
    (case a13 => k_is)
    (case l13 => k_is)
    (case c13 => k_is)
    (case k13 => k_is)
    (case a14 => k_is)
    (case l14 => k_is)
    (case c14 => k_is)
    (case k14 => k_is)
    (case a15 => k_is)
    (case l15 => k_is)
    (case c15 => k_is)
    (case k15 => k_is)
    (case a16 => k_is)
    (case l16 => k_is)
    (case c16 => k_is)
    (case k16 => k_is)
    (case a17 => k_is)
    (case l17 => k_is)
    (case c17 => k_is)
    (case k17 => k_is)
    (case a18 => k_is)
    (case l18 => k_is)
    (case c18 => k_is)
    (case k18 => k_is)
    (case a19 => k_is)
    (case l19 => k_is)
    (case c19 => k_is)
    (case k19 => k_is)
    (case a20 => k_is)
    (case l20 => k_is)
    (case c20 => k_is)
    (case k20 => k_is)
    (case a21 => k_is)
    (case l21 => k_is)
    (case c21 => k_is)
    (case k21 => k_is)
    (case z_len => k_is)
    (case z_dict => k_is)
    (case z_abs => k_is)
    (case z_range => k_is)
    (case z_isinstance => k_is)
    (case z_int => k_is)
    (case z_bool => k_is)
    (case z_list => k_is)
    (case z_enumerate => k_is)
    (case z_max => k_is)
    (case z_min => k_is)
    (case z_sorted => k_is)
    (case z_tuple => k_is)
