import PyProof.Rows.All
import Wide.All
import OpenK.AllK
import Wide.FinOn
import PyProof.EqAt
import PyProof.EqKinds
import PyProof.TupleCall
import PySem.Challenge.RW_tailrooms_k52_books_looked_at
set_option Elab.async false
set_option linter.all false
set_option maxRecDepth 100000
local macro_rules | `(tactic| omega) => `(tactic| first | lia | omega (config := {}))
namespace L2
open PySem PySem.Spec PyProof.Rows
abbrev Key := Sum Int Str
def keyIs : Key → Value → Bool
  | .inl k, v => Value.isInt k v
  | .inr x, v => Value.isStrOf x v
def keyH (w : World) : Key → Int
  | .inl k => hashInt k
  | .inr x => hashStr w x
theorem keyIs_shape : ∀ {k : Key} {v : Value}, keyIs k v = true → (∃ i t, k = Sum.inl i ∧ v = Value.int i t) ∨ (∃ x t, k = Sum.inr x ∧ v = Value.str x t)
  | .inl i, v, h => by
    obtain ⟨t, e⟩ := Value.isInt_shape (k := i) (v := v) h
    exact .inl ⟨i, t, rfl, e⟩
  | .inr x, v, h => by
    obtain ⟨t, e⟩ := Value.isStrOf_shape (x := x) (v := v) h
    exact .inr ⟨x, t, rfl, e⟩
theorem key_ll (a b : Int) : decide ((Sum.inl a : Key) = Sum.inl b) = (a == b) := by
  by_cases e : a = b
  · subst e; simp
  · have h : ¬ (Sum.inl a : Key) = Sum.inl b := fun q => e (Sum.inl.inj q)
    rw [decide_eq_false h]
    exact (beq_eq_false_iff_ne.mpr e).symm
theorem key_rr (a b : Str) : decide ((Sum.inr a : Key) = Sum.inr b) = decide (a = b) := by
  by_cases e : a = b
  · subst e; simp
  · have h : ¬ (Sum.inr a : Key) = Sum.inr b := fun q => e (Sum.inr.inj q)
    rw [decide_eq_false h, decide_eq_false e]
theorem key_lr (a : Int) (b : Str) : decide ((Sum.inl a : Key) = Sum.inr b) = false := decide_eq_false (fun q => nomatch q)
theorem key_rl (a : Str) (b : Int) : decide ((Sum.inr a : Key) = Sum.inl b) = false := decide_eq_false (fun q => nomatch q)
def mixKind (prog : Program) (w : World) : PySem.KeyKind prog w Key where
  is := keyIs
  hash := keyH w
  inj := fun v a b ha hb => by
    rcases keyIs_shape ha with ⟨i, t, rfl, rfl⟩ | ⟨x, t, rfl, rfl⟩
    · rcases keyIs_shape hb with ⟨j, u, rfl, e⟩ | ⟨y, u, rfl, e⟩
      · injection e with e1 _; rw [e1]
      · exact nomatch e
    · rcases keyIs_shape hb with ⟨j, u, rfl, e⟩ | ⟨y, u, rfl, e⟩
      · exact nomatch e
      · injection e with e1 _; rw [e1]
  byValue := fun k v h => by
    rcases keyIs_shape h with ⟨i, t, rfl, rfl⟩ | ⟨x, t, rfl, rfl⟩ <;> rfl
  pyHash := fun hv h => by
    rcases keyIs_shape hv with ⟨i, t, rfl, rfl⟩ | ⟨x, t, rfl, rfl⟩
    · exact wpAny_pyHash_int h
    · exact wpAny_pyHash_str h
  eqBool := fun hu hv h => by
    rcases keyIs_shape hu with ⟨i, t, rfl, rfl⟩ | ⟨x, t, rfl, rfl⟩
    · rcases keyIs_shape hv with ⟨j, u, rfl, rfl⟩ | ⟨y, u, rfl, rfl⟩
      · rw [key_ll] at h; exact wpAny_eqBool_int h
      · rw [key_lr] at h; exact SeqAt.EqAt.int_str i t y u _ _ _ _ h
    · rcases keyIs_shape hv with ⟨j, u, rfl, rfl⟩ | ⟨y, u, rfl, rfl⟩
      · rw [key_rl] at h; exact SeqAt.EqAt.str_int x t j u _ _ _ _ h
      · rw [key_rr] at h; exact wpAny_eqBool_str h
  «strs» := fun k x t v h => by
    rcases keyIs_shape h with ⟨i, u, rfl, e⟩ | ⟨y, u, rfl, e⟩
    · exact nomatch e
    · injection e with e1 _
      subst e1
      cases v <;> rfl
end L2
namespace L2
open PySem PySem.Spec PyProof.Rows
inductive V where
  | non | bl (b : Bool) | int (i : Int) | str (x : Str) | byt (b : Array UInt8) | flt (b : UInt64) | ref (a : Addr) | ty (n : String)
  deriving DecidableEq
def RelV : V → Value → Prop
  | .non, u => u = Value.none
  | .bl b, u => u = Value.bool b
  | .int i, u => ∃ t, u = Value.int i t
  | .str x, u => ∃ t, u = Value.str x t
  | .byt b, u => ∃ t, u = Value.bytes b t
  | .flt b, u => ∃ t, u = Value.float b t
  | .ref a, u => u = Value.ref a
  | .ty n, u => u = Value.type n
abbrev Vals : List V → List Value → Prop := Paired RelV
theorem Vals.length {xs : List V} {us : List Value} (r : Vals xs us) : xs.length = us.length := Paired.length r
theorem Vals.get : ∀ {xs : List V} {us : List Value} {i : Nat} {x : V}, Vals xs us → xs[i]? = some x → ∃ u, us[i]? = some u ∧ RelV x u
  | _, _, _, _, .nil, e => by simp at e
  | _, _, 0, _, .cons r _, e => by simp at e; subst e; exact ⟨_, rfl, r⟩
  | _, _, i + 1, x, .cons _ t, e => by
    obtain ⟨u, h1, h2⟩ := Vals.get (i := i) (x := x) t (by simpa using e)
    exact ⟨u, by simpa using h1, h2⟩
theorem Vals.set {x : V} {u : Value} (r : RelV x u) : ∀ {xs : List V} {us : List Value} (i : Nat), Vals xs us → Vals (xs.set i x) (us.set i u)
  | _, _, _, .nil => .nil
  | _, _, 0, .cons _ t => .cons r t
  | _, _, i + 1, .cons q t => .cons q (Vals.set r i t)
theorem Vals.append : ∀ {xs ys : List V} {us ws : List Value}, Vals xs us → Vals ys ws → Vals (xs ++ ys) (us ++ ws)
  | _, _, _, _, .nil, s => s
  | _, _, _, _, .cons r t, s => .cons r (Vals.append t s)
theorem Vals.take : ∀ {xs : List V} {us : List Value} (n : Nat), Vals xs us → Vals (xs.take n) (us.take n)
  | _, _, 0, _ => .nil
  | _, _, _ + 1, .nil => .nil
  | _, _, n + 1, .cons r t => .cons r (Vals.take n t)
theorem Vals.drop : ∀ {xs : List V} {us : List Value} (n : Nat), Vals xs us → Vals (xs.drop n) (us.drop n)
  | _, _, 0, r => r
  | _, _, _ + 1, .nil => .nil
  | _, _, n + 1, .cons _ t => Vals.drop n t
def RelO : Option V → Option Value → Prop
  | some v, some u => RelV v u
  | none, none => True
  | _, _ => False
def KV {κ : Type} : List (κ × V) → List (κ × Value) → Prop := Paired fun (p : κ × V) (q : κ × Value) => p.1 = q.1 ∧ RelV p.2 q.2
def kV : Key → V
  | .inl i => .int i
  | .inr x => .str x
inductive HO where
  | lst (xs : List V)
  | tup (xs : List V)
  | dK (kvs : List (Key × V)) | dT (kvs : List (List Key × V))
  | set (S : Int → Bool) (n : Nat)
  | ins (C dx : Addr) (fs : List (Str × V))
  | own (x : Addr)
  | xd (fs : List (Str × V))
  | met (f x : Addr)
  | rng (lo hi : Int)
  | frz (o : Obj) (u : HO)
  | tbl (ps : Array Value)
  | ext (φ : Heap → Prop)
abbrev Hp := Addr → Option HO
def upd (H : Hp) (a : Addr) (o : HO) : Hp := fun b => if b = a then some o else H b
theorem upd_same {H : Hp} {a : Addr} {o : HO} : upd H a o a = some o := by unfold upd; rw [if_pos rfl]
theorem upd_ne {H : Hp} {a b : Addr} {o : HO} (h : b ≠ a) : upd H a o b = H b := by unfold upd; rw [if_neg h]
theorem ne_of {H : Hp} {a b : Addr} {o u : HO} (h : H a = some o) (h' : H b = some u) (d : o ≠ u) : a ≠ b := by
  intro e; subst e; rw [h] at h'; exact d (Option.some.inj h')
theorem ne_of_none {H : Hp} {a b : Addr} {o : HO} (h : H a = some o) (h' : H b = none) : a ≠ b := by
  intro e; subst e; rw [h] at h'; cases h'
section
variable (P : Program) (w : World)
def ObjOk (H : Hp) (h : Heap) (a : Addr) : HO → Prop
  | .lst xs => xs.length ≤ sizeLine ∧ ∃ (its : List Value) (n : Nat), Vals xs its ∧ h.get? a = some { cls := .type "list", data := .seq its.toArray n }
  | .tup xs => xs.length ≤ sizeLine ∧ ∃ its : List Value, Vals xs its ∧ IsTup h a its.toArray
  | .dK kvs => kvs.length ≤ sizeLine ∧ (a == sysModules) = false ∧ ∃ vs, KV kvs vs ∧ h.DictOf (mixKind P w) a vs
  | .dT kvs => kvs.length ≤ sizeLine ∧ (a == sysModules) = false ∧ ∃ xs : List (List Key × Addr × Value),
      Paired (fun (p : List Key × V) (q : List Key × Addr × Value) => p.1 = q.1 ∧ H q.2.1 = some (.tup (p.1.map kV)) ∧ RelV p.2 q.2.2) kvs xs ∧
      ∃ o es ep, h.get? a = some o ∧ o.ExactDict ∧ o.data = .dict es ep ∧ es.toList = xs.map (entryOfKey (tupleKind (mixKind P w))) ∧ (xs.map (·.1)).Nodup
  | .set S n => h.SetOf (intKind P w) a S n
  | .ins C dx fs => H dx = some (.own a) ∧ fs.length ≤ 1000 ∧ dx ≠ a ∧ h.get? a = some (PySem.W.instObj C dx) ∧
      ∃ mA, h.Ns1 dx mA ∧ (∀ f, RelO (fs.lookup f) (mA f)) ∧ PySem.Within mA (fs.map (·.1))
  | .own _ => ∃ o, h.get? a = some o
  | .xd fs => ∃ mA, h.Ns1 a mA ∧ ∀ f, RelO (fs.lookup f) (mA f)
  | .rng lo hi => ∃ t u v, h.get? a = some { cls := .type "range", data := .fields #[.int lo t, .int hi u, .int 1 v] }
  | .frz o u => h.get? a = some o ∧ ObjOk H h a u
  | .tbl ps => h.get? a = some { cls := .none, data := .fields ps }
  | .met f x => h.get? a = some (PySem.W.methodObj (.ref f) (.ref x))
  | .ext φ => φ h ∧ (∃ o, h.get? a = some o) ∧ ∀ h1 h2 : Heap, φ h1 → (∀ o, h1.get? a = some o → h2.get? a = some o) → φ h2
def HOk (H : Hp) (h : Heap) : Prop := ∀ a o, H a = some o → ObjOk P w H h a o
end
section
variable {P : Program} {w : World} {H H' : Hp} {h h' : Heap} {a : Addr} {o : HO}
theorem ObjOk.lt (x : ObjOk P w H h a o) : a < h.objs.size := by
  cases o with
  | lst xs => obtain ⟨_, _, _, _, e⟩ := x; exact Heap.lt_size e
  | tup xs => obtain ⟨_, _, _, p⟩ := x; exact p.lt
  | dK kvs => obtain ⟨_, _, _, _, o, _, _, e, _⟩ := x; exact Heap.lt_size e
  | dT kvs => obtain ⟨_, _, _, _, o, _, _, e, _⟩ := x; exact Heap.lt_size e
  | set S n => obtain ⟨o, _, _, _, e, _⟩ := x; exact Heap.lt_size e
  | ins C dx fs => obtain ⟨_, _, _, e, _⟩ := x; exact Heap.lt_size e
  | own y => obtain ⟨_, e⟩ := x; exact Heap.lt_size e
  | xd fs => obtain ⟨_, ⟨_, _, _, e, _⟩, _⟩ := x; exact Heap.lt_size e
  | rng lo hi => obtain ⟨_, _, _, e⟩ := x; exact Heap.lt_size e
  | frz ob u => obtain ⟨e, _⟩ := x; exact Heap.lt_size e
  | tbl ps => exact Heap.lt_size (show h.get? a = some _ from x)
  | met f y => exact Heap.lt_size (show h.get? a = some _ from x)
  | ext φ => obtain ⟨_, ⟨_, e⟩, _⟩ := x; exact Heap.lt_size e
theorem Paired.mapP {α β : Type} {F G : α → β → Prop} : ∀ {l₁ : List α} {l₂ : List β}, Paired F l₁ l₂ → (∀ a b, F a b → G a b) → Paired G l₁ l₂
  | _, _, .nil, _ => .nil
  | _, _, .cons r t, f => .cons (f _ _ r) (Paired.mapP t f)
theorem ObjOk.stay (x : ObjOk P w H h a o) (k : ∀ b u, (b = a ∨ H b = some (.own a)) → h.get? b = some u → h'.get? b = some u)
    (ho : ∀ b, H b = some (.own a) → H' b = some (.own a)) (ht : ∀ b xs, H b = some (.tup xs) → H' b = some (.tup xs)) : ObjOk P w H' h' a o := by
  induction o with
  | lst xs => obtain ⟨z, its, n, r, e⟩ := x; exact ⟨z, its, n, r, k _ _ (.inl rfl) e⟩
  | tup xs => obtain ⟨z, its, r, ob, e, c⟩ := x; exact ⟨z, its, r, ob, k _ _ (.inl rfl) e, c⟩
  | dK kvs => obtain ⟨z, y, vs, r, ob, es, ep, e, c⟩ := x; exact ⟨z, y, vs, r, ob, es, ep, k _ _ (.inl rfl) e, c⟩
  | dT kvs =>
    obtain ⟨z, y, xs, r, ob, es, ep, e, c⟩ := x
    exact ⟨z, y, xs, Paired.mapP r fun p q z => ⟨z.1, ht _ _ z.2.1, z.2.2⟩, ob, es, ep, k _ _ (.inl rfl) e, c⟩
  | set S n => obtain ⟨ob, es, ep, t, e, c⟩ := x; exact ⟨ob, es, ep, t, k _ _ (.inl rfl) e, c⟩
  | ins C dx fs =>
    obtain ⟨d, z, ne, e, mA, ⟨od, es, ep, e2, c⟩, r⟩ := x
    exact ⟨ho _ d, z, ne, k _ _ (.inl rfl) e, mA, ⟨od, es, ep, k _ _ (.inr d) e2, c⟩, r⟩
  | own y => obtain ⟨ob, e⟩ := x; exact ⟨ob, k _ _ (.inl rfl) e⟩
  | xd fs => obtain ⟨mA, ⟨od, es, ep, e, c⟩, r⟩ := x; exact ⟨mA, ⟨od, es, ep, k _ _ (.inl rfl) e, c⟩, r⟩
  | rng lo hi => obtain ⟨t, u, v, e⟩ := x; exact ⟨t, u, v, k _ _ (.inl rfl) e⟩
  | frz ob u ih => obtain ⟨e, q⟩ := x; exact ⟨k _ _ (.inl rfl) e, ih q⟩
  | tbl ps =>
    have e : h.get? a = some { cls := .none, data := .fields ps } := x
    show h'.get? a = some { cls := .none, data := .fields ps }
    exact k a _ (.inl rfl) e
  | met f y =>
    have e : h.get? a = some (PySem.W.methodObj (.ref f) (.ref y)) := x
    show h'.get? a = some (PySem.W.methodObj (.ref f) (.ref y))
    exact k a _ (.inl rfl) e
  | ext φ => obtain ⟨p, ⟨o, e⟩, st⟩ := x; exact ⟨st _ _ p fun o q => k _ _ (.inl rfl) q, ⟨o, k _ _ (.inl rfl) e⟩, st⟩
theorem HOk.lt (x : HOk P w H h) (e : H a = some o) : a < h.objs.size := (x a o e).lt
theorem HOk.fresh (x : HOk P w H h) (e : h.objs.size ≤ a) : H a = none := by
  cases q : H a with
  | none => rfl
  | some u => exact absurd (Nat.lt_of_lt_of_le (x.lt q) e) (Nat.lt_irrefl _)
theorem HOk.kept (x : HOk P w H h) (k : ∀ b u, h.get? b = some u → h'.get? b = some u) : HOk P w H h' := fun a o e =>
  (x a o e).stay (fun b u _ q => k b u q) (fun _ q => q) fun _ _ q => q
theorem HOk.laid (x : HOk P w H h) (k : ∀ b u, h.get? b = some u → h'.get? b = some u) (hp : h.objs.size ≤ a) (new : ObjOk P w (upd H a o) h' a o) : HOk P w (upd H a o) h' := fun b u e => by
  have hn := x.fresh hp
  by_cases hb : b = a
  · subst hb; rw [upd_same] at e; cases e; exact new
  · rw [upd_ne hb] at e
    exact (x b u e).stay (fun c v _ q => k c v q) (fun c q => by rw [upd_ne (ne_of_none q hn)]; exact q) fun c xs q => by rw [upd_ne (ne_of_none q hn)]; exact q
end
def Rd (H : Hp) (a : Addr) (u : HO) : Prop := H a = some u ∨ ∃ o, H a = some (.frz o u)
theorem Rd.ok {P : Program} {w : World} {H : Hp} {h : Heap} {a : Addr} {u : HO} (r : Rd H a u) (x : HOk P w H h) : ObjOk P w H h a u := by
  rcases r with r | ⟨o, r⟩
  · exact x a u r
  · obtain ⟨_, q⟩ := x a _ r
    exact q
def Mut : Option HO → Prop
  | some (.lst _) => True
  | some (.dK _) => True
  | some (.dT _) => True
  | some (.set _ _) => True
  | some (.ins _ _ _) => True
  | some (.ext _) => True
  | _ => False
section
variable {P : Program} {w : World} {H : Hp} {h h' : Heap} {x e : Addr} {o' : HO}
theorem HOk.write (ok : HOk P w H h) (mu : Mut (H x)) (he : e = x ∨ H e = some (.own x)) (k : ∀ b u, b ≠ e → h.get? b = some u → h'.get? b = some u) (heo : ∃ u, h'.get? e = some u)
    (new : ObjOk P w (upd H x o') h' x o') : HOk P w (upd H x o') h' := fun b u q => by
  have nown : ∀ c y, H c = some (.own y) → c ≠ x := fun c y r z => by subst z; rw [r] at mu; exact mu
  have ntup : ∀ c xs, H c = some (.tup xs) → c ≠ x := fun c xs r z => by subst z; rw [r] at mu; exact mu
  by_cases hb : b = x
  · subst hb; rw [upd_same] at q; cases q; exact new
  · rw [upd_ne hb] at q
    by_cases hbe : b = e
    · have q' : H b = some (.own x) := by
        rcases he with z | z
        · exact absurd (hbe.trans z) hb
        · rw [hbe]; exact z
      rw [q] at q'; cases q'
      obtain ⟨v, hv⟩ := heo
      exact ⟨v, by rw [hbe]; exact hv⟩
    · refine (ok b u q).stay (fun c v hc r => k c v ?_ r) (fun c r => by rw [upd_ne (nown c b r)]; exact r) fun c xs r => by rw [upd_ne (ntup c xs r)]; exact r
      rcases hc with rfl | hc
      · exact hbe
      · rintro rfl
        rcases he with z | z
        · exact nown c b hc z
        · rw [hc] at z; cases z; exact hb rfl
end
structure Un (fs ex : List Addr) (H H' : Hp) (h h' : Heap) : Prop where
  keep : ∀ b o, h.get? b = some o → H b = none → b ∉ fs → b ∉ ex → h'.get? b = some o
  slot : ∀ b o, h.get? b = some o → H b = none → b ∈ fs → b ∉ ex → ∃ sl, h'.get? b = some { o with slots := sl }
  free : ∀ b o, h.get? b = some o → H b = none → b ∉ ex → H' b = none
  there : ∀ b o, h.get? b = some o → b ∉ ex → ∃ o', h'.get? b = some o'
  tups : ∀ b xs, H b = some (.tup xs) → H' b = some (.tup xs)
  frzs : ∀ b o u, H b = some (.frz o u) → H' b = some (.frz o u)
  tbls : ∀ b ps, H b = some (.tbl ps) → ∃ more, H' b = some (.tbl (ps ++ more))
section
variable {fs fs' ex ex' : List Addr} {H H1 H2 : Hp} {h h1 h2 h' : Heap} {a x e : Addr} {o : HO}
theorem Un.any (u : Un fs ex H H1 h h1) {b : Addr} {ob : Obj} (q : h.get? b = some ob) (n : H b = none) (hx : b ∉ ex) : ∃ sl, h1.get? b = some { ob with slots := sl } := by
  by_cases hb : b ∈ fs
  · exact u.slot b ob q n hb hx
  · exact ⟨ob.slots, u.keep b ob q n hb hx⟩
theorem Un.kept (k : ∀ b u, h.get? b = some u → h'.get? b = some u) : Un fs ex H H h h' :=
  ⟨fun b ob q _ _ _ => k b ob q, fun b ob q _ _ _ => ⟨ob.slots, k b ob q⟩, fun _ _ _ n _ => n, fun b ob q _ => ⟨ob, k b ob q⟩, fun _ _ q => q, fun _ _ _ q => q, fun _ ps q => ⟨#[], by rw [q]; simp⟩⟩
theorem Un.refl : Un fs ex H H h h := Un.kept fun _ _ q => q
theorem Un.laid (k : ∀ b u, h.get? b = some u → h'.get? b = some u) (hp : h.objs.size ≤ a) (hn : H a = none) : Un fs ex H (upd H a o) h h' where
  keep := fun b u q _ _ _ => k b u q
  slot := fun b u q _ _ _ => ⟨u.slots, k b u q⟩
  free := fun b u q n _ => by rw [upd_ne (Nat.ne_of_lt (Nat.lt_of_lt_of_le (Heap.lt_size q) hp))]; exact n
  there := fun b u q _ => ⟨u, k b u q⟩
  tups := fun b xs q => by rw [upd_ne (ne_of_none q hn)]; exact q
  frzs := fun b u xs q => by rw [upd_ne (ne_of_none q hn)]; exact q
  tbls := fun b ps q => ⟨#[], by rw [upd_ne (ne_of_none q hn), q]; simp⟩
theorem Un.write (mu : Mut (H x)) (he : e = x ∨ H e = some (.own x)) (k : ∀ b u, b ≠ e → h.get? b = some u → h'.get? b = some u) (heo : ∃ u, h'.get? e = some u) : Un fs ex H (upd H x o) h h' := by
  have hx : ∀ b, H b = none → b ≠ x := fun b n z => by subst z; rw [n] at mu; exact mu
  have hb : ∀ b, H b = none → b ≠ e := fun b n z => by
    subst z
    rcases he with r | r
    · exact hx b n r
    · rw [n] at r; cases r
  have hm : ∀ b u, H b = some u → ¬ Mut (some u) → b ≠ x := fun b u q nm z => by subst z; rw [q] at mu; exact nm mu
  refine ⟨fun b u q n _ _ => k b u (hb b n) q, fun b u q n _ _ => ⟨u.slots, k b u (hb b n) q⟩, fun b u q n _ => by rw [upd_ne (hx b n)]; exact n, fun b u q _ => ?_,
    fun b xs q => by rw [upd_ne (hm b _ q fun z => z)]; exact q, fun b u xs q => by rw [upd_ne (hm b _ q fun z => z)]; exact q, fun b ps q => ⟨#[], by rw [upd_ne (hm b _ q fun z => z), q]; simp⟩⟩
  by_cases hbe : b = e
  · subst hbe; exact heo
  · exact ⟨u, k b u hbe q⟩
end
def trk (h : Heap) (H : Hp) : List Addr := (List.range h.objs.size).filter fun a => (H a).isSome
def hidT (h : Heap) (H : Hp) : Heap := PySem.W.hideAll h (trk h H)
theorem hidT_size (h : Heap) (H : Hp) : (hidT h H).objs.size = h.objs.size := PySem.W.hideAll_size _ _
theorem hidT_get {h : Heap} {H : Hp} {b : Addr} {o : Obj} (e : h.get? b = some o) (n : H b = none) : (hidT h H).get? b = some o :=
  PySem.W.hideAll_get _ e fun hm => by
    have q : (H b).isSome = true := (List.mem_filter.mp hm).2
    rw [n] at q; simp at q
theorem of_hidT {h : Heap} {H : Hp} {b : Addr} {o : Obj} (e : (hidT h H).get? b = some o) : h.get? b = some o ∧ H b = none := by
  have e' : h.get? b = some o := PySem.W.of_hideAll (trk h H) e
  refine ⟨e', ?_⟩
  cases q : H b with
  | none => rfl
  | some x =>
    have hm : b ∈ trk h H := List.mem_filter.mpr ⟨List.mem_range.mpr (Heap.lt_size e'), by simp [q]⟩
    have z : (hidT h H).get? b = none := PySem.W.hideAll_none (trk h H) hm
    rw [z] at e; cases e
def allNews (g h : Heap) (L : Addr) : List (Addr × Obj) := (List.range h.objs.size).filterMap fun a => if a = L ∨ (g.get? a).isSome = true then none else (h.get? a).map fun o => (a, o)
def rest (g h : Heap) (L d : Addr) : List (Addr × Obj) := (allNews g h L).filter fun p => decide (p.1 ≠ d)
end L2
namespace L2
open PySem PySem.Spec PyProof.Rows
structure Mod (K : PySem.W.Frag) (mg : Str → Option Value) (base : Heap) : Prop where
  kin : K.In base
  glob : base.Ns mainGlobals mg
  blt : ∃ mb, base.Ns builtinsNs mb ∧ ∀ x : Str, x ≠ "__name__" → mb x = bootBuiltins x
  nolimit : base.NoLimit
structure Cx where
  prog : Program
  w : World
  K : PySem.W.Frag
  mg : Str → Option Value
  base : Heap
  A : Around
  N : List Str
  s₀ : Shared
  H₀ : Hp
  env : Env
  outer : List Env
  stack : List Env
  ex : List Addr
  fn : Str → Bool
  calm : Bool
  pn : List (Addr × Obj)
  xe : Value → Shared → Prop
def frs (l : List Env) : List Addr := l.filterMap (·.frame)
abbrev Cx.fs (X : Cx) : List Addr := frs X.outer
def Vis (sc : Scope) (x : Str) : Prop := sc.names.lookup x = some .local ∨ sc.names.lookup x = some .cell ∨ sc.names.lookup x = some .free
def Loc (sc : Scope) (x : Str) : Prop := sc.names.lookup x = some .local ∨ sc.names.lookup x = some .cell
def Look (env : Env) (h : Heap) (m : Str → Option Value) (x : Str) (u : Value) : Prop :=
  (env.kindOf x = some .local ∧ m x = some u) ∨ ((env.kindOf x = some .cell ∨ env.kindOf x = some .free) ∧ ∃ c, env.cells.lookup x = some c ∧ h.IsCell c (some u))
structure Cx.Ok (X : Cx) : Prop where
  mod : Mod X.K X.mg X.base
  kind : X.env.scope.kind = .function
  glob : X.env.globals = mainGlobals
  blt : X.env.builtins = builtinsNs
  above : X.s₀.heap.objs.size ≤ X.env.locals
  inj : ∀ x y c, X.env.cells.lookup x = some c → X.env.cells.lookup y = some c → x = y
  has : ∀ x, (X.env.kindOf x = some .cell ∨ X.env.kindOf x = some .free) → ∃ c, X.env.cells.lookup x = some c
  cab : ∀ x c, X.fn x = true → X.env.cells.lookup x = some c → X.s₀.heap.objs.size ≤ c
  hd : X.calm = true → X.A.handled = none
  frames : X.A.frames = some X.stack
  stk : X.stack = X.outer ∨ (X.stack = X.env :: X.outer ∧ X.env.frame = some X.env.locals)
  exf : ∀ b ∈ X.ex, b ≠ X.env.locals ∧ ∀ x c, X.env.cells.lookup x = some c → c ≠ b
  bs : ∀ b o, X.base.get? b = some o → X.s₀.heap.get? b = some o ∧ X.H₀ b = none
  bsz : X.base.objs.size ≤ X.s₀.heap.objs.size
  noex : ∀ b o, X.base.get? b = some o → b ∉ X.ex
  exfs : ∀ b ∈ X.ex, b ∉ X.fs
  funs : X.s₀.heap.FunFrames X.base X.outer
  frf : ∀ b ∈ X.fs, X.H₀ b = none
structure Inv (X : Cx) (pins : List (Addr × Obj)) (σ : List (Option V)) (H : Hp) (s : Shared) : Prop where
  ok : X.Ok
  os : s.os = X.s₀.os
  bare : AllBare s.gens
  base : Un X.fs X.ex X.H₀ H X.s₀.heap s.heap
  loc : ∃ m, s.heap.Ns X.env.locals m ∧ ∀ (i : Nat) (x : Str) (v : V), X.N[i]? = some x → σ[i]? = some (some v) → Vis X.env.scope x → ∃ u, RelV v u ∧ Look X.env s.heap m x u
  cell : ∀ x c, X.env.cells.lookup x = some c → ∃ v, s.heap.IsCell c v
  free : H X.env.locals = none
  freeC : ∀ x c, X.env.cells.lookup x = some c → H c = none
  pin : ∀ p ∈ X.pn ++ pins, s.heap.get? p.1 = some p.2 ∧ H p.1 = none ∧ p.1 ≠ X.env.locals ∧ p.1 ∉ X.fs ∧ ∀ v, p.2.data ≠ .cell v
  hok : HOk X.prog X.w H s.heap
  len : σ.length = X.N.length
section
variable {X : Cx} {pins : List (Addr × Obj)} {σ : List (Option V)} {H H' : Hp} {s : Shared} {h' : Heap}
theorem Cx.Ok.nofr (ok : X.Ok) {b : Addr} {o : Obj} (e : X.base.get? b = some o) : b ∉ X.fs := fun hb => by
  have := (ok.funs.mem hb).1
  rw [e] at this; cases this
theorem Inv.bs (I : Inv X pins σ H s) : ∀ b o, X.base.get? b = some o → s.heap.get? b = some o ∧ H b = none := fun b o e =>
  ⟨I.base.keep b o (I.ok.bs b o e).1 (I.ok.bs b o e).2 (I.ok.nofr e) (I.ok.noex b o e), I.base.free b o (I.ok.bs b o e).1 (I.ok.bs b o e).2 (I.ok.noex b o e)⟩
theorem Inv.bk (I : Inv X pins σ H s) : ∀ b o, X.base.get? b = some o → s.heap.get? b = some o := fun b o e => (I.bs b o e).1
theorem Inv.mod (I : Inv X pins σ H s) : Mod X.K X.mg X.base := I.ok.mod
theorem Inv.kIn (I : Inv X pins σ H s) : X.K.In s.heap := I.ok.mod.kin.keeps I.bk
theorem Inv.lt (I : Inv X pins σ H s) : X.env.locals < s.heap.objs.size := let ⟨_, hn, _⟩ := I.loc; hn.lt
theorem Inv.sz (I : Inv X pins σ H s) : X.s₀.heap.objs.size ≤ s.heap.objs.size := Nat.le_trans I.ok.above (Nat.le_of_lt I.lt)
theorem Inv.nofs (I : Inv X pins σ H s) {a : Addr} (h : s.heap.objs.size ≤ a) : a ∉ X.fs := fun hb => by
  obtain ⟨_, o, ho, _⟩ := I.ok.funs.mem hb
  exact absurd (Nat.lt_of_lt_of_le (Heap.lt_size ho) (Nat.le_trans I.sz h)) (Nat.lt_irrefl _)
theorem Inv.cne (I : Inv X pins σ H s) : ∀ x c, X.env.cells.lookup x = some c → c ≠ X.env.locals := fun x c e z => by
  obtain ⟨v, o, ho, hd⟩ := I.cell x c e
  obtain ⟨m, ⟨o', es, ep, ho', hd', _⟩, _⟩ := I.loc
  rw [z, ho'] at ho; cases ho; rw [hd'] at hd; cases hd
theorem Inv.funs (I : Inv X pins σ H s) : s.heap.FunFrames X.base X.outer := by
  have all : ∀ (l : List Env), (∀ b ∈ frs l, b ∈ X.fs) → X.s₀.heap.FunFrames X.base l → s.heap.FunFrames X.base l := by
    intro l
    induction l with
    | nil => intro _ _; trivial
    | cons env r ih =>
      intro hs hl
      obtain ⟨hk, ⟨L, o, hf, hn, ho, hd⟩, hr⟩ := hl
      have hL : L ∈ X.fs := hs L (by unfold frs; rw [List.filterMap_cons, hf]; exact List.mem_cons_self)
      obtain ⟨sl, e⟩ := I.base.slot L o ho (I.ok.frf L hL) hL fun z => I.ok.exfs L z hL
      exact ⟨hk, ⟨L, _, hf, hn, e, hd⟩, ih (fun b hb => hs b (by unfold frs; rw [List.filterMap_cons, hf]; exact List.mem_cons_of_mem _ hb)) hr⟩
  exact all X.outer (fun _ hb => hb) I.ok.funs
theorem Inv.stack (I : Inv X pins σ H s) : s.heap.FunFrames X.base X.stack := by
  rcases I.ok.stk with e | ⟨e, hf⟩
  · rw [e]; exact I.funs
  · rw [e]
    obtain ⟨m, hn, _⟩ := I.loc
    refine .cons (by rw [I.ok.kind]; decide) hf hn ?_ I.funs
    exact Heap.get?_none_of_le (Nat.le_trans I.ok.bsz I.ok.above)
theorem Inv.stkSub (I : Inv X pins σ H s) : ∀ b ∈ frs X.stack, b ∈ X.env.locals :: X.fs := fun b hb => by
  rcases I.ok.stk with e | ⟨e, hf⟩
  · rw [e] at hb; exact List.mem_cons_of_mem _ hb
  · rw [e] at hb
    unfold frs at hb
    rw [List.filterMap_cons, hf] at hb
    exact hb
theorem Inv.stkFree (I : Inv X pins σ H s) : ∀ b ∈ frs X.stack, H b = none := fun b hb => by
  rcases List.mem_cons.mp (I.stkSub b hb) with e | hb
  · rw [e]; exact I.free
  · obtain ⟨_, o, ho, _⟩ := I.ok.funs.mem hb
    exact I.base.free b o ho (I.ok.frf b hb) fun z => I.ok.exfs b z hb
theorem Inv.step {g' : Array GenState} {t' : Nat} {d' : Drawn} {ch : List Addr} (I : Inv X pins σ H s)
    (hch : ∀ b ∈ ch, (b ∈ X.ex ∨ X.s₀.heap.objs.size ≤ b) ∧ b ≠ X.env.locals ∧ (∀ x c, X.env.cells.lookup x = some c → c ≠ b) ∧ ∀ p ∈ X.pn ++ pins, p.1 ≠ b)
    (keep : ∀ b o, b ≠ X.env.locals → b ∉ X.fs → b ∉ ch → s.heap.get? b = some o → H b = none → h'.get? b = some o)
    (slot : ∀ b o, b ≠ X.env.locals → b ∈ X.fs → b ∉ ch → s.heap.get? b = some o → H b = none → ∃ sl, h'.get? b = some { o with slots := sl }) (free : ∀ b o, b ∉ ch → s.heap.get? b = some o → H b = none → H' b = none)
    (there : ∀ b o, b ∉ ch → s.heap.get? b = some o → ∃ o', h'.get? b = some o')
    (tups : ∀ b xs, H b = some (.tup xs) → H' b = some (.tup xs)) (frzs : ∀ b o u, H b = some (.frz o u) → H' b = some (.frz o u)) (tbls : ∀ b ps, H b = some (.tbl ps) → ∃ more, H' b = some (.tbl (ps ++ more)))
    (ns : ∀ m, s.heap.Ns X.env.locals m → h'.Ns X.env.locals m) (hok : HOk X.prog X.w H' h') (hg : AllBare g') :
    Inv X pins σ H' { s with heap := h', gens := g', drawn := d', toks := t' } := by
  have neL : ∀ b o, X.s₀.heap.get? b = some o → b ≠ X.env.locals := fun b o e => Nat.ne_of_lt (Nat.lt_of_lt_of_le (Heap.lt_size e) I.ok.above)
  have neC : ∀ b o, X.s₀.heap.get? b = some o → b ∉ X.ex → b ∉ ch := fun b o e hx hb => by
    rcases (hch b hb).1 with z | z
    · exact hx z
    · exact absurd (Nat.lt_of_lt_of_le (Heap.lt_size e) z) (Nat.lt_irrefl _)
  have cellK : ∀ x c, X.env.cells.lookup x = some c → ∀ v, s.heap.IsCell c v → h'.IsCell c v := fun x c e v ⟨o, ho, hd⟩ => by
    have nch : c ∉ ch := fun z => (hch c z).2.2.1 x c e rfl
    by_cases hc : c ∈ X.fs
    · obtain ⟨sl, q⟩ := slot c o (I.cne x c e) hc nch ho (I.freeC x c e)
      exact ⟨_, q, hd⟩
    · exact ⟨o, keep c o (I.cne x c e) hc nch ho (I.freeC x c e), hd⟩
  refine ⟨I.ok, I.os, hg, ⟨fun b o e n hb hx => ?_, fun b o e n hb hx => ?_, fun b o e n hx => ?_, fun b o e hx => ?_, fun b xs e => tups b xs (I.base.tups b xs e), fun b o xs e => frzs b o xs (I.base.frzs b o xs e), fun b ps e => ?_⟩, ?_, fun x c e => ?_, ?_, fun x c e => ?_, fun p hp => ?_, hok, I.len⟩
  · exact keep b o (neL b o e) hb (neC b o e hx) (I.base.keep b o e n hb hx) (I.base.free b o e n hx)
  · obtain ⟨sl, e1⟩ := I.base.slot b o e n hb hx
    obtain ⟨sl', e2⟩ := slot b _ (neL b o e) hb (neC b o e hx) e1 (I.base.free b o e n hx)
    exact ⟨sl', e2⟩
  · obtain ⟨o', e1⟩ := I.base.there b o e hx
    exact free b o' (neC b o e hx) e1 (I.base.free b o e n hx)
  · obtain ⟨o', e1⟩ := I.base.there b o e hx
    exact there b o' (neC b o e hx) e1
  · obtain ⟨m1, e1⟩ := I.base.tbls b ps e
    obtain ⟨m2, e2⟩ := tbls b _ e1
    exact ⟨m1 ++ m2, by rw [e2, Array.append_assoc]⟩
  · obtain ⟨m, hn, hl⟩ := I.loc
    refine ⟨m, ns m hn, fun i x v e1 e2 e3 => ?_⟩
    obtain ⟨u, r, l⟩ := hl i x v e1 e2 e3
    refine ⟨u, r, ?_⟩
    rcases l with l | ⟨k, c, e, z⟩
    · exact .inl l
    · exact .inr ⟨k, c, e, cellK x c e _ z⟩
  · obtain ⟨v, z⟩ := I.cell x c e
    exact ⟨v, cellK x c e v z⟩
  · obtain ⟨m, ⟨o, _, _, ho, _⟩, _⟩ := I.loc
    exact free _ o (fun z => (hch _ z).2.1 rfl) ho I.free
  · obtain ⟨v, o, ho, hd⟩ := I.cell x c e
    exact free c o (fun z => (hch c z).2.2.1 x c e rfl) ho (I.freeC x c e)
  · obtain ⟨e, n, ne, nf, d⟩ := I.pin p hp
    have nch : p.1 ∉ ch := fun z => (hch p.1 z).2.2.2 p hp rfl
    exact ⟨keep p.1 p.2 ne nf nch e n, free p.1 p.2 nch e n, ne, nf, d⟩
theorem Inv.un {t' : Nat} (I : Inv X pins σ H s) (u : Un X.fs [] H H' s.heap h') (hok : HOk X.prog X.w H' h') : Inv X pins σ H' { s with heap := h', toks := t' } := by
  obtain ⟨m, ⟨o, es, ep, ho, r⟩, _⟩ := id I.loc
  obtain ⟨sl, hL⟩ := u.any ho I.free (by simp)
  exact I.step (g' := s.gens) (d' := s.drawn) (ch := []) (fun _ z => nomatch z) (fun b o _ hb _ e n => u.keep b o e n hb (by simp)) (fun b o _ hb _ e n => u.slot b o e n hb (by simp)) (fun b o _ e n => u.free b o e n (by simp)) (fun b o _ e => u.there b o e (by simp)) u.tups u.frzs u.tbls (fun m' hm => by
    obtain ⟨o', es', ep', ho', r'⟩ := hm
    rw [ho] at ho'; cases ho'
    exact ⟨_, es', ep', hL, r'⟩) hok I.bare
theorem Inv.call {g' : Array GenState} {t' : Nat} {d' : Drawn} {ch : List Addr} (I : Inv X pins σ H s) (u : Un (frs X.stack) ch H H' s.heap h') (hok : HOk X.prog X.w H' h') (hg : AllBare g')
    (hch : ∀ b ∈ ch, (b ∈ X.ex ∨ X.s₀.heap.objs.size ≤ b) ∧ b ≠ X.env.locals ∧ (∀ x c, X.env.cells.lookup x = some c → c ≠ b) ∧ ∀ p ∈ X.pn ++ pins, p.1 ≠ b) :
    Inv X pins σ H' { s with heap := h', gens := g', drawn := d', toks := t' } := by
  obtain ⟨m, ⟨o, es, ep, ho, r⟩, _⟩ := id I.loc
  obtain ⟨sl, hL⟩ := u.any ho I.free fun z => (hch _ z).2.1 rfl
  exact I.step (ch := ch) hch (fun b o hL hb hc e n => u.keep b o e n (fun z => (List.mem_cons.mp (I.stkSub b z)).elim hL hb) hc) (fun b o _ _ hc e n => u.any e n hc) (fun b o hc e n => u.free b o e n hc) (fun b o hc e => u.there b o e hc) u.tups u.frzs u.tbls (fun m' hm => by
    obtain ⟨o', es', ep', ho', r'⟩ := hm
    rw [ho] at ho'; cases ho'
    exact ⟨_, es', ep', hL, r'⟩) hok hg
theorem Inv.turned {t' : Nat} {it : Addr} (I : Inv X pins σ H s) (k : ∀ b o, b ≠ it → s.heap.get? b = some o → h'.get? b = some o) (hn : H it = none) (hL : it ≠ X.env.locals)
    (h1 : it ∈ X.ex ∨ X.s₀.heap.objs.size ≤ it) (h2 : ∀ x c, X.env.cells.lookup x = some c → c ≠ it) (h3 : ∀ p ∈ X.pn ++ pins, p.1 ≠ it) : Inv X pins σ H { s with heap := h', toks := t' } := by
  have nit : ∀ b u, H b = some u → b ≠ it := fun b u e z => by rw [z, hn] at e; cases e
  refine I.step (g' := s.gens) (d' := s.drawn) (ch := [it]) (fun b hb => ?_) (fun b o _ _ hc e _ => k b o (fun z => hc (by simp [z])) e) (fun b o _ _ hc e _ => ⟨o.slots, k b o (fun z => hc (by simp [z])) e⟩) (fun _ _ _ _ n => n)
    (fun b o hc e => ⟨o, k b o (fun z => hc (by simp [z])) e⟩) (fun _ _ e => e) (fun _ _ _ e => e) (fun b ps e => ⟨#[], by rw [e]; simp⟩) (fun m hm => ?_) (fun b u e => ?_) I.bare
  · have e : b = it := by simpa using hb
    subst e
    exact ⟨h1, hL, h2, h3⟩
  · obtain ⟨o, es, ep, ho, r⟩ := hm
    exact ⟨o, es, ep, k _ o (Ne.symm hL) ho, r⟩
  · refine (I.hok b u e).stay (fun c v hc q => k c v ?_ q) (fun _ q => q) fun _ _ q => q
    rcases hc with z | z
    · rw [z]; exact nit b u e
    · exact nit c _ z
theorem Inv.tok (I : Inv X pins σ H s) (t : Nat) : Inv X pins σ H { s with toks := t } := I.un (h' := s.heap) (t' := t) Un.refl I.hok
theorem Inv.kept {t' : Nat} (I : Inv X pins σ H s) (k : ∀ b u, s.heap.get? b = some u → h'.get? b = some u) : Inv X pins σ H { s with heap := h', toks := t' } := I.un (Un.kept k) (I.hok.kept k)
theorem Inv.laid {a : Addr} {o : HO} {t' : Nat} (I : Inv X pins σ H s) (k : ∀ b u, s.heap.get? b = some u → h'.get? b = some u) (hp : s.heap.objs.size ≤ a) (new : ObjOk X.prog X.w (upd H a o) h' a o) :
    Inv X pins σ (upd H a o) { s with heap := h', toks := t' } := I.un (Un.laid k hp (I.hok.fresh hp)) (I.hok.laid k hp new)
theorem Inv.write {x e : Addr} {o : HO} {t' : Nat} (I : Inv X pins σ H s) (mu : Mut (H x)) (he : e = x ∨ H e = some (.own x)) (k : ∀ b u, b ≠ e → s.heap.get? b = some u → h'.get? b = some u) (heo : ∃ u, h'.get? e = some u)
    (new : ObjOk X.prog X.w (upd H x o) h' x o) : Inv X pins σ (upd H x o) { s with heap := h', toks := t' } := I.un (Un.write mu he k heo) (I.hok.write mu he k heo new)
theorem Inv.pins_of {pins' : List (Addr × Obj)} (I : Inv X pins σ H s) (h : ∀ p ∈ pins', s.heap.get? p.1 = some p.2 ∧ H p.1 = none ∧ p.1 ≠ X.env.locals ∧ p.1 ∉ X.fs ∧ ∀ v, p.2.data ≠ .cell v) : Inv X pins' σ H s :=
  ⟨I.ok, I.os, I.bare, I.base, I.loc, I.cell, I.free, I.freeC, fun p hp => (List.mem_append.mp hp).elim (fun z => I.pin p (List.mem_append_left _ z)) (h p), I.hok, I.len⟩
theorem nodup_ix {N : List Str} (hN : N.Nodup) {i j : Nat} {x : Str} (a : N[i]? = some x) (b : N[j]? = some x) : i = j := by
  obtain ⟨h1, e1⟩ := List.getElem?_eq_some_iff.mp a
  obtain ⟨h2, e2⟩ := List.getElem?_eq_some_iff.mp b
  exact (List.getElem_inj hN).mp (e1.trans e2.symm)
theorem store_ok2 {M : Model} {A : Around} {E : Value → Shared → Prop} {i : Nat} {x : Str} {v : V} {u : Value} {Q : Unit → Shared → Prop} (I : Inv X pins σ H s) (hN : X.N.Nodup) (hi : X.N[i]? = some x) (hx : Loc X.env.scope x) (r : RelV v u)
    (h : ∀ s', Inv X pins (σ.set i (some v)) H s' → (∃ a, Heap.SameBut a s.heap s'.heap ∧ (a = X.env.locals ∨ X.env.cells.lookup x = some a)) → Q () s') (hf : X.fn x = true ∨ X.env.scope.names.lookup x = some .local := by first | exact .inl rfl | exact .inr rfl | assumption) : wpAny M A (storeName X.env x u) Q E s := by
  obtain ⟨m, hn, hl⟩ := id I.loc
  have hcls : (X.env.scope.kind == .class || (X.env.scope.kind == .module && X.env.locals != X.env.globals)) = false := by rw [I.ok.kind]; rfl
  have hiσ : i < σ.length := by rw [I.len]; exact (List.getElem?_eq_some_iff.mp hi).1
  have cne := I.cne
  have tracked : ∀ {a : Addr} {h' : Heap}, (∃ o, s.heap.get? a = some o ∧ H a = none) → Heap.SameBut a s.heap h' → HOk X.prog X.w H h' := fun {a h'} ha hs b ob e => by
    obtain ⟨_, _, hfree⟩ := ha
    refine (I.hok b ob e).stay (fun c w' hc q => (hs.2 c ?_).trans q) (fun _ q => q) fun _ _ q => q
    rintro rfl
    rcases hc with rfl | hc
    · rw [hfree] at e; cases e
    · rw [hfree] at hc; cases hc
  rcases hx with hk | hk
  · refine wpAny_storeName_local hk hn (fun h' hn' hs => ?_) hcls
    obtain ⟨oL, _, _, hoL, _⟩ := id hn
    refine h _ ⟨I.ok, I.os, I.bare, ⟨fun b o e n hb hx => ?_, fun b o e n hb hx => ?_, I.base.free, fun b o e hx => ?_, I.base.tups, I.base.frzs, I.base.tbls⟩, ⟨_, hn', fun j y v' e1 e2 e3 => ?_⟩, fun y c e => ?_, I.free, I.freeC, fun p hp => ?_, tracked ⟨oL, hoL, I.free⟩ hs, by simpa using I.len⟩ ⟨_, hs, .inl rfl⟩
    · exact (hs.2 b (Nat.ne_of_lt (Nat.lt_of_lt_of_le (Heap.lt_size e) I.ok.above))).trans (I.base.keep b o e n hb hx)
    · obtain ⟨sl, e1⟩ := I.base.slot b o e n hb hx
      exact ⟨sl, (hs.2 b (Nat.ne_of_lt (Nat.lt_of_lt_of_le (Heap.lt_size e) I.ok.above))).trans e1⟩
    · obtain ⟨o', e1⟩ := I.base.there b o e hx
      exact ⟨o', (hs.2 b (Nat.ne_of_lt (Nat.lt_of_lt_of_le (Heap.lt_size e) I.ok.above))).trans e1⟩
    · by_cases hj : j = i
      · subst hj
        rw [hi] at e1; cases e1
        rw [List.getElem?_set_self hiσ] at e2
        cases e2
        exact ⟨u, r, .inl ⟨hk, by simp⟩⟩
      · rw [List.getElem?_set_ne (Ne.symm hj)] at e2
        obtain ⟨u', r', q⟩ := hl j y v' e1 e2 e3
        refine ⟨u', r', ?_⟩
        rcases q with ⟨k, e⟩ | ⟨k, c, e, z⟩
        · refine .inl ⟨k, ?_⟩
          have : y ≠ x := fun e => hj (nodup_ix hN e1 (e ▸ hi))
          simp [this, e]
        · exact .inr ⟨k, c, e, z.sameBut hs (cne y c e)⟩
    · obtain ⟨w', z⟩ := I.cell y c e
      exact ⟨w', z.sameBut hs (cne y c e)⟩
    · obtain ⟨e, n, ne, nf, d⟩ := I.pin p hp
      exact ⟨(hs.2 p.1 ne).trans e, n, ne, nf, d⟩
  · have hfn : X.fn x = true := by
      rcases hf with z | z
      · exact z
      · rw [z] at hk; cases hk
    obtain ⟨c, hc⟩ := I.ok.has x (.inl hk)
    obtain ⟨w', z⟩ := I.cell x c hc
    refine wpAny_storeName_cell I.ok.kind hk hc z (fun h' hc' hs => ?_)
    obtain ⟨oc, hoc, hocd⟩ := id z
    refine h { s with heap := h' } ⟨I.ok, I.os, I.bare, ⟨fun b o e n hb hx => ?_, fun b o e n hb hx => ?_, I.base.free, fun b o e hx => ?_, I.base.tups, I.base.frzs, I.base.tbls⟩, ⟨m, hn.sameBut hs (Ne.symm (cne x c hc)), fun j y v' e1 e2 e3 => ?_⟩, fun y c' e => ?_, I.free, I.freeC, fun p hp => ?_, tracked ⟨oc, hoc, I.freeC x c hc⟩ hs, by simpa using I.len⟩ ⟨c, hs, .inr hc⟩
    · exact (hs.2 b (Nat.ne_of_lt (Nat.lt_of_lt_of_le (Heap.lt_size e) (I.ok.cab x c hfn hc)))).trans (I.base.keep b o e n hb hx)
    · obtain ⟨sl, e1⟩ := I.base.slot b o e n hb hx
      exact ⟨sl, (hs.2 b (Nat.ne_of_lt (Nat.lt_of_lt_of_le (Heap.lt_size e) (I.ok.cab x c hfn hc)))).trans e1⟩
    · obtain ⟨o', e1⟩ := I.base.there b o e hx
      exact ⟨o', (hs.2 b (Nat.ne_of_lt (Nat.lt_of_lt_of_le (Heap.lt_size e) (I.ok.cab x c hfn hc)))).trans e1⟩
    · by_cases hj : j = i
      · subst hj
        rw [hi] at e1; cases e1
        rw [List.getElem?_set_self hiσ] at e2
        cases e2
        exact ⟨u, r, .inr ⟨.inl hk, c, hc, hc'⟩⟩
      · rw [List.getElem?_set_ne (Ne.symm hj)] at e2
        obtain ⟨u', r', q⟩ := hl j y v' e1 e2 e3
        refine ⟨u', r', ?_⟩
        rcases q with q | ⟨k, c', e, z'⟩
        · exact .inl q
        · refine .inr ⟨k, c', e, z'.sameBut hs ?_⟩
          rintro rfl
          exact hj (nodup_ix hN e1 (I.ok.inj _ _ _ e hc ▸ hi))
    · by_cases hcc : c' = c
      · subst hcc; exact ⟨_, hc'⟩
      · obtain ⟨w2, z2⟩ := I.cell y c' e
        exact ⟨w2, z2.sameBut hs hcc⟩
    · obtain ⟨e, n, ne, nf, d⟩ := I.pin p hp
      refine ⟨(hs.2 p.1 ?_).trans e, n, ne, nf, d⟩
      intro q
      rw [q, hoc] at e
      have q' : oc = p.2 := Option.some.inj e
      exact d w' (by rw [← q']; exact hocd)
theorem store_ok {M : Model} {A : Around} {E : Value → Shared → Prop} {i : Nat} {x : Str} {v : V} {u : Value} {Q : Unit → Shared → Prop} (I : Inv X pins σ H s) (hN : X.N.Nodup) (hi : X.N[i]? = some x) (hx : Loc X.env.scope x) (r : RelV v u)
    (h : ∀ s', Inv X pins (σ.set i (some v)) H s' → Q () s') (hf : X.fn x = true ∨ X.env.scope.names.lookup x = some .local := by first | exact .inl rfl | exact .inr rfl | assumption) : wpAny M A (storeName X.env x u) Q E s :=
  store_ok2 I hN hi hx r (fun s' I' _ => h s' I') hf
theorem Inv.call' {s' : Shared} {ch : List Addr} (I : Inv X pins σ H s) (ho : s'.os = s.os) (u : Un (frs X.stack) ch H H' s.heap s'.heap) (hok : HOk X.prog X.w H' s'.heap) (hg : AllBare s'.gens)
    (hch : ∀ b ∈ ch, (b ∈ X.ex ∨ X.s₀.heap.objs.size ≤ b) ∧ b ≠ X.env.locals ∧ (∀ x c, X.env.cells.lookup x = some c → c ≠ b) ∧ ∀ p ∈ X.pn ++ pins, p.1 ≠ b) : Inv X pins σ H' s' := by
  obtain ⟨h', g', d', t', o'⟩ := s'
  have e : o' = s.os := ho
  subst e
  exact I.call (g' := g') (t' := t') (d' := d') u hok hg hch
end
abbrev XK := Value → Option Addr → Hp → Prop
abbrev St := List (Option V)
abbrev VK := V → Hp → Prop
abbrev TE := St → Hp → VK → Prop
abbrev TT := St → Hp → (Bool → Hp → Prop) → Prop
abbrev TA := St → Hp → (List V → Hp → Prop) → Prop
structure Ends where
  nx : St → Hp → Prop
  rt : VK
  bk : St → Hp → Prop := fun _ _ => False
  ct : St → Hp → Prop := fun _ _ => False
abbrev TS := Ends → St → Hp → Prop
def EP (X : Cx) (pins : List (Addr × Obj)) (σ : St) (Q : VK) (u : Value) (s' : Shared) : Prop := ∃ v H', Inv X pins σ H' s' ∧ RelV v u ∧ Q v H'
def TP (X : Cx) (pins : List (Addr × Obj)) (σ : St) (Q : Bool → Hp → Prop) (b : Bool) (s' : Shared) : Prop := ∃ H', Inv X pins σ H' s' ∧ Q b H'
def AP (X : Cx) (pins : List (Addr × Obj)) (σ : St) (Q : List V → Hp → Prop) (us : List Value) (s' : Shared) : Prop := ∃ vs H', Inv X pins σ H' s' ∧ Vals vs us ∧ Q vs H'
def SP (X : Cx) (pins : List (Addr × Obj)) (D : Ends) (f : Flow) (s' : Shared) : Prop :=
  match f with
  | .next => ∃ σ' H', Inv X pins σ' H' s' ∧ D.nx σ' H'
  | .brk => ∃ σ' H', Inv X pins σ' H' s' ∧ D.bk σ' H'
  | .cont => ∃ σ' H', Inv X pins σ' H' s' ∧ D.ct σ' H'
  | .ret u => ∃ v σ' H', Inv X pins σ' H' s' ∧ RelV v u ∧ D.rt v H'
def PE (X : Cx) (e : Expr) (t : TE) : Prop :=
  ∀ (pins : List (Addr × Obj)) (s : Shared) (σ : St) (H : Hp) (Q : VK), Inv X pins σ H s → t σ H Q → wpAny (model X.prog X.w) X.A (eval e X.env) (EP X pins σ Q) X.xe s
def PT (X : Cx) (e : Expr) (t : TT) : Prop :=
  ∀ (pins : List (Addr × Obj)) (s : Shared) (σ : St) (H : Hp) (Q : Bool → Hp → Prop), Inv X pins σ H s → t σ H Q → wpAny (model X.prog X.w) X.A (isTrue e X.env (eval e X.env)) (TP X pins σ Q) X.xe s
def PW (X : Cx) (e : Expr) (t : TT) : Prop :=
  ∀ (whole : Sem Value) (pins : List (Addr × Obj)) (s : Shared) (σ : St) (H : Hp) (Q : Bool → Hp → Prop), Inv X pins σ H s → t σ H Q → wpAny (model X.prog X.w) X.A (isTrue e X.env whole) (TP X pins σ Q) X.xe s
theorem PW.pt {X : Cx} {e : Expr} {t : TT} (h : PW X e t) : PT X e t := h _
def PA (X : Cx) (es : List Expr) (t : TA) : Prop :=
  ∀ (pos : Pos) (pins : List (Addr × Obj)) (s : Shared) (σ : St) (H : Hp) (Q : List V → Hp → Prop), Inv X pins σ H s → t σ H Q → wpAny (model X.prog X.w) X.A (spliced (backTo pos (starEach es X.env))) (AP X pins σ Q) X.xe s
def PS (X : Cx) (st : Stmt) (t : TS) : Prop :=
  ∀ (pins : List (Addr × Obj)) (s : Shared) (σ : St) (H : Hp) (D : Ends), Inv X pins σ H s → t D σ H → wpAny (model X.prog X.w) X.A (exec st X.env) (SP X pins D) X.xe s
def PSs (X : Cx) (st : List Stmt) (t : TS) : Prop :=
  ∀ (pins : List (Addr × Obj)) (s : Shared) (σ : St) (H : Hp) (D : Ends), Inv X pins σ H s → t D σ H → wpAny (model X.prog X.w) X.A (execs st X.env) (SP X pins D) X.xe s
theorem thn {α : Type} {t : Sem α} {Q Q' : α → Shared → Prop} {M : Model} {A : Around} {E : Value → Shared → Prop} {s : Shared} (h : wpAny M A t Q E s) (hQ : ∀ a s, Q a s → Q' a s) : wpAny M A t Q' E s := wpAny_mono h hQ fun _ _ x => x
end L2
namespace L2
open PySem PySem.Spec PyProof.Rows
section
variable {X : Cx}
theorem bin {a b : Expr} {ta tb : TE} (ha : PE X a ta) (hb : PE X b tb) {pins : List (Addr × Obj)} {s : Shared} {σ : St} {H : Hp} {R : V → V → Hp → Prop} (I : Inv X pins σ H s) (h : ta σ H fun x H1 => tb σ H1 fun y H2 => R x y H2)
    {α : Type} {Q : α → Shared → Prop} {f : Value → Value → Sem α}
    (hf : ∀ v u s2 x y H2, Inv X pins σ H2 s2 → RelV x v → RelV y u → R x y H2 → wpAny (model X.prog X.w) X.A (f v u) Q X.xe s2) :
    wpAny (model X.prog X.w) X.A (eval a X.env) (fun v s₁ => wpAny (model X.prog X.w) X.A (eval b X.env) (fun u s₂ => wpAny (model X.prog X.w) X.A (f v u) Q X.xe s₂) X.xe s₁) X.xe s := by
  refine thn (ha pins s σ H _ I h) fun v s1 ⟨x, H1, I1, r1, q1⟩ => ?_
  refine thn (hb pins s1 σ H1 _ I1 q1) fun u s2 ⟨y, H2, I2, r2, q2⟩ => ?_
  exact hf v u s2 x y H2 I2 r1 r2 q2
def tVar (i : Nat) : TE := fun σ H Q => ∃ v, σ[i]? = some (some v) ∧ Q v H
def tC (v : V) : TE := fun _ H Q => Q v H
theorem pe_var {i : Nat} {x : Str} {pos : Pos} (hN : X.N[i]? = some x) (hv : Vis X.env.scope x) (hd : (x == ("__debug__" : Str)) = false := by decide) (hcd : (x == ("__classdict__" : Str)) = false := by decide) : PE X (.Name x pos) (tVar i) := by
  intro pins s σ H Q I h
  obtain ⟨v, e, h⟩ := h
  obtain ⟨m, hn, hl⟩ := I.loc
  obtain ⟨u, r, l⟩ := hl i x v hN e hv
  have fin : EP X pins σ Q u s := ⟨v, H, I, r, h⟩
  rcases l with ⟨hk, hm⟩ | ⟨hk, c, hc, hcell⟩
  · exact wpAny_Name (wpAny_loadName_local I.ok.kind hk hn hm fin) hd
  · rcases hk with hk | hk
    · exact wpAny_Name (wpAny_loadName_cell I.ok.kind hk hc hcell fin) hd
    · exact wpAny_Name (wpAny_loadName_free I.ok.kind hk hc hcell fin hcd) hd
theorem pe_int {i j pos} : PE X (.Constant (.int i) j pos) (tC (.int i)) := fun _ _ _ H _ I h => wpAny_Constant_int ⟨.int i, H, I.tok _, ⟨_, rfl⟩, h⟩
theorem pe_bl {b j pos} : PE X (.Constant (.bool b) j pos) (tC (.bl b)) := fun _ _ _ H _ I h => Constant_bool ⟨.bl b, H, I, rfl, h⟩
theorem pe_non {j pos} : PE X (.Constant .none j pos) (tC .non) := fun _ _ _ H _ I h => Constant_none ⟨.non, H, I, rfl, h⟩
theorem pe_str {x j pos} : PE X (.Constant (.str x) j pos) (tC (.str x)) := fun _ _ _ H _ I h => Calls.Constant_str ⟨.str x, H, I.tok _, ⟨_, rfl⟩, h⟩
def Gl (X : Cx) (x : Str) : Prop := X.env.kindOf x = some .globalImplicit
theorem ld_glob {E : Value → Shared → Prop} {pins : List (Addr × Obj)} {s : Shared} {σ : St} {H : Hp} {x : Str} {u : Value} {pos : Pos} {Q : Value → Shared → Prop} (I : Inv X pins σ H s) (hg : Gl X x) (hm : X.mg x = some u) (h : Q u s)
    (hd : (x == ("__debug__" : Str)) = false := by decide) : wpAny (model X.prog X.w) X.A (eval (.Name x pos) X.env) Q E s :=
  Calls.Name_function_global I.ok.kind hg (Calls.loadGlobal_global (by rw [I.ok.glob]; exact I.mod.glob.keeps I.bk) hm h) hd
theorem ld_blt {E : Value → Shared → Prop} {pins : List (Addr × Obj)} {s : Shared} {σ : St} {H : Hp} {x : Str} {u : Value} {pos : Pos} {Q : Value → Shared → Prop} (I : Inv X pins σ H s) (hg : Gl X x) (hm : X.mg x = none) (hv : bootBuiltins x = some u) (h : Q u s)
    (hn : x ≠ "__name__" := by decide) (hd : (x == ("__debug__" : Str)) = false := by decide) : wpAny (model X.prog X.w) X.A (eval (.Name x pos) X.env) Q E s := by
  obtain ⟨mb, h1, h2⟩ := I.mod.blt
  exact Calls.Name_function_global I.ok.kind hg (Calls.loadGlobal_builtin (by rw [I.ok.glob]; exact I.mod.glob.keeps I.bk) hm (by rw [I.ok.blt]; exact h1.keeps I.bk) ((h2 x hn).trans hv) h) hd
theorem pe_glob {x : Str} {v : V} {u : Value} {pos : Pos} (hg : Gl X x) (hm : X.mg x = some u) (r : RelV v u) (hd : (x == ("__debug__" : Str)) = false := by decide) : PE X (.Name x pos) (tC v) :=
  fun _ _ _ H _ I h => ld_glob I hg hm ⟨v, H, I, r, h⟩ hd
theorem pe_bltn {x : Str} {v : V} {u : Value} {pos : Pos} (hg : Gl X x) (hm : X.mg x = none) (hv : bootBuiltins x = some u) (r : RelV v u) (hn : x ≠ "__name__" := by decide) (hd : (x == ("__debug__" : Str)) = false := by decide) : PE X (.Name x pos) (tC v) :=
  fun _ _ _ H _ I h => ld_blt I hg hm hv ⟨v, H, I, r, h⟩ hn hd
variable {a b : Expr} {ta tb : TE} {pos : Pos}
def PC (X : Cx) (op : CmpOp) (a b : Expr) (t : TE) : Prop :=
  ∀ (pins : List (Addr × Obj)) (s : Shared) (σ : St) (H : Hp) (Q : VK), Inv X pins σ H s → t σ H Q →
    wpAny (model X.prog X.w) X.A (eval a X.env) (fun v s₁ => wpAny (model X.prog X.w) X.A (eval b X.env) (fun u s₂ => wpAny (model X.prog X.w) X.A (compareOp op v u) (EP X pins σ Q) X.xe s₂) X.xe s₁) X.xe s
def tB (t : TE) : TT := fun σ H Q => t σ H fun x H1 => ∃ c, x = .bl c ∧ Q c H1
theorem pt_cmp {op : CmpOp} {t : TE} (h : PC X op a b t) (h1 : behindInMarks op b = false := by first | exact nobehind _ (by decide) (by decide) | rfl) : PT X (.Compare a [op] [b] pos) (tB t) := by
  intro pins s σ H Q I hw
  refine wpAny_isTrue_Compare1 (thn (h pins s σ H _ I hw) fun v s1 h1 => thn h1 fun u s2 h2 => thn h2 fun c s3 ⟨x, H1, I1, r1, q1⟩ => ?_) h1
  obtain ⟨d, rfl, q⟩ := q1
  cases r1
  exact wpAny_truthy_bool ⟨H1, I1, q⟩
theorem pt_val {e : Expr} {t : TE} (h : PE X e t) (he : ∀ whole, isTrue e X.env whole = (do let v ← whole; standAt e.pos; holding [v] (truthy v)) := by intro _; rfl) : PT X e (tB t) := by
  intro pins s σ H Q I hw
  refine isTrue_plain (thn (h pins s σ H _ I hw) fun v s1 ⟨x, H1, I1, r1, q1⟩ => ?_) (he _)
  obtain ⟨d, rfl, q⟩ := q1
  cases r1
  exact wpAny_truthy_bool ⟨H1, I1, q⟩
variable {tA tB' : TT} {rest : List Expr}
def tAnd (t u : TT) : TT := fun σ H Q => t σ H fun c H1 => if c = true then u σ H1 Q else Q false H1
def tOr (t u : TT) : TT := fun σ H Q => t σ H fun c H1 => if c = true then Q true H1 else u σ H1 Q
def tNot (t : TT) : TT := fun σ H Q => t σ H fun c H1 => Q (!c) H1
theorem pw_and1 (ha : PT X a tA) : PW X (.BoolOp .And [a] pos) tA := by
  intro wh pins s σ H Q I h
  refine isTrue_and (thn (ha pins s σ H Q I h) fun c s1 e => ?_)
  cases c with
  | true => exact isTrue_and_nil e
  | false => exact e
theorem pw_or1 (ha : PT X a tA) : PW X (.BoolOp .Or [a] pos) tA := by
  intro wh pins s σ H Q I h
  refine isTrue_or (thn (ha pins s σ H Q I h) fun c s1 e => ?_)
  cases c with
  | false => exact isTrue_or_nil e
  | true => exact e
theorem pw_and (ha : PT X a tA) (hb : PW X (.BoolOp .And (b :: rest) pos) tB') : PW X (.BoolOp .And (a :: b :: rest) pos) (tAnd tA tB') := by
  intro wh pins s σ H Q I h
  refine isTrue_and (thn (ha pins s σ H _ I h) fun c s1 ⟨H1, I1, q1⟩ => ?_)
  cases c with
  | true => exact hb wh pins s1 σ H1 Q I1 q1
  | false => exact ⟨H1, I1, q1⟩
theorem pw_or (ha : PT X a tA) (hb : PW X (.BoolOp .Or (b :: rest) pos) tB') : PW X (.BoolOp .Or (a :: b :: rest) pos) (tOr tA tB') := by
  intro wh pins s σ H Q I h
  refine isTrue_or (thn (ha pins s σ H _ I h) fun c s1 ⟨H1, I1, q1⟩ => ?_)
  cases c with
  | true => exact ⟨H1, I1, q1⟩
  | false => exact hb wh pins s1 σ H1 Q I1 q1
theorem pt_not (ha : PT X a tA) : PT X (.UnaryOp .Not a pos) (tNot tA) := by
  intro pins s σ H Q I h
  exact isTrue_not (ha pins s σ H (fun c H1 => Q (!c) H1) I h)
def tAndV (ta tb : TE) : TE := fun σ H Q => ta σ H fun x H1 => ∃ c, x = .bl c ∧ if c = true then tb σ H1 Q else Q (.bl false) H1
def tNotV (ta : TE) : TE := fun σ H Q => ta σ H fun x H1 => ∃ c, x = .bl c ∧ Q (.bl (!c)) H1
theorem pe_one {op} {t : TE} (h : PE X a t) : PE X (.BoolOp op [a] pos) t := fun pins s σ H Q I hw => BoolOp_one (h pins s σ H Q I hw)
theorem pe_and (ha : PE X a ta) (hb : PE X (.BoolOp .And (b :: rest) pos) tb) : PE X (.BoolOp .And (a :: b :: rest) pos) (tAndV ta tb) := by
  intro pins s σ H Q I h
  refine BoolOp_and (thn (ha pins s σ H _ I h) fun v s1 ⟨x, H1, I1, r1, q1⟩ => ?_)
  obtain ⟨c, rfl, q1⟩ := q1
  cases r1
  refine wpAny_truthy_bool ?_
  cases c with
  | true => exact hb pins s1 σ H1 Q I1 q1
  | false => exact ⟨.bl false, H1, I1, rfl, q1⟩
theorem pe_not (ha : PE X a ta) : PE X (.UnaryOp .Not a pos) (tNotV ta) := by
  intro pins s σ H Q I h
  refine UnaryOp_ (thn (ha pins s σ H _ I h) fun v s1 ⟨x, H1, I1, r1, q1⟩ => ?_)
  obtain ⟨c, rfl, q1⟩ := q1
  cases r1
  exact not_of (wpAny_truthy_bool ⟨.bl (!c), H1, I1, rfl, q1⟩)
end
end L2
namespace L2
open PySem PySem.Spec PyProof.Rows
def SqL (K : PySem.W.Frag) (H : Hp) (a : Addr) (xs : List V) : Prop :=
  Rd H a (.lst xs) ∨
    ∃ (o : Obj) (its : Array Value) (n : Nat), K.lookup a = some o ∧ o.cls = .type "list" ∧ o.dict = none ∧ o.data = .seq its n ∧ its.size ≤ sizeLine ∧ Vals xs its.toList
def SqT (K : PySem.W.Frag) (H : Hp) (a : Addr) (xs : List V) : Prop :=
  Rd H a (.tup xs) ∨
    ∃ (o : Obj) (its : Array Value) (n : Nat), K.lookup a = some o ∧ o.cls = .type "tuple" ∧ o.data = .seq its n ∧ its.size ≤ sizeLine ∧ Vals xs its.toList
def absV : Value → Option V
  | .none => some .non
  | .bool b => some (.bl b)
  | .int i _ => some (.int i)
  | .str x _ => some (.str x)
  | .bytes b _ => some (.byt b)
  | .float b _ => some (.flt b)
  | .ref a => some (.ref a)
  | .type n => some (.ty n)
  | _ => none
theorem RelV.abs {x : V} {u : Value} (r : RelV x u) : absV u = some x := by
  cases x with
  | non => cases r; rfl
  | bl _ => cases r; rfl
  | int _ => obtain ⟨t, rfl⟩ := r; rfl
  | str _ => obtain ⟨t, rfl⟩ := r; rfl
  | byt _ => obtain ⟨t, rfl⟩ := r; rfl
  | flt _ => obtain ⟨t, rfl⟩ := r; rfl
  | ref _ => cases r; rfl
  | ty _ => cases r; rfl
theorem RelV.inj {x y : V} {u : Value} (r : RelV x u) (q : RelV y u) : x = y := Option.some.inj (r.abs.symm.trans q.abs)
theorem Vals.inj : ∀ {xs ys : List V} {us : List Value}, Vals xs us → Vals ys us → xs = ys
  | _, _, _, .nil, .nil => rfl
  | _, _, _, .cons r t, .cons r' t' => by rw [r.inj r', Vals.inj t t']
section
variable {X : Cx} {pins : List (Addr × Obj)} {σ : St} {H : Hp} {s : Shared} {a : Addr} {xs ys : List V}
theorem SqL.of {K : PySem.W.Frag} (h : H a = some (.lst xs)) : SqL K H a xs := .inl (.inl h)
theorem SqT.of {K : PySem.W.Frag} (h : H a = some (.tup xs)) : SqT K H a xs := .inl (.inl h)
theorem Inv.list (I : Inv X pins σ H s) (h : SqL X.K H a xs) : ∃ its : List Value, Vals xs its ∧ PlainL s.heap a its.toArray ∧ xs.length ≤ sizeLine := by
  rcases h with h | ⟨o, its, n, hk, hc, hd, hs, hz, r⟩
  · obtain ⟨z, its, n, r, e⟩ := h.ok I.hok
    exact ⟨its, r, ⟨_, n, e, rfl, rfl, rfl⟩, z⟩
  · refine ⟨its.toList, r, ⟨o, n, I.kIn a o hk, hc, hd, by simpa using hs⟩, ?_⟩
    have e := r.length
    simp only [Array.length_toList] at e
    omega
theorem Inv.tuple (I : Inv X pins σ H s) (h : SqT X.K H a xs) : ∃ its : List Value, Vals xs its ∧ IsTup s.heap a its.toArray ∧ xs.length ≤ sizeLine := by
  rcases h with h | ⟨o, its, n, hk, hc, hs, hz, r⟩
  · obtain ⟨z, its, r, p⟩ := h.ok I.hok
    exact ⟨its, r, p, z⟩
  · refine ⟨its.toList, r, ⟨o, I.kIn a o hk, hc, n, by simpa using hs⟩, ?_⟩
    have e := r.length
    simp only [Array.length_toList] at e
    omega
theorem Inv.list_inj (I : Inv X pins σ H s) (h : SqL X.K H a xs) (h' : SqL X.K H a ys) : xs = ys := by
  obtain ⟨its, r, ⟨o, n, e, _, _, d⟩, _⟩ := I.list h
  obtain ⟨its', r', ⟨o', n', e', _, _, d'⟩, _⟩ := I.list h'
  rw [e] at e'; cases e'
  rw [d] at d'
  injection d' with d1 _
  have : its = its' := by simpa using congrArg Array.toList d1
  subst this
  exact r.inj r'
theorem Inv.tuple_inj (I : Inv X pins σ H s) (h : SqT X.K H a xs) (h' : SqT X.K H a ys) : xs = ys := by
  obtain ⟨its, r, ⟨o, e, _, n, d⟩, _⟩ := I.tuple h
  obtain ⟨its', r', ⟨o', e', _, n', d'⟩, _⟩ := I.tuple h'
  rw [e] at e'; cases e'
  rw [d] at d'
  injection d' with d1 _
  have : its = its' := by simpa using congrArg Array.toList d1
  subst this
  exact r.inj r'
end
abbrev Cx.wish (X : Cx) (E : Value → Shared → Prop) : Cx := { X with xe := E }
abbrev Cx.nox (X : Cx) : Cx := X.wish fun _ _ => False
theorem Cx.Ok.wish {X : Cx} (ok : X.Ok) (E : Value → Shared → Prop) : (X.wish E).Ok :=
  ⟨ok.mod, ok.kind, ok.glob, ok.blt, ok.above, ok.inj, ok.has, ok.cab, ok.hd, ok.frames, ok.stk, ok.exf, ok.bs, ok.bsz, ok.noex, ok.exfs, ok.funs, ok.frf⟩
theorem Cx.Ok.unwish {X : Cx} {E : Value → Shared → Prop} (ok : (X.wish E).Ok) : X.Ok :=
  ⟨ok.mod, ok.kind, ok.glob, ok.blt, ok.above, ok.inj, ok.has, ok.cab, ok.hd, ok.frames, ok.stk, ok.exf, ok.bs, ok.bsz, ok.noex, ok.exfs, ok.funs, ok.frf⟩
section
variable {X : Cx} {pins : List (Addr × Obj)} {σ : St} {H : Hp} {s : Shared} {E : Value → Shared → Prop}
theorem Inv.wish (I : Inv X pins σ H s) (E : Value → Shared → Prop) : Inv (X.wish E) pins σ H s := ⟨I.ok.wish E, I.os, I.bare, I.base, I.loc, I.cell, I.free, I.freeC, I.pin, I.hok, I.len⟩
theorem Inv.unwish (I : Inv (X.wish E) pins σ H s) : Inv X pins σ H s := ⟨I.ok.unwish, I.os, I.bare, I.base, I.loc, I.cell, I.free, I.freeC, I.pin, I.hok, I.len⟩
theorem SP.unwish {D : Ends} {f : Flow} {s' : Shared} (h : SP (X.wish E) pins D f s') : SP X pins D f s' := by
  cases f with
  | next => obtain ⟨σ', H', I, q⟩ := h; exact ⟨σ', H', I.unwish, q⟩
  | brk => obtain ⟨σ', H', I, q⟩ := h; exact ⟨σ', H', I.unwish, q⟩
  | cont => obtain ⟨σ', H', I, q⟩ := h; exact ⟨σ', H', I.unwish, q⟩
  | ret u => obtain ⟨v, σ', H', I, r, q⟩ := h; exact ⟨v, σ', H', I.unwish, r, q⟩
theorem PSs.nox {st : List Stmt} {t : TS} (h : PSs X.nox st t) : PSs X st t := fun pins s σ H D I hw =>
  wpAny_mono (h pins s σ H D (I.wish _) hw) (fun _ _ q => q.unwish) fun _ _ z => False.elim z
end
section
variable {X : Cx} {st : Stmt} {rest : List Stmt} {t u : TS} {e : Expr} {te : TE} {pos : Pos}
def tNext : TS := fun D σ H => D.nx σ H
def tSeq (t u : TS) : TS := fun D σ H => t { D with nx := u D } σ H
theorem pss_nil : PSs X [] tNext := fun _ _ σ H _ I h => wpAny_execs_nil ⟨σ, H, I, h⟩
theorem pss_cons (h1 : PS X st t) (h2 : PSs X rest u) : PSs X (st :: rest) (tSeq t u) := by
  intro pins s σ H D I h
  refine wpAny_execs_cons (thn (h1 pins s σ H { D with nx := u D } I h) fun f s1 q => ?_)
  cases f with
  | next =>
    obtain ⟨σ', H', I', q⟩ := q
    exact h2 pins s1 σ' H' D I' q
  | ret v => exact q
  | brk => exact q
  | cont => exact q
theorem pss_one (h1 : PS X st t) : PSs X [st] t := by
  intro pins s σ H D I h
  refine wpAny_execs_cons (thn (h1 pins s σ H D I h) fun f s1 q => ?_)
  cases f with
  | next => exact wpAny_execs_nil q
  | ret v => exact q
  | brk => exact q
  | cont => exact q
theorem Inv.quiet {pins : List (Addr × Obj)} {σ : St} {H : Hp} {s : Shared} (I : Inv X pins σ H s) : interactive X.env = false := by simp [interactive, I.ok.kind]
def tDrop (te : TE) : TS := fun D σ H => te σ H fun _ H1 => D.nx σ H1
theorem ps_expr (he : PE X e te) (hs : swapsWith e none pos.line X.env = pure false := by rfl) : PS X (.Expr e pos) (tDrop te) := by
  intro pins s σ H D I h
  exact wpAny_Expr_any (thn (he pins s σ H _ I h) fun v s1 ⟨x, H1, I1, r1, q1⟩ => ⟨σ, H1, I1, q1⟩) I.quiet hs
def tRet (te : TE) : TS := fun D σ H => te σ H D.rt
theorem ps_ret (he : PE X e te) : PS X (.Return (some e) pos) (tRet te) := by
  intro pins s σ H D I h
  exact wpAny_Return_some (thn (he pins s σ H _ I h) fun v s1 ⟨x, H1, I1, r1, q1⟩ => ⟨x, σ, H1, I1, r1, q1⟩)
def tIfS (c : TT) (t u : TS) : TS := fun D σ H => c σ H fun b H1 => if b = true then t D σ H1 else u D σ H1
theorem ps_if {c : Expr} {a b : List Stmt} {tc : TT} (hc : PT X c tc) (ha : PSs X a t) (hb : PSs X b u) : PS X (.If c a b pos) (tIfS tc t u) := by
  intro pins s σ H D I h
  refine wpAny_If (thn (hc pins s σ H _ I h) fun d s1 ⟨H1, I1, q1⟩ => ?_)
  cases d with
  | true => exact ha pins s1 σ H1 D I1 q1
  | false => exact hb pins s1 σ H1 D I1 q1
end
abbrev TG := V → St → Hp → (St → Hp → Prop) → Prop
abbrev TGs := List V → St → Hp → (St → Hp → Prop) → Prop
def PG (X : Cx) (target : Expr) (t : TG) : Prop :=
  ∀ (pins : List (Addr × Obj)) (s : Shared) (σ : St) (H : Hp) (v : V) (u : Value) (Q : St → Hp → Prop), Inv X pins σ H s → RelV v u → t v σ H Q →
    wpAny (model X.prog X.w) X.A (assign target X.env u) (fun _ s' => ∃ σ' H', Inv X pins σ' H' s' ∧ Q σ' H') X.xe s
def PGs (X : Cx) (ts : List Expr) (t : TGs) : Prop :=
  ∀ (pins : List (Addr × Obj)) (s : Shared) (σ : St) (H : Hp) (vs : List V) (us : List Value) (Q : St → Hp → Prop), Inv X pins σ H s → Vals vs us → t vs σ H Q →
    wpAny (model X.prog X.w) X.A (assignInOrder ((assignEach ts X.env).map (·.2)) us) (fun _ s' => ∃ σ' H', Inv X pins σ' H' s' ∧ Q σ' H') X.xe s
abbrev TSet := V → V → V → Hp → (Hp → Prop) → Prop
def PSet (X : Cx) (t : TSet) : Prop :=
  ∀ (pins : List (Addr × Obj)) (s : Shared) (σ : St) (H : Hp) (o i v : V) (ov iv u : Value) (Q : Hp → Prop), Inv X pins σ H s → RelV o ov → RelV i iv → RelV v u → t o i v H Q →
    wpAny (model X.prog X.w) X.A (setItem ov iv u) (fun _ s' => ∃ H', Inv X pins σ H' s' ∧ Q H') X.xe s
abbrev TIp := V → V → Hp → VK → Prop
def PIp (X : Cx) (op : Operator) (t : TIp) : Prop :=
  ∀ (pins : List (Addr × Obj)) (s : Shared) (σ : St) (H : Hp) (x y : V) (v u : Value) (Q : VK), Inv X pins σ H s → RelV x v → RelV y u → t x y H Q →
    wpAny (model X.prog X.w) X.A (inplaceOp op v u) (EP X pins σ Q) X.xe s
section
variable {X : Cx} {pos : Pos}
def gName (i : Nat) : TG := fun v σ H Q => Q (σ.set i (some v)) H
theorem pg_name {i : Nat} {x : Str} (hN : X.N.Nodup) (hi : X.N[i]? = some x) (hx : Loc X.env.scope x) (hf : X.fn x = true ∨ X.env.scope.names.lookup x = some .local := by first | exact .inl rfl | exact .inr rfl | assumption) : PG X (.Name x pos) (gName i) := by
  intro pins s σ H v u Q I r h
  exact wpAny_assign_Name (store_ok I hN hi hx r (fun s' I' => ⟨_, H, I', h⟩) hf)
def gNil : TGs := fun vs σ H Q => vs = [] ∧ Q σ H
def gCons (t : TG) (u : TGs) : TGs := fun vs σ H Q => ∃ v r, vs = v :: r ∧ t v σ H fun σ' H' => u r σ' H' Q
theorem pgs_nil : PGs X [] gNil := by
  intro pins s σ H vs us Q I r h
  obtain ⟨e, h⟩ := h
  subst e
  cases r
  exact assignInOrder_nil ⟨σ, H, I, h⟩
theorem pgs_cons {e : Expr} {es : List Expr} {t : TG} {u : TGs} (h1 : PG X e t) (h2 : PGs X es u)
    (hs : (assignEach (e :: es) X.env).map (·.2) = assign e X.env :: (assignEach es X.env).map (·.2) := by rfl) : PGs X (e :: es) (gCons t u) := by
  intro pins s σ H vs us Q I r h
  obtain ⟨v, vr, e1, h⟩ := h
  subst e1
  cases r with
  | cons r rr =>
    rw [hs]
    refine assignInOrder_cons (thn (h1 pins s σ H _ _ _ I r h) fun _ s1 ⟨σ1, H1, I1, q1⟩ => ?_)
    exact h2 pins s1 σ1 H1 _ _ Q I1 rr q1
def gTup (K : PySem.W.Frag) (n : Nat) (t : TGs) : TG := fun v σ H Q => ∃ a xs, v = .ref a ∧ SqT K H a xs ∧ xs.length = n ∧ t xs σ H Q
theorem pg_tup {es : List Expr} {k : Nat} {t : TGs} {n : Nat} (hc : X.calm = true) (h : PGs X es t)
    (hn : (assignEach es X.env).length = n := by rfl) (hst : (assignEach es X.env).findIdx? (·.1) = none := by rfl) : PG X (.Tuple es k pos) (gTup X.K n t) := by
  intro pins s σ H v u Q I r hw
  obtain ⟨a, xs, e1, hq, hl, hw⟩ := hw
  subst e1
  cases r
  obtain ⟨its, rv, ht, hz⟩ := I.tuple hq
  refine assign_Tuple_tuple (I.ok.hd hc) ht (by simp [hn, ← hl, rv.length]) hst fun h' hx => ?_
  have I1 : Inv X pins σ H { s with heap := h' } := I.kept (t' := s.toks) fun b o e => hx b o (Nat.ne_of_lt (Heap.lt_size e)) e
  exact h pins _ σ H xs _ Q I1 (by simpa using rv) hw
def gSub (to ti : TE) (t : TSet) : TG := fun v σ H Q => to σ H fun o H1 => ti σ H1 fun i H2 => t o i v H2 fun H3 => Q σ H3
theorem pg_sub {o i : Expr} {to ti : TE} {t : TSet} (ho : PE X o to) (hi : PE X i ti) (hs : PSet X t)
    (ha : ∀ v, assign (.Subscript o i pos) X.env v = (do
      let ov ← holding [v] (eval o X.env)
      let iv ← holding [v, ov] (eval i X.env)
      standAt pos
      holding [v, ov, iv] (setItem ov iv v)
      release [v, ov, iv] []) := by intro _; rfl) : PG X (.Subscript o i pos) (gSub to ti t) := by
  intro pins s σ H v u Q I r h
  rw [ha]
  refine wpAny_bind (wpAny_holding (thn (ho pins s σ H _ I h) fun ov s1 ⟨x, H1, I1, r1, q1⟩ => ?_))
  refine wpAny_bind (wpAny_holding (thn (hi pins s1 σ H1 _ I1 q1) fun iv s2 ⟨y, H2, I2, r2, q2⟩ => ?_))
  refine wpAny_bind (wpAny_standAt (wpAny_bind (wpAny_holding (thn (hs pins s2 σ H2 x y v ov iv u _ I2 r1 r2 r q2) fun _ s3 ⟨H3, I3, q3⟩ => ?_))))
  exact wpAny_release ⟨σ, H3, I3, q3⟩
def tAsg (te : TE) (g : TG) : TS := fun D σ H => te σ H fun x H1 => g x σ H1 D.nx
theorem ps_asg {tg e : Expr} {te : TE} {g : TG} (he : PE X e te) (hg : PG X tg g) (hs : swapsWithSole [tg] e pos.line X.env = pure false := by rfl) (hw : swappedStores [tg] e X.env = pure none := by rfl)
    (h1 : (assignEach [tg] X.env).map (·.2) = [assign tg X.env] := by rfl) : PS X (.Assign [tg] e pos) (tAsg te g) := by
  intro pins s σ H D I h
  refine wpAny_Assign_stores (thn (he pins s σ H _ I h) fun v s1 ⟨x, H1, I1, r1, q1⟩ => ?_) hs hw
  rw [h1]
  exact thn (hg pins s1 σ H1 x v _ I1 r1 q1) fun _ s2 q => q
theorem ps_set {i : Nat} {x : Str} {e : Expr} {te : TE} {pos' : Pos} (hN : X.N.Nodup) (hi : X.N[i]? = some x) (hx : Loc X.env.scope x) (he : PE X e te) (hs : swapsWith e (some (.Name x pos')) pos.line X.env = pure false := by rfl) (hf : X.fn x = true ∨ X.env.scope.names.lookup x = some .local := by first | exact .inl rfl | exact .inr rfl | assumption) :
    PS X (.Assign [.Name x pos'] e pos) (tAsg te (gName i)) := by
  intro pins s σ H D I h
  refine wpAny_Assign_Name (thn (he pins s σ H _ I h) fun v s1 ⟨y, H1, I1, r1, q1⟩ => ?_) hs
  exact store_ok I1 hN hi hx r1 (fun s2 I2 => ⟨_, H1, I2, q1⟩) hf
def tAugS (to ti te : TE) (tget : V → V → Hp → VK → Prop) (tip : TIp) (tset : TSet) : TS := fun D σ H => to σ H fun o H1 => ti σ H1 fun i H2 => tget o i H2 fun x H3 => te σ H3 fun y H4 => tip x y H4 fun z H5 => tset o i z H5 fun H6 => D.nx σ H6
def PGet (X : Cx) (t : V → V → Hp → VK → Prop) : Prop :=
  ∀ (pins : List (Addr × Obj)) (s : Shared) (σ : St) (H : Hp) (o i : V) (ov iv : Value) (Q : VK), Inv X pins σ H s → RelV o ov → RelV i iv → t o i H Q →
    wpAny (model X.prog X.w) X.A (getItem ov iv) (EP X pins σ Q) X.xe s
theorem ps_augS {o i e : Expr} {to ti te : TE} {tget : V → V → Hp → VK → Prop} {tip : TIp} {tset : TSet} {op : Operator} {tpos : Pos} (ho : PE X o to) (hi : PE X i ti) (hg : PGet X tget) (he : PE X e te) (hp : PIp X op tip) (hs : PSet X tset)
    (ha : ∀ ov iv new, augStore i ov iv new = (do holding [new, ov, iv] (setItem ov iv new); release [new, ov, iv] []; pure .next) := by intros; rfl) : PS X (.AugAssign (.Subscript o i tpos) op e pos) (tAugS to ti te tget tip tset) := by
  intro pins s σ H D I h
  refine wpAny_AugAssign_SubscriptAny (thn (ho pins s σ H _ I h) fun ov s1 ⟨x1, H1, I1, r1, q1⟩ => ?_) ha
  refine thn (hi pins s1 σ H1 _ I1 q1) fun iv s2 ⟨x2, H2, I2, r2, q2⟩ => ?_
  refine thn (hg pins s2 σ H2 x1 x2 ov iv _ I2 r1 r2 q2) fun old s3 ⟨x3, H3, I3, r3, q3⟩ => ?_
  refine thn (he pins s3 σ H3 _ I3 q3) fun v s4 ⟨x4, H4, I4, r4, q4⟩ => ?_
  refine thn (hp pins s4 σ H4 x3 x4 old v _ I4 r3 r4 q4) fun new s5 ⟨x5, H5, I5, r5, q5⟩ => ?_
  exact thn (hs pins s5 σ H5 x1 x2 x5 ov iv new _ I5 r1 r2 r5 q5) fun _ s6 ⟨H6, I6, q6⟩ => ⟨σ, H6, I6, q6⟩
def ipI (f : Int → Int → Int) : TIp := fun x y H Q => ∃ i j, x = .int i ∧ y = .int j ∧ Q (.int (f i j)) H
theorem ip_add : PIp X .Add (ipI fun i j => i + j) := by
  intro pins s σ H x y v u Q I r1 r2 h
  obtain ⟨i, j, e1, e2, q⟩ := h
  subst e1; subst e2
  obtain ⟨t, rfl⟩ := r1
  obtain ⟨t', rfl⟩ := r2
  exact iadd_int ⟨.int _, H, I.tok _, ⟨_, rfl⟩, q⟩
end
section
variable {X : Cx} {pos : Pos}
def tWhile (c : TT) (tb : TS) : TS := fun D σ H => ∃ W : Nat → St → Hp → Prop, (∃ m, W m σ H) ∧ ∀ m σ H, W m σ H →
  c σ H fun b H1 => if b = true then ∃ N : St → Hp → Prop, (∀ σ' H', N σ' H' → ∃ m', m' < m ∧ W m' σ' H') ∧ tb { D with nx := N, ct := N, bk := D.nx } σ H1 else D.nx σ H1
theorem ps_while {c : Expr} {body : List Stmt} {tc : TT} {tb : TS} (hp : PassesOwn (model X.prog X.w) X.A X.env X.xe) (hc : PT X c tc) (hb : PSs X body tb) : PS X (.While c body [] pos) (tWhile tc tb) := by
  intro pins s σ H D I h
  obtain ⟨W, ⟨m0, w0⟩, turn⟩ := h
  refine wpAny_While (codeAny_whileLoop (fun n s' => ∃ σ' H', Inv X pins σ' H' s' ∧ W n σ' H') ?_ m0 ⟨σ, H, I, w0⟩)
  rintro n s1 ⟨σ1, H1, I1, w1⟩
  refine wpAny_passesOwn hp (thn (hc pins s1 σ1 H1 _ I1 (turn n σ1 H1 w1)) fun b s2 ⟨H2, I2, q2⟩ => ?_)
  cases b with
  | true =>
    obtain ⟨N, hN, q2⟩ := q2
    rw [if_pos rfl]
    refine wpAny_passesOwn hp (thn (hb pins s2 σ1 H2 _ I2 q2) fun f s3 q3 => ?_)
    cases f with
    | next =>
      obtain ⟨σ3, H3, I3, n3⟩ := q3
      obtain ⟨m', hm, w3⟩ := hN σ3 H3 n3
      exact ⟨m', hm, σ3, H3, I3, w3⟩
    | cont =>
      obtain ⟨σ3, H3, I3, n3⟩ := q3
      obtain ⟨m', hm, w3⟩ := hN σ3 H3 n3
      exact ⟨m', hm, σ3, H3, I3, w3⟩
    | brk => exact q3
    | ret v => exact q3
  | false =>
    rw [if_neg Bool.false_ne_true]
    exact wpAny_execs_nil ⟨σ1, H2, I2, q2⟩
end
structure It where
  go : Nat → Hp → Prop
  yld : Nat → Hp → V → Hp → Prop
  stop : Nat → Hp → Prop
def FpOk (X : Cx) (pins : List (Addr × Obj)) (H : Hp) (b : Addr) : Prop :=
  H b = none ∧ b ≠ X.env.locals ∧ b ∉ X.fs ∧ (b ∈ X.ex ∨ X.s₀.heap.objs.size ≤ b) ∧ (∀ x c, X.env.cells.lookup x = some c → c ≠ b) ∧ ∀ p ∈ X.pn ++ pins, p.1 ≠ b
theorem Inv.fpOk {X : Cx} {pins : List (Addr × Obj)} {σ : St} {H H' : Hp} {s : Shared} {b : Addr} (I : Inv X pins σ H s) (hb : s.heap.objs.size ≤ b) (hn : H' b = none) : FpOk X pins H' b := by
  refine ⟨hn, Nat.ne_of_gt (Nat.lt_of_lt_of_le I.lt hb), I.nofs hb, .inr (Nat.le_trans I.sz hb), fun x c e z => ?_, fun p hp z => ?_⟩
  · obtain ⟨v, q⟩ := I.cell x c e
    exact absurd (Nat.lt_of_lt_of_le q.lt (by rw [z]; exact hb)) (Nat.lt_irrefl _)
  · exact absurd (Nat.lt_of_lt_of_le (Heap.lt_size (I.pin p hp).1) (by rw [z]; exact hb)) (Nat.lt_irrefl _)
structure Turn (P : Program) (w : World) (K : PySem.W.Frag) (tg : Expr) (J : It) (fp : List Addr) (it : Addr) (tn : Nat → Heap → Prop) : Prop where
  mem : it ∈ fp
  obj : ∀ i h, tn i h → ∀ b ∈ fp, ∃ o, h.get? b = some o ∧ ∀ v, o.data ≠ .cell v
  keep : ∀ i h h', tn i h → (∀ b ∈ fp, ∀ o, h.get? b = some o → h'.get? b = some o) → tn i h'
  item : ∀ (X : Cx), X.prog = P → X.w = w → X.K = K → X.calm = true → ∀ (i : Nat) (pins : List (Addr × Obj)) (s : Shared) (σ : St) (H : Hp) (E : Value → Shared → Prop), Inv X pins σ H s → (∀ b ∈ fp, FpOk X pins H b) → tn i s.heap → J.go i H →
    wpAny (model P w) X.A (pyNext (.ref it)) (fun r s1 => ∃ u, r = some u ∧
      wpAny (model P w) X.A (letOwnedTupleGo tg (.ref it) u) (fun _ s2 => ∃ x H', Inv X pins σ H' s2 ∧ RelV x u ∧ J.yld i H x H' ∧ tn (i + 1) s2.heap ∧ ∀ b ∈ fp, H' b = none) E s1) E s
  done : ∀ (X : Cx), X.prog = P → X.w = w → X.K = K → X.calm = true → ∀ (i : Nat) (pins : List (Addr × Obj)) (s : Shared) (σ : St) (H : Hp) (E : Value → Shared → Prop), Inv X pins σ H s → (∀ b ∈ fp, FpOk X pins H b) → tn i s.heap → J.stop i H →
    wpAny (model P w) X.A (pyNext (.ref it)) (fun r s1 => r = none ∧ Inv X pins σ H s1) E s
  self : ∀ (A : Around) (i : Nat) (s : Shared) (Q : Value → Shared → Prop) (E : Value → Shared → Prop), tn i s.heap → Q (.ref it) s → wpAny (model P w) A (pyIter (.ref it)) Q E s
abbrev TI := St → Hp → (It → Hp → Prop) → Prop
def PIE (X : Cx) (pins : List (Addr × Obj)) (σ : St) (tg : Expr) (R : It → Hp → Prop) (itv : Value) (s2 : Shared) : Prop :=
  ∃ (it : Addr) (fp : List Addr) (tn : Nat → Heap → Prop) (J : It) (H' : Hp), itv = .ref it ∧ Inv X pins σ H' s2 ∧ Turn X.prog X.w X.K tg J fp it tn ∧ tn 0 s2.heap ∧ (∀ b ∈ fp, FpOk X pins H' b) ∧ R J H'
def PI (X : Cx) (tg iter : Expr) (wi : TI) : Prop :=
  ∀ (pins : List (Addr × Obj)) (s : Shared) (σ : St) (H : Hp) (R : It → Hp → Prop), Inv X pins σ H s → wi σ H R →
    wpAny (model X.prog X.w) X.A (eval iter X.env) (fun v s1 => wpAny (model X.prog X.w) X.A (pyIter v) (PIE X pins σ tg R) X.xe s1) X.xe s
theorem go_of {M : Model} {A : Around} {E : Value → Shared → Prop} {s : Shared} {tg : Expr} {it : Addr} {u : Value} {o : Obj} {n : String} {vs : Array Value} {Q : Unit → Shared → Prop} (ho : s.heap.get? it = some o) (hc : o.cls = .type n) (hd : o.data = .fields vs)
    (hn : ["enumerate", "zip", "dict_itemiterator", "dict_reverseitemiterator", "odict_iterator", "itertools.zip_longest", "itertools.pairwise"].contains n = false) (hQ : Q () s) : wpAny M A (letOwnedTupleGo tg (.ref it) u) Q E s := by
  unfold letOwnedTupleGo
  cases tg <;> first
    | exact wpAny_pure hQ
    | (cases u <;> first
        | exact wpAny_pure hQ
        | (refine wpAny_bind (wpAny_load ho ?_)
           rw [hc, hd]
           show wpAny M A (if (["enumerate", "zip", "dict_itemiterator", "dict_reverseitemiterator", "odict_iterator", "itertools.zip_longest", "itertools.pairwise"].contains n && vs[0]? == some (rawInt _)) = true then _ else _) Q E s
           rw [if_neg (by intro h; rw [hn, Bool.false_and] at h; cases h)]
           exact wpAny_pure hQ))
def Itl (K : PySem.W.Frag) (a : Addr) : It :=
  ⟨fun i H => ∃ xs x, SqL K H a xs ∧ xs[i]? = some x, fun i H x H' => H' = H ∧ ∀ xs, SqL K H a xs → xs[i]? = some x, fun i H => ∃ xs, SqL K H a xs ∧ xs.length ≤ i⟩
def Itt (K : PySem.W.Frag) (a : Addr) : It :=
  ⟨fun i H => ∃ xs x, SqT K H a xs ∧ xs[i]? = some x, fun i H x H' => H' = H ∧ ∀ xs, SqT K H a xs → xs[i]? = some x, fun i H => ∃ xs, SqT K H a xs ∧ xs.length ≤ i⟩
def Itr (lo : Int) (n : Nat) : It := ⟨fun i _ => i < n, fun i H x H' => H' = H ∧ x = .int (lo + i), fun i _ => n ≤ i⟩
theorem turn_list {P : Program} {w : World} {K : PySem.W.Frag} {tg : Expr} (a it : Addr) : Turn P w K tg (Itl K a) [it] it (fun i h => h.IsListIter it a i) where
  mem := by simp
  obj := fun i h st b hb => by
    have e : b = it := by simpa using hb
    subst e
    obtain ⟨o, e, c, d⟩ := st
    exact ⟨o, e, fun v z => by rw [d] at z; cases z⟩
  keep := fun i h h' st k => st.at fun o e => k it (by simp) o e
  item := by
    intro X hP hw hK hc i pins s σ H E I hf st hg
    subst hP hw hK
    obtain ⟨xs, x, hq, hx⟩ := hg
    obtain ⟨its, rv, p, hz⟩ := I.list hq
    obtain ⟨u, hu, ru⟩ := rv.get hx
    obtain ⟨f0, f1, f2, f3, f4, f5⟩ := hf it (by simp)
    refine wpAny_pyNext_list_item st p.isList (x := u) (by simpa using hu) fun h' st' sb => ?_
    have I1 : Inv X pins σ H { s with heap := h' } := I.turned (t' := s.toks) (fun b o hb e => (sb.2 b hb).trans e) f0 f1 f3 f4 f5
    obtain ⟨o, e, c, d⟩ := id st'
    exact ⟨u, rfl, go_of (s := { s with heap := h' }) e c d (by decide) ⟨x, H, I1, ru, ⟨rfl, fun ys hy => by rw [I.list_inj hy hq]; exact hx⟩, st', fun b hb => (hf b hb).1⟩⟩
  done := by
    intro X hP hw hK hc i pins s σ H E I hf st hg
    subst hP hw hK
    obtain ⟨xs, hq, hx⟩ := hg
    obtain ⟨its, rv, p, hz⟩ := I.list hq
    obtain ⟨f0, f1, f2, f3, f4, f5⟩ := hf it (by simp)
    have hl := rv.length
    exact wpAny_pyNext_list_end (I.ok.hd hc) st p.isList (by simp; omega) fun h' eb => ⟨rfl, I.turned (t' := s.toks) (fun b o hb e => eb b o hb e) f0 f1 f3 f4 f5⟩
  self := fun _ _ _ _ _ st h => wpAny_pyIter_listiter st h
theorem turn_tuple {P : Program} {w : World} {K : PySem.W.Frag} {tg : Expr} (a it : Addr) : Turn P w K tg (Itt K a) [it] it (fun i h => h.IsTupleIter it a i) where
  mem := by simp
  obj := fun i h st b hb => by
    have e : b = it := by simpa using hb
    subst e
    obtain ⟨o, e, c, d⟩ := st
    exact ⟨o, e, fun v z => by rw [d] at z; cases z⟩
  keep := fun i h h' st k => st.at fun o e => k it (by simp) o e
  item := by
    intro X hP hw hK hc i pins s σ H E I hf st hg
    subst hP hw hK
    obtain ⟨xs, x, hq, hx⟩ := hg
    obtain ⟨its, rv, p, hz⟩ := I.tuple hq
    obtain ⟨u, hu, ru⟩ := rv.get hx
    obtain ⟨f0, f1, f2, f3, f4, f5⟩ := hf it (by simp)
    refine wpAny_pyNext_tuple_item st (show s.heap.IsTuple a its.toArray from p) (x := u) (by simpa using hu) fun h' st' sb => ?_
    have I1 : Inv X pins σ H { s with heap := h' } := I.turned (t' := s.toks) (fun b o hb e => (sb.2 b hb).trans e) f0 f1 f3 f4 f5
    obtain ⟨o, e, c, d⟩ := id st'
    exact ⟨u, rfl, go_of (s := { s with heap := h' }) e c d (by decide) ⟨x, H, I1, ru, ⟨rfl, fun ys hy => by rw [I.tuple_inj hy hq]; exact hx⟩, st', fun b hb => (hf b hb).1⟩⟩
  done := by
    intro X hP hw hK hc i pins s σ H E I hf st hg
    subst hP hw hK
    obtain ⟨xs, hq, hx⟩ := hg
    obtain ⟨its, rv, p, hz⟩ := I.tuple hq
    obtain ⟨f0, f1, f2, f3, f4, f5⟩ := hf it (by simp)
    have hl := rv.length
    exact wpAny_pyNext_tuple_end (I.ok.hd hc) st (show s.heap.IsTuple a its.toArray from p) (by simp; omega) fun h' eb => ⟨rfl, I.turned (t' := s.toks) (fun b o hb e => eb b o hb e) f0 f1 f3 f4 f5⟩
  self := fun _ _ _ _ _ st h => wpAny_pyIter_tupleiter st h
theorem turn_range {P : Program} {w : World} {K : PySem.W.Frag} {tg : Expr} (it : Addr) (lo : Int) (n : Nat) : Turn P w K tg (Itr lo n) [it] it (fun i h => IsRangeIter h it (lo + (i : Nat) * 1) ((n : Int) - (i : Nat)) 1) where
  mem := by simp
  obj := fun i h st b hb => by
    have e : b = it := by simpa using hb
    subst e
    exact ⟨_, st, fun v z => by
      have z' : Data.fields _ = Data.cell v := z
      cases z'⟩
  keep := fun i h h' st k => k it (by simp) _ st
  item := by
    intro X hP hw hK hc i pins s σ H E I hf st hg
    subst hP hw hK
    obtain ⟨f0, f1, f2, f3, f4, f5⟩ := hf it (by simp)
    have W := Walks.range (prog := X.prog) (w := X.w) (I.ok.hd hc) it lo 1 n
    refine W.item i s _ _ hg st fun v h' tk hv st' kk => ?_
    obtain ⟨t, rfl⟩ := hv
    have I1 : Inv X pins σ H { s with heap := h', toks := tk } := I.turned (fun b o hb e => kk b o (by simpa using hb) e) f0 f1 f3 f4 f5
    refine ⟨_, rfl, go_of (s := { s with heap := h', toks := tk }) (n := "range_iterator") st' rfl rfl (by decide) ⟨.int (lo + i), H, I1, ⟨t, ?_⟩, ⟨rfl, rfl⟩, st', fun b hb => (hf b hb).1⟩⟩
    rw [Int.mul_one]
  done := by
    intro X hP hw hK hc i pins s σ H E I hf st hg
    subst hP hw hK
    obtain ⟨f0, f1, f2, f3, f4, f5⟩ := hf it (by simp)
    exact wpAny_pyNext_range_end (I.ok.hd hc) st (by have : n ≤ i := hg; omega) fun h' eb => ⟨rfl, I.turned (t' := s.toks) (fun b o hb e => eb b o hb e) f0 f1 f3 f4 f5⟩
  self := fun _ _ _ _ _ st h => wpAny_pyIter_rangeiter st h
end L2
namespace L2
open PySem PySem.Spec PyProof.Rows
section
variable {X : Cx} {tg : Expr}
def iList (K : PySem.W.Frag) (tl : TE) : TI := fun σ H R => tl σ H fun x H1 => ∃ a, x = .ref a ∧ (∃ xs, SqL K H1 a xs) ∧ R (Itl K a) H1
def iTup (K : PySem.W.Frag) (tl : TE) : TI := fun σ H R => tl σ H fun x H1 => ∃ a, x = .ref a ∧ (∃ xs, SqT K H1 a xs) ∧ R (Itt K a) H1
theorem pi_list {l : Expr} {tl : TE} (hl : PE X l tl) : PI X tg l (iList X.K tl) := by
  intro pins s σ H R I h
  refine thn (hl pins s σ H _ I h) fun v s1 ⟨x, H1, I1, r1, q1⟩ => ?_
  obtain ⟨a, e, ⟨xs, hq⟩, q⟩ := q1
  subst e
  cases r1
  obtain ⟨its, rv, p, hz⟩ := I1.list hq
  refine wpAny_pyIter_list p.isList ?_
  refine ⟨s1.heap.objs.size, [s1.heap.objs.size], _, _, H1, rfl, I1.kept (t' := s1.toks) fun b o e => Heap.get?_push_of_some _ e, turn_list a _, ⟨_, Heap.get?_push_size _ rfl, rfl, rfl⟩, fun b hb => ?_, q⟩
  have e : b = s1.heap.objs.size := by simpa using hb
  subst e
  exact I1.fpOk (Nat.le_refl _) (I1.hok.fresh (Nat.le_refl _))
theorem pi_tup {l : Expr} {tl : TE} (hl : PE X l tl) : PI X tg l (iTup X.K tl) := by
  intro pins s σ H R I h
  refine thn (hl pins s σ H _ I h) fun v s1 ⟨x, H1, I1, r1, q1⟩ => ?_
  obtain ⟨a, e, ⟨xs, hq⟩, q⟩ := q1
  subst e
  cases r1
  obtain ⟨its, rv, p, hz⟩ := I1.tuple hq
  refine wpAny_pyIter_tuple (show s1.heap.IsTuple a its.toArray from p) ?_
  refine ⟨s1.heap.objs.size, [s1.heap.objs.size], _, _, H1, rfl, I1.kept (t' := s1.toks) fun b o e => Heap.get?_push_of_some _ e, turn_tuple a _, ⟨_, Heap.get?_push_size _ rfl, rfl, rfl⟩, fun b hb => ?_, q⟩
  have e : b = s1.heap.objs.size := by simpa using hb
  subst e
  exact I1.fpOk (Nat.le_refl _) (I1.hok.fresh (Nat.le_refl _))
theorem range_it {pins : List (Addr × Obj)} {σ : St} {H : Hp} {s : Shared} {R : It → Hp → Prop} {E : Value → Shared → Prop} {lo hi : Int} {t u v : Tok} {tk : Nat} (I : Inv X pins σ H s) (h1 : -(2 ^ 62) ≤ lo) (h2 : lo < 2 ^ 62) (h3 : -(2 ^ 62) ≤ hi) (h4 : hi < 2 ^ 62)
    (q : R (Itr lo (hi - lo).toNat) H) : wpAny (model X.prog X.w) X.A (pyIter (.ref s.heap.objs.size)) (PIE X pins σ tg R) E { s with heap := s.heap.push { cls := .type "range", data := .fields #[.int lo t, .int hi u, .int 1 v] }, toks := tk } := by
  refine wpAny_pyIter_range (IsRange.new ..) (small_one h1 h2 h3 h4) ?_
  have I1 : Inv X pins σ H { s with heap := s.heap.push { cls := .type "range", data := .fields #[.int lo t, .int hi u, .int 1 v] }, toks := tk } := I.kept fun b o e => Heap.get?_push_of_some _ e
  refine ⟨(s.heap.push { cls := .type "range", data := .fields #[.int lo t, .int hi u, .int 1 v] }).objs.size, [(s.heap.push { cls := .type "range", data := .fields #[.int lo t, .int hi u, .int 1 v] }).objs.size], _, _, H, rfl,
    I1.kept (t' := tk) fun b o e => Heap.get?_push_of_some _ e, turn_range _ lo (hi - lo).toNat, ?_, fun b hb => ?_, q⟩
  · have e1 : lo + ((0 : Nat) : Int) * 1 = lo := by simp
    have e2 : (((hi - lo).toNat : Nat) : Int) - ((0 : Nat) : Int) = Builtin.Range.rangeSize lo hi 1 := by rw [rangeSize_one]; split <;> omega
    show IsRangeIter _ _ (lo + ((0 : Nat) : Int) * 1) ((((hi - lo).toNat : Nat) : Int) - ((0 : Nat) : Int)) 1
    rw [e1, e2]
    exact Heap.get?_push_size _ rfl
  · have e : b = (s.heap.push { cls := .type "range", data := .fields #[.int lo t, .int hi u, .int 1 v] }).objs.size := by simpa using hb
    subst e
    exact I1.fpOk (Nat.le_refl _) (I1.hok.fresh (Nat.le_refl _))
def iRng1 (ta : TA) : TI := fun σ H R => ta σ H fun vs H1 => ∃ j : Int, vs = [.int j] ∧ -(2 ^ 62) ≤ j ∧ j < 2 ^ 62 ∧ R (Itr 0 j.toNat) H1
def iRng2 (ta : TA) : TI := fun σ H R => ta σ H fun vs H1 => ∃ i j : Int, vs = [.int i, .int j] ∧ (-(2 ^ 62) ≤ i ∧ i < 2 ^ 62 ∧ -(2 ^ 62) ≤ j ∧ j < 2 ^ 62) ∧ R (Itr i (j - i).toNat) H1
theorem pi_range1 {a : Expr} {ta : TA} {p pos : Pos} (hg : Gl X "range") (hm : X.mg "range" = none) (ha : PA X [a] ta) (hs : starEach [a] X.env = [(false, eval a X.env)] := by rfl) : PI X tg (.Call (.Name "range" p) [a] [] pos) (iRng1 ta) := by
  intro pins s σ H R I h
  refine Call_ (ld_blt I hg hm boot_range (PyProof.Rows.callWith_type1 (thn (ha pos pins s σ H _ I h) fun us s1 ⟨vs, H1, I1, r1, q1⟩ => ?_) hs rfl))
  obtain ⟨j, e, q1, q2, q⟩ := q1
  subst e
  cases r1 with
  | cons r rr =>
    cases rr
    obtain ⟨t, rfl⟩ := r
    exact call_range_1 (range_it I1 (by omega) (by omega) q1 q2 (by simpa using q))
theorem pi_range2 {a b : Expr} {ta : TA} {p pos : Pos} (hg : Gl X "range") (hm : X.mg "range" = none) (ha : PA X [a, b] ta) (hs : starEach [a, b] X.env = [(false, eval a X.env), (false, eval b X.env)] := by rfl) (hs2 : starEach [b] X.env = [(false, eval b X.env)] := by rfl) :
    PI X tg (.Call (.Name "range" p) [a, b] [] pos) (iRng2 ta) := by
  intro pins s σ H R I h
  refine Call_ (ld_blt I hg hm boot_range (PyProof.Rows.callWith_type1 (thn (ha pos pins s σ H _ I h) fun us s1 ⟨vs, H1, I1, r1, q1⟩ => ?_) (by rw [hs, hs2]) (by rw [hs2]; rfl)))
  obtain ⟨i, j, e, ⟨q1, q2, q3, q4⟩, q⟩ := q1
  subst e
  cases r1 with
  | cons r rr =>
    cases rr with
    | cons r' rr =>
      cases rr
      obtain ⟨t, rfl⟩ := r
      obtain ⟨t', rfl⟩ := r'
      exact call_range_2 (range_it I1 q1 q2 q3 q4 q)
def tFor (wi : TI) (g : TG) (tb : TS) : TS := fun D σ H => wi σ H fun J H1 => ∃ W : Nat → Nat → St → Hp → Prop, (∃ m, W 0 m σ H1) ∧ ∀ i m σ H, W i m σ H →
  (J.stop i H ∧ D.nx σ H) ∨ (J.go i H ∧ ∃ N : St → Hp → Prop, (∀ σ' H', N σ' H' → ∃ m', m' < m ∧ W (i + 1) m' σ' H') ∧ ∀ x H', J.yld i H x H' → g x σ H' fun σ2 H2 => tb { D with nx := N, ct := N, bk := D.nx } σ2 H2)
def pinsAt (fp : List Addr) (h : Heap) : List (Addr × Obj) := fp.filterMap fun b => (h.get? b).map fun o => (b, o)
theorem mem_pinsAt {fp : List Addr} {h : Heap} {b : Addr} {o : Obj} (hb : b ∈ fp) (e : h.get? b = some o) : (b, o) ∈ pinsAt fp h := List.mem_filterMap.mpr ⟨b, hb, by rw [e]; rfl⟩
theorem of_pinsAt {fp : List Addr} {h : Heap} {p : Addr × Obj} (hp : p ∈ pinsAt fp h) : p.1 ∈ fp ∧ h.get? p.1 = some p.2 := by
  obtain ⟨b, hb, e⟩ := List.mem_filterMap.mp hp
  cases q : h.get? b with
  | none => rw [q] at e; cases e
  | some o =>
    rw [q] at e
    have e' : (b, o) = p := Option.some.inj e
    subst e'
    exact ⟨hb, q⟩
theorem Inv.pinned {pins : List (Addr × Obj)} {σ : St} {H : Hp} {s : Shared} {fp : List Addr} (I : Inv X pins σ H s) (hf : ∀ b ∈ fp, FpOk X pins H b) (ho : ∀ b ∈ fp, ∃ o, s.heap.get? b = some o ∧ ∀ v, o.data ≠ .cell v) : Inv X (pins ++ pinsAt fp s.heap) σ H s :=
  I.pins_of fun p hp => (List.mem_append.mp hp).elim (fun z => I.pin p (List.mem_append_right _ z)) fun z => by
    obtain ⟨hb, e⟩ := of_pinsAt z
    obtain ⟨f0, f1, f2, _⟩ := hf p.1 hb
    obtain ⟨o, e', d⟩ := ho p.1 hb
    rw [e] at e'; cases e'
    exact ⟨e, f0, f1, f2, d⟩
theorem Inv.unpinned {pins pl : List (Addr × Obj)} {σ : St} {H : Hp} {s : Shared} (I : Inv X (pins ++ pl) σ H s) : Inv X pins σ H s := I.pins_of fun p hp => I.pin p (List.mem_append_right _ (List.mem_append_left _ hp))
theorem ps_for {iter : Expr} {body : List Stmt} {wi : TI} {g : TG} {tb : TS} {pos : Pos} (hp : PassesOwn (model X.prog X.w) X.A X.env X.xe) (hc : X.calm = true) (hi : PI X tg iter wi) (hg : PG X tg g) (hb : PSs X body tb)
    (hs : ∀ x, foldedSetIterable iter X.env x = pure x := by intro _; rfl) : PS X (.For tg iter body [] pos) (tFor wi g tb) := by
  intro pins s σ H D I h
  refine wpAny_For (thn (hi pins s σ H _ I h) fun v s1 h1 => thn h1 fun itv s2 h2 => ?_) hs
  obtain ⟨it, fp, tn, J, H2, e, I2, T, st2, f2, W, ⟨m0, w0⟩, turn⟩ := h2
  subst e
  have stat : ∀ {H' : Hp}, (∀ b ∈ fp, H' b = none) → ∀ b ∈ fp, FpOk X pins H' b := fun hn b hb => ⟨hn b hb, (f2 b hb).2⟩
  refine codeAny_forLoop_any (fun n s' => ∃ i σ' H', Inv X pins σ' H' s' ∧ tn i s'.heap ∧ (∀ b ∈ fp, H' b = none) ∧ W i n σ' H') ?_ m0 ⟨0, σ, H2, I2, st2, fun b hb => (f2 b hb).1, w0⟩
  rintro n s3 ⟨i, σ3, H3, I3, st3, fr3, w3⟩
  rcases turn i n σ3 H3 w3 with ⟨stop, qn⟩ | ⟨go, N, hN, step⟩
  · refine wpAny_passesOwn hp (thn (T.done X rfl rfl rfl hc i pins s3 σ3 H3 X.xe I3 (stat fr3) st3 stop) fun r s4 ⟨hr, I4⟩ => ?_)
    subst hr
    exact wpAny_execs_nil ⟨σ3, H3, I4, qn⟩
  · refine wpAny_passesOwn hp (thn (T.item X rfl rfl rfl hc i pins s3 σ3 H3 X.xe I3 (stat fr3) st3 go) fun r s4 ⟨u, hr, h4⟩ => ?_)
    subst hr
    refine wpAny_passesOwn hp (thn h4 fun _ s5 ⟨x, H5, I5, r5, y5, st5, fr5⟩ => ?_)
    have I5' := I5.pinned (stat fr5) (T.obj _ _ st5)
    refine wpAny_passesOwn hp (thn (hg _ s5 σ3 H5 x u _ I5' r5 (step x H5 y5)) fun _ s6 ⟨σ6, H6, I6, q6⟩ => ?_)
    refine wpAny_passesOwn hp (thn (hb _ s6 σ6 H6 _ I6 q6) fun f s7 q7 => ?_)
    have again : ∀ {σ7 : St} {H7 : Hp}, Inv X (pins ++ pinsAt fp s5.heap) σ7 H7 s7 → N σ7 H7 → ∃ m, m < n ∧ ∃ i σ' H', Inv X pins σ' H' s7 ∧ tn i s7.heap ∧ (∀ b ∈ fp, H' b = none) ∧ W i m σ' H' := fun {σ7 H7} I7 n7 => by
      obtain ⟨m', hm, w7⟩ := hN σ7 H7 n7
      refine ⟨m', hm, i + 1, σ7, H7, I7.unpinned, T.keep _ _ _ st5 fun b hb o e => (I7.pin (b, o) (List.mem_append_right _ (List.mem_append_right _ (mem_pinsAt hb e)))).1, fun b hb => ?_, w7⟩
      obtain ⟨o, e, d⟩ := T.obj _ _ st5 b hb
      exact (I7.pin (b, o) (List.mem_append_right _ (List.mem_append_right _ (mem_pinsAt hb e)))).2.1
    cases f with
    | next => obtain ⟨σ7, H7, I7, n7⟩ := q7; exact again I7 n7
    | cont => obtain ⟨σ7, H7, I7, n7⟩ := q7; exact again I7 n7
    | brk => obtain ⟨σ7, H7, I7, q7⟩ := q7; exact ⟨σ7, H7, I7.unpinned, q7⟩
    | ret v => obtain ⟨x7, σ7, H7, I7, r7, q7⟩ := q7; exact ⟨x7, σ7, H7, I7.unpinned, r7, q7⟩
end
theorem for_list {K : PySem.W.Frag} {a : Addr} {xs : List V} {g : TG} {tb : TS} {D : Ends} {σ : St} {H : Hp} (Pv : Nat → St → Hp → Prop) (h0 : Pv 0 σ H) (hl : ∀ i σ H, i ≤ xs.length → Pv i σ H → SqL K H a xs)
    (hs : ∀ i x σ H, xs[i]? = some x → Pv i σ H → g x σ H fun σ2 H2 => tb { D with nx := Pv (i + 1), ct := Pv (i + 1), bk := D.nx } σ2 H2) (hd : ∀ σ H, Pv xs.length σ H → D.nx σ H) :
    ∃ W : Nat → Nat → St → Hp → Prop, (∃ m, W 0 m σ H) ∧ ∀ i m σ H, W i m σ H →
      ((Itl K a).stop i H ∧ D.nx σ H) ∨ ((Itl K a).go i H ∧ ∃ N : St → Hp → Prop, (∀ σ' H', N σ' H' → ∃ m', m' < m ∧ W (i + 1) m' σ' H') ∧ ∀ x H', (Itl K a).yld i H x H' → g x σ H' fun σ2 H2 => tb { D with nx := N, ct := N, bk := D.nx } σ2 H2) := by
  refine ⟨fun i m σ H => m = xs.length - i ∧ i ≤ xs.length ∧ Pv i σ H, ⟨xs.length, by simp, Nat.zero_le _, h0⟩, ?_⟩
  rintro i m σ H ⟨rfl, hi, p⟩
  have q := hl i σ H hi p
  by_cases hlt : i < xs.length
  · refine .inr ⟨⟨xs, xs[i], q, by simp [hlt]⟩, Pv (i + 1), fun σ' H' p' => ⟨xs.length - (i + 1), by omega, rfl, hlt, p'⟩, fun x H' y => ?_⟩
    obtain ⟨e, y⟩ := y
    subst e
    exact hs i x σ _ (y xs q) p
  · have e : i = xs.length := by omega
    subst e
    exact .inl ⟨⟨xs, q, Nat.le_refl _⟩, hd σ H p⟩
theorem for_range {lo : Int} {n : Nat} {g : TG} {tb : TS} {D : Ends} {σ : St} {H : Hp} (Pv : Nat → St → Hp → Prop) (h0 : Pv 0 σ H)
    (hs : ∀ i σ H, i < n → Pv i σ H → g (.int (lo + i)) σ H fun σ2 H2 => tb { D with nx := Pv (i + 1), ct := Pv (i + 1), bk := D.nx } σ2 H2) (hd : ∀ σ H, Pv n σ H → D.nx σ H) :
    ∃ W : Nat → Nat → St → Hp → Prop, (∃ m, W 0 m σ H) ∧ ∀ i m σ H, W i m σ H →
      ((Itr lo n).stop i H ∧ D.nx σ H) ∨ ((Itr lo n).go i H ∧ ∃ N : St → Hp → Prop, (∀ σ' H', N σ' H' → ∃ m', m' < m ∧ W (i + 1) m' σ' H') ∧ ∀ x H', (Itr lo n).yld i H x H' → g x σ H' fun σ2 H2 => tb { D with nx := N, ct := N, bk := D.nx } σ2 H2) := by
  refine ⟨fun i m σ H => m = n - i ∧ i ≤ n ∧ Pv i σ H, ⟨n, by simp, Nat.zero_le _, h0⟩, ?_⟩
  rintro i m σ H ⟨rfl, hi, p⟩
  by_cases hlt : i < n
  · refine .inr ⟨hlt, Pv (i + 1), fun σ' H' p' => ⟨n - (i + 1), by omega, rfl, hlt, p'⟩, fun x H' y => ?_⟩
    obtain ⟨e, y⟩ := y
    subst e y
    exact hs i σ _ hlt p
  · have e : i = n := by omega
    subst e
    exact .inl ⟨Nat.le_refl _, hd σ H p⟩
end L2
namespace L2
open PySem PySem.Spec PyProof.Rows
abbrev R2 := V → V → Hp → VK → Prop
def OpR (X : Cx) (f : Value → Value → Sem Value) (r : R2) : Prop :=
  ∀ (pins : List (Addr × Obj)) (s : Shared) (σ : St) (H : Hp) (x y : V) (v u : Value) (Q : VK), Inv X pins σ H s → RelV x v → RelV y u → r x y H Q →
    wpAny (model X.prog X.w) X.A (f v u) (EP X pins σ Q) X.xe s
def UnR (X : Cx) (f : Value → Sem Value) (r : V → Hp → VK → Prop) : Prop :=
  ∀ (pins : List (Addr × Obj)) (s : Shared) (σ : St) (H : Hp) (x : V) (v : Value) (Q : VK), Inv X pins σ H s → RelV x v → r x H Q →
    wpAny (model X.prog X.w) X.A (f v) (EP X pins σ Q) X.xe s
def CallR (X : Cx) (f : Value) (r : List V → Hp → VK → Prop) : Prop :=
  ∀ (pins : List (Addr × Obj)) (s : Shared) (σ : St) (H : Hp) (xs : List V) (us : List Value) (Q : VK), Inv X pins σ H s → Vals xs us → r xs H Q →
    wpAny (model X.prog X.w) X.A (call f us) (EP X pins σ Q) X.xe s
def tOp (r : R2) (ta tb : TE) : TE := fun σ H Q => ta σ H fun x H1 => tb σ H1 fun y H2 => r x y H2 Q
def tUn (r : V → Hp → VK → Prop) (ta : TE) : TE := fun σ H Q => ta σ H fun x H1 => r x H1 Q
def rI (C : Int → Int → Prop) (g : Int → Int → V) : R2 := fun x y H Q => ∃ i j, x = .int i ∧ y = .int j ∧ C i j ∧ Q (g i j) H
def rI0 (g : Int → Int → V) : R2 := fun x y H Q => ∃ i j, x = .int i ∧ y = .int j ∧ Q (g i j) H
def rU (g : Int → V) : V → Hp → VK → Prop := fun x H Q => ∃ i, x = .int i ∧ Q (g i) H
section
variable {X : Cx} {a b c : Expr} {ta tb tc : TE} {pos : Pos}
theorem binT (ha : PE X a ta) (hb : PE X b tb) {pins : List (Addr × Obj)} {s : Shared} {σ : St} {H : Hp} {R : V → V → Hp → Prop} (I : Inv X pins σ H s)
    (h : ta σ H fun x H1 => tb σ H1 fun y H2 => R x y H2) {Q : Value → Shared → Prop} {f : Value → Value → Sem Value}
    (hf : ∀ v u s2 x y H2, Inv X pins σ H2 s2 → RelV x v → RelV y u → R x y H2 → wpAny (model X.prog X.w) X.A (f v u) Q X.xe s2) :
    wpAny (model X.prog X.w) X.A (eval a X.env) (fun v s₁ => wpAny (model X.prog X.w) X.A (eval b X.env) (fun u s₂ => wpAny (model X.prog X.w) X.A (f v u) Q X.xe s₂) X.xe s₁) X.xe s := by
  refine thn (ha pins s σ H _ I h) fun v s1 ⟨x, H1, I1, r1, q1⟩ => ?_
  refine thn (hb pins s1 σ H1 _ I1 q1) fun u s2 ⟨y, H2, I2, r2, q2⟩ => ?_
  exact hf v u s2 x y H2 I2 r1 r2 q2
theorem pe_op {op : Operator} {r : R2} (ho : OpR X (binaryOp op) r) (ha : PE X a ta) (hb : PE X b tb) : PE X (.BinOp a op b pos) (tOp r ta tb) := by
  intro pins s σ H Q I h
  exact wpAny_BinOp (binT ha hb I h fun v u s2 x y H2 I2 rx ry q => ho pins s2 σ H2 x y v u Q I2 rx ry q)
theorem pe_un {op : UnaryOp} {r : V → Hp → VK → Prop} (ho : UnR X (unaryOp op) r) (ha : PE X a ta) : PE X (.UnaryOp op a pos) (tUn r ta) := by
  intro pins s σ H Q I h
  exact UnaryOp_ (thn (ha pins s σ H _ I h) fun v s1 ⟨x, H1, I1, r1, q1⟩ => ho pins s1 σ H1 x v Q I1 r1 q1)
theorem opI {f : Value → Value → Sem Value} {C : Int → Int → Prop} {g : Int → Int → Int}
    (rule : ∀ (i j : Int) (t u : Tok) (s : Shared) (Q : Value → Shared → Prop) (E : Value → Shared → Prop), C i j → Q (.int (g i j) s.toks) { s with toks := s.toks + 1 } → wpAny (model X.prog X.w) X.A (f (.int i t) (.int j u)) Q E s) :
    OpR X f (rI C fun i j => .int (g i j)) := by
  intro pins s σ H x y v u Q I rx ry h
  obtain ⟨i, j, rfl, rfl, hc, q⟩ := h
  obtain ⟨t, rfl⟩ := rx
  obtain ⟨t', rfl⟩ := ry
  exact rule i j t t' s _ _ hc ⟨.int (g i j), H, I.tok _, ⟨_, rfl⟩, q⟩
theorem opI0 {f : Value → Value → Sem Value} {g : Int → Int → Int}
    (rule : ∀ (i j : Int) (t u : Tok) (s : Shared) (Q : Value → Shared → Prop) (E : Value → Shared → Prop), Q (.int (g i j) s.toks) { s with toks := s.toks + 1 } → wpAny (model X.prog X.w) X.A (f (.int i t) (.int j u)) Q E s) :
    OpR X f (rI0 fun i j => .int (g i j)) := by
  intro pins s σ H x y v u Q I rx ry h
  obtain ⟨i, j, rfl, rfl, q⟩ := h
  obtain ⟨t, rfl⟩ := rx
  obtain ⟨t', rfl⟩ := ry
  exact rule i j t t' s _ _ ⟨.int (g i j), H, I.tok _, ⟨_, rfl⟩, q⟩
theorem opB0 {f : Value → Value → Sem Value} {g : Int → Int → Bool}
    (rule : ∀ (i j : Int) (t u : Tok) (s : Shared) (Q : Value → Shared → Prop) (E : Value → Shared → Prop), Q (.bool (g i j)) s → wpAny (model X.prog X.w) X.A (f (.int i t) (.int j u)) Q E s) :
    OpR X f (rI0 fun i j => .bl (g i j)) := by
  intro pins s σ H x y v u Q I rx ry h
  obtain ⟨i, j, rfl, rfl, q⟩ := h
  obtain ⟨t, rfl⟩ := rx
  obtain ⟨t', rfl⟩ := ry
  exact rule i j t t' s _ _ ⟨.bl (g i j), H, I, rfl, q⟩
def CPow (i j : Int) : Prop := 0 ≤ j ∧ j ≤ 1000000 ∧ i.natAbs < 2 ^ 64
def CMul (i j : Int) : Prop := (-(2 ^ 64) < i ∧ i < 2 ^ 64) ∨ (-(2 ^ 64) < j ∧ j < 2 ^ 64)
theorem CMul.ok {i j : Int} (h : CMul i j) : IntMulOk i j := by
  rcases h with ⟨h1, h2⟩ | ⟨h1, h2⟩
  · exact .of_left (intBits_le_64 h1 h2)
  · exact .of_right (intBits_le_64 h1 h2)
theorem op_add : OpR X (binaryOp .Add) (rI0 fun i j => .int (i + j)) := opI0 fun _ _ _ _ _ _ _ q => add_int q
theorem op_sub : OpR X (binaryOp .Sub) (rI0 fun i j => .int (i - j)) := opI0 fun _ _ _ _ _ _ _ q => sub_int q
theorem op_mul : OpR X (binaryOp .Mult) (rI CMul fun i j => .int (i * j)) := opI fun _ _ _ _ _ _ _ hc q => mul_int q hc.ok
theorem op_mod : OpR X (binaryOp .Mod) (rI (fun _ j => 0 < j) fun i j => .int (i % j)) := opI fun i j _ _ _ _ _ hc q => by
  have h1 : (0 : Int) < j := hc
  exact mod_int' (by omega) (by rw [Int.fmod_eq_emod_of_nonneg i (by omega)]; exact q)
theorem op_pow : OpR X (binaryOp .Pow) (rI CPow fun i j => .int (i ^ j.toNat)) := opI fun _ _ _ _ _ _ _ hc q => pow_int_small hc.1 hc.2.1 hc.2.2 q
theorem op_shl : OpR X (binaryOp .LShift) (rI CPow fun i j => .int (i * 2 ^ j.toNat)) := opI fun _ _ _ _ _ _ _ hc q => lshift_int_small hc.1 hc.2.1 hc.2.2 q
theorem unI {f : Value → Sem Value} {g : Int → Int}
    (rule : ∀ (i : Int) (t : Tok) (s : Shared) (Q : Value → Shared → Prop) (E : Value → Shared → Prop), Q (.int (g i) s.toks) { s with toks := s.toks + 1 } → wpAny (model X.prog X.w) X.A (f (.int i t)) Q E s) :
    UnR X f (rU fun i => .int (g i)) := by
  intro pins s σ H x v Q I rx h
  obtain ⟨i, rfl, q⟩ := h
  obtain ⟨t, rfl⟩ := rx
  exact rule i t s _ _ ⟨.int (g i), H, I.tok _, ⟨_, rfl⟩, q⟩
theorem un_neg : UnR X (unaryOp .USub) (rU fun i => .int (-i)) := unI fun _ _ _ _ _ q => neg_int q
end
def scal : V → V → Bool
  | .non, .non => true | .non, .int _ => true | .int _, .non => true | .non, .bl _ => true | .bl _, .non => true | .non, .str _ => true | .str _, .non => true
  | .int _, .int _ => true | .bl _, .bl _ => true | .str _, .str _ => true | .byt _, .byt _ => true
  | .int _, .str _ => true | .str _, .int _ => true | .bl _, .str _ => true | .str _, .bl _ => true
  | _, _ => false
def rEq : R2 := fun x y H Q => scal x y = true ∧ Q (.bl (decide (x = y))) H
def rNe : R2 := fun x y H Q => scal x y = true ∧ Q (.bl (!decide (x = y))) H
theorem dec_int {i j : Int} : decide (V.int i = V.int j) = (i == j) := by
  rw [Bool.eq_iff_iff]
  simp
theorem dec_bl {i j : Bool} : decide (V.bl i = V.bl j) = (i == j) := by
  rw [Bool.eq_iff_iff]
  simp
theorem dec_str {i j : Str} : decide (V.str i = V.str j) = (i == j) := by
  rw [Bool.eq_iff_iff]
  simp
theorem dec_byt {i j : Array UInt8} : decide (V.byt i = V.byt j) = (i.toList == j.toList) := by
  rw [Bool.eq_iff_iff]
  cases i
  cases j
  simp
section
variable {X : Cx} {a b c : Expr} {ta tb tc : TE} {pos : Pos}
theorem fin_bl {pins : List (Addr × Obj)} {σ : St} {H : Hp} {s : Shared} {Q : VK} {k k' : Bool} (I : Inv X pins σ H s) (q : Q (.bl k) H) (e : k = k') : EP X pins σ Q (.bool k') s := by
  subst e
  exact ⟨.bl k, H, I, rfl, q⟩
theorem op_eq : OpR X (compareOp .Eq) rEq := by
  intro pins s σ H x y v u Q I rx ry h
  obtain ⟨hs, q⟩ := h
  cases x with
  | non =>
    cases rx
    cases y with
    | non => cases ry; exact PySem.EqNone.eq_none_none (fin_bl I q (by simp))
    | bl j => cases ry; exact PySem.EqNone.eq_none_bool (fin_bl I q (by simp))
    | int j => obtain ⟨t', rfl⟩ := ry; exact PySem.EqNone.eq_none_int (fin_bl I q (by simp))
    | str j => obtain ⟨t', rfl⟩ := ry; exact PySem.EqNone.eq_none_str (fin_bl I q (by simp))
    | _ => exact absurd (show false = true from hs) Bool.false_ne_true
  | bl i =>
    cases rx
    cases y with
    | non => cases ry; exact PySem.EqNone.eq_bool_none (fin_bl I q (by simp))
    | bl j => cases ry; exact eq_bool (fin_bl I q dec_bl)
    | str j => obtain ⟨t', rfl⟩ := ry; exact PySem.EqMixed.eq_bool_str (fin_bl I q (by simp))
    | _ => exact absurd (show false = true from hs) Bool.false_ne_true
  | int i =>
    obtain ⟨t, rfl⟩ := rx
    cases y with
    | non => cases ry; exact PySem.EqNone.eq_int_none (fin_bl I q (by simp))
    | int j => obtain ⟨t', rfl⟩ := ry; exact eq_int (fin_bl I q dec_int)
    | str j => obtain ⟨t', rfl⟩ := ry; exact PySem.EqMixed.eq_int_str (fin_bl I q (by simp))
    | _ => exact absurd (show false = true from hs) Bool.false_ne_true
  | str i =>
    obtain ⟨t, rfl⟩ := rx
    cases y with
    | non => cases ry; exact PySem.EqNone.eq_str_none (fin_bl I q (by simp))
    | bl j => cases ry; exact PySem.EqMixed.eq_str_bool (fin_bl I q (by simp))
    | int j => obtain ⟨t', rfl⟩ := ry; exact PySem.EqMixed.eq_str_int (fin_bl I q (by simp))
    | str j => obtain ⟨t', rfl⟩ := ry; exact eq_str (fin_bl I q dec_str)
    | _ => exact absurd (show false = true from hs) Bool.false_ne_true
  | byt i =>
    obtain ⟨t, rfl⟩ := rx
    cases y with
    | byt j => obtain ⟨t', rfl⟩ := ry; exact PySem.W.eq_bytes (fin_bl I q dec_byt)
    | _ => exact absurd (show false = true from hs) Bool.false_ne_true
  | _ => cases y <;> exact absurd (show false = true from hs) Bool.false_ne_true
theorem op_ne : OpR X (compareOp .NotEq) rNe := by
  intro pins s σ H x y v u Q I rx ry h
  obtain ⟨hs, q⟩ := h
  cases x with
  | non =>
    cases rx
    cases y with
    | non => cases ry; exact PySem.EqNone.ne_none_none (fin_bl I q (by simp))
    | bl j => cases ry; exact PySem.EqNone.ne_none_bool (fin_bl I q (by simp))
    | int j => obtain ⟨t', rfl⟩ := ry; exact PySem.EqNone.ne_none_int (fin_bl I q (by simp))
    | str j => obtain ⟨t', rfl⟩ := ry; exact PySem.EqNone.ne_none_str (fin_bl I q (by simp))
    | _ => exact absurd (show false = true from hs) Bool.false_ne_true
  | bl i =>
    cases rx
    cases y with
    | non => cases ry; exact PySem.EqNone.ne_bool_none (fin_bl I q (by simp))
    | bl j => cases ry; exact ne_bool (fin_bl I q (congrArg not dec_bl))
    | str j => obtain ⟨t', rfl⟩ := ry; exact PySem.EqMixed.ne_bool_str (fin_bl I q (by simp))
    | _ => exact absurd (show false = true from hs) Bool.false_ne_true
  | int i =>
    obtain ⟨t, rfl⟩ := rx
    cases y with
    | non => cases ry; exact PySem.EqNone.ne_int_none (fin_bl I q (by simp))
    | int j => obtain ⟨t', rfl⟩ := ry; exact ne_int (fin_bl I q (congrArg not dec_int))
    | str j => obtain ⟨t', rfl⟩ := ry; exact PySem.EqMixed.ne_int_str (fin_bl I q (by simp))
    | _ => exact absurd (show false = true from hs) Bool.false_ne_true
  | str i =>
    obtain ⟨t, rfl⟩ := rx
    cases y with
    | non => cases ry; exact PySem.EqNone.ne_str_none (fin_bl I q (by simp))
    | bl j => cases ry; exact PySem.EqMixed.ne_str_bool (fin_bl I q (by simp))
    | int j => obtain ⟨t', rfl⟩ := ry; exact PySem.EqMixed.ne_str_int (fin_bl I q (by simp))
    | str j => obtain ⟨t', rfl⟩ := ry; exact ne_str (fin_bl I q (congrArg not dec_str))
    | _ => exact absurd (show false = true from hs) Bool.false_ne_true
  | byt i =>
    obtain ⟨t, rfl⟩ := rx
    cases y with
    | byt j => obtain ⟨t', rfl⟩ := ry; exact PySem.W.ne_bytes (fin_bl I q (congrArg not dec_byt))
    | _ => exact absurd (show false = true from hs) Bool.false_ne_true
  | _ => cases y <;> exact absurd (show false = true from hs) Bool.false_ne_true
theorem op_lt : OpR X (compareOp .Lt) (rI0 fun i j => .bl (decide (i < j))) := opB0 fun _ _ _ _ _ _ _ q => lt_int q
theorem op_le : OpR X (compareOp .LtE) (rI0 fun i j => .bl (decide (i ≤ j))) := opB0 fun _ _ _ _ _ _ _ q => le_int q
theorem op_gt : OpR X (compareOp .Gt) (rI0 fun i j => .bl (decide (j < i))) := opB0 fun _ _ _ _ _ _ _ q => gt_int q
theorem op_ge : OpR X (compareOp .GtE) (rI0 fun i j => .bl (decide (j ≤ i))) := opB0 fun _ _ _ _ _ _ _ q => ge_int q
theorem nomark (b : Expr) {op : CmpOp} (h : op ≠ .In := by decide) (h2 : op ≠ .NotIn := by decide) : behindInMarks op b = false := by
  have e1 : (op == CmpOp.In) = false := by cases op <;> first | rfl | exact absurd rfl h
  have e2 : (op == CmpOp.NotIn) = false := by cases op <;> first | rfl | exact absurd rfl h2
  cases b <;> simp [behindInMarks, e1, e2]
theorem pe_cmpR {op : CmpOp} {r : R2} (ho : OpR X (compareOp op) r) (ha : PE X a ta) (hb : PE X b tb) (hm : behindInMarks op b = false) : PE X (.Compare a [op] [b] pos) (tOp r ta tb) := by
  intro pins s σ H Q I h
  exact wpAny_Compare1 (binT ha hb I h fun v u s2 x y H2 I2 rx ry q => ho pins s2 σ H2 x y v u Q I2 rx ry q) hm
def tTest (t : TE) : TT := fun σ H Q => t σ H fun x H' => ∃ k, x = .bl k ∧ Q k H'
theorem pt_cmpR {op : CmpOp} {r : R2} (ho : OpR X (compareOp op) r) (ha : PE X a ta) (hb : PE X b tb) (hm : behindInMarks op b = false) : PT X (.Compare a [op] [b] pos) (tTest (tOp r ta tb)) := by
  intro pins s σ H Q I h
  refine wpAny_isTrue_Compare1 (thn (ha pins s σ H _ I h) fun v s1 ⟨x, H1, I1, r1, q1⟩ => thn (hb pins s1 σ H1 _ I1 q1) fun u s2 ⟨y, H2, I2, r2, q2⟩ =>
    thn (ho pins s2 σ H2 x y v u _ I2 r1 r2 q2) fun c s3 ⟨z, H3, I3, r3, k, e, q3⟩ => ?_) hm
  subst e
  cases r3
  exact wpAny_truthy_bool ⟨H3, I3, q3⟩
theorem line63 : (sizeLine : Nat) < 2 ^ 63 := by rw [sizeLine_eq]; decide
theorem vals1 {x : V} {us : List Value} (r : Vals [x] us) : ∃ u, us = [u] ∧ RelV x u := by
  cases r with
  | cons r1 r2 => cases r2; exact ⟨_, rfl, r1⟩
theorem vals2 {x y : V} {us : List Value} (r : Vals [x, y] us) : ∃ u w', us = [u, w'] ∧ RelV x u ∧ RelV y w' := by
  cases r with
  | cons r1 r2 =>
    cases r2 with
    | cons r3 r4 => cases r4; exact ⟨_, _, rfl, r1, r3⟩
theorem call_abs : CallR X (.builtin "abs") (fun xs H Q => ∃ i, xs = [.int i] ∧ Q (.int (if i < 0 then -i else i)) H) := by
  intro pins s σ H xs us Q I r h
  obtain ⟨i, rfl, q⟩ := h
  obtain ⟨u, rfl, t, rfl⟩ := vals1 r
  exact call_abs_int fun u tk => ⟨.int (if i < 0 then -i else i), H, I.tok _, ⟨_, rfl⟩, q⟩
theorem call_max2 (hc : X.calm = true) : CallR X (.builtin "max") (fun xs H Q => ∃ i j, xs = [.int i, .int j] ∧ Q (.int (if j > i then j else i)) H) := by
  intro pins s σ H xs us Q I r h
  obtain ⟨i, j, rfl, q⟩ := h
  obtain ⟨u, w', rfl, ⟨t, rfl⟩, ⟨t', rfl⟩⟩ := vals2 r
  refine max_two_ints (I.ok.hd hc) fun h' tk k => ⟨_, H, I.kept k, ?_, q⟩
  by_cases hj : j > i
  · rw [if_pos hj, if_pos hj]; exact ⟨_, rfl⟩
  · rw [if_neg hj, if_neg hj]; exact ⟨_, rfl⟩
theorem call_min2 (hc : X.calm = true) : CallR X (.builtin "min") (fun xs H Q => ∃ i j, xs = [.int i, .int j] ∧ Q (.int (if j < i then j else i)) H) := by
  intro pins s σ H xs us Q I r h
  obtain ⟨i, j, rfl, q⟩ := h
  obtain ⟨u, w', rfl, ⟨t, rfl⟩, ⟨t', rfl⟩⟩ := vals2 r
  refine min_two_ints (I.ok.hd hc) fun h' tk k => ⟨_, H, I.kept k, ?_, q⟩
  by_cases hj : j < i
  · rw [if_pos hj, if_pos hj]; exact ⟨_, rfl⟩
  · rw [if_neg hj, if_neg hj]; exact ⟨_, rfl⟩
theorem call_int1 : CallR X (.type "int") (fun xs H Q => (∃ i, xs = [.int i] ∧ Q (.int i) H) ∨ ∃ k, xs = [.bl k] ∧ Q (.int (if k then 1 else 0)) H) := by
  intro pins s σ H xs us Q I r h
  rcases h with ⟨i, rfl, q⟩ | ⟨k, rfl, q⟩
  · obtain ⟨u, rfl, t, rfl⟩ := vals1 r
    exact call_int_int ⟨.int i, H, I, ⟨_, rfl⟩, q⟩
  · obtain ⟨u, rfl, r1⟩ := vals1 r
    cases r1
    exact call_int_bool ⟨.int (if k then 1 else 0), H, I.tok _, ⟨_, rfl⟩, q⟩
theorem call_str_int : CallR X (.type "str") (fun xs H Q => ∃ i, xs = [.int i] ∧ i.natAbs.log2 < 1920 ∧ Q (.str (toString i)) H) := by
  intro pins s σ H xs us Q I r h
  obtain ⟨i, rfl, hz, q⟩ := h
  obtain ⟨u, rfl, t, rfl⟩ := vals1 r
  exact PySem.P.str_of_int hz ⟨.str _, H, I.tok _, ⟨_, rfl⟩, q⟩
end
end L2
namespace L2
open PySem PySem.Spec PyProof.Rows
structure ObjM (h : Heap) (x dx C : Addr) (mA : Str → Option Value) : Prop where
  obj : h.get? x = some (PySem.W.instObj C dx)
  ns : h.Ns1 dx mA
  ne : dx ≠ x
theorem lookIn_ns {h : Heap} {dx : Addr} {mA : Str → Option Value} (n : h.Ns1 dx mA) : ∃ od, h.get? dx = some od ∧ ∀ name, PySem.W.lookIn name od = some (mA name) := by
  obtain ⟨o, es, ep, ho, hd, hk, _, hm⟩ := n
  refine ⟨o, ho, fun name => ?_⟩
  have e := hm name
  unfold nsFind findBy at e
  rw [← Array.find?_toList] at e
  unfold PySem.W.lookIn
  rw [hd]
  dsimp only
  split
  · rename_i y q
    rw [q] at e
    exact congrArg some e
  · rename_i q
    rw [q] at e
    have a : es.toList.any (·.refKey) = false := by
      rw [List.any_eq_false]
      intro y hy
      obtain ⟨z, t, hkey⟩ := hk y (Array.mem_toList_iff.mp hy)
      simp [DictEntry.refKey, hkey]
    have a' : ¬ es.toList.any (·.refKey) = true := by rw [a]; exact Bool.false_ne_true
    rw [if_neg a']
    exact congrArg some e
theorem ObjM.look {h : Heap} {x dx C : Addr} {mA : Str → Option Value} (I : ObjM h x dx C mA) : ∃ od, PySem.W.InstAt h x (PySem.W.instObj C dx) C (some od) ∧ ∀ name, PySem.W.lookIn name od = some (mA name) :=
  let ⟨od, ho, hl⟩ := lookIn_ns I.ns
  ⟨od, ⟨I.obj, rfl, rfl, ho⟩, hl⟩
section
variable {prog : Program} {w : World} {A : Around} {E : Value → Shared → Prop} {s : Shared} {K : PySem.W.Frag} {x dx C f : Addr} {mA : Str → Option Value} {name : Str} {v : Value}
end
section
variable {P : Program} {w : World} {H H' : Hp} {h h' : Heap} {a C dx : Addr} {fs fs' : List (Str × V)}
theorem ins_get (hok : HOk P w H h) (e : H a = some (.ins C dx fs)) : ∃ mA, ObjM h a dx C mA ∧ (∀ f, RelO (fs.lookup f) (mA f)) ∧ PySem.Within mA (fs.map (·.1)) ∧ fs.length ≤ 1000 ∧ H dx = some (.own a) := by
  obtain ⟨d, z, ne, ob, mA, n, r, q⟩ := (show ObjOk P w H h a (.ins C dx fs) from hok a _ e)
  exact ⟨mA, ⟨ob, n, ne⟩, r, q, z, d⟩
end
structure Cls (K : PySem.W.Frag) (C : Addr) : Prop where
  pg : PySem.W.plainGet K C Str.empty = true
  hd : PySem.W.hasDictIn K C = true
  po : PySem.W.plainOver K C = true
  sa : PySem.W.findIn K (.ref C) "__setattr__" = some (some (.builtin "object.__setattr__"))
theorem Cls.get {K : PySem.W.Frag} {C : Addr} (c : Cls K C) (f : Str) : PySem.W.plainGet K C f = true := c.pg
section
variable {X : Cx} {pins : List (Addr × Obj)} {σ : St} {H : Hp} {s : Shared} {a C dx : Addr} {fs : List (Str × V)} {f : Str} {v : V} {A : Around} {E : Value → Shared → Prop}
end
section
variable {X : Cx} {o e value : Expr} {f : Str} {pos pos' tpos : Pos} {ta tv : TE}
end
section
variable {X : Cx} {pins : List (Addr × Obj)} {σ : St} {H : Hp} {s : Shared} {A : Around} {E : Value → Shared → Prop} {Q : Value → Shared → Prop} {c : Value} {b : Bool}
inductive TyOf (K : PySem.W.Frag) (H : Hp) : V → Value → Prop where
  | non : TyOf K H .non (.type "NoneType")
  | bl (x : Bool) : TyOf K H (.bl x) (.type "bool")
  | int (i : Int) : TyOf K H (.int i) (.type "int")
  | str (x : Str) : TyOf K H (.str x) (.type "str")
  | flt (x : UInt64) : TyOf K H (.flt x) (.type "float")
  | lst {a : Addr} {xs : List V} (e : H a = some (.lst xs)) : TyOf K H (.ref a) (.type "list")
  | frz {a : Addr} {o : Obj} {xs : List V} (e : H a = some (.frz o (.lst xs))) : TyOf K H (.ref a) (.type "list")
  | tup {a : Addr} {xs : List V} (e : H a = some (.tup xs)) : TyOf K H (.ref a) (.type "tuple")
  | dK {a : Addr} {kvs : List (Key × V)} (e : H a = some (.dK kvs)) : TyOf K H (.ref a) (.type "dict")
  | dT {a : Addr} {kvs : List (List Key × V)} (e : H a = some (.dT kvs)) : TyOf K H (.ref a) (.type "dict")
  | ins {a C dx : Addr} {fs : List (Str × V)} (e : H a = some (.ins C dx fs)) (cl : Cls K C) (ha : PySem.W.findIn K (.ref C) "__class__" = some (some (.builtin "object.__class__")))
      (hn : PySem.W.specialIn K (.builtin "object.__class__") "__get__" = some (some (.builtin "getset_descriptor.__get__"))) (htk : PySem.W.takesIn K (.builtin "object.__class__") = some true)
      (hm : PySem.W.mroIn K C (.type "object") = some true) : TyOf K H (.ref a) (.ref C)
theorem isinst_ok {x : V} {u t : Value} (I : Inv X pins σ H s) (rx : RelV x u) (ty : TyOf X.K H x t) (e : PySem.W.kitOne X.K t c = some b) (h : ∀ tk, Q (.bool b) { s with toks := tk }) :
    wpAny (model X.prog X.w) A (call (.builtin "isinstance") [u, c]) Q E s := by
  cases ty with
  | non => cases (show u = Value.none from rx); exact PySem.W.kia_one PySem.W.kitx_none I.kIn True.intro e (fun z => nomatch z) h
  | bl y => cases (show u = Value.bool y from rx); exact PySem.W.kia_one PySem.W.kitx_bool I.kIn True.intro e (fun z => nomatch z) h
  | int i => obtain ⟨t, q⟩ := (show ∃ t, u = Value.int i t from rx); cases q; exact PySem.W.kia_one PySem.W.kitx_int I.kIn True.intro e (fun z => nomatch z) h
  | str y => obtain ⟨t, q⟩ := (show ∃ t, u = Value.str y t from rx); cases q; exact PySem.W.kia_one PySem.W.kitx_str I.kIn True.intro e (fun z => nomatch z) h
  | flt y => obtain ⟨t, q⟩ := (show ∃ t, u = Value.float y t from rx); cases q; exact PySem.W.kia_one PySem.W.kitx_float I.kIn True.intro e (fun z => nomatch z) h
  | @lst a xs ea =>
    cases (show u = Value.ref a from rx)
    obtain ⟨_, _, n, _, h1⟩ := (show ObjOk X.prog X.w H s.heap a (.lst xs) from I.hok a _ ea)
    exact PySem.W.kia_one PySem.W.kitx_list I.kIn ⟨_, h1, rfl⟩ e (fun z => nomatch z) h
  | @frz a ob xs ea =>
    cases (show u = Value.ref a from rx)
    obtain ⟨_, _, _, n, _, h1⟩ := (show ObjOk X.prog X.w H s.heap a (.frz ob (.lst xs)) from I.hok a _ ea)
    exact PySem.W.kia_one PySem.W.kitx_list I.kIn ⟨_, h1, rfl⟩ e (fun z => nomatch z) h
  | @tup a xs ea =>
    cases (show u = Value.ref a from rx)
    obtain ⟨_, _, _, p⟩ := (show ObjOk X.prog X.w H s.heap a (.tup xs) from I.hok a _ ea)
    obtain ⟨o, h1, h2, _⟩ := p
    exact PySem.W.kia_one PySem.W.kitx_tuple I.kIn ⟨o, h1, h2⟩ e (fun z => nomatch z) h
  | @dK a kvs ea =>
    cases (show u = Value.ref a from rx)
    obtain ⟨_, _, vs, _, p⟩ := (show ObjOk X.prog X.w H s.heap a (.dK kvs) from I.hok a _ ea)
    obtain ⟨o, es, ep, h1, h2, _⟩ := p
    exact PySem.W.kia_one PySem.W.kitx_dict I.kIn ⟨o, h1, h2.1⟩ e (fun z => nomatch z) h
  | @dT a kvs ea =>
    cases (show u = Value.ref a from rx)
    obtain ⟨_, _, xs, _, o, es, ep, h1, h2, _⟩ := (show ObjOk X.prog X.w H s.heap a (.dT kvs) from I.hok a _ ea)
    exact PySem.W.kia_one PySem.W.kitx_dict I.kIn ⟨o, h1, h2.1⟩ e (fun z => nomatch z) h
  | @ins a C dx fs ea cl ha hn htk hm =>
    cases (show u = Value.ref a from rx)
    obtain ⟨mA, O, _⟩ := ins_get I.hok ea
    obtain ⟨od, J, _⟩ := O.look
    exact PySem.W.kia_one (PySem.W.kitx_own (cl.get _) cl.hd ha hn htk hm) I.kIn J e (fun z => nomatch z) h
end
end L2
namespace L2
open PySem PySem.Spec PyProof.Rows
structure Room (k : Nat) (A : Around) : Prop where
  hd : A.handled = none
  dp : A.depth + 3 * k + 5 < recursionLimit
  un : A.units + 16 * k + 200 < cLine
  gd : A.guards = some []
theorem Room.mono {j k : Nat} {A : Around} (r : Room k A) (h : j ≤ k) : Room j A := ⟨r.hd, by have := r.dp; omega, by have := r.un; omega, r.gd⟩
theorem guards_deeper {A : Around} {env : Env} (h : A.guards = some []) : (A.deeper env).guards = some [] := by
  first | exact h | simp [Around.deeper, Around.under, Code.guards, Code.isGuard, pushGuards, h]
theorem Room.deeper {k : Nat} {A : Around} (r : Room (k + 1) A) (env : Env) : Room k (A.deeper env) :=
  ⟨r.hd, by have := r.dp; show A.depth + 1 + 3 * k + 5 < _; omega, by have := r.un; show A.units + 3 + 16 * k + 200 < _; omega, guards_deeper r.gd⟩
theorem Room.depth {k : Nat} {A : Around} (r : Room k A) : A.depth < recursionLimit := by have := r.dp; omega
theorem Room.units {k : Nat} {A : Around} (r : Room k A) : A.units + 64 < cLine := by have := r.un; omega
def tNil : TA := fun _ H Q => Q [] H
def tCons (ta : TE) (tr : TA) : TA := fun σ H Q => ta σ H fun x H1 => tr σ H1 fun xs H2 => Q (x :: xs) H2
section
variable {X : Cx} {e : Expr} {es : List Expr} {te : TE} {t : TA} {pos : Pos}
theorem pa_nil : PA X [] tNil := fun _ _ _ _ H Q I h => Calls.spliced_nil ⟨[], H, I, .nil, h⟩
theorem pa_cons (ha : PE X e te) (hr : PA X es t) (hs : starEach (e :: es) X.env = (false, eval e X.env) :: starEach es X.env := by rfl) : PA X (e :: es) (tCons te t) := by
  intro pos pins s σ H Q I h
  rw [hs]
  show wpAny _ _ (spliced ((false, eval e X.env) :: backTo pos (starEach es X.env))) _ _ s
  refine Calls.spliced_cons (thn (ha pins s σ H _ I h) fun u s1 ⟨x, H1, I1, r1, q1⟩ => ?_)
  exact thn (hr pos pins s1 σ H1 _ I1 q1) fun us s2 ⟨xs, H2, I2, r2, q2⟩ => ⟨x :: xs, H2, I2, .cons r1 r2, q2⟩
def tTup (t : TA) : TE := fun σ H Q => t σ H fun xs H1 => xs.length ≤ sizeLine ∧ ∀ p, H1 p = none → Q (.ref p) (upd H1 p (.tup xs))
def tLst (t : TA) : TE := fun σ H Q => t σ H fun xs H1 => xs.length ≤ sizeLine ∧ ∀ p, H1 p = none → Q (.ref p) (upd H1 p (.lst xs))
theorem pe_tup {x1} (h : PA X es t) : PE X (.Tuple es x1 pos) (tTup t) := by
  intro pins s σ H Q I hq
  refine wpAny_Tuple_spliced (thn (h pos pins s σ H _ I hq) fun us s1 ⟨xs, H1, I1, r, z, q⟩ => ⟨by rw [← r.length]; exact z, ?_⟩)
  have hf : H1 s1.heap.objs.size = none := I1.hok.fresh (Nat.le_refl _)
  refine ⟨.ref s1.heap.objs.size, upd H1 s1.heap.objs.size (.tup xs), I1.laid (t' := s1.toks) (fun b u e => Heap.get?_push_of_some _ e) (Nat.le_refl _) ?_, rfl, q _ hf⟩
  exact ⟨z, us, r, ⟨_, Heap.get?_push_size _ rfl, rfl, _, rfl⟩⟩
theorem pe_lst (h : PA X es t) : PE X (.List es pos) (tLst t) := by
  intro pins s σ H Q I hq
  refine wpAny_List_spliced (thn (h pos pins s σ H _ I hq) fun us s1 ⟨xs, H1, I1, r, z, q⟩ => ⟨by rw [← r.length]; exact z, ?_⟩)
  have hf : H1 s1.heap.objs.size = none := I1.hok.fresh (Nat.le_refl _)
  refine ⟨.ref s1.heap.objs.size, upd H1 s1.heap.objs.size (.lst xs), I1.laid (t' := s1.toks) (fun b u e => Heap.get?_push_of_some _ e) (Nat.le_refl _) ?_, rfl, q _ hf⟩
  exact ⟨z, us, 0, r, Heap.get?_push_size _ rfl⟩
end
abbrev Sp := List V → Hp → VK → XK → Prop
abbrev CXT := List Env → Hp → Shared → XK → Value → Shared → Prop
structure Env0 (P : Program) (w : World) (K : PySem.W.Frag) (mg : Str → Option Value) (base : Heap) (A : Around) (outer : List Env) (s : Shared) (H : Hp) : Prop where
  frames : A.frames = some outer
  mod : Mod K mg base
  bs : ∀ b o, base.get? b = some o → s.heap.get? b = some o ∧ H b = none
  bsz : base.objs.size ≤ s.heap.objs.size
  funs : s.heap.FunFrames base outer
  frf : ∀ b ∈ frs outer, H b = none
  hok : HOk P w H s.heap
  bare : AllBare s.gens
def CE (outer : List Env) (P : Program) (w : World) (H : Hp) (s : Shared) (Q : VK) (u : Value) (s' : Shared) : Prop :=
  ∃ v H', s'.os = s.os ∧ AllBare s'.gens ∧ Un (frs outer) [] H H' s.heap s'.heap ∧ HOk P w H' s'.heap ∧ RelV v u ∧ Q v H'
def CR (CX : CXT) (outer : List Env) (P : Program) (w : World) (H : Hp) (s : Shared) (Q : VK) (E : XK) (r : Result) (s' : Shared) : Prop :=
  match r with
  | .ok (.ret u) => CE outer P w H s Q u s'
  | .ok _ => False
  | .error e => CX outer H s E e s'
structure FnOk (P : Program) (w : World) (K : PySem.W.Frag) (mg : Str → Option Value) (base : Heap) (CX : CXT) (k : Nat) (f : Addr) (fd : FuncData) (ps : List Str) (sp : Sp) : Prop where
  len : ∀ vs H Q E, sp vs H Q E → vs.length = ps.length
  run : ∀ (A : Around) (outer : List Env) (s : Shared) (H : Hp) (args : Args) (us : List Value) (vs : List V) (Q : VK) (E : XK), Room k A → Env0 P w K mg base A outer s H → BindsTo s fd args (ps.zip us) → Vals vs us → sp vs H Q E →
    codeAny (model P w) A (.call (.ref f) args) (CR CX outer P w H s Q E) s
section
variable {X : Cx} {pins : List (Addr × Obj)} {σ : St} {H : Hp} {s s' : Shared}
theorem Inv.env0 (I : Inv X pins σ H s) : Env0 X.prog X.w X.K X.mg X.base X.A X.stack s H :=
  ⟨I.ok.frames, I.ok.mod, I.bs, Nat.le_trans I.ok.bsz I.sz, I.stack, I.stkFree, I.hok, I.bare⟩
theorem Inv.after {Q : VK} {u : Value} (I : Inv X pins σ H s) (h : CE X.stack X.prog X.w H s Q u s') : EP X pins σ Q u s' := by
  obtain ⟨v, H', os, bare, un, hok, r, q⟩ := h
  obtain ⟨hh, g, d, t, os'⟩ := s'
  obtain rfl : os' = s.os := os
  exact ⟨v, H', I.call (h' := hh) (g' := g) (d' := d) (t' := t) (ch := []) un hok bare (fun b z => absurd z (by simp)), r, q⟩
end
def tCall (sp : Sp) (dvs : List V) (E : XK) (t : TA) : TE := fun σ H Q => t σ H fun vs H1 => sp (vs ++ dvs) H1 Q E
def Binds (K : PySem.W.Frag) (fd : FuncData) (ps : List Str) (ds : List Value) : Prop :=
  ∀ (s : Shared) (us : List Value), K.In s.heap → (us ++ ds).length = ps.length → BindsTo s fd ⟨us, []⟩ (ps.zip (us ++ ds))
theorem Binds.all {K : PySem.W.Frag} {fd : FuncData} {ps : List Str} (h : ∀ us : List Value, us.length = ps.length → bindArgs fd ⟨us, []⟩ = pure (ps.zip us)) : Binds K fd ps [] := fun s us _ hl => by
  rw [List.append_nil] at hl ⊢
  exact .of_eq (h us hl)
def Passes (CX : CXT) (X : Cx) (E : XK) : Prop := ∀ (pins : List (Addr × Obj)) (σ : St) (H : Hp) (s : Shared) (e : Value) (s' : Shared), Inv X pins σ H s → CX X.stack H s E e s' → X.xe e s'
section
variable {X : Cx} {CX : CXT} {k : Nat} {f C : Addr} {fd : FuncData} {ps : List Str} {sp : Sp} {dvs : List V} {ds : List Value} {E : XK} {x m : Str} {p pos apos : Pos} {e o : Expr} {es : List Expr} {ta : TE} {t : TA}
theorem run_fn {pins : List (Addr × Obj)} {σ : St} {H : Hp} {s : Shared} {Q : VK} {us : List Value} {vs : List V} (F : FnOk X.prog X.w X.K X.mg X.base CX k f fd ps sp) (hr : Room k X.A) (hb : Binds X.K fd ps ds) (hd : Vals dvs ds) (hx : Passes CX X E)
    (I : Inv X pins σ H s) (r : Vals vs us) (h : sp (vs ++ dvs) H Q E) : wpAny (model X.prog X.w) X.A (call (.ref f) us) (EP X pins σ Q) X.xe s := by
  have r2 : Vals (vs ++ dvs) (us ++ ds) := r.append hd
  have hl : (us ++ ds).length = ps.length := by rw [← r2.length]; exact F.len _ _ _ _ h
  refine wpAny_call (codeAny_mono (F.run X.A X.stack s H ⟨us, []⟩ (us ++ ds) (vs ++ dvs) Q E hr I.env0 (hb s us I.kIn hl) r2 h) fun r s' hq => ?_)
  cases r with
  | error e => exact hx pins σ H s e s' I hq
  | ok fl =>
    cases fl with
    | ret u => exact I.after hq
    | next => exact False.elim hq
    | brk => exact False.elim hq
    | cont => exact False.elim hq
theorem pe_call (F : FnOk X.prog X.w X.K X.mg X.base CX k f fd ps sp) (hr : Room k X.A) (hg : Gl X x) (hm : X.mg x = some (.ref f)) (hk : PySem.W.keepIn X.K (.ref f) = true) (hb : Binds X.K fd ps ds) (hd : Vals dvs ds) (hx : Passes CX X E)
    (ha : PA X (e :: es) t) (hdb : (x == ("__debug__" : Str)) = false := by decide) (he : starEach (e :: es) X.env = (false, eval e X.env) :: starEach es X.env := by rfl) (hpl : (backTo pos (starEach es X.env)).any (·.1) = false := by rfl) :
    PE X (.Call (.Name x p) (e :: es) [] pos) (tCall sp dvs E t) := by
  intro pins s σ H Q I h
  refine wpAny_Call_Name_kw (ld_glob I hg hm ?_ hdb)
  refine PySem.W.callWith_K (h₀ := X.base) I.ok.mod.kin hk (thn (ha pos pins s σ H _ I h) fun us s1 ⟨vs, H1, I1, r, q⟩ => ⟨I1.kIn, ?_⟩) he hpl
  exact run_fn F hr hb hd hx I1 r q
end
section
variable {X : Cx} {CX : CXT} {k : Nat} {f C : Addr} {fd : FuncData} {ps ks : List Str} {sp : Sp} {E : XK} {x m : Str} {p pos apos kpos : Pos} {e o : Expr} {es : List Expr} {kws : List Keyword} {te ta : TE} {t tk : TA} {nm : Option Str}
variable {g : List Value → List Value → List Value} {gV : List V → List V → List V}
end
structure FnScope (N P : List Str) (sc : Scope) : Prop where
  kind : sc.kind = .function
  co : sc.isCoroutine = false
  gen : sc.isGenerator = false
  nd : N.Nodup
  pre : N.take P.length = P
  par : ∀ x ∈ P, sc.names.lookup x = some .local ∨ sc.names.lookup x = some .cell
  nofree : ∀ y ∈ sc.names, y.2 ≠ .free
theorem bindL_out {kindOf : Str → Option NameKind} {x : Str} : ∀ {binds : List (Str × Value)} {m : Str → Option Value}, (∀ v, (x, v) ∉ binds) → bindL kindOf binds m x = m x
  | [], _, _ => rfl
  | (n, v) :: r, m, h => by
    unfold bindL
    rw [bindL_out fun w hw => h w (List.mem_cons_of_mem _ hw)]
    split
    · have : x ≠ n := by rintro rfl; exact h v List.mem_cons_self
      simp [this]
    · rfl
theorem bindC_out {kindOf : Str → Option NameKind} {x : Str} : ∀ {binds : List (Str × Value)} {m : Str → Option Value}, (∀ v, (x, v) ∉ binds) → bindC kindOf binds m x = m x
  | [], _, _ => rfl
  | (n, v) :: r, m, h => by
    unfold bindC
    rw [bindC_out fun w hw => h w (List.mem_cons_of_mem _ hw)]
    split
    · rfl
    · have : x ≠ n := by rintro rfl; exact h v List.mem_cons_self
      simp [this]
theorem bindL_get {kindOf : Str → Option NameKind} {x : Str} {v : Value} : ∀ {P : List Str} {vs : List Value} {i : Nat} {m : Str → Option Value}, P.Nodup → P[i]? = some x → vs[i]? = some v → kindOf x = some .local →
    bindL kindOf (P.zip vs) m x = some v
  | [], _, _, _, _, h, _, _ => by simp at h
  | _ :: _, [], _, _, _, _, h, _ => by simp at h
  | p :: P, w :: vs, 0, m, nd, h1, h2, hk => by
    simp at h1 h2; subst h1; subst h2
    show bindL kindOf ((p, w) :: P.zip vs) m p = _
    unfold bindL
    rw [bindL_out fun v hv => (List.nodup_cons.mp nd).1 (List.of_mem_zip hv).1, if_pos hk]
    simp
  | p :: P, w :: vs, i + 1, m, nd, h1, h2, hk => by
    show bindL kindOf ((p, w) :: P.zip vs) m x = _
    unfold bindL
    exact bindL_get (i := i) (List.nodup_cons.mp nd).2 (by simpa using h1) (by simpa using h2) hk
theorem bindC_get {kindOf : Str → Option NameKind} {x : Str} {v : Value} : ∀ {P : List Str} {vs : List Value} {i : Nat} {m : Str → Option Value}, P.Nodup → P[i]? = some x → vs[i]? = some v → kindOf x ≠ some .local →
    bindC kindOf (P.zip vs) m x = some v
  | [], _, _, _, _, h, _, _ => by simp at h
  | _ :: _, [], _, _, _, _, h, _ => by simp at h
  | p :: P, w :: vs, 0, m, nd, h1, h2, hk => by
    simp at h1 h2; subst h1; subst h2
    show bindC kindOf ((p, w) :: P.zip vs) m p = _
    unfold bindC
    rw [bindC_out fun v hv => (List.nodup_cons.mp nd).1 (List.of_mem_zip hv).1, if_neg hk]
    simp
  | p :: P, w :: vs, i + 1, m, nd, h1, h2, hk => by
    show bindC kindOf ((p, w) :: P.zip vs) m x = _
    unfold bindC
    exact bindC_get (i := i) (List.nodup_cons.mp nd).2 (by simpa using h1) (by simpa using h2) hk
def start (N : List Str) (vs : List V) : St := vs.map some ++ List.replicate (N.length - vs.length) none
def cxOf (CX : CXT) (P : Program) (w : World) (K : PySem.W.Frag) (mg : Str → Option Value) (base : Heap) (N : List Str) (qual : Str) (scope : Scope) (f : Addr) (cd : Value) (A : Around) (outer : List Env) (s : Shared) (H : Hp) (E : XK) : Cx where
  prog := P
  w := w
  K := K
  mg := mg
  base := base
  A := A.deeper (envOfC qual scope s.heap.objs.size f cd)
  N := N
  s₀ := s
  H₀ := H
  env := envOfC qual scope s.heap.objs.size f cd
  outer := outer
  stack := envOfC qual scope s.heap.objs.size f cd :: outer
  ex := []
  calm := true
  fn := fun _ => true
  pn := []
  xe := fun e s' => wpAny (model P w) (A.deeper (envOfC qual scope s.heap.objs.size f cd)) (leaving (envOfC qual scope s.heap.objs.size f cd) e) (fun _ s'' => CX outer H s E e s'') (fun e' s'' => CX outer H s E e' s'') s'
theorem cell_has {sc : Scope} {n : Nat} {x : Str} (h : sc.names.lookup x = some .cell) : ∃ c, (cellsFrom n sc.names []).lookup x = some c := by
  have q := PySem.W.cellsFrom_some sc.names n [] (.inl h)
  exact Option.isSome_iff_exists.mp q
theorem inv_start {CX : CXT} {P : Program} {w : World} {K : PySem.W.Frag} {mg : Str → Option Value} {base : Heap} {N ps : List Str} {qual : Str} {scope : Scope} {f : Addr} {cd : Value} {A : Around} {outer : List Env} {s s1 : Shared} {H : Hp} {E : XK} {us : List Value} {vs : List V}
    (S : FnScope N ps scope) (hd : A.handled = none) (e0 : Env0 P w K mg base A outer s H) (hl : vs.length = ps.length) (r : Vals vs us)
    (x : InCallC s s.heap.objs.size (bindL (envOfC qual scope s.heap.objs.size f cd).kindOf (ps.zip us) fun _ => none) (cellsFrom (s.heap.objs.size + 1) scope.names []) (bindC (envOfC qual scope s.heap.objs.size f cd).kindOf (ps.zip us) fun _ => none) s1) :
    Inv (cxOf CX P w K mg base N qual scope f cd A outer s H E) [] (start N vs) H s1 := by
  have hpl : ps.length ≤ N.length := by have := congrArg List.length S.pre; rw [List.length_take] at this; omega
  obtain ⟨h1, tk, rfl, hk⟩ := x.done
  have noA : ∀ b : Addr, b ∉ (cxOf CX P w K mg base N qual scope f cd A outer s H E).ex := fun b z => absurd (show b ∈ ([] : List Addr) from z) (by simp)
  refine ⟨⟨e0.mod, S.kind, rfl, rfl, Nat.le_refl _, fun y z c h1 h2 => ?_, fun y hy => ?_, fun y c _ h => ?_, fun _ => hd, Around.frames_deeper e0.frames, .inr ⟨rfl, rfl⟩, fun b z => absurd z (noA b), e0.bs, e0.bsz, fun b _ _ => noA b, fun b z => absurd z (noA b), e0.funs, e0.frf⟩,
    rfl, e0.bare, Un.kept hk, ⟨_, x.toInCall.ns, fun i y v h1 h2 h3 => ?_⟩, fun y c h => ⟨_, x.cell y c h⟩, e0.hok.fresh (Nat.le_refl _), fun y c h => ?_, fun p hp => absurd (show p ∈ ([] : List (Addr × Obj)) from hp) (by simp), e0.hok.kept hk, ?_⟩
  · exact name_of_addr x.apart (PySem.mem_of_lookup h1) (PySem.mem_of_lookup h2)
  · have hy : scope.names.lookup y = some .cell ∨ scope.names.lookup y = some .free := hy
    rcases hy with hy | hy
    · exact cell_has hy
    · exact absurd rfl (S.nofree _ (PySem.mem_of_lookup hy))
  · exact Nat.le_of_lt (x.above y c (PySem.mem_of_lookup h))
  · have hi : i < vs.length := by
      unfold start at h2
      by_cases hi : i < vs.length
      · exact hi
      · rw [List.getElem?_append_right (by simpa using hi)] at h2
        rw [List.getElem?_replicate] at h2
        split at h2 <;> cases h2
    have ha : vs[i]? = some v := by
      unfold start at h2
      rw [List.getElem?_append_left (by simpa using hi), List.getElem?_map] at h2
      cases e : vs[i]? with
      | none => rw [e] at h2; cases h2
      | some a => rw [e] at h2; cases h2; rfl
    obtain ⟨u, hu, rv⟩ := r.get ha
    have hp : ps[i]? = some y := by
      rw [← S.pre, List.getElem?_take_of_lt (by omega)]; exact h1
    have ndP : ps.Nodup := by rw [← S.pre]; exact S.nd.sublist (List.take_sublist _ _)
    refine ⟨u, rv, ?_⟩
    rcases S.par y (List.mem_of_getElem? hp) with k | k
    · exact .inl ⟨k, bindL_get ndP hp hu k⟩
    · obtain ⟨c, e⟩ := cell_has (n := s.heap.objs.size + 1) k
      refine .inr ⟨.inl k, c, e, ?_⟩
      have q := x.cell y c e
      rw [bindC_get ndP hp hu (by show scope.names.lookup y ≠ _; rw [k]; decide)] at q
      exact q
  · exact e0.hok.fresh (Nat.le_of_lt (x.above y c (PySem.mem_of_lookup h)))
  · unfold start
    show _ = N.length
    rw [List.length_append, List.length_map, List.length_replicate]
    omega
theorem fn_of {CX : CXT} {P : Program} {w : World} {K : PySem.W.Frag} {mg : Str → Option Value} {base : Heap} {k : Nat} {f : Addr} {name qual : Str} {params : Arguments} {body : List Stmt} {scope : Scope} {dV kV doc pm cdv ct oc : Value} {an od : Option Addr}
    {osl : Array (Option Value)} {N ps : List Str} {sp : Sp} (lk : K.lookup f = some ⟨oc, od, .func (PySem.W.fnOf name qual params body scope dV kV doc pm an cdv ct), osl⟩) (hcd : PySem.W.codeIn K cdv qual = true) (S : FnScope N ps scope)
    (len : ∀ vs H Q E, sp vs H Q E → vs.length = ps.length)
    (hbody : ∀ (A : Around) (outer : List Env) (s : Shared) (H : Hp) (vs : List V) (Q : VK) (E : XK), Room k (A.deeper (envOfC qual scope s.heap.objs.size f cdv)) → sp vs H Q E →
      ∃ t, PSs (cxOf CX P w K mg base N qual scope f cdv A outer s H E) body t ∧ t { nx := fun _ H' => Q .non H', rt := Q } (start N vs) H) :
    FnOk P w K mg base CX (k + 1) f (PySem.W.fnOf name qual params body scope dV kV doc pm an cdv ct) ps sp := by
  refine ⟨len, fun A outer s H args us vs Q E hr e0 hb r hsp => ?_⟩
  have hl := len _ _ _ _ hsp
  have KX : K.In s.heap := e0.mod.kin.keeps fun b o e => (e0.bs b o e).1
  have lim : s.heap.NoLimit := e0.mod.nolimit.keeps fun b o e => (e0.bs b o e).1
  have hkind : ∀ y ∈ ps.zip us, scope.names.lookup y.1 = some .local ∨ (scope.names.lookup y.1 = some .cell ∧ ((cellsFrom (s.heap.objs.size + 1) scope.names []).lookup y.1).isSome = true) := fun ⟨n, v⟩ hy => by
    rcases S.par n (List.of_mem_zip hy).1 with q | q
    · exact .inl q
    · exact .inr ⟨q, PySem.W.cellsFrom_some _ _ _ (.inl q)⟩
  refine codeAny_call_function hr.depth (KX _ _ lk) rfl S.co S.gen rfl (PySem.W.codeRec_of KX hcd) (hb _ _ _ _ ?_)
  refine wpAny_newFunctionEnv_cells S.kind hkind fun env he s1 x => ?_
  subst he
  refine ⟨lim.keeps x.toInCall.keep, codeAny_func ?_⟩
  obtain ⟨t, ht, hq⟩ := hbody A outer s H vs Q E (hr.deeper _) hsp
  have I : Inv (cxOf CX P w K mg base N qual scope f cdv A outer s H E) [] (start N vs) H s1 := inv_start S hr.hd e0 hl r x
  refine wpAny_mono (ht [] s1 (start N vs) H _ I hq) (fun fl s' hs => ?_) fun e s' hs => hs
  have fin : ∀ {σ' : St} {H' : Hp} {v : V} {u : Value}, Inv (cxOf CX P w K mg base N qual scope f cdv A outer s H E) [] σ' H' s' → RelV v u → Q v H' → CE outer P w H s Q u s' :=
    fun {σ' H' v u} J rv q => ⟨v, H', J.os, J.bare, J.base, J.hok, rv, q⟩
  cases fl with
  | ret u =>
    obtain ⟨v, σ', H', J, rv, q⟩ := hs
    exact fin J rv q
  | next =>
    obtain ⟨σ', H', J, q⟩ := hs
    exact fin (v := V.non) (u := Value.none) J rfl q
  | brk =>
    obtain ⟨_, _, _, q⟩ := hs
    exact False.elim q
  | cont =>
    obtain ⟨_, _, _, q⟩ := hs
    exact False.elim q
end L2
namespace L2
open PySem PySem.Spec PyProof.Rows
section
variable {X : Cx} {x : Str} {p pos : Pos} {e : Expr} {es : List Expr} {t : TA} {id T : String} {r : List V → Hp → VK → Prop}
def tCB (r : List V → Hp → VK → Prop) (t : TA) : TE := fun σ H Q => t σ H fun vs H1 => r vs H1 Q
theorem pe_callB (hc : CallR X (.builtin id) r) (hg : Gl X x) (hm : X.mg x = none) (hv : bootBuiltins x = some (.builtin id)) (ha : PA X (e :: es) t) (hn : x ≠ "__name__" := by decide) (hdb : (x == ("__debug__" : Str)) = false := by decide)
    (he : starEach (e :: es) X.env = (false, eval e X.env) :: starEach es X.env := by rfl) (hpl : (backTo pos (starEach es X.env)).any (·.1) = false := by rfl) : PE X (.Call (.Name x p) (e :: es) [] pos) (tCB r t) := by
  intro pins s σ H Q I h
  refine wpAny_Call_Name_kw (ld_blt I hg hm hv ?_ hn hdb)
  exact PyProof.Rows.callWith_builtin1 (thn (ha pos pins s σ H _ I h) fun us s1 ⟨vs, H1, I1, r1, q1⟩ => hc pins s1 σ H1 vs us Q I1 r1 q1) he hpl
theorem pe_callTy (hc : CallR X (.type T) r) (hg : Gl X x) (hm : X.mg x = none) (hv : bootBuiltins x = some (.type T)) (ha : PA X (e :: es) t) (hn : x ≠ "__name__" := by decide) (hdb : (x == ("__debug__" : Str)) = false := by decide)
    (he : starEach (e :: es) X.env = (false, eval e X.env) :: starEach es X.env := by rfl) (hpl : (backTo pos (starEach es X.env)).any (·.1) = false := by rfl) : PE X (.Call (.Name x p) (e :: es) [] pos) (tCB r t) := by
  intro pins s σ H Q I h
  refine wpAny_Call_Name_kw (ld_blt I hg hm hv ?_ hn hdb)
  exact PyProof.Rows.callWith_type1 (thn (ha pos pins s σ H _ I h) fun us s1 ⟨vs, H1, I1, r1, q1⟩ => hc pins s1 σ H1 vs us Q I1 r1 q1) he hpl
end
end L2
namespace HT
open PySem PyProof.Rows
section
open PySem.SeqAt
open PySem.AutoSeq1 (wpAny_loadPart')
open PySem.MeetsSeq PySem.MeetsSeq2 PySem.MeetsSeq3
end
section
variable {prog : Program} {w : World} {A : Around} {E : Value → Shared → Prop} {s : Shared}
theorem cat_tup {t b : Addr} {vs ws : List Value} {Q : Value → Shared → Prop} (ht : IsTup s.heap t vs.toArray) (hb : IsTup s.heap b ws.toArray) (hv : vs ≠ [])
    (h1 : ws = [] → Q (.ref t) s) (h2 : ws ≠ [] → Q (.ref s.heap.objs.size) { s with heap := s.heap.push { cls := .type "tuple", data := .seq (vs ++ ws).toArray } })
    (hsz : vs.length + ws.length ≤ sizeLine) : wpAny (model prog w) A (binaryOp .Add (.ref t) (.ref b)) Q E s := by
  obtain ⟨⟨cls, dd, data, sl⟩, ho, hc, n, hd⟩ := id ht
  obtain ⟨⟨cls2, dd2, data2, sl2⟩, ho2, hc2, n2, hd2⟩ := id hb
  simp only at hc hd hc2 hd2
  subst hc hd hc2 hd2
  have e : vs.toArray ++ ws.toArray = (vs ++ ws).toArray := by simp
  by_cases hw : ws = []
  · exact concat_meets ⟨_, ho, rfl⟩ ⟨_, ho2, rfl⟩ noFill_tuple_add seq_tuple_add PySem.F.slot_tuple_add PySem.F.entry_tuple_add (PySem.F.args_tuple_add_2 _ _)
      (tuple_addW1 t b vs.toArray ws.toArray n n2 dd dd2 sl sl2 (by simpa using hv) (by simp [hw])) ⟨ho, ho2, h1 hw⟩
  · refine concat_meets ⟨_, ho, rfl⟩ ⟨_, ho2, rfl⟩ noFill_tuple_add seq_tuple_add PySem.F.slot_tuple_add PySem.F.entry_tuple_add (PySem.F.args_tuple_add_2 _ _)
      (tuple_addW2 t b vs.toArray ws.toArray n n2 dd dd2 sl sl2 (by simpa using hv) (by simpa using hw) (by rw [List.size_toArray, List.size_toArray]; exact hsz)) ⟨ho, ho2, ?_⟩
    rw [e]
    exact h2 hw
def sIx (n d : Nat) : Option Int → Nat
  | none => d
  | some v => if v < 0 then (v + (n : Int)).toNat else min v.toNat n
theorem sIx_none (n d : Nat) : sIx n d none = d := rfl
theorem sIx_nat (n d k : Nat) : sIx n d (some (k : Int)) = min k n := by
  show (if (k : Int) < 0 then ((k : Int) + (n : Int)).toNat else min (k : Int).toNat n) = min k n
  rw [if_neg (by omega), Int.toNat_natCast]
theorem sIx_le (n d : Nat) (hd : d ≤ n) (o : Option Int) : sIx n d o ≤ n := by
  cases o with
  | none => exact hd
  | some v =>
    show (if v < 0 then (v + (n : Int)).toNat else min v.toNat n) ≤ n
    by_cases hv : v < 0
    · rw [if_pos hv]; omega
    · rw [if_neg hv]; exact Nat.min_le_right _ _
theorem clip_eq (v : Int) (n d : Nat) : (if v < 0 then max (v + (n : Int)) 0 else min v (n : Int)) = ((sIx n d (some v) : Nat) : Int) := by
  show (if v < 0 then max (v + (n : Int)) 0 else min v (n : Int)) = (((if v < 0 then (v + (n : Int)).toNat else min v.toNat n) : Nat) : Int)
  by_cases hv : v < 0
  · simp only [if_pos hv]; omega
  · simp only [if_neg hv]; omega
theorem adjust_gen (lo hi : Option Int) (n : Nat) : Builtin.Slice.sliceAdjust lo hi 1 (n : Int) = (((sIx n 0 lo : Nat) : Int), ((sIx n n hi : Nat) : Int)) := by
  have h1 : ¬ ((1 : Int) < 0) := by omega
  unfold Builtin.Slice.sliceAdjust
  simp only [h1, if_false]
  refine Prod.ext ?_ ?_
  · cases lo with
    | none => rfl
    | some v => exact clip_eq v n 0
  · cases hi with
    | none => rfl
    | some v => exact clip_eq v n n
theorem places_gen (i j : Nat) : Builtin.Slice.slicePlaces (i : Int) (j : Int) 1 = j - i := by
  unfold Builtin.Slice.slicePlaces
  have h1 : (1 : Int) > 0 := by omega
  simp only [h1, if_true, Int.ediv_one]
  split <;> omega
theorem slicePart_ {v : Value} {o : Option Int} {Q : Option Int → Shared → Prop} (p : IsPart v o) (h : Q o s) : wpAny (model prog w) A (Builtin.Slice.slicePartIndex v) Q E s := by
  cases p with
  | none => exact slicePart_none h
  | int i t => exact slicePart_int h
theorem sliceApplied_gen {sl : Addr} {vl vu : Value} {lo hi : Option Int} {n : Nat} {Q : Int × Int × Nat → Shared → Prop} (hs : s.heap.IsSliceOf sl vl vu .none) (pl : IsPart vl lo) (pu : IsPart vu hi)
    (h : Q (((sIx n 0 lo : Nat) : Int), 1, sIx n n hi - sIx n 0 lo) s) : wpAny (model prog w) A (Builtin.Slice.sliceApplied (.ref sl) (pure (n : Int))) Q E s := by
  obtain ⟨os, hos, hcs, hds⟩ := id hs
  unfold Builtin.Slice.sliceApplied Builtin.Slice.sliceFields
  refine wpAny_bind (wpAny_bind (wpAny_field hos hds (x := vl) rfl (wpAny_bind (wpAny_field hos hds (x := vu) rfl (wpAny_bind (wpAny_field hos hds (x := .none) rfl (wpAny_pure ?_)))))))
  refine wpAny_bind (slicePart_none ?_)
  show wpAny _ _ (if ((1 : Int) == 0) = true then _ else _) _ _ s
  rw [if_neg (by decide)]
  refine wpAny_bind (slicePart_ pl (wpAny_bind (slicePart_ pu (wpAny_bind (wpAny_pure ?_)))))
  show wpAny _ _ (match Builtin.Slice.sliceAdjust lo hi 1 (n : Int) with | (lo, hi) => pure (lo, (1 : Int), Builtin.Slice.slicePlaces lo hi 1)) _ _ s
  rw [adjust_gen lo hi n]
  show wpAny _ _ (pure (((sIx n 0 lo : Nat) : Int), (1 : Int), Builtin.Slice.slicePlaces ((sIx n 0 lo : Nat) : Int) ((sIx n n hi : Nat) : Int) 1)) _ _ s
  rw [places_gen]
  exact wpAny_pure h
theorem pick_gen (xs : Array Value) (i k : Nat) : ((List.range k).filterMap fun (m : Nat) => xs[((i : Int) + (m : Int) * 1).toNat]?).toArray = ((xs.toList.drop i).take k).toArray := by
  have e : (fun (m : Nat) => xs[((i : Int) + (m : Int) * 1).toNat]?) = fun m => xs[i + m]? := by
    funext m
    have : ((i : Int) + (m : Int) * 1).toNat = i + m := by omega
    rw [this]
  rw [e]
  have := pick_run xs i k
  rw [List.filterMap_map] at this
  have e2 : ((fun x => xs[x]?) ∘ fun x => i + x) = fun m => xs[i + m]? := rfl
  rw [e2] at this
  rw [this]
theorem getItem_tuple_cut {t sl : Addr} {items : Array Value} {vl vu : Value} {lo hi : Option Int} {Q : Value → Shared → Prop} (ht : IsTup s.heap t items) (hs : s.heap.IsSliceOf sl vl vu .none) (pl : IsPart vl lo) (pu : IsPart vu hi)
    (hw : ¬ (sIx items.size 0 lo = 0 ∧ sIx items.size items.size hi = items.size))
    (h : Q (.ref s.heap.objs.size) { s with heap := s.heap.push { cls := .type "tuple", data := .seq ((items.toList.drop (sIx items.size 0 lo)).take (sIx items.size items.size hi - sIx items.size 0 lo)).toArray } })
    (hsz : items.size ≤ sizeLine) : wpAny (model prog w) A (getItem (.ref t) (.ref sl)) Q E s := by
  have htake : sizeOk (.seq ((items.toList.drop (sIx items.size 0 lo)).take (sIx items.size items.size hi - sIx items.size 0 lo)).toArray) := by
    show ((items.toList.drop (sIx items.size 0 lo)).take (sIx items.size items.size hi - sIx items.size 0 lo)).toArray.size ≤ sizeLine
    rw [List.size_toArray, List.length_take, List.length_drop, Array.length_toList]
    omega
  have hj : sIx items.size items.size hi ≤ items.size := sIx_le _ _ (Nat.le_refl _) hi
  obtain ⟨os, hos, hcs, hds⟩ := id hs
  have hTs : s.TypeIs (.ref sl) "slice" := ⟨os, hos, hcs⟩
  unfold getItem
  try with_reducible refine wpAny_holding ?_
  first | refine wpAny_bind (wpAny_pure ?_) | skip
  refine wpAny_bind (wpAny_sequenceKey ht.typeIs (by decide) ?_)
  refine wpAny_bind (wpAny_callSpecial?_slot (name := Str.ofString "__getitem__") ht.typeIs PyProof.Rows.slot_tuple_getitem
    (wpAny_call_entry PyProof.Rows.slot_tuple_getitem ht.typeIs entry_tuple_getitem ?_ (args_tuple_getitem _ _)))
  show wpAny _ _ (Builtin.Tuple.tupleItemsOf (.ref t) >>= _) _ _ s
  refine wpAny_bind (tupleItemsOf_ ht ?_)
  refine wpAny_bind (wpAny_typeOf hTs ?_)
  rw [if_pos (by decide)]
  refine wpAny_bind (sliceApplied_gen hs pl pu ?_)
  have hno : ¬ ((((sIx items.size 0 lo : Nat) : Int) == 0 && (1 : Int) == 1 && (sIx items.size items.size hi - sIx items.size 0 lo) == items.size) = true) := by
    intro q
    rw [Bool.and_eq_true, Bool.and_eq_true] at q
    have q1 : ((sIx items.size 0 lo : Nat) : Int) = 0 := eq_of_beq q.1.1
    have q2 : sIx items.size items.size hi - sIx items.size 0 lo = items.size := eq_of_beq q.2
    exact hw ⟨by omega, by omega⟩
  show wpAny _ _ (if (((sIx items.size 0 lo : Nat) : Int) == 0 && (1 : Int) == 1 && (sIx items.size items.size hi - sIx items.size 0 lo) == items.size) = true then _ else _) _ _ s
  rw [if_neg hno, pick_gen]
  first
    | exact wpAny_bind (m := Builtin.Tuple.tupleExact _) (wpAny_newObj_type (wpAny_pure ⟨_, rfl, wpAny_pure h⟩) htake)
    | exact wpAny_bind (m := Builtin.Tuple.tupleExact _) (wpAny_newObj_type (wpAny_bind (wpAny_pure (wpAny_pure ⟨_, rfl, wpAny_pure h⟩))) htake)
    | exact wpAny_bind (wpAny_bind (m := Builtin.Tuple.tupleExact _) (wpAny_newObj_type (wpAny_pure (wpAny_pure ⟨_, rfl, wpAny_pure h⟩)) htake))
    | exact wpAny_bind (wpAny_bind (m := Builtin.Tuple.tupleExact _) (wpAny_newObj_type (wpAny_pure ⟨_, rfl, wpAny_pure h⟩) htake))
end
end HT
namespace L2
open PySem PySem.Spec PyProof.Rows
abbrev TO := St → Hp → (Option Int → Hp → Prop) → Prop
def PO (X : Cx) (e : Option Expr) (t : TO) : Prop :=
  ∀ (pins : List (Addr × Obj)) (s : Shared) (σ : St) (H : Hp) (Q : Option Int → Hp → Prop), Inv X pins σ H s → t σ H Q →
    wpAny (model X.prog X.w) X.A (evalPart e X.env) (fun u s' => ∃ o H', Inv X pins σ H' s' ∧ IsPart u o ∧ Q o H') X.xe s
def tNoPart : TO := fun _ H Q => Q none H
def tPart (t : TE) : TO := fun σ H Q => t σ H fun x H1 => ∃ i, x = .int i ∧ Q (some i) H1
section
variable {X : Cx} {e : Expr} {te : TE} {lo hi : Option Expr} {tl th : TO} {pos p2 : Pos}
theorem po_none : PO X none tNoPart := by
  intro pins s σ H Q I h
  rw [evalPart_none]
  exact wpAny_pure ⟨none, H, I, .none, h⟩
theorem po_some (h : PE X e te) : PO X (some e) (tPart te) := by
  intro pins s σ H Q I hw
  rw [evalPart_some]
  refine thn (h pins s σ H _ I hw) fun u s1 ⟨x, H1, I1, r1, q1⟩ => ?_
  obtain ⟨i, rfl, q⟩ := q1
  obtain ⟨t, rfl⟩ := r1
  exact ⟨some i, H1, I1, .int i t, q⟩
def SlR (X : Cx) (r : V → Option Int → Option Int → Hp → VK → Prop) : Prop :=
  ∀ (pins : List (Addr × Obj)) (s : Shared) (σ : St) (H : Hp) (x : V) (v vl vu : Value) (lo hi : Option Int) (sl : Addr) (Q : VK), Inv X pins σ H s → RelV x v → s.heap.IsSliceOf sl vl vu .none → IsPart vl lo → IsPart vu hi → r x lo hi H Q →
    ∃ T id, typeLookup (.type T) "__getitem__" = pure (some (.builtin id)) ∧ s.TypeIs v T ∧ wpAny (model X.prog X.w) X.A (getItem v (.ref sl)) (EP X pins σ Q) X.xe s
def tSl (r : V → Option Int → Option Int → Hp → VK → Prop) (te : TE) (tl th : TO) : TE := fun σ H Q => te σ H fun x H1 => tl σ H1 fun l H2 => th σ H2 fun u H3 => r x l u H3 Q
theorem pe_slice {r : V → Option Int → Option Int → Hp → VK → Prop} (hr : SlR X r) (he : PE X e te) (hl : PO X lo tl) (hu : PO X hi th) : PE X (.Subscript e (.Slice lo hi none p2) pos) (tSl r te tl th) := by
  intro pins s σ H Q I h
  refine Subscript_ (thn (he pins s σ H _ I h) fun v s1 ⟨x, H1, I1, r1, q1⟩ => ?_)
  refine wpAny_Slice (thn (hl pins s1 σ H1 _ I1 q1) fun vl s2 ⟨l, H2, I2, pl, q2⟩ => thn (hu pins s2 σ H2 _ I2 q2) fun vu s3 ⟨u, H3, I3, pu, q3⟩ => ?_)
  rw [evalPart_none]
  refine wpAny_pure ?_
  have I4 : Inv X pins σ H3 { s3 with heap := s3.heap.push { cls := .type "slice", data := .fields #[vl, vu, .none] } } := I3.kept (t' := s3.toks) fun b ob q => Heap.get?_push_of_some _ q
  obtain ⟨T, id, hT, ht, hg⟩ := hr pins { s3 with heap := s3.heap.push { cls := .type "slice", data := .fields #[vl, vu, .none] } } σ H3 x v vl vu l u s3.heap.objs.size Q I4 r1 (Heap.IsSliceOf.new ..) pl pu q3
  show wpAny (model X.prog X.w) X.A (subscriptTail e (.Slice lo hi none p2) v (.ref s3.heap.objs.size)) (EP X pins σ Q) X.xe { s3 with heap := s3.heap.push { cls := .type "slice", data := .fields #[vl, vu, .none] } }
  exact tail_any (ops := [.ref s3.heap.objs.size, v]) ht hT hg (by with_unfolding_all rfl)
def cutV (xs : List V) (lo hi : Option Int) : List V := (xs.drop (HT.sIx xs.length 0 lo)).take (HT.sIx xs.length xs.length hi - HT.sIx xs.length 0 lo)
theorem cutV_length (xs : List V) (lo hi : Option Int) : (cutV xs lo hi).length ≤ xs.length := by
  unfold cutV
  rw [List.length_take, List.length_drop]
  omega
def rSlT (K : PySem.W.Frag) : V → Option Int → Option Int → Hp → VK → Prop := fun x lo hi H Q => ∃ a xs, x = .ref a ∧ SqT K H a xs ∧
  ¬ (HT.sIx xs.length 0 lo = 0 ∧ HT.sIx xs.length xs.length hi = xs.length) ∧ ∀ p, H p = none → Q (.ref p) (upd H p (.tup (cutV xs lo hi)))
theorem sl_tup : SlR X (rSlT X.K) := by
  intro pins s σ H x v vl vu lo hi sl Q I rx hs pl pu h
  obtain ⟨a, xs, rfl, hx, hw, q⟩ := h
  cases rx
  obtain ⟨its, r, ht, hz⟩ := I.tuple hx
  have hlen : its.toArray.size = xs.length := by rw [List.size_toArray]; exact r.length.symm
  refine ⟨"tuple", _, PyProof.Rows.slot_tuple_getitem.lookup, ht.typeIs, ?_⟩
  refine HT.getItem_tuple_cut ht hs pl pu (by rw [hlen]; exact hw) ?_ (by rw [hlen]; exact hz)
  rw [hlen]
  refine ⟨.ref s.heap.objs.size, _, I.laid (t' := s.toks) (o := .tup (cutV xs lo hi)) (fun b ob q => Heap.get?_push_of_some _ q) (Nat.le_refl _) ?_, rfl, q _ (I.hok.fresh (Nat.le_refl _))⟩
  exact ⟨Nat.le_trans (cutV_length xs lo hi) hz, _, (r.drop (HT.sIx xs.length 0 lo)).take (HT.sIx xs.length xs.length hi - HT.sIx xs.length 0 lo), IsTup.new _ _⟩
def rCatT (K : PySem.W.Frag) : R2 := fun x y H Q => ∃ a b xs ys, x = .ref a ∧ y = .ref b ∧ SqT K H a xs ∧ SqT K H b ys ∧ xs ≠ [] ∧ xs.length + ys.length ≤ sizeLine ∧
  (ys = [] → Q (.ref a) H) ∧ (ys ≠ [] → ∀ p, H p = none → Q (.ref p) (upd H p (.tup (xs ++ ys))))
theorem Vals.nil_iff {xs : List V} {us : List Value} (r : Vals xs us) : us = [] ↔ xs = [] := by
  cases r with
  | nil => simp
  | cons _ _ => simp
theorem op_catT : OpR X (binaryOp .Add) (rCatT X.K) := by
  intro pins s σ H x y v u Q I rx ry h
  obtain ⟨a, b, xs, ys, rfl, rfl, ha, hb, hx, hz, q1, q2⟩ := h
  cases rx
  cases ry
  obtain ⟨its, r1, p1, _⟩ := I.tuple ha
  obtain ⟨its2, r2, p2, _⟩ := I.tuple hb
  refine HT.cat_tup p1 p2 (fun z => hx (r1.nil_iff.mp z)) (fun z => ⟨.ref a, H, I, rfl, q1 (r2.nil_iff.mp z)⟩) (fun z => ?_) (by rw [← r1.length, ← r2.length]; exact hz)
  refine ⟨.ref s.heap.objs.size, _, I.laid (t' := s.toks) (o := .tup (xs ++ ys)) (fun b ob q => Heap.get?_push_of_some _ q) (Nat.le_refl _) ?_, rfl, q2 (fun w => z (r2.nil_iff.mpr w)) _ (I.hok.fresh (Nat.le_refl _))⟩
  exact ⟨by rw [List.length_append]; exact hz, _, r1.append r2, IsTup.new _ _⟩
end
end L2
namespace L2
open PySem PySem.Spec PyProof.Rows
def ixN (n : Nat) (i : Int) : Option Nat := if 0 ≤ i then (if i < n then some i.toNat else none) else if -(n : Int) ≤ i then some (i + n).toNat else none
def atI {α : Type} (xs : List α) (i : Int) : Option α := (ixN xs.length i).bind fun j => xs[j]?
theorem ixN_seq {n : Nat} {i : Int} {j : Nat} (h : ixN n i = some j) : seqIndex? i n = some j ∧ j < n ∧ -(n : Int) ≤ i ∧ i < n := by
  unfold ixN at h
  by_cases h0 : 0 ≤ i
  · rw [if_pos h0] at h
    by_cases h1 : i < n
    · rw [if_pos h1] at h
      have e : i.toNat = j := Option.some.inj h
      exact ⟨by rw [seqIndex_of h0 h1, e], by omega, by omega, h1⟩
    · rw [if_neg h1] at h; cases h
  · rw [if_neg h0] at h
    by_cases h1 : -(n : Int) ≤ i
    · rw [if_pos h1] at h
      have e : (i + n).toNat = j := Option.some.inj h
      exact ⟨by rw [seqIndex_neg (by omega) h1, e], by omega, h1, by omega⟩
    · rw [if_neg h1] at h; cases h
theorem atI_get {α : Type} {xs : List α} {i : Int} {v : α} (h : atI xs i = some v) : ∃ j, seqIndex? i xs.length = some j ∧ xs[j]? = some v ∧ j < xs.length ∧ -(xs.length : Int) ≤ i ∧ i < xs.length := by
  unfold atI at h
  cases e : ixN xs.length i with
  | none => rw [e] at h; cases h
  | some j =>
    rw [e] at h
    obtain ⟨h1, h2, h3, h4⟩ := ixN_seq e
    exact ⟨j, h1, h, h2, h3, h4⟩
theorem atI_nat {α : Type} {xs : List α} {j : Nat} {v : α} (h : xs[j]? = some v) : atI xs (j : Int) = some v := by
  have hj : j < xs.length := (List.getElem?_eq_some_iff.mp h).1
  have e : ixN xs.length (j : Int) = some j := by
    unfold ixN
    rw [if_pos (by omega), if_pos (by omega)]; simp
  unfold atI; rw [e]; exact h
def PlainIx (b : Expr) : Prop := ∀ o i, subscripted b false o i = operate [o, i] (getItem o i)
def IxR (X : Cx) (r : R2) : Prop :=
  ∀ (value slice : Expr) (pins : List (Addr × Obj)) (s : Shared) (σ : St) (H : Hp) (x y : V) (v u : Value) (Q : VK), Inv X pins σ H s → RelV x v → RelV y u → r x y H Q →
    subscripted slice false v u = operate [v, u] (getItem v u) → wpAny (model X.prog X.w) X.A (subscriptTail value slice v u) (EP X pins σ Q) X.xe s
def MtR (X : Cx) (id : String) (r : V → List V → Hp → VK → Prop) : Prop :=
  ∀ (pins : List (Addr × Obj)) (s : Shared) (σ : St) (H : Hp) (x : V) (xs : List V) (v : Value) (us : List Value) (Q : VK), Inv X pins σ H s → RelV x v → Vals xs us → r x xs H Q →
    wpAny (model X.prog X.w) X.A (call (.builtin id) (v :: us)) (EP X pins σ Q) X.xe s
section
variable {X : Cx} {a b : Expr} {ta tb : TE} {pos : Pos}
theorem pe_ix {r : R2} (hr : IxR X r) (ha : PE X a ta) (hb : PE X b tb) (hs : PlainIx b) : PE X (.Subscript a b pos) (tOp r ta tb) := by
  intro pins s σ H Q I h
  exact Subscript_ (binT ha hb I h fun v u s2 x y H2 I2 rx ry q => hr a b pins s2 σ H2 x y v u Q I2 rx ry q (hs _ _))
def rIxL (K : PySem.W.Frag) : R2 := fun x y H Q => ∃ p xs i v, x = .ref p ∧ y = .int i ∧ SqL K H p xs ∧ atI xs i = some v ∧ Q v H
def rIxT (K : PySem.W.Frag) : R2 := fun x y H Q => ∃ p xs i v, x = .ref p ∧ y = .int i ∧ SqT K H p xs ∧ atI xs i = some v ∧ Q v H
theorem ix_list : IxR X (rIxL X.K) := by
  intro value slice pins s σ H x y v u Q I rx ry h hs
  obtain ⟨p, xs, i, z, rfl, rfl, hq, he, q⟩ := h
  cases rx
  obtain ⟨t, rfl⟩ := ry
  obtain ⟨its, r, pl, hz⟩ := I.list hq
  obtain ⟨j, h1, h2, h3, h4, h5⟩ := atI_get he
  obtain ⟨w, ew, rw'⟩ := r.get h2
  have hl := r.length
  have hn := line63
  have fin : EP X pins σ Q w s := ⟨z, H, I, rw', q⟩
  by_cases h0 : 0 ≤ i
  · have hj : i.toNat = j := by
      rw [seqIndex_of h0 h5] at h1
      exact Option.some.inj h1
    exact item_listR pl.isList h0 (by omega) (by rw [hj]; simpa using ew) fin hs
  · have hj : (i + (its.toArray.size : Int)).toNat = j := by
      rw [seqIndex_neg (by omega) h4] at h1
      rw [List.size_toArray, ← hl]
      exact Option.some.inj h1
    exact subscriptTail_builtinR (x := w) pl.isList.typeIs slot_list_getitem.lookup
      (wpAny_getItem_list_neg (Q := fun r s' => r = w ∧ EP X pins σ Q r s') pl.isList (by omega) (by rw [List.size_toArray] <;> omega) (by omega) (by rw [hj]; simpa using ew) ⟨rfl, fin⟩) hs
theorem ix_tup : IxR X (rIxT X.K) := by
  intro value slice pins s σ H x y v u Q I rx ry h hs
  obtain ⟨p, xs, i, z, rfl, rfl, hq, he, q⟩ := h
  cases rx
  obtain ⟨t, rfl⟩ := ry
  obtain ⟨its, r, pl, hz⟩ := I.tuple hq
  obtain ⟨j, h1, h2, h3, h4, h5⟩ := atI_get he
  obtain ⟨w, ew, rw'⟩ := r.get h2
  have hl := r.length
  have hn := line63
  have fin : EP X pins σ Q w s := ⟨z, H, I, rw', q⟩
  exact subscriptTail_builtinR (x := w) pl.typeIs slot_tuple_getitem.lookup
    (getItem_tuple (j := j) (Q := fun r s' => r = w ∧ EP X pins σ Q r s') pl (by omega) (by omega) (by rw [List.size_toArray, ← hl]; exact h1) (by simpa using ew) ⟨rfl, fin⟩) hs
theorem mapSeq_set (its : List Value) (n j : Nat) (u : Value) : Obj.mapSeq (·.setIfInBounds j u) { cls := .type "list", data := .seq its.toArray n } = { cls := .type "list", data := .seq (its.set j u).toArray n } := by
  simp [Obj.mapSeq]
theorem Inv.lst {pins : List (Addr × Obj)} {σ : St} {H : Hp} {s : Shared} {p : Addr} {xs : List V} (I : Inv X pins σ H s) (h : H p = some (.lst xs)) :
    ∃ (its : List Value) (n : Nat), Vals xs its ∧ s.heap.get? p = some { cls := .type "list", data := .seq its.toArray n } ∧ xs.length ≤ sizeLine := by
  obtain ⟨z, its, n, r, e⟩ := I.hok p _ h
  exact ⟨its, n, r, e, z⟩
theorem Inv.lstUpd {pins : List (Addr × Obj)} {σ : St} {H : Hp} {s : Shared} {p : Addr} {xs ys : List V} {its its' : List Value} {n n' : Nat} {f : Obj → Obj} (I : Inv X pins σ H s) (h : H p = some (.lst xs))
    (ho : s.heap.get? p = some { cls := .type "list", data := .seq its.toArray n }) (hf : f { cls := .type "list", data := .seq its.toArray n } = { cls := .type "list", data := .seq its'.toArray n' }) (r : Vals ys its') (hz : ys.length ≤ sizeLine) (t : Nat) :
    Inv X pins σ (upd H p (.lst ys)) { s with heap := s.heap.update p f, toks := t } := by
  have e : (s.heap.update p f).get? p = some { cls := .type "list", data := .seq its'.toArray n' } := by
    rw [Heap.get?_update_self f ho (by rw [hf] <;> rfl), hf]
  refine I.write (x := p) (e := p) (by rw [h]; trivial) (.inl rfl) (fun b u hb q => (Heap.get?_update_other _ _ (Ne.symm hb)).trans q) ⟨_, e⟩ ?_
  exact ⟨hz, its', n', r, e⟩
def rSetL : V → V → V → Hp → (Hp → Prop) → Prop := fun o i v H Q => ∃ p xs k j, o = .ref p ∧ i = .int k ∧ H p = some (.lst xs) ∧ ixN xs.length k = some j ∧ Q (upd H p (.lst (xs.set j v)))
theorem set_list : PSet X rSetL := by
  intro pins s σ H o i v ov iv u Q I ro ri rv h
  obtain ⟨p, xs, k, j, rfl, rfl, hp, hj, q⟩ := h
  cases ro
  obtain ⟨t, rfl⟩ := ri
  obtain ⟨its, n, r, ho, hz⟩ := I.lst hp
  obtain ⟨h1, h2, h3, h4⟩ := ixN_seq hj
  have hl := r.length
  have hn := line63
  have I' : Inv X pins σ (upd H p (.lst (xs.set j v))) { s with heap := s.heap.update p (Obj.mapSeq (·.setIfInBounds j u)) } :=
    I.lstUpd hp ho (mapSeq_set its n j u) (r.set rv j) (by rw [List.length_set]; exact hz) s.toks
  by_cases h0 : 0 ≤ k
  · have hk : k.toNat = j := by
      rw [seqIndex_of h0 h4] at h1
      exact Option.some.inj h1
    exact PySem.W.ki_setAt ho h0 (by omega) (by rw [List.size_toArray, ← hl]; exact h4) (by rw [hk]; exact ⟨_, I', q⟩)
  · have hk : (k + (its.toArray.size : Int)).toNat = j := by
      rw [seqIndex_neg (by omega) h3] at h1
      rw [List.size_toArray, ← hl]
      exact Option.some.inj h1
    exact PySem.W.ki_setBack ho (by omega) (by rw [List.size_toArray, ← hl]; exact h3) (by omega) (by rw [hk]; exact ⟨_, I', q⟩)
theorem slice_bounds (lo hi : Option Int) (n : Nat) : (sliceBounds lo hi none n).1 = ((HT.sIx n 0 lo : Nat) : Int) ∧ (sliceBounds lo hi none n).2.1 = ((HT.sIx n n hi : Nat) : Int) ∧ (sliceBounds lo hi none n).2.2 = 1 := by
  refine ⟨?_, ?_, rfl⟩
  · cases lo with
    | none => simp [sliceBounds, HT.sIx]
    | some i =>
      simp only [sliceBounds, HT.sIx, Option.getD_none, show (1 : Int) > 0 by decide, if_true]
      by_cases h : i < 0
      · simp only [h, if_true] <;> omega
      · simp only [h, if_false] <;> omega
  · cases hi with
    | none => simp [sliceBounds, HT.sIx]
    | some i =>
      simp only [sliceBounds, HT.sIx, Option.getD_none, show (1 : Int) > 0 by decide, if_true]
      by_cases h : i < 0
      · simp only [h, if_true] <;> omega
      · simp only [h, if_false] <;> omega
theorem slicePick_cut (its : List Value) (lo hi : Option Int) : slicePick its.toArray lo hi none = ((its.drop (HT.sIx its.length 0 lo)).take (HT.sIx its.length its.length hi - HT.sIx its.length 0 lo)).toArray := by
  obtain ⟨h1, h2, h3⟩ := slice_bounds lo hi its.toArray.size
  unfold slicePick
  rw [h1, h2, h3]
  simp only [sliceRange_one, pick_run, List.size_toArray] <;> rfl
def rSlL (K : PySem.W.Frag) : V → Option Int → Option Int → Hp → VK → Prop := fun x lo hi H Q => ∃ a xs, x = .ref a ∧ SqL K H a xs ∧ ∀ p, H p = none → Q (.ref p) (upd H p (.lst (cutV xs lo hi)))
theorem sl_list : SlR X (rSlL X.K) := by
  intro pins s σ H x v vl vu lo hi sl Q I rx hs pl pu h
  obtain ⟨a, xs, rfl, hx, q⟩ := h
  cases rx
  obtain ⟨its, r, ht, hz⟩ := I.list hx
  have hlen := r.length
  refine ⟨"list", _, slot_list_getitem.lookup, ht.isList.typeIs, ?_⟩
  refine wpAny_getItem_list_slice ht.isList hs pl pu .none (by simp) ?_ (by rw [List.size_toArray] <;> omega)
  rw [slicePick_cut, ← hlen]
  refine ⟨.ref s.heap.objs.size, _, I.laid (t' := s.toks) (o := .lst (cutV xs lo hi)) (fun b ob q => Heap.get?_push_of_some _ q) (Nat.le_refl _) ?_, rfl, q _ (I.hok.fresh (Nat.le_refl _))⟩
  exact ⟨Nat.le_trans (cutV_length xs lo hi) hz, _, 0, (r.drop (HT.sIx xs.length 0 lo)).take (HT.sIx xs.length xs.length hi - HT.sIx xs.length 0 lo), Heap.get?_push_size _ rfl⟩
theorem call_len_seq : CallR X (.builtin "len") (fun xs H Q => ∃ p ys, xs = [.ref p] ∧ (SqL X.K H p ys ∨ SqT X.K H p ys) ∧ Q (.int ys.length) H) := by
  intro pins s σ H xs us Q I r h
  obtain ⟨p, ys, rfl, hq, q⟩ := h
  obtain ⟨u, rfl, rx⟩ := vals1 r
  cases rx
  have hn := line63
  rcases hq with hq | hq
  · obtain ⟨its, r', pl, hz⟩ := I.list hq
    have hlen := r'.length
    exact Calls.call_len_list pl.isList (by simp only [List.size_toArray] <;> omega) ⟨.int ys.length, H, I.tok _, ⟨s.toks + 1, by rw [List.size_toArray, hlen]⟩, q⟩
  · obtain ⟨its, r', pl, hz⟩ := I.tuple hq
    have hlen := r'.length
    exact len_tuple pl (by simp only [List.size_toArray] <;> omega) ⟨.int ys.length, H, I.tok _, ⟨s.toks + 1, by rw [List.size_toArray, hlen]⟩, q⟩
theorem call_list_of : CallR X (.type "list") (fun xs H Q => ∃ p ys, xs = [.ref p] ∧ (SqL X.K H p ys ∨ SqT X.K H p ys) ∧ ∀ l, H l = none → Q (.ref l) (upd H l (.lst ys))) := by
  intro pins s σ H xs us Q I r h
  obtain ⟨p, ys, rfl, hq, q⟩ := h
  obtain ⟨u, rfl, rx⟩ := vals1 r
  cases rx
  have fin : ∀ (its : List Value), Vals ys its → ys.length ≤ sizeLine → ∀ (h' : Heap) (c' : Nat), (∀ b o', s.heap.get? b = some o' → h'.get? b = some o') →
      h'.get? s.heap.objs.size = some { cls := .type "list", dict := none, data := .seq its.toArray c', slots := #[] } → EP X pins σ Q (.ref s.heap.objs.size) { s with heap := h' } := fun its r' hz h' c' kp e =>
    ⟨.ref s.heap.objs.size, _, I.laid (t' := s.toks) kp (Nat.le_refl _) (show ObjOk X.prog X.w _ h' _ (.lst ys) from ⟨hz, its, c', r', e⟩), rfl, q _ (I.hok.fresh (Nat.le_refl _))⟩
  rcases hq with hq | hq
  · obtain ⟨its, r', pl, hz⟩ := I.list hq
    have hlen := r'.length
    obtain ⟨o, ho, hc, n, hd⟩ := pl.isList
    exact call_list_seq p (.inl rfl) ho hc hd (fun h' c' kp e => fin its r' hz h' c' kp e) (by simp only [List.size_toArray] <;> omega)
  · obtain ⟨its, r', pl, hz⟩ := I.tuple hq
    have hlen := r'.length
    obtain ⟨o, ho, hc, n, hd⟩ := pl
    exact call_list_seq p (.inr rfl) ho hc hd (fun h' c' kp e => fin its r' hz h' c' kp e) (by simp only [List.size_toArray] <;> omega)
theorem call_tuple_of : CallR X (.type "tuple") (fun xs H Q => ∃ p ys, xs = [.ref p] ∧ ((SqL X.K H p ys ∧ ∀ l, H l = none → Q (.ref l) (upd H l (.tup ys))) ∨ (SqT X.K H p ys ∧ Q (.ref p) H))) := by
  intro pins s σ H xs us Q I r h
  obtain ⟨p, ys, rfl, h⟩ := h
  obtain ⟨u, rfl, rx⟩ := vals1 r
  cases rx
  rcases h with ⟨hq, q⟩ | ⟨hq, q⟩
  · obtain ⟨its, r', pl, hz⟩ := I.list hq
    have hlen := r'.length
    refine call_tuple_list pl.isList (fun h' kp => ?_) (by simp only [List.size_toArray] <;> omega)
    have I1 : Inv X pins σ H { s with heap := h' } := I.kept (t' := s.toks) kp
    have I2 : Inv X pins σ (upd H h'.objs.size (.tup ys)) { s with heap := h'.push { cls := .type "tuple", data := .seq its.toArray } } :=
      I1.laid (t' := s.toks) (fun b o e => Heap.get?_push_of_some _ e) (Nat.le_refl _) (show ObjOk X.prog X.w _ _ _ (.tup ys) from ⟨hz, its, r', IsTup.new _ _⟩)
    exact ⟨.ref h'.objs.size, _, I2, rfl, q _ (I1.hok.fresh (Nat.le_refl _))⟩
  · obtain ⟨its, r', pl, hz⟩ := I.tuple hq
    exact call_tuple_same pl ⟨.ref p, H, I, rfl, q⟩
def tyV (K : PySem.W.Frag) (T : String) (x : V) (H : Hp) : Prop := match x with
  | .str _ => T = "str"
  | .int _ => T = "int"
  | .ref p => (T = "list" ∧ ∃ xs, SqL K H p xs) ∨ (T = "tuple" ∧ ∃ o, K.lookup p = some o ∧ o.cls = .type "tuple" ∧ o.dict = none) ∨
      (T = "dict" ∧ ((∃ kvs, H p = some (.dK kvs)) ∨ ∃ kvs, H p = some (.dT kvs))) ∨ (T = "set" ∧ ∃ S n, H p = some (.set S n))
  | _ => False
theorem tyV_is {pins : List (Addr × Obj)} {σ : St} {H : Hp} {s : Shared} {T : String} {x : V} {v : Value} (I : Inv X pins σ H s) (r : RelV x v) (ty : tyV X.K T x H) :
    s.TypeIs v T ∧ ∀ a, v = .ref a → ∃ ob, s.heap.get? a = some ob ∧ ob.dict = none := by
  cases x with
  | str z =>
    obtain ⟨t, rfl⟩ := r
    cases (show T = "str" from ty)
    exact ⟨typeIs_str s z t, fun _ e => nomatch e⟩
  | int i =>
    obtain ⟨t, rfl⟩ := r
    cases (show T = "int" from ty)
    exact ⟨typeIs_int s i t, fun _ e => nomatch e⟩
  | ref p =>
    cases r
    rcases ty with ⟨rfl, xs, hq⟩ | ⟨rfl, o, hk, hc, hd⟩ | ⟨rfl, hk⟩ | ⟨rfl, S, n, hk⟩
    · obtain ⟨its, _, pl, _⟩ := I.list hq
      refine ⟨pl.isList.typeIs, fun a e => ?_⟩
      cases e
      obtain ⟨o, n, e, c, hd, _⟩ := pl
      exact ⟨o, e, hd⟩
    · refine ⟨⟨o, I.kIn p o hk, hc⟩, fun a e => ?_⟩
      cases e
      exact ⟨o, I.kIn _ o hk, hd⟩
    · have z : ∃ o, s.heap.get? p = some o ∧ o.ExactDict := by
        rcases hk with ⟨kvs, hk⟩ | ⟨kvs, hk⟩
        · obtain ⟨_, _, _, _, o, _, _, e, ex, _⟩ := I.hok p _ hk
          exact ⟨o, e, ex⟩
        · obtain ⟨_, _, _, _, o, _, _, e, ex, _⟩ := I.hok p _ hk
          exact ⟨o, e, ex⟩
      obtain ⟨o, e, ex⟩ := z
      refine ⟨⟨o, e, ex.1⟩, fun a e2 => ?_⟩
      cases e2
      exact ⟨o, e, ex.2.1⟩
    · obtain ⟨o, _, _, _, e, ex, _⟩ := I.hok p _ hk
      refine ⟨⟨o, e, ex.1⟩, fun a e2 => ?_⟩
      cases e2
      exact ⟨o, e, ex.2.1⟩
  | _ => exact False.elim ty
def tBM0 (K : PySem.W.Frag) (T : String) (r : V → List V → Hp → VK → Prop) (to : TE) : TE := fun σ H Q => to σ H fun x H1 => tyV K T x H1 ∧ r x [] H1 Q
def tBM (K : PySem.W.Frag) (T : String) (r : V → List V → Hp → VK → Prop) (to : TE) (t : TA) : TE := fun σ H Q => to σ H fun x H1 => tyV K T x H1 ∧ t σ H1 fun xs H2 => r x xs H2 Q
variable {o e : Expr} {es : List Expr} {to : TE} {t : TA} {name : Str} {apos cpos : Pos} {T id : String} {r : V → List V → Hp → VK → Prop}
theorem pe_bm0 (pa : PlainAttrs T) (slot : Slot T name id) (hty : typeOf (.builtin id) = pure (.type "method_descriptor")) (hm : MtR X id r) (ho : PE X o to)
    (hbase : attributeBase o name X.env (eval o X.env) = eval o X.env := by rfl) (hline : (apos.endLine == cpos.line) = true := by rfl) : PE X (.Call (.Attribute o name apos) [] [] cpos) (tBM0 X.K T r to) := by
  intro pins s σ H Q I h
  refine wpAny_Call_method0_late hbase hline (thn (ho pins s σ H _ I h) fun v s1 ⟨x, H1, I1, r1, ty, q1⟩ => ?_)
  obtain ⟨h1, h2⟩ := tyV_is I1 r1 ty
  exact ⟨T, id, pa, slot, hty, h1, h2, Calls.callWith_builtin rfl (PySem.evalArgs_none (hm pins s1 σ H1 x [] v [] Q I1 r1 .nil q1))⟩
theorem pe_bm (pa : PlainAttrs T) (slot : Slot T name id) (hty : typeOf (.builtin id) = pure (.type "method_descriptor")) (hm : MtR X id r) (ho : PE X o to) (ha : PA X (e :: es) t)
    (hbase : attributeBase o name X.env (eval o X.env) = eval o X.env := by rfl)
    (hfew : ((backTo cpos (starEach (e :: es) X.env)).all (fun x => !x.1) && (backToKw cpos (keywordEach [] X.env)).all (fun x => x.1.isSome)
      && decide ((e :: es).length + ([] : List Keyword).length + (if ([] : List Keyword).isEmpty then 0 else 1) < 30)) = true := by rfl)
    (hline : (apos.endLine == cpos.line) = true := by rfl) (hs : starEach (e :: es) X.env = (false, eval e X.env) :: starEach es X.env := by rfl) (hplain : (backTo cpos (starEach es X.env)).any (·.1) = false := by rfl) :
    PE X (.Call (.Attribute o name apos) (e :: es) [] cpos) (tBM X.K T r to t) := by
  intro pins s σ H Q I h
  refine wpAny_Call_method_late hbase hfew hline rfl (thn (ho pins s σ H _ I h) fun v s1 ⟨x, H1, I1, r1, ty, q1⟩ => ?_)
  obtain ⟨h1, h2⟩ := tyV_is I1 r1 ty
  refine ⟨T, id, pa, slot, hty, h1, h2, ?_⟩
  have hA := ha cpos pins s1 σ H1 _ I1 q1
  rw [hs] at hA ⊢
  refine Calls.callWith_builtin (by show (false || (backTo cpos (starEach es X.env)).any (·.1)) = false; rw [hplain] <;> rfl) (Calls.evalArgs_plain ?_)
  exact thn hA fun us s2 ⟨vs, H2, I2, r2, q2⟩ => hm pins s2 σ H2 x vs v us Q I2 r1 r2 q2
end
end L2
namespace L2
open PySem PySem.Spec PyProof.Rows
def MtM (X : Cx) (id : String) (r : V → List V → Hp → VK → Prop) : Prop :=
  ∀ (pins : List (Addr × Obj)) (s : Shared) (σ : St) (H : Hp) (x : V) (xs : List V) (v : Value) (us : List Value) (Q : VK), Inv X pins σ H s → RelV x v → Vals xs us → r x xs H Q →
    wpAny (model X.prog X.w) X.A (call (.builtin id) (v :: us)) (EP X pins σ Q) X.xe s
theorem Vals.one : ∀ {x : V} {us : List Value}, Vals [x] us → ∃ u, us = [u] ∧ RelV x u
  | _, _, .cons r .nil => ⟨_, rfl, r⟩
theorem Vals.dropLast {xs : List V} {us : List Value} (h : Vals xs us) : Vals xs.dropLast us.dropLast := by
  induction h with
  | nil => exact .nil
  | cons r t ih =>
    cases t with
    | nil => exact .nil
    | cons q t' => exact .cons r ih
theorem erase_last {α : Type} (l : List α) : l.eraseIdx (l.length - 1) = l.dropLast := by
  induction l with
  | nil => rfl
  | cons a r ih =>
    cases r with
    | nil => rfl
    | cons b r =>
      have e : (a :: b :: r).length - 1 = ((b :: r).length - 1) + 1 := by
        have h1 : (a :: b :: r).length = r.length + 2 := rfl
        have h2 : (b :: r).length = r.length + 1 := rfl
        omega
      rw [e, List.eraseIdx_cons_succ, ih]
      all_goals rfl
section
variable {X : Cx} {pins : List (Addr × Obj)} {σ : St} {H : Hp} {s : Shared} {l b : Addr} {xs ys zs : List V}
theorem Inv.lset {its its' : List Value} {n : Nat} {f : Array Value → Array Value} {t' : Nat} (I : Inv X pins σ H s) (hH : H l = some (.lst xs))
    (e : s.heap.get? l = some { cls := .type "list", data := .seq its.toArray n }) (hf : f its.toArray = its'.toArray) (hv : Vals ys its') (hz : ys.length ≤ sizeLine) :
    Inv X pins σ (upd H l (.lst ys)) { s with heap := s.heap.update l (Obj.mapSeq f), toks := t' } := by
  have q := PySem.IsL.update e f
  rw [hf] at q
  refine I.write (x := l) (e := l) (by rw [hH]; exact trivial) (.inl rfl) (fun b' u hb hu => (Heap.get?_update_other s.heap (Obj.mapSeq f) (Ne.symm hb)).trans hu) ⟨_, q⟩ ?_
  exact ⟨hz, its', _, hv, q⟩
theorem Inv.lnew {its : List Value} {t' : Nat} (I : Inv X pins σ H s) (hv : Vals ys its) (hz : ys.length ≤ sizeLine) :
    Inv X pins σ (upd H s.heap.objs.size (.lst ys)) { s with heap := s.heap.push { cls := .type "list", data := .seq its.toArray }, toks := t' } :=
  I.laid (fun _ _ q => Heap.get?_push_of_some _ q) (Nat.le_refl _) ⟨hz, its, 0, hv, Heap.get?_push_size _ rfl⟩
theorem Inv.fresh (I : Inv X pins σ H s) : H s.heap.objs.size = none := I.hok.fresh (Nat.le_refl _)
theorem Inv.lstM (I : Inv X pins σ H s) (hH : H l = some (.lst xs)) : xs.length ≤ sizeLine ∧ ∃ (its : List Value) (n : Nat), Vals xs its ∧ xs.length = its.length ∧ s.heap.get? l = some { cls := .type "list", data := .seq its.toArray n } := by
  obtain ⟨z, its, n, r, e⟩ := I.hok l _ hH
  exact ⟨z, its, n, r, r.length, e⟩
theorem notLongL {n : Nat} (h : n ≤ sizeLine) : Builtin.List.listTooLong n = false := by
  unfold Builtin.List.listTooLong
  exact decide_eq_false (by omega)
end
section
variable {X : Cx}
def rAppend : V → List V → Hp → VK → Prop := fun x vs H Q => ∃ l xs y, x = .ref l ∧ vs = [y] ∧ H l = some (.lst xs) ∧ xs.length < sizeLine ∧ Q .non (upd H l (.lst (xs ++ [y])))
theorem mt_append : MtM X "list.append" rAppend := by
  intro pins s σ H x vs v us Q I rx rv h
  obtain ⟨l, xs, y, rfl, rfl, hH, hz, q⟩ := h
  cases rx
  obtain ⟨u, rfl, ru⟩ := rv.one
  obtain ⟨z, its, n, r, hl, e⟩ := I.lstM hH
  refine call_meets F.slot_list_append ⟨_, e, rfl⟩ F.entry_list_append (F.args_list_append_2 _ _) (PySem.list_append l its.toArray n u (by rw [List.size_toArray]; omega)) ⟨e, ?_⟩
  refine ⟨.non, _, I.lset (its' := its ++ [u]) hH e (by simp) (r.append (.cons ru .nil)) ?_, rfl, q⟩
  rw [List.length_append, List.length_singleton]
  omega
def rExtend : V → List V → Hp → VK → Prop := fun x vs H Q => ∃ l b xs zs, x = .ref l ∧ vs = [.ref b] ∧ H l = some (.lst xs) ∧ H b = some (.lst zs) ∧ xs.length + zs.length ≤ sizeLine ∧ Q .non (upd H l (.lst (xs ++ zs)))
theorem mt_extend : MtM X "list.extend" rExtend := by
  intro pins s σ H x vs v us Q I rx rv h
  obtain ⟨l, b, xs, zs, rfl, rfl, hH, hB, hz, q⟩ := h
  cases rx
  obtain ⟨u, rfl, ru⟩ := rv.one
  cases ru
  obtain ⟨z, its, n, r, hl, e⟩ := I.lstM hH
  obtain ⟨z2, its2, n2, r2, hl2, e2⟩ := I.lstM hB
  have hsz : its.toArray.size + its2.toArray.size ≤ sizeLine := by rw [List.size_toArray, List.size_toArray]; omega
  have hlong : ¬ (!its.toArray.isEmpty && Builtin.List.listTooLong (its.toArray.size + its2.toArray.size)) = true := by
    rw [notLongL hsz, Bool.and_false]
    exact Bool.false_ne_true
  refine call_meets F.slot_list_extend ⟨_, e, rfl⟩ F.entry_list_extend (F.args_list_extend_2 _ _)
    (AutoSeq1.list_extend_list_list_0 l its.toArray n b its2.toArray n2 hlong (by rw [List.size_toArray]; omega) (by omega)) ⟨e, e2, ?_⟩
  refine ⟨.non, _, I.lset (its' := its ++ its2) hH e (by simp) (r.append r2) ?_, rfl, q⟩
  rw [List.length_append]
  omega
def rCat : R2 := fun x y H Q => ∃ l b xs zs, x = .ref l ∧ y = .ref b ∧ H l = some (.lst xs) ∧ H b = some (.lst zs) ∧ xs.length + zs.length ≤ sizeLine ∧ ∀ p, H p = none → Q (.ref p) (upd H p (.lst (xs ++ zs)))
theorem op_cat : OpR X (binaryOp .Add) rCat := by
  intro pins s σ H x y v u Q I rx ry h
  obtain ⟨l, b, xs, zs, rfl, rfl, hH, hB, hz, q⟩ := h
  cases rx
  cases ry
  obtain ⟨z, its, n, r, hl, e⟩ := I.lstM hH
  obtain ⟨z2, its2, n2, r2, hl2, e2⟩ := I.lstM hB
  refine PySem.P.add_list e e2 ?_ (by rw [List.size_toArray, List.size_toArray]; omega)
  have ea : its.toArray ++ its2.toArray = (its ++ its2).toArray := by simp
  rw [ea]
  exact ⟨.ref _, _, I.lnew (t' := s.toks) (r.append r2) (by rw [List.length_append]; omega), rfl, q _ I.fresh⟩
end
section
variable {prog : Program} {w : World} {A : Around} {E : Value → Shared → Prop} {s : Shared}
end
section
variable {X : Cx}
end
end L2
namespace Att
open PySem PySem.W PySem.Calls PyProof.Rows
theorem ints_of_wellAll {P : Params} {h : Heap} : ∀ (ns : List Int) (vs : List Value), WellAll P h vs (ns.map WData.int) → IntsAre vs ns := by
  intro ns
  induction ns with
  | nil =>
    intro vs w
    rw [List.map_nil] at w
    cases w
    exact .nil
  | cons n ns ih =>
    intro vs w
    rw [List.map_cons] at w
    cases w with
    | cons a b =>
      cases a
      exact .cons _ _ (ih _ b)
theorem script_of {l : OpenLaw} {n : Nat} (hn : l.most = some n) {P : Params} {h : Heap} {args : List WData} {vals : List Value}
    (hpre : l.row.toRowW.claim.pre args = true) (hwl : WellAll P h vals args) :
    ∃ a vs ns, vals = [Value.ref a] ∧ args = [WData.list (ns.map WData.int)] ∧ h.get? a = some { cls := .type "list", data := .seq vs.toArray } ∧ IntsAre vs ns ∧ ns.length ≤ n := by
  have hsh : WShape.hasAll [] args [.list .int] = true := (pre_splitW hpre).1
  have hc : l.pre.holds [] { args := args } = true := (pre_splitW hpre).2
  obtain ⟨d, r, rfl, h1, h2⟩ := hasAllW_cons hsh
  obtain rfl := hasAllW_nil h2
  obtain ⟨xs, rfl, h3⟩ := hasW_list h1
  obtain ⟨ns, rfl⟩ := items_int h3
  have hlen : ns.length ≤ n := by
    unfold OpenLaw.pre at hc
    have h4 : (WTm.not (.lt (.lit (.int (n : Int))) (.len (.arg 0)))).holds [] { args := [.list (ns.map .int)] } = true := by
      have h4 := (holds_andW hc).1
      rw [hn] at h4
      exact h4
    have h5 := condW_of h4 (w_not (w_lt w_lit (w_len_list (w_arg rfl))))
    rw [List.length_map] at h5
    refine Nat.le_of_not_lt fun q => ?_
    have q' : (n : Int) < ((ns.length : Nat) : Int) := by omega
    first
      | (rw [decide_eq_true q'] at h5; exact absurd h5 (by decide))
      | (simp at h5; omega)
  cases hwl with
  | cons w1 w2 =>
    cases w2
    cases w1 with
    | list ho hall => exact ⟨_, _, ns, rfl, rfl, ho, ints_of_wellAll ns _ hall, hlen⟩
theorem post_true (l : OpenLaw) (args : List WData) : l.row.toRowW.claim.post args (.bool true) args = true :=
  postW_of (r := l.row.toRowW) (X := (true == true))
    (show WShape.has [] (.bool true) .bool = true by first | rfl | decide | simp [WShape.has, WShape.arms, WShape.armsAll])
    (show (WTm.eq .res (.lit (.bool true))).value [] { args := args, res := some (.bool true), after := args } = some (.bool (true == true)) from w_eq_bool (w_res rfl) w_lit) rfl
theorem attach_call {l : OpenLaw} {n : Nat} {q : Program} {loose : List Str} {XP : (Str → Option Value) → Heap → Prop} {YP : World → Heap → Prop} {d : DefRec}
    (hn : l.most = some n) (hdf : d.params.defaults = [])
    (call : ∀ (w : World) (s₀ s₁ : Shared) (mg mb : Str → Option Value) (fa : Addr) (o : Obj) (pm cd doc : Value) (a : Addr) (vs : List Value) (ns : List Int),
      Ground q loose [] XP w s₀ mg mb s₁.heap → YP w s₁.heap →
      s₁.heap.get? fa = some o → o.data = .func (docDef d.name d.params d.body d.scope pm cd doc) → s₁.heap.CodeRec cd d.name → mg d.name = some (.ref fa) →
      s₁.heap.get? a = some { cls := .type "list", data := .seq vs.toArray } → IntsAre vs ns → ns.length ≤ n → s₁.gens = #[] →
      codeAny (model l.prog w) callerA (.call (.ref fa) ⟨[.ref a], []⟩) (fun r s' => r = .ok (.ret (.bool true)) ∧ OldK s₁.heap s'.heap ∧ s'.os = s₁.os ∧ AllBare s'.gens) s₁) :
    WalkO q loose XP YP l.row.toRowW d [] (fun f vs => PySem.call f vs) := by
  intro w s₀ s₁ mg mb G Y fa o pm cd doc dV kV ho hd hcd hD hmg hg args vals as hpre hlay hrd hwl hlo
  obtain rfl : dV = .none := Dflts.none hD hdf
  obtain rfl : kV = .none := Dflts.noKw hD
  obtain ⟨a, vs, ns, rfl, rfl, hobj, hints, hlen⟩ := script_of hn hpre hwl
  refine enter_call (codeAny_mono (call w s₀ s₁ mg mb fa o pm cd doc a vs ns G Y ho (fd_plain hd) hcd hmg hobj hints hlen hg) fun r s' hq => ?_)
  obtain ⟨rfl, h2, h3, h4⟩ := hq
  exact ⟨.inl ⟨.bool true, .bool true, [], rfl, fun _ => rfl, .bool true, post_true l _, fun _ => ⟨List.Pairwise.nil, fun _ hm => (nomatch hm)⟩⟩, h2, h3, h4⟩
section
variable {prog : Program} {w : World} {A : Around} {E : Value → Shared → Prop} {s : Shared} {K : Frag}
end
end Att
namespace L2
open PySem PySem.Spec PyProof.Rows
theorem vals_ints : ∀ {vs : List Value} {ns : List Int}, IntsAre vs ns → Vals (ns.map V.int) vs
  | _, _, .nil => .nil
  | _, _, .cons n t h => .cons ⟨t, rfl⟩ (vals_ints h)
def Only (H : Hp) : Prop := ∀ b, H b = none ∨ ∃ o xs, H b = some (.frz o (.lst xs))
theorem law_call {P : Program} {w : World} {K : PySem.W.Frag} {mg mb : Str → Option Value} {CX : CXT} {k : Nat} {fa a : Addr} {fd : FuncData} {x : Str} {sp : Sp} {s₁ : Shared} {vs : List Value} {ns : List Int}
    (KX : K.In s₁.heap) (hns : s₁.heap.Ns mainGlobals mg) (hb : s₁.heap.Ns builtinsNs mb) (hbb : ∀ x : Str, x ≠ "__name__" → mb x = bootBuiltins x) (hlim : s₁.heap.NoLimit) (hg : s₁.gens = #[])
    (ha : s₁.heap.get? a = some { cls := .type "list", data := .seq vs.toArray }) (hi : IntsAre vs ns) (hl : ns.length ≤ sizeLine) (hr : Room k callerA)
    (F : ∀ base : Heap, K.In base → base.Ns mainGlobals mg → FnOk P w K mg base CX k fa fd [x] sp) (hbind : ∀ (s : Shared) (u : Value), BindsTo s fd ⟨[u], []⟩ [(x, u)])
    (hsp : ∀ H : Hp, Only H → SqL K H a (ns.map V.int) → sp [.ref a] H (fun v _ => v = .bl true) fun _ _ _ => False)
    (hCX : ∀ H e s', CX [] H s₁ (fun _ _ _ => False) e s' → False) :
    codeAny (model P w) callerA (.call (.ref fa) ⟨[.ref a], []⟩) (fun r s' => r = .ok (.ret (.bool true)) ∧ OldK s₁.heap s'.heap ∧ s'.os = s₁.os ∧ AllBare s'.gens) s₁ := by
  have rv := vals_ints hi
  have lenV := hi.length
  have core : ∀ H : Hp, Only H → SqL K H a (ns.map V.int) → HOk P w H s₁.heap → (∀ b, H b ≠ none → b = a) → (H a ≠ none → K.lookup a = none) →
      codeAny (model P w) callerA (.call (.ref fa) ⟨[.ref a], []⟩) (fun r s' => r = .ok (.ret (.bool true)) ∧ OldK s₁.heap s'.heap ∧ s'.os = s₁.os ∧ AllBare s'.gens) s₁ := by
    intro H hO hS hok hA hK
    have base_of : ∀ {b : Addr} {o : Obj}, s₁.heap.get? b = some o → H b = none → (hidT s₁.heap H).get? b = some o := fun e n => hidT_get e n
    have noA : ∀ {b : Addr} {o : Obj} {es : Array DictEntry} {ep : Nat}, s₁.heap.get? b = some o → o.data = .dict es ep → H b = none := fun {b o es ep} e d => by
      cases q : H b with
      | none => rfl
      | some u =>
        have e' : b = a := hA b (by rw [q]; simp)
        subst e'
        rw [ha] at e; cases e
        have d' : Data.seq vs.toArray _ = Data.dict es ep := d
        cases d'
    have nsK : ∀ {b : Addr} {m : Str → Option Value}, s₁.heap.Ns b m → (hidT s₁.heap H).Ns b m := fun {b m} ⟨o, es, ep, e, d, r⟩ => ⟨o, es, ep, base_of e (noA e d), d, r⟩
    have hKb : K.In (hidT s₁.heap H) := fun b o e => base_of (KX b o e) (by
      cases q : H b with
      | none => rfl
      | some u =>
        have e' : b = a := hA b (by rw [q]; simp)
        subst e'
        rw [hK (by rw [q]; simp)] at e; cases e)
    have hM : Mod K mg (hidT s₁.heap H) := ⟨hKb, nsK hns, ⟨mb, nsK hb, hbb⟩, let ⟨mc, h1, h2⟩ := hlim; ⟨mc, nsK h1, h2⟩⟩
    have e0 : Env0 P w K mg (hidT s₁.heap H) callerA [] s₁ H := ⟨rfl, hM, fun b o e => of_hidT e, Nat.le_of_eq (hidT_size _ _), trivial, fun b hb => absurd (show b ∈ ([] : List Addr) from hb) (by simp), hok, .of_eq hg⟩
    refine codeAny_mono ((F _ hKb (nsK hns)).run callerA [] s₁ H ⟨[.ref a], []⟩ [.ref a] [.ref a] _ _ hr e0 (hbind s₁ (.ref a)) (.cons rfl .nil) (hsp H hO hS)) fun r s' h => ?_
    cases r with
    | error e => exact (hCX H e s' h).elim
    | ok fl =>
      cases fl with
      | next => exact False.elim h
      | brk => exact False.elim h
      | cont => exact False.elim h
      | ret u =>
        obtain ⟨v, H', os, bare, un, hok', r', q⟩ := h
        have q' : v = .bl true := q
        subst q'
        obtain rfl : u = Value.bool true := r'
        refine ⟨rfl, OldK.of_keep fun b o e => ?_, os, bare⟩
        cases q : H b with
        | none => exact un.keep b o e q (by intro z; exact absurd (show b ∈ ([] : List Addr) from z) (by simp)) (by simp)
        | some u =>
          rcases hO b with z | ⟨ob, xs, z⟩
          · rw [q] at z; cases z
          · have z2 := un.frzs b ob _ z
            obtain ⟨e1, _⟩ := hok b _ z
            obtain ⟨e2, _⟩ := hok' b _ z2
            rw [e] at e1; cases e1
            exact e2
  cases hk : K.lookup a with
  | some o =>
    have e := KX a o hk
    rw [ha] at e
    cases e
    refine core (fun _ => none) (fun _ => .inl rfl) (.inr ⟨_, vs.toArray, _, hk, rfl, rfl, rfl, by rw [List.size_toArray, lenV]; exact hl, by simpa using rv⟩) (fun b u z => by have z' : (none : Option HO) = some u := z; cases z') (fun b z => absurd rfl z) fun z => absurd rfl z
  | none =>
    refine core (fun b => if b = a then some (.frz { cls := .type "list", data := .seq vs.toArray } (.lst (ns.map V.int))) else none) (fun b => ?_) (.inl (.inr ⟨{ cls := .type "list", data := .seq vs.toArray }, if_pos rfl⟩)) (fun b u z => ?_) (fun b z => ?_) fun _ => hk
    · by_cases hb : b = a
      · exact .inr ⟨_, _, if_pos hb⟩
      · exact .inl (if_neg hb)
    · by_cases hb : b = a
      · have z' := (if_pos hb).symm.trans z
        cases z'
        subst hb
        exact ⟨ha, by rw [List.length_map]; exact hl, vs, _, rv, ha⟩
      · have z' := (if_neg hb).symm.trans z
        cases z'
    · by_cases hb : b = a
      · exact hb
      · exact absurd (if_neg hb) z
end L2
namespace L2
open PySem PySem.Spec PyProof.Rows
theorem walk_of {l : PySem.W.OpenLaw} {n k : Nat} {q : Program} {loose : List Str} {XP : (Str → Option Value) → Heap → Prop} {YP : World → Heap → Prop} {d : DefRec} {K : Params → PySem.W.Frag} {CX : World → CXT} {sp : World → Sp} {x : Str}
    (hn : l.most = some n) (hn2 : n ≤ sizeLine) (hdf : d.params.defaults = []) (hr : Room k callerA)
    (hY : ∀ (w : World) (h : Heap), YP w h → (K w.params).In h)
    (F : ∀ (w : World) (mg : Str → Option Value) (fa : Addr) (h : Heap), (K w.params).In h → h.Ns mainGlobals mg → mg d.name = some (.ref fa) →
      ∃ fd : FuncData, (∀ (s : Shared) (u : Value), BindsTo s fd ⟨[u], []⟩ [(x, u)]) ∧
        ∀ base : Heap, (K w.params).In base → base.Ns mainGlobals mg → FnOk l.prog w (K w.params) mg base (CX w) k fa fd [x] (sp w))
    (hsp : ∀ (w : World) (H : Hp) (a : Addr) (ns : List Int), ns.length ≤ n → Only H → SqL (K w.params) H a (ns.map V.int) → sp w [.ref a] H (fun v _ => v = .bl true) fun _ _ _ => False)
    (hCX : ∀ (w : World) (H : Hp) (s : Shared) (e : Value) (s' : Shared), CX w [] H s (fun _ _ _ => False) e s' → False) :
    PySem.W.WalkO q loose XP YP l.row.toRowW d [] (fun f vs => PySem.call f vs) := by
  refine Att.attach_call hn hdf fun w s₀ s₁ mg mb fa o pm cd doc a vs ns G Y ho hd hcd hmg hobj hints hlen hg => ?_
  have KX := hY w _ Y
  obtain ⟨fd, hb, hF⟩ := F w mg fa _ KX G.T.g hmg
  exact law_call KX G.T.g G.T.b G.T.builtins G.T.nolimit hg hobj hints (Nat.le_trans hlen hn2) hr hF hb (fun H hO hS => hsp w H a ns hlen hO hS) fun H e s' => hCX w H s₁ e s'
end L2
namespace L2
open PySem PySem.Spec PyProof.Rows
def defArgs (s : Stmt) : Arguments := match s with
  | .FunctionDef _ a _ _ _ _ _ _ _ _ => a
  | _ => { posonlyargs := [], args := [], vararg := none, kwonlyargs := [], kw_defaults := [], kwarg := none, defaults := [] }
def defBody (s : Stmt) : List Stmt := match s with
  | .FunctionDef _ _ b _ _ _ _ _ _ _ => b
  | _ => []
def defScope (s : Stmt) : Scope := match s with
  | .FunctionDef _ _ _ _ _ _ sc _ _ _ => sc
  | _ => { kind := .function, names := [], isGenerator := false, isCoroutine := false }
abbrev CX0 : CXT := fun _ _ _ _ _ _ => False
abbrev E0 : XK := fun _ _ _ => False
theorem pass0 {X : Cx} : Passes CX0 X E0 := fun _ _ _ _ _ _ _ h => h.elim
structure Fun (K : PySem.W.Frag) (x qual : Str) (st : Stmt) (f : Addr) (fd : FuncData) : Prop where
  ex : ∃ (oc : Value) (od : Option Addr) (kV doc pm : Value) (an : Option Addr) (cdv ct : Value) (osl : Array (Option Value)),
    fd = PySem.W.fnOf x qual (defArgs st) (defBody st) (defScope st) .none kV doc pm an cdv ct ∧ K.lookup f = some ⟨oc, od, .func fd, osl⟩ ∧ PySem.W.codeIn K cdv qual = true
  kp : PySem.W.keepIn K (.ref f) = true
section
variable {P : Program} {w : World} {K : PySem.W.Frag} {mg : Str → Option Value} {base : Heap}
theorem Fun.ok {x qual : Str} {st : Stmt} {f : Addr} {fd : FuncData} {N ps : List Str} {k : Nat} {sp : Sp} (F : Fun K x qual st f fd) (S : FnScope N ps (defScope st)) (len : ∀ vs H Q E, sp vs H Q E → vs.length = ps.length)
    (hbody : ∀ (cdv : Value) (A : Around) (outer : List Env) (s : Shared) (H : Hp) (vs : List V) (Q : VK) (E : XK), Room k (A.deeper (envOfC qual (defScope st) s.heap.objs.size f cdv)) → sp vs H Q E →
      ∃ t, PSs (cxOf CX0 P w K mg base N qual (defScope st) f cdv A outer s H E).nox (defBody st) t ∧ t { nx := fun _ H' => Q .non H', rt := Q } (start N vs) H) : FnOk P w K mg base CX0 (k + 1) f fd ps sp := by
  obtain ⟨oc, od, kV, doc, pm, an, cdv, ct, osl, rfl, lk, hcd⟩ := F.ex
  refine fn_of lk hcd S len fun A outer s H vs Q E hr hsp => ?_
  obtain ⟨t, h, q⟩ := hbody cdv A outer s H vs Q E hr hsp
  exact ⟨t, h.nox, q⟩
theorem Fun.binds {x qual : Str} {st : Stmt} {f : Addr} {fd : FuncData} {ps : List Str} (F : Fun K x qual st f fd)
    (h : ∀ (kV doc pm : Value) (an : Option Addr) (cdv ct : Value) (us : List Value), us.length = ps.length → bindArgs (PySem.W.fnOf x qual (defArgs st) (defBody st) (defScope st) .none kV doc pm an cdv ct) ⟨us, []⟩ = pure (ps.zip us)) : Binds K fd ps [] := by
  obtain ⟨oc, od, kV, doc, pm, an, cdv, ct, osl, rfl, lk, hcd⟩ := F.ex
  exact .all (h kV doc pm an cdv ct)
theorem fun_mk {x qual : Str} {st : Stmt} {f : Addr} {oc : Value} {od an : Option Addr} {osl : Array (Option Value)} {kV doc pm cdv ct : Value} (l : K.lookup f = some ⟨oc, od, .func (PySem.W.fnOf x qual (defArgs st) (defBody st) (defScope st) .none kV doc pm an cdv ct), osl⟩)
    (c : PySem.W.codeIn K cdv qual = true) (k : PySem.W.keepIn K (.ref f) = true) : Fun K x qual st f (PySem.W.fnOf x qual (defArgs st) (defBody st) (defScope st) .none kV doc pm an cdv ct) := ⟨⟨oc, od, kV, doc, pm, an, cdv, ct, osl, rfl, l, c⟩, k⟩
end
theorem small1000 {n : Nat} (h : n ≤ 1000) : n < sizeLine := Nat.lt_of_le_of_lt h (by decide)
section
variable {X : Cx}
theorem pv (i : Nat) {x : Str} {pos : Pos} (hN : X.N[i]? = some x := by rfl) (hv : Vis X.env.scope x := by first | exact Or.inl rfl | exact Or.inr (Or.inl rfl) | exact Or.inr (Or.inr rfl)) (hd : (x == ("__debug__" : Str)) = false := by decide)
    (hcd : (x == ("__classdict__" : Str)) = false := by decide) : PE X (.Name x pos) (tVar i) := pe_var hN hv hd hcd
end
theorem iteF {A B : Prop} (h : B) : if false = true then A else B := by
  rw [if_neg Bool.false_ne_true]
  exact h
theorem iteT {A B : Prop} (h : A) : if true = true then A else B := by
  rw [if_pos rfl]
  exact h
def Same (H H' : Hp) : Prop := ∀ b o, H b = some o → H' b = some o
theorem Same.refl (H : Hp) : Same H H := fun _ _ h => h
theorem Same.trans {H H1 H2 : Hp} (a : Same H H1) (b : Same H1 H2) : Same H H2 := fun c o h => b c o (a c o h)
theorem Same.free {H H' : Hp} (e : Same H H') {l : Addr} (h : H' l = Option.none) : H l = Option.none := by
  cases q : H l with
  | none => rfl
  | some o =>
    rw [e l o q] at h
    cases h
theorem Same.seq {K : PySem.W.Frag} {H H' : Hp} {a : Addr} {xs : List V} (e : Same H H') (h : SqL K H a xs) : SqL K H' a xs := by
  rcases h with (h | ⟨o, h⟩) | h
  · exact .inl (.inl (e _ _ h))
  · exact .inl (.inr ⟨o, e _ _ h⟩)
  · exact .inr h
end L2
namespace L2
open PySem PySem.Spec PyProof.Rows
def clOf (env : Env) : List (Str × NameKind) → List (Str × Addr) → List (Str × Addr)
  | [], cs => cs
  | (n, k) :: r, cs => clOf env r (if k == .free then (n, (env.cells.lookup n).getD 0) :: cs else cs)
def clStep (env : Env) (x : Str × NameKind) (s : List (Str × Addr)) : Sem (ForInStep (List (Str × Addr))) := if (x.2 == NameKind.free) = true then cellOf env x.1 >>= fun c => pure (ForInStep.yield ((x.1, c) :: s)) else pure (ForInStep.yield s)
theorem clStep_run {env : Env} : ∀ {ns : List (Str × NameKind)} (cs : List (Str × Addr)), (∀ y ∈ ns, y.2 = .free → ∃ c, env.cells.lookup y.1 = some c) → (forIn ns cs (clStep env) : Sem (List (Str × Addr))) = pure (clOf env ns cs)
  | [], cs, _ => rfl
  | (n, k) :: r, cs, h => by
    rw [List.forIn_cons]
    have hr : ∀ y ∈ r, y.2 = .free → ∃ c, env.cells.lookup y.1 = some c := fun z hz => h z (List.mem_cons_of_mem _ hz)
    cases hk : (k == NameKind.free) with
    | false =>
      have e1 : clStep env (n, k) cs = pure (ForInStep.yield cs) := by
        unfold clStep
        exact if_neg (by rw [show (n, k).2 = k from rfl, hk]; decide)
      rw [e1, pure_bind]
      show forIn r cs (clStep env) = _
      rw [clStep_run cs hr]
      show pure (clOf env r cs) = pure (clOf env r (if (k == NameKind.free) = true then (n, (List.lookup n env.cells).getD 0) :: cs else cs))
      rw [hk]
      rfl
    | true =>
      have hk' : k = .free := by simpa using hk
      obtain ⟨c, hc⟩ := h (n, k) List.mem_cons_self hk'
      have hc' : env.cells.lookup n = some c := hc
      have q : cellOf env n = pure c := by unfold cellOf; rw [hc']
      have e1 : clStep env (n, k) cs = pure (ForInStep.yield ((n, c) :: cs)) := by
        unfold clStep
        rw [if_pos (by rw [show (n, k).2 = k from rfl, hk]), show (n, k).1 = n from rfl, q, pure_bind]
      rw [e1, pure_bind]
      show forIn r ((n, c) :: cs) (clStep env) = _
      rw [clStep_run _ hr]
      show pure (clOf env r ((n, c) :: cs)) = pure (clOf env r (if (k == NameKind.free) = true then (n, (List.lookup n env.cells).getD 0) :: cs else cs))
      rw [hk, hc']
      rfl
theorem closure_eq {scope : Scope} {env : Env} (h : ∀ y ∈ scope.names, y.2 = .free → ∃ c, env.cells.lookup y.1 = some c) : closureFor scope env = pure (clOf env scope.names []) := by
  show (forIn scope.names ([] : List (Str × Addr)) (clStep env) >>= fun s => (pure s : Sem (List (Str × Addr)))) = _
  rw [clStep_run [] h, pure_bind]
theorem clOf_sound {env : Env} {n : Str} {c : Addr} : ∀ {ns : List (Str × NameKind)} {cs : List (Str × Addr)}, (∀ y ∈ ns, y.2 = .free → ∃ c, env.cells.lookup y.1 = some c) → (∀ p ∈ cs, env.cells.lookup p.1 = some p.2) → (clOf env ns cs).lookup n = some c → env.cells.lookup n = some c
  | [], cs, _, hc, h => hc _ (PySem.mem_of_lookup h)
  | (m, k) :: r, cs, hn, hc, h => by
    unfold clOf at h
    refine clOf_sound (fun y hy => hn y (List.mem_cons_of_mem _ hy)) ?_ h
    intro p hp
    split at hp
    · rename_i hk
      have hk' : k = .free := by simpa using hk
      obtain ⟨c', hc'⟩ := hn (m, k) List.mem_cons_self hk'
      have hc2 : env.cells.lookup m = some c' := hc'
      rw [hc2] at hp
      rcases List.mem_cons.mp hp with rfl | hp
      · exact hc2
      · exact hc p hp
    · exact hc p hp
theorem lookup_mono_isSome {n : Str} : ∀ {cs : List (Str × Addr)}, (∃ c, (n, c) ∈ cs) → ∃ c, cs.lookup n = some c
  | [], ⟨_, h⟩ => absurd h (by simp)
  | (m, d) :: r, ⟨c, h⟩ => by
    rw [List.lookup_cons]
    by_cases e : n = m
    · subst e; exact ⟨d, by simp⟩
    · have : (n == m) = false := beq_eq_false_iff_ne.mpr e
      rw [this]
      rcases List.mem_cons.mp h with z | z
      · cases z; exact absurd rfl e
      · exact lookup_mono_isSome ⟨c, z⟩
theorem clOf_keeps {env : Env} {p : Str × Addr} : ∀ {ns : List (Str × NameKind)} {cs : List (Str × Addr)}, p ∈ cs → p ∈ clOf env ns cs
  | [], _, h => h
  | (m, k) :: r, cs, h => by
    unfold clOf
    refine clOf_keeps ?_
    split
    · exact List.mem_cons_of_mem _ h
    · exact h
theorem clOf_has {env : Env} {n : Str} : ∀ {ns : List (Str × NameKind)} {cs : List (Str × Addr)}, (n, NameKind.free) ∈ ns → ∃ c, (n, c) ∈ clOf env ns cs
  | [], _, h => absurd h (by simp)
  | (m, k) :: r, cs, h => by
    unfold clOf
    rcases List.mem_cons.mp h with z | z
    · cases z
      exact ⟨(env.cells.lookup n).getD 0, clOf_keeps (by simp)⟩
    · exact clOf_has z
def cxBlk (X : Cx) (scope : Scope) (N : List Str) (C : Addr) (s : Shared) (H : Hp) (ex : List Addr) : Cx :=
  { X with N := N, s₀ := s, H₀ := H, env := compEnvC scope (clOf X.env scope.names []) C X.env, outer := X.stack, ex := ex, fn := fun _ => false, pn := [], xe := fun _ _ => False }
structure BlkOk (X : Cx) (scope : Scope) (vs fs : List Str) (js : List Nat) : Prop where
  kind : scope.kind = .function
  cell : ∀ y ∈ scope.names, y.2 ≠ .cell
  names : ∀ y ∈ scope.names, y.2 = .local → scope.names.lookup y.1 = some .local
  free : ∀ y ∈ scope.names, y.2 = .free → X.env.kindOf y.1 = some .cell ∨ X.env.kindOf y.1 = some .free
  own : ∀ y ∈ vs, scope.names.lookup y = some .local
  cap : ∀ y ∈ fs, scope.names.lookup y = some .free
  ix : js.map (fun j => X.N[j]?) = fs.map some
def blkSt (vs : List Str) (js : List Nat) (σ : St) : St := vs.map (fun _ => none) ++ js.map (fun j => (σ[j]?).join)
theorem lookup_relabel_free {env : Env} {names : List (Str × NameKind)} {x : Str} (h : names.lookup x = some .free) :
    (names.map fun (n, k) => if (k == NameKind.free && env.scope.kind == .function && env.kindOf n == some .cell) then (n, NameKind.cell) else (n, k)).lookup x = some .cell ∨
    (names.map fun (n, k) => if (k == NameKind.free && env.scope.kind == .function && env.kindOf n == some .cell) then (n, NameKind.cell) else (n, k)).lookup x = some .free := by
  induction names with
  | nil => cases h
  | cons y r ih =>
    obtain ⟨n, k⟩ := y
    rw [List.map_cons]
    show List.lookup x ((if (k == NameKind.free && env.scope.kind == .function && env.kindOf n == some .cell) = true then (n, NameKind.cell) else (n, k)) :: _) = _ ∨ List.lookup x ((if (k == NameKind.free && env.scope.kind == .function && env.kindOf n == some .cell) = true then (n, NameKind.cell) else (n, k)) :: _) = _
    rw [List.lookup_cons] at h
    cases e : x == n with
    | true =>
      rw [e] at h
      have h' : k = .free := by simpa using h
      subst h'
      split
      · left; rw [List.lookup_cons, e]
      · right; rw [List.lookup_cons, e]
    | false =>
      rw [e] at h
      have h' := ih h
      split
      · rw [List.lookup_cons, e]; exact h'
      · rw [List.lookup_cons, e]; exact h'
theorem relabel_back {env : Env} {names : List (Str × NameKind)} {x : Str} {kk : NameKind}
    (h : (names.map fun (n, k) => if (k == NameKind.free && env.scope.kind == .function && env.kindOf n == some .cell) then (n, NameKind.cell) else (n, k)).lookup x = some kk) :
    (kk = .cell ∧ (x, NameKind.free) ∈ names) ∨ (x, kk) ∈ names := by
  induction names with
  | nil => cases h
  | cons y r ih =>
    obtain ⟨n, k⟩ := y
    rw [List.map_cons] at h
    have h2 : List.lookup x ((if (k == NameKind.free && env.scope.kind == .function && env.kindOf n == some .cell) = true then (n, NameKind.cell) else (n, k)) :: (r.map fun (n, k) => if (k == NameKind.free && env.scope.kind == .function && env.kindOf n == some .cell) then (n, NameKind.cell) else (n, k))) = some kk := h
    cases e : x == n with
    | true =>
      have e' : x = n := by simpa using e
      subst e'
      split at h2
      · rename_i hc
        rw [List.lookup_cons, e] at h2
        have h3 : kk = .cell := by simpa using h2.symm
        have hk : k = .free := by
          have := (Bool.and_eq_true _ _ ▸ hc).1
          have := (Bool.and_eq_true _ _ ▸ this).1
          simpa using this
        subst hk
        exact .inl ⟨h3, List.mem_cons_self⟩
      · rw [List.lookup_cons, e] at h2
        have h3 : kk = k := by simpa using h2.symm
        subst h3
        exact .inr List.mem_cons_self
    | false =>
      have h3 : (r.map fun (n, k) => if (k == NameKind.free && env.scope.kind == .function && env.kindOf n == some .cell) then (n, NameKind.cell) else (n, k)).lookup x = some kk := by
        split at h2
        · rw [List.lookup_cons, e] at h2; exact h2
        · rw [List.lookup_cons, e] at h2; exact h2
      rcases ih h3 with ⟨a, b⟩ | b
      · exact .inl ⟨a, List.mem_cons_of_mem _ b⟩
      · exact .inr (List.mem_cons_of_mem _ b)
section
variable {prog : Program} {w : World} {A : Around} {R : Result → Shared → Prop} {s : Shared}
theorem codeAny_compLoop_gen {elt target iter : Expr} {ifs : List Expr} {scope : Scope} {pos : Pos} {it acc : Value} {env : Env} (I : Nat → Shared → Prop)
    (turn : ∀ n s, I n s → wpAny (model prog w) A (pyNext it) (fun r s₁ => match r with
      | none => R (.ok .next) s₁
      | some v => wpAny (model prog w) A (letOwnedTupleGo target it v) (fun _ s₁' => wpAny (model prog w) A (assign target env v) (fun _ s₂ =>
          wpAny (model prog w) A (forIn ifs true fun c r => if r = true then do let ok ← isTrue c env (eval c env); pure (ForInStep.yield ok) else pure (ForInStep.yield r)) (fun ok s₃ =>
            if ok = true then wpAny (model prog w) A (eval elt env) (fun x s₄ =>
              wpAny (model prog w) A (call (.builtin "list.append") [acc, x]) (fun _ s₅ => ∃ m, m < n ∧ I m s₅) (fun _ _ => False) s₄) (fun _ _ => False) s₃
            else ∃ m, m < n ∧ I m s₃) (fun _ _ => False) s₂) (fun _ _ => False) s₁') (fun _ _ => False) s₁) (fun _ _ => False) s)
    (n : Nat) (h : I n s) :
    codeAny (model prog w) A (.compLoop (.ListComp elt [⟨target, iter, ifs, 0⟩] scope pos) 0 it acc env) R s := by
  refine codeAny_loop rfl I (fun n s hI => ?_) n h
  show wpAny _ A ((compTurn (.ListComp elt [⟨target, iter, ifs, 0⟩] scope pos) 0 it acc env).onRaise (fun x => do noteFrame x env; theTreesLotGoes x)) _ _ s
  refine wpAny_noted ?_
  rw [compTurn_list]
  refine wpAny_bind (wpAny_standAt (wpAny_bind (wpAny_mono (turn n s hI) (fun r s₁ h₁ => ?_) fun _ _ h' => h'.elim)))
  cases r with
  | none => exact wpAny_pure h₁
  | some v =>
    refine wpAny_bind (wpAny_mono h₁ (fun _ s₁' h₁' => ?_) fun _ _ h' => h'.elim)
    refine wpAny_bind (wpAny_mono h₁' (fun _ s₂ h₂ => wpAny_bind (wpAny_mono h₂ (fun ok s₃ h₃ => ?_) fun _ _ h' => h'.elim)) fun _ _ h' => h'.elim)
    cases ok with
    | false => exact wpAny_pure ⟨rfl, h₃⟩
    | true =>
      exact wpAny_bind (wpAny_bind (wpAny_mono h₃ (fun x s₄ h₄ => wpAny_bind (wpAny_mono h₄ (fun _ s₅ h₅ => wpAny_pure (wpAny_pure ⟨rfl, h₅⟩)) fun _ _ h' => h'.elim)) fun _ _ h' => h'.elim))
end
def PIfs (X : Cx) (ifs : List Expr) (t : TT) : Prop :=
  ∀ (pins : List (Addr × Obj)) (s : Shared) (σ : St) (H : Hp) (Q : Bool → Hp → Prop), Inv X pins σ H s → t σ H Q →
    wpAny (model X.prog X.w) X.A (forIn ifs true fun c r => if r = true then do let ok ← isTrue c X.env (eval c X.env); pure (ForInStep.yield ok) else pure (ForInStep.yield r)) (TP X pins σ Q) X.xe s
def tYes : TT := fun _ H Q => Q true H
theorem pif0 {X : Cx} : PIfs X [] tYes := fun _ _ _ H _ I h => wpAny_tests_nil ⟨H, I, h⟩
theorem pif1 {X : Cx} {c : Expr} {t : TT} (h : PT X c t) : PIfs X [c] t := fun pins s σ H Q I q => wpAny_tests_one (h pins s σ H Q I q)
def CompW (J : It) (vs : List Str) (js : List Nat) (σ : St) (g : TG) (tt : TT) (te : TE) (Q : VK) (D : Addr) (H1 : Hp) : Prop :=
  ∃ W : Nat → Nat → St → List V → Hp → Prop, (∃ m, W 0 m (blkSt vs js σ) [] (upd H1 D (.lst []))) ∧ ∀ i m σ' ys H', W i m σ' ys H' →
    (J.stop i H' ∧ Q (.ref D) H') ∨ (J.go i H' ∧ ∃ N : St → List V → Hp → Prop, (∀ σ2 zs H2, N σ2 zs H2 → ∃ m', m' < m ∧ W (i + 1) m' σ2 zs H2) ∧
      ∀ x H2, J.yld i H' x H2 → g x σ' H2 fun σ3 H3 => tt σ3 H3 fun b H4 => if b = true then te σ3 H4 fun y H5 => H5 D = some (.lst ys) ∧ ys.length < sizeLine ∧ N σ3 (ys ++ [y]) (upd H5 D (.lst (ys ++ [y]))) else N σ3 ys H4)
def tComp (vs : List Str) (js : List Nat) (wi : TI) (g : TG) (tt : TT) (te : TE) : TE := fun σ H Q => wi σ H fun J H1 => ∀ D, H1 D = none → CompW J vs js σ g tt te Q D H1
section
variable {X : Cx} {pins : List (Addr × Obj)} {σ : St} {H : Hp} {s : Shared} {scope : Scope} {vs fs : List Str} {js : List Nat}
theorem blk_start {fp : List Addr} {C D : Addr} {h₁ : Heap} {tk : Nat} {m : Str → Option Value} (I : Inv X pins σ H s) (B : BlkOk X scope vs fs js) (hf : ∀ b ∈ fp, FpOk X pins H b) (hfp : ∀ b ∈ fp, b < s.heap.objs.size)
    (hn : h₁.Ns C m) (hk : ∀ b o, s.heap.get? b = some o → h₁.get? b = some o) (hD : D = s.heap.objs.size) (hC : s.heap.objs.size < C)
    (hl : h₁.get? D = some { cls := .type "list", data := .seq ([] : List Value).toArray }) :
    Inv (cxBlk X scope (vs ++ fs) C s H fp) [] (blkSt vs js σ) (upd H D (.lst [])) { s with heap := h₁, toks := tk } := by
  have hasX : ∀ y ∈ scope.names, y.2 = .free → ∃ c, X.env.cells.lookup y.1 = some c := fun y hy hf => I.ok.has y.1 (B.free y hy hf)
  have snd : ∀ {y : Str} {c : Addr}, (clOf X.env scope.names []).lookup y = some c → X.env.cells.lookup y = some c := fun h => clOf_sound hasX (fun p hp => absurd hp (by simp)) h
  have clt : ∀ {y : Str} {c : Addr}, X.env.cells.lookup y = some c → c < s.heap.objs.size := fun {y c} h => by
    obtain ⟨v, o, ho, _⟩ := I.cell y c h
    exact Heap.lt_size ho
  have hfr : H D = none := by rw [hD]; exact I.hok.fresh (Nat.le_refl _)
  have hfC : H C = none := I.hok.fresh (Nat.le_of_lt hC)
  have nCD : C ≠ D := by rw [hD]; exact Nat.ne_of_gt hC
  refine ⟨⟨I.ok.mod, B.kind, I.ok.glob, I.ok.blt, Nat.le_of_lt hC, fun y z c h1 h2 => I.ok.inj y z c (snd h1) (snd h2), fun y hy => ?_, fun y c z _ => absurd (show false = true from z) Bool.false_ne_true, I.ok.hd, I.ok.frames, .inl rfl, fun b hb => ⟨?_, fun y c h => (hf b hb).2.2.2.2.1 y c (snd h)⟩, I.bs, Nat.le_trans I.ok.bsz I.sz, fun b o e hb => ?_, fun b hb z => ?_, I.stack, I.stkFree⟩,
    rfl, I.bare, Un.laid hk (Nat.le_of_eq hD.symm) hfr, ⟨m, hn, fun i y v h1 h2 h3 => ?_⟩, fun y c h => ?_, ?_, fun y c h => ?_, fun p hp => absurd (show p ∈ ([] : List (Addr × Obj)) from hp) (by simp), I.hok.laid hk (Nat.le_of_eq hD.symm) ⟨by simp, [], 0, .nil, hl⟩, ?_⟩
  · -- has
    have key : (y, NameKind.free) ∈ scope.names := by
      rcases hy with hy | hy
      · rcases relabel_back hy with ⟨_, z⟩ | z
        · exact z
        · exact absurd rfl (B.cell _ z)
      · rcases relabel_back hy with ⟨z, _⟩ | z
        · cases z
        · exact z
    exact lookup_mono_isSome (clOf_has key)
  · exact Nat.ne_of_lt (Nat.lt_trans (hfp b hb) hC)
  · rcases (hf b hb).2.2.2.1 with z | z
    · exact I.ok.noex b o e z
    · exact absurd (Nat.lt_of_lt_of_le (Heap.lt_size e) (Nat.le_trans I.ok.bsz z)) (Nat.lt_irrefl _)
  · rcases List.mem_cons.mp (I.stkSub b z) with e | e
    · exact (hf b hb).2.1 e
    · exact (hf b hb).2.2.1 e
  · -- loc
    have hlen : js.length = fs.length := by have := congrArg List.length B.ix; simpa using this
    have hi : ¬ i < vs.length := fun hi => by
      unfold blkSt at h2
      rw [List.getElem?_append_left (by simpa using hi), List.getElem?_map] at h2
      cases e : vs[i]? with
      | none => rw [e] at h2; cases h2
      | some a => rw [e] at h2; cases h2
    have hi' : vs.length ≤ i := Nat.le_of_not_lt hi
    have h1' : fs[i - vs.length]? = some y := by
      have := h1
      rw [show (cxBlk X scope (vs ++ fs) C s H fp).N = vs ++ fs from rfl, List.getElem?_append_right hi'] at this
      exact this
    have h2' : (js[i - vs.length]?).map (fun j => (σ[j]?).join) = some (some v) := by
      unfold blkSt at h2
      rw [List.getElem?_append_right (by simpa using hi'), List.length_map, List.getElem?_map] at h2
      exact h2
    cases ej : js[i - vs.length]? with
    | none => rw [ej] at h2'; cases h2'
    | some j =>
      rw [ej] at h2'
      have hσ : σ[j]? = some (some v) := by
        have z : (σ[j]?).join = some v := Option.some.inj h2'
        cases q : σ[j]? with
        | none => rw [q] at z; cases z
        | some o => rw [q] at z; have z' : o = some v := z; rw [z']
      have hNj : X.N[j]? = some y := by
        have q := congrArg (fun l => l[i - vs.length]?) B.ix
        simp only [List.getElem?_map, ej, h1', Option.map_some] at q
        exact Option.some.inj q
      have hcap := B.cap y (List.mem_of_getElem? h1')
      have hmem : (y, NameKind.free) ∈ scope.names := PySem.mem_of_lookup hcap
      have hkX := B.free _ hmem rfl
      have vis : Vis X.env.scope y := by
        rcases hkX with z | z
        · exact .inr (.inl z)
        · exact .inr (.inr z)
      obtain ⟨m0, hn0, hl0⟩ := I.loc
      obtain ⟨u, r, l⟩ := hl0 j y v hNj hσ vis
      refine ⟨u, r, .inr ⟨lookup_relabel_free hcap, ?_⟩⟩
      rcases l with ⟨z, _⟩ | ⟨_, c, hc, hcell⟩
      · rcases hkX with q | q <;> (rw [q] at z; cases z)
      · obtain ⟨c', hc'⟩ := lookup_mono_isSome (clOf_has (env := X.env) (cs := []) hmem)
        have e := snd hc'
        rw [hc] at e
        cases e
        exact ⟨c, hc', hcell.keeps hk⟩
  · obtain ⟨v, z⟩ := I.cell y c (snd h)
    exact ⟨v, z.keeps hk⟩
  · rw [show (cxBlk X scope (vs ++ fs) C s H fp).env.locals = C from rfl, upd_ne nCD]
    exact hfC
  · have q := snd h
    have ne : c ≠ D := by rw [hD]; exact Nat.ne_of_lt (clt q)
    rw [upd_ne ne]
    exact I.freeC y c q
  · have hlen : js.length = fs.length := by have := congrArg List.length B.ix; simpa using this
    show (vs.map _ ++ js.map _).length = (vs ++ fs).length
    rw [List.length_append, List.length_append, List.length_map, List.length_map, hlen]
theorem Inv.goneC {H' : Hp} {s' : Shared} {C : Addr} {h'' : Heap} (I2 : Inv X pins σ H s) {σ' : St} (I' : Inv X pins σ' H' s') (hC : H' C = none) (hle : s.heap.objs.size ≤ C) (hs : Heap.SameBut C s'.heap h'') : Inv X pins σ' H' { s' with heap := h'' } := by
  refine I'.turned (t' := s'.toks) (fun b o hb e => (hs.2 b hb).trans e) hC (Nat.ne_of_gt (Nat.lt_of_lt_of_le I2.lt hle)) (.inr (Nat.le_trans I2.sz hle)) (fun y c e z => ?_) fun p hp z => ?_
  · obtain ⟨v, o, ho, _⟩ := I2.cell y c e
    have := Heap.lt_size ho
    rw [z] at this
    exact absurd (Nat.lt_of_lt_of_le this hle) (Nat.lt_irrefl _)
  · have := Heap.lt_size (I2.pin p hp).1
    rw [z] at this
    exact absurd (Nat.lt_of_lt_of_le this hle) (Nat.lt_irrefl _)
theorem blk_run {tg iter elt : Expr} {ifs : List Expr} {pos : Pos} {g : TG} {tt : TT} {te : TE} (hc : X.calm = true) (B : BlkOk X scope vs fs js)
    (hg : ∀ C s H ex, PG (cxBlk X scope (vs ++ fs) C s H ex) tg g) (ht : ∀ C s H ex, PIfs (cxBlk X scope (vs ++ fs) C s H ex) ifs tt) (he : ∀ C s H ex, PE (cxBlk X scope (vs ++ fs) C s H ex) elt te)
    {it : Addr} {fp : List Addr} {tn : Nat → Heap → Prop} {J : It} {Q : VK} {E : Value → Shared → Prop} (I2 : Inv X pins σ H s) (T : Turn X.prog X.w X.K tg J fp it tn) (st2 : tn 0 s.heap) (f2 : ∀ b ∈ fp, FpOk X pins H b)
    (hW : ∀ D, H D = none → CompW J vs js σ g tt te Q D H)
    {RR : Value → Addr → Result → Shared → Prop}
    (hR : ∀ D C H' s', Inv X pins σ H' s' → (∃ m, s'.heap.Ns C m) → H' C = none → s.heap.objs.size ≤ C → Q (.ref D) H' → RR (.ref D) C (.ok .next) s') :
    wpAny (model X.prog X.w) X.A (newList []) (fun acc s₃ => wpAny (model X.prog X.w) X.A (newFunctionEnv scope X.env.globals (clOf X.env scope.names []) [] X.env.qual none .none (some X.env)) (fun cenv s₄ =>
      codeAny (model X.prog X.w) X.A (.compStart (.ListComp elt [⟨tg, iter, ifs, 0⟩] scope pos) 0 (.ref it) acc { cenv with scope := relabel scope X.env }) (RR acc cenv.locals) s₄) E s₃) E s := by
  have hfp : ∀ b ∈ fp, b < s.heap.objs.size := fun b hb => by
    obtain ⟨o, e, _⟩ := T.obj _ _ st2 b hb
    exact Heap.lt_size e
  refine wpAny_newObj_type (wpAny_newFunctionEnv B.cell (by intro y hy; simp at hy) (fun h₁ hns₁ hsb₁ => ?_) B.kind)
  dsimp only at hns₁ hsb₁ ⊢
  generalize hH2 : s.heap.push { cls := .type "list", dict := none, data := .seq ([] : List Value).toArray } = HH at hns₁ hsb₁ ⊢
  have hC : HH.objs.size = s.heap.objs.size + 1 := by rw [← hH2, Heap.size_push]
  have hlt : s.heap.objs.size < HH.objs.size := by rw [hC]; exact Nat.lt_succ_self _
  have old : ∀ b o, s.heap.get? b = some o → h₁.get? b = some o := fun b o e => hsb₁.extBut b o (Nat.ne_of_lt (Nat.lt_trans (Heap.lt_size e) hlt)) (Heap.get?_push_of_some _ (hH2 ▸ Heap.get?_push_of_some _ e))
  have hacc : h₁.get? s.heap.objs.size = some { cls := .type "list", data := .seq ([] : List Value).toArray } := hsb₁.extBut _ _ (Nat.ne_of_lt hlt) (Heap.get?_push_of_some _ (hH2 ▸ Heap.get?_push_size _ rfl))
  have I0 : Inv (cxBlk X scope (vs ++ fs) HH.objs.size s H fp) [] (blkSt vs js σ) (upd H s.heap.objs.size (.lst [])) { s with heap := h₁, toks := s.toks + ([] : List (Str × Value)).length } := blk_start I2 B f2 hfp hns₁ old rfl hlt hacc
  obtain ⟨W, ⟨m0, w0⟩, turn⟩ := hW s.heap.objs.size (I2.hok.fresh (Nat.le_refl _))
  have st1 : tn 0 h₁ := T.keep _ _ _ st2 fun b hb o e => old b o e
  have hch : ∀ b ∈ fp, (b ∈ X.ex ∨ X.s₀.heap.objs.size ≤ b) ∧ b ≠ X.env.locals ∧ (∀ x c, X.env.cells.lookup x = some c → c ≠ b) ∧ ∀ p ∈ X.pn ++ pins, p.1 ≠ b := fun b hb => by
    obtain ⟨_, a2, _, a4, a5, a6⟩ := f2 b hb
    exact ⟨a4, a2, a5, a6⟩
  have back : ∀ {pl : List (Addr × Obj)} {σ' : St} {H' : Hp} {s' : Shared}, Inv (cxBlk X scope (vs ++ fs) HH.objs.size s H fp) pl σ' H' s' → Inv X pins σ H' s' := fun {pl σ' H' s'} J' => I2.call' (ch := fp) J'.os J'.base J'.hok J'.bare hch
  have nD : ∀ b ∈ fp, b ≠ s.heap.objs.size := fun b hb => Nat.ne_of_lt (hfp b hb)
  have stat : ∀ {H' : Hp}, (∀ b ∈ fp, H' b = none) → ∀ b ∈ fp, FpOk (cxBlk X scope (vs ++ fs) HH.objs.size s H fp) [] H' b := fun {H'} hn b hb => by
    have z := I0.ok
    refine ⟨hn b hb, (z.exf b hb).1, z.exfs b hb, .inl hb, (z.exf b hb).2, fun p hp => absurd (show p ∈ ([] : List (Addr × Obj)) from hp) (by simp)⟩
  have loop : ∀ s₃ : Shared, s₃ = { s with heap := h₁, toks := s.toks + ([] : List (Str × Value)).length } →
      codeAny (model X.prog X.w) X.A (.compLoop (.ListComp elt [⟨tg, iter, ifs, 0⟩] scope pos) 0 (.ref it) (.ref s.heap.objs.size) (compEnvC scope (clOf X.env scope.names []) HH.objs.size X.env)) (RR (.ref s.heap.objs.size) HH.objs.size) s₃ := by
    rintro s₃ rfl
    refine codeAny_compLoop_gen (fun n s' => ∃ i σ' ys H', Inv (cxBlk X scope (vs ++ fs) HH.objs.size s H fp) [] σ' H' s' ∧ tn i s'.heap ∧ (∀ b ∈ fp, H' b = none) ∧ W i n σ' ys H') ?_ m0
      ⟨0, _, _, _, I0, st1, fun b hb => by rw [upd_ne (nD b hb)]; exact (f2 b hb).1, w0⟩
    rintro n s3 ⟨i, σ3, ys, H3, I3, st3, fr3, w3⟩
    rcases turn i n σ3 ys H3 w3 with ⟨stop, q⟩ | ⟨go, N, hN, step⟩
    · refine thn (T.done (cxBlk X scope (vs ++ fs) HH.objs.size s H fp) rfl rfl rfl hc i [] s3 σ3 H3 _ I3 (stat fr3) st3 stop) fun r s4 ⟨hr, I4⟩ => ?_
      subst hr
      obtain ⟨m, hm, _⟩ := I4.loc
      exact hR _ _ H3 s4 (back I4) ⟨m, hm⟩ I4.free (Nat.le_of_lt hlt) q
    · refine thn (T.item (cxBlk X scope (vs ++ fs) HH.objs.size s H fp) rfl rfl rfl hc i [] s3 σ3 H3 _ I3 (stat fr3) st3 go) fun r s4 ⟨u, hr, h4⟩ => ?_
      subst hr
      refine thn h4 fun _ s5 ⟨x, H5, I5, r5, y5, st5, fr5⟩ => ?_
      have I5' := I5.pinned (stat fr5) (T.obj _ _ st5)
      have again : ∀ {σ7 : St} {H7 : Hp} {s7 : Shared} {zs : List V}, Inv (cxBlk X scope (vs ++ fs) HH.objs.size s H fp) ([] ++ pinsAt fp s5.heap) σ7 H7 s7 → N σ7 zs H7 → ∃ m, m < n ∧ ∃ i σ' ys H', Inv (cxBlk X scope (vs ++ fs) HH.objs.size s H fp) [] σ' H' s7 ∧ tn i s7.heap ∧ (∀ b ∈ fp, H' b = none) ∧ W i m σ' ys H' := fun {σ7 H7 s7 zs} I7 n7 => by
        obtain ⟨m', hm, w7⟩ := hN σ7 zs H7 n7
        refine ⟨m', hm, i + 1, σ7, zs, H7, I7.unpinned, T.keep _ _ _ st5 fun b hb o e => (I7.pin (b, o) (List.mem_append_right _ (List.mem_append_right _ (mem_pinsAt hb e)))).1, fun b hb => ?_, w7⟩
        obtain ⟨o, e, d⟩ := T.obj _ _ st5 b hb
        exact (I7.pin (b, o) (List.mem_append_right _ (List.mem_append_right _ (mem_pinsAt hb e)))).2.1
      refine thn (hg _ _ _ _ _ s5 σ3 H5 x u _ I5' r5 (step x H5 y5)) fun _ s6 ⟨σ6, H6, I6, q6⟩ => ?_
      refine thn (ht _ _ _ _ _ s6 σ6 H6 _ I6 q6) fun ok s7 ⟨H7, I7, q7⟩ => ?_
      cases ok with
      | false =>
        rw [if_neg Bool.false_ne_true] at q7 ⊢
        exact again I7 q7
      | true =>
        rw [if_pos rfl] at q7 ⊢
        refine thn (he _ _ _ _ _ s7 σ6 H7 _ I7 q7) fun y s8 ⟨yv, H8, I8, r8, hD8, hz, n8⟩ => ?_
        refine thn (mt_append _ s8 σ6 H8 (.ref s.heap.objs.size) [yv] (.ref s.heap.objs.size) [y] (fun _ H9 => N σ6 (ys ++ [yv]) H9) I8 rfl (.cons r8 .nil) ⟨_, ys, yv, rfl, rfl, hD8, hz, n8⟩) fun _ s9 ⟨_, H9, I9, _, n9⟩ => ?_
        exact again I9 n9
  exact codeAny_compStart_list (loop _ rfl) (T.self X.A 0 _ _ _ st1 (loop _ rfl))
theorem pe_comp {tg iter elt : Expr} {ifs : List Expr} {pos : Pos} {wi : TI} {g : TG} {tt : TT} {te : TE} (hc : X.calm = true) (B : BlkOk X scope vs fs js) (hi : PI X tg iter wi)
    (hg : ∀ C s H ex, PG (cxBlk X scope (vs ++ fs) C s H ex) tg g) (ht : ∀ C s H ex, PIfs (cxBlk X scope (vs ++ fs) C s H ex) ifs tt) (he : ∀ C s H ex, PE (cxBlk X scope (vs ++ fs) C s H ex) elt te)
    (hs : ∀ x, foldedSetIterable iter X.env x = pure x := by intro _; rfl) : PE X (.ListComp elt [⟨tg, iter, ifs, 0⟩] scope pos) (tComp vs js wi g tt te) := by
  intro pins s σ H Q I h
  rw [eval_ListComp]
  refine wpAny_comprehension_free (use := none) rfl hs (closure_eq fun y hy hf => I.ok.has y.1 (B.free y hy hf)) B.kind B.names (thn (hi pins s σ H _ I h) fun v s1 h1 => thn h1 fun itv s2 h2 => ?_)
  obtain ⟨it, fp, tn, J, H2, e, I2, T, st2, f2, hW⟩ := h2
  subst e
  refine blk_run (RR := fun acc C => compPost (model X.prog X.w) X.A X.xe none (EP X pins σ Q) acc C) hc B hg ht he I2 T st2 f2 hW ?_
  intro D C H' s' I' hn hC hle q
  obtain ⟨m, hn⟩ := hn
  exact ⟨m, hn, fun h'' hs'' => ⟨.ref D, H', I2.goneC I' hC hle hs'', rfl, q⟩⟩
theorem ps_setc {i : Nat} {y : Str} {py spos : Pos} {tg iter elt : Expr} {ifs : List Expr} {pos : Pos} {wi : TI} {g : TG} {tt : TT} {te : TE} (hN : X.N.Nodup) (hi' : X.N[i]? = some y) (hy : X.env.scope.names.lookup y = some .local) (hc : X.calm = true) (B : BlkOk X scope vs fs js) (hi : PI X tg iter wi)
    (hg : ∀ C s H ex, PG (cxBlk X scope (vs ++ fs) C s H ex) tg g) (ht : ∀ C s H ex, PIfs (cxBlk X scope (vs ++ fs) C s H ex) ifs tt) (he : ∀ C s H ex, PE (cxBlk X scope (vs ++ fs) C s H ex) elt te)
    (hsw : swapsWith (.ListComp elt [⟨tg, iter, ifs, 0⟩] scope pos) (some (.Name y py)) spos.line X.env = pure true := by rfl)
    (hs : ∀ x, foldedSetIterable iter X.env x = pure x := by intro _; rfl) : PS X (.Assign [.Name y py] (.ListComp elt [⟨tg, iter, ifs, 0⟩] scope pos) spos) (tAsg (tComp vs js wi g tt te) (gName i)) := by
  intro pins s σ H D I h
  rw [exec_Assign_Name_used _ _ _ _ hsw]
  refine wpAny_bind (wpAny_standAt (wpAny_bind ?_))
  show wpAny _ X.A (do let _ ← comprehension (.ListComp elt [⟨tg, iter, ifs, 0⟩] scope pos) scope X.env _ (newList []) false (eval iter X.env) (some (assign (.Name y py) X.env))) _ _ s
  refine wpAny_bind (wpAny_mono (wpAny_comprehension_free (use := some (assign (.Name y py) X.env)) (Q := fun _ s' => SP X pins D .next s') rfl hs (closure_eq fun y hy hf => I.ok.has y.1 (B.free y hy hf)) B.kind B.names
    (thn (hi pins s σ H _ I h) fun v s1 h1 => thn h1 fun itv s2 h2 => ?_)) (fun _ s' hq => wpAny_pure (wpAny_pure hq)) fun _ _ e => e)
  obtain ⟨it, fp, tn, J, H2, e, I2, T, st2, f2, hW⟩ := h2
  subst e
  refine blk_run (Q := fun x H1 => gName i x σ H1 D.nx) (RR := fun acc C => compPost (model X.prog X.w) X.A X.xe (some (assign (.Name y py) X.env)) (fun _ s' => SP X pins D .next s') acc C) hc B hg ht he I2 T st2 f2 hW ?_
  intro D' C H' s' I' hn hC hle q
  obtain ⟨m, hn⟩ := hn
  show wpAny _ X.A (assign (.Name y py) X.env (.ref D')) _ _ _
  refine wpAny_assign_Name (store_ok2 I' hN hi' (.inl hy) (v := .ref D') rfl (fun s'' I'' hsb => ?_) (.inr hy))
  obtain ⟨a, hsb, ha⟩ := hsb
  have nCa : C ≠ a := by
    rcases ha with z | z
    · rw [z]; exact Nat.ne_of_gt (Nat.lt_of_lt_of_le I2.lt hle)
    · obtain ⟨v, o, ho, _⟩ := I2.cell y a z
      exact Nat.ne_of_gt (Nat.lt_of_lt_of_le (Heap.lt_size ho) hle)
  exact ⟨m, hn.sameBut hsb nCa, fun h'' hs'' => ⟨_, H', I2.goneC I'' hC hle hs'', q⟩⟩
end
section
variable {vs : List Str} {js : List Nat} {σ : St} {g : TG} {tt : TT} {te : TE} {Q : VK}
theorem comp_range {lo : Int} {n : Nat} {H : Hp} (Pv : Nat → St → List V → Hp → Prop) (D : Addr) (h0 : Pv 0 (blkSt vs js σ) [] (upd H D (.lst [])))
    (hs : ∀ i σ' ys H', i < n → Pv i σ' ys H' → g (.int (lo + i)) σ' H' fun σ3 H3 => tt σ3 H3 fun b H4 => if b = true then te σ3 H4 fun y H5 => H5 D = some (.lst ys) ∧ ys.length < sizeLine ∧ Pv (i + 1) σ3 (ys ++ [y]) (upd H5 D (.lst (ys ++ [y]))) else Pv (i + 1) σ3 ys H4)
    (hd : ∀ σ' ys H', Pv n σ' ys H' → Q (.ref D) H') :
    CompW (Itr lo n) vs js σ g tt te Q D H := by
  refine ⟨fun i m σ' ys H' => m = n - i ∧ i ≤ n ∧ Pv i σ' ys H', ⟨n, by simp, Nat.zero_le _, h0⟩, ?_⟩
  rintro i m σ' ys H' ⟨rfl, hi, p⟩
  by_cases hlt : i < n
  · refine .inr ⟨hlt, Pv (i + 1), fun σ2 zs H2 p' => ⟨n - (i + 1), by omega, rfl, hlt, p'⟩, fun x H2 y => ?_⟩
    obtain ⟨e, y⟩ := y
    subst e y
    exact hs i σ' ys _ hlt p
  · have e : i = n := by omega
    subst e
    exact .inl ⟨Nat.le_refl _, hd σ' ys H' p⟩
theorem comp_list {K : PySem.W.Frag} {a : Addr} {xs : List V} {H : Hp} (Pv : Nat → St → List V → Hp → Prop) (D : Addr) (h0 : Pv 0 (blkSt vs js σ) [] (upd H D (.lst []))) (hl : ∀ i σ' ys H', i ≤ xs.length → Pv i σ' ys H' → SqL K H' a xs)
    (hs : ∀ i x σ' ys H', xs[i]? = some x → Pv i σ' ys H' → g x σ' H' fun σ3 H3 => tt σ3 H3 fun b H4 => if b = true then te σ3 H4 fun y H5 => H5 D = some (.lst ys) ∧ ys.length < sizeLine ∧ Pv (i + 1) σ3 (ys ++ [y]) (upd H5 D (.lst (ys ++ [y]))) else Pv (i + 1) σ3 ys H4)
    (hd : ∀ σ' ys H', Pv xs.length σ' ys H' → Q (.ref D) H') :
    CompW (Itl K a) vs js σ g tt te Q D H := by
  refine ⟨fun i m σ' ys H' => m = xs.length - i ∧ i ≤ xs.length ∧ Pv i σ' ys H', ⟨xs.length, by simp, Nat.zero_le _, h0⟩, ?_⟩
  rintro i m σ' ys H' ⟨rfl, hi, p⟩
  have q := hl i σ' ys H' hi p
  by_cases hlt : i < xs.length
  · refine .inr ⟨⟨xs, xs[i], q, by simp [hlt]⟩, Pv (i + 1), fun σ2 zs H2 p' => ⟨xs.length - (i + 1), by omega, rfl, hlt, p'⟩, fun x H2 y => ?_⟩
    obtain ⟨e, y⟩ := y
    subst e
    exact hs i x σ' ys _ (y xs q) p
  · have e : i = xs.length := by omega
    subst e
    exact .inl ⟨⟨xs, q, Nat.le_refl _⟩, hd σ' ys H' p⟩
end
end L2
namespace L2
open PySem PySem.Spec PyProof.Rows
theorem bt_len : bootBuiltins "len" = some (.builtin "len") := by decide +kernel
theorem bt_abs : bootBuiltins "abs" = some (.builtin "abs") := by decide +kernel
theorem bt_max : bootBuiltins "max" = some (.builtin "max") := by decide +kernel
theorem bt_min : bootBuiltins "min" = some (.builtin "min") := by decide +kernel
theorem bt_all : bootBuiltins "all" = some (.builtin "all") := by decide +kernel
theorem bt_isinstance : bootBuiltins "isinstance" = some (.builtin "isinstance") := by decide +kernel
theorem bt_repr : bootBuiltins "repr" = some (.builtin "repr") := by decide +kernel
theorem bt_int : bootBuiltins "int" = some (.type "int") := by decide +kernel
theorem bt_bool : bootBuiltins "bool" = some (.type "bool") := by decide +kernel
theorem bt_str : bootBuiltins "str" = some (.type "str") := by decide +kernel
theorem bt_list : bootBuiltins "list" = some (.type "list") := by decide +kernel
theorem bt_tuple : bootBuiltins "tuple" = some (.type "tuple") := by decide +kernel
structure Cal (P : Program) (w : World) (K : PySem.W.Frag) (mg : Str → Option Value) (base : Heap) (x : Str) (ps : List Str) (k : Nat) (sp : Sp) : Prop where
  ex : ∃ (f : Addr) (fd : FuncData), FnOk P w K mg base CX0 k f fd ps sp ∧ Binds K fd ps [] ∧ mg x = some (.ref f) ∧ PySem.W.keepIn K (.ref f) = true
section
variable {X : Cx} {x : Str} {ps : List Str} {k : Nat} {sp : Sp} {e : Expr} {es : List Expr} {t : TA} {p pos : Pos}
theorem pcl (C : Cal X.prog X.w X.K X.mg X.base x ps k sp) (hr : Room k X.A) (ha : PA X (e :: es) t) (hg : Gl X x := by rfl) (hdb : (x == ("__debug__" : Str)) = false := by decide) (he : starEach (e :: es) X.env = (false, eval e X.env) :: starEach es X.env := by rfl) (hpl : (backTo pos (starEach es X.env)).any (·.1) = false := by rfl) :
    PE X (.Call (.Name x p) (e :: es) [] pos) (tCall sp [] E0 t) := by
  obtain ⟨f, fd, F, hb, hm, hk⟩ := C.ex
  exact pe_call F hr hg hm hk hb .nil pass0 ha hdb he hpl
end
theorem Cal.of {P : Program} {w : World} {K : PySem.W.Frag} {mg : Str → Option Value} {base : Heap} {x : Str} {st : Stmt} {f : Addr} {fd : FuncData} {N ps : List Str} {k : Nat} {sp : Sp} (F : Fun K x x st f fd) (mF : mg x = some (.ref f)) (bF : Binds K fd ps []) (S : FnScope N ps (defScope st)) (len : ∀ vs H Q E, sp vs H Q E → vs.length = ps.length)
    (hbody : ∀ (cdv : Value) (A : Around) (outer : List Env) (s : Shared) (H : Hp) (vs : List V) (Q : VK) (E : XK), Room k (A.deeper (envOfC x (defScope st) s.heap.objs.size f cdv)) → sp vs H Q E →
      ∃ t, PSs (cxOf CX0 P w K mg base N x (defScope st) f cdv A outer s H E).nox (defBody st) t ∧ t { nx := fun _ H' => Q .non H', rt := Q } (start N vs) H) : Cal P w K mg base x ps (k + 1) sp :=
  ⟨f, fd, F.ok S len hbody, bF, mF, F.kp⟩
def blkB (sc scope : Scope) (N vs fs : List Str) (js : List Nat) : Bool :=
  (scope.kind == .function) && scope.names.all (fun y => y.2 != .cell) && scope.names.all (fun y => y.2 != .local || scope.names.lookup y.1 == some .local) &&
  scope.names.all (fun y => y.2 != .free || sc.names.lookup y.1 == some .cell || sc.names.lookup y.1 == some .free) && vs.all (fun y => scope.names.lookup y == some .local) && fs.all (fun y => scope.names.lookup y == some .free) &&
  (js.map (fun j => N[j]?) == fs.map some)
theorem blkOk {X : Cx} {sc scope : Scope} {N vs fs : List Str} {js : List Nat} (h : blkB sc scope N vs fs js = true) (hs : X.env.scope = sc) (hN : X.N = N) : BlkOk X scope vs fs js := by
  unfold blkB at h
  simp only [Bool.and_eq_true, List.all_eq_true, beq_iff_eq, bne_iff_ne, Bool.or_eq_true] at h
  obtain ⟨⟨⟨⟨⟨⟨h1, h2⟩, h3⟩, h4⟩, h5⟩, h6⟩, h7⟩ := h
  refine ⟨h1, h2, fun y hy hl => ?_, fun y hy hf => ?_, h5, h6, ?_⟩
  · rcases h3 y hy with z | z
    · exact absurd hl z
    · exact z
  · unfold Env.kindOf
    rw [hs]
    rcases h4 y hy with (z | z) | z
    · exact absurd hf z
    · exact .inl z
    · exact .inr z
  · rw [hN]; exact h7
def tCut (t : TS) : TS := fun D σ H => ∃ R : St → Hp → Prop, t { D with nx := R } σ H ∧ ∀ σ' H', R σ' H' → D.nx σ' H'
theorem ps_cut {X : Cx} {st : Stmt} {t : TS} (h : PS X st t) : PS X st (tCut t) := by
  intro pins s σ H D I hw
  obtain ⟨R, h1, h2⟩ := hw
  refine thn (h pins s σ H _ I h1) fun f s' q => ?_
  cases f with
  | next =>
    obtain ⟨σ', H', I', q⟩ := q
    exact ⟨σ', H', I', h2 _ _ q⟩
  | brk => exact q
  | cont => exact q
  | ret u => exact q
section
variable {X : Cx}
def CDivB (i j : Int) : Prop := 0 < j ∧ j < 2 ^ 100
theorem op_fdivB : OpR X (binaryOp .FloorDiv) (rI CDivB fun i j => .int (i / j)) := opI fun i j _ _ _ _ _ hc q => by
  have h1 : (0 : Int) < j := hc.1
  have h2 : j < 2 ^ 100 := hc.2
  refine floordiv_int (by omega) (by rw [Int.fdiv_eq_ediv_of_nonneg i (by omega)]; exact q) (.inl (PyProof.noPylong_of_log2 ?_))
  have h0 : j.natAbs ≠ 0 := by omega
  have h3 : j.natAbs.log2 < 100 := (Nat.log2_lt h0).mpr (by omega)
  omega
theorem pe_powC {a b c : Int} {j1 j2 : Nat} {p1 p2 pos : Pos} (h : a ^ b.toNat = c) (h1 : CPow a b) : PE X (.BinOp (.Constant (.int a) j1 p1) .Pow (.Constant (.int b) j2 p2) pos) (tC (.int c)) := by
  intro pins s σ H Q I q
  subst h
  exact pe_op op_pow pe_int pe_int pins s σ H Q I ⟨a, b, rfl, rfl, h1, q⟩
theorem get_list : PGet X (rIxL X.K) := by
  intro pins s σ H x y v u Q I rx ry h
  obtain ⟨p, xs, i, z, rfl, rfl, hq, he, q⟩ := h
  cases rx
  obtain ⟨t, rfl⟩ := ry
  obtain ⟨its, r, pl, hz⟩ := I.list hq
  obtain ⟨j, h1, h2, h3, h4, h5⟩ := atI_get he
  obtain ⟨w, ew, rw'⟩ := r.get h2
  have hl := r.length
  have hn := line63
  have fin : EP X pins σ Q w s := ⟨z, H, I, rw', q⟩
  by_cases h0 : 0 ≤ i
  · have hj : i.toNat = j := by
      rw [seqIndex_of h0 h5] at h1
      exact Option.some.inj h1
    exact wpAny_getItem_list pl.isList h0 (by omega) (by rw [hj]; simpa using ew) fin
  · have hj : (i + (its.toArray.size : Int)).toNat = j := by
      rw [seqIndex_neg (by omega) h4] at h1
      rw [List.size_toArray, ← hl]
      exact Option.some.inj h1
    exact wpAny_getItem_list_neg pl.isList (by omega) (by rw [List.size_toArray] <;> omega) (by omega) (by rw [hj]; simpa using ew) fin
def rBitLen : V → List V → Hp → VK → Prop := fun x vs H Q => ∃ i, x = .int i ∧ vs = [] ∧ Q (.int (Builtin.Int.intBits i : Nat)) H
theorem mt_bitlen : MtR X "int.bit_length" rBitLen := by
  intro pins s σ H x xs v us Q I rx rs h
  obtain ⟨i, rfl, rfl, q⟩ := h
  obtain ⟨t, rfl⟩ := rx
  cases rs
  exact call_int_bit_length ⟨.int _, H, I.tok _, ⟨_, rfl⟩, q⟩
def rLenL (K : PySem.W.Frag) : List V → Hp → VK → Prop := fun xs H Q => ∃ p ys, xs = [.ref p] ∧ (SqL K H p ys ∨ SqT K H p ys) ∧ Q (.int ys.length) H
theorem call_lenL : CallR X (.builtin "len") (rLenL X.K) := call_len_seq
def rAbs1 : List V → Hp → VK → Prop := fun xs H Q => ∃ i, xs = [.int i] ∧ Q (.int (if i < 0 then -i else i)) H
theorem call_abs1 : CallR X (.builtin "abs") rAbs1 := call_abs
def rMaxI : List V → Hp → VK → Prop := fun xs H Q => ∃ i j, xs = [.int i, .int j] ∧ Q (.int (if j > i then j else i)) H
theorem call_maxI (hc : X.calm = true) : CallR X (.builtin "max") rMaxI := call_max2 hc
def rMinI : List V → Hp → VK → Prop := fun xs H Q => ∃ i j, xs = [.int i, .int j] ∧ Q (.int (if j < i then j else i)) H
theorem call_minI (hc : X.calm = true) : CallR X (.builtin "min") rMinI := call_min2 hc
def rIsi (K : PySem.W.Frag) : List V → Hp → VK → Prop := fun xs H Q => ∃ x t T b, xs = [x, .ty T] ∧ TyOf K H x t ∧ PySem.W.kitOne K t (.type T) = some b ∧ Q (.bl b) H
theorem call_isinst : CallR X (.builtin "isinstance") (rIsi X.K) := by
  intro pins s σ H xs us Q I r h
  obtain ⟨x, t, T, b, rfl, ty, e, q⟩ := h
  obtain ⟨u, w', rfl, r1, r2⟩ := vals2 r
  cases (show w' = Value.type T from r2)
  exact isinst_ok I r1 ty e fun tk => ⟨.bl b, H, I.tok _, rfl, q⟩
end
section
variable {σ : St} {H : Hp} {Q : VK} {D : Ends}
theorem rd_var {i : Nat} {v : V} (h : σ[i]? = some (some v)) (q : Q v H) : tVar i σ H Q := ⟨v, h, q⟩
theorem rd_c {v : V} (q : Q v H) : tC v σ H Q := q
theorem rd_op {r : R2} {ta tb : TE} (h : ta σ H fun x H1 => tb σ H1 fun y H2 => r x y H2 Q) : tOp r ta tb σ H Q := h
theorem rd_un {r : V → Hp → VK → Prop} {ta : TE} (h : ta σ H fun x H1 => r x H1 Q) : tUn r ta σ H Q := h
theorem rd_I0 {g : Int → Int → V} {i j : Int} (q : Q (g i j) H) : rI0 g (.int i) (.int j) H Q := ⟨i, j, rfl, rfl, q⟩
theorem rd_I {C : Int → Int → Prop} {g : Int → Int → V} {i j : Int} (c : C i j) (q : Q (g i j) H) : rI C g (.int i) (.int j) H Q := ⟨i, j, rfl, rfl, c, q⟩
theorem rd_U {g : Int → V} {i : Int} (q : Q (g i) H) : rU g (.int i) H Q := ⟨i, rfl, q⟩
theorem dec_int' {i j : Int} : decide (V.int i = V.int j) = decide (i = j) := by
  rw [Bool.eq_iff_iff]; simp
theorem rd_eqI {i j : Int} (q : Q (.bl (decide (i = j))) H) : rEq (.int i) (.int j) H Q := ⟨rfl, by rw [dec_int']; exact q⟩
theorem rd_neI {i j : Int} (q : Q (.bl (!decide (i = j))) H) : rNe (.int i) (.int j) H Q := ⟨rfl, by rw [dec_int']; exact q⟩
theorem rd_neB {i j : Bool} (q : Q (.bl (!decide (i = j))) H) : rNe (.bl i) (.bl j) H Q := ⟨rfl, by
  have e : decide (V.bl i = V.bl j) = decide (i = j) := by rw [Bool.eq_iff_iff]; simp
  rw [e]; exact q⟩
theorem rd_bl {c : Bool} {P : Bool → Prop} (h : P c) : ∃ k, V.bl c = V.bl k ∧ P k := ⟨c, rfl, h⟩
theorem rd_test {t : TE} {R : Bool → Hp → Prop} (h : t σ H fun x H' => ∃ k, x = .bl k ∧ R k H') : tTest t σ H R := h
theorem rd_tB {t : TE} {R : Bool → Hp → Prop} (h : t σ H fun x H' => ∃ k, x = .bl k ∧ R k H') : tB t σ H R := h
theorem rd_and {t u : TT} {R : Bool → Hp → Prop} (h : t σ H fun c H1 => if c = true then u σ H1 R else R false H1) : tAnd t u σ H R := h
theorem rd_or {t u : TT} {R : Bool → Hp → Prop} (h : t σ H fun c H1 => if c = true then R true H1 else u σ H1 R) : tOr t u σ H R := h
theorem rd_not {t : TT} {R : Bool → Hp → Prop} (h : t σ H fun c H1 => R (!c) H1) : tNot t σ H R := h
theorem rd_andV {ta tb : TE} (h : ta σ H fun x H1 => ∃ c, x = .bl c ∧ if c = true then tb σ H1 Q else Q (.bl false) H1) : tAndV ta tb σ H Q := h
theorem rd_notV {ta : TE} (h : ta σ H fun x H1 => ∃ c, x = .bl c ∧ Q (.bl (!c)) H1) : tNotV ta σ H Q := h
theorem rd_nil {R : List V → Hp → Prop} (h : R [] H) : tNil σ H R := h
theorem rd_cons {ta : TE} {tr : TA} {R : List V → Hp → Prop} (h : ta σ H fun x H1 => tr σ H1 fun xs H2 => R (x :: xs) H2) : tCons ta tr σ H R := h
theorem rd_call {sp : Sp} {dvs : List V} {E : XK} {t : TA} (h : t σ H fun vs H1 => sp (vs ++ dvs) H1 Q E) : tCall sp dvs E t σ H Q := h
theorem rd_cb {r : List V → Hp → VK → Prop} {t : TA} (h : t σ H fun vs H1 => r vs H1 Q) : tCB r t σ H Q := h
theorem rd_lst {t : TA} (h : t σ H fun xs H1 => xs.length ≤ sizeLine ∧ ∀ p, H1 p = none → Q (.ref p) (upd H1 p (.lst xs))) : tLst t σ H Q := h
theorem rd_tup {t : TA} (h : t σ H fun xs H1 => xs.length ≤ sizeLine ∧ ∀ p, H1 p = none → Q (.ref p) (upd H1 p (.tup xs))) : tTup t σ H Q := h
theorem rd_asg {te : TE} {g : TG} (h : te σ H fun x H1 => g x σ H1 D.nx) : tAsg te g D σ H := h
theorem rd_gname {i : Nat} {v : V} {R : St → Hp → Prop} (h : R (σ.set i (some v)) H) : gName i v σ H R := h
theorem rd_ret {te : TE} (h : te σ H D.rt) : tRet te D σ H := h
theorem rd_next (h : D.nx σ H) : tNext D σ H := h
theorem rd_drop {te : TE} (h : te σ H fun _ H1 => D.nx σ H1) : tDrop te D σ H := h
theorem rd_ixL {K : PySem.W.Frag} {p : Addr} {xs : List V} {i : Int} {v : V} (h : SqL K H p xs) (e : atI xs i = some v) (q : Q v H) : rIxL K (.ref p) (.int i) H Q := ⟨p, xs, i, v, rfl, rfl, h, e, q⟩
theorem rd_bm0 {K : PySem.W.Frag} {T : String} {r : V → List V → Hp → VK → Prop} {to : TE} (h : to σ H fun x H1 => tyV K T x H1 ∧ r x [] H1 Q) : tBM0 K T r to σ H Q := h
theorem rd_bm {K : PySem.W.Frag} {T : String} {r : V → List V → Hp → VK → Prop} {to : TE} {t : TA} (h : to σ H fun x H1 => tyV K T x H1 ∧ t σ H1 fun xs H2 => r x xs H2 Q) : tBM K T r to t σ H Q := h
theorem rd_augS {to ti te : TE} {tget : V → V → Hp → VK → Prop} {tip : TIp} {tset : TSet} (h : to σ H fun o H1 => ti σ H1 fun i H2 => tget o i H2 fun x H3 => te σ H3 fun y H4 => tip x y H4 fun z H5 => tset o i z H5 fun H6 => D.nx σ H6) : tAugS to ti te tget tip tset D σ H := h
theorem rd_ip {f : Int → Int → Int} {i j : Int} (q : Q (.int (f i j)) H) : ipI f (.int i) (.int j) H Q := ⟨i, j, rfl, rfl, q⟩
theorem rd_setL {p : Addr} {xs : List V} {i : Int} {j : Nat} {v : V} {R : Hp → Prop} (h : H p = some (.lst xs)) (e : ixN xs.length i = some j) (q : R (upd H p (.lst (xs.set j v)))) : rSetL (.ref p) (.int i) v H R := ⟨p, xs, i, j, rfl, rfl, h, e, q⟩
theorem rd_set0 {p : Addr} {a : V} {r : List V} {v : V} {R : Hp → Prop} (h : H p = some (.lst (a :: r))) (q : R (upd H p (.lst (v :: r)))) : rSetL (.ref p) (.int 0) v H R :=
  ⟨p, _, 0, 0, rfl, rfl, h, by unfold ixN; rw [if_pos (by decide), if_pos (by rw [List.length_cons]; omega)]; rfl, q⟩
theorem rd_set1 {p : Addr} {a b : V} {r : List V} {v : V} {R : Hp → Prop} (h : H p = some (.lst (a :: b :: r))) (q : R (upd H p (.lst (a :: v :: r)))) : rSetL (.ref p) (.int 1) v H R :=
  ⟨p, _, 1, 1, rfl, rfl, h, by unfold ixN; rw [if_pos (by decide), if_pos (by rw [List.length_cons, List.length_cons]; omega)]; rfl, q⟩
theorem rd_gsub {to ti : TE} {t : TSet} {v : V} {R : St → Hp → Prop} (h : to σ H fun o H1 => ti σ H1 fun i H2 => t o i v H2 fun H3 => R σ H3) : gSub to ti t v σ H R := h
theorem rd_sl {r : V → Option Int → Option Int → Hp → VK → Prop} {te : TE} {tl th : TO} (h : te σ H fun x H1 => tl σ H1 fun l H2 => th σ H2 fun u H3 => r x l u H3 Q) : tSl r te tl th σ H Q := h
theorem rd_nop {R : Option Int → Hp → Prop} (h : R none H) : tNoPart σ H R := h
theorem rd_part {t : TE} {R : Option Int → Hp → Prop} (h : t σ H fun x H1 => ∃ i, x = .int i ∧ R (some i) H1) : tPart t σ H R := h
theorem rd_int {i : Int} {P : Int → Prop} (h : P i) : ∃ k, V.int i = V.int k ∧ P k := ⟨i, rfl, h⟩
theorem rd_slL {K : PySem.W.Frag} {a : Addr} {xs : List V} {lo hi : Option Int} (h : SqL K H a xs) (q : ∀ p, H p = none → Q (.ref p) (upd H p (.lst (cutV xs lo hi)))) : rSlL K (.ref a) lo hi H Q := ⟨a, xs, rfl, h, q⟩
theorem rd_lenL {K : PySem.W.Frag} {a : Addr} {ys : List V} (h : SqL K H a ys) (q : Q (.int ys.length) H) : rLenL K [.ref a] H Q := ⟨a, ys, rfl, .inl h, q⟩
theorem rd_lenT {K : PySem.W.Frag} {a : Addr} {ys : List V} (h : SqT K H a ys) (q : Q (.int ys.length) H) : rLenL K [.ref a] H Q := ⟨a, ys, rfl, .inr h, q⟩
theorem rd_abs {i : Int} (q : Q (.int (if i < 0 then -i else i)) H) : rAbs1 [.int i] H Q := ⟨i, rfl, q⟩
theorem rd_max {i j : Int} (q : Q (.int (max i j)) H) : rMaxI [.int i, .int j] H Q := ⟨i, j, rfl, by
  have e : (if j > i then j else i) = max i j := by omega
  rw [e]; exact q⟩
theorem rd_min {i j : Int} (q : Q (.int (min i j)) H) : rMinI [.int i, .int j] H Q := ⟨i, j, rfl, by
  have e : (if j < i then j else i) = min i j := by omega
  rw [e]; exact q⟩
theorem rd_isi {K : PySem.W.Frag} {x : V} {t : Value} {T : String} {b : Bool} (h : TyOf K H x t) (e : PySem.W.kitOne K t (.type T) = some b) (q : Q (.bl b) H) : rIsi K [x, .ty T] H Q := ⟨x, t, T, b, rfl, h, e, q⟩
theorem rd_bitlen {i : Int} (q : Q (.int (Builtin.Int.intBits i : Nat)) H) : rBitLen (.int i) [] H Q := ⟨i, rfl, rfl, q⟩
theorem rd_if {c : Prop} [Decidable c] {A B : Prop} (h1 : c → A) (h2 : ¬ c → B) : if decide c = true then A else B := by
  by_cases h : c
  · rw [decide_eq_true h, if_pos rfl]; exact h1 h
  · rw [decide_eq_false h, if_neg Bool.false_ne_true]; exact h2 h
theorem rd_ifn {c : Prop} [Decidable c] {A B : Prop} (h1 : ¬ c → A) (h2 : c → B) : if (!decide c) = true then A else B := by
  by_cases h : c
  · rw [decide_eq_true h]; exact (if_neg (by decide)).mpr (h2 h)
  · rw [decide_eq_false h]; exact (if_pos rfl).mpr (h1 h)
theorem rd_rng1 {ta : TA} {R : It → Hp → Prop} (h : ta σ H fun vs H1 => ∃ j : Int, vs = [.int j] ∧ -(2 ^ 62) ≤ j ∧ j < 2 ^ 62 ∧ R (Itr 0 j.toNat) H1) : iRng1 ta σ H R := h
theorem rd_rng2 {ta : TA} {R : It → Hp → Prop} (h : ta σ H fun vs H1 => ∃ i j : Int, vs = [.int i, .int j] ∧ (-(2 ^ 62) ≤ i ∧ i < 2 ^ 62 ∧ -(2 ^ 62) ≤ j ∧ j < 2 ^ 62) ∧ R (Itr i (j - i).toNat) H1) : iRng2 ta σ H R := h
theorem rd_ilist {K : PySem.W.Frag} {tl : TE} {R : It → Hp → Prop} (h : tl σ H fun x H1 => ∃ a, x = .ref a ∧ (∃ xs, SqL K H1 a xs) ∧ R (Itl K a) H1) : iList K tl σ H R := h
theorem rd_comp {vs : List Str} {js : List Nat} {wi : TI} {g : TG} {tt : TT} {te : TE} (h : wi σ H fun J H1 => ∀ D, H1 D = none → CompW J vs js σ g tt te Q D H1) : tComp vs js wi g tt te σ H Q := h
theorem rd_yes {R : Bool → Hp → Prop} (h : R true H) : tYes σ H R := h
theorem rd_iteT {A B : Prop} (h : A) : if true = true then A else B := iteT h
theorem rd_iteF {A B : Prop} (h : B) : if false = true then A else B := iteF h
theorem rd_iteNF {A B : Prop} (h : A) : if (!false) = true then A else B := iteT h
theorem rd_iteNT {A B : Prop} (h : B) : if (!true) = true then A else B := iteF h
theorem cut_lo {ms : List Int} {k : Nat} : cutV (ms.map V.int) (some (k : Int)) none = (ms.drop k).map V.int := by
  unfold cutV
  rw [HT.sIx_nat, HT.sIx_none, List.length_map, ← List.map_drop]
  by_cases h : k ≤ ms.length
  · rw [Nat.min_eq_left h, List.take_of_length_le (by rw [List.length_map, List.length_drop]; omega)]
  · rw [List.drop_eq_nil_of_le (by omega : ms.length ≤ min k ms.length), List.drop_eq_nil_of_le (by omega : ms.length ≤ k)]
    simp
theorem cut_hi {ms : List Int} {k : Nat} : cutV (ms.map V.int) none (some (k : Int)) = (ms.take k).map V.int := by
  unfold cutV
  rw [HT.sIx_nat, HT.sIx_none, List.length_map, List.drop_zero, Nat.sub_zero, ← List.map_take]
  by_cases h : k ≤ ms.length
  · rw [Nat.min_eq_left h]
  · rw [Nat.min_eq_right (by omega), List.take_of_length_le (Nat.le_refl _), List.take_of_length_le (by omega)]
theorem same_new {H : Hp} {p : Addr} (h : H p = none) (o : HO) : Same H (upd H p o) := fun b u q => by rw [upd_ne (ne_of_none q h)]; exact q
end
end L2
namespace L2
open PySem PySem.Spec PyProof.Rows
mutual
inductive DV (K : PySem.W.Frag) (H : Hp) : V → PyData → Prop
  | non : DV K H .non .none
  | bl (b : Bool) : DV K H (.bl b) (.bool b)
  | int (i : Int) : DV K H (.int i) (.int i)
  | str (x : Str) : DV K H (.str x) (.str x)
  | lst {a : Addr} {xs : List V} {ds : List PyData} : SqL K H a xs → DVs K H xs ds → DV K H (.ref a) (.list ds)
  | tup {a : Addr} {xs : List V} {ds : List PyData} : SqT K H a xs → DVs K H xs ds → DV K H (.ref a) (.tuple ds)
inductive DVs (K : PySem.W.Frag) (H : Hp) : List V → List PyData → Prop
  | nil : DVs K H [] []
  | cons {x : V} {d : PyData} {xs : List V} {ds : List PyData} : DV K H x d → DVs K H xs ds → DVs K H (x :: xs) (d :: ds)
end
section
variable {X : Cx} {pins : List (Addr × Obj)} {σ : St} {H : Hp} {s : Shared}
mutual
theorem DV.reads (I : Inv X pins σ H s) : ∀ {x : V} {d : PyData} {v : Value}, DV X.K H x d → RelV x v → ∃ as, Reads s.heap v d as
  | _, _, _, .non, r => by cases r; exact ⟨_, .none⟩
  | _, _, _, .bl b, r => by cases r; exact ⟨_, .bool b⟩
  | _, _, _, .int i, r => by obtain ⟨t, rfl⟩ := r; exact ⟨_, .int i t⟩
  | _, _, _, .str x, r => by obtain ⟨t, rfl⟩ := r; exact ⟨_, .str x t⟩
  | _, _, _, .lst (a := a) h ds, r => by
    cases r
    obtain ⟨its, rv, ⟨o, n, e, c, _, d⟩, _⟩ := I.list h
    obtain ⟨as, q⟩ := DVs.reads I ds rv
    exact ⟨_, .list e c d (by simpa using q)⟩
  | _, _, _, .tup (a := a) h ds, r => by
    cases r
    obtain ⟨its, rv, ⟨o, e, c, n, d⟩, _⟩ := I.tuple h
    obtain ⟨as, q⟩ := DVs.reads I ds rv
    exact ⟨_, .tuple e c d (by simpa using q)⟩
theorem DVs.reads (I : Inv X pins σ H s) : ∀ {xs : List V} {ds : List PyData} {vs : List Value}, DVs X.K H xs ds → Vals xs vs → ∃ as, ReadsAll s.heap vs ds as
  | _, _, _, .nil, r => by cases r; exact ⟨_, .nil⟩
  | _, _, _, .cons h t, r => by
    cases r with
    | cons r1 r2 =>
      obtain ⟨as, q⟩ := DV.reads I h r1
      obtain ⟨bs, p⟩ := DVs.reads I t r2
      exact ⟨_, .cons q p⟩
end
end
theorem DVs.ints {K : PySem.W.Frag} {H : Hp} : ∀ ns : List Int, DVs K H (ns.map V.int) (ns.map PyData.int)
  | [] => .nil
  | n :: r => .cons (.int n) (DVs.ints r)
theorem lay_ints : ∀ ns : List Int, PyData.canLayAll0 (ns.map PyData.int) = true ∧ PyData.depthAll (ns.map PyData.int) = 0
  | [] => ⟨rfl, rfl⟩
  | n :: r => by
    obtain ⟨h1, h2⟩ := lay_ints r
    simp [PyData.canLayAll0, PyData.canLay0, PyData.depthAll, PyData.depth, h1, h2]
theorem shaped_ints (ns : List Int) : SeqAt.shaped (.list (ns.map PyData.int)) = true := by
  obtain ⟨h1, h2⟩ := lay_ints ns
  simp [SeqAt.shaped, PyData.canLay0, PyData.depth, h1, h2]
theorem eqv_ints : ∀ ns ms : List Int, PyData.eqvAll (ns.map PyData.int) (ms.map PyData.int) = decide (ns = ms)
  | [], [] => rfl
  | [], _ :: _ => rfl
  | _ :: _, [] => rfl
  | n :: ns, m :: ms => by
    rw [List.map_cons, List.map_cons, PyData.eqvAll, PyData.eqv, eqv_ints ns ms, Bool.eq_iff_iff]
    simp
section
variable {X : Cx}
def rEqD (K : PySem.W.Frag) : R2 := fun x y H Q => ∃ d e, DV K H x d ∧ DV K H y e ∧ SeqAt.shaped d = true ∧ SeqAt.shaped e = true ∧ Q (.bl (PyData.eqv d e)) H
def rNeD (K : PySem.W.Frag) : R2 := fun x y H Q => ∃ d e, DV K H x d ∧ DV K H y e ∧ SeqAt.shaped d = true ∧ SeqAt.shaped e = true ∧ Q (.bl (!PyData.eqv d e)) H
theorem op_eqD (hu : X.A.units + 64 < cLine) : OpR X (compareOp .Eq) (rEqD X.K) := by
  intro pins s σ H x y v u Q I rx ry h
  obtain ⟨d, e, h1, h2, h3, h4, q⟩ := h
  obtain ⟨as, r1⟩ := h1.reads I rx
  obtain ⟨bs, r2⟩ := h2.reads I ry
  exact eq_dataH r1 r2 h3 h4 hu ⟨.bl _, H, I, rfl, q⟩
theorem op_neD (hu : X.A.units + 64 < cLine) : OpR X (compareOp .NotEq) (rNeD X.K) := by
  intro pins s σ H x y v u Q I rx ry h
  obtain ⟨d, e, h1, h2, h3, h4, q⟩ := h
  obtain ⟨as, r1⟩ := h1.reads I rx
  obtain ⟨bs, r2⟩ := h2.reads I ry
  exact ne_dataH r1 r2 h3 h4 hu ⟨.bl _, H, I, rfl, q⟩
end
end L2
namespace L2
open PySem PySem.Spec PyProof.Rows
section
variable {X : Cx}
theorem pe_gint {x : Str} {i : Int} {pos : Pos} (hg : Gl X x) (hm : ∃ t, X.mg x = some (.int i t)) (hd : (x == ("__debug__" : Str)) = false := by decide) : PE X (.Name x pos) (tC (.int i)) := by
  obtain ⟨t, hm⟩ := hm
  exact pe_glob hg hm ⟨_, rfl⟩ hd
theorem bools_get : ∀ {bs : List Bool} {its : List Value} {i : Nat} {v : Value}, Vals (bs.map V.bl) its → its[i]? = some v → ∃ b, bs[i]? = some b ∧ v = .bool b
  | [], _, i, v, .nil, e => by simp at e
  | b :: bs, _, 0, v, .cons r t, e => by
    simp at e; subst e
    exact ⟨b, rfl, r⟩
  | b :: bs, _, i + 1, v, .cons r t, e => by
    obtain ⟨c, h1, h2⟩ := bools_get (i := i) (v := v) t (by simpa using e)
    exact ⟨c, by simpa using h1, h2⟩
theorem all_range (bs : List Bool) : (List.range bs.length).all (fun i => bs.getD i true) = bs.all id := by
  rw [Bool.eq_iff_iff, List.all_eq_true, List.all_eq_true]
  constructor
  · intro h b hb
    obtain ⟨i, hi, rfl⟩ := List.mem_iff_getElem.mp hb
    have := h i (List.mem_range.mpr hi)
    simpa [List.getD, hi] using this
  · intro h i hi
    have hi' := List.mem_range.mp hi
    have := h bs[i] (List.getElem_mem hi')
    simpa [List.getD, hi'] using this
theorem it_list {s : Shared} {l : Addr} {items : Array Value} {A : Around} {E : Value → Shared → Prop} {Q : Value → Shared → Prop} {prog : Program} {w : World} (hl : s.heap.IsList l items)
    (h : ∀ s₂ : Shared, s₂ = { s with heap := s.heap.push { cls := .type "list_iterator", data := .fields #[.ref l, .int 0 0] } } → (s₂.heap.IsListIter s.heap.objs.size l 0 ∧ s₂.heap.IsList l items) → l ≠ s.heap.objs.size → Q (.ref s.heap.objs.size) s₂) :
    wpAny (model prog w) A (pyIter (.ref l)) Q E s := by
  have hlt : l < s.heap.objs.size := by obtain ⟨_, e, _⟩ := hl; exact Heap.lt_size e
  exact wpAny_pyIter_list hl (h _ rfl ⟨⟨_, Heap.get?_push_size _ rfl, rfl, rfl⟩, hl.push _⟩ (Nat.ne_of_lt hlt))
def rAllL (K : PySem.W.Frag) : List V → Hp → VK → Prop := fun xs H Q => ∃ a bs, xs = [.ref a] ∧ SqL K H a (List.map V.bl bs) ∧ Q (.bl (bs.all id)) H
theorem call_allL (hc : X.calm = true) : CallR X (.builtin "all") (rAllL X.K) := by
  intro pins s σ H xs us Q I r h
  obtain ⟨a, bs, rfl, hq, q⟩ := h
  obtain ⟨u, rfl, r1⟩ := vals1 r
  cases (show u = Value.ref a from r1)
  obtain ⟨its, rv, pl, hz⟩ := I.list hq
  have hlen : bs.length = its.length := by simpa using rv.length
  refine call_all_walk (it_list pl.isList fun s₂ e st hne => ?_)
  subst e
  refine ⟨_, _, _, _, _, _, fun i => bs.getD i true, rfl, Walks.list (A := X.A.in1) (I.ok.hd hc) _ a hne its.toArray, st, fun i v s' Q' E' hP hQ => ?_, fun h' tk hk => ?_⟩
  · obtain ⟨b, h1, rfl⟩ := bools_get rv (by simpa using hP)
    have e : bs.getD i true = b := by simp [List.getD, h1]
    exact wpAny_truthy_bool (by have hQ2 := hQ; dsimp only at hQ2; rw [e] at hQ2; exact hQ2)
  · refine ⟨.bl (bs.all id), H, I.kept (fun b o e => hk b o (fun z => ?_) (Heap.get?_push_of_some _ e)), ?_, q⟩
    · have z' : b = s.heap.objs.size := by simpa using z
      rw [z'] at e
      exact absurd (Heap.lt_size e) (Nat.lt_irrefl _)
    · show Value.bool _ = Value.bool _
      rw [List.size_toArray, ← hlen, all_range]
end
section
variable {X : Cx} {K : PySem.W.Frag}
theorem call_isinstK (h : X.K = K) : CallR X (.builtin "isinstance") (rIsi K) := by subst h; exact call_isinst
end
section
variable {σ : St} {H : Hp} {Q : VK} {D : Ends}
theorem rd_allL {K : PySem.W.Frag} {a : Addr} {bs : List Bool} (h : SqL K H a (bs.map V.bl)) (q : Q (.bl (bs.all id)) H) : rAllL K [.ref a] H Q := ⟨a, bs, rfl, h, q⟩
theorem rd_itup {K : PySem.W.Frag} {tl : TE} {R : It → Hp → Prop} (h : tl σ H fun x H1 => ∃ a, x = .ref a ∧ (∃ xs, SqT K H1 a xs) ∧ R (Itt K a) H1) : iTup K tl σ H R := h
theorem rd_ixT {K : PySem.W.Frag} {p : Addr} {xs : List V} {i : Int} {v : V} (h : SqT K H p xs) (e : atI xs i = some v) (q : Q v H) : rIxT K (.ref p) (.int i) H Q := ⟨p, xs, i, v, rfl, rfl, h, e, q⟩
theorem comp_tup {vs : List Str} {js : List Nat} {g : TG} {tt : TT} {te : TE} {K : PySem.W.Frag} {a : Addr} {xs : List V} (Pv : Nat → St → List V → Hp → Prop) (D : Addr) (h0 : Pv 0 (blkSt vs js σ) [] (upd H D (.lst []))) (hl : ∀ i σ' ys H', i ≤ xs.length → Pv i σ' ys H' → SqT K H' a xs)
    (hs : ∀ i x σ' ys H', xs[i]? = some x → Pv i σ' ys H' → g x σ' H' fun σ3 H3 => tt σ3 H3 fun b H4 => if b = true then te σ3 H4 fun y H5 => H5 D = some (.lst ys) ∧ ys.length < sizeLine ∧ Pv (i + 1) σ3 (ys ++ [y]) (upd H5 D (.lst (ys ++ [y]))) else Pv (i + 1) σ3 ys H4)
    (hd : ∀ σ' ys H', Pv xs.length σ' ys H' → Q (.ref D) H') : CompW (Itt K a) vs js σ g tt te Q D H := by
  refine ⟨fun i m σ' ys H' => m = xs.length - i ∧ i ≤ xs.length ∧ Pv i σ' ys H', ⟨xs.length, by simp, Nat.zero_le _, h0⟩, ?_⟩
  rintro i m σ' ys H' ⟨rfl, hi, p⟩
  have q := hl i σ' ys H' hi p
  by_cases hlt : i < xs.length
  · refine .inr ⟨⟨xs, xs[i], q, by simp [hlt]⟩, Pv (i + 1), fun σ2 zs H2 p' => ⟨xs.length - (i + 1), by omega, rfl, hlt, p'⟩, fun x H2 y => ?_⟩
    obtain ⟨e, y⟩ := y
    subst e
    exact hs i x σ' ys _ (y xs q) p
  · have e : i = xs.length := by omega
    subst e
    exact .inl ⟨⟨xs, q, Nat.le_refl _⟩, hd σ' ys H' p⟩
end
end L2
namespace L2
open PySem PySem.Spec PyProof.Rows
section
variable {κ : Type} [DecidableEq κ]
end
section
variable {P : Program} {w : World} {H : Hp} {h : Heap} {a : Addr}
end
section
variable {X : Cx} {pins : List (Addr × Obj)} {σ : St} {H : Hp} {s : Shared} {a : Addr} {y v : V} {u r : Value} {o : Option V} {A : Around} {E : Value → Shared → Prop}
theorem Inv.big (I : Inv X pins σ H s) : sysModules < s.heap.objs.size := by
  have h : mainGlobals < s.heap.objs.size := (I.mod.glob.keeps I.bk).lt
  exact Nat.lt_trans (by decide) h
end
section
variable {X : Cx} {pins : List (Addr × Obj)} {σ : St} {H : Hp} {s : Shared} {a : Addr} {kvs : List (Key × V)} {k : Key} {u : Value} {A : Around} {E : Value → Shared → Prop}
end
section
variable {X : Cx} {o i e value : Expr} {pos pos' tpos : Pos} {td ty tv : TE}
end
theorem dk_empty {P : Program} {w : World} {H : Hp} (h : Heap) (hb : sysModules < h.objs.size) : ObjOk P w H (h.push { cls := .type "dict", data := .dict #[] }) h.objs.size (.dK []) :=
  ⟨Nat.zero_le _, beq_eq_false_iff_ne.mpr (Ne.symm (Nat.ne_of_lt hb)), [], .nil, Heap.DictOf.new h⟩
def tDNewK : TE := fun _ H Q => ∀ p, H p = none → Q (.ref p) (upd H p (.dK []))
section
variable {X : Cx} {pos : Pos}
theorem pe_dnewK : PE X (.Dict [] [] pos) tDNewK := fun pins s σ H Q I h =>
  wpAny_Dict_empty ⟨.ref s.heap.objs.size, _, I.laid (a := s.heap.objs.size) (o := .dK []) (t' := s.toks) (fun _ _ q => Heap.get?_push_of_some _ q) (Nat.le_refl _) (dk_empty s.heap I.big), rfl, h _ (I.hok.fresh (Nat.le_refl _))⟩
end
section
variable {X : Cx} {pins : List (Addr × Obj)} {σ : St} {H : Hp} {s : Shared} {a : Addr} {y d : V} {u r : Value} {o : Option V} {A : Around} {E : Value → Shared → Prop}
end
section
variable {X : Cx} {o e f : Expr} {apos cpos : Pos} {td ty tx : TE}
end
section
variable {X : Cx} {pins : List (Addr × Obj)} {σ : St} {H : Hp} {s : Shared} {a : Addr} {kvs : List (Key × V)} {A : Around} {E : Value → Shared → Prop}
end
section
variable {X : Cx} {pins : List (Addr × Obj)} {σ : St} {H : Hp} {s : Shared} {a : Addr} {y : V} {u : Value} {A : Around} {E : Value → Shared → Prop}
end
end L2
namespace L2
open PySem PySem.Spec PyProof.Rows
section
variable {X : Cx}
end
section
variable {X : Cx} {tg : Expr}
end
section
variable {σ : St} {H : Hp} {Q : VK} {D : Ends}
end
end L2
namespace L2
open PySem PySem.Spec PyProof.Rows
section
variable {es : List Expr} {env : Env}
theorem stx_Constant {c j p} : starEach (.Constant c j p :: es) env = (false, eval (.Constant c j p) env) :: starEach es env := rfl
theorem stx_Name {x p} : starEach (.Name x p :: es) env = (false, eval (.Name x p) env) :: starEach es env := rfl
theorem stx_BinOp {a o b p} : starEach (.BinOp a o b p :: es) env = (false, eval (.BinOp a o b p) env) :: starEach es env := rfl
theorem stx_UnaryOp {o b p} : starEach (.UnaryOp o b p :: es) env = (false, eval (.UnaryOp o b p) env) :: starEach es env := rfl
theorem stx_Compare {a o b p} : starEach (.Compare a o b p :: es) env = (false, eval (.Compare a o b p) env) :: starEach es env := rfl
theorem stx_Call {a o b p} : starEach (.Call a o b p :: es) env = (false, eval (.Call a o b p) env) :: starEach es env := rfl
theorem stx_Subscript {a o p} : starEach (.Subscript a o p :: es) env = (false, eval (.Subscript a o p) env) :: starEach es env := rfl
theorem stx_List {a p} : starEach (.List a p :: es) env = (false, eval (.List a p) env) :: starEach es env := rfl
theorem stx_Tuple {a k p} : starEach (.Tuple a k p :: es) env = (false, eval (.Tuple a k p) env) :: starEach es env := rfl
theorem stx_Dict {a k p} : starEach (.Dict a k p :: es) env = (false, eval (.Dict a k p) env) :: starEach es env := rfl
theorem stx_ListComp {a b c p} : starEach (.ListComp a b c p :: es) env = (false, eval (.ListComp a b c p) env) :: starEach es env := rfl
end
end L2
namespace L2
open PySem PySem.Spec PyProof.Rows
section
variable {X : Cx}
end
end L2
namespace L2
open PySem PySem.Spec PyProof.Rows
section
variable {X : Cx}
def rIntB : List V → Hp → VK → Prop := fun xs H Q => ∃ k, xs = [.bl k] ∧ Q (.int (if k then 1 else 0)) H
theorem call_intB : CallR X (.type "int") rIntB := by
  intro pins s σ H xs us Q I r h
  exact call_int1 pins s σ H xs us Q I r (.inr h)
end
section
variable {K : PySem.W.Frag} {H : Hp} {Q : VK} {σ : St}
theorem rd_intB {k : Bool} (q : Q (.int (if k then 1 else 0)) H) : rIntB [.bl k] H Q := ⟨k, rfl, q⟩
end
end L2
namespace L2
open PySem PySem.Spec PyProof.Rows
section
variable {X : Cx} {pins : List (Addr × Obj)} {σ : St} {H : Hp} {s : Shared} {h' : Heap}
end
section
variable {X : Cx} {elts : List Expr} {x1 : _} {tpos : Pos}
end
section
variable {K : PySem.W.Frag} {H : Hp} {Q : VK} {σ : St}
end
end L2
namespace L2
open PySem PySem.Spec PyProof.Rows
section
variable {X : Cx} {K : PySem.W.Frag} {tg : Expr}
end
end L2
namespace L2
open PySem PySem.Spec PyProof.Rows
section
variable {prog : Program} {w : World} {A : Around} {E : Value → Shared → Prop} {s : Shared}
variable {ltb : Keyed → Keyed → Bool} {S : Keyed → Prop} {κ : SortKind}
end
end L2
namespace L2
open PySem PySem.Spec PyProof.Rows
section
variable {ltb : Keyed → Keyed → Bool} {xa xb ou : List Keyed} {ja jb k : Nat}
end
end L2
namespace L2
open PySem PySem.Spec PyProof.Rows
section
variable {ltb : Keyed → Keyed → Bool} {xa xb ou : Array Keyed} {ja jb k : Nat}
end
section
variable {prog : Program} {w : World} {A : Around} {E : Value → Shared → Prop} {s : Shared} {ltb : Keyed → Keyed → Bool} {S : Keyed → Prop} {κ : SortKind}
end
section
variable {prog : Program} {w : World} {A : Around} {E : Value → Shared → Prop} {s : Shared} {ltb : Keyed → Keyed → Bool} {S : Keyed → Prop} {κ : SortKind}
end
end L2
namespace L2
open PySem PySem.Spec PyProof.Rows
section
variable {ltb : Keyed → Keyed → Bool} {xa xb ou : Array Keyed} {na nb k : Nat}
end
end L2
namespace L2
open PySem PySem.Spec PyProof.Rows
section
variable {prog : Program} {w : World} {A : Around} {E : Value → Shared → Prop} {s : Shared} {ltb : Keyed → Keyed → Bool} {S : Keyed → Prop} {κ : SortKind}
end
end L2
namespace L2
open PySem PySem.Spec PyProof.Rows
section
variable {prog : Program} {w : World} {A : Around} {E : Value → Shared → Prop} {s : Shared} {ltb : Keyed → Keyed → Bool} {S : Keyed → Prop} {κ : SortKind}
end
end L2
namespace L2
open PySem PySem.Spec PyProof.Rows
section
variable {prog : Program} {w : World} {A : Around} {E : Value → Shared → Prop} {s : Shared} {ltb : Keyed → Keyed → Bool} {S : Keyed → Prop} {κ : SortKind}
end
end L2
namespace L2
open PySem PySem.Spec PyProof.Rows
section
variable {ltb : Keyed → Keyed → Bool} {R : List Keyed}
end
section
variable {prog : Program} {w : World} {A : Around} {E : Value → Shared → Prop} {s : Shared} {ltb : Keyed → Keyed → Bool} {S : Keyed → Prop} {κ : SortKind}
end
end L2
namespace L2
open PySem PySem.Spec PyProof.Rows
section
variable {ltb : Keyed → Keyed → Bool} {κ : SortKind}
end
section
variable {prog : Program} {w : World} {A : Around} {E : Value → Shared → Prop} {s : Shared} {ltb : Keyed → Keyed → Bool} {S : Keyed → Prop} {κ : SortKind}
end
end L2
namespace L2
open PySem PySem.Spec PyProof.Rows
section
variable {ltb : Keyed → Keyed → Bool} {κ : SortKind} {a0 : List Keyed} {st : SortSt} {rs : List (List Keyed)}
end
section
variable {prog : Program} {w : World} {A : Around} {E : Value → Shared → Prop} {s : Shared} {ltb : Keyed → Keyed → Bool} {S : Keyed → Prop} {κ : SortKind}
end
end L2
namespace L2
open PySem PySem.Spec PyProof.Rows
section
variable {prog : Program} {w : World} {A : Around} {E : Value → Shared → Prop} {s : Shared}
end
section
variable {X : Cx}
end
end L2
namespace L2
open PySem PySem.Spec PyProof.Rows
section
variable {X : Cx} {K : PySem.W.Frag}
end
section
variable {X : Cx} {K : PySem.W.Frag} {pos : Pos}
end
section
variable {σ : St} {H : Hp} {Q : VK} {D : Ends}
theorem rd_dnewK (h : ∀ p, H p = none → Q (.ref p) (upd H p (.dK []))) : tDNewK σ H Q := h
end
section
variable {X : Cx} {elts : List Expr} {x1 : _} {tpos : Pos}
end
section
variable {K : PySem.W.Frag} {H : Hp} {Q : VK} {σ : St}
end
end L2
namespace L2
open PySem PySem.Spec PyProof.Rows
section
variable {X : Cx} {pins : List (Addr × Obj)} {σ : St} {H : Hp} {s : Shared} {h' : Heap}
variable {A : Around} {E : Value → Shared → Prop}
end
section
variable {prog : Program} {w : World} {A : Around} {E : Value → Shared → Prop} {s : Shared}
end
section
variable {X : Cx} {pins : List (Addr × Obj)} {σ : St} {H : Hp} {s : Shared} {E : Value → Shared → Prop}
end
section
variable {X : Cx} {e : Expr} {t : TA} {y : Str} {ps : List Str} {k : Nat} {sp : Sp} {p p2 kpos pos : Pos}
end
section
variable {X : Cx}
end
end L2
namespace L2
open PySem PySem.Spec PyProof.Rows
section
variable {X : Cx} {pins : List (Addr × Obj)} {σ : St} {H : Hp} {s : Shared}
end
end L2
namespace L2
open PySem PySem.Spec PyProof.Rows
section
variable {X : Cx} {pins : List (Addr × Obj)} {σ : St} {H : Hp} {s : Shared} {scope : Scope} {y : Str} {fs : List Str} {js : List Nat}
end
section
variable {X : Cx} {e body : Expr} {t : TA} {te : TE} {k : Nat} {p kpos pos lpos : Pos} {params : Arguments} {scope : Scope} {y : Str} {fs : List Str} {js : List Nat} {P c : Addr}
end
section
variable {X : Cx} {a b : Expr} {rest : List Expr} {ta tb : TE} {pos : Pos}
end
end L2
namespace L2
open PySem PySem.Spec PyProof.Rows
section
variable {X : Cx}
end
end L2
namespace L2
open PySem PySem.Spec PyProof.Rows
section
variable {X : Cx}
end
end L2
namespace L2
open PySem PySem.Spec PyProof.Rows
section
variable {prog : Program} {w : World} {A : Around} {E : Value → Shared → Prop} {s : Shared}
end
section
variable {X : Cx}
end
end L2
namespace PySem
namespace F
end F
end PySem
namespace L2
open PySem PySem.Spec PyProof.Rows
section
variable {prog : Program} {w : World} {κ : Type} [DecidableEq κ] {knd : KeyKind prog w κ} {A : Around} {E : Value → Shared → Prop} {s : Shared}
inductive PairsAt (knd : KeyKind prog w κ) (h : Heap) : List Value → List (κ × Value) → Prop
  | nil : PairsAt knd h [] []
  | cons {a : Addr} {o : Obj} {n : Nat} {key val : Value} {k : κ} {vs : List Value} {rs : List (κ × Value)} : h.get? a = some o → o.cls = .type "tuple" → o.data = .seq #[key, val] n → knd.is k key = true → PairsAt knd h vs rs → PairsAt knd h (.ref a :: vs) ((k, val) :: rs)
end
section
variable {X : Cx}
end
end L2
namespace L2
open PySem PySem.Spec PyProof.Rows
section
variable {prog : Program} {w : World} {κ : Type} [DecidableEq κ] {knd : KeyKind prog w κ} {A : Around} {E : Value → Shared → Prop} {s : Shared}
end
section
variable {X : Cx}
end
end L2
namespace L2
open PySem PySem.Spec PyProof.Rows
inductive NumU : Value → Int → Prop
  | int (i : Int) (t : Tok) : NumU (.int i t) i
  | bl (b : Bool) : NumU (.bool b) (if b = true then (1 : Int) else 0)
section
variable {prog : Program} {w : World} {A : Around} {E : Value → Shared → Prop} {s : Shared} {Q : Value → Shared → Prop} {a b : Value} {i j : Int}
end
section
variable {prog : Program} {w : World} {A : Around} {E : Value → Shared → Prop} {s : Shared} {Q : Value → Shared → Prop} {a b : Value} {i j : Int}
end
inductive Num : V → Int → Prop
  | int (i : Int) : Num (.int i) i
  | bl (b : Bool) : Num (.bl b) (if b = true then (1 : Int) else 0)
section
variable {X : Cx}
end
end L2
namespace L2
open PySem PySem.Spec PyProof.Rows
section
variable {X : Cx}
end
end L2
namespace L2
open PySem PySem.Spec PyProof.Rows
section
variable {X : Cx}
def rEqE (K : PySem.W.Frag) : R2 := fun x y H Q => ∃ p q xs, x = .ref p ∧ y = .ref q ∧ SqL K H p xs ∧ SqL K H q [] ∧ Q (.bl (decide (xs = []))) H
theorem op_eqE (hu : X.A.units + 64 < cLine) : OpR X (compareOp .Eq) (rEqE X.K) := by
  intro pins s σ H x y v u Q I rx ry h
  obtain ⟨p, p', xs, rfl, rfl, h1, h2, q⟩ := h
  cases rx
  cases ry
  obtain ⟨its, r1, pl1, _⟩ := I.list h1
  obtain ⟨its2, r2, pl2, _⟩ := I.list h2
  have l1 := r1.length
  have l2 := r2.length
  have e2 : its2 = [] := List.eq_nil_of_length_eq_zero (by simpa using l2.symm)
  subst e2
  by_cases c : xs = []
  · subst c
    have e1 : its = [] := List.eq_nil_of_length_eq_zero (by simpa using l1.symm)
    subst e1
    refine SeqAt.eq_listAt (e := fun _ => true) pl1.isList pl2.isList rfl (by omega) (fun j g1 g2 => absurd g1 (by simp)) ⟨.bl _, H, I, rfl, ?_⟩
    rw [decide_eq_true rfl] at q
    exact q
  · have hl : 0 < xs.length := List.length_pos_iff.mpr c
    refine SeqAt.eq_list_lengthsAt pl1.isList pl2.isList ?_ (by omega) ⟨.bl _, H, I, rfl, ?_⟩
    · simp; intro e; rw [e] at l1; exact c (List.eq_nil_of_length_eq_zero l1)
    · rw [decide_eq_false c] at q; exact q
end
end L2
namespace L2
open PySem PySem.Spec PyProof.Rows
section
variable {prog : Program} {w : World} {A : Around} {R : Result → Shared → Prop} {s : Shared} {elt t1 i1 t2 i2 : Expr} {fs1 fs2 : List Expr} {scope : Scope} {pos : Pos} {it acc : Value} {env : Env}
end
section
variable {X : Cx} {pins : List (Addr × Obj)} {σ : St} {H : Hp} {s : Shared} {scope : Scope} {vs fs : List Str} {js : List Nat}
end
section
variable {X : Cx} {pins : List (Addr × Obj)} {σ : St} {H : Hp} {s : Shared} {scope : Scope} {vs fs : List Str} {js : List Nat}
end
section
variable {vs : List Str} {js : List Nat} {σ : St} {H : Hp} {Q : VK}
end
end L2
namespace L2
open PySem PySem.Spec PyProof.Rows
section
variable {X : Cx}
end
end L2
namespace L2
open PySem PySem.Spec PyProof.Rows
section
variable {X : Cx} {x m : Str} {C : Addr} {ps : List Str} {k : Nat} {sp : Sp} {e o : Expr} {es : List Expr} {t : TA} {ta : TE} {p pos apos : Pos}
end
section
variable {σ : St} {H : Hp} {Q : VK}
end
section
variable {X : Cx}
end
section
variable {X : Cx} {pins : List (Addr × Obj)} {σ : St} {H : Hp} {s : Shared} {d : Addr} {o : Obj} {kvs : List (Key × V)}
end
section
variable {X : Cx}
end
end L2
namespace L2
open PySem PySem.Spec PyProof.Rows
section
variable {prog : Program} {w : World} {A : Around} {E : Value → Shared → Prop} {s : Shared} {κ : Type} [DecidableEq κ] {knd : KeyKind prog w κ}
end
section
variable {X : Cx}
end
end L2
namespace L2
open PySem PySem.Spec PyProof.Rows
section
variable {σ : St} {H : Hp} {Q : VK} {D : Ends}
def IsT (R t : TS) : Prop := R = t
theorem rd_seqO {t u : TS} (h : ∀ R, IsT R u → t { D with nx := R D } σ H) : tSeq t u D σ H := h u rfl
theorem rd_ifSO {c : TT} {t u : TS} (h : ∀ R S, IsT R t → IsT S u → c σ H fun b H1 => if b = true then R D σ H1 else S D σ H1) : tIfS c t u D σ H := h t u rfl rfl
theorem rd_forO {wi : TI} {g : TG} {tb : TS} (h : ∀ R, IsT R tb → wi σ H fun J H1 => ∃ W : Nat → Nat → St → Hp → Prop, (∃ m, W 0 m σ H1) ∧ ∀ i m σ H, W i m σ H →
  (J.stop i H ∧ D.nx σ H) ∨ (J.go i H ∧ ∃ N : St → Hp → Prop, (∀ σ' H', N σ' H' → ∃ m', m' < m ∧ W (i + 1) m' σ' H') ∧ ∀ x H', J.yld i H x H' → g x σ H' fun σ2 H2 => R { D with nx := N, ct := N, bk := D.nx } σ2 H2)) : tFor wi g tb D σ H := h tb rfl
theorem rd_tx {R t : TS} (e : IsT R t) (h : t D σ H) : R D σ H := by cases e; exact h
def IsN (N I : St → Hp → Prop) : Prop := ∀ σ H, I σ H → N σ H
def AllN (I : St → Hp → Prop) (t : (St → Hp → Prop) → Prop) : Prop := ∀ N, IsN N I → t N
theorem rd_allN {I : St → Hp → Prop} {t : (St → Hp → Prop) → Prop} (h : ∀ N, IsN N I → t N) : AllN I t := h
theorem rd_isN {N I : St → Hp → Prop} (e : IsN N I) (h : I σ H) : N σ H := e σ H h
theorem for_rangeO {lo : Int} {n : Nat} {g : TG} {tb : TS} (Pv : Nat → St → Hp → Prop) (h0 : Pv 0 σ H)
    (hs : ∀ i σ H, i < n → Pv i σ H → AllN (Pv (i + 1)) fun N => g (.int (lo + i)) σ H fun σ2 H2 => tb { D with nx := N, ct := N, bk := D.nx } σ2 H2) (hd : ∀ σ H, Pv n σ H → D.nx σ H) :
    ∃ W : Nat → Nat → St → Hp → Prop, (∃ m, W 0 m σ H) ∧ ∀ i m σ H, W i m σ H →
      ((Itr lo n).stop i H ∧ D.nx σ H) ∨ ((Itr lo n).go i H ∧ ∃ N : St → Hp → Prop, (∀ σ' H', N σ' H' → ∃ m', m' < m ∧ W (i + 1) m' σ' H') ∧ ∀ x H', (Itr lo n).yld i H x H' → g x σ H' fun σ2 H2 => tb { D with nx := N, ct := N, bk := D.nx } σ2 H2) :=
  for_range Pv h0 (fun i σ H a b => hs i σ H a b _ fun _ _ z => z) hd
theorem for_listO {K : PySem.W.Frag} {a : Addr} {xs : List V} {g : TG} {tb : TS} (Pv : Nat → St → Hp → Prop) (h0 : Pv 0 σ H) (hl : ∀ i σ H, i ≤ xs.length → Pv i σ H → SqL K H a xs)
    (hs : ∀ i x σ H, xs[i]? = some x → Pv i σ H → AllN (Pv (i + 1)) fun N => g x σ H fun σ2 H2 => tb { D with nx := N, ct := N, bk := D.nx } σ2 H2) (hd : ∀ σ H, Pv xs.length σ H → D.nx σ H) :
    ∃ W : Nat → Nat → St → Hp → Prop, (∃ m, W 0 m σ H) ∧ ∀ i m σ H, W i m σ H →
      ((Itl K a).stop i H ∧ D.nx σ H) ∨ ((Itl K a).go i H ∧ ∃ N : St → Hp → Prop, (∀ σ' H', N σ' H' → ∃ m', m' < m ∧ W (i + 1) m' σ' H') ∧ ∀ x H', (Itl K a).yld i H x H' → g x σ H' fun σ2 H2 => tb { D with nx := N, ct := N, bk := D.nx } σ2 H2) :=
  for_list Pv h0 hl (fun i x σ H a b => hs i x σ H a b _ fun _ _ z => z) hd
end
end L2
namespace L2
open PySem PySem.Spec PyProof.Rows
section
variable {X : Cx} {σ : St} {H : Hp} {Q : VK} {D : DK}
end
section
variable {K : PySem.W.Frag}
def Ga (K : PySem.W.Frag) (x : Str) (st : Stmt) : Prop := ∃ f : Addr, PySem.W.nsIn K mainGlobals x = some (some (.ref f)) ∧ ∃ fd : FuncData, Fun K x x st f fd
def Ga2 (K : PySem.W.Frag) (x y : Str) (st : Stmt) : Prop := ∃ f : Addr, PySem.W.nsIn K mainGlobals x = some (some (.ref f)) ∧ PySem.W.nsIn K mainGlobals y = some (some (.ref f)) ∧ ∃ fd : FuncData, Fun K x x st f fd
def Me (K : PySem.W.Frag) (C : Addr) (m q : Str) (st : Stmt) : Prop := ∃ f : Addr, PySem.W.findIn K (.ref C) m = some (some (.ref f)) ∧ PySem.W.isFn K (.ref f) = true ∧ PySem.W.keepIn K (.ref f) = true ∧ ∃ fd : FuncData, Fun K m q st f fd
end
end L2
namespace L2
open PySem PySem.Spec PyProof.Rows
mutual
inductive DW (H : Hp) : V → PyData → Prop
  | non : DW H .non .none
  | bl (b : Bool) : DW H (.bl b) (.bool b)
  | int (i : Int) : DW H (.int i) (.int i)
  | str (x : Str) : DW H (.str x) (.str x)
  | lst {a : Addr} {xs : List V} {ds : List PyData} : H a = some (.lst xs) → DWs H xs ds → DW H (.ref a) (.list ds)
  | tup {a : Addr} {xs : List V} {ds : List PyData} : H a = some (.tup xs) → DWs H xs ds → DW H (.ref a) (.tuple ds)
  | dic {a : Addr} : H a = some (.dK []) → DW H (.ref a) (.dict [])
inductive DWs (H : Hp) : List V → List PyData → Prop
  | nil : DWs H [] []
  | cons {x : V} {d : PyData} {xs : List V} {ds : List PyData} : DW H x d → DWs H xs ds → DWs H (x :: xs) (d :: ds)
end
mutual
theorem DW.mono {H H' : Hp} (s : ∀ a o, H a = some o → H' a = some o) : ∀ {x : V} {d : PyData}, DW H x d → DW H' x d
  | _, _, .non => .non
  | _, _, .bl b => .bl b
  | _, _, .int i => .int i
  | _, _, .str x => .str x
  | _, _, .lst h t => .lst (s _ _ h) (DWs.mono s t)
  | _, _, .tup h t => .tup (s _ _ h) (DWs.mono s t)
  | _, _, .dic h => .dic (s _ _ h)
theorem DWs.mono {H H' : Hp} (s : ∀ a o, H a = some o → H' a = some o) : ∀ {xs : List V} {ds : List PyData}, DWs H xs ds → DWs H' xs ds
  | _, _, .nil => .nil
  | _, _, .cons h t => .cons (DW.mono s h) (DWs.mono s t)
end
theorem DWs.len {H : Hp} : ∀ {xs : List V} {ds : List PyData}, DWs H xs ds → xs.length = ds.length
  | _, _, .nil => rfl
  | _, _, .cons _ t => congrArg (· + 1) (DWs.len t)
theorem DWs.get {H : Hp} : ∀ {xs : List V} {ds : List PyData} {i : Nat} {x : V}, DWs H xs ds → xs[i]? = some x → ∃ d, ds[i]? = some d ∧ DW H x d
  | _, _, _, _, .nil, e => by cases e
  | _, _, 0, _, .cons h _, e => by cases e; exact ⟨_, rfl, h⟩
  | _, _, i + 1, _, .cons _ t, e => DWs.get (i := i) t e
theorem DWs.append {H : Hp} : ∀ {xs ys : List V} {ds es : List PyData}, DWs H xs ds → DWs H ys es → DWs H (xs ++ ys) (ds ++ es)
  | _, _, _, _, .nil, h => h
  | _, _, _, _, .cons a t, h => .cons a (DWs.append t h)
theorem DWs.take {H : Hp} : ∀ (n : Nat) {xs : List V} {ds : List PyData}, DWs H xs ds → DWs H (xs.take n) (ds.take n)
  | 0, _, _, _ => .nil
  | _ + 1, _, _, .nil => .nil
  | n + 1, _, _, .cons a t => .cons a (DWs.take n t)
theorem DWs.drop {H : Hp} : ∀ (n : Nat) {xs : List V} {ds : List PyData}, DWs H xs ds → DWs H (xs.drop n) (ds.drop n)
  | 0, _, _, h => h
  | _ + 1, _, _, .nil => .nil
  | n + 1, _, _, .cons _ t => DWs.drop n t
mutual
def nlD : PyData → Bool
  | .list _ => false
  | .tuple xs => nlDs xs
  | _ => true
def nlDs : List PyData → Bool
  | [] => true
  | x :: xs => nlD x && nlDs xs
end
section
variable {X : Cx} {pins : List (Addr × Obj)} {σ : St} {H : Hp} {s : Shared}
mutual
theorem DW.reads (I : Inv X pins σ H s) : ∀ {x : V} {d : PyData} {v : Value}, DW H x d → RelV x v → ∃ as, Reads s.heap v d as ∧ (nlD d = true → sysModules ∉ as)
  | _, _, _, .non, r => by cases r; exact ⟨_, .none, fun _ => List.not_mem_nil⟩
  | _, _, _, .bl b, r => by cases r; exact ⟨_, .bool b, fun _ => List.not_mem_nil⟩
  | _, _, _, .int i, r => by obtain ⟨t, rfl⟩ := r; exact ⟨_, .int i t, fun _ => List.not_mem_nil⟩
  | _, _, _, .str x, r => by obtain ⟨t, rfl⟩ := r; exact ⟨_, .str x t, fun _ => List.not_mem_nil⟩
  | _, _, _, .lst (a := a) h ds, r => by
    cases r
    obtain ⟨its, rv, ⟨o, n, e, c, _, d⟩, _⟩ := I.list (SqL.of h)
    obtain ⟨as, q, _⟩ := DWs.reads I ds rv
    exact ⟨_, .list e c d (by simpa using q), fun z => by simp [nlD] at z⟩
  | _, _, _, .tup (a := a) h ds, r => by
    cases r
    obtain ⟨its, rv, ⟨o, e, c, n, d⟩, _⟩ := I.tuple (SqT.of h)
    obtain ⟨as, q, m⟩ := DWs.reads I ds rv
    exact ⟨_, .tuple e c d (by simpa using q), fun z => m (by simpa [nlD] using z)⟩
  | _, _, _, .dic (a := a) h, r => by
    cases r
    obtain ⟨_, hS, vs, rk, o, es, ep, e, c, d, _, pr, _⟩ : ([] : List (Key × V)).length ≤ sizeLine ∧ (a == sysModules) = false ∧ ∃ vs, KV ([] : List (Key × V)) vs ∧ s.heap.DictOf (mixKind X.prog X.w) a vs := I.hok a _ h
    cases rk
    have e0 : es.toList = [] := by
      generalize es.toList = l at pr
      cases pr
      rfl
    refine ⟨_, .dict (kvs := []) (as := []) (bs := []) e c.1 d (by rw [e0]; exact .nil) (by rw [e0]; exact .nil), fun _ hm => ?_⟩
    rcases List.mem_cons.mp hm with z | z
    · rw [← z] at hS; simp at hS
    · exact absurd z List.not_mem_nil
theorem DWs.reads (I : Inv X pins σ H s) : ∀ {xs : List V} {ds : List PyData} {vs : List Value}, DWs H xs ds → Vals xs vs → ∃ as, ReadsAll s.heap vs ds as ∧ (nlDs ds = true → sysModules ∉ as)
  | _, _, _, .nil, r => by cases r; exact ⟨_, .nil, fun _ => List.not_mem_nil⟩
  | _, _, _, .cons h t, r => by
    cases r with
    | cons r1 r2 =>
      obtain ⟨as, q, m⟩ := DW.reads I h r1
      obtain ⟨bs, p, n⟩ := DWs.reads I t r2
      refine ⟨_, .cons q p, fun z hm => ?_⟩
      rw [nlDs, Bool.and_eq_true] at z
      rcases List.mem_append.mp hm with w | w
      · exact m z.1 w
      · exact n z.2 w
end
end
mutual
theorem DW.dv {K : PySem.W.Frag} {H : Hp} : ∀ {x : V} {d : PyData}, DW H x d → d.hasDict = false → DV K H x d
  | _, _, .non, _ => .non
  | _, _, .bl b, _ => .bl b
  | _, _, .int i, _ => .int i
  | _, _, .str x, _ => .str x
  | _, _, .lst h t, n => .lst (SqL.of h) (DWs.dv t (by simpa [PyData.hasDict] using n))
  | _, _, .tup h t, n => .tup (SqT.of h) (DWs.dv t (by simpa [PyData.hasDict] using n))
  | _, _, .dic _, n => by simp [PyData.hasDict] at n
theorem DWs.dv {K : PySem.W.Frag} {H : Hp} : ∀ {xs : List V} {ds : List PyData}, DWs H xs ds → PyData.hasDictAll ds = false → DVs K H xs ds
  | _, _, .nil, _ => .nil
  | _, _, .cons h t, n => by
    rw [PyData.hasDictAll, Bool.or_eq_false_iff] at n
    exact .cons (DW.dv h n.1) (DWs.dv t n.2)
end
def apartD : PyData → Prop
  | .list ds => PyData.hasDictAll ds = true → nlDs ds = true
  | d => d.hasDict = true → nlD d = true
def rRepr : List V → Hp → VK → Prop := fun xs H Q => ∃ x d, xs = [x] ∧ DW H x d ∧ d.showable = true ∧ apartD d ∧ d.depth ≤ 20 ∧ d.shown.length ≤ sizeLine ∧ Q (.str d.shown) H
section
variable {X : Cx}
theorem call_repr (hg : X.A.guards = some []) (hu : X.A.units + 64 < cLine) : CallR X (.builtin "repr") rRepr := by
  intro pins s σ H xs us Q I r h
  obtain ⟨x, d, rfl, hx, hs, hap, hd, hz, q⟩ := h
  obtain ⟨u, rfl, rx⟩ := vals1 r
  have fin : ∀ (h' : Heap) (u tk : Nat), (∀ b o, s.heap.get? b = some o → h'.get? b = some o) → EP X pins σ Q (.str d.shown u) { s with heap := h', toks := tk } := fun h' u tk k => ⟨.str d.shown, H, I.kept k, ⟨u, rfl⟩, q⟩
  have rr := fun v (rx : RelV x v) => DW.reads I hx rx
  cases hx with
  | non => cases rx; exact PySem.P.repr_of_none (by simpa [PyData.shown] using fin s.heap s.toks (s.toks + 1) fun _ _ e => e)
  | bl b => cases rx; exact PySem.P.repr_of_bool (by simpa [PyData.shown] using fin s.heap s.toks (s.toks + 1) fun _ _ e => e)
  | int i => obtain ⟨t, rfl⟩ := rx; exact PySem.P.repr_of_int (by simpa [PyData.showable] using hs) (by simpa [PyData.shown] using fin s.heap s.toks (s.toks + 1) fun _ _ e => e)
  | str z => obtain ⟨t, rfl⟩ := rx; exact PySem.P.repr_of_str (by simpa [PyData.shown] using fin s.heap s.toks (s.toks + 1) fun _ _ e => e) (by simpa [PyData.shown] using hz)
  | tup h t =>
    cases rx
    obtain ⟨as, r1, r2⟩ := rr _ rfl
    exact repr_of_reads' r1 hs (fun z => r2 (hap z)) hg (by omega) (fun _ _ e => e) fin hz
  | dic h =>
    cases rx
    obtain ⟨as, r1, r2⟩ := rr _ rfl
    exact repr_of_reads' r1 hs (fun z => r2 (hap z)) hg (by omega) (fun _ _ e => e) fin hz
  | lst h t =>
    rename_i a xs ds
    cases rx
    obtain ⟨its, rv, ⟨o, n, e, c, _, dd⟩, _⟩ := I.list (SqL.of h)
    obtain ⟨as, r1, r2⟩ := DWs.reads I t rv
    have hs' : PyData.showableAll ds = true := by simpa [PyData.showable] using hs
    have hz' : (listText (PyData.shownAll ds)).length ≤ sizeLine := by simpa [PyData.shown] using hz
    have hd' : PyData.depthAll ds + 1 ≤ 20 := by simpa [PyData.depth] using hd
    obtain ⟨bs, hb, hk⟩ := ReprAllK.of_readsAll (prog := X.prog) (w := X.w) r1 hs' (fun z => r2 (hap z)) fun t ht => Nat.le_trans (listText_mem_le ht) hz'
    have rd : Reads s.heap (.ref a) (.list ds) (a :: as) := .list e c dd (by simpa using r1)
    have na : a ∉ bs := not_mem_of_deeper rd (by rw [PyData.depth]; omega) hb
    refine call_repr_slot (by omega) ⟨o, e, c⟩ F.slot_list_repr.toG ?_
    have fin' : ∀ (h' : Heap) (u tk : Nat), (∀ b o, s.heap.get? b = some o → h'.get? b = some o) → ∃ x t, (Value.str (listText (PyData.shownAll ds)) u) = .str x t ∧ EP X pins σ Q (.str (listText (PyData.shownAll ds)) u) { s with heap := h', toks := tk } := fun h' u tk k => ⟨_, _, rfl, by simpa [PyData.shown] using fin h' u tk k⟩
    cases its with
    | nil =>
      cases rv
      cases t
      rw [show PyData.shownAll [] = [] from by simp [PyData.shownAll], listText_nil] at fin'
      exact call_list_repr_empty ⟨o, e, c⟩ e dd (fin' s.heap _ _ fun _ _ e => e)
    | cons y l =>
      refine call_list_reprK (d := PyData.depthAll ds) e c dd na (by simpa using hk.length_eq) (fun i y e => hk.item i y (by simpa using e)) (show X.A.in1.guards = _ from hg) (fun b _ => Clear.nil b) ?_ (fun _ _ e => e) fin' hz'
      show X.A.units + 1 + (PyData.depthAll ds + 1) < cLine
      omega
end
def rCatU : R2 := fun x y H Q => ∃ a b xs ys, x = .ref a ∧ y = .ref b ∧ H a = some (.tup xs) ∧ H b = some (.tup ys) ∧ xs.length + ys.length ≤ sizeLine ∧
  ∀ p H', Same H H' → H' p = some (.tup (xs ++ ys)) → (p = a ∨ p = b ∨ H p = none) → Q (.ref p) H'
section
variable {X : Cx}
theorem op_catU : OpR X (binaryOp .Add) rCatU := by
  intro pins s σ H x y v u Q I rx ry h
  obtain ⟨a, b, xs, ys, rfl, rfl, ha, hb, hz, q⟩ := h
  by_cases hx : xs = []
  · cases rx
    cases ry
    subst hx
    obtain ⟨its, r1, p1, _⟩ := I.tuple (SqT.of (K := X.K) ha)
    obtain ⟨its2, r2, p2, _⟩ := I.tuple (SqT.of (K := X.K) hb)
    cases r1
    obtain ⟨⟨cls, dd, data, sl⟩, ho, hc, n, hd⟩ := id p1
    obtain ⟨⟨cls2, dd2, data2, sl2⟩, ho2, hc2, n2, hd2⟩ := id p2
    simp only at hc hd hc2 hd2
    subst hc hd hc2 hd2
    exact concat_meets ⟨_, ho, rfl⟩ ⟨_, ho2, rfl⟩ noFill_tuple_add seq_tuple_add PySem.F.slot_tuple_add PySem.F.entry_tuple_add (PySem.F.args_tuple_add_2 _ _)
      (tuple_addW0 a b #[] its2.toArray n n2 dd dd2 sl sl2 rfl) ⟨ho, ho2, .ref b, H, I, rfl, q b H (fun _ _ e => e) hb (.inr (.inl rfl))⟩
  · refine op_catT pins s σ H _ _ v u Q I rx ry ⟨a, b, xs, ys, rfl, rfl, SqT.of ha, SqT.of hb, hx, hz, fun e => ?_, fun e p np => ?_⟩
    · subst e
      exact q a H (fun _ _ e => e) (by rw [List.append_nil]; exact ha) (.inl rfl)
    · exact q p _ (same_new np _) upd_same (.inr (.inr np))
end
def hide (M : Addr → Bool) (H : Hp) : Hp := fun a => if M a then none else H a
theorem hide_at {M : Addr → Bool} {H : Hp} {a : Addr} (h : M a = false) : hide M H a = H a := by unfold hide; rw [h]; rfl
theorem hide_of {M : Addr → Bool} {H : Hp} {a : Addr} {o : HO} (h : hide M H a = some o) : M a = false ∧ H a = some o := by
  unfold hide at h
  cases e : M a with
  | true => rw [e] at h; cases h
  | false => rw [e] at h; exact ⟨rfl, h⟩
theorem hide_le {M : Addr → Bool} {H : Hp} : ∀ a o, hide M H a = some o → H a = some o := fun a o h => (hide_of h).2
def Held (M : Addr → Bool) (H : Hp) : Prop := ∀ a, M a = true → H a ≠ none
theorem Held.fresh {M : Addr → Bool} {H : Hp} {a : Addr} (h : Held M H) (n : H a = none) : M a = false := by
  cases e : M a with
  | true => exact absurd n (h a e)
  | false => rfl
def Sub (M : Addr → Bool) (H H' : Hp) : Prop := ∀ a o, M a = false → H a = some o → H' a = some o
theorem Sub.hide {M : Addr → Bool} {H H' : Hp} (s : Sub M H H') : ∀ a o, hide M H a = some o → hide M H' a = some o := fun a o h => by
  obtain ⟨m, e⟩ := hide_of h
  rw [hide_at m]; exact s a o m e
theorem DW.sub {M : Addr → Bool} {H H' : Hp} {x : V} {d : PyData} (h : DW (L2.hide M H) x d) (s : Sub M H H') : DW (L2.hide M H') x d := h.mono s.hide
def tupB : PyData → Bool
  | .tuple _ => true
  | _ => false
def lstB : PyData → Bool
  | .list _ => true
  | _ => false
def intB : PyData → Bool
  | .int _ => true
  | _ => false
def bolB : PyData → Bool
  | .bool _ => true
  | _ => false
theorem DW.ty {K : PySem.W.Frag} {H : Hp} {x : V} {d : PyData} (h : DW H x d) : ∃ t, TyOf K H x t ∧ PySem.W.kitOne K t (.type "int") = some (intB d || bolB d) ∧ PySem.W.kitOne K t (.type "bool") = some (bolB d) ∧ PySem.W.kitOne K t (.type "list") = some (lstB d) ∧ PySem.W.kitOne K t (.type "tuple") = some (tupB d) := by
  cases h with
  | non => exact ⟨_, .non, rfl, rfl, rfl, rfl⟩
  | bl b => exact ⟨_, .bl b, rfl, rfl, rfl, rfl⟩
  | int i => exact ⟨_, .int i, rfl, rfl, rfl, rfl⟩
  | str z => exact ⟨_, .str z, rfl, rfl, rfl, rfl⟩
  | lst h _ => exact ⟨_, .lst h, rfl, rfl, rfl, rfl⟩
  | tup h _ => exact ⟨_, .tup h, rfl, rfl, rfl, rfl⟩
  | dic h => exact ⟨_, .dK h, rfl, rfl, rfl, rfl⟩
theorem tupB_ex {d : PyData} (h : tupB d = true) : ∃ ds, d = .tuple ds := by
  cases d with
  | tuple ds => exact ⟨ds, rfl⟩
  | _ => cases h
theorem lstB_ex {d : PyData} (h : lstB d = true) : ∃ ds, d = .list ds := by
  cases d with
  | list ds => exact ⟨ds, rfl⟩
  | _ => cases h
theorem DW.tup_of {H : Hp} {x : V} {ds : List PyData} (h : DW H x (.tuple ds)) : ∃ a xs, x = .ref a ∧ H a = some (.tup xs) ∧ DWs H xs ds := by cases h with | tup h t => exact ⟨_, _, rfl, h, t⟩
theorem DW.lst_of {H : Hp} {x : V} {ds : List PyData} (h : DW H x (.list ds)) : ∃ a xs, x = .ref a ∧ H a = some (.lst xs) ∧ DWs H xs ds := by cases h with | lst h t => exact ⟨_, _, rfl, h, t⟩
end L2
set_option maxHeartbeats 4000000
local macro_rules | `(tactic| walk_at "rdc") => `(tactic| first
  | (show (0 : Int) < _; omega)
  | (show (0 : Int) ≤ _; omega)
  | (show (0 : Int) < _ ∧ _ < 2 ^ 100; omega)
  | (show (-(2 ^ 64) < _ ∧ _ < 2 ^ 64) ∨ (-(2 ^ 64) < _ ∧ _ < 2 ^ 64); omega)
  | (show (0 : Int) ≤ _ ∧ _ ≤ 1000000 ∧ Int.natAbs _ < 2 ^ 64; omega))
local macro_rules | `(tactic| walk_at "rd1") => `(tactic| first
  | (with_reducible refine' L2.rd_allN (fun _ _ => ?_)) | (with_reducible refine' L2.rd_seqO (fun _ _ => ?_)) | (with_reducible refine' L2.rd_asg ?_) | ((with_reducible refine' L2.rd_gname ?_); (try dsimp only [List.set_cons_zero, List.set_cons_succ])) | (with_reducible refine' L2.rd_ret ?_) | (with_reducible refine' L2.rd_retN ?_) | (with_reducible refine' L2.rd_next ?_) | (with_reducible refine' L2.rd_drop ?_) | (with_reducible refine' L2.rd_ifSO (fun _ _ _ _ => ?_))
  | (with_reducible refine' L2.rd_op ?_) | (with_reducible refine' L2.rd_un ?_) | (with_reducible refine' L2.rd_c ?_) | ((with_reducible refine' L2.rd_var ?rdv ?_); (case rdv => rfl))
  | (with_reducible refine' L2.rd_I0 ?_) | (with_reducible refine' L2.rd_U ?_) | (with_reducible refine' L2.rd_eqI ?_) | (with_reducible refine' L2.rd_neI ?_) | (with_reducible refine' L2.rd_eqB ?_) | (with_reducible refine' L2.rd_neB ?_)
  | (with_reducible refine' L2.rd_test ?_) | (with_reducible refine' L2.rd_tB ?_) | (with_reducible refine' L2.rd_and ?_) | (with_reducible refine' L2.rd_or ?_) | (with_reducible refine' L2.rd_not ?_) | (with_reducible refine' L2.rd_andV ?_) | (with_reducible refine' L2.rd_orV ?_) | (with_reducible refine' L2.rd_notV ?_) | (with_reducible refine' L2.rd_chain ?_) | (with_reducible refine' L2.rd_ifE ?_)
  | (with_reducible refine' L2.rd_nil ?_) | (with_reducible refine' L2.rd_cons ?_) | (with_reducible refine' L2.rd_call ?_) | (with_reducible refine' L2.rd_cb ?_) | (with_reducible refine' L2.rd_lst ?_) | (with_reducible refine' L2.rd_tup ?_) | (with_reducible refine' L2.rd_bm0 ?_) | (with_reducible refine' L2.rd_bm ?_) | (with_reducible refine' L2.rd_augS ?_) | ((with_reducible refine' L2.rd_ip ?_); (try dsimp only [List.set_cons_zero, List.set_cons_succ])) | ((with_reducible refine' L2.rd_aug ?rdv ?_); (case rdv => rfl)) | (with_reducible refine' L2.rd_izip ?_) | (with_reducible refine' L2.rd_ivals ?_) | (with_reducible refine' L2.rd_dget2 ?_) | (with_reducible refine' L2.rd_dput ?_) | (with_reducible refine' L2.rd_dget ?_) | (with_reducible refine' L2.rd_dnewK ?_) | (with_reducible refine' L2.rd_sortK ?_) | (with_reducible refine' L2.rd_sortLam ?_) | (with_reducible refine' L2.rd_orG ?_) | (with_reducible refine' L2.rd_isB ?_) | (with_reducible refine' L2.rd_gsub ?_)
  | (with_reducible refine' L2.rd_sl ?_) | (with_reducible refine' L2.rd_nop ?_) | (with_reducible refine' L2.rd_part ?_) | (with_reducible refine' L2.rd_bl ?_) | (with_reducible refine' L2.rd_int ?_)
  | (with_reducible refine' L2.rd_iteT ?_) | (with_reducible refine' L2.rd_iteF ?_) | (with_reducible refine' L2.rd_iteNF ?_) | (with_reducible refine' L2.rd_iteNT ?_)
  | (with_reducible refine' L2.rd_forO (fun _ _ => ?_)) | (with_reducible refine' L2.rd_rng1 ?_) | (with_reducible refine' L2.rd_rng2 ?_) | (with_reducible refine' L2.rd_ilist ?_) | (with_reducible refine' L2.rd_comp ?_) | (with_reducible refine' L2.rd_yes ?_)
  | (with_reducible refine' L2.rd_itup ?_) | (with_reducible refine' L2.rd_istr ?_) | (with_reducible refine' L2.rd_leS ?_) | (with_reducible refine' L2.rd_inS ?_)
  | (with_reducible refine' L2.rd_abs ?_) | (with_reducible refine' L2.rd_max ?_) | (with_reducible refine' L2.rd_min ?_) | (with_reducible refine' L2.rd_bitlen ?_)
  | (with_reducible refine' L2.rd_rev ?_) | (with_reducible refine' L2.rd_ienum ?_) | (with_reducible refine' L2.rd_intB ?_)
  | ((with_reducible refine' L2.rd_ixL (L2.SqL.of ?rdh) ?rde ?_); (case rdh => assumption); (case rde => rfl))
  | ((with_reducible refine' L2.rd_set0 ?rdh ?_); (case rdh => assumption))
  | ((with_reducible refine' L2.rd_set1 ?rdh ?_); (case rdh => assumption))
  | ((with_reducible refine' L2.rd_setL ?rdh ?rde ?_); (case rdh => assumption); (case rde => rfl))
  | ((with_reducible refine' L2.rd_ixT (L2.SqT.of ?rdh) ?rde ?_); (case rdh => assumption); (case rde => rfl))
  | ((with_reducible refine' L2.rd_lenL (L2.SqL.of ?rdh) ?_); (case rdh => assumption))
  | ((with_reducible refine' L2.rd_I ?rdc ?_); (case rdc => walk_at "rdc"))
  | ((with_reducible refine' L2.rd_tx ?rdt ?_); (case rdt => assumption); (try dsimp only [List.set_cons_zero, List.set_cons_succ]))
  | (dsimp only; (with_reducible refine' L2.rd_tx ?rdt ?_); (case rdt => assumption); (try dsimp only [List.set_cons_zero, List.set_cons_succ]))
  | ((with_reducible refine' L2.rd_isN ?rdt ?_); (case rdt => assumption); (try dsimp only))
  | (dsimp only; (with_reducible refine' L2.rd_isN ?rdt ?_); (case rdt => assumption); (try dsimp only)))
local macro_rules | `(tactic| walk_at "rd") => `(tactic| repeat walk_at "rd1")
local macro_rules | `(tactic| walk_at "lk") => `(tactic| first | k_is | ((refine' L2.Ga.mk ?lka ?lkl ?lkc ?lkk); (case lka => k_is); (case lkl => k_is); (case lkc => k_is); (case lkk => k_is)) | ((refine' L2.Ga2.mk ?lka ?lkb ?lkl ?lkc ?lkk); (case lka => k_is); (case lkb => k_is); (case lkl => k_is); (case lkc => k_is); (case lkk => k_is)) | ((refine' L2.Me.mk ?lka ?lkb ?lkl ?lkc ?lkk); (case lka => k_is); (case lkb => k_is); (case lkl => k_is); (case lkc => k_is); (case lkk => k_is)))
namespace Law
open PySem PySem.Spec PyProof.Rows L2
def top (i : Nat) : Stmt := PySem.Challenge.pw_tailrooms_k52_books_looked_at.main.body.getD i (.Pass ⟨0, 0, 0, 0⟩)
abbrev s_level : Stmt := top 1
abbrev s_turn : Stmt := top 2
abbrev s_split_of : Stmt := top 3
abbrev s_is_whole : Stmt := top 5
abbrev s_is_book : Stmt := top 8
abbrev s_is_split : Stmt := top 9
abbrev s_do_split : Stmt := top 10
abbrev s__law_open : Stmt := top 12
abbrev s__law_draw : Stmt := top 13
abbrev s__law_split : Stmt := top 15
abbrev s__law_drawn_book : Stmt := top 16
abbrev s__law_many : Stmt := top 17
abbrev s__law_splits : Stmt := top 18
abbrev s__law_is_book : Stmt := top 19
abbrev s__law_odd_split : Stmt := top 20
abbrev s__law_spoilt : Stmt := top 21
abbrev s__law_right : Stmt := top 22
abbrev s_law : Stmt := top 23
theorem sc_level : FnScope ["rooms"] ["rooms"] (defScope s_level) := ⟨rfl, rfl, rfl, by decide +kernel, rfl, by decide +kernel, by decide +kernel⟩
theorem sc_turn : FnScope ["rooms"] ["rooms"] (defScope s_turn) := ⟨rfl, rfl, rfl, by decide +kernel, rfl, by decide +kernel, by decide +kernel⟩
theorem sc_split_of : FnScope ["rooms"] ["rooms"] (defScope s_split_of) := ⟨rfl, rfl, rfl, by decide +kernel, rfl, by decide +kernel, by decide +kernel⟩
theorem sc_is_whole : FnScope ["thing"] ["thing"] (defScope s_is_whole) := ⟨rfl, rfl, rfl, by decide +kernel, rfl, by decide +kernel, by decide +kernel⟩
theorem sc_is_book : FnScope ["count", "thing", "had", "split"] ["count", "thing"] (defScope s_is_book) := ⟨rfl, rfl, rfl, by decide +kernel, rfl, by decide +kernel, by decide +kernel⟩
theorem sc_is_split : FnScope ["had", "thing", "room", "new", "stays", "goes"] ["had", "thing"] (defScope s_is_split) := ⟨rfl, rfl, rfl, by decide +kernel, rfl, by decide +kernel, by decide +kernel⟩
theorem sc_do_split : FnScope ["had", "split", "room", "new", "stays", "goes"] ["had", "split"] (defScope s_do_split) := ⟨rfl, rfl, rfl, by decide +kernel, rfl, by decide +kernel, by decide +kernel⟩
theorem sc__law_open : FnScope ["_law_script", "_law_place", "_law_cells", "_law_at", "_law_digits"] ["_law_script", "_law_place"] (defScope s__law_open) := ⟨rfl, rfl, rfl, by decide +kernel, rfl, by decide +kernel, by decide +kernel⟩
theorem sc__law_draw : FnScope ["_law_hand", "_law_many_here", "_law_got", "_law_k", "_law_number"] ["_law_hand", "_law_many_here"] (defScope s__law_draw) := ⟨rfl, rfl, rfl, by decide +kernel, rfl, by decide +kernel, by decide +kernel⟩
theorem sc__law_split : FnScope ["_law_rooms", "_law_whole"] ["_law_rooms"] (defScope s__law_split) := ⟨rfl, rfl, rfl, by decide +kernel, rfl, by decide +kernel, by decide +kernel⟩
theorem sc__law_drawn_book : FnScope ["_law_hand", "_law_many_here", "_law_splits_here", "_law_sizes", "_law_told", "_law_rooms", "_law_room", "_law_new", "_law_way", "_law_goes"] ["_law_hand", "_law_many_here", "_law_splits_here"] (defScope s__law_drawn_book) := ⟨rfl, rfl, rfl, by decide +kernel, rfl, by decide +kernel, by decide +kernel⟩
theorem sc__law_many : FnScope ["_law_hand"] ["_law_hand"] (defScope s__law_many) := ⟨rfl, rfl, rfl, by decide +kernel, rfl, by decide +kernel, by decide +kernel⟩
theorem sc__law_splits : FnScope ["_law_hand"] ["_law_hand"] (defScope s__law_splits) := ⟨rfl, rfl, rfl, by decide +kernel, rfl, by decide +kernel, by decide +kernel⟩
theorem sc__law_is_book : FnScope ["_law_many_here", "_law_thing", "_law_sizes", "_law_split_here"] ["_law_many_here", "_law_thing"] (defScope s__law_is_book) := ⟨rfl, rfl, rfl, by decide +kernel, rfl, by decide +kernel, by decide +kernel⟩
theorem sc__law_odd_split : FnScope ["_law_hand", "_law_split_here", "_law_at", "_law_one", "_law_some", "_law_odd", "_law_way", "_law_more"] ["_law_hand", "_law_split_here"] (defScope s__law_odd_split) := ⟨rfl, rfl, rfl, by decide +kernel, rfl, by decide +kernel, by decide +kernel⟩
theorem sc__law_spoilt : FnScope ["_law_hand", "_law_told", "_law_way", "_law_at", "_law_odd", "_law_swapped"] ["_law_hand", "_law_told"] (defScope s__law_spoilt) := ⟨rfl, rfl, rfl, by decide +kernel, rfl, by decide +kernel, by decide +kernel⟩
theorem sc__law_right : FnScope ["_law_many_here", "_law_thing", "_law_due", "_law_kept", "_law_k", "_law_told"] ["_law_many_here", "_law_thing"] (defScope s__law_right) := ⟨rfl, rfl, rfl, by decide +kernel, rfl, by decide +kernel, by decide +kernel⟩
theorem sc_law : FnScope ["_law_script", "_law_place", "_law_hand", "_law_count", "_law_splits_here", "_law_spoil", "_law_told", "_law_some", "_law_thing"] ["_law_script"] (defScope s_law) := ⟨rfl, rfl, rfl, by decide +kernel, rfl, by decide +kernel, by decide +kernel⟩
theorem st_level (x0 : V) : start ["rooms"] [x0] = [some x0] := rfl
theorem st_turn (x0 : V) : start ["rooms"] [x0] = [some x0] := rfl
theorem st_split_of (x0 : V) : start ["rooms"] [x0] = [some x0] := rfl
theorem st_is_whole (x0 : V) : start ["thing"] [x0] = [some x0] := rfl
theorem st_is_book (x0 x1 : V) : start ["count", "thing", "had", "split"] [x0, x1] = [some x0, some x1, none, none] := rfl
theorem st_is_split (x0 x1 : V) : start ["had", "thing", "room", "new", "stays", "goes"] [x0, x1] = [some x0, some x1, none, none, none, none] := rfl
theorem st_do_split (x0 x1 : V) : start ["had", "split", "room", "new", "stays", "goes"] [x0, x1] = [some x0, some x1, none, none, none, none] := rfl
theorem st__law_open (x0 x1 : V) : start ["_law_script", "_law_place", "_law_cells", "_law_at", "_law_digits"] [x0, x1] = [some x0, some x1, none, none, none] := rfl
theorem st__law_draw (x0 x1 : V) : start ["_law_hand", "_law_many_here", "_law_got", "_law_k", "_law_number"] [x0, x1] = [some x0, some x1, none, none, none] := rfl
theorem st__law_split (x0 : V) : start ["_law_rooms", "_law_whole"] [x0] = [some x0, none] := rfl
theorem st__law_drawn_book (x0 x1 x2 : V) : start ["_law_hand", "_law_many_here", "_law_splits_here", "_law_sizes", "_law_told", "_law_rooms", "_law_room", "_law_new", "_law_way", "_law_goes"] [x0, x1, x2] = [some x0, some x1, some x2, none, none, none, none, none, none, none] := rfl
theorem st__law_many (x0 : V) : start ["_law_hand"] [x0] = [some x0] := rfl
theorem st__law_splits (x0 : V) : start ["_law_hand"] [x0] = [some x0] := rfl
theorem st__law_is_book (x0 x1 : V) : start ["_law_many_here", "_law_thing", "_law_sizes", "_law_split_here"] [x0, x1] = [some x0, some x1, none, none] := rfl
theorem st__law_odd_split (x0 x1 : V) : start ["_law_hand", "_law_split_here", "_law_at", "_law_one", "_law_some", "_law_odd", "_law_way", "_law_more"] [x0, x1] = [some x0, some x1, none, none, none, none, none, none] := rfl
theorem st__law_spoilt (x0 x1 : V) : start ["_law_hand", "_law_told", "_law_way", "_law_at", "_law_odd", "_law_swapped"] [x0, x1] = [some x0, some x1, none, none, none, none] := rfl
theorem st__law_right (x0 x1 : V) : start ["_law_many_here", "_law_thing", "_law_due", "_law_kept", "_law_k", "_law_told"] [x0, x1] = [some x0, some x1, none, none, none, none] := rfl
theorem st_law (x0 : V) : start ["_law_script", "_law_place", "_law_hand", "_law_count", "_law_splits_here", "_law_spoil", "_law_told", "_law_some", "_law_thing"] [x0] = [some x0, none, none, none, none, none, none, none, none] := rfl
structure Bl (mg : Str → Option Value) : Prop where
  isinstance : mg "isinstance" = none
  int : mg "int" = none
  bool : mg "bool" = none
  list : mg "list" = none
  len : mg "len" = none
  tuple : mg "tuple" = none
  all : mg "all" = none
  abs : mg "abs" = none
  range : mg "range" = none
  str : mg "str" = none
  max : mg "max" = none
  repr : mg "repr" = none
  min : mg "min" = none
  c_MOST_SPLITS : ∃ t, mg "MOST_SPLITS" = some (.int 129 t)
structure Hand (H : Hp) (p : Addr) (N : Nat) : Prop where
  ex : ∃ (l : Addr) (d c : Int) (ns : List Int), H p = some (.lst [.int d, .int c, .ref l]) ∧ H l = some (.lst (ns.map V.int)) ∧ 0 ≤ c ∧ c ≤ N ∧ ns ≠ []
theorem Hand.mono {H : Hp} {p : Addr} {N M : Nat} (h : Hand H p N) (hm : N ≤ M) : Hand H p M := by
  obtain ⟨l, d, c, ns, h1, h2, h3, h4, h5⟩ := h.ex
  exact ⟨l, d, c, ns, h1, h2, h3, by omega, h5⟩
def cellsOf (H : Hp) (p : Addr) : Option Addr := match H p with
  | some (.lst [_, _, .ref l]) => some l
  | _ => none
theorem cells_of {H : Hp} {p l : Addr} {a b : V} (h : H p = some (.lst [a, b, .ref l])) : cellsOf H p = some l := by unfold cellsOf; rw [h]
def Kp (H H' : Hp) (p : Addr) : Prop := (∀ b o, H b = some o → b ≠ p → H' b = some o) ∧ cellsOf H' p = cellsOf H p
theorem Kp.refl (H : Hp) (p : Addr) : Kp H H p := ⟨fun _ _ h _ => h, rfl⟩
theorem Kp.trans {H H1 H2 : Hp} {p : Addr} (a : Kp H H1 p) (b : Kp H1 H2 p) : Kp H H2 p := ⟨fun c o h n => b.1 c o (a.1 c o h n) n, b.2.trans a.2⟩
theorem Kp.hand {H : Hp} {p l : Addr} {a b a' b' : V} (h : H p = some (.lst [a, b, .ref l])) : Kp H (upd H p (.lst [a', b', .ref l])) p :=
  ⟨fun b u h n => by rw [upd_ne n]; exact h, by rw [cells_of upd_same, cells_of h]⟩
theorem Kp.of {H H' : Hp} {p : Addr} {N : Nat} (h : Same H H') (hh : Hand H p N) : Kp H H' p := by
  obtain ⟨l, d, c, ns, h1, _⟩ := hh.ex
  exact ⟨fun b o q _ => h b o q, by rw [cells_of h1, cells_of (h _ _ h1)]⟩
theorem Kp.new {H H1 H2 : Hp} {p : Addr} (a : Same H H1) (n : H p = none) (b : Kp H1 H2 p) : Same H H2 := fun c o h => b.1 c o (a c o h) (ne_of_none h n)
theorem Kp.free {H H' : Hp} {p l : Addr} (k : Kp H H' p) (n : H' l = none) (h : l ≠ p) : H l = none := by
  cases e : H l with
  | none => rfl
  | some o => rw [k.1 _ _ e h] at n; cases n
theorem Hand.upd {H : Hp} {p c : Addr} {N : Nat} {o : HO} (h : Hand H p N) (n : c ≠ p) (nl : cellsOf H p ≠ some c) : Hand (L2.upd H c o) p N := by
  obtain ⟨l, d, k, ns, h1, h2, r⟩ := h.ex
  have ne : l ≠ c := fun z => nl (by rw [cells_of h1, z])
  exact ⟨l, d, k, ns, by rw [upd_ne n.symm]; exact h1, by rw [upd_ne ne]; exact h2, r⟩
theorem cells_new {H : Hp} {p c : Addr} {N : Nat} (h : Hand H p N) (n : H c = none) : cellsOf H p ≠ some c := by
  obtain ⟨l, d, k, ns, h1, h2, r⟩ := h.ex
  rw [cells_of h1]
  intro z
  exact ne_of_none h2 n (Option.some.inj z)
theorem cells_upd {H : Hp} {p c : Addr} {o : HO} (n : c ≠ p) : cellsOf (L2.upd H c o) p = cellsOf H p := by unfold cellsOf; rw [upd_ne n.symm]
theorem Hand.same {H H' : Hp} {p : Addr} {N : Nat} (h : Hand H p N) (s : Same H H') : Hand H' p N := by
  obtain ⟨l, d, c, ns, h1, h2, r⟩ := h.ex
  exact ⟨l, d, c, ns, s _ _ h1, s _ _ h2, r⟩
theorem nsMod {ns : List Int} (h : ns ≠ []) (k : Int) : ∃ v, atI (ns.map V.int) (k % ((ns.map V.int).length : Int)) = some (.int v) := by
  have hl : 0 < ns.length := List.length_pos_iff.mpr h
  rw [List.length_map]
  have h0 : 0 ≤ k % (ns.length : Int) := Int.emod_nonneg _ (by omega)
  have h1 : k % (ns.length : Int) < ns.length := Int.emod_lt_of_pos _ (by omega)
  have ek : k % (ns.length : Int) = (((k % (ns.length : Int)).toNat : Nat) : Int) := by omega
  have hk : (k % (ns.length : Int)).toNat < ns.length := by omega
  obtain ⟨j, hj⟩ : ∃ j : Nat, k % (ns.length : Int) = (j : Int) := ⟨_, ek⟩
  have hk2 : j < ns.length := by omega
  refine ⟨ns[j], ?_⟩
  rw [hj]
  exact atI_nat (by rw [List.getElem?_map, List.getElem?_eq_getElem hk2] <;> rfl)
theorem hand_ne {H : Hp} {p l : Addr} {d c : Int} {ns : List Int} (hp : H p = some (.lst [.int d, .int c, .ref l])) (hl : H l = some (.lst (ns.map V.int))) : l ≠ p := by
  refine ne_of hl hp fun z => ?_
  injection z with z
  have q := congrArg (fun x => x[2]?) z
  rw [List.getElem?_map] at q
  cases e : ns[2]? with
  | none => rw [e] at q; cases q
  | some v => rw [e] at q; cases q
theorem len_pos {ns : List Int} (h : ns ≠ []) : (0 : Int) < ((ns.map V.int).length : Int) := by
  rw [List.length_map]
  have := List.length_pos_iff.mpr h
  omega
theorem pow2_cast (a : Nat) : (2 : Int) ^ a = ((2 ^ a : Nat) : Int) := by
  induction a with
  | zero => rfl
  | succ a ih => rw [Int.pow_succ, Nat.pow_succ, ih]; push_cast; rfl
theorem pow2_le {a b : Nat} (h : a ≤ b) : (2 : Int) ^ a ≤ 2 ^ b := by
  rw [pow2_cast, pow2_cast]
  exact Int.ofNat_le.mpr (Nat.pow_le_pow_right (by decide) h)
theorem pow2_pos (a : Nat) : (0 : Int) < 2 ^ a := by
  rw [pow2_cast]
  have := Nat.two_pow_pos a
  omega
theorem newo {H1 H2 : Hp} {l : Addr} {o : HO} (n : H1 l = none) (e : L2.upd H1 l o = H2) : H2 l = some o ∧ Same H1 H2 := by
  subst e; exact ⟨upd_same, same_new n _⟩
theorem newl {H H1 H2 : Hp} {p l : Addr} {N : Nat} {o : HO} (hh : Hand H1 p N) (n : H1 l = none) (k : Kp H H1 p) (e : L2.upd H1 l o = H2) : Hand H2 p N ∧ Kp H H2 p ∧ H2 l = some o ∧ Same H1 H2 := by
  subst e; exact ⟨hh.same (same_new n _), k.trans (Kp.of (same_new n _) hh), upd_same, same_new n _⟩
theorem Hand.ne {H : Hp} {p l : Addr} {N : Nat} (hh : Hand H p N) (n : H l = none) : l ≠ p := by
  obtain ⟨l1, d, c, ns, h1, _⟩ := hh.ex
  exact (ne_of_none h1 n).symm
structure CK (H0 : Hp) (p D : Addr) (N : Nat) (ys : List V) (H' : Hp) : Prop where
  hh : Hand H' p N
  lat : H' D = some (.lst ys)
  kp : Kp H0 H' p
  n0 : H0 D = none
  np : D ≠ p
  nc : cellsOf H0 p ≠ some D
theorem CK.start {H0 : Hp} {p D : Addr} {N : Nat} (hh : Hand H0 p N) (n : H0 D = none) {ys : List V} : CK H0 p D N ys (L2.upd H0 D (.lst ys)) where
  hh := hh.same (same_new n _)
  lat := upd_same
  kp := Kp.of (same_new n _) hh
  n0 := n
  np := by
    obtain ⟨l1, d, c, ns, h1, _⟩ := hh.ex
    exact (ne_of_none h1 n).symm
  nc := cells_new hh n
theorem CK.draw {H0 H' H2 : Hp} {p D : Addr} {N M : Nat} {ys : List V} (c : CK H0 p D N ys H') (k : Kp H' H2 p) (hh : Hand H2 p M) : CK H0 p D M ys H2 :=
  ⟨hh, k.1 _ _ c.lat c.np, c.kp.trans k, c.n0, c.np, c.nc⟩
theorem CK.push {H0 H' : Hp} {p D : Addr} {N : Nat} {ys zs : List V} (c : CK H0 p D N ys H') : CK H0 p D N zs (L2.upd H' D (.lst zs)) where
  hh := c.hh.upd c.np (by rw [c.kp.2]; exact c.nc)
  lat := upd_same
  kp := ⟨fun b o h n => by rw [upd_ne (ne_of_none h c.n0)]; exact c.kp.1 _ _ h n, by rw [cells_upd c.np]; exact c.kp.2⟩
  n0 := c.n0
  np := c.np
  nc := c.nc
def sp__law_draw (K : PySem.W.Frag) : Sp := fun vs H Q _ => ∃ (p : Addr) (N : Nat) (n : Int), vs = [.ref p, .int n] ∧ Hand H p N ∧ N < 2 ^ 60 ∧ 0 < n ∧ n < 2 ^ 100 ∧
  ∀ (r : Int) (H' : Hp), 0 ≤ r → r < n → Hand H' p (N + 1) → Kp H H' p → Q (.int r) H'
def sp__law_far (K : PySem.W.Frag) : Sp := fun vs H Q _ => ∃ (p : Addr) (N : Nat) (n : Int), vs = [.ref p, .int n] ∧ Hand H p N ∧ N + 10 < 2 ^ 60 ∧ 0 < n ∧ n < 2 ^ 100 ∧
  ∀ (r : Int) (H' : Hp), 0 ≤ r → r < n → Hand H' p (N + 7) → Kp H H' p → Q (.int r) H'
def sp__law_power (K : PySem.W.Frag) : Sp := fun vs H Q _ => ∃ (m : Nat), vs = [.int m] ∧ m ≤ 1000 ∧ Q (.int (2 ^ m)) H
def sp__law_open (K : PySem.W.Frag) : Sp := fun vs H Q _ => ∃ (a : Addr) (ns : List Int) (pl : Int), vs = [.ref a, .int pl] ∧ SqL K H a (ns.map V.int) ∧ ns.length ≤ 63 ∧ 0 ≤ pl ∧ pl ≤ 1000 ∧
  ∀ (p : Addr) (H' : Hp), H p = none → Same H H' → Hand H' p 1100000 → Q (.ref p) H'
def sp__law_key (K : PySem.W.Frag) : Sp := fun vs H Q _ => ∃ (p : Addr) (N : Nat), vs = [.ref p] ∧ Hand H p N ∧ N + 30 < 2 ^ 60 ∧
  ∀ (r : Int) (H' : Hp), 0 ≤ r → r < 2 ^ 60 → Hand H' p (N + 20) → Kp H H' p → Q (.int r) H'
def sp_law (K : PySem.W.Frag) : Sp := fun vs H Q _ => ∃ (a : Addr) (ns : List Int), vs = [.ref a] ∧ SqL K H a (ns.map V.int) ∧ ns.length ≤ 63 ∧ ∀ H', Q (.bl true) H'
def lg (R : Int) : Nat := R.toNat.log2
theorem lg_le {R : Int} (h : 1 ≤ R) : (2 : Int) ^ lg R ≤ R := by
  have h1 : R.toNat ≠ 0 := by omega
  have h2 := Nat.log2_self_le h1
  rw [pow2_cast]
  unfold lg
  omega
theorem lg_lt {R : Int} (h : 1 ≤ R) : R < (2 : Int) ^ (lg R + 1) := by
  have h1 : R.toNat ≠ 0 := by omega
  have h2 := (Nat.log2_lt h1).mp (Nat.lt_succ_self R.toNat.log2)
  rw [pow2_cast]
  unfold lg
  have h3 : R.toNat < 2 ^ (R.toNat.log2 + 1) := h2
  omega
theorem lg_60 {R : Int} (h : 1 ≤ R) (h2 : R ≤ 2 ^ 60) : lg R ≤ 60 := by
  have h1 : R.toNat ≠ 0 := by omega
  have h3 : R.toNat.log2 < 61 := (Nat.log2_lt h1).mpr (by omega)
  unfold lg
  omega
theorem bits_eq {R : Int} (h : 1 ≤ R) : ((Builtin.Int.intBits R : Nat) : Int) - 1 = (lg R : Int) := by
  unfold Builtin.Int.intBits lg
  have h0 : (R == 0) = false := by
    rw [beq_eq_false_iff_ne]; omega
  rw [h0]
  have e : R.natAbs = R.toNat := by omega
  rw [e]
  simp
def roomV (k R : Int) : Int := if R - 2 ^ lg R ≤ k % 2 ^ lg R then k % 2 ^ lg R else k % 2 ^ (lg R + 1)
def sp_last_bits (K : PySem.W.Frag) : Sp := fun vs H Q _ => ∃ (k : Int) (m : Nat), vs = [.int k, .int m] ∧ m ≤ 100 ∧ Q (.int (k % 2 ^ m)) H
def sp_level (K : PySem.W.Frag) : Sp := fun vs H Q _ => ∃ (R : Int), vs = [.int R] ∧ 1 ≤ R ∧ Q (.int (lg R)) H
def sp_turn (K : PySem.W.Frag) : Sp := fun vs H Q _ => ∃ (R : Int), vs = [.int R] ∧ 1 ≤ R ∧ R ≤ 2 ^ 60 ∧ Q (.int (R - 2 ^ lg R)) H
def bitsV (r R : Int) : Nat := if R - 2 ^ lg R ≤ r ∧ r < 2 ^ lg R then lg R else lg R + 1
def sp_bits_for (K : PySem.W.Frag) : Sp := fun vs H Q _ => ∃ (r R : Int), vs = [.int r, .int R] ∧ 1 ≤ R ∧ R ≤ 2 ^ 60 ∧ Q (.int (bitsV r R)) H
def sp_room_of (K : PySem.W.Frag) : Sp := fun vs H Q _ => ∃ (k R : Int), vs = [.int k, .int R] ∧ 1 ≤ R ∧ R ≤ 2 ^ 60 ∧ Q (.int (roomV k R)) H
def sp_split_of (K : PySem.W.Frag) : Sp := fun vs H Q _ => ∃ (R : Int), vs = [.int R] ∧ 1 ≤ R ∧ R ≤ 2 ^ 60 ∧ ∀ p, H p = none → Q (.ref p) (upd H p (.tup [.int (R - 2 ^ lg R), .int R]))
def rfor (m w : Int) : Int := max 1 ((m + w - 1) / w)
theorem cut_mid {xs : List V} {a b : Nat} (h : a ≤ b) : cutV xs (some (a : Int)) (some (b : Int)) = (xs.drop a).take (b - a) := by
  unfold cutV
  rw [HT.sIx_nat, HT.sIx_nat]
  by_cases c : a ≤ xs.length
  · rw [Nat.min_eq_left c]
    by_cases d : b ≤ xs.length
    · rw [Nat.min_eq_left d]
    · rw [Nat.min_eq_right (by omega), List.take_of_length_le (by rw [List.length_drop]; omega), List.take_of_length_le (by rw [List.length_drop]; omega)]
  · rw [List.drop_eq_nil_of_le (by omega), List.drop_eq_nil_of_le (by omega)]
    simp
def rowsN (ms : List Int) (w n : Nat) : List (List Int) := (List.range n).map fun i => (ms.drop (i * w)).take w
def rowsV (ms : List Int) (w : Nat) : List (List Int) := rowsN ms w (rfor ms.length w).toNat
def Ls (H : Hp) : List Addr → List (List Int) → Prop
  | [], [] => True
  | a :: as, r :: rs => H a = some (.lst (r.map V.int)) ∧ Ls H as rs
  | _, _ => False
def LL (H0 H : Hp) (l : Addr) (rs : List (List Int)) : Prop := ∃ as : List Addr, H l = some (.lst (as.map V.ref)) ∧ Ls H as rs ∧ ∀ a ∈ as, H0 a = none ∧ a ≠ l
def sp_rows_for (K : PySem.W.Frag) : Sp := fun vs H Q _ => ∃ (m w : Int), vs = [.int m, .int w] ∧ 1 ≤ w ∧ w ≤ 8 ∧ Q (.int (rfor m w)) H
def sp_cut_rows (K : PySem.W.Frag) : Sp := fun vs H Q _ => ∃ (a : Addr) (ms : List Int) (w : Nat), vs = [.ref a, .int w] ∧ H a = some (.lst (ms.map V.int)) ∧ ms.length ≤ 200 ∧ 1 ≤ w ∧ w ≤ 8 ∧
  ∀ l H', H l = none → LL H H' l (rowsV ms w) → Same H H' → Q (.ref l) H'
def sp_rows_of (K : PySem.W.Frag) : Sp := fun vs H Q _ => ∃ (a : Addr) (ns : List Int) (w : Nat), vs = [.ref a, .int w] ∧ H a = some (.lst (ns.map V.int)) ∧ ns.length ≤ 200 ∧ 1 ≤ w ∧ w ≤ 8 ∧
  ∀ ms l H', ms.Perm ns → ms.Pairwise (· ≤ ·) → H l = none → LL H H' l (rowsV ms w) → Same H H' → Q (.ref l) H'
theorem drop_get {α : Type} {xs : List α} {i : Nat} {x : α} (h : xs[i]? = some x) : xs.drop i = x :: xs.drop (i + 1) := by
  obtain ⟨hi, e⟩ := List.getElem?_eq_some_iff.mp h
  rw [List.drop_eq_getElem_cons hi, e]
theorem take_get {α : Type} {xs : List α} {i : Nat} {x : α} (h : xs[i]? = some x) : xs.take (i + 1) = xs.take i ++ [x] := by
  obtain ⟨hi, e⟩ := List.getElem?_eq_some_iff.mp h
  rw [List.take_succ_eq_append_getElem hi, e]
theorem at_ref' {as : List Addr} {i : Nat} {a : Addr} (h : as[i]? = some a) : atI (as.map V.ref) (i : Int) = some (.ref a) :=
  atI_nat (by rw [List.getElem?_map, h]; rfl)
theorem at_int {ns : List Int} {i : Nat} {z : Int} (h : ns[i]? = some z) : atI (ns.map V.int) (i : Int) = some (.int z) :=
  atI_nat (by rw [List.getElem?_map, h]; rfl)
theorem ints_ne {H : Hp} {p a : Addr} {N : Nat} {ns : List Int} (hh : Hand H p N) (h : H a = some (.lst (ns.map V.int))) : a ≠ p := by
  obtain ⟨l, d, c, ms, h1, h2, _⟩ := hh.ex
  intro e
  rw [e, h1] at h
  have q := congrArg (fun x => x[2]?) (HO.lst.inj (Option.some.inj h))
  rw [List.getElem?_map] at q
  cases z : ns[2]? with
  | none => rw [z] at q; cases q
  | some v => rw [z] at q; cases q
theorem ints_kp {H H' : Hp} {p a : Addr} {N : Nat} {ns : List Int} (h : H a = some (.lst (ns.map V.int))) (hh : Hand H p N) (k : Kp H H' p) : H' a = some (.lst (ns.map V.int)) := k.1 _ _ h (ints_ne hh h)
theorem dv_nil {K : PySem.W.Frag} {H : Hp} {a : Addr} (h : H a = some (.lst [])) : DV K H (.ref a) (.list []) := .lst (SqL.of h) .nil
def spreadV (ms : List Int) (R : Nat) : List (List Int) := (List.range R).map fun (r : Nat) => ms.filter fun k => decide (roomV k R = (r : Int))
def LN (H0 H : Hp) (l : Addr) (rs : List (List Int)) : Prop := ∃ as : List Addr, H l = some (.lst (as.map V.ref)) ∧ Ls H as rs ∧ as.Nodup ∧ ∀ a ∈ as, H0 a = none ∧ a ≠ l
def sp_spread (K : PySem.W.Frag) : Sp := fun vs H Q _ => ∃ (a : Addr) (ns : List Int) (R : Nat), vs = [.ref a, .int R] ∧ H a = some (.lst (ns.map V.int)) ∧ ns.length ≤ 200 ∧ 1 ≤ R ∧ R ≤ 200 ∧
  ∀ ms l H', ms.Perm ns → ms.Pairwise (· ≤ ·) → H l = none → LN H H' l (spreadV ms R) → Same H H' → Q (.ref l) H'
def sp_counts (K : PySem.W.Frag) : Sp := fun vs H Q _ => ∃ (a : Addr) (ns : List Int) (R : Nat), vs = [.ref a, .int R] ∧ H a = some (.lst (ns.map V.int)) ∧ ns.length ≤ 200 ∧ 1 ≤ R ∧ R ≤ 200 ∧
  ∀ ms l H', ms.Perm ns → ms.Pairwise (· ≤ ·) → H l = none → H' l = some (.lst (((spreadV ms R).map fun r => (r.length : Int)).map V.int)) → Same H H' → Q (.ref l) H'
structure B4 where
  r : Int
  n : Int
  s : Int
  g : Int
def T4 (H : Hp) : List Addr → List B4 → Prop
  | [], [] => True
  | a :: as, b :: bs => H a = some (.tup [.int b.r, .int b.n, .int b.s, .int b.g]) ∧ T4 H as bs
  | _, _ => False
theorem T4.same {H H' : Hp} (s : ∀ b o, H b = some (.tup o) → H' b = some (.tup o)) : ∀ {as : List Addr} {bs : List B4}, T4 H as bs → T4 H' as bs
  | [], [], _ => trivial
  | _ :: _, _ :: _, ⟨h, t⟩ => ⟨s _ _ h, T4.same s t⟩
theorem T4.len {H : Hp} : ∀ {as : List Addr} {bs : List B4}, T4 H as bs → as.length = bs.length
  | [], [], _ => rfl
  | _ :: _, _ :: _, ⟨_, t⟩ => congrArg (· + 1) (T4.len t)
theorem T4.snoc {H : Hp} {a : Addr} {b : B4} (hb : H a = some (.tup [.int b.r, .int b.n, .int b.s, .int b.g])) : ∀ {as : List Addr} {bs : List B4}, T4 H as bs → T4 H (as ++ [a]) (bs ++ [b])
  | [], [], _ => ⟨hb, trivial⟩
  | _ :: _, _ :: _, ⟨h, t⟩ => ⟨h, T4.snoc hb t⟩
theorem T4.get {H : Hp} : ∀ {as : List Addr} {bs : List B4} {i : Nat} {a : Addr}, T4 H as bs → as[i]? = some a → ∃ b, bs[i]? = some b ∧ H a = some (.tup [.int b.r, .int b.n, .int b.s, .int b.g])
  | [], [], _, _, _, e => by cases e
  | _ :: _, b :: _, 0, _, ⟨h, _⟩, e => by cases e; exact ⟨b, rfl, h⟩
  | _ :: _, _ :: _, i + 1, _, ⟨_, t⟩, e => T4.get (i := i) t e
def Bk (H : Hp) (l : Addr) (bs : List B4) : Prop := ∃ as : List Addr, H l = some (.lst (as.map V.ref)) ∧ T4 H as bs
theorem t4_kp {H H' : Hp} {p : Addr} {N : Nat} (hh : Hand H p N) (k : Kp H H' p) : ∀ b o, H b = some (.tup o) → H' b = some (.tup o) := fun b o h => by
  refine k.1 _ _ h ?_
  obtain ⟨l, d, c, ns, h1, _⟩ := hh.ex
  exact ne_of h h1 (by intro z; cases z)
theorem t4_upd {H : Hp} {D : Addr} {ys : List V} {o' : HO} (hD : H D = some (.lst ys)) : ∀ b o, H b = some (.tup o) → (L2.upd H D o') b = some (.tup o) := fun b o h => by
  rw [upd_ne (ne_of h hD (by intro z; cases z))]; exact h
def sp__law_many (K : PySem.W.Frag) : Sp := fun vs H Q _ => ∃ (p : Addr) (N : Nat), vs = [.ref p] ∧ Hand H p N ∧ N + 30 < 2 ^ 60 ∧
  ∀ (r : Int) (H' : Hp), 0 ≤ r → r ≤ 120 → Hand H' p (N + 3) → Kp H H' p → Q (.int r) H'
def sp__law_splits (K : PySem.W.Frag) : Sp := fun vs H Q _ => ∃ (p : Addr) (N : Nat), vs = [.ref p] ∧ Hand H p N ∧ N + 30 < 2 ^ 60 ∧
  ∀ (r : Int) (H' : Hp), 0 ≤ r → r ≤ 129 → Hand H' p (N + 3) → Kp H H' p → Q (.int r) H'
def hstep (had : List Int) (b : B4) : List Int := had.set b.r.toNat b.s ++ [b.g]
def hadN (c : Int) (bs : List B4) (i : Nat) : List Int := (bs.take i).foldl hstep [c]
theorem hadN_zero (c : Int) (bs : List B4) : hadN c bs 0 = [c] := by unfold hadN; rw [List.take_zero]; rfl
theorem hadN_succ {c : Int} {bs : List B4} {i : Nat} {b : B4} (h : bs[i]? = some b) : hadN c bs (i + 1) = hstep (hadN c bs i) b := by
  unfold hadN
  obtain ⟨hi, e⟩ := List.getElem?_eq_some_iff.mp h
  rw [List.take_succ_eq_append_getElem hi, List.foldl_append, e]
  rfl
theorem hadN_len {c : Int} {bs : List B4} : ∀ {i : Nat}, i ≤ bs.length → (hadN c bs i).length = i + 1 := by
  intro i
  induction i with
  | zero => intro _; rw [hadN_zero]; rfl
  | succ i ih =>
    intro h
    rw [hadN_succ (List.getElem?_eq_getElem (show i < bs.length by omega))]
    unfold hstep
    rw [List.length_append, List.length_set, ih (by omega)]; rfl
def Valid (c : Int) (bs : List B4) : Prop := ∀ (i : Nat) (b : B4), bs[i]? = some b → ∃ j : Nat, b.r = (j : Int) ∧ (hadN c bs i)[j]? = some (b.s + b.g) ∧ 0 ≤ b.s ∧ 0 ≤ b.g
theorem hadN_app {c : Int} {bs : List B4} {b : B4} {i : Nat} (h : i ≤ bs.length) : hadN c (bs ++ [b]) i = hadN c bs i := by
  unfold hadN
  rw [List.take_append_of_le_length h]
theorem hadN_app_len {c : Int} {bs : List B4} {b : B4} : hadN c (bs ++ [b]) (bs.length + 1) = hstep (hadN c bs bs.length) b := by
  rw [hadN_succ (b := b) (by rw [List.getElem?_append_right (Nat.le_refl _), Nat.sub_self]; rfl), hadN_app (Nat.le_refl _)]
structure C2 (H0 : Hp) (p D E : Addr) (N : Nat) (xs ys : List V) (H' : Hp) : Prop where
  hh : Hand H' p N
  l1 : H' D = some (.lst xs)
  l2 : H' E = some (.lst ys)
  kp : Kp H0 H' p
  n1 : H0 D = none
  n2 : H0 E = none
  p1 : D ≠ p
  p2 : E ≠ p
  c1 : cellsOf H0 p ≠ some D
  c2 : cellsOf H0 p ≠ some E
  ne : D ≠ E
theorem C2.start {H0 H1 : Hp} {p D E : Addr} {N : Nat} {xs ys : List V} (c : CK H0 p D N xs H1) (n : H1 E = none) : C2 H0 p D E N xs ys (L2.upd H1 E (.lst ys)) where
  hh := c.hh.same (same_new n _)
  l1 := same_new n _ _ _ c.lat
  l2 := upd_same
  kp := c.kp.trans (Kp.of (same_new n _) c.hh)
  n1 := c.n0
  n2 := c.kp.free n (c.hh.ne n)
  p1 := c.np
  p2 := c.hh.ne n
  c1 := c.nc
  c2 := by rw [← c.kp.2]; exact cells_new c.hh n
  ne := ne_of_none c.lat n
theorem C2.draw {H0 H' H2 : Hp} {p D E : Addr} {N M : Nat} {xs ys : List V} (c : C2 H0 p D E N xs ys H') (k : Kp H' H2 p) (hh : Hand H2 p M) : C2 H0 p D E M xs ys H2 :=
  ⟨hh, k.1 _ _ c.l1 c.p1, k.1 _ _ c.l2 c.p2, c.kp.trans k, c.n1, c.n2, c.p1, c.p2, c.c1, c.c2, c.ne⟩
theorem C2.new {H0 H' H2 : Hp} {p D E l : Addr} {N : Nat} {xs ys : List V} {o : HO} (c : C2 H0 p D E N xs ys H') (n : H' l = none) (e : L2.upd H' l o = H2) : C2 H0 p D E N xs ys H2 ∧ H2 l = some o ∧ l ≠ p ∧ l ≠ D ∧ l ≠ E ∧ Same H' H2 := by
  subst e
  exact ⟨⟨c.hh.same (same_new n _), same_new n _ _ _ c.l1, same_new n _ _ _ c.l2, c.kp.trans (Kp.of (same_new n _) c.hh), c.n1, c.n2, c.p1, c.p2, c.c1, c.c2, c.ne⟩, upd_same, c.hh.ne n, (ne_of_none c.l1 n).symm, (ne_of_none c.l2 n).symm, same_new n _⟩
theorem C2.put1 {H0 H' : Hp} {p D E : Addr} {N : Nat} {xs ys zs : List V} (c : C2 H0 p D E N xs ys H') : C2 H0 p D E N zs ys (L2.upd H' D (.lst zs)) where
  hh := c.hh.upd c.p1 (by rw [c.kp.2]; exact c.c1)
  l1 := upd_same
  l2 := by rw [upd_ne c.ne.symm]; exact c.l2
  kp := ⟨fun b o h n => by rw [upd_ne (ne_of_none h c.n1)]; exact c.kp.1 _ _ h n, by rw [cells_upd c.p1]; exact c.kp.2⟩
  n1 := c.n1
  n2 := c.n2
  p1 := c.p1
  p2 := c.p2
  c1 := c.c1
  c2 := c.c2
  ne := c.ne
theorem C2.put2 {H0 H' : Hp} {p D E : Addr} {N : Nat} {xs ys zs : List V} (c : C2 H0 p D E N xs ys H') : C2 H0 p D E N xs zs (L2.upd H' E (.lst zs)) where
  hh := c.hh.upd c.p2 (by rw [c.kp.2]; exact c.c2)
  l1 := by rw [upd_ne c.ne]; exact c.l1
  l2 := upd_same
  kp := ⟨fun b o h n => by rw [upd_ne (ne_of_none h c.n2)]; exact c.kp.1 _ _ h n, by rw [cells_upd c.p2]; exact c.kp.2⟩
  n1 := c.n1
  n2 := c.n2
  p1 := c.p1
  p2 := c.p2
  c1 := c.c1
  c2 := c.c2
  ne := c.ne
theorem cut_hiV {xs : List V} {k : Nat} : cutV xs none (some (k : Int)) = xs.take k := by
  unfold cutV
  rw [HT.sIx_nat, HT.sIx_none, List.drop_zero, Nat.sub_zero]
  by_cases h : k ≤ xs.length
  · rw [Nat.min_eq_left h]
  · rw [Nat.min_eq_right (by omega), List.take_of_length_le (Nat.le_refl _), List.take_of_length_le (by omega)]
def sp_do_split (K : PySem.W.Frag) : Sp := fun vs H Q _ => ∃ (h a : Addr) (ns : List Int) (b : B4) (j : Nat), vs = [.ref h, .ref a] ∧ H h = some (.lst (ns.map V.int)) ∧ H a = some (.tup [.int b.r, .int b.n, .int b.s, .int b.g]) ∧ b.r = (j : Int) ∧ j < ns.length ∧ ns.length ≤ 500 ∧
  ∀ H', H' h = some (.lst ((hstep ns b).map V.int)) → (∀ x o, x ≠ h → H x = some o → H' x = some o) → Q .non H'
def sp_counts_by (K : PySem.W.Frag) : Sp := fun vs H Q _ => ∃ (c : Int) (l : Addr) (bs : List B4) (i : Nat), vs = [.int c, .ref l, .int (1 + i)] ∧ Bk H l bs ∧ Valid c bs ∧ i ≤ bs.length ∧ bs.length ≤ 130 ∧
  ∀ t H', H t = none → H' t = some (.lst ((hadN c bs i).map V.int)) → Same H H' → Q (.ref t) H'
def smI (i : Int) : Prop := (-300 ≤ i ∧ i ≤ 300) ∨ i = 1000000000000
def okStr (x : Str) : Prop := (reprText x).length ≤ 20 ∧ PyData.strOk x = true
def okE : PyData → Prop
  | .none => True
  | .bool _ => True
  | .int i => smI i
  | .str x => okStr x
  | .list [.int i] => smI i
  | .tuple [.int i] => smI i
  | _ => False
def okS : PyData → Prop
  | .none => True
  | .bool _ => True
  | .int i => smI i
  | .str x => okStr x
  | .dict [] => True
  | .list ds => ds.length ≤ 5 ∧ ∀ d ∈ ds, okE d
  | .tuple ds => ds.length ≤ 5 ∧ ∀ d ∈ ds, okE d
  | _ => False
def okT : PyData → Prop
  | .none => True
  | .bool _ => True
  | .int i => smI i
  | .str x => okStr x
  | .dict [] => True
  | .list ds => ds.length ≤ 140 ∧ (∀ d ∈ ds, okS d) ∧ (PyData.hasDictAll ds = true → nlDs ds = true)
  | .tuple ds => ds.length ≤ 140 ∧ (∀ d ∈ ds, okS d) ∧ (PyData.hasDictAll ds = true → nlDs ds = true)
  | _ => False
def tlen (i : Int) : Nat := (Str.ofString (toString i)).length
theorem sm_len0 : ∀ n : Fin 601, tlen ((n.val : Int) - 300) ≤ 14 := by decide +kernel
theorem sm_len {i : Int} (h : smI i) : (Str.ofString (toString i)).length ≤ 14 := by
  rcases h with ⟨a, b⟩ | rfl
  · have := sm_len0 ⟨(i + 300).toNat, by omega⟩
    rw [show (((⟨(i + 300).toNat, by omega⟩ : Fin 601).val : Int) - 300) = i by show (((i + 300).toNat : Nat) : Int) - 300 = i; omega] at this
    exact this
  · decide +kernel
theorem sm_log {i : Int} (h : smI i) : i.natAbs.log2 < 1920 := by
  have : i.natAbs < 2 ^ 1920 := by
    have h1 : i.natAbs ≤ 1000000000000 := by rcases h with ⟨a, b⟩ | rfl <;> omega
    exact Nat.lt_of_le_of_lt h1 (by decide +kernel)
  by_cases z : i.natAbs = 0
  · rw [z]; decide
  · exact (Nat.log2_lt z).mpr this
theorem join_len : ∀ {ts : List Str} {m : Nat}, (∀ t ∈ ts, t.length ≤ m) → (Str.join ", " ts).length ≤ ts.length * (m + 2)
  | [], m, _ => by show 0 ≤ _; omega
  | [x], m, h => by
    have := h x (List.mem_cons_self ..)
    show x.length ≤ 1 * (m + 2)
    omega
  | x :: y :: r, m, h => by
    have h1 := h x (List.mem_cons_self ..)
    have h2 := join_len (ts := y :: r) (m := m) fun t ht => h t (List.mem_cons_of_mem _ ht)
    show (x ++ ", " ++ Str.join ", " (y :: r)).length ≤ _
    rw [strLen_append, strLen_append]
    rw [List.length_cons, Nat.add_mul]
    have : (Str.ofString ", ").length = 2 := by decide +kernel
    omega
theorem tup_len {ts : List Str} {m : Nat} (h : ∀ t ∈ ts, t.length ≤ m) : (tupleText ts).length ≤ ts.length * (m + 2) + 4 := by
  have h1 := join_len h
  unfold tupleText
  rw [strLen_append, strLen_append]
  have e1 : (Str.ofString "(").length = 1 := by decide +kernel
  have e2 : (Str.ofString (if ts.length == 1 then ",)" else ")")).length ≤ 2 := by split <;> decide +kernel
  omega
theorem lst_len {ts : List Str} {m : Nat} (h : ∀ t ∈ ts, t.length ≤ m) : (listText ts).length ≤ ts.length * (m + 2) + 4 := by
  have h1 := textFrom_len_le ts 0 "["
  have h2 : (ts.map (·.length)).sum ≤ ts.length * m := by
    clear h1
    induction ts with
    | nil => simp
    | cons t r ih =>
      have a := h t (List.mem_cons_self ..)
      have b := ih fun t ht => h t (List.mem_cons_of_mem _ ht)
      rw [List.map_cons, List.sum_cons, List.length_cons, Nat.add_mul]
      omega
  show (textFrom 0 "[" ts ++ "]").length ≤ _
  rw [strLen_append]
  have e1 : (Str.ofString "[").length = 1 := by decide +kernel
  have e2 : (Str.ofString "]").length = 1 := by decide +kernel
  rw [Nat.mul_add]
  omega
theorem shownAll_mem : ∀ {ds : List PyData} {t : Str}, t ∈ PyData.shownAll ds → ∃ d ∈ ds, t = d.shown
  | [], t, h => by simp [PyData.shownAll] at h
  | d :: ds, t, h => by
    rw [PyData.shownAll] at h
    rcases List.mem_cons.mp h with rfl | h
    · exact ⟨d, List.mem_cons_self .., rfl⟩
    · obtain ⟨e, he, r⟩ := shownAll_mem h
      exact ⟨e, List.mem_cons_of_mem _ he, r⟩
theorem shownAll_len : ∀ ds : List PyData, (PyData.shownAll ds).length = ds.length
  | [] => by simp [PyData.shownAll]
  | d :: ds => by rw [PyData.shownAll, List.length_cons, shownAll_len ds]; rfl
structure Shw (d : PyData) (k m : Nat) : Prop where
  sh : d.showable = true
  dp : d.depth ≤ k
  ln : d.shown.length ≤ m
theorem showAll_of : ∀ {ds : List PyData}, (∀ d ∈ ds, d.showable = true) → PyData.showableAll ds = true
  | [], _ => by simp [PyData.showableAll]
  | d :: ds, h => by
    rw [PyData.showableAll, h d (List.mem_cons_self ..), showAll_of fun e he => h e (List.mem_cons_of_mem _ he)]; rfl
theorem depthAll_of {k : Nat} : ∀ {ds : List PyData}, (∀ d ∈ ds, d.depth ≤ k) → PyData.depthAll ds ≤ k
  | [], _ => by simp [PyData.depthAll]
  | d :: ds, h => by
    have a := h d (List.mem_cons_self ..)
    have b := depthAll_of fun e he => h e (List.mem_cons_of_mem _ he)
    rw [PyData.depthAll]
    exact Nat.max_le.mpr ⟨a, b⟩
theorem Shw.lst {ds : List PyData} {k m n : Nat} (h : ∀ d ∈ ds, Shw d k m) (hn : ds.length ≤ n) : Shw (.list ds) (k + 1) (n * (m + 2) + 4) := by
  refine ⟨?_, ?_, ?_⟩
  · rw [PyData.showable]; exact showAll_of fun d hd => (h d hd).sh
  · rw [PyData.depth]; have := depthAll_of fun d hd => (h d hd).dp; omega
  · rw [PyData.shown]
    have := lst_len (ts := PyData.shownAll ds) (m := m) fun t ht => by
      obtain ⟨d, hd, rfl⟩ := shownAll_mem ht
      exact (h d hd).ln
    rw [shownAll_len] at this
    exact Nat.le_trans this (Nat.add_le_add_right (Nat.mul_le_mul_right _ hn) 4)
theorem Shw.tup {ds : List PyData} {k m n : Nat} (h : ∀ d ∈ ds, Shw d k m) (hn : ds.length ≤ n) : Shw (.tuple ds) (k + 1) (n * (m + 2) + 4) := by
  refine ⟨?_, ?_, ?_⟩
  · rw [PyData.showable]; exact showAll_of fun d hd => (h d hd).sh
  · rw [PyData.depth]; have := depthAll_of fun d hd => (h d hd).dp; omega
  · rw [PyData.shown]
    have := tup_len (ts := PyData.shownAll ds) (m := m) fun t ht => by
      obtain ⟨d, hd, rfl⟩ := shownAll_mem ht
      exact (h d hd).ln
    rw [shownAll_len] at this
    exact Nat.le_trans this (Nat.add_le_add_right (Nat.mul_le_mul_right _ hn) 4)
theorem Shw.mono {d : PyData} {k m k' m' : Nat} (h : Shw d k m) (hk : k ≤ k') (hm : m ≤ m') : Shw d k' m' := ⟨h.sh, Nat.le_trans h.dp hk, Nat.le_trans h.ln hm⟩
theorem shw_none : Shw .none 0 20 := ⟨by simp [PyData.showable], by simp [PyData.depth], by rw [PyData.shown]; decide +kernel⟩
theorem shw_bool (b : Bool) : Shw (.bool b) 0 20 := ⟨by simp [PyData.showable], by simp [PyData.depth], by rw [PyData.shown]; cases b <;> decide +kernel⟩
theorem shw_int {i : Int} (h : smI i) : Shw (.int i) 0 20 := ⟨by rw [PyData.showable]; exact decide_eq_true (sm_log h), by simp [PyData.depth], by rw [PyData.shown]; exact Nat.le_trans (sm_len h) (by decide)⟩
theorem shw_str {x : Str} (h : okStr x) : Shw (.str x) 0 20 := ⟨by simp [PyData.showable], by simp [PyData.depth], by rw [PyData.shown]; exact h.1⟩
theorem shw_dict : Shw (.dict []) 1 20 := ⟨by simp [PyData.showable, PyData.showableKv], by simp [PyData.depth, PyData.depthKv], by rw [PyData.shown, PyData.shownKv]; decide +kernel⟩
theorem shw_E {d : PyData} (h : okE d) : Shw d 1 30 := by
  unfold okE at h
  split at h
  · exact shw_none.mono (by decide) (by decide)
  · exact (shw_bool _).mono (by decide) (by decide)
  · exact (shw_int h).mono (by decide) (by decide)
  · exact (shw_str h).mono (by decide) (by decide)
  · exact (Shw.lst (n := 1) (fun d hd => by rw [List.mem_singleton.mp hd]; exact shw_int h) (by simp)).mono (by decide) (by decide)
  · exact (Shw.tup (n := 1) (fun d hd => by rw [List.mem_singleton.mp hd]; exact shw_int h) (by simp)).mono (by decide) (by decide)
  · exact h.elim
theorem shw_S {d : PyData} (h : okS d) : Shw d 2 170 := by
  unfold okS at h
  split at h
  · exact shw_none.mono (by decide) (by decide)
  · exact (shw_bool _).mono (by decide) (by decide)
  · exact (shw_int h).mono (by decide) (by decide)
  · exact (shw_str h).mono (by decide) (by decide)
  · exact shw_dict.mono (by decide) (by decide)
  · exact (Shw.lst (n := 5) (fun d hd => shw_E (h.2 d hd)) h.1).mono (by decide) (by decide)
  · exact (Shw.tup (n := 5) (fun d hd => shw_E (h.2 d hd)) h.1).mono (by decide) (by decide)
  · exact h.elim
theorem shw_T {d : PyData} (h : okT d) : Shw d 3 24100 := by
  unfold okT at h
  split at h
  · exact shw_none.mono (by decide) (by decide)
  · exact (shw_bool _).mono (by decide) (by decide)
  · exact (shw_int h).mono (by decide) (by decide)
  · exact (shw_str h).mono (by decide) (by decide)
  · exact shw_dict.mono (by decide) (by decide)
  · exact (Shw.lst (n := 140) (fun d hd => shw_S (h.2.1 d hd)) h.1).mono (by decide) (by decide)
  · exact (Shw.tup (n := 140) (fun d hd => shw_S (h.2.1 d hd)) h.1).mono (by decide) (by decide)
  · exact h.elim
theorem apart_T {d : PyData} (h : okT d) : apartD d := by
  unfold okT at h
  split at h
  · intro z; simp [nlD]
  · intro z; simp [nlD]
  · intro z; simp [nlD]
  · intro z; simp [nlD]
  · intro z; simp [nlD]
  · exact h.2.2
  · intro z; rw [nlD]; exact h.2.2 (by simpa [PyData.hasDict] using z)
  · exact h.elim
theorem rd_repr {x : V} {d : PyData} {H : Hp} {Q : VK} (h : DW H x d) (ok : okT d) (q : Q (.str d.shown) H) : rRepr [x] H Q :=
  ⟨x, d, rfl, h, (shw_T ok).sh, apart_T ok, Nat.le_trans (shw_T ok).dp (by decide), Nat.le_trans (shw_T ok).ln (by decide), q⟩
def stepD (had : List Int) : PyData → List Int
  | .tuple [.int r, .int _, .int s, .int g] => had.set r.toNat s ++ [g]
  | _ => had
def isSplitD (had : List Int) : PyData → Bool
  | .tuple [.int r, .int n, .int s, .int g] => decide (r = (had.length : Int) - 2 ^ lg (had.length : Int) ∧ n = had.length) && (decide (s ≥ 0) && (decide (g ≥ 0) && decide (had[r.toNat]? = some (s + g))))
  | _ => false
def isBookF : List Int → List PyData → Bool
  | _, [] => true
  | had, d :: ds => isSplitD had d && isBookF (stepD had d) ds
def isBookD (c : Int) : PyData → Bool
  | .list ds => decide (ds.length ≤ 129) && isBookF [c] ds
  | _ => false
theorem not_tup {had : List Int} {d : PyData} (h : tupB d = false) : isSplitD had d = false := by
  cases d with
  | tuple ds => cases h
  | _ => rfl
theorem not_four {had : List Int} {ds : List PyData} (h : ds.length ≠ 4) : isSplitD had (.tuple ds) = false := by
  unfold isSplitD
  split
  · rename_i e; cases e; exact absurd rfl h
  · rfl
theorem intB_ex {d : PyData} (h : intB d = true) : ∃ i, d = .int i := by
  cases d with
  | int i => exact ⟨i, rfl⟩
  | _ => cases h
theorem four_ints {H : Hp} {xs : List V} {ds : List PyData} (h : DWs H xs ds) (l : ds.length = 4) (a : ds.all intB = true) : ∃ r n s g : Int, ds = [.int r, .int n, .int s, .int g] ∧ xs = [.int r, .int n, .int s, .int g] := by
  match ds, l, a, h with
  | [d1, d2, d3, d4], _, a, h =>
    simp only [List.all_cons, List.all_nil, Bool.and_true, Bool.and_eq_true] at a
    obtain ⟨a1, a2, a3, a4⟩ := a
    obtain ⟨r, rfl⟩ := intB_ex a1
    obtain ⟨n, rfl⟩ := intB_ex a2
    obtain ⟨s, rfl⟩ := intB_ex a3
    obtain ⟨g, rfl⟩ := intB_ex a4
    cases h with
    | cons h1 h => cases h with
      | cons h2 h => cases h with
        | cons h3 h => cases h with
          | cons h4 h => cases h; cases h1; cases h2; cases h3; cases h4; exact ⟨r, n, s, g, rfl, rfl⟩
theorem not_ints {had : List Int} {ds : List PyData} (h : ds.all intB = false) : isSplitD had (.tuple ds) = false := by
  unfold isSplitD
  split
  · rename_i e; cases e; simp [intB] at h
  · rfl
theorem eq_II2 (a b c d : Int) : PyData.eqv (.tuple [.int a, .int b]) (.tuple [.int c, .int d]) = decide (a = c ∧ b = d) := by
  rw [PyData.eqv, PyData.eqvAll, PyData.eqvAll, PyData.eqvAll, PyData.eqv, PyData.eqv, Bool.eq_iff_iff]; simp
theorem dv_II {K : PySem.W.Frag} {H : Hp} {t : Addr} {a b : Int} (h : H t = some (.tup [.int a, .int b])) : DV K H (.ref t) (.tuple [.int a, .int b]) := .tup (SqT.of h) (.cons (.int a) (.cons (.int b) .nil))
theorem lg_room {n : Nat} (h : 1 ≤ n) : ∃ j : Nat, (n : Int) - 2 ^ lg (n : Int) = (j : Int) ∧ j < n := by
  have lle := lg_le (R := (n : Int)) (by omega)
  have pp := pow2_pos (lg (n : Int))
  exact ⟨((n : Int) - 2 ^ lg (n : Int)).toNat, by omega, by omega⟩
theorem isSplit_four {had : List Int} {r n s g : Int} : isSplitD had (.tuple [.int r, .int n, .int s, .int g]) = (decide (r = (had.length : Int) - 2 ^ lg (had.length : Int) ∧ n = had.length) && (decide (s ≥ 0) && (decide (g ≥ 0) && decide (had[r.toNat]? = some (s + g))))) := rfl
theorem split_true {had : List Int} {d : PyData} (h : isSplitD had d = true) : ∃ r n s g : Int, d = .tuple [.int r, .int n, .int s, .int g] ∧ r = (had.length : Int) - 2 ^ lg (had.length : Int) := by
  unfold isSplitD at h
  split at h
  · rename_i r n s g
    rw [Bool.and_eq_true] at h
    exact ⟨r, n, s, g, rfl, (of_decide_eq_true h.1).1⟩
  · cases h
theorem step_len {had : List Int} {d : PyData} (h : isSplitD had d = true) : (stepD had d).length = had.length + 1 := by
  obtain ⟨r, n, s, g, rfl, _⟩ := split_true h
  simp [stepD]
theorem isB_step {had : List Int} {ds : List PyData} {i : Nat} {d : PyData} (h : ds[i]? = some d) : isBookF had (ds.drop i) = (isSplitD had d && isBookF (stepD had d) (ds.drop (i + 1))) := by
  rw [drop_get h]; rfl
theorem book_not {c : Int} {d : PyData} (h : lstB d = false) : isBookD c d = false := by
  cases d with
  | list ds => cases h
  | _ => rfl
theorem book_long {c : Int} {ds : List PyData} (h : ¬ ds.length ≤ 129) : isBookD c (.list ds) = false := by
  show (decide (ds.length ≤ 129) && isBookF [c] ds) = false; rw [decide_eq_false h]; rfl
theorem book_lst {c : Int} {ds : List PyData} (h : ds.length ≤ 129) : isBookD c (.list ds) = isBookF [c] ds := by
  show (decide (ds.length ≤ 129) && isBookF [c] ds) = _; rw [decide_eq_true h]; rfl
theorem okE_nd {d : PyData} (h : okE d) : d.hasDict = false ∧ d.canLay0 = true ∧ d.depth ≤ 1 := by
  unfold okE at h
  split at h <;> first | exact h.elim | (simp [PyData.hasDict, PyData.hasDictAll, PyData.canLay0, PyData.canLayAll0, PyData.depth, PyData.depthAll]; done) | (simp [PyData.hasDict, PyData.canLay0, PyData.depth]; exact h.2)
theorem okE_all : ∀ {ds : List PyData}, (∀ d ∈ ds, okE d) → PyData.hasDictAll ds = false ∧ PyData.canLayAll0 ds = true ∧ PyData.depthAll ds ≤ 1
  | [], _ => by simp [PyData.hasDictAll, PyData.canLayAll0, PyData.depthAll]
  | d :: ds, h => by
    obtain ⟨a, b, c⟩ := okE_nd (h d (List.mem_cons_self ..))
    obtain ⟨a', b', c'⟩ := okE_all fun e he => h e (List.mem_cons_of_mem _ he)
    rw [PyData.hasDictAll, PyData.canLayAll0, PyData.depthAll, a, b, a', b']
    exact ⟨rfl, rfl, Nat.max_le.mpr ⟨c, c'⟩⟩
theorem okE_shaped {ds : List PyData} (h : ∀ d ∈ ds, okE d) : SeqAt.shaped (.list ds) = true := by
  obtain ⟨_, b, c⟩ := okE_all h
  simp [SeqAt.shaped, PyData.canLay0, PyData.depth, b]
  omega
theorem eqv_nil (ds : List PyData) : PyData.eqv (.list ds) (.list []) = decide (ds = []) := by
  cases ds with
  | nil => rw [PyData.eqv, PyData.eqvAll]; rfl
  | cons d ds => rw [PyData.eqv, PyData.eqvAll]; rfl
def oddB (d : PyData) : Bool := !intB d
theorem odd_all (ds : List PyData) : decide (ds.filter oddB = []) = ds.all intB := by
  rw [Bool.eq_iff_iff, decide_eq_true_eq, List.filter_eq_nil_iff, List.all_eq_true]
  constructor
  · intro h d hd
    have := h d hd
    unfold oddB at this
    simpa using this
  · intro h d hd
    rw [show oddB d = !intB d from rfl, h d hd]; simp
def smB (b : B4) : Prop := (0 ≤ b.r ∧ b.r ≤ 140) ∧ (0 ≤ b.n ∧ b.n ≤ 140) ∧ (0 ≤ b.s ∧ b.s ≤ 120) ∧ (0 ≤ b.g ∧ b.g ≤ 120)
structure Od (H0 : Hp) (p : Addr) (M : Addr → Bool) (N : Nat) (H' : Hp) : Prop where
  hh : Hand H' p N
  kp : Kp H0 H' p
  mp : M p = true
  hM : Held M H'
theorem Od.start {H : Hp} {p : Addr} {M : Addr → Bool} {N : Nat} (hh : Hand H p N) (mp : M p = true) (hM : Held M H) : Od H p M N H := ⟨hh, Kp.refl H p, mp, hM⟩
theorem Od.draw {H0 H' H2 : Hp} {p : Addr} {M : Addr → Bool} {N N2 : Nat} (c : Od H0 p M N H') (k : Kp H' H2 p) (hh : Hand H2 p N2) : Od H0 p M N2 H2 ∧ Sub M H' H2 := by
  refine ⟨⟨hh, c.kp.trans k, c.mp, fun a m => ?_⟩, fun a o m h => k.1 a o h fun z => by rw [z, c.mp] at m; cases m⟩
  by_cases z : a = p
  · obtain ⟨l, d, k, ns, h1, _⟩ := hh.ex
    rw [z, h1]; exact nofun
  · cases e : H' a with
    | none => exact absurd e (c.hM a m)
    | some o => rw [k.1 _ _ e z]; exact nofun
theorem Od.same {H0 H' H2 : Hp} {p : Addr} {M : Addr → Bool} {N : Nat} (c : Od H0 p M N H') (s : Same H' H2) : Od H0 p M N H2 ∧ Sub M H' H2 := c.draw (Kp.of s c.hh) (c.hh.same s)
theorem Od.new {H0 H' H2 : Hp} {p l : Addr} {M : Addr → Bool} {N : Nat} {o : HO} (c : Od H0 p M N H') (n : H' l = none) (e : L2.upd H' l o = H2) : Od H0 p M N H2 ∧ H2 l = some o ∧ M l = false ∧ Sub M H' H2 := by
  subst e
  obtain ⟨a, b⟩ := c.same (same_new n o)
  exact ⟨a, upd_same, c.hM.fresh n, b⟩
theorem cat_free {M : Addr → Bool} {H : Hp} {a b u : Addr} (hM : Held M H) (h : u = a ∨ u = b ∨ H u = none) (h1 : M a = false) (h2 : M b = false) : M u = false := by
  rcases h with rfl | rfl | h
  · exact h1
  · exact h2
  · exact hM.fresh h
theorem cut_lo1 {xs : List V} {k : Nat} : cutV xs (some ((k : Int) + 1)) none = xs.drop (k + 1) := by
  rw [show (k : Int) + 1 = ((k + 1 : Nat) : Int) by omega]
  unfold cutV
  rw [HT.sIx_nat, HT.sIx_none]
  by_cases h : k + 1 ≤ xs.length
  · rw [Nat.min_eq_left h, List.take_of_length_le (by rw [List.length_drop]; exact Nat.le_refl _)]
  · rw [Nat.min_eq_right (by omega), List.drop_of_length_le (Nat.le_refl _), List.drop_of_length_le (by omega), List.take_nil]
theorem cut_lo0 {xs : List V} {k : Nat} : cutV xs (some (k : Int)) none = xs.drop k := by
  cases k with
  | zero =>
    unfold cutV
    rw [HT.sIx_nat, HT.sIx_none, Nat.zero_min, List.drop_zero, List.take_of_length_le (by omega)]
  | succ k => rw [show ((k + 1 : Nat) : Int) = (k : Int) + 1 by omega]; exact cut_lo1
theorem cut_lo2 {xs : List V} {k : Nat} : cutV xs (some ((k : Int) + 2)) none = xs.drop (k + 2) := by
  rw [show (k : Int) + 2 = ((k + 1 : Nat) : Int) + 1 by omega, cut_lo1]
theorem cut_at {xs : List V} {k : Nat} : cutV xs (some (k : Int)) (some ((k : Int) + 1)) = (xs.drop k).take 1 := by
  rw [show (k : Int) + 1 = ((k + 1 : Nat) : Int) by omega, cut_mid (by omega), show k + 1 - k = 1 by omega]
theorem cut_nx {xs : List V} {k : Nat} : cutV xs (some ((k : Int) + 1)) (some ((k : Int) + 2)) = (xs.drop (k + 1)).take 1 := by
  rw [show (k : Int) + 1 = ((k + 1 : Nat) : Int) by omega, show (k : Int) + 2 = ((k + 2 : Nat) : Int) by omega, cut_mid (by omega), show k + 2 - (k + 1) = 1 by omega]
def dB (b : B4) : List PyData := [.int b.r, .int b.n, .int b.s, .int b.g]
def vB (b : B4) : List V := [.int b.r, .int b.n, .int b.s, .int b.g]
theorem dw_B {H : Hp} (b : B4) : DWs H (vB b) (dB b) := .cons (.int _) (.cons (.int _) (.cons (.int _) (.cons (.int _) .nil)))
theorem ok_B {b : B4} (h : smB b) : ∀ d ∈ dB b, okE d := fun d hd => by
  obtain ⟨h1, h2, h3, h4⟩ := h
  simp only [dB, List.mem_cons, List.not_mem_nil, or_false] at hd
  rcases hd with rfl | rfl | rfl | rfl
  · exact .inl (by omega)
  · exact .inl (by omega)
  · exact .inl (by omega)
  · exact .inl (by omega)
def strB (n : Nat) : Bool := decide ((reprText (Str.ofString (toString (n : Int)))).length ≤ 20) && PyData.strOk (Str.ofString (toString (n : Int)))
theorem sm_str0 : ∀ n : Fin 201, strB n.val = true := by decide +kernel
theorem sm_str {i : Int} (h0 : 0 ≤ i) (h1 : i ≤ 200) : okStr (Str.ofString (toString i)) := by
  have := sm_str0 ⟨i.toNat, by omega⟩
  unfold strB at this
  rw [show (((⟨i.toNat, by omega⟩ : Fin 201).val : Nat) : Int) = i by show ((i.toNat : Nat) : Int) = i; omega, Bool.and_eq_true] at this
  exact ⟨of_decide_eq_true this.1, this.2⟩
theorem okS_tup {ds : List PyData} (h : ds.length ≤ 5) (g : ∀ d ∈ ds, okE d) : okS (.tuple ds) ∧ (PyData.tuple ds).hasDict = false := ⟨⟨h, g⟩, by rw [PyData.hasDict]; exact (okE_all g).1⟩
theorem okS_lst {ds : List PyData} (h : ds.length ≤ 5) (g : ∀ d ∈ ds, okE d) : okS (.list ds) ∧ (PyData.list ds).hasDict = false := ⟨⟨h, g⟩, by rw [PyData.hasDict]; exact (okE_all g).1⟩
theorem mem_cut {ds es : List PyData} {k j : Nat} (h : ∀ d ∈ ds, okE d) (g : ∀ d ∈ es, okE d) : ∀ d ∈ ds.take k ++ es ++ ds.drop j, okE d := fun d hd => by
  rcases List.mem_append.mp hd with hd | hd
  · rcases List.mem_append.mp hd with hd | hd
    · exact h d (List.mem_of_mem_take hd)
    · exact g d hd
  · exact h d (List.mem_of_mem_drop hd)
theorem hasDict_app : ∀ ds es : List PyData, PyData.hasDictAll (ds ++ es) = (PyData.hasDictAll ds || PyData.hasDictAll es)
  | [], es => by rw [PyData.hasDictAll]; rfl
  | d :: ds, es => by rw [List.cons_append, PyData.hasDictAll, PyData.hasDictAll, hasDict_app ds es, Bool.or_assoc]
theorem nl_app : ∀ ds es : List PyData, nlDs (ds ++ es) = (nlDs ds && nlDs es)
  | [], es => by rw [nlDs]; rfl
  | d :: ds, es => by rw [List.cons_append, nlDs, nlDs, nl_app ds es, Bool.and_assoc]
def AllB (ds : List PyData) : Prop := ∀ d ∈ ds, ∃ b : B4, smB b ∧ d = .tuple (dB b)
theorem AllB.flat : ∀ {ds : List PyData}, AllB ds → PyData.hasDictAll ds = false ∧ nlDs ds = true
  | [], _ => by rw [PyData.hasDictAll, nlDs]; exact ⟨rfl, rfl⟩
  | d :: ds, h => by
    obtain ⟨b, hb, rfl⟩ := h d (List.mem_cons_self ..)
    obtain ⟨h1, h2⟩ := AllB.flat fun e he => h e (List.mem_cons_of_mem _ he)
    rw [PyData.hasDictAll, nlDs, h1, h2]
    simp [PyData.hasDict, PyData.hasDictAll, nlD, nlDs, dB]
theorem AllB.okS {ds : List PyData} (h : AllB ds) : ∀ d ∈ ds, okS d := fun d hd => by
  obtain ⟨b, hb, rfl⟩ := h d hd
  exact (okS_tup (by simp [dB]) (ok_B hb)).1
theorem AllB.app {ds es : List PyData} (h : AllB ds) (g : AllB es) : AllB (ds ++ es) := fun d hd => (List.mem_append.mp hd).elim (h d) (g d)
theorem AllB.take {ds : List PyData} (h : AllB ds) (k : Nat) : AllB (ds.take k) := fun d hd => h d (List.mem_of_mem_take hd)
theorem AllB.drop {ds : List PyData} (h : AllB ds) (k : Nat) : AllB (ds.drop k) := fun d hd => h d (List.mem_of_mem_drop hd)
theorem AllB.lst {ds : List PyData} (h : AllB ds) (l : ds.length ≤ 140) : okT (.list ds) := ⟨l, h.okS, fun z => by rw [h.flat.1] at z; cases z⟩
theorem AllB.tup {ds : List PyData} (h : AllB ds) (l : ds.length ≤ 140) : okT (.tuple ds) := ⟨l, h.okS, fun z => by rw [h.flat.1] at z; cases z⟩
theorem okT_mid {ds es : List PyData} {x : PyData} (h : AllB ds) (g : AllB es) (hx : okS x) (hn : x.hasDict = true → nlD x = true) (l : (ds ++ [x] ++ es).length ≤ 140) : okT (.list (ds ++ [x] ++ es)) := by
  refine ⟨l, fun d hd => ?_, fun z => ?_⟩
  · rcases List.mem_append.mp hd with hd | hd
    · rcases List.mem_append.mp hd with hd | hd
      · exact h.okS d hd
      · rw [List.mem_singleton.mp hd]; exact hx
    · exact g.okS d hd
  · rw [hasDict_app, hasDict_app, h.flat.1, g.flat.1, PyData.hasDictAll, PyData.hasDictAll] at z
    rw [nl_app, nl_app, h.flat.2, g.flat.2, nlDs, nlDs, hn (by simpa using z)]; rfl
theorem T4.dws {H : Hp} : ∀ {as : List Addr} {bs : List B4}, T4 H as bs → DWs H (as.map V.ref) (bs.map fun b => .tuple (dB b))
  | [], [], _ => .nil
  | _ :: _, b :: _, ⟨h, t⟩ => .cons (.tup h (dw_B b)) (T4.dws t)
theorem allB_of {bs : List B4} (h : ∀ b ∈ bs, smB b) : AllB (bs.map fun b => .tuple (dB b)) := fun d hd => by
  obtain ⟨b, hb, rfl⟩ := List.mem_map.mp hd
  exact ⟨b, h b hb, rfl⟩
theorem dw_sub {M : Addr → Bool} {H : Hp} {x : V} {d : PyData} (h : DW (hide M H) x d) : DW H x d := h.mono hide_le
theorem dw_tup {M : Addr → Bool} {H : Hp} {u : Addr} {xs : List V} {ds : List PyData} (m : M u = false) (h : H u = some (.tup xs)) (t : DWs (hide M H) xs ds) : DW (hide M H) (.ref u) (.tuple ds) := .tup (by rw [hide_at m]; exact h) t
theorem dw_lst {M : Addr → Bool} {H : Hp} {u : Addr} {xs : List V} {ds : List PyData} (m : M u = false) (h : H u = some (.lst xs)) (t : DWs (hide M H) xs ds) : DW (hide M H) (.ref u) (.list ds) := .lst (by rw [hide_at m]; exact h) t
theorem hand_kp52 {H H' : Hp} {p q : Addr} {N N2 : Nat} (h : Hand H q N) (hh : Hand H p N2) (k : Kp H H' p) (n : q ≠ p) : Hand H' q N := by
  obtain ⟨l, d, c, ns, h1, h2, r⟩ := h.ex
  exact ⟨l, d, c, ns, k.1 _ _ h1 n, ints_kp h2 hh k, r⟩
theorem hand_ne52 {H : Hp} {p L : Addr} {N : Nat} {x : V} (h : Hand H p N) (hL : H L = some (.lst [x])) : L ≠ p := fun e => by
  obtain ⟨l, d, c, ns, h1, _⟩ := h.ex
  rw [e, h1] at hL
  simp at hL
def sp_is_whole (K : PySem.W.Frag) : Sp := fun vs H Q _ => ∃ (x : V) (d : PyData), vs = [x] ∧ DW H x d ∧ Q (.bl (intB d)) H
def sp_is_split (K : PySem.W.Frag) : Sp := fun vs H Q _ => ∃ (h : Addr) (x : V) (had : List Int) (d : PyData), vs = [.ref h, x] ∧ H h = some (.lst (had.map V.int)) ∧ DW H x d ∧ 1 ≤ had.length ∧ had.length ≤ 500 ∧
  ∀ H', Same H H' → Q (.bl (isSplitD had d)) H'
def sp_is_book (K : PySem.W.Frag) : Sp := fun vs H Q _ => ∃ (c : Int) (x : V) (d : PyData), vs = [.int c, x] ∧ DW H x d ∧ ∀ H', Same H H' → Q (.bl (isBookD c d)) H'
def sp__law_is_book (K : PySem.W.Frag) : Sp := fun vs H Q _ => ∃ (c : Int) (x : V) (d : PyData), vs = [.int c, x] ∧ DW H x d ∧ okT d ∧ ∀ H', Same H H' → Q (.bl (isBookD c d)) H'
def sp__law_split (K : PySem.W.Frag) : Sp := fun vs H Q _ => ∃ (R : Int), vs = [.int R] ∧ 1 ≤ R ∧ R ≤ 2 ^ 60 ∧ ∀ t, H t = none → Q (.ref t) (upd H t (.tup [.int (R - 2 ^ lg R), .int R]))
def sp__law_drawn_book (K : PySem.W.Frag) : Sp := fun vs H Q _ => ∃ (p : Addr) (N : Nat) (c n : Int), vs = [.ref p, .int c, .int n] ∧ Hand H p N ∧ N + 1000 < 2 ^ 60 ∧ 0 ≤ c ∧ c ≤ 120 ∧ 0 ≤ n ∧ n ≤ 130 ∧
  ∀ (l : Addr) (bs : List B4) (H' : Hp), H l = none → Bk H' l bs → (∀ b ∈ bs, smB b) → (bs.length : Int) = n → Hand H' p (N + 600) → Kp H H' p → Q (.ref l) H'
def sp__law_odd_split (K : PySem.W.Frag) : Sp := fun vs H Q _ => ∃ (p a : Addr) (N : Nat) (b : B4) (M : Addr → Bool), vs = [.ref p, .ref a] ∧ Hand H p N ∧ N + 100 < 2 ^ 60 ∧ M p = true ∧ Held M H ∧ hide M H a = some (.tup [.int b.r, .int b.n, .int b.s, .int b.g]) ∧ smB b ∧
  ∀ (x : V) (d : PyData) (H' : Hp), DW (hide M H') x d → okS d → d.hasDict = false → Hand H' p (N + 10) → Kp H H' p → Q x H'
def sp__law_spoilt (K : PySem.W.Frag) : Sp := fun vs H Q _ => ∃ (p l : Addr) (N : Nat) (as : List Addr) (bs : List B4) (M : Addr → Bool), vs = [.ref p, .ref l] ∧ Hand H p N ∧ N + 200 < 2 ^ 60 ∧ M p = true ∧ Held M H ∧ hide M H l = some (.lst (as.map V.ref)) ∧ T4 (hide M H) as bs ∧ (∀ b ∈ bs, smB b) ∧ bs.length ≤ 130 ∧
  ∀ (x : V) (d : PyData) (H' : Hp), DW (hide M H') x d → okT d → Hand H' p (N + 20) → Kp H H' p → Q x H'
def sp__law_right (K : PySem.W.Frag) : Sp := fun vs H Q _ => ∃ (c : Int) (x : V) (d : PyData), vs = [.int c, x] ∧ DW H x d ∧ okT d ∧ ∀ H', Same H H' → Q (.bl true) H'
section
variable {P : Program} {w : World} {K : PySem.W.Frag} {mg : Str → Option Value} {base : Heap}
theorem ok_level {f : Addr} {fd : FuncData} (F : Fun K "level" "level" s_level f fd) (mF : mg "level" = some (.ref f)) (bF : Binds K fd ["rooms"] []) (T : Bl mg)  : Cal P w K mg base "level" ["rooms"] 1 (sp_level K) := by
  refine Cal.of F mF bF sc_level (fun vs H Q E h => ?_) (fun cdv A outer s H vs Q E hr h => ?_)
  · obtain ⟨R, rfl, _⟩ := h; rfl
  obtain ⟨R, rfl, h1, q⟩ := h
  refine ⟨_, (pss_one (ps_ret (pe_op op_sub (pe_bm0 PySem.F.plainAttrs_int PySem.F.slot_int_bit_length PySem.F.type_int_bit_length mt_bitlen (pv 0)) pe_int))), ?_⟩
  rw [st_level]
  walk_at "rd"
  refine ⟨rfl, ?_⟩
  walk_at "rd"
  rw [bits_eq h1]
  exact q
theorem ok_turn {f : Addr} {fd : FuncData} (F : Fun K "turn" "turn" s_turn f fd) (mF : mg "turn" = some (.ref f)) (bF : Binds K fd ["rooms"] []) (T : Bl mg) (C_level : Cal P w K mg base "level" ["rooms"] 1 (sp_level K)) : Cal P w K mg base "turn" ["rooms"] 2 (sp_turn K) := by
  refine Cal.of F mF bF sc_turn (fun vs H Q E h => ?_) (fun cdv A outer s H vs Q E hr h => ?_)
  · obtain ⟨R, rfl, _⟩ := h; rfl
  obtain ⟨R, rfl, h1, h2, q⟩ := h
  have hl := lg_60 h1 h2
  refine ⟨_, (pss_one (ps_ret (pe_op op_sub (pv 0) (pe_op op_shl pe_int (pcl C_level (hr.mono (by decide)) (pa_cons (pv 0) pa_nil stx_Name)))))), ?_⟩
  rw [st_turn]
  walk_at "rd"
  refine ⟨R, rfl, h1, ?_⟩
  walk_at "rd"
  have e : (1 : Int) * 2 ^ (lg R : Int).toNat = 2 ^ lg R := by rw [Int.one_mul, Int.toNat_natCast]
  rw [e]
  exact q
theorem ok_split_of {f : Addr} {fd : FuncData} (F : Fun K "split_of" "split_of" s_split_of f fd) (mF : mg "split_of" = some (.ref f)) (bF : Binds K fd ["rooms"] []) (T : Bl mg) (C_turn : Cal P w K mg base "turn" ["rooms"] 2 (sp_turn K)) : Cal P w K mg base "split_of" ["rooms"] 3 (sp_split_of K) := by
  refine Cal.of F mF bF sc_split_of (fun vs H Q E h => ?_) (fun cdv A outer s H vs Q E hr h => ?_)
  · obtain ⟨R, rfl, _⟩ := h; rfl
  obtain ⟨R, rfl, h1, h2, q⟩ := h
  refine ⟨_, (pss_one (ps_ret (pe_tup (pa_cons (pcl C_turn (hr.mono (by decide)) (pa_cons (pv 0) pa_nil stx_Name)) (pa_cons (pv 0) pa_nil stx_Name) stx_Call)))), ?_⟩
  rw [st_split_of]
  walk_at "rd"
  refine ⟨R, rfl, h1, h2, ?_⟩
  walk_at "rd"
  exact ⟨(by show 2 ≤ sizeLine; decide), q⟩
theorem ok_is_whole {f : Addr} {fd : FuncData} (F : Fun K "is_whole" "is_whole" s_is_whole f fd) (mF : mg "is_whole" = some (.ref f)) (bF : Binds K fd ["thing"] []) (T : Bl mg)  : Cal P w K mg base "is_whole" ["thing"] 1 (sp_is_whole K) := by
  refine Cal.of F mF bF sc_is_whole (fun vs H Q E h => ?_) (fun cdv A outer s H vs Q E hr h => ?_)
  · obtain ⟨x, d, rfl, _⟩ := h; rfl
  obtain ⟨x, d, rfl, hx, q⟩ := h
  obtain ⟨t, ty, k1, k2, _, _⟩ := hx.ty (K := K)
  refine ⟨_, (pss_one (ps_ret (pe_and (pe_callB call_isinst rfl T.isinstance bt_isinstance (pa_cons (pv 0) (pa_cons (pe_bltn (v := .ty "int") rfl T.int bt_int rfl) pa_nil stx_Name) stx_Name)) (pe_one (pe_not (pe_callB call_isinst rfl T.isinstance bt_isinstance (pa_cons (pv 0) (pa_cons (pe_bltn (v := .ty "bool") rfl T.bool bt_bool rfl) pa_nil stx_Name) stx_Name))))))), ?_⟩
  rw [st_is_whole]
  walk_at "rd"
  cases e : intB d with
  | false =>
    rw [e] at q
    cases e2 : bolB d with
    | false =>
      refine rd_isi (b := false) ty (k1.trans (by rw [e, e2]; rfl)) ?_
      walk_at "rd"
      exact q
    | true =>
      refine rd_isi (b := true) ty (k1.trans (by rw [e, e2]; rfl)) ?_
      walk_at "rd"
      refine rd_isi (b := true) ty (k2.trans (by rw [e2])) ?_
      walk_at "rd"
      exact q
  | true =>
    obtain ⟨i, rfl⟩ := intB_ex e
    rw [e] at q
    refine rd_isi (b := true) ty k1 ?_
    walk_at "rd"
    refine rd_isi (b := false) ty k2 ?_
    walk_at "rd"
    exact q
theorem ok_is_book {f : Addr} {fd : FuncData} (F : Fun K "is_book" "is_book" s_is_book f fd) (mF : mg "is_book" = some (.ref f)) (bF : Binds K fd ["count", "thing"] []) (T : Bl mg) (C_do_split : Cal P w K mg base "do_split" ["had", "split"] 1 (sp_do_split K)) (C_is_split : Cal P w K mg base "is_split" ["had", "thing"] 4 (sp_is_split K)) : Cal P w K mg base "is_book" ["count", "thing"] 5 (sp_is_book K) := by
  refine Cal.of F mF bF sc_is_book (fun vs H Q E h => ?_) (fun cdv A outer s H vs Q E hr h => ?_)
  · obtain ⟨c, x, d, rfl, _⟩ := h; rfl
  obtain ⟨c, x, d, rfl, hx, q⟩ := h
  obtain ⟨ty0, ty, _, _, k3, _⟩ := hx.ty (K := K)
  refine ⟨_, (pss_cons (ps_if (PW.pt (pw_or (pt_not (pt_val (pe_callB call_isinst rfl T.isinstance bt_isinstance (pa_cons (pv 1) (pa_cons (pe_bltn (v := .ty "list") rfl T.list bt_list rfl) pa_nil stx_Name) stx_Name)))) (pw_or1 (pt_cmpR op_gt (pe_callB call_lenL rfl T.len bt_len (pa_cons (pv 1) pa_nil stx_Name)) (pe_gint rfl T.c_MOST_SPLITS) (nomark _))))) (pss_one (ps_ret pe_bl)) pss_nil)
      (pss_cons (ps_set (i := 2) sc_is_book.nd rfl (Or.inl rfl) (pe_lst (pa_cons (pv 0) pa_nil stx_Name)))
      (pss_cons (ps_for PassesOwn.never rfl (pi_list (pv 1)) (pg_name (i := 3) sc_is_book.nd rfl (Or.inl rfl)) (pss_cons (ps_if (pt_not (pt_val (pcl C_is_split (hr.mono (by decide)) (pa_cons (pv 2) (pa_cons (pv 3) pa_nil stx_Name) stx_Name)))) (pss_one (ps_ret pe_bl)) pss_nil)
      (pss_one (ps_expr (pcl C_do_split (hr.mono (by decide)) (pa_cons (pv 2) (pa_cons (pv 3) pa_nil stx_Name) stx_Name))))))
      (pss_one (ps_ret pe_bl))))), ?_⟩
  rw [st_is_book]
  walk_at "rd"
  refine rd_isi ty k3 ?_
  cases e : lstB d with
  | false =>
    rw [book_not e] at q
    walk_at "rd"
    exact q H (Same.refl H)
  | true =>
    obtain ⟨ds, rfl⟩ := lstB_ex e
    obtain ⟨l, xs, rfl, hL, hd⟩ := hx.lst_of
    have xl := hd.len
    walk_at "rd"
    refine rd_if (fun z => ?_) (fun z => ?_)
    · rw [book_long (by omega)] at q
      walk_at "rd"
      exact q H (Same.refl H)
    · rw [book_lst (by omega)] at q
      walk_at "rd"
      refine ⟨(by show 1 ≤ sizeLine; decide), fun t nt => ?_⟩
      generalize hE : upd H t _ = H1
      obtain ⟨ht, s1⟩ := newo nt hE
      clear hE
      walk_at "rd"
      refine ⟨l, rfl, ⟨_, SqL.of (s1 _ _ hL)⟩, ?_⟩
      refine for_listO (xs := xs) (fun i σ H' => (∃ x, σ = [some (.int c), some (.ref l), some (.ref t), x]) ∧ Same H H' ∧ ∃ had : List Int, H' t = some (.lst (had.map V.int)) ∧ had.length = i + 1 ∧ isBookF [c] ds = isBookF had (ds.drop i)) ⟨⟨_, rfl⟩, s1, [c], ht, rfl, rfl⟩ (fun _ _ _ _ h => SqL.of (h.2.1 _ _ hL)) ?_ ?_
      · rintro i x σ H2 hx ⟨⟨x1, rfl⟩, s2, had, ht2, hl2, eB⟩
        obtain ⟨d, hdi, hdw⟩ := hd.get hx
        have il := (List.getElem?_eq_some_iff.mp hdi).1
        have hdw := hdw.mono s2
        rw [isB_step hdi] at eB
        walk_at "rd"
        refine ⟨t, x, had, d, rfl, ht2, hdw, by omega, by omega, fun H3 s3 => ?_⟩
        cases e1 : isSplitD had d with
        | false =>
          rw [eB, e1] at q
          walk_at "rd"
          exact q _ (s2.trans s3)
        | true =>
          rw [e1, Bool.true_and] at eB
          have sl := step_len e1
          obtain ⟨r, n, st, g, rfl, er⟩ := split_true e1
          obtain ⟨a, ys, rfl, ha, hy⟩ := hdw.tup_of
          obtain ⟨r', n', s', g', e2, rfl⟩ := four_ints hy rfl (by simp [intB])
          cases e2
          obtain ⟨j, hj, jl⟩ := lg_room (n := had.length) (by omega)
          walk_at "rd"
          refine ⟨t, a, had, ⟨r, n, st, g⟩, j, rfl, s3 _ _ ht2, s3 _ _ ha, by show r = (j : Int); omega, jl, by omega, fun H4 k1 k2 => ?_⟩
          walk_at "rd"
          exact ⟨⟨_, rfl⟩, fun y o e => k2 y o (ne_of_none e nt) (s3 _ _ (s2 _ _ e)), stepD had (.tuple [.int r, .int n, .int st, .int g]), k1, by omega, eB⟩
      · rintro σ H2 ⟨⟨x1, rfl⟩, s2, had, ht2, hl2, eB⟩
        rw [eB, xl, List.drop_length] at q
        walk_at "rd"
        exact q _ s2
theorem ok_is_split {f : Addr} {fd : FuncData} (F : Fun K "is_split" "is_split" s_is_split f fd) (mF : mg "is_split" = some (.ref f)) (bF : Binds K fd ["had", "thing"] []) (T : Bl mg) (C_split_of : Cal P w K mg base "split_of" ["rooms"] 3 (sp_split_of K)) (C_is_whole : Cal P w K mg base "is_whole" ["thing"] 1 (sp_is_whole K)) : Cal P w K mg base "is_split" ["had", "thing"] 4 (sp_is_split K) := by
  refine Cal.of F mF bF sc_is_split (fun vs H Q E h => ?_) (fun cdv A outer s H vs Q E hr h => ?_)
  · obtain ⟨h, x, had, d, rfl, _⟩ := h; rfl
  obtain ⟨h, x, had, d, rfl, hh, hx, n1, n2, q⟩ := h
  have hu := hr.units
  obtain ⟨t, ty, _, _, _, k4⟩ := hx.ty (K := K)
  refine ⟨_, (pss_cons (ps_if (PW.pt (pw_or (pt_not (pt_val (pe_callB call_isinst rfl T.isinstance bt_isinstance (pa_cons (pv 1) (pa_cons (pe_bltn (v := .ty "tuple") rfl T.tuple bt_tuple rfl) pa_nil stx_Name) stx_Name)))) (pw_or (pt_cmpR op_ne (pe_callB call_lenL rfl T.len bt_len (pa_cons (pv 1) pa_nil stx_Name)) pe_int (nomark _)) (pw_or1 (pt_not (pt_val (pe_callB (call_allL rfl) rfl T.all bt_all (pa_cons (pe_comp rfl (blkOk (sc := defScope s_is_split) (N := ["had", "thing", "room", "new", "stays", "goes"]) (vs := ["number"]) (fs := []) (js := []) (by decide +kernel) rfl rfl) (pi_tup (pv 1)) (fun _ _ _ _ => pg_name (i := 0) (show (["number"] : List Str).Nodup by decide +kernel) rfl (Or.inl rfl)) (fun _ _ _ _ => pif0) (fun _ _ _ _ => (pcl C_is_whole (hr.mono (by decide)) (pa_cons (pv 0) pa_nil stx_Name)))) pa_nil stx_ListComp)))))))) (pss_one (ps_ret pe_bl)) pss_nil)
      (pss_cons (ps_asg (pv 1) (pg_tup rfl (pgs_cons (pg_name (i := 2) sc_is_split.nd rfl (Or.inl rfl)) (pgs_cons (pg_name (i := 3) sc_is_split.nd rfl (Or.inl rfl)) (pgs_cons (pg_name (i := 4) sc_is_split.nd rfl (Or.inl rfl)) (pgs_cons (pg_name (i := 5) sc_is_split.nd rfl (Or.inl rfl)) pgs_nil))))))
      (pss_one (ps_ret (pe_and (pe_cmpR (op_eqD hu) (pe_tup (pa_cons (pv 2) (pa_cons (pv 3) pa_nil stx_Name) stx_Name)) (pcl C_split_of (hr.mono (by decide)) (pa_cons (pe_callB call_lenL rfl T.len bt_len (pa_cons (pv 0) pa_nil stx_Name)) pa_nil stx_Call)) (nomark _)) (pe_and (pe_cmpR op_ge (pv 4) pe_int (nomark _)) (pe_and (pe_cmpR op_ge (pv 5) pe_int (nomark _)) (pe_one (pe_cmpR op_eq (pe_op op_add (pv 4) (pv 5)) (pe_ix ix_list (pv 0) (pv 2) (fun _ _ => rfl)) (nomark _)))))))))), ?_⟩
  rw [st_is_split]
  walk_at "rd"
  refine rd_isi ty k4 ?_
  cases e : tupB d with
  | false =>
    rw [not_tup e] at q
    walk_at "rd"
    exact q H (Same.refl H)
  | true =>
    obtain ⟨ds, rfl⟩ := tupB_ex e
    obtain ⟨a, xs, rfl, ha, hd⟩ := hx.tup_of
    have xl := hd.len
    walk_at "rd"
    refine rd_lenT (SqT.of ha) ?_
    walk_at "rd"
    refine rd_ifn (fun c => ?_) (fun c => ?_)
    · walk_at "rd"
      rw [not_four (by omega)] at q
      exact q H (Same.refl H)
    · have l4 : ds.length = 4 := by omega
      walk_at "rd"
      refine ⟨a, rfl, ⟨_, SqT.of ha⟩, fun D nD => ?_⟩
      refine comp_tup (xs := xs) (fun i σ' ys H' => (∃ x, σ' = [x]) ∧ Same H H' ∧ ys = ((ds.take i).map intB).map V.bl ∧ H' D = some (.lst ys)) D ⟨⟨_, rfl⟩, same_new nD _, rfl, upd_same⟩ (fun i σ' ys H' _ h => SqT.of (h.2.1 _ _ ha)) ?_ ?_
      · rintro i x σ' ys H' hx ⟨⟨x1, rfl⟩, g1, rfl, g3⟩
        obtain ⟨d, hdi, hdw⟩ := hd.get hx
        have il := (List.getElem?_eq_some_iff.mp hdi).1
        walk_at "rd"
        refine ⟨x, d, rfl, hdw.mono g1, ?_⟩
        refine ⟨g3, by rw [List.length_map, List.length_map, List.length_take]; exact small1000 (by omega), ⟨_, rfl⟩, fun c o e => ?_, ?_, upd_same⟩
        · rw [upd_ne (ne_of_none e nD)]; exact g1 _ _ e
        · rw [take_get hdi, List.map_append, List.map_append]; rfl
      · rintro σ' ys H1 ⟨⟨x1, rfl⟩, s1, rfl, hD⟩
        rw [xl, List.take_length] at hD
        walk_at "rd"
        refine rd_allL (SqL.of hD) ?_
        rw [show (ds.map intB).all id = ds.all intB by rw [List.all_map]; rfl]
        cases e1 : ds.all intB with
        | false =>
          rw [not_ints e1] at q
          walk_at "rd"
          exact q H1 s1
        | true =>
          obtain ⟨r, n, st, g, rfl, rfl⟩ := four_ints hd l4 e1
          obtain ⟨j, hj, jl⟩ := lg_room n1
          have ha1 := s1 _ _ ha
          have hh1 := s1 _ _ hh
          walk_at "rd"
          refine ⟨a, _, rfl, SqT.of ha1, rfl, _, _, rfl, _, _, rfl, _, _, rfl, _, _, rfl, rfl, ?_⟩
          walk_at "rd"
          refine ⟨(by show 2 ≤ sizeLine; decide), fun t nt => ?_⟩
          generalize hE : upd H1 t _ = H2
          obtain ⟨ht, s2⟩ := newo nt hE
          clear hE
          have hh2 := s2 _ _ hh1
          walk_at "rd"
          rw [List.length_map]
          refine ⟨_, rfl, by omega, by omega, fun u nu => ?_⟩
          generalize hE : upd H2 u _ = H3
          obtain ⟨hu3, s3⟩ := newo nu hE
          clear hE
          have hh3 := s3 _ _ hh2
          have s03 := (s1.trans s2).trans s3
          walk_at "rd"
          refine ⟨_, _, dv_II (s3 _ _ ht), dv_II hu3, rfl, rfl, ?_⟩
          rw [eq_II2]
          rw [isSplit_four] at q
          by_cases c1 : r = (had.length : Int) - 2 ^ lg (had.length : Int) ∧ n = had.length
          · rw [decide_eq_true c1] at q ⊢
            walk_at "rd"
            by_cases c2 : st ≥ 0
            · rw [decide_eq_true c2] at q ⊢
              walk_at "rd"
              by_cases c3 : g ≥ 0
              · rw [decide_eq_true c3] at q ⊢
                walk_at "rd"
                rw [hj] at c1
                rw [c1.1]
                have hv := List.getElem?_eq_getElem jl
                refine rd_ixL (SqL.of hh3) (at_int hv) ?_
                walk_at "rd"
                rw [c1.1, Int.toNat_natCast, hv] at q
                have e4 : decide (some had[j] = some (st + g)) = decide (st + g = had[j]) := by
                  rw [Bool.eq_iff_iff, decide_eq_true_eq, decide_eq_true_eq, Option.some.injEq]
                  exact ⟨Eq.symm, Eq.symm⟩
                rw [e4] at q
                exact q _ s03
              · rw [decide_eq_false c3] at q ⊢
                walk_at "rd"
                exact q _ s03
            · rw [decide_eq_false c2] at q ⊢
              walk_at "rd"
              exact q _ s03
          · rw [decide_eq_false c1] at q ⊢
            walk_at "rd"
            exact q _ s03
theorem ok_do_split {f : Addr} {fd : FuncData} (F : Fun K "do_split" "do_split" s_do_split f fd) (mF : mg "do_split" = some (.ref f)) (bF : Binds K fd ["had", "split"] []) (T : Bl mg)  : Cal P w K mg base "do_split" ["had", "split"] 1 (sp_do_split K) := by
  refine Cal.of F mF bF sc_do_split (fun vs H Q E h => ?_) (fun cdv A outer s H vs Q E hr h => ?_)
  · obtain ⟨h, a, ns, b, j, rfl, _⟩ := h; rfl
  obtain ⟨h, a, ns, b, j, rfl, hh, ha, hj, hjl, hln, q⟩ := h
  refine ⟨_, (pss_cons (ps_asg (pv 1) (pg_tup rfl (pgs_cons (pg_name (i := 2) sc_do_split.nd rfl (Or.inl rfl)) (pgs_cons (pg_name (i := 3) sc_do_split.nd rfl (Or.inl rfl)) (pgs_cons (pg_name (i := 4) sc_do_split.nd rfl (Or.inl rfl)) (pgs_cons (pg_name (i := 5) sc_do_split.nd rfl (Or.inl rfl)) pgs_nil))))))
      (pss_cons (ps_asg (pv 4) (pg_sub (pv 0) (pv 2) set_list))
      (pss_one (ps_expr (pe_bm PySem.F.plainAttrs_list PySem.F.slot_list_append PySem.F.type_list_append mt_append (pv 0) (pa_cons (pv 5) pa_nil stx_Name)))))), ?_⟩
  rw [st_do_split]
  walk_at "rd"
  refine ⟨a, _, rfl, SqT.of ha, rfl, _, _, rfl, _, _, rfl, _, _, rfl, _, _, rfl, rfl, ?_⟩
  walk_at "rd"
  refine rd_setL hh (j := j) ?_ ?_
  · rw [hj]
    unfold ixN
    rw [if_pos (by omega), if_pos (by rw [List.length_map]; omega)]; simp
  have h1 : (upd H h (.lst ((ns.map V.int).set j (.int b.s)))) h = some (.lst ((ns.map V.int).set j (.int b.s))) := upd_same
  have h2 : ∀ x o, x ≠ h → H x = some o → (upd H h (.lst ((ns.map V.int).set j (.int b.s)))) x = some o := fun x o n e => by rw [upd_ne n]; exact e
  generalize upd H h _ = H1 at h1 h2 ⊢
  walk_at "rd"
  refine ⟨.inl ⟨rfl, _, SqL.of h1⟩, ?_⟩
  walk_at "rd"
  refine ⟨h, _, _, rfl, rfl, h1, by rw [List.length_set, List.length_map]; exact small1000 (by omega), ?_⟩
  walk_at "rd"
  refine q _ ?_ fun x o n e => by rw [upd_ne n]; exact h2 x o n e
  rw [upd_same]
  unfold hstep
  rw [show b.r.toNat = j by omega, List.map_append, List.map_set]; rfl
theorem ok__law_open {f : Addr} {fd : FuncData} (F : Fun K "_law_open" "_law_open" s__law_open f fd) (mF : mg "_law_open" = some (.ref f)) (bF : Binds K fd ["_law_script", "_law_place"] []) (T : Bl mg)  : Cal P w K mg base "_law_open" ["_law_script", "_law_place"] 1 (sp__law_open K) := by
  refine Cal.of F mF bF sc__law_open (fun vs H Q E h => ?_) (fun cdv A outer s H vs Q E hr h => ?_)
  · obtain ⟨a, ns, pl, rfl, _⟩ := h; rfl
  obtain ⟨a, ns, pl, rfl, hS, hlen, h0, h1, q⟩ := h
  have hu := hr.units
  refine ⟨_, (pss_cons (ps_setc (i := 2) sc__law_open.nd rfl rfl rfl (blkOk (sc := defScope s__law_open) (N := ["_law_script", "_law_place", "_law_cells", "_law_at", "_law_digits"]) (vs := ["_law_cell"]) (fs := []) (js := []) (by decide +kernel) rfl rfl) (pi_list (pe_slice sl_list (pv 0) po_none (po_some pe_int))) (fun _ _ _ _ => pg_name (i := 0) (show (["_law_cell"] : List Str).Nodup by decide +kernel) rfl (Or.inl rfl)) (fun _ _ _ _ => pif0) (fun _ _ _ _ => (pe_callB call_abs1 rfl T.abs bt_abs (pa_cons (pv 0) pa_nil stx_Name))))
      (pss_cons (ps_cut (ps_if (pt_cmpR (op_eqD hu) (pv 2) (pe_lst pa_nil) (nomark _)) (pss_one (ps_set (i := 2) sc__law_open.nd rfl (Or.inl rfl) (pe_lst (pa_cons pe_int pa_nil stx_Constant)))) pss_nil))
      (pss_cons (ps_set (i := 3) sc__law_open.nd rfl (Or.inl rfl) (pe_op op_mod (pv 1) (pe_callB call_lenL rfl T.len bt_len (pa_cons (pv 2) pa_nil stx_Name))))
      (pss_cons (ps_set (i := 4) sc__law_open.nd rfl (Or.inl rfl) pe_int)
      (pss_cons (ps_cut (ps_if (PW.pt (pw_and (pt_cmpR op_ge (pe_ix ix_list (pv 2) (pv 3) (fun _ _ => rfl)) (pe_powC (c := 1000000000000000000) (by decide +kernel) ⟨by decide, by decide, by decide⟩) (nomark _)) (pw_and1 (pt_cmpR op_lt (pv 1) (pe_callB call_lenL rfl T.len bt_len (pa_cons (pv 2) pa_nil stx_Name)) (nomark _))))) (pss_one (ps_set (i := 4) sc__law_open.nd rfl (Or.inl rfl) (pe_ix ix_list (pv 2) (pv 3) (fun _ _ => rfl)))) pss_nil))
      (pss_one (ps_ret (pe_lst (pa_cons (pv 4) (pa_cons (pe_op op_add pe_int (pe_op op_mul pe_int (pv 1))) (pa_cons (pe_op op_cat (pe_slice sl_list (pv 2) (po_some (pv 3)) po_none) (pe_slice sl_list (pv 2) po_none (po_some (pv 3)))) pa_nil stx_BinOp) stx_BinOp) stx_Name))))))))), ?_⟩
  rw [st__law_open]
  walk_at "rd"
  refine rd_slL hS fun p1 n1 => ?_
  have hcut : cutV (ns.map V.int) none (some 63) = ns.map V.int := by
    have := cut_hi (ms := ns) (k := 63)
    rw [List.take_of_length_le hlen] at this
    exact this
  rw [hcut]
  have s1 := same_new n1 (.lst (ns.map V.int))
  have hp1 : (upd H p1 (.lst (ns.map V.int))) p1 = some (.lst (ns.map V.int)) := upd_same
  generalize upd H p1 (.lst (ns.map V.int)) = H1 at s1 hp1 ⊢
  refine ⟨p1, rfl, ⟨_, SqL.of hp1⟩, fun D nD => ?_⟩
  have nD0 : H D = none := s1.free nD
  have npD : p1 ≠ D := ne_of_none hp1 nD
  refine comp_list (xs := ns.map V.int) (fun i σ' ys H' => (∃ x, σ' = [x]) ∧ (∃ ms : List Int, ys = ms.map V.int ∧ ms.length = i) ∧ Same H H' ∧ H' p1 = some (.lst (ns.map V.int)) ∧ H' D = some (.lst ys)) D ?_ (fun i σ' ys H' _ h => SqL.of h.2.2.2.1) ?_ ?_
  · exact ⟨⟨_, rfl⟩, ⟨[], rfl, rfl⟩, s1.trans (same_new nD _), by rw [upd_ne npD]; exact hp1, upd_same⟩
  · rintro i x σ' ys H' hx ⟨⟨y, rfl⟩, ⟨ms, rfl, hms⟩, g1, g2, g3⟩
    have hil : i < (ns.map V.int).length := (List.getElem?_eq_some_iff.mp hx).1
    rw [List.length_map] at hil
    obtain ⟨z, rfl⟩ : ∃ z, x = V.int z := by
      rw [List.getElem?_map] at hx
      cases e : ns[i]? with
      | none => rw [e] at hx; cases hx
      | some z => rw [e] at hx; exact ⟨z, (Option.some.inj hx).symm⟩
    walk_at "rd"
    refine ⟨g3, by rw [List.length_map]; exact small1000 (by omega), ⟨_, rfl⟩, ⟨ms ++ [_], (by rw [List.map_append]; rfl), by rw [List.length_append, hms]; rfl⟩, fun b o e => ?_, ?_, upd_same⟩
    · rw [upd_ne (ne_of_none e nD0)]; exact g1 _ _ e
    · rw [upd_ne npD]; exact g2
  · rintro σ' ys H' ⟨⟨y, rfl⟩, ⟨ms, rfl, hms⟩, g1, g2, g3⟩
    walk_at "rd"
    refine ⟨fun σ H2 => ∃ C ms, σ = [some (.ref a), some (.int pl), some (.ref C), none, none] ∧ ms ≠ [] ∧ ms.length ≤ 63 ∧ H2 C = some (.lst (List.map V.int ms)) ∧ Same H H2, ?_, ?_⟩
    · walk_at "rd"
      refine ⟨by decide, fun p2 n2 => ?_⟩
      refine ⟨.list (ms.map PyData.int), .list [], DV.lst (SqL.of (by rw [upd_ne (ne_of_none g3 n2)]; exact g3)) (DVs.ints ms), DV.lst (SqL.of upd_same) .nil, shaped_ints ms, rfl, ?_⟩
      have e : PyData.eqv (.list (ms.map PyData.int)) (.list []) = decide (ms = []) := by
        have := eqv_ints ms []
        rw [← this, PyData.eqv]; rfl
      rw [e]
      have s2 := g1.trans (same_new n2 (.lst []))
      have g32 : (upd H' p2 (.lst [])) D = some (.lst (ms.map V.int)) := by rw [upd_ne (ne_of_none g3 n2)]; exact g3
      generalize upd H' p2 (.lst []) = H2 at s2 g32 ⊢
      walk_at "rd"
      refine rd_if (fun h => ?_) (fun h => ?_)
      · walk_at "rd"
        refine ⟨by decide, fun p3 n3 => ?_⟩
        walk_at "rd"
        exact ⟨p3, [0], rfl, by simp, by simp, upd_same, s2.trans (same_new n3 _)⟩
      · walk_at "rd"
        exact ⟨D, ms, rfl, h, by rw [hms, List.length_map]; exact hlen, g32, s2⟩
    · rintro σ H2 ⟨C, ms, rfl, hne, hml, hC, s2⟩
      have hnl := len_pos hne
      obtain ⟨v, hv⟩ := nsMod hne pl
      walk_at "rd"
      refine ⟨fun σ H3 => H3 = H2 ∧ ∃ d, σ = [some (.ref a), some (.int pl), some (.ref C), some (.int (pl % ((ms.map V.int).length : Int))), some (.int d)], ?_, ?_⟩
      · walk_at "rd"
        refine rd_ixL (SqL.of hC) hv ?_
        walk_at "rd"
        refine rd_if (fun h => ?_) (fun h => ?_)
        · walk_at "rd"
          refine rd_if (fun h => ?_) (fun h => ?_)
          · walk_at "rd"
            refine rd_ixL (SqL.of hC) hv ?_
            walk_at "rd"
            exact ⟨rfl, _, rfl⟩
          · walk_at "rd"
            exact ⟨rfl, _, rfl⟩
        · walk_at "rd"
          exact ⟨rfl, _, rfl⟩
      · rintro σ H3 ⟨rfl, d, rfl⟩
        obtain ⟨k, hk, hk2⟩ : ∃ k : Nat, pl % ((ms.map V.int).length : Int) = (k : Int) ∧ k < ms.length := by
          have z0 := Int.emod_nonneg pl (show ((ms.map V.int).length : Int) ≠ 0 by omega)
          have z1 := Int.emod_lt_of_pos pl hnl
          rw [List.length_map] at z0 z1 ⊢
          exact ⟨(pl % (ms.length : Int)).toNat, by omega, by omega⟩
        rw [hk]
        walk_at "rd"
        refine rd_slL (SqL.of hC) fun p4 n4 => ?_
        walk_at "rd"
        have hC4 : (upd H3 p4 (.lst (cutV (ms.map V.int) (some (k : Int)) none))) C = some (.lst (ms.map V.int)) := by rw [upd_ne (ne_of_none hC n4)]; exact hC
        refine rd_slL (SqL.of hC4) fun p5 n5 => ?_
        rw [cut_lo, cut_hi]
        rw [cut_lo] at hC4 n5
        have s4 := s2.trans (same_new n4 (.lst ((ms.drop k).map V.int)))
        have hp4 : (upd H3 p4 (.lst ((ms.drop k).map V.int))) p4 = some (.lst ((ms.drop k).map V.int)) := upd_same
        generalize upd H3 p4 (.lst ((ms.drop k).map V.int)) = H4 at s4 hp4 hC4 n5 ⊢
        have s5 := s4.trans (same_new n5 (.lst ((ms.take k).map V.int)))
        have hp5 : (upd H4 p5 (.lst ((ms.take k).map V.int))) p5 = some (.lst ((ms.take k).map V.int)) := upd_same
        have hp45 : (upd H4 p5 (.lst ((ms.take k).map V.int))) p4 = some (.lst ((ms.drop k).map V.int)) := by rw [upd_ne (ne_of_none hp4 n5)]; exact hp4
        generalize upd H4 p5 (.lst ((ms.take k).map V.int)) = H5 at s5 hp5 hp45 ⊢
        refine ⟨p4, p5, _, _, rfl, rfl, hp45, hp5, (by rw [List.length_map, List.length_map, List.length_drop, List.length_take]; exact Nat.le_of_lt (small1000 (by omega))), fun p6 n6 => ?_⟩
        walk_at "rd"
        refine ⟨(by show 3 ≤ sizeLine; decide), fun p7 n7 => ?_⟩
        have s6 := s5.trans (same_new n6 (.lst ((ms.drop k).map V.int ++ (ms.take k).map V.int)))
        refine q p7 _ (s6.free n7) (s6.trans (same_new n7 _)) ⟨p6, d, 1 + 1009 * pl, ms.drop k ++ ms.take k, upd_same, ?_, by omega, by omega, ?_⟩
        · rw [upd_ne (ne_of_none upd_same n7), upd_same, List.map_append]
        · intro e
          have := congrArg List.length e
          rw [List.length_append, List.length_drop] at this
          simp at this
          omega
theorem ok__law_draw {f : Addr} {fd : FuncData} (F : Fun K "_law_draw" "_law_draw" s__law_draw f fd) (mF : mg "_law_draw" = some (.ref f)) (bF : Binds K fd ["_law_hand", "_law_many_here"] []) (T : Bl mg)  : Cal P w K mg base "_law_draw" ["_law_hand", "_law_many_here"] 1 (sp__law_draw K) := by
  refine Cal.of F mF bF sc__law_draw (fun vs H Q E h => ?_) (fun cdv A outer s H vs Q E hr h => ?_)
  · obtain ⟨p, N, n, rfl, _⟩ := h; rfl
  obtain ⟨p, N, n, rfl, hh, hN, hn, hn2, q⟩ := h
  obtain ⟨l, d, c, ns, hp, hl, hc0, hcN, hns⟩ := hh.ex
  have npl : l ≠ p := hand_ne hp hl
  have hnl := len_pos hns
  refine ⟨_, (pss_cons (ps_if (pt_cmpR op_gt (pe_ix ix_list (pv 0) pe_int (fun _ _ => rfl)) pe_int (nomark _)) (pss_cons (ps_set (i := 2) sc__law_draw.nd rfl (Or.inl rfl) (pe_op op_mod (pe_ix ix_list (pv 0) pe_int (fun _ _ => rfl)) (pv 1)))
      (pss_cons (ps_asg (pe_op op_fdivB (pe_ix ix_list (pv 0) pe_int (fun _ _ => rfl)) (pv 1)) (pg_sub (pv 0) pe_int set_list))
      (pss_one (ps_ret (pv 2))))) pss_nil)
      (pss_cons (ps_augS (pv 0) pe_int get_list pe_int ip_add set_list)
      (pss_cons (ps_set (i := 3) sc__law_draw.nd rfl (Or.inl rfl) (pe_ix ix_list (pv 0) pe_int (fun _ _ => rfl)))
      (pss_cons (ps_set (i := 4) sc__law_draw.nd rfl (Or.inl rfl) (pe_op op_mod (pe_op op_add (pe_op op_mod (pe_ix ix_list (pe_ix ix_list (pv 0) pe_int (fun _ _ => rfl)) (pe_op op_mod (pv 3) (pe_callB call_lenL rfl T.len bt_len (pa_cons (pe_ix ix_list (pv 0) pe_int (fun _ _ => rfl)) pa_nil stx_Subscript))) (fun _ _ => rfl)) pe_int) (pe_op op_mul pe_int (pv 3))) pe_int))
      (pss_cons (ps_set (i := 4) sc__law_draw.nd rfl (Or.inl rfl) (pe_op op_mod (pe_op op_add (pe_op op_add (pe_op op_pow (pv 4) pe_int) (pe_op op_mul (pe_op op_mul pe_int (pv 3)) (pv 3))) pe_int) pe_int))
      (pss_cons (ps_set (i := 4) sc__law_draw.nd rfl (Or.inl rfl) (pe_op op_mod (pe_op op_add (pe_op op_mul (pe_op op_pow (pv 4) pe_int) (pe_op op_add (pe_op op_mul pe_int (pv 3)) pe_int)) pe_int) pe_int))
      (pss_one (ps_ret (pe_op op_mod (pe_op op_fdivB (pe_op op_mod (pe_op op_mul (pv 4) pe_int) pe_int) pe_int) (pv 1)))))))))), ?_⟩
  rw [st__law_draw]
  walk_at "rd"
  refine rd_if (fun h => ?_) (fun h => ?_)
  · walk_at "rd"
    refine q _ _ (Int.emod_nonneg _ (by omega)) (Int.emod_lt_of_pos _ hn) ⟨l, d / n, c, ns, upd_same, ?_, hc0, by omega, hns⟩ (Kp.hand hp)
    rw [upd_ne npl]; exact hl
  · walk_at "rd"
    have hp1 : (upd H p (.lst [V.int d, .int (c + 1), .ref l])) p = some (.lst [.int d, .int (c + 1), .ref l]) := upd_same
    have hl1 : (upd H p (.lst [V.int d, .int (c + 1), .ref l])) l = some (.lst (ns.map V.int)) := by rw [upd_ne npl]; exact hl
    have k1 : Kp H (upd H p (.lst [V.int d, .int (c + 1), .ref l])) p := Kp.hand hp
    generalize upd H p (.lst [V.int d, .int (c + 1), .ref l]) = H1 at hp1 hl1 k1 ⊢
    walk_at "rd"
    obtain ⟨v, hv⟩ := nsMod hns (c + 1)
    refine rd_ixL (SqL.of hl1) hv ?_
    walk_at "rd"
    have hn0 : n ≠ 0 := by omega
    exact q _ _ (Int.emod_nonneg _ hn0) (Int.emod_lt_of_pos _ hn) ⟨l, d, c + 1, ns, hp1, hl1, by omega, by omega, hns⟩ k1
theorem ok__law_split {f : Addr} {fd : FuncData} (F : Fun K "_law_split" "_law_split" s__law_split f fd) (mF : mg "_law_split" = some (.ref f)) (bF : Binds K fd ["_law_rooms"] []) (T : Bl mg)  : Cal P w K mg base "_law_split" ["_law_rooms"] 1 (sp__law_split K) := by
  refine Cal.of F mF bF sc__law_split (fun vs H Q E h => ?_) (fun cdv A outer s H vs Q E hr h => ?_)
  · obtain ⟨R, rfl, _⟩ := h; rfl
  obtain ⟨R, rfl, h1, h2, q⟩ := h
  have hl := lg_60 h1 h2
  refine ⟨_, (pss_cons (ps_set (i := 1) sc__law_split.nd rfl (Or.inl rfl) pe_int)
      (pss_cons (ps_while PassesOwn.never (pt_cmpR op_le (pe_op op_mul pe_int (pv 1)) (pv 0) (nomark _)) (pss_one (ps_set (i := 1) sc__law_split.nd rfl (Or.inl rfl) (pe_op op_mul pe_int (pv 1)))))
      (pss_one (ps_ret (pe_tup (pa_cons (pe_op op_sub (pv 0) (pv 1)) (pa_cons (pv 0) pa_nil stx_Name) stx_BinOp)))))), ?_⟩
  rw [st__law_split]
  walk_at "rd"
  refine ⟨fun m σ H' => H' = H ∧ ∃ (j : Nat), σ = [some (.int R), some (.int (2 ^ j))] ∧ j ≤ lg R ∧ m = lg R - j, ⟨lg R, rfl, 0, rfl, by omega, by omega⟩, ?_⟩
  rintro m σ H' ⟨rfl, j, rfl, hj, rfl⟩
  walk_at "rd"
  have ep : 2 * (2 : Int) ^ j = 2 ^ (j + 1) := by rw [Int.pow_succ, Int.mul_comm]
  refine rd_if (fun c => ?_) (fun c => ?_)
  · refine ⟨_, fun σ' H'' h => h, ?_⟩
    walk_at "rd"
    have e : j + 1 ≤ lg R := by
      by_cases z : j = lg R
      · have b := lg_lt h1
        rw [← z, ← ep] at b
        omega
      · omega
    exact ⟨lg R - (j + 1), by omega, rfl, j + 1, by rw [ep], e, rfl⟩
  · have e : j = lg R := by
      by_cases z : j = lg R
      · exact z
      · have b := pow2_le (show j + 1 ≤ lg R by omega)
        have := lg_le h1
        rw [← ep] at b
        omega
    subst e
    walk_at "rd"
    exact ⟨(by show 2 ≤ sizeLine; decide), q⟩
theorem ok__law_drawn_book {f : Addr} {fd : FuncData} (F : Fun K "_law_drawn_book" "_law_drawn_book" s__law_drawn_book f fd) (mF : mg "_law_drawn_book" = some (.ref f)) (bF : Binds K fd ["_law_hand", "_law_many_here", "_law_splits_here"] []) (T : Bl mg) (C__law_split : Cal P w K mg base "_law_split" ["_law_rooms"] 1 (sp__law_split K)) (C__law_draw : Cal P w K mg base "_law_draw" ["_law_hand", "_law_many_here"] 1 (sp__law_draw K)) : Cal P w K mg base "_law_drawn_book" ["_law_hand", "_law_many_here", "_law_splits_here"] 2 (sp__law_drawn_book K) := by
  refine Cal.of F mF bF sc__law_drawn_book (fun vs H Q E h => ?_) (fun cdv A outer s H vs Q E hr h => ?_)
  · obtain ⟨p, N, c, n, rfl, _⟩ := h; rfl
  obtain ⟨p, N, c, n, rfl, hh, hN, c0, c1, n0, n1, q⟩ := h
  refine ⟨_, (pss_cons (ps_set (i := 3) sc__law_drawn_book.nd rfl (Or.inl rfl) (pe_lst (pa_cons (pv 1) pa_nil stx_Name)))
      (pss_cons (ps_set (i := 4) sc__law_drawn_book.nd rfl (Or.inl rfl) (pe_lst pa_nil))
      (pss_cons (ps_for PassesOwn.never rfl (pi_range2 rfl T.range (pa_cons pe_int (pa_cons (pe_op op_add pe_int (pv 2)) pa_nil stx_BinOp) stx_Constant)) (pg_name (i := 5) sc__law_drawn_book.nd rfl (Or.inl rfl)) (pss_cons (ps_asg (pcl C__law_split (hr.mono (by decide)) (pa_cons (pv 5) pa_nil stx_Name)) (pg_tup rfl (pgs_cons (pg_name (i := 6) sc__law_drawn_book.nd rfl (Or.inl rfl)) (pgs_cons (pg_name (i := 7) sc__law_drawn_book.nd rfl (Or.inl rfl)) pgs_nil))))
      (pss_cons (ps_set (i := 8) sc__law_drawn_book.nd rfl (Or.inl rfl) (pcl C__law_draw (hr.mono (by decide)) (pa_cons (pv 0) (pa_cons pe_int pa_nil stx_Constant) stx_Name)))
      (pss_cons (ps_set (i := 9) sc__law_drawn_book.nd rfl (Or.inl rfl) (pcl C__law_draw (hr.mono (by decide)) (pa_cons (pv 0) (pa_cons (pe_op op_add (pe_ix ix_list (pv 3) (pv 6) (fun _ _ => rfl)) pe_int) pa_nil stx_BinOp) stx_Name)))
      (pss_cons (ps_cut (ps_if (pt_cmpR op_eq (pv 8) pe_int (nomark _)) (pss_one (ps_set (i := 9) sc__law_drawn_book.nd rfl (Or.inl rfl) (pe_ix ix_list (pe_lst (pa_cons pe_int (pa_cons (pe_ix ix_list (pv 3) (pv 6) (fun _ _ => rfl)) pa_nil stx_Subscript) stx_Constant)) (pcl C__law_draw (hr.mono (by decide)) (pa_cons (pv 0) (pa_cons pe_int pa_nil stx_Constant) stx_Name)) (fun _ _ => rfl)))) pss_nil))
      (pss_cons (ps_expr (pe_bm PySem.F.plainAttrs_list PySem.F.slot_list_append PySem.F.type_list_append mt_append (pv 4) (pa_cons (pe_tup (pa_cons (pv 6) (pa_cons (pv 7) (pa_cons (pe_op op_sub (pe_ix ix_list (pv 3) (pv 6) (fun _ _ => rfl)) (pv 9)) (pa_cons (pv 9) pa_nil stx_Name) stx_BinOp) stx_Name) stx_Name)) pa_nil stx_Tuple)))
      (pss_cons (ps_asg (pe_op op_sub (pe_ix ix_list (pv 3) (pv 6) (fun _ _ => rfl)) (pv 9)) (pg_sub (pv 3) (pv 6) set_list))
      (pss_one (ps_expr (pe_bm PySem.F.plainAttrs_list PySem.F.slot_list_append PySem.F.type_list_append mt_append (pv 3) (pa_cons (pv 9) pa_nil stx_Name)))))))))))
      (pss_one (ps_ret (pv 4)))))), ?_⟩
  rw [st__law_drawn_book]
  walk_at "rd"
  refine ⟨(by show 1 ≤ sizeLine; decide), fun D nD => ?_⟩
  have ck := CK.start (ys := [V.int c]) hh nD
  generalize upd H D _ = H1 at ck ⊢
  walk_at "rd"
  refine ⟨by decide, fun E nE => ?_⟩
  have c2 := C2.start (ys := []) ck nE
  generalize upd H1 E _ = H2 at c2 ⊢
  walk_at "rd"
  refine ⟨1, 1 + n, rfl, ⟨by omega, by omega, by omega, by omega⟩, ?_⟩
  refine for_rangeO (n := (1 + n - 1).toNat) (fun i σ H' => (∃ x1 x2 x3 x4 x5, σ = [some (.ref p), some (.int c), some (.int n), some (.ref D), some (.ref E), x1, x2, x3, x4, x5]) ∧ ∃ (bs : List B4) (as : List Addr), (∀ b ∈ bs, smB b) ∧ bs.length = i ∧ (∀ x ∈ hadN c bs i, 0 ≤ x ∧ x ≤ 120) ∧ T4 H' as bs ∧ C2 H p D E (N + 3 * i) ((hadN c bs i).map V.int) (as.map V.ref) H') ⟨⟨_, _, _, _, _, rfl⟩, [], [], fun b hb => absurd hb List.not_mem_nil, rfl, ?_, trivial, ?_⟩ ?_ ?_
  · rw [hadN_zero]; intro x hx; simp at hx; omega
  · rw [hadN_zero]; exact c2
  · rintro i σ H3 hi ⟨⟨x1, x2, x3, x4, x5, rfl⟩, bs, as, hV, hbl, hall, hT, c2⟩
    subst hbl
    have hL := hadN_len (c := c) (bs := bs) (Nat.le_refl _)
    have hal := hT.len
    walk_at "rd"
    have lle := lg_le (R := 1 + (bs.length : Int)) (by omega)
    have lpp := pow2_pos (lg (1 + (bs.length : Int)))
    refine ⟨1 + bs.length, rfl, by omega, by omega, fun t nt => ?_⟩
    obtain ⟨j, hjr⟩ : ∃ j : Nat, 1 + (bs.length : Int) - 2 ^ lg (1 + (bs.length : Int)) = (j : Int) := ⟨(1 + (bs.length : Int) - 2 ^ lg (1 + (bs.length : Int))).toNat, by omega⟩
    rw [hjr]
    have hj : j < (hadN c bs bs.length).length := by omega
    generalize hE : upd H3 t _ = H4
    obtain ⟨c2, ht, ntp, ntD, ntE, s4⟩ := c2.new nt hE
    clear hE
    have hT := hT.same fun b o => s4 b _
    obtain ⟨v, hv⟩ : ∃ v, (hadN c bs bs.length)[j]? = some v := ⟨_, List.getElem?_eq_getElem hj⟩
    obtain ⟨v0, v1⟩ := hall v (List.mem_of_getElem? hv)
    have hix : atI ((hadN c bs bs.length).map V.int) (j : Int) = some (.int v) := atI_nat (by rw [List.getElem?_map, hv]; rfl)
    generalize hW : hadN c bs bs.length = W at c2 hL hall hj hv hix
    refine ⟨t, _, rfl, SqT.of ht, rfl, _, _, rfl, _, _, rfl, rfl, ?_⟩
    walk_at "rd"
    refine ⟨p, _, 4, rfl, c2.hh, by omega, by decide, by decide, fun way H5 y0 y1 hh5 k5 => ?_⟩
    have hT := hT.same (t4_kp c2.hh k5)
    have c2 := c2.draw k5 hh5
    walk_at "rd"
    refine rd_ixL (SqL.of c2.l1) hix ?_
    walk_at "rd"
    refine ⟨p, _, v + 1, rfl, c2.hh, by omega, by omega, by omega, fun g H6 g0 g1 hh6 k6 => ?_⟩
    have hT := hT.same (t4_kp c2.hh k6)
    have c2 := c2.draw k6 hh6
    walk_at "rd"
    refine ⟨fun σ H7 => ∃ g, 0 ≤ g ∧ g ≤ v ∧ σ = [some (.ref p), some (.int c), some (.int n), some (.ref D), some (.ref E), some (.int (1 + bs.length)), some (.int j), some (.int (1 + bs.length)), some (.int way), some (.int g)] ∧ T4 H7 as bs ∧ C2 H p D E (N + 3 * (bs.length + 1)) (W.map V.int) (as.map V.ref) H7, ?_, ?_⟩
    · walk_at "rd"
      refine rd_if (fun cc => ?_) (fun cc => ?_)
      · walk_at "rd"
        refine rd_ixL (SqL.of c2.l1) hix ?_
        walk_at "rd"
        refine ⟨(by show 2 ≤ sizeLine; decide), fun l nl => ?_⟩
        generalize hE : upd H6 l _ = H7
        obtain ⟨c2, hl, nlp, _, _, s7⟩ := c2.new nl hE
        clear hE
        have hT := hT.same fun b o => s7 b _
        walk_at "rd"
        refine ⟨p, _, 2, rfl, c2.hh, by omega, by decide, by decide, fun d H8 d0 d1 hh8 k8 => ?_⟩
        have hl8 := k8.1 _ _ hl nlp
        have hT := hT.same (t4_kp c2.hh k8)
        have c2 := c2.draw k8 hh8
        obtain ⟨e, he, e0, e1⟩ : ∃ e : Int, atI [V.int 0, .int v] d = some (.int e) ∧ 0 ≤ e ∧ e ≤ v := by
          have : d = 0 ∨ d = 1 := by omega
          rcases this with rfl | rfl
          · exact ⟨_, rfl, by omega, by omega⟩
          · exact ⟨_, rfl, by omega, by omega⟩
        refine rd_ixL (SqL.of hl8) he ?_
        walk_at "rd"
        exact ⟨e, e0, e1, rfl, hT, c2⟩
      · walk_at "rd"
        refine ⟨g, g0, by omega, rfl, hT, ?_⟩
        exact ⟨c2.hh.mono (by omega), c2.l1, c2.l2, c2.kp, c2.n1, c2.n2, c2.p1, c2.p2, c2.c1, c2.c2, c2.ne⟩
    · rintro σ H7 ⟨g, g0, g1, rfl, hT, c2⟩
      walk_at "rd"
      refine ⟨.inl ⟨rfl, _, SqL.of c2.l2⟩, ?_⟩
      walk_at "rd"
      refine rd_ixL (SqL.of c2.l1) hix ?_
      walk_at "rd"
      refine ⟨(by show 4 ≤ sizeLine; decide), fun u nu => ?_⟩
      generalize hE : upd H7 u _ = H8
      obtain ⟨c2, hu, nup, nuD, nuE, s8⟩ := c2.new nu hE
      clear hE
      have hT := hT.same fun b o => s8 b _
      refine ⟨E, _, _, rfl, rfl, c2.l2, by rw [List.length_map]; exact small1000 (by omega), ?_⟩
      have hT8 : T4 H8 (as ++ [u]) (bs ++ [⟨j, 1 + bs.length, v - g, g⟩]) := hT.snoc (b := ⟨j, 1 + bs.length, v - g, g⟩) hu
      have hT := hT8.same (t4_upd (o' := .lst (as.map V.ref ++ [V.ref u])) c2.l2)
      have c2 := c2.put2 (zs := as.map V.ref ++ [V.ref u])
      generalize upd H8 E _ = H9 at hT c2 ⊢
      walk_at "rd"
      refine rd_ixL (SqL.of c2.l1) hix ?_
      walk_at "rd"
      refine rd_setL c2.l1 (j := j) ?_ ?_
      · unfold ixN
        rw [if_pos (by omega), if_pos (by rw [List.length_map]; omega)]; simp
      have hT := hT.same (t4_upd (o' := .lst ((W.map V.int).set j (.int (v - g)))) c2.l1)
      have c2 := c2.put1 (zs := (W.map V.int).set j (.int (v - g)))
      generalize upd H9 D _ = HA at hT c2 ⊢
      walk_at "rd"
      refine ⟨.inl ⟨rfl, _, SqL.of c2.l1⟩, ?_⟩
      walk_at "rd"
      refine ⟨D, _, _, rfl, rfl, c2.l1, by rw [List.length_set, List.length_map, hL]; exact small1000 (by omega), ?_⟩
      have hT := hT.same (t4_upd (o' := .lst ((W.map V.int).set j (.int (v - g)) ++ [V.int g])) c2.l1)
      have c2 := c2.put1 (zs := (W.map V.int).set j (.int (v - g)) ++ [V.int g])
      generalize upd HA D _ = HB at hT c2 ⊢
      walk_at "rd"
      have hnew : hadN c (bs ++ [⟨j, 1 + bs.length, v - g, g⟩]) (bs.length + 1) = W.set j (v - g) ++ [g] := by
        rw [hadN_app_len, hW]
        unfold hstep
        rw [show (B4.mk j (1 + bs.length) (v - g) g).r.toNat = j from Int.toNat_natCast j]
      refine ⟨⟨_, _, _, _, _, rfl⟩, bs ++ [⟨j, 1 + bs.length, v - g, g⟩], as ++ [u], ?_, by rw [List.length_append]; rfl, ?_, hT, ?_⟩
      · intro b hb
        rcases List.mem_append.mp hb with h | h
        · exact hV b h
        · rw [List.mem_singleton.mp h]
          exact ⟨⟨by show (0 : Int) ≤ j; omega, by show (j : Int) ≤ 140; omega⟩, ⟨by show (0 : Int) ≤ 1 + bs.length; omega, by show 1 + (bs.length : Int) ≤ 140; omega⟩, ⟨by show 0 ≤ v - g; omega, by show v - g ≤ 120; omega⟩, ⟨g0, by show g ≤ 120; omega⟩⟩
      · rw [hnew]
        intro x hx
        rcases List.mem_append.mp hx with h | h
        · rcases List.mem_or_eq_of_mem_set h with h | h
          · exact hall x h
          · rw [h]; omega
        · simp at h; omega
      · rw [hnew, List.map_append, List.map_append, List.map_set]
        exact c2
  · rintro σ H3 ⟨⟨x1, x2, x3, x4, x5, rfl⟩, bs, as, hV, hbl, hall, hT, c2⟩
    walk_at "rd"
    exact q E bs H3 c2.n2 ⟨as, c2.l2, hT⟩ hV (by omega) (c2.hh.mono (by omega)) c2.kp
theorem ok__law_many {f : Addr} {fd : FuncData} (F : Fun K "_law_many" "_law_many" s__law_many f fd) (mF : mg "_law_many" = some (.ref f)) (bF : Binds K fd ["_law_hand"] []) (T : Bl mg) (C__law_draw : Cal P w K mg base "_law_draw" ["_law_hand", "_law_many_here"] 1 (sp__law_draw K)) : Cal P w K mg base "_law_many" ["_law_hand"] 2 (sp__law_many K) := by
  refine Cal.of F mF bF sc__law_many (fun vs H Q E h => ?_) (fun cdv A outer s H vs Q E hr h => ?_)
  · obtain ⟨p, N, rfl, _⟩ := h; rfl
  obtain ⟨p, N, rfl, hh, hN, q⟩ := h
  refine ⟨_, (pss_one (ps_ret (pe_ix ix_list (pe_lst (pa_cons (pcl C__law_draw (hr.mono (by decide)) (pa_cons (pv 0) (pa_cons pe_int pa_nil stx_Constant) stx_Name)) (pa_cons (pcl C__law_draw (hr.mono (by decide)) (pa_cons (pv 0) (pa_cons pe_int pa_nil stx_Constant) stx_Name)) (pa_cons pe_int (pa_cons pe_int pa_nil stx_Constant) stx_Constant) stx_Call) stx_Call)) (pe_ix ix_list (pe_lst (pa_cons pe_int (pa_cons pe_int (pa_cons pe_int (pa_cons pe_int (pa_cons pe_int (pa_cons pe_int (pa_cons pe_int (pa_cons pe_int pa_nil stx_Constant) stx_Constant) stx_Constant) stx_Constant) stx_Constant) stx_Constant) stx_Constant) stx_Constant)) (pcl C__law_draw (hr.mono (by decide)) (pa_cons (pv 0) (pa_cons pe_int pa_nil stx_Constant) stx_Name)) (fun _ _ => rfl)) (fun _ _ => rfl)))), ?_⟩
  rw [st__law_many]
  walk_at "rd"
  refine ⟨p, _, 12, rfl, hh, by omega, by decide, by decide, fun a H1 a0 a1 hh1 k1 => ?_⟩
  walk_at "rd"
  refine ⟨p, _, 121, rfl, hh1, by omega, by decide, by decide, fun b H2 b0 b1 hh2 k2 => ?_⟩
  walk_at "rd"
  refine ⟨(by show 4 ≤ sizeLine; decide), fun l nl => ?_⟩
  generalize hE : upd H2 l _ = H3
  obtain ⟨hh3, k3, hl, s3⟩ := newl hh2 nl (k1.trans k2) hE
  clear hE
  have nlp := hh2.ne nl
  walk_at "rd"
  refine ⟨(by show 8 ≤ sizeLine; decide), fun m nm => ?_⟩
  generalize hE : upd H3 m _ = H4
  obtain ⟨hh4, k4, hm, s4⟩ := newl hh3 nm k3 hE
  clear hE
  have nmp := hh3.ne nm
  walk_at "rd"
  refine ⟨p, _, 8, rfl, hh4, by omega, by decide, by decide, fun d H5 d0 d1 hh5 k5 => ?_⟩
  have hl5 := k5.1 _ _ (s4 _ _ hl) nlp
  have hm5 := k5.1 _ _ hm nmp
  obtain ⟨e, he, e0, e1⟩ : ∃ e : Int, atI [V.int 0, .int 0, .int 1, .int 1, .int 1, .int 2, .int 0, .int 3] d = some (.int e) ∧ 0 ≤ e ∧ e ≤ 3 := by
    have : d = 0 ∨ d = 1 ∨ d = 2 ∨ d = 3 ∨ d = 4 ∨ d = 5 ∨ d = 6 ∨ d = 7 := by omega
    rcases this with rfl | rfl | rfl | rfl | rfl | rfl | rfl | rfl <;> exact ⟨_, rfl, by decide, by decide⟩
  refine rd_ixL (SqL.of hm5) he ?_
  walk_at "rd"
  obtain ⟨v, hv, v0, v1⟩ : ∃ v : Int, atI [V.int a, .int b, .int 120, .int 0] e = some (.int v) ∧ 0 ≤ v ∧ v ≤ 120 := by
    have : e = 0 ∨ e = 1 ∨ e = 2 ∨ e = 3 := by omega
    rcases this with rfl | rfl | rfl | rfl
    · exact ⟨_, rfl, by omega, by omega⟩
    · exact ⟨_, rfl, by omega, by omega⟩
    · exact ⟨_, rfl, by omega, by omega⟩
    · exact ⟨_, rfl, by omega, by omega⟩
  refine rd_ixL (SqL.of hl5) hv ?_
  exact q v _ v0 v1 (hh5.mono (by omega)) (k4.trans k5)
theorem ok__law_splits {f : Addr} {fd : FuncData} (F : Fun K "_law_splits" "_law_splits" s__law_splits f fd) (mF : mg "_law_splits" = some (.ref f)) (bF : Binds K fd ["_law_hand"] []) (T : Bl mg) (C__law_draw : Cal P w K mg base "_law_draw" ["_law_hand", "_law_many_here"] 1 (sp__law_draw K)) : Cal P w K mg base "_law_splits" ["_law_hand"] 2 (sp__law_splits K) := by
  refine Cal.of F mF bF sc__law_splits (fun vs H Q E h => ?_) (fun cdv A outer s H vs Q E hr h => ?_)
  · obtain ⟨p, N, rfl, _⟩ := h; rfl
  obtain ⟨p, N, rfl, hh, hN, q⟩ := h
  refine ⟨_, (pss_one (ps_ret (pe_ix ix_list (pe_lst (pa_cons (pcl C__law_draw (hr.mono (by decide)) (pa_cons (pv 0) (pa_cons pe_int pa_nil stx_Constant) stx_Name)) (pa_cons (pcl C__law_draw (hr.mono (by decide)) (pa_cons (pv 0) (pa_cons pe_int pa_nil stx_Constant) stx_Name)) (pa_cons pe_int (pa_cons pe_int pa_nil stx_Constant) stx_Constant) stx_Call) stx_Call)) (pe_ix ix_list (pe_lst (pa_cons pe_int (pa_cons pe_int (pa_cons pe_int (pa_cons pe_int (pa_cons pe_int (pa_cons pe_int (pa_cons pe_int (pa_cons pe_int pa_nil stx_Constant) stx_Constant) stx_Constant) stx_Constant) stx_Constant) stx_Constant) stx_Constant) stx_Constant)) (pcl C__law_draw (hr.mono (by decide)) (pa_cons (pv 0) (pa_cons pe_int pa_nil stx_Constant) stx_Name)) (fun _ _ => rfl)) (fun _ _ => rfl)))), ?_⟩
  rw [st__law_splits]
  walk_at "rd"
  refine ⟨p, _, 9, rfl, hh, by omega, by decide, by decide, fun a H1 a0 a1 hh1 k1 => ?_⟩
  walk_at "rd"
  refine ⟨p, _, 130, rfl, hh1, by omega, by decide, by decide, fun b H2 b0 b1 hh2 k2 => ?_⟩
  walk_at "rd"
  refine ⟨(by show 4 ≤ sizeLine; decide), fun l nl => ?_⟩
  generalize hE : upd H2 l _ = H3
  obtain ⟨hh3, k3, hl, s3⟩ := newl hh2 nl (k1.trans k2) hE
  clear hE
  have nlp := hh2.ne nl
  walk_at "rd"
  refine ⟨(by show 8 ≤ sizeLine; decide), fun m nm => ?_⟩
  generalize hE : upd H3 m _ = H4
  obtain ⟨hh4, k4, hm, s4⟩ := newl hh3 nm k3 hE
  clear hE
  have nmp := hh3.ne nm
  walk_at "rd"
  refine ⟨p, _, 8, rfl, hh4, by omega, by decide, by decide, fun d H5 d0 d1 hh5 k5 => ?_⟩
  have hl5 := k5.1 _ _ (s4 _ _ hl) nlp
  have hm5 := k5.1 _ _ hm nmp
  obtain ⟨e, he, e0, e1⟩ : ∃ e : Int, atI [V.int 0, .int 0, .int 1, .int 1, .int 1, .int 1, .int 2, .int 3] d = some (.int e) ∧ 0 ≤ e ∧ e ≤ 3 := by
    have : d = 0 ∨ d = 1 ∨ d = 2 ∨ d = 3 ∨ d = 4 ∨ d = 5 ∨ d = 6 ∨ d = 7 := by omega
    rcases this with rfl | rfl | rfl | rfl | rfl | rfl | rfl | rfl <;> exact ⟨_, rfl, by decide, by decide⟩
  refine rd_ixL (SqL.of hm5) he ?_
  walk_at "rd"
  obtain ⟨v, hv, v0, v1⟩ : ∃ v : Int, atI [V.int a, .int b, .int 129, .int 0] e = some (.int v) ∧ 0 ≤ v ∧ v ≤ 129 := by
    have : e = 0 ∨ e = 1 ∨ e = 2 ∨ e = 3 := by omega
    rcases this with rfl | rfl | rfl | rfl
    · exact ⟨_, rfl, by omega, by omega⟩
    · exact ⟨_, rfl, by omega, by omega⟩
    · exact ⟨_, rfl, by omega, by omega⟩
    · exact ⟨_, rfl, by omega, by omega⟩
  refine rd_ixL (SqL.of hl5) hv ?_
  exact q v _ v0 v1 (hh5.mono (by omega)) (k4.trans k5)
theorem ok__law_is_book {f : Addr} {fd : FuncData} (F : Fun K "_law_is_book" "_law_is_book" s__law_is_book f fd) (mF : mg "_law_is_book" = some (.ref f)) (bF : Binds K fd ["_law_many_here", "_law_thing"] []) (T : Bl mg) (C__law_split : Cal P w K mg base "_law_split" ["_law_rooms"] 1 (sp__law_split K)) : Cal P w K mg base "_law_is_book" ["_law_many_here", "_law_thing"] 2 (sp__law_is_book K) := by
  refine Cal.of F mF bF sc__law_is_book (fun vs H Q E h => ?_) (fun cdv A outer s H vs Q E hr h => ?_)
  · obtain ⟨c, x, d, rfl, _⟩ := h; rfl
  obtain ⟨c, x, d, rfl, hx, ok, q⟩ := h
  have hu := hr.units
  obtain ⟨ty0, ty, _, _, k3, _⟩ := hx.ty (K := K)
  refine ⟨_, (pss_cons (ps_if (PW.pt (pw_or (pt_not (pt_val (pe_callB call_isinst rfl T.isinstance bt_isinstance (pa_cons (pv 1) (pa_cons (pe_bltn (v := .ty "list") rfl T.list bt_list rfl) pa_nil stx_Name) stx_Name)))) (pw_or1 (pt_cmpR op_gt (pe_callB call_lenL rfl T.len bt_len (pa_cons (pv 1) pa_nil stx_Name)) pe_int (nomark _))))) (pss_one (ps_ret pe_bl)) pss_nil)
      (pss_cons (ps_set (i := 2) sc__law_is_book.nd rfl (Or.inl rfl) (pe_lst (pa_cons (pv 0) pa_nil stx_Name)))
      (pss_cons (ps_for PassesOwn.never rfl (pi_list (pv 1)) (pg_name (i := 3) sc__law_is_book.nd rfl (Or.inl rfl)) (pss_cons (ps_if (PW.pt (pw_or (pt_not (pt_val (pe_callB call_isinst rfl T.isinstance bt_isinstance (pa_cons (pv 3) (pa_cons (pe_bltn (v := .ty "tuple") rfl T.tuple bt_tuple rfl) pa_nil stx_Name) stx_Name)))) (pw_or1 (pt_cmpR op_ne (pe_callB call_lenL rfl T.len bt_len (pa_cons (pv 3) pa_nil stx_Name)) pe_int (nomark _))))) (pss_one (ps_ret pe_bl)) pss_nil)
      (pss_cons (ps_if (pt_cmpR (op_neD hu) (pe_comp rfl (blkOk (sc := defScope s__law_is_book) (N := ["_law_many_here", "_law_thing", "_law_sizes", "_law_split_here"]) (vs := ["_law_one"]) (fs := []) (js := []) (by decide +kernel) rfl rfl) (pi_tup (pv 3)) (fun _ _ _ _ => pg_name (i := 0) (show (["_law_one"] : List Str).Nodup by decide +kernel) rfl (Or.inl rfl)) (fun _ _ _ _ => pif1 (PW.pt (pw_or (pt_val (pe_callB (call_isinstK (K := K) rfl) rfl T.isinstance bt_isinstance (pa_cons (pv 0) (pa_cons (pe_bltn (v := .ty "bool") rfl T.bool bt_bool rfl) pa_nil stx_Name) stx_Name))) (pw_or1 (pt_not (pt_val (pe_callB (call_isinstK (K := K) rfl) rfl T.isinstance bt_isinstance (pa_cons (pv 0) (pa_cons (pe_bltn (v := .ty "int") rfl T.int bt_int rfl) pa_nil stx_Name) stx_Name)))))))) (fun _ _ _ _ => (pv 0))) (pe_lst pa_nil) (nomark _)) (pss_one (ps_ret pe_bl)) pss_nil)
      (pss_cons (ps_if (PW.pt (pw_or (pt_cmpR (op_neD hu) (pe_slice sl_tup (pv 3) po_none (po_some pe_int)) (pcl C__law_split (hr.mono (by decide)) (pa_cons (pe_callB call_lenL rfl T.len bt_len (pa_cons (pv 2) pa_nil stx_Name)) pa_nil stx_Call)) (nomark _)) (pw_or (pt_cmpR op_lt (pe_ix ix_tup (pv 3) pe_int (fun _ _ => rfl)) pe_int (nomark _)) (pw_or1 (pt_cmpR op_lt (pe_ix ix_tup (pv 3) pe_int (fun _ _ => rfl)) pe_int (nomark _)))))) (pss_one (ps_ret pe_bl)) pss_nil)
      (pss_cons (ps_if (pt_cmpR op_ne (pe_op op_add (pe_ix ix_tup (pv 3) pe_int (fun _ _ => rfl)) (pe_ix ix_tup (pv 3) pe_int (fun _ _ => rfl))) (pe_ix ix_list (pv 2) (pe_ix ix_tup (pv 3) pe_int (fun _ _ => rfl)) (fun _ _ => rfl)) (nomark _)) (pss_one (ps_ret pe_bl)) pss_nil)
      (pss_cons (ps_asg (pe_ix ix_tup (pv 3) pe_int (fun _ _ => rfl)) (pg_sub (pv 2) (pe_ix ix_tup (pv 3) pe_int (fun _ _ => rfl)) set_list))
      (pss_one (ps_expr (pe_bm PySem.F.plainAttrs_list PySem.F.slot_list_append PySem.F.type_list_append mt_append (pv 2) (pa_cons (pe_ix ix_tup (pv 3) pe_int (fun _ _ => rfl)) pa_nil stx_Subscript))))))))))
      (pss_one (ps_ret pe_bl))))), ?_⟩
  rw [st__law_is_book]
  walk_at "rd"
  refine rd_isi ty k3 ?_
  cases e : lstB d with
  | false =>
    rw [book_not e] at q
    walk_at "rd"
    exact q H (Same.refl H)
  | true =>
    obtain ⟨ds, rfl⟩ := lstB_ex e
    obtain ⟨l, xs, rfl, hL, hd⟩ := hx.lst_of
    obtain ⟨_, ok2, _⟩ := ok
    have xl := hd.len
    walk_at "rd"
    refine rd_if (fun z => ?_) (fun z => ?_)
    · rw [book_long (by omega)] at q
      walk_at "rd"
      exact q H (Same.refl H)
    · rw [book_lst (by omega)] at q
      walk_at "rd"
      refine ⟨(by show 1 ≤ sizeLine; decide), fun t nt => ?_⟩
      generalize hE : upd H t _ = H1
      obtain ⟨ht, s1⟩ := newo nt hE
      clear hE
      walk_at "rd"
      refine ⟨l, rfl, ⟨_, SqL.of (s1 _ _ hL)⟩, ?_⟩
      refine for_listO (xs := xs) (fun i σ H' => (∃ x, σ = [some (.int c), some (.ref l), some (.ref t), x]) ∧ Same H H' ∧ ∃ had : List Int, H' t = some (.lst (had.map V.int)) ∧ had.length = i + 1 ∧ isBookF [c] ds = isBookF had (ds.drop i)) ⟨⟨_, rfl⟩, s1, [c], ht, rfl, rfl⟩ (fun _ _ _ _ h => SqL.of (h.2.1 _ _ hL)) ?_ ?_
      · rintro i x σ H2 hx ⟨⟨x1, rfl⟩, s2, had, ht2, hl2, eB⟩
        obtain ⟨d, hdi, hdw⟩ := hd.get hx
        have il := (List.getElem?_eq_some_iff.mp hdi).1
        have hdw := hdw.mono s2
        have okd := ok2 d (List.mem_of_getElem? hdi)
        rw [isB_step hdi] at eB
        obtain ⟨ty1, tyD, _, _, _, j4⟩ := hdw.ty (K := K)
        walk_at "rd"
        refine rd_isi tyD j4 ?_
        cases e1 : tupB d with
        | false =>
          rw [eB, not_tup e1] at q
          walk_at "rd"
          exact q _ s2
        | true =>
          obtain ⟨es, rfl⟩ := tupB_ex e1
          obtain ⟨a, ys, rfl, ha, hy⟩ := hdw.tup_of
          have yl := hy.len
          obtain ⟨_, okes⟩ := okd
          walk_at "rd"
          refine rd_lenT (SqT.of ha) ?_
          walk_at "rd"
          refine rd_ifn (fun c1 => ?_) (fun c1 => ?_)
          · rw [eB, not_four (by omega)] at q
            walk_at "rd"
            exact q _ s2
          · have l4 : es.length = 4 := by omega
            walk_at "rd"
            refine ⟨a, rfl, ⟨_, SqT.of ha⟩, fun D nD => ?_⟩
            refine comp_tup (xs := ys) (fun k σ' zs H' => (∃ x, σ' = [x]) ∧ Same H2 H' ∧ DWs H2 zs ((es.take k).filter oddB) ∧ zs.length ≤ k ∧ H' D = some (.lst zs)) D ⟨⟨_, rfl⟩, same_new nD _, .nil, Nat.le_refl _, upd_same⟩ (fun i σ' ys H' _ h => SqT.of (h.2.1 _ _ ha)) ?_ ?_
            · rintro k y σ' zs H3 hk ⟨⟨x2, rfl⟩, s3, hz, zl, hD⟩
              obtain ⟨e, hek, hyw⟩ := hy.get hk
              have kl := (List.getElem?_eq_some_iff.mp hek).1
              obtain ⟨ty2, tyE, m1, m2, _, _⟩ := (hyw.mono s3).ty (K := K)
              have fin : oddB e = true → H3 D = some (.lst zs) ∧ zs.length < sizeLine ∧ (∃ z, [some y] = [z]) ∧ Same H2 (upd H3 D (.lst (zs ++ [y]))) ∧ DWs H2 (zs ++ [y]) ((es.take (k + 1)).filter oddB) ∧ (zs ++ [y]).length ≤ k + 1 ∧ upd H3 D (.lst (zs ++ [y])) D = some (.lst (zs ++ [y])) := fun o => by
                refine ⟨hD, small1000 (by omega), ⟨_, rfl⟩, fun b o e => by rw [upd_ne (ne_of_none e nD)]; exact s3 _ _ e, ?_, by rw [List.length_append]; exact Nat.add_le_add_right zl 1, upd_same⟩
                rw [take_get hek, List.filter_append, List.filter_cons, if_pos o]
                exact hz.append (.cons hyw .nil)
              have skip : oddB e = false → (∃ z, [some y] = [z]) ∧ Same H2 H3 ∧ DWs H2 zs ((es.take (k + 1)).filter oddB) ∧ zs.length ≤ k + 1 ∧ H3 D = some (.lst zs) := fun o => by
                refine ⟨⟨_, rfl⟩, s3, ?_, by omega, hD⟩
                rw [take_get hek, List.filter_append, List.filter_cons, if_neg (by rw [o]; exact nofun), List.filter_nil, List.append_nil]
                exact hz
              walk_at "rd"
              cases eb : bolB e with
              | true =>
                have o : oddB e = true := by
                  cases e with
                  | bool b => rfl
                  | _ => cases eb
                refine rd_isi (b := true) tyE (m2.trans (by rw [eb])) ?_
                walk_at "rd"
                exact fin o
              | false =>
                refine rd_isi (b := false) tyE (m2.trans (by rw [eb])) ?_
                walk_at "rd"
                cases ei : intB e with
                | true =>
                  refine rd_isi (b := true) tyE (m1.trans (by rw [ei, eb]; rfl)) ?_
                  walk_at "rd"
                  exact skip (by unfold oddB; rw [ei]; rfl)
                | false =>
                  refine rd_isi (b := false) tyE (m1.trans (by rw [ei, eb]; rfl)) ?_
                  walk_at "rd"
                  exact fin (by unfold oddB; rw [ei]; rfl)
            · rintro σ' zs H3 ⟨⟨x2, rfl⟩, s3, hz, zl, hD⟩
              rw [yl, List.take_length] at hz
              have fo : ∀ d ∈ es.filter oddB, okE d := fun d hd => okes d (List.mem_filter.mp hd).1
              walk_at "rd"
              refine ⟨by decide, fun n0 nn => ?_⟩
              generalize hE : upd H3 n0 _ = H4
              obtain ⟨hn0, s4⟩ := newo nn hE
              clear hE
              walk_at "rd"
              refine ⟨_, _, (DW.lst (s4 _ _ hD) (hz.mono (s3.trans s4))).dv (by rw [PyData.hasDict]; exact (okE_all fo).1), dv_nil hn0, okE_shaped fo, rfl, ?_⟩
              rw [eqv_nil, odd_all]
              have s24 := s3.trans s4
              have s04 := s2.trans s24
              cases e2 : es.all intB with
              | false =>
                rw [eB, not_ints e2] at q
                walk_at "rd"
                exact q _ s04
              | true =>
                obtain ⟨r, n, st, g, rfl, rfl⟩ := four_ints hy l4 e2
                obtain ⟨j, hj, jl⟩ := lg_room (n := had.length) (by omega)
                have ha4 := s24 _ _ ha
                have ht4 := s24 _ _ ht2
                walk_at "rd"
                refine ⟨a, _, rfl, SqT.of ha4, (fun z => absurd z.2 (show HT.sIx 4 4 (some 2) ≠ 4 by decide)), fun u nu => ?_⟩
                generalize hE : upd H4 u _ = H5
                obtain ⟨hu5, s5⟩ := newo nu hE
                clear hE
                have hu5 : H5 u = some (.tup [.int r, .int n]) := hu5
                have ht5 := s5 _ _ ht4
                walk_at "rd"
                rw [List.length_map]
                refine ⟨_, rfl, by omega, by omega, fun v nv => ?_⟩
                generalize hE : upd H5 v _ = H6
                obtain ⟨hv6, s6⟩ := newo nv hE
                clear hE
                have s46 := s5.trans s6
                have s06 := s04.trans s46
                have ha6 := s46 _ _ ha4
                have ht6 := s46 _ _ ht4
                walk_at "rd"
                refine ⟨_, _, dv_II (s6 _ _ hu5), dv_II hv6, rfl, rfl, ?_⟩
                rw [eq_II2]
                rw [isSplit_four] at eB
                by_cases c1 : r = (had.length : Int) - 2 ^ lg (had.length : Int) ∧ n = had.length
                · rw [decide_eq_true c1] at eB ⊢
                  walk_at "rd"
                  by_cases c2 : st < 0
                  · rw [decide_eq_false (show ¬ st ≥ 0 by omega)] at eB
                    rw [eB] at q
                    refine rd_if (fun _ => ?_) (fun z => absurd c2 z)
                    walk_at "rd"
                    exact q _ s06
                  · rw [decide_eq_true (show st ≥ 0 by omega)] at eB
                    refine rd_if (fun z => absurd z c2) (fun _ => ?_)
                    walk_at "rd"
                    by_cases c3 : g < 0
                    · rw [decide_eq_false (show ¬ g ≥ 0 by omega)] at eB
                      rw [eB] at q
                      refine rd_if (fun _ => ?_) (fun z => absurd c3 z)
                      walk_at "rd"
                      exact q _ s06
                    · rw [decide_eq_true (show g ≥ 0 by omega)] at eB
                      refine rd_if (fun z => absurd z c3) (fun _ => ?_)
                      walk_at "rd"
                      have er : r = (j : Int) := by rw [c1.1, hj]
                      have hv := List.getElem?_eq_getElem jl
                      rw [er]
                      refine rd_ixL (SqL.of ht6) (at_int hv) ?_
                      walk_at "rd"
                      rw [er, Int.toNat_natCast, hv] at eB
                      by_cases c4 : st + g = had[j]
                      · refine rd_ifn (fun z => absurd c4 z) (fun _ => ?_)
                        rw [decide_eq_true (show some had[j] = some (st + g) by rw [c4])] at eB
                        rw [er] at ha6
                        walk_at "rd"
                        refine rd_setL ht6 (j := j) ?_ ?_
                        · unfold ixN
                          rw [if_pos (by omega), if_pos (by rw [List.length_map]; omega)]; simp
                        have h1 : (upd H6 t (.lst ((had.map V.int).set j (.int st)))) t = some (.lst ((had.map V.int).set j (.int st))) := upd_same
                        have h2 : ∀ x o, x ≠ t → H6 x = some o → (upd H6 t (.lst ((had.map V.int).set j (.int st)))) x = some o := fun x o n e => by rw [upd_ne n]; exact e
                        have nat : a ≠ t := ne_of ha6 ht6 (by intro z; cases z)
                        have ha7 := h2 _ _ nat ha6
                        generalize upd H6 t _ = H7 at h1 h2 ha7 ⊢
                        walk_at "rd"
                        refine ⟨.inl ⟨rfl, _, SqL.of h1⟩, ?_⟩
                        walk_at "rd"
                        refine ⟨t, _, _, rfl, rfl, h1, by rw [List.length_set, List.length_map]; exact small1000 (by omega), ?_⟩
                        walk_at "rd"
                        refine ⟨⟨_, rfl⟩, fun x o e => ?_, had.set j st ++ [g], ?_, by rw [List.length_append, List.length_set]; exact congrArg (· + 1) hl2, ?_⟩
                        · have nx := ne_of_none e nt
                          rw [upd_ne nx]; exact h2 x o nx (s06 _ _ e)
                        · rw [upd_same, List.map_append, List.map_set]; rfl
                        · rw [eB]
                          show isBookF (had.set (Int.toNat (j : Int)) st ++ [g]) _ = _
                          rw [Int.toNat_natCast]
                      · refine rd_ifn (fun _ => ?_) (fun z => absurd z c4)
                        rw [decide_eq_false (show ¬ some had[j] = some (st + g) from fun z => c4 (Option.some.inj z).symm)] at eB
                        rw [eB] at q
                        walk_at "rd"
                        exact q _ s06
                · rw [decide_eq_false c1] at eB ⊢
                  rw [eB] at q
                  walk_at "rd"
                  exact q _ s06
      · rintro σ H2 ⟨⟨x1, rfl⟩, s2, had, ht2, hl2, eB⟩
        rw [eB, xl, List.drop_length] at q
        walk_at "rd"
        exact q _ s2
theorem ok__law_odd_split {f : Addr} {fd : FuncData} (F : Fun K "_law_odd_split" "_law_odd_split" s__law_odd_split f fd) (mF : mg "_law_odd_split" = some (.ref f)) (bF : Binds K fd ["_law_hand", "_law_split_here"] []) (T : Bl mg) (C__law_draw : Cal P w K mg base "_law_draw" ["_law_hand", "_law_many_here"] 1 (sp__law_draw K)) : Cal P w K mg base "_law_odd_split" ["_law_hand", "_law_split_here"] 2 (sp__law_odd_split K) := by
  refine Cal.of F mF bF sc__law_odd_split (fun vs H Q E h => ?_) (fun cdv A outer s H vs Q E hr h => ?_)
  · obtain ⟨p, a, N, b, M, rfl, _⟩ := h; rfl
  obtain ⟨p, a, N, b, M, rfl, hh, hN, mp, hM, ha, hb, q⟩ := h
  obtain ⟨ma, ha⟩ := hide_of ha
  have ha : H a = some (.tup (vB b)) := ha
  obtain ⟨b1, b2, b3, b4⟩ := id hb
  have c := Od.start hh mp hM
  refine ⟨_, (pss_cons (ps_set (i := 2) sc__law_odd_split.nd rfl (Or.inl rfl) (pcl C__law_draw (hr.mono (by decide)) (pa_cons (pv 0) (pa_cons pe_int pa_nil stx_Constant) stx_Name)))
      (pss_cons (ps_set (i := 3) sc__law_odd_split.nd rfl (Or.inl rfl) (pe_ix ix_tup (pv 1) (pv 2) (fun _ _ => rfl)))
      (pss_cons (ps_set (i := 4) sc__law_odd_split.nd rfl (Or.inl rfl) (pe_lst (pa_cons (pe_op op_add (pv 3) pe_int) (pa_cons (pe_op op_sub (pv 3) pe_int) (pa_cons (pe_op op_sub pe_int (pv 3)) (pa_cons (pcl C__law_draw (hr.mono (by decide)) (pa_cons (pv 0) (pa_cons pe_int pa_nil stx_Constant) stx_Name)) (pa_cons pe_bl (pa_cons pe_bl (pa_cons pe_non (pa_cons (pe_callTy call_str_int rfl T.str bt_str (pa_cons (pv 3) pa_nil stx_Name)) (pa_cons (pe_powC (c := 1000000000000) (by decide +kernel) ⟨by decide, by decide, by decide⟩) pa_nil stx_BinOp) stx_Call) stx_Constant) stx_Constant) stx_Constant) stx_Call) stx_BinOp) stx_BinOp) stx_BinOp)))
      (pss_cons (ps_set (i := 5) sc__law_odd_split.nd rfl (Or.inl rfl) (pe_ix ix_list (pe_op op_cat (pv 4) (pe_lst (pa_cons (pe_lst (pa_cons (pv 3) pa_nil stx_Name)) (pa_cons (pe_tup (pa_cons (pv 3) pa_nil stx_Name)) pa_nil stx_Tuple) stx_List))) (pcl C__law_draw (hr.mono (by decide)) (pa_cons (pv 0) (pa_cons pe_int pa_nil stx_Constant) stx_Name)) (fun _ _ => rfl)))
      (pss_cons (ps_set (i := 6) sc__law_odd_split.nd rfl (Or.inl rfl) (pcl C__law_draw (hr.mono (by decide)) (pa_cons (pv 0) (pa_cons pe_int pa_nil stx_Constant) stx_Name)))
      (pss_cons (ps_if (pt_cmpR op_lt (pv 6) pe_int (nomark _)) (pss_one (ps_ret (pe_op op_catU (pe_op op_catU (pe_slice sl_tup (pv 1) po_none (po_some (pv 2))) (pe_tup (pa_cons (pv 5) pa_nil stx_Name))) (pe_slice sl_tup (pv 1) (po_some (pe_op op_add (pv 2) pe_int)) po_none)))) pss_nil)
      (pss_cons (ps_if (pt_cmpR op_eq (pv 6) pe_int (nomark _)) (pss_cons (ps_set (i := 7) sc__law_odd_split.nd rfl (Or.inl rfl) (pe_ix ix_list (pe_lst (pa_cons pe_int (pa_cons (pe_un un_neg pe_int) (pa_cons (pe_op op_add (pv 3) pe_int) pa_nil stx_BinOp) stx_UnaryOp) stx_Constant)) (pcl C__law_draw (hr.mono (by decide)) (pa_cons (pv 0) (pa_cons pe_int pa_nil stx_Constant) stx_Name)) (fun _ _ => rfl)))
      (pss_one (ps_ret (pe_op op_catU (pe_slice sl_tup (pv 1) po_none (po_some pe_int)) (pe_tup (pa_cons (pe_op op_add (pe_ix ix_tup (pv 1) pe_int (fun _ _ => rfl)) (pv 7)) (pa_cons (pe_op op_sub (pe_ix ix_tup (pv 1) pe_int (fun _ _ => rfl)) (pv 7)) pa_nil stx_BinOp) stx_BinOp)))))) pss_nil)
      (pss_cons (ps_if (pt_cmpR op_eq (pv 6) pe_int (nomark _)) (pss_one (ps_ret (pe_op op_catU (pe_slice sl_tup (pv 1) po_none (po_some pe_int)) (pe_tup (pa_cons (pe_ix ix_tup (pv 1) pe_int (fun _ _ => rfl)) (pa_cons (pe_ix ix_tup (pv 1) pe_int (fun _ _ => rfl)) pa_nil stx_Subscript) stx_Subscript))))) pss_nil)
      (pss_one (ps_ret (pe_ix ix_list (pe_lst (pa_cons (pe_callTy call_list_of rfl T.list bt_list (pa_cons (pv 1) pa_nil stx_Name)) (pa_cons (pe_op op_catU (pe_slice sl_tup (pv 1) po_none (po_some (pv 2))) (pe_slice sl_tup (pv 1) (po_some (pe_op op_add (pv 2) pe_int)) po_none)) (pa_cons (pe_op op_catU (pv 1) (pe_tup (pa_cons pe_int pa_nil stx_Constant))) pa_nil stx_BinOp) stx_BinOp) stx_Call)) (pe_op op_sub (pv 6) pe_int) (fun _ _ => rfl)))))))))))), ?_⟩
  rw [st__law_odd_split]
  walk_at "rd"
  refine ⟨p, _, 4, rfl, c.hh, by omega, by decide, by decide, fun at0 H1 t0 t1 hh1 k1 => ?_⟩
  obtain ⟨c, u⟩ := c.draw k1 hh1
  have ha := u _ _ ma ha
  obtain ⟨k, rfl⟩ : ∃ k : Nat, at0 = (k : Int) := ⟨at0.toNat, by omega⟩
  obtain ⟨one, ho, o0, o1⟩ : ∃ one : Int, atI (vB b) (k : Int) = some (.int one) ∧ 0 ≤ one ∧ one ≤ 140 := by
    have : k = 0 ∨ k = 1 ∨ k = 2 ∨ k = 3 := by omega
    rcases this with rfl | rfl | rfl | rfl
    · exact ⟨b.r, rfl, by omega, by omega⟩
    · exact ⟨b.n, rfl, by omega, by omega⟩
    · exact ⟨b.s, rfl, by omega, by omega⟩
    · exact ⟨b.g, rfl, by omega, by omega⟩
  walk_at "rd"
  refine rd_ixT (SqT.of ha) ho ?_
  walk_at "rd"
  refine ⟨p, _, 140, rfl, c.hh, by omega, by decide, by decide, fun v H2 v0 v1 hh2 k2 => ?_⟩
  obtain ⟨c, u⟩ := c.draw k2 hh2
  have ha := u _ _ ma ha
  walk_at "rd"
  refine ⟨one, rfl, sm_log (.inl (by omega)), ?_⟩
  walk_at "rd"
  refine ⟨(by show 9 ≤ sizeLine; decide), fun L nL => ?_⟩
  generalize hE : upd H2 L _ = H3
  obtain ⟨c, hL, mL, u⟩ := c.new nL hE
  clear hE
  have ha := u _ _ ma ha
  walk_at "rd"
  refine ⟨(by show 1 ≤ sizeLine; decide), fun A1 nA1 => ?_⟩
  generalize hE : upd H3 A1 _ = H4
  obtain ⟨c, hA1, mA1, u⟩ := c.new nA1 hE
  clear hE
  have ha := u _ _ ma ha
  have hL := u _ _ mL hL
  walk_at "rd"
  refine ⟨(by show 1 ≤ sizeLine; decide), fun A2 nA2 => ?_⟩
  generalize hE : upd H4 A2 _ = H5
  obtain ⟨c, hA2, mA2, u⟩ := c.new nA2 hE
  clear hE
  have ha := u _ _ ma ha
  have hL := u _ _ mL hL
  have hA1 := u _ _ mA1 hA1
  walk_at "rd"
  refine ⟨(by show 2 ≤ sizeLine; decide), fun A3 nA3 => ?_⟩
  generalize hE : upd H5 A3 _ = H6
  obtain ⟨c, hA3, mA3, u⟩ := c.new nA3 hE
  clear hE
  have ha := u _ _ ma ha
  have hL := u _ _ mL hL
  have hA1 := u _ _ mA1 hA1
  have hA2 := u _ _ mA2 hA2
  walk_at "rd"
  refine ⟨L, A3, _, _, rfl, rfl, hL, hA3, (by show 11 ≤ sizeLine; decide), fun A4 nA4 => ?_⟩
  generalize hE : upd H6 A4 _ = H7
  obtain ⟨c, hA4, mA4, u⟩ := c.new nA4 hE
  clear hE
  have ha := u _ _ ma ha
  have hA1 := u _ _ mA1 hA1
  have hA2 := u _ _ mA2 hA2
  walk_at "rd"
  refine ⟨p, _, 11, rfl, c.hh, by omega, by decide, by decide, fun i H8 i0 i1 hh8 k8 => ?_⟩
  obtain ⟨c, u⟩ := c.draw k8 hh8
  have ha := u _ _ ma ha
  have hA1 := u _ _ mA1 hA1
  have hA2 := u _ _ mA2 hA2
  have hA4 := u _ _ mA4 hA4
  obtain ⟨x, dx, hix, hx, ox⟩ : ∃ x dx, atI ([V.int (one + 1), V.int (one - 1), V.int (0 - one), V.int v, .bl true, .bl false, .non, .str (Str.ofString (toString one)), .int 1000000000000] ++ [.ref A1, .ref A2]) i = some x ∧ DW (hide M H8) x dx ∧ okE dx := by
    have : i = 0 ∨ i = 1 ∨ i = 2 ∨ i = 3 ∨ i = 4 ∨ i = 5 ∨ i = 6 ∨ i = 7 ∨ i = 8 ∨ i = 9 ∨ i = 10 := by omega
    rcases this with rfl | rfl | rfl | rfl | rfl | rfl | rfl | rfl | rfl | rfl | rfl
    · exact ⟨_, _, rfl, .int _, .inl (by omega)⟩
    · exact ⟨_, _, rfl, .int _, .inl (by omega)⟩
    · exact ⟨_, _, rfl, .int _, .inl (by omega)⟩
    · exact ⟨_, _, rfl, .int _, .inl (by omega)⟩
    · exact ⟨_, _, rfl, .bl _, trivial⟩
    · exact ⟨_, _, rfl, .bl _, trivial⟩
    · exact ⟨_, _, rfl, .non, trivial⟩
    · exact ⟨_, _, rfl, .str _, sm_str o0 (by omega)⟩
    · exact ⟨_, _, rfl, .int _, .inr rfl⟩
    · exact ⟨_, _, rfl, dw_lst mA1 hA1 (.cons (.int one) .nil), .inl (by omega)⟩
    · exact ⟨_, _, rfl, dw_tup mA2 hA2 (.cons (.int one) .nil), .inl (by omega)⟩
  refine rd_ixL (SqL.of hA4) hix ?_
  walk_at "rd"
  refine ⟨p, _, 9, rfl, c.hh, by omega, by decide, by decide, fun way H9 w0 w1 hh9 k9 => ?_⟩
  obtain ⟨c, u⟩ := c.draw k9 hh9
  have ha := u _ _ ma ha
  have hx := hx.sub u
  clear u
  have nw : ∀ z : Nat, z < 4 → ¬ (HT.sIx (vB b).length 0 none = 0 ∧ HT.sIx (vB b).length (vB b).length (some (z : Int)) = (vB b).length) := fun z hz h => by
    have h := h.2
    rw [HT.sIx_nat] at h
    have : (vB b).length = 4 := rfl
    omega
  have nw1 : ¬ (HT.sIx (vB b).length 0 (some ((k : Int) + 1)) = 0 ∧ HT.sIx (vB b).length (vB b).length none = (vB b).length) := fun h => by
    have h := h.1
    rw [show (k : Int) + 1 = ((k + 1 : Nat) : Int) by omega, HT.sIx_nat] at h
    have : (vB b).length = 4 := rfl
    omega
  walk_at "rd"
  refine rd_if (fun cw => ?_) (fun cw => ?_)
  · walk_at "rd"
    refine ⟨a, _, rfl, SqT.of ha, nw k (by omega), fun t1 n1 => ?_⟩
    rw [cut_hiV]
    generalize hE : upd H9 t1 _ = G1
    obtain ⟨c, ht1, m1, u⟩ := c.new n1 hE
    clear hE
    have ha := u _ _ ma ha
    have hx := hx.sub u
    walk_at "rd"
    refine ⟨(by show 1 ≤ sizeLine; decide), fun t2 n2 => ?_⟩
    generalize hE : upd G1 t2 _ = G2
    obtain ⟨c, ht2, m2, u⟩ := c.new n2 hE
    clear hE
    have ha := u _ _ ma ha
    have hx := hx.sub u
    have ht1 := u _ _ m1 ht1
    walk_at "rd"
    refine ⟨t1, t2, _, _, rfl, rfl, ht1, ht2, ?_, fun t3 G3 s3 ht3 p3 => ?_⟩
    · rw [List.length_take]; exact Nat.le_trans (show _ ≤ 10 by simp [vB]; omega) (by decide)
    have m3 := cat_free c.hM p3 m1 m2
    obtain ⟨c, u⟩ := c.same s3
    have ha := u _ _ ma ha
    have hx := hx.sub u
    walk_at "rd"
    refine ⟨a, _, rfl, SqT.of ha, nw1, fun t4 n4 => ?_⟩
    rw [cut_lo1]
    generalize hE : upd G3 t4 _ = G4
    obtain ⟨c, ht4, m4, u⟩ := c.new n4 hE
    clear hE
    have hx := hx.sub u
    have ht3 := u _ _ m3 ht3
    walk_at "rd"
    have ll : ((vB b).take k ++ [x]).length + ((vB b).drop (k + 1)).length ≤ 10 := by
      rw [List.length_append, List.length_take, List.length_drop]; simp [vB]; omega
    refine ⟨t3, t4, _, _, rfl, rfl, ht3, ht4, Nat.le_trans ll (by decide), fun t5 G5 s5 ht5 p5 => ?_⟩
    have m5 := cat_free c.hM p5 m3 m4
    obtain ⟨c, u⟩ := c.same s5
    have hx := hx.sub u
    have dw := dw_tup m5 ht5 ((((dw_B b).take k).append (.cons hx .nil)).append ((dw_B b).drop (k + 1)))
    obtain ⟨z1, z2⟩ := okS_tup (ds := (dB b).take k ++ [dx] ++ (dB b).drop (k + 1)) (by rw [List.length_append, List.length_append, List.length_take, List.length_drop]; simp [dB]; omega) (mem_cut (ok_B hb) fun d hd => by rw [List.mem_singleton.mp hd]; exact ox)
    exact q _ _ _ dw z1 z2 (c.hh.mono (by omega)) c.kp
  · walk_at "rd"
    refine rd_if (fun cw2 => ?_) (fun cw2 => ?_)
    · walk_at "rd"
      refine ⟨(by show 3 ≤ sizeLine; decide), fun L2 nL2 => ?_⟩
      generalize hE : upd H9 L2 _ = G1
      obtain ⟨c, hL2, mL2, u⟩ := c.new nL2 hE
      clear hE
      have ha := u _ _ ma ha
      walk_at "rd"
      refine ⟨p, _, 3, rfl, c.hh, by omega, by decide, by decide, fun j G2 j0 j1 hj kj => ?_⟩
      obtain ⟨c, u⟩ := c.draw kj hj
      have ha := u _ _ ma ha
      have hL2 := u _ _ mL2 hL2
      obtain ⟨mo, hmo, mo0, mo1⟩ : ∃ mo : Int, atI [V.int 1, V.int (-1), V.int (one + 1)] j = some (.int mo) ∧ -1 ≤ mo ∧ mo ≤ 141 := by
        have : j = 0 ∨ j = 1 ∨ j = 2 := by omega
        rcases this with rfl | rfl | rfl
        · exact ⟨_, rfl, by omega, by omega⟩
        · exact ⟨_, rfl, by omega, by omega⟩
        · exact ⟨_, rfl, by omega, by omega⟩
      refine rd_ixL (SqL.of hL2) hmo ?_
      walk_at "rd"
      refine ⟨a, _, rfl, SqT.of ha, nw 2 (by omega), fun t1 n1 => ?_⟩
      generalize hE : upd G2 t1 _ = G3
      obtain ⟨c, ht1, m1, u⟩ := c.new n1 hE
      clear hE
      have ha := u _ _ ma ha
      have ht1 : G3 t1 = some (.tup [.int b.r, .int b.n]) := ht1
      walk_at "rd"
      refine ⟨(by show 2 ≤ sizeLine; decide), fun t2 n2 => ?_⟩
      generalize hE : upd G3 t2 _ = G4
      obtain ⟨c, ht2, m2, u⟩ := c.new n2 hE
      clear hE
      have ht1 := u _ _ m1 ht1
      walk_at "rd"
      refine ⟨t1, t2, _, _, rfl, rfl, ht1, ht2, (by show 4 ≤ sizeLine; decide), fun t3 G5 s3 ht3 p3 => ?_⟩
      have m3 := cat_free c.hM p3 m1 m2
      obtain ⟨c, u⟩ := c.same s3
      have dw := dw_tup m3 ht3 (ds := [.int b.r, .int b.n, .int (b.s + mo), .int (b.g - mo)]) (.cons (.int _) (.cons (.int _) (.cons (.int _) (.cons (.int _) .nil))))
      obtain ⟨z1, z2⟩ := okS_tup (ds := [.int b.r, .int b.n, .int (b.s + mo), .int (b.g - mo)]) (by simp) (fun d hd => by
        simp only [List.mem_cons, List.not_mem_nil, or_false] at hd
        rcases hd with rfl | rfl | rfl | rfl
        · exact .inl (by omega)
        · exact .inl (by omega)
        · exact .inl (by omega)
        · exact .inl (by omega))
      exact q _ _ _ dw z1 z2 (c.hh.mono (by omega)) c.kp
    · walk_at "rd"
      refine rd_if (fun cw3 => ?_) (fun cw3 => ?_)
      · walk_at "rd"
        refine ⟨a, _, rfl, SqT.of ha, nw 2 (by omega), fun t1 n1 => ?_⟩
        generalize hE : upd H9 t1 _ = G3
        obtain ⟨c, ht1, m1, u⟩ := c.new n1 hE
        clear hE
        have ha := u _ _ ma ha
        have ht1 : G3 t1 = some (.tup [.int b.r, .int b.n]) := ht1
        walk_at "rd"
        refine ⟨(by show 2 ≤ sizeLine; decide), fun t2 n2 => ?_⟩
        generalize hE : upd G3 t2 _ = G4
        obtain ⟨c, ht2, m2, u⟩ := c.new n2 hE
        clear hE
        have ht1 := u _ _ m1 ht1
        walk_at "rd"
        refine ⟨t1, t2, _, _, rfl, rfl, ht1, ht2, (by show 4 ≤ sizeLine; decide), fun t3 G5 s3 ht3 p3 => ?_⟩
        have m3 := cat_free c.hM p3 m1 m2
        obtain ⟨c, u⟩ := c.same s3
        have dw := dw_tup m3 ht3 (ds := [.int b.r, .int b.n, .int b.g, .int b.s]) (.cons (.int _) (.cons (.int _) (.cons (.int _) (.cons (.int _) .nil))))
        obtain ⟨z1, z2⟩ := okS_tup (ds := [.int b.r, .int b.n, .int b.g, .int b.s]) (by simp) (fun d hd => by
          simp only [List.mem_cons, List.not_mem_nil, or_false] at hd
          rcases hd with rfl | rfl | rfl | rfl
          · exact .inl (by omega)
          · exact .inl (by omega)
          · exact .inl (by omega)
          · exact .inl (by omega))
        exact q _ _ _ dw z1 z2 (c.hh.mono (by omega)) c.kp
      · walk_at "rd"
        refine ⟨a, _, rfl, .inr (SqT.of ha), fun l1 n1 => ?_⟩
        generalize hE : upd H9 l1 _ = G1
        obtain ⟨c, hl1, m1, u⟩ := c.new n1 hE
        clear hE
        have ha := u _ _ ma ha
        walk_at "rd"
        refine ⟨a, _, rfl, SqT.of ha, nw k (by omega), fun t2 n2 => ?_⟩
        rw [cut_hiV]
        generalize hE : upd G1 t2 _ = G2
        obtain ⟨c, ht2, m2, u⟩ := c.new n2 hE
        clear hE
        have ha := u _ _ ma ha
        have hl1 := u _ _ m1 hl1
        walk_at "rd"
        refine ⟨a, _, rfl, SqT.of ha, nw1, fun t3 n3 => ?_⟩
        rw [cut_lo1]
        generalize hE : upd G2 t3 _ = G3
        obtain ⟨c, ht3, m3, u⟩ := c.new n3 hE
        clear hE
        have ha := u _ _ ma ha
        have hl1 := u _ _ m1 hl1
        have ht2 := u _ _ m2 ht2
        walk_at "rd"
        have ll : ((vB b).take k).length + ((vB b).drop (k + 1)).length ≤ 10 := by
          rw [List.length_take, List.length_drop]; simp [vB]; omega
        refine ⟨t2, t3, _, _, rfl, rfl, ht2, ht3, Nat.le_trans ll (by decide), fun t4 G4 s4 ht4 p4 => ?_⟩
        have m4 := cat_free c.hM p4 m2 m3
        obtain ⟨c, u⟩ := c.same s4
        have ha := u _ _ ma ha
        have hl1 := u _ _ m1 hl1
        walk_at "rd"
        refine ⟨(by show 1 ≤ sizeLine; decide), fun t5 n5 => ?_⟩
        generalize hE : upd G4 t5 _ = G5
        obtain ⟨c, ht5, m5, u⟩ := c.new n5 hE
        clear hE
        have ha := u _ _ ma ha
        have hl1 := u _ _ m1 hl1
        have ht4 := u _ _ m4 ht4
        walk_at "rd"
        refine ⟨a, t5, _, _, rfl, rfl, ha, ht5, (by show 5 ≤ sizeLine; decide), fun t6 G6 s6 ht6 p6 => ?_⟩
        have m6 := cat_free c.hM p6 ma m5
        obtain ⟨c, u⟩ := c.same s6
        have hl1 := u _ _ m1 hl1
        have ht4 := u _ _ m4 ht4
        walk_at "rd"
        refine ⟨(by show 3 ≤ sizeLine; decide), fun l7 n7 => ?_⟩
        generalize hE : upd G6 l7 _ = G7
        obtain ⟨c, hl7, m7, u⟩ := c.new n7 hE
        clear hE
        have hl1 := u _ _ m1 hl1
        have ht4 := u _ _ m4 ht4
        have ht6 := u _ _ m6 ht6
        walk_at "rd"
        obtain ⟨y, dy, hiy, hy, oy, ny⟩ : ∃ y dy, atI [V.ref l1, .ref t4, .ref t6] (way - 6) = some y ∧ DW (hide M G7) y dy ∧ okS dy ∧ dy.hasDict = false := by
          have : way = 6 ∨ way = 7 ∨ way = 8 := by omega
          rcases this with rfl | rfl | rfl
          · exact ⟨_, _, rfl, dw_lst m1 hl1 (dw_B b), okS_lst (by simp [dB]) (ok_B hb)⟩
          · refine ⟨_, _, rfl, dw_tup m4 ht4 (((dw_B b).take k).append ((dw_B b).drop (k + 1))), okS_tup ?_ ?_⟩
            · rw [List.length_append, List.length_take, List.length_drop]; simp [dB]; omega
            · intro d hd
              rcases List.mem_append.mp hd with hd | hd
              · exact ok_B hb d (List.mem_of_mem_take hd)
              · exact ok_B hb d (List.mem_of_mem_drop hd)
          · refine ⟨_, _, rfl, dw_tup m6 ht6 ((dw_B b).append (.cons (.int 0) .nil)), okS_tup (by simp [dB]) ?_⟩
            intro d hd
            rcases List.mem_append.mp hd with hd | hd
            · exact ok_B hb d hd
            · rw [List.mem_singleton.mp hd]; exact .inl (by omega)
        refine rd_ixL (SqL.of hl7) hiy ?_
        exact q _ _ _ hy oy ny (c.hh.mono (by omega)) c.kp
set_option maxHeartbeats 100000000 in
theorem ok__law_spoilt {f : Addr} {fd : FuncData} (F : Fun K "_law_spoilt" "_law_spoilt" s__law_spoilt f fd) (mF : mg "_law_spoilt" = some (.ref f)) (bF : Binds K fd ["_law_hand", "_law_told"] []) (T : Bl mg) (C__law_draw : Cal P w K mg base "_law_draw" ["_law_hand", "_law_many_here"] 1 (sp__law_draw K)) (C__law_odd_split : Cal P w K mg base "_law_odd_split" ["_law_hand", "_law_split_here"] 2 (sp__law_odd_split K)) : Cal P w K mg base "_law_spoilt" ["_law_hand", "_law_told"] 3 (sp__law_spoilt K) := by
  refine Cal.of F mF bF sc__law_spoilt (fun vs H Q E h => ?_) (fun cdv A outer s H vs Q E hr h => ?_)
  · obtain ⟨p, l, N, as, bs, M, rfl, _⟩ := h; rfl
  obtain ⟨p, l, N, as, bs, M, rfl, hh, hN, mp, hM, hl, hT, hB, hbl, q⟩ := h
  have hu := hr.units
  have hal := hT.len
  have hD := hT.dws
  have aB := allB_of hB
  obtain ⟨ml, hl⟩ := hide_of hl
  generalize hds : (bs.map fun b => PyData.tuple (dB b)) = ds at hD aB
  have dl : ds.length = bs.length := by rw [← hds, List.length_map]
  have c := Od.start hh mp hM
  refine ⟨_, (pss_cons (ps_set (i := 2) sc__law_spoilt.nd rfl (Or.inl rfl) (pcl C__law_draw (hr.mono (by decide)) (pa_cons (pv 0) (pa_cons pe_int pa_nil stx_Constant) stx_Name)))
      (pss_cons (ps_set (i := 3) sc__law_spoilt.nd rfl (Or.inl rfl) (pcl C__law_draw (hr.mono (by decide)) (pa_cons (pv 0) (pa_cons (pe_callB (call_maxI rfl) rfl T.max bt_max (pa_cons pe_int (pa_cons (pe_callB call_lenL rfl T.len bt_len (pa_cons (pv 1) pa_nil stx_Name)) pa_nil stx_Call) stx_Constant)) pa_nil stx_Call) stx_Name)))
      (pss_cons (ps_set (i := 4) sc__law_spoilt.nd rfl (Or.inl rfl) (pe_ix ix_list (pe_lst (pa_cons pe_non (pa_cons pe_int (pa_cons pe_str (pa_cons (pe_lst pa_nil) (pa_cons pe_dnewK (pa_cons (pe_tup pa_nil) (pa_cons (pe_tup pa_nil) pa_nil stx_Tuple) stx_Tuple) stx_Dict) stx_List) stx_Constant) stx_Constant) stx_Constant)) (pcl C__law_draw (hr.mono (by decide)) (pa_cons (pv 0) (pa_cons pe_int pa_nil stx_Constant) stx_Name)) (fun _ _ => rfl)))
      (pss_cons (ps_if (pt_cmpR (op_eqE hu) (pv 1) (pe_lst pa_nil) (nomark _)) (pss_one (ps_ret (pe_ix ix_list (pe_lst (pa_cons (pe_lst (pa_cons (pv 4) pa_nil stx_Name)) (pa_cons (pe_tup pa_nil) (pa_cons (pe_lst (pa_cons (pe_tup (pa_cons pe_int (pa_cons pe_int (pa_cons pe_int (pa_cons pe_int pa_nil stx_Constant) stx_Constant) stx_Constant) stx_Constant)) pa_nil stx_Tuple)) (pa_cons (pe_callTy call_tuple_of rfl T.tuple bt_tuple (pa_cons (pv 1) pa_nil stx_Name)) (pa_cons (pe_lst (pa_cons (pe_tup (pa_cons pe_int (pa_cons pe_int (pa_cons pe_int (pa_cons pe_int pa_nil stx_Constant) stx_Constant) stx_Constant) stx_Constant)) pa_nil stx_Tuple)) (pa_cons (pe_lst (pa_cons (pe_tup (pa_cons pe_int (pa_cons pe_int (pa_cons pe_int (pa_cons pe_int pa_nil stx_Constant) stx_Constant) stx_Constant) stx_Constant)) pa_nil stx_Tuple)) (pa_cons pe_dnewK (pa_cons pe_non pa_nil stx_Constant) stx_Dict) stx_List) stx_List) stx_Call) stx_List) stx_Tuple) stx_List)) (pv 2) (fun _ _ => rfl)))) pss_nil)
      (pss_cons (ps_if (pt_cmpR op_lt (pv 2) pe_int (nomark _)) (pss_one (ps_ret (pe_op op_cat (pe_op op_cat (pe_slice sl_list (pv 1) po_none (po_some (pv 3))) (pe_lst (pa_cons (pcl C__law_odd_split (hr.mono (by decide)) (pa_cons (pv 0) (pa_cons (pe_ix ix_list (pv 1) (pv 3) (fun _ _ => rfl)) pa_nil stx_Subscript) stx_Name)) pa_nil stx_Call))) (pe_slice sl_list (pv 1) (po_some (pe_op op_add (pv 3) pe_int)) po_none)))) pss_nil)
      (pss_cons (ps_if (pt_cmpR op_eq (pv 2) pe_int (nomark _)) (pss_one (ps_ret (pe_op op_cat (pe_slice sl_list (pv 1) po_none (po_some (pv 3))) (pe_slice sl_list (pv 1) (po_some (pe_op op_add (pv 3) pe_int)) po_none)))) pss_nil)
      (pss_cons (ps_if (pt_cmpR op_eq (pv 2) pe_int (nomark _)) (pss_one (ps_ret (pe_op op_cat (pe_op op_cat (pe_slice sl_list (pv 1) po_none (po_some (pv 3))) (pe_slice sl_list (pv 1) (po_some (pv 3)) (po_some (pe_op op_add (pv 3) pe_int)))) (pe_slice sl_list (pv 1) (po_some (pv 3)) po_none)))) pss_nil)
      (pss_cons (ps_if (pt_cmpR op_eq (pv 2) pe_int (nomark _)) (pss_cons (ps_set (i := 5) sc__law_spoilt.nd rfl (Or.inl rfl) (pe_op op_cat (pe_slice sl_list (pv 1) (po_some (pe_op op_add (pv 3) pe_int)) (po_some (pe_op op_add (pv 3) pe_int))) (pe_slice sl_list (pv 1) (po_some (pv 3)) (po_some (pe_op op_add (pv 3) pe_int)))))
      (pss_one (ps_ret (pe_op op_cat (pe_op op_cat (pe_slice sl_list (pv 1) po_none (po_some (pv 3))) (pv 5)) (pe_slice sl_list (pv 1) (po_some (pe_op op_add (pv 3) pe_int)) po_none))))) pss_nil)
      (pss_cons (ps_if (pt_cmpR op_eq (pv 2) pe_int (nomark _)) (pss_one (ps_ret (pe_op op_cat (pe_op op_cat (pe_slice sl_list (pv 1) po_none (po_some (pv 3))) (pe_lst (pa_cons (pv 4) pa_nil stx_Name))) (pe_slice sl_list (pv 1) (po_some (pv 3)) po_none)))) pss_nil)
      (pss_one (ps_ret (pe_ix ix_list (pe_lst (pa_cons (pe_callTy call_tuple_of rfl T.tuple bt_tuple (pa_cons (pv 1) pa_nil stx_Name)) (pa_cons (pe_slice sl_list (pv 1) po_none (po_some (pv 3))) pa_nil stx_Subscript) stx_Call)) (pcl C__law_draw (hr.mono (by decide)) (pa_cons (pv 0) (pa_cons pe_int pa_nil stx_Constant) stx_Name)) (fun _ _ => rfl))))))))))))), ?_⟩
  rw [st__law_spoilt]
  walk_at "rd"
  refine ⟨p, _, 8, rfl, c.hh, by omega, by decide, by decide, fun way H1 w0 w1 hh1 k1 => ?_⟩
  obtain ⟨c, u⟩ := c.draw k1 hh1
  have hl := u _ _ ml hl
  have hT := hT.same fun b o h => u.hide b _ h
  walk_at "rd"
  rw [List.length_map]
  refine ⟨p, _, _, rfl, c.hh, by omega, by omega, by omega, fun at0 H2 t0 t1 hh2 k2 => ?_⟩
  obtain ⟨c, u⟩ := c.draw k2 hh2
  have hl := u _ _ ml hl
  have hT := hT.same fun b o h => u.hide b _ h
  obtain ⟨k, rfl⟩ : ∃ k : Nat, at0 = (k : Int) := ⟨at0.toNat, by omega⟩
  walk_at "rd"
  refine ⟨by decide, fun o1 n1 => ?_⟩
  generalize hE : upd H2 o1 _ = H3
  obtain ⟨c, ho1, m1, u⟩ := c.new n1 hE
  clear hE
  have hl := u _ _ ml hl
  have hT := hT.same fun b o h => u.hide b _ h
  walk_at "rd"
  intro o2 n2
  generalize hE : upd H3 o2 _ = H4
  obtain ⟨c, ho2, m2, u⟩ := c.new n2 hE
  clear hE
  have hl := u _ _ ml hl
  have hT := hT.same fun b o h => u.hide b _ h
  have ho1 := u _ _ m1 ho1
  walk_at "rd"
  refine ⟨by decide, fun o3 n3 => ?_⟩
  generalize hE : upd H4 o3 _ = H5
  obtain ⟨c, ho3, m3, u⟩ := c.new n3 hE
  clear hE
  have hl := u _ _ ml hl
  have hT := hT.same fun b o h => u.hide b _ h
  have ho1 := u _ _ m1 ho1
  have ho2 := u _ _ m2 ho2
  walk_at "rd"
  refine ⟨by decide, fun o4 n4 => ?_⟩
  generalize hE : upd H5 o4 _ = H6
  obtain ⟨c, ho4, m4, u⟩ := c.new n4 hE
  clear hE
  have hl := u _ _ ml hl
  have hT := hT.same fun b o h => u.hide b _ h
  have ho1 := u _ _ m1 ho1
  have ho2 := u _ _ m2 ho2
  have ho3 := u _ _ m3 ho3
  walk_at "rd"
  refine ⟨(by show 7 ≤ sizeLine; decide), fun o5 n5 => ?_⟩
  generalize hE : upd H6 o5 _ = H7
  obtain ⟨c, ho5, m5, u⟩ := c.new n5 hE
  clear hE
  have hl := u _ _ ml hl
  have hT := hT.same fun b o h => u.hide b _ h
  have ho1 := u _ _ m1 ho1
  have ho2 := u _ _ m2 ho2
  have ho3 := u _ _ m3 ho3
  have ho4 := u _ _ m4 ho4
  walk_at "rd"
  refine ⟨p, _, 7, rfl, c.hh, by omega, by decide, by decide, fun i H8 i0 i1 hh8 k8 => ?_⟩
  obtain ⟨c, u⟩ := c.draw k8 hh8
  have hl := u _ _ ml hl
  have hT := hT.same fun b o h => u.hide b _ h
  have ho1 := u _ _ m1 ho1
  have ho2 := u _ _ m2 ho2
  have ho3 := u _ _ m3 ho3
  have ho4 := u _ _ m4 ho4
  have ho5 := u _ _ m5 ho5
  clear u
  obtain ⟨x, dx, hix, hx, ox, nx⟩ : ∃ x dx, atI [V.non, .int 5, .str "split", .ref o1, .ref o2, .ref o3, .ref o4] i = some x ∧ DW (hide M H8) x dx ∧ okS dx ∧ (dx.hasDict = true → nlD dx = true) := by
    have : i = 0 ∨ i = 1 ∨ i = 2 ∨ i = 3 ∨ i = 4 ∨ i = 5 ∨ i = 6 := by omega
    rcases this with rfl | rfl | rfl | rfl | rfl | rfl | rfl
    · exact ⟨_, _, rfl, .non, trivial, fun _ => by simp [nlD]⟩
    · exact ⟨_, _, rfl, .int _, .inl (by omega), fun _ => by simp [nlD]⟩
    · exact ⟨_, _, rfl, .str _, ⟨by decide +kernel, by decide +kernel⟩, fun _ => by simp [nlD]⟩
    · exact ⟨_, _, rfl, dw_lst m1 ho1 .nil, ⟨by simp, fun d hd => absurd hd List.not_mem_nil⟩, fun z => by simp [PyData.hasDict, PyData.hasDictAll] at z⟩
    · exact ⟨_, _, rfl, .dic (by rw [hide_at m2]; exact ho2), trivial, fun _ => by simp [nlD]⟩
    · exact ⟨_, _, rfl, dw_tup m3 ho3 .nil, ⟨by simp, fun d hd => absurd hd List.not_mem_nil⟩, fun z => by simp [PyData.hasDict, PyData.hasDictAll] at z⟩
    · exact ⟨_, _, rfl, dw_tup m4 ho4 .nil, ⟨by simp, fun d hd => absurd hd List.not_mem_nil⟩, fun z => by simp [PyData.hasDict, PyData.hasDictAll] at z⟩
  refine rd_ixL (SqL.of ho5) hix ?_
  clear ho1 ho2 ho3 ho4 ho5
  walk_at "rd"
  refine ⟨by decide, fun e1 ne1 => ?_⟩
  generalize hE : upd H8 e1 _ = H9
  obtain ⟨c, he1, me1, u⟩ := c.new ne1 hE
  clear hE
  have hl := u _ _ ml hl
  have hT := hT.same fun b o h => u.hide b _ h
  have hx := hx.sub u
  clear u
  walk_at "rd"
  refine ⟨l, e1, _, rfl, rfl, SqL.of hl, SqL.of he1, ?_⟩
  by_cases ez : as = []
  · subst ez
    have hz : bs = [] := List.eq_nil_of_length_eq_zero (by rw [← hal]; rfl)
    rw [decide_eq_true (show ([] : List Addr).map V.ref = [] from rfl)]
    walk_at "rd"
    refine ⟨(by show 1 ≤ sizeLine; decide), fun g1 n1 => ?_⟩
    generalize hE : upd H9 g1 _ = G1
    obtain ⟨c, h1, m1, u⟩ := c.new n1 hE
    clear hE
    have hl := u _ _ ml hl
    have hx := hx.sub u
    walk_at "rd"
    refine ⟨by decide, fun g2 n2 => ?_⟩
    generalize hE : upd G1 g2 _ = G2
    obtain ⟨c, h2, m2, u⟩ := c.new n2 hE
    clear hE
    have hl := u _ _ ml hl
    have hx := hx.sub u
    have h1 := u _ _ m1 h1
    walk_at "rd"
    refine ⟨(by show 4 ≤ sizeLine; decide), fun g3 n3 => ?_⟩
    generalize hE : upd G2 g3 _ = G3
    obtain ⟨c, h3, m3, u⟩ := c.new n3 hE
    clear hE
    have hl := u _ _ ml hl
    have hx := hx.sub u
    have h1 := u _ _ m1 h1
    have h2 := u _ _ m2 h2
    walk_at "rd"
    refine ⟨(by show 1 ≤ sizeLine; decide), fun g4 n4 => ?_⟩
    generalize hE : upd G3 g4 _ = G4
    obtain ⟨c, h4, m4, u⟩ := c.new n4 hE
    clear hE
    have hl := u _ _ ml hl
    have hx := hx.sub u
    have h1 := u _ _ m1 h1
    have h2 := u _ _ m2 h2
    have h3 := u _ _ m3 h3
    walk_at "rd"
    refine ⟨l, _, rfl, .inl ⟨SqL.of hl, fun g5 n5 => ?_⟩⟩
    generalize hE : upd G4 g5 _ = G5
    obtain ⟨c, h5, m5, u⟩ := c.new n5 hE
    clear hE
    have hx := hx.sub u
    have h1 := u _ _ m1 h1
    have h2 := u _ _ m2 h2
    have h3 := u _ _ m3 h3
    have h4 := u _ _ m4 h4
    walk_at "rd"
    refine ⟨(by show 4 ≤ sizeLine; decide), fun g6 n6 => ?_⟩
    generalize hE : upd G5 g6 _ = G6
    obtain ⟨c, h6, m6, u⟩ := c.new n6 hE
    clear hE
    have hx := hx.sub u
    have h1 := u _ _ m1 h1
    have h2 := u _ _ m2 h2
    have h3 := u _ _ m3 h3
    have h4 := u _ _ m4 h4
    have h5 := u _ _ m5 h5
    walk_at "rd"
    refine ⟨(by show 1 ≤ sizeLine; decide), fun g7 n7 => ?_⟩
    generalize hE : upd G6 g7 _ = G7
    obtain ⟨c, h7, m7, u⟩ := c.new n7 hE
    clear hE
    have hx := hx.sub u
    have h1 := u _ _ m1 h1
    have h2 := u _ _ m2 h2
    have h3 := u _ _ m3 h3
    have h4 := u _ _ m4 h4
    have h5 := u _ _ m5 h5
    have h6 := u _ _ m6 h6
    walk_at "rd"
    refine ⟨(by show 4 ≤ sizeLine; decide), fun g8 n8 => ?_⟩
    generalize hE : upd G7 g8 _ = G8
    obtain ⟨c, h8, m8, u⟩ := c.new n8 hE
    clear hE
    have hx := hx.sub u
    have h1 := u _ _ m1 h1
    have h2 := u _ _ m2 h2
    have h3 := u _ _ m3 h3
    have h4 := u _ _ m4 h4
    have h5 := u _ _ m5 h5
    have h6 := u _ _ m6 h6
    have h7 := u _ _ m7 h7
    walk_at "rd"
    refine ⟨(by show 1 ≤ sizeLine; decide), fun g9 n9 => ?_⟩
    generalize hE : upd G8 g9 _ = G9
    obtain ⟨c, h9, m9, u⟩ := c.new n9 hE
    clear hE
    have hx := hx.sub u
    have h1 := u _ _ m1 h1
    have h2 := u _ _ m2 h2
    have h3 := u _ _ m3 h3
    have h4 := u _ _ m4 h4
    have h5 := u _ _ m5 h5
    have h6 := u _ _ m6 h6
    have h7 := u _ _ m7 h7
    have h8 := u _ _ m8 h8
    walk_at "rd"
    intro ga na
    generalize hE : upd G9 ga _ = GA
    obtain ⟨c, ha, ma, u⟩ := c.new na hE
    clear hE
    have hx := hx.sub u
    have h1 := u _ _ m1 h1
    have h2 := u _ _ m2 h2
    have h3 := u _ _ m3 h3
    have h4 := u _ _ m4 h4
    have h5 := u _ _ m5 h5
    have h6 := u _ _ m6 h6
    have h7 := u _ _ m7 h7
    have h8 := u _ _ m8 h8
    have h9 := u _ _ m9 h9
    walk_at "rd"
    refine ⟨(by show 8 ≤ sizeLine; decide), fun gb nb => ?_⟩
    generalize hE : upd GA gb _ = GB
    obtain ⟨c, hb, mb, u⟩ := c.new nb hE
    clear hE
    have hx := hx.sub u
    have h1 := u _ _ m1 h1
    have h2 := u _ _ m2 h2
    have h3 := u _ _ m3 h3
    have h4 := u _ _ m4 h4
    have h5 := u _ _ m5 h5
    have h6 := u _ _ m6 h6
    have h7 := u _ _ m7 h7
    have h8 := u _ _ m8 h8
    have h9 := u _ _ m9 h9
    have ha := u _ _ ma ha
    walk_at "rd"
    have tup4 : ∀ {g g' : Addr} (r n s t : Int), M g = false → M g' = false → GB g = some (.tup [.int r, .int n, .int s, .int t]) → GB g' = some (.lst [.ref g]) → 0 ≤ r → r ≤ 1 → 0 ≤ n → n ≤ 1 → 0 ≤ s → s ≤ 1 → 0 ≤ t → t ≤ 1 → DW (hide M GB) (.ref g') (.list [.tuple (dB ⟨r, n, s, t⟩)]) ∧ okT (.list [.tuple (dB ⟨r, n, s, t⟩)]) := fun {g g'} r n s t mg mg' hg hg' r0 r1 n0 n1 s0 s1 t0 t1 =>
      ⟨dw_lst mg' hg' (.cons (dw_tup mg hg (dw_B ⟨r, n, s, t⟩)) .nil), AllB.lst (fun d hd => ⟨⟨r, n, s, t⟩, ⟨⟨r0, by show r ≤ 140; omega⟩, ⟨n0, by show n ≤ 140; omega⟩, ⟨s0, by show s ≤ 120; omega⟩, ⟨t0, by show t ≤ 120; omega⟩⟩, List.mem_singleton.mp hd⟩) (by simp)⟩
    obtain ⟨y, dy, hiy, hy, oy⟩ : ∃ y dy, atI [V.ref g1, .ref g2, .ref g4, .ref g5, .ref g7, .ref g9, .ref ga, .non] way = some y ∧ DW (hide M GB) y dy ∧ okT dy := by
      have : way = 0 ∨ way = 1 ∨ way = 2 ∨ way = 3 ∨ way = 4 ∨ way = 5 ∨ way = 6 ∨ way = 7 := by omega
      rcases this with rfl | rfl | rfl | rfl | rfl | rfl | rfl | rfl
      · exact ⟨_, _, rfl, dw_lst m1 h1 (.cons hx .nil), okT_mid (ds := []) (es := []) (fun d hd => absurd hd List.not_mem_nil) (fun d hd => absurd hd List.not_mem_nil) ox nx (by simp)⟩
      · exact ⟨_, _, rfl, dw_tup m2 h2 .nil, AllB.tup (fun d hd => absurd hd List.not_mem_nil) (by simp)⟩
      · exact ⟨_, _, rfl, tup4 0 1 0 0 m3 m4 h3 h4 (by decide) (by decide) (by decide) (by decide) (by decide) (by decide) (by decide) (by decide)⟩
      · exact ⟨_, _, rfl, dw_tup m5 h5 .nil, AllB.tup (fun d hd => absurd hd List.not_mem_nil) (by simp)⟩
      · exact ⟨_, _, rfl, tup4 0 1 1 0 m6 m7 h6 h7 (by decide) (by decide) (by decide) (by decide) (by decide) (by decide) (by decide) (by decide)⟩
      · exact ⟨_, _, rfl, tup4 1 1 0 0 m8 m9 h8 h9 (by decide) (by decide) (by decide) (by decide) (by decide) (by decide) (by decide) (by decide)⟩
      · exact ⟨_, _, rfl, .dic (by rw [hide_at ma]; exact ha), trivial⟩
      · exact ⟨_, _, rfl, .non, trivial⟩
    refine rd_ixL (SqL.of hb) hiy ?_
    exact q _ _ _ hy oy (c.hh.mono (by omega)) c.kp
  · rw [decide_eq_false (show as.map V.ref ≠ [] from fun z => ez (List.map_eq_nil_iff.mp z))]
    have la : 0 < as.length := List.length_pos_iff.mpr ez
    have hk : k < as.length := by omega
    have lenb : ∀ {xs : List V} {es : List PyData} {G : Hp}, DWs (hide M G) xs es → es.length ≤ 131 → xs.length ≤ 131 := fun d h => by rw [d.len]; exact h
    walk_at "rd"
    refine rd_if (fun cw => ?_) (fun cw => ?_)
    · walk_at "rd"
      refine ⟨l, _, rfl, SqL.of hl, fun g1 n1 => ?_⟩
      rw [cut_hiV]
      generalize hE : upd H9 g1 _ = G1
      obtain ⟨c, h1, m1, u⟩ := c.new n1 hE
      clear hE
      have hl := u _ _ ml hl
      have hT := hT.same fun b o h => u.hide b _ h
      walk_at "rd"
      have hka : as[k]? = some as[k] := List.getElem?_eq_getElem hk
      obtain ⟨b, hbk, hab⟩ := hT.get hka
      refine rd_ixL (SqL.of hl) (at_ref' hka) ?_
      walk_at "rd"
      refine ⟨p, _, _, b, M, rfl, c.hh, by omega, c.mp, c.hM, hab, hB b (List.mem_of_getElem? hbk), fun y dy G2 hy oy ny hh2 k2 => ?_⟩
      obtain ⟨c, u⟩ := c.draw k2 hh2
      have hl := u _ _ ml hl
      have hT := hT.same fun b o h => u.hide b _ h
      have h1 := u _ _ m1 h1
      walk_at "rd"
      refine ⟨(by show 1 ≤ sizeLine; decide), fun g2 n2 => ?_⟩
      generalize hE : upd G2 g2 _ = G3
      obtain ⟨c, h2, m2, u⟩ := c.new n2 hE
      clear hE
      have hl := u _ _ ml hl
      have hT := hT.same fun b o h => u.hide b _ h
      have h1 := u _ _ m1 h1
      have hy := hy.sub u
      walk_at "rd"
      refine ⟨g1, g2, _, _, rfl, rfl, h1, h2, ?_, fun g3 n3 => ?_⟩
      · rw [List.length_take, List.length_map]; exact Nat.le_trans (show _ ≤ 140 by simp; omega) (by decide)
      generalize hE : upd G3 g3 _ = G4
      obtain ⟨c, h3, m3, u⟩ := c.new n3 hE
      clear hE
      have hl := u _ _ ml hl
      have hT := hT.same fun b o h => u.hide b _ h
      have hy := hy.sub u
      walk_at "rd"
      refine ⟨l, _, rfl, SqL.of hl, fun g4 n4 => ?_⟩
      rw [cut_lo1]
      generalize hE : upd G4 g4 _ = G5
      obtain ⟨c, h4, m4, u⟩ := c.new n4 hE
      clear hE
      have hT := hT.same fun b o h => u.hide b _ h
      have hy := hy.sub u
      have h3 := u _ _ m3 h3
      walk_at "rd"
      have ll : ((as.map V.ref).take k ++ [y]).length + ((as.map V.ref).drop (k + 1)).length ≤ 140 := by
        rw [List.length_append, List.length_take, List.length_drop, List.length_map]; simp; omega
      refine ⟨g3, g4, _, _, rfl, rfl, h3, h4, Nat.le_trans ll (by decide), fun g5 n5 => ?_⟩
      generalize hE : upd G5 g5 _ = G6
      obtain ⟨c, h5, m5, u⟩ := c.new n5 hE
      clear hE
      have hT := hT.same fun b o h => u.hide b _ h
      have hy := hy.sub u
      have hD := hT.dws
      rw [hds] at hD
      refine q _ _ _ (dw_lst m5 h5 (((hD.take k).append (.cons hy .nil)).append (hD.drop (k + 1)))) (okT_mid (aB.take k) (aB.drop (k + 1)) oy (fun z => by rw [ny] at z; cases z) ?_) (c.hh.mono (by omega)) c.kp
      rw [List.length_append, List.length_append, List.length_take, List.length_drop]; simp; omega
    · walk_at "rd"
      refine rd_if (fun cw3 => ?_) (fun cw3 => ?_)
      · walk_at "rd"
        refine ⟨l, _, rfl, SqL.of hl, fun g1 n1 => ?_⟩
        rw [cut_hiV]
        generalize hE : upd H9 g1 _ = G1
        obtain ⟨c, h1, m1, u⟩ := c.new n1 hE
        clear hE
        have hl := u _ _ ml hl
        have hT := hT.same fun b o h => u.hide b _ h
        walk_at "rd"
        refine ⟨l, _, rfl, SqL.of hl, fun g2 n2 => ?_⟩
        rw [cut_lo1]
        generalize hE : upd G1 g2 _ = G2
        obtain ⟨c, h2, m2, u⟩ := c.new n2 hE
        clear hE
        have hT := hT.same fun b o h => u.hide b _ h
        have h1 := u _ _ m1 h1
        walk_at "rd"
        refine ⟨g1, g2, _, _, rfl, rfl, h1, h2, ?_, fun g3 n3 => ?_⟩
        · rw [List.length_take, List.length_drop, List.length_map]; exact Nat.le_trans (show _ ≤ 140 by omega) (by decide)
        generalize hE : upd G2 g3 _ = G3
        obtain ⟨c, h3, m3, u⟩ := c.new n3 hE
        clear hE
        have hT := hT.same fun b o h => u.hide b _ h
        have hD := hT.dws
        rw [hds] at hD
        refine q _ _ _ (dw_lst m3 h3 ((hD.take k).append (hD.drop (k + 1)))) (((aB.take k).app (aB.drop (k + 1))).lst ?_) (c.hh.mono (by omega)) c.kp
        rw [List.length_append, List.length_take, List.length_drop]; omega
      · walk_at "rd"
        refine rd_if (fun cw4 => ?_) (fun cw4 => ?_)
        · walk_at "rd"
          refine ⟨l, _, rfl, SqL.of hl, fun g1 n1 => ?_⟩
          rw [cut_hiV]
          generalize hE : upd H9 g1 _ = G1
          obtain ⟨c, h1, m1, u⟩ := c.new n1 hE
          clear hE
          have hl := u _ _ ml hl
          have hT := hT.same fun b o h => u.hide b _ h
          walk_at "rd"
          refine ⟨l, _, rfl, SqL.of hl, fun g2 n2 => ?_⟩
          rw [cut_at]
          generalize hE : upd G1 g2 _ = G2
          obtain ⟨c, h2, m2, u⟩ := c.new n2 hE
          clear hE
          have hl := u _ _ ml hl
          have hT := hT.same fun b o h => u.hide b _ h
          have h1 := u _ _ m1 h1
          walk_at "rd"
          refine ⟨g1, g2, _, _, rfl, rfl, h1, h2, ?_, fun g3 n3 => ?_⟩
          · rw [List.length_take, List.length_take, List.length_drop, List.length_map]; exact Nat.le_trans (show _ ≤ 140 by omega) (by decide)
          generalize hE : upd G2 g3 _ = G3
          obtain ⟨c, h3, m3, u⟩ := c.new n3 hE
          clear hE
          have hl := u _ _ ml hl
          have hT := hT.same fun b o h => u.hide b _ h
          walk_at "rd"
          refine ⟨l, _, rfl, SqL.of hl, fun g4 n4 => ?_⟩
          rw [cut_lo0]
          generalize hE : upd G3 g4 _ = G4
          obtain ⟨c, h4, m4, u⟩ := c.new n4 hE
          clear hE
          have hT := hT.same fun b o h => u.hide b _ h
          have h3 := u _ _ m3 h3
          walk_at "rd"
          refine ⟨g3, g4, _, _, rfl, rfl, h3, h4, ?_, fun g5 n5 => ?_⟩
          · rw [List.length_append, List.length_take, List.length_take, List.length_drop, List.length_map]; exact Nat.le_trans (show _ ≤ 140 by omega) (by decide)
          generalize hE : upd G4 g5 _ = G5
          obtain ⟨c, h5, m5, u⟩ := c.new n5 hE
          clear hE
          have hT := hT.same fun b o h => u.hide b _ h
          have hD := hT.dws
          rw [hds] at hD
          refine q _ _ _ (dw_lst m5 h5 (((hD.take k).append ((hD.drop k).take 1)).append (hD.drop k))) ((((aB.take k).app ((aB.drop k).take 1)).app (aB.drop k)).lst ?_) (c.hh.mono (by omega)) c.kp
          rw [List.length_append, List.length_append, List.length_take, List.length_take, List.length_drop]; omega
        · walk_at "rd"
          refine rd_if (fun cw5 => ?_) (fun cw5 => ?_)
          · walk_at "rd"
            refine ⟨l, _, rfl, SqL.of hl, fun g1 n1 => ?_⟩
            rw [cut_nx]
            generalize hE : upd H9 g1 _ = G1
            obtain ⟨c, h1, m1, u⟩ := c.new n1 hE
            clear hE
            have hl := u _ _ ml hl
            have hT := hT.same fun b o h => u.hide b _ h
            walk_at "rd"
            refine ⟨l, _, rfl, SqL.of hl, fun g2 n2 => ?_⟩
            rw [cut_at]
            generalize hE : upd G1 g2 _ = G2
            obtain ⟨c, h2, m2, u⟩ := c.new n2 hE
            clear hE
            have hl := u _ _ ml hl
            have hT := hT.same fun b o h => u.hide b _ h
            have h1 := u _ _ m1 h1
            walk_at "rd"
            refine ⟨g1, g2, _, _, rfl, rfl, h1, h2, ?_, fun g3 n3 => ?_⟩
            · rw [List.length_take, List.length_take]; exact Nat.le_trans (show _ ≤ 140 by omega) (by decide)
            generalize hE : upd G2 g3 _ = G3
            obtain ⟨c, h3, m3, u⟩ := c.new n3 hE
            clear hE
            have hl := u _ _ ml hl
            have hT := hT.same fun b o h => u.hide b _ h
            walk_at "rd"
            refine ⟨l, _, rfl, SqL.of hl, fun g4 n4 => ?_⟩
            rw [cut_hiV]
            generalize hE : upd G3 g4 _ = G4
            obtain ⟨c, h4, m4, u⟩ := c.new n4 hE
            clear hE
            have hl := u _ _ ml hl
            have hT := hT.same fun b o h => u.hide b _ h
            have h3 := u _ _ m3 h3
            walk_at "rd"
            refine ⟨g4, g3, _, _, rfl, rfl, h4, h3, ?_, fun g5 n5 => ?_⟩
            · rw [List.length_append, List.length_take, List.length_take, List.length_take, List.length_map]; exact Nat.le_trans (show _ ≤ 140 by omega) (by decide)
            generalize hE : upd G4 g5 _ = G5
            obtain ⟨c, h5, m5, u⟩ := c.new n5 hE
            clear hE
            have hl := u _ _ ml hl
            have hT := hT.same fun b o h => u.hide b _ h
            walk_at "rd"
            refine ⟨l, _, rfl, SqL.of hl, fun g6 n6 => ?_⟩
            rw [cut_lo2]
            generalize hE : upd G5 g6 _ = G6
            obtain ⟨c, h6, m6, u⟩ := c.new n6 hE
            clear hE
            have hT := hT.same fun b o h => u.hide b _ h
            have h5 := u _ _ m5 h5
            walk_at "rd"
            refine ⟨g5, g6, _, _, rfl, rfl, h5, h6, ?_, fun g7 n7 => ?_⟩
            · simp only [List.length_append, List.length_take, List.length_drop, List.length_map]; exact Nat.le_trans (show _ ≤ 140 by omega) (by decide)
            generalize hE : upd G6 g7 _ = G7
            obtain ⟨c, h7, m7, u⟩ := c.new n7 hE
            clear hE
            have hT := hT.same fun b o h => u.hide b _ h
            have hD := hT.dws
            rw [hds] at hD
            refine q _ _ _ (dw_lst m7 h7 (((hD.take k).append (((hD.drop (k + 1)).take 1).append ((hD.drop k).take 1))).append (hD.drop (k + 2)))) ((((aB.take k).app (((aB.drop (k + 1)).take 1).app ((aB.drop k).take 1))).app (aB.drop (k + 2))).lst ?_) (c.hh.mono (by omega)) c.kp
            simp only [List.length_append, List.length_take, List.length_drop]; omega
          · walk_at "rd"
            refine rd_if (fun cw6 => ?_) (fun cw6 => ?_)
            · walk_at "rd"
              refine ⟨l, _, rfl, SqL.of hl, fun g1 n1 => ?_⟩
              rw [cut_hiV]
              generalize hE : upd H9 g1 _ = G1
              obtain ⟨c, h1, m1, u⟩ := c.new n1 hE
              clear hE
              have hl := u _ _ ml hl
              have hT := hT.same fun b o h => u.hide b _ h
              have hx := hx.sub u
              walk_at "rd"
              refine ⟨(by show 1 ≤ sizeLine; decide), fun g2 n2 => ?_⟩
              generalize hE : upd G1 g2 _ = G2
              obtain ⟨c, h2, m2, u⟩ := c.new n2 hE
              clear hE
              have hl := u _ _ ml hl
              have hT := hT.same fun b o h => u.hide b _ h
              have hx := hx.sub u
              have h1 := u _ _ m1 h1
              walk_at "rd"
              refine ⟨g1, g2, _, _, rfl, rfl, h1, h2, ?_, fun g3 n3 => ?_⟩
              · rw [List.length_take, List.length_map]; exact Nat.le_trans (show _ ≤ 140 by simp; omega) (by decide)
              generalize hE : upd G2 g3 _ = G3
              obtain ⟨c, h3, m3, u⟩ := c.new n3 hE
              clear hE
              have hl := u _ _ ml hl
              have hT := hT.same fun b o h => u.hide b _ h
              have hx := hx.sub u
              walk_at "rd"
              refine ⟨l, _, rfl, SqL.of hl, fun g4 n4 => ?_⟩
              rw [cut_lo0]
              generalize hE : upd G3 g4 _ = G4
              obtain ⟨c, h4, m4, u⟩ := c.new n4 hE
              clear hE
              have hT := hT.same fun b o h => u.hide b _ h
              have hx := hx.sub u
              have h3 := u _ _ m3 h3
              walk_at "rd"
              refine ⟨g3, g4, _, _, rfl, rfl, h3, h4, ?_, fun g5 n5 => ?_⟩
              · rw [List.length_append, List.length_take, List.length_drop, List.length_map]; exact Nat.le_trans (show _ ≤ 140 by simp; omega) (by decide)
              generalize hE : upd G4 g5 _ = G5
              obtain ⟨c, h5, m5, u⟩ := c.new n5 hE
              clear hE
              have hT := hT.same fun b o h => u.hide b _ h
              have hx := hx.sub u
              have hD := hT.dws
              rw [hds] at hD
              refine q _ _ _ (dw_lst m5 h5 (((hD.take k).append (.cons hx .nil)).append (hD.drop k))) (okT_mid (aB.take k) (aB.drop k) ox nx ?_) (c.hh.mono (by omega)) c.kp
              rw [List.length_append, List.length_append, List.length_take, List.length_drop]; simp; omega
            · walk_at "rd"
              refine ⟨l, _, rfl, .inl ⟨SqL.of hl, fun g1 n1 => ?_⟩⟩
              generalize hE : upd H9 g1 _ = G1
              obtain ⟨c, h1, m1, u⟩ := c.new n1 hE
              clear hE
              have hl := u _ _ ml hl
              have hT := hT.same fun b o h => u.hide b _ h
              walk_at "rd"
              refine ⟨l, _, rfl, SqL.of hl, fun g2 n2 => ?_⟩
              rw [cut_hiV]
              generalize hE : upd G1 g2 _ = G2
              obtain ⟨c, h2, m2, u⟩ := c.new n2 hE
              clear hE
              have hT := hT.same fun b o h => u.hide b _ h
              have h1 := u _ _ m1 h1
              walk_at "rd"
              refine ⟨(by show 2 ≤ sizeLine; decide), fun g3 n3 => ?_⟩
              generalize hE : upd G2 g3 _ = G3
              obtain ⟨c, h3, m3, u⟩ := c.new n3 hE
              clear hE
              have hT := hT.same fun b o h => u.hide b _ h
              have h1 := u _ _ m1 h1
              have h2 := u _ _ m2 h2
              walk_at "rd"
              refine ⟨p, _, 2, rfl, c.hh, by omega, by decide, by decide, fun j G4 j0 j1 hh4 k4 => ?_⟩
              obtain ⟨c, u⟩ := c.draw k4 hh4
              have hT := hT.same fun b o h => u.hide b _ h
              have h1 := u _ _ m1 h1
              have h2 := u _ _ m2 h2
              have h3 := u _ _ m3 h3
              have hD := hT.dws
              rw [hds] at hD
              obtain ⟨y, dy, hiy, hy, oy⟩ : ∃ y dy, atI [V.ref g1, .ref g2] j = some y ∧ DW (hide M G4) y dy ∧ okT dy := by
                have : j = 0 ∨ j = 1 := by omega
                rcases this with rfl | rfl
                · exact ⟨_, _, rfl, dw_tup m1 h1 hD, aB.tup (by omega)⟩
                · exact ⟨_, _, rfl, dw_lst m2 h2 (hD.take k), (aB.take k).lst (by rw [List.length_take]; omega)⟩
              refine rd_ixL (SqL.of h3) hiy ?_
              exact q _ _ _ hy oy (c.hh.mono (by omega)) c.kp
theorem ok__law_right {f : Addr} {fd : FuncData} (F : Fun K "_law_right" "_law_right" s__law_right f fd) (mF : mg "_law_right" = some (.ref f)) (bF : Binds K fd ["_law_many_here", "_law_thing"] []) (T : Bl mg) (C__law_is_book : Cal P w K mg base "_law_is_book" ["_law_many_here", "_law_thing"] 2 (sp__law_is_book K)) (C_is_book : Cal P w K mg base "is_book" ["count", "thing"] 5 (sp_is_book K)) : Cal P w K mg base "_law_right" ["_law_many_here", "_law_thing"] 6 (sp__law_right K) := by
  refine Cal.of F mF bF sc__law_right (fun vs H Q E h => ?_) (fun cdv A outer s H vs Q E hr h => ?_)
  · obtain ⟨c, x, d, rfl, _⟩ := h; rfl
  obtain ⟨c, x, d, rfl, hx, ok, q⟩ := h
  have hu := hr.units
  refine ⟨_, (pss_cons (ps_set (i := 2) sc__law_right.nd rfl (Or.inl rfl) (pcl C__law_is_book (hr.mono (by decide)) (pa_cons (pv 0) (pa_cons (pv 1) pa_nil stx_Name) stx_Name)))
      (pss_cons (ps_set (i := 3) sc__law_right.nd rfl (Or.inl rfl) (pe_callB (call_repr hr.gd hu) rfl T.repr bt_repr (pa_cons (pv 1) pa_nil stx_Name)))
      (pss_cons (ps_for PassesOwn.never rfl (pi_range1 rfl T.range (pa_cons pe_int pa_nil stx_Constant)) (pg_name (i := 4) sc__law_right.nd rfl (Or.inl rfl)) (pss_cons (ps_set (i := 5) sc__law_right.nd rfl (Or.inl rfl) (pcl C_is_book (hr.mono (by decide)) (pa_cons (pv 0) (pa_cons (pv 1) pa_nil stx_Name) stx_Name)))
      (pss_one (ps_if (PW.pt (pw_or (pt_not (pt_val (pe_callB call_isinst rfl T.isinstance bt_isinstance (pa_cons (pv 5) (pa_cons (pe_bltn (v := .ty "bool") rfl T.bool bt_bool rfl) pa_nil stx_Name) stx_Name)))) (pw_or (pt_cmpR op_ne (pv 5) (pv 2) (nomark _)) (pw_or1 (pt_cmpR op_ne (pe_callB (call_repr hr.gd hu) rfl T.repr bt_repr (pa_cons (pv 1) pa_nil stx_Name)) (pv 3) (nomark _)))))) (pss_one (ps_ret pe_bl)) pss_nil))))
      (pss_one (ps_ret pe_bl))))), ?_⟩
  rw [st__law_right]
  walk_at "rd"
  refine ⟨c, x, d, rfl, hx, ok, fun H1 s1 => ?_⟩
  walk_at "rd"
  refine rd_repr (hx.mono s1) ok ?_
  walk_at "rd"
  refine ⟨_, rfl, by omega, by omega, ?_⟩
  refine for_rangeO (n := (2 : Int).toNat) (fun i σ H' => (∃ x1 x2, σ = [some (.int c), some x, some (.bl (isBookD c d)), some (.str d.shown), x1, x2]) ∧ Same H H') ⟨⟨_, _, rfl⟩, s1⟩ ?_ ?_
  · rintro i σ H2 hi ⟨⟨x1, x2, rfl⟩, s2⟩
    walk_at "rd"
    refine ⟨c, x, d, rfl, hx.mono s2, fun H3 s3 => ?_⟩
    walk_at "rd"
    refine rd_isi (.bl _) (b := true) rfl ?_
    walk_at "rd"
    refine rd_ifn (fun z => absurd rfl z) (fun _ => ?_)
    walk_at "rd"
    refine rd_repr (hx.mono (s2.trans s3)) ok ?_
    walk_at "rd"
    refine ⟨rfl, ?_⟩
    rw [decide_eq_true rfl]
    walk_at "rd"
    exact ⟨⟨_, _, rfl⟩, s2.trans s3⟩
  · rintro σ H2 ⟨⟨x1, x2, rfl⟩, s2⟩
    walk_at "rd"
    exact q _ s2
theorem ok_law {f : Addr} {fd : FuncData} (F : Fun K "law" "law" s_law f fd) (T : Bl mg) (C__law_open : Cal P w K mg base "_law_open" ["_law_script", "_law_place"] 1 (sp__law_open K)) (C__law_many : Cal P w K mg base "_law_many" ["_law_hand"] 2 (sp__law_many K)) (C__law_splits : Cal P w K mg base "_law_splits" ["_law_hand"] 2 (sp__law_splits K)) (C__law_drawn_book : Cal P w K mg base "_law_drawn_book" ["_law_hand", "_law_many_here", "_law_splits_here"] 2 (sp__law_drawn_book K)) (C__law_spoilt : Cal P w K mg base "_law_spoilt" ["_law_hand", "_law_told"] 3 (sp__law_spoilt K)) (C__law_right : Cal P w K mg base "_law_right" ["_law_many_here", "_law_thing"] 6 (sp__law_right K)) (C__law_draw : Cal P w K mg base "_law_draw" ["_law_hand", "_law_many_here"] 1 (sp__law_draw K)) : FnOk P w K mg base CX0 7 f fd ["_law_script"] (sp_law K) := by
  refine F.ok sc_law (fun vs H Q E h => ?_) (fun cdv A outer s H vs Q E hr h => ?_)
  · obtain ⟨a, ns, rfl, _⟩ := h; rfl
  obtain ⟨a, ms, rfl, hS, hlen, q⟩ := h
  refine ⟨_, (pss_cons (ps_for PassesOwn.never rfl (pi_range1 rfl T.range (pa_cons (pe_callB (call_maxI rfl) rfl T.max bt_max (pa_cons pe_int (pa_cons (pe_callB (call_minI rfl) rfl T.min bt_min (pa_cons pe_int (pa_cons (pe_callB call_lenL rfl T.len bt_len (pa_cons (pv 0) pa_nil stx_Name)) pa_nil stx_Call) stx_Constant)) pa_nil stx_Call) stx_Constant)) pa_nil stx_Call)) (pg_name (i := 1) sc_law.nd rfl (Or.inl rfl)) (pss_cons (ps_set (i := 2) sc_law.nd rfl (Or.inl rfl) (pcl C__law_open (hr.mono (by decide)) (pa_cons (pv 0) (pa_cons (pv 1) pa_nil stx_Name) stx_Name)))
      (pss_cons (ps_set (i := 3) sc_law.nd rfl (Or.inl rfl) (pcl C__law_many (hr.mono (by decide)) (pa_cons (pv 2) pa_nil stx_Name)))
      (pss_cons (ps_set (i := 4) sc_law.nd rfl (Or.inl rfl) (pcl C__law_splits (hr.mono (by decide)) (pa_cons (pv 2) pa_nil stx_Name)))
      (pss_cons (ps_set (i := 5) sc_law.nd rfl (Or.inr rfl) (pcl C__law_open (hr.mono (by decide)) (pa_cons (pv 0) (pa_cons (pe_op op_add (pv 1) pe_int) pa_nil stx_BinOp) stx_Name)))
      (pss_cons (ps_set (i := 6) sc_law.nd rfl (Or.inr rfl) (pcl C__law_drawn_book (hr.mono (by decide)) (pa_cons (pv 2) (pa_cons (pv 3) (pa_cons (pe_op op_add (pv 4) (pe_op op_mul (pe_callTy call_intB rfl T.int bt_int (pa_cons (pe_cmpR op_eq (pv 4) pe_int (nomark _)) pa_nil stx_Compare)) (pcl C__law_draw (hr.mono (by decide)) (pa_cons (pv 2) (pa_cons pe_int pa_nil stx_Constant) stx_Name)))) pa_nil stx_BinOp) stx_Name) stx_Name)))
      (pss_cons (ps_set (i := 7) sc_law.nd rfl (Or.inl rfl) (pe_op op_cat (pe_lst (pa_cons (pv 6) pa_nil stx_Name)) (pe_comp rfl (blkOk (sc := defScope s_law) (N := ["_law_script", "_law_place", "_law_hand", "_law_count", "_law_splits_here", "_law_spoil", "_law_told", "_law_some", "_law_thing"]) (vs := ["_law_k"]) (fs := ["_law_spoil", "_law_told"]) (js := [5, 6]) (by decide +kernel) rfl rfl) (pi_range1 rfl T.range (pa_cons pe_int pa_nil stx_Constant)) (fun _ _ _ _ => pg_name (i := 0) (show (["_law_k", "_law_spoil", "_law_told"] : List Str).Nodup by decide +kernel) rfl (Or.inl rfl)) (fun _ _ _ _ => pif0) (fun _ _ _ _ => (pcl C__law_spoilt (hr.mono (by decide)) (pa_cons (pv 1) (pa_cons (pv 2) pa_nil stx_Name) stx_Name))))))
      (pss_cons (ps_for PassesOwn.never rfl (pi_list (pe_op op_cat (pv 7) (pe_lst (pa_cons pe_non (pa_cons pe_int (pa_cons pe_str (pa_cons pe_dnewK (pa_cons (pe_tup pa_nil) (pa_cons pe_bl pa_nil stx_Constant) stx_Tuple) stx_Dict) stx_Constant) stx_Constant) stx_Constant)))) (pg_name (i := 8) sc_law.nd rfl (Or.inl rfl)) (pss_one (ps_if (pt_not (pt_val (pcl C__law_right (hr.mono (by decide)) (pa_cons (pv 3) (pa_cons (pv 8) pa_nil stx_Name) stx_Name)))) (pss_one (ps_ret pe_bl)) pss_nil)))
      (pss_one (ps_if (PW.pt (pw_or (pt_not (pt_val (pcl C__law_right (hr.mono (by decide)) (pa_cons (pe_callB (call_minI rfl) rfl T.min bt_min (pa_cons pe_int (pa_cons (pe_op op_add (pv 3) pe_int) pa_nil stx_BinOp) stx_Constant)) (pa_cons (pv 6) pa_nil stx_Name) stx_Call)))) (pw_or1 (pt_not (pt_val (pcl C__law_right (hr.mono (by decide)) (pa_cons (pe_callB (call_maxI rfl) rfl T.max bt_max (pa_cons pe_int (pa_cons (pe_op op_sub (pv 3) pe_int) pa_nil stx_BinOp) stx_Constant)) (pa_cons (pv 6) pa_nil stx_Name) stx_Call))))))) (pss_one (ps_ret pe_bl)) pss_nil))))))))))
      (pss_one (ps_ret pe_bl))), ?_⟩
  rw [st_law]
  walk_at "rd"
  refine rd_lenL hS ?_
  walk_at "rd"
  rw [List.length_map]
  refine ⟨_, rfl, by omega, by omega, ?_⟩
  have n20 : (max (4 : Int) (min 20 (ms.length : Int))).toNat ≤ 20 := by omega
  generalize (max (4 : Int) (min 20 (ms.length : Int))).toNat = m at n20 ⊢
  refine for_rangeO (n := m) (fun i σ H' => (∃ x1 x2 x3 x4 x5 x6 x7 x8, σ = [some (.ref a), x1, x2, x3, x4, x5, x6, x7, x8]) ∧ Same H H') ⟨⟨_, _, _, _, _, _, _, _, rfl⟩, Same.refl H⟩ ?_ ?_
  · rintro i σ H' hi ⟨⟨x1, x2, x3, x4, x5, x6, x7, x8, rfl⟩, s1⟩
    walk_at "rd"
    refine ⟨a, ms, 0 + i, rfl, s1.seq hS, hlen, by omega, by omega, fun p H1 np s2 hh1 => ?_⟩
    have nH : H p = none := s1.free np
    walk_at "rd"
    refine ⟨p, _, rfl, hh1, by decide, fun c H2 c0 c1 hh2 kp2 => ?_⟩
    walk_at "rd"
    refine ⟨p, _, rfl, hh2, by decide, fun n H3 n0 n1 hh3 kp3 => ?_⟩
    have s3 : Same H H3 := Kp.new (s1.trans s2) nH (kp2.trans kp3)
    walk_at "rd"
    refine ⟨a, ms, 0 + i + 100, rfl, s3.seq hS, hlen, by omega, by omega, fun p2 H4 np2 s4 hh4 => ?_⟩
    have hh14 := hh3.same s4
    have nH2 : H p2 = none := s3.free np2
    walk_at "rd"
    refine ⟨p, _, 2, rfl, hh14, by decide, by decide, by decide, fun z H5 z0 z1 hh5 kp5 => ?_⟩
    have npp : p2 ≠ p := fun e => by
      obtain ⟨l, d, c, ns, h1, _⟩ := hh3.ex
      rw [e, h1] at np2; cases np2
    obtain ⟨n', en, m0, m1⟩ : ∃ n' : Int, n + (if decide (n = 129) = true then 1 else 0) * z = n' ∧ 0 ≤ n' ∧ n' ≤ 130 := by
      by_cases e : n = 129
      · rw [if_pos (decide_eq_true e)]; exact ⟨_, rfl, by omega, by omega⟩
      · rw [if_neg (by rw [decide_eq_false e]; exact nofun)]; exact ⟨_, rfl, by omega, by omega⟩
    walk_at "rd"
    rw [en]
    refine ⟨p, _, c, n', rfl, hh5, by decide, c0, c1, m0, m1, fun l bs H6 nl hB hV hl hh6 kp6 => ?_⟩
    have kp46 := kp5.trans kp6
    have s6 : Same H H6 := Kp.new (s3.trans s4) nH kp46
    have hp2 : Hand H6 p2 1100000 := hand_kp52 hh4 hh14 kp46 npp
    obtain ⟨as, hL, hT⟩ := hB
    have nl2 : l ≠ p2 := fun e => by
      obtain ⟨l', d, c, ns, h1, _⟩ := hh4.ex
      have := kp5.1 _ _ h1 npp
      rw [e] at nl
      rw [nl] at this; cases this
    walk_at "rd"
    refine ⟨(by show 1 ≤ sizeLine; decide), fun L nL => ?_⟩
    generalize hE : upd H6 L _ = H7
    obtain ⟨hL7, s7⟩ := newo nL hE
    clear hE
    have hL := s7 _ _ hL
    have hT := hT.same fun b o => s7 b _
    have hp2 := hp2.same s7
    walk_at "rd"
    refine ⟨6, rfl, by decide, by decide, fun D nD => ?_⟩
    have nDl : D ≠ l := (ne_of_none hL nD).symm
    have nDp := hp2.ne nD
    generalize hM : (fun z : Addr => decide (z = p2) || decide (z = D)) = M
    have Mp : M p2 = true := by subst hM; simp
    have MD : M D = true := by subst hM; simp
    have Mo : ∀ z, z ≠ p2 → z ≠ D → M z = false := fun z a b => by subst hM; simp [a, b]
    have Mi : ∀ z, M z = true → z = p2 ∨ z = D := fun z h => by subst hM; simpa using h
    refine comp_range (n := (6 : Int).toNat) (fun i σ' ys H' => (∃ x, σ' = [x, some (.ref p2), some (.ref l)]) ∧ ys.length = i ∧ CK H7 p2 D (1100000 + 20 * i) ys H' ∧ (∀ y ∈ ys, ∃ d, DW (hide M H') y d ∧ okT d)) D ⟨⟨_, rfl⟩, rfl, CK.start hp2 nD, fun y hy => absurd hy List.not_mem_nil⟩ ?_ ?_
    · rintro j σ' ys H8 hj ⟨⟨x, rfl⟩, yl, ck, hy⟩
      have held : Held M H8 := fun z hz => by
        rcases Mi z hz with rfl | rfl
        · obtain ⟨l', d, c, ns, h1, _⟩ := ck.hh.ex
          rw [h1]; exact nofun
        · rw [ck.lat]; exact nofun
      have hl8 : hide M H8 l = some (.lst (as.map V.ref)) := by rw [hide_at (Mo l nl2 nDl.symm)]; exact ck.kp.1 _ _ hL nl2
      have sub78 : ∀ b o, H7 b = some (.tup o) → hide M H8 b = some (.tup o) := fun b o h => by
        have b1 : b ≠ p2 := by
          obtain ⟨l', d, c, ns, h1, _⟩ := hp2.ex
          exact ne_of h h1 (by intro z; cases z)
        rw [hide_at (Mo b b1 (ne_of_none h nD))]; exact ck.kp.1 _ _ h b1
      walk_at "rd"
      refine ⟨p2, l, _, as, bs, M, rfl, ck.hh, by omega, Mp, held, hl8, hT.same sub78, hV, by omega, fun y d H9 hw ok hh9 k9 => ?_⟩
      have ck9 := ck.draw k9 hh9
      obtain ⟨_, sub⟩ := (Od.start ck.hh Mp held).draw k9 hh9
      refine ⟨ck9.lat, small1000 (by omega), ⟨_, rfl⟩, by rw [List.length_append, yl]; rfl, ?_, fun z hz => ?_⟩
      · have := ck9.push (zs := ys ++ [y])
        exact ⟨this.hh.mono (by omega), this.lat, this.kp, this.n0, this.np, this.nc⟩
      · have e : ∀ {x : V} {d : PyData}, DW (hide M H9) x d → DW (hide M (upd H9 D (.lst (ys ++ [y])))) x d := fun h => h.sub fun b o m e => by
          rw [upd_ne (fun z => by rw [z, MD] at m; cases m)]; exact e
        rcases List.mem_append.mp hz with hz | hz
        · obtain ⟨d', h1, h2⟩ := hy z hz
          exact ⟨d', e (h1.sub sub), h2⟩
        · rw [List.mem_singleton.mp hz]; exact ⟨d, e hw, ok⟩
    · rintro σ' ys H8 ⟨⟨x, rfl⟩, yl, ck, hy⟩
      have s8 : Same H H8 := Kp.new (s6.trans s7) nH2 ck.kp
      have hL8 := ck.kp.1 _ _ hL nl2
      have hL78 := ck.kp.1 _ _ hL7 (hand_ne52 hp2 hL7)
      have nL0 : L ≠ D := ne_of_none hL7 nD
      have hT8 := hT.same (t4_kp hp2 ck.kp)
      have dT : DW H8 (.ref l) (.list (bs.map fun b => .tuple (dB b))) := .lst hL8 hT8.dws
      have oT : okT (.list (bs.map fun b => .tuple (dB b))) := (allB_of hV).lst (by rw [List.length_map]; omega)
      have hall : ∀ y ∈ [V.ref l] ++ ys, ∃ d, DW H8 y d ∧ okT d := fun y h => by
        rcases List.mem_append.mp h with h | h
        · rw [List.mem_singleton.mp h]; exact ⟨_, dT, oT⟩
        · obtain ⟨d, h1, h2⟩ := hy y h
          exact ⟨d, dw_sub h1, h2⟩
      walk_at "rd"
      refine ⟨L, D, _, _, rfl, rfl, hL78, ck.lat, Nat.le_trans (show _ ≤ 140 by rw [yl]; exact (by decide : 1 + 6 ≤ 140)) (by decide), fun L2 nL2 => ?_⟩
      generalize hE : upd H8 L2 _ = H9
      obtain ⟨hL2, s9⟩ := newo nL2 hE
      clear hE
      walk_at "rd"
      intro o1 no1
      generalize hE : upd H9 o1 _ = HA
      obtain ⟨ho1, sA⟩ := newo no1 hE
      clear hE
      walk_at "rd"
      refine ⟨by decide, fun o2 no2 => ?_⟩
      generalize hE : upd HA o2 _ = HB
      obtain ⟨ho2, sB⟩ := newo no2 hE
      clear hE
      walk_at "rd"
      refine ⟨(by show 6 ≤ sizeLine; decide), fun o3 no3 => ?_⟩
      generalize hE : upd HB o3 _ = HC
      obtain ⟨ho3, sC⟩ := newo no3 hE
      clear hE
      have s8C := ((s9.trans sA).trans sB).trans sC
      walk_at "rd"
      refine ⟨L2, o3, _, _, rfl, rfl, ((sA.trans sB).trans sC) _ _ hL2, ho3, Nat.le_trans (show _ ≤ 140 by rw [List.length_append, yl]; exact (by decide : 1 + 6 + 6 ≤ 140)) (by decide), fun L3 nL3 => ?_⟩
      generalize hE : upd HC L3 _ = HD
      obtain ⟨hL3, sD⟩ := newo nL3 hE
      clear hE
      have s8D := s8C.trans sD
      have all2 : ∀ y ∈ [V.ref l] ++ ys ++ [.non, .int 0, .str "", .ref o1, .ref o2, .bl true], ∃ d, DW HD y d ∧ okT d := fun y h => by
        rcases List.mem_append.mp h with h | h
        · obtain ⟨d, h1, h2⟩ := hall y h
          exact ⟨d, h1.mono s8D, h2⟩
        · simp only [List.mem_cons, List.not_mem_nil, or_false] at h
          rcases h with rfl | rfl | rfl | rfl | rfl | rfl
          · exact ⟨_, .non, trivial⟩
          · exact ⟨_, .int _, .inl (by omega)⟩
          · exact ⟨_, .str _, ⟨by decide +kernel, by decide +kernel⟩⟩
          · exact ⟨_, .dic (((sB.trans sC).trans sD) _ _ ho1), trivial⟩
          · exact ⟨_, .tup ((sC.trans sD) _ _ ho2) .nil, AllB.tup (fun d hd => absurd hd List.not_mem_nil) (by simp)⟩
          · exact ⟨_, .bl _, trivial⟩
      generalize hxs : [V.ref l] ++ ys ++ [V.non, .int 0, .str "", .ref o1, .ref o2, .bl true] = xs at hL3 all2
      refine ⟨L3, rfl, ⟨_, SqL.of hL3⟩, ?_⟩
      refine for_listO (xs := xs) (fun j σ H' => (∃ x, σ = [some (.ref a), some (.int (0 + i)), some (.ref p), some (.int c), some (.int n), some (.ref p2), some (.ref l), some (.ref L2), x]) ∧ Same HD H') ⟨⟨_, rfl⟩, Same.refl HD⟩ (fun _ _ _ _ h => SqL.of (h.2 _ _ hL3)) ?_ ?_
      · rintro j x σ HE hx ⟨⟨x0, rfl⟩, sE⟩
        obtain ⟨d, hd, ok⟩ := all2 x (List.mem_of_getElem? hx)
        walk_at "rd"
        refine ⟨c, x, d, rfl, hd.mono sE, ok, fun HF sF => ?_⟩
        walk_at "rd"
        exact ⟨⟨_, rfl⟩, sE.trans sF⟩
      · rintro σ HE ⟨⟨x0, rfl⟩, sE⟩
        have s8E := s8D.trans sE
        walk_at "rd"
        refine ⟨_, _, _, rfl, dT.mono s8E, oT, fun HF sF => ?_⟩
        walk_at "rd"
        refine ⟨_, _, _, rfl, dT.mono (s8E.trans sF), oT, fun HG sG => ?_⟩
        walk_at "rd"
        exact ⟨⟨_, _, _, _, _, _, _, _, rfl⟩, ((s8.trans s8E).trans sF).trans sG⟩
  · rintro σ H' ⟨⟨x1, x2, x3, x4, x5, x6, x7, x8, rfl⟩, s1⟩
    walk_at "rd"
    exact q _
end
theorem all_mk {l : PySem.W.OpenLaw} {w : World} {K : PySem.W.Frag} {h : Heap} {mg : Str → Option Value} {fa : Addr} (X : K.In h) (G : h.Ns mainGlobals mg) (hfa : mg "law" = some (.ref fa))
    {f0 : Addr} {od0 an0 : Option Addr} {sl0 : Array (Option Value)} {oc0 kV0 dc0 pm0 cd0 ct0 : Value} (a0 : PySem.W.nsIn K mainGlobals "level" = some (some (.ref f0))) (l0 : K.lookup f0 = some ⟨oc0, od0, .func (PySem.W.fnOf "level" "level" (defArgs s_level) (defBody s_level) (defScope s_level) .none kV0 dc0 pm0 an0 cd0 ct0), sl0⟩) (c0 : PySem.W.codeIn K cd0 "level" = true) (k0 : PySem.W.keepIn K (.ref f0) = true)
    {f1 : Addr} {od1 an1 : Option Addr} {sl1 : Array (Option Value)} {oc1 kV1 dc1 pm1 cd1 ct1 : Value} (a1 : PySem.W.nsIn K mainGlobals "turn" = some (some (.ref f1))) (l1 : K.lookup f1 = some ⟨oc1, od1, .func (PySem.W.fnOf "turn" "turn" (defArgs s_turn) (defBody s_turn) (defScope s_turn) .none kV1 dc1 pm1 an1 cd1 ct1), sl1⟩) (c1 : PySem.W.codeIn K cd1 "turn" = true) (k1 : PySem.W.keepIn K (.ref f1) = true)
    {f2 : Addr} {od2 an2 : Option Addr} {sl2 : Array (Option Value)} {oc2 kV2 dc2 pm2 cd2 ct2 : Value} (a2 : PySem.W.nsIn K mainGlobals "split_of" = some (some (.ref f2))) (l2 : K.lookup f2 = some ⟨oc2, od2, .func (PySem.W.fnOf "split_of" "split_of" (defArgs s_split_of) (defBody s_split_of) (defScope s_split_of) .none kV2 dc2 pm2 an2 cd2 ct2), sl2⟩) (c2 : PySem.W.codeIn K cd2 "split_of" = true) (k2 : PySem.W.keepIn K (.ref f2) = true)
    {f3 : Addr} {od3 an3 : Option Addr} {sl3 : Array (Option Value)} {oc3 kV3 dc3 pm3 cd3 ct3 : Value} (a3 : PySem.W.nsIn K mainGlobals "is_whole" = some (some (.ref f3))) (l3 : K.lookup f3 = some ⟨oc3, od3, .func (PySem.W.fnOf "is_whole" "is_whole" (defArgs s_is_whole) (defBody s_is_whole) (defScope s_is_whole) .none kV3 dc3 pm3 an3 cd3 ct3), sl3⟩) (c3 : PySem.W.codeIn K cd3 "is_whole" = true) (k3 : PySem.W.keepIn K (.ref f3) = true)
    {f4 : Addr} {od4 an4 : Option Addr} {sl4 : Array (Option Value)} {oc4 kV4 dc4 pm4 cd4 ct4 : Value} (a4 : PySem.W.nsIn K mainGlobals "is_book" = some (some (.ref f4))) (l4 : K.lookup f4 = some ⟨oc4, od4, .func (PySem.W.fnOf "is_book" "is_book" (defArgs s_is_book) (defBody s_is_book) (defScope s_is_book) .none kV4 dc4 pm4 an4 cd4 ct4), sl4⟩) (c4 : PySem.W.codeIn K cd4 "is_book" = true) (k4 : PySem.W.keepIn K (.ref f4) = true)
    {f5 : Addr} {od5 an5 : Option Addr} {sl5 : Array (Option Value)} {oc5 kV5 dc5 pm5 cd5 ct5 : Value} (a5 : PySem.W.nsIn K mainGlobals "is_split" = some (some (.ref f5))) (l5 : K.lookup f5 = some ⟨oc5, od5, .func (PySem.W.fnOf "is_split" "is_split" (defArgs s_is_split) (defBody s_is_split) (defScope s_is_split) .none kV5 dc5 pm5 an5 cd5 ct5), sl5⟩) (c5 : PySem.W.codeIn K cd5 "is_split" = true) (k5 : PySem.W.keepIn K (.ref f5) = true)
    {f6 : Addr} {od6 an6 : Option Addr} {sl6 : Array (Option Value)} {oc6 kV6 dc6 pm6 cd6 ct6 : Value} (a6 : PySem.W.nsIn K mainGlobals "do_split" = some (some (.ref f6))) (l6 : K.lookup f6 = some ⟨oc6, od6, .func (PySem.W.fnOf "do_split" "do_split" (defArgs s_do_split) (defBody s_do_split) (defScope s_do_split) .none kV6 dc6 pm6 an6 cd6 ct6), sl6⟩) (c6 : PySem.W.codeIn K cd6 "do_split" = true) (k6 : PySem.W.keepIn K (.ref f6) = true)
    {f7 : Addr} {od7 an7 : Option Addr} {sl7 : Array (Option Value)} {oc7 kV7 dc7 pm7 cd7 ct7 : Value} (a7 : PySem.W.nsIn K mainGlobals "_law_open" = some (some (.ref f7))) (l7 : K.lookup f7 = some ⟨oc7, od7, .func (PySem.W.fnOf "_law_open" "_law_open" (defArgs s__law_open) (defBody s__law_open) (defScope s__law_open) .none kV7 dc7 pm7 an7 cd7 ct7), sl7⟩) (c7 : PySem.W.codeIn K cd7 "_law_open" = true) (k7 : PySem.W.keepIn K (.ref f7) = true)
    {f8 : Addr} {od8 an8 : Option Addr} {sl8 : Array (Option Value)} {oc8 kV8 dc8 pm8 cd8 ct8 : Value} (a8 : PySem.W.nsIn K mainGlobals "_law_draw" = some (some (.ref f8))) (l8 : K.lookup f8 = some ⟨oc8, od8, .func (PySem.W.fnOf "_law_draw" "_law_draw" (defArgs s__law_draw) (defBody s__law_draw) (defScope s__law_draw) .none kV8 dc8 pm8 an8 cd8 ct8), sl8⟩) (c8 : PySem.W.codeIn K cd8 "_law_draw" = true) (k8 : PySem.W.keepIn K (.ref f8) = true)
    {f9 : Addr} {od9 an9 : Option Addr} {sl9 : Array (Option Value)} {oc9 kV9 dc9 pm9 cd9 ct9 : Value} (a9 : PySem.W.nsIn K mainGlobals "_law_split" = some (some (.ref f9))) (l9 : K.lookup f9 = some ⟨oc9, od9, .func (PySem.W.fnOf "_law_split" "_law_split" (defArgs s__law_split) (defBody s__law_split) (defScope s__law_split) .none kV9 dc9 pm9 an9 cd9 ct9), sl9⟩) (c9 : PySem.W.codeIn K cd9 "_law_split" = true) (k9 : PySem.W.keepIn K (.ref f9) = true)
    {f10 : Addr} {od10 an10 : Option Addr} {sl10 : Array (Option Value)} {oc10 kV10 dc10 pm10 cd10 ct10 : Value} (a10 : PySem.W.nsIn K mainGlobals "_law_drawn_book" = some (some (.ref f10))) (l10 : K.lookup f10 = some ⟨oc10, od10, .func (PySem.W.fnOf "_law_drawn_book" "_law_drawn_book" (defArgs s__law_drawn_book) (defBody s__law_drawn_book) (defScope s__law_drawn_book) .none kV10 dc10 pm10 an10 cd10 ct10), sl10⟩) (c10 : PySem.W.codeIn K cd10 "_law_drawn_book" = true) (k10 : PySem.W.keepIn K (.ref f10) = true)
    {f11 : Addr} {od11 an11 : Option Addr} {sl11 : Array (Option Value)} {oc11 kV11 dc11 pm11 cd11 ct11 : Value} (a11 : PySem.W.nsIn K mainGlobals "_law_many" = some (some (.ref f11))) (l11 : K.lookup f11 = some ⟨oc11, od11, .func (PySem.W.fnOf "_law_many" "_law_many" (defArgs s__law_many) (defBody s__law_many) (defScope s__law_many) .none kV11 dc11 pm11 an11 cd11 ct11), sl11⟩) (c11 : PySem.W.codeIn K cd11 "_law_many" = true) (k11 : PySem.W.keepIn K (.ref f11) = true)
    {f12 : Addr} {od12 an12 : Option Addr} {sl12 : Array (Option Value)} {oc12 kV12 dc12 pm12 cd12 ct12 : Value} (a12 : PySem.W.nsIn K mainGlobals "_law_splits" = some (some (.ref f12))) (l12 : K.lookup f12 = some ⟨oc12, od12, .func (PySem.W.fnOf "_law_splits" "_law_splits" (defArgs s__law_splits) (defBody s__law_splits) (defScope s__law_splits) .none kV12 dc12 pm12 an12 cd12 ct12), sl12⟩) (c12 : PySem.W.codeIn K cd12 "_law_splits" = true) (k12 : PySem.W.keepIn K (.ref f12) = true)
    {f13 : Addr} {od13 an13 : Option Addr} {sl13 : Array (Option Value)} {oc13 kV13 dc13 pm13 cd13 ct13 : Value} (a13 : PySem.W.nsIn K mainGlobals "_law_is_book" = some (some (.ref f13))) (l13 : K.lookup f13 = some ⟨oc13, od13, .func (PySem.W.fnOf "_law_is_book" "_law_is_book" (defArgs s__law_is_book) (defBody s__law_is_book) (defScope s__law_is_book) .none kV13 dc13 pm13 an13 cd13 ct13), sl13⟩) (c13 : PySem.W.codeIn K cd13 "_law_is_book" = true) (k13 : PySem.W.keepIn K (.ref f13) = true)
    {f14 : Addr} {od14 an14 : Option Addr} {sl14 : Array (Option Value)} {oc14 kV14 dc14 pm14 cd14 ct14 : Value} (a14 : PySem.W.nsIn K mainGlobals "_law_odd_split" = some (some (.ref f14))) (l14 : K.lookup f14 = some ⟨oc14, od14, .func (PySem.W.fnOf "_law_odd_split" "_law_odd_split" (defArgs s__law_odd_split) (defBody s__law_odd_split) (defScope s__law_odd_split) .none kV14 dc14 pm14 an14 cd14 ct14), sl14⟩) (c14 : PySem.W.codeIn K cd14 "_law_odd_split" = true) (k14 : PySem.W.keepIn K (.ref f14) = true)
    {f15 : Addr} {od15 an15 : Option Addr} {sl15 : Array (Option Value)} {oc15 kV15 dc15 pm15 cd15 ct15 : Value} (a15 : PySem.W.nsIn K mainGlobals "_law_spoilt" = some (some (.ref f15))) (l15 : K.lookup f15 = some ⟨oc15, od15, .func (PySem.W.fnOf "_law_spoilt" "_law_spoilt" (defArgs s__law_spoilt) (defBody s__law_spoilt) (defScope s__law_spoilt) .none kV15 dc15 pm15 an15 cd15 ct15), sl15⟩) (c15 : PySem.W.codeIn K cd15 "_law_spoilt" = true) (k15 : PySem.W.keepIn K (.ref f15) = true)
    {f16 : Addr} {od16 an16 : Option Addr} {sl16 : Array (Option Value)} {oc16 kV16 dc16 pm16 cd16 ct16 : Value} (a16 : PySem.W.nsIn K mainGlobals "_law_right" = some (some (.ref f16))) (l16 : K.lookup f16 = some ⟨oc16, od16, .func (PySem.W.fnOf "_law_right" "_law_right" (defArgs s__law_right) (defBody s__law_right) (defScope s__law_right) .none kV16 dc16 pm16 an16 cd16 ct16), sl16⟩) (c16 : PySem.W.codeIn K cd16 "_law_right" = true) (k16 : PySem.W.keepIn K (.ref f16) = true)
    {f17 : Addr} {od17 an17 : Option Addr} {sl17 : Array (Option Value)} {oc17 kV17 dc17 pm17 cd17 ct17 : Value} (a17 : PySem.W.nsIn K mainGlobals "law" = some (some (.ref f17))) (l17 : K.lookup f17 = some ⟨oc17, od17, .func (PySem.W.fnOf "law" "law" (defArgs s_law) (defBody s_law) (defScope s_law) .none kV17 dc17 pm17 an17 cd17 ct17), sl17⟩) (c17 : PySem.W.codeIn K cd17 "law" = true) (k17 : PySem.W.keepIn K (.ref f17) = true)
    (z_isinstance : PySem.W.nsIn K mainGlobals "isinstance" = some none)
    (z_int : PySem.W.nsIn K mainGlobals "int" = some none)
    (z_bool : PySem.W.nsIn K mainGlobals "bool" = some none)
    (z_list : PySem.W.nsIn K mainGlobals "list" = some none)
    (z_len : PySem.W.nsIn K mainGlobals "len" = some none)
    (z_tuple : PySem.W.nsIn K mainGlobals "tuple" = some none)
    (z_all : PySem.W.nsIn K mainGlobals "all" = some none)
    (z_abs : PySem.W.nsIn K mainGlobals "abs" = some none)
    (z_range : PySem.W.nsIn K mainGlobals "range" = some none)
    (z_str : PySem.W.nsIn K mainGlobals "str" = some none)
    (z_max : PySem.W.nsIn K mainGlobals "max" = some none)
    (z_repr : PySem.W.nsIn K mainGlobals "repr" = some none)
    (z_min : PySem.W.nsIn K mainGlobals "min" = some none)
    {t_MOST_SPLITS : Tok} (z_MOST_SPLITS : PySem.W.nsIn K mainGlobals "MOST_SPLITS" = some (some (.int 129 t_MOST_SPLITS)))
    : ∃ fd : FuncData, (∀ (s : Shared) (v : Value), BindsTo s fd ⟨[v], []⟩ [("_law_script", v)]) ∧ ∀ base : Heap, K.In base → base.Ns mainGlobals mg → FnOk l.prog w K mg base CX0 7 fa fd ["_law_script"] (sp_law K) := by
  have e := hfa.symm.trans (PySem.W.mg_of X G a17)
  cases e
  have T : Bl mg := ⟨PySem.W.mg_none_of X G z_isinstance, PySem.W.mg_none_of X G z_int, PySem.W.mg_none_of X G z_bool, PySem.W.mg_none_of X G z_list, PySem.W.mg_none_of X G z_len, PySem.W.mg_none_of X G z_tuple, PySem.W.mg_none_of X G z_all, PySem.W.mg_none_of X G z_abs, PySem.W.mg_none_of X G z_range, PySem.W.mg_none_of X G z_str, PySem.W.mg_none_of X G z_max, PySem.W.mg_none_of X G z_repr, PySem.W.mg_none_of X G z_min, ⟨_, PySem.W.mg_of X G z_MOST_SPLITS⟩⟩
  refine ⟨PySem.W.fnOf "law" "law" (defArgs s_law) (defBody s_law) (defScope s_law) .none kV17 dc17 pm17 an17 cd17 ct17, fun s v => .of_eq rfl, fun base _ _ => ?_⟩
  have F0 := fun_mk (st := s_level) l0 c0 k0
  have b0 := F0.binds (ps := ["rooms"]) fun _ _ _ _ _ _ us hl => match us, hl with | [_], _ => rfl
  have C_level := ok_level (P := l.prog) (w := w) (base := base) F0 (PySem.W.mg_of X G a0) b0 T
  have F3 := fun_mk (st := s_is_whole) l3 c3 k3
  have b3 := F3.binds (ps := ["thing"]) fun _ _ _ _ _ _ us hl => match us, hl with | [_], _ => rfl
  have C_is_whole := ok_is_whole (P := l.prog) (w := w) (base := base) F3 (PySem.W.mg_of X G a3) b3 T
  have F6 := fun_mk (st := s_do_split) l6 c6 k6
  have b6 := F6.binds (ps := ["had", "split"]) fun _ _ _ _ _ _ us hl => match us, hl with | [_, _], _ => rfl
  have C_do_split := ok_do_split (P := l.prog) (w := w) (base := base) F6 (PySem.W.mg_of X G a6) b6 T
  have F7 := fun_mk (st := s__law_open) l7 c7 k7
  have b7 := F7.binds (ps := ["_law_script", "_law_place"]) fun _ _ _ _ _ _ us hl => match us, hl with | [_, _], _ => rfl
  have C__law_open := ok__law_open (P := l.prog) (w := w) (base := base) F7 (PySem.W.mg_of X G a7) b7 T
  have F8 := fun_mk (st := s__law_draw) l8 c8 k8
  have b8 := F8.binds (ps := ["_law_hand", "_law_many_here"]) fun _ _ _ _ _ _ us hl => match us, hl with | [_, _], _ => rfl
  have C__law_draw := ok__law_draw (P := l.prog) (w := w) (base := base) F8 (PySem.W.mg_of X G a8) b8 T
  have F9 := fun_mk (st := s__law_split) l9 c9 k9
  have b9 := F9.binds (ps := ["_law_rooms"]) fun _ _ _ _ _ _ us hl => match us, hl with | [_], _ => rfl
  have C__law_split := ok__law_split (P := l.prog) (w := w) (base := base) F9 (PySem.W.mg_of X G a9) b9 T
  have F1 := fun_mk (st := s_turn) l1 c1 k1
  have b1 := F1.binds (ps := ["rooms"]) fun _ _ _ _ _ _ us hl => match us, hl with | [_], _ => rfl
  have C_turn := ok_turn (P := l.prog) (w := w) (base := base) F1 (PySem.W.mg_of X G a1) b1 T C_level
  have F10 := fun_mk (st := s__law_drawn_book) l10 c10 k10
  have b10 := F10.binds (ps := ["_law_hand", "_law_many_here", "_law_splits_here"]) fun _ _ _ _ _ _ us hl => match us, hl with | [_, _, _], _ => rfl
  have C__law_drawn_book := ok__law_drawn_book (P := l.prog) (w := w) (base := base) F10 (PySem.W.mg_of X G a10) b10 T C__law_split C__law_draw
  have F11 := fun_mk (st := s__law_many) l11 c11 k11
  have b11 := F11.binds (ps := ["_law_hand"]) fun _ _ _ _ _ _ us hl => match us, hl with | [_], _ => rfl
  have C__law_many := ok__law_many (P := l.prog) (w := w) (base := base) F11 (PySem.W.mg_of X G a11) b11 T C__law_draw
  have F12 := fun_mk (st := s__law_splits) l12 c12 k12
  have b12 := F12.binds (ps := ["_law_hand"]) fun _ _ _ _ _ _ us hl => match us, hl with | [_], _ => rfl
  have C__law_splits := ok__law_splits (P := l.prog) (w := w) (base := base) F12 (PySem.W.mg_of X G a12) b12 T C__law_draw
  have F13 := fun_mk (st := s__law_is_book) l13 c13 k13
  have b13 := F13.binds (ps := ["_law_many_here", "_law_thing"]) fun _ _ _ _ _ _ us hl => match us, hl with | [_, _], _ => rfl
  have C__law_is_book := ok__law_is_book (P := l.prog) (w := w) (base := base) F13 (PySem.W.mg_of X G a13) b13 T C__law_split
  have F14 := fun_mk (st := s__law_odd_split) l14 c14 k14
  have b14 := F14.binds (ps := ["_law_hand", "_law_split_here"]) fun _ _ _ _ _ _ us hl => match us, hl with | [_, _], _ => rfl
  have C__law_odd_split := ok__law_odd_split (P := l.prog) (w := w) (base := base) F14 (PySem.W.mg_of X G a14) b14 T C__law_draw
  have F2 := fun_mk (st := s_split_of) l2 c2 k2
  have b2 := F2.binds (ps := ["rooms"]) fun _ _ _ _ _ _ us hl => match us, hl with | [_], _ => rfl
  have C_split_of := ok_split_of (P := l.prog) (w := w) (base := base) F2 (PySem.W.mg_of X G a2) b2 T C_turn
  have F15 := fun_mk (st := s__law_spoilt) l15 c15 k15
  have b15 := F15.binds (ps := ["_law_hand", "_law_told"]) fun _ _ _ _ _ _ us hl => match us, hl with | [_, _], _ => rfl
  have C__law_spoilt := ok__law_spoilt (P := l.prog) (w := w) (base := base) F15 (PySem.W.mg_of X G a15) b15 T C__law_draw C__law_odd_split
  have F5 := fun_mk (st := s_is_split) l5 c5 k5
  have b5 := F5.binds (ps := ["had", "thing"]) fun _ _ _ _ _ _ us hl => match us, hl with | [_, _], _ => rfl
  have C_is_split := ok_is_split (P := l.prog) (w := w) (base := base) F5 (PySem.W.mg_of X G a5) b5 T C_split_of C_is_whole
  have F4 := fun_mk (st := s_is_book) l4 c4 k4
  have b4 := F4.binds (ps := ["count", "thing"]) fun _ _ _ _ _ _ us hl => match us, hl with | [_, _], _ => rfl
  have C_is_book := ok_is_book (P := l.prog) (w := w) (base := base) F4 (PySem.W.mg_of X G a4) b4 T C_do_split C_is_split
  have F16 := fun_mk (st := s__law_right) l16 c16 k16
  have b16 := F16.binds (ps := ["_law_many_here", "_law_thing"]) fun _ _ _ _ _ _ us hl => match us, hl with | [_, _], _ => rfl
  have C__law_right := ok__law_right (P := l.prog) (w := w) (base := base) F16 (PySem.W.mg_of X G a16) b16 T C__law_is_book C_is_book
  have F17 := fun_mk (st := s_law) l17 c17 k17
  exact ok_law F17 T C__law_open C__law_many C__law_splits C__law_drawn_book C__law_spoilt C__law_right C__law_draw
theorem walk {l : PySem.W.OpenLaw} {q : Program} {loose : List Str} {XP : (Str → Option Value) → Heap → Prop} {YP : World → Heap → Prop} {d : DefRec} {K : Params → PySem.W.Frag} (hn : l.most = some 63) (hdf : d.params.defaults = [])
    (hY : ∀ (w : World) (h : Heap), YP w h → (K w.params).In h)
    (F : ∀ (w : World) (mg : Str → Option Value) (fa : Addr) (h : Heap), (K w.params).In h → h.Ns mainGlobals mg → mg d.name = some (.ref fa) →
      ∃ fd : FuncData, (∀ (s : Shared) (u : Value), BindsTo s fd ⟨[u], []⟩ [("_law_script", u)]) ∧ ∀ base : Heap, (K w.params).In base → base.Ns mainGlobals mg → FnOk l.prog w (K w.params) mg base CX0 7 fa fd ["_law_script"] (sp_law (K w.params))) :
    PySem.W.WalkO q loose XP YP l.row.toRowW d [] (fun f vs => PySem.call f vs) :=
  L2.walk_of (n := 63) (k := 7) (x := "_law_script") (CX := fun _ => CX0) (sp := fun w => sp_law (K w.params)) hn (by decide) hdf ⟨rfl, by decide, by decide, rfl⟩ hY F (fun _ _ a ns hl _ hS => ⟨a, ns, rfl, hS, hl, fun _ => rfl⟩) fun _ _ _ _ _ z => z
end Law
open PySem PySem.W PyProof.Rows
set_option maxRecDepth 100000 in
set_option maxHeartbeats 0 in
theorem PySem.Challenge.cw_tailrooms_k52_books_looked_at_holds : PySem.Challenge.rw_tailrooms_k52_books_looked_at.Holds := by
  w_on; o_law; k_head; (case hw => w_witness2)
  k_fill
  refine Law.walk (l := PySem.Challenge.rw_tailrooms_k52_books_looked_at) rfl rfl (fun w h Y => PySem.W.kIn_of Y) ?F
  case F =>
    intro w mg fa h KX G hmg
    refine' Law.all_mk KX G hmg ?a0 ?l0 ?c0 ?k0 ?a1 ?l1 ?c1 ?k1 ?a2 ?l2 ?c2 ?k2 ?a3 ?l3 ?c3 ?k3 ?a4 ?l4 ?c4 ?k4 ?a5 ?l5 ?c5 ?k5 ?a6 ?l6 ?c6 ?k6 ?a7 ?l7 ?c7 ?k7 ?a8 ?l8 ?c8 ?k8 ?a9 ?l9 ?c9 ?k9 ?a10 ?l10 ?c10 ?k10 ?a11 ?l11 ?c11 ?k11 ?a12 ?l12 ?c12 ?k12 ?a13 ?l13 ?c13 ?k13 ?a14 ?l14 ?c14 ?k14 ?a15 ?l15 ?c15 ?k15 ?a16 ?l16 ?c16 ?k16 ?a17 ?l17 ?c17 ?k17 ?z_isinstance ?z_int ?z_bool ?z_list ?z_len ?z_tuple ?z_all ?z_abs ?z_range ?z_str ?z_max ?z_repr ?z_min ?z_MOST_SPLITS
    (case a0 => k_is)
    (case l0 => k_is)
    (case c0 => k_is)
    (case k0 => k_is)
    (case a1 => k_is)
    (case l1 => k_is)
    (case c1 => k_is)
    (case k1 => k_is)
    (case a2 => k_is)
    (case l2 => k_is)
    (case c2 => k_is)
    (case k2 => k_is)
    (case a3 => k_is)
    (case l3 => k_is)
    (case c3 => k_is)
    (case k3 => k_is)
    (case a4 => k_is)
    (case l4 => k_is)
    (case c4 => k_is)
    (case k4 => k_is)
    (case a5 => k_is)
    (case l5 => k_is)
    (case c5 => k_is)
    (case k5 => k_is)
    (case a6 => k_is)
    (case l6 => k_is)
    (case c6 => k_is)
    (case k6 => k_is)
    (case a7 => k_is)
    (case l7 => k_is)
    (case c7 => k_is)
    (case k7 => k_is)
    (case a8 => k_is)
    (case l8 => k_is)
    (case c8 => k_is)
    (case k8 => k_is)
    (case a9 => k_is)
    (case l9 => k_is)
    (case c9 => k_is)
    (case k9 => k_is)
    (case a10 => k_is)
    (case l10 => k_is)
    (case c10 => k_is)
    (case k10 => k_is)
    (case a11 => k_is)
    (case l11 => k_is)
    (case c11 => k_is)
    (case k11 => k_is)
    (case a12 => k_is)
    (case l12 => k_is)
    (case c12 => k_is)
    (case k12 => k_is)
    (case a13 => k_is)
    (case l13 => k_is)
    (case c13 => k_is)
    (case k13 => k_is)
    (case a14 => k_is)
    (case l14 => k_is)
    (case c14 => k_is)
    (case k14 => k_is)
    (case a15 => k_is)
    (case l15 => k_is)
    (case c15 => k_is)
    (case k15 => k_is)
    (case a16 => k_is)
    (case l16 => k_is)
    (case c16 => k_is)
    (case k16 => k_is)
    (case a17 => k_is)
    (case l17 => k_is)
    (case c17 => k_is)
    (case k17 => k_is)
    (case z_isinstance => k_is)
    (case z_int => k_is)
    (case z_bool => k_is)
    (case z_list => k_is)
    (case z_len => k_is)
    (case z_tuple => k_is)
    (case z_all => k_is)
    (case z_abs => k_is)
    (case z_range => k_is)
    (case z_str => k_is)
    (case z_max => k_is)
    (case z_repr => k_is)
    (case z_min => k_is)
    (case z_MOST_SPLITS => k_is)
