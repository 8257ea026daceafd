import PyProof.Rows.All
import Wide.All
import OpenK.AllK
import Wide.FinOn
import PyProof.EqAt
import PyProof.EqKinds
import PyProof.TupleCall
import PySem.Challenge.RW_tailrooms_k65_outlook_by_tables
set_option Elab.async false
set_option linter.all false
set_option maxRecDepth 100000
local macro_rules | `(tactic| omega)=>`(tactic| first | lia | omega (config:={}))
namespace L2
open PySem PySem.Spec PyProof.Rows
abbrev Key:=Sum Int Str
def keyIs:Key→Value→Bool
 | .inl k,v=>Value.isInt k v
 | .inr x,v=>Value.isStrOf x v
def keyH (w:World):Key→Int
 | .inl k=>hashInt k
 | .inr x=>hashStr w x
theorem keyIs_shape:∀{k:Key}{v:Value},keyIs k v=true→(∃i t,k=Sum.inl i∧v=Value.int i t) ∨(∃x t,k=Sum.inr x∧v=Value.str x t)
 | .inl i,v,h=>by
  obtain⟨t,e⟩:=Value.isInt_shape (k:=i) (v:=v) h
  exact .inl ⟨i,t,rfl,e⟩
 | .inr x,v,h=>by
  obtain⟨t,e⟩:=Value.isStrOf_shape (x:=x) (v:=v) h
  exact .inr ⟨x,t,rfl,e⟩
theorem keyIs_int (i:Int) (t:Tok):keyIs (.inl i) (.int i t)=true:=by simp[keyIs,Value.isInt]
theorem keyIs_str (x:Str) (t:Tok):keyIs (.inr x) (.str x t)=true:=by simp[keyIs,Value.isStrOf]
theorem key_ll (a b:Int):decide ((Sum.inl a:Key)=Sum.inl b) =(a == b):=by
 by_cases e:a=b
 ·subst e;simp
 ·have h:¬(Sum.inl a:Key)=Sum.inl b:=fun q=>e (Sum.inl.inj q)
  rw[decide_eq_false h]
  exact(beq_eq_false_iff_ne.mpr e).symm
theorem key_rr (a b:Str):decide ((Sum.inr a:Key)=Sum.inr b)=decide (a=b):=by
 by_cases e:a=b
 ·subst e;simp
 ·have h:¬(Sum.inr a:Key)=Sum.inr b:=fun q=>e (Sum.inr.inj q)
  rw[decide_eq_false h,decide_eq_false e]
theorem key_lr (a:Int) (b:Str):decide ((Sum.inl a:Key)=Sum.inr b)=false:=decide_eq_false (fun q=>nomatch q)
theorem key_rl (a:Str) (b:Int):decide ((Sum.inr a:Key)=Sum.inl b)=false:=decide_eq_false (fun q=>nomatch q)
def mixKind (prog:Program) (w:World):PySem.KeyKind prog w Key where
 is:=keyIs
 hash:=keyH w
 inj:=fun v a b ha hb=>by
  rcases keyIs_shape ha with⟨i,t,rfl,rfl⟩|⟨x,t,rfl,rfl⟩
  ·rcases keyIs_shape hb with⟨j,u,rfl,e⟩|⟨y,u,rfl,e⟩
   ·injection e with e1 _;rw[e1]
   ·exact nomatch e
  ·rcases keyIs_shape hb with⟨j,u,rfl,e⟩|⟨y,u,rfl,e⟩
   ·exact nomatch e
   ·injection e with e1 _;rw[e1]
 byValue:=fun k v h=>by
  rcases keyIs_shape h with⟨i,t,rfl,rfl⟩|⟨x,t,rfl,rfl⟩ <;> rfl
 pyHash:=fun hv h=>by
  rcases keyIs_shape hv with⟨i,t,rfl,rfl⟩|⟨x,t,rfl,rfl⟩
  ·exact wpAny_pyHash_int h
  ·exact wpAny_pyHash_str h
 eqBool:=fun hu hv h=>by
  rcases keyIs_shape hu with⟨i,t,rfl,rfl⟩|⟨x,t,rfl,rfl⟩
  ·rcases keyIs_shape hv with⟨j,u,rfl,rfl⟩|⟨y,u,rfl,rfl⟩
   ·rw[key_ll]at h;exact wpAny_eqBool_int h
   ·rw[key_lr]at h;exact SeqAt.EqAt.int_str i t y u _ _ _ _ h
  ·rcases keyIs_shape hv with⟨j,u,rfl,rfl⟩|⟨y,u,rfl,rfl⟩
   ·rw[key_rl]at h;exact SeqAt.EqAt.str_int x t j u _ _ _ _ h
   ·rw[key_rr]at h;exact wpAny_eqBool_str h
 «strs»:=fun k x t v h=>by
  rcases keyIs_shape h with⟨i,u,rfl,e⟩|⟨y,u,rfl,e⟩
  ·exact nomatch e
  ·injection e with e1 _
   subst e1
   cases v <;> rfl
theorem mixKind_is (prog:Program) (w:World) (k:Key) (v:Value):(mixKind prog w).is k v=keyIs k v:=rfl
theorem mixKind_int (prog:Program) (w:World) (i:Int) (t:Tok):(mixKind prog w).is (.inl i) (.int i t)=true:=keyIs_int i t
theorem mixKind_str (prog:Program) (w:World) (x:Str) (t:Tok):(mixKind prog w).is (.inr x) (.str x t)=true:=keyIs_str x t
end L2
namespace L2
open PySem PySem.Spec PyProof.Rows
inductive V where
 | non|bl (b:Bool)|int (i:Int)|str (x:Str)|byt (b:Array UInt8)|flt (b:UInt64)|ref (a:Addr)|ty (n:String)
 deriving DecidableEq
def RelV:V→Value→Prop
 | .non,u=>u=Value.none
 | .bl b,u=>u=Value.bool b
 | .int i,u=>∃t,u=Value.int i t
 | .str x,u=>∃t,u=Value.str x t
 | .byt b,u=>∃t,u=Value.bytes b t
 | .flt b,u=>∃t,u=Value.float b t
 | .ref a,u=>u=Value.ref a
 | .ty n,u=>u=Value.type n
abbrev Vals:List V→List Value→Prop:=Paired RelV
theorem Vals.length {xs:List V}{us:List Value}(r:Vals xs us):xs.length=us.length:=Paired.length r
theorem Vals.get:∀{xs:List V}{us:List Value}{i:Nat}{x:V},Vals xs us→xs[i]? = some x→∃u,us[i]? = some u∧RelV x u
 | _,_,_,_,.nil,e=>by simp at e
 | _,_,0,_,.cons r _,e=>by simp at e;subst e;exact⟨_,rfl,r⟩
 | _,_,i+1,x,.cons _ t,e=>by
  obtain⟨u,h1,h2⟩:=Vals.get (i:=i) (x:=x) t (by simpa using e)
  exact⟨u,by simpa using h1,h2⟩
theorem Vals.set {x:V}{u:Value}(r:RelV x u):∀{xs:List V}{us:List Value}(i:Nat),Vals xs us→Vals (xs.set i x) (us.set i u)
 | _,_,_,.nil=>.nil
 | _,_,0,.cons _ t=>.cons r t
 | _,_,i+1,.cons q t=>.cons q (Vals.set r i t)
theorem Vals.append:∀{xs ys:List V}{us ws:List Value},Vals xs us→Vals ys ws→Vals (xs++ys) (us++ws)
 | _,_,_,_,.nil,s=>s
 | _,_,_,_,.cons r t,s=>.cons r (Vals.append t s)
theorem Vals.take:∀{xs:List V}{us:List Value}(n:Nat),Vals xs us→Vals (xs.take n) (us.take n)
 | _,_,0,_=>.nil
 | _,_,_+1,.nil=>.nil
 | _,_,n+1,.cons r t=>.cons r (Vals.take n t)
theorem Vals.drop:∀{xs:List V}{us:List Value}(n:Nat),Vals xs us→Vals (xs.drop n) (us.drop n)
 | _,_,0,r=>r
 | _,_,_+1,.nil=>.nil
 | _,_,n+1,.cons _ t=>Vals.drop n t
def RelO:Option V→Option Value→Prop
 | some v,some u=>RelV v u
 | none,none=>True
 | _,_=>False
def KV {κ:Type}:List (κ×V)→List (κ×Value)→Prop:=Paired fun(p:κ×V) (q:κ×Value)=>p.1=q.1∧RelV p.2 q.2
def kV:Key→V
 | .inl i=>.int i
 | .inr x=>.str x
inductive HO where
 | lst (xs:List V)
 | tup (xs:List V)
 | dK (kvs:List (Key×V))|dT (kvs:List (List Key×V))
 | set (S:Int→Bool) (n:Nat)
 | ins (C dx:Addr) (fs:List (Str×V))
 | own (x:Addr)
 | xd (fs:List (Str×V))
 | met (f x:Addr)
 | rng (lo hi:Int)
 | frz (o:Obj) (u:HO)
 | tbl (ps:Array Value)
 | ext (φ:Heap→Prop)
abbrev Hp:=Addr→Option HO
def upd (H:Hp) (a:Addr) (o:HO):Hp:=fun b=>if b=a then some o else H b
theorem upd_same {H:Hp}{a:Addr}{o:HO}:upd H a o a=some o:=by unfold upd;rw[if_pos rfl]
theorem upd_ne {H:Hp}{a b:Addr}{o:HO}(h:b≠a):upd H a o b=H b:=by unfold upd;rw[if_neg h]
theorem ne_of {H:Hp}{a b:Addr}{o u:HO}(h:H a=some o) (h':H b=some u) (d:o≠u):a≠b:=by
 intro e;subst e;rw[h]at h';exact d (Option.some.inj h')
theorem ne_of_none {H:Hp}{a b:Addr}{o:HO}(h:H a=some o) (h':H b=none):a≠b:=by
 intro e;subst e;rw[h]at h';cases h'
section
variable (P:Program) (w:World)
def ObjOk (H:Hp) (h:Heap) (a:Addr):HO→Prop
 | .lst xs=>xs.length≤sizeLine∧∃(its:List Value) (n:Nat),Vals xs its∧h.get? a=some { cls:=.type "list",data:=.seq its.toArray n }
 | .tup xs=>xs.length≤sizeLine∧∃its:List Value,Vals xs its∧IsTup h a its.toArray
 | .dK kvs=>kvs.length≤sizeLine∧(a == sysModules)=false∧∃vs,KV kvs vs∧h.DictOf (mixKind P w) a vs
 | .dT kvs=>kvs.length≤sizeLine∧(a == sysModules)=false∧∃xs:List (List Key×Addr×Value),
   Paired (fun(p:List Key×V) (q:List Key×Addr×Value)=>p.1=q.1∧H q.2.1=some (.tup (p.1.map kV))∧RelV p.2 q.2.2) kvs xs ∧
   ∃o es ep,h.get? a=some o∧o.ExactDict∧o.data = .dict es ep∧es.toList=xs.map (entryOfKey (tupleKind (mixKind P w)))∧(xs.map (·.1)).Nodup
 | .set S n=>h.SetOf (intKind P w) a S n
 | .ins C dx fs=>H dx=some (.own a)∧fs.length≤1000∧dx≠a∧h.get? a=some (PySem.W.instObj C dx) ∧
   ∃mA,h.Ns1 dx mA∧(∀f,RelO (fs.lookup f) (mA f))∧PySem.Within mA (fs.map (·.1))
 | .own _=>∃o,h.get? a=some o
 | .xd fs=>∃mA,h.Ns1 a mA∧∀f,RelO (fs.lookup f) (mA f)
 | .rng lo hi=>∃t u v,h.get? a=some { cls:=.type "range",data:=.fields #[.int lo t,.int hi u,.int 1 v] }
 | .frz o u=>h.get? a=some o∧ObjOk H h a u
 | .tbl ps=>h.get? a=some { cls:=.none,data:=.fields ps }
 | .met f x=>h.get? a=some (PySem.W.methodObj (.ref f) (.ref x))
 | .ext φ=>φ h∧(∃o,h.get? a=some o)∧∀h1 h2:Heap,φ h1→(∀o,h1.get? a=some o→h2.get? a=some o)→φ h2
def HOk (H:Hp) (h:Heap):Prop:=∀a o,H a=some o→ObjOk P w H h a o
end
section
variable {P:Program}{w:World}{H H':Hp}{h h':Heap}{a:Addr}{o:HO}
theorem ObjOk.lt (x:ObjOk P w H h a o):a<h.objs.size:=by
 cases o with
 | lst xs=>obtain⟨_,_,_,_,e⟩:=x;exact Heap.lt_size e
 | tup xs=>obtain⟨_,_,_,p⟩:=x;exact p.lt
 | dK kvs=>obtain⟨_,_,_,_,o,_,_,e,_⟩:=x;exact Heap.lt_size e
 | dT kvs=>obtain⟨_,_,_,_,o,_,_,e,_⟩:=x;exact Heap.lt_size e
 | set S n=>obtain⟨o,_,_,_,e,_⟩:=x;exact Heap.lt_size e
 | ins C dx fs=>obtain⟨_,_,_,e,_⟩:=x;exact Heap.lt_size e
 | own y=>obtain⟨_,e⟩:=x;exact Heap.lt_size e
 | xd fs=>obtain⟨_,⟨_,_,_,e,_⟩,_⟩:=x;exact Heap.lt_size e
 | rng lo hi=>obtain⟨_,_,_,e⟩:=x;exact Heap.lt_size e
 | frz ob u=>obtain⟨e,_⟩:=x;exact Heap.lt_size e
 | tbl ps=>exact Heap.lt_size (show h.get? a=some _ from x)
 | met f y=>exact Heap.lt_size (show h.get? a=some _ from x)
 | ext φ=>obtain⟨_,⟨_,e⟩,_⟩:=x;exact Heap.lt_size e
theorem Paired.mapP {α β:Type}{F G:α→β→Prop}:∀{l₁:List α}{l₂:List β},Paired F l₁ l₂→(∀a b,F a b→G a b)→Paired G l₁ l₂
 | _,_,.nil,_=>.nil
 | _,_,.cons r t,f=>.cons (f _ _ r) (Paired.mapP t f)
theorem ObjOk.stay (x:ObjOk P w H h a o) (k:∀b u,(b=a∨H b=some (.own a))→h.get? b=some u→h'.get? b=some u)
  (ho:∀b,H b=some (.own a)→H' b=some (.own a)) (ht:∀b xs,H b=some (.tup xs)→H' b=some (.tup xs)):ObjOk P w H' h' a o:=by
 induction o with
 | lst xs=>obtain⟨z,its,n,r,e⟩:=x;exact⟨z,its,n,r,k _ _ (.inl rfl) e⟩
 | tup xs=>obtain⟨z,its,r,ob,e,c⟩:=x;exact⟨z,its,r,ob,k _ _ (.inl rfl) e,c⟩
 | dK kvs=>obtain⟨z,y,vs,r,ob,es,ep,e,c⟩:=x;exact⟨z,y,vs,r,ob,es,ep,k _ _ (.inl rfl) e,c⟩
 | dT kvs =>
  obtain⟨z,y,xs,r,ob,es,ep,e,c⟩:=x
  exact⟨z,y,xs,Paired.mapP r fun p q z=>⟨z.1,ht _ _ z.2.1,z.2.2⟩,ob,es,ep,k _ _ (.inl rfl) e,c⟩
 | set S n=>obtain⟨ob,es,ep,t,e,c⟩:=x;exact⟨ob,es,ep,t,k _ _ (.inl rfl) e,c⟩
 | ins C dx fs =>
  obtain⟨d,z,ne,e,mA,⟨od,es,ep,e2,c⟩,r⟩:=x
  exact⟨ho _ d,z,ne,k _ _ (.inl rfl) e,mA,⟨od,es,ep,k _ _ (.inr d) e2,c⟩,r⟩
 | own y=>obtain⟨ob,e⟩:=x;exact⟨ob,k _ _ (.inl rfl) e⟩
 | xd fs=>obtain⟨mA,⟨od,es,ep,e,c⟩,r⟩:=x;exact⟨mA,⟨od,es,ep,k _ _ (.inl rfl) e,c⟩,r⟩
 | rng lo hi=>obtain⟨t,u,v,e⟩:=x;exact⟨t,u,v,k _ _ (.inl rfl) e⟩
 | frz ob u ih=>obtain⟨e,q⟩:=x;exact⟨k _ _ (.inl rfl) e,ih q⟩
 | tbl ps =>
  have e:h.get? a=some { cls:=.none,data:=.fields ps }:=x
  show h'.get? a=some { cls:=.none,data:=.fields ps }
  exact k a _ (.inl rfl) e
 | met f y =>
  have e:h.get? a=some (PySem.W.methodObj (.ref f) (.ref y)):=x
  show h'.get? a=some (PySem.W.methodObj (.ref f) (.ref y))
  exact k a _ (.inl rfl) e
 | ext φ=>obtain⟨p,⟨o,e⟩,st⟩:=x;exact⟨st _ _ p fun o q=>k _ _ (.inl rfl) q,⟨o,k _ _ (.inl rfl) e⟩,st⟩
theorem HOk.lt (x:HOk P w H h) (e:H a=some o):a<h.objs.size:=(x a o e).lt
theorem HOk.fresh (x:HOk P w H h) (e:h.objs.size≤a):H a=none:=by
 cases q:H a with
 | none=>rfl
 | some u=>exact absurd (Nat.lt_of_lt_of_le (x.lt q) e) (Nat.lt_irrefl _)
theorem HOk.kept (x:HOk P w H h) (k:∀b u,h.get? b=some u→h'.get? b=some u):HOk P w H h':=fun a o e =>
 (x a o e).stay (fun b u _ q=>k b u q) (fun _ q=>q) fun _ _ q=>q
theorem HOk.laid (x:HOk P w H h) (k:∀b u,h.get? b=some u→h'.get? b=some u) (hp:h.objs.size≤a) (new:ObjOk P w (upd H a o) h' a o):HOk P w (upd H a o) h':=fun b u e=>by
 have hn:=x.fresh hp
 by_cases hb:b=a
 ·subst hb;rw[upd_same]at e;cases e;exact new
 ·rw[upd_ne hb]at e
  exact(x b u e).stay (fun c v _ q=>k c v q) (fun c q=>by rw[upd_ne (ne_of_none q hn)];exact q) fun c xs q=>by rw[upd_ne (ne_of_none q hn)];exact q
end
def Rd (H:Hp) (a:Addr) (u:HO):Prop:=H a=some u ∨ ∃o,H a=some (.frz o u)
theorem Rd.ok {P:Program}{w:World}{H:Hp}{h:Heap}{a:Addr}{u:HO}(r:Rd H a u) (x:HOk P w H h):ObjOk P w H h a u:=by
 rcases r with r|⟨o,r⟩
 ·exact x a u r
 ·obtain⟨_,q⟩:=x a _ r
  exact q
def Mut:Option HO→Prop
 | some (.lst _)=>True
 | some (.dK _)=>True
 | some (.dT _)=>True
 | some (.set _ _)=>True
 | some (.ins _ _ _)=>True
 | some (.ext _)=>True
 | _=>False
section
variable {P:Program}{w:World}{H:Hp}{h h':Heap}{x e:Addr}{o':HO}
theorem HOk.write (ok:HOk P w H h) (mu:Mut (H x)) (he:e=x∨H e=some (.own x)) (k:∀b u,b≠e→h.get? b=some u→h'.get? b=some u) (heo:∃u,h'.get? e=some u)
  (new:ObjOk P w (upd H x o') h' x o'):HOk P w (upd H x o') h':=fun b u q=>by
 have nown:∀c y,H c=some (.own y)→c≠x:=fun c y r z=>by subst z;rw[r]at mu;exact mu
 have ntup:∀c xs,H c=some (.tup xs)→c≠x:=fun c xs r z=>by subst z;rw[r]at mu;exact mu
 by_cases hb:b=x
 ·subst hb;rw[upd_same]at q;cases q;exact new
 ·rw[upd_ne hb]at q
  by_cases hbe:b=e
  ·have q':H b=some (.own x):=by
    rcases he with z|z
    ·exact absurd (hbe.trans z) hb
    ·rw[hbe];exact z
   rw[q]at q';cases q'
   obtain⟨v,hv⟩:=heo
   exact⟨v,by rw[hbe];exact hv⟩
  ·refine(ok b u q).stay (fun c v hc r=>k c v ?_ r) (fun c r=>by rw[upd_ne (nown c b r)];exact r) fun c xs r=>by rw[upd_ne (ntup c xs r)];exact r
   rcases hc with rfl|hc
   ·exact hbe
   ·rintro rfl
    rcases he with z|z
    ·exact nown c b hc z
    ·rw[hc]at z;cases z;exact hb rfl
end
structure Un (fs ex:List Addr) (H H':Hp) (h h':Heap):Prop where
 keep:∀b o,h.get? b=some o→H b=none→b∉fs→b∉ex→h'.get? b=some o
 slot:∀b o,h.get? b=some o→H b=none→b∈fs→b∉ex→∃sl,h'.get? b=some { o with slots:=sl }
 free:∀b o,h.get? b=some o→H b=none→b∉ex→H' b=none
 there:∀b o,h.get? b=some o→b∉ex→∃o',h'.get? b=some o'
 tups:∀b xs,H b=some (.tup xs)→H' b=some (.tup xs)
 frzs:∀b o u,H b=some (.frz o u)→H' b=some (.frz o u)
 tbls:∀b ps,H b=some (.tbl ps)→∃more,H' b=some (.tbl (ps++more))
section
variable {fs fs' ex ex':List Addr}{H H1 H2:Hp}{h h1 h2 h':Heap}{a x e:Addr}{o:HO}
theorem Un.any (u:Un fs ex H H1 h h1) {b:Addr}{ob:Obj}(q:h.get? b=some ob) (n:H b=none) (hx:b∉ex):∃sl,h1.get? b=some { ob with slots:=sl }:=by
 by_cases hb:b∈fs
 ·exact u.slot b ob q n hb hx
 ·exact⟨ob.slots,u.keep b ob q n hb hx⟩
theorem Un.kept (k:∀b u,h.get? b=some u→h'.get? b=some u):Un fs ex H H h h' :=
 ⟨fun b ob q _ _ _=>k b ob q,fun b ob q _ _ _=>⟨ob.slots,k b ob q⟩,fun _ _ _ n _=>n,fun b ob q _=>⟨ob,k b ob q⟩,fun _ _ q=>q,fun _ _ _ q=>q,fun _ ps q=>⟨#[],by rw[q];simp⟩⟩
theorem Un.refl:Un fs ex H H h h:=Un.kept fun _ _ q=>q
theorem Un.laid (k:∀b u,h.get? b=some u→h'.get? b=some u) (hp:h.objs.size≤a) (hn:H a=none):Un fs ex H (upd H a o) h h' where
 keep:=fun b u q _ _ _=>k b u q
 slot:=fun b u q _ _ _=>⟨u.slots,k b u q⟩
 free:=fun b u q n _=>by rw[upd_ne (Nat.ne_of_lt (Nat.lt_of_lt_of_le (Heap.lt_size q) hp))];exact n
 there:=fun b u q _=>⟨u,k b u q⟩
 tups:=fun b xs q=>by rw[upd_ne (ne_of_none q hn)];exact q
 frzs:=fun b u xs q=>by rw[upd_ne (ne_of_none q hn)];exact q
 tbls:=fun b ps q=>⟨#[],by rw[upd_ne (ne_of_none q hn),q];simp⟩
theorem Un.write (mu:Mut (H x)) (he:e=x∨H e=some (.own x)) (k:∀b u,b≠e→h.get? b=some u→h'.get? b=some u) (heo:∃u,h'.get? e=some u):Un fs ex H (upd H x o) h h':=by
 have hx:∀b,H b=none→b≠x:=fun b n z=>by subst z;rw[n]at mu;exact mu
 have hb:∀b,H b=none→b≠e:=fun b n z=>by
  subst z
  rcases he with r|r
  ·exact hx b n r
  ·rw[n]at r;cases r
 have hm:∀b u,H b=some u→¬ Mut (some u)→b≠x:=fun b u q nm z=>by subst z;rw[q]at mu;exact nm mu
 refine⟨fun b u q n _ _=>k b u (hb b n) q,fun b u q n _ _=>⟨u.slots,k b u (hb b n) q⟩,fun b u q n _=>by rw[upd_ne (hx b n)];exact n,fun b u q _=>?_,
  fun b xs q=>by rw[upd_ne (hm b _ q fun z=>z)];exact q,fun b u xs q=>by rw[upd_ne (hm b _ q fun z=>z)];exact q,fun b ps q=>⟨#[],by rw[upd_ne (hm b _ q fun z=>z),q];simp⟩⟩
 by_cases hbe:b=e
 ·subst hbe;exact heo
 ·exact⟨u,k b u hbe q⟩
end
def trk (h:Heap) (H:Hp):List Addr:=(List.range h.objs.size).filter fun a=>(H a).isSome
def hidT (h:Heap) (H:Hp):Heap:=PySem.W.hideAll h (trk h H)
theorem hidT_size (h:Heap) (H:Hp):(hidT h H).objs.size=h.objs.size:=PySem.W.hideAll_size _ _
theorem hidT_get {h:Heap}{H:Hp}{b:Addr}{o:Obj}(e:h.get? b=some o) (n:H b=none):(hidT h H).get? b=some o :=
 PySem.W.hideAll_get _ e fun hm=>by
  have q:(H b).isSome=true:=(List.mem_filter.mp hm).2
  rw[n]at q;simp at q
theorem of_hidT {h:Heap}{H:Hp}{b:Addr}{o:Obj}(e:(hidT h H).get? b=some o):h.get? b=some o∧H b=none:=by
 have e':h.get? b=some o:=PySem.W.of_hideAll (trk h H) e
 refine⟨e',?_⟩
 cases q:H b with
 | none=>rfl
 | some x =>
  have hm:b∈trk h H:=List.mem_filter.mpr ⟨List.mem_range.mpr (Heap.lt_size e'),by simp[q]⟩
  have z:(hidT h H).get? b=none:=PySem.W.hideAll_none (trk h H) hm
  rw[z]at e;cases e
def allNews (g h:Heap) (L:Addr):List (Addr×Obj):=(List.range h.objs.size).filterMap fun a=>if a=L ∨(g.get? a).isSome=true then none else(h.get? a).map fun o=>(a,o)
def rest (g h:Heap) (L d:Addr):List (Addr×Obj):=(allNews g h L).filter fun p=>decide (p.1≠d)
end L2
namespace L2
open PySem PySem.Spec PyProof.Rows
structure Mod (K:PySem.W.Frag) (mg:Str→Option Value) (base:Heap):Prop where
 kin:K.In base
 glob:base.Ns mainGlobals mg
 blt:∃mb,base.Ns builtinsNs mb∧∀x:Str,x ≠ "__name__"→mb x=bootBuiltins x
 nolimit:base.NoLimit
structure Cx where
 prog:Program
 w:World
 K:PySem.W.Frag
 mg:Str→Option Value
 base:Heap
 A:Around
 N:List Str
 s₀:Shared
 H₀:Hp
 env:Env
 outer:List Env
 stack:List Env
 ex:List Addr
 fn:Str→Bool
 calm:Bool
 pn:List (Addr×Obj)
 xe:Value→Shared→Prop
def frs (l:List Env):List Addr:=l.filterMap (·.frame)
abbrev Cx.fs (X:Cx):List Addr:=frs X.outer
def Vis (sc:Scope) (x:Str):Prop:=sc.names.lookup x=some .local∨sc.names.lookup x=some .cell∨sc.names.lookup x=some .free
def Loc (sc:Scope) (x:Str):Prop:=sc.names.lookup x=some .local∨sc.names.lookup x=some .cell
def Look (env:Env) (h:Heap) (m:Str→Option Value) (x:Str) (u:Value):Prop :=
 (env.kindOf x=some .local∧m x=some u) ∨((env.kindOf x=some .cell∨env.kindOf x=some .free)∧∃c,env.cells.lookup x=some c∧h.IsCell c (some u))
structure Cx.Ok (X:Cx):Prop where
 mod:Mod X.K X.mg X.base
 kind:X.env.scope.kind = .function
 glob:X.env.globals=mainGlobals
 blt:X.env.builtins=builtinsNs
 above:X.s₀.heap.objs.size≤X.env.locals
 inj:∀x y c,X.env.cells.lookup x=some c→X.env.cells.lookup y=some c→x=y
 has:∀x,(X.env.kindOf x=some .cell∨X.env.kindOf x=some .free)→∃c,X.env.cells.lookup x=some c
 cab:∀x c,X.fn x=true→X.env.cells.lookup x=some c→X.s₀.heap.objs.size≤c
 hd:X.calm=true→X.A.handled=none
 frames:X.A.frames=some X.stack
 stk:X.stack=X.outer ∨(X.stack=X.env::X.outer∧X.env.frame=some X.env.locals)
 exf:∀b∈X.ex,b≠X.env.locals∧∀x c,X.env.cells.lookup x=some c→c≠b
 bs:∀b o,X.base.get? b=some o→X.s₀.heap.get? b=some o∧X.H₀ b=none
 bsz:X.base.objs.size≤X.s₀.heap.objs.size
 noex:∀b o,X.base.get? b=some o→b∉X.ex
 exfs:∀b∈X.ex,b∉X.fs
 funs:X.s₀.heap.FunFrames X.base X.outer
 frf:∀b∈X.fs,X.H₀ b=none
structure Inv (X:Cx) (pins:List (Addr×Obj)) (σ:List (Option V)) (H:Hp) (s:Shared):Prop where
 ok:X.Ok
 os:s.os=X.s₀.os
 bare:AllBare s.gens
 base:Un X.fs X.ex X.H₀ H X.s₀.heap s.heap
 loc:∃m,s.heap.Ns X.env.locals m∧∀(i:Nat) (x:Str) (v:V),X.N[i]? = some x→σ[i]? = some (some v)→Vis X.env.scope x→∃u,RelV v u∧Look X.env s.heap m x u
 cell:∀x c,X.env.cells.lookup x=some c→∃v,s.heap.IsCell c v
 free:H X.env.locals=none
 freeC:∀x c,X.env.cells.lookup x=some c→H c=none
 pin:∀p∈X.pn++pins,s.heap.get? p.1=some p.2∧H p.1=none∧p.1≠X.env.locals∧p.1∉X.fs∧∀v,p.2.data ≠ .cell v
 hok:HOk X.prog X.w H s.heap
 len:σ.length=X.N.length
section
variable {X:Cx}{pins:List (Addr×Obj)}{σ:List (Option V)}{H H':Hp}{s:Shared}{h':Heap}
theorem Cx.Ok.nofr (ok:X.Ok) {b:Addr}{o:Obj}(e:X.base.get? b=some o):b∉X.fs:=fun hb=>by
 have:=(ok.funs.mem hb).1
 rw[e]at this;cases this
theorem Inv.bs (I:Inv X pins σ H s):∀b o,X.base.get? b=some o→s.heap.get? b=some o∧H b=none:=fun b o e =>
 ⟨I.base.keep b o (I.ok.bs b o e).1 (I.ok.bs b o e).2 (I.ok.nofr e) (I.ok.noex b o e),I.base.free b o (I.ok.bs b o e).1 (I.ok.bs b o e).2 (I.ok.noex b o e)⟩
theorem Inv.bk (I:Inv X pins σ H s):∀b o,X.base.get? b=some o→s.heap.get? b=some o:=fun b o e=>(I.bs b o e).1
theorem Inv.mod (I:Inv X pins σ H s):Mod X.K X.mg X.base:=I.ok.mod
theorem Inv.kIn (I:Inv X pins σ H s):X.K.In s.heap:=I.ok.mod.kin.keeps I.bk
theorem Inv.nolimit (I:Inv X pins σ H s):s.heap.NoLimit:=I.ok.mod.nolimit.keeps I.bk
theorem Inv.lt (I:Inv X pins σ H s):X.env.locals<s.heap.objs.size:=let ⟨_,hn,_⟩:=I.loc;hn.lt
theorem Inv.sz (I:Inv X pins σ H s):X.s₀.heap.objs.size≤s.heap.objs.size:=Nat.le_trans I.ok.above (Nat.le_of_lt I.lt)
theorem Inv.nofs (I:Inv X pins σ H s) {a:Addr}(h:s.heap.objs.size≤a):a∉X.fs:=fun hb=>by
 obtain⟨_,o,ho,_⟩:=I.ok.funs.mem hb
 exact absurd (Nat.lt_of_lt_of_le (Heap.lt_size ho) (Nat.le_trans I.sz h)) (Nat.lt_irrefl _)
theorem Inv.cne (I:Inv X pins σ H s):∀x c,X.env.cells.lookup x=some c→c≠X.env.locals:=fun x c e z=>by
 obtain⟨v,o,ho,hd⟩:=I.cell x c e
 obtain⟨m,⟨o',es,ep,ho',hd',_⟩,_⟩:=I.loc
 rw[z,ho']at ho;cases ho;rw[hd']at hd;cases hd
theorem Inv.funs (I:Inv X pins σ H s):s.heap.FunFrames X.base X.outer:=by
 have all:∀(l:List Env),(∀b∈frs l,b∈X.fs)→X.s₀.heap.FunFrames X.base l→s.heap.FunFrames X.base l:=by
  intro l
  induction l with
  | nil=>intro _ _;trivial
  | cons env r ih =>
   intro hs hl
   obtain⟨hk,⟨L,o,hf,hn,ho,hd⟩,hr⟩:=hl
   have hL:L∈X.fs:=hs L (by unfold frs;rw[List.filterMap_cons,hf];exact List.mem_cons_self)
   obtain⟨sl,e⟩:=I.base.slot L o ho (I.ok.frf L hL) hL fun z=>I.ok.exfs L z hL
   exact⟨hk,⟨L,_,hf,hn,e,hd⟩,ih (fun b hb=>hs b (by unfold frs;rw[List.filterMap_cons,hf];exact List.mem_cons_of_mem _ hb)) hr⟩
 exact all X.outer (fun _ hb=>hb) I.ok.funs
theorem Inv.stack (I:Inv X pins σ H s):s.heap.FunFrames X.base X.stack:=by
 rcases I.ok.stk with e|⟨e,hf⟩
 ·rw[e];exact I.funs
 ·rw[e]
  obtain⟨m,hn,_⟩:=I.loc
  refine .cons (by rw[I.ok.kind];decide) hf hn ?_ I.funs
  exact Heap.get?_none_of_le (Nat.le_trans I.ok.bsz I.ok.above)
theorem Inv.stkSub (I:Inv X pins σ H s):∀b∈frs X.stack,b∈X.env.locals::X.fs:=fun b hb=>by
 rcases I.ok.stk with e|⟨e,hf⟩
 ·rw[e]at hb;exact List.mem_cons_of_mem _ hb
 ·rw[e]at hb
  unfold frs at hb
  rw[List.filterMap_cons,hf]at hb
  exact hb
theorem Inv.stkFree (I:Inv X pins σ H s):∀b∈frs X.stack,H b=none:=fun b hb=>by
 rcases List.mem_cons.mp (I.stkSub b hb) with e|hb
 ·rw[e];exact I.free
 ·obtain⟨_,o,ho,_⟩:=I.ok.funs.mem hb
  exact I.base.free b o ho (I.ok.frf b hb) fun z=>I.ok.exfs b z hb
theorem Inv.step {g':Array GenState}{t':Nat}{d':Drawn}{ch:List Addr}(I:Inv X pins σ H s)
  (hch:∀b∈ch,(b∈X.ex∨X.s₀.heap.objs.size≤b)∧b≠X.env.locals∧(∀x c,X.env.cells.lookup x=some c→c≠b)∧∀p∈X.pn++pins,p.1≠b)
  (keep:∀b o,b≠X.env.locals→b∉X.fs→b∉ch→s.heap.get? b=some o→H b=none→h'.get? b=some o)
  (slot:∀b o,b≠X.env.locals→b∈X.fs→b∉ch→s.heap.get? b=some o→H b=none→∃sl,h'.get? b=some { o with slots:=sl }) (free:∀b o,b∉ch→s.heap.get? b=some o→H b=none→H' b=none)
  (there:∀b o,b∉ch→s.heap.get? b=some o→∃o',h'.get? b=some o')
  (tups:∀b xs,H b=some (.tup xs)→H' b=some (.tup xs)) (frzs:∀b o u,H b=some (.frz o u)→H' b=some (.frz o u)) (tbls:∀b ps,H b=some (.tbl ps)→∃more,H' b=some (.tbl (ps++more)))
  (ns:∀m,s.heap.Ns X.env.locals m→h'.Ns X.env.locals m) (hok:HOk X.prog X.w H' h') (hg:AllBare g') :
  Inv X pins σ H' { s with heap:=h',gens:=g',drawn:=d',toks:=t' }:=by
 have neL:∀b o,X.s₀.heap.get? b=some o→b≠X.env.locals:=fun b o e=>Nat.ne_of_lt (Nat.lt_of_lt_of_le (Heap.lt_size e) I.ok.above)
 have neC:∀b o,X.s₀.heap.get? b=some o→b∉X.ex→b∉ch:=fun b o e hx hb=>by
  rcases(hch b hb).1 with z|z
  ·exact hx z
  ·exact absurd (Nat.lt_of_lt_of_le (Heap.lt_size e) z) (Nat.lt_irrefl _)
 have cellK:∀x c,X.env.cells.lookup x=some c→∀v,s.heap.IsCell c v→h'.IsCell c v:=fun x c e v ⟨o,ho,hd⟩=>by
  have nch:c∉ch:=fun z=>(hch c z).2.2.1 x c e rfl
  by_cases hc:c∈X.fs
  ·obtain⟨sl,q⟩:=slot c o (I.cne x c e) hc nch ho (I.freeC x c e)
   exact⟨_,q,hd⟩
  ·exact⟨o,keep c o (I.cne x c e) hc nch ho (I.freeC x c e),hd⟩
 refine⟨I.ok,I.os,hg,⟨fun b o e n hb hx=>?_,fun b o e n hb hx=>?_,fun b o e n hx=>?_,fun b o e hx=>?_,fun b xs e=>tups b xs (I.base.tups b xs e),fun b o xs e=>frzs b o xs (I.base.frzs b o xs e),fun b ps e=>?_⟩,?_,fun x c e=>?_,?_,fun x c e=>?_,fun p hp=>?_,hok,I.len⟩
 ·exact keep b o (neL b o e) hb (neC b o e hx) (I.base.keep b o e n hb hx) (I.base.free b o e n hx)
 ·obtain⟨sl,e1⟩:=I.base.slot b o e n hb hx
  obtain⟨sl',e2⟩:=slot b _ (neL b o e) hb (neC b o e hx) e1 (I.base.free b o e n hx)
  exact⟨sl',e2⟩
 ·obtain⟨o',e1⟩:=I.base.there b o e hx
  exact free b o' (neC b o e hx) e1 (I.base.free b o e n hx)
 ·obtain⟨o',e1⟩:=I.base.there b o e hx
  exact there b o' (neC b o e hx) e1
 ·obtain⟨m1,e1⟩:=I.base.tbls b ps e
  obtain⟨m2,e2⟩:=tbls b _ e1
  exact⟨m1++m2,by rw[e2,Array.append_assoc]⟩
 ·obtain⟨m,hn,hl⟩:=I.loc
  refine⟨m,ns m hn,fun i x v e1 e2 e3=>?_⟩
  obtain⟨u,r,l⟩:=hl i x v e1 e2 e3
  refine⟨u,r,?_⟩
  rcases l with l|⟨k,c,e,z⟩
  ·exact .inl l
  ·exact .inr ⟨k,c,e,cellK x c e _ z⟩
 ·obtain⟨v,z⟩:=I.cell x c e
  exact⟨v,cellK x c e v z⟩
 ·obtain⟨m,⟨o,_,_,ho,_⟩,_⟩:=I.loc
  exact free _ o (fun z=>(hch _ z).2.1 rfl) ho I.free
 ·obtain⟨v,o,ho,hd⟩:=I.cell x c e
  exact free c o (fun z=>(hch c z).2.2.1 x c e rfl) ho (I.freeC x c e)
 ·obtain⟨e,n,ne,nf,d⟩:=I.pin p hp
  have nch:p.1∉ch:=fun z=>(hch p.1 z).2.2.2 p hp rfl
  exact⟨keep p.1 p.2 ne nf nch e n,free p.1 p.2 nch e n,ne,nf,d⟩
theorem Inv.un {t':Nat}(I:Inv X pins σ H s) (u:Un X.fs [] H H' s.heap h') (hok:HOk X.prog X.w H' h'):Inv X pins σ H' { s with heap:=h',toks:=t' }:=by
 obtain⟨m,⟨o,es,ep,ho,r⟩,_⟩:=id I.loc
 obtain⟨sl,hL⟩:=u.any ho I.free (by simp)
 exact I.step (g':=s.gens) (d':=s.drawn) (ch:=[]) (fun _ z=>nomatch z) (fun b o _ hb _ e n=>u.keep b o e n hb (by simp)) (fun b o _ hb _ e n=>u.slot b o e n hb (by simp)) (fun b o _ e n=>u.free b o e n (by simp)) (fun b o _ e=>u.there b o e (by simp)) u.tups u.frzs u.tbls (fun m' hm=>by
  obtain⟨o',es',ep',ho',r'⟩:=hm
  rw[ho]at ho';cases ho'
  exact⟨_,es',ep',hL,r'⟩) hok I.bare
theorem Inv.call {g':Array GenState}{t':Nat}{d':Drawn}{ch:List Addr}(I:Inv X pins σ H s) (u:Un (frs X.stack) ch H H' s.heap h') (hok:HOk X.prog X.w H' h') (hg:AllBare g')
  (hch:∀b∈ch,(b∈X.ex∨X.s₀.heap.objs.size≤b)∧b≠X.env.locals∧(∀x c,X.env.cells.lookup x=some c→c≠b)∧∀p∈X.pn++pins,p.1≠b) :
  Inv X pins σ H' { s with heap:=h',gens:=g',drawn:=d',toks:=t' }:=by
 obtain⟨m,⟨o,es,ep,ho,r⟩,_⟩:=id I.loc
 obtain⟨sl,hL⟩:=u.any ho I.free fun z=>(hch _ z).2.1 rfl
 exact I.step (ch:=ch) hch (fun b o hL hb hc e n=>u.keep b o e n (fun z=>(List.mem_cons.mp (I.stkSub b z)).elim hL hb) hc) (fun b o _ _ hc e n=>u.any e n hc) (fun b o hc e n=>u.free b o e n hc) (fun b o hc e=>u.there b o e hc) u.tups u.frzs u.tbls (fun m' hm=>by
  obtain⟨o',es',ep',ho',r'⟩:=hm
  rw[ho]at ho';cases ho'
  exact⟨_,es',ep',hL,r'⟩) hok hg
theorem Inv.turned {t':Nat}{it:Addr}(I:Inv X pins σ H s) (k:∀b o,b≠it→s.heap.get? b=some o→h'.get? b=some o) (hn:H it=none) (hL:it≠X.env.locals)
  (h1:it∈X.ex∨X.s₀.heap.objs.size≤it) (h2:∀x c,X.env.cells.lookup x=some c→c≠it) (h3:∀p∈X.pn++pins,p.1≠it):Inv X pins σ H { s with heap:=h',toks:=t' }:=by
 have nit:∀b u,H b=some u→b≠it:=fun b u e z=>by rw[z,hn]at e;cases e
 refine I.step (g':=s.gens) (d':=s.drawn) (ch:=[it]) (fun b hb=>?_) (fun b o _ _ hc e _=>k b o (fun z=>hc (by simp[z])) e) (fun b o _ _ hc e _=>⟨o.slots,k b o (fun z=>hc (by simp[z])) e⟩) (fun _ _ _ _ n=>n)
  (fun b o hc e=>⟨o,k b o (fun z=>hc (by simp[z])) e⟩) (fun _ _ e=>e) (fun _ _ _ e=>e) (fun b ps e=>⟨#[],by rw[e];simp⟩) (fun m hm=>?_) (fun b u e=>?_) I.bare
 ·have e:b=it:=by simpa using hb
  subst e
  exact⟨h1,hL,h2,h3⟩
 ·obtain⟨o,es,ep,ho,r⟩:=hm
  exact⟨o,es,ep,k _ o (Ne.symm hL) ho,r⟩
 ·refine(I.hok b u e).stay (fun c v hc q=>k c v ?_ q) (fun _ q=>q) fun _ _ q=>q
  rcases hc with z|z
  ·rw[z];exact nit b u e
  ·exact nit c _ z
theorem Inv.tok (I:Inv X pins σ H s) (t:Nat):Inv X pins σ H { s with toks:=t }:=I.un (h':=s.heap) (t':=t) Un.refl I.hok
theorem Inv.kept {t':Nat}(I:Inv X pins σ H s) (k:∀b u,s.heap.get? b=some u→h'.get? b=some u):Inv X pins σ H { s with heap:=h',toks:=t' }:=I.un (Un.kept k) (I.hok.kept k)
theorem Inv.laid {a:Addr}{o:HO}{t':Nat}(I:Inv X pins σ H s) (k:∀b u,s.heap.get? b=some u→h'.get? b=some u) (hp:s.heap.objs.size≤a) (new:ObjOk X.prog X.w (upd H a o) h' a o) :
  Inv X pins σ (upd H a o) { s with heap:=h',toks:=t' }:=I.un (Un.laid k hp (I.hok.fresh hp)) (I.hok.laid k hp new)
theorem Inv.write {x e:Addr}{o:HO}{t':Nat}(I:Inv X pins σ H s) (mu:Mut (H x)) (he:e=x∨H e=some (.own x)) (k:∀b u,b≠e→s.heap.get? b=some u→h'.get? b=some u) (heo:∃u,h'.get? e=some u)
  (new:ObjOk X.prog X.w (upd H x o) h' x o):Inv X pins σ (upd H x o) { s with heap:=h',toks:=t' }:=I.un (Un.write mu he k heo) (I.hok.write mu he k heo new)
theorem Inv.pins_of {pins':List (Addr×Obj)}(I:Inv X pins σ H s) (h:∀p∈pins',s.heap.get? p.1=some p.2∧H p.1=none∧p.1≠X.env.locals∧p.1∉X.fs∧∀v,p.2.data ≠ .cell v):Inv X pins' σ H s :=
 ⟨I.ok,I.os,I.bare,I.base,I.loc,I.cell,I.free,I.freeC,fun p hp=>(List.mem_append.mp hp).elim (fun z=>I.pin p (List.mem_append_left _ z)) (h p),I.hok,I.len⟩
theorem nodup_ix {N:List Str}(hN:N.Nodup) {i j:Nat}{x:Str}(a:N[i]? = some x) (b:N[j]? = some x):i=j:=by
 obtain⟨h1,e1⟩:=List.getElem?_eq_some_iff.mp a
 obtain⟨h2,e2⟩:=List.getElem?_eq_some_iff.mp b
 exact(List.getElem_inj hN).mp (e1.trans e2.symm)
theorem store_ok2 {M:Model}{A:Around}{E:Value→Shared→Prop}{i:Nat}{x:Str}{v:V}{u:Value}{Q:Unit→Shared→Prop}(I:Inv X pins σ H s) (hN:X.N.Nodup) (hi:X.N[i]? = some x) (hx:Loc X.env.scope x) (r:RelV v u)
  (h:∀s',Inv X pins (σ.set i (some v)) H s'→(∃a,Heap.SameBut a s.heap s'.heap∧(a=X.env.locals∨X.env.cells.lookup x=some a))→Q () s') (hf:X.fn x=true∨X.env.scope.names.lookup x=some .local:=by first|exact .inl rfl|exact .inr rfl|assumption):wpAny M A (storeName X.env x u) Q E s:=by
 obtain⟨m,hn,hl⟩:=id I.loc
 have hcls:(X.env.scope.kind == .class || (X.env.scope.kind == .module && X.env.locals != X.env.globals))=false:=by rw[I.ok.kind];rfl
 have hiσ:i<σ.length:=by rw[I.len];exact(List.getElem?_eq_some_iff.mp hi).1
 have cne:=I.cne
 have tracked:∀{a:Addr}{h':Heap},(∃o,s.heap.get? a=some o∧H a=none)→Heap.SameBut a s.heap h'→HOk X.prog X.w H h':=fun {a h'} ha hs b ob e=>by
  obtain⟨_,_,hfree⟩:=ha
  refine(I.hok b ob e).stay (fun c w' hc q=>(hs.2 c ?_).trans q) (fun _ q=>q) fun _ _ q=>q
  rintro rfl
  rcases hc with rfl|hc
  ·rw[hfree]at e;cases e
  ·rw[hfree]at hc;cases hc
 rcases hx with hk|hk
 ·refine wpAny_storeName_local hk hn (fun h' hn' hs=>?_) hcls
  obtain⟨oL,_,_,hoL,_⟩:=id hn
  refine h _ ⟨I.ok,I.os,I.bare,⟨fun b o e n hb hx=>?_,fun b o e n hb hx=>?_,I.base.free,fun b o e hx=>?_,I.base.tups,I.base.frzs,I.base.tbls⟩,⟨_,hn',fun j y v' e1 e2 e3=>?_⟩,fun y c e=>?_,I.free,I.freeC,fun p hp=>?_,tracked ⟨oL,hoL,I.free⟩ hs,by simpa using I.len⟩ ⟨_,hs,.inl rfl⟩
  ·exact(hs.2 b (Nat.ne_of_lt (Nat.lt_of_lt_of_le (Heap.lt_size e) I.ok.above))).trans (I.base.keep b o e n hb hx)
  ·obtain⟨sl,e1⟩:=I.base.slot b o e n hb hx
   exact⟨sl,(hs.2 b (Nat.ne_of_lt (Nat.lt_of_lt_of_le (Heap.lt_size e) I.ok.above))).trans e1⟩
  ·obtain⟨o',e1⟩:=I.base.there b o e hx
   exact⟨o',(hs.2 b (Nat.ne_of_lt (Nat.lt_of_lt_of_le (Heap.lt_size e) I.ok.above))).trans e1⟩
  ·by_cases hj:j=i
   ·subst hj
    rw[hi]at e1;cases e1
    rw[List.getElem?_set_self hiσ]at e2
    cases e2
    exact⟨u,r,.inl ⟨hk,by simp⟩⟩
   ·rw[List.getElem?_set_ne (Ne.symm hj)]at e2
    obtain⟨u',r',q⟩:=hl j y v' e1 e2 e3
    refine⟨u',r',?_⟩
    rcases q with⟨k,e⟩|⟨k,c,e,z⟩
    ·refine .inl ⟨k,?_⟩
     have:y≠x:=fun e=>hj (nodup_ix hN e1 (e ▸ hi))
     simp[this,e]
    ·exact .inr ⟨k,c,e,z.sameBut hs (cne y c e)⟩
  ·obtain⟨w',z⟩:=I.cell y c e
   exact⟨w',z.sameBut hs (cne y c e)⟩
  ·obtain⟨e,n,ne,nf,d⟩:=I.pin p hp
   exact⟨(hs.2 p.1 ne).trans e,n,ne,nf,d⟩
 ·have hfn:X.fn x=true:=by
   rcases hf with z|z
   ·exact z
   ·rw[z]at hk;cases hk
  obtain⟨c,hc⟩:=I.ok.has x (.inl hk)
  obtain⟨w',z⟩:=I.cell x c hc
  refine wpAny_storeName_cell I.ok.kind hk hc z (fun h' hc' hs=>?_)
  obtain⟨oc,hoc,hocd⟩:=id z
  refine h { s with heap:=h' } ⟨I.ok,I.os,I.bare,⟨fun b o e n hb hx=>?_,fun b o e n hb hx=>?_,I.base.free,fun b o e hx=>?_,I.base.tups,I.base.frzs,I.base.tbls⟩,⟨m,hn.sameBut hs (Ne.symm (cne x c hc)),fun j y v' e1 e2 e3=>?_⟩,fun y c' e=>?_,I.free,I.freeC,fun p hp=>?_,tracked ⟨oc,hoc,I.freeC x c hc⟩ hs,by simpa using I.len⟩ ⟨c,hs,.inr hc⟩
  ·exact(hs.2 b (Nat.ne_of_lt (Nat.lt_of_lt_of_le (Heap.lt_size e) (I.ok.cab x c hfn hc)))).trans (I.base.keep b o e n hb hx)
  ·obtain⟨sl,e1⟩:=I.base.slot b o e n hb hx
   exact⟨sl,(hs.2 b (Nat.ne_of_lt (Nat.lt_of_lt_of_le (Heap.lt_size e) (I.ok.cab x c hfn hc)))).trans e1⟩
  ·obtain⟨o',e1⟩:=I.base.there b o e hx
   exact⟨o',(hs.2 b (Nat.ne_of_lt (Nat.lt_of_lt_of_le (Heap.lt_size e) (I.ok.cab x c hfn hc)))).trans e1⟩
  ·by_cases hj:j=i
   ·subst hj
    rw[hi]at e1;cases e1
    rw[List.getElem?_set_self hiσ]at e2
    cases e2
    exact⟨u,r,.inr ⟨.inl hk,c,hc,hc'⟩⟩
   ·rw[List.getElem?_set_ne (Ne.symm hj)]at e2
    obtain⟨u',r',q⟩:=hl j y v' e1 e2 e3
    refine⟨u',r',?_⟩
    rcases q with q|⟨k,c',e,z'⟩
    ·exact .inl q
    ·refine .inr ⟨k,c',e,z'.sameBut hs ?_⟩
     rintro rfl
     exact hj (nodup_ix hN e1 (I.ok.inj _ _ _ e hc ▸ hi))
  ·by_cases hcc:c'=c
   ·subst hcc;exact⟨_,hc'⟩
   ·obtain⟨w2,z2⟩:=I.cell y c' e
    exact⟨w2,z2.sameBut hs hcc⟩
  ·obtain⟨e,n,ne,nf,d⟩:=I.pin p hp
   refine⟨(hs.2 p.1 ?_).trans e,n,ne,nf,d⟩
   intro q
   rw[q,hoc]at e
   have q':oc=p.2:=Option.some.inj e
   exact d w' (by rw[← q'];exact hocd)
theorem store_ok {M:Model}{A:Around}{E:Value→Shared→Prop}{i:Nat}{x:Str}{v:V}{u:Value}{Q:Unit→Shared→Prop}(I:Inv X pins σ H s) (hN:X.N.Nodup) (hi:X.N[i]? = some x) (hx:Loc X.env.scope x) (r:RelV v u)
  (h:∀s',Inv X pins (σ.set i (some v)) H s'→Q () s') (hf:X.fn x=true∨X.env.scope.names.lookup x=some .local:=by first|exact .inl rfl|exact .inr rfl|assumption):wpAny M A (storeName X.env x u) Q E s :=
 store_ok2 I hN hi hx r (fun s' I' _=>h s' I') hf
theorem Inv.call' {s':Shared}{ch:List Addr}(I:Inv X pins σ H s) (ho:s'.os=s.os) (u:Un (frs X.stack) ch H H' s.heap s'.heap) (hok:HOk X.prog X.w H' s'.heap) (hg:AllBare s'.gens)
  (hch:∀b∈ch,(b∈X.ex∨X.s₀.heap.objs.size≤b)∧b≠X.env.locals∧(∀x c,X.env.cells.lookup x=some c→c≠b)∧∀p∈X.pn++pins,p.1≠b):Inv X pins σ H' s':=by
 obtain⟨h',g',d',t',o'⟩:=s'
 have e:o'=s.os:=ho
 subst e
 exact I.call (g':=g') (t':=t') (d':=d') u hok hg hch
end
abbrev XK:=Value→Option Addr→Hp→Prop
abbrev St:=List (Option V)
abbrev VK:=V→Hp→Prop
abbrev TE:=St→Hp→VK→Prop
abbrev TT:=St→Hp→(Bool→Hp→Prop)→Prop
abbrev TA:=St→Hp→(List V→Hp→Prop)→Prop
structure Ends where
 nx:St→Hp→Prop
 rt:VK
 bk:St→Hp→Prop:=fun _ _=>False
 ct:St→Hp→Prop:=fun _ _=>False
abbrev TS:=Ends→St→Hp→Prop
def EP (X:Cx) (pins:List (Addr×Obj)) (σ:St) (Q:VK) (u:Value) (s':Shared):Prop:=∃v H',Inv X pins σ H' s'∧RelV v u∧Q v H'
def TP (X:Cx) (pins:List (Addr×Obj)) (σ:St) (Q:Bool→Hp→Prop) (b:Bool) (s':Shared):Prop:=∃H',Inv X pins σ H' s'∧Q b H'
def AP (X:Cx) (pins:List (Addr×Obj)) (σ:St) (Q:List V→Hp→Prop) (us:List Value) (s':Shared):Prop:=∃vs H',Inv X pins σ H' s'∧Vals vs us∧Q vs H'
def SP (X:Cx) (pins:List (Addr×Obj)) (D:Ends) (f:Flow) (s':Shared):Prop :=
 match f with
 | .next=>∃σ' H',Inv X pins σ' H' s'∧D.nx σ' H'
 | .brk=>∃σ' H',Inv X pins σ' H' s'∧D.bk σ' H'
 | .cont=>∃σ' H',Inv X pins σ' H' s'∧D.ct σ' H'
 | .ret u=>∃v σ' H',Inv X pins σ' H' s'∧RelV v u∧D.rt v H'
def PE (X:Cx) (e:Expr) (t:TE):Prop :=
 ∀(pins:List (Addr×Obj)) (s:Shared) (σ:St) (H:Hp) (Q:VK),Inv X pins σ H s→t σ H Q→wpAny (model X.prog X.w) X.A (eval e X.env) (EP X pins σ Q) X.xe s
def PT (X:Cx) (e:Expr) (t:TT):Prop :=
 ∀(pins:List (Addr×Obj)) (s:Shared) (σ:St) (H:Hp) (Q:Bool→Hp→Prop),Inv X pins σ H s→t σ H Q→wpAny (model X.prog X.w) X.A (isTrue e X.env (eval e X.env)) (TP X pins σ Q) X.xe s
def PW (X:Cx) (e:Expr) (t:TT):Prop :=
 ∀(whole:Sem Value) (pins:List (Addr×Obj)) (s:Shared) (σ:St) (H:Hp) (Q:Bool→Hp→Prop),Inv X pins σ H s→t σ H Q→wpAny (model X.prog X.w) X.A (isTrue e X.env whole) (TP X pins σ Q) X.xe s
theorem PW.pt {X:Cx}{e:Expr}{t:TT}(h:PW X e t):PT X e t:=h _
def PA (X:Cx) (es:List Expr) (t:TA):Prop :=
 ∀(pos:Pos) (pins:List (Addr×Obj)) (s:Shared) (σ:St) (H:Hp) (Q:List V→Hp→Prop),Inv X pins σ H s→t σ H Q→wpAny (model X.prog X.w) X.A (spliced (backTo pos (starEach es X.env))) (AP X pins σ Q) X.xe s
def PS (X:Cx) (st:Stmt) (t:TS):Prop :=
 ∀(pins:List (Addr×Obj)) (s:Shared) (σ:St) (H:Hp) (D:Ends),Inv X pins σ H s→t D σ H→wpAny (model X.prog X.w) X.A (exec st X.env) (SP X pins D) X.xe s
def PSs (X:Cx) (st:List Stmt) (t:TS):Prop :=
 ∀(pins:List (Addr×Obj)) (s:Shared) (σ:St) (H:Hp) (D:Ends),Inv X pins σ H s→t D σ H→wpAny (model X.prog X.w) X.A (execs st X.env) (SP X pins D) X.xe s
theorem thn {α:Type}{t:Sem α}{Q Q':α→Shared→Prop}{M:Model}{A:Around}{E:Value→Shared→Prop}{s:Shared}(h:wpAny M A t Q E s) (hQ:∀a s,Q a s→Q' a s):wpAny M A t Q' E s:=wpAny_mono h hQ fun _ _ x=>x
end L2
namespace L2
open PySem PySem.Spec PyProof.Rows
section
variable {X:Cx}
theorem bin {a b:Expr}{ta tb:TE}(ha:PE X a ta) (hb:PE X b tb) {pins:List (Addr×Obj)}{s:Shared}{σ:St}{H:Hp}{R:V→V→Hp→Prop}(I:Inv X pins σ H s) (h:ta σ H fun x H1=>tb σ H1 fun y H2=>R x y H2)
  {α:Type}{Q:α→Shared→Prop}{f:Value→Value→Sem α}
  (hf:∀v u s2 x y H2,Inv X pins σ H2 s2→RelV x v→RelV y u→R x y H2→wpAny (model X.prog X.w) X.A (f v u) Q X.xe s2) :
  wpAny (model X.prog X.w) X.A (eval a X.env) (fun v s₁=>wpAny (model X.prog X.w) X.A (eval b X.env) (fun u s₂=>wpAny (model X.prog X.w) X.A (f v u) Q X.xe s₂) X.xe s₁) X.xe s:=by
 refine thn (ha pins s σ H _ I h) fun v s1 ⟨x,H1,I1,r1,q1⟩=>?_
 refine thn (hb pins s1 σ H1 _ I1 q1) fun u s2 ⟨y,H2,I2,r2,q2⟩=>?_
 exact hf v u s2 x y H2 I2 r1 r2 q2
def tVar (i:Nat):TE:=fun σ H Q=>∃v,σ[i]? = some (some v)∧Q v H
def tC (v:V):TE:=fun _ H Q=>Q v H
theorem pe_var {i:Nat}{x:Str}{pos:Pos}(hN:X.N[i]? = some x) (hv:Vis X.env.scope x) (hd:(x ==("__debug__" : Str))=false:=by decide) (hcd:(x ==("__classdict__" : Str))=false:=by decide):PE X (.Name x pos) (tVar i):=by
 intro pins s σ H Q I h
 obtain⟨v,e,h⟩:=h
 obtain⟨m,hn,hl⟩:=I.loc
 obtain⟨u,r,l⟩:=hl i x v hN e hv
 have fin:EP X pins σ Q u s:=⟨v,H,I,r,h⟩
 rcases l with⟨hk,hm⟩|⟨hk,c,hc,hcell⟩
 ·exact wpAny_Name (wpAny_loadName_local I.ok.kind hk hn hm fin) hd
 ·rcases hk with hk|hk
  ·exact wpAny_Name (wpAny_loadName_cell I.ok.kind hk hc hcell fin) hd
  ·exact wpAny_Name (wpAny_loadName_free I.ok.kind hk hc hcell fin hcd) hd
theorem pe_int {i j pos}:PE X (.Constant (.int i) j pos) (tC (.int i)):=fun _ _ _ H _ I h=>wpAny_Constant_int ⟨.int i,H,I.tok _,⟨_,rfl⟩,h⟩
theorem pe_bl {b j pos}:PE X (.Constant (.bool b) j pos) (tC (.bl b)):=fun _ _ _ H _ I h=>Constant_bool ⟨.bl b,H,I,rfl,h⟩
theorem pe_non {j pos}:PE X (.Constant .none j pos) (tC .non):=fun _ _ _ H _ I h=>Constant_none ⟨.non,H,I,rfl,h⟩
theorem pe_str {x j pos}:PE X (.Constant (.str x) j pos) (tC (.str x)):=fun _ _ _ H _ I h=>Calls.Constant_str ⟨.str x,H,I.tok _,⟨_,rfl⟩,h⟩
def Gl (X:Cx) (x:Str):Prop:=X.env.kindOf x=some .globalImplicit
theorem ld_glob {E:Value→Shared→Prop}{pins:List (Addr×Obj)}{s:Shared}{σ:St}{H:Hp}{x:Str}{u:Value}{pos:Pos}{Q:Value→Shared→Prop}(I:Inv X pins σ H s) (hg:Gl X x) (hm:X.mg x=some u) (h:Q u s)
  (hd:(x ==("__debug__" : Str))=false:=by decide):wpAny (model X.prog X.w) X.A (eval (.Name x pos) X.env) Q E s :=
 Calls.Name_function_global I.ok.kind hg (Calls.loadGlobal_global (by rw[I.ok.glob];exact I.mod.glob.keeps I.bk) hm h) hd
theorem ld_blt {E:Value→Shared→Prop}{pins:List (Addr×Obj)}{s:Shared}{σ:St}{H:Hp}{x:Str}{u:Value}{pos:Pos}{Q:Value→Shared→Prop}(I:Inv X pins σ H s) (hg:Gl X x) (hm:X.mg x=none) (hv:bootBuiltins x=some u) (h:Q u s)
  (hn:x ≠ "__name__" := by decide) (hd:(x ==("__debug__" : Str))=false:=by decide):wpAny (model X.prog X.w) X.A (eval (.Name x pos) X.env) Q E s:=by
 obtain⟨mb,h1,h2⟩:=I.mod.blt
 exact Calls.Name_function_global I.ok.kind hg (Calls.loadGlobal_builtin (by rw[I.ok.glob];exact I.mod.glob.keeps I.bk) hm (by rw[I.ok.blt];exact h1.keeps I.bk) ((h2 x hn).trans hv) h) hd
theorem pe_glob {x:Str}{v:V}{u:Value}{pos:Pos}(hg:Gl X x) (hm:X.mg x=some u) (r:RelV v u) (hd:(x ==("__debug__" : Str))=false:=by decide):PE X (.Name x pos) (tC v) :=
 fun _ _ _ H _ I h=>ld_glob I hg hm ⟨v,H,I,r,h⟩ hd
theorem pe_bltn {x:Str}{v:V}{u:Value}{pos:Pos}(hg:Gl X x) (hm:X.mg x=none) (hv:bootBuiltins x=some u) (r:RelV v u) (hn:x ≠ "__name__" := by decide) (hd:(x ==("__debug__" : Str))=false:=by decide):PE X (.Name x pos) (tC v) :=
 fun _ _ _ H _ I h=>ld_blt I hg hm hv ⟨v,H,I,r,h⟩ hn hd
variable {a b:Expr}{ta tb:TE}{pos:Pos}
def PC (X:Cx) (op:CmpOp) (a b:Expr) (t:TE):Prop :=
 ∀(pins:List (Addr×Obj)) (s:Shared) (σ:St) (H:Hp) (Q:VK),Inv X pins σ H s→t σ H Q →
  wpAny (model X.prog X.w) X.A (eval a X.env) (fun v s₁=>wpAny (model X.prog X.w) X.A (eval b X.env) (fun u s₂=>wpAny (model X.prog X.w) X.A (compareOp op v u) (EP X pins σ Q) X.xe s₂) X.xe s₁) X.xe s
def tB (t:TE):TT:=fun σ H Q=>t σ H fun x H1=>∃c,x = .bl c∧Q c H1
theorem pt_cmp {op:CmpOp}{t:TE}(h:PC X op a b t) (h1:behindInMarks op b=false:=by first|exact nobehind _ (by decide) (by decide)|rfl):PT X (.Compare a [op] [b] pos) (tB t):=by
 intro pins s σ H Q I hw
 refine wpAny_isTrue_Compare1 (thn (h pins s σ H _ I hw) fun v s1 h1=>thn h1 fun u s2 h2=>thn h2 fun c s3 ⟨x,H1,I1,r1,q1⟩=>?_) h1
 obtain⟨d,rfl,q⟩:=q1
 cases r1
 exact wpAny_truthy_bool ⟨H1,I1,q⟩
theorem pt_val {e:Expr}{t:TE}(h:PE X e t) (he:∀whole,isTrue e X.env whole =(do let v ← whole;standAt e.pos;holding [v] (truthy v)):=by intro _;rfl):PT X e (tB t):=by
 intro pins s σ H Q I hw
 refine isTrue_plain (thn (h pins s σ H _ I hw) fun v s1 ⟨x,H1,I1,r1,q1⟩=>?_) (he _)
 obtain⟨d,rfl,q⟩:=q1
 cases r1
 exact wpAny_truthy_bool ⟨H1,I1,q⟩
variable {tA tB':TT}{rest:List Expr}
def tAnd (t u:TT):TT:=fun σ H Q=>t σ H fun c H1=>if c=true then u σ H1 Q else Q false H1
def tOr (t u:TT):TT:=fun σ H Q=>t σ H fun c H1=>if c=true then Q true H1 else u σ H1 Q
def tNot (t:TT):TT:=fun σ H Q=>t σ H fun c H1=>Q (!c) H1
theorem pw_and1 (ha:PT X a tA):PW X (.BoolOp .And [a] pos) tA:=by
 intro wh pins s σ H Q I h
 refine isTrue_and (thn (ha pins s σ H Q I h) fun c s1 e=>?_)
 cases c with
 | true=>exact isTrue_and_nil e
 | false=>exact e
theorem pw_or1 (ha:PT X a tA):PW X (.BoolOp .Or [a] pos) tA:=by
 intro wh pins s σ H Q I h
 refine isTrue_or (thn (ha pins s σ H Q I h) fun c s1 e=>?_)
 cases c with
 | false=>exact isTrue_or_nil e
 | true=>exact e
theorem pw_and (ha:PT X a tA) (hb:PW X (.BoolOp .And (b::rest) pos) tB'):PW X (.BoolOp .And (a::b::rest) pos) (tAnd tA tB'):=by
 intro wh pins s σ H Q I h
 refine isTrue_and (thn (ha pins s σ H _ I h) fun c s1 ⟨H1,I1,q1⟩=>?_)
 cases c with
 | true=>exact hb wh pins s1 σ H1 Q I1 q1
 | false=>exact⟨H1,I1,q1⟩
theorem pw_or (ha:PT X a tA) (hb:PW X (.BoolOp .Or (b::rest) pos) tB'):PW X (.BoolOp .Or (a::b::rest) pos) (tOr tA tB'):=by
 intro wh pins s σ H Q I h
 refine isTrue_or (thn (ha pins s σ H _ I h) fun c s1 ⟨H1,I1,q1⟩=>?_)
 cases c with
 | true=>exact⟨H1,I1,q1⟩
 | false=>exact hb wh pins s1 σ H1 Q I1 q1
theorem pt_not (ha:PT X a tA):PT X (.UnaryOp .Not a pos) (tNot tA):=by
 intro pins s σ H Q I h
 exact isTrue_not (ha pins s σ H (fun c H1=>Q (!c) H1) I h)
def tAndV (ta tb:TE):TE:=fun σ H Q=>ta σ H fun x H1=>∃c,x = .bl c∧if c=true then tb σ H1 Q else Q (.bl false) H1
def tNotV (ta:TE):TE:=fun σ H Q=>ta σ H fun x H1=>∃c,x = .bl c∧Q (.bl (!c)) H1
theorem pe_one {op}{t:TE}(h:PE X a t):PE X (.BoolOp op [a] pos) t:=fun pins s σ H Q I hw=>BoolOp_one (h pins s σ H Q I hw)
theorem pe_and (ha:PE X a ta) (hb:PE X (.BoolOp .And (b::rest) pos) tb):PE X (.BoolOp .And (a::b::rest) pos) (tAndV ta tb):=by
 intro pins s σ H Q I h
 refine BoolOp_and (thn (ha pins s σ H _ I h) fun v s1 ⟨x,H1,I1,r1,q1⟩=>?_)
 obtain⟨c,rfl,q1⟩:=q1
 cases r1
 refine wpAny_truthy_bool ?_
 cases c with
 | true=>exact hb pins s1 σ H1 Q I1 q1
 | false=>exact⟨.bl false,H1,I1,rfl,q1⟩
theorem pe_not (ha:PE X a ta):PE X (.UnaryOp .Not a pos) (tNotV ta):=by
 intro pins s σ H Q I h
 refine UnaryOp_ (thn (ha pins s σ H _ I h) fun v s1 ⟨x,H1,I1,r1,q1⟩=>?_)
 obtain⟨c,rfl,q1⟩:=q1
 cases r1
 exact not_of (wpAny_truthy_bool ⟨.bl (!c),H1,I1,rfl,q1⟩)
end
end L2
namespace L2
open PySem PySem.Spec PyProof.Rows
def SqL (K:PySem.W.Frag) (H:Hp) (a:Addr) (xs:List V):Prop :=
 Rd H a (.lst xs) ∨
  ∃(o:Obj) (its:Array Value) (n:Nat),K.lookup a=some o∧o.cls = .type "list"∧o.dict=none∧o.data = .seq its n∧its.size≤sizeLine∧Vals xs its.toList
def SqT (K:PySem.W.Frag) (H:Hp) (a:Addr) (xs:List V):Prop :=
 Rd H a (.tup xs) ∨
  ∃(o:Obj) (its:Array Value) (n:Nat),K.lookup a=some o∧o.cls = .type "tuple"∧o.data = .seq its n∧its.size≤sizeLine∧Vals xs its.toList
def absV:Value→Option V
 | .none=>some .non
 | .bool b=>some (.bl b)
 | .int i _=>some (.int i)
 | .str x _=>some (.str x)
 | .bytes b _=>some (.byt b)
 | .float b _=>some (.flt b)
 | .ref a=>some (.ref a)
 | .type n=>some (.ty n)
 | _=>none
theorem RelV.abs {x:V}{u:Value}(r:RelV x u):absV u=some x:=by
 cases x with
 | non=>cases r;rfl
 | bl _=>cases r;rfl
 | int _=>obtain⟨t,rfl⟩:=r;rfl
 | str _=>obtain⟨t,rfl⟩:=r;rfl
 | byt _=>obtain⟨t,rfl⟩:=r;rfl
 | flt _=>obtain⟨t,rfl⟩:=r;rfl
 | ref _=>cases r;rfl
 | ty _=>cases r;rfl
theorem RelV.inj {x y:V}{u:Value}(r:RelV x u) (q:RelV y u):x=y:=Option.some.inj (r.abs.symm.trans q.abs)
theorem Vals.inj:∀{xs ys:List V}{us:List Value},Vals xs us→Vals ys us→xs=ys
 | _,_,_,.nil,.nil=>rfl
 | _,_,_,.cons r t,.cons r' t'=>by rw[r.inj r',Vals.inj t t']
section
variable {X:Cx}{pins:List (Addr×Obj)}{σ:St}{H:Hp}{s:Shared}{a:Addr}{xs ys:List V}
theorem SqL.of {K:PySem.W.Frag}(h:H a=some (.lst xs)):SqL K H a xs:=.inl (.inl h)
theorem SqT.of {K:PySem.W.Frag}(h:H a=some (.tup xs)):SqT K H a xs:=.inl (.inl h)
theorem Inv.list (I:Inv X pins σ H s) (h:SqL X.K H a xs):∃its:List Value,Vals xs its∧PlainL s.heap a its.toArray∧xs.length≤sizeLine:=by
 rcases h with h|⟨o,its,n,hk,hc,hd,hs,hz,r⟩
 ·obtain⟨z,its,n,r,e⟩:=h.ok I.hok
  exact⟨its,r,⟨_,n,e,rfl,rfl,rfl⟩,z⟩
 ·refine⟨its.toList,r,⟨o,n,I.kIn a o hk,hc,hd,by simpa using hs⟩,?_⟩
  have e:=r.length
  simp only[Array.length_toList]at e
  omega
theorem Inv.tuple (I:Inv X pins σ H s) (h:SqT X.K H a xs):∃its:List Value,Vals xs its∧IsTup s.heap a its.toArray∧xs.length≤sizeLine:=by
 rcases h with h|⟨o,its,n,hk,hc,hs,hz,r⟩
 ·obtain⟨z,its,r,p⟩:=h.ok I.hok
  exact⟨its,r,p,z⟩
 ·refine⟨its.toList,r,⟨o,I.kIn a o hk,hc,n,by simpa using hs⟩,?_⟩
  have e:=r.length
  simp only[Array.length_toList]at e
  omega
theorem Inv.list_inj (I:Inv X pins σ H s) (h:SqL X.K H a xs) (h':SqL X.K H a ys):xs=ys:=by
 obtain⟨its,r,⟨o,n,e,_,_,d⟩,_⟩:=I.list h
 obtain⟨its',r',⟨o',n',e',_,_,d'⟩,_⟩:=I.list h'
 rw[e]at e';cases e'
 rw[d]at d'
 injection d' with d1 _
 have:its=its':=by simpa using congrArg Array.toList d1
 subst this
 exact r.inj r'
theorem Inv.tuple_inj (I:Inv X pins σ H s) (h:SqT X.K H a xs) (h':SqT X.K H a ys):xs=ys:=by
 obtain⟨its,r,⟨o,e,_,n,d⟩,_⟩:=I.tuple h
 obtain⟨its',r',⟨o',e',_,n',d'⟩,_⟩:=I.tuple h'
 rw[e]at e';cases e'
 rw[d]at d'
 injection d' with d1 _
 have:its=its':=by simpa using congrArg Array.toList d1
 subst this
 exact r.inj r'
end
abbrev Cx.wish (X:Cx) (E:Value→Shared→Prop):Cx:={ X with xe:=E }
abbrev Cx.nox (X:Cx):Cx:=X.wish fun _ _=>False
theorem Cx.Ok.wish {X:Cx}(ok:X.Ok) (E:Value→Shared→Prop):(X.wish E).Ok :=
 ⟨ok.mod,ok.kind,ok.glob,ok.blt,ok.above,ok.inj,ok.has,ok.cab,ok.hd,ok.frames,ok.stk,ok.exf,ok.bs,ok.bsz,ok.noex,ok.exfs,ok.funs,ok.frf⟩
theorem Cx.Ok.unwish {X:Cx}{E:Value→Shared→Prop}(ok:(X.wish E).Ok):X.Ok :=
 ⟨ok.mod,ok.kind,ok.glob,ok.blt,ok.above,ok.inj,ok.has,ok.cab,ok.hd,ok.frames,ok.stk,ok.exf,ok.bs,ok.bsz,ok.noex,ok.exfs,ok.funs,ok.frf⟩
section
variable {X:Cx}{pins:List (Addr×Obj)}{σ:St}{H:Hp}{s:Shared}{E:Value→Shared→Prop}
theorem Inv.wish (I:Inv X pins σ H s) (E:Value→Shared→Prop):Inv (X.wish E) pins σ H s:=⟨I.ok.wish E,I.os,I.bare,I.base,I.loc,I.cell,I.free,I.freeC,I.pin,I.hok,I.len⟩
theorem Inv.unwish (I:Inv (X.wish E) pins σ H s):Inv X pins σ H s:=⟨I.ok.unwish,I.os,I.bare,I.base,I.loc,I.cell,I.free,I.freeC,I.pin,I.hok,I.len⟩
theorem SP.unwish {D:Ends}{f:Flow}{s':Shared}(h:SP (X.wish E) pins D f s'):SP X pins D f s':=by
 cases f with
 | next=>obtain⟨σ',H',I,q⟩:=h;exact⟨σ',H',I.unwish,q⟩
 | brk=>obtain⟨σ',H',I,q⟩:=h;exact⟨σ',H',I.unwish,q⟩
 | cont=>obtain⟨σ',H',I,q⟩:=h;exact⟨σ',H',I.unwish,q⟩
 | ret u=>obtain⟨v,σ',H',I,r,q⟩:=h;exact⟨v,σ',H',I.unwish,r,q⟩
theorem PSs.nox {st:List Stmt}{t:TS}(h:PSs X.nox st t):PSs X st t:=fun pins s σ H D I hw =>
 wpAny_mono (h pins s σ H D (I.wish _) hw) (fun _ _ q=>q.unwish) fun _ _ z=>False.elim z
end
section
variable {X:Cx}{st:Stmt}{rest:List Stmt}{t u:TS}{e:Expr}{te:TE}{pos:Pos}
def tNext:TS:=fun D σ H=>D.nx σ H
def tSeq (t u:TS):TS:=fun D σ H=>t { D with nx:=u D } σ H
theorem pss_nil:PSs X [] tNext:=fun _ _ σ H _ I h=>wpAny_execs_nil ⟨σ,H,I,h⟩
theorem pss_cons (h1:PS X st t) (h2:PSs X rest u):PSs X (st::rest) (tSeq t u):=by
 intro pins s σ H D I h
 refine wpAny_execs_cons (thn (h1 pins s σ H { D with nx:=u D } I h) fun f s1 q=>?_)
 cases f with
 | next =>
  obtain⟨σ',H',I',q⟩:=q
  exact h2 pins s1 σ' H' D I' q
 | ret v=>exact q
 | brk=>exact q
 | cont=>exact q
theorem pss_one (h1:PS X st t):PSs X [st] t:=by
 intro pins s σ H D I h
 refine wpAny_execs_cons (thn (h1 pins s σ H D I h) fun f s1 q=>?_)
 cases f with
 | next=>exact wpAny_execs_nil q
 | ret v=>exact q
 | brk=>exact q
 | cont=>exact q
theorem Inv.quiet {pins:List (Addr×Obj)}{σ:St}{H:Hp}{s:Shared}(I:Inv X pins σ H s):interactive X.env=false:=by simp[interactive,I.ok.kind]
def tDrop (te:TE):TS:=fun D σ H=>te σ H fun _ H1=>D.nx σ H1
theorem ps_expr (he:PE X e te) (hs:swapsWith e none pos.line X.env=pure false:=by rfl):PS X (.Expr e pos) (tDrop te):=by
 intro pins s σ H D I h
 exact wpAny_Expr_any (thn (he pins s σ H _ I h) fun v s1 ⟨x,H1,I1,r1,q1⟩=>⟨σ,H1,I1,q1⟩) I.quiet hs
def tRet (te:TE):TS:=fun D σ H=>te σ H D.rt
theorem ps_ret (he:PE X e te):PS X (.Return (some e) pos) (tRet te):=by
 intro pins s σ H D I h
 exact wpAny_Return_some (thn (he pins s σ H _ I h) fun v s1 ⟨x,H1,I1,r1,q1⟩=>⟨x,σ,H1,I1,r1,q1⟩)
def tIfS (c:TT) (t u:TS):TS:=fun D σ H=>c σ H fun b H1=>if b=true then t D σ H1 else u D σ H1
theorem ps_if {c:Expr}{a b:List Stmt}{tc:TT}(hc:PT X c tc) (ha:PSs X a t) (hb:PSs X b u):PS X (.If c a b pos) (tIfS tc t u):=by
 intro pins s σ H D I h
 refine wpAny_If (thn (hc pins s σ H _ I h) fun d s1 ⟨H1,I1,q1⟩=>?_)
 cases d with
 | true=>exact ha pins s1 σ H1 D I1 q1
 | false=>exact hb pins s1 σ H1 D I1 q1
end
abbrev TG:=V→St→Hp→(St→Hp→Prop)→Prop
abbrev TGs:=List V→St→Hp→(St→Hp→Prop)→Prop
def PG (X:Cx) (target:Expr) (t:TG):Prop :=
 ∀(pins:List (Addr×Obj)) (s:Shared) (σ:St) (H:Hp) (v:V) (u:Value) (Q:St→Hp→Prop),Inv X pins σ H s→RelV v u→t v σ H Q →
  wpAny (model X.prog X.w) X.A (assign target X.env u) (fun _ s'=>∃σ' H',Inv X pins σ' H' s'∧Q σ' H') X.xe s
def PGs (X:Cx) (ts:List Expr) (t:TGs):Prop :=
 ∀(pins:List (Addr×Obj)) (s:Shared) (σ:St) (H:Hp) (vs:List V) (us:List Value) (Q:St→Hp→Prop),Inv X pins σ H s→Vals vs us→t vs σ H Q →
  wpAny (model X.prog X.w) X.A (assignInOrder ((assignEach ts X.env).map (·.2)) us) (fun _ s'=>∃σ' H',Inv X pins σ' H' s'∧Q σ' H') X.xe s
abbrev TSet:=V→V→V→Hp→(Hp→Prop)→Prop
def PSet (X:Cx) (t:TSet):Prop :=
 ∀(pins:List (Addr×Obj)) (s:Shared) (σ:St) (H:Hp) (o i v:V) (ov iv u:Value) (Q:Hp→Prop),Inv X pins σ H s→RelV o ov→RelV i iv→RelV v u→t o i v H Q →
  wpAny (model X.prog X.w) X.A (setItem ov iv u) (fun _ s'=>∃H',Inv X pins σ H' s'∧Q H') X.xe s
abbrev TIp:=V→V→Hp→VK→Prop
def PIp (X:Cx) (op:Operator) (t:TIp):Prop :=
 ∀(pins:List (Addr×Obj)) (s:Shared) (σ:St) (H:Hp) (x y:V) (v u:Value) (Q:VK),Inv X pins σ H s→RelV x v→RelV y u→t x y H Q →
  wpAny (model X.prog X.w) X.A (inplaceOp op v u) (EP X pins σ Q) X.xe s
section
variable {X:Cx}{pos:Pos}
def gName (i:Nat):TG:=fun v σ H Q=>Q (σ.set i (some v)) H
theorem pg_name {i:Nat}{x:Str}(hN:X.N.Nodup) (hi:X.N[i]? = some x) (hx:Loc X.env.scope x) (hf:X.fn x=true∨X.env.scope.names.lookup x=some .local:=by first|exact .inl rfl|exact .inr rfl|assumption):PG X (.Name x pos) (gName i):=by
 intro pins s σ H v u Q I r h
 exact wpAny_assign_Name (store_ok I hN hi hx r (fun s' I'=>⟨_,H,I',h⟩) hf)
def gNil:TGs:=fun vs σ H Q=>vs=[]∧Q σ H
def gCons (t:TG) (u:TGs):TGs:=fun vs σ H Q=>∃v r,vs=v::r∧t v σ H fun σ' H'=>u r σ' H' Q
theorem pgs_nil:PGs X [] gNil:=by
 intro pins s σ H vs us Q I r h
 obtain⟨e,h⟩:=h
 subst e
 cases r
 exact assignInOrder_nil ⟨σ,H,I,h⟩
theorem pgs_cons {e:Expr}{es:List Expr}{t:TG}{u:TGs}(h1:PG X e t) (h2:PGs X es u)
  (hs:(assignEach (e::es) X.env).map (·.2)=assign e X.env::(assignEach es X.env).map (·.2):=by rfl):PGs X (e::es) (gCons t u):=by
 intro pins s σ H vs us Q I r h
 obtain⟨v,vr,e1,h⟩:=h
 subst e1
 cases r with
 | cons r rr =>
  rw[hs]
  refine assignInOrder_cons (thn (h1 pins s σ H _ _ _ I r h) fun _ s1 ⟨σ1,H1,I1,q1⟩=>?_)
  exact h2 pins s1 σ1 H1 _ _ Q I1 rr q1
def gTup (K:PySem.W.Frag) (n:Nat) (t:TGs):TG:=fun v σ H Q=>∃a xs,v = .ref a∧SqT K H a xs∧xs.length=n∧t xs σ H Q
theorem pg_tup {es:List Expr}{k:Nat}{t:TGs}{n:Nat}(hc:X.calm=true) (h:PGs X es t)
  (hn:(assignEach es X.env).length=n:=by rfl) (hst:(assignEach es X.env).findIdx? (·.1)=none:=by rfl):PG X (.Tuple es k pos) (gTup X.K n t):=by
 intro pins s σ H v u Q I r hw
 obtain⟨a,xs,e1,hq,hl,hw⟩:=hw
 subst e1
 cases r
 obtain⟨its,rv,ht,hz⟩:=I.tuple hq
 refine assign_Tuple_tuple (I.ok.hd hc) ht (by simp[hn,← hl,rv.length]) hst fun h' hx=>?_
 have I1:Inv X pins σ H { s with heap:=h' }:=I.kept (t':=s.toks) fun b o e=>hx b o (Nat.ne_of_lt (Heap.lt_size e)) e
 exact h pins _ σ H xs _ Q I1 (by simpa using rv) hw
def gSub (to ti:TE) (t:TSet):TG:=fun v σ H Q=>to σ H fun o H1=>ti σ H1 fun i H2=>t o i v H2 fun H3=>Q σ H3
theorem pg_sub {o i:Expr}{to ti:TE}{t:TSet}(ho:PE X o to) (hi:PE X i ti) (hs:PSet X t)
  (ha:∀v,assign (.Subscript o i pos) X.env v =(do
   let ov ← holding [v] (eval o X.env)
   let iv ← holding [v,ov] (eval i X.env)
   standAt pos
   holding [v,ov,iv] (setItem ov iv v)
   release [v,ov,iv] []):=by intro _;rfl):PG X (.Subscript o i pos) (gSub to ti t):=by
 intro pins s σ H v u Q I r h
 rw[ha]
 refine wpAny_bind (wpAny_holding (thn (ho pins s σ H _ I h) fun ov s1 ⟨x,H1,I1,r1,q1⟩=>?_))
 refine wpAny_bind (wpAny_holding (thn (hi pins s1 σ H1 _ I1 q1) fun iv s2 ⟨y,H2,I2,r2,q2⟩=>?_))
 refine wpAny_bind (wpAny_standAt (wpAny_bind (wpAny_holding (thn (hs pins s2 σ H2 x y v ov iv u _ I2 r1 r2 r q2) fun _ s3 ⟨H3,I3,q3⟩=>?_))))
 exact wpAny_release ⟨σ,H3,I3,q3⟩
def tAsg (te:TE) (g:TG):TS:=fun D σ H=>te σ H fun x H1=>g x σ H1 D.nx
theorem ps_asg {tg e:Expr}{te:TE}{g:TG}(he:PE X e te) (hg:PG X tg g) (hs:swapsWithSole [tg] e pos.line X.env=pure false:=by rfl) (hw:swappedStores [tg] e X.env=pure none:=by rfl)
  (h1:(assignEach [tg] X.env).map (·.2)=[assign tg X.env]:=by rfl):PS X (.Assign [tg] e pos) (tAsg te g):=by
 intro pins s σ H D I h
 refine wpAny_Assign_stores (thn (he pins s σ H _ I h) fun v s1 ⟨x,H1,I1,r1,q1⟩=>?_) hs hw
 rw[h1]
 exact thn (hg pins s1 σ H1 x v _ I1 r1 q1) fun _ s2 q=>q
theorem ps_set {i:Nat}{x:Str}{e:Expr}{te:TE}{pos':Pos}(hN:X.N.Nodup) (hi:X.N[i]? = some x) (hx:Loc X.env.scope x) (he:PE X e te) (hs:swapsWith e (some (.Name x pos')) pos.line X.env=pure false:=by rfl) (hf:X.fn x=true∨X.env.scope.names.lookup x=some .local:=by first|exact .inl rfl|exact .inr rfl|assumption) :
  PS X (.Assign [.Name x pos'] e pos) (tAsg te (gName i)):=by
 intro pins s σ H D I h
 refine wpAny_Assign_Name (thn (he pins s σ H _ I h) fun v s1 ⟨y,H1,I1,r1,q1⟩=>?_) hs
 exact store_ok I1 hN hi hx r1 (fun s2 I2=>⟨_,H1,I2,q1⟩) hf
def tAug (i:Nat) (te:TE) (ti:TIp):TS:=fun D σ H=>∃x,σ[i]? = some (some x)∧te σ H fun y H1=>ti x y H1 fun z H2=>D.nx (σ.set i (some z)) H2
theorem ps_aug {i:Nat}{x:Str}{e:Expr}{te:TE}{op:Operator}{ti:TIp}{pos':Pos}(hN:X.N.Nodup) (hi:X.N[i]? = some x) (hx:Loc X.env.scope x) (he:PE X e te) (ho:PIp X op ti) (hf:X.fn x=true∨X.env.scope.names.lookup x=some .local:=by first|exact .inl rfl|exact .inr rfl|assumption) :
  PS X (.AugAssign (.Name x pos') op e pos) (tAug i te ti):=by
 intro pins s σ H D I h
 obtain⟨v,e1,h⟩:=h
 obtain⟨m,hn,hl⟩:=I.loc
 have vis:Vis X.env.scope x:=by rcases hx with k|k;exact .inl k;exact .inr (.inl k)
 obtain⟨u,r,l⟩:=hl i x v hi e1 vis
 refine wpAny_AugAssign_Name ?_
 have go:wpAny (model X.prog X.w) X.A (eval e X.env) (fun w s₂=>wpAny (model X.prog X.w) X.A (inplaceOp op u w) (fun r s₃=>wpAny (model X.prog X.w) X.A (storeName X.env x r) (fun _=>SP X pins D .next) X.xe s₃) X.xe s₂) X.xe s:=by
  refine thn (he pins s σ H _ I h) fun w s1 ⟨y,H1,I1,r1,q1⟩=>?_
  refine thn (ho pins s1 σ H1 v y u w _ I1 r r1 q1) fun z s2 ⟨zv,H2,I2,r2,q2⟩=>?_
  exact store_ok I2 hN hi hx r2 (fun s3 I3=>⟨_,H2,I3,q2⟩) hf
 rcases l with⟨hk,hm⟩|⟨hk,c,hc,hcell⟩
 ·exact wpAny_loadName_local I.ok.kind hk hn hm go
 ·rcases hk with hk|hk
  ·exact wpAny_loadName_cell I.ok.kind hk hc hcell go
  ·rcases hx with k|k
   ·have:X.env.scope.names.lookup x=some .free:=hk
    rw[k]at this;cases this
   ·have:X.env.scope.names.lookup x=some .free:=hk
    rw[k]at this;cases this
def tAugS (to ti te:TE) (tget:V→V→Hp→VK→Prop) (tip:TIp) (tset:TSet):TS:=fun D σ H=>to σ H fun o H1=>ti σ H1 fun i H2=>tget o i H2 fun x H3=>te σ H3 fun y H4=>tip x y H4 fun z H5=>tset o i z H5 fun H6=>D.nx σ H6
def PGet (X:Cx) (t:V→V→Hp→VK→Prop):Prop :=
 ∀(pins:List (Addr×Obj)) (s:Shared) (σ:St) (H:Hp) (o i:V) (ov iv:Value) (Q:VK),Inv X pins σ H s→RelV o ov→RelV i iv→t o i H Q →
  wpAny (model X.prog X.w) X.A (getItem ov iv) (EP X pins σ Q) X.xe s
theorem ps_augS {o i e:Expr}{to ti te:TE}{tget:V→V→Hp→VK→Prop}{tip:TIp}{tset:TSet}{op:Operator}{tpos:Pos}(ho:PE X o to) (hi:PE X i ti) (hg:PGet X tget) (he:PE X e te) (hp:PIp X op tip) (hs:PSet X tset)
  (ha:∀ov iv new,augStore i ov iv new =(do holding [new,ov,iv] (setItem ov iv new);release [new,ov,iv] [];pure .next):=by intros;rfl):PS X (.AugAssign (.Subscript o i tpos) op e pos) (tAugS to ti te tget tip tset):=by
 intro pins s σ H D I h
 refine wpAny_AugAssign_SubscriptAny (thn (ho pins s σ H _ I h) fun ov s1 ⟨x1,H1,I1,r1,q1⟩=>?_) ha
 refine thn (hi pins s1 σ H1 _ I1 q1) fun iv s2 ⟨x2,H2,I2,r2,q2⟩=>?_
 refine thn (hg pins s2 σ H2 x1 x2 ov iv _ I2 r1 r2 q2) fun old s3 ⟨x3,H3,I3,r3,q3⟩=>?_
 refine thn (he pins s3 σ H3 _ I3 q3) fun v s4 ⟨x4,H4,I4,r4,q4⟩=>?_
 refine thn (hp pins s4 σ H4 x3 x4 old v _ I4 r3 r4 q4) fun new s5 ⟨x5,H5,I5,r5,q5⟩=>?_
 exact thn (hs pins s5 σ H5 x1 x2 x5 ov iv new _ I5 r1 r2 r5 q5) fun _ s6 ⟨H6,I6,q6⟩=>⟨σ,H6,I6,q6⟩
def ipI (f:Int→Int→Int):TIp:=fun x y H Q=>∃i j,x = .int i∧y = .int j∧Q (.int (f i j)) H
theorem ip_add:PIp X .Add (ipI fun i j=>i+j):=by
 intro pins s σ H x y v u Q I r1 r2 h
 obtain⟨i,j,e1,e2,q⟩:=h
 subst e1;subst e2
 obtain⟨t,rfl⟩:=r1
 obtain⟨t',rfl⟩:=r2
 exact iadd_int ⟨.int _,H,I.tok _,⟨_,rfl⟩,q⟩
theorem ip_sub:PIp X .Sub (ipI fun i j=>i-j):=by
 intro pins s σ H x y v u Q I r1 r2 h
 obtain⟨i,j,e1,e2,q⟩:=h
 subst e1;subst e2
 obtain⟨t,rfl⟩:=r1
 obtain⟨t',rfl⟩:=r2
 exact isub_int ⟨.int _,H,I.tok _,⟨_,rfl⟩,q⟩
end
section
variable {X:Cx}{pos:Pos}
def tWhile (c:TT) (tb:TS):TS:=fun D σ H=>∃W:Nat→St→Hp→Prop,(∃m,W m σ H)∧∀m σ H,W m σ H →
 c σ H fun b H1=>if b=true then ∃N:St→Hp→Prop,(∀σ' H',N σ' H'→∃m',m'<m∧W m' σ' H')∧tb { D with nx:=N,ct:=N,bk:=D.nx } σ H1 else D.nx σ H1
theorem ps_while {c:Expr}{body:List Stmt}{tc:TT}{tb:TS}(hp:PassesOwn (model X.prog X.w) X.A X.env X.xe) (hc:PT X c tc) (hb:PSs X body tb):PS X (.While c body [] pos) (tWhile tc tb):=by
 intro pins s σ H D I h
 obtain⟨W,⟨m0,w0⟩,turn⟩:=h
 refine wpAny_While (codeAny_whileLoop (fun n s'=>∃σ' H',Inv X pins σ' H' s'∧W n σ' H') ?_ m0 ⟨σ,H,I,w0⟩)
 rintro n s1 ⟨σ1,H1,I1,w1⟩
 refine wpAny_passesOwn hp (thn (hc pins s1 σ1 H1 _ I1 (turn n σ1 H1 w1)) fun b s2 ⟨H2,I2,q2⟩=>?_)
 cases b with
 | true =>
  obtain⟨N,hN,q2⟩:=q2
  rw[if_pos rfl]
  refine wpAny_passesOwn hp (thn (hb pins s2 σ1 H2 _ I2 q2) fun f s3 q3=>?_)
  cases f with
  | next =>
   obtain⟨σ3,H3,I3,n3⟩:=q3
   obtain⟨m',hm,w3⟩:=hN σ3 H3 n3
   exact⟨m',hm,σ3,H3,I3,w3⟩
  | cont =>
   obtain⟨σ3,H3,I3,n3⟩:=q3
   obtain⟨m',hm,w3⟩:=hN σ3 H3 n3
   exact⟨m',hm,σ3,H3,I3,w3⟩
  | brk=>exact q3
  | ret v=>exact q3
 | false =>
  rw[if_neg Bool.false_ne_true]
  exact wpAny_execs_nil ⟨σ1,H2,I2,q2⟩
end
structure It where
 go:Nat→Hp→Prop
 yld:Nat→Hp→V→Hp→Prop
 stop:Nat→Hp→Prop
def FpOk (X:Cx) (pins:List (Addr×Obj)) (H:Hp) (b:Addr):Prop :=
 H b=none∧b≠X.env.locals∧b∉X.fs∧(b∈X.ex∨X.s₀.heap.objs.size≤b)∧(∀x c,X.env.cells.lookup x=some c→c≠b)∧∀p∈X.pn++pins,p.1≠b
theorem Inv.fpOk {X:Cx}{pins:List (Addr×Obj)}{σ:St}{H H':Hp}{s:Shared}{b:Addr}(I:Inv X pins σ H s) (hb:s.heap.objs.size≤b) (hn:H' b=none):FpOk X pins H' b:=by
 refine⟨hn,Nat.ne_of_gt (Nat.lt_of_lt_of_le I.lt hb),I.nofs hb,.inr (Nat.le_trans I.sz hb),fun x c e z=>?_,fun p hp z=>?_⟩
 ·obtain⟨v,q⟩:=I.cell x c e
  exact absurd (Nat.lt_of_lt_of_le q.lt (by rw[z];exact hb)) (Nat.lt_irrefl _)
 ·exact absurd (Nat.lt_of_lt_of_le (Heap.lt_size (I.pin p hp).1) (by rw[z];exact hb)) (Nat.lt_irrefl _)
structure Turn (P:Program) (w:World) (K:PySem.W.Frag) (tg:Expr) (J:It) (fp:List Addr) (it:Addr) (tn:Nat→Heap→Prop):Prop where
 mem:it∈fp
 obj:∀i h,tn i h→∀b∈fp,∃o,h.get? b=some o∧∀v,o.data ≠ .cell v
 keep:∀i h h',tn i h→(∀b∈fp,∀o,h.get? b=some o→h'.get? b=some o)→tn i h'
 item:∀(X:Cx),X.prog=P→X.w=w→X.K=K→X.calm=true→∀(i:Nat) (pins:List (Addr×Obj)) (s:Shared) (σ:St) (H:Hp) (E:Value→Shared→Prop),Inv X pins σ H s→(∀b∈fp,FpOk X pins H b)→tn i s.heap→J.go i H →
  wpAny (model P w) X.A (pyNext (.ref it)) (fun r s1=>∃u,r=some u ∧
   wpAny (model P w) X.A (letOwnedTupleGo tg (.ref it) u) (fun _ s2=>∃x H',Inv X pins σ H' s2∧RelV x u∧J.yld i H x H'∧tn (i+1) s2.heap∧∀b∈fp,H' b=none) E s1) E s
 done:∀(X:Cx),X.prog=P→X.w=w→X.K=K→X.calm=true→∀(i:Nat) (pins:List (Addr×Obj)) (s:Shared) (σ:St) (H:Hp) (E:Value→Shared→Prop),Inv X pins σ H s→(∀b∈fp,FpOk X pins H b)→tn i s.heap→J.stop i H →
  wpAny (model P w) X.A (pyNext (.ref it)) (fun r s1=>r=none∧Inv X pins σ H s1) E s
 self:∀(A:Around) (i:Nat) (s:Shared) (Q:Value→Shared→Prop) (E:Value→Shared→Prop),tn i s.heap→Q (.ref it) s→wpAny (model P w) A (pyIter (.ref it)) Q E s
abbrev TI:=St→Hp→(It→Hp→Prop)→Prop
def PIE (X:Cx) (pins:List (Addr×Obj)) (σ:St) (tg:Expr) (R:It→Hp→Prop) (itv:Value) (s2:Shared):Prop :=
 ∃(it:Addr) (fp:List Addr) (tn:Nat→Heap→Prop) (J:It) (H':Hp),itv = .ref it∧Inv X pins σ H' s2∧Turn X.prog X.w X.K tg J fp it tn∧tn 0 s2.heap∧(∀b∈fp,FpOk X pins H' b)∧R J H'
def PI (X:Cx) (tg iter:Expr) (wi:TI):Prop :=
 ∀(pins:List (Addr×Obj)) (s:Shared) (σ:St) (H:Hp) (R:It→Hp→Prop),Inv X pins σ H s→wi σ H R →
  wpAny (model X.prog X.w) X.A (eval iter X.env) (fun v s1=>wpAny (model X.prog X.w) X.A (pyIter v) (PIE X pins σ tg R) X.xe s1) X.xe s
theorem go_of {M:Model} {A:Around} {E:Value→Shared→Prop} {s:Shared} {tg:Expr} {it:Addr} {u:Value} {o:Obj} {n:String} {vs:Array Value} {Q:Unit→Shared→Prop} (ho:s.heap.get? it = some o) (hc:o.cls = .type n) (hd:o.data = .fields vs)
    (hn:["enumerate", "zip", "dict_itemiterator", "dict_reverseitemiterator", "odict_iterator", "itertools.zip_longest", "itertools.pairwise"].contains n = false) (hQ:Q () s) : wpAny M A (letOwnedTupleGo tg (.ref it) u) Q E s:=by
  unfold letOwnedTupleGo
  cases tg <;> first
    | exact wpAny_pure hQ
    | (cases u <;> first
        | exact wpAny_pure hQ
        | (refine wpAny_bind (wpAny_load ho ?_)
           rw [hc,hd]
           show wpAny M A (if (["enumerate", "zip", "dict_itemiterator", "dict_reverseitemiterator", "odict_iterator", "itertools.zip_longest", "itertools.pairwise"].contains n && vs[0]? == some (rawInt _)) = true then _ else _) Q E s
           rw [if_neg (by intro h; rw [hn,Bool.false_and] at h; cases h)]
           exact wpAny_pure hQ))
def Itl (K:PySem.W.Frag) (a:Addr):It :=
 ⟨fun i H=>∃xs x,SqL K H a xs∧xs[i]? = some x,fun i H x H'=>H'=H∧∀xs,SqL K H a xs→xs[i]? = some x,fun i H=>∃xs,SqL K H a xs∧xs.length≤i⟩
def Itt (K:PySem.W.Frag) (a:Addr):It :=
 ⟨fun i H=>∃xs x,SqT K H a xs∧xs[i]? = some x,fun i H x H'=>H'=H∧∀xs,SqT K H a xs→xs[i]? = some x,fun i H=>∃xs,SqT K H a xs∧xs.length≤i⟩
def Itr (lo:Int) (n:Nat):It:=⟨fun i _=>i<n,fun i H x H'=>H'=H∧x = .int (lo+i),fun i _=>n≤i⟩
theorem turn_list {P:Program}{w:World}{K:PySem.W.Frag}{tg:Expr}(a it:Addr):Turn P w K tg (Itl K a) [it] it (fun i h=>h.IsListIter it a i) where
 mem:=by simp
 obj:=fun i h st b hb=>by
  have e:b=it:=by simpa using hb
  subst e
  obtain⟨o,e,c,d⟩:=st
  exact⟨o,e,fun v z=>by rw[d]at z;cases z⟩
 keep:=fun i h h' st k=>st.at fun o e=>k it (by simp) o e
 item:=by
  intro X hP hw hK hc i pins s σ H E I hf st hg
  subst hP hw hK
  obtain⟨xs,x,hq,hx⟩:=hg
  obtain⟨its,rv,p,hz⟩:=I.list hq
  obtain⟨u,hu,ru⟩:=rv.get hx
  obtain⟨f0,f1,f2,f3,f4,f5⟩:=hf it (by simp)
  refine wpAny_pyNext_list_item st p.isList (x:=u) (by simpa using hu) fun h' st' sb=>?_
  have I1:Inv X pins σ H { s with heap:=h' }:=I.turned (t':=s.toks) (fun b o hb e=>(sb.2 b hb).trans e) f0 f1 f3 f4 f5
  obtain⟨o,e,c,d⟩:=id st'
  exact⟨u,rfl,go_of (s:={ s with heap:=h' }) e c d (by decide) ⟨x,H,I1,ru,⟨rfl,fun ys hy=>by rw[I.list_inj hy hq];exact hx⟩,st',fun b hb=>(hf b hb).1⟩⟩
 done:=by
  intro X hP hw hK hc i pins s σ H E I hf st hg
  subst hP hw hK
  obtain⟨xs,hq,hx⟩:=hg
  obtain⟨its,rv,p,hz⟩:=I.list hq
  obtain⟨f0,f1,f2,f3,f4,f5⟩:=hf it (by simp)
  have hl:=rv.length
  exact wpAny_pyNext_list_end (I.ok.hd hc) st p.isList (by simp;omega) fun h' eb=>⟨rfl,I.turned (t':=s.toks) (fun b o hb e=>eb b o hb e) f0 f1 f3 f4 f5⟩
 self:=fun _ _ _ _ _ st h=>wpAny_pyIter_listiter st h
theorem turn_tuple {P:Program}{w:World}{K:PySem.W.Frag}{tg:Expr}(a it:Addr):Turn P w K tg (Itt K a) [it] it (fun i h=>h.IsTupleIter it a i) where
 mem:=by simp
 obj:=fun i h st b hb=>by
  have e:b=it:=by simpa using hb
  subst e
  obtain⟨o,e,c,d⟩:=st
  exact⟨o,e,fun v z=>by rw[d]at z;cases z⟩
 keep:=fun i h h' st k=>st.at fun o e=>k it (by simp) o e
 item:=by
  intro X hP hw hK hc i pins s σ H E I hf st hg
  subst hP hw hK
  obtain⟨xs,x,hq,hx⟩:=hg
  obtain⟨its,rv,p,hz⟩:=I.tuple hq
  obtain⟨u,hu,ru⟩:=rv.get hx
  obtain⟨f0,f1,f2,f3,f4,f5⟩:=hf it (by simp)
  refine wpAny_pyNext_tuple_item st (show s.heap.IsTuple a its.toArray from p) (x:=u) (by simpa using hu) fun h' st' sb=>?_
  have I1:Inv X pins σ H { s with heap:=h' }:=I.turned (t':=s.toks) (fun b o hb e=>(sb.2 b hb).trans e) f0 f1 f3 f4 f5
  obtain⟨o,e,c,d⟩:=id st'
  exact⟨u,rfl,go_of (s:={ s with heap:=h' }) e c d (by decide) ⟨x,H,I1,ru,⟨rfl,fun ys hy=>by rw[I.tuple_inj hy hq];exact hx⟩,st',fun b hb=>(hf b hb).1⟩⟩
 done:=by
  intro X hP hw hK hc i pins s σ H E I hf st hg
  subst hP hw hK
  obtain⟨xs,hq,hx⟩:=hg
  obtain⟨its,rv,p,hz⟩:=I.tuple hq
  obtain⟨f0,f1,f2,f3,f4,f5⟩:=hf it (by simp)
  have hl:=rv.length
  exact wpAny_pyNext_tuple_end (I.ok.hd hc) st (show s.heap.IsTuple a its.toArray from p) (by simp;omega) fun h' eb=>⟨rfl,I.turned (t':=s.toks) (fun b o hb e=>eb b o hb e) f0 f1 f3 f4 f5⟩
 self:=fun _ _ _ _ _ st h=>wpAny_pyIter_tupleiter st h
theorem turn_range {P:Program}{w:World}{K:PySem.W.Frag}{tg:Expr}(it:Addr) (lo:Int) (n:Nat):Turn P w K tg (Itr lo n) [it] it (fun i h=>IsRangeIter h it (lo+(i:Nat)*1) ((n:Int)-(i:Nat)) 1) where
 mem:=by simp
 obj:=fun i h st b hb=>by
  have e:b=it:=by simpa using hb
  subst e
  exact⟨_,st,fun v z=>by
   have z':Data.fields _=Data.cell v:=z
   cases z'⟩
 keep:=fun i h h' st k=>k it (by simp) _ st
 item:=by
  intro X hP hw hK hc i pins s σ H E I hf st hg
  subst hP hw hK
  obtain⟨f0,f1,f2,f3,f4,f5⟩:=hf it (by simp)
  have W:=Walks.range (prog:=X.prog) (w:=X.w) (I.ok.hd hc) it lo 1 n
  refine W.item i s _ _ hg st fun v h' tk hv st' kk=>?_
  obtain⟨t,rfl⟩:=hv
  have I1:Inv X pins σ H { s with heap:=h',toks:=tk }:=I.turned (fun b o hb e=>kk b o (by simpa using hb) e) f0 f1 f3 f4 f5
  refine⟨_,rfl,go_of (s:={ s with heap:=h',toks:=tk }) (n := "range_iterator") st' rfl rfl (by decide) ⟨.int (lo+i),H,I1,⟨t,?_⟩,⟨rfl,rfl⟩,st',fun b hb=>(hf b hb).1⟩⟩
  rw[Int.mul_one]
 done:=by
  intro X hP hw hK hc i pins s σ H E I hf st hg
  subst hP hw hK
  obtain⟨f0,f1,f2,f3,f4,f5⟩:=hf it (by simp)
  exact wpAny_pyNext_range_end (I.ok.hd hc) st (by have:n≤i:=hg;omega) fun h' eb=>⟨rfl,I.turned (t':=s.toks) (fun b o hb e=>eb b o hb e) f0 f1 f3 f4 f5⟩
 self:=fun _ _ _ _ _ st h=>wpAny_pyIter_rangeiter st h
end L2
namespace L2
open PySem PySem.Spec PyProof.Rows
section
variable {X:Cx}{tg:Expr}
def iList (K:PySem.W.Frag) (tl:TE):TI:=fun σ H R=>tl σ H fun x H1=>∃a,x = .ref a∧(∃xs,SqL K H1 a xs)∧R (Itl K a) H1
def iTup (K:PySem.W.Frag) (tl:TE):TI:=fun σ H R=>tl σ H fun x H1=>∃a,x = .ref a∧(∃xs,SqT K H1 a xs)∧R (Itt K a) H1
theorem pi_list {l:Expr}{tl:TE}(hl:PE X l tl):PI X tg l (iList X.K tl):=by
 intro pins s σ H R I h
 refine thn (hl pins s σ H _ I h) fun v s1 ⟨x,H1,I1,r1,q1⟩=>?_
 obtain⟨a,e,⟨xs,hq⟩,q⟩:=q1
 subst e
 cases r1
 obtain⟨its,rv,p,hz⟩:=I1.list hq
 refine wpAny_pyIter_list p.isList ?_
 refine⟨s1.heap.objs.size,[s1.heap.objs.size],_,_,H1,rfl,I1.kept (t':=s1.toks) fun b o e=>Heap.get?_push_of_some _ e,turn_list a _,⟨_,Heap.get?_push_size _ rfl,rfl,rfl⟩,fun b hb=>?_,q⟩
 have e:b=s1.heap.objs.size:=by simpa using hb
 subst e
 exact I1.fpOk (Nat.le_refl _) (I1.hok.fresh (Nat.le_refl _))
theorem pi_tup {l:Expr}{tl:TE}(hl:PE X l tl):PI X tg l (iTup X.K tl):=by
 intro pins s σ H R I h
 refine thn (hl pins s σ H _ I h) fun v s1 ⟨x,H1,I1,r1,q1⟩=>?_
 obtain⟨a,e,⟨xs,hq⟩,q⟩:=q1
 subst e
 cases r1
 obtain⟨its,rv,p,hz⟩:=I1.tuple hq
 refine wpAny_pyIter_tuple (show s1.heap.IsTuple a its.toArray from p) ?_
 refine⟨s1.heap.objs.size,[s1.heap.objs.size],_,_,H1,rfl,I1.kept (t':=s1.toks) fun b o e=>Heap.get?_push_of_some _ e,turn_tuple a _,⟨_,Heap.get?_push_size _ rfl,rfl,rfl⟩,fun b hb=>?_,q⟩
 have e:b=s1.heap.objs.size:=by simpa using hb
 subst e
 exact I1.fpOk (Nat.le_refl _) (I1.hok.fresh (Nat.le_refl _))
theorem range_it {pins:List (Addr×Obj)}{σ:St}{H:Hp}{s:Shared}{R:It→Hp→Prop}{E:Value→Shared→Prop}{lo hi:Int}{t u v:Tok}{tk:Nat}(I:Inv X pins σ H s) (h1:-(2^62)≤lo) (h2:lo<2^62) (h3:-(2^62)≤hi) (h4:hi<2^62)
  (q:R (Itr lo (hi-lo).toNat) H):wpAny (model X.prog X.w) X.A (pyIter (.ref s.heap.objs.size)) (PIE X pins σ tg R) E { s with heap:=s.heap.push { cls:=.type "range",data:=.fields #[.int lo t,.int hi u,.int 1 v] },toks:=tk }:=by
 refine wpAny_pyIter_range (IsRange.new ..) (small_one h1 h2 h3 h4) ?_
 have I1:Inv X pins σ H { s with heap:=s.heap.push { cls:=.type "range",data:=.fields #[.int lo t,.int hi u,.int 1 v] },toks:=tk }:=I.kept fun b o e=>Heap.get?_push_of_some _ e
 refine⟨(s.heap.push { cls:=.type "range",data:=.fields #[.int lo t,.int hi u,.int 1 v] }).objs.size,[(s.heap.push { cls:=.type "range",data:=.fields #[.int lo t,.int hi u,.int 1 v] }).objs.size],_,_,H,rfl,
  I1.kept (t':=tk) fun b o e=>Heap.get?_push_of_some _ e,turn_range _ lo (hi-lo).toNat,?_,fun b hb=>?_,q⟩
 ·have e1:lo+((0:Nat):Int)*1=lo:=by simp
  have e2:(((hi-lo).toNat:Nat):Int)-((0:Nat):Int)=Builtin.Range.rangeSize lo hi 1:=by rw[rangeSize_one];split <;> omega
  show IsRangeIter _ _ (lo+((0:Nat):Int)*1) ((((hi-lo).toNat:Nat):Int)-((0:Nat):Int)) 1
  rw[e1,e2]
  exact Heap.get?_push_size _ rfl
 ·have e:b =(s.heap.push { cls:=.type "range",data:=.fields #[.int lo t,.int hi u,.int 1 v] }).objs.size:=by simpa using hb
  subst e
  exact I1.fpOk (Nat.le_refl _) (I1.hok.fresh (Nat.le_refl _))
def iRng1 (ta:TA):TI:=fun σ H R=>ta σ H fun vs H1=>∃j:Int,vs=[.int j]∧-(2^62)≤j∧j<2^62∧R (Itr 0 j.toNat) H1
theorem pi_range1 {a:Expr}{ta:TA}{p pos:Pos}(hg:Gl X "range") (hm:X.mg "range" = none) (ha:PA X [a] ta) (hs:starEach [a] X.env=[(false,eval a X.env)]:=by rfl):PI X tg (.Call (.Name "range" p) [a] [] pos) (iRng1 ta):=by
 intro pins s σ H R I h
 refine Call_ (ld_blt I hg hm boot_range (PyProof.Rows.callWith_type1 (thn (ha pos pins s σ H _ I h) fun us s1 ⟨vs,H1,I1,r1,q1⟩=>?_) hs rfl))
 obtain⟨j,e,q1,q2,q⟩:=q1
 subst e
 cases r1 with
 | cons r rr =>
  cases rr
  obtain⟨t,rfl⟩:=r
  exact call_range_1 (range_it I1 (by omega) (by omega) q1 q2 (by simpa using q))
def tFor (wi:TI) (g:TG) (tb:TS):TS:=fun D σ H=>wi σ H fun J H1=>∃W:Nat→Nat→St→Hp→Prop,(∃m,W 0 m σ H1)∧∀i m σ H,W i m σ H →
 (J.stop i H∧D.nx σ H) ∨(J.go i H∧∃N:St→Hp→Prop,(∀σ' H',N σ' H'→∃m',m'<m∧W (i+1) m' σ' H')∧∀x H',J.yld i H x H'→g x σ H' fun σ2 H2=>tb { D with nx:=N,ct:=N,bk:=D.nx } σ2 H2)
def pinsAt (fp:List Addr) (h:Heap):List (Addr×Obj):=fp.filterMap fun b=>(h.get? b).map fun o=>(b,o)
theorem mem_pinsAt {fp:List Addr}{h:Heap}{b:Addr}{o:Obj}(hb:b∈fp) (e:h.get? b=some o):(b,o)∈pinsAt fp h:=List.mem_filterMap.mpr ⟨b,hb,by rw[e];rfl⟩
theorem of_pinsAt {fp:List Addr}{h:Heap}{p:Addr×Obj}(hp:p∈pinsAt fp h):p.1∈fp∧h.get? p.1=some p.2:=by
 obtain⟨b,hb,e⟩:=List.mem_filterMap.mp hp
 cases q:h.get? b with
 | none=>rw[q]at e;cases e
 | some o =>
  rw[q]at e
  have e':(b,o)=p:=Option.some.inj e
  subst e'
  exact⟨hb,q⟩
theorem Inv.pinned {pins:List (Addr×Obj)}{σ:St}{H:Hp}{s:Shared}{fp:List Addr}(I:Inv X pins σ H s) (hf:∀b∈fp,FpOk X pins H b) (ho:∀b∈fp,∃o,s.heap.get? b=some o∧∀v,o.data ≠ .cell v):Inv X (pins++pinsAt fp s.heap) σ H s :=
 I.pins_of fun p hp=>(List.mem_append.mp hp).elim (fun z=>I.pin p (List.mem_append_right _ z)) fun z=>by
  obtain⟨hb,e⟩:=of_pinsAt z
  obtain⟨f0,f1,f2,_⟩:=hf p.1 hb
  obtain⟨o,e',d⟩:=ho p.1 hb
  rw[e]at e';cases e'
  exact⟨e,f0,f1,f2,d⟩
theorem Inv.unpinned {pins pl:List (Addr×Obj)}{σ:St}{H:Hp}{s:Shared}(I:Inv X (pins++pl) σ H s):Inv X pins σ H s:=I.pins_of fun p hp=>I.pin p (List.mem_append_right _ (List.mem_append_left _ hp))
theorem ps_for {iter:Expr}{body:List Stmt}{wi:TI}{g:TG}{tb:TS}{pos:Pos}(hp:PassesOwn (model X.prog X.w) X.A X.env X.xe) (hc:X.calm=true) (hi:PI X tg iter wi) (hg:PG X tg g) (hb:PSs X body tb)
  (hs:∀x,foldedSetIterable iter X.env x=pure x:=by intro _;rfl):PS X (.For tg iter body [] pos) (tFor wi g tb):=by
 intro pins s σ H D I h
 refine wpAny_For (thn (hi pins s σ H _ I h) fun v s1 h1=>thn h1 fun itv s2 h2=>?_) hs
 obtain⟨it,fp,tn,J,H2,e,I2,T,st2,f2,W,⟨m0,w0⟩,turn⟩:=h2
 subst e
 have stat:∀{H':Hp},(∀b∈fp,H' b=none)→∀b∈fp,FpOk X pins H' b:=fun hn b hb=>⟨hn b hb,(f2 b hb).2⟩
 refine codeAny_forLoop_any (fun n s'=>∃i σ' H',Inv X pins σ' H' s'∧tn i s'.heap∧(∀b∈fp,H' b=none)∧W i n σ' H') ?_ m0 ⟨0,σ,H2,I2,st2,fun b hb=>(f2 b hb).1,w0⟩
 rintro n s3 ⟨i,σ3,H3,I3,st3,fr3,w3⟩
 rcases turn i n σ3 H3 w3 with⟨stop,qn⟩|⟨go,N,hN,step⟩
 ·refine wpAny_passesOwn hp (thn (T.done X rfl rfl rfl hc i pins s3 σ3 H3 X.xe I3 (stat fr3) st3 stop) fun r s4 ⟨hr,I4⟩=>?_)
  subst hr
  exact wpAny_execs_nil ⟨σ3,H3,I4,qn⟩
 ·refine wpAny_passesOwn hp (thn (T.item X rfl rfl rfl hc i pins s3 σ3 H3 X.xe I3 (stat fr3) st3 go) fun r s4 ⟨u,hr,h4⟩=>?_)
  subst hr
  refine wpAny_passesOwn hp (thn h4 fun _ s5 ⟨x,H5,I5,r5,y5,st5,fr5⟩=>?_)
  have I5':=I5.pinned (stat fr5) (T.obj _ _ st5)
  refine wpAny_passesOwn hp (thn (hg _ s5 σ3 H5 x u _ I5' r5 (step x H5 y5)) fun _ s6 ⟨σ6,H6,I6,q6⟩=>?_)
  refine wpAny_passesOwn hp (thn (hb _ s6 σ6 H6 _ I6 q6) fun f s7 q7=>?_)
  have again:∀{σ7:St}{H7:Hp},Inv X (pins++pinsAt fp s5.heap) σ7 H7 s7→N σ7 H7→∃m,m<n∧∃i σ' H',Inv X pins σ' H' s7∧tn i s7.heap∧(∀b∈fp,H' b=none)∧W i m σ' H':=fun {σ7 H7} I7 n7=>by
   obtain⟨m',hm,w7⟩:=hN σ7 H7 n7
   refine⟨m',hm,i+1,σ7,H7,I7.unpinned,T.keep _ _ _ st5 fun b hb o e=>(I7.pin (b,o) (List.mem_append_right _ (List.mem_append_right _ (mem_pinsAt hb e)))).1,fun b hb=>?_,w7⟩
   obtain⟨o,e,d⟩:=T.obj _ _ st5 b hb
   exact(I7.pin (b,o) (List.mem_append_right _ (List.mem_append_right _ (mem_pinsAt hb e)))).2.1
  cases f with
  | next=>obtain⟨σ7,H7,I7,n7⟩:=q7;exact again I7 n7
  | cont=>obtain⟨σ7,H7,I7,n7⟩:=q7;exact again I7 n7
  | brk=>obtain⟨σ7,H7,I7,q7⟩:=q7;exact⟨σ7,H7,I7.unpinned,q7⟩
  | ret v=>obtain⟨x7,σ7,H7,I7,r7,q7⟩:=q7;exact⟨x7,σ7,H7,I7.unpinned,r7,q7⟩
end
theorem for_list {K:PySem.W.Frag}{a:Addr}{xs:List V}{g:TG}{tb:TS}{D:Ends}{σ:St}{H:Hp}(Pv:Nat→St→Hp→Prop) (h0:Pv 0 σ H) (hl:∀i σ H,i≤xs.length→Pv i σ H→SqL K H a xs)
  (hs:∀i x σ H,xs[i]? = some x→Pv i σ H→g x σ H fun σ2 H2=>tb { D with nx:=Pv (i+1),ct:=Pv (i+1),bk:=D.nx } σ2 H2) (hd:∀σ H,Pv xs.length σ H→D.nx σ H) :
  ∃W:Nat→Nat→St→Hp→Prop,(∃m,W 0 m σ H)∧∀i m σ H,W i m σ H →
   ((Itl K a).stop i H∧D.nx σ H) ∨((Itl K a).go i H∧∃N:St→Hp→Prop,(∀σ' H',N σ' H'→∃m',m'<m∧W (i+1) m' σ' H')∧∀x H',(Itl K a).yld i H x H'→g x σ H' fun σ2 H2=>tb { D with nx:=N,ct:=N,bk:=D.nx } σ2 H2):=by
 refine⟨fun i m σ H=>m=xs.length-i∧i≤xs.length∧Pv i σ H,⟨xs.length,by simp,Nat.zero_le _,h0⟩,?_⟩
 rintro i m σ H ⟨rfl,hi,p⟩
 have q:=hl i σ H hi p
 by_cases hlt:i<xs.length
 ·refine .inr ⟨⟨xs,xs[i],q,by simp[hlt]⟩,Pv (i+1),fun σ' H' p'=>⟨xs.length-(i+1),by omega,rfl,hlt,p'⟩,fun x H' y=>?_⟩
  obtain⟨e,y⟩:=y
  subst e
  exact hs i x σ _ (y xs q) p
 ·have e:i=xs.length:=by omega
  subst e
  exact .inl ⟨⟨xs,q,Nat.le_refl _⟩,hd σ H p⟩
theorem for_range {lo:Int}{n:Nat}{g:TG}{tb:TS}{D:Ends}{σ:St}{H:Hp}(Pv:Nat→St→Hp→Prop) (h0:Pv 0 σ H)
  (hs:∀i σ H,i<n→Pv i σ H→g (.int (lo+i)) σ H fun σ2 H2=>tb { D with nx:=Pv (i+1),ct:=Pv (i+1),bk:=D.nx } σ2 H2) (hd:∀σ H,Pv n σ H→D.nx σ H) :
  ∃W:Nat→Nat→St→Hp→Prop,(∃m,W 0 m σ H)∧∀i m σ H,W i m σ H →
   ((Itr lo n).stop i H∧D.nx σ H) ∨((Itr lo n).go i H∧∃N:St→Hp→Prop,(∀σ' H',N σ' H'→∃m',m'<m∧W (i+1) m' σ' H')∧∀x H',(Itr lo n).yld i H x H'→g x σ H' fun σ2 H2=>tb { D with nx:=N,ct:=N,bk:=D.nx } σ2 H2):=by
 refine⟨fun i m σ H=>m=n-i∧i≤n∧Pv i σ H,⟨n,by simp,Nat.zero_le _,h0⟩,?_⟩
 rintro i m σ H ⟨rfl,hi,p⟩
 by_cases hlt:i<n
 ·refine .inr ⟨hlt,Pv (i+1),fun σ' H' p'=>⟨n-(i+1),by omega,rfl,hlt,p'⟩,fun x H' y=>?_⟩
  obtain⟨e,y⟩:=y
  subst e y
  exact hs i σ _ hlt p
 ·have e:i=n:=by omega
  subst e
  exact .inl ⟨Nat.le_refl _,hd σ H p⟩
end L2
namespace L2
open PySem PySem.Spec PyProof.Rows
abbrev R2:=V→V→Hp→VK→Prop
def OpR (X:Cx) (f:Value→Value→Sem Value) (r:R2):Prop :=
 ∀(pins:List (Addr×Obj)) (s:Shared) (σ:St) (H:Hp) (x y:V) (v u:Value) (Q:VK),Inv X pins σ H s→RelV x v→RelV y u→r x y H Q →
  wpAny (model X.prog X.w) X.A (f v u) (EP X pins σ Q) X.xe s
def CallR (X:Cx) (f:Value) (r:List V→Hp→VK→Prop):Prop :=
 ∀(pins:List (Addr×Obj)) (s:Shared) (σ:St) (H:Hp) (xs:List V) (us:List Value) (Q:VK),Inv X pins σ H s→Vals xs us→r xs H Q →
  wpAny (model X.prog X.w) X.A (call f us) (EP X pins σ Q) X.xe s
def TruR (X:Cx) (r:V→Hp→(Bool→Hp→Prop)→Prop):Prop :=
 ∀(pins:List (Addr×Obj)) (s:Shared) (σ:St) (H:Hp) (x:V) (v:Value) (Q:Bool→Hp→Prop),Inv X pins σ H s→RelV x v→r x H Q →
  wpAny (model X.prog X.w) X.A (truthy v) (TP X pins σ Q) X.xe s
def tOp (r:R2) (ta tb:TE):TE:=fun σ H Q=>ta σ H fun x H1=>tb σ H1 fun y H2=>r x y H2 Q
def rI (C:Int→Int→Prop) (g:Int→Int→V):R2:=fun x y H Q=>∃i j,x = .int i∧y = .int j∧C i j∧Q (g i j) H
def rI0 (g:Int→Int→V):R2:=fun x y H Q=>∃i j,x = .int i∧y = .int j∧Q (g i j) H
section
variable {X:Cx}{a b c:Expr}{ta tb tc:TE}{pos:Pos}
theorem binT (ha:PE X a ta) (hb:PE X b tb) {pins:List (Addr×Obj)}{s:Shared}{σ:St}{H:Hp}{R:V→V→Hp→Prop}(I:Inv X pins σ H s)
  (h:ta σ H fun x H1=>tb σ H1 fun y H2=>R x y H2) {Q:Value→Shared→Prop}{f:Value→Value→Sem Value}
  (hf:∀v u s2 x y H2,Inv X pins σ H2 s2→RelV x v→RelV y u→R x y H2→wpAny (model X.prog X.w) X.A (f v u) Q X.xe s2) :
  wpAny (model X.prog X.w) X.A (eval a X.env) (fun v s₁=>wpAny (model X.prog X.w) X.A (eval b X.env) (fun u s₂=>wpAny (model X.prog X.w) X.A (f v u) Q X.xe s₂) X.xe s₁) X.xe s:=by
 refine thn (ha pins s σ H _ I h) fun v s1 ⟨x,H1,I1,r1,q1⟩=>?_
 refine thn (hb pins s1 σ H1 _ I1 q1) fun u s2 ⟨y,H2,I2,r2,q2⟩=>?_
 exact hf v u s2 x y H2 I2 r1 r2 q2
theorem pe_op {op:Operator}{r:R2}(ho:OpR X (binaryOp op) r) (ha:PE X a ta) (hb:PE X b tb):PE X (.BinOp a op b pos) (tOp r ta tb):=by
 intro pins s σ H Q I h
 exact wpAny_BinOp (binT ha hb I h fun v u s2 x y H2 I2 rx ry q=>ho pins s2 σ H2 x y v u Q I2 rx ry q)
theorem opI {f:Value→Value→Sem Value}{C:Int→Int→Prop}{g:Int→Int→Int}
  (rule:∀(i j:Int) (t u:Tok) (s:Shared) (Q:Value→Shared→Prop) (E:Value→Shared→Prop),C i j→Q (.int (g i j) s.toks) { s with toks:=s.toks+1 }→wpAny (model X.prog X.w) X.A (f (.int i t) (.int j u)) Q E s) :
  OpR X f (rI C fun i j=>.int (g i j)):=by
 intro pins s σ H x y v u Q I rx ry h
 obtain⟨i,j,rfl,rfl,hc,q⟩:=h
 obtain⟨t,rfl⟩:=rx
 obtain⟨t',rfl⟩:=ry
 exact rule i j t t' s _ _ hc ⟨.int (g i j),H,I.tok _,⟨_,rfl⟩,q⟩
theorem opI0 {f:Value→Value→Sem Value}{g:Int→Int→Int}
  (rule:∀(i j:Int) (t u:Tok) (s:Shared) (Q:Value→Shared→Prop) (E:Value→Shared→Prop),Q (.int (g i j) s.toks) { s with toks:=s.toks+1 }→wpAny (model X.prog X.w) X.A (f (.int i t) (.int j u)) Q E s) :
  OpR X f (rI0 fun i j=>.int (g i j)):=by
 intro pins s σ H x y v u Q I rx ry h
 obtain⟨i,j,rfl,rfl,q⟩:=h
 obtain⟨t,rfl⟩:=rx
 obtain⟨t',rfl⟩:=ry
 exact rule i j t t' s _ _ ⟨.int (g i j),H,I.tok _,⟨_,rfl⟩,q⟩
theorem opB0 {f:Value→Value→Sem Value}{g:Int→Int→Bool}
  (rule:∀(i j:Int) (t u:Tok) (s:Shared) (Q:Value→Shared→Prop) (E:Value→Shared→Prop),Q (.bool (g i j)) s→wpAny (model X.prog X.w) X.A (f (.int i t) (.int j u)) Q E s) :
  OpR X f (rI0 fun i j=>.bl (g i j)):=by
 intro pins s σ H x y v u Q I rx ry h
 obtain⟨i,j,rfl,rfl,q⟩:=h
 obtain⟨t,rfl⟩:=rx
 obtain⟨t',rfl⟩:=ry
 exact rule i j t t' s _ _ ⟨.bl (g i j),H,I,rfl,q⟩
def CPow (i j:Int):Prop:=0≤j∧j≤1000000∧i.natAbs<2^64
def CMul (i j:Int):Prop:=(-(2^64)<i∧i<2^64) ∨(-(2^64)<j∧j<2^64)
theorem CMul.ok {i j:Int}(h:CMul i j):IntMulOk i j:=by
 rcases h with⟨h1,h2⟩|⟨h1,h2⟩
 ·exact .of_left (intBits_le_64 h1 h2)
 ·exact .of_right (intBits_le_64 h1 h2)
theorem op_add:OpR X (binaryOp .Add) (rI0 fun i j=>.int (i+j)):=opI0 fun _ _ _ _ _ _ _ q=>add_int q
theorem op_sub:OpR X (binaryOp .Sub) (rI0 fun i j=>.int (i-j)):=opI0 fun _ _ _ _ _ _ _ q=>sub_int q
theorem op_mul:OpR X (binaryOp .Mult) (rI CMul fun i j=>.int (i*j)):=opI fun _ _ _ _ _ _ _ hc q=>mul_int q hc.ok
theorem op_mod:OpR X (binaryOp .Mod) (rI (fun _ j=>0<j) fun i j=>.int (i%j)):=opI fun i j _ _ _ _ _ hc q=>by
 have h1:(0:Int)<j:=hc
 exact mod_int' (by omega) (by rw[Int.fmod_eq_emod_of_nonneg i (by omega)];exact q)
theorem op_pow:OpR X (binaryOp .Pow) (rI CPow fun i j=>.int (i^j.toNat)):=opI fun _ _ _ _ _ _ _ hc q=>pow_int_small hc.1 hc.2.1 hc.2.2 q
theorem op_shl:OpR X (binaryOp .LShift) (rI CPow fun i j=>.int (i*2^j.toNat)):=opI fun _ _ _ _ _ _ _ hc q=>lshift_int_small hc.1 hc.2.1 hc.2.2 q
end
def scal:V→V→Bool
 | .non,.non=>true | .non,.int _=>true | .int _,.non=>true | .non,.bl _=>true | .bl _,.non=>true | .non,.str _=>true | .str _,.non=>true
 | .int _,.int _=>true | .bl _,.bl _=>true | .str _,.str _=>true | .byt _,.byt _=>true
 | .int _,.str _=>true | .str _,.int _=>true | .bl _,.str _=>true | .str _,.bl _=>true
 | _,_=>false
def rEq:R2:=fun x y H Q=>scal x y=true∧Q (.bl (decide (x=y))) H
def rNe:R2:=fun x y H Q=>scal x y=true∧Q (.bl (!decide (x=y))) H
theorem dec_int {i j:Int}:decide (V.int i=V.int j) =(i == j):=by
 rw[Bool.eq_iff_iff]
 simp
theorem dec_bl {i j:Bool}:decide (V.bl i=V.bl j) =(i == j):=by
 rw[Bool.eq_iff_iff]
 simp
theorem dec_str {i j:Str}:decide (V.str i=V.str j) =(i == j):=by
 rw[Bool.eq_iff_iff]
 simp
theorem dec_byt {i j:Array UInt8}:decide (V.byt i=V.byt j) =(i.toList == j.toList):=by
 rw[Bool.eq_iff_iff]
 cases i
 cases j
 simp
section
variable {X:Cx}{a b c:Expr}{ta tb tc:TE}{pos:Pos}
theorem fin_bl {pins:List (Addr×Obj)}{σ:St}{H:Hp}{s:Shared}{Q:VK}{k k':Bool}(I:Inv X pins σ H s) (q:Q (.bl k) H) (e:k=k'):EP X pins σ Q (.bool k') s:=by
 subst e
 exact⟨.bl k,H,I,rfl,q⟩
theorem op_eq:OpR X (compareOp .Eq) rEq:=by
 intro pins s σ H x y v u Q I rx ry h
 obtain⟨hs,q⟩:=h
 cases x with
 | non =>
  cases rx
  cases y with
  | non=>cases ry;exact PySem.EqNone.eq_none_none (fin_bl I q (by simp))
  | bl j=>cases ry;exact PySem.EqNone.eq_none_bool (fin_bl I q (by simp))
  | int j=>obtain⟨t',rfl⟩:=ry;exact PySem.EqNone.eq_none_int (fin_bl I q (by simp))
  | str j=>obtain⟨t',rfl⟩:=ry;exact PySem.EqNone.eq_none_str (fin_bl I q (by simp))
  | _=>exact absurd (show false=true from hs) Bool.false_ne_true
 | bl i =>
  cases rx
  cases y with
  | non=>cases ry;exact PySem.EqNone.eq_bool_none (fin_bl I q (by simp))
  | bl j=>cases ry;exact eq_bool (fin_bl I q dec_bl)
  | str j=>obtain⟨t',rfl⟩:=ry;exact PySem.EqMixed.eq_bool_str (fin_bl I q (by simp))
  | _=>exact absurd (show false=true from hs) Bool.false_ne_true
 | int i =>
  obtain⟨t,rfl⟩:=rx
  cases y with
  | non=>cases ry;exact PySem.EqNone.eq_int_none (fin_bl I q (by simp))
  | int j=>obtain⟨t',rfl⟩:=ry;exact eq_int (fin_bl I q dec_int)
  | str j=>obtain⟨t',rfl⟩:=ry;exact PySem.EqMixed.eq_int_str (fin_bl I q (by simp))
  | _=>exact absurd (show false=true from hs) Bool.false_ne_true
 | str i =>
  obtain⟨t,rfl⟩:=rx
  cases y with
  | non=>cases ry;exact PySem.EqNone.eq_str_none (fin_bl I q (by simp))
  | bl j=>cases ry;exact PySem.EqMixed.eq_str_bool (fin_bl I q (by simp))
  | int j=>obtain⟨t',rfl⟩:=ry;exact PySem.EqMixed.eq_str_int (fin_bl I q (by simp))
  | str j=>obtain⟨t',rfl⟩:=ry;exact eq_str (fin_bl I q dec_str)
  | _=>exact absurd (show false=true from hs) Bool.false_ne_true
 | byt i =>
  obtain⟨t,rfl⟩:=rx
  cases y with
  | byt j=>obtain⟨t',rfl⟩:=ry;exact PySem.W.eq_bytes (fin_bl I q dec_byt)
  | _=>exact absurd (show false=true from hs) Bool.false_ne_true
 | _=>cases y <;> exact absurd (show false=true from hs) Bool.false_ne_true
theorem op_ne:OpR X (compareOp .NotEq) rNe:=by
 intro pins s σ H x y v u Q I rx ry h
 obtain⟨hs,q⟩:=h
 cases x with
 | non =>
  cases rx
  cases y with
  | non=>cases ry;exact PySem.EqNone.ne_none_none (fin_bl I q (by simp))
  | bl j=>cases ry;exact PySem.EqNone.ne_none_bool (fin_bl I q (by simp))
  | int j=>obtain⟨t',rfl⟩:=ry;exact PySem.EqNone.ne_none_int (fin_bl I q (by simp))
  | str j=>obtain⟨t',rfl⟩:=ry;exact PySem.EqNone.ne_none_str (fin_bl I q (by simp))
  | _=>exact absurd (show false=true from hs) Bool.false_ne_true
 | bl i =>
  cases rx
  cases y with
  | non=>cases ry;exact PySem.EqNone.ne_bool_none (fin_bl I q (by simp))
  | bl j=>cases ry;exact ne_bool (fin_bl I q (congrArg not dec_bl))
  | str j=>obtain⟨t',rfl⟩:=ry;exact PySem.EqMixed.ne_bool_str (fin_bl I q (by simp))
  | _=>exact absurd (show false=true from hs) Bool.false_ne_true
 | int i =>
  obtain⟨t,rfl⟩:=rx
  cases y with
  | non=>cases ry;exact PySem.EqNone.ne_int_none (fin_bl I q (by simp))
  | int j=>obtain⟨t',rfl⟩:=ry;exact ne_int (fin_bl I q (congrArg not dec_int))
  | str j=>obtain⟨t',rfl⟩:=ry;exact PySem.EqMixed.ne_int_str (fin_bl I q (by simp))
  | _=>exact absurd (show false=true from hs) Bool.false_ne_true
 | str i =>
  obtain⟨t,rfl⟩:=rx
  cases y with
  | non=>cases ry;exact PySem.EqNone.ne_str_none (fin_bl I q (by simp))
  | bl j=>cases ry;exact PySem.EqMixed.ne_str_bool (fin_bl I q (by simp))
  | int j=>obtain⟨t',rfl⟩:=ry;exact PySem.EqMixed.ne_str_int (fin_bl I q (by simp))
  | str j=>obtain⟨t',rfl⟩:=ry;exact ne_str (fin_bl I q (congrArg not dec_str))
  | _=>exact absurd (show false=true from hs) Bool.false_ne_true
 | byt i =>
  obtain⟨t,rfl⟩:=rx
  cases y with
  | byt j=>obtain⟨t',rfl⟩:=ry;exact PySem.W.ne_bytes (fin_bl I q (congrArg not dec_byt))
  | _=>exact absurd (show false=true from hs) Bool.false_ne_true
 | _=>cases y <;> exact absurd (show false=true from hs) Bool.false_ne_true
theorem op_lt:OpR X (compareOp .Lt) (rI0 fun i j=>.bl (decide (i<j))):=opB0 fun _ _ _ _ _ _ _ q=>lt_int q
theorem op_le:OpR X (compareOp .LtE) (rI0 fun i j=>.bl (decide (i≤j))):=opB0 fun _ _ _ _ _ _ _ q=>le_int q
theorem op_gt:OpR X (compareOp .Gt) (rI0 fun i j=>.bl (decide (j<i))):=opB0 fun _ _ _ _ _ _ _ q=>gt_int q
theorem op_ge:OpR X (compareOp .GtE) (rI0 fun i j=>.bl (decide (j≤i))):=opB0 fun _ _ _ _ _ _ _ q=>ge_int q
theorem nomark (b:Expr) {op:CmpOp}(h:op ≠ .In:=by decide) (h2:op ≠ .NotIn:=by decide):behindInMarks op b=false:=by
 have e1:(op == CmpOp.In)=false:=by cases op <;> first|rfl|exact absurd rfl h
 have e2:(op == CmpOp.NotIn)=false:=by cases op <;> first|rfl|exact absurd rfl h2
 cases b <;> simp[behindInMarks,e1,e2]
theorem pe_cmpR {op:CmpOp}{r:R2}(ho:OpR X (compareOp op) r) (ha:PE X a ta) (hb:PE X b tb) (hm:behindInMarks op b=false):PE X (.Compare a [op] [b] pos) (tOp r ta tb):=by
 intro pins s σ H Q I h
 exact wpAny_Compare1 (binT ha hb I h fun v u s2 x y H2 I2 rx ry q=>ho pins s2 σ H2 x y v u Q I2 rx ry q) hm
def tTest (t:TE):TT:=fun σ H Q=>t σ H fun x H'=>∃k,x = .bl k∧Q k H'
theorem pt_cmpR {op:CmpOp}{r:R2}(ho:OpR X (compareOp op) r) (ha:PE X a ta) (hb:PE X b tb) (hm:behindInMarks op b=false):PT X (.Compare a [op] [b] pos) (tTest (tOp r ta tb)):=by
 intro pins s σ H Q I h
 refine wpAny_isTrue_Compare1 (thn (ha pins s σ H _ I h) fun v s1 ⟨x,H1,I1,r1,q1⟩=>thn (hb pins s1 σ H1 _ I1 q1) fun u s2 ⟨y,H2,I2,r2,q2⟩ =>
  thn (ho pins s2 σ H2 x y v u _ I2 r1 r2 q2) fun c s3 ⟨z,H3,I3,r3,k,e,q3⟩=>?_) hm
 subst e
 cases r3
 exact wpAny_truthy_bool ⟨H3,I3,q3⟩
def tChain (r r':R2) (ta tb tc:TE):TE:=fun σ H Q=>ta σ H fun x H1=>tb σ H1 fun y H2=>r x y H2 fun z H3=>∃k,z = .bl k ∧
 (if k=true then tc σ H3 fun w' H4=>r' y w' H4 Q else Q (.bl false) H3)
theorem pe_chain {op op':CmpOp}{r r':R2}(ho:OpR X (compareOp op) r) (ho':OpR X (compareOp op') r') (ha:PE X a ta) (hb:PE X b tb) (hc:PE X c tc)
  (hm:lastMarks [op,op'] [b,c]=false:=by with_unfolding_all rfl):PE X (.Compare a [op,op'] [b,c] pos) (tChain r r' ta tb tc):=by
 intro pins s σ H Q I h
 refine Compare_chain (thn (ha pins s σ H _ I h) fun v s1 ⟨x,H1,I1,r1,q1⟩=>chain_link (thn (hb pins s1 σ H1 _ I1 q1) fun u s2 ⟨y,H2,I2,r2,q2⟩ =>
  thn (ho pins s2 σ H2 x y v u _ I2 r1 r2 q2) fun d s3 ⟨z,H3,I3,r3,k,e,q3⟩=>?_)) hm
 subst e
 cases r3
 refine wpAny_truthy_bool ?_
 cases k with
 | false=>exact ite_ff ⟨.bl false,H3,I3,rfl,q3⟩
 | true=>exact ite_tt (chain_last (thn (hc pins s3 σ H3 _ I3 q3) fun w' s4 ⟨z',H4,I4,r4,q4⟩=>ho' pins s4 σ H4 y z' u w' Q I4 r2 r4 q4))
theorem pt_chain {op op':CmpOp}{r r':R2}(ho:OpR X (compareOp op) r) (ho':OpR X (compareOp op') r') (ha:PE X a ta) (hb:PE X b tb) (hc:PE X c tc)
  (hm:lastMarks [op,op'] [b,c]=false:=by with_unfolding_all rfl):PT X (.Compare a [op,op'] [b,c] pos) (tTest (tChain r r' ta tb tc)):=by
 intro pins s σ H Q I h
 refine isTrue_chain (thn (ha pins s σ H _ I h) fun v s1 ⟨x,H1,I1,r1,q1⟩=>test_link (thn (hb pins s1 σ H1 _ I1 q1) fun u s2 ⟨y,H2,I2,r2,q2⟩ =>
  thn (ho pins s2 σ H2 x y v u _ I2 r1 r2 q2) fun d s3 ⟨z,H3,I3,r3,k,e,q3⟩=>?_)) hm
 subst e
 cases r3
 refine wpAny_truthy_bool ?_
 cases k with
 | false =>
  obtain⟨k',e',q'⟩:=q3
  cases e'
  exact ite_ff ⟨H3,I3,q'⟩
 | true =>
  refine ite_tt (test_last (thn (hc pins s3 σ H3 _ I3 q3) fun w' s4 ⟨z',H4,I4,r4,q4⟩=>thn (ho' pins s4 σ H4 y z' u w' _ I4 r2 r4 q4) fun d' s5 ⟨z2,H5,I5,r5,k2,e2,q5⟩=>?_))
  subst e2
  cases r5
  exact wpAny_truthy_bool ⟨H5,I5,q5⟩
def TruV (K:PySem.W.Frag) (x:V) (H:Hp) (k:Bool):Prop :=
 match x with
 | .non=>k=false
 | .bl b=>k=b
 | .int i=>k =(i != 0)
 | .str y=>y.length≤sizeLine∧k =((y.length:Int) != 0)
 | .byt y=>y.size≤sizeLine∧k =((y.size:Int) != 0)
 | .ref p=>(∃xs,SqL K H p xs∧k = !xs.isEmpty) ∨(∃xs,SqT K H p xs∧k = !xs.isEmpty) ∨ ∃kvs,H p=some (.dK kvs)∧k = !kvs.isEmpty
 | _=>False
theorem isEmpty_kv {κ:Type}{kvs:List (κ×V)}{vs:List (κ×Value)}(r:KV kvs vs):(!vs.isEmpty) = !kvs.isEmpty:=by
 cases r <;> rfl
theorem isEmpty_of {xs:List V}{its:List Value}(r:Vals xs its):(!its.toArray.isEmpty) = !xs.isEmpty:=by
 cases r <;> simp
theorem line63:(sizeLine:Nat)<2^63:=by rw[sizeLine_eq];decide
theorem tru_ok:TruR X (fun x H Q=>∃k,TruV X.K x H k∧Q k H):=by
 intro pins s σ H x v Q I rx h
 obtain⟨k,e,q⟩:=h
 have hl:=line63
 have hs:sizeLine=16777216:=sizeLine_eq
 cases x with
 | non =>
  cases rx
  have e':k=false:=e
  subst e'
  exact truthy_none ⟨H,I,q⟩
 | bl b =>
  cases rx
  have e':k=b:=e
  subst e'
  exact wpAny_truthy_bool ⟨H,I,q⟩
 | int i =>
  obtain⟨t,rfl⟩:=rx
  have e':k =(i != 0):=e
  subst e'
  exact PySem.P.truthy_int ⟨H,I,q⟩
 | str y =>
  obtain⟨t,rfl⟩:=rx
  obtain⟨hy,e'⟩ : y.length≤sizeLine∧k =((y.length:Int) != 0):=e
  subst e'
  exact PySem.P.truthy_str (by omega) ⟨H,I.tok _,q⟩
 | byt y =>
  obtain⟨t,rfl⟩:=rx
  obtain⟨hy,e'⟩ : y.size≤sizeLine∧k =((y.size:Int) != 0):=e
  subst e'
  exact PySem.W.truthy_bytes (by omega) ⟨H,I.tok _,q⟩
 | ref p =>
  cases rx
  have e':(∃xs,SqL X.K H p xs∧k = !xs.isEmpty) ∨(∃xs,SqT X.K H p xs∧k = !xs.isEmpty) ∨ ∃kvs,H p=some (.dK kvs)∧k = !kvs.isEmpty:=e
  rcases e' with⟨xs,hx,e'⟩|⟨xs,hx,e'⟩|⟨kvs,hx,e'⟩
  ·subst e'
   obtain⟨its,r,pl,hz⟩:=I.list hx
   have hlen:=r.length
   exact wpAny_truthy_list pl.isList (by simp only[List.size_toArray];omega) ⟨H,I.tok _,by rw[isEmpty_of r];exact q⟩
  ·subst e'
   obtain⟨its,r,pl,hz⟩:=I.tuple hx
   have hlen:=r.length
   exact truthy_tuple pl (by simp only[List.size_toArray];omega) ⟨H,I.tok _,by rw[isEmpty_of r];exact q⟩
  ·subst e'
   obtain⟨hz,hS,vs,r,m⟩ : kvs.length≤sizeLine∧(p == sysModules)=false∧∃vs,KV kvs vs∧s.heap.DictOf (mixKind X.prog X.w) p vs:=I.hok p _ hx
   have hlen:kvs.length=vs.length:=Paired.length r
   exact wpAny_truthy_dict hS m (by omega) ⟨H,I.tok _,by rw[isEmpty_kv r];exact q⟩
 | _=>exact(show False from e).elim
theorem vals1 {x:V}{us:List Value}(r:Vals [x] us):∃u,us=[u]∧RelV x u:=by
 cases r with
 | cons r1 r2=>cases r2;exact⟨_,rfl,r1⟩
theorem vals2 {x y:V}{us:List Value}(r:Vals [x,y] us):∃u w',us=[u,w']∧RelV x u∧RelV y w':=by
 cases r with
 | cons r1 r2 =>
  cases r2 with
  | cons r3 r4=>cases r4;exact⟨_,_,rfl,r1,r3⟩
theorem call_abs:CallR X (.builtin "abs") (fun xs H Q=>∃i,xs=[.int i]∧Q (.int (if i<0 then -i else i)) H):=by
 intro pins s σ H xs us Q I r h
 obtain⟨i,rfl,q⟩:=h
 obtain⟨u,rfl,t,rfl⟩:=vals1 r
 exact call_abs_int fun u tk=>⟨.int (if i<0 then -i else i),H,I.tok _,⟨_,rfl⟩,q⟩
theorem call_max2 (hc:X.calm=true):CallR X (.builtin "max") (fun xs H Q=>∃i j,xs=[.int i,.int j]∧Q (.int (if j > i then j else i)) H):=by
 intro pins s σ H xs us Q I r h
 obtain⟨i,j,rfl,q⟩:=h
 obtain⟨u,w',rfl,⟨t,rfl⟩,⟨t',rfl⟩⟩:=vals2 r
 refine max_two_ints (I.ok.hd hc) fun h' tk k=>⟨_,H,I.kept k,?_,q⟩
 by_cases hj:j > i
 ·rw[if_pos hj,if_pos hj];exact⟨_,rfl⟩
 ·rw[if_neg hj,if_neg hj];exact⟨_,rfl⟩
theorem call_min2 (hc:X.calm=true):CallR X (.builtin "min") (fun xs H Q=>∃i j,xs=[.int i,.int j]∧Q (.int (if j<i then j else i)) H):=by
 intro pins s σ H xs us Q I r h
 obtain⟨i,j,rfl,q⟩:=h
 obtain⟨u,w',rfl,⟨t,rfl⟩,⟨t',rfl⟩⟩:=vals2 r
 refine min_two_ints (I.ok.hd hc) fun h' tk k=>⟨_,H,I.kept k,?_,q⟩
 by_cases hj:j<i
 ·rw[if_pos hj,if_pos hj];exact⟨_,rfl⟩
 ·rw[if_neg hj,if_neg hj];exact⟨_,rfl⟩
theorem call_int1:CallR X (.type "int") (fun xs H Q=>(∃i,xs=[.int i]∧Q (.int i) H) ∨ ∃k,xs=[.bl k]∧Q (.int (if k then 1 else 0)) H):=by
 intro pins s σ H xs us Q I r h
 rcases h with⟨i,rfl,q⟩|⟨k,rfl,q⟩
 ·obtain⟨u,rfl,t,rfl⟩:=vals1 r
  exact call_int_int ⟨.int i,H,I,⟨_,rfl⟩,q⟩
 ·obtain⟨u,rfl,r1⟩:=vals1 r
  cases r1
  exact call_int_bool ⟨.int (if k then 1 else 0),H,I.tok _,⟨_,rfl⟩,q⟩
end
end L2
namespace L2
open PySem PySem.Spec PyProof.Rows
structure ObjM (h:Heap) (x dx C:Addr) (mA:Str→Option Value):Prop where
 obj:h.get? x=some (PySem.W.instObj C dx)
 ns:h.Ns1 dx mA
 ne:dx≠x
theorem lookIn_ns {h:Heap}{dx:Addr}{mA:Str→Option Value}(n:h.Ns1 dx mA):∃od,h.get? dx=some od∧∀name,PySem.W.lookIn name od=some (mA name):=by
 obtain⟨o,es,ep,ho,hd,hk,_,hm⟩:=n
 refine⟨o,ho,fun name=>?_⟩
 have e:=hm name
 unfold nsFind findBy at e
 rw[← Array.find?_toList]at e
 unfold PySem.W.lookIn
 rw[hd]
 dsimp only
 split
 ·rename_i y q
  rw[q]at e
  exact congrArg some e
 ·rename_i q
  rw[q]at e
  have a:es.toList.any (·.refKey)=false:=by
   rw[List.any_eq_false]
   intro y hy
   obtain⟨z,t,hkey⟩:=hk y (Array.mem_toList_iff.mp hy)
   simp[DictEntry.refKey,hkey]
  have a':¬ es.toList.any (·.refKey)=true:=by rw[a];exact Bool.false_ne_true
  rw[if_neg a']
  exact congrArg some e
theorem ObjM.look {h:Heap}{x dx C:Addr}{mA:Str→Option Value}(I:ObjM h x dx C mA):∃od,PySem.W.InstAt h x (PySem.W.instObj C dx) C (some od)∧∀name,PySem.W.lookIn name od=some (mA name) :=
 let ⟨od,ho,hl⟩:=lookIn_ns I.ns
 ⟨od,⟨I.obj,rfl,rfl,ho⟩,hl⟩
section
variable {prog:Program}{w:World}{A:Around}{E:Value→Shared→Prop}{s:Shared}{K:PySem.W.Frag}{x dx C f:Addr}{mA:Str→Option Value}{name:Str}{v:Value}
theorem get_map {expr:Bool}{Q:Value→Shared→Prop}(X:K.In s.heap) (I:ObjM s.heap x dx C mA) (hg:PySem.W.plainGet K C name=true) (hh:PySem.W.hasDictIn K C=true)
  (ha:PySem.W.findIn K (.ref C) name=some none) (hv:mA name=some v) (hv':PySem.W.handedIn v=true) (h:Q v { s with toks:=s.toks+1 }) :
  wpAny (model prog w) A (getAttr (.ref x) name expr) Q E s:=by
 obtain⟨od,J,hl⟩:=I.look
 exact PySem.W.get_value X J (PySem.W.plainGet_of hg).1 (PySem.W.findObj_own hh ha rfl (by rw[hl,hv])) hv' h
theorem get_meth {pl:Sem Bool}{Q:Value×List Value→Shared→Prop}(X:K.In s.heap) (I:ObjM s.heap x dx C mA) (hg:PySem.W.plainGet K C name=true)
  (hf:PySem.W.findIn K (.ref C) name=some (some (.ref f))) (ht:PySem.W.isFn K (.ref f)=true) (hv:mA name=none) (h:Q (.ref f,[.ref x]) s) :
  wpAny (model prog w) A (getMethod (.ref x) name pl) Q E s:=by
 obtain⟨od,J,hl⟩:=I.look
 exact PySem.W.method_fn X J (PySem.W.plainGet_of hg).1 (PySem.W.plainGet_of hg).2 hf (beq_iff_eq.mp ht) (by show(PySem.W.lookIn name od).map (·.isSome)=some false;rw[hl,hv];rfl) h
theorem set_map {ns:List Str}{Q:Unit→Shared→Prop}(X:K.In s.heap) (I:ObjM s.heap x dx C mA)
  (hs:PySem.W.findIn K (.ref C) "__setattr__" = some (some (.builtin "object.__setattr__"))) (hp:PySem.W.plainOver K C=true) (ht:PySem.W.takerIn K C name=some none) (hh:PySem.W.hasDictIn K C=true)
  (hw:PySem.Within mA ns) (hsz:ns.length≤sizeLine)
  (h:∀h',ObjM h' x dx C (fun y=>if y=name then some v else mA y)→Heap.SameBut dx s.heap h'→Q () { s with heap:=h',toks:=s.toks+2 }) :
  wpAny (model prog w) A (setAttr (.ref x) name v) Q E s:=by
 obtain⟨od,J,hl⟩:=I.look
 refine PySem.W.set_plain X J hs (PySem.W.osa_open (s:={ s with toks:=s.toks+1 }) (r:=none) X J hp ht fun b=>?_)
 obtain⟨cd,hc,hd'⟩:=PySem.W.any_some hh
 have hx:s.heap.get? x=some ⟨.ref C,some dx,.plain,#[]⟩:=I.obj
 refine wpAny_bind (wpAny_pure (wpAny_bind (wpAny_bind (wpAny_loadPart hx (wpAny_bind (PySem.W.Looks.here (s:={ s with toks:=s.toks+1 }) (PySem.W.looks_clsIn X hc) ?_))))))
 rw[hd']
 refine wpAny_pure (a:=some dx) (wpAny_bind (wpAny_pure (wpAny_bind ?_)))
 refine wpAny_nsSet1 (s:={ s with toks:=s.toks+1 }) I.ns fun h' hn2 hs2=>?_
 obtain⟨oD,esD,epD,hoD,hdD,hcD⟩:=hn2.count (PySem.Within.cons name v hw)
 refine wpAny_bind (wpAny_lookBehind hoD (by rw[hdD];exact pastItsLine_dict (Nat.le_trans hcD (by rw[List.length_cons];omega))) ?_)
 exact wpAny_pure (h _ ⟨(hs2.2 _ (Ne.symm I.ne)).trans I.obj,hn2,I.ne⟩ hs2)
theorem make_map {R:Result→Shared→Prop}{vs:List Value}{kw:List (Str×Value)}(X:K.In s.heap) (hm:PySem.W.makesIn K C=true)
  (hi:PySem.W.findIn K (.ref C) "__init__" = some (some (.ref f))) (hf:PySem.W.typeIn K (.ref f)=some (.type "function"))
  (h:codeAny (model prog w) (A.under (.builtin "type.__call__" ⟨.ref C::vs,kw⟩)) (.call (.ref f) ⟨.ref (s.heap.objs.size+1)::vs,kw⟩) (PySem.W.InitBack (s.heap.objs.size+1) R)
   { s with heap:=(s.heap.push PySem.W.emptyDict).push (PySem.W.instObj C s.heap.objs.size) }) :
  codeAny (model prog w) A (.call (.ref C) ⟨vs,kw⟩) R s:=by
 obtain⟨hh,g,d,t,os⟩:=s
 exact PySem.W.make_core (PySem.W.makes_of X hm) (PySem.W.looks_findIn X hi) (fun self=>PySem.W.bind_fn X self hf) (.inl rfl) h
end
def putF (f:Str) (v:V):List (Str×V)→List (Str×V)
 | []=>[(f,v)]
 | (g,x)::r=>if g=f then(g,v)::r else(g,x)::putF f v r
theorem lookup_putF (f g:Str) (v:V):∀fs:List (Str×V),(putF f v fs).lookup g=if g=f then some v else fs.lookup g
 | []=>by
  show List.lookup g [(f,v)]=_
  by_cases h:g=f
  ·have hb:(g == f)=true:=beq_iff_eq.mpr h
   simp only[List.lookup,hb,if_pos h]
  ·have hb:(g == f)=false:=beq_eq_false_iff_ne.mpr h
   simp only[List.lookup,hb,if_neg h]
 | (k,x)::r=>by
  have ih:=lookup_putF f g v r
  rw[show putF f v ((k,x)::r) =(if k=f then(k,v)::r else(k,x)::putF f v r) from rfl]
  by_cases hk:k=f
  ·rw[if_pos hk]
   by_cases h:g=k
   ·have hb:(g == k)=true:=beq_iff_eq.mpr h
    simp only[List.lookup,hb,if_pos (h.trans hk)]
   ·have hb:(g == k)=false:=beq_eq_false_iff_ne.mpr h
    simp only[List.lookup,hb,if_neg (fun e:g=f=>h (e.trans hk.symm))]
  ·rw[if_neg hk]
   by_cases h:g=k
   ·have hb:(g == k)=true:=beq_iff_eq.mpr h
    simp only[List.lookup,hb,if_neg (fun e:g=f=>hk (h.symm.trans e))]
   ·have hb:(g == k)=false:=beq_eq_false_iff_ne.mpr h
    simp only[List.lookup,hb]
    exact ih
theorem keys_putF (f:Str) (v:V):∀fs:List (Str×V),f∈(putF f v fs).map (·.1)∧∀g,g∈fs.map (·.1)→g∈(putF f v fs).map (·.1)
 | []=>⟨by simp[putF],fun g h=>by simp at h⟩
 | (k,x)::r=>by
  obtain⟨i1,i2⟩:=keys_putF f v r
  rw[show putF f v ((k,x)::r) =(if k=f then(k,v)::r else(k,x)::putF f v r) from rfl]
  by_cases hk:k=f
  ·rw[if_pos hk]
   subst hk
   exact⟨by simp,fun g h=>by simpa using h⟩
  ·rw[if_neg hk]
   refine⟨?_,fun g h=>?_⟩
   ·rw[List.map_cons]
    exact List.mem_cons_of_mem _ i1
   ·rw[List.map_cons]at h ⊢
    rcases List.mem_cons.mp h with e|e
    ·exact List.mem_cons.mpr (.inl e)
    ·exact List.mem_cons_of_mem _ (i2 g e)
theorem length_putF (f:Str) (v:V):∀fs:List (Str×V),(putF f v fs).length≤fs.length+1
 | []=>by simp[putF]
 | (k,x)::r=>by
  have ih:=length_putF f v r
  rw[show putF f v ((k,x)::r) =(if k=f then(k,v)::r else(k,x)::putF f v r) from rfl]
  by_cases hk:k=f
  ·rw[if_pos hk,List.length_cons,List.length_cons];omega
  ·rw[if_neg hk,List.length_cons,List.length_cons];omega
theorem RelO.some_of {v:V}{o:Option Value}(r:RelO (some v) o):∃u,o=some u∧RelV v u:=by
 cases o with
 | none=>exact(show False from r).elim
 | some u=>exact⟨u,rfl,r⟩
theorem RelO.none_of {o:Option Value}(r:RelO none o):o=none:=by
 cases o with
 | none=>rfl
 | some u=>exact(show False from r).elim
theorem handed_of {v:V}{u:Value}(r:RelV v u):PySem.W.handedIn u=true:=by
 cases v with
 | non=>cases (show u=Value.none from r);rfl
 | bl b=>cases (show u=Value.bool b from r);rfl
 | int i=>obtain⟨t,e⟩:=(show ∃t,u=Value.int i t from r);cases e;rfl
 | str x=>obtain⟨t,e⟩:=(show ∃t,u=Value.str x t from r);cases e;rfl
 | byt b=>obtain⟨t,e⟩:=(show ∃t,u=Value.bytes b t from r);cases e;rfl
 | flt b=>obtain⟨t,e⟩:=(show ∃t,u=Value.float b t from r);cases e;rfl
 | ref a=>cases (show u=Value.ref a from r);rfl
 | ty n=>cases (show u=Value.type n from r);rfl
section
variable {P:Program}{w:World}{H H':Hp}{h h':Heap}{a C dx:Addr}{fs fs':List (Str×V)}
theorem ins_get (hok:HOk P w H h) (e:H a=some (.ins C dx fs)):∃mA,ObjM h a dx C mA∧(∀f,RelO (fs.lookup f) (mA f))∧PySem.Within mA (fs.map (·.1))∧fs.length≤1000∧H dx=some (.own a):=by
 obtain⟨d,z,ne,ob,mA,n,r,q⟩:=(show ObjOk P w H h a (.ins C dx fs) from hok a _ e)
 exact⟨mA,⟨ob,n,ne⟩,r,q,z,d⟩
end
structure Cls (K:PySem.W.Frag) (C:Addr):Prop where
 pg:PySem.W.plainGet K C Str.empty=true
 hd:PySem.W.hasDictIn K C=true
 po:PySem.W.plainOver K C=true
 sa:PySem.W.findIn K (.ref C) "__setattr__" = some (some (.builtin "object.__setattr__"))
theorem Cls.get {K:PySem.W.Frag}{C:Addr}(c:Cls K C) (f:Str):PySem.W.plainGet K C f=true:=c.pg
def NoAttr (K:PySem.W.Frag) (C:Addr) (f:Str):Prop:=PySem.W.findIn K (.ref C) f=some none
theorem NoAttr.taker {K:PySem.W.Frag}{C:Addr}{f:Str}(n:NoAttr K C f):PySem.W.takerIn K C f=some none:=by
 unfold PySem.W.takerIn
 rw[show PySem.W.findIn K (.ref C) f=some none from n]
 rfl
structure Meth (K:PySem.W.Frag) (C:Addr) (m:Str) (f:Addr):Prop where
 at_:PySem.W.findIn K (.ref C) m=some (some (.ref f))
 fn:PySem.W.isFn K (.ref f)=true
 kp:PySem.W.keepIn K (.ref f)=true
section
variable {X:Cx}{pins:List (Addr×Obj)}{σ:St}{H:Hp}{s:Shared}{a C dx:Addr}{fs:List (Str×V)}{f:Str}{v:V}{A:Around}{E:Value→Shared→Prop}
theorem getattr_ok {b:Bool}{Q:Value→Shared→Prop}(I:Inv X pins σ H s) (e:H a=some (.ins C dx fs)) (c:Cls X.K C) (n:NoAttr X.K C f) (l:fs.lookup f=some v)
  (h:∀u s',Inv X pins σ H s'→RelV v u→Q u s'):wpAny (model X.prog X.w) A (getAttr (.ref a) f b) Q E s:=by
 obtain⟨mA,O,r,_,_,_⟩:=ins_get I.hok e
 obtain⟨u,hu,ru⟩:=RelO.some_of (v:=v) (o:=mA f) (by rw[← l];exact r f)
 exact get_map I.kIn O (c.get f) c.hd n hu (handed_of ru) (h u _ (I.tok _) ru)
theorem getmeth_ok {m:Str}{g:Addr}{pl:Sem Bool}{Q:Value×List Value→Shared→Prop}(I:Inv X pins σ H s) (e:H a=some (.ins C dx fs)) (c:Cls X.K C) (k:Meth X.K C m g) (l:fs.lookup m=none)
  (h:Q (.ref g,[.ref a]) s):wpAny (model X.prog X.w) A (getMethod (.ref a) m pl) Q E s:=by
 obtain⟨mA,O,r,_,_,_⟩:=ins_get I.hok e
 have hn:mA m=none:=RelO.none_of (by rw[← l];exact r m)
 exact get_meth I.kIn O (c.get m) k.at_ k.fn hn h
theorem setattr_ok {y:V}{u:Value}{Q:Unit→Shared→Prop}(I:Inv X pins σ H s) (e:H a=some (.ins C dx fs)) (c:Cls X.K C) (n:NoAttr X.K C f) (hl:fs.length<1000) (ry:RelV y u)
  (h:∀s',Inv X pins σ (upd H a (.ins C dx (putF f y fs))) s'→Q () s'):wpAny (model X.prog X.w) A (setAttr (.ref a) f u) Q E s:=by
 obtain⟨mA,O,r,wi,_,ho⟩:=ins_get I.hok e
 have hz:(fs.map (·.1)).length≤sizeLine:=by rw[List.length_map,sizeLine_eq];omega
 refine set_map I.kIn O c.sa c.po n.taker c.hd wi hz fun h' O' sb=>h _ ?_
 have hd:∃o,h'.get? dx=some o:=let ⟨o,_,_,e',_⟩:=O'.ns;⟨o,e'⟩
 refine I.write (x:=a) (e:=dx) (by rw[e];exact True.intro) (.inr ho) (fun b q hb z=>(sb.2 b hb).trans z) hd ?_
 refine⟨by rw[upd_ne O.ne];exact ho,?_,O.ne,O'.obj,_,O'.ns,fun g=>?_,fun g hg=>?_⟩
 ·have:=length_putF f y fs;omega
 ·show RelO ((putF f y fs).lookup g) (if g=f then some u else mA g)
  rw[lookup_putF]
  by_cases q:g=f
  ·rw[if_pos q,if_pos q];exact ry
  ·rw[if_neg q,if_neg q];exact r g
 ·by_cases q:g=f
  ·rw[q];exact(keys_putF f y fs).1
  ·refine(keys_putF f y fs).2 g (wi g fun z=>hg ?_)
   show(if g=f then some u else mA g)=none
   rw[if_neg q];exact z
theorem Inv.made (I:Inv X pins σ H s):Inv X pins σ (upd (upd H s.heap.objs.size (.own (s.heap.objs.size+1))) (s.heap.objs.size+1) (.ins C s.heap.objs.size []))
  { s with heap:=(s.heap.push PySem.W.emptyDict).push (PySem.W.instObj C s.heap.objs.size) }:=by
 have e1:(s.heap.push PySem.W.emptyDict).get? s.heap.objs.size=some PySem.W.emptyDict:=Heap.get?_push_size s.heap rfl
 have e2:((s.heap.push PySem.W.emptyDict).push (PySem.W.instObj C s.heap.objs.size)).get? (s.heap.objs.size+1)=some (PySem.W.instObj C s.heap.objs.size):=by
  have:=Heap.get?_push_size (s.heap.push PySem.W.emptyDict) (o:=PySem.W.instObj C s.heap.objs.size) rfl
  rwa [Heap.size_push]at this
 have e3:(s.heap.push PySem.W.emptyDict).Ns s.heap.objs.size (fun _=>none):=⟨PySem.W.emptyDict,#[],_,e1,rfl,(fun e he=>absurd he (by simp)),fun _=>rfl⟩
 have I1:=I.laid (a:=s.heap.objs.size) (o:=.own (s.heap.objs.size+1)) (h':=s.heap.push PySem.W.emptyDict) (t':=s.toks) (fun b u q=>Heap.get?_push_of_some _ q) (Nat.le_refl _) ⟨_,e1⟩
 refine I1.laid (a:=s.heap.objs.size+1) (o:=.ins C s.heap.objs.size []) (t':=s.toks) (fun b u q=>Heap.get?_push_of_some _ q) (Nat.le_of_eq (Heap.size_push _ _)) ?_
 have ne:s.heap.objs.size≠s.heap.objs.size+1:=Nat.ne_of_lt (Nat.lt_succ_self _)
 refine⟨by rw[upd_ne ne,upd_same],Nat.zero_le _,ne,e2,fun _=>none,(Heap.Ns1.of_empty e3).at fun o q=>Heap.get?_push_of_some _ q,fun _=>True.intro,fun y hy=>absurd rfl hy⟩
theorem attr_of {prog:Program}{w:World}{env:Env}{e:Expr}{f:Str}{pos:Pos}{s:Shared}{Q:Value→Shared→Prop}(hb:attributeBase e f env (eval e env)=eval e env)
  (h:wpAny (model prog w) A (eval e env) (fun o s₁=>wpAny (model prog w) A (getAttr o f true) Q E s₁) E s):wpAny (model prog w) A (eval (.Attribute e f pos) env) Q E s :=
 Attribute_any_ h (by rw[arm_eval_Attribute,hb])
end
def tFld (K:PySem.W.Frag) (ta:TE) (f:Str):TE:=fun σ H Q=>ta σ H fun x H1=>∃a C dx fs v,x = .ref a∧H1 a=some (.ins C dx fs)∧Cls K C∧NoAttr K C f∧fs.lookup f=some v∧Q v H1
def sFld (K:PySem.W.Frag) (ta tv:TE) (f:Str):TS:=fun D σ H=>tv σ H fun y H1=>ta σ H1 fun x H2=>∃a C dx fs,x = .ref a∧H2 a=some (.ins C dx fs)∧Cls K C∧NoAttr K C f∧fs.length<1000 ∧
 D.nx σ (upd H2 a (.ins C dx (putF f y fs)))
section
variable {X:Cx}{o e value:Expr}{f:Str}{pos pos' tpos:Pos}{ta tv:TE}
theorem pe_fld (he:PE X e ta) (hb:attributeBase e f X.env (eval e X.env)=eval e X.env):PE X (.Attribute e f pos) (tFld X.K ta f):=by
 intro pins s σ H Q I h
 refine attr_of hb (thn (he pins s σ H _ I h) fun u s1 ⟨x,H1,I1,rx,a,C,dx,fs,v,ex,ea,c,n,l,q⟩=>?_)
 subst ex
 obtain rfl:u=Value.ref a:=rx
 exact getattr_ok I1 ea c n l fun u' s2 I2 ru=>⟨v,H1,I2,ru,q⟩
theorem ps_fld (ha:PE X o ta) (hv:PE X value tv) (hs:swapsWith value (some (.Attribute o f pos')) pos.line X.env=pure false):PS X (.Assign [.Attribute o f pos'] value pos) (sFld X.K ta tv f):=by
 intro pins s σ H D I h
 refine plainObj_wpAny_Assign_Attribute (thn (hv pins s σ H _ I h) fun u s1 ⟨y,H1,I1,ry,q⟩=>thn (ha pins s1 σ H1 _ I1 q) fun ov s2 ⟨x,H2,I2,rx,a,C,dx,fs,ex,ea,c,n,l,q2⟩=>?_) hs
 subst ex
 obtain rfl:ov=Value.ref a:=rx
 exact setattr_ok I2 ea c n l ry fun s3 I3=>⟨σ,_,I3,q2⟩
theorem methcall_of {pl:Sem Bool}{m:Str}{apos:Pos}{args:List Expr}{pins:List (Addr×Obj)}{s:Shared}{σ:St}{H:Hp}{Q:Value→Shared→Prop}{te:TE}(he:PE X e te) (I:Inv X pins σ H s)
  (h:te σ H fun x H1=>∃a C dx fs g,x = .ref a∧H1 a=some (.ins C dx fs)∧Cls X.K C∧Meth X.K C m g∧fs.lookup m=none ∧
   ∀s1,Inv X pins σ H1 s1→wpAny (model X.prog X.w) X.A (callWith pos (.ref g) [.ref a] (backTo pos (starEach args X.env)) (backToKw pos (keywordEach [] X.env))) Q X.xe s1)
  (ht:eval (.Call (.Attribute e m apos) args [] pos) X.env =(do
   let ov ← eval e X.env
   standAt apos.atName
   let (f,first) ← holding [ov] (getMethod ov m pl)
   callWith pos f first (backTo pos (starEach args X.env)) (backToKw pos (keywordEach [] X.env)))) :
  wpAny (model X.prog X.w) X.A (eval (.Call (.Attribute e m apos) args [] pos) X.env) Q X.xe s:=by
 refine PySem.W.methodCall_KW (pl:=pl) (thn (he pins s σ H _ I h) fun u s1 ⟨x,H1,I1,rx,a,C,dx,fs,g,ex,ea,c,k,l,q⟩=>?_) ht
 subst ex
 obtain rfl:u=Value.ref a:=rx
 exact getmeth_ok I1 ea c k l (q s1 I1)
end
section
variable {X:Cx}{pins:List (Addr×Obj)}{σ:St}{H:Hp}{s:Shared}{A:Around}{E:Value→Shared→Prop}{Q:Value→Shared→Prop}{c:Value}{b:Bool}
inductive TyOf (K:PySem.W.Frag) (H:Hp):V→Value→Prop where
 | non:TyOf K H .non (.type "NoneType")
 | bl (x:Bool):TyOf K H (.bl x) (.type "bool")
 | int (i:Int):TyOf K H (.int i) (.type "int")
 | str (x:Str):TyOf K H (.str x) (.type "str")
 | flt (x:UInt64):TyOf K H (.flt x) (.type "float")
 | lst {a:Addr}{xs:List V}(e:H a=some (.lst xs)):TyOf K H (.ref a) (.type "list")
 | frz {a:Addr}{o:Obj}{xs:List V}(e:H a=some (.frz o (.lst xs))):TyOf K H (.ref a) (.type "list")
 | tup {a:Addr}{xs:List V}(e:H a=some (.tup xs)):TyOf K H (.ref a) (.type "tuple")
 | dK {a:Addr}{kvs:List (Key×V)}(e:H a=some (.dK kvs)):TyOf K H (.ref a) (.type "dict")
 | dT {a:Addr}{kvs:List (List Key×V)}(e:H a=some (.dT kvs)):TyOf K H (.ref a) (.type "dict")
 | ins {a C dx:Addr}{fs:List (Str×V)}(e:H a=some (.ins C dx fs)) (cl:Cls K C) (ha:PySem.W.findIn K (.ref C) "__class__" = some (some (.builtin "object.__class__")))
   (hn:PySem.W.specialIn K (.builtin "object.__class__") "__get__" = some (some (.builtin "getset_descriptor.__get__"))) (htk:PySem.W.takesIn K (.builtin "object.__class__")=some true)
   (hm:PySem.W.mroIn K C (.type "object")=some true):TyOf K H (.ref a) (.ref C)
theorem isinst_ok {x:V}{u t:Value}(I:Inv X pins σ H s) (rx:RelV x u) (ty:TyOf X.K H x t) (e:PySem.W.kitOne X.K t c=some b) (h:∀tk,Q (.bool b) { s with toks:=tk }) :
  wpAny (model X.prog X.w) A (call (.builtin "isinstance") [u,c]) Q E s:=by
 cases ty with
 | non=>cases (show u=Value.none from rx);exact PySem.W.kia_one PySem.W.kitx_none I.kIn True.intro e (fun z=>nomatch z) h
 | bl y=>cases (show u=Value.bool y from rx);exact PySem.W.kia_one PySem.W.kitx_bool I.kIn True.intro e (fun z=>nomatch z) h
 | int i=>obtain⟨t,q⟩:=(show ∃t,u=Value.int i t from rx);cases q;exact PySem.W.kia_one PySem.W.kitx_int I.kIn True.intro e (fun z=>nomatch z) h
 | str y=>obtain⟨t,q⟩:=(show ∃t,u=Value.str y t from rx);cases q;exact PySem.W.kia_one PySem.W.kitx_str I.kIn True.intro e (fun z=>nomatch z) h
 | flt y=>obtain⟨t,q⟩:=(show ∃t,u=Value.float y t from rx);cases q;exact PySem.W.kia_one PySem.W.kitx_float I.kIn True.intro e (fun z=>nomatch z) h
 | @lst a xs ea =>
  cases (show u=Value.ref a from rx)
  obtain⟨_,_,n,_,h1⟩:=(show ObjOk X.prog X.w H s.heap a (.lst xs) from I.hok a _ ea)
  exact PySem.W.kia_one PySem.W.kitx_list I.kIn ⟨_,h1,rfl⟩ e (fun z=>nomatch z) h
 | @frz a ob xs ea =>
  cases (show u=Value.ref a from rx)
  obtain⟨_,_,_,n,_,h1⟩:=(show ObjOk X.prog X.w H s.heap a (.frz ob (.lst xs)) from I.hok a _ ea)
  exact PySem.W.kia_one PySem.W.kitx_list I.kIn ⟨_,h1,rfl⟩ e (fun z=>nomatch z) h
 | @tup a xs ea =>
  cases (show u=Value.ref a from rx)
  obtain⟨_,_,_,p⟩:=(show ObjOk X.prog X.w H s.heap a (.tup xs) from I.hok a _ ea)
  obtain⟨o,h1,h2,_⟩:=p
  exact PySem.W.kia_one PySem.W.kitx_tuple I.kIn ⟨o,h1,h2⟩ e (fun z=>nomatch z) h
 | @dK a kvs ea =>
  cases (show u=Value.ref a from rx)
  obtain⟨_,_,vs,_,p⟩:=(show ObjOk X.prog X.w H s.heap a (.dK kvs) from I.hok a _ ea)
  obtain⟨o,es,ep,h1,h2,_⟩:=p
  exact PySem.W.kia_one PySem.W.kitx_dict I.kIn ⟨o,h1,h2.1⟩ e (fun z=>nomatch z) h
 | @dT a kvs ea =>
  cases (show u=Value.ref a from rx)
  obtain⟨_,_,xs,_,o,es,ep,h1,h2,_⟩:=(show ObjOk X.prog X.w H s.heap a (.dT kvs) from I.hok a _ ea)
  exact PySem.W.kia_one PySem.W.kitx_dict I.kIn ⟨o,h1,h2.1⟩ e (fun z=>nomatch z) h
 | @ins a C dx fs ea cl ha hn htk hm =>
  cases (show u=Value.ref a from rx)
  obtain⟨mA,O,_⟩:=ins_get I.hok ea
  obtain⟨od,J,_⟩:=O.look
  exact PySem.W.kia_one (PySem.W.kitx_own (cl.get _) cl.hd ha hn htk hm) I.kIn J e (fun z=>nomatch z) h
end
end L2
namespace L2
open PySem PySem.Spec PyProof.Rows
structure Room (k:Nat) (A:Around):Prop where
 hd:A.handled=none
 dp:A.depth+3*k+5<recursionLimit
 un:A.units+16*k+200<cLine
 gd:A.guards=some []
theorem Room.mono {j k:Nat}{A:Around}(r:Room k A) (h:j≤k):Room j A:=⟨r.hd,by have:=r.dp;omega,by have:=r.un;omega,r.gd⟩
theorem guards_deeper {A:Around}{env:Env}(h:A.guards=some []):(A.deeper env).guards=some []:=by
 first|exact h|simp[Around.deeper,Around.under,Code.guards,Code.isGuard,pushGuards,h]
theorem Room.deeper {k:Nat}{A:Around}(r:Room (k+1) A) (env:Env):Room k (A.deeper env) :=
 ⟨r.hd,by have:=r.dp;show A.depth+1+3*k+5<_;omega,by have:=r.un;show A.units+3+16*k+200<_;omega,guards_deeper r.gd⟩
theorem Room.in1 {k:Nat}{A:Around}(r:Room (k+1) A):Room k A.in1 :=
 ⟨r.hd,by have:=r.dp;show A.depth+3*k+5<_;omega,by have:=r.un;show A.units+1+16*k+200<_;omega,r.gd⟩
theorem make_depth {A:Around}{C:Addr}{us:List Value}{kw:List (Str×Value)}:(A.under (.builtin "type.__call__" ⟨.ref C::us,kw⟩)).depth=A.depth+1:=by
 first|rfl|simp[Around.under,Code.weight,Code.isCreation,Code.isGuard,Code.isCaller,Code.frames,Code.isFrame,guardIds]
theorem make_units {A:Around}{C:Addr}{us:List Value}{kw:List (Str×Value)}:(A.under (.builtin "type.__call__" ⟨.ref C::us,kw⟩)).units=A.units+1:=by
 first|rfl|simp[Around.under,Code.cUnits,Code.frames,Code.isFrame]
theorem guards_make {A:Around}{C:Addr}{us:List Value}{kw:List (Str×Value)}(h:A.guards=some []):(A.under (.builtin "type.__call__" ⟨.ref C::us,kw⟩)).guards=some []:=by
 first|exact h|(show pushGuards _ A.guards=_;rw[h];rfl)
theorem Room.make {k:Nat}{A:Around}(r:Room (k+1) A) (C:Addr) (us:List Value) (kw:List (Str×Value)):Room k (A.under (.builtin "type.__call__" ⟨.ref C::us,kw⟩)) :=
 ⟨r.hd,by have:=r.dp;rw[make_depth];omega,by have:=r.un;rw[make_units];omega,guards_make r.gd⟩
theorem Room.depth {k:Nat}{A:Around}(r:Room k A):A.depth<recursionLimit:=by have:=r.dp;omega
theorem Room.units {k:Nat}{A:Around}(r:Room k A):A.units+64<cLine:=by have:=r.un;omega
def tNil:TA:=fun _ H Q=>Q [] H
def tCons (ta:TE) (tr:TA):TA:=fun σ H Q=>ta σ H fun x H1=>tr σ H1 fun xs H2=>Q (x::xs) H2
section
variable {X:Cx}{e:Expr}{es:List Expr}{te:TE}{t:TA}{pos:Pos}
theorem pa_nil:PA X [] tNil:=fun _ _ _ _ H Q I h=>Calls.spliced_nil ⟨[],H,I,.nil,h⟩
theorem pa_cons (ha:PE X e te) (hr:PA X es t) (hs:starEach (e::es) X.env =(false,eval e X.env)::starEach es X.env:=by rfl):PA X (e::es) (tCons te t):=by
 intro pos pins s σ H Q I h
 rw[hs]
 show wpAny _ _ (spliced ((false,eval e X.env)::backTo pos (starEach es X.env))) _ _ s
 refine Calls.spliced_cons (thn (ha pins s σ H _ I h) fun u s1 ⟨x,H1,I1,r1,q1⟩=>?_)
 exact thn (hr pos pins s1 σ H1 _ I1 q1) fun us s2 ⟨xs,H2,I2,r2,q2⟩=>⟨x::xs,H2,I2,.cons r1 r2,q2⟩
def tTup (t:TA):TE:=fun σ H Q=>t σ H fun xs H1=>xs.length≤sizeLine∧∀p,H1 p=none→Q (.ref p) (upd H1 p (.tup xs))
def tLst (t:TA):TE:=fun σ H Q=>t σ H fun xs H1=>xs.length≤sizeLine∧∀p,H1 p=none→Q (.ref p) (upd H1 p (.lst xs))
theorem pe_tup {x1}(h:PA X es t):PE X (.Tuple es x1 pos) (tTup t):=by
 intro pins s σ H Q I hq
 refine wpAny_Tuple_spliced (thn (h pos pins s σ H _ I hq) fun us s1 ⟨xs,H1,I1,r,z,q⟩=>⟨by rw[← r.length];exact z,?_⟩)
 have hf:H1 s1.heap.objs.size=none:=I1.hok.fresh (Nat.le_refl _)
 refine⟨.ref s1.heap.objs.size,upd H1 s1.heap.objs.size (.tup xs),I1.laid (t':=s1.toks) (fun b u e=>Heap.get?_push_of_some _ e) (Nat.le_refl _) ?_,rfl,q _ hf⟩
 exact⟨z,us,r,⟨_,Heap.get?_push_size _ rfl,rfl,_,rfl⟩⟩
theorem pe_lst (h:PA X es t):PE X (.List es pos) (tLst t):=by
 intro pins s σ H Q I hq
 refine wpAny_List_spliced (thn (h pos pins s σ H _ I hq) fun us s1 ⟨xs,H1,I1,r,z,q⟩=>⟨by rw[← r.length];exact z,?_⟩)
 have hf:H1 s1.heap.objs.size=none:=I1.hok.fresh (Nat.le_refl _)
 refine⟨.ref s1.heap.objs.size,upd H1 s1.heap.objs.size (.lst xs),I1.laid (t':=s1.toks) (fun b u e=>Heap.get?_push_of_some _ e) (Nat.le_refl _) ?_,rfl,q _ hf⟩
 exact⟨z,us,0,r,Heap.get?_push_size _ rfl⟩
end
abbrev Sp:=List V→Hp→VK→XK→Prop
abbrev CXT:=List Env→Hp→Shared→XK→Value→Shared→Prop
structure Env0 (P:Program) (w:World) (K:PySem.W.Frag) (mg:Str→Option Value) (base:Heap) (A:Around) (outer:List Env) (s:Shared) (H:Hp):Prop where
 frames:A.frames=some outer
 mod:Mod K mg base
 bs:∀b o,base.get? b=some o→s.heap.get? b=some o∧H b=none
 bsz:base.objs.size≤s.heap.objs.size
 funs:s.heap.FunFrames base outer
 frf:∀b∈frs outer,H b=none
 hok:HOk P w H s.heap
 bare:AllBare s.gens
def CE (outer:List Env) (P:Program) (w:World) (H:Hp) (s:Shared) (Q:VK) (u:Value) (s':Shared):Prop :=
 ∃v H',s'.os=s.os∧AllBare s'.gens∧Un (frs outer) [] H H' s.heap s'.heap∧HOk P w H' s'.heap∧RelV v u∧Q v H'
def CR (CX:CXT) (outer:List Env) (P:Program) (w:World) (H:Hp) (s:Shared) (Q:VK) (E:XK) (r:Result) (s':Shared):Prop :=
 match r with
 | .ok (.ret u)=>CE outer P w H s Q u s'
 | .ok _=>False
 | .error e=>CX outer H s E e s'
structure FnOk (P:Program) (w:World) (K:PySem.W.Frag) (mg:Str→Option Value) (base:Heap) (CX:CXT) (k:Nat) (f:Addr) (fd:FuncData) (ps:List Str) (sp:Sp):Prop where
 len:∀vs H Q E,sp vs H Q E→vs.length=ps.length
 run:∀(A:Around) (outer:List Env) (s:Shared) (H:Hp) (args:Args) (us:List Value) (vs:List V) (Q:VK) (E:XK),Room k A→Env0 P w K mg base A outer s H→BindsTo s fd args (ps.zip us)→Vals vs us→sp vs H Q E →
  codeAny (model P w) A (.call (.ref f) args) (CR CX outer P w H s Q E) s
theorem Env0.make {P:Program}{w:World}{K:PySem.W.Frag}{mg:Str→Option Value}{base:Heap}{A:Around}{outer:List Env}{s:Shared}{H:Hp}(e:Env0 P w K mg base A outer s H) (C:Addr) (us:List Value) (kw:List (Str×Value)) :
  Env0 P w K mg base (A.under (.builtin "type.__call__" ⟨.ref C::us,kw⟩)) outer s H:=⟨by first|exact e.frames|(simpa [Around.under,Code.envs,Code.isFrame,pushEnvs] using e.frames),e.mod,e.bs,e.bsz,e.funs,e.frf,e.hok,e.bare⟩
section
variable {X:Cx}{pins:List (Addr×Obj)}{σ:St}{H:Hp}{s s':Shared}
theorem Inv.env0 (I:Inv X pins σ H s):Env0 X.prog X.w X.K X.mg X.base X.A X.stack s H :=
 ⟨I.ok.frames,I.ok.mod,I.bs,Nat.le_trans I.ok.bsz I.sz,I.stack,I.stkFree,I.hok,I.bare⟩
theorem Inv.after {Q:VK}{u:Value}(I:Inv X pins σ H s) (h:CE X.stack X.prog X.w H s Q u s'):EP X pins σ Q u s':=by
 obtain⟨v,H',os,bare,un,hok,r,q⟩:=h
 obtain⟨hh,g,d,t,os'⟩:=s'
 obtain rfl:os'=s.os:=os
 exact⟨v,H',I.call (h':=hh) (g':=g) (d':=d) (t':=t) (ch:=[]) un hok bare (fun b z=>absurd z (by simp)),r,q⟩
end
def tCall (sp:Sp) (dvs:List V) (E:XK) (t:TA):TE:=fun σ H Q=>t σ H fun vs H1=>sp (vs++dvs) H1 Q E
def tMeth (C:Addr) (m:Str) (sp:Sp) (dvs:List V) (E:XK) (ta:TE) (t:TA):TE:=fun σ H Q=>ta σ H fun x H1=>∃a dx fs,x = .ref a∧H1 a=some (.ins C dx fs)∧fs.lookup m=none ∧
 t σ H1 fun vs H2=>sp (x::(vs++dvs)) H2 Q E
def tMake (C:Addr) (sp:Sp) (dvs:List V) (E:XK) (t:TA):TE:=fun σ H Q=>t σ H fun vs H1=>∀x dx,H1 x=none→H1 dx=none→dx≠x →
 sp (.ref x::(vs++dvs)) (upd (upd H1 dx (.own x)) x (.ins C dx [])) (fun v H2=>v = .non∧Q (.ref x) H2) E
def Binds (K:PySem.W.Frag) (fd:FuncData) (ps:List Str) (ds:List Value):Prop :=
 ∀(s:Shared) (us:List Value),K.In s.heap→(us++ds).length=ps.length→BindsTo s fd ⟨us,[]⟩ (ps.zip (us++ds))
theorem Binds.all {K:PySem.W.Frag}{fd:FuncData}{ps:List Str}(h:∀us:List Value,us.length=ps.length→bindArgs fd ⟨us,[]⟩=pure (ps.zip us)):Binds K fd ps []:=fun s us _ hl=>by
 rw[List.append_nil]at hl ⊢
 exact .of_eq (h us hl)
def Passes (CX:CXT) (X:Cx) (E:XK):Prop:=∀(pins:List (Addr×Obj)) (σ:St) (H:Hp) (s:Shared) (e:Value) (s':Shared),Inv X pins σ H s→CX X.stack H s E e s'→X.xe e s'
section
variable {X:Cx}{CX:CXT}{k:Nat}{f C:Addr}{fd:FuncData}{ps:List Str}{sp:Sp}{dvs:List V}{ds:List Value}{E:XK}{x m:Str}{p pos apos:Pos}{e o:Expr}{es:List Expr}{ta:TE}{t:TA}
theorem run_fn {pins:List (Addr×Obj)}{σ:St}{H:Hp}{s:Shared}{Q:VK}{us:List Value}{vs:List V}(F:FnOk X.prog X.w X.K X.mg X.base CX k f fd ps sp) (hr:Room k X.A) (hb:Binds X.K fd ps ds) (hd:Vals dvs ds) (hx:Passes CX X E)
  (I:Inv X pins σ H s) (r:Vals vs us) (h:sp (vs++dvs) H Q E):wpAny (model X.prog X.w) X.A (call (.ref f) us) (EP X pins σ Q) X.xe s:=by
 have r2:Vals (vs++dvs) (us++ds):=r.append hd
 have hl:(us++ds).length=ps.length:=by rw[← r2.length];exact F.len _ _ _ _ h
 refine wpAny_call (codeAny_mono (F.run X.A X.stack s H ⟨us,[]⟩ (us++ds) (vs++dvs) Q E hr I.env0 (hb s us I.kIn hl) r2 h) fun r s' hq=>?_)
 cases r with
 | error e=>exact hx pins σ H s e s' I hq
 | ok fl =>
  cases fl with
  | ret u=>exact I.after hq
  | next=>exact False.elim hq
  | brk=>exact False.elim hq
  | cont=>exact False.elim hq
theorem pe_call (F:FnOk X.prog X.w X.K X.mg X.base CX k f fd ps sp) (hr:Room k X.A) (hg:Gl X x) (hm:X.mg x=some (.ref f)) (hk:PySem.W.keepIn X.K (.ref f)=true) (hb:Binds X.K fd ps ds) (hd:Vals dvs ds) (hx:Passes CX X E)
  (ha:PA X (e::es) t) (hdb:(x ==("__debug__" : Str))=false:=by decide) (he:starEach (e::es) X.env =(false,eval e X.env)::starEach es X.env:=by rfl) (hpl:(backTo pos (starEach es X.env)).any (·.1)=false:=by rfl) :
  PE X (.Call (.Name x p) (e::es) [] pos) (tCall sp dvs E t):=by
 intro pins s σ H Q I h
 refine wpAny_Call_Name_kw (ld_glob I hg hm ?_ hdb)
 refine PySem.W.callWith_K (h₀:=X.base) I.ok.mod.kin hk (thn (ha pos pins s σ H _ I h) fun us s1 ⟨vs,H1,I1,r,q⟩=>⟨I1.kIn,?_⟩) he hpl
 exact run_fn F hr hb hd hx I1 r q
theorem pe_meth {pl:Sem Bool}(he:PE X o ta) (c:Cls X.K C) (hm:Meth X.K C m f) (F:FnOk X.prog X.w X.K X.mg X.base CX k f fd ps sp) (hr:Room k X.A) (hb:Binds X.K fd ps ds) (hd:Vals dvs ds) (hx:Passes CX X E) (ha:PA X (e::es) t)
  (hst:starEach (e::es) X.env =(false,eval e X.env)::starEach es X.env:=by rfl) (hpl:(backTo pos (starEach es X.env)).any (·.1)=false:=by rfl)
  (ht:eval (.Call (.Attribute o m apos) (e::es) [] pos) X.env =(do
   let ov ← eval o X.env
   standAt apos.atName
   let (f,first) ← holding [ov] (getMethod ov m pl)
   callWith pos f first (backTo pos (starEach (e::es) X.env)) (backToKw pos (keywordEach [] X.env))):=by rfl) :
  PE X (.Call (.Attribute o m apos) (e::es) [] pos) (tMeth C m sp dvs E ta t):=by
 intro pins s σ H Q I h
 refine PySem.W.methodCall_KW (pl:=pl) (thn (he pins s σ H _ I h) fun u s1 ⟨x,H1,I1,rx,a,dx,fs,ex,ea,l,q⟩=>?_) ht
 subst ex
 obtain rfl:u=Value.ref a:=rx
 refine getmeth_ok I1 ea c hm l ?_
 refine PySem.W.callWith_K (first:=[.ref a]) (h₀:=X.base) I.ok.mod.kin hm.kp (thn (ha pos pins s1 σ H1 _ I1 q) fun us s2 ⟨vs,H2,I2,r,q2⟩=>⟨I2.kIn,?_⟩) hst hpl
 exact run_fn (us:=.ref a::us) (vs:=.ref a::vs) F hr hb hd hx I2 (.cons rfl r) q2
theorem pe_meth0 {pl:Sem Bool}(he:PE X o ta) (c:Cls X.K C) (hm:Meth X.K C m f) (F:FnOk X.prog X.w X.K X.mg X.base CX k f fd ps sp) (hr:Room k X.A) (hb:Binds X.K fd ps ds) (hd:Vals dvs ds) (hx:Passes CX X E)
  (ht:eval (.Call (.Attribute o m apos) [] [] pos) X.env =(do
   let ov ← eval o X.env
   standAt apos.atName
   let (f,first) ← holding [ov] (getMethod ov m pl)
   callWith pos f first (backTo pos (starEach [] X.env)) (backToKw pos (keywordEach [] X.env))):=by rfl) :
  PE X (.Call (.Attribute o m apos) [] [] pos) (tMeth C m sp dvs E ta tNil):=by
 intro pins s σ H Q I h
 refine PySem.W.methodCall_KW (pl:=pl) (thn (he pins s σ H _ I h) fun u s1 ⟨x,H1,I1,rx,a,dx,fs,ex,ea,l,q⟩=>?_) ht
 subst ex
 obtain rfl:u=Value.ref a:=rx
 refine getmeth_ok I1 ea c hm l ?_
 exact PySem.W.callWith_K0 (first:=[.ref a]) I1.kIn hm.kp (run_fn (us:=[.ref a]) (vs:=[.ref a]) F hr hb hd hx I1 (.cons rfl .nil) q)
structure Mk (K:PySem.W.Frag) (C f:Addr):Prop where
 makes:PySem.W.makesIn K C=true
 init:PySem.W.findIn K (.ref C) "__init__" = some (some (.ref f))
 fn:PySem.W.isFn K (.ref f)=true
 kp:PySem.W.keepIn K (.ref C)=true
theorem run_make {pins:List (Addr×Obj)}{σ:St}{H:Hp}{s:Shared}{Q:VK}{us:List Value}{vs:List V}(M:Mk X.K C f) (F:FnOk X.prog X.w X.K X.mg X.base CX k f fd ps sp) (hr:Room (k+1) X.A) (hb:Binds X.K fd ps ds) (hd:Vals dvs ds)
  (hx:Passes CX X E) (I:Inv X pins σ H s) (r:Vals vs us)
  (h:∀x dx,H x=none→H dx=none→dx≠x→sp (.ref x::(vs++dvs)) (upd (upd H dx (.own x)) x (.ins C dx [])) (fun v H2=>v = .non∧Q (.ref x) H2) E) :
  wpAny (model X.prog X.w) X.A (call (.ref C) us) (EP X pins σ Q) X.xe s:=by
 have hq:=h (s.heap.objs.size+1) s.heap.objs.size (I.hok.fresh (Nat.le_succ _)) (I.hok.fresh (Nat.le_refl _)) (Nat.ne_of_lt (Nat.lt_succ_self _))
 have I2:=Inv.made (C:=C) I
 have r2:Vals (V.ref (s.heap.objs.size+1)::(vs++dvs)) (Value.ref (s.heap.objs.size+1)::(us++ds)):=.cons rfl (r.append hd)
 have hl:(Value.ref (s.heap.objs.size+1)::us++ds).length=ps.length:=by
  have e:=r2.length
  rw[F.len _ _ _ _ hq]at e
  exact e.symm
 refine wpAny_call (make_map (f:=f) I.kIn M.makes M.init (beq_iff_eq.mp M.fn) (codeAny_mono (F.run _ X.stack _ _ ⟨Value.ref (s.heap.objs.size+1)::us,[]⟩ (Value.ref (s.heap.objs.size+1)::(us++ds)) _ _ E (hr.make C us [])
  (I2.env0.make C us []) (hb _ (Value.ref (s.heap.objs.size+1)::us) I2.kIn hl) r2 hq) fun r s' hq'=>?_))
 cases r with
 | error e=>exact hx pins σ _ _ e s' I2 hq'
 | ok fl =>
  cases fl with
  | ret u =>
   obtain⟨v,H',I3,rv,ev,q3⟩:=I2.after hq'
   subst ev
   exact⟨rv,⟨V.ref (s.heap.objs.size+1),H',I3,rfl,q3⟩⟩
  | next=>exact False.elim hq'
  | brk=>exact False.elim hq'
  | cont=>exact False.elim hq'
theorem pe_make (M:Mk X.K C f) (F:FnOk X.prog X.w X.K X.mg X.base CX k f fd ps sp) (hr:Room (k+1) X.A) (hg:Gl X x) (hm:X.mg x=some (.ref C)) (hb:Binds X.K fd ps ds) (hd:Vals dvs ds) (hx:Passes CX X E)
  (ha:PA X (e::es) t) (hdb:(x ==("__debug__" : Str))=false:=by decide) (he:starEach (e::es) X.env =(false,eval e X.env)::starEach es X.env:=by rfl) (hpl:(backTo pos (starEach es X.env)).any (·.1)=false:=by rfl) :
  PE X (.Call (.Name x p) (e::es) [] pos) (tMake C sp dvs E t):=by
 intro pins s σ H Q I h
 refine wpAny_Call_Name_kw (ld_glob I hg hm ?_ hdb)
 refine PySem.W.callWith_K (h₀:=X.base) I.ok.mod.kin M.kp (thn (ha pos pins s σ H _ I h) fun us s1 ⟨vs,H1,I1,r,q⟩=>⟨I1.kIn,?_⟩) he hpl
 exact run_make M F hr hb hd hx I1 r q
end
def PK (X:Cx) (kws:List Keyword) (t:TA):Prop :=
 ∀(pos:Pos) (pins:List (Addr×Obj)) (s:Shared) (σ:St) (H:Hp) (Q:List V→Hp→Prop),Inv X pins σ H s→t σ H Q→wpAny (model X.prog X.w) X.A (evalAll ((backToKw pos (keywordEach kws X.env)).map (·.2))) (AP X pins σ Q) X.xe s
section
variable {X:Cx}{CX:CXT}{k:Nat}{f C:Addr}{fd:FuncData}{ps ks:List Str}{sp:Sp}{E:XK}{x m:Str}{p pos apos kpos:Pos}{e o:Expr}{es:List Expr}{kws:List Keyword}{te ta:TE}{t tk:TA}{nm:Option Str}
theorem pk_nil:PK X [] tNil:=fun _ _ _ _ H Q I h=>wpAny_evalAll_nil ⟨[],H,I,.nil,h⟩
theorem pk_cons (ha:PE X e te) (hr:PK X kws t):PK X (⟨nm,e,kpos⟩::kws) (tCons te t):=by
 intro pos pins s σ H Q I h
 show wpAny _ _ (evalAll ((do let v ← eval e X.env;standAt pos;pure v)::(backToKw pos (keywordEach kws X.env)).map (·.2))) _ _ s
 refine wpAny_evalAll_cons (wpAny_bind (thn (ha pins s σ H _ I h) fun u s1 ⟨x,H1,I1,r1,q1⟩=>wpAny_bind (wpAny_standAt (wpAny_pure ?_))))
 exact thn (hr pos pins s1 σ H1 _ I1 q1) fun us s2 ⟨xs,H2,I2,r2,q2⟩=>⟨x::xs,H2,I2,.cons r1 r2,q2⟩
variable {g:List Value→List Value→List Value}{gV:List V→List V→List V}
end
structure FnScope (N P:List Str) (sc:Scope):Prop where
 kind:sc.kind = .function
 co:sc.isCoroutine=false
 gen:sc.isGenerator=false
 nd:N.Nodup
 pre:N.take P.length=P
 par:∀x∈P,sc.names.lookup x=some .local∨sc.names.lookup x=some .cell
 nofree:∀y∈sc.names,y.2 ≠ .free
theorem bindL_out {kindOf:Str→Option NameKind}{x:Str}:∀{binds:List (Str×Value)}{m:Str→Option Value},(∀v,(x,v)∉binds)→bindL kindOf binds m x=m x
 | [],_,_=>rfl
 | (n,v)::r,m,h=>by
  unfold bindL
  rw[bindL_out fun w hw=>h w (List.mem_cons_of_mem _ hw)]
  split
  ·have:x≠n:=by rintro rfl;exact h v List.mem_cons_self
   simp[this]
  ·rfl
theorem bindC_out {kindOf:Str→Option NameKind}{x:Str}:∀{binds:List (Str×Value)}{m:Str→Option Value},(∀v,(x,v)∉binds)→bindC kindOf binds m x=m x
 | [],_,_=>rfl
 | (n,v)::r,m,h=>by
  unfold bindC
  rw[bindC_out fun w hw=>h w (List.mem_cons_of_mem _ hw)]
  split
  ·rfl
  ·have:x≠n:=by rintro rfl;exact h v List.mem_cons_self
   simp[this]
theorem bindL_get {kindOf:Str→Option NameKind}{x:Str}{v:Value}:∀{P:List Str}{vs:List Value}{i:Nat}{m:Str→Option Value},P.Nodup→P[i]? = some x→vs[i]? = some v→kindOf x=some .local →
  bindL kindOf (P.zip vs) m x=some v
 | [],_,_,_,_,h,_,_=>by simp at h
 | _::_,[],_,_,_,_,h,_=>by simp at h
 | p::P,w::vs,0,m,nd,h1,h2,hk=>by
  simp at h1 h2;subst h1;subst h2
  show bindL kindOf ((p,w)::P.zip vs) m p=_
  unfold bindL
  rw[bindL_out fun v hv=>(List.nodup_cons.mp nd).1 (List.of_mem_zip hv).1,if_pos hk]
  simp
 | p::P,w::vs,i+1,m,nd,h1,h2,hk=>by
  show bindL kindOf ((p,w)::P.zip vs) m x=_
  unfold bindL
  exact bindL_get (i:=i) (List.nodup_cons.mp nd).2 (by simpa using h1) (by simpa using h2) hk
theorem bindC_get {kindOf:Str→Option NameKind}{x:Str}{v:Value}:∀{P:List Str}{vs:List Value}{i:Nat}{m:Str→Option Value},P.Nodup→P[i]? = some x→vs[i]? = some v→kindOf x≠some .local →
  bindC kindOf (P.zip vs) m x=some v
 | [],_,_,_,_,h,_,_=>by simp at h
 | _::_,[],_,_,_,_,h,_=>by simp at h
 | p::P,w::vs,0,m,nd,h1,h2,hk=>by
  simp at h1 h2;subst h1;subst h2
  show bindC kindOf ((p,w)::P.zip vs) m p=_
  unfold bindC
  rw[bindC_out fun v hv=>(List.nodup_cons.mp nd).1 (List.of_mem_zip hv).1,if_neg hk]
  simp
 | p::P,w::vs,i+1,m,nd,h1,h2,hk=>by
  show bindC kindOf ((p,w)::P.zip vs) m x=_
  unfold bindC
  exact bindC_get (i:=i) (List.nodup_cons.mp nd).2 (by simpa using h1) (by simpa using h2) hk
def start (N:List Str) (vs:List V):St:=vs.map some++List.replicate (N.length-vs.length) none
def cxOf (CX:CXT) (P:Program) (w:World) (K:PySem.W.Frag) (mg:Str→Option Value) (base:Heap) (N:List Str) (qual:Str) (scope:Scope) (f:Addr) (cd:Value) (A:Around) (outer:List Env) (s:Shared) (H:Hp) (E:XK):Cx where
 prog:=P
 w:=w
 K:=K
 mg:=mg
 base:=base
 A:=A.deeper (envOfC qual scope s.heap.objs.size f cd)
 N:=N
 s₀:=s
 H₀:=H
 env:=envOfC qual scope s.heap.objs.size f cd
 outer:=outer
 stack:=envOfC qual scope s.heap.objs.size f cd::outer
 ex:=[]
 calm:=true
 fn:=fun _=>true
 pn:=[]
 xe:=fun e s'=>wpAny (model P w) (A.deeper (envOfC qual scope s.heap.objs.size f cd)) (leaving (envOfC qual scope s.heap.objs.size f cd) e) (fun _ s''=>CX outer H s E e s'') (fun e' s''=>CX outer H s E e' s'') s'
theorem cell_has {sc:Scope}{n:Nat}{x:Str}(h:sc.names.lookup x=some .cell):∃c,(cellsFrom n sc.names []).lookup x=some c:=by
 have q:=PySem.W.cellsFrom_some sc.names n [] (.inl h)
 exact Option.isSome_iff_exists.mp q
theorem inv_start {CX:CXT}{P:Program}{w:World}{K:PySem.W.Frag}{mg:Str→Option Value}{base:Heap}{N ps:List Str}{qual:Str}{scope:Scope}{f:Addr}{cd:Value}{A:Around}{outer:List Env}{s s1:Shared}{H:Hp}{E:XK}{us:List Value}{vs:List V}
  (S:FnScope N ps scope) (hd:A.handled=none) (e0:Env0 P w K mg base A outer s H) (hl:vs.length=ps.length) (r:Vals vs us)
  (x:InCallC s s.heap.objs.size (bindL (envOfC qual scope s.heap.objs.size f cd).kindOf (ps.zip us) fun _=>none) (cellsFrom (s.heap.objs.size+1) scope.names []) (bindC (envOfC qual scope s.heap.objs.size f cd).kindOf (ps.zip us) fun _=>none) s1) :
  Inv (cxOf CX P w K mg base N qual scope f cd A outer s H E) [] (start N vs) H s1:=by
 have hpl:ps.length≤N.length:=by have:=congrArg List.length S.pre;rw[List.length_take]at this;omega
 obtain⟨h1,tk,rfl,hk⟩:=x.done
 have noA:∀b:Addr,b∉(cxOf CX P w K mg base N qual scope f cd A outer s H E).ex:=fun b z=>absurd (show b∈([]:List Addr) from z) (by simp)
 refine⟨⟨e0.mod,S.kind,rfl,rfl,Nat.le_refl _,fun y z c h1 h2=>?_,fun y hy=>?_,fun y c _ h=>?_,fun _=>hd,Around.frames_deeper e0.frames,.inr ⟨rfl,rfl⟩,fun b z=>absurd z (noA b),e0.bs,e0.bsz,fun b _ _=>noA b,fun b z=>absurd z (noA b),e0.funs,e0.frf⟩,
  rfl,e0.bare,Un.kept hk,⟨_,x.toInCall.ns,fun i y v h1 h2 h3=>?_⟩,fun y c h=>⟨_,x.cell y c h⟩,e0.hok.fresh (Nat.le_refl _),fun y c h=>?_,fun p hp=>absurd (show p∈([]:List (Addr×Obj)) from hp) (by simp),e0.hok.kept hk,?_⟩
 ·exact name_of_addr x.apart (PySem.mem_of_lookup h1) (PySem.mem_of_lookup h2)
 ·have hy:scope.names.lookup y=some .cell∨scope.names.lookup y=some .free:=hy
  rcases hy with hy|hy
  ·exact cell_has hy
  ·exact absurd rfl (S.nofree _ (PySem.mem_of_lookup hy))
 ·exact Nat.le_of_lt (x.above y c (PySem.mem_of_lookup h))
 ·have hi:i<vs.length:=by
   unfold start at h2
   by_cases hi:i<vs.length
   ·exact hi
   ·rw[List.getElem?_append_right (by simpa using hi)]at h2
    rw[List.getElem?_replicate]at h2
    split at h2 <;> cases h2
  have ha:vs[i]? = some v:=by
   unfold start at h2
   rw[List.getElem?_append_left (by simpa using hi),List.getElem?_map]at h2
   cases e:vs[i]? with
   | none=>rw[e]at h2;cases h2
   | some a=>rw[e]at h2;cases h2;rfl
  obtain⟨u,hu,rv⟩:=r.get ha
  have hp:ps[i]? = some y:=by
   rw[← S.pre,List.getElem?_take_of_lt (by omega)];exact h1
  have ndP:ps.Nodup:=by rw[← S.pre];exact S.nd.sublist (List.take_sublist _ _)
  refine⟨u,rv,?_⟩
  rcases S.par y (List.mem_of_getElem? hp) with k|k
  ·exact .inl ⟨k,bindL_get ndP hp hu k⟩
  ·obtain⟨c,e⟩:=cell_has (n:=s.heap.objs.size+1) k
   refine .inr ⟨.inl k,c,e,?_⟩
   have q:=x.cell y c e
   rw[bindC_get ndP hp hu (by show scope.names.lookup y≠_;rw[k];decide)]at q
   exact q
 ·exact e0.hok.fresh (Nat.le_of_lt (x.above y c (PySem.mem_of_lookup h)))
 ·unfold start
  show _=N.length
  rw[List.length_append,List.length_map,List.length_replicate]
  omega
theorem fn_of {CX:CXT}{P:Program}{w:World}{K:PySem.W.Frag}{mg:Str→Option Value}{base:Heap}{k:Nat}{f:Addr}{name qual:Str}{params:Arguments}{body:List Stmt}{scope:Scope}{dV kV doc pm cdv ct oc:Value}{an od:Option Addr}
  {osl:Array (Option Value)}{N ps:List Str}{sp:Sp}(lk:K.lookup f=some ⟨oc,od,.func (PySem.W.fnOf name qual params body scope dV kV doc pm an cdv ct),osl⟩) (hcd:PySem.W.codeIn K cdv qual=true) (S:FnScope N ps scope)
  (len:∀vs H Q E,sp vs H Q E→vs.length=ps.length)
  (hbody:∀(A:Around) (outer:List Env) (s:Shared) (H:Hp) (vs:List V) (Q:VK) (E:XK),Room k (A.deeper (envOfC qual scope s.heap.objs.size f cdv))→sp vs H Q E →
   ∃t,PSs (cxOf CX P w K mg base N qual scope f cdv A outer s H E) body t∧t { nx:=fun _ H'=>Q .non H',rt:=Q } (start N vs) H) :
  FnOk P w K mg base CX (k+1) f (PySem.W.fnOf name qual params body scope dV kV doc pm an cdv ct) ps sp:=by
 refine⟨len,fun A outer s H args us vs Q E hr e0 hb r hsp=>?_⟩
 have hl:=len _ _ _ _ hsp
 have KX:K.In s.heap:=e0.mod.kin.keeps fun b o e=>(e0.bs b o e).1
 have lim:s.heap.NoLimit:=e0.mod.nolimit.keeps fun b o e=>(e0.bs b o e).1
 have hkind:∀y∈ps.zip us,scope.names.lookup y.1=some .local ∨(scope.names.lookup y.1=some .cell∧((cellsFrom (s.heap.objs.size+1) scope.names []).lookup y.1).isSome=true):=fun⟨n,v⟩ hy=>by
  rcases S.par n (List.of_mem_zip hy).1 with q|q
  ·exact .inl q
  ·exact .inr ⟨q,PySem.W.cellsFrom_some _ _ _ (.inl q)⟩
 refine codeAny_call_function hr.depth (KX _ _ lk) rfl S.co S.gen rfl (PySem.W.codeRec_of KX hcd) (hb _ _ _ _ ?_)
 refine wpAny_newFunctionEnv_cells S.kind hkind fun env he s1 x=>?_
 subst he
 refine⟨lim.keeps x.toInCall.keep,codeAny_func ?_⟩
 obtain⟨t,ht,hq⟩:=hbody A outer s H vs Q E (hr.deeper _) hsp
 have I:Inv (cxOf CX P w K mg base N qual scope f cdv A outer s H E) [] (start N vs) H s1:=inv_start S hr.hd e0 hl r x
 refine wpAny_mono (ht [] s1 (start N vs) H _ I hq) (fun fl s' hs=>?_) fun e s' hs=>hs
 have fin:∀{σ':St}{H':Hp}{v:V}{u:Value},Inv (cxOf CX P w K mg base N qual scope f cdv A outer s H E) [] σ' H' s'→RelV v u→Q v H'→CE outer P w H s Q u s' :=
  fun {σ' H' v u} J rv q=>⟨v,H',J.os,J.bare,J.base,J.hok,rv,q⟩
 cases fl with
 | ret u =>
  obtain⟨v,σ',H',J,rv,q⟩:=hs
  exact fin J rv q
 | next =>
  obtain⟨σ',H',J,q⟩:=hs
  exact fin (v:=V.non) (u:=Value.none) J rfl q
 | brk =>
  obtain⟨_,_,_,q⟩:=hs
  exact False.elim q
 | cont =>
  obtain⟨_,_,_,q⟩:=hs
  exact False.elim q
end L2
namespace L2
open PySem PySem.Spec PyProof.Rows
section
variable {X:Cx}{x:Str}{p pos:Pos}{e:Expr}{es:List Expr}{t:TA}{id T:String}{r:List V→Hp→VK→Prop}
def tCB (r:List V→Hp→VK→Prop) (t:TA):TE:=fun σ H Q=>t σ H fun vs H1=>r vs H1 Q
theorem pe_callB (hc:CallR X (.builtin id) r) (hg:Gl X x) (hm:X.mg x=none) (hv:bootBuiltins x=some (.builtin id)) (ha:PA X (e::es) t) (hn:x ≠ "__name__" := by decide) (hdb:(x ==("__debug__" : Str))=false:=by decide)
  (he:starEach (e::es) X.env =(false,eval e X.env)::starEach es X.env:=by rfl) (hpl:(backTo pos (starEach es X.env)).any (·.1)=false:=by rfl):PE X (.Call (.Name x p) (e::es) [] pos) (tCB r t):=by
 intro pins s σ H Q I h
 refine wpAny_Call_Name_kw (ld_blt I hg hm hv ?_ hn hdb)
 exact PyProof.Rows.callWith_builtin1 (thn (ha pos pins s σ H _ I h) fun us s1 ⟨vs,H1,I1,r1,q1⟩=>hc pins s1 σ H1 vs us Q I1 r1 q1) he hpl
theorem pe_callTy (hc:CallR X (.type T) r) (hg:Gl X x) (hm:X.mg x=none) (hv:bootBuiltins x=some (.type T)) (ha:PA X (e::es) t) (hn:x ≠ "__name__" := by decide) (hdb:(x ==("__debug__" : Str))=false:=by decide)
  (he:starEach (e::es) X.env =(false,eval e X.env)::starEach es X.env:=by rfl) (hpl:(backTo pos (starEach es X.env)).any (·.1)=false:=by rfl):PE X (.Call (.Name x p) (e::es) [] pos) (tCB r t):=by
 intro pins s σ H Q I h
 refine wpAny_Call_Name_kw (ld_blt I hg hm hv ?_ hn hdb)
 exact PyProof.Rows.callWith_type1 (thn (ha pos pins s σ H _ I h) fun us s1 ⟨vs,H1,I1,r1,q1⟩=>hc pins s1 σ H1 vs us Q I1 r1 q1) he hpl
end
end L2
namespace HT
open PySem PyProof.Rows
section
open PySem.SeqAt
open PySem.AutoSeq1 (wpAny_loadPart')
open PySem.MeetsSeq PySem.MeetsSeq2 PySem.MeetsSeq3
end
section
variable {prog:Program}{w:World}{A:Around}{E:Value→Shared→Prop}{s:Shared}
def sIx (n d:Nat):Option Int→Nat
 | none=>d
 | some v=>if v<0 then(v+(n:Int)).toNat else min v.toNat n
theorem sIx_none (n d:Nat):sIx n d none=d:=rfl
theorem sIx_nat (n d k:Nat):sIx n d (some (k:Int))=min k n:=by
 show(if (k:Int)<0 then((k:Int)+(n:Int)).toNat else min (k:Int).toNat n)=min k n
 rw[if_neg (by omega),Int.toNat_natCast]
end
end HT
namespace L2
open PySem PySem.Spec PyProof.Rows
abbrev TO:=St→Hp→(Option Int→Hp→Prop)→Prop
def PO (X:Cx) (e:Option Expr) (t:TO):Prop :=
 ∀(pins:List (Addr×Obj)) (s:Shared) (σ:St) (H:Hp) (Q:Option Int→Hp→Prop),Inv X pins σ H s→t σ H Q →
  wpAny (model X.prog X.w) X.A (evalPart e X.env) (fun u s'=>∃o H',Inv X pins σ H' s'∧IsPart u o∧Q o H') X.xe s
def tNoPart:TO:=fun _ H Q=>Q none H
def tPart (t:TE):TO:=fun σ H Q=>t σ H fun x H1=>∃i,x = .int i∧Q (some i) H1
theorem intsAre_of {ns:List Int}:∀{us:List Value},Vals (ns.map V.int) us→IntsAre us ns:=by
 induction ns with
 | nil=>intro us r;rw[List.map_nil]at r;cases r;exact .nil
 | cons n ns ih =>
  intro us r
  rw[List.map_cons]at r
  cases r with
  | cons r1 r2 =>
   obtain⟨t,e⟩:=r1
   subst e
   exact .cons n t (ih r2)
section
variable {X:Cx}{e:Expr}{te:TE}{lo hi:Option Expr}{tl th:TO}{pos p2:Pos}
theorem po_none:PO X none tNoPart:=by
 intro pins s σ H Q I h
 rw[evalPart_none]
 exact wpAny_pure ⟨none,H,I,.none,h⟩
theorem po_some (h:PE X e te):PO X (some e) (tPart te):=by
 intro pins s σ H Q I hw
 rw[evalPart_some]
 refine thn (h pins s σ H _ I hw) fun u s1 ⟨x,H1,I1,r1,q1⟩=>?_
 obtain⟨i,rfl,q⟩:=q1
 obtain⟨t,rfl⟩:=r1
 exact⟨some i,H1,I1,.int i t,q⟩
def SlR (X:Cx) (r:V→Option Int→Option Int→Hp→VK→Prop):Prop :=
 ∀(pins:List (Addr×Obj)) (s:Shared) (σ:St) (H:Hp) (x:V) (v vl vu:Value) (lo hi:Option Int) (sl:Addr) (Q:VK),Inv X pins σ H s→RelV x v→s.heap.IsSliceOf sl vl vu .none→IsPart vl lo→IsPart vu hi→r x lo hi H Q →
  ∃T id,typeLookup (.type T) "__getitem__" = pure (some (.builtin id))∧s.TypeIs v T∧wpAny (model X.prog X.w) X.A (getItem v (.ref sl)) (EP X pins σ Q) X.xe s
def tSl (r:V→Option Int→Option Int→Hp→VK→Prop) (te:TE) (tl th:TO):TE:=fun σ H Q=>te σ H fun x H1=>tl σ H1 fun l H2=>th σ H2 fun u H3=>r x l u H3 Q
theorem pe_slice {r:V→Option Int→Option Int→Hp→VK→Prop}(hr:SlR X r) (he:PE X e te) (hl:PO X lo tl) (hu:PO X hi th):PE X (.Subscript e (.Slice lo hi none p2) pos) (tSl r te tl th):=by
 intro pins s σ H Q I h
 refine Subscript_ (thn (he pins s σ H _ I h) fun v s1 ⟨x,H1,I1,r1,q1⟩=>?_)
 refine wpAny_Slice (thn (hl pins s1 σ H1 _ I1 q1) fun vl s2 ⟨l,H2,I2,pl,q2⟩=>thn (hu pins s2 σ H2 _ I2 q2) fun vu s3 ⟨u,H3,I3,pu,q3⟩=>?_)
 rw[evalPart_none]
 refine wpAny_pure ?_
 have I4:Inv X pins σ H3 { s3 with heap:=s3.heap.push { cls:=.type "slice",data:=.fields #[vl,vu,.none] } }:=I3.kept (t':=s3.toks) fun b ob q=>Heap.get?_push_of_some _ q
 obtain⟨T,id,hT,ht,hg⟩:=hr pins { s3 with heap:=s3.heap.push { cls:=.type "slice",data:=.fields #[vl,vu,.none] } } σ H3 x v vl vu l u s3.heap.objs.size Q I4 r1 (Heap.IsSliceOf.new ..) pl pu q3
 show wpAny (model X.prog X.w) X.A (subscriptTail e (.Slice lo hi none p2) v (.ref s3.heap.objs.size)) (EP X pins σ Q) X.xe { s3 with heap:=s3.heap.push { cls:=.type "slice",data:=.fields #[vl,vu,.none] } }
 exact tail_any (ops:=[.ref s3.heap.objs.size,v]) ht hT hg (by with_unfolding_all rfl)
def cutV (xs:List V) (lo hi:Option Int):List V:=(xs.drop (HT.sIx xs.length 0 lo)).take (HT.sIx xs.length xs.length hi-HT.sIx xs.length 0 lo)
theorem cutV_length (xs:List V) (lo hi:Option Int):(cutV xs lo hi).length≤xs.length:=by
 unfold cutV
 rw[List.length_take,List.length_drop]
 omega
end
end L2
namespace L2
open PySem PySem.Spec PyProof.Rows
def ixN (n:Nat) (i:Int):Option Nat:=if 0≤i then(if i<n then some i.toNat else none) else if -(n:Int)≤i then some (i+n).toNat else none
def atI {α:Type}(xs:List α) (i:Int):Option α:=(ixN xs.length i).bind fun j=>xs[j]?
theorem ixN_seq {n:Nat}{i:Int}{j:Nat}(h:ixN n i=some j):seqIndex? i n=some j∧j<n∧-(n:Int)≤i∧i<n:=by
 unfold ixN at h
 by_cases h0:0≤i
 ·rw[if_pos h0]at h
  by_cases h1:i<n
  ·rw[if_pos h1]at h
   have e:i.toNat=j:=Option.some.inj h
   exact⟨by rw[seqIndex_of h0 h1,e],by omega,by omega,h1⟩
  ·rw[if_neg h1]at h;cases h
 ·rw[if_neg h0]at h
  by_cases h1:-(n:Int)≤i
  ·rw[if_pos h1]at h
   have e:(i+n).toNat=j:=Option.some.inj h
   exact⟨by rw[seqIndex_neg (by omega) h1,e],by omega,h1,by omega⟩
  ·rw[if_neg h1]at h;cases h
theorem atI_get {α:Type}{xs:List α}{i:Int}{v:α}(h:atI xs i=some v):∃j,seqIndex? i xs.length=some j∧xs[j]? = some v∧j<xs.length∧-(xs.length:Int)≤i∧i<xs.length:=by
 unfold atI at h
 cases e:ixN xs.length i with
 | none=>rw[e]at h;cases h
 | some j =>
  rw[e]at h
  obtain⟨h1,h2,h3,h4⟩:=ixN_seq e
  exact⟨j,h1,h,h2,h3,h4⟩
theorem atI_nat {α:Type}{xs:List α}{j:Nat}{v:α}(h:xs[j]? = some v):atI xs (j:Int)=some v:=by
 have hj:j<xs.length:=(List.getElem?_eq_some_iff.mp h).1
 have e:ixN xs.length (j:Int)=some j:=by
  unfold ixN
  rw[if_pos (by omega),if_pos (by omega)];simp
 unfold atI;rw[e];exact h
def PlainIx (b:Expr):Prop:=∀o i,subscripted b false o i=operate [o,i] (getItem o i)
def IxR (X:Cx) (r:R2):Prop :=
 ∀(value slice:Expr) (pins:List (Addr×Obj)) (s:Shared) (σ:St) (H:Hp) (x y:V) (v u:Value) (Q:VK),Inv X pins σ H s→RelV x v→RelV y u→r x y H Q →
  subscripted slice false v u=operate [v,u] (getItem v u)→wpAny (model X.prog X.w) X.A (subscriptTail value slice v u) (EP X pins σ Q) X.xe s
def MtR (X:Cx) (id:String) (r:V→List V→Hp→VK→Prop):Prop :=
 ∀(pins:List (Addr×Obj)) (s:Shared) (σ:St) (H:Hp) (x:V) (xs:List V) (v:Value) (us:List Value) (Q:VK),Inv X pins σ H s→RelV x v→Vals xs us→r x xs H Q →
  wpAny (model X.prog X.w) X.A (call (.builtin id) (v::us)) (EP X pins σ Q) X.xe s
section
variable {X:Cx}{a b:Expr}{ta tb:TE}{pos:Pos}
theorem pe_ix {r:R2}(hr:IxR X r) (ha:PE X a ta) (hb:PE X b tb) (hs:PlainIx b):PE X (.Subscript a b pos) (tOp r ta tb):=by
 intro pins s σ H Q I h
 exact Subscript_ (binT ha hb I h fun v u s2 x y H2 I2 rx ry q=>hr a b pins s2 σ H2 x y v u Q I2 rx ry q (hs _ _))
def rIxL (K:PySem.W.Frag):R2:=fun x y H Q=>∃p xs i v,x = .ref p∧y = .int i∧SqL K H p xs∧atI xs i=some v∧Q v H
def rIxT (K:PySem.W.Frag):R2:=fun x y H Q=>∃p xs i v,x = .ref p∧y = .int i∧SqT K H p xs∧atI xs i=some v∧Q v H
theorem ix_list:IxR X (rIxL X.K):=by
 intro value slice pins s σ H x y v u Q I rx ry h hs
 obtain⟨p,xs,i,z,rfl,rfl,hq,he,q⟩:=h
 cases rx
 obtain⟨t,rfl⟩:=ry
 obtain⟨its,r,pl,hz⟩:=I.list hq
 obtain⟨j,h1,h2,h3,h4,h5⟩:=atI_get he
 obtain⟨w,ew,rw'⟩:=r.get h2
 have hl:=r.length
 have hn:=line63
 have fin:EP X pins σ Q w s:=⟨z,H,I,rw',q⟩
 by_cases h0:0≤i
 ·have hj:i.toNat=j:=by
   rw[seqIndex_of h0 h5]at h1
   exact Option.some.inj h1
  exact item_listR pl.isList h0 (by omega) (by rw[hj];simpa using ew) fin hs
 ·have hj:(i+(its.toArray.size:Int)).toNat=j:=by
   rw[seqIndex_neg (by omega) h4]at h1
   rw[List.size_toArray,← hl]
   exact Option.some.inj h1
  exact subscriptTail_builtinR (x:=w) pl.isList.typeIs slot_list_getitem.lookup
   (wpAny_getItem_list_neg (Q:=fun r s'=>r=w∧EP X pins σ Q r s') pl.isList (by omega) (by rw[List.size_toArray] <;> omega) (by omega) (by rw[hj];simpa using ew) ⟨rfl,fin⟩) hs
theorem ix_tup:IxR X (rIxT X.K):=by
 intro value slice pins s σ H x y v u Q I rx ry h hs
 obtain⟨p,xs,i,z,rfl,rfl,hq,he,q⟩:=h
 cases rx
 obtain⟨t,rfl⟩:=ry
 obtain⟨its,r,pl,hz⟩:=I.tuple hq
 obtain⟨j,h1,h2,h3,h4,h5⟩:=atI_get he
 obtain⟨w,ew,rw'⟩:=r.get h2
 have hl:=r.length
 have hn:=line63
 have fin:EP X pins σ Q w s:=⟨z,H,I,rw',q⟩
 exact subscriptTail_builtinR (x:=w) pl.typeIs slot_tuple_getitem.lookup
  (getItem_tuple (j:=j) (Q:=fun r s'=>r=w∧EP X pins σ Q r s') pl (by omega) (by omega) (by rw[List.size_toArray,← hl];exact h1) (by simpa using ew) ⟨rfl,fin⟩) hs
theorem mapSeq_set (its:List Value) (n j:Nat) (u:Value):Obj.mapSeq (·.setIfInBounds j u) { cls:=.type "list",data:=.seq its.toArray n } = { cls:=.type "list",data:=.seq (its.set j u).toArray n }:=by
 simp[Obj.mapSeq]
theorem Inv.lst {pins:List (Addr×Obj)}{σ:St}{H:Hp}{s:Shared}{p:Addr}{xs:List V}(I:Inv X pins σ H s) (h:H p=some (.lst xs)) :
  ∃(its:List Value) (n:Nat),Vals xs its∧s.heap.get? p=some { cls:=.type "list",data:=.seq its.toArray n }∧xs.length≤sizeLine:=by
 obtain⟨z,its,n,r,e⟩:=I.hok p _ h
 exact⟨its,n,r,e,z⟩
theorem Inv.lstUpd {pins:List (Addr×Obj)}{σ:St}{H:Hp}{s:Shared}{p:Addr}{xs ys:List V}{its its':List Value}{n n':Nat}{f:Obj→Obj}(I:Inv X pins σ H s) (h:H p=some (.lst xs))
  (ho:s.heap.get? p=some { cls:=.type "list",data:=.seq its.toArray n }) (hf:f { cls:=.type "list",data:=.seq its.toArray n } = { cls:=.type "list",data:=.seq its'.toArray n' }) (r:Vals ys its') (hz:ys.length≤sizeLine) (t:Nat) :
  Inv X pins σ (upd H p (.lst ys)) { s with heap:=s.heap.update p f,toks:=t }:=by
 have e:(s.heap.update p f).get? p=some { cls:=.type "list",data:=.seq its'.toArray n' }:=by
  rw[Heap.get?_update_self f ho (by rw[hf] <;> rfl),hf]
 refine I.write (x:=p) (e:=p) (by rw[h];trivial) (.inl rfl) (fun b u hb q=>(Heap.get?_update_other _ _ (Ne.symm hb)).trans q) ⟨_,e⟩ ?_
 exact⟨hz,its',n',r,e⟩
def rSetL:V→V→V→Hp→(Hp→Prop)→Prop:=fun o i v H Q=>∃p xs k j,o = .ref p∧i = .int k∧H p=some (.lst xs)∧ixN xs.length k=some j∧Q (upd H p (.lst (xs.set j v)))
theorem set_list:PSet X rSetL:=by
 intro pins s σ H o i v ov iv u Q I ro ri rv h
 obtain⟨p,xs,k,j,rfl,rfl,hp,hj,q⟩:=h
 cases ro
 obtain⟨t,rfl⟩:=ri
 obtain⟨its,n,r,ho,hz⟩:=I.lst hp
 obtain⟨h1,h2,h3,h4⟩:=ixN_seq hj
 have hl:=r.length
 have hn:=line63
 have I':Inv X pins σ (upd H p (.lst (xs.set j v))) { s with heap:=s.heap.update p (Obj.mapSeq (·.setIfInBounds j u)) } :=
  I.lstUpd hp ho (mapSeq_set its n j u) (r.set rv j) (by rw[List.length_set];exact hz) s.toks
 by_cases h0:0≤k
 ·have hk:k.toNat=j:=by
   rw[seqIndex_of h0 h4]at h1
   exact Option.some.inj h1
  exact PySem.W.ki_setAt ho h0 (by omega) (by rw[List.size_toArray,← hl];exact h4) (by rw[hk];exact⟨_,I',q⟩)
 ·have hk:(k+(its.toArray.size:Int)).toNat=j:=by
   rw[seqIndex_neg (by omega) h3]at h1
   rw[List.size_toArray,← hl]
   exact Option.some.inj h1
  exact PySem.W.ki_setBack ho (by omega) (by rw[List.size_toArray,← hl];exact h3) (by omega) (by rw[hk];exact⟨_,I',q⟩)
theorem slice_bounds (lo hi:Option Int) (n:Nat):(sliceBounds lo hi none n).1 =((HT.sIx n 0 lo:Nat):Int)∧(sliceBounds lo hi none n).2.1 =((HT.sIx n n hi:Nat):Int)∧(sliceBounds lo hi none n).2.2=1:=by
 refine⟨?_,?_,rfl⟩
 ·cases lo with
  | none=>simp[sliceBounds,HT.sIx]
  | some i =>
   simp only[sliceBounds,HT.sIx,Option.getD_none,show(1:Int) > 0 by decide,if_true]
   by_cases h:i<0
   ·simp only[h,if_true] <;> omega
   ·simp only[h,if_false] <;> omega
 ·cases hi with
  | none=>simp[sliceBounds,HT.sIx]
  | some i =>
   simp only[sliceBounds,HT.sIx,Option.getD_none,show(1:Int) > 0 by decide,if_true]
   by_cases h:i<0
   ·simp only[h,if_true] <;> omega
   ·simp only[h,if_false] <;> omega
theorem slicePick_cut (its:List Value) (lo hi:Option Int):slicePick its.toArray lo hi none =((its.drop (HT.sIx its.length 0 lo)).take (HT.sIx its.length its.length hi-HT.sIx its.length 0 lo)).toArray:=by
 obtain⟨h1,h2,h3⟩:=slice_bounds lo hi its.toArray.size
 unfold slicePick
 rw[h1,h2,h3]
 simp only[sliceRange_one,pick_run,List.size_toArray] <;> rfl
def rSlL (K:PySem.W.Frag):V→Option Int→Option Int→Hp→VK→Prop:=fun x lo hi H Q=>∃a xs,x = .ref a∧SqL K H a xs∧∀p,H p=none→Q (.ref p) (upd H p (.lst (cutV xs lo hi)))
theorem sl_list:SlR X (rSlL X.K):=by
 intro pins s σ H x v vl vu lo hi sl Q I rx hs pl pu h
 obtain⟨a,xs,rfl,hx,q⟩:=h
 cases rx
 obtain⟨its,r,ht,hz⟩:=I.list hx
 have hlen:=r.length
 refine⟨"list",_,slot_list_getitem.lookup,ht.isList.typeIs,?_⟩
 refine wpAny_getItem_list_slice ht.isList hs pl pu .none (by simp) ?_ (by rw[List.size_toArray] <;> omega)
 rw[slicePick_cut,← hlen]
 refine⟨.ref s.heap.objs.size,_,I.laid (t':=s.toks) (o:=.lst (cutV xs lo hi)) (fun b ob q=>Heap.get?_push_of_some _ q) (Nat.le_refl _) ?_,rfl,q _ (I.hok.fresh (Nat.le_refl _))⟩
 exact⟨Nat.le_trans (cutV_length xs lo hi) hz,_,0,(r.drop (HT.sIx xs.length 0 lo)).take (HT.sIx xs.length xs.length hi-HT.sIx xs.length 0 lo),Heap.get?_push_size _ rfl⟩
def flatV:V→Bool
 | .non=>true
 | .bl _=>true
 | .int _=>true
 | .str _=>true
 | _=>false
def eqV:V→V→Bool
 | .non,.non=>true
 | .bl a,.bl b=>a == b
 | .bl a,.int b=>(if a then 1 else 0) == b
 | .int a,.bl b=>a ==(if b then 1 else 0)
 | .int a,.int b=>a == b
 | .str a,.str b=>a == b
 | _,_=>false
theorem eqAt_V {A:Around}{s:Shared}{y x:V}{u v:Value}(ry:RelV y u) (rx:RelV x v) (fy:flatV y=true) (fx:flatV x=true):SeqAt.EqAt A s u v (eqV y x):=by
 cases y with
 | non =>
  cases ry
  cases x with
  | non=>cases rx;exact SeqAt.EqAt.same _
  | bl b=>cases rx;exact SeqAt.EqAt.none_bool b
  | int b=>obtain⟨t,rfl⟩:=rx;exact SeqAt.EqAt.none_int b t
  | str b=>obtain⟨t,rfl⟩:=rx;exact SeqAt.EqAt.none_str b t
  | _=>exact absurd (show false=true from fx) Bool.false_ne_true
 | bl a =>
  cases ry
  cases x with
  | non=>cases rx;exact SeqAt.EqAt.bool_none a
  | bl b=>cases rx;exact SeqAt.EqAt.bool_bool a b
  | int b=>obtain⟨t,rfl⟩:=rx;exact SeqAt.EqAt.bool_int a b t
  | str b=>obtain⟨t,rfl⟩:=rx;exact SeqAt.EqAt.bool_str a b t
  | _=>exact absurd (show false=true from fx) Bool.false_ne_true
 | int a =>
  obtain⟨t',rfl⟩:=ry
  cases x with
  | non=>cases rx;exact SeqAt.EqAt.int_none a t'
  | bl b=>cases rx;exact SeqAt.EqAt.int_bool a t' b
  | int b=>obtain⟨t,rfl⟩:=rx;exact SeqAt.EqAt.int_int a t' b t
  | str b=>obtain⟨t,rfl⟩:=rx;exact SeqAt.EqAt.int_str a t' b t
  | _=>exact absurd (show false=true from fx) Bool.false_ne_true
 | str a =>
  obtain⟨t',rfl⟩:=ry
  cases x with
  | non=>cases rx;exact SeqAt.EqAt.str_none a t'
  | bl b=>cases rx;exact SeqAt.EqAt.str_bool a t' b
  | int b=>obtain⟨t,rfl⟩:=rx;exact SeqAt.EqAt.str_int a t' b t
  | str b=>obtain⟨t,rfl⟩:=rx;exact SeqAt.EqAt.str_str a t' b t
  | _=>exact absurd (show false=true from fx) Bool.false_ne_true
 | _=>exact absurd (show false=true from fy) Bool.false_ne_true
def eqU (x:V) (u:Value):Bool:=match u with
 | .none=>eqV .non x
 | .bool b=>eqV (.bl b) x
 | .int i _=>eqV (.int i) x
 | .str z _=>eqV (.str z) x
 | _=>false
theorem eqU_of {x y:V}{u:Value}(r:RelV y u) (f:flatV y=true):eqU x u=eqV y x:=by
 cases y with
 | non=>cases r;rfl
 | bl b=>cases r;rfl
 | int i=>obtain⟨t,rfl⟩:=r;rfl
 | str z=>obtain⟨t,rfl⟩:=r;rfl
 | _=>exact absurd (show false=true from f) Bool.false_ne_true
theorem any_eqU {x:V}:∀{xs:List V}{us:List Value},Vals xs us→xs.all flatV=true→us.any (eqU x)=xs.any fun y=>eqV y x
 | _,_,.nil,_=>rfl
 | y::xs,u::us,.cons r t,f=>by
  rw[List.all_cons,Bool.and_eq_true]at f
  rw[List.any_cons,List.any_cons,eqU_of r f.1,any_eqU t f.2]
theorem mem_eqAt {A:Around}{s:Shared}{x:V}{v:Value}(rx:RelV x v) (fx:flatV x=true):∀{xs:List V}{us:List Value},Vals xs us→xs.all flatV=true→∀u∈us,SeqAt.EqAt A s u v (eqU x u)
 | _,_,.nil,_=>fun u hu=>by cases hu
 | y::xs,u::us,.cons r t,f=>fun u' hu=>by
  rw[List.all_cons,Bool.and_eq_true]at f
  rcases List.mem_cons.mp hu with rfl|hu
  ·rw[eqU_of r f.1];exact eqAt_V r rx f.1 fx
  ·exact mem_eqAt rx fx t f.2 u' hu
def inV (x:V) (xs:List V):Bool:=xs.any fun y=>eqV y x
def rIn (K:PySem.W.Frag) (neg:Bool):R2:=fun x y H Q=>∃p xs,y = .ref p∧(SqL K H p xs∨SqT K H p xs)∧flatV x=true∧xs.all flatV=true∧Q (.bl (if neg then !inV x xs else inV x xs)) H
theorem op_in_seq:OpR X (compareOp .In) (rIn X.K false):=by
 intro pins s σ H x y v u Q I rx ry h
 obtain⟨p,xs,rfl,hq,fx,fs,q⟩:=h
 cases ry
 rcases hq with hq|hq
 ·obtain⟨its,r,pl,hz⟩:=I.list hq
  refine SeqAt.in_listAt (eqU x) pl.isList (fun w hw=>mem_eqAt rx fx r fs w (by simpa using hw)) ⟨.bl _,H,I,rfl,?_⟩
  rw[show its.toArray.any (eqU x)=its.any (eqU x) by simp,any_eqU r fs]
  exact q
 ·obtain⟨its,r,pl,hz⟩:=I.tuple hq
  refine SeqAt.in_tupleAt (eqU x) pl (fun w hw=>mem_eqAt rx fx r fs w (by simpa using hw)) ⟨.bl _,H,I,rfl,?_⟩
  rw[show its.toArray.any (eqU x)=its.any (eqU x) by simp,any_eqU r fs]
  exact q
theorem call_len_seq:CallR X (.builtin "len") (fun xs H Q=>∃p ys,xs=[.ref p]∧(SqL X.K H p ys∨SqT X.K H p ys)∧Q (.int ys.length) H):=by
 intro pins s σ H xs us Q I r h
 obtain⟨p,ys,rfl,hq,q⟩:=h
 obtain⟨u,rfl,rx⟩:=vals1 r
 cases rx
 have hn:=line63
 rcases hq with hq|hq
 ·obtain⟨its,r',pl,hz⟩:=I.list hq
  have hlen:=r'.length
  exact Calls.call_len_list pl.isList (by simp only[List.size_toArray] <;> omega) ⟨.int ys.length,H,I.tok _,⟨s.toks+1,by rw[List.size_toArray,hlen]⟩,q⟩
 ·obtain⟨its,r',pl,hz⟩:=I.tuple hq
  have hlen:=r'.length
  exact len_tuple pl (by simp only[List.size_toArray] <;> omega) ⟨.int ys.length,H,I.tok _,⟨s.toks+1,by rw[List.size_toArray,hlen]⟩,q⟩
theorem call_len_str:CallR X (.builtin "len") (fun xs H Q=>∃z,xs=[.str z]∧z.length≤sizeLine∧Q (.int z.length) H):=by
 intro pins s σ H xs us Q I r h
 obtain⟨z,rfl,hz,q⟩:=h
 obtain⟨u,rfl,t,rfl⟩:=vals1 r
 have hn:=line63
 exact len_str (by omega) ⟨.int z.length,H,I.tok _,⟨_,rfl⟩,q⟩
theorem call_list_of:CallR X (.type "list") (fun xs H Q=>∃p ys,xs=[.ref p]∧(SqL X.K H p ys∨SqT X.K H p ys)∧∀l,H l=none→Q (.ref l) (upd H l (.lst ys))):=by
 intro pins s σ H xs us Q I r h
 obtain⟨p,ys,rfl,hq,q⟩:=h
 obtain⟨u,rfl,rx⟩:=vals1 r
 cases rx
 have fin:∀(its:List Value),Vals ys its→ys.length≤sizeLine→∀(h':Heap) (c':Nat),(∀b o',s.heap.get? b=some o'→h'.get? b=some o') →
   h'.get? s.heap.objs.size=some { cls:=.type "list",dict:=none,data:=.seq its.toArray c',slots:=#[] }→EP X pins σ Q (.ref s.heap.objs.size) { s with heap:=h' }:=fun its r' hz h' c' kp e =>
  ⟨.ref s.heap.objs.size,_,I.laid (t':=s.toks) kp (Nat.le_refl _) (show ObjOk X.prog X.w _ h' _ (.lst ys) from⟨hz,its,c',r',e⟩),rfl,q _ (I.hok.fresh (Nat.le_refl _))⟩
 rcases hq with hq|hq
 ·obtain⟨its,r',pl,hz⟩:=I.list hq
  have hlen:=r'.length
  obtain⟨o,ho,hc,n,hd⟩:=pl.isList
  exact call_list_seq p (.inl rfl) ho hc hd (fun h' c' kp e=>fin its r' hz h' c' kp e) (by simp only[List.size_toArray] <;> omega)
 ·obtain⟨its,r',pl,hz⟩:=I.tuple hq
  have hlen:=r'.length
  obtain⟨o,ho,hc,n,hd⟩:=pl
  exact call_list_seq p (.inr rfl) ho hc hd (fun h' c' kp e=>fin its r' hz h' c' kp e) (by simp only[List.size_toArray] <;> omega)
def tyV (K:PySem.W.Frag) (T:String) (x:V) (H:Hp):Prop:=match x with
 | .str _=>T = "str"
 | .int _=>T = "int"
 | .ref p=>(T = "list"∧∃xs,SqL K H p xs) ∨(T = "tuple"∧∃o,K.lookup p=some o∧o.cls = .type "tuple"∧o.dict=none) ∨
   (T = "dict"∧((∃kvs,H p=some (.dK kvs)) ∨ ∃kvs,H p=some (.dT kvs))) ∨(T = "set"∧∃S n,H p=some (.set S n))
 | _=>False
theorem tyV_is {pins:List (Addr×Obj)}{σ:St}{H:Hp}{s:Shared}{T:String}{x:V}{v:Value}(I:Inv X pins σ H s) (r:RelV x v) (ty:tyV X.K T x H) :
  s.TypeIs v T∧∀a,v = .ref a→∃ob,s.heap.get? a=some ob∧ob.dict=none:=by
 cases x with
 | str z =>
  obtain⟨t,rfl⟩:=r
  cases (show T = "str" from ty)
  exact⟨typeIs_str s z t,fun _ e=>nomatch e⟩
 | int i =>
  obtain⟨t,rfl⟩:=r
  cases (show T = "int" from ty)
  exact⟨typeIs_int s i t,fun _ e=>nomatch e⟩
 | ref p =>
  cases r
  rcases ty with⟨rfl,xs,hq⟩|⟨rfl,o,hk,hc,hd⟩|⟨rfl,hk⟩|⟨rfl,S,n,hk⟩
  ·obtain⟨its,_,pl,_⟩:=I.list hq
   refine⟨pl.isList.typeIs,fun a e=>?_⟩
   cases e
   obtain⟨o,n,e,c,hd,_⟩:=pl
   exact⟨o,e,hd⟩
  ·refine⟨⟨o,I.kIn p o hk,hc⟩,fun a e=>?_⟩
   cases e
   exact⟨o,I.kIn _ o hk,hd⟩
  ·have z:∃o,s.heap.get? p=some o∧o.ExactDict:=by
    rcases hk with⟨kvs,hk⟩|⟨kvs,hk⟩
    ·obtain⟨_,_,_,_,o,_,_,e,ex,_⟩:=I.hok p _ hk
     exact⟨o,e,ex⟩
    ·obtain⟨_,_,_,_,o,_,_,e,ex,_⟩:=I.hok p _ hk
     exact⟨o,e,ex⟩
   obtain⟨o,e,ex⟩:=z
   refine⟨⟨o,e,ex.1⟩,fun a e2=>?_⟩
   cases e2
   exact⟨o,e,ex.2.1⟩
  ·obtain⟨o,_,_,_,e,ex,_⟩:=I.hok p _ hk
   refine⟨⟨o,e,ex.1⟩,fun a e2=>?_⟩
   cases e2
   exact⟨o,e,ex.2.1⟩
 | _=>exact False.elim ty
def tBM0 (K:PySem.W.Frag) (T:String) (r:V→List V→Hp→VK→Prop) (to:TE):TE:=fun σ H Q=>to σ H fun x H1=>tyV K T x H1∧r x [] H1 Q
def tBM (K:PySem.W.Frag) (T:String) (r:V→List V→Hp→VK→Prop) (to:TE) (t:TA):TE:=fun σ H Q=>to σ H fun x H1=>tyV K T x H1∧t σ H1 fun xs H2=>r x xs H2 Q
variable {o e:Expr}{es:List Expr}{to:TE}{t:TA}{name:Str}{apos cpos:Pos}{T id:String}{r:V→List V→Hp→VK→Prop}
theorem pe_bm0 (pa:PlainAttrs T) (slot:Slot T name id) (hty:typeOf (.builtin id)=pure (.type "method_descriptor")) (hm:MtR X id r) (ho:PE X o to)
  (hbase:attributeBase o name X.env (eval o X.env)=eval o X.env:=by rfl) (hline:(apos.endLine == cpos.line)=true:=by rfl):PE X (.Call (.Attribute o name apos) [] [] cpos) (tBM0 X.K T r to):=by
 intro pins s σ H Q I h
 refine wpAny_Call_method0_late hbase hline (thn (ho pins s σ H _ I h) fun v s1 ⟨x,H1,I1,r1,ty,q1⟩=>?_)
 obtain⟨h1,h2⟩:=tyV_is I1 r1 ty
 exact⟨T,id,pa,slot,hty,h1,h2,Calls.callWith_builtin rfl (PySem.evalArgs_none (hm pins s1 σ H1 x [] v [] Q I1 r1 .nil q1))⟩
theorem pe_bm (pa:PlainAttrs T) (slot:Slot T name id) (hty:typeOf (.builtin id)=pure (.type "method_descriptor")) (hm:MtR X id r) (ho:PE X o to) (ha:PA X (e::es) t)
  (hbase:attributeBase o name X.env (eval o X.env)=eval o X.env:=by rfl)
  (hfew:((backTo cpos (starEach (e::es) X.env)).all (fun x=>!x.1) && (backToKw cpos (keywordEach [] X.env)).all (fun x=>x.1.isSome)
   && decide ((e::es).length+([]:List Keyword).length+(if ([]:List Keyword).isEmpty then 0 else 1)<30))=true:=by rfl)
  (hline:(apos.endLine == cpos.line)=true:=by rfl) (hs:starEach (e::es) X.env =(false,eval e X.env)::starEach es X.env:=by rfl) (hplain:(backTo cpos (starEach es X.env)).any (·.1)=false:=by rfl) :
  PE X (.Call (.Attribute o name apos) (e::es) [] cpos) (tBM X.K T r to t):=by
 intro pins s σ H Q I h
 refine wpAny_Call_method_late hbase hfew hline rfl (thn (ho pins s σ H _ I h) fun v s1 ⟨x,H1,I1,r1,ty,q1⟩=>?_)
 obtain⟨h1,h2⟩:=tyV_is I1 r1 ty
 refine⟨T,id,pa,slot,hty,h1,h2,?_⟩
 have hA:=ha cpos pins s1 σ H1 _ I1 q1
 rw[hs]at hA ⊢
 refine Calls.callWith_builtin (by show(false || (backTo cpos (starEach es X.env)).any (·.1))=false;rw[hplain] <;> rfl) (Calls.evalArgs_plain ?_)
 exact thn hA fun us s2 ⟨vs,H2,I2,r2,q2⟩=>hm pins s2 σ H2 x vs v us Q I2 r1 r2 q2
end
end L2
namespace L2
open PySem PySem.Spec PyProof.Rows
def MtM (X:Cx) (id:String) (r:V→List V→Hp→VK→Prop):Prop :=
 ∀(pins:List (Addr×Obj)) (s:Shared) (σ:St) (H:Hp) (x:V) (xs:List V) (v:Value) (us:List Value) (Q:VK),Inv X pins σ H s→RelV x v→Vals xs us→r x xs H Q →
  wpAny (model X.prog X.w) X.A (call (.builtin id) (v::us)) (EP X pins σ Q) X.xe s
theorem Vals.one:∀{x:V}{us:List Value},Vals [x] us→∃u,us=[u]∧RelV x u
 | _,_,.cons r .nil=>⟨_,rfl,r⟩
theorem Vals.dropLast {xs:List V}{us:List Value}(h:Vals xs us):Vals xs.dropLast us.dropLast:=by
 induction h with
 | nil=>exact .nil
 | cons r t ih =>
  cases t with
  | nil=>exact .nil
  | cons q t'=>exact .cons r ih
theorem Vals.rep {xs:List V}{us:List Value}(h:Vals xs us):∀k:Nat,Vals (List.replicate k xs).flatten (List.replicate k us).flatten
 | 0=>.nil
 | k+1=>by
  rw[List.replicate_succ,List.replicate_succ,List.flatten_cons,List.flatten_cons]
  exact Vals.append h (Vals.rep h k)
theorem erase_last {α:Type}(l:List α):l.eraseIdx (l.length-1)=l.dropLast:=by
 induction l with
 | nil=>rfl
 | cons a r ih =>
  cases r with
  | nil=>rfl
  | cons b r =>
   have e:(a::b::r).length-1 =((b::r).length-1)+1:=by
    have h1:(a::b::r).length=r.length+2:=rfl
    have h2:(b::r).length=r.length+1:=rfl
    omega
   rw[e,List.eraseIdx_cons_succ,ih]
   all_goals rfl
theorem foldl_rep (its:List Value):∀(k:Nat) (acc:List Value),
  List.foldl (fun x1 x2=>x1++x2) acc.toArray (List.replicate k its.toArray) =(acc++(List.replicate k its).flatten).toArray
 | 0,acc=>by simp
 | k+1,acc=>by
  have e:acc.toArray++its.toArray =(acc++its).toArray:=by simp
  have e2:(acc++its)++(List.replicate k its).flatten=acc++(List.replicate (k+1) its).flatten:=by
   rw[List.replicate_succ,List.flatten_cons,List.append_assoc]
  rw[← e2,← foldl_rep its k (acc++its),← e,List.replicate_succ,List.foldl_cons]
section
variable {X:Cx}{pins:List (Addr×Obj)}{σ:St}{H:Hp}{s:Shared}{l b:Addr}{xs ys zs:List V}
theorem Inv.lset {its its':List Value}{n:Nat}{f:Array Value→Array Value}{t':Nat}(I:Inv X pins σ H s) (hH:H l=some (.lst xs))
  (e:s.heap.get? l=some { cls:=.type "list",data:=.seq its.toArray n }) (hf:f its.toArray=its'.toArray) (hv:Vals ys its') (hz:ys.length≤sizeLine) :
  Inv X pins σ (upd H l (.lst ys)) { s with heap:=s.heap.update l (Obj.mapSeq f),toks:=t' }:=by
 have q:=PySem.IsL.update e f
 rw[hf]at q
 refine I.write (x:=l) (e:=l) (by rw[hH];exact trivial) (.inl rfl) (fun b' u hb hu=>(Heap.get?_update_other s.heap (Obj.mapSeq f) (Ne.symm hb)).trans hu) ⟨_,q⟩ ?_
 exact⟨hz,its',_,hv,q⟩
theorem Inv.lnew {its:List Value}{t':Nat}(I:Inv X pins σ H s) (hv:Vals ys its) (hz:ys.length≤sizeLine) :
  Inv X pins σ (upd H s.heap.objs.size (.lst ys)) { s with heap:=s.heap.push { cls:=.type "list",data:=.seq its.toArray },toks:=t' } :=
 I.laid (fun _ _ q=>Heap.get?_push_of_some _ q) (Nat.le_refl _) ⟨hz,its,0,hv,Heap.get?_push_size _ rfl⟩
theorem Inv.fresh (I:Inv X pins σ H s):H s.heap.objs.size=none:=I.hok.fresh (Nat.le_refl _)
theorem Inv.lstM (I:Inv X pins σ H s) (hH:H l=some (.lst xs)):xs.length≤sizeLine∧∃(its:List Value) (n:Nat),Vals xs its∧xs.length=its.length∧s.heap.get? l=some { cls:=.type "list",data:=.seq its.toArray n }:=by
 obtain⟨z,its,n,r,e⟩:=I.hok l _ hH
 exact⟨z,its,n,r,r.length,e⟩
theorem notLongL {n:Nat}(h:n≤sizeLine):Builtin.List.listTooLong n=false:=by
 unfold Builtin.List.listTooLong
 exact decide_eq_false (by omega)
end
section
variable {X:Cx}
def rAppend:V→List V→Hp→VK→Prop:=fun x vs H Q=>∃l xs y,x = .ref l∧vs=[y]∧H l=some (.lst xs)∧xs.length<sizeLine∧Q .non (upd H l (.lst (xs ++ [y])))
theorem mt_append:MtM X "list.append" rAppend:=by
 intro pins s σ H x vs v us Q I rx rv h
 obtain⟨l,xs,y,rfl,rfl,hH,hz,q⟩:=h
 cases rx
 obtain⟨u,rfl,ru⟩:=rv.one
 obtain⟨z,its,n,r,hl,e⟩:=I.lstM hH
 refine call_meets F.slot_list_append ⟨_,e,rfl⟩ F.entry_list_append (F.args_list_append_2 _ _) (PySem.list_append l its.toArray n u (by rw[List.size_toArray];omega)) ⟨e,?_⟩
 refine⟨.non,_,I.lset (its':=its ++ [u]) hH e (by simp) (r.append (.cons ru .nil)) ?_,rfl,q⟩
 rw[List.length_append,List.length_singleton]
 omega
def rExtend:V→List V→Hp→VK→Prop:=fun x vs H Q=>∃l b xs zs,x = .ref l∧vs=[.ref b]∧H l=some (.lst xs)∧H b=some (.lst zs)∧xs.length+zs.length≤sizeLine∧Q .non (upd H l (.lst (xs++zs)))
theorem mt_extend:MtM X "list.extend" rExtend:=by
 intro pins s σ H x vs v us Q I rx rv h
 obtain⟨l,b,xs,zs,rfl,rfl,hH,hB,hz,q⟩:=h
 cases rx
 obtain⟨u,rfl,ru⟩:=rv.one
 cases ru
 obtain⟨z,its,n,r,hl,e⟩:=I.lstM hH
 obtain⟨z2,its2,n2,r2,hl2,e2⟩:=I.lstM hB
 have hsz:its.toArray.size+its2.toArray.size≤sizeLine:=by rw[List.size_toArray,List.size_toArray];omega
 have hlong:¬(!its.toArray.isEmpty && Builtin.List.listTooLong (its.toArray.size+its2.toArray.size))=true:=by
  rw[notLongL hsz,Bool.and_false]
  exact Bool.false_ne_true
 refine call_meets F.slot_list_extend ⟨_,e,rfl⟩ F.entry_list_extend (F.args_list_extend_2 _ _)
  (AutoSeq1.list_extend_list_list_0 l its.toArray n b its2.toArray n2 hlong (by rw[List.size_toArray];omega) (by omega)) ⟨e,e2,?_⟩
 refine⟨.non,_,I.lset (its':=its++its2) hH e (by simp) (r.append r2) ?_,rfl,q⟩
 rw[List.length_append]
 omega
def rCat:R2:=fun x y H Q=>∃l b xs zs,x = .ref l∧y = .ref b∧H l=some (.lst xs)∧H b=some (.lst zs)∧xs.length+zs.length≤sizeLine∧∀p,H p=none→Q (.ref p) (upd H p (.lst (xs++zs)))
theorem op_cat:OpR X (binaryOp .Add) rCat:=by
 intro pins s σ H x y v u Q I rx ry h
 obtain⟨l,b,xs,zs,rfl,rfl,hH,hB,hz,q⟩:=h
 cases rx
 cases ry
 obtain⟨z,its,n,r,hl,e⟩:=I.lstM hH
 obtain⟨z2,its2,n2,r2,hl2,e2⟩:=I.lstM hB
 refine PySem.P.add_list e e2 ?_ (by rw[List.size_toArray,List.size_toArray];omega)
 have ea:its.toArray++its2.toArray =(its++its2).toArray:=by simp
 rw[ea]
 exact⟨.ref _,_,I.lnew (t':=s.toks) (r.append r2) (by rw[List.length_append];omega),rfl,q _ I.fresh⟩
def rRep:R2:=fun x y H Q=>∃l k xs,x = .ref l∧y = .int k∧H l=some (.lst xs)∧-(2^63)≤k∧k<2^63∧xs.length*k.toNat≤sizeLine ∧
 ∀p,H p=none→Q (.ref p) (upd H p (.lst (List.replicate k.toNat xs).flatten))
theorem len_rep {α:Type}(xs:List α) (k:Nat):(List.replicate k xs).flatten.length=k*xs.length:=by
 induction k with
 | zero=>simp
 | succ k ih=>rw[List.replicate_succ,List.flatten_cons,List.length_append,ih,Nat.succ_mul,Nat.add_comm]
theorem op_rep:OpR X (binaryOp .Mult) rRep:=by
 intro pins s σ H x y v u Q I rx ry h
 obtain⟨l,k,xs,rfl,rfl,hH,h1,h2,hz,q⟩:=h
 cases rx
 obtain⟨t,rfl⟩:=ry
 obtain⟨z,its,n,r,hl,e⟩:=I.lstM hH
 have hlen:its.toArray.size*k.toNat≤sizeLine:=by rw[List.size_toArray,← hl];exact hz
 have hcap:¬ its.toArray.size*k.toNat > (2^63-1) / 8:=by
  have:(sizeLine:Nat) ≤(2^63-1) / 8:=by decide
  omega
 have hfit:¬(!Builtin.List.listFitsIndex k)=true:=by
  rw[fitsIndex_both h1 h2]
  exact Bool.false_ne_true
 have hlong:¬ Builtin.List.listTooLong (its.toArray.size*k.toNat)=true:=by
  rw[notLongL hlen]
  exact Bool.false_ne_true
 have hnew:List.foldl (fun x1 x2=>x1++x2) #[] (List.replicate (if its.toArray.isEmpty=true then 0 else k.toNat) its.toArray) =(List.replicate k.toNat its).flatten.toArray:=by
  have f0:∀m:Nat,List.foldl (fun x1 x2=>x1++x2) #[] (List.replicate m its.toArray) =(List.replicate m its).flatten.toArray:=fun m=>by
   have:=foldl_rep its m []
   rw[List.nil_append]at this
   exact this
  rw[f0]
  cases its with
  | nil=>simp
  | cons a r'=>rw[if_neg (by simp)]
 refine wpAny_binaryOp_repeat_ref (T := "list") (U := "int") (by decide) ⟨_,e,rfl⟩ (fun s'=>typeIs_int s' k t) noFill_list_mul F.fills_int_mul F.slot_int_rmul repeat_list F.slot_int_index.lookup
  (call_meets F.slot_int_rmul (typeIs_int s k t) F.entry_int_rmul (F.args_int_rmul_2 _ _) (int___rmul___int_list k t l its.toArray n)
   ⟨e,rfl,⟨_,e,rfl⟩,call_meets F.slot_list_mul ⟨_,e,rfl⟩ F.entry_list_mul (F.args_list_mul_2 _ _) (AutoListH.list___mul___list_int_3 l its.toArray n k t hfit hcap hlong) ⟨e,?_⟩⟩)
 rw[hnew]
 exact⟨.ref _,_,I.lnew (t':=s.toks) (r.rep k.toNat) (by rw[len_rep,Nat.mul_comm];exact hz),rfl,q _ I.fresh⟩
end
section
variable {prog:Program}{w:World}{A:Around}{E:Value→Shared→Prop}{s:Shared}
end
section
variable {X:Cx}
end
end L2
namespace Att
open PySem PySem.W PySem.Calls PyProof.Rows
theorem ints_of_wellAll {P:Params}{h:Heap}:∀(ns:List Int) (vs:List Value),WellAll P h vs (ns.map WData.int)→IntsAre vs ns:=by
 intro ns
 induction ns with
 | nil =>
  intro vs w
  rw[List.map_nil]at w
  cases w
  exact .nil
 | cons n ns ih =>
  intro vs w
  rw[List.map_cons]at w
  cases w with
  | cons a b =>
   cases a
   exact .cons _ _ (ih _ b)
theorem script_of {l:OpenLaw}{n:Nat}(hn:l.most=some n) {P:Params}{h:Heap}{args:List WData}{vals:List Value}
  (hpre:l.row.toRowW.claim.pre args=true) (hwl:WellAll P h vals args) :
  ∃a vs ns,vals=[Value.ref a]∧args=[WData.list (ns.map WData.int)]∧h.get? a=some { cls:=.type "list",data:=.seq vs.toArray }∧IntsAre vs ns∧ns.length≤n:=by
 have hsh:WShape.hasAll [] args [.list .int]=true:=(pre_splitW hpre).1
 have hc:l.pre.holds [] { args:=args } = true:=(pre_splitW hpre).2
 obtain⟨d,r,rfl,h1,h2⟩:=hasAllW_cons hsh
 obtain rfl:=hasAllW_nil h2
 obtain⟨xs,rfl,h3⟩:=hasW_list h1
 obtain⟨ns,rfl⟩:=items_int h3
 have hlen:ns.length≤n:=by
  unfold OpenLaw.pre at hc
  have h4:(WTm.not (.lt (.lit (.int (n:Int))) (.len (.arg 0)))).holds [] { args:=[.list (ns.map .int)] } = true:=by
   have h4:=(holds_andW hc).1
   rw[hn]at h4
   exact h4
  have h5:=condW_of h4 (w_not (w_lt w_lit (w_len_list (w_arg rfl))))
  rw[List.length_map]at h5
  refine Nat.le_of_not_lt fun q=>?_
  have q':(n:Int) <((ns.length:Nat):Int):=by omega
  first
   | (rw[decide_eq_true q']at h5;exact absurd h5 (by decide))
   | (simp at h5;omega)
 cases hwl with
 | cons w1 w2 =>
  cases w2
  cases w1 with
  | list ho hall=>exact⟨_,_,ns,rfl,rfl,ho,ints_of_wellAll ns _ hall,hlen⟩
theorem post_true (l:OpenLaw) (args:List WData):l.row.toRowW.claim.post args (.bool true) args=true :=
 postW_of (r:=l.row.toRowW) (X:=(true == true))
  (show WShape.has [] (.bool true) .bool=true by first|rfl|decide|simp[WShape.has,WShape.arms,WShape.armsAll])
  (show(WTm.eq .res (.lit (.bool true))).value [] { args:=args,res:=some (.bool true),after:=args } = some (.bool (true == true)) from w_eq_bool (w_res rfl) w_lit) rfl
theorem attach_call {l:OpenLaw}{n:Nat}{q:Program}{loose:List Str}{XP:(Str→Option Value)→Heap→Prop}{YP:World→Heap→Prop}{d:DefRec}
  (hn:l.most=some n) (hdf:d.params.defaults=[])
  (call:∀(w:World) (s₀ s₁:Shared) (mg mb:Str→Option Value) (fa:Addr) (o:Obj) (pm cd doc:Value) (a:Addr) (vs:List Value) (ns:List Int),
   Ground q loose [] XP w s₀ mg mb s₁.heap→YP w s₁.heap →
   s₁.heap.get? fa=some o→o.data = .func (docDef d.name d.params d.body d.scope pm cd doc)→s₁.heap.CodeRec cd d.name→mg d.name=some (.ref fa) →
   s₁.heap.get? a=some { cls:=.type "list",data:=.seq vs.toArray }→IntsAre vs ns→ns.length≤n→s₁.gens = #[] →
   codeAny (model l.prog w) callerA (.call (.ref fa) ⟨[.ref a],[]⟩) (fun r s'=>r = .ok (.ret (.bool true))∧OldK s₁.heap s'.heap∧s'.os=s₁.os∧AllBare s'.gens) s₁) :
  WalkO q loose XP YP l.row.toRowW d [] (fun f vs=>PySem.call f vs):=by
 intro w s₀ s₁ mg mb G Y fa o pm cd doc dV kV ho hd hcd hD hmg hg args vals as hpre hlay hrd hwl hlo
 obtain rfl:dV = .none:=Dflts.none hD hdf
 obtain rfl:kV = .none:=Dflts.noKw hD
 obtain⟨a,vs,ns,rfl,rfl,hobj,hints,hlen⟩:=script_of hn hpre hwl
 refine enter_call (codeAny_mono (call w s₀ s₁ mg mb fa o pm cd doc a vs ns G Y ho (fd_plain hd) hcd hmg hobj hints hlen hg) fun r s' hq=>?_)
 obtain⟨rfl,h2,h3,h4⟩:=hq
 exact⟨.inl ⟨.bool true,.bool true,[],rfl,fun _=>rfl,.bool true,post_true l _,fun _=>⟨List.Pairwise.nil,fun _ hm=>(nomatch hm)⟩⟩,h2,h3,h4⟩
section
variable {prog:Program}{w:World}{A:Around}{E:Value→Shared→Prop}{s:Shared}{K:Frag}
end
end Att
namespace L2
open PySem PySem.Spec PyProof.Rows
theorem vals_ints:∀{vs:List Value}{ns:List Int},IntsAre vs ns→Vals (ns.map V.int) vs
 | _,_,.nil=>.nil
 | _,_,.cons n t h=>.cons ⟨t,rfl⟩ (vals_ints h)
end L2
namespace L2
open PySem PySem.Spec PyProof.Rows
end L2
namespace L2
open PySem PySem.Spec PyProof.Rows
def inClass (s:Stmt) (j:Nat):Stmt:=match s with
 | .ClassDef _ _ _ body _ _ _ _ _ _ _=>body.getD j (.Pass ⟨0,0,0,0⟩)
 | _=>.Pass ⟨0,0,0,0⟩
def defArgs (s:Stmt):Arguments:=match s with
 | .FunctionDef _ a _ _ _ _ _ _ _ _=>a
 | _=>{ posonlyargs:=[],args:=[],vararg:=none,kwonlyargs:=[],kw_defaults:=[],kwarg:=none,defaults:=[] }
def defBody (s:Stmt):List Stmt:=match s with
 | .FunctionDef _ _ b _ _ _ _ _ _ _=>b
 | _=>[]
def defScope (s:Stmt):Scope:=match s with
 | .FunctionDef _ _ _ _ _ _ sc _ _ _=>sc
 | _=>{ kind:=.function,names:=[],isGenerator:=false,isCoroutine:=false }
abbrev CX0:CXT:=fun _ _ _ _ _ _=>False
abbrev E0:XK:=fun _ _ _=>False
theorem pass0 {X:Cx}:Passes CX0 X E0:=fun _ _ _ _ _ _ _ h=>h.elim
structure Fun (K:PySem.W.Frag) (x qual:Str) (st:Stmt) (f:Addr) (fd:FuncData):Prop where
 ex:∃(oc:Value) (od:Option Addr) (kV doc pm:Value) (an:Option Addr) (cdv ct:Value) (osl:Array (Option Value)),
  fd=PySem.W.fnOf x qual (defArgs st) (defBody st) (defScope st) .none kV doc pm an cdv ct∧K.lookup f=some ⟨oc,od,.func fd,osl⟩∧PySem.W.codeIn K cdv qual=true
 kp:PySem.W.keepIn K (.ref f)=true
section
variable {P:Program}{w:World}{K:PySem.W.Frag}{mg:Str→Option Value}{base:Heap}
theorem Fun.ok {x qual:Str}{st:Stmt}{f:Addr}{fd:FuncData}{N ps:List Str}{k:Nat}{sp:Sp}(F:Fun K x qual st f fd) (S:FnScope N ps (defScope st)) (len:∀vs H Q E,sp vs H Q E→vs.length=ps.length)
  (hbody:∀(cdv:Value) (A:Around) (outer:List Env) (s:Shared) (H:Hp) (vs:List V) (Q:VK) (E:XK),Room k (A.deeper (envOfC qual (defScope st) s.heap.objs.size f cdv))→sp vs H Q E →
   ∃t,PSs (cxOf CX0 P w K mg base N qual (defScope st) f cdv A outer s H E).nox (defBody st) t∧t { nx:=fun _ H'=>Q .non H',rt:=Q } (start N vs) H):FnOk P w K mg base CX0 (k+1) f fd ps sp:=by
 obtain⟨oc,od,kV,doc,pm,an,cdv,ct,osl,rfl,lk,hcd⟩:=F.ex
 refine fn_of lk hcd S len fun A outer s H vs Q E hr hsp=>?_
 obtain⟨t,h,q⟩:=hbody cdv A outer s H vs Q E hr hsp
 exact⟨t,h.nox,q⟩
theorem Fun.binds {x qual:Str}{st:Stmt}{f:Addr}{fd:FuncData}{ps:List Str}(F:Fun K x qual st f fd)
  (h:∀(kV doc pm:Value) (an:Option Addr) (cdv ct:Value) (us:List Value),us.length=ps.length→bindArgs (PySem.W.fnOf x qual (defArgs st) (defBody st) (defScope st) .none kV doc pm an cdv ct) ⟨us,[]⟩=pure (ps.zip us)):Binds K fd ps []:=by
 obtain⟨oc,od,kV,doc,pm,an,cdv,ct,osl,rfl,lk,hcd⟩:=F.ex
 exact .all (h kV doc pm an cdv ct)
theorem fun_mk {x qual:Str}{st:Stmt}{f:Addr}{oc:Value}{od an:Option Addr}{osl:Array (Option Value)}{kV doc pm cdv ct:Value}(l:K.lookup f=some ⟨oc,od,.func (PySem.W.fnOf x qual (defArgs st) (defBody st) (defScope st) .none kV doc pm an cdv ct),osl⟩)
  (c:PySem.W.codeIn K cdv qual=true) (k:PySem.W.keepIn K (.ref f)=true):Fun K x qual st f (PySem.W.fnOf x qual (defArgs st) (defBody st) (defScope st) .none kV doc pm an cdv ct):=⟨⟨oc,od,kV,doc,pm,an,cdv,ct,osl,rfl,l,c⟩,k⟩
end
theorem hu_of {A:Around}{k:Nat}(hr:Room k A):A.units+1<cLine:=Nat.lt_of_le_of_lt (Nat.add_le_add_left (by decide:1≤64) _) hr.units
theorem small1000 {n:Nat}(h:n≤1000):n<sizeLine:=Nat.lt_of_le_of_lt h (by decide)
section
variable {X:Cx}
theorem pv (i:Nat) {x:Str}{pos:Pos}(hN:X.N[i]? = some x:=by rfl) (hv:Vis X.env.scope x:=by first|exact Or.inl rfl|exact Or.inr (Or.inl rfl)|exact Or.inr (Or.inr rfl)) (hd:(x ==("__debug__" : Str))=false:=by decide)
  (hcd:(x ==("__classdict__" : Str))=false:=by decide):PE X (.Name x pos) (tVar i):=pe_var hN hv hd hcd
end
theorem iteF {A B:Prop}(h:B):if false=true then A else B:=by
 rw[if_neg Bool.false_ne_true]
 exact h
theorem iteT {A B:Prop}(h:A):if true=true then A else B:=by
 rw[if_pos rfl]
 exact h
def Same (H H':Hp):Prop:=∀b o,H b=some o→H' b=some o
theorem Same.refl (H:Hp):Same H H:=fun _ _ h=>h
theorem Same.trans {H H1 H2:Hp}(a:Same H H1) (b:Same H1 H2):Same H H2:=fun c o h=>b c o (a c o h)
theorem Same.free {H H':Hp}(e:Same H H') {l:Addr}(h:H' l=Option.none):H l=Option.none:=by
 cases q:H l with
 | none=>rfl
 | some o =>
  rw[e l o q]at h
  cases h
theorem Same.seq {K:PySem.W.Frag}{H H':Hp}{a:Addr}{xs:List V}(e:Same H H') (h:SqL K H a xs):SqL K H' a xs:=by
 rcases h with(h|⟨o,h⟩)|h
 ·exact .inl (.inl (e _ _ h))
 ·exact .inl (.inr ⟨o,e _ _ h⟩)
 ·exact .inr h
end L2
namespace L2
open PySem PySem.Spec PyProof.Rows
def clOf (env:Env):List (Str×NameKind)→List (Str×Addr)→List (Str×Addr)
 | [],cs=>cs
 | (n,k)::r,cs=>clOf env r (if k == .free then(n,(env.cells.lookup n).getD 0)::cs else cs)
def clStep (env:Env) (x:Str×NameKind) (s:List (Str×Addr)):Sem (ForInStep (List (Str×Addr))):=if (x.2 == NameKind.free)=true then cellOf env x.1 >>= fun c=>pure (ForInStep.yield ((x.1,c)::s)) else pure (ForInStep.yield s)
theorem clStep_run {env:Env}:∀{ns:List (Str×NameKind)}(cs:List (Str×Addr)),(∀y∈ns,y.2 = .free→∃c,env.cells.lookup y.1=some c)→(forIn ns cs (clStep env):Sem (List (Str×Addr)))=pure (clOf env ns cs)
 | [],cs,_=>rfl
 | (n,k)::r,cs,h=>by
  rw[List.forIn_cons]
  have hr:∀y∈r,y.2 = .free→∃c,env.cells.lookup y.1=some c:=fun z hz=>h z (List.mem_cons_of_mem _ hz)
  cases hk:(k == NameKind.free) with
  | false =>
   have e1:clStep env (n,k) cs=pure (ForInStep.yield cs):=by
    unfold clStep
    exact if_neg (by rw[show(n,k).2=k from rfl,hk];decide)
   rw[e1,pure_bind]
   show forIn r cs (clStep env)=_
   rw[clStep_run cs hr]
   show pure (clOf env r cs)=pure (clOf env r (if (k == NameKind.free)=true then(n,(List.lookup n env.cells).getD 0)::cs else cs))
   rw[hk]
   rfl
  | true =>
   have hk':k = .free:=by simpa using hk
   obtain⟨c,hc⟩:=h (n,k) List.mem_cons_self hk'
   have hc':env.cells.lookup n=some c:=hc
   have q:cellOf env n=pure c:=by unfold cellOf;rw[hc']
   have e1:clStep env (n,k) cs=pure (ForInStep.yield ((n,c)::cs)):=by
    unfold clStep
    rw[if_pos (by rw[show(n,k).2=k from rfl,hk]),show(n,k).1=n from rfl,q,pure_bind]
   rw[e1,pure_bind]
   show forIn r ((n,c)::cs) (clStep env)=_
   rw[clStep_run _ hr]
   show pure (clOf env r ((n,c)::cs))=pure (clOf env r (if (k == NameKind.free)=true then(n,(List.lookup n env.cells).getD 0)::cs else cs))
   rw[hk,hc']
   rfl
theorem closure_eq {scope:Scope}{env:Env}(h:∀y∈scope.names,y.2 = .free→∃c,env.cells.lookup y.1=some c):closureFor scope env=pure (clOf env scope.names []):=by
 show(forIn scope.names ([]:List (Str×Addr)) (clStep env) >>= fun s=>(pure s:Sem (List (Str×Addr))))=_
 rw[clStep_run [] h,pure_bind]
theorem clOf_sound {env:Env}{n:Str}{c:Addr}:∀{ns:List (Str×NameKind)}{cs:List (Str×Addr)},(∀y∈ns,y.2 = .free→∃c,env.cells.lookup y.1=some c)→(∀p∈cs,env.cells.lookup p.1=some p.2)→(clOf env ns cs).lookup n=some c→env.cells.lookup n=some c
 | [],cs,_,hc,h=>hc _ (PySem.mem_of_lookup h)
 | (m,k)::r,cs,hn,hc,h=>by
  unfold clOf at h
  refine clOf_sound (fun y hy=>hn y (List.mem_cons_of_mem _ hy)) ?_ h
  intro p hp
  split at hp
  ·rename_i hk
   have hk':k = .free:=by simpa using hk
   obtain⟨c',hc'⟩:=hn (m,k) List.mem_cons_self hk'
   have hc2:env.cells.lookup m=some c':=hc'
   rw[hc2]at hp
   rcases List.mem_cons.mp hp with rfl|hp
   ·exact hc2
   ·exact hc p hp
  ·exact hc p hp
theorem lookup_mono_isSome {n:Str}:∀{cs:List (Str×Addr)},(∃c,(n,c)∈cs)→∃c,cs.lookup n=some c
 | [],⟨_,h⟩=>absurd h (by simp)
 | (m,d)::r,⟨c,h⟩=>by
  rw[List.lookup_cons]
  by_cases e:n=m
  ·subst e;exact⟨d,by simp⟩
  ·have:(n == m)=false:=beq_eq_false_iff_ne.mpr e
   rw[this]
   rcases List.mem_cons.mp h with z|z
   ·cases z;exact absurd rfl e
   ·exact lookup_mono_isSome ⟨c,z⟩
theorem clOf_keeps {env:Env}{p:Str×Addr}:∀{ns:List (Str×NameKind)}{cs:List (Str×Addr)},p∈cs→p∈clOf env ns cs
 | [],_,h=>h
 | (m,k)::r,cs,h=>by
  unfold clOf
  refine clOf_keeps ?_
  split
  ·exact List.mem_cons_of_mem _ h
  ·exact h
theorem clOf_has {env:Env}{n:Str}:∀{ns:List (Str×NameKind)}{cs:List (Str×Addr)},(n,NameKind.free)∈ns→∃c,(n,c)∈clOf env ns cs
 | [],_,h=>absurd h (by simp)
 | (m,k)::r,cs,h=>by
  unfold clOf
  rcases List.mem_cons.mp h with z|z
  ·cases z
   exact⟨(env.cells.lookup n).getD 0,clOf_keeps (by simp)⟩
  ·exact clOf_has z
def cxBlk (X:Cx) (scope:Scope) (N:List Str) (C:Addr) (s:Shared) (H:Hp) (ex:List Addr):Cx :=
 { X with N:=N,s₀:=s,H₀:=H,env:=compEnvC scope (clOf X.env scope.names []) C X.env,outer:=X.stack,ex:=ex,fn:=fun _=>false,pn:=[],xe:=fun _ _=>False }
structure BlkOk (X:Cx) (scope:Scope) (vs fs:List Str) (js:List Nat):Prop where
 kind:scope.kind = .function
 cell:∀y∈scope.names,y.2 ≠ .cell
 names:∀y∈scope.names,y.2 = .local→scope.names.lookup y.1=some .local
 free:∀y∈scope.names,y.2 = .free→X.env.kindOf y.1=some .cell∨X.env.kindOf y.1=some .free
 own:∀y∈vs,scope.names.lookup y=some .local
 cap:∀y∈fs,scope.names.lookup y=some .free
 ix:js.map (fun j=>X.N[j]?)=fs.map some
def blkSt (vs:List Str) (js:List Nat) (σ:St):St:=vs.map (fun _=>none)++js.map (fun j=>(σ[j]?).join)
theorem lookup_relabel_free {env:Env}{names:List (Str×NameKind)}{x:Str}(h:names.lookup x=some .free) :
  (names.map fun(n,k)=>if (k == NameKind.free && env.scope.kind == .function && env.kindOf n == some .cell) then(n,NameKind.cell) else(n,k)).lookup x=some .cell ∨
  (names.map fun(n,k)=>if (k == NameKind.free && env.scope.kind == .function && env.kindOf n == some .cell) then(n,NameKind.cell) else(n,k)).lookup x=some .free:=by
 induction names with
 | nil=>cases h
 | cons y r ih =>
  obtain⟨n,k⟩:=y
  rw[List.map_cons]
  show List.lookup x ((if (k == NameKind.free && env.scope.kind == .function && env.kindOf n == some .cell)=true then(n,NameKind.cell) else(n,k))::_)=_∨List.lookup x ((if (k == NameKind.free && env.scope.kind == .function && env.kindOf n == some .cell)=true then(n,NameKind.cell) else(n,k))::_)=_
  rw[List.lookup_cons]at h
  cases e:x == n with
  | true =>
   rw[e]at h
   have h':k = .free:=by simpa using h
   subst h'
   split
   ·left;rw[List.lookup_cons,e]
   ·right;rw[List.lookup_cons,e]
  | false =>
   rw[e]at h
   have h':=ih h
   split
   ·rw[List.lookup_cons,e];exact h'
   ·rw[List.lookup_cons,e];exact h'
theorem relabel_back {env:Env}{names:List (Str×NameKind)}{x:Str}{kk:NameKind}
  (h:(names.map fun(n,k)=>if (k == NameKind.free && env.scope.kind == .function && env.kindOf n == some .cell) then(n,NameKind.cell) else(n,k)).lookup x=some kk) :
  (kk = .cell∧(x,NameKind.free)∈names) ∨(x,kk)∈names:=by
 induction names with
 | nil=>cases h
 | cons y r ih =>
  obtain⟨n,k⟩:=y
  rw[List.map_cons]at h
  have h2:List.lookup x ((if (k == NameKind.free && env.scope.kind == .function && env.kindOf n == some .cell)=true then(n,NameKind.cell) else(n,k))::(r.map fun(n,k)=>if (k == NameKind.free && env.scope.kind == .function && env.kindOf n == some .cell) then(n,NameKind.cell) else(n,k)))=some kk:=h
  cases e:x == n with
  | true =>
   have e':x=n:=by simpa using e
   subst e'
   split at h2
   ·rename_i hc
    rw[List.lookup_cons,e]at h2
    have h3:kk = .cell:=by simpa using h2.symm
    have hk:k = .free:=by
     have:=(Bool.and_eq_true _ _ ▸ hc).1
     have:=(Bool.and_eq_true _ _ ▸ this).1
     simpa using this
    subst hk
    exact .inl ⟨h3,List.mem_cons_self⟩
   ·rw[List.lookup_cons,e]at h2
    have h3:kk=k:=by simpa using h2.symm
    subst h3
    exact .inr List.mem_cons_self
  | false =>
   have h3:(r.map fun(n,k)=>if (k == NameKind.free && env.scope.kind == .function && env.kindOf n == some .cell) then(n,NameKind.cell) else(n,k)).lookup x=some kk:=by
    split at h2
    ·rw[List.lookup_cons,e]at h2;exact h2
    ·rw[List.lookup_cons,e]at h2;exact h2
   rcases ih h3 with⟨a,b⟩|b
   ·exact .inl ⟨a,List.mem_cons_of_mem _ b⟩
   ·exact .inr (List.mem_cons_of_mem _ b)
section
variable {prog:Program}{w:World}{A:Around}{R:Result→Shared→Prop}{s:Shared}
theorem codeAny_compLoop_gen {elt target iter:Expr}{ifs:List Expr}{scope:Scope}{pos:Pos}{it acc:Value}{env:Env}(I:Nat→Shared→Prop)
  (turn:∀n s,I n s→wpAny (model prog w) A (pyNext it) (fun r s₁=>match r with
   | none=>R (.ok .next) s₁
   | some v=>wpAny (model prog w) A (letOwnedTupleGo target it v) (fun _ s₁'=>wpAny (model prog w) A (assign target env v) (fun _ s₂ =>
     wpAny (model prog w) A (forIn ifs true fun c r=>if r=true then do let ok ← isTrue c env (eval c env);pure (ForInStep.yield ok) else pure (ForInStep.yield r)) (fun ok s₃ =>
      if ok=true then wpAny (model prog w) A (eval elt env) (fun x s₄ =>
       wpAny (model prog w) A (call (.builtin "list.append") [acc,x]) (fun _ s₅=>∃m,m<n∧I m s₅) (fun _ _=>False) s₄) (fun _ _=>False) s₃
      else ∃m,m<n∧I m s₃) (fun _ _=>False) s₂) (fun _ _=>False) s₁') (fun _ _=>False) s₁) (fun _ _=>False) s)
  (n:Nat) (h:I n s) :
  codeAny (model prog w) A (.compLoop (.ListComp elt [⟨target,iter,ifs,0⟩] scope pos) 0 it acc env) R s:=by
 refine codeAny_loop rfl I (fun n s hI=>?_) n h
 show wpAny _ A ((compTurn (.ListComp elt [⟨target,iter,ifs,0⟩] scope pos) 0 it acc env).onRaise (fun x=>do noteFrame x env;theTreesLotGoes x)) _ _ s
 refine wpAny_noted ?_
 rw[compTurn_list]
 refine wpAny_bind (wpAny_standAt (wpAny_bind (wpAny_mono (turn n s hI) (fun r s₁ h₁=>?_) fun _ _ h'=>h'.elim)))
 cases r with
 | none=>exact wpAny_pure h₁
 | some v =>
  refine wpAny_bind (wpAny_mono h₁ (fun _ s₁' h₁'=>?_) fun _ _ h'=>h'.elim)
  refine wpAny_bind (wpAny_mono h₁' (fun _ s₂ h₂=>wpAny_bind (wpAny_mono h₂ (fun ok s₃ h₃=>?_) fun _ _ h'=>h'.elim)) fun _ _ h'=>h'.elim)
  cases ok with
  | false=>exact wpAny_pure ⟨rfl,h₃⟩
  | true =>
   exact wpAny_bind (wpAny_bind (wpAny_mono h₃ (fun x s₄ h₄=>wpAny_bind (wpAny_mono h₄ (fun _ s₅ h₅=>wpAny_pure (wpAny_pure ⟨rfl,h₅⟩)) fun _ _ h'=>h'.elim)) fun _ _ h'=>h'.elim))
end
def PIfs (X:Cx) (ifs:List Expr) (t:TT):Prop :=
 ∀(pins:List (Addr×Obj)) (s:Shared) (σ:St) (H:Hp) (Q:Bool→Hp→Prop),Inv X pins σ H s→t σ H Q →
  wpAny (model X.prog X.w) X.A (forIn ifs true fun c r=>if r=true then do let ok ← isTrue c X.env (eval c X.env);pure (ForInStep.yield ok) else pure (ForInStep.yield r)) (TP X pins σ Q) X.xe s
def tYes:TT:=fun _ H Q=>Q true H
theorem pif0 {X:Cx}:PIfs X [] tYes:=fun _ _ _ H _ I h=>wpAny_tests_nil ⟨H,I,h⟩
theorem pif1 {X:Cx}{c:Expr}{t:TT}(h:PT X c t):PIfs X [c] t:=fun pins s σ H Q I q=>wpAny_tests_one (h pins s σ H Q I q)
def CompW (J:It) (vs:List Str) (js:List Nat) (σ:St) (g:TG) (tt:TT) (te:TE) (Q:VK) (D:Addr) (H1:Hp):Prop :=
 ∃W:Nat→Nat→St→List V→Hp→Prop,(∃m,W 0 m (blkSt vs js σ) [] (upd H1 D (.lst [])))∧∀i m σ' ys H',W i m σ' ys H' →
  (J.stop i H'∧Q (.ref D) H') ∨(J.go i H'∧∃N:St→List V→Hp→Prop,(∀σ2 zs H2,N σ2 zs H2→∃m',m'<m∧W (i+1) m' σ2 zs H2) ∧
   ∀x H2,J.yld i H' x H2→g x σ' H2 fun σ3 H3=>tt σ3 H3 fun b H4=>if b=true then te σ3 H4 fun y H5=>H5 D=some (.lst ys)∧ys.length<sizeLine∧N σ3 (ys ++ [y]) (upd H5 D (.lst (ys ++ [y]))) else N σ3 ys H4)
def tComp (vs:List Str) (js:List Nat) (wi:TI) (g:TG) (tt:TT) (te:TE):TE:=fun σ H Q=>wi σ H fun J H1=>∀D,H1 D=none→CompW J vs js σ g tt te Q D H1
section
variable {X:Cx}{pins:List (Addr×Obj)}{σ:St}{H:Hp}{s:Shared}{scope:Scope}{vs fs:List Str}{js:List Nat}
theorem blk_start {fp:List Addr}{C D:Addr}{h₁:Heap}{tk:Nat}{m:Str→Option Value}(I:Inv X pins σ H s) (B:BlkOk X scope vs fs js) (hf:∀b∈fp,FpOk X pins H b) (hfp:∀b∈fp,b<s.heap.objs.size)
  (hn:h₁.Ns C m) (hk:∀b o,s.heap.get? b=some o→h₁.get? b=some o) (hD:D=s.heap.objs.size) (hC:s.heap.objs.size<C)
  (hl:h₁.get? D=some { cls:=.type "list",data:=.seq ([]:List Value).toArray }) :
  Inv (cxBlk X scope (vs++fs) C s H fp) [] (blkSt vs js σ) (upd H D (.lst [])) { s with heap:=h₁,toks:=tk }:=by
 have hasX:∀y∈scope.names,y.2 = .free→∃c,X.env.cells.lookup y.1=some c:=fun y hy hf=>I.ok.has y.1 (B.free y hy hf)
 have snd:∀{y:Str}{c:Addr},(clOf X.env scope.names []).lookup y=some c→X.env.cells.lookup y=some c:=fun h=>clOf_sound hasX (fun p hp=>absurd hp (by simp)) h
 have clt:∀{y:Str}{c:Addr},X.env.cells.lookup y=some c→c<s.heap.objs.size:=fun {y c} h=>by
  obtain⟨v,o,ho,_⟩:=I.cell y c h
  exact Heap.lt_size ho
 have hfr:H D=none:=by rw[hD];exact I.hok.fresh (Nat.le_refl _)
 have hfC:H C=none:=I.hok.fresh (Nat.le_of_lt hC)
 have nCD:C≠D:=by rw[hD];exact Nat.ne_of_gt hC
 refine⟨⟨I.ok.mod,B.kind,I.ok.glob,I.ok.blt,Nat.le_of_lt hC,fun y z c h1 h2=>I.ok.inj y z c (snd h1) (snd h2),fun y hy=>?_,fun y c z _=>absurd (show false=true from z) Bool.false_ne_true,I.ok.hd,I.ok.frames,.inl rfl,fun b hb=>⟨?_,fun y c h=>(hf b hb).2.2.2.2.1 y c (snd h)⟩,I.bs,Nat.le_trans I.ok.bsz I.sz,fun b o e hb=>?_,fun b hb z=>?_,I.stack,I.stkFree⟩,
  rfl,I.bare,Un.laid hk (Nat.le_of_eq hD.symm) hfr,⟨m,hn,fun i y v h1 h2 h3=>?_⟩,fun y c h=>?_,?_,fun y c h=>?_,fun p hp=>absurd (show p∈([]:List (Addr×Obj)) from hp) (by simp),I.hok.laid hk (Nat.le_of_eq hD.symm) ⟨by simp,[],0,.nil,hl⟩,?_⟩
 ·-- has
  have key:(y,NameKind.free)∈scope.names:=by
   rcases hy with hy|hy
   ·rcases relabel_back hy with⟨_,z⟩|z
    ·exact z
    ·exact absurd rfl (B.cell _ z)
   ·rcases relabel_back hy with⟨z,_⟩|z
    ·cases z
    ·exact z
  exact lookup_mono_isSome (clOf_has key)
 ·exact Nat.ne_of_lt (Nat.lt_trans (hfp b hb) hC)
 ·rcases(hf b hb).2.2.2.1 with z|z
  ·exact I.ok.noex b o e z
  ·exact absurd (Nat.lt_of_lt_of_le (Heap.lt_size e) (Nat.le_trans I.ok.bsz z)) (Nat.lt_irrefl _)
 ·rcases List.mem_cons.mp (I.stkSub b z) with e|e
  ·exact(hf b hb).2.1 e
  ·exact(hf b hb).2.2.1 e
 ·-- loc
  have hlen:js.length=fs.length:=by have:=congrArg List.length B.ix;simpa using this
  have hi:¬ i<vs.length:=fun hi=>by
   unfold blkSt at h2
   rw[List.getElem?_append_left (by simpa using hi),List.getElem?_map]at h2
   cases e:vs[i]? with
   | none=>rw[e]at h2;cases h2
   | some a=>rw[e]at h2;cases h2
  have hi':vs.length≤i:=Nat.le_of_not_lt hi
  have h1':fs[i-vs.length]? = some y:=by
   have:=h1
   rw[show(cxBlk X scope (vs++fs) C s H fp).N=vs++fs from rfl,List.getElem?_append_right hi']at this
   exact this
  have h2':(js[i-vs.length]?).map (fun j=>(σ[j]?).join)=some (some v):=by
   unfold blkSt at h2
   rw[List.getElem?_append_right (by simpa using hi'),List.length_map,List.getElem?_map]at h2
   exact h2
  cases ej:js[i-vs.length]? with
  | none=>rw[ej]at h2';cases h2'
  | some j =>
   rw[ej]at h2'
   have hσ:σ[j]? = some (some v):=by
    have z:(σ[j]?).join=some v:=Option.some.inj h2'
    cases q:σ[j]? with
    | none=>rw[q]at z;cases z
    | some o=>rw[q]at z;have z':o=some v:=z;rw[z']
   have hNj:X.N[j]? = some y:=by
    have q:=congrArg (fun l=>l[i-vs.length]?) B.ix
    simp only[List.getElem?_map,ej,h1',Option.map_some]at q
    exact Option.some.inj q
   have hcap:=B.cap y (List.mem_of_getElem? h1')
   have hmem:(y,NameKind.free)∈scope.names:=PySem.mem_of_lookup hcap
   have hkX:=B.free _ hmem rfl
   have vis:Vis X.env.scope y:=by
    rcases hkX with z|z
    ·exact .inr (.inl z)
    ·exact .inr (.inr z)
   obtain⟨m0,hn0,hl0⟩:=I.loc
   obtain⟨u,r,l⟩:=hl0 j y v hNj hσ vis
   refine⟨u,r,.inr ⟨lookup_relabel_free hcap,?_⟩⟩
   rcases l with⟨z,_⟩|⟨_,c,hc,hcell⟩
   ·rcases hkX with q|q <;> (rw[q]at z;cases z)
   ·obtain⟨c',hc'⟩:=lookup_mono_isSome (clOf_has (env:=X.env) (cs:=[]) hmem)
    have e:=snd hc'
    rw[hc]at e
    cases e
    exact⟨c,hc',hcell.keeps hk⟩
 ·obtain⟨v,z⟩:=I.cell y c (snd h)
  exact⟨v,z.keeps hk⟩
 ·rw[show(cxBlk X scope (vs++fs) C s H fp).env.locals=C from rfl,upd_ne nCD]
  exact hfC
 ·have q:=snd h
  have ne:c≠D:=by rw[hD];exact Nat.ne_of_lt (clt q)
  rw[upd_ne ne]
  exact I.freeC y c q
 ·have hlen:js.length=fs.length:=by have:=congrArg List.length B.ix;simpa using this
  show(vs.map _++js.map _).length =(vs++fs).length
  rw[List.length_append,List.length_append,List.length_map,List.length_map,hlen]
theorem Inv.goneC {H':Hp}{s':Shared}{C:Addr}{h'':Heap}(I2:Inv X pins σ H s) {σ':St}(I':Inv X pins σ' H' s') (hC:H' C=none) (hle:s.heap.objs.size≤C) (hs:Heap.SameBut C s'.heap h''):Inv X pins σ' H' { s' with heap:=h'' }:=by
 refine I'.turned (t':=s'.toks) (fun b o hb e=>(hs.2 b hb).trans e) hC (Nat.ne_of_gt (Nat.lt_of_lt_of_le I2.lt hle)) (.inr (Nat.le_trans I2.sz hle)) (fun y c e z=>?_) fun p hp z=>?_
 ·obtain⟨v,o,ho,_⟩:=I2.cell y c e
  have:=Heap.lt_size ho
  rw[z]at this
  exact absurd (Nat.lt_of_lt_of_le this hle) (Nat.lt_irrefl _)
 ·have:=Heap.lt_size (I2.pin p hp).1
  rw[z]at this
  exact absurd (Nat.lt_of_lt_of_le this hle) (Nat.lt_irrefl _)
theorem blk_run {tg iter elt:Expr}{ifs:List Expr}{pos:Pos}{g:TG}{tt:TT}{te:TE}(hc:X.calm=true) (B:BlkOk X scope vs fs js)
  (hg:∀C s H ex,PG (cxBlk X scope (vs++fs) C s H ex) tg g) (ht:∀C s H ex,PIfs (cxBlk X scope (vs++fs) C s H ex) ifs tt) (he:∀C s H ex,PE (cxBlk X scope (vs++fs) C s H ex) elt te)
  {it:Addr}{fp:List Addr}{tn:Nat→Heap→Prop}{J:It}{Q:VK}{E:Value→Shared→Prop}(I2:Inv X pins σ H s) (T:Turn X.prog X.w X.K tg J fp it tn) (st2:tn 0 s.heap) (f2:∀b∈fp,FpOk X pins H b)
  (hW:∀D,H D=none→CompW J vs js σ g tt te Q D H)
  {RR:Value→Addr→Result→Shared→Prop}
  (hR:∀D C H' s',Inv X pins σ H' s'→(∃m,s'.heap.Ns C m)→H' C=none→s.heap.objs.size≤C→Q (.ref D) H'→RR (.ref D) C (.ok .next) s') :
  wpAny (model X.prog X.w) X.A (newList []) (fun acc s₃=>wpAny (model X.prog X.w) X.A (newFunctionEnv scope X.env.globals (clOf X.env scope.names []) [] X.env.qual none .none (some X.env)) (fun cenv s₄ =>
   codeAny (model X.prog X.w) X.A (.compStart (.ListComp elt [⟨tg,iter,ifs,0⟩] scope pos) 0 (.ref it) acc { cenv with scope:=relabel scope X.env }) (RR acc cenv.locals) s₄) E s₃) E s:=by
 have hfp:∀b∈fp,b<s.heap.objs.size:=fun b hb=>by
  obtain⟨o,e,_⟩:=T.obj _ _ st2 b hb
  exact Heap.lt_size e
 refine wpAny_newObj_type (wpAny_newFunctionEnv B.cell (by intro y hy;simp at hy) (fun h₁ hns₁ hsb₁=>?_) B.kind)
 dsimp only at hns₁ hsb₁ ⊢
 generalize hH2:s.heap.push { cls:=.type "list",dict:=none,data:=.seq ([]:List Value).toArray } = HH at hns₁ hsb₁ ⊢
 have hC:HH.objs.size=s.heap.objs.size+1:=by rw[← hH2,Heap.size_push]
 have hlt:s.heap.objs.size<HH.objs.size:=by rw[hC];exact Nat.lt_succ_self _
 have old:∀b o,s.heap.get? b=some o→h₁.get? b=some o:=fun b o e=>hsb₁.extBut b o (Nat.ne_of_lt (Nat.lt_trans (Heap.lt_size e) hlt)) (Heap.get?_push_of_some _ (hH2 ▸ Heap.get?_push_of_some _ e))
 have hacc:h₁.get? s.heap.objs.size=some { cls:=.type "list",data:=.seq ([]:List Value).toArray }:=hsb₁.extBut _ _ (Nat.ne_of_lt hlt) (Heap.get?_push_of_some _ (hH2 ▸ Heap.get?_push_size _ rfl))
 have I0:Inv (cxBlk X scope (vs++fs) HH.objs.size s H fp) [] (blkSt vs js σ) (upd H s.heap.objs.size (.lst [])) { s with heap:=h₁,toks:=s.toks+([]:List (Str×Value)).length }:=blk_start I2 B f2 hfp hns₁ old rfl hlt hacc
 obtain⟨W,⟨m0,w0⟩,turn⟩:=hW s.heap.objs.size (I2.hok.fresh (Nat.le_refl _))
 have st1:tn 0 h₁:=T.keep _ _ _ st2 fun b hb o e=>old b o e
 have hch:∀b∈fp,(b∈X.ex∨X.s₀.heap.objs.size≤b)∧b≠X.env.locals∧(∀x c,X.env.cells.lookup x=some c→c≠b)∧∀p∈X.pn++pins,p.1≠b:=fun b hb=>by
  obtain⟨_,a2,_,a4,a5,a6⟩:=f2 b hb
  exact⟨a4,a2,a5,a6⟩
 have back:∀{pl:List (Addr×Obj)}{σ':St}{H':Hp}{s':Shared},Inv (cxBlk X scope (vs++fs) HH.objs.size s H fp) pl σ' H' s'→Inv X pins σ H' s':=fun {pl σ' H' s'} J'=>I2.call' (ch:=fp) J'.os J'.base J'.hok J'.bare hch
 have nD:∀b∈fp,b≠s.heap.objs.size:=fun b hb=>Nat.ne_of_lt (hfp b hb)
 have stat:∀{H':Hp},(∀b∈fp,H' b=none)→∀b∈fp,FpOk (cxBlk X scope (vs++fs) HH.objs.size s H fp) [] H' b:=fun {H'} hn b hb=>by
  have z:=I0.ok
  refine⟨hn b hb,(z.exf b hb).1,z.exfs b hb,.inl hb,(z.exf b hb).2,fun p hp=>absurd (show p∈([]:List (Addr×Obj)) from hp) (by simp)⟩
 have loop:∀s₃:Shared,s₃ = { s with heap:=h₁,toks:=s.toks+([]:List (Str×Value)).length } →
   codeAny (model X.prog X.w) X.A (.compLoop (.ListComp elt [⟨tg,iter,ifs,0⟩] scope pos) 0 (.ref it) (.ref s.heap.objs.size) (compEnvC scope (clOf X.env scope.names []) HH.objs.size X.env)) (RR (.ref s.heap.objs.size) HH.objs.size) s₃:=by
  rintro s₃ rfl
  refine codeAny_compLoop_gen (fun n s'=>∃i σ' ys H',Inv (cxBlk X scope (vs++fs) HH.objs.size s H fp) [] σ' H' s'∧tn i s'.heap∧(∀b∈fp,H' b=none)∧W i n σ' ys H') ?_ m0
   ⟨0,_,_,_,I0,st1,fun b hb=>by rw[upd_ne (nD b hb)];exact(f2 b hb).1,w0⟩
  rintro n s3 ⟨i,σ3,ys,H3,I3,st3,fr3,w3⟩
  rcases turn i n σ3 ys H3 w3 with⟨stop,q⟩|⟨go,N,hN,step⟩
  ·refine thn (T.done (cxBlk X scope (vs++fs) HH.objs.size s H fp) rfl rfl rfl hc i [] s3 σ3 H3 _ I3 (stat fr3) st3 stop) fun r s4 ⟨hr,I4⟩=>?_
   subst hr
   obtain⟨m,hm,_⟩:=I4.loc
   exact hR _ _ H3 s4 (back I4) ⟨m,hm⟩ I4.free (Nat.le_of_lt hlt) q
  ·refine thn (T.item (cxBlk X scope (vs++fs) HH.objs.size s H fp) rfl rfl rfl hc i [] s3 σ3 H3 _ I3 (stat fr3) st3 go) fun r s4 ⟨u,hr,h4⟩=>?_
   subst hr
   refine thn h4 fun _ s5 ⟨x,H5,I5,r5,y5,st5,fr5⟩=>?_
   have I5':=I5.pinned (stat fr5) (T.obj _ _ st5)
   have again:∀{σ7:St}{H7:Hp}{s7:Shared}{zs:List V},Inv (cxBlk X scope (vs++fs) HH.objs.size s H fp) ([]++pinsAt fp s5.heap) σ7 H7 s7→N σ7 zs H7→∃m,m<n∧∃i σ' ys H',Inv (cxBlk X scope (vs++fs) HH.objs.size s H fp) [] σ' H' s7∧tn i s7.heap∧(∀b∈fp,H' b=none)∧W i m σ' ys H':=fun {σ7 H7 s7 zs} I7 n7=>by
    obtain⟨m',hm,w7⟩:=hN σ7 zs H7 n7
    refine⟨m',hm,i+1,σ7,zs,H7,I7.unpinned,T.keep _ _ _ st5 fun b hb o e=>(I7.pin (b,o) (List.mem_append_right _ (List.mem_append_right _ (mem_pinsAt hb e)))).1,fun b hb=>?_,w7⟩
    obtain⟨o,e,d⟩:=T.obj _ _ st5 b hb
    exact(I7.pin (b,o) (List.mem_append_right _ (List.mem_append_right _ (mem_pinsAt hb e)))).2.1
   refine thn (hg _ _ _ _ _ s5 σ3 H5 x u _ I5' r5 (step x H5 y5)) fun _ s6 ⟨σ6,H6,I6,q6⟩=>?_
   refine thn (ht _ _ _ _ _ s6 σ6 H6 _ I6 q6) fun ok s7 ⟨H7,I7,q7⟩=>?_
   cases ok with
   | false =>
    rw[if_neg Bool.false_ne_true]at q7 ⊢
    exact again I7 q7
   | true =>
    rw[if_pos rfl]at q7 ⊢
    refine thn (he _ _ _ _ _ s7 σ6 H7 _ I7 q7) fun y s8 ⟨yv,H8,I8,r8,hD8,hz,n8⟩=>?_
    refine thn (mt_append _ s8 σ6 H8 (.ref s.heap.objs.size) [yv] (.ref s.heap.objs.size) [y] (fun _ H9=>N σ6 (ys ++ [yv]) H9) I8 rfl (.cons r8 .nil) ⟨_,ys,yv,rfl,rfl,hD8,hz,n8⟩) fun _ s9 ⟨_,H9,I9,_,n9⟩=>?_
    exact again I9 n9
 exact codeAny_compStart_list (loop _ rfl) (T.self X.A 0 _ _ _ st1 (loop _ rfl))
theorem pe_comp {tg iter elt:Expr}{ifs:List Expr}{pos:Pos}{wi:TI}{g:TG}{tt:TT}{te:TE}(hc:X.calm=true) (B:BlkOk X scope vs fs js) (hi:PI X tg iter wi)
  (hg:∀C s H ex,PG (cxBlk X scope (vs++fs) C s H ex) tg g) (ht:∀C s H ex,PIfs (cxBlk X scope (vs++fs) C s H ex) ifs tt) (he:∀C s H ex,PE (cxBlk X scope (vs++fs) C s H ex) elt te)
  (hs:∀x,foldedSetIterable iter X.env x=pure x:=by intro _;rfl):PE X (.ListComp elt [⟨tg,iter,ifs,0⟩] scope pos) (tComp vs js wi g tt te):=by
 intro pins s σ H Q I h
 rw[eval_ListComp]
 refine wpAny_comprehension_free (use:=none) rfl hs (closure_eq fun y hy hf=>I.ok.has y.1 (B.free y hy hf)) B.kind B.names (thn (hi pins s σ H _ I h) fun v s1 h1=>thn h1 fun itv s2 h2=>?_)
 obtain⟨it,fp,tn,J,H2,e,I2,T,st2,f2,hW⟩:=h2
 subst e
 refine blk_run (RR:=fun acc C=>compPost (model X.prog X.w) X.A X.xe none (EP X pins σ Q) acc C) hc B hg ht he I2 T st2 f2 hW ?_
 intro D C H' s' I' hn hC hle q
 obtain⟨m,hn⟩:=hn
 exact⟨m,hn,fun h'' hs''=>⟨.ref D,H',I2.goneC I' hC hle hs'',rfl,q⟩⟩
theorem ps_setc {i:Nat}{y:Str}{py spos:Pos}{tg iter elt:Expr}{ifs:List Expr}{pos:Pos}{wi:TI}{g:TG}{tt:TT}{te:TE}(hN:X.N.Nodup) (hi':X.N[i]? = some y) (hy:X.env.scope.names.lookup y=some .local) (hc:X.calm=true) (B:BlkOk X scope vs fs js) (hi:PI X tg iter wi)
  (hg:∀C s H ex,PG (cxBlk X scope (vs++fs) C s H ex) tg g) (ht:∀C s H ex,PIfs (cxBlk X scope (vs++fs) C s H ex) ifs tt) (he:∀C s H ex,PE (cxBlk X scope (vs++fs) C s H ex) elt te)
  (hsw:swapsWith (.ListComp elt [⟨tg,iter,ifs,0⟩] scope pos) (some (.Name y py)) spos.line X.env=pure true:=by rfl)
  (hs:∀x,foldedSetIterable iter X.env x=pure x:=by intro _;rfl):PS X (.Assign [.Name y py] (.ListComp elt [⟨tg,iter,ifs,0⟩] scope pos) spos) (tAsg (tComp vs js wi g tt te) (gName i)):=by
 intro pins s σ H D I h
 rw[exec_Assign_Name_used _ _ _ _ hsw]
 refine wpAny_bind (wpAny_standAt (wpAny_bind ?_))
 show wpAny _ X.A (do let _ ← comprehension (.ListComp elt [⟨tg,iter,ifs,0⟩] scope pos) scope X.env _ (newList []) false (eval iter X.env) (some (assign (.Name y py) X.env))) _ _ s
 refine wpAny_bind (wpAny_mono (wpAny_comprehension_free (use:=some (assign (.Name y py) X.env)) (Q:=fun _ s'=>SP X pins D .next s') rfl hs (closure_eq fun y hy hf=>I.ok.has y.1 (B.free y hy hf)) B.kind B.names
  (thn (hi pins s σ H _ I h) fun v s1 h1=>thn h1 fun itv s2 h2=>?_)) (fun _ s' hq=>wpAny_pure (wpAny_pure hq)) fun _ _ e=>e)
 obtain⟨it,fp,tn,J,H2,e,I2,T,st2,f2,hW⟩:=h2
 subst e
 refine blk_run (Q:=fun x H1=>gName i x σ H1 D.nx) (RR:=fun acc C=>compPost (model X.prog X.w) X.A X.xe (some (assign (.Name y py) X.env)) (fun _ s'=>SP X pins D .next s') acc C) hc B hg ht he I2 T st2 f2 hW ?_
 intro D' C H' s' I' hn hC hle q
 obtain⟨m,hn⟩:=hn
 show wpAny _ X.A (assign (.Name y py) X.env (.ref D')) _ _ _
 refine wpAny_assign_Name (store_ok2 I' hN hi' (.inl hy) (v:=.ref D') rfl (fun s'' I'' hsb=>?_) (.inr hy))
 obtain⟨a,hsb,ha⟩:=hsb
 have nCa:C≠a:=by
  rcases ha with z|z
  ·rw[z];exact Nat.ne_of_gt (Nat.lt_of_lt_of_le I2.lt hle)
  ·obtain⟨v,o,ho,_⟩:=I2.cell y a z
   exact Nat.ne_of_gt (Nat.lt_of_lt_of_le (Heap.lt_size ho) hle)
 exact⟨m,hn.sameBut hsb nCa,fun h'' hs''=>⟨_,H',I2.goneC I'' hC hle hs'',q⟩⟩
end
section
variable {vs:List Str}{js:List Nat}{σ:St}{g:TG}{tt:TT}{te:TE}{Q:VK}
theorem comp_range {lo:Int}{n:Nat}{H:Hp}(Pv:Nat→St→List V→Hp→Prop) (D:Addr) (h0:Pv 0 (blkSt vs js σ) [] (upd H D (.lst [])))
  (hs:∀i σ' ys H',i<n→Pv i σ' ys H'→g (.int (lo+i)) σ' H' fun σ3 H3=>tt σ3 H3 fun b H4=>if b=true then te σ3 H4 fun y H5=>H5 D=some (.lst ys)∧ys.length<sizeLine∧Pv (i+1) σ3 (ys ++ [y]) (upd H5 D (.lst (ys ++ [y]))) else Pv (i+1) σ3 ys H4)
  (hd:∀σ' ys H',Pv n σ' ys H'→Q (.ref D) H') :
  CompW (Itr lo n) vs js σ g tt te Q D H:=by
 refine⟨fun i m σ' ys H'=>m=n-i∧i≤n∧Pv i σ' ys H',⟨n,by simp,Nat.zero_le _,h0⟩,?_⟩
 rintro i m σ' ys H' ⟨rfl,hi,p⟩
 by_cases hlt:i<n
 ·refine .inr ⟨hlt,Pv (i+1),fun σ2 zs H2 p'=>⟨n-(i+1),by omega,rfl,hlt,p'⟩,fun x H2 y=>?_⟩
  obtain⟨e,y⟩:=y
  subst e y
  exact hs i σ' ys _ hlt p
 ·have e:i=n:=by omega
  subst e
  exact .inl ⟨Nat.le_refl _,hd σ' ys H' p⟩
theorem comp_list {K:PySem.W.Frag}{a:Addr}{xs:List V}{H:Hp}(Pv:Nat→St→List V→Hp→Prop) (D:Addr) (h0:Pv 0 (blkSt vs js σ) [] (upd H D (.lst []))) (hl:∀i σ' ys H',i≤xs.length→Pv i σ' ys H'→SqL K H' a xs)
  (hs:∀i x σ' ys H',xs[i]? = some x→Pv i σ' ys H'→g x σ' H' fun σ3 H3=>tt σ3 H3 fun b H4=>if b=true then te σ3 H4 fun y H5=>H5 D=some (.lst ys)∧ys.length<sizeLine∧Pv (i+1) σ3 (ys ++ [y]) (upd H5 D (.lst (ys ++ [y]))) else Pv (i+1) σ3 ys H4)
  (hd:∀σ' ys H',Pv xs.length σ' ys H'→Q (.ref D) H') :
  CompW (Itl K a) vs js σ g tt te Q D H:=by
 refine⟨fun i m σ' ys H'=>m=xs.length-i∧i≤xs.length∧Pv i σ' ys H',⟨xs.length,by simp,Nat.zero_le _,h0⟩,?_⟩
 rintro i m σ' ys H' ⟨rfl,hi,p⟩
 have q:=hl i σ' ys H' hi p
 by_cases hlt:i<xs.length
 ·refine .inr ⟨⟨xs,xs[i],q,by simp[hlt]⟩,Pv (i+1),fun σ2 zs H2 p'=>⟨xs.length-(i+1),by omega,rfl,hlt,p'⟩,fun x H2 y=>?_⟩
  obtain⟨e,y⟩:=y
  subst e
  exact hs i x σ' ys _ (y xs q) p
 ·have e:i=xs.length:=by omega
  subst e
  exact .inl ⟨⟨xs,q,Nat.le_refl _⟩,hd σ' ys H' p⟩
end
end L2
namespace L2
open PySem PySem.Spec PyProof.Rows
theorem bt_len:bootBuiltins "len" = some (.builtin "len"):=by decide +kernel
theorem bt_abs:bootBuiltins "abs" = some (.builtin "abs"):=by decide +kernel
theorem bt_max:bootBuiltins "max" = some (.builtin "max"):=by decide +kernel
theorem bt_min:bootBuiltins "min" = some (.builtin "min"):=by decide +kernel
theorem bt_sum:bootBuiltins "sum" = some (.builtin "sum"):=by decide +kernel
theorem bt_all:bootBuiltins "all" = some (.builtin "all"):=by decide +kernel
theorem bt_isinstance:bootBuiltins "isinstance" = some (.builtin "isinstance"):=by decide +kernel
theorem bt_sorted:bootBuiltins "sorted" = some (.builtin "sorted"):=by decide +kernel
theorem bt_int:bootBuiltins "int" = some (.type "int"):=by decide +kernel
theorem bt_bool:bootBuiltins "bool" = some (.type "bool"):=by decide +kernel
theorem bt_str:bootBuiltins "str" = some (.type "str"):=by decide +kernel
theorem bt_list:bootBuiltins "list" = some (.type "list"):=by decide +kernel
theorem bt_tuple:bootBuiltins "tuple" = some (.type "tuple"):=by decide +kernel
theorem bt_zip:bootBuiltins "zip" = some (.type "zip"):=by decide +kernel
structure Cal (P:Program) (w:World) (K:PySem.W.Frag) (mg:Str→Option Value) (base:Heap) (x:Str) (ps:List Str) (k:Nat) (sp:Sp):Prop where
 ex:∃(f:Addr) (fd:FuncData),FnOk P w K mg base CX0 k f fd ps sp∧Binds K fd ps []∧mg x=some (.ref f)∧PySem.W.keepIn K (.ref f)=true
section
variable {X:Cx}{x:Str}{ps:List Str}{k:Nat}{sp:Sp}{e:Expr}{es:List Expr}{t:TA}{p pos:Pos}
theorem pcl (C:Cal X.prog X.w X.K X.mg X.base x ps k sp) (hr:Room k X.A) (ha:PA X (e::es) t) (hg:Gl X x:=by rfl) (hdb:(x ==("__debug__" : Str))=false:=by decide) (he:starEach (e::es) X.env =(false,eval e X.env)::starEach es X.env:=by rfl) (hpl:(backTo pos (starEach es X.env)).any (·.1)=false:=by rfl) :
  PE X (.Call (.Name x p) (e::es) [] pos) (tCall sp [] E0 t):=by
 obtain⟨f,fd,F,hb,hm,hk⟩:=C.ex
 exact pe_call F hr hg hm hk hb .nil pass0 ha hdb he hpl
end
theorem Cal.of {P:Program}{w:World}{K:PySem.W.Frag}{mg:Str→Option Value}{base:Heap}{x:Str}{st:Stmt}{f:Addr}{fd:FuncData}{N ps:List Str}{k:Nat}{sp:Sp}(F:Fun K x x st f fd) (mF:mg x=some (.ref f)) (bF:Binds K fd ps []) (S:FnScope N ps (defScope st)) (len:∀vs H Q E,sp vs H Q E→vs.length=ps.length)
  (hbody:∀(cdv:Value) (A:Around) (outer:List Env) (s:Shared) (H:Hp) (vs:List V) (Q:VK) (E:XK),Room k (A.deeper (envOfC x (defScope st) s.heap.objs.size f cdv))→sp vs H Q E →
   ∃t,PSs (cxOf CX0 P w K mg base N x (defScope st) f cdv A outer s H E).nox (defBody st) t∧t { nx:=fun _ H'=>Q .non H',rt:=Q } (start N vs) H):Cal P w K mg base x ps (k+1) sp :=
 ⟨f,fd,F.ok S len hbody,bF,mF,F.kp⟩
def blkB (sc scope:Scope) (N vs fs:List Str) (js:List Nat):Bool :=
 (scope.kind == .function) && scope.names.all (fun y=>y.2 != .cell) && scope.names.all (fun y=>y.2 != .local || scope.names.lookup y.1 == some .local) &&
 scope.names.all (fun y=>y.2 != .free || sc.names.lookup y.1 == some .cell || sc.names.lookup y.1 == some .free) && vs.all (fun y=>scope.names.lookup y == some .local) && fs.all (fun y=>scope.names.lookup y == some .free) &&
 (js.map (fun j=>N[j]?) == fs.map some)
theorem blkOk {X:Cx}{sc scope:Scope}{N vs fs:List Str}{js:List Nat}(h:blkB sc scope N vs fs js=true) (hs:X.env.scope=sc) (hN:X.N=N):BlkOk X scope vs fs js:=by
 unfold blkB at h
 simp only[Bool.and_eq_true,List.all_eq_true,beq_iff_eq,bne_iff_ne,Bool.or_eq_true]at h
 obtain⟨⟨⟨⟨⟨⟨h1,h2⟩,h3⟩,h4⟩,h5⟩,h6⟩,h7⟩:=h
 refine⟨h1,h2,fun y hy hl=>?_,fun y hy hf=>?_,h5,h6,?_⟩
 ·rcases h3 y hy with z|z
  ·exact absurd hl z
  ·exact z
 ·unfold Env.kindOf
  rw[hs]
  rcases h4 y hy with(z|z)|z
  ·exact absurd hf z
  ·exact .inl z
  ·exact .inr z
 ·rw[hN];exact h7
def tCut (t:TS):TS:=fun D σ H=>∃R:St→Hp→Prop,t { D with nx:=R } σ H∧∀σ' H',R σ' H'→D.nx σ' H'
theorem ps_cut {X:Cx}{st:Stmt}{t:TS}(h:PS X st t):PS X st (tCut t):=by
 intro pins s σ H D I hw
 obtain⟨R,h1,h2⟩:=hw
 refine thn (h pins s σ H _ I h1) fun f s' q=>?_
 cases f with
 | next =>
  obtain⟨σ',H',I',q⟩:=q
  exact⟨σ',H',I',h2 _ _ q⟩
 | brk=>exact q
 | cont=>exact q
 | ret u=>exact q
section
variable {X:Cx}
def CDivB (i j:Int):Prop:=0<j∧j<2^100
theorem op_fdivB:OpR X (binaryOp .FloorDiv) (rI CDivB fun i j=>.int (i / j)):=opI fun i j _ _ _ _ _ hc q=>by
 have h1:(0:Int)<j:=hc.1
 have h2:j<2^100:=hc.2
 refine floordiv_int (by omega) (by rw[Int.fdiv_eq_ediv_of_nonneg i (by omega)];exact q) (.inl (PyProof.noPylong_of_log2 ?_))
 have h0:j.natAbs≠0:=by omega
 have h3:j.natAbs.log2<100:=(Nat.log2_lt h0).mpr (by omega)
 omega
theorem pe_powC {a b c:Int}{j1 j2:Nat}{p1 p2 pos:Pos}(h:a^b.toNat=c) (h1:CPow a b):PE X (.BinOp (.Constant (.int a) j1 p1) .Pow (.Constant (.int b) j2 p2) pos) (tC (.int c)):=by
 intro pins s σ H Q I q
 subst h
 exact pe_op op_pow pe_int pe_int pins s σ H Q I ⟨a,b,rfl,rfl,h1,q⟩
theorem get_list:PGet X (rIxL X.K):=by
 intro pins s σ H x y v u Q I rx ry h
 obtain⟨p,xs,i,z,rfl,rfl,hq,he,q⟩:=h
 cases rx
 obtain⟨t,rfl⟩:=ry
 obtain⟨its,r,pl,hz⟩:=I.list hq
 obtain⟨j,h1,h2,h3,h4,h5⟩:=atI_get he
 obtain⟨w,ew,rw'⟩:=r.get h2
 have hl:=r.length
 have hn:=line63
 have fin:EP X pins σ Q w s:=⟨z,H,I,rw',q⟩
 by_cases h0:0≤i
 ·have hj:i.toNat=j:=by
   rw[seqIndex_of h0 h5]at h1
   exact Option.some.inj h1
  exact wpAny_getItem_list pl.isList h0 (by omega) (by rw[hj];simpa using ew) fin
 ·have hj:(i+(its.toArray.size:Int)).toNat=j:=by
   rw[seqIndex_neg (by omega) h4]at h1
   rw[List.size_toArray,← hl]
   exact Option.some.inj h1
  exact wpAny_getItem_list_neg pl.isList (by omega) (by rw[List.size_toArray] <;> omega) (by omega) (by rw[hj];simpa using ew) fin
def rBitLen:V→List V→Hp→VK→Prop:=fun x vs H Q=>∃i,x = .int i∧vs=[]∧Q (.int (Builtin.Int.intBits i:Nat)) H
theorem mt_bitlen:MtR X "int.bit_length" rBitLen:=by
 intro pins s σ H x xs v us Q I rx rs h
 obtain⟨i,rfl,rfl,q⟩:=h
 obtain⟨t,rfl⟩:=rx
 cases rs
 exact call_int_bit_length ⟨.int _,H,I.tok _,⟨_,rfl⟩,q⟩
def rLenL (K:PySem.W.Frag):List V→Hp→VK→Prop:=fun xs H Q=>∃p ys,xs=[.ref p]∧(SqL K H p ys∨SqT K H p ys)∧Q (.int ys.length) H
theorem call_lenL:CallR X (.builtin "len") (rLenL X.K):=call_len_seq
def rAbs1:List V→Hp→VK→Prop:=fun xs H Q=>∃i,xs=[.int i]∧Q (.int (if i<0 then -i else i)) H
theorem call_abs1:CallR X (.builtin "abs") rAbs1:=call_abs
def rMaxI:List V→Hp→VK→Prop:=fun xs H Q=>∃i j,xs=[.int i,.int j]∧Q (.int (if j > i then j else i)) H
theorem call_maxI (hc:X.calm=true):CallR X (.builtin "max") rMaxI:=call_max2 hc
def rMinI:List V→Hp→VK→Prop:=fun xs H Q=>∃i j,xs=[.int i,.int j]∧Q (.int (if j<i then j else i)) H
theorem call_minI (hc:X.calm=true):CallR X (.builtin "min") rMinI:=call_min2 hc
def rIsi (K:PySem.W.Frag):List V→Hp→VK→Prop:=fun xs H Q=>∃x t T b,xs=[x,.ty T]∧TyOf K H x t∧PySem.W.kitOne K t (.type T)=some b∧Q (.bl b) H
theorem call_isinst:CallR X (.builtin "isinstance") (rIsi X.K):=by
 intro pins s σ H xs us Q I r h
 obtain⟨x,t,T,b,rfl,ty,e,q⟩:=h
 obtain⟨u,w',rfl,r1,r2⟩:=vals2 r
 cases (show w'=Value.type T from r2)
 exact isinst_ok I r1 ty e fun tk=>⟨.bl b,H,I.tok _,rfl,q⟩
end
section
variable {σ:St}{H:Hp}{Q:VK}{D:Ends}
theorem rd_var {i:Nat}{v:V}(h:σ[i]? = some (some v)) (q:Q v H):tVar i σ H Q:=⟨v,h,q⟩
theorem rd_c {v:V}(q:Q v H):tC v σ H Q:=q
theorem rd_op {r:R2}{ta tb:TE}(h:ta σ H fun x H1=>tb σ H1 fun y H2=>r x y H2 Q):tOp r ta tb σ H Q:=h
theorem rd_I0 {g:Int→Int→V}{i j:Int}(q:Q (g i j) H):rI0 g (.int i) (.int j) H Q:=⟨i,j,rfl,rfl,q⟩
theorem rd_I {C:Int→Int→Prop}{g:Int→Int→V}{i j:Int}(c:C i j) (q:Q (g i j) H):rI C g (.int i) (.int j) H Q:=⟨i,j,rfl,rfl,c,q⟩
theorem dec_int' {i j:Int}:decide (V.int i=V.int j)=decide (i=j):=by
 rw[Bool.eq_iff_iff];simp
theorem rd_eqI {i j:Int}(q:Q (.bl (decide (i=j))) H):rEq (.int i) (.int j) H Q:=⟨rfl,by rw[dec_int'];exact q⟩
theorem rd_neI {i j:Int}(q:Q (.bl (!decide (i=j))) H):rNe (.int i) (.int j) H Q:=⟨rfl,by rw[dec_int'];exact q⟩
theorem rd_bl {c:Bool}{P:Bool→Prop}(h:P c):∃k,V.bl c=V.bl k∧P k:=⟨c,rfl,h⟩
theorem rd_test {t:TE}{R:Bool→Hp→Prop}(h:t σ H fun x H'=>∃k,x = .bl k∧R k H'):tTest t σ H R:=h
theorem rd_tB {t:TE}{R:Bool→Hp→Prop}(h:t σ H fun x H'=>∃k,x = .bl k∧R k H'):tB t σ H R:=h
theorem rd_and {t u:TT}{R:Bool→Hp→Prop}(h:t σ H fun c H1=>if c=true then u σ H1 R else R false H1):tAnd t u σ H R:=h
theorem rd_or {t u:TT}{R:Bool→Hp→Prop}(h:t σ H fun c H1=>if c=true then R true H1 else u σ H1 R):tOr t u σ H R:=h
theorem rd_not {t:TT}{R:Bool→Hp→Prop}(h:t σ H fun c H1=>R (!c) H1):tNot t σ H R:=h
theorem rd_andV {ta tb:TE}(h:ta σ H fun x H1=>∃c,x = .bl c∧if c=true then tb σ H1 Q else Q (.bl false) H1):tAndV ta tb σ H Q:=h
theorem rd_notV {ta:TE}(h:ta σ H fun x H1=>∃c,x = .bl c∧Q (.bl (!c)) H1):tNotV ta σ H Q:=h
theorem rd_chain {r r':R2}{ta tb tc:TE}(h:ta σ H fun x H1=>tb σ H1 fun y H2=>r x y H2 fun z H3=>∃k,z = .bl k∧(if k=true then tc σ H3 fun w' H4=>r' y w' H4 Q else Q (.bl false) H3)):tChain r r' ta tb tc σ H Q:=h
theorem rd_nil {R:List V→Hp→Prop}(h:R [] H):tNil σ H R:=h
theorem rd_cons {ta:TE}{tr:TA}{R:List V→Hp→Prop}(h:ta σ H fun x H1=>tr σ H1 fun xs H2=>R (x::xs) H2):tCons ta tr σ H R:=h
theorem rd_call {sp:Sp}{dvs:List V}{E:XK}{t:TA}(h:t σ H fun vs H1=>sp (vs++dvs) H1 Q E):tCall sp dvs E t σ H Q:=h
theorem rd_cb {r:List V→Hp→VK→Prop}{t:TA}(h:t σ H fun vs H1=>r vs H1 Q):tCB r t σ H Q:=h
theorem rd_lst {t:TA}(h:t σ H fun xs H1=>xs.length≤sizeLine∧∀p,H1 p=none→Q (.ref p) (upd H1 p (.lst xs))):tLst t σ H Q:=h
theorem rd_tup {t:TA}(h:t σ H fun xs H1=>xs.length≤sizeLine∧∀p,H1 p=none→Q (.ref p) (upd H1 p (.tup xs))):tTup t σ H Q:=h
theorem rd_asg {te:TE}{g:TG}(h:te σ H fun x H1=>g x σ H1 D.nx):tAsg te g D σ H:=h
theorem rd_gname {i:Nat}{v:V}{R:St→Hp→Prop}(h:R (σ.set i (some v)) H):gName i v σ H R:=h
theorem rd_ret {te:TE}(h:te σ H D.rt):tRet te D σ H:=h
theorem rd_next (h:D.nx σ H):tNext D σ H:=h
theorem rd_drop {te:TE}(h:te σ H fun _ H1=>D.nx σ H1):tDrop te D σ H:=h
theorem rd_ixL {K:PySem.W.Frag}{p:Addr}{xs:List V}{i:Int}{v:V}(h:SqL K H p xs) (e:atI xs i=some v) (q:Q v H):rIxL K (.ref p) (.int i) H Q:=⟨p,xs,i,v,rfl,rfl,h,e,q⟩
theorem rd_bm0 {K:PySem.W.Frag}{T:String}{r:V→List V→Hp→VK→Prop}{to:TE}(h:to σ H fun x H1=>tyV K T x H1∧r x [] H1 Q):tBM0 K T r to σ H Q:=h
theorem rd_bm {K:PySem.W.Frag}{T:String}{r:V→List V→Hp→VK→Prop}{to:TE}{t:TA}(h:to σ H fun x H1=>tyV K T x H1∧t σ H1 fun xs H2=>r x xs H2 Q):tBM K T r to t σ H Q:=h
theorem rd_augS {to ti te:TE}{tget:V→V→Hp→VK→Prop}{tip:TIp}{tset:TSet}(h:to σ H fun o H1=>ti σ H1 fun i H2=>tget o i H2 fun x H3=>te σ H3 fun y H4=>tip x y H4 fun z H5=>tset o i z H5 fun H6=>D.nx σ H6):tAugS to ti te tget tip tset D σ H:=h
theorem rd_ip {f:Int→Int→Int}{i j:Int}(q:Q (.int (f i j)) H):ipI f (.int i) (.int j) H Q:=⟨i,j,rfl,rfl,q⟩
theorem rd_setL {p:Addr}{xs:List V}{i:Int}{j:Nat}{v:V}{R:Hp→Prop}(h:H p=some (.lst xs)) (e:ixN xs.length i=some j) (q:R (upd H p (.lst (xs.set j v)))):rSetL (.ref p) (.int i) v H R:=⟨p,xs,i,j,rfl,rfl,h,e,q⟩
theorem rd_set0 {p:Addr}{a:V}{r:List V}{v:V}{R:Hp→Prop}(h:H p=some (.lst (a::r))) (q:R (upd H p (.lst (v::r)))):rSetL (.ref p) (.int 0) v H R :=
 ⟨p,_,0,0,rfl,rfl,h,by unfold ixN;rw[if_pos (by decide),if_pos (by rw[List.length_cons];omega)];rfl,q⟩
theorem rd_set1 {p:Addr}{a b:V}{r:List V}{v:V}{R:Hp→Prop}(h:H p=some (.lst (a::b::r))) (q:R (upd H p (.lst (a::v::r)))):rSetL (.ref p) (.int 1) v H R :=
 ⟨p,_,1,1,rfl,rfl,h,by unfold ixN;rw[if_pos (by decide),if_pos (by rw[List.length_cons,List.length_cons];omega)];rfl,q⟩
theorem rd_gsub {to ti:TE}{t:TSet}{v:V}{R:St→Hp→Prop}(h:to σ H fun o H1=>ti σ H1 fun i H2=>t o i v H2 fun H3=>R σ H3):gSub to ti t v σ H R:=h
theorem rd_sl {r:V→Option Int→Option Int→Hp→VK→Prop}{te:TE}{tl th:TO}(h:te σ H fun x H1=>tl σ H1 fun l H2=>th σ H2 fun u H3=>r x l u H3 Q):tSl r te tl th σ H Q:=h
theorem rd_nop {R:Option Int→Hp→Prop}(h:R none H):tNoPart σ H R:=h
theorem rd_part {t:TE}{R:Option Int→Hp→Prop}(h:t σ H fun x H1=>∃i,x = .int i∧R (some i) H1):tPart t σ H R:=h
theorem rd_int {i:Int}{P:Int→Prop}(h:P i):∃k,V.int i=V.int k∧P k:=⟨i,rfl,h⟩
theorem rd_slL {K:PySem.W.Frag}{a:Addr}{xs:List V}{lo hi:Option Int}(h:SqL K H a xs) (q:∀p,H p=none→Q (.ref p) (upd H p (.lst (cutV xs lo hi)))):rSlL K (.ref a) lo hi H Q:=⟨a,xs,rfl,h,q⟩
theorem rd_lenL {K:PySem.W.Frag}{a:Addr}{ys:List V}(h:SqL K H a ys) (q:Q (.int ys.length) H):rLenL K [.ref a] H Q:=⟨a,ys,rfl,.inl h,q⟩
theorem rd_abs {i:Int}(q:Q (.int (if i<0 then -i else i)) H):rAbs1 [.int i] H Q:=⟨i,rfl,q⟩
theorem rd_max {i j:Int}(q:Q (.int (max i j)) H):rMaxI [.int i,.int j] H Q:=⟨i,j,rfl,by
 have e:(if j > i then j else i)=max i j:=by omega
 rw[e];exact q⟩
theorem rd_min {i j:Int}(q:Q (.int (min i j)) H):rMinI [.int i,.int j] H Q:=⟨i,j,rfl,by
 have e:(if j<i then j else i)=min i j:=by omega
 rw[e];exact q⟩
theorem rd_isi {K:PySem.W.Frag}{x:V}{t:Value}{T:String}{b:Bool}(h:TyOf K H x t) (e:PySem.W.kitOne K t (.type T)=some b) (q:Q (.bl b) H):rIsi K [x,.ty T] H Q:=⟨x,t,T,b,rfl,h,e,q⟩
theorem rd_bitlen {i:Int}(q:Q (.int (Builtin.Int.intBits i:Nat)) H):rBitLen (.int i) [] H Q:=⟨i,rfl,rfl,q⟩
theorem rd_if {c:Prop} [Decidable c] {A B:Prop}(h1:c→A) (h2:¬ c→B):if decide c=true then A else B:=by
 by_cases h:c
 ·rw[decide_eq_true h,if_pos rfl];exact h1 h
 ·rw[decide_eq_false h,if_neg Bool.false_ne_true];exact h2 h
theorem rd_ifn {c:Prop} [Decidable c] {A B:Prop}(h1:¬ c→A) (h2:c→B):if (!decide c)=true then A else B:=by
 by_cases h:c
 ·rw[decide_eq_true h];exact(if_neg (by decide)).mpr (h2 h)
 ·rw[decide_eq_false h];exact(if_pos rfl).mpr (h1 h)
theorem rd_rng1 {ta:TA}{R:It→Hp→Prop}(h:ta σ H fun vs H1=>∃j:Int,vs=[.int j]∧-(2^62)≤j∧j<2^62∧R (Itr 0 j.toNat) H1):iRng1 ta σ H R:=h
theorem rd_ilist {K:PySem.W.Frag}{tl:TE}{R:It→Hp→Prop}(h:tl σ H fun x H1=>∃a,x = .ref a∧(∃xs,SqL K H1 a xs)∧R (Itl K a) H1):iList K tl σ H R:=h
theorem rd_comp {vs:List Str}{js:List Nat}{wi:TI}{g:TG}{tt:TT}{te:TE}(h:wi σ H fun J H1=>∀D,H1 D=none→CompW J vs js σ g tt te Q D H1):tComp vs js wi g tt te σ H Q:=h
theorem rd_yes {R:Bool→Hp→Prop}(h:R true H):tYes σ H R:=h
theorem rd_iteT {A B:Prop}(h:A):if true=true then A else B:=iteT h
theorem rd_iteF {A B:Prop}(h:B):if false=true then A else B:=iteF h
theorem rd_iteNF {A B:Prop}(h:A):if (!false)=true then A else B:=iteT h
theorem rd_iteNT {A B:Prop}(h:B):if (!true)=true then A else B:=iteF h
theorem cut_lo {ms:List Int}{k:Nat}:cutV (ms.map V.int) (some (k:Int)) none =(ms.drop k).map V.int:=by
 unfold cutV
 rw[HT.sIx_nat,HT.sIx_none,List.length_map,← List.map_drop]
 by_cases h:k≤ms.length
 ·rw[Nat.min_eq_left h,List.take_of_length_le (by rw[List.length_map,List.length_drop];omega)]
 ·rw[List.drop_eq_nil_of_le (by omega:ms.length≤min k ms.length),List.drop_eq_nil_of_le (by omega:ms.length≤k)]
  simp
theorem cut_hi {ms:List Int}{k:Nat}:cutV (ms.map V.int) none (some (k:Int)) =(ms.take k).map V.int:=by
 unfold cutV
 rw[HT.sIx_nat,HT.sIx_none,List.length_map,List.drop_zero,Nat.sub_zero,← List.map_take]
 by_cases h:k≤ms.length
 ·rw[Nat.min_eq_left h]
 ·rw[Nat.min_eq_right (by omega),List.take_of_length_le (Nat.le_refl _),List.take_of_length_le (by omega)]
theorem same_new {H:Hp}{p:Addr}(h:H p=none) (o:HO):Same H (upd H p o):=fun b u q=>by rw[upd_ne (ne_of_none q h)];exact q
end
end L2
namespace L2
open PySem PySem.Spec PyProof.Rows
mutual
inductive DV (K:PySem.W.Frag) (H:Hp):V→PyData→Prop
 | non:DV K H .non .none
 | bl (b:Bool):DV K H (.bl b) (.bool b)
 | int (i:Int):DV K H (.int i) (.int i)
 | str (x:Str):DV K H (.str x) (.str x)
 | lst {a:Addr}{xs:List V}{ds:List PyData}:SqL K H a xs→DVs K H xs ds→DV K H (.ref a) (.list ds)
 | tup {a:Addr}{xs:List V}{ds:List PyData}:SqT K H a xs→DVs K H xs ds→DV K H (.ref a) (.tuple ds)
inductive DVs (K:PySem.W.Frag) (H:Hp):List V→List PyData→Prop
 | nil:DVs K H [] []
 | cons {x:V}{d:PyData}{xs:List V}{ds:List PyData}:DV K H x d→DVs K H xs ds→DVs K H (x::xs) (d::ds)
end
section
variable {X:Cx}{pins:List (Addr×Obj)}{σ:St}{H:Hp}{s:Shared}
mutual
theorem DV.reads (I:Inv X pins σ H s):∀{x:V}{d:PyData}{v:Value},DV X.K H x d→RelV x v→∃as,Reads s.heap v d as
 | _,_,_,.non,r=>by cases r;exact⟨_,.none⟩
 | _,_,_,.bl b,r=>by cases r;exact⟨_,.bool b⟩
 | _,_,_,.int i,r=>by obtain⟨t,rfl⟩:=r;exact⟨_,.int i t⟩
 | _,_,_,.str x,r=>by obtain⟨t,rfl⟩:=r;exact⟨_,.str x t⟩
 | _,_,_,.lst (a:=a) h ds,r=>by
  cases r
  obtain⟨its,rv,⟨o,n,e,c,_,d⟩,_⟩:=I.list h
  obtain⟨as,q⟩:=DVs.reads I ds rv
  exact⟨_,.list e c d (by simpa using q)⟩
 | _,_,_,.tup (a:=a) h ds,r=>by
  cases r
  obtain⟨its,rv,⟨o,e,c,n,d⟩,_⟩:=I.tuple h
  obtain⟨as,q⟩:=DVs.reads I ds rv
  exact⟨_,.tuple e c d (by simpa using q)⟩
theorem DVs.reads (I:Inv X pins σ H s):∀{xs:List V}{ds:List PyData}{vs:List Value},DVs X.K H xs ds→Vals xs vs→∃as,ReadsAll s.heap vs ds as
 | _,_,_,.nil,r=>by cases r;exact⟨_,.nil⟩
 | _,_,_,.cons h t,r=>by
  cases r with
  | cons r1 r2 =>
   obtain⟨as,q⟩:=DV.reads I h r1
   obtain⟨bs,p⟩:=DVs.reads I t r2
   exact⟨_,.cons q p⟩
end
end
theorem DVs.ints {K:PySem.W.Frag}{H:Hp}:∀ns:List Int,DVs K H (ns.map V.int) (ns.map PyData.int)
 | []=>.nil
 | n::r=>.cons (.int n) (DVs.ints r)
theorem lay_ints:∀ns:List Int,PyData.canLayAll0 (ns.map PyData.int)=true∧PyData.depthAll (ns.map PyData.int)=0
 | []=>⟨rfl,rfl⟩
 | n::r=>by
  obtain⟨h1,h2⟩:=lay_ints r
  simp[PyData.canLayAll0,PyData.canLay0,PyData.depthAll,PyData.depth,h1,h2]
theorem shaped_ints (ns:List Int):SeqAt.shaped (.list (ns.map PyData.int))=true:=by
 obtain⟨h1,h2⟩:=lay_ints ns
 simp[SeqAt.shaped,PyData.canLay0,PyData.depth,h1,h2]
theorem eqv_ints:∀ns ms:List Int,PyData.eqvAll (ns.map PyData.int) (ms.map PyData.int)=decide (ns=ms)
 | [],[]=>rfl
 | [],_::_=>rfl
 | _::_,[]=>rfl
 | n::ns,m::ms=>by
  rw[List.map_cons,List.map_cons,PyData.eqvAll,PyData.eqv,eqv_ints ns ms,Bool.eq_iff_iff]
  simp
section
variable {X:Cx}
def rEqD (K:PySem.W.Frag):R2:=fun x y H Q=>∃d e,DV K H x d∧DV K H y e∧SeqAt.shaped d=true∧SeqAt.shaped e=true∧Q (.bl (PyData.eqv d e)) H
def rNeD (K:PySem.W.Frag):R2:=fun x y H Q=>∃d e,DV K H x d∧DV K H y e∧SeqAt.shaped d=true∧SeqAt.shaped e=true∧Q (.bl (!PyData.eqv d e)) H
theorem op_eqD (hu:X.A.units+64<cLine):OpR X (compareOp .Eq) (rEqD X.K):=by
 intro pins s σ H x y v u Q I rx ry h
 obtain⟨d,e,h1,h2,h3,h4,q⟩:=h
 obtain⟨as,r1⟩:=h1.reads I rx
 obtain⟨bs,r2⟩:=h2.reads I ry
 exact eq_dataH r1 r2 h3 h4 hu ⟨.bl _,H,I,rfl,q⟩
theorem op_neD (hu:X.A.units+64<cLine):OpR X (compareOp .NotEq) (rNeD X.K):=by
 intro pins s σ H x y v u Q I rx ry h
 obtain⟨d,e,h1,h2,h3,h4,q⟩:=h
 obtain⟨as,r1⟩:=h1.reads I rx
 obtain⟨bs,r2⟩:=h2.reads I ry
 exact ne_dataH r1 r2 h3 h4 hu ⟨.bl _,H,I,rfl,q⟩
end
end L2
namespace L2
open PySem PySem.Spec PyProof.Rows
section
variable {X:Cx}
theorem pe_gint {x:Str}{i:Int}{pos:Pos}(hg:Gl X x) (hm:∃t,X.mg x=some (.int i t)) (hd:(x ==("__debug__" : Str))=false:=by decide):PE X (.Name x pos) (tC (.int i)):=by
 obtain⟨t,hm⟩:=hm
 exact pe_glob hg hm ⟨_,rfl⟩ hd
def rSumL (K:PySem.W.Frag):List V→Hp→VK→Prop:=fun xs H Q=>∃a ns,xs=[.ref a]∧SqL K H a (List.map V.int ns)∧Q (.int (List.sum ns)) H
theorem call_sumL (hc:X.calm=true):CallR X (.builtin "sum") (rSumL X.K):=by
 intro pins s σ H xs us Q I r h
 obtain⟨a,ns,rfl,hq,q⟩:=h
 obtain⟨u,rfl,r1⟩:=vals1 r
 cases (show u=Value.ref a from r1)
 obtain⟨its,rv,pl,hz⟩:=I.list hq
 have hi:IntsAre its ns:=intsAre_of rv
 obtain⟨zs,hx⟩:=hi.allInts.items
 have e1:numsOf its=ns:=hi.numsOf
 have e2:numsOf its=zs.toList.map (·.1):=by
  have:=nums_intItems zs
  rw[← hx]at this
  simpa using this
 have hl:s.heap.IsList a (intItems zs):=by rw[← hx];exact pl.isList
 refine sum_intListG (I.ok.hd hc) hl fun h' tk t' hk=>?_
 refine⟨.int ns.sum,H,I.kept hk,⟨t',?_⟩,q⟩
 rw[preSum_eq,List.take_of_length_le (by simp),← e2,e1]
theorem bools_get:∀{bs:List Bool}{its:List Value}{i:Nat}{v:Value},Vals (bs.map V.bl) its→its[i]? = some v→∃b,bs[i]? = some b∧v = .bool b
 | [],_,i,v,.nil,e=>by simp at e
 | b::bs,_,0,v,.cons r t,e=>by
  simp at e;subst e
  exact⟨b,rfl,r⟩
 | b::bs,_,i+1,v,.cons r t,e=>by
  obtain⟨c,h1,h2⟩:=bools_get (i:=i) (v:=v) t (by simpa using e)
  exact⟨c,by simpa using h1,h2⟩
theorem all_range (bs:List Bool):(List.range bs.length).all (fun i=>bs.getD i true)=bs.all id:=by
 rw[Bool.eq_iff_iff,List.all_eq_true,List.all_eq_true]
 constructor
 ·intro h b hb
  obtain⟨i,hi,rfl⟩:=List.mem_iff_getElem.mp hb
  have:=h i (List.mem_range.mpr hi)
  simpa [List.getD,hi] using this
 ·intro h i hi
  have hi':=List.mem_range.mp hi
  have:=h bs[i] (List.getElem_mem hi')
  simpa [List.getD,hi'] using this
theorem it_list {s:Shared}{l:Addr}{items:Array Value}{A:Around}{E:Value→Shared→Prop}{Q:Value→Shared→Prop}{prog:Program}{w:World}(hl:s.heap.IsList l items)
  (h:∀s₂:Shared,s₂ = { s with heap:=s.heap.push { cls:=.type "list_iterator",data:=.fields #[.ref l,.int 0 0] } }→(s₂.heap.IsListIter s.heap.objs.size l 0∧s₂.heap.IsList l items)→l≠s.heap.objs.size→Q (.ref s.heap.objs.size) s₂) :
  wpAny (model prog w) A (pyIter (.ref l)) Q E s:=by
 have hlt:l<s.heap.objs.size:=by obtain⟨_,e,_⟩:=hl;exact Heap.lt_size e
 exact wpAny_pyIter_list hl (h _ rfl ⟨⟨_,Heap.get?_push_size _ rfl,rfl,rfl⟩,hl.push _⟩ (Nat.ne_of_lt hlt))
def rAllL (K:PySem.W.Frag):List V→Hp→VK→Prop:=fun xs H Q=>∃a bs,xs=[.ref a]∧SqL K H a (List.map V.bl bs)∧Q (.bl (bs.all id)) H
theorem call_allL (hc:X.calm=true):CallR X (.builtin "all") (rAllL X.K):=by
 intro pins s σ H xs us Q I r h
 obtain⟨a,bs,rfl,hq,q⟩:=h
 obtain⟨u,rfl,r1⟩:=vals1 r
 cases (show u=Value.ref a from r1)
 obtain⟨its,rv,pl,hz⟩:=I.list hq
 have hlen:bs.length=its.length:=by simpa using rv.length
 refine call_all_walk (it_list pl.isList fun s₂ e st hne=>?_)
 subst e
 refine⟨_,_,_,_,_,_,fun i=>bs.getD i true,rfl,Walks.list (A:=X.A.in1) (I.ok.hd hc) _ a hne its.toArray,st,fun i v s' Q' E' hP hQ=>?_,fun h' tk hk=>?_⟩
 ·obtain⟨b,h1,rfl⟩:=bools_get rv (by simpa using hP)
  have e:bs.getD i true=b:=by simp[List.getD,h1]
  exact wpAny_truthy_bool (by have hQ2:=hQ;dsimp only at hQ2;rw[e]at hQ2;exact hQ2)
 ·refine⟨.bl (bs.all id),H,I.kept (fun b o e=>hk b o (fun z=>?_) (Heap.get?_push_of_some _ e)),?_,q⟩
  ·have z':b=s.heap.objs.size:=by simpa using z
   rw[z']at e
   exact absurd (Heap.lt_size e) (Nat.lt_irrefl _)
  ·show Value.bool _=Value.bool _
   rw[List.size_toArray,← hlen,all_range]
end
section
variable {X:Cx}{K:PySem.W.Frag}
theorem call_isinstK (h:X.K=K):CallR X (.builtin "isinstance") (rIsi K):=by subst h;exact call_isinst
theorem call_lenLK (h:X.K=K):CallR X (.builtin "len") (rLenL K):=by subst h;exact call_lenL
theorem ix_listK (h:X.K=K):IxR X (rIxL K):=by subst h;exact ix_list
end
section
variable {σ:St}{H:Hp}{Q:VK}{D:Ends}
theorem rd_sumL {K:PySem.W.Frag}{a:Addr}{ns:List Int}(h:SqL K H a (ns.map V.int)) (q:Q (.int ns.sum) H):rSumL K [.ref a] H Q:=⟨a,ns,rfl,h,q⟩
theorem rd_allL {K:PySem.W.Frag}{a:Addr}{bs:List Bool}(h:SqL K H a (bs.map V.bl)) (q:Q (.bl (bs.all id)) H):rAllL K [.ref a] H Q:=⟨a,bs,rfl,h,q⟩
theorem rd_itup {K:PySem.W.Frag}{tl:TE}{R:It→Hp→Prop}(h:tl σ H fun x H1=>∃a,x = .ref a∧(∃xs,SqT K H1 a xs)∧R (Itt K a) H1):iTup K tl σ H R:=h
theorem rd_ixT {K:PySem.W.Frag}{p:Addr}{xs:List V}{i:Int}{v:V}(h:SqT K H p xs) (e:atI xs i=some v) (q:Q v H):rIxT K (.ref p) (.int i) H Q:=⟨p,xs,i,v,rfl,rfl,h,e,q⟩
theorem comp_tup {vs:List Str}{js:List Nat}{g:TG}{tt:TT}{te:TE}{K:PySem.W.Frag}{a:Addr}{xs:List V}(Pv:Nat→St→List V→Hp→Prop) (D:Addr) (h0:Pv 0 (blkSt vs js σ) [] (upd H D (.lst []))) (hl:∀i σ' ys H',i≤xs.length→Pv i σ' ys H'→SqT K H' a xs)
  (hs:∀i x σ' ys H',xs[i]? = some x→Pv i σ' ys H'→g x σ' H' fun σ3 H3=>tt σ3 H3 fun b H4=>if b=true then te σ3 H4 fun y H5=>H5 D=some (.lst ys)∧ys.length<sizeLine∧Pv (i+1) σ3 (ys ++ [y]) (upd H5 D (.lst (ys ++ [y]))) else Pv (i+1) σ3 ys H4)
  (hd:∀σ' ys H',Pv xs.length σ' ys H'→Q (.ref D) H'):CompW (Itt K a) vs js σ g tt te Q D H:=by
 refine⟨fun i m σ' ys H'=>m=xs.length-i∧i≤xs.length∧Pv i σ' ys H',⟨xs.length,by simp,Nat.zero_le _,h0⟩,?_⟩
 rintro i m σ' ys H' ⟨rfl,hi,p⟩
 have q:=hl i σ' ys H' hi p
 by_cases hlt:i<xs.length
 ·refine .inr ⟨⟨xs,xs[i],q,by simp[hlt]⟩,Pv (i+1),fun σ2 zs H2 p'=>⟨xs.length-(i+1),by omega,rfl,hlt,p'⟩,fun x H2 y=>?_⟩
  obtain⟨e,y⟩:=y
  subst e
  exact hs i x σ' ys _ (y xs q) p
 ·have e:i=xs.length:=by omega
  subst e
  exact .inl ⟨⟨xs,q,Nat.le_refl _⟩,hd σ' ys H' p⟩
end
end L2
namespace L2
open PySem PySem.Spec PyProof.Rows
section
variable {κ:Type} [DecidableEq κ]
def valV (kvs:List (κ×V)) (k:κ):Option V:=(kvs.find? fun kv=>decide (kv.1=k)).map (·.2)
def putK (kvs:List (κ×V)) (k:κ) (v:V):List (κ×V) :=
 if (kvs.any fun kv=>decide (kv.1=k))=true then kvs.map (fun kv=>if kv.1=k then(kv.1,v) else kv) else kvs ++ [(k,v)]
theorem valV_pos {p:κ×V}{r:List (κ×V)}{k:κ}(e:p.1=k):valV (p::r) k=some p.2:=by simp[valV,List.find?_cons,e]
theorem valV_neg {p:κ×V}{r:List (κ×V)}{k:κ}(e:¬ p.1=k):valV (p::r) k=valV r k:=by simp[valV,List.find?_cons,e]
theorem valV_any (k:κ):∀kvs:List (κ×V),(kvs.any fun kv=>decide (kv.1=k)) =(valV kvs k).isSome
 | []=>rfl
 | p::r=>by
  rw[List.any_cons]
  by_cases e:p.1=k
  ·simp only[valV_pos e,decide_eq_true e,Bool.true_or,Option.isSome_some]
  ·rw[valV_neg e,decide_eq_false e,Bool.false_or];exact valV_any k r
theorem length_putK (kvs:List (κ×V)) (k:κ) (v:V):(putK kvs k v).length≤kvs.length+1:=by
 unfold putK
 split
 ·rw[List.length_map];omega
 ·rw[List.length_append,List.length_cons,List.length_nil];omega
theorem RelO.isSome_eq {o:Option V}{u:Option Value}(r:RelO o u):o.isSome=u.isSome:=by
 cases o with
 | none=>cases u with
  | none=>rfl
  | some _=>exact(show False from r).elim
 | some _=>cases u with
  | none=>exact(show False from r).elim
  | some _=>rfl
theorem KV.val {kvs:List (κ×V)}{vs:List (κ×Value)}(r:KV kvs vs) (k:κ):RelO (valV kvs k) (valueAt vs k):=by
 unfold KV at r
 induction r with
 | nil=>exact True.intro
 | @cons p q ps qs h t ih =>
  obtain⟨h1,h2⟩:=h
  by_cases e:p.1=k
  ·have e':q.1=k:=h1.symm.trans e
   have b:valueAt (q::qs) k=some q.2:=by simp[valueAt,List.find?_cons,e']
   rw[valV_pos e,b];exact h2
  ·have e':¬ q.1=k:=fun z=>e (h1.trans z)
   have b:valueAt (q::qs) k=valueAt qs k:=by simp[valueAt,List.find?_cons,e']
   rw[valV_neg e,b];exact ih
theorem KV.any {kvs:List (κ×V)}{vs:List (κ×Value)}(r:KV kvs vs) (k:κ):(kvs.any fun kv=>decide (kv.1=k))=vs.any fun kv=>decide (kv.1=k):=by
 unfold KV at r
 induction r with
 | nil=>rfl
 | cons h t ih=>rw[List.any_cons,List.any_cons,ih,h.1]
theorem KV.repl {kvs:List (κ×V)}{vs:List (κ×Value)}(r:KV kvs vs) (k:κ) {y:V}{u:Value}(ry:RelV y u) :
  KV (kvs.map fun kv=>if kv.1=k then(kv.1,y) else kv) (vs.map fun kv=>if kv.1=k then(kv.1,u) else kv):=by
 unfold KV at r ⊢
 induction r with
 | nil=>exact .nil
 | @cons p q ps qs h t ih =>
  rw[List.map_cons,List.map_cons]
  refine .cons ?_ ih
  obtain⟨h1,h2⟩:=h
  by_cases e:p.1=k
  ·rw[if_pos e,if_pos (h1.symm.trans e)];exact⟨h1,ry⟩
  ·rw[if_neg e,if_neg (fun z=>e (h1.trans z))];exact⟨h1,h2⟩
theorem KV.put {kvs:List (κ×V)}{vs:List (κ×Value)}(r:KV kvs vs) (k:κ) {y:V}{u:Value}(ry:RelV y u):KV (putK kvs k y) (stored vs k u):=by
 unfold putK stored
 rw[r.any k]
 by_cases e:(vs.any fun kv=>decide (kv.1=k))=true
 ·rw[if_pos e,if_pos e];exact r.repl k ry
 ·rw[if_neg e,if_neg e];exact Paired.snoc r ⟨rfl,ry⟩
theorem KV.length {kvs:List (κ×V)}{vs:List (κ×Value)}(r:KV kvs vs):kvs.length=vs.length:=Paired.length r
end
theorem kV_is {P:Program}{w:World}{k:Key}{u:Value}(r:RelV (kV k) u):(mixKind P w).is k u=true:=by
 cases k with
 | inl i=>obtain⟨t,e⟩:=(show ∃t,u=Value.int i t from r);subst e;exact mixKind_int P w i t
 | inr x=>obtain⟨t,e⟩:=(show ∃t,u=Value.str x t from r);subst e;exact mixKind_str P w x t
theorem items_are {P:Program}{w:World}:∀{ks:List Key}{us:List Value},Vals (ks.map kV) us→ItemsAre (mixKind P w) ks us
 | [],_,r=>by rw[List.map_nil]at r;cases r;exact .nil
 | k::ks,_,r=>by
  rw[List.map_cons]at r
  cases r with
  | cons h t=>exact .cons (kV_is h) (items_are t)
abbrev KT (H:Hp):List (List Key×V)→List (List Key×Addr×Value)→Prop:=Paired fun p q=>p.1=q.1∧H q.2.1=some (.tup (p.1.map kV))∧RelV p.2 q.2.2
theorem KT.val {H:Hp}{kvs:List (List Key×V)}{xs:List (List Key×Addr×Value)}(r:KT H kvs xs) (k:List Key):RelO (valV kvs k) ((atKey xs k).map (·.2)):=by
 induction r with
 | nil=>exact True.intro
 | @cons p q ps qs h t ih =>
  obtain⟨h1,_,h2⟩:=h
  by_cases e:p.1=k
  ·have e':q.1=k:=h1.symm.trans e
   have b:atKey (q::qs) k=some q.2:=by simp[atKey,List.find?_cons,e']
   rw[valV_pos e,b];exact h2
  ·have e':¬ q.1=k:=fun z=>e (h1.trans z)
   have b:atKey (q::qs) k=atKey qs k:=by simp[atKey,List.find?_cons,e']
   rw[valV_neg e,b];exact ih
theorem KT.repl {H:Hp}{kvs:List (List Key×V)}{xs:List (List Key×Addr×Value)}(r:KT H kvs xs) (k:List Key) {y:V}{u:Value}(ry:RelV y u) :
  KT H (kvs.map fun kv=>if kv.1=k then(kv.1,y) else kv) (xs.map (putAt k u)):=by
 induction r with
 | nil=>exact .nil
 | @cons p q ps qs h t ih =>
  rw[List.map_cons,List.map_cons]
  refine .cons ?_ ih
  obtain⟨h1,h2,h3⟩:=h
  unfold putAt
  by_cases e:p.1=k
  ·rw[if_pos e,if_pos (h1.symm.trans e)];exact⟨h1,h2,ry⟩
  ·rw[if_neg e,if_neg (fun z=>e (h1.trans z))];exact⟨h1,h2,h3⟩
theorem KT.put {H:Hp}{kvs:List (List Key×V)}{xs:List (List Key×Addr×Value)}(r:KT H kvs xs) (k:List Key) {b:Addr}{y:V}{u:Value}(hb:H b=some (.tup (k.map kV))) (ry:RelV y u) :
  KT H (putK kvs k y) (storedH xs k b u):=by
 have e:(kvs.any fun kv=>decide (kv.1=k)) =(atKey xs k).isSome:=by
  rw[valV_any,(r.val k).isSome_eq,Option.isSome_map]
 unfold putK storedH
 rw[e]
 by_cases q:(atKey xs k).isSome=true
 ·rw[if_pos q,if_pos q];exact r.repl k ry
 ·rw[if_neg q,if_neg q];exact Paired.snoc r ⟨rfl,hb,ry⟩
theorem KT.keeps {H H':Hp}{kvs:List (List Key×V)}{xs:List (List Key×Addr×Value)}(r:KT H kvs xs) (ht:∀b ys,H b=some (.tup ys)→H' b=some (.tup ys)):KT H' kvs xs :=
 Paired.mapP r fun _ _ z=>⟨z.1,ht _ _ z.2.1,z.2.2⟩
section
variable {P:Program}{w:World}{H:Hp}{h:Heap}{a:Addr}
theorem rd_of {u:HO}(ok:HOk P w H h) (e:Rd H a u):ObjOk P w H h a u:=e.ok ok
theorem dk_rd {kvs:List (Key×V)}(ok:HOk P w H h) (e:Rd H a (.dK kvs)):kvs.length≤sizeLine∧(a == sysModules)=false∧∃vs,KV kvs vs∧h.DictOf (mixKind P w) a vs :=
 show ObjOk P w H h a (.dK kvs) from rd_of ok e
theorem dk_of {kvs:List (Key×V)}(ok:HOk P w H h) (e:H a=some (.dK kvs)):kvs.length≤sizeLine∧(a == sysModules)=false∧∃vs,KV kvs vs∧h.DictOf (mixKind P w) a vs:=dk_rd ok (.inl e)
theorem key_of {ks:List Key}(ok:HOk P w H h) (e:H a=some (.tup (ks.map kV))):(tupleKind (mixKind P w)).is h ks a:=by
 obtain⟨_,its,r,o,h1,h2,n,h3⟩:=(show ObjOk P w H h a (.tup (ks.map kV)) from ok a _ e)
 exact⟨o,its.toArray,n,h1,h2,h3,by simpa using items_are r⟩
theorem dt_rd {kvs:List (List Key×V)}(ok:HOk P w H h) (e:Rd H a (.dT kvs)):kvs.length≤sizeLine∧(a == sysModules)=false ∧
  ∃xs,KT H kvs xs∧h.DictOfH (tupleKind (mixKind P w)) a xs:=by
 obtain⟨z,y,xs,r,o,es,ep,h1,h2,h3,h4,h5⟩:=(show ObjOk P w H h a (.dT kvs) from rd_of ok e)
 refine⟨z,y,xs,r,o,es,ep,h1,h2,h3,h4,fun x hx=>?_,h5⟩
 have all:∀{l:List (List Key×V)}{m:List (List Key×Addr×Value)},KT H l m→∀x∈m,(tupleKind (mixKind P w)).is h x.1 x.2.1:=by
  intro l m q
  induction q with
  | nil=>intro x hx;exact nomatch hx
  | @cons p q ps qs hq t ih =>
   intro x hx
   rcases List.mem_cons.mp hx with e|hx
   ·subst e
    exact key_of ok (by rw[← hq.1];exact hq.2.1)
   ·exact ih x hx
 exact all r x hx
theorem dt_of {kvs:List (List Key×V)}(ok:HOk P w H h) (e:H a=some (.dT kvs)):kvs.length≤sizeLine∧(a == sysModules)=false ∧
  ∃xs,KT H kvs xs∧h.DictOfH (tupleKind (mixKind P w)) a xs:=dt_rd ok (.inl e)
end
def DGet (H:Hp) (a:Addr) (y:V) (r:Option V):Prop :=
 (∃kvs k,Rd H a (.dK kvs)∧y=kV k∧r=valV kvs k) ∨ ∃kvs k b,Rd H a (.dT kvs)∧y = .ref b∧H b=some (.tup (k.map kV))∧r=valV kvs k
def DPut (H:Hp) (a:Addr) (y v:V) (H':Hp):Prop :=
 (∃kvs k,H a=some (.dK kvs)∧y=kV k∧kvs.length<sizeLine∧H'=upd H a (.dK (putK kvs k v))) ∨
 ∃kvs k b,H a=some (.dT kvs)∧y = .ref b∧H b=some (.tup (k.map kV))∧kvs.length<sizeLine∧H'=upd H a (.dT (putK kvs k v))
theorem DGet.k {H:Hp}{a:Addr}{kvs:List (Key×V)}{k:Key}(e:H a=some (.dK kvs)):DGet H a (kV k) (valV kvs k):=.inl ⟨kvs,k,.inl e,rfl,rfl⟩
theorem DPut.k {H:Hp}{a:Addr}{kvs:List (Key×V)}{k:Key}{v:V}(e:H a=some (.dK kvs)) (hl:kvs.length<sizeLine):DPut H a (kV k) v (upd H a (.dK (putK kvs k v))):=.inl ⟨kvs,k,e,rfl,hl,rfl⟩
section
variable {X:Cx}{pins:List (Addr×Obj)}{σ:St}{H:Hp}{s:Shared}{a:Addr}{y v:V}{u r:Value}{o:Option V}{A:Around}{E:Value→Shared→Prop}
theorem Inv.big (I:Inv X pins σ H s):sysModules<s.heap.objs.size:=by
 have h:mainGlobals<s.heap.objs.size:=(I.mod.glob.keeps I.bk).lt
 exact Nat.lt_trans (by decide) h
theorem d_notIn {Q:Value→Shared→Prop}(hu:A.units+1<cLine) (I:Inv X pins σ H s) (g:DGet H a y o) (ry:RelV y u) (h:∀s',Inv X pins σ H s'→Q (.bool (!o.isSome)) s') :
  wpAny (model X.prog X.w) A (compareOp .NotIn u (.ref a)) Q E s:=by
 rcases g with⟨kvs,k,e,ey,l⟩|⟨kvs,k,b,e,ey,eb,l⟩
 ·subst ey
  obtain⟨z,hd,vs,rel,dd⟩:=dk_rd I.hok e
  refine wpAny_notIn_of (kV_is ry) hd dd.mapOf ?_
  rw[←(rel.val k).isSome_eq,← l]
  exact h _ (I.tok _)
 ·subst ey
  cases (show u=Value.ref b from ry)
  obtain⟨z,hd,xs,rel,dd⟩:=dt_rd I.hok e
  refine wpAny_notIn_heap (tupleKind_room_in1 hu) (key_of I.hok eb) hd dd ?_
  have q:=(rel.val k).isSome_eq
  rw[Option.isSome_map]at q
  rw[← q,← l]
  exact h _ (I.tok _)
theorem d_write {h':Heap}{t':Nat}{ob:HO}(I:Inv X pins σ H s) (mu:Mut (H a)) (hs:Heap.SameBut a s.heap h') (he:∃q,h'.get? a=some q) (new:ObjOk X.prog X.w (upd H a ob) h' a ob) :
  Inv X pins σ (upd H a ob) { s with heap:=h',toks:=t' } :=
 I.write (x:=a) (e:=a) mu (.inl rfl) (fun b q hb z=>(hs.2 b hb).trans z) he new
theorem dk_new {P:Program}{w:World}{H':Hp}{h':Heap}{kvs:List (Key×V)}{vs:List (Key×Value)}(z:kvs.length≤sizeLine) (hd:(a == sysModules)=false) (rel:KV kvs vs) (dd:h'.DictOf (mixKind P w) a vs) :
  ObjOk P w H' h' a (.dK kvs):=⟨z,hd,vs,rel,dd⟩
theorem d_setItem {H':Hp}{Q:Unit→Shared→Prop}(hu:A.units+1<cLine) (I:Inv X pins σ H s) (g:DPut H a y v H') (ry:RelV y u) (rv:RelV v r) (h:∀s',Inv X pins σ H' s'→Q () s') :
  wpAny (model X.prog X.w) A (setItem (.ref a) u r) Q E s:=by
 rcases g with⟨kvs,k,e,ey,l,eH⟩|⟨kvs,k,b,e,ey,eb,l,eH⟩
 ·subst ey eH
  obtain⟨z,hd,vs,rel,dd⟩:=dk_of I.hok e
  have hz:vs.length≤sizeLine:=by rw[← rel.length];exact z
  have hl:(putK kvs k v).length≤sizeLine:=by have:=length_putK kvs k v;omega
  refine wpAny_setItem_pairs (hsz:=hz) (kV_is ry) dd fun h' dd' hs=>h _ ?_
  have he:∃q,h'.get? a=some q:=let ⟨q,_,_,hq,_⟩:=dd';⟨q,hq⟩
  exact d_write I (by rw[e];exact True.intro) hs he (dk_new hl hd (rel.put k rv) dd')
 ·subst ey eH
  cases (show u=Value.ref b from ry)
  obtain⟨z,hd,xs,rel,dd⟩:=dt_of I.hok e
  have hz:xs.length≤sizeLine:=by rw[← Paired.length rel];exact z
  have hl:(putK kvs k v).length≤sizeLine:=by have:=length_putK kvs k v;omega
  refine wpAny_setItem_heap (hsz:=hz) (tupleKind_room_in1 hu) (key_of I.hok eb) dd fun h' dd' hs=>h _ ?_
  obtain⟨q,es,ep,hq,h2,h3,h4,_,h5⟩:=dd'
  refine d_write I (by rw[e];exact True.intro) hs ⟨q,hq⟩ ⟨hl,hd,_,(rel.put k eb rv).keeps fun c ys ec=>?_,q,es,ep,hq,h2,h3,h4,h5⟩
  rw[upd_ne (ne_of ec e (fun z=>nomatch z))]
  exact ec
end
section
variable {X:Cx}{pins:List (Addr×Obj)}{σ:St}{H:Hp}{s:Shared}{a:Addr}{kvs:List (Key×V)}{k:Key}{u:Value}{A:Around}{E:Value→Shared→Prop}
theorem d_len {Q:Value→Shared→Prop}(I:Inv X pins σ H s) (e:Rd H a (.dK kvs)) (h:∀t s',Inv X pins σ H s'→Q (.int kvs.length t) s'):wpAny (model X.prog X.w) A (call (.builtin "len") [.ref a]) Q E s:=by
 obtain⟨z,hd,vs,rel,dd⟩:=dk_rd I.hok e
 refine call_len_dict hd dd (by rw[← rel.length];rw[sizeLine_eq]at z;omega) ?_
 rw[← rel.length]
 exact h _ _ (I.tok _)
end
def tDNotIn (ty td:TE):TE:=fun σ H Q=>ty σ H fun y H1=>td σ H1 fun x H2=>∃a o,x = .ref a∧DGet H2 a y o∧Q (.bl (!o.isSome)) H2
def sDPut (td ty tv:TE):TS:=fun D σ H=>tv σ H fun v H1=>td σ H1 fun x H2=>ty σ H2 fun y H3=>∃a H4,x = .ref a∧DPut H3 a y v H4∧D.nx σ H4
section
variable {X:Cx}{o i e value:Expr}{pos pos' tpos:Pos}{td ty tv:TE}
theorem pc_dnotin (hu:X.A.units+1<cLine) (hi:PE X i ty) (ho:PE X o td):PC X .NotIn i o (tDNotIn ty td):=by
 intro pins s σ H Q I h
 refine thn (hi pins s σ H _ I h) fun iv s1 ⟨y,H1,I1,ry,q1⟩=>thn (ho pins s1 σ H1 _ I1 q1) fun u s2 ⟨x,H2,I2,rx,a,ov,ex,g,q2⟩=>?_
 subst ex
 obtain rfl:u=Value.ref a:=rx
 exact d_notIn hu I2 g ry fun s3 I3=>⟨.bl (!ov.isSome),H2,I3,rfl,q2⟩
theorem ps_dput (hu:X.A.units+1<cLine) (ho:PE X o td) (hi:PE X i ty) (hv:PE X value tv) (hs:swapsWith value (some (.Subscript o i pos')) pos.line X.env=pure false) :
  PS X (.Assign [.Subscript o i pos'] value pos) (sDPut td ty tv):=by
 intro pins s σ H D I h
 refine wpAny_Assign_Subscript (thn (hv pins s σ H _ I h) fun r s1 ⟨v,H1,I1,rv,q1⟩=>thn (ho pins s1 σ H1 _ I1 q1) fun u s2 ⟨x,H2,I2,rx,q2⟩=>thn (hi pins s2 σ H2 _ I2 q2) fun iv s3 ⟨y,H3,I3,ry,a,H4,ex,g,q3⟩=>?_) hs
 subst ex
 obtain rfl:u=Value.ref a:=rx
 exact d_setItem hu I3 g ry rv fun s4 I4=>⟨σ,H4,I4,q3⟩
end
theorem dk_empty {P:Program}{w:World}{H:Hp}(h:Heap) (hb:sysModules<h.objs.size):ObjOk P w H (h.push { cls:=.type "dict",data:=.dict #[] }) h.objs.size (.dK []) :=
 ⟨Nat.zero_le _,beq_eq_false_iff_ne.mpr (Ne.symm (Nat.ne_of_lt hb)),[],.nil,Heap.DictOf.new h⟩
def tDNewK:TE:=fun _ H Q=>∀p,H p=none→Q (.ref p) (upd H p (.dK []))
section
variable {X:Cx}{pos:Pos}
theorem pe_dnewK:PE X (.Dict [] [] pos) tDNewK:=fun pins s σ H Q I h =>
 wpAny_Dict_empty ⟨.ref s.heap.objs.size,_,I.laid (a:=s.heap.objs.size) (o:=.dK []) (t':=s.toks) (fun _ _ q=>Heap.get?_push_of_some _ q) (Nat.le_refl _) (dk_empty s.heap I.big),rfl,h _ (I.hok.fresh (Nat.le_refl _))⟩
end
section
variable {X:Cx}{pins:List (Addr×Obj)}{σ:St}{H:Hp}{s:Shared}{a:Addr}{y d:V}{u r:Value}{o:Option V}{A:Around}{E:Value→Shared→Prop}
end
section
variable {X:Cx}{o e f:Expr}{apos cpos:Pos}{td ty tx:TE}
end
section
variable {X:Cx}{pins:List (Addr×Obj)}{σ:St}{H:Hp}{s:Shared}{a:Addr}{kvs:List (Key×V)}{A:Around}{E:Value→Shared→Prop}
end
section
variable {X:Cx}{pins:List (Addr×Obj)}{σ:St}{H:Hp}{s:Shared}{a:Addr}{y:V}{u:Value}{A:Around}{E:Value→Shared→Prop}
end
end L2
namespace L2
open PySem PySem.Spec PyProof.Rows
section
variable {X:Cx}
def rLeS:R2:=fun x y H Q=>∃i j,x = .str i∧y = .str j∧Q (.bl (!decide (j.cps.toList<i.cps.toList))) H
def rLenS:List V→Hp→VK→Prop:=fun xs H Q=>∃z,xs=[.str z]∧z.length≤sizeLine∧Q (.int z.length) H
theorem call_lenS:CallR X (.builtin "len") rLenS:=call_len_str
theorem op_le_str:OpR X (compareOp .LtE) rLeS:=by
 intro pins s σ H x y v u Q I rx ry h
 obtain⟨i,j,rfl,rfl,q⟩:=h
 obtain⟨t,rfl⟩:=rx
 obtain⟨t',rfl⟩:=ry
 exact PySem.P.le_str (fin_bl I q rfl)
end
def Its (x:Str):It:=⟨fun i _=>i<x.cps.size,fun i H v H'=>H'=H∧∃c,x.cps[i]? = some c∧v = .str ⟨#[c]⟩,fun i _=>x.cps.size≤i⟩
theorem go_str (tg:Expr) (it:Addr) (x:Str) (t:Tok):letOwnedTupleGo tg (.ref it) (.str x t)=pure ():=by
 cases tg <;> rfl
theorem turn_strG {P:Program}{w:World}{K:PySem.W.Frag}{tg:Expr}(it:Addr) (ty:String) (x:Str) (t:Tok)
  (W:∀A':Around,A'.handled=none→Walks P w A' it [it] [it] x.cps.size (SignAt x) (fun i h=>h.IsStrIter it ty x t i))
  (S:∀(A':Around) (i:Nat) (s:Shared) (Q:Value→Shared→Prop) (E:Value→Shared→Prop),s.heap.IsStrIter it ty x t i→Q (.ref it) s→wpAny (model P w) A' (pyIter (.ref it)) Q E s):Turn P w K tg (Its x) [it] it (fun i h=>h.IsStrIter it ty x t i∧i≤x.cps.size) where
 mem:=by simp
 obj:=fun i h st b hb=>by
  have e:b=it:=by simpa using hb
  subst e
  obtain⟨o,e,c,d⟩:=st.1
  exact⟨o,e,fun v z=>by rw[d]at z;cases z⟩
 keep:=fun i h h' st k=>⟨let ⟨o,ho,r⟩:=st.1;⟨o,k it (by simp) o ho,r⟩,st.2⟩
 item:=by
  intro X hP hw hK hc i pins s σ H E I hf st hg
  subst hP hw hK
  obtain⟨f0,f1,f2,f3,f4,f5⟩:=hf it (by simp)
  refine(W X.A (I.ok.hd hc)).item i s _ _ hg st.1 fun v h' tk hv st' kk=>?_
  obtain⟨c,u,hcx,rfl⟩:=hv
  have I1:Inv X pins σ H { s with heap:=h',toks:=tk }:=I.turned (fun b o hb e=>kk b o (by simpa using hb) e) f0 f1 f3 f4 f5
  refine⟨_,rfl,?_⟩
  rw[go_str tg]
  have hg':i<x.cps.size:=hg
  exact wpAny_pure ⟨.str ⟨#[c]⟩,H,I1,⟨u,rfl⟩,⟨rfl,c,hcx,rfl⟩,⟨st',hg'⟩,fun b hb=>(hf b hb).1⟩
 done:=by
  intro X hP hw hK hc i pins s σ H E I hf st hg
  subst hP hw hK
  obtain⟨f0,f1,f2,f3,f4,f5⟩:=hf it (by simp)
  have e:i=x.cps.size:=Nat.le_antisymm st.2 hg
  subst e
  exact(W X.A (I.ok.hd hc)).done s _ _ st.1 fun h' tk kk=>⟨rfl,I.turned (fun b o hb e=>kk b o (by simpa using hb) e) f0 f1 f3 f4 f5⟩
 self:=fun A' i s Q E st h=>S A' i s Q E st.1 h
section
variable {X:Cx}{tg:Expr}
def iStr (tl:TE):TI:=fun σ H R=>tl σ H fun x H1=>∃z,x = .str z∧R (Its z) H1
theorem pi_str {l:Expr}{tl:TE}(hl:PE X l tl):PI X tg l (iStr tl):=by
 intro pins s σ H R I h
 refine thn (hl pins s σ H _ I h) fun v s1 ⟨x,H1,I1,r1,q1⟩=>?_
 obtain⟨z,rfl,q⟩:=q1
 obtain⟨t,rfl⟩:=r1
 have fp:∀(o:Obj),∀b ∈ [s1.heap.objs.size],FpOk X pins H1 b:=fun o b hb=>by
  have e:b=s1.heap.objs.size:=by simpa using hb
  subst e
  exact I1.fpOk (Nat.le_refl _) (I1.hok.fresh (Nat.le_refl _))
 cases ha:z.cps.all (· < 128)
 ·refine wpAny_pyIter_wide ha ?_
  exact⟨s1.heap.objs.size,[s1.heap.objs.size],_,_,H1,rfl,I1.kept (t':=s1.toks) fun b o e=>Heap.get?_push_of_some _ e,
   turn_strG s1.heap.objs.size "str_iterator" z t (fun A' hA=>Walks.strWide hA _ z t) (fun _ _ _ _ _ st h=>wpAny_pyIter_striter_wide st h),⟨⟨_,Heap.get?_push_size _ rfl,rfl,rfl⟩,Nat.zero_le _⟩,fp default,q⟩
 ·refine wpAny_pyIter_ascii ha ?_
  exact⟨s1.heap.objs.size,[s1.heap.objs.size],_,_,H1,rfl,I1.kept (t':=s1.toks) fun b o e=>Heap.get?_push_of_some _ e,
   turn_strG s1.heap.objs.size "str_ascii_iterator" z t (fun A' hA=>Walks.strAscii hA _ z t) (fun _ _ _ _ _ st h=>wpAny_pyIter_striter_ascii st h),⟨⟨_,Heap.get?_push_size _ rfl,rfl,rfl⟩,Nat.zero_le _⟩,fp default,q⟩
end
section
variable {σ:St}{H:Hp}{Q:VK}{D:Ends}
theorem rd_leS {i j:Str}(q:Q (.bl (!decide (j.cps.toList<i.cps.toList))) H):rLeS (.str i) (.str j) H Q:=⟨i,j,rfl,rfl,q⟩
theorem rd_lenS {z:Str}(h:z.length≤sizeLine) (q:Q (.int z.length) H):rLenS [.str z] H Q:=⟨z,rfl,h,q⟩
theorem rd_istr {tl:TE}{R:It→Hp→Prop}(h:tl σ H fun x H1=>∃z,x = .str z∧R (Its z) H1):iStr tl σ H R:=h
theorem comp_str {vs:List Str}{js:List Nat}{g:TG}{tt:TT}{te:TE}{z:Str}(Pv:Nat→St→List V→Hp→Prop) (D:Addr) (h0:Pv 0 (blkSt vs js σ) [] (upd H D (.lst [])))
  (hs:∀i c σ' ys H',z.cps[i]? = some c→Pv i σ' ys H'→g (.str ⟨#[c]⟩) σ' H' fun σ3 H3=>tt σ3 H3 fun b H4=>if b=true then te σ3 H4 fun y H5=>H5 D=some (.lst ys)∧ys.length<sizeLine∧Pv (i+1) σ3 (ys ++ [y]) (upd H5 D (.lst (ys ++ [y]))) else Pv (i+1) σ3 ys H4)
  (hd:∀σ' ys H',Pv z.cps.size σ' ys H'→Q (.ref D) H'):CompW (Its z) vs js σ g tt te Q D H:=by
 refine⟨fun i m σ' ys H'=>m=z.cps.size-i∧i≤z.cps.size∧Pv i σ' ys H',⟨z.cps.size,by simp,Nat.zero_le _,h0⟩,?_⟩
 rintro i m σ' ys H' ⟨rfl,hi,p⟩
 by_cases hlt:i<z.cps.size
 ·refine .inr ⟨hlt,Pv (i+1),fun σ2 zs H2 p'=>⟨z.cps.size-(i+1),by omega,rfl,hlt,p'⟩,fun x H2 y=>?_⟩
  obtain⟨e,c,hc,y⟩:=y
  subst e y
  exact hs i c σ' ys _ hc p
 ·have e:i=z.cps.size:=by omega
  subst e
  exact .inl ⟨Nat.le_refl _,hd σ' ys H' p⟩
end
end L2
namespace L2
open PySem PySem.Spec PyProof.Rows
section
variable {es:List Expr}{env:Env}
theorem stx_Constant {c j p}:starEach (.Constant c j p::es) env =(false,eval (.Constant c j p) env)::starEach es env:=rfl
theorem stx_Name {x p}:starEach (.Name x p::es) env =(false,eval (.Name x p) env)::starEach es env:=rfl
theorem stx_BinOp {a o b p}:starEach (.BinOp a o b p::es) env =(false,eval (.BinOp a o b p) env)::starEach es env:=rfl
theorem stx_Compare {a o b p}:starEach (.Compare a o b p::es) env =(false,eval (.Compare a o b p) env)::starEach es env:=rfl
theorem stx_Call {a o b p}:starEach (.Call a o b p::es) env =(false,eval (.Call a o b p) env)::starEach es env:=rfl
theorem stx_Attribute {a o p}:starEach (.Attribute a o p::es) env =(false,eval (.Attribute a o p) env)::starEach es env:=rfl
theorem stx_Subscript {a o p}:starEach (.Subscript a o p::es) env =(false,eval (.Subscript a o p) env)::starEach es env:=rfl
theorem stx_ListComp {a b c p}:starEach (.ListComp a b c p::es) env =(false,eval (.ListComp a b c p) env)::starEach es env:=rfl
end
end L2
namespace L2
open PySem PySem.Spec PyProof.Rows
section
variable {X:Cx}
end
end L2
namespace L2
open PySem PySem.Spec PyProof.Rows
section
variable {X:Cx}
def rIntB:List V→Hp→VK→Prop:=fun xs H Q=>∃k,xs=[.bl k]∧Q (.int (if k then 1 else 0)) H
theorem call_intB:CallR X (.type "int") rIntB:=by
 intro pins s σ H xs us Q I r h
 exact call_int1 pins s σ H xs us Q I r (.inr h)
end
section
variable {K:PySem.W.Frag}{H:Hp}{Q:VK}{σ:St}
theorem rd_intB {k:Bool}(q:Q (.int (if k then 1 else 0)) H):rIntB [.bl k] H Q:=⟨k,rfl,q⟩
theorem flat_ints:∀ns:List Int,(ns.map V.int).all flatV=true
 | []=>rfl
 | n::r=>by rw[List.map_cons,List.all_cons,flat_ints r];rfl
theorem inV_ints (k:Int):∀ns:List Int,inV (.int k) (ns.map V.int)=decide (k∈ns)
 | []=>by simp[inV]
 | n::r=>by
  have ih:=inV_ints k r
  unfold inV at ih ⊢
  rw[List.map_cons,List.any_cons,ih]
  have e:eqV (V.int n) (V.int k)=decide (k=n):=by
   by_cases h:k=n
   ·subst h;simp[eqV]
   ·rw[decide_eq_false h]
    have h2:¬ n=k:=fun z=>h z.symm
    simp[eqV,h2]
  rw[e]
  simp[List.mem_cons]
theorem rd_inI {a:Addr}{ns:List Int}{k:Int}(h:SqL K H a (ns.map V.int)) (q:Q (.bl (decide (k∈ns))) H):rIn K false (.int k) (.ref a) H Q :=
 ⟨a,_,rfl,.inl h,rfl,flat_ints ns,by rw[inV_ints];exact q⟩
end
end L2
namespace L2
open PySem PySem.Spec PyProof.Rows
section
variable {X:Cx}{pins:List (Addr×Obj)}{σ:St}{H:Hp}{s:Shared}{h':Heap}
theorem Inv.turnedL {t':Nat}{ch:List Addr}(I:Inv X pins σ H s) (k:∀b o,b∉ch→s.heap.get? b=some o→h'.get? b=some o) (f:∀b∈ch,FpOk X pins H b):Inv X pins σ H { s with heap:=h',toks:=t' }:=by
 have nit:∀b u,H b=some u→b∉ch:=fun b u e z=>by rw[(f b z).1]at e;cases e
 refine I.step (g':=s.gens) (d':=s.drawn) (ch:=ch) (fun b hb=>?_) (fun b o _ _ hc e _=>k b o hc e) (fun b o _ _ hc e _=>⟨o.slots,k b o hc e⟩) (fun _ _ _ _ n=>n) (fun b o hc e=>⟨o,k b o hc e⟩) (fun _ _ e=>e) (fun _ _ _ e=>e)
  (fun b ps e=>⟨#[],by rw[e];simp⟩) (fun m hm=>?_) (fun b u e=>?_) I.bare
 ·obtain⟨f0,f1,f2,f3,f4,f5⟩:=f b hb
  exact⟨f3,f1,f4,f5⟩
 ·obtain⟨o,es,ep,ho,r⟩:=hm
  exact⟨o,es,ep,k _ o (fun z=>(f _ z).2.1 rfl) ho,r⟩
 ·refine(I.hok b u e).stay (fun c v hc q=>k c v ?_ q) (fun _ q=>q) fun _ _ q=>q
  rcases hc with z|z
  ·rw[z];exact nit b u e
  ·exact nit c _ z
theorem Inv.turnedN {t':Nat}{ch:List Addr}{a:Addr}{o:HO}(I:Inv X pins σ H s) (k:∀b o,b∉ch→s.heap.get? b=some o→h'.get? b=some o) (f:∀b∈ch,FpOk X pins H b)
  (ha:s.heap.objs.size≤a) (new:ObjOk X.prog X.w (upd H a o) h' a o):Inv X pins σ (upd H a o) { s with heap:=h',toks:=t' }:=by
 have nit:∀b u,H b=some u→b∉ch:=fun b u e z=>by rw[(f b z).1]at e;cases e
 have hn:=I.hok.fresh ha
 have old:∀b ob,s.heap.get? b=some ob→b≠a:=fun b ob q=>Nat.ne_of_lt (Nat.lt_of_lt_of_le (Heap.lt_size q) ha)
 have up:∀b u,H b=some u→upd H a o b=some u:=fun b u q=>by rw[upd_ne (ne_of_none q hn)];exact q
 refine I.step (g':=s.gens) (d':=s.drawn) (ch:=ch) (fun b hb=>?_) (fun b o _ _ hc e _=>k b o hc e) (fun b o _ _ hc e _=>⟨o.slots,k b o hc e⟩) (fun b ob _ e n=>by rw[upd_ne (old b ob e)];exact n) (fun b o hc e=>⟨o,k b o hc e⟩) (fun b xs e=>up _ _ e) (fun b ob u e=>up _ _ e)
  (fun b ps e=>⟨#[],by rw[up _ _ e];simp⟩) (fun m hm=>?_) (fun b u e=>?_) I.bare
 ·obtain⟨f0,f1,f2,f3,f4,f5⟩:=f b hb
  exact⟨f3,f1,f4,f5⟩
 ·obtain⟨o,es,ep,ho,r⟩:=hm
  exact⟨o,es,ep,k _ o (fun z=>(f _ z).2.1 rfl) ho,r⟩
 ·by_cases hb:b=a
  ·subst hb;rw[upd_same]at e;cases e;exact new
  ·rw[upd_ne hb]at e
   refine(I.hok b u e).stay (fun c v hc q=>k c v ?_ q) (fun c q=>up _ _ q) fun c xs q=>up _ _ q
   rcases hc with z|z
   ·rw[z];exact nit b u e
   ·exact nit c _ z
end
section
variable {X:Cx}{elts:List Expr}{x1:_}{tpos:Pos}
end
section
variable {K:PySem.W.Frag}{H:Hp}{Q:VK}{σ:St}
end
end L2
namespace L2
open PySem PySem.Spec PyProof.Rows
section
variable {X:Cx}{K:PySem.W.Frag}{tg:Expr}
end
end L2
namespace L2
open PySem PySem.Spec PyProof.Rows
def galS:Bool→Keyed→Array Keyed→Nat→Nat→Nat→StateT SortSt Sem (Option Nat):=sortPriv% PySem.Builtin.gallop
def bydS (lf:Bool) (ky:Keyed) (ar:Array Keyed) (bs j:Nat):StateT SortSt Sem (Option Bool):=do
 let z ← elem' ar (bs+j)
 if lf then lt' z ky else return (← lt' ky z).map (!·)
theorem galS_eq (lf:Bool) (ky:Keyed) (ar:Array Keyed) (bs nn ht:Nat):galS lf ky ar bs nn ht =(do
 let mut la:=0
 let mut of:=1
 let mut lx:=0
 let mut hx:=0
 let some rt ← bydS lf ky ar bs ht|return none
 if rt then
  let mx:=nn-ht
  for _ in [0:nn] do
   if of ≥ mx then break
   let some mo ← bydS lf ky ar bs (ht+of)|return none
   if !mo then break
   la:=of
   of:=2*of+1
  lx:=ht+la+1
  hx:=ht+min of mx
 else
  let mx:=ht+1
  for _ in [0:nn] do
   if of ≥ mx then break
   let some fo ← bydS lf ky ar bs (ht-of)|return none
   if fo then break
   la:=of
   of:=2*of+1
  lx:=ht+1-min of mx
  hx:=ht-la
 for _ in [0:nn] do
  if lx ≥ hx then break
  let mi:=lx+(hx-lx) / 2
  let some mo ← bydS lf ky ar bs mi|return none
  if mo then lx:=mi+1 else hx:=mi
 return some hx):=rfl
section
variable {prog:Program}{w:World}{A:Around}{E:Value→Shared→Prop}{s:Shared}
def LtOk (prog:Program) (w:World) (A:Around) (E:Value→Shared→Prop) (s:Shared) (ltb:Keyed→Keyed→Bool) (S:Keyed→Prop) (κ:SortKind):Prop :=
 ∀(x y:Keyed) (st:SortSt) (Q:Option Bool→SortSt→Prop),S x→S y→kindOf st=κ→Q (some (ltb x y)) st→wpS (model prog w) A E s (lt' x y) Q st
def Bf (ltb:Keyed→Keyed→Bool) (lf:Bool) (ky x:Keyed):Bool:=if lf then ltb x ky else !ltb ky x
variable {ltb:Keyed→Keyed→Bool}{S:Keyed→Prop}{κ:SortKind}
theorem wpS_elem {ar:Array Keyed}{i:Nat}{x:Keyed}{st:SortSt}{Q:Keyed→SortSt→Prop}(h:ar[i]? = some x) (q:Q x st):wpS (model prog w) A E s (elem' ar i) Q st:=by
 rw[elem'_eq,h];exact wpS_pure q
theorem wpS_byd {lf:Bool}{ky:Keyed}{ar:Array Keyed}{bs j:Nat}{x:Keyed}{st:SortSt}{Q:Option Bool→SortSt→Prop}(hO:LtOk prog w A E s ltb S κ) (hk:kindOf st=κ) (hky:S ky)
  (hx:ar[bs+j]? = some x) (hS:S x) (q:Q (some (Bf ltb lf ky x)) st):wpS (model prog w) A E s (bydS lf ky ar bs j) Q st:=by
 unfold bydS
 refine wpS_bind (wpS_elem hx ?_)
 cases lf with
 | true=>exact hO x ky st Q hS hky hk q
 | false =>
  refine wpS_bind (hO ky x st _ hky hS hk ?_)
  exact wpS_pure q
theorem wpS_gal {lf:Bool}{ky:Keyed}{ar:Array Keyed}{bs nn ht:Nat}{st:SortSt}{Q:Option Nat→SortSt→Prop}(hO:LtOk prog w A E s ltb S κ) (hk:kindOf st=κ) (hky:S ky) (B:Nat→Bool)
  (hB:∀j,j<nn→∃x,ar[bs+j]? = some x∧S x∧Bf ltb lf ky x=B j) (anti:∀i j,i≤j→j<nn→B j=true→B i=true) (hht:ht<nn)
  (h:∀k,k≤nn→(∀i,i<k→B i=true)→(∀i,k≤i→i<nn→B i=false)→Q (some k) st):wpS (model prog w) A E s (galS lf ky ar bs nn ht) Q st:=by
 have ask:∀(j:Nat) (Q:Option Bool→SortSt→Prop),j<nn→Q (some (B j)) st→wpS (model prog w) A E s (bydS lf ky ar bs j) Q st:=fun j Q hj q=>by
  obtain⟨x,hx,hS,e⟩:=hB j hj
  exact wpS_byd hO hk hky hx hS (by rw[e];exact q)
 have antiF:∀i j,i≤j→j<nn→B i=false→B j=false:=fun i j hij hj e=>by
  cases e2:B j with
  | false=>rfl
  | true=>rw[anti i j hij hj e2]at e;cases e
 rw[galS_eq]
 refine wpS_bind (ask ht _ hht ?_)
 dsimp only
 cases hr:B ht with
 | true =>
  simp only[if_true]
  refine wpS_bind (wpS_mono (wpS_forRange (I:=fun x c st'=>st'=st∧∃l o,c =(none,l,o)∧l<o∧x+1≤o∧(l<nn-ht)∧B (ht+l)=true)
   (Q:=fun c st'=>st'=st∧∃l o,c =(none,l,o)∧l<o∧l<nn-ht∧B (ht+l)=true∧(nn-ht≤o ∨(o<nn-ht∧B (ht+o)=false))) ?stp ?fin ⟨rfl,0,1,rfl,by omega,by omega,by omega,hr⟩) ?post)
  case fin =>
   rintro c st' ⟨rfl,l,o,rfl,a1,a2,a3,a4⟩
   exact⟨rfl,l,o,rfl,a1,a3,a4,.inl (by omega)⟩
  case stp =>
   rintro x c st' _ hx ⟨rfl,l,o,rfl,a1,a2,a3,a4⟩
   dsimp only
   by_cases hge:o ≥ nn-ht
   ·rw[if_pos hge]
    exact wpS_pure ⟨rfl,l,o,rfl,a1,a3,a4,.inl hge⟩
   ·rw[if_neg hge]
    refine wpS_bind (ask _ _ (by omega) ?_)
    dsimp only
    cases hm:B (ht+o) with
    | true =>
     simp only[Bool.not_true,Bool.false_eq_true,if_false]
     exact wpS_pure ⟨rfl,o,_,rfl,by omega,by omega,by omega,hm⟩
    | false =>
     simp only[Bool.not_false,if_true]
     exact wpS_pure ⟨rfl,l,o,rfl,a1,a3,a4,.inr ⟨by omega,hm⟩⟩
  case post =>
   rintro c st' ⟨est,l,o,rfl,a1,a2,a3,a4⟩
   rw[est]
   dsimp only
   have P1:∀i,i<ht+l+1→B i=true:=fun i hi=>anti i (ht+l) (by omega) (by omega) a3
   have P2:∀i,ht+min o (nn-ht)≤i→i<nn→B i=false:=fun i hi hi2=>by
    rcases a4 with z|⟨z1,z2⟩
    ·omega
    ·exact antiF (ht+o) i (by omega) hi2 z2
   refine wpS_bind (wpS_mono (wpS_forRange (I:=fun x c st'=>st'=st∧∃l r,c =(none,l,r)∧l≤r∧r≤nn∧r-l≤nn-x∧(∀i,i<l→B i=true)∧(∀i,r≤i→i<nn→B i=false))
    (Q:=fun c st'=>st'=st∧∃l,c =(none,l,l)∧l≤nn∧(∀i,i<l→B i=true)∧(∀i,l≤i→i<nn→B i=false)) ?stp2 ?fin2 ⟨rfl,ht+l+1,ht+min o (nn-ht),rfl,by omega,by omega,by omega,P1,P2⟩) ?post2)
   case fin2 =>
    rintro c st' ⟨rfl,l,r,rfl,a1,a2,a3,a4,a5⟩
    have:l=r:=by omega
    subst this
    exact⟨rfl,l,rfl,a2,a4,a5⟩
   case post2 =>
    rintro c st' ⟨rfl,l,rfl,a2,a4,a5⟩
    exact wpS_pure (h l a2 a4 a5)
   case stp2 =>
    rintro x c st' _ hx ⟨rfl,l,r,rfl,a1,a2,a3,a4,a5⟩
    dsimp only
    by_cases hge:l ≥ r
    ·rw[if_pos hge]
     have:l=r:=by omega
     subst this
     exact wpS_pure ⟨rfl,l,rfl,a2,a4,a5⟩
    ·rw[if_neg hge]
     refine wpS_bind (ask _ _ (by omega) ?_)
     dsimp only
     cases hm:B (l+(r-l) / 2) with
     | true =>
      simp only[if_true]
      exact wpS_pure ⟨rfl,_,r,rfl,by omega,a2,by omega,fun i hi=>anti i _ (by omega) (by omega) hm,a5⟩
     | false =>
      simp only[Bool.false_eq_true,if_false]
      exact wpS_pure ⟨rfl,l,_,rfl,by omega,by omega,by omega,a4,fun i hi hi2=>antiF _ i hi hi2 hm⟩
 | false =>
  simp only[Bool.false_eq_true,if_false]
  refine wpS_bind (wpS_mono (wpS_forRange (I:=fun x c st'=>st'=st∧∃l o,c =(none,l,o)∧l<o∧x+1≤o∧l<ht+1∧B (ht-l)=false)
   (Q:=fun c st'=>st'=st∧∃l o,c =(none,l,o)∧l<o∧l<ht+1∧B (ht-l)=false∧(ht+1≤o ∨(o<ht+1∧B (ht-o)=true))) ?stp ?fin ⟨rfl,0,1,rfl,by omega,by omega,by omega,hr⟩) ?post)
  case fin =>
   rintro c st' ⟨rfl,l,o,rfl,a1,a2,a3,a4⟩
   exact⟨rfl,l,o,rfl,a1,a3,a4,.inl (by omega)⟩
  case stp =>
   rintro x c st' _ hx ⟨rfl,l,o,rfl,a1,a2,a3,a4⟩
   dsimp only
   by_cases hge:o ≥ ht+1
   ·rw[if_pos hge]
    exact wpS_pure ⟨rfl,l,o,rfl,a1,a3,a4,.inl hge⟩
   ·rw[if_neg hge]
    refine wpS_bind (ask _ _ (by omega) ?_)
    dsimp only
    cases hm:B (ht-o) with
    | true =>
     simp only[if_true]
     exact wpS_pure ⟨rfl,l,o,rfl,a1,a3,a4,.inr ⟨by omega,hm⟩⟩
    | false =>
     simp only[Bool.false_eq_true,if_false]
     exact wpS_pure ⟨rfl,o,_,rfl,by omega,by omega,by omega,hm⟩
  case post =>
   rintro c st' ⟨est,l,o,rfl,a1,a2,a3,a4⟩
   rw[est]
   dsimp only
   have P1:∀i,i<ht+1-min o (ht+1)→B i=true:=fun i hi=>by
    rcases a4 with z|⟨z1,z2⟩
    ·omega
    ·exact anti i (ht-o) (by omega) (by omega) z2
   have P2:∀i,ht-l≤i→i<nn→B i=false:=fun i hi hi2=>antiF (ht-l) i (by omega) hi2 a3
   refine wpS_bind (wpS_mono (wpS_forRange (I:=fun x c st'=>st'=st∧∃l r,c =(none,l,r)∧l≤r∧r≤nn∧r-l≤nn-x∧(∀i,i<l→B i=true)∧(∀i,r≤i→i<nn→B i=false))
    (Q:=fun c st'=>st'=st∧∃l,c =(none,l,l)∧l≤nn∧(∀i,i<l→B i=true)∧(∀i,l≤i→i<nn→B i=false)) ?stp2 ?fin2 ⟨rfl,ht+1-min o (ht+1),ht-l,rfl,by omega,by omega,by omega,P1,P2⟩) ?post2)
   case fin2 =>
    rintro c st' ⟨rfl,l,r,rfl,a1,a2,a3,a4,a5⟩
    have:l=r:=by omega
    subst this
    exact⟨rfl,l,rfl,a2,a4,a5⟩
   case post2 =>
    rintro c st' ⟨rfl,l,rfl,a2,a4,a5⟩
    exact wpS_pure (h l a2 a4 a5)
   case stp2 =>
    rintro x c st' _ hx ⟨rfl,l,r,rfl,a1,a2,a3,a4,a5⟩
    dsimp only
    by_cases hge:l ≥ r
    ·rw[if_pos hge]
     have:l=r:=by omega
     subst this
     exact wpS_pure ⟨rfl,l,rfl,a2,a4,a5⟩
    ·rw[if_neg hge]
     refine wpS_bind (ask _ _ (by omega) ?_)
     dsimp only
     cases hm:B (l+(r-l) / 2) with
     | true =>
      simp only[if_true]
      exact wpS_pure ⟨rfl,_,r,rfl,by omega,a2,by omega,fun i hi=>anti i _ (by omega) (by omega) hm,a5⟩
     | false =>
      simp only[Bool.false_eq_true,if_false]
      exact wpS_pure ⟨rfl,l,_,rfl,by omega,by omega,by omega,a4,fun i hi hi2=>antiF _ i hi hi2 hm⟩
end
end L2
namespace L2
open PySem PySem.Spec PyProof.Rows
structure OrdB (ltb:Keyed→Keyed→Bool):Prop where
 asym:∀{x y},ltb x y=true→ltb y x=false
 tr:∀{x y z},ltb y x=false→ltb z y=false→ltb z x=false
def leB (ltb:Keyed→Keyed→Bool) (x y:Keyed):Prop:=ltb y x=false
section
variable {ltb:Keyed→Keyed→Bool}{xa xb ou:List Keyed}{ja jb k:Nat}
theorem drop_take_split {α:Type}(l:List α) (j k:Nat):l.drop j =(l.drop j).take k++l.drop (j+k):=by
 rw[← List.drop_drop];exact(List.take_append_drop k (l.drop j)).symm
theorem rise_le {l:List Keyed}(h:l.Pairwise (leB ltb)) {i j:Nat}(hi:i<j) {x y:Keyed}(hx:l[i]? = some x) (hy:l[j]? = some y):leB ltb x y:=by
 obtain⟨h1,rfl⟩:=List.getElem?_eq_some_iff.mp hx
 obtain⟨h2,rfl⟩:=List.getElem?_eq_some_iff.mp hy
 exact List.pairwise_iff_getElem.mp h i j h1 h2 hi
theorem rise_parts {l:List Keyed}(h:l.Pairwise (leB ltb)) (j k:Nat):((l.drop j).take k).Pairwise (leB ltb)∧∀x∈(l.drop j).take k,∀y∈l.drop (j+k),leB ltb x y:=by
 have hd:(l.drop j).Pairwise (leB ltb):=h.drop
 rw[drop_take_split l j k,List.pairwise_append]at hd
 exact⟨hd.1,hd.2.2⟩
structure MI (ltb:Keyed→Keyed→Bool) (xa xb ou:List Keyed) (ja jb:Nat):Prop where
 srt:ou.Pairwise (leB ltb)
 la:∀x∈ou,∀y∈xa.drop ja,leB ltb x y
 lb:∀x∈ou,∀y∈xb.drop jb,leB ltb x y
 pm:(ou++(xa.drop ja++xb.drop jb)).Perm (xa++xb)
 sz:ou.length=ja+jb
theorem MI.stepA (O:OrdB ltb) (sa:xa.Pairwise (leB ltb)) (sb:xb.Pairwise (leB ltb)) (m:MI ltb xa xb ou ja jb) (hk:ja+k≤xa.length) {z:Keyed}(hz:xb[jb]? = some z) (c:∀y∈(xa.drop ja).take k,leB ltb y z) :
  MI ltb xa xb (ou++(xa.drop ja).take k) (ja+k) jb:=by
 obtain⟨p1,p2⟩:=rise_parts sa ja k
 have sub:∀y∈(xa.drop ja).take k,y∈xa.drop ja:=fun y hy=>List.mem_of_mem_take hy
 have zb:∀y∈xb.drop jb,leB ltb z y∨y=z:=fun y hy=>by
  obtain⟨i,hi,e⟩:=List.getElem_of_mem hy
  have e2:xb[jb+i]? = some y:=by rw[← List.getElem?_drop,List.getElem?_eq_getElem hi,e]
  by_cases h0:i=0
  ·subst h0;rw[Nat.add_zero,hz]at e2;exact .inr (Option.some.inj e2).symm
  ·exact .inl (rise_le sb (by omega) hz e2)
 refine⟨?_,?_,?_,?_,?_⟩
 ·rw[List.pairwise_append]
  exact⟨m.srt,p1,fun x hx y hy=>m.la x hx y (sub y hy)⟩
 ·intro x hx y hy
  rcases List.mem_append.mp hx with h|h
  ·exact m.la x h y (by rw[drop_take_split xa ja k];exact List.mem_append_right _ hy)
  ·exact p2 x h y hy
 ·intro x hx y hy
  rcases List.mem_append.mp hx with h|h
  ·exact m.lb x h y hy
  ·rcases zb y hy with z1|z1
   ·exact O.tr (c x h) z1
   ·rw[z1];exact c x h
 ·have e:=drop_take_split xa ja k
  have:=m.pm
  rw[e]at this
  simpa [List.append_assoc] using this
 ·rw[List.length_append,m.sz,List.length_take,List.length_drop];omega
theorem MI.stepB (O:OrdB ltb) (sa:xa.Pairwise (leB ltb)) (sb:xb.Pairwise (leB ltb)) (m:MI ltb xa xb ou ja jb) (hk:jb+k≤xb.length) {z:Keyed}(hz:xa[ja]? = some z) (c:∀y∈(xb.drop jb).take k,leB ltb y z) :
  MI ltb xa xb (ou++(xb.drop jb).take k) ja (jb+k):=by
 obtain⟨p1,p2⟩:=rise_parts sb jb k
 have sub:∀y∈(xb.drop jb).take k,y∈xb.drop jb:=fun y hy=>List.mem_of_mem_take hy
 have za:∀y∈xa.drop ja,leB ltb z y∨y=z:=fun y hy=>by
  obtain⟨i,hi,e⟩:=List.getElem_of_mem hy
  have e2:xa[ja+i]? = some y:=by rw[← List.getElem?_drop,List.getElem?_eq_getElem hi,e]
  by_cases h0:i=0
  ·subst h0;rw[Nat.add_zero,hz]at e2;exact .inr (Option.some.inj e2).symm
  ·exact .inl (rise_le sa (by omega) hz e2)
 refine⟨?_,?_,?_,?_,?_⟩
 ·rw[List.pairwise_append]
  exact⟨m.srt,p1,fun x hx y hy=>m.lb x hx y (sub y hy)⟩
 ·intro x hx y hy
  rcases List.mem_append.mp hx with h|h
  ·exact m.la x h y hy
  ·rcases za y hy with z1|z1
   ·exact O.tr (c x h) z1
   ·rw[z1];exact c x h
 ·intro x hx y hy
  rcases List.mem_append.mp hx with h|h
  ·exact m.lb x h y (by rw[drop_take_split xb jb k];exact List.mem_append_right _ hy)
  ·exact p2 x h y hy
 ·have e:=drop_take_split xb jb k
  have:=m.pm
  rw[e]at this
  refine List.Perm.trans ?_ this
  rw[List.append_assoc]
  refine List.Perm.append_left _ ?_
  rw[← List.append_assoc,← List.append_assoc]
  refine List.Perm.append_right _ ?_
  exact List.perm_append_comm
 ·rw[List.length_append,m.sz,List.length_take,List.length_drop];omega
theorem MI.start (sb:xb.Pairwise (leB ltb)) {z y0:Keyed}(hz:xb[0]? = some z) (c:∀y∈xa,leB ltb z y):MI ltb xa xb [z] 0 1:=by
 have hx:xb=z::xb.drop 1:=by
  cases xb with
  | nil=>cases hz
  | cons b r=>obtain rfl:=Option.some.inj hz;rfl
 refine⟨by simp,fun x hx y hy=>?_,fun x hx2 y hy=>?_,?_,rfl⟩
 ·simp at hx hy;rw[hx];exact c y hy
 ·simp at hx2
  rw[hx2]
  rw[hx,List.pairwise_cons]at sb
  exact sb.1 y hy
 ·rw[List.drop_zero]
  refine List.Perm.trans ?_ (List.Perm.append_left xa (List.Perm.of_eq hx.symm))
  show(z::(xa++xb.drop 1)).Perm _
  exact List.perm_middle.symm
theorem MI.done (sa:xa.Pairwise (leB ltb)) (m:MI ltb xa xb ou ja jb) (h:jb=xb.length):(ou++xa.drop ja++xb.drop jb).Pairwise (leB ltb)∧(ou++xa.drop ja++xb.drop jb).Perm (xa++xb):=by
 have e:xb.drop jb=[]:=by rw[h];exact List.drop_length
 have pm:=m.pm
 rw[e,List.append_nil]at pm ⊢
 refine⟨?_,pm⟩
 rw[List.pairwise_append]
 exact⟨m.srt,sa.drop,m.la⟩
theorem MI.last (sa:xa.Pairwise (leB ltb)) (sb:xb.Pairwise (leB ltb)) (m:MI ltb xa xb ou ja jb) (h:∀x∈xb,∀y∈xa.drop ja,leB ltb x y) :
  (ou++xb.drop jb++xa.drop ja).Pairwise (leB ltb)∧(ou++xb.drop jb++xa.drop ja).Perm (xa++xb):=by
 constructor
 ·rw[List.pairwise_append,List.pairwise_append]
  refine⟨⟨m.srt,sb.drop,m.lb⟩,sa.drop,fun x hx y hy=>?_⟩
  rcases List.mem_append.mp hx with z|z
  ·exact m.la x z y hy
  ·exact h x (List.mem_of_mem_drop z) y hy
 ·refine List.Perm.trans ?_ m.pm
  rw[List.append_assoc]
  exact List.Perm.append_left _ List.perm_append_comm
end
end L2
namespace L2
open PySem PySem.Spec PyProof.Rows
def mloS:Array Keyed→Array Keyed→StateT SortSt Sem (Array Keyed):=sortPriv% PySem.Builtin.mergeLo
def dnS (xa xb ou:Array Keyed) (ja jb:Nat):Array Keyed:=ou++xa.extract ja xa.size++xb.extract jb xb.size
def lsS (xa xb ou:Array Keyed) (ja jb:Nat):Array Keyed:=ou++xb.extract jb xb.size++xa.extract ja xa.size
def smgS (g:Nat):StateT SortSt Sem Unit:=modify fun z=>SortSt.mk' (kindOf z) (arrOf z) (pendingOf z) g (failedOf z)
theorem mloS_eq (xa xb:Array Keyed):mloS xa xb =(do
 rule "list.sort.merge-lo"
 let mut ou:Array Keyed:=#[← elem' xb 0]
 let mut ja:=0
 let mut jb:=1
 if jb == xb.size then return dnS xa xb ou ja jb
 if ja+1 == xa.size then return lsS xa xb ou ja jb
 let mut mg:=gallopOf (← get)
 for _ in [0:xa.size+xb.size] do
  let mut ca:=0
  let mut cb:=0
  for _ in [0:xa.size+xb.size] do
   let some bw ← lt' (← elem' xb jb) (← elem' xa ja)|return dnS xa xb ou ja jb
   if bw then
    ou:=ou.push (← elem' xb jb);jb:=jb+1;cb:=cb+1;ca:=0
    if jb == xb.size then return dnS xa xb ou ja jb
    if cb ≥ mg then break
   else
    ou:=ou.push (← elem' xa ja);ja:=ja+1;ca:=ca+1;cb:=0
    if ja+1 == xa.size then return lsS xa xb ou ja jb
    if ca ≥ mg then break
  rule "list.sort.gallop"
  mg:=mg+1
  for _ in [0:xa.size+xb.size] do
   if mg > 1 then mg:=mg-1
   smgS mg
   let some kk ← galS false (← elem' xb jb) xa ja (xa.size-ja) 0|return dnS xa xb ou ja jb
   ca:=kk
   if kk > 0 then
    ou:=ou++xa.extract ja (ja+kk);ja:=ja+kk
    if ja+1 == xa.size then return lsS xa xb ou ja jb
    if ja == xa.size then return dnS xa xb ou ja jb
   ou:=ou.push (← elem' xb jb);jb:=jb+1
   if jb == xb.size then return dnS xa xb ou ja jb
   let some kk ← galS true (← elem' xa ja) xb jb (xb.size-jb) 0|return dnS xa xb ou ja jb
   cb:=kk
   if kk > 0 then
    ou:=ou++xb.extract jb (jb+kk);jb:=jb+kk
    if jb == xb.size then return dnS xa xb ou ja jb
   ou:=ou.push (← elem' xa ja);ja:=ja+1
   if ja+1 == xa.size then return lsS xa xb ou ja jb
   if ca<7 && cb<7 then break
  mg:=mg+1
  smgS mg
 unsupported "internal:list.sort.merge-bound"):=rfl
theorem ext_drop (x:Array Keyed) (j:Nat):(x.extract j x.size).toList=x.toList.drop j:=by
 rw[Array.toList_extract]
 exact List.take_of_length_le (by simp)
theorem ext_part (x:Array Keyed) (j k:Nat):(x.extract j (j+k)).toList =(x.toList.drop j).take k:=by
 rw[Array.toList_extract]
 show List.take (j+k-j) (List.drop j x.toList)=_
 rw[show j+k-j=k by omega]
section
variable {ltb:Keyed→Keyed→Bool}{xa xb ou:Array Keyed}{ja jb k:Nat}
theorem one_at {x:Array Keyed}{j:Nat}{b:Keyed}(h:x[j]? = some b):(x.toList.drop j).take 1=[b]:=by
 have hj:=(Array.getElem?_eq_some_iff.mp h).1
 have e:=(Array.getElem?_eq_some_iff.mp h).2
 rw[List.drop_eq_getElem_cons (by simpa using hj)]
 simp[e]
theorem MI.pB (O:OrdB ltb) (sa:xa.toList.Pairwise (leB ltb)) (sb:xb.toList.Pairwise (leB ltb)) (m:MI ltb xa.toList xb.toList ou.toList ja jb) {b y:Keyed}(hb:xb[jb]? = some b) (hy:xa[ja]? = some y) (c:leB ltb b y):MI ltb xa.toList xb.toList (ou.push b).toList ja (jb+1):=by
 have hj:=(Array.getElem?_eq_some_iff.mp hb).1
 have:=m.stepB O sa sb (k:=1) (by rw[Array.length_toList];omega) (z:=y) (by simpa using hy) (by rw[one_at hb];intro x hx;simp at hx;rw[hx];exact c)
 rw[one_at hb]at this
 simpa using this
theorem MI.pA (O:OrdB ltb) (sa:xa.toList.Pairwise (leB ltb)) (sb:xb.toList.Pairwise (leB ltb)) (m:MI ltb xa.toList xb.toList ou.toList ja jb) {b y:Keyed}(hb:xb[jb]? = some b) (hy:xa[ja]? = some y) (c:leB ltb y b):MI ltb xa.toList xb.toList (ou.push y).toList (ja+1) jb:=by
 have hj:=(Array.getElem?_eq_some_iff.mp hy).1
 have:=m.stepA O sa sb (k:=1) (by rw[Array.length_toList];omega) (z:=b) (by simpa using hb) (by rw[one_at hy];intro x hx;simp at hx;rw[hx];exact c)
 rw[one_at hy]at this
 simpa using this
theorem part_at {x:Array Keyed}{j k:Nat}{y:Keyed}(h:y∈(x.toList.drop j).take k):∃i,i<k∧x[j+i]? = some y:=by
 obtain⟨i,hi,e⟩:=List.getElem_of_mem h
 rw[List.length_take]at hi
 refine⟨i,by omega,?_⟩
 rw[List.getElem_take,List.getElem_drop]at e
 have hl:j+i<x.size:=by rw[List.length_drop]at hi;simp at hi;omega
 rw[Array.getElem?_eq_getElem hl]
 simpa using e
theorem MI.eA (O:OrdB ltb) (sa:xa.toList.Pairwise (leB ltb)) (sb:xb.toList.Pairwise (leB ltb)) (m:MI ltb xa.toList xb.toList ou.toList ja jb) (hk:ja+k≤xa.size) {b:Keyed}(hb:xb[jb]? = some b) (c:∀i,i<k→∀x,xa[ja+i]? = some x→leB ltb x b) :
  MI ltb xa.toList xb.toList (ou++xa.extract ja (ja+k)).toList (ja+k) jb:=by
 have:=m.stepA O sa sb (k:=k) (by simpa using hk) (z:=b) (by simpa using hb) (fun y hy=>by obtain⟨i,h1,h2⟩:=part_at hy;exact c i h1 y h2)
 rw[Array.toList_append,ext_part];exact this
theorem MI.eB (O:OrdB ltb) (sa:xa.toList.Pairwise (leB ltb)) (sb:xb.toList.Pairwise (leB ltb)) (m:MI ltb xa.toList xb.toList ou.toList ja jb) (hk:jb+k≤xb.size) {y:Keyed}(hy:xa[ja]? = some y) (c:∀i,i<k→∀x,xb[jb+i]? = some x→leB ltb x y) :
  MI ltb xa.toList xb.toList (ou++xb.extract jb (jb+k)).toList ja (jb+k):=by
 have:=m.stepB O sa sb (k:=k) (by simpa using hk) (z:=y) (by simpa using hy) (fun y hy=>by obtain⟨i,h1,h2⟩:=part_at hy;exact c i h1 y h2)
 rw[Array.toList_append,ext_part];exact this
theorem arr_le {x:Array Keyed}(h:x.toList.Pairwise (leB ltb)) {i j:Nat}(hij:i<j) {u v:Keyed}(hu:x[i]? = some u) (hv:x[j]? = some v):leB ltb u v :=
 rise_le h hij (by simpa using hu) (by simpa using hv)
theorem arr_mem {x:Array Keyed}{i:Nat}{u:Keyed}(hu:x[i]? = some u):u∈x.toList:=by
 have:=Array.mem_of_getElem? hu
 simpa using this
end
section
variable {prog:Program}{w:World}{A:Around}{E:Value→Shared→Prop}{s:Shared}{ltb:Keyed→Keyed→Bool}{S:Keyed→Prop}{κ:SortKind}
theorem wpS_galR (O:OrdB ltb) (hO:LtOk prog w A E s ltb S κ) {x:Array Keyed}{bs nn ht:Nat}{ky:Keyed}{st:SortSt}{Q:Option Nat→SortSt→Prop}(hk:kindOf st=κ) (hky:S ky) (Sx:∀u∈x.toList,S u) (sx:∀i j u v,i<j→j<nn→x[bs+i]? = some u→x[bs+j]? = some v→leB ltb u v)
  (hn:bs+nn≤x.size) (hht:ht<nn) (h:∀k,k≤nn→(∀i,i<k→∀u,x[bs+i]? = some u→leB ltb u ky)→(∀i,k≤i→i<nn→∀u,x[bs+i]? = some u→ltb ky u=true)→Q (some k) st):wpS (model prog w) A E s (galS false ky x bs nn ht) Q st:=by
 have ex:∀j,j<nn→∃u,x[bs+j]? = some u:=fun j hj=>⟨_,Array.getElem?_eq_getElem (by omega)⟩
 refine wpS_gal hO hk hky (fun j=>match x[bs+j]? with|some u=>Bf ltb false ky u|none=>false) (fun j hj=>?_) (fun i j hij hj hb=>?_) hht fun k h1 h2 h3=>h k h1 (fun i hi u hu=>?_) fun i hi hi2 u hu=>?_
 ·obtain⟨u,hu⟩:=ex j hj
  exact⟨u,hu,Sx u (arr_mem hu),by simp only[hu]⟩
 ·obtain⟨u,hu⟩:=ex i (by omega)
  obtain⟨v,hv⟩:=ex j hj
  simp only[hu,hv,Bf,Bool.false_eq_true,if_false,Bool.not_eq_true']at hb ⊢
  by_cases e:i=j
  ·subst e;rw[hu]at hv;cases hv;exact hb
  ·exact O.tr (sx i j u v (by omega) hj hu hv) hb
 ·have:=h2 i hi
  simp only[hu,Bf,Bool.false_eq_true,if_false,Bool.not_eq_true']at this
  exact this
 ·have:=h3 i hi hi2
  simp only[hu,Bf,Bool.false_eq_true,if_false,Bool.not_eq_false']at this
  exact this
theorem wpS_galL (O:OrdB ltb) (hO:LtOk prog w A E s ltb S κ) {x:Array Keyed}{bs nn ht:Nat}{ky:Keyed}{st:SortSt}{Q:Option Nat→SortSt→Prop}(hk:kindOf st=κ) (hky:S ky) (Sx:∀u∈x.toList,S u) (sx:∀i j u v,i<j→j<nn→x[bs+i]? = some u→x[bs+j]? = some v→leB ltb u v)
  (hn:bs+nn≤x.size) (hht:ht<nn) (h:∀k,k≤nn→(∀i,i<k→∀u,x[bs+i]? = some u→ltb u ky=true)→(∀i,k≤i→i<nn→∀u,x[bs+i]? = some u→leB ltb ky u)→Q (some k) st):wpS (model prog w) A E s (galS true ky x bs nn ht) Q st:=by
 have ex:∀j,j<nn→∃u,x[bs+j]? = some u:=fun j hj=>⟨_,Array.getElem?_eq_getElem (by omega)⟩
 refine wpS_gal hO hk hky (fun j=>match x[bs+j]? with|some u=>Bf ltb true ky u|none=>false) (fun j hj=>?_) (fun i j hij hj hb=>?_) hht fun k h1 h2 h3=>h k h1 (fun i hi u hu=>?_) fun i hi hi2 u hu=>?_
 ·obtain⟨u,hu⟩:=ex j hj
  exact⟨u,hu,Sx u (arr_mem hu),by simp only[hu]⟩
 ·obtain⟨u,hu⟩:=ex i (by omega)
  obtain⟨v,hv⟩:=ex j hj
  simp only[hu,hv,Bf,if_true]at hb ⊢
  by_cases e:i=j
  ·subst e;rw[hu]at hv;cases hv;exact hb
  ·have l1:=sx i j u v (by omega) hj hu hv
   cases q:ltb u ky with
   | true=>rfl
   | false=>have:=O.tr q l1;rw[this]at hb;cases hb
 ·have:=h2 i hi
  simp only[hu,Bf,if_true]at this
  exact this
 ·have:=h3 i hi hi2
  simp only[hu,Bf,if_true]at this
  exact this
end
section
variable {prog:Program}{w:World}{A:Around}{E:Value→Shared→Prop}{s:Shared}{ltb:Keyed→Keyed→Bool}{S:Keyed→Prop}{κ:SortKind}
structure SS (κ:SortKind) (st st':SortSt):Prop where
 kind:kindOf st'=κ
 fail:failedOf st'=none
 arr:arrOf st'=arrOf st
 pend:pendingOf st'=pendingOf st
theorem SS.smg {st st':SortSt}(h:SS κ st st') (g:Nat):SS κ st (SortSt.mk' (kindOf st') (arrOf st') (pendingOf st') g (failedOf st')):=⟨h.kind,h.fail,h.arr,h.pend⟩
theorem wpS_mlo (O:OrdB ltb) (hO:LtOk prog w A E s ltb S κ) {xa xb:Array Keyed}{st:SortSt}{Q:Array Keyed→SortSt→Prop}(Sa:∀x∈xa.toList,S x) (Sb:∀x∈xb.toList,S x) (sa:xa.toList.Pairwise (leB ltb)) (sb:xb.toList.Pairwise (leB ltb))
  {z:Keyed}(hz:xb[0]? = some z) (hfst:∀y∈xa.toList,leB ltb z y) (ha0:0<xa.size) (hlst:∀x∈xb.toList,∀y,xa[xa.size-1]? = some y→ltb x y=true) (hS:SS κ st st)
  (h:∀r st',r.toList.Pairwise (leB ltb)→r.toList.Perm (xa.toList++xb.toList)→SS κ st st'→Q r st'):wpS (model prog w) A E s (mloS xa xb) Q st:=by
 have hb0:0<xb.size:=by
  have:=(Array.getElem?_eq_some_iff.mp hz).1;exact this
 have mdone:∀(ou:Array Keyed) (ja jb:Nat) (st':SortSt),MI ltb xa.toList xb.toList ou.toList ja jb→jb=xb.size→SS κ st st'→Q (dnS xa xb ou ja jb) st':=fun ou ja jb st' m e ss=>by
  obtain⟨p1,p2⟩:=m.done sa (by rw[e];simp)
  have el:(dnS xa xb ou ja jb).toList=ou.toList++xa.toList.drop ja++xb.toList.drop jb:=by unfold dnS;rw[Array.toList_append,Array.toList_append,ext_drop,ext_drop]
  exact h _ _ (by rw[el];exact p1) (by rw[el];exact p2) ss
 have mlast:∀(ou:Array Keyed) (ja jb:Nat) (st':SortSt),MI ltb xa.toList xb.toList ou.toList ja jb→ja+1=xa.size→SS κ st st'→Q (lsS xa xb ou ja jb) st':=fun ou ja jb st' m e ss=>by
  obtain⟨p1,p2⟩:=m.last sa sb (fun x hx y hy=>by
   obtain⟨i,hi,e2⟩:=List.getElem_of_mem hy
   have hi0:i=0:=by rw[List.length_drop]at hi;simp at hi;omega
   subst hi0
   have e3:xa[xa.size-1]? = some y:=by
    rw[List.getElem_drop]at e2
    rw[show xa.size-1=ja by omega]
    rw[← e2];simp
   exact O.asym (hlst x hx y e3))
  have el:(lsS xa xb ou ja jb).toList=ou.toList++xb.toList.drop jb++xa.toList.drop ja:=by unfold lsS;rw[Array.toList_append,Array.toList_append,ext_drop,ext_drop]
  exact h _ _ (by rw[el];exact p1) (by rw[el];exact p2) ss
 have mi0:MI ltb xa.toList xb.toList [z] 0 1:=MI.start (y0:=z) sb (by simpa using hz) hfst
 rw[mloS_eq]
 refine wpS_bind (wpS_lift (wpAny_rule ⟨rfl,?_⟩))
 refine wpS_bind (wpS_elem hz ?_)
 dsimp only
 by_cases c1:1=xb.size
 ·rw[if_pos (by simpa using c1)]
  exact wpS_pure (mdone #[z] 0 1 st mi0 c1 hS)
 rw[if_neg (by simpa using c1)]
 by_cases c2:0+1=xa.size
 ·rw[if_pos (by simpa using c2)]
  exact wpS_pure (mlast #[z] 0 1 st mi0 c2 hS)
 rw[if_neg (by simpa using c2)]
 refine wpS_bind (wpS_get ?_)
 have at1:∀{x:Array Keyed}{j:Nat},j<x.size→∃u,x[j]? = some u:=fun {x j} hj=>⟨_,Array.getElem?_eq_getElem hj⟩
 refine wpS_bind (wpS_mono (wpS_forRange
  (I:=fun x c st'=>SS κ st st'∧∃ou ja jb mg,c =(none,ou,ja,jb,mg)∧MI ltb xa.toList xb.toList ou.toList ja jb∧ja+1<xa.size∧jb<xb.size∧x+1≤ja+jb)
  (Q:=fun c st'=>∃r ou ja jb mg,c =(some r,ou,ja,jb,mg)∧Q r st') ?stp ?fin ⟨hS,#[z],0,1,_,rfl,mi0,by omega,by omega,by omega⟩) ?post)
 case fin =>
  rintro c st' ⟨ss,ou,ja,jb,mg,rfl,m,b1,b2,b3⟩
  omega
 case post =>
  rintro c st' ⟨r,ou,ja,jb,mg,rfl,hq⟩
  exact wpS_pure hq
 case stp =>
  rintro x c st1 _ hx ⟨ss,ou,ja,jb,mg,rfl,m,b1,b2,b3⟩
  dsimp only
  refine wpS_bind (wpS_mono (wpS_forRange
   (I:=fun y c st'=>SS κ st st'∧∃ou' ja' jb' ca cb,c =(none,ou',ja',jb',ca,cb)∧MI ltb xa.toList xb.toList ou'.toList ja' jb'∧ja'+1<xa.size∧jb'<xb.size∧ja+jb+y≤ja'+jb')
   (Q:=fun c st'=>(∃r ou' ja' jb' ca cb,c =(some r,ou',ja',jb',ca,cb)∧Q r st') ∨(SS κ st st'∧∃ou' ja' jb' ca cb,c =(none,ou',ja',jb',ca,cb)∧MI ltb xa.toList xb.toList ou'.toList ja' jb'∧ja'+1<xa.size∧jb'<xb.size∧ja+jb+1≤ja'+jb')) ?stp1 ?fin1 ⟨ss,ou,ja,jb,0,0,rfl,m,b1,b2,by omega⟩) ?post1)
  case fin1 =>
   rintro c st' ⟨ss,ou',ja',jb',ca,cb,rfl,m,d1,d2,d3⟩
   exact .inr ⟨ss,ou',ja',jb',ca,cb,rfl,m,d1,d2,by omega⟩
  case stp1 =>
   rintro y c st2 _ hy ⟨ss,ou',ja',jb',ca,cb,rfl,m,d1,d2,d3⟩
   dsimp only
   obtain⟨vb,hvb⟩:=at1 (x:=xb) d2
   obtain⟨va,hva⟩:=at1 (x:=xa) (j:=ja') (by omega)
   refine wpS_bind (wpS_elem hvb (wpS_bind (wpS_elem hva (wpS_bind (hO vb va _ _ (Sb _ (arr_mem hvb)) (Sa _ (arr_mem hva)) ss.kind ?_)))))
   dsimp only
   cases hw:ltb vb va with
   | true =>
    simp only[if_true]
    have m2:=m.pB O sa sb hvb hva (O.asym hw)
    refine wpS_bind (wpS_elem hvb ?_)
    by_cases e1:jb'+1=xb.size
    ·rw[if_pos (by simpa using e1)]
     exact wpS_pure (.inl ⟨_,_,_,_,_,_,rfl,mdone _ _ _ _ m2 e1 ss⟩)
    ·rw[if_neg (by simpa using e1)]
     split
     ·exact wpS_pure (.inr ⟨ss,_,_,_,_,_,rfl,m2,d1,by omega,by omega⟩)
     ·exact wpS_pure ⟨ss,_,_,_,_,_,rfl,m2,d1,by omega,by omega⟩
   | false =>
    simp only[Bool.false_eq_true,if_false]
    have m2:=m.pA O sa sb hvb hva hw
    refine wpS_bind (wpS_elem hva ?_)
    by_cases e1:ja'+1+1=xa.size
    ·rw[if_pos (by simpa using e1)]
     exact wpS_pure (.inl ⟨_,_,_,_,_,_,rfl,mlast _ _ _ _ m2 e1 ss⟩)
    ·rw[if_neg (by simpa using e1)]
     split
     ·exact wpS_pure (.inr ⟨ss,_,_,_,_,_,rfl,m2,by omega,d2,by omega⟩)
     ·exact wpS_pure ⟨ss,_,_,_,_,_,rfl,m2,by omega,d2,by omega⟩
  case post1 =>
   rintro c st2 (⟨r,ou',ja',jb',ca,cb,rfl,hq⟩|⟨ss,ou',ja',jb',ca,cb,rfl,m,d1,d2,d3⟩)
   ·exact wpS_pure ⟨r,_,_,_,_,rfl,hq⟩
   dsimp only
   refine wpS_bind (wpS_lift (wpAny_rule ⟨rfl,?_⟩))
   refine wpS_bind (wpS_mono (wpS_forRange
    (I:=fun y c st'=>SS κ st st'∧∃ou' ja' jb' mg ca cb,c =(none,ou',ja',jb',mg,ca,cb)∧MI ltb xa.toList xb.toList ou'.toList ja' jb'∧ja'+1<xa.size∧jb'<xb.size∧ja+jb+1≤ja'+jb')
    (Q:=fun c st'=>(∃r ou' ja' jb' mg ca cb,c =(some r,ou',ja',jb',mg,ca,cb)∧Q r st') ∨(SS κ st st'∧∃ou' ja' jb' mg ca cb,c =(none,ou',ja',jb',mg,ca,cb)∧MI ltb xa.toList xb.toList ou'.toList ja' jb'∧ja'+1<xa.size∧jb'<xb.size∧ja+jb+1≤ja'+jb')) ?stp2 ?fin2 ⟨ss,ou',ja',jb',_,ca,cb,rfl,m,d1,d2,d3⟩) ?post2)
   case fin2 =>
    rintro c st' hh
    exact .inr hh
   case post2 =>
    rintro c st3 (⟨r,ou2,ja2,jb2,mg2,ca2,cb2,rfl,hq⟩|⟨ss,ou2,ja2,jb2,mg2,ca2,cb2,rfl,m,f1,f2,f3⟩)
    ·exact wpS_pure ⟨r,_,_,_,_,rfl,hq⟩
    ·dsimp only
     refine wpS_bind (wpS_modify ?_)
     exact wpS_pure ⟨ss.smg _,_,_,_,_,rfl,m,f1,f2,by omega⟩
   case stp2 =>
    rintro y c st3 _ hy ⟨ss,ou2,ja2,jb2,mg2,ca2,cb2,rfl,m,f1,f2,f3⟩
    dsimp only
    obtain⟨vb,hvb⟩:=at1 (x:=xb) f2
    have sxa:∀(q:Nat) i j u v,i<j→j<xa.size-q→xa[q+i]? = some u→xa[q+j]? = some v→leB ltb u v:=fun q i j u v hij _ hu hv=>arr_le sa (by omega) hu hv
    have sxb:∀(q:Nat) i j u v,i<j→j<xb.size-q→xb[q+i]? = some u→xb[q+j]? = some v→leB ltb u v:=fun q i j u v hij _ hu hv=>arr_le sb (by omega) hu hv
    obtain⟨vl,hvl⟩:=at1 (x:=xa) (j:=xa.size-1) (by omega)
    have hbl:=hlst vb (arr_mem hvb) vl hvl
    by_cases hg:mg2 > 1
    ·rw[if_pos hg]
     refine wpS_bind (wpS_modify ?_)
     have ss2:=ss.smg (mg2-1)
     refine wpS_bind (wpS_elem hvb (wpS_bind (wpS_galR O hO ss2.kind (Sb _ (arr_mem hvb)) Sa (sxa ja2) (by omega) (by omega) fun k hk1 hk2 hk3=>?_)))
     have hkl:k<xa.size-ja2:=by
      by_cases q:k<xa.size-ja2
      ·exact q
      ·have:=hk2 (xa.size-ja2-1) (by omega) vl (by rw[show ja2+(xa.size-ja2-1)=xa.size-1 by omega];exact hvl)
       unfold leB at this
       rw[hbl]at this;cases this
     dsimp only
     by_cases kp:k > 0
     ·rw[if_pos kp]
      have M3:=m.eA O sa sb (k:=k) (by omega) hvb hk2
      by_cases e0:ja2+k+1=xa.size
      ·rw[if_pos (by simpa using e0)]
       exact wpS_pure (.inl ⟨_,_,_,_,_,_,_,rfl,mlast _ _ _ _ M3 e0 ss2⟩)
      rw[if_neg (by simpa using e0),if_neg (by simp;omega)]
      obtain⟨va,hva⟩:=at1 (x:=xa) (j:=ja2+k) (by omega)
      have hw:=hk3 k (Nat.le_refl _) hkl va hva
      refine wpS_bind (wpS_elem hvb ?_)
      have m4:=M3.pB O sa sb hvb hva (O.asym hw)
      by_cases e1:jb2+1=xb.size
      ·rw[if_pos (by simpa using e1)]
       exact wpS_pure (.inl ⟨_,_,_,_,_,_,_,rfl,mdone _ _ _ _ m4 e1 ss2⟩)
      rw[if_neg (by simpa using e1)]
      refine wpS_bind (wpS_elem hva (wpS_bind (wpS_galL O hO ss2.kind (Sa _ (arr_mem hva)) Sb (sxb (jb2+1)) (by omega) (by omega) fun k2 g1 g2 g3=>?_)))
      dsimp only
      by_cases k2p:k2 > 0
      ·rw[if_pos k2p]
       have m5:=m4.eB O sa sb (k:=k2) (by omega) hva (fun i hi u hu=>O.asym (g2 i hi u hu))
       by_cases e2:jb2+1+k2=xb.size
       ·rw[if_pos (by simpa using e2)]
        exact wpS_pure (.inl ⟨_,_,_,_,_,_,_,rfl,mdone _ _ _ _ m5 e2 ss2⟩)
       rw[if_neg (by simpa using e2)]
       obtain⟨vb2,hvb2⟩:=at1 (x:=xb) (j:=jb2+1+k2) (by omega)
       have m6:=m5.pA O sa sb hvb2 hva (g3 k2 (Nat.le_refl _) (by omega) vb2 hvb2)
       refine wpS_bind (wpS_elem hva ?_)
       by_cases e3:ja2+k+1+1=xa.size
       ·rw[if_pos (by simpa using e3)]
        exact wpS_pure (.inl ⟨_,_,_,_,_,_,_,rfl,mlast _ _ _ _ m6 e3 ss2⟩)
       rw[if_neg (by simpa using e3)]
       split
       ·exact wpS_pure (.inr ⟨ss2,_,_,_,_,_,_,rfl,m6,by omega,by omega,by omega⟩)
       ·exact wpS_pure ⟨ss2,_,_,_,_,_,_,rfl,m6,by omega,by omega,by omega⟩
      ·rw[if_neg k2p]
       obtain⟨vb2,hvb2⟩:=at1 (x:=xb) (j:=jb2+1) (by omega)
       have m6:=m4.pA O sa sb hvb2 hva (g3 0 (by omega) (by omega) vb2 hvb2)
       refine wpS_bind (wpS_elem hva ?_)
       by_cases e3:ja2+k+1+1=xa.size
       ·rw[if_pos (by simpa using e3)]
        exact wpS_pure (.inl ⟨_,_,_,_,_,_,_,rfl,mlast _ _ _ _ m6 e3 ss2⟩)
       rw[if_neg (by simpa using e3)]
       split
       ·exact wpS_pure (.inr ⟨ss2,_,_,_,_,_,_,rfl,m6,by omega,by omega,by omega⟩)
       ·exact wpS_pure ⟨ss2,_,_,_,_,_,_,rfl,m6,by omega,by omega,by omega⟩
     ·rw[if_neg kp]
      have M3:=m
      obtain⟨va,hva⟩:=at1 (x:=xa) (j:=ja2) (by omega)
      have hw:=hk3 0 (by omega) (by omega) va hva
      refine wpS_bind (wpS_elem hvb ?_)
      have m4:=M3.pB O sa sb hvb hva (O.asym hw)
      by_cases e1:jb2+1=xb.size
      ·rw[if_pos (by simpa using e1)]
       exact wpS_pure (.inl ⟨_,_,_,_,_,_,_,rfl,mdone _ _ _ _ m4 e1 ss2⟩)
      rw[if_neg (by simpa using e1)]
      refine wpS_bind (wpS_elem hva (wpS_bind (wpS_galL O hO ss2.kind (Sa _ (arr_mem hva)) Sb (sxb (jb2+1)) (by omega) (by omega) fun k2 g1 g2 g3=>?_)))
      dsimp only
      by_cases k2p:k2 > 0
      ·rw[if_pos k2p]
       have m5:=m4.eB O sa sb (k:=k2) (by omega) hva (fun i hi u hu=>O.asym (g2 i hi u hu))
       by_cases e2:jb2+1+k2=xb.size
       ·rw[if_pos (by simpa using e2)]
        exact wpS_pure (.inl ⟨_,_,_,_,_,_,_,rfl,mdone _ _ _ _ m5 e2 ss2⟩)
       rw[if_neg (by simpa using e2)]
       obtain⟨vb2,hvb2⟩:=at1 (x:=xb) (j:=jb2+1+k2) (by omega)
       have m6:=m5.pA O sa sb hvb2 hva (g3 k2 (Nat.le_refl _) (by omega) vb2 hvb2)
       refine wpS_bind (wpS_elem hva ?_)
       by_cases e3:ja2+1+1=xa.size
       ·rw[if_pos (by simpa using e3)]
        exact wpS_pure (.inl ⟨_,_,_,_,_,_,_,rfl,mlast _ _ _ _ m6 e3 ss2⟩)
       rw[if_neg (by simpa using e3)]
       split
       ·exact wpS_pure (.inr ⟨ss2,_,_,_,_,_,_,rfl,m6,by omega,by omega,by omega⟩)
       ·exact wpS_pure ⟨ss2,_,_,_,_,_,_,rfl,m6,by omega,by omega,by omega⟩
      ·rw[if_neg k2p]
       obtain⟨vb2,hvb2⟩:=at1 (x:=xb) (j:=jb2+1) (by omega)
       have m6:=m4.pA O sa sb hvb2 hva (g3 0 (by omega) (by omega) vb2 hvb2)
       refine wpS_bind (wpS_elem hva ?_)
       by_cases e3:ja2+1+1=xa.size
       ·rw[if_pos (by simpa using e3)]
        exact wpS_pure (.inl ⟨_,_,_,_,_,_,_,rfl,mlast _ _ _ _ m6 e3 ss2⟩)
       rw[if_neg (by simpa using e3)]
       split
       ·exact wpS_pure (.inr ⟨ss2,_,_,_,_,_,_,rfl,m6,by omega,by omega,by omega⟩)
       ·exact wpS_pure ⟨ss2,_,_,_,_,_,_,rfl,m6,by omega,by omega,by omega⟩
    ·rw[if_neg hg]
     refine wpS_bind (wpS_modify ?_)
     have ss2:=ss.smg mg2
     refine wpS_bind (wpS_elem hvb (wpS_bind (wpS_galR O hO ss2.kind (Sb _ (arr_mem hvb)) Sa (sxa ja2) (by omega) (by omega) fun k hk1 hk2 hk3=>?_)))
     have hkl:k<xa.size-ja2:=by
      by_cases q:k<xa.size-ja2
      ·exact q
      ·have:=hk2 (xa.size-ja2-1) (by omega) vl (by rw[show ja2+(xa.size-ja2-1)=xa.size-1 by omega];exact hvl)
       unfold leB at this
       rw[hbl]at this;cases this
     dsimp only
     by_cases kp:k > 0
     ·rw[if_pos kp]
      have M3:=m.eA O sa sb (k:=k) (by omega) hvb hk2
      by_cases e0:ja2+k+1=xa.size
      ·rw[if_pos (by simpa using e0)]
       exact wpS_pure (.inl ⟨_,_,_,_,_,_,_,rfl,mlast _ _ _ _ M3 e0 ss2⟩)
      rw[if_neg (by simpa using e0),if_neg (by simp;omega)]
      obtain⟨va,hva⟩:=at1 (x:=xa) (j:=ja2+k) (by omega)
      have hw:=hk3 k (Nat.le_refl _) hkl va hva
      refine wpS_bind (wpS_elem hvb ?_)
      have m4:=M3.pB O sa sb hvb hva (O.asym hw)
      by_cases e1:jb2+1=xb.size
      ·rw[if_pos (by simpa using e1)]
       exact wpS_pure (.inl ⟨_,_,_,_,_,_,_,rfl,mdone _ _ _ _ m4 e1 ss2⟩)
      rw[if_neg (by simpa using e1)]
      refine wpS_bind (wpS_elem hva (wpS_bind (wpS_galL O hO ss2.kind (Sa _ (arr_mem hva)) Sb (sxb (jb2+1)) (by omega) (by omega) fun k2 g1 g2 g3=>?_)))
      dsimp only
      by_cases k2p:k2 > 0
      ·rw[if_pos k2p]
       have m5:=m4.eB O sa sb (k:=k2) (by omega) hva (fun i hi u hu=>O.asym (g2 i hi u hu))
       by_cases e2:jb2+1+k2=xb.size
       ·rw[if_pos (by simpa using e2)]
        exact wpS_pure (.inl ⟨_,_,_,_,_,_,_,rfl,mdone _ _ _ _ m5 e2 ss2⟩)
       rw[if_neg (by simpa using e2)]
       obtain⟨vb2,hvb2⟩:=at1 (x:=xb) (j:=jb2+1+k2) (by omega)
       have m6:=m5.pA O sa sb hvb2 hva (g3 k2 (Nat.le_refl _) (by omega) vb2 hvb2)
       refine wpS_bind (wpS_elem hva ?_)
       by_cases e3:ja2+k+1+1=xa.size
       ·rw[if_pos (by simpa using e3)]
        exact wpS_pure (.inl ⟨_,_,_,_,_,_,_,rfl,mlast _ _ _ _ m6 e3 ss2⟩)
       rw[if_neg (by simpa using e3)]
       split
       ·exact wpS_pure (.inr ⟨ss2,_,_,_,_,_,_,rfl,m6,by omega,by omega,by omega⟩)
       ·exact wpS_pure ⟨ss2,_,_,_,_,_,_,rfl,m6,by omega,by omega,by omega⟩
      ·rw[if_neg k2p]
       obtain⟨vb2,hvb2⟩:=at1 (x:=xb) (j:=jb2+1) (by omega)
       have m6:=m4.pA O sa sb hvb2 hva (g3 0 (by omega) (by omega) vb2 hvb2)
       refine wpS_bind (wpS_elem hva ?_)
       by_cases e3:ja2+k+1+1=xa.size
       ·rw[if_pos (by simpa using e3)]
        exact wpS_pure (.inl ⟨_,_,_,_,_,_,_,rfl,mlast _ _ _ _ m6 e3 ss2⟩)
       rw[if_neg (by simpa using e3)]
       split
       ·exact wpS_pure (.inr ⟨ss2,_,_,_,_,_,_,rfl,m6,by omega,by omega,by omega⟩)
       ·exact wpS_pure ⟨ss2,_,_,_,_,_,_,rfl,m6,by omega,by omega,by omega⟩
     ·rw[if_neg kp]
      have M3:=m
      obtain⟨va,hva⟩:=at1 (x:=xa) (j:=ja2) (by omega)
      have hw:=hk3 0 (by omega) (by omega) va hva
      refine wpS_bind (wpS_elem hvb ?_)
      have m4:=M3.pB O sa sb hvb hva (O.asym hw)
      by_cases e1:jb2+1=xb.size
      ·rw[if_pos (by simpa using e1)]
       exact wpS_pure (.inl ⟨_,_,_,_,_,_,_,rfl,mdone _ _ _ _ m4 e1 ss2⟩)
      rw[if_neg (by simpa using e1)]
      refine wpS_bind (wpS_elem hva (wpS_bind (wpS_galL O hO ss2.kind (Sa _ (arr_mem hva)) Sb (sxb (jb2+1)) (by omega) (by omega) fun k2 g1 g2 g3=>?_)))
      dsimp only
      by_cases k2p:k2 > 0
      ·rw[if_pos k2p]
       have m5:=m4.eB O sa sb (k:=k2) (by omega) hva (fun i hi u hu=>O.asym (g2 i hi u hu))
       by_cases e2:jb2+1+k2=xb.size
       ·rw[if_pos (by simpa using e2)]
        exact wpS_pure (.inl ⟨_,_,_,_,_,_,_,rfl,mdone _ _ _ _ m5 e2 ss2⟩)
       rw[if_neg (by simpa using e2)]
       obtain⟨vb2,hvb2⟩:=at1 (x:=xb) (j:=jb2+1+k2) (by omega)
       have m6:=m5.pA O sa sb hvb2 hva (g3 k2 (Nat.le_refl _) (by omega) vb2 hvb2)
       refine wpS_bind (wpS_elem hva ?_)
       by_cases e3:ja2+1+1=xa.size
       ·rw[if_pos (by simpa using e3)]
        exact wpS_pure (.inl ⟨_,_,_,_,_,_,_,rfl,mlast _ _ _ _ m6 e3 ss2⟩)
       rw[if_neg (by simpa using e3)]
       split
       ·exact wpS_pure (.inr ⟨ss2,_,_,_,_,_,_,rfl,m6,by omega,by omega,by omega⟩)
       ·exact wpS_pure ⟨ss2,_,_,_,_,_,_,rfl,m6,by omega,by omega,by omega⟩
      ·rw[if_neg k2p]
       obtain⟨vb2,hvb2⟩:=at1 (x:=xb) (j:=jb2+1) (by omega)
       have m6:=m4.pA O sa sb hvb2 hva (g3 0 (by omega) (by omega) vb2 hvb2)
       refine wpS_bind (wpS_elem hva ?_)
       by_cases e3:ja2+1+1=xa.size
       ·rw[if_pos (by simpa using e3)]
        exact wpS_pure (.inl ⟨_,_,_,_,_,_,_,rfl,mlast _ _ _ _ m6 e3 ss2⟩)
       rw[if_neg (by simpa using e3)]
       split
       ·exact wpS_pure (.inr ⟨ss2,_,_,_,_,_,_,rfl,m6,by omega,by omega,by omega⟩)
       ·exact wpS_pure ⟨ss2,_,_,_,_,_,_,rfl,m6,by omega,by omega,by omega⟩
end
end L2
namespace L2
open PySem PySem.Spec PyProof.Rows
def mhiS:Array Keyed→Array Keyed→StateT SortSt Sem (Array Keyed):=sortPriv% PySem.Builtin.mergeHi
def dhS (xa xb ou:Array Keyed) (na nb:Nat):Array Keyed:=xa.extract 0 na++xb.extract 0 nb++ou.reverse
def fhS (xa xb ou:Array Keyed) (na nb:Nat):Array Keyed:=xb.extract 0 nb++xa.extract 0 na++ou.reverse
theorem mhiS_eq (xa xb:Array Keyed):mhiS xa xb =(do
 rule "list.sort.merge-hi"
 let mut qa:=xa.size-1
 let mut qb:=xb.size
 let mut ou:Array Keyed:=#[← elem' xa qa]
 if qa == 0 then return dhS xa xb ou qa qb
 if qb == 1 then return fhS xa xb ou qa qb
 let mut mg:=gallopOf (← get)
 for _ in [0:xa.size+xb.size] do
  let mut ca:=0
  let mut cb:=0
  for _ in [0:xa.size+xb.size] do
   let some aw ← lt' (← elem' xb (qb-1)) (← elem' xa (qa-1))|return dhS xa xb ou qa qb
   if aw then
    qa:=qa-1;ou:=ou.push (← elem' xa qa);ca:=ca+1;cb:=0
    if qa == 0 then return dhS xa xb ou qa qb
    if ca ≥ mg then break
   else
    qb:=qb-1;ou:=ou.push (← elem' xb qb);cb:=cb+1;ca:=0
    if qb == 1 then return fhS xa xb ou qa qb
    if cb ≥ mg then break
  rule "list.sort.gallop"
  mg:=mg+1
  for _ in [0:xa.size+xb.size] do
   if mg > 1 then mg:=mg-1
   smgS mg
   let some tt ← galS false (← elem' xb (qb-1)) xa 0 qa (qa-1)|return dhS xa xb ou qa qb
   let kk:=qa-tt
   ca:=kk
   if kk > 0 then
    ou:=ou++(xa.extract tt qa).reverse;qa:=tt
    if qa == 0 then return dhS xa xb ou qa qb
   qb:=qb-1;ou:=ou.push (← elem' xb qb)
   if qb == 1 then return fhS xa xb ou qa qb
   let some tt ← galS true (← elem' xa (qa-1)) xb 0 qb (qb-1)|return dhS xa xb ou qa qb
   let kk:=qb-tt
   cb:=kk
   if kk > 0 then
    ou:=ou++(xb.extract tt qb).reverse;qb:=tt
    if qb == 1 then return fhS xa xb ou qa qb
    if qb == 0 then return dhS xa xb ou qa qb
   qa:=qa-1;ou:=ou.push (← elem' xa qa)
   if qa == 0 then return dhS xa xb ou qa qb
   if ca<7 && cb<7 then break
  mg:=mg+1
  smgS mg
 unsupported "internal:list.sort.merge-bound"):=rfl
def flipB (ltb:Keyed→Keyed→Bool):Keyed→Keyed→Bool:=fun x y=>ltb y x
theorem OrdB.flip {ltb:Keyed→Keyed→Bool}(O:OrdB ltb):OrdB (flipB ltb):=⟨fun h=>O.asym h,fun h1 h2=>O.tr h2 h1⟩
section
variable {ltb:Keyed→Keyed→Bool}{xa xb ou:Array Keyed}{na nb k:Nat}
theorem rev_rise {l:List Keyed}(h:l.Pairwise (leB ltb)):l.reverse.Pairwise (leB (flipB ltb)):=by
 rw[List.pairwise_reverse]
 exact h
theorem rise_rev {l:List Keyed}(h:l.Pairwise (leB (flipB ltb))):l.reverse.Pairwise (leB ltb):=by
 rw[List.pairwise_reverse]
 exact h
def HI (ltb:Keyed→Keyed→Bool) (xa xb ou:Array Keyed) (na nb:Nat):Prop:=MI (flipB ltb) xb.toList.reverse xa.toList.reverse ou.toList (xb.size-nb) (xa.size-na)
theorem rev_drop (x:Array Keyed) {n:Nat}(h:n≤x.size):x.toList.reverse.drop (x.size-n) =(x.toList.take n).reverse:=by
 rw[List.drop_reverse,Array.length_toList,show x.size-(x.size-n)=n by omega]
theorem rev_part (x:Array Keyed) {n t:Nat}(h:n≤x.size) (ht:t≤n):(x.toList.reverse.drop (x.size-n)).take (n-t) =((x.toList.take n).drop t).reverse:=by
 rw[rev_drop x h,List.take_reverse,List.length_take,Array.length_toList,show min n x.size-(n-t)=t by omega]
theorem rev_get (x:Array Keyed) {n:Nat}(h1:1≤n) (h:n≤x.size):x.toList.reverse[x.size-n]? = x[n-1]?:=by
 rw[List.getElem?_reverse (by rw[Array.length_toList];omega),Array.length_toList]
 rw[show x.size-1-(x.size-n)=n-1 by omega]
 simp
theorem HI.chA (O:OrdB ltb) (sa:xa.toList.Pairwise (leB ltb)) (sb:xb.toList.Pairwise (leB ltb)) (m:HI ltb xa xb ou na nb) {t:Nat}(ha:na≤xa.size) (ht:t≤na) (hb1:1≤nb) (hb:nb≤xb.size) {b:Keyed}(hvb:xb[nb-1]? = some b)
  (c:∀i,t≤i→i<na→∀x,xa[i]? = some x→leB ltb b x) {ou2:Array Keyed}(eo:ou2.toList=ou.toList++((xa.toList.take na).drop t).reverse):HI ltb xa xb ou2 t nb:=by
 have q:=MI.stepB O.flip (rev_rise sb) (rev_rise sa) m (k:=na-t) (by rw[List.length_reverse,Array.length_toList];omega) (z:=b) (by rw[rev_get xb hb1 hb];exact hvb) (fun y hy=>by
  rw[rev_part xa ha ht,List.mem_reverse]at hy
  obtain⟨i,hi,e⟩:=List.getElem_of_mem hy
  rw[List.length_drop,List.length_take,Array.length_toList]at hi
  rw[List.getElem_drop,List.getElem_take]at e
  exact c (t+i) (by omega) (by omega) y (by rw[Array.getElem?_eq_getElem (by omega)];simpa using e))
 rw[rev_part xa ha ht,← eo]at q
 unfold HI
 rw[show xa.size-t=xa.size-na+(na-t) by omega]
 exact q
theorem HI.chB (O:OrdB ltb) (sa:xa.toList.Pairwise (leB ltb)) (sb:xb.toList.Pairwise (leB ltb)) (m:HI ltb xa xb ou na nb) {t:Nat}(hb:nb≤xb.size) (ht:t≤nb) (ha1:1≤na) (ha:na≤xa.size) {a:Keyed}(hva:xa[na-1]? = some a)
  (c:∀i,t≤i→i<nb→∀x,xb[i]? = some x→leB ltb a x) {ou2:Array Keyed}(eo:ou2.toList=ou.toList++((xb.toList.take nb).drop t).reverse):HI ltb xa xb ou2 na t:=by
 have q:=MI.stepA O.flip (rev_rise sb) (rev_rise sa) m (k:=nb-t) (by rw[List.length_reverse,Array.length_toList];omega) (z:=a) (by rw[rev_get xa ha1 ha];exact hva) (fun y hy=>by
  rw[rev_part xb hb ht,List.mem_reverse]at hy
  obtain⟨i,hi,e⟩:=List.getElem_of_mem hy
  rw[List.length_drop,List.length_take,Array.length_toList]at hi
  rw[List.getElem_drop,List.getElem_take]at e
  exact c (t+i) (by omega) (by omega) y (by rw[Array.getElem?_eq_getElem (by omega)];simpa using e))
 rw[rev_part xb hb ht,← eo]at q
 unfold HI
 rw[show xb.size-t=xb.size-nb+(nb-t) by omega]
 exact q
theorem one_rev {x:Array Keyed}{n:Nat}(h1:1≤n) (h:n≤x.size) {v:Keyed}(hv:x[n-1]? = some v):((x.toList.take n).drop (n-1)).reverse=[v]:=by
 have e:=(Array.getElem?_eq_some_iff.mp hv).2
 rw[List.drop_eq_getElem_cons (by rw[List.length_take,Array.length_toList];omega)]
 rw[List.drop_eq_nil_of_le (by rw[List.length_take,Array.length_toList];omega)]
 rw[List.getElem_take]
 simp[e]
theorem HI.done (sb:xb.toList.Pairwise (leB ltb)) (m:HI ltb xa xb ou 0 nb) (hb:nb≤xb.size):(dhS xa xb ou 0 nb).toList.Pairwise (leB ltb)∧(dhS xa xb ou 0 nb).toList.Perm (xa.toList++xb.toList):=by
 obtain⟨p1,p2⟩:=MI.done (rev_rise sb) m (by rw[List.length_reverse,Array.length_toList];omega)
 have el:(dhS xa xb ou 0 nb).toList =(ou.toList++xb.toList.reverse.drop (xb.size-nb)++xa.toList.reverse.drop (xa.size-0)).reverse:=by
  unfold dhS
  rw[rev_drop xb hb,rev_drop xa (Nat.zero_le _)]
  simp
 rw[el]
 refine⟨rise_rev p1,((List.reverse_perm _).trans p2).trans ?_⟩
 refine List.perm_append_comm.trans ?_
 exact List.Perm.append (List.reverse_perm _) (List.reverse_perm _)
theorem HI.first (sa:xa.toList.Pairwise (leB ltb)) (sb:xb.toList.Pairwise (leB ltb)) (m:HI ltb xa xb ou na nb) (ha:na≤xa.size) (hb:nb≤xb.size) (h:∀x∈xa.toList,∀y∈xb.toList.take nb,leB ltb y x) :
  (fhS xa xb ou na nb).toList.Pairwise (leB ltb)∧(fhS xa xb ou na nb).toList.Perm (xa.toList++xb.toList):=by
 obtain⟨p1,p2⟩:=MI.last (rev_rise sb) (rev_rise sa) m (fun x hx y hy=>by
  rw[rev_drop xb hb,List.mem_reverse]at hy
  exact h x (List.mem_reverse.mp hx) y hy)
 have el:(fhS xa xb ou na nb).toList =(ou.toList++xa.toList.reverse.drop (xa.size-na)++xb.toList.reverse.drop (xb.size-nb)).reverse:=by
  unfold fhS
  rw[rev_drop xb hb,rev_drop xa ha]
  simp
 rw[el]
 refine⟨rise_rev p1,((List.reverse_perm _).trans p2).trans ?_⟩
 refine List.perm_append_comm.trans ?_
 exact List.Perm.append (List.reverse_perm _) (List.reverse_perm _)
end
end L2
namespace L2
open PySem PySem.Spec PyProof.Rows
section
variable {prog:Program}{w:World}{A:Around}{E:Value→Shared→Prop}{s:Shared}{ltb:Keyed→Keyed→Bool}{S:Keyed→Prop}{κ:SortKind}
local macro_rules | `(tactic| omega)=>`(tactic| omega (config:={}))
theorem wpS_mhi (O:OrdB ltb) (hO:LtOk prog w A E s ltb S κ) {xa xb:Array Keyed}{st:SortSt}{Q:Array Keyed→SortSt→Prop}(Sa:∀x∈xa.toList,S x) (Sb:∀x∈xb.toList,S x) (sa:xa.toList.Pairwise (leB ltb)) (sb:xb.toList.Pairwise (leB ltb))
  {z zl:Keyed}(hz:xb[0]? = some z) (hfst:∀y∈xa.toList,ltb z y=true) (hzl:xa[xa.size-1]? = some zl) (hlst:∀x∈xb.toList,ltb x zl=true) (hS:SS κ st st)
  (h:∀r st',r.toList.Pairwise (leB ltb)→r.toList.Perm (xa.toList++xb.toList)→SS κ st st'→Q r st'):wpS (model prog w) A E s (mhiS xa xb) Q st:=by
 have hb0:0<xb.size:=(Array.getElem?_eq_some_iff.mp hz).1
 have ha0:0<xa.size:=by have:=(Array.getElem?_eq_some_iff.mp hzl).1;omega
 have mdone:∀(ou:Array Keyed) (na nb:Nat) (st':SortSt),HI ltb xa xb ou na nb→na=0→nb≤xb.size→SS κ st st'→Q (dhS xa xb ou na nb) st':=fun ou na nb st' m e hb ss=>by
  subst e
  obtain⟨p1,p2⟩:=m.done sb hb
  exact h _ _ p1 p2 ss
 have mfirst:∀(ou:Array Keyed) (na nb:Nat) (st':SortSt),HI ltb xa xb ou na nb→nb=1→na≤xa.size→SS κ st st'→Q (fhS xa xb ou na nb) st':=fun ou na nb st' m e ha ss=>by
  subst e
  obtain⟨p1,p2⟩:=m.first sa sb ha (by omega) (fun x hx y hy=>by
   have e1:xb.toList.take 1=[z]:=by have:=one_at hz;simpa using this
   rw[e1]at hy
   simp at hy
   rw[hy]
   exact O.asym (hfst x hx))
  exact h _ _ p1 p2 ss
 have mi0:HI ltb xa xb #[zl] (xa.size-1) xb.size:=by
  unfold HI
  rw[Nat.sub_self,show xa.size-(xa.size-1)=1 by omega]
  refine MI.start (y0:=zl) (rev_rise sa) ?_ (fun y hy=>O.asym (hlst y (List.mem_reverse.mp hy)))
  have:=rev_get xa (n:=xa.size) (by omega) (Nat.le_refl _)
  rw[Nat.sub_self]at this
  rw[this];exact hzl
 have at1:∀{x:Array Keyed}{j:Nat},j<x.size→∃u,x[j]? = some u:=fun {x j} hj=>⟨_,Array.getElem?_eq_getElem hj⟩
 have push1:∀(ou:Array Keyed) {x:Array Keyed}{n:Nat}{v:Keyed},1≤n→n≤x.size→x[n-1]? = some v→(ou.push v).toList=ou.toList++((x.toList.take n).drop (n-1)).reverse:=fun ou x n v h1 h2 h3=>by
  rw[one_rev h1 h2 h3];simp
 have ext1:∀(ou x:Array Keyed) (t n:Nat),(ou++(x.extract t n).reverse).toList=ou.toList++((x.toList.take n).drop t).reverse:=fun ou x t n=>by
  rw[Array.toList_append,Array.toList_reverse,Array.toList_extract]
  show ou.toList++(List.take (n-t) (List.drop t x.toList)).reverse=_
  rw[List.drop_take]
 rw[mhiS_eq]
 refine wpS_bind (wpS_lift (wpAny_rule ⟨rfl,?_⟩))
 refine wpS_bind (wpS_elem hzl ?_)
 by_cases c1:xa.size-1=0
 ·rw[if_pos (by simpa using c1)]
  exact wpS_pure (mdone #[zl] _ _ st mi0 c1 (Nat.le_refl _) hS)
 rw[if_neg (by simpa using c1)]
 by_cases c2:xb.size=1
 ·rw[if_pos (by simpa using c2)]
  exact wpS_pure (mfirst #[zl] _ _ st mi0 c2 (by omega) hS)
 rw[if_neg (by simpa using c2)]
 refine wpS_bind (wpS_get ?_)
 refine wpS_bind (wpS_mono (wpS_forRange
  (I:=fun x c st'=>SS κ st st'∧∃qa qb ou mg,c =(none,qa,qb,ou,mg)∧HI ltb xa xb ou qa qb∧1≤qa∧qa≤xa.size∧2≤qb∧qb≤xb.size∧x+1+qa+qb≤xa.size+xb.size)
  (Q:=fun c st'=>∃r qa qb ou mg,c =(some r,qa,qb,ou,mg)∧Q r st') ?stp ?fin ⟨hS,_,_,#[zl],_,rfl,mi0,by omega,by omega,by omega,by omega,by omega⟩) ?post)
 case fin =>
  rintro c st' ⟨ss,qa,qb,ou,mg,rfl,m,b1,b2,b3,b4,b5⟩
  omega
 case post =>
  rintro c st' ⟨r,qa,qb,ou,mg,rfl,hq⟩
  exact wpS_pure hq
 case stp =>
  rintro x c st1 _ hx ⟨ss,qa0,qb0,ou,mg,rfl,m,b1,b2,b3,b4,b5⟩
  dsimp only
  refine wpS_bind (wpS_mono (wpS_forRange
   (I:=fun y c st'=>SS κ st st'∧∃qa qb ou ca cb,c =(none,qa,qb,ou,ca,cb)∧HI ltb xa xb ou qa qb∧1≤qa∧qa≤xa.size∧2≤qb∧qb≤xb.size∧y+qa+qb≤qa0+qb0)
   (Q:=fun c st'=>(∃r qa qb ou ca cb,c =(some r,qa,qb,ou,ca,cb)∧Q r st') ∨(SS κ st st'∧∃qa qb ou ca cb,c =(none,qa,qb,ou,ca,cb)∧HI ltb xa xb ou qa qb∧1≤qa∧qa≤xa.size∧2≤qb∧qb≤xb.size∧1+qa+qb≤qa0+qb0)) ?stp1 ?fin1 ⟨ss,_,_,ou,0,0,rfl,m,b1,b2,b3,b4,by omega⟩) ?post1)
  case fin1 =>
   rintro c st' ⟨ss,qa,qb,ou,ca,cb,rfl,m,d1,d2,d3,d4,d5⟩
   exact .inr ⟨ss,_,_,_,_,_,rfl,m,d1,d2,d3,d4,by omega⟩
  case stp1 =>
   rintro y c st2 _ hy ⟨ss,qa,qb,ou,ca,cb,rfl,m,d1,d2,d3,d4,d5⟩
   dsimp only
   obtain⟨vb,hvb⟩:=at1 (x:=xb) (j:=qb-1) (by omega)
   obtain⟨va,hva⟩:=at1 (x:=xa) (j:=qa-1) (by omega)
   refine wpS_bind (wpS_elem hvb (wpS_bind (wpS_elem hva (wpS_bind (hO vb va _ _ (Sb _ (arr_mem hvb)) (Sa _ (arr_mem hva)) ss.kind ?_)))))
   dsimp only
   cases hw:ltb vb va with
   | true =>
    simp only[if_true]
    have m2:HI ltb xa xb (ou.push va) (qa-1) qb:=m.chA O sa sb d2 (by omega) (by omega) d4 hvb (fun i h1 h2 u hu=>by
     obtain rfl:i=qa-1:=by omega
     rw[hva]at hu;cases hu;exact O.asym hw) (push1 ou d1 d2 hva)
    refine wpS_bind (wpS_elem hva ?_)
    by_cases e1:qa-1=0
    ·rw[if_pos (by simpa using e1)]
     exact wpS_pure (.inl ⟨_,_,_,_,_,_,rfl,mdone _ _ _ _ m2 e1 d4 ss⟩)
    ·rw[if_neg (by simpa using e1)]
     split
     ·exact wpS_pure (.inr ⟨ss,_,_,_,_,_,rfl,m2,by omega,by omega,d3,d4,by omega⟩)
     ·exact wpS_pure ⟨ss,_,_,_,_,_,rfl,m2,by omega,by omega,d3,d4,by omega⟩
   | false =>
    simp only[Bool.false_eq_true,if_false]
    have m2:HI ltb xa xb (ou.push vb) qa (qb-1):=m.chB O sa sb d4 (by omega) d1 d2 hva (fun i h1 h2 u hu=>by
     obtain rfl:i=qb-1:=by omega
     rw[hvb]at hu;cases hu;exact hw) (push1 ou (by omega) d4 hvb)
    refine wpS_bind (wpS_elem hvb ?_)
    by_cases e1:qb-1=1
    ·rw[if_pos (by simpa using e1)]
     exact wpS_pure (.inl ⟨_,_,_,_,_,_,rfl,mfirst _ _ _ _ m2 e1 d2 ss⟩)
    ·rw[if_neg (by simpa using e1)]
     split
     ·exact wpS_pure (.inr ⟨ss,_,_,_,_,_,rfl,m2,d1,d2,by omega,by omega,by omega⟩)
     ·exact wpS_pure ⟨ss,_,_,_,_,_,rfl,m2,d1,d2,by omega,by omega,by omega⟩
  case post1 =>
   rintro c st2 (⟨r,qa,qb,ou,ca,cb,rfl,hq⟩|⟨ss,qa1,qb1,ou,ca,cb,rfl,m,d1,d2,d3,d4,d5⟩)
   ·exact wpS_pure ⟨r,_,_,_,_,rfl,hq⟩
   dsimp only
   refine wpS_bind (wpS_lift (wpAny_rule ⟨rfl,?_⟩))
   refine wpS_bind (wpS_mono (wpS_forRange
    (I:=fun y c st'=>SS κ st st'∧∃qa qb ou mg ca cb,c =(none,qa,qb,ou,mg,ca,cb)∧HI ltb xa xb ou qa qb∧1≤qa∧qa≤xa.size∧2≤qb∧qb≤xb.size∧1+qa+qb≤qa0+qb0)
    (Q:=fun c st'=>(∃r qa qb ou mg ca cb,c =(some r,qa,qb,ou,mg,ca,cb)∧Q r st') ∨(SS κ st st'∧∃qa qb ou mg ca cb,c =(none,qa,qb,ou,mg,ca,cb)∧HI ltb xa xb ou qa qb∧1≤qa∧qa≤xa.size∧2≤qb∧qb≤xb.size∧1+qa+qb≤qa0+qb0)) ?stp2 ?fin2 ⟨ss,_,_,_,_,ca,cb,rfl,m,d1,d2,d3,d4,d5⟩) ?post2)
   case fin2 =>
    rintro c st' hh
    exact .inr hh
   case post2 =>
    rintro c st3 (⟨r,qa,qb,ou2,mg2,ca2,cb2,rfl,hq⟩|⟨ss,qa,qb,ou2,mg2,ca2,cb2,rfl,m,f1,f2,f3,f4,f5⟩)
    ·exact wpS_pure ⟨r,_,_,_,_,rfl,hq⟩
    ·dsimp only
     refine wpS_bind (wpS_modify ?_)
     exact wpS_pure ⟨ss.smg _,_,_,_,_,rfl,m,f1,f2,f3,f4,by omega⟩
   case stp2 =>
    rintro y c st3 _ hy ⟨ss,qa,qb,ou2,mg2,ca2,cb2,rfl,m,f1,f2,f3,f4,f5⟩
    dsimp only
    obtain⟨vb,hvb⟩:=at1 (x:=xb) (j:=qb-1) (by omega)
    have sxa:∀(q:Nat) i j u v,i<j→j<q→xa[0+i]? = some u→xa[0+j]? = some v→leB ltb u v:=fun q i j u v hij _ hu hv=>arr_le sa (by omega) hu hv
    have sxb:∀(q:Nat) i j u v,i<j→j<q→xb[0+i]? = some u→xb[0+j]? = some v→leB ltb u v:=fun q i j u v hij _ hu hv=>arr_le sb (by omega) hu hv
    by_cases hg:mg2 > 1
    ·rw[if_pos hg]
     refine wpS_bind (wpS_modify ?_)
     have ss2:=ss.smg (mg2-1)
     refine wpS_bind (wpS_elem hvb (wpS_bind (wpS_galR O hO ss2.kind (Sb _ (arr_mem hvb)) Sa (sxa qa) (by omega) (by omega) fun tt hk1 hk2 hk3=>?_)))
     dsimp only
     by_cases kp:qa-tt > 0
     ·rw[if_pos kp]
      have M3:=m.chA O sa sb f2 (t:=tt) (by omega) (by omega) f4 hvb (fun i h1 h2 u hu=>O.asym (hk3 i h1 h2 u (by rw[Nat.zero_add];exact hu))) (ext1 _ xa tt qa)
      by_cases e0:tt=0
      ·rw[if_pos (by simpa using e0)]
       exact wpS_pure (.inl ⟨_,_,_,_,_,_,_,rfl,mdone _ _ _ _ M3 e0 f4 ss2⟩)
      rw[if_neg (by simpa using e0)]
      have QA1:1≤tt:=by omega
      obtain⟨va,hva⟩:=at1 (x:=xa) (j:=tt-1) (by omega)
      have hle:leB ltb va vb:=hk2 (tt-1) (by omega) va (by rw[Nat.zero_add];exact hva)
      have m4:=M3.chB O sa sb f4 (t:=qb-1) (by omega) QA1 (by omega) hva (fun i h1 h2 u hu=>by
       obtain rfl:i=qb-1:=by omega
       rw[hvb]at hu;cases hu;exact hle) (push1 _ (by omega) f4 hvb)
      refine wpS_bind (wpS_elem hvb ?_)
      by_cases e1:qb-1=1
      ·rw[if_pos (by simpa using e1)]
       exact wpS_pure (.inl ⟨_,_,_,_,_,_,_,rfl,mfirst _ _ _ _ m4 e1 (by omega) ss2⟩)
      rw[if_neg (by simpa using e1)]
      refine wpS_bind (wpS_elem hva (wpS_bind (wpS_galL O hO ss2.kind (Sa _ (arr_mem hva)) Sb (sxb (qb-1)) (by omega) (by omega) fun t2 g1 g2 g3=>?_)))
      have ht2:0<t2:=by
       rcases Nat.eq_zero_or_pos t2 with q|q
       ·have:=g3 0 (by omega) (by omega) z (by rw[Nat.zero_add];exact hz)
        unfold leB at this
        rw[hfst va (arr_mem hva)]at this;cases this
       ·exact q
      dsimp only
      by_cases k2p:qb-1-t2 > 0
      ·rw[if_pos k2p]
       have m5:=m4.chB O sa sb (by omega) (t:=t2) (by omega) QA1 (by omega) hva (fun i h1 h2 u hu=>g3 i h1 (by omega) u (by rw[Nat.zero_add];exact hu)) (ext1 _ xb t2 (qb-1))
       by_cases e2:t2=1
       ·rw[if_pos (by simpa using e2)]
        exact wpS_pure (.inl ⟨_,_,_,_,_,_,_,rfl,mfirst _ _ _ _ m5 e2 (by omega) ss2⟩)
       rw[if_neg (by simpa using e2),if_neg (by simp;omega)]
       obtain⟨vb2,hvb2⟩:=at1 (x:=xb) (j:=t2-1) (by omega)
       have m6:=m5.chA O sa sb (by omega) (t:=tt-1) (by omega) (by omega) (by omega) hvb2 (fun i h1 h2 u hu=>by
        obtain rfl:i=tt-1:=by omega
        rw[hva]at hu;cases hu;exact O.asym (g2 (t2-1) (by omega) vb2 (by rw[Nat.zero_add];exact hvb2))) (push1 _ QA1 (by omega) hva)
       refine wpS_bind (wpS_elem hva ?_)
       by_cases e3:tt-1=0
       ·rw[if_pos (by simpa using e3)]
        exact wpS_pure (.inl ⟨_,_,_,_,_,_,_,rfl,mdone _ _ _ _ m6 e3 (by omega) ss2⟩)
       rw[if_neg (by simpa using e3)]
       split
       ·exact wpS_pure (.inr ⟨ss2,_,_,_,_,_,_,rfl,m6,by omega,by omega,by omega,by omega,by omega⟩)
       ·exact wpS_pure ⟨ss2,_,_,_,_,_,_,rfl,m6,by omega,by omega,by omega,by omega,by omega⟩
      ·rw[if_neg k2p]
       have et:t2=qb-1:=by omega
       obtain⟨vb2,hvb2⟩:=at1 (x:=xb) (j:=qb-1-1) (by omega)
       have m6:=m4.chA O sa sb (by omega) (t:=tt-1) (by omega) (by omega) (by omega) hvb2 (fun i h1 h2 u hu=>by
        obtain rfl:i=tt-1:=by omega
        rw[hva]at hu;cases hu;exact O.asym (g2 (qb-1-1) (by omega) vb2 (by rw[Nat.zero_add];exact hvb2))) (push1 _ QA1 (by omega) hva)
       refine wpS_bind (wpS_elem hva ?_)
       by_cases e3:tt-1=0
       ·rw[if_pos (by simpa using e3)]
        exact wpS_pure (.inl ⟨_,_,_,_,_,_,_,rfl,mdone _ _ _ _ m6 e3 (by omega) ss2⟩)
       rw[if_neg (by simpa using e3)]
       split
       ·exact wpS_pure (.inr ⟨ss2,_,_,_,_,_,_,rfl,m6,by omega,by omega,by omega,by omega,by omega⟩)
       ·exact wpS_pure ⟨ss2,_,_,_,_,_,_,rfl,m6,by omega,by omega,by omega,by omega,by omega⟩
     ·rw[if_neg kp]
      have et0:tt=qa:=by omega
      have M3:=m
      have QA1:1≤qa:=f1
      obtain⟨va,hva⟩:=at1 (x:=xa) (j:=qa-1) (by omega)
      have hle:leB ltb va vb:=hk2 (qa-1) (by omega) va (by rw[Nat.zero_add];exact hva)
      have m4:=M3.chB O sa sb f4 (t:=qb-1) (by omega) QA1 (by omega) hva (fun i h1 h2 u hu=>by
       obtain rfl:i=qb-1:=by omega
       rw[hvb]at hu;cases hu;exact hle) (push1 _ (by omega) f4 hvb)
      refine wpS_bind (wpS_elem hvb ?_)
      by_cases e1:qb-1=1
      ·rw[if_pos (by simpa using e1)]
       exact wpS_pure (.inl ⟨_,_,_,_,_,_,_,rfl,mfirst _ _ _ _ m4 e1 (by omega) ss2⟩)
      rw[if_neg (by simpa using e1)]
      refine wpS_bind (wpS_elem hva (wpS_bind (wpS_galL O hO ss2.kind (Sa _ (arr_mem hva)) Sb (sxb (qb-1)) (by omega) (by omega) fun t2 g1 g2 g3=>?_)))
      have ht2:0<t2:=by
       rcases Nat.eq_zero_or_pos t2 with q|q
       ·have:=g3 0 (by omega) (by omega) z (by rw[Nat.zero_add];exact hz)
        unfold leB at this
        rw[hfst va (arr_mem hva)]at this;cases this
       ·exact q
      dsimp only
      by_cases k2p:qb-1-t2 > 0
      ·rw[if_pos k2p]
       have m5:=m4.chB O sa sb (by omega) (t:=t2) (by omega) QA1 (by omega) hva (fun i h1 h2 u hu=>g3 i h1 (by omega) u (by rw[Nat.zero_add];exact hu)) (ext1 _ xb t2 (qb-1))
       by_cases e2:t2=1
       ·rw[if_pos (by simpa using e2)]
        exact wpS_pure (.inl ⟨_,_,_,_,_,_,_,rfl,mfirst _ _ _ _ m5 e2 (by omega) ss2⟩)
       rw[if_neg (by simpa using e2),if_neg (by simp;omega)]
       obtain⟨vb2,hvb2⟩:=at1 (x:=xb) (j:=t2-1) (by omega)
       have m6:=m5.chA O sa sb (by omega) (t:=qa-1) (by omega) (by omega) (by omega) hvb2 (fun i h1 h2 u hu=>by
        obtain rfl:i=qa-1:=by omega
        rw[hva]at hu;cases hu;exact O.asym (g2 (t2-1) (by omega) vb2 (by rw[Nat.zero_add];exact hvb2))) (push1 _ QA1 (by omega) hva)
       refine wpS_bind (wpS_elem hva ?_)
       by_cases e3:qa-1=0
       ·rw[if_pos (by simpa using e3)]
        exact wpS_pure (.inl ⟨_,_,_,_,_,_,_,rfl,mdone _ _ _ _ m6 e3 (by omega) ss2⟩)
       rw[if_neg (by simpa using e3)]
       split
       ·exact wpS_pure (.inr ⟨ss2,_,_,_,_,_,_,rfl,m6,by omega,by omega,by omega,by omega,by omega⟩)
       ·exact wpS_pure ⟨ss2,_,_,_,_,_,_,rfl,m6,by omega,by omega,by omega,by omega,by omega⟩
      ·rw[if_neg k2p]
       have et:t2=qb-1:=by omega
       obtain⟨vb2,hvb2⟩:=at1 (x:=xb) (j:=qb-1-1) (by omega)
       have m6:=m4.chA O sa sb (by omega) (t:=qa-1) (by omega) (by omega) (by omega) hvb2 (fun i h1 h2 u hu=>by
        obtain rfl:i=qa-1:=by omega
        rw[hva]at hu;cases hu;exact O.asym (g2 (qb-1-1) (by omega) vb2 (by rw[Nat.zero_add];exact hvb2))) (push1 _ QA1 (by omega) hva)
       refine wpS_bind (wpS_elem hva ?_)
       by_cases e3:qa-1=0
       ·rw[if_pos (by simpa using e3)]
        exact wpS_pure (.inl ⟨_,_,_,_,_,_,_,rfl,mdone _ _ _ _ m6 e3 (by omega) ss2⟩)
       rw[if_neg (by simpa using e3)]
       split
       ·exact wpS_pure (.inr ⟨ss2,_,_,_,_,_,_,rfl,m6,by omega,by omega,by omega,by omega,by omega⟩)
       ·exact wpS_pure ⟨ss2,_,_,_,_,_,_,rfl,m6,by omega,by omega,by omega,by omega,by omega⟩
    ·rw[if_neg hg]
     refine wpS_bind (wpS_modify ?_)
     have ss2:=ss.smg mg2
     refine wpS_bind (wpS_elem hvb (wpS_bind (wpS_galR O hO ss2.kind (Sb _ (arr_mem hvb)) Sa (sxa qa) (by omega) (by omega) fun tt hk1 hk2 hk3=>?_)))
     dsimp only
     by_cases kp:qa-tt > 0
     ·rw[if_pos kp]
      have M3:=m.chA O sa sb f2 (t:=tt) (by omega) (by omega) f4 hvb (fun i h1 h2 u hu=>O.asym (hk3 i h1 h2 u (by rw[Nat.zero_add];exact hu))) (ext1 _ xa tt qa)
      by_cases e0:tt=0
      ·rw[if_pos (by simpa using e0)]
       exact wpS_pure (.inl ⟨_,_,_,_,_,_,_,rfl,mdone _ _ _ _ M3 e0 f4 ss2⟩)
      rw[if_neg (by simpa using e0)]
      have QA1:1≤tt:=by omega
      obtain⟨va,hva⟩:=at1 (x:=xa) (j:=tt-1) (by omega)
      have hle:leB ltb va vb:=hk2 (tt-1) (by omega) va (by rw[Nat.zero_add];exact hva)
      have m4:=M3.chB O sa sb f4 (t:=qb-1) (by omega) QA1 (by omega) hva (fun i h1 h2 u hu=>by
       obtain rfl:i=qb-1:=by omega
       rw[hvb]at hu;cases hu;exact hle) (push1 _ (by omega) f4 hvb)
      refine wpS_bind (wpS_elem hvb ?_)
      by_cases e1:qb-1=1
      ·rw[if_pos (by simpa using e1)]
       exact wpS_pure (.inl ⟨_,_,_,_,_,_,_,rfl,mfirst _ _ _ _ m4 e1 (by omega) ss2⟩)
      rw[if_neg (by simpa using e1)]
      refine wpS_bind (wpS_elem hva (wpS_bind (wpS_galL O hO ss2.kind (Sa _ (arr_mem hva)) Sb (sxb (qb-1)) (by omega) (by omega) fun t2 g1 g2 g3=>?_)))
      have ht2:0<t2:=by
       rcases Nat.eq_zero_or_pos t2 with q|q
       ·have:=g3 0 (by omega) (by omega) z (by rw[Nat.zero_add];exact hz)
        unfold leB at this
        rw[hfst va (arr_mem hva)]at this;cases this
       ·exact q
      dsimp only
      by_cases k2p:qb-1-t2 > 0
      ·rw[if_pos k2p]
       have m5:=m4.chB O sa sb (by omega) (t:=t2) (by omega) QA1 (by omega) hva (fun i h1 h2 u hu=>g3 i h1 (by omega) u (by rw[Nat.zero_add];exact hu)) (ext1 _ xb t2 (qb-1))
       by_cases e2:t2=1
       ·rw[if_pos (by simpa using e2)]
        exact wpS_pure (.inl ⟨_,_,_,_,_,_,_,rfl,mfirst _ _ _ _ m5 e2 (by omega) ss2⟩)
       rw[if_neg (by simpa using e2),if_neg (by simp;omega)]
       obtain⟨vb2,hvb2⟩:=at1 (x:=xb) (j:=t2-1) (by omega)
       have m6:=m5.chA O sa sb (by omega) (t:=tt-1) (by omega) (by omega) (by omega) hvb2 (fun i h1 h2 u hu=>by
        obtain rfl:i=tt-1:=by omega
        rw[hva]at hu;cases hu;exact O.asym (g2 (t2-1) (by omega) vb2 (by rw[Nat.zero_add];exact hvb2))) (push1 _ QA1 (by omega) hva)
       refine wpS_bind (wpS_elem hva ?_)
       by_cases e3:tt-1=0
       ·rw[if_pos (by simpa using e3)]
        exact wpS_pure (.inl ⟨_,_,_,_,_,_,_,rfl,mdone _ _ _ _ m6 e3 (by omega) ss2⟩)
       rw[if_neg (by simpa using e3)]
       split
       ·exact wpS_pure (.inr ⟨ss2,_,_,_,_,_,_,rfl,m6,by omega,by omega,by omega,by omega,by omega⟩)
       ·exact wpS_pure ⟨ss2,_,_,_,_,_,_,rfl,m6,by omega,by omega,by omega,by omega,by omega⟩
      ·rw[if_neg k2p]
       have et:t2=qb-1:=by omega
       obtain⟨vb2,hvb2⟩:=at1 (x:=xb) (j:=qb-1-1) (by omega)
       have m6:=m4.chA O sa sb (by omega) (t:=tt-1) (by omega) (by omega) (by omega) hvb2 (fun i h1 h2 u hu=>by
        obtain rfl:i=tt-1:=by omega
        rw[hva]at hu;cases hu;exact O.asym (g2 (qb-1-1) (by omega) vb2 (by rw[Nat.zero_add];exact hvb2))) (push1 _ QA1 (by omega) hva)
       refine wpS_bind (wpS_elem hva ?_)
       by_cases e3:tt-1=0
       ·rw[if_pos (by simpa using e3)]
        exact wpS_pure (.inl ⟨_,_,_,_,_,_,_,rfl,mdone _ _ _ _ m6 e3 (by omega) ss2⟩)
       rw[if_neg (by simpa using e3)]
       split
       ·exact wpS_pure (.inr ⟨ss2,_,_,_,_,_,_,rfl,m6,by omega,by omega,by omega,by omega,by omega⟩)
       ·exact wpS_pure ⟨ss2,_,_,_,_,_,_,rfl,m6,by omega,by omega,by omega,by omega,by omega⟩
     ·rw[if_neg kp]
      have et0:tt=qa:=by omega
      have M3:=m
      have QA1:1≤qa:=f1
      obtain⟨va,hva⟩:=at1 (x:=xa) (j:=qa-1) (by omega)
      have hle:leB ltb va vb:=hk2 (qa-1) (by omega) va (by rw[Nat.zero_add];exact hva)
      have m4:=M3.chB O sa sb f4 (t:=qb-1) (by omega) QA1 (by omega) hva (fun i h1 h2 u hu=>by
       obtain rfl:i=qb-1:=by omega
       rw[hvb]at hu;cases hu;exact hle) (push1 _ (by omega) f4 hvb)
      refine wpS_bind (wpS_elem hvb ?_)
      by_cases e1:qb-1=1
      ·rw[if_pos (by simpa using e1)]
       exact wpS_pure (.inl ⟨_,_,_,_,_,_,_,rfl,mfirst _ _ _ _ m4 e1 (by omega) ss2⟩)
      rw[if_neg (by simpa using e1)]
      refine wpS_bind (wpS_elem hva (wpS_bind (wpS_galL O hO ss2.kind (Sa _ (arr_mem hva)) Sb (sxb (qb-1)) (by omega) (by omega) fun t2 g1 g2 g3=>?_)))
      have ht2:0<t2:=by
       rcases Nat.eq_zero_or_pos t2 with q|q
       ·have:=g3 0 (by omega) (by omega) z (by rw[Nat.zero_add];exact hz)
        unfold leB at this
        rw[hfst va (arr_mem hva)]at this;cases this
       ·exact q
      dsimp only
      by_cases k2p:qb-1-t2 > 0
      ·rw[if_pos k2p]
       have m5:=m4.chB O sa sb (by omega) (t:=t2) (by omega) QA1 (by omega) hva (fun i h1 h2 u hu=>g3 i h1 (by omega) u (by rw[Nat.zero_add];exact hu)) (ext1 _ xb t2 (qb-1))
       by_cases e2:t2=1
       ·rw[if_pos (by simpa using e2)]
        exact wpS_pure (.inl ⟨_,_,_,_,_,_,_,rfl,mfirst _ _ _ _ m5 e2 (by omega) ss2⟩)
       rw[if_neg (by simpa using e2),if_neg (by simp;omega)]
       obtain⟨vb2,hvb2⟩:=at1 (x:=xb) (j:=t2-1) (by omega)
       have m6:=m5.chA O sa sb (by omega) (t:=qa-1) (by omega) (by omega) (by omega) hvb2 (fun i h1 h2 u hu=>by
        obtain rfl:i=qa-1:=by omega
        rw[hva]at hu;cases hu;exact O.asym (g2 (t2-1) (by omega) vb2 (by rw[Nat.zero_add];exact hvb2))) (push1 _ QA1 (by omega) hva)
       refine wpS_bind (wpS_elem hva ?_)
       by_cases e3:qa-1=0
       ·rw[if_pos (by simpa using e3)]
        exact wpS_pure (.inl ⟨_,_,_,_,_,_,_,rfl,mdone _ _ _ _ m6 e3 (by omega) ss2⟩)
       rw[if_neg (by simpa using e3)]
       split
       ·exact wpS_pure (.inr ⟨ss2,_,_,_,_,_,_,rfl,m6,by omega,by omega,by omega,by omega,by omega⟩)
       ·exact wpS_pure ⟨ss2,_,_,_,_,_,_,rfl,m6,by omega,by omega,by omega,by omega,by omega⟩
      ·rw[if_neg k2p]
       have et:t2=qb-1:=by omega
       obtain⟨vb2,hvb2⟩:=at1 (x:=xb) (j:=qb-1-1) (by omega)
       have m6:=m4.chA O sa sb (by omega) (t:=qa-1) (by omega) (by omega) (by omega) hvb2 (fun i h1 h2 u hu=>by
        obtain rfl:i=qa-1:=by omega
        rw[hva]at hu;cases hu;exact O.asym (g2 (qb-1-1) (by omega) vb2 (by rw[Nat.zero_add];exact hvb2))) (push1 _ QA1 (by omega) hva)
       refine wpS_bind (wpS_elem hva ?_)
       by_cases e3:qa-1=0
       ·rw[if_pos (by simpa using e3)]
        exact wpS_pure (.inl ⟨_,_,_,_,_,_,_,rfl,mdone _ _ _ _ m6 e3 (by omega) ss2⟩)
       rw[if_neg (by simpa using e3)]
       split
       ·exact wpS_pure (.inr ⟨ss2,_,_,_,_,_,_,rfl,m6,by omega,by omega,by omega,by omega,by omega⟩)
       ·exact wpS_pure ⟨ss2,_,_,_,_,_,_,rfl,m6,by omega,by omega,by omega,by omega,by omega⟩
end
end L2
namespace L2
open PySem PySem.Spec PyProof.Rows
def layS (M:Array Keyed) (o:Nat) (ar:Array Keyed):Array Keyed:=M.toList.zipIdx.foldl (fun z q=>z.setIfInBounds (o+q.2) q.1) ar
theorem lay_list:∀(M:List Keyed) (n o:Nat) (ar:Array Keyed),o+n+M.length≤ar.size→((M.zipIdx n).foldl (fun z q=>z.setIfInBounds (o+q.2) q.1) ar).toList=ar.toList.take (o+n)++M++ar.toList.drop (o+n+M.length)
 | [],n,o,ar,h=>by simp
 | p::M,n,o,ar,h=>by
  rw[List.length_cons]at h
  have hs:(ar.setIfInBounds (o+n) p).size=ar.size:=by simp
  have ih:=lay_list M (n+1) o (ar.setIfInBounds (o+n) p) (by rw[hs];omega)
  rw[List.zipIdx_cons,List.foldl_cons,ih,Array.toList_setIfInBounds]
  have hl:o+n<ar.toList.length:=by rw[Array.length_toList];omega
  rw[show o+(n+1)=o+n+1 by omega,List.take_succ_eq_append_getElem (by rw[List.length_set];exact hl),List.getElem_set_self,List.take_set_of_le (by omega),List.drop_set_of_lt (by omega),List.length_cons]
  rw[show o+n+1+M.length=o+n+(M.length+1) by omega]
  simp
theorem lay_eq (M ar:Array Keyed) (o:Nat) (h:o+M.size≤ar.size):(layS M o ar).toList=ar.toList.take o++M.toList++ar.toList.drop (o+M.size):=by
 have:=lay_list M.toList 0 o ar (by rw[Array.length_toList];omega)
 rw[Nat.add_zero,Array.length_toList]at this
 exact this
theorem mergeAt_eq (ii:Nat):mergeAt' ii =(do
 let z ← get
 let (some (ba,ka,pw),some (bb,kb,_)):=((pendingOf z)[ii]?,(pendingOf z)[ii+1]?)|unsupported "internal:list.sort.pending"
 set (setPending z (((pendingOf z).setIfInBounds ii (ba,ka+kb,pw)).eraseIdxIfInBounds (ii+1)))
 let some kk ← galS false (← elem' (arrOf z) bb) (arrOf z) ba ka 0|return false
 let (ba,ka):=(ba+kk,ka-kk)
 if ka == 0 then return true
 let some kb ← galS true (← elem' (arrOf z) (ba+ka-1)) (arrOf z) bb kb (kb-1)|return false
 if kb == 0 then return true
 let mm ← if ka≤kb then mloS ((arrOf z).extract ba bb) ((arrOf z).extract bb (bb+kb)) else mhiS ((arrOf z).extract ba bb) ((arrOf z).extract bb (bb+kb))
 modify fun z=>setArr z (layS mm ba (arrOf z))
 return (failedOf (← get)).isNone):=rfl
theorem app4 {α:Type}(a b c d:List α):a++(b++c)++d =(a++b)++(c++d):=by simp
section
variable {prog:Program}{w:World}{A:Around}{E:Value→Shared→Prop}{s:Shared}{ltb:Keyed→Keyed→Bool}{S:Keyed→Prop}{κ:SortKind}
theorem at_seg {ar:Array Keyed}{P R T:List Keyed}(h:ar.toList=P++R++T) (i:Nat) (hi:i<R.length):ar[P.length+i]? = R[i]?:=by
 have:ar.toList[P.length+i]? = R[i]?:=by
  rw[h,List.append_assoc,List.getElem?_append_right (by omega),Nat.add_sub_cancel_left,List.getElem?_append_left hi]
 simpa using this
theorem wpS_set {α:Type}{st st2:α}{Q:PUnit→α→Prop}(q:Q ⟨⟩ st2):wpS (model prog w) A E s (set st2:StateT α Sem PUnit) Q st:=by
 unfold wpS
 show wpAny _ _ ((StateT.set st2:StateT α Sem PUnit).run st) _ _ _
 exact wpAny_pure ⟨rfl,q⟩
theorem wpS_mergeAt (O:OrdB ltb) (hO:LtOk prog w A E s ltb S κ) {st:SortSt}{Q:Bool→SortSt→Prop}{ii ba ka bb kb pw pv:Nat}{P R1 R2 T:List Keyed}(hk:kindOf st=κ) (hf:failedOf st=none)
  (hp1:(pendingOf st)[ii]? = some (ba,ka,pw)) (hp2:(pendingOf st)[ii+1]? = some (bb,kb,pv)) (harr:(arrOf st).toList=P++R1++R2++T) (eba:ba=P.length) (eka:ka=R1.length) (ebb:bb=P.length+R1.length) (ekb:kb=R2.length)
  (h1:R1 ≠ []) (h2:R2 ≠ []) (s1:R1.Pairwise (leB ltb)) (s2:R2.Pairwise (leB ltb)) (hSa:∀x∈(arrOf st).toList,S x)
  (h:∀(st':SortSt) (R:List Keyed),R.Pairwise (leB ltb)→R.Perm (R1++R2)→(arrOf st').toList=P++R++T→kindOf st'=κ→failedOf st'=none→pendingOf st' =((pendingOf st).setIfInBounds ii (ba,ka+kb,pw)).eraseIdxIfInBounds (ii+1)→Q true st') :
  wpS (model prog w) A E s (mergeAt' ii) Q st:=by
 have l1:0<R1.length:=List.length_pos_iff.mpr h1
 have l2:0<R2.length:=List.length_pos_iff.mpr h2
 have hA1:(arrOf st).toList=P++R1++(R2++T):=by rw[harr];simp
 have hA2:(arrOf st).toList =(P++R1)++R2++T:=by rw[harr]
 have hsz:(arrOf st).size=P.length+R1.length+R2.length+T.length:=by
  have:=congrArg List.length harr
  rw[Array.length_toList]at this
  simp at this;omega
 have g1:∀i,i<R1.length→(arrOf st)[ba+i]? = R1[i]?:=fun i hi=>by rw[eba];exact at_seg hA1 i hi
 have g2:∀i,i<R2.length→(arrOf st)[bb+i]? = R2[i]?:=fun i hi=>by
  have:=at_seg hA2 i hi
  rw[List.length_append]at this
  rw[ebb];exact this
 obtain⟨b0,hb0⟩ : ∃b,R2[0]? = some b:=⟨_,List.getElem?_eq_getElem l2⟩
 have hb0':(arrOf st)[bb]? = some b0:=by have:=g2 0 l2;rw[Nat.add_zero]at this;rw[this];exact hb0
 have b0le:∀y∈R2,leB ltb b0 y∨y=b0:=fun y hy=>by
  obtain⟨i,hi,e⟩:=List.getElem_of_mem hy
  by_cases h0:i=0
  ·subst h0;rw[List.getElem?_eq_getElem l2]at hb0;right;rw[← e];exact Option.some.inj hb0
  ·left;exact rise_le s2 (i:=0) (j:=i) (by omega) hb0 (by rw[List.getElem?_eq_getElem hi,e])
 rw[mergeAt_eq]
 refine wpS_bind (wpS_get ?_)
 rw[hp1,hp2]
 dsimp only
 refine wpS_bind (wpS_set ?_)
 refine wpS_bind (wpS_elem hb0' (wpS_bind (wpS_galR O hO (st:=setPending st _) hk (hSa _ (arr_mem hb0')) hSa (fun i j u v hij hj hu hv=>?_) (by omega) (by omega) fun k k1 k2 k3=>?_)))
 ·rw[g1 i (by omega)]at hu
  rw[g1 j (by omega)]at hv
  exact rise_le s1 hij hu hv
 dsimp only
 have k2':∀i,i<k→∀u,R1[i]? = some u→leB ltb u b0:=fun i hi u hu=>k2 i hi u (by rw[g1 i (by omega)];exact hu)
 by_cases c1:ka-k=0
 ·rw[if_pos (by simpa using c1)]
  refine wpS_pure (h (setPending st _) (R1++R2) ?_ (List.Perm.refl _) (by show(arrOf st).toList=_;rw[harr];simp) hk hf rfl)
  rw[List.pairwise_append]
  refine⟨s1,s2,fun x hx y hy=>?_⟩
  obtain⟨i,hi,e⟩:=List.getElem_of_mem hx
  have hxb:=k2' i (by omega) x (by rw[List.getElem?_eq_getElem hi,e])
  rcases b0le y hy with q|q
  ·exact O.tr hxb q
  ·rw[q];exact hxb
 rw[if_neg (by simpa using c1)]
 have hk:kindOf st=κ:=hk
 obtain⟨al,hal⟩ : ∃a,R1[ka-1]? = some a:=⟨_,List.getElem?_eq_getElem (by omega)⟩
 have hal':(arrOf st)[ba+k+(ka-k)-1]? = some al:=by
  rw[show ba+k+(ka-k)-1=ba+(ka-1) by omega,g1 (ka-1) (by omega)];exact hal
 have alge:∀x∈R1,leB ltb x al∨x=al:=fun x hx=>by
  obtain⟨i,hi,e⟩:=List.getElem_of_mem hx
  by_cases h0:i=ka-1
  ·subst h0;rw[List.getElem?_eq_getElem hi]at hal;right;rw[← e];exact Option.some.inj hal
  ·left;exact rise_le s1 (i:=i) (j:=ka-1) (by omega) (by rw[List.getElem?_eq_getElem hi,e]) hal
 refine wpS_bind (wpS_elem hal' (wpS_bind (wpS_galL O hO (st:=setPending st _) hk (hSa _ (arr_mem hal')) hSa (fun i j u v hij hj hu hv=>?_) (by omega) (by omega) fun n n1 n2 n3=>?_)))
 ·rw[g2 i (by omega)]at hu
  rw[g2 j (by omega)]at hv
  exact rise_le s2 hij hu hv
 dsimp only
 have n3':∀y∈R2.drop n,leB ltb al y:=fun y hy=>by
  obtain⟨i,hi,e⟩:=List.getElem_of_mem hy
  rw[List.length_drop]at hi
  rw[List.getElem_drop]at e
  exact n3 (n+i) (by omega) (by omega) y (by rw[g2 (n+i) (by omega),List.getElem?_eq_getElem (by omega),e])
 by_cases c2:n=0
 ·rw[if_pos (by simpa using c2)]
  refine wpS_pure (h (setPending st _) (R1++R2) ?_ (List.Perm.refl _) (by show(arrOf st).toList=_;rw[harr];simp) hk hf rfl)
  rw[List.pairwise_append]
  refine⟨s1,s2,fun x hx y hy=>?_⟩
  have hy2:=n3' y (by rw[c2];exact hy)
  rcases alge x hx with q|q
  ·exact O.tr q hy2
  ·rw[q];exact hy2
 rw[if_neg (by simpa using c2)]
 have exA:((arrOf st).extract (ba+k) bb).toList=R1.drop k:=by
  rw[show bb=ba+k+(ka-k) by omega,ext_part,hA1]
  rw[show ba+k=P.length+k by omega,List.append_assoc,← List.drop_drop,List.drop_left,List.drop_append_of_le_length (by omega),List.take_append_of_le_length (by rw[List.length_drop];omega),List.take_of_length_le (by rw[List.length_drop];omega)]
 have exB:((arrOf st).extract bb (bb+n)).toList=R2.take n:=by
  rw[ext_part,hA2,show bb =(P++R1).length by rw[List.length_append];omega,List.append_assoc,List.drop_left,List.take_append_of_le_length (by omega)]
 have szA:((arrOf st).extract (ba+k) bb).size=ka-k:=by
  have:=congrArg List.length exA
  rw[Array.length_toList,List.length_drop]at this;omega
 have szB:((arrOf st).extract bb (bb+n)).size=n:=by
  have:=congrArg List.length exB
  rw[Array.length_toList,List.length_take]at this;omega
 have hSA:∀x∈((arrOf st).extract (ba+k) bb).toList,S x:=fun x hx=>by
  rw[exA]at hx
  exact hSa x (by rw[hA1];exact List.mem_append_left _ (List.mem_append_right _ (List.mem_of_mem_drop hx)))
 have hSB:∀x∈((arrOf st).extract bb (bb+n)).toList,S x:=fun x hx=>by
  rw[exB]at hx
  exact hSa x (by rw[hA2];exact List.mem_append_left _ (List.mem_append_right _ (List.mem_of_mem_take hx)))
 have rA:((arrOf st).extract (ba+k) bb).toList.Pairwise (leB ltb):=by rw[exA];exact s1.drop
 have rB:((arrOf st).extract bb (bb+n)).toList.Pairwise (leB ltb):=by rw[exB];exact s2.take
 have zB:((arrOf st).extract bb (bb+n))[0]? = some b0:=by
  have e:((arrOf st).extract bb (bb+n)).toList[0]? = some b0:=by rw[exB,List.getElem?_take,if_pos (by omega)];exact hb0
  rw[← Array.getElem?_toList];exact e
 have zA:((arrOf st).extract (ba+k) bb)[((arrOf st).extract (ba+k) bb).size-1]? = some al:=by
  have e:((arrOf st).extract (ba+k) bb).toList[((arrOf st).extract (ba+k) bb).size-1]? = some al:=by
   rw[exA,szA,List.getElem?_drop,show k+(ka-k-1)=ka-1 by omega];exact hal
  rw[← Array.getElem?_toList];exact e
 have fst:∀y∈((arrOf st).extract (ba+k) bb).toList,ltb b0 y=true:=fun y hy=>by
  rw[exA]at hy
  obtain⟨i,hi,e⟩:=List.getElem_of_mem hy
  rw[List.length_drop]at hi
  rw[List.getElem_drop]at e
  exact k3 (k+i) (by omega) (by omega) y (by rw[g1 (k+i) (by omega),List.getElem?_eq_getElem (by omega),e])
 have lst:∀x∈((arrOf st).extract bb (bb+n)).toList,ltb x al=true:=fun x hx=>by
  rw[exB]at hx
  obtain⟨i,hi,e⟩:=List.getElem_of_mem hx
  rw[List.length_take]at hi
  rw[List.getElem_take]at e
  exact n2 i (by omega) x (by rw[g2 i (by omega),List.getElem?_eq_getElem (by omega),e])
 have fin:∀(r:Array Keyed) (st':SortSt),r.toList.Pairwise (leB ltb)→r.toList.Perm (((arrOf st).extract (ba+k) bb).toList++((arrOf st).extract bb (bb+n)).toList)→SS κ (setPending st (((pendingOf st).setIfInBounds ii (ba,ka+kb,pw)).eraseIdxIfInBounds (ii+1))) st' →
   Q true (setArr st' (layS r (ba+k) (arrOf st'))):=fun r st' rs rp ss=>by
  rw[exA,exB]at rp
  have rsz:r.size=ka-k+n:=by
   have:=rp.length_eq
   rw[Array.length_toList,List.length_append,List.length_drop,List.length_take]at this;omega
  have earr:arrOf st'=arrOf st:=ss.arr
  refine h _ (R1.take k++r.toList++R2.drop n) ?_ ?_ ?_ ss.kind ss.fail ss.pend
  ·have m1:∀x∈R1.take k,leB ltb x b0:=fun x hx=>by
    obtain⟨i,hi,e⟩:=List.getElem_of_mem hx
    rw[List.length_take]at hi
    rw[List.getElem_take]at e
    exact k2' i (by omega) x (by rw[List.getElem?_eq_getElem (by omega),e])
   have m2:∀x∈R1.take k,∀y∈R2,leB ltb x y:=fun x hx y hy=>by
    rcases b0le y hy with q|q
    ·exact O.tr (m1 x hx) q
    ·rw[q];exact m1 x hx
   have m3:∀x∈R1,∀y∈R2.drop n,leB ltb x y:=fun x hx y hy=>by
    rcases alge x hx with q|q
    ·exact O.tr q (n3' y hy)
    ·rw[q];exact n3' y hy
   have d1:=(rise_parts s1 0 k).2
   rw[List.drop_zero,Nat.zero_add]at d1
   have d2:=(rise_parts s2 0 n).2
   rw[List.drop_zero,Nat.zero_add]at d2
   rw[List.pairwise_append,List.pairwise_append]
   refine⟨⟨s1.take,rs,fun x hx y hy=>?_⟩,s2.drop,fun x hx y hy=>?_⟩
   ·rcases List.mem_append.mp (rp.mem_iff.mp hy) with q|q
    ·exact d1 x hx y q
    ·exact m2 x hx y (List.mem_of_mem_take q)
   ·rcases List.mem_append.mp hx with q|q
    ·exact m3 x (List.mem_of_mem_take q) y hy
    ·rcases List.mem_append.mp (rp.mem_iff.mp q) with q|q
     ·exact m3 x (List.mem_of_mem_drop q) y hy
     ·exact d2 x q y hy
  ·have e1:=List.take_append_drop k R1
   have e2:=List.take_append_drop n R2
   have:(R1.take k++r.toList++R2.drop n).Perm (R1.take k++(R1.drop k++R2.take n)++R2.drop n):=List.Perm.append_right _ (List.Perm.append_left _ rp)
   refine this.trans (List.Perm.of_eq ?_)
   rw[app4,e1,e2]
  ·show(layS r (ba+k) (arrOf st')).toList=_
   rw[earr,lay_eq r _ _ (by rw[rsz];omega),rsz,show ba+k+(ka-k+n)=bb+n by omega]
   have t1:(arrOf st).toList.take (ba+k)=P++R1.take k:=by
    rw[hA1,eba,List.append_assoc,List.take_length_add_append,List.take_append_of_le_length (by omega)]
   have t2:(arrOf st).toList.drop (bb+n)=R2.drop n++T:=by
    rw[hA2,show bb =(P++R1).length by rw[List.length_append];omega,List.append_assoc,← List.drop_drop,List.drop_left,List.drop_append_of_le_length (by omega)]
   rw[t1,t2];simp
 have hSS:SS κ (setPending st (((pendingOf st).setIfInBounds ii (ba,ka+kb,pw)).eraseIdxIfInBounds (ii+1))) (setPending st (((pendingOf st).setIfInBounds ii (ba,ka+kb,pw)).eraseIdxIfInBounds (ii+1))):=⟨hk,hf,rfl,rfl⟩
 have after:∀(r:Array Keyed) (st':SortSt),Q true (setArr st' (layS r (ba+k) (arrOf st')))→failedOf st'=none→wpS (model prog w) A E s (do
   modify fun z=>setArr z (layS r (ba+k) (arrOf z))
   return (failedOf (← get)).isNone) Q st':=fun r st' q hfl=>by
  refine wpS_bind (wpS_modify ?_)
  refine wpS_bind (wpS_get ?_)
  refine wpS_pure ?_
  have:(failedOf (setArr st' (layS r (ba+k) (arrOf st')))).isNone=true:=by
   show(failedOf st').isNone=true
   rw[hfl];rfl
  rw[this];exact q
 by_cases c3:ka-k≤n
 ·rw[if_pos c3]
  refine wpS_bind (wpS_mlo O hO hSA hSB rA rB zB (fun y hy=>O.asym (fst y hy)) (by rw[szA];omega) (fun x hx y hy=>by rw[zA]at hy;cases hy;exact lst x hx) hSS fun r st' q1 q2 q3=>?_)
  exact after r st' (fin r st' q1 q2 q3) q3.fail
 ·rw[if_neg c3]
  refine wpS_bind (wpS_mhi O hO hSA hSB rA rB zB fst zA lst hSS fun r st' q1 q2 q3=>?_)
  exact after r st' (fin r st' q1 q2 q3) q3.fail
end
end L2
namespace L2
open PySem PySem.Spec PyProof.Rows
def insB (R:List Keyed) (k l:Nat):List Keyed:=R.take l++((R.drop k).take 1++((R.take k).drop l++R.drop (k+1)))
theorem insB_perm (R:List Keyed) {k l:Nat}(h:l≤k):(insB R k l).Perm R:=by
 unfold insB
 have e1:R.take k=R.take l++(R.take k).drop l:=by
  conv=>lhs;rw[← List.take_append_drop l (R.take k)]
  rw[List.take_take,Nat.min_eq_left h]
 have e2:R=R.take k++((R.drop k).take 1++R.drop (k+1)):=by
  conv=>lhs;rw[← List.take_append_drop k R,drop_take_split R k 1]
 conv=>rhs;rw[e2]
 rw[e1,List.append_assoc]
 refine List.Perm.append_left _ ?_
 have e3:List.drop l (R.take l++(R.take k).drop l) =(R.take k).drop l:=by rw[← e1]
 rw[e3]
 rw[← List.append_assoc,← List.append_assoc]
 exact List.Perm.append_right _ List.perm_append_comm
theorem insB_get (R:List Keyed) {k l:Nat}(hk:k<R.length) (hl:l≤k) (p:Nat):(insB R k l)[p]? = if p=l then R[k]? else if l<p∧p≤k then R[p-1]? else R[p]?:=by
 unfold insB
 have len1:(R.take l).length=l:=by rw[List.length_take];omega
 have len2:((R.drop k).take 1).length=1:=by rw[List.length_take,List.length_drop];omega
 have len3:((R.take k).drop l).length=k-l:=by rw[List.length_drop,List.length_take];omega
 by_cases c1:p<l
 ·rw[List.getElem?_append_left (by omega),if_neg (by omega),if_neg (by omega),List.getElem?_take,if_pos c1]
 rw[List.getElem?_append_right (by omega),len1]
 by_cases c2:p=l
 ·rw[if_pos c2,List.getElem?_append_left (by omega),List.getElem?_take,if_pos (by omega),List.getElem?_drop]
  congr 1;omega
 rw[if_neg c2,List.getElem?_append_right (by omega),len2]
 by_cases c3:p≤k
 ·rw[if_pos ⟨by omega,c3⟩,List.getElem?_append_left (by omega),List.getElem?_drop,List.getElem?_take,if_pos (by omega)]
  congr 1;omega
 ·rw[if_neg (by omega),List.getElem?_append_right (by omega),len3,List.getElem?_drop]
  congr 1;omega
theorem bubble_list {ar:Array Keyed}{P R T:List Keyed}(h:ar.toList=P++R++T) {k l:Nat}(hk:k<R.length) (hl:l≤k):(bubble ar (P.length+k) (k-l)).toList=P++insB R k l++T:=by
 have hsz:ar.size=P.length+R.length+T.length:=by
  have:=congrArg List.length h
  rw[Array.length_toList]at this
  simp at this;omega
 have hil:(insB R k l).length=R.length:=(insB_perm R hl).length_eq
 apply List.ext_getElem?
 intro p
 rw[Array.getElem?_toList,getElem?_bubble (by omega) _ (by omega) p,show P.length+k-(k-l)=P.length+l by omega]
 have get:∀q,ar[q]? =(P++R++T)[q]?:=fun q=>by rw[← h,Array.getElem?_toList]
 by_cases c1:p<P.length
 ·rw[if_neg (by omega),if_neg (by omega),get,List.append_assoc,List.append_assoc,List.getElem?_append_left c1,List.getElem?_append_left c1]
 ·by_cases c2:p<P.length+R.length
  ·have eR:(P++insB R k l++T)[p]? =(insB R k l)[p-P.length]?:=by
    rw[List.append_assoc,List.getElem?_append_right (by omega),List.getElem?_append_left (by omega)]
   have eg:∀q,P.length≤q→q<P.length+R.length→ar[q]? = R[q-P.length]?:=fun q h1 h2=>by
    rw[get,List.append_assoc,List.getElem?_append_right h1,List.getElem?_append_left (by omega)]
   rw[eR,insB_get R hk hl]
   by_cases c3:p=P.length+l
   ·rw[if_pos c3,if_pos (show p-P.length=l by omega),eg _ (by omega) (by omega)];congr 1;omega
   ·rw[if_neg c3,if_neg (show ¬ p-P.length=l by omega)]
    by_cases c4:P.length+l<p∧p≤P.length+k
    ·rw[if_pos c4,if_pos (show l<p-P.length∧p-P.length≤k by omega),eg _ (by omega) (by omega)];congr 1;omega
    ·rw[if_neg c4,if_neg (show ¬(l<p-P.length∧p-P.length≤k) by omega),eg _ (by omega) (by omega)]
  ·rw[if_neg (by omega),if_neg (by omega),get,List.append_assoc,List.append_assoc,List.getElem?_append_right (by omega),List.getElem?_append_right (by omega),List.getElem?_append_right (by omega),List.getElem?_append_right (by omega),hil]
section
variable {prog:Program}{w:World}{A:Around}{E:Value→Shared→Prop}{s:Shared}{ltb:Keyed→Keyed→Bool}{S:Keyed→Prop}{κ:SortKind}
theorem wpS_ltAtB (hO:LtOk prog w A E s ltb S κ) {st:SortSt}{i j:Nat}{x y:Keyed}{Q:Option Bool→SortSt→Prop}(hk:kindOf st=κ) (hi:(arrOf st)[i]? = some x) (hj:(arrOf st)[j]? = some y) (Sx:S x) (Sy:S y) (q:Q (some (ltb x y)) st):wpS (model prog w) A E s (ltAt' i j) Q st:=by
 rw[ltAt'_eq]
 refine wpS_bind (wpS_get ?_)
 exact wpS_bind (wpS_elem hi (wpS_bind (wpS_elem hj (hO x y st Q Sx Sy hk q))))
def RiseTo (ltb:Keyed→Keyed→Bool) (R:List Keyed) (k:Nat):Prop:=∀i j x y,i<j→j<k→R[i]? = some x→R[j]? = some y→leB ltb x y
theorem wpS_binB (O:OrdB ltb) (hO:LtOk prog w A E s ltb S κ) {st:SortSt}{Q:Bool→SortSt→Prop}{P R T:List Keyed}{ok:Nat}(hk:kindOf st=κ) (hf:failedOf st=none) (harr:(arrOf st).toList=P++R++T) (hok:ok≤R.length) (hr:RiseTo ltb R ok) (hSa:∀x∈R,S x)
  (h:∀(st':SortSt) (R':List Keyed),(arrOf st').toList=P++R'++T→R'.Perm R→RiseTo ltb R' R'.length→kindOf st'=κ→failedOf st'=none→pendingOf st'=pendingOf st→Q true st'):wpS (model prog w) A E s (binarySort' P.length R.length ok) Q st:=by
 rw[binarySort'_eq]
 refine wpS_bind (wpS_mono (wpS_forRange (I:=fun k c st'=>c =(none,())∧kindOf st'=κ∧failedOf st'=none∧pendingOf st'=pendingOf st∧∃R',(arrOf st').toList=P++R'++T∧R'.Perm R∧RiseTo ltb R' (min k R.length))
  (Q:=fun c st'=>c =(none,())∧kindOf st'=κ∧failedOf st'=none∧pendingOf st'=pendingOf st∧∃R',(arrOf st').toList=P++R'++T∧R'.Perm R∧RiseTo ltb R' R.length) ?step ?fin ⟨rfl,hk,hf,rfl,R,harr,List.Perm.refl _,?init⟩) ?post)
 case init =>
  intro i j x y hij hj hx hy
  exact hr i j x y hij (by omega) hx hy
 case fin =>
  rintro c st' ⟨hc,k1,k2,k3,R',a1,a2,a3⟩
  exact⟨hc,k1,k2,k3,R',a1,a2,fun i j x y hij hj=>a3 i j x y hij (by omega)⟩
 case post =>
  rintro c st' ⟨rfl,k1,k2,k3,R',a1,a2,a3⟩
  exact wpS_pure (h st' R' a1 a2 (by rw[a2.length_eq];exact a3) k1 k2 k3)
 case step =>
  rintro k c st' h1 hkn ⟨rfl,k1,k2,k3,R',a1,a2,a3⟩
  rw[show min k R.length=k by omega]at a3
  have hlen:=a2.length_eq
  have hS':∀x∈R',S x:=fun x hx=>hSa x (a2.mem_iff.mp hx)
  have gt:∀i,i<R'.length→(arrOf st')[P.length+i]? = R'[i]?:=fun i hi=>at_seg a1 i hi
  obtain⟨v,hv⟩ : ∃v,R'[k]? = some v:=⟨_,List.getElem?_eq_getElem (by omega)⟩
  have Sv:=hS' v (List.mem_of_getElem? hv)
  refine wpS_bind (wpS_mono (wpS_forRange (I:=fun x c st''=>st''=st'∧∃l r,c =(none,l,r)∧l≤r∧r≤k∧r-l≤k-x∧(∀i x,i<l→R'[i]? = some x→leB ltb x v)∧(∀i x,r≤i→i<k→R'[i]? = some x→ltb v x=true))
   (Q:=fun c st''=>st''=st'∧∃l r,c =(none,l,r)∧l≤k∧(∀i x,i<l→R'[i]? = some x→leB ltb x v)∧(∀i x,l≤i→i<k→R'[i]? = some x→ltb v x=true)) ?istep ?ifin ⟨rfl,0,k,rfl,by omega,by omega,by omega,fun i x hi=>by omega,fun i x h1 h2=>by omega⟩) ?ipost)
  case ifin =>
   rintro c st'' ⟨rfl,l,r,rfl,b1,b2,b3,b4,b5⟩
   have:l=r:=by omega
   subst this
   exact⟨rfl,l,l,rfl,b2,b4,b5⟩
  case istep =>
   rintro x c st'' _ hxk ⟨e,l,r,rfl,b1,b2,b3,b4,b5⟩
   rw[e]
   dsimp only
   by_cases hge:l ≥ r
   ·rw[if_pos hge]
    have:l=r:=by omega
    subst this
    exact wpS_pure ⟨rfl,l,l,rfl,b2,b4,b5⟩
   ·rw[if_neg hge]
    obtain⟨u,hu⟩ : ∃u,R'[(l+r) / 2]? = some u:=⟨_,List.getElem?_eq_getElem (by omega)⟩
    refine wpS_bind (wpS_ltAtB hO k1 (by rw[gt k (by omega)];exact hv) (by rw[gt _ (by omega)];exact hu) Sv (hS' u (List.mem_of_getElem? hu)) ?_)
    dsimp only
    cases hw:ltb v u with
    | true =>
     simp only[if_true]
     refine wpS_pure ⟨rfl,l,(l+r) / 2,rfl,by omega,by omega,by omega,b4,fun i y q1 q2 hy=>?_⟩
     by_cases ei:i =(l+r) / 2
     ·subst ei;rw[hu]at hy;cases hy;exact hw
     ·have le1:=a3 ((l+r) / 2) i u y (by omega) q2 hu hy
      cases q:ltb v y with
      | true=>rfl
      | false=>have:=O.tr le1 q;rw[hw]at this;cases this
    | false =>
     simp only[Bool.false_eq_true,if_false]
     refine wpS_pure ⟨rfl,(l+r) / 2+1,r,rfl,by omega,by omega,by omega,fun i y q1 hy=>?_,b5⟩
     by_cases ei:i =(l+r) / 2
     ·subst ei;rw[hu]at hy;cases hy;exact hw
     ·exact O.tr (a3 i ((l+r) / 2) y u (by omega) (by omega) hy hu) hw
  case ipost =>
   rintro c st'' ⟨e,l,r,rfl,b1,b4,b5⟩
   rw[e]
   show wpS _ _ _ _ (do moveDown' (P.length+k) (P.length+l);pure (ForInStep.yield (none,()))) _ _
   rw[moveDown'_eq]
   refine wpS_bind (wpS_modify (wpS_pure ⟨rfl,k1,k2,k3,insB R' k l,?_,(insB_perm R' b1).trans a2,?_⟩))
   ·show(bubble (arrOf st') (P.length+k) (P.length+k-(P.length+l))).toList=_
    rw[show P.length+k-(P.length+l)=k-l by omega]
    exact bubble_list a1 (by omega) b1
   ·rw[show min (k+1) R.length=k+1 by omega]
    intro i j x y hij hj hx hy
    rw[insB_get R' (by omega) b1]at hx hy
    by_cases i1:i=l
    ·rw[if_pos i1,hv]at hx
     cases hx
     rw[if_neg (by omega),if_pos (by omega)]at hy
     exact O.asym (b5 (j-1) y (by omega) (by omega) hy)
    rw[if_neg i1]at hx
    by_cases i2:l<i∧i≤k
    ·rw[if_pos i2]at hx
     rw[if_neg (by omega),if_pos (by omega)]at hy
     exact a3 (i-1) (j-1) x y (by omega) (by omega) hx hy
    rw[if_neg i2]at hx
    by_cases j1:j=l
    ·rw[if_pos j1,hv]at hy
     cases hy
     exact b4 i x (by omega) hx
    rw[if_neg j1]at hy
    by_cases j2:l<j∧j≤k
    ·rw[if_pos j2]at hy
     exact a3 i (j-1) x y (by omega) (by omega) hx hy
    ·rw[if_neg j2]at hy
     exact a3 i j x y hij (by omega) hx hy
end
end L2
namespace L2
open PySem PySem.Spec PyProof.Rows
def revB (R:List Keyed) (i j:Nat):List Keyed:=R.take i++(((R.take j).drop i).reverse++R.drop j)
theorem revB_perm (R:List Keyed) {i j:Nat}(h:i≤j):(revB R i j).Perm R:=by
 unfold revB
 have e1:R.take j=R.take i++(R.take j).drop i:=by
  conv=>lhs;rw[← List.take_append_drop i (R.take j)]
  rw[List.take_take,Nat.min_eq_left h]
 have:(R.take i++(((R.take j).drop i).reverse++R.drop j)).Perm (R.take i++((R.take j).drop i++R.drop j)):=List.Perm.append_left _ (List.Perm.append_right _ (List.reverse_perm _))
 refine this.trans (List.Perm.of_eq ?_)
 rw[← List.append_assoc,← e1,List.take_append_drop]
theorem revB_get (R:List Keyed) {i j:Nat}(hj:j≤R.length) (h:i≤j) (p:Nat):(revB R i j)[p]? = if i≤p∧p<j then R[i+j-1-p]? else R[p]?:=by
 unfold revB
 have len1:(R.take i).length=i:=by rw[List.length_take];omega
 have len2:((R.take j).drop i).length=j-i:=by rw[List.length_drop,List.length_take];omega
 by_cases c1:p<i
 ·rw[List.getElem?_append_left (by omega),if_neg (by omega),List.getElem?_take,if_pos c1]
 rw[List.getElem?_append_right (by omega),len1]
 by_cases c2:p<j
 ·rw[if_pos ⟨by omega,c2⟩,List.getElem?_append_left (by rw[List.length_reverse];omega),List.getElem?_reverse (by omega),len2,List.getElem?_drop,List.getElem?_take,if_pos (by omega)]
  congr 1;omega
 ·rw[if_neg (by omega),List.getElem?_append_right (by rw[List.length_reverse];omega),List.length_reverse,len2,List.getElem?_drop]
  congr 1;omega
theorem mirror_list {ar:Array Keyed}{P R:List Keyed}(h:ar.toList=P++R) {i j:Nat}(hj:j≤R.length) (hi:i≤j):(mirror ar (P.length+i) (P.length+j) ((P.length+j-(P.length+i)) / 2)).toList=P++revB R i j:=by
 have hsz:ar.size=P.length+R.length:=by
  have:=congrArg List.length h
  rw[Array.length_toList]at this
  simp at this;omega
 apply List.ext_getElem?
 intro p
 rw[Array.getElem?_toList,getElem?_mirror_all (by omega) p]
 have get:∀q,ar[q]? =(P++R)[q]?:=fun q=>by rw[← h,Array.getElem?_toList]
 by_cases c1:p<P.length
 ·rw[if_neg (by omega),get,List.getElem?_append_left c1,List.getElem?_append_left c1]
 ·rw[List.getElem?_append_right (by omega),revB_get R hj hi]
  by_cases c2:P.length+i≤p∧p<P.length+j
  ·rw[if_pos c2,if_pos (show i≤p-P.length∧p-P.length<j by omega),get,List.getElem?_append_right (by omega)]
   congr 1;omega
  ·rw[if_neg c2,if_neg (show ¬(i≤p-P.length∧p-P.length<j) by omega),get,List.getElem?_append_right (by omega)]
theorem OrdB.refl {ltb:Keyed→Keyed→Bool}(O:OrdB ltb) (x:Keyed):leB ltb x x:=by
 unfold leB
 cases q:ltb x x with
 | false=>rfl
 | true=>have:=O.asym q;rw[q]at this;cases this
def FallTo (ltb:Keyed→Keyed→Bool) (R:List Keyed) (k:Nat):Prop:=∀i j x y,i<j→j<k→R[i]? = some x→R[j]? = some y→leB ltb y x
def EqSeg (ltb:Keyed→Keyed→Bool) (R:List Keyed) (a b:Nat):Prop:=∀i j x y,a≤i→i<b→a≤j→j<b→R[i]? = some x→R[j]? = some y→leB ltb x y
section
variable {ltb:Keyed→Keyed→Bool}{R:List Keyed}
theorem RiseTo.more (O:OrdB ltb) {n:Nat}(h:RiseTo ltb R n) (hn:1≤n) {u v:Keyed}(hu:R[n-1]? = some u) (hv:R[n]? = some v) (c:leB ltb u v):RiseTo ltb R (n+1):=by
 intro i j x y hij hj hx hy
 by_cases e:j=n
 ·subst e
  rw[hv]at hy;cases hy
  by_cases e2:i=j-1
  ·subst e2;rw[hu]at hx;cases hx;exact c
  ·exact O.tr (h i (j-1) x u (by omega) (by omega) hx hu) c
 ·exact h i j x y hij (by omega) hx hy
theorem FallTo.more (O:OrdB ltb) {n:Nat}(h:FallTo ltb R n) (hn:1≤n) {u v:Keyed}(hu:R[n-1]? = some u) (hv:R[n]? = some v) (c:leB ltb v u):FallTo ltb R (n+1):=by
 intro i j x y hij hj hx hy
 by_cases e:j=n
 ·subst e
  rw[hv]at hy;cases hy
  by_cases e2:i=j-1
  ·subst e2;rw[hu]at hx;cases hx;exact c
  ·exact O.tr c (h i (j-1) x u (by omega) (by omega) hx hu)
 ·exact h i j x y hij (by omega) hx hy
theorem FallTo.seg {n a:Nat}(h:FallTo ltb R n) (ha:a≤n) (hn:n≤R.length) (e:EqSeg ltb R a n):FallTo ltb (revB R a n) n:=by
 intro i j x y hij hj hx hy
 rw[revB_get R hn ha]at hx hy
 by_cases c1:a≤i
 ·rw[if_pos ⟨c1,by omega⟩]at hx
  rw[if_pos ⟨by omega,hj⟩]at hy
  exact e _ _ y x (by omega) (by omega) (by omega) (by omega) hy hx
 ·rw[if_neg (by omega)]at hx
  by_cases c2:a≤j
  ·rw[if_pos ⟨c2,hj⟩]at hy
   exact h i _ x y (by omega) (by omega) hx hy
  ·rw[if_neg (by omega)]at hy
   exact h i j x y hij hj hx hy
theorem FallTo.turn {n:Nat}(h:FallTo ltb R n) (hn:n≤R.length):RiseTo ltb (revB R 0 n) n:=by
 intro i j x y hij hj hx hy
 rw[revB_get R hn (Nat.zero_le _),if_pos ⟨Nat.zero_le _,by omega⟩]at hx
 rw[revB_get R hn (Nat.zero_le _),if_pos ⟨Nat.zero_le _,hj⟩]at hy
 exact h _ _ y x (by omega) (by omega) hy hx
end
section
variable {prog:Program}{w:World}{A:Around}{E:Value→Shared→Prop}{s:Shared}{ltb:Keyed→Keyed→Bool}{S:Keyed→Prop}{κ:SortKind}
structure ZS (κ:SortKind) (st:SortSt) (P R:List Keyed) (st':SortSt) (R':List Keyed):Prop where
 kind:kindOf st'=κ
 fail:failedOf st'=none
 pend:pendingOf st'=pendingOf st
 arr:(arrOf st').toList=P++R'
 perm:R'.Perm R
theorem ZS.rev {st st':SortSt}{P R R':List Keyed}(z:ZS κ st P R st' R') {i j:Nat}(hj:j≤R'.length) (hi:i≤j):ZS κ st P R (setArr st' (mirror (arrOf st') (P.length+i) (P.length+j) ((P.length+j-(P.length+i)) / 2))) (revB R' i j) :=
 ⟨z.kind,z.fail,z.pend,mirror_list z.arr hj hi,(revB_perm R' hi).trans z.perm⟩
theorem ZS.at {st st':SortSt}{P R R':List Keyed}(z:ZS κ st P R st' R') (i:Nat) (hi:i<R'.length):(arrOf st')[P.length+i]? = R'[i]?:=at_seg (T:=[]) (by rw[List.append_nil];exact z.arr) i hi
theorem ZS.ask (hO:LtOk prog w A E s ltb S κ) {st st':SortSt}{P R R':List Keyed}(z:ZS κ st P R st' R') (hS:∀x∈R,S x) {a b i j:Nat}(ea:a=P.length+i) (eb:b=P.length+j) (hi:i<R'.length) (hj:j<R'.length) {Q:Option Bool→SortSt→Prop}(q:∀x y,R'[i]? = some x→R'[j]? = some y→Q (some (ltb x y)) st') :
  wpS (model prog w) A E s (ltAt' a b) Q st':=by
 have m:∀x,x∈R'→S x:=fun x hx=>hS x (z.perm.mem_iff.mp hx)
 obtain⟨x,hx⟩ : ∃x,R'[i]? = some x:=⟨_,List.getElem?_eq_getElem hi⟩
 obtain⟨y,hy⟩ : ∃y,R'[j]? = some y:=⟨_,List.getElem?_eq_getElem hj⟩
 exact wpS_ltAtB hO z.kind (by rw[ea,z.at i hi];exact hx) (by rw[eb,z.at j hj];exact hy) (m x (List.mem_of_getElem? hx)) (m y (List.mem_of_getElem? hy)) (q x y hx hy)
theorem wpS_runB (O:OrdB ltb) (hO:LtOk prog w A E s ltb S κ) {st:SortSt}{Q:Option Nat→SortSt→Prop}{P R:List Keyed}(hk:kindOf st=κ) (hf:failedOf st=none) (harr:(arrOf st).toList=P++R) (hR:1≤R.length) (hS:∀x∈R,S x)
  (h:∀(st':SortSt) (R':List Keyed) (n:Nat),ZS κ st P R st' R'→1≤n→n≤R.length→RiseTo ltb R' n→Q (some n) st'):wpS (model prog w) A E s (countRun' P.length R.length) Q st:=by
 have z0:ZS κ st P R st R:=⟨hk,hf,rfl,harr,List.Perm.refl _⟩
 rw[countRun'_eq]
 refine wpS_bind (wpS_mono (wpS_forRange (I:=fun x c st'=>st'=st∧c =(none,x)∧RiseTo ltb R x∧x≤R.length)
  (Q:=fun c st'=>st'=st∧∃n,c =(none,n)∧1≤n∧n≤R.length∧RiseTo ltb R n∧(n<R.length→∀u v,R[n-1]? = some u→R[n]? = some v→ltb v u=true)) ?stp ?fin ⟨rfl,rfl,fun i j x y hij hj=>by omega,hR⟩) ?post)
 case fin =>
  rintro c st' ⟨rfl,rfl,a1,a2⟩
  exact⟨rfl,_,rfl,by omega,a2,a1,fun q=>by omega⟩
 case stp =>
  rintro x c st' hx1 hx2 ⟨est,rfl,a1,a2⟩
  rw[est]
  dsimp only
  refine wpS_bind (z0.ask hO hS (i:=x) (j:=x-1) rfl (by omega) hx2 (by omega) fun v u hv hu=>?_)
  dsimp only
  cases hw:ltb v u with
  | true =>
   simp only[if_true]
   exact wpS_pure ⟨rfl,x,rfl,hx1,a2,a1,fun _ u' v' hu' hv'=>by rw[hu]at hu';rw[hv]at hv';cases hu';cases hv';exact hw⟩
  | false =>
   simp only[Bool.false_eq_true,if_false]
   exact wpS_pure ⟨rfl,rfl,a1.more O hx1 hu hv hw,by omega⟩
 case post =>
  rintro c st' ⟨est,n,rfl,a1,a2,a3,a4⟩
  rw[est]
  dsimp only
  by_cases c1:n=R.length
  ·rw[if_pos (by simpa using c1)]
   exact wpS_pure (h st R n z0 a1 a2 a3)
  rw[if_neg (by simpa using c1)]
  have a4:=a4 (by omega)
  obtain⟨u0,hu0⟩ : ∃u,R[n-1]? = some u:=⟨_,List.getElem?_eq_getElem (by omega)⟩
  obtain⟨v0,hv0⟩ : ∃v,R[n]? = some v:=⟨_,List.getElem?_eq_getElem (by omega)⟩
  have hw0:=a4 u0 v0 hu0 hv0
  by_cases c2:n > 1
  ·rw[if_pos c2]
   refine wpS_bind (z0.ask hO hS (i:=0) (j:=n-1) rfl (by omega) (by omega) (by omega) fun f l hf0 hl0=>?_)
   rw[hu0]at hl0;cases hl0
   dsimp only
   cases hw1:ltb f u0 with
   | true =>
    simp only[if_true]
    exact wpS_pure (h st R n z0 a1 a2 a3)
   | false =>
    simp only[Bool.false_eq_true,if_false]
    rw[reverseSlice'_eq]
    refine wpS_bind (wpS_modify ?_)
    have z1:=z0.rev (i:=0) (j:=n) (by omega) (Nat.zero_le _)
    rw[Nat.add_zero]at z1
    have eq0:EqSeg ltb R 0 n:=fun i j x y _ i2 _ j2 hx hy=>by
     have t1:leB ltb x u0:=by
      by_cases e:i=n-1
      ·subst e;rw[hu0]at hx;cases hx;exact O.refl _
      ·exact a3 i (n-1) x u0 (by omega) (by omega) hx hu0
     have t2:leB ltb f y:=by
      by_cases e:j=0
      ·subst e;rw[hf0]at hy;cases hy;exact O.refl _
      ·exact a3 0 j f y (by omega) j2 hf0 hy
     exact O.tr (O.tr t1 hw1) t2
    have f1:FallTo ltb (revB R 0 n) (n+1):=by
     have ff:FallTo ltb R n:=fun i j x y hij hj hx hy=>eq0 j i y x (by omega) hj (by omega) (by omega) hy hx
     have fr:=ff.seg (a:=0) (by omega) (by omega) eq0
     obtain⟨u2,hu2⟩ : ∃u2,(revB R 0 n)[n-1]? = some u2:=⟨_,List.getElem?_eq_getElem (by rw[(revB_perm R (by omega)).length_eq];omega)⟩
     have hu3:=hu2
     rw[revB_get R (by omega) (by omega),if_pos (by omega)]at hu3
     refine fr.more O (by omega) hu2 (by rw[revB_get R (by omega) (by omega),if_neg (by omega)];exact hv0) (O.tr (O.asym hw0) (eq0 (n-1) _ u0 u2 (by omega) (by omega) (by omega) (by omega) hu0 hu3))
    generalize setArr st (mirror (arrOf st) P.length (P.length+n) ((P.length+n-P.length) / 2))=st1 at z1 ⊢
    generalize hR1:revB R 0 n=R1 at z1 f1
    refine wpS_bind (wpS_lift (wpAny_rule ⟨rfl,?_⟩))
    refine wpS_bind (wpS_mono (wpS_forRange (I:=fun x c st'=>∃R' q,c =(none,x,q)∧ZS κ st P R st' R'∧q+1≤x∧x≤R.length∧FallTo ltb R' x∧EqSeg ltb R' (x-(q+1)) x)
     (Q:=fun c st'=>∃R' m q,c =(none,m,q)∧ZS κ st P R st' R'∧q+1≤m∧m≤R.length∧FallTo ltb R' m∧EqSeg ltb R' (m-(q+1)) m) ?stp3 ?fin3 ⟨R1,0,rfl,z1,by omega,by omega,f1,fun i j x y i1 i2 j1 j2 hx hy=>by
      have e1:i=j:=by omega
      subst e1;rw[hx]at hy;cases hy;exact O.refl x⟩) ?post3)
    case fin3 =>
     rintro c st' ⟨R',q,rfl,b1,b2,b3,b4,b5⟩
     exact⟨R',_,q,rfl,b1,b2,b3,b4,b5⟩
    case stp3 =>
     rintro x c st' hx1 hx2 ⟨R',q,rfl,b1,b2,b3,b4,b5⟩
     have hl:=b1.perm.length_eq
     dsimp only
     refine wpS_bind (b1.ask hO hS (i:=x) (j:=x-1) rfl (by omega) (by omega) (by omega) fun v u hv hu=>?_)
     dsimp only
     cases hw:ltb v u with
     | true =>
      simp only[if_true]
      by_cases c6:q > 0
      ·rw[if_pos c6,reverseSlice'_eq]
       refine wpS_bind (wpS_modify ?_)
       have zr:=b1.rev (i:=x-(q+1)) (j:=x) (by omega) (by omega)
       have fr:=b4.seg (a:=x-(q+1)) (by omega) (by omega) b5
       have hv2:(revB R' (x-(q+1)) x)[x]? = some v:=by rw[revB_get R' (by omega) (by omega),if_neg (by omega)];exact hv
       obtain⟨u2,hu2⟩ : ∃u2,(revB R' (x-(q+1)) x)[x-1]? = some u2:=⟨_,List.getElem?_eq_getElem (by rw[(revB_perm R' (by omega)).length_eq];omega)⟩
       have hu3:=hu2
       rw[revB_get R' (by omega) (by omega),if_pos (by omega)]at hu3
       have cc:leB ltb v u2:=O.tr (O.asym hw) (b5 (x-1) _ u u2 (by omega) (by omega) (by omega) (by omega) hu hu3)
       refine wpS_pure ⟨_,0,rfl,?_,by omega,by omega,fr.more O (by omega) hu2 hv2 cc,fun i j x y i1 i2 j1 j2 hx hy=>by
        have e1:i=j:=by omega
        subst e1;rw[hx]at hy;cases hy;exact O.refl x⟩
       rw[show P.length+x-(q+1)=P.length+(x-(q+1)) by omega]
       exact zr
      ·rw[if_neg c6]
       exact wpS_pure ⟨R',0,rfl,b1,by omega,by omega,b4.more O (by omega) hu hv (O.asym hw),fun i j x y i1 i2 j1 j2 hx hy=>by
        have e1:i=j:=by omega
        subst e1;rw[hx]at hy;cases hy;exact O.refl x⟩
     | false =>
      simp only[Bool.false_eq_true,if_false]
      refine wpS_bind (b1.ask hO hS (i:=x-1) (j:=x) (by omega) rfl (by omega) (by omega) fun u' v' hu' hv'=>?_)
      rw[hu]at hu';cases hu'
      rw[hv]at hv';cases hv'
      dsimp only
      cases hw2:ltb u v with
      | true =>
       simp only[if_true]
       exact wpS_pure ⟨R',x,q,rfl,b1,b2,b3,b4,b5⟩
      | false =>
       simp only[Bool.false_eq_true,if_false]
       refine wpS_pure ⟨R',q+1,rfl,b1,by omega,by omega,b4.more O (by omega) hu hv hw2,fun i j p r i1 i2 j1 j2 hp hr=>?_⟩
       have toU:∀i p,x+1-(q+1+1)≤i→i<x+1→R'[i]? = some p→leB ltb p u∧leB ltb u p:=fun i p g1 g2 hp=>by
        by_cases e:i=x
        ·subst e;rw[hv]at hp;cases hp;exact⟨hw2,hw⟩
        ·exact⟨b5 i (x-1) p u (by omega) (by omega) (by omega) (by omega) hp hu,b5 (x-1) i u p (by omega) (by omega) (by omega) (by omega) hu hp⟩
       exact O.tr (toU i p (by omega) i2 hp).1 (toU j r (by omega) j2 hr).2
    case post3 =>
     rintro c st3 ⟨R',m,q,rfl,b1,b2,b3,b4,b5⟩
     have hl:=b1.perm.length_eq
     dsimp only
     by_cases c7:q > 0
     ·rw[if_pos c7,reverseSlice'_eq]
      refine wpS_bind (wpS_modify ?_)
      have zr:=b1.rev (i:=m-(q+1)) (j:=m) (by omega) (by omega)
      rw[show P.length+(m-(q+1))=P.length+m-(q+1) by omega]at zr
      have fr:=b4.seg (a:=m-(q+1)) (by omega) (by omega) b5
      have hl2:=zr.perm.length_eq
      generalize setArr st3 (mirror (arrOf st3) (P.length+m-(q+1)) (P.length+m) ((P.length+m-(P.length+m-(q+1))) / 2))=st4 at zr ⊢
      generalize revB R' (m-(q+1)) m=R4 at zr fr hl2
      rw[reverseSlice'_eq]
      refine wpS_bind (wpS_modify ?_)
      have z5:=zr.rev (i:=0) (j:=m) (by omega) (Nat.zero_le _)
      rw[Nat.add_zero]at z5
      have r5:=fr.turn (by omega)
      generalize setArr st4 (mirror (arrOf st4) P.length (P.length+m) ((P.length+m-P.length) / 2))=st5 at z5 ⊢
      refine wpS_bind (wpS_mono (wpS_forRange (I:=fun x c st'=>st'=st5∧c =(none,x)∧RiseTo ltb (revB R4 0 m) x∧x≤R.length)
       (Q:=fun c st'=>st'=st5∧∃n,c =(none,n)∧1≤n∧n≤R.length∧RiseTo ltb (revB R4 0 m) n) ?stp5 ?fin5 ⟨rfl,rfl,r5,by omega⟩) ?post5)
      case fin5 =>
       rintro c st' ⟨est,rfl,b1,b2⟩
       exact⟨est,_,rfl,by omega,b2,b1⟩
      case post5 =>
       rintro c st' ⟨est,n5,rfl,b1,b2,b3⟩
       rw[est]
       exact wpS_pure (h _ _ n5 z5 b1 b2 b3)
      case stp5 =>
       rintro x c st' hx1 hx2 ⟨est,rfl,b1,b2⟩
       rw[est]
       dsimp only
       refine wpS_bind (z5.ask hO hS (i:=x) (j:=x-1) rfl (by omega) (by rw[z5.perm.length_eq];exact hx2) (by rw[z5.perm.length_eq];omega) fun v u hv hu=>?_)
       dsimp only
       cases hw:ltb v u with
       | true =>
        simp only[if_true]
        exact wpS_pure ⟨rfl,x,rfl,by omega,b2,b1⟩
       | false =>
        simp only[Bool.false_eq_true,if_false]
        exact wpS_pure ⟨rfl,rfl,b1.more O (by omega) hu hv hw,by omega⟩
     ·rw[if_neg c7,reverseSlice'_eq]
      refine wpS_bind (wpS_modify ?_)
      have z5:=b1.rev (i:=0) (j:=m) (by omega) (Nat.zero_le _)
      rw[Nat.add_zero]at z5
      have r5:=b4.turn (by omega)
      generalize setArr st3 (mirror (arrOf st3) P.length (P.length+m) ((P.length+m-P.length) / 2))=st5 at z5 ⊢
      refine wpS_bind (wpS_mono (wpS_forRange (I:=fun x c st'=>st'=st5∧c =(none,x)∧RiseTo ltb (revB R' 0 m) x∧x≤R.length)
       (Q:=fun c st'=>st'=st5∧∃n,c =(none,n)∧1≤n∧n≤R.length∧RiseTo ltb (revB R' 0 m) n) ?stp5 ?fin5 ⟨rfl,rfl,r5,by omega⟩) ?post5)
      case fin5 =>
       rintro c st' ⟨est,rfl,b1,b2⟩
       exact⟨est,_,rfl,by omega,b2,b1⟩
      case post5 =>
       rintro c st' ⟨est,n5,rfl,b1,b2,b3⟩
       rw[est]
       exact wpS_pure (h _ _ n5 z5 b1 b2 b3)
      case stp5 =>
       rintro x c st' hx1 hx2 ⟨est,rfl,b1,b2⟩
       rw[est]
       dsimp only
       refine wpS_bind (z5.ask hO hS (i:=x) (j:=x-1) rfl (by omega) (by rw[z5.perm.length_eq];exact hx2) (by rw[z5.perm.length_eq];omega) fun v u hv hu=>?_)
       dsimp only
       cases hw:ltb v u with
       | true =>
        simp only[if_true]
        exact wpS_pure ⟨rfl,x,rfl,by omega,b2,b1⟩
       | false =>
        simp only[Bool.false_eq_true,if_false]
        exact wpS_pure ⟨rfl,rfl,b1.more O (by omega) hu hv hw,by omega⟩
  ·rw[if_neg c2]
   have e1:n=1:=by omega
   have f1:FallTo ltb R (n+1):=by
    have ff:FallTo ltb R n:=fun i j x y hij hj hx hy=>by omega
    exact ff.more O a1 hu0 hv0 (O.asym hw0)
   have z1:=z0
   have hR1:∃R1,R1=R:=⟨_,rfl⟩
   refine wpS_bind (wpS_lift (wpAny_rule ⟨rfl,?_⟩))
   refine wpS_bind (wpS_mono (wpS_forRange (I:=fun x c st'=>∃R' q,c =(none,x,q)∧ZS κ st P R st' R'∧q+1≤x∧x≤R.length∧FallTo ltb R' x∧EqSeg ltb R' (x-(q+1)) x)
    (Q:=fun c st'=>∃R' m q,c =(none,m,q)∧ZS κ st P R st' R'∧q+1≤m∧m≤R.length∧FallTo ltb R' m∧EqSeg ltb R' (m-(q+1)) m) ?stp3 ?fin3 ⟨R,0,rfl,z1,by omega,by omega,f1,fun i j x y i1 i2 j1 j2 hx hy=>by
     have e1:i=j:=by omega
     subst e1;rw[hx]at hy;cases hy;exact O.refl x⟩) ?post3)
   case fin3 =>
    rintro c st' ⟨R',q,rfl,b1,b2,b3,b4,b5⟩
    exact⟨R',_,q,rfl,b1,b2,b3,b4,b5⟩
   case stp3 =>
    rintro x c st' hx1 hx2 ⟨R',q,rfl,b1,b2,b3,b4,b5⟩
    have hl:=b1.perm.length_eq
    dsimp only
    refine wpS_bind (b1.ask hO hS (i:=x) (j:=x-1) rfl (by omega) (by omega) (by omega) fun v u hv hu=>?_)
    dsimp only
    cases hw:ltb v u with
    | true =>
     simp only[if_true]
     by_cases c6:q > 0
     ·rw[if_pos c6,reverseSlice'_eq]
      refine wpS_bind (wpS_modify ?_)
      have zr:=b1.rev (i:=x-(q+1)) (j:=x) (by omega) (by omega)
      have fr:=b4.seg (a:=x-(q+1)) (by omega) (by omega) b5
      have hv2:(revB R' (x-(q+1)) x)[x]? = some v:=by rw[revB_get R' (by omega) (by omega),if_neg (by omega)];exact hv
      obtain⟨u2,hu2⟩ : ∃u2,(revB R' (x-(q+1)) x)[x-1]? = some u2:=⟨_,List.getElem?_eq_getElem (by rw[(revB_perm R' (by omega)).length_eq];omega)⟩
      have hu3:=hu2
      rw[revB_get R' (by omega) (by omega),if_pos (by omega)]at hu3
      have cc:leB ltb v u2:=O.tr (O.asym hw) (b5 (x-1) _ u u2 (by omega) (by omega) (by omega) (by omega) hu hu3)
      refine wpS_pure ⟨_,0,rfl,?_,by omega,by omega,fr.more O (by omega) hu2 hv2 cc,fun i j x y i1 i2 j1 j2 hx hy=>by
       have e1:i=j:=by omega
       subst e1;rw[hx]at hy;cases hy;exact O.refl x⟩
      rw[show P.length+x-(q+1)=P.length+(x-(q+1)) by omega]
      exact zr
     ·rw[if_neg c6]
      exact wpS_pure ⟨R',0,rfl,b1,by omega,by omega,b4.more O (by omega) hu hv (O.asym hw),fun i j x y i1 i2 j1 j2 hx hy=>by
       have e1:i=j:=by omega
       subst e1;rw[hx]at hy;cases hy;exact O.refl x⟩
    | false =>
     simp only[Bool.false_eq_true,if_false]
     refine wpS_bind (b1.ask hO hS (i:=x-1) (j:=x) (by omega) rfl (by omega) (by omega) fun u' v' hu' hv'=>?_)
     rw[hu]at hu';cases hu'
     rw[hv]at hv';cases hv'
     dsimp only
     cases hw2:ltb u v with
     | true =>
      simp only[if_true]
      exact wpS_pure ⟨R',x,q,rfl,b1,b2,b3,b4,b5⟩
     | false =>
      simp only[Bool.false_eq_true,if_false]
      refine wpS_pure ⟨R',q+1,rfl,b1,by omega,by omega,b4.more O (by omega) hu hv hw2,fun i j p r i1 i2 j1 j2 hp hr=>?_⟩
      have toU:∀i p,x+1-(q+1+1)≤i→i<x+1→R'[i]? = some p→leB ltb p u∧leB ltb u p:=fun i p g1 g2 hp=>by
       by_cases e:i=x
       ·subst e;rw[hv]at hp;cases hp;exact⟨hw2,hw⟩
       ·exact⟨b5 i (x-1) p u (by omega) (by omega) (by omega) (by omega) hp hu,b5 (x-1) i u p (by omega) (by omega) (by omega) (by omega) hu hp⟩
      exact O.tr (toU i p (by omega) i2 hp).1 (toU j r (by omega) j2 hr).2
   case post3 =>
    rintro c st3 ⟨R',m,q,rfl,b1,b2,b3,b4,b5⟩
    have hl:=b1.perm.length_eq
    dsimp only
    by_cases c7:q > 0
    ·rw[if_pos c7,reverseSlice'_eq]
     refine wpS_bind (wpS_modify ?_)
     have zr:=b1.rev (i:=m-(q+1)) (j:=m) (by omega) (by omega)
     rw[show P.length+(m-(q+1))=P.length+m-(q+1) by omega]at zr
     have fr:=b4.seg (a:=m-(q+1)) (by omega) (by omega) b5
     have hl2:=zr.perm.length_eq
     generalize setArr st3 (mirror (arrOf st3) (P.length+m-(q+1)) (P.length+m) ((P.length+m-(P.length+m-(q+1))) / 2))=st4 at zr ⊢
     generalize revB R' (m-(q+1)) m=R4 at zr fr hl2
     rw[reverseSlice'_eq]
     refine wpS_bind (wpS_modify ?_)
     have z5:=zr.rev (i:=0) (j:=m) (by omega) (Nat.zero_le _)
     rw[Nat.add_zero]at z5
     have r5:=fr.turn (by omega)
     generalize setArr st4 (mirror (arrOf st4) P.length (P.length+m) ((P.length+m-P.length) / 2))=st5 at z5 ⊢
     refine wpS_bind (wpS_mono (wpS_forRange (I:=fun x c st'=>st'=st5∧c =(none,x)∧RiseTo ltb (revB R4 0 m) x∧x≤R.length)
      (Q:=fun c st'=>st'=st5∧∃n,c =(none,n)∧1≤n∧n≤R.length∧RiseTo ltb (revB R4 0 m) n) ?stp5 ?fin5 ⟨rfl,rfl,r5,by omega⟩) ?post5)
     case fin5 =>
      rintro c st' ⟨est,rfl,b1,b2⟩
      exact⟨est,_,rfl,by omega,b2,b1⟩
     case post5 =>
      rintro c st' ⟨est,n5,rfl,b1,b2,b3⟩
      rw[est]
      exact wpS_pure (h _ _ n5 z5 b1 b2 b3)
     case stp5 =>
      rintro x c st' hx1 hx2 ⟨est,rfl,b1,b2⟩
      rw[est]
      dsimp only
      refine wpS_bind (z5.ask hO hS (i:=x) (j:=x-1) rfl (by omega) (by rw[z5.perm.length_eq];exact hx2) (by rw[z5.perm.length_eq];omega) fun v u hv hu=>?_)
      dsimp only
      cases hw:ltb v u with
      | true =>
       simp only[if_true]
       exact wpS_pure ⟨rfl,x,rfl,by omega,b2,b1⟩
      | false =>
       simp only[Bool.false_eq_true,if_false]
       exact wpS_pure ⟨rfl,rfl,b1.more O (by omega) hu hv hw,by omega⟩
    ·rw[if_neg c7,reverseSlice'_eq]
     refine wpS_bind (wpS_modify ?_)
     have z5:=b1.rev (i:=0) (j:=m) (by omega) (Nat.zero_le _)
     rw[Nat.add_zero]at z5
     have r5:=b4.turn (by omega)
     generalize setArr st3 (mirror (arrOf st3) P.length (P.length+m) ((P.length+m-P.length) / 2))=st5 at z5 ⊢
     refine wpS_bind (wpS_mono (wpS_forRange (I:=fun x c st'=>st'=st5∧c =(none,x)∧RiseTo ltb (revB R' 0 m) x∧x≤R.length)
      (Q:=fun c st'=>st'=st5∧∃n,c =(none,n)∧1≤n∧n≤R.length∧RiseTo ltb (revB R' 0 m) n) ?stp5 ?fin5 ⟨rfl,rfl,r5,by omega⟩) ?post5)
     case fin5 =>
      rintro c st' ⟨est,rfl,b1,b2⟩
      exact⟨est,_,rfl,by omega,b2,b1⟩
     case post5 =>
      rintro c st' ⟨est,n5,rfl,b1,b2,b3⟩
      rw[est]
      exact wpS_pure (h _ _ n5 z5 b1 b2 b3)
     case stp5 =>
      rintro x c st' hx1 hx2 ⟨est,rfl,b1,b2⟩
      rw[est]
      dsimp only
      refine wpS_bind (z5.ask hO hS (i:=x) (j:=x-1) rfl (by omega) (by rw[z5.perm.length_eq];exact hx2) (by rw[z5.perm.length_eq];omega) fun v u hv hu=>?_)
      dsimp only
      cases hw:ltb v u with
      | true =>
       simp only[if_true]
       exact wpS_pure ⟨rfl,x,rfl,by omega,b2,b1⟩
      | false =>
       simp only[Bool.false_eq_true,if_false]
       exact wpS_pure ⟨rfl,rfl,b1.more O (by omega) hu hv hw,by omega⟩
end
end L2
namespace L2
open PySem PySem.Spec PyProof.Rows
def Offs:Nat→List (List Keyed)→List (Nat×Nat×Nat)→Prop
 | _,[],[]=>True
 | o,r::rs,p::ps=>p.1=o∧p.2.1=r.length∧Offs (o+r.length) rs ps
 | _,_,_=>False
theorem Offs.len:∀{o:Nat}{rs:List (List Keyed)}{ps:List (Nat×Nat×Nat)},Offs o rs ps→rs.length=ps.length
 | _,[],[],_=>rfl
 | _,_::_,_::_,⟨_,_,t⟩=>congrArg (· + 1) (Offs.len t)
theorem Offs.app:∀{o:Nat}{rs ts:List (List Keyed)}{ps qs:List (Nat×Nat×Nat)},Offs o rs ps→Offs (o+rs.flatten.length) ts qs→Offs o (rs++ts) (ps++qs)
 | o,[],ts,[],qs,_,h=>by simpa using h
 | o,r::rs,ts,p::ps,qs,⟨a,b,t⟩,h=>⟨a,b,Offs.app t (by rw[List.flatten_cons,List.length_append]at h;rw[Nat.add_assoc];exact h)⟩
theorem Offs.split:∀{o:Nat}{rs ts:List (List Keyed)}{ps:List (Nat×Nat×Nat)},Offs o (rs++ts) ps→∃p1 p2,ps=p1++p2∧p1.length=rs.length∧Offs o rs p1∧Offs (o+rs.flatten.length) ts p2
 | o,[],ts,ps,h=>⟨[],ps,rfl,rfl,trivial,by simpa using h⟩
 | o,r::rs,ts,[],h=>h.elim
 | o,r::rs,ts,p::ps,⟨a,b,t⟩=>by
  obtain⟨p1,p2,rfl,e,f,g⟩:=Offs.split t
  exact⟨p::p1,p2,rfl,congrArg (· + 1) e,⟨a,b,f⟩,by rw[List.flatten_cons,List.length_append,← Nat.add_assoc];exact g⟩
section
variable {ltb:Keyed→Keyed→Bool}{κ:SortKind}
structure RI (ltb:Keyed→Keyed→Bool) (κ:SortKind) (a0:List Keyed) (st:SortSt) (rs:List (List Keyed)) (U:List Keyed):Prop where
 kind:kindOf st=κ
 fail:failedOf st=none
 arr:(arrOf st).toList=rs.flatten++U
 perm:(arrOf st).toList.Perm a0
 offs:Offs 0 rs (pendingOf st).toList
 rise:∀r∈rs,r.Pairwise (leB ltb)∧r ≠ []
theorem flat_len:∀{rs:List (List Keyed)},(∀r∈rs,r ≠ [])→rs.length≤rs.flatten.length
 | [],_=>Nat.le_refl _
 | r::rs,h=>by
  have:=flat_len (rs:=rs) fun x hx=>h x (List.mem_cons_of_mem _ hx)
  have l:=List.length_pos_iff.mpr (h r List.mem_cons_self)
  rw[List.flatten_cons,List.length_append,List.length_cons];omega
end
section
variable {prog:Program}{w:World}{A:Around}{E:Value→Shared→Prop}{s:Shared}{ltb:Keyed→Keyed→Bool}{S:Keyed→Prop}{κ:SortKind}
theorem two_at {α:Type}{l:List α}{i:Nat}(h:i+1<l.length):∃pre x y post,l=pre ++ [x,y]++post∧pre.length=i:=by
 refine⟨l.take i,l[i],l[i+1],l.drop (i+2),?_,by rw[List.length_take];omega⟩
 have e1:=List.drop_eq_getElem_cons (show i<l.length by omega)
 have e2:=List.drop_eq_getElem_cons h
 conv=>lhs;rw[← List.take_append_drop i l,e1,e2]
 simp
theorem wpS_mergeR (O:OrdB ltb) (hO:LtOk prog w A E s ltb S κ) {st:SortSt}{Q:Bool→SortSt→Prop}{a0:List Keyed}{rs:List (List Keyed)}{U:List Keyed}{i:Nat}(hS:∀x∈a0,S x) (ri:RI ltb κ a0 st rs U) (hi:i+1<rs.length)
  (h:∀st' rs',RI ltb κ a0 st' rs' U→rs'.length+1=rs.length→rs'.flatten.length=rs.flatten.length→Q true st'):wpS (model prog w) A E s (mergeAt' i) Q st:=by
 obtain⟨pre,r1,r2,post,rfl,hpre⟩:=two_at hi
 have off:=ri.offs
 rw[List.append_assoc]at off
 obtain⟨p1,p2,ep,lp,o1,o2⟩:=off.split
 cases p2 with
 | nil=>exact o2.elim
 | cons x p2 =>
  cases p2 with
  | nil=>exact o2.2.2.elim
  | cons y p3 =>
   obtain⟨x1,x2,y1,y2,o3⟩:=o2
   obtain⟨ba,ka,pw⟩:=x
   obtain⟨bb,kb,pv⟩:=y
   dsimp only at x1 x2 y1 y2
   have lp':p1.length=i:=by omega
   have g1:(pendingOf st)[i]? = some (ba,ka,pw):=by
    rw[← Array.getElem?_toList,ep,List.getElem?_append_right (by omega),lp',Nat.sub_self];rfl
   have g2:(pendingOf st)[i+1]? = some (bb,kb,pv):=by
    rw[← Array.getElem?_toList,ep,List.getElem?_append_right (by omega),lp',Nat.add_sub_cancel_left];rfl
   have q1:=ri.rise r1 (by simp)
   have q2:=ri.rise r2 (by simp)
   refine wpS_mergeAt O hO (P:=pre.flatten) (R1:=r1) (R2:=r2) (T:=post.flatten++U) ri.kind ri.fail g1 g2 (by rw[ri.arr];simp) (by omega) x2 (by omega) y2 q1.2 q2.2 q1.1 q2.1 (fun x hx=>hS x (ri.perm.mem_iff.mp hx)) fun st' R s1 s2 s3 s4 s5 s6=>?_
   have lR:R.length=r1.length+r2.length:=by rw[s2.length_eq,List.length_append]
   refine h st' (pre ++ [R]++post) ⟨s4,s5,by rw[s3];simp,?_,?_,?_⟩ (by simp;omega) (by simp[lR];omega)
   ·rw[s3]
    refine List.Perm.trans ?_ ri.perm
    rw[ri.arr]
    have:(pre.flatten++R++(post.flatten++U)).Perm (pre.flatten++(r1++r2)++(post.flatten++U)):=List.Perm.append_right _ (List.Perm.append_left _ s2)
    refine this.trans (List.Perm.of_eq (by simp))
   ·have e6:(pendingOf st').toList=p1++((ba,ka+kb,pw)::p3):=by
     rw[s6,Array.toList_eraseIdxIfInBounds,Array.toList_setIfInBounds,ep]
     rw[List.set_append_right _ _ (by omega),lp',Nat.sub_self]
     rw[List.eraseIdx_append_of_length_le (by omega),lp',Nat.add_sub_cancel_left]
     rfl
    rw[e6,List.append_assoc]
    refine Offs.app o1 ⟨x1,by show ka+kb=R.length;omega,?_⟩
    have e7:0+pre.flatten.length+R.length=0+pre.flatten.length+r1.length+r2.length:=by omega
    rw[e7];exact o3
   ·intro r hr
    rcases List.mem_append.mp hr with z|z
    ·rcases List.mem_append.mp z with z|z
     ·exact ri.rise r (by simp[z])
     ·simp at z
      rw[z]
      refine⟨s1,fun e=>?_⟩
      rw[e]at lR
      have:=List.length_pos_iff.mpr q1.2
      simp at lR;omega
    ·exact ri.rise r (by simp[z])
end
end L2
namespace L2
open PySem PySem.Spec PyProof.Rows
theorem Offs.mod {f:Nat×Nat×Nat→Nat×Nat×Nat}(hf:∀p,(f p).1=p.1∧(f p).2.1=p.2.1):∀{o:Nat}{rs:List (List Keyed)}{ps:List (Nat×Nat×Nat)}(k:Nat),Offs o rs ps→Offs o rs (ps.modify k f)
 | _,[],[],k,_=>by cases k <;> exact trivial
 | o,r::rs,p::ps,0,⟨a,b,t⟩=>⟨(hf p).1.trans a,(hf p).2.trans b,t⟩
 | o,r::rs,p::ps,k+1,⟨a,b,t⟩=>⟨a,b,Offs.mod hf k t⟩
section
variable {ltb:Keyed→Keyed→Bool}{κ:SortKind}{a0:List Keyed}{st:SortSt}{rs:List (List Keyed)}
theorem RI.push {run U2:List Keyed}{lo n:Nat}(ri:RI ltb κ a0 st rs (run++U2)) (h1:run.Pairwise (leB ltb)) (h2:run ≠ []) (el:lo=rs.flatten.length) (en:n=run.length):RI ltb κ a0 (setPending st ((pendingOf st).push (lo,n,0))) (rs ++ [run]) U2:=by
 refine⟨ri.kind,ri.fail,by show(arrOf st).toList=_;rw[ri.arr];simp,ri.perm,?_,fun r hr=>?_⟩
 ·show Offs 0 _ ((pendingOf st).push _).toList
  rw[Array.toList_push]
  exact Offs.app ri.offs ⟨by show lo=0+_;omega,en,trivial⟩
 ·rcases List.mem_append.mp hr with z|z
  ·exact ri.rise r z
  ·simp at z;rw[z];exact⟨h1,h2⟩
theorem RI.mod {U:List Keyed}(ri:RI ltb κ a0 st rs U) (pw k:Nat):RI ltb κ a0 (setPending st ((pendingOf st).modify k fun q=>(q.1,q.2.1,pw))) rs U :=
 ⟨ri.kind,ri.fail,ri.arr,ri.perm,by
  show Offs 0 rs ((pendingOf st).modify k _).toList
  rw[Array.toList_modify]
  exact Offs.mod (f:=fun q=>(q.1,q.2.1,pw)) (fun p=>⟨rfl,rfl⟩) k ri.offs,ri.rise⟩
end
theorem flat_snoc (rs:List (List Keyed)) (r:List Keyed):(rs ++ [r]).flatten.length=rs.flatten.length+r.length:=by simp
theorem rise_all {ltb:Keyed→Keyed→Bool}{R:List Keyed}(h:RiseTo ltb R R.length):R.Pairwise (leB ltb):=by
 rw[List.pairwise_iff_getElem]
 intro i j hi hj hij
 exact h i j _ _ hij hj (List.getElem?_eq_getElem hi) (List.getElem?_eq_getElem hj)
theorem rise_take {ltb:Keyed→Keyed→Bool}{R:List Keyed}{n:Nat}(h:RiseTo ltb R n) (hn:n≤R.length):(R.take n).Pairwise (leB ltb):=by
 apply rise_all
 intro i j x y hij hj hx hy
 rw[List.length_take]at hj
 rw[List.getElem?_take,if_pos (by omega)]at hx hy
 exact h i j x y hij (by omega) hx hy
theorem minRun_pos:∀(f n r:Nat),1≤n→1≤minRun' f n r
 | 0,n,r,h=>by show 1≤n+r;omega
 | f+1,n,r,h=>by
  rw[minRun'_succ]
  split
  ·omega
  ·exact minRun_pos f (n / 2) _ (by omega)
section
variable {prog:Program}{w:World}{A:Around}{E:Value→Shared→Prop}{s:Shared}{ltb:Keyed→Keyed→Bool}{S:Keyed→Prop}{κ:SortKind}
theorem wpS_sortB (O:OrdB ltb) (hO:LtOk prog w A E s ltb S κ) {st:SortSt}{Q:Unit→SortSt→Prop}{a0:List Keyed}(hk:kindOf st=κ) (hf:failedOf st=none) (harr:(arrOf st).toList=a0) (hp:pendingOf st = #[]) (hS:∀x∈a0,S x)
  (h:∀st',(arrOf st').toList.Perm a0→(arrOf st').toList.Pairwise (leB ltb)→failedOf st'=none→Q () st'):wpS (model prog w) A E s sortRuns' Q st:=by
 have hN:(arrOf st).size=a0.length:=by rw[← harr,Array.length_toList]
 rw[sortRuns'_eq]
 refine wpS_bind (wpS_get ?_)
 dsimp only
 rw[hN]
 have ri0:RI ltb κ a0 st [] a0:=⟨hk,hf,by rw[harr];rfl,by rw[harr],by rw[hp];exact trivial,fun r hr=>by cases hr⟩
 have split:∀{st' rs U},RI ltb κ a0 st' rs U→rs.flatten.length+U.length=a0.length:=fun {st' rs U} ri=>by
  have:=ri.perm.length_eq
  rw[ri.arr,List.length_append]at this;exact this
 refine wpS_bind (wpS_mono (wpS_forRange (I:=fun x c st'=>∃rs U,c =(none,rs.flatten.length)∧RI ltb κ a0 st' rs U∧x≤rs.flatten.length)
  (Q:=fun c st'=>∃rs,c =(none,a0.length)∧RI ltb κ a0 st' rs []∧rs.flatten.length=a0.length) ?stp ?fin ⟨[],a0,rfl,ri0,Nat.zero_le _⟩) ?post)
 case fin =>
  rintro c st' ⟨rs,U,rfl,ri,hx⟩
  have:=split ri
  have hU:U=[]:=List.length_eq_zero_iff.mp (by omega)
  subst hU
  refine⟨rs,?_,ri,by omega⟩
  rw[show rs.flatten.length=a0.length by omega]
 case post =>
  rintro c st1 ⟨rs,rfl,ri,hfl⟩
  dsimp only
  have hrl:=flat_len (rs:=rs) fun r hr=>(ri.rise r hr).2
  refine wpS_bind (wpS_mono (wpS_forRange (I:=fun x c st'=>∃rs,c =(none,())∧RI ltb κ a0 st' rs []∧rs.length+x≤a0.length)
   (Q:=fun c st'=>∃rs,c =(none,())∧RI ltb κ a0 st' rs []∧rs.length≤1) ?stp9 ?fin9 ⟨rs,rfl,ri,by omega⟩) ?post9)
  case fin9 =>
   rintro c st' ⟨rs,rfl,ri,hx⟩
   exact⟨rs,rfl,ri,by omega⟩
  case post9 =>
   rintro c st' ⟨rs,rfl,ri,hl⟩
   refine wpS_pure (h st' ri.perm ?_ ri.fail)
   rw[ri.arr,List.append_nil]
   cases rs with
   | nil=>exact List.Pairwise.nil
   | cons r rs =>
    have:rs=[]:=by simp at hl;exact hl
    subst this
    simp
    exact(ri.rise r (by simp)).1
  case stp9 =>
   rintro x c st' _ hx ⟨rs,rfl,ri,hl⟩
   have hpl:(pendingOf st').size=rs.length:=by rw[← Array.length_toList,← ri.offs.len]
   refine wpS_bind (wpS_get ?_)
   try dsimp only
   by_cases c1:(pendingOf st').size≤1
   ·rw[if_pos c1]
    exact wpS_pure ⟨rs,rfl,ri,by omega⟩
   rw[if_neg c1]
   refine wpS_bind (wpS_mergeR O hO hS ri ?_ fun st2 rs2 ri2 e1 e2=>?_)
   ·(repeat' split) <;> omega
   ·simp only[Bool.not_true,Bool.false_eq_true,if_false]
    exact wpS_pure ⟨rs2,rfl,ri2,by omega⟩
 case stp =>
  rintro x c st1 _ hx ⟨rs,U,rfl,ri,hxl⟩
  have hsp:=split ri
  dsimp only
  by_cases c1:rs.flatten.length ≥ a0.length
  ·rw[if_pos c1]
   have hU:U=[]:=List.length_eq_zero_iff.mp (by omega)
   subst hU
   refine wpS_pure ⟨rs,?_,ri,by omega⟩
   rw[show rs.flatten.length=a0.length by omega]
  rw[if_neg c1,show a0.length-rs.flatten.length=U.length by omega]
  have hSU:∀x∈U,S x:=fun x hx=>hS x (ri.perm.mem_iff.mp (by rw[ri.arr];exact List.mem_append_right _ hx))
  refine wpS_bind (wpS_runB O hO (P:=rs.flatten) (R:=U) ri.kind ri.fail ri.arr (by omega) hSU fun st2 R' n z n1 n2 rise=>?_)
  have lR':=z.perm.length_eq
  dsimp only
  by_cases c2:n<minRun' a0.length a0.length 0
  ·rw[if_pos c2]
   refine wpS_bind (wpS_lift (wpAny_rule ⟨rfl,?_⟩))
   have mp:=minRun_pos a0.length a0.length 0 (by omega)
   generalize minRun' a0.length a0.length 0=mr at c2 mp
   obtain⟨fo,efo⟩ : ∃fo,min U.length mr=fo:=⟨_,rfl⟩
   rw[efo]
   have lT:(R'.take fo).length=fo:=by rw[List.length_take];omega
   rw[show binarySort' rs.flatten.length fo n=binarySort' rs.flatten.length (R'.take fo).length n by rw[lT]]
   refine wpS_bind (wpS_binB O hO (P:=rs.flatten) (R:=R'.take fo) (T:=R'.drop fo) z.kind z.fail (by rw[z.arr,List.append_assoc,List.take_append_drop]) (by omega) (fun i j x y hij hj hx hy=>by
     rw[List.getElem?_take,if_pos (by omega)]at hx hy
     exact rise i j x y hij hj hx hy) (fun x hx=>hSU x (z.perm.mem_iff.mp (List.mem_of_mem_take hx))) fun st3 R3 a1 a2 a3 a4 a5 a6=>?_)
   simp only[Bool.not_true,Bool.false_eq_true,if_false]
   have l3:R3.length=fo:=by rw[a2.length_eq,lT]
   have r1:=rise_all a3
   have r2:R3 ≠ []:=fun e=>by rw[e]at l3;simp at l3;omega
   have rj:RI ltb κ a0 st3 rs (R3++R'.drop fo):=⟨a4,a5,by rw[a1,List.append_assoc],by
    rw[a1]
    refine List.Perm.trans ?_ ri.perm
    rw[ri.arr,List.append_assoc]
    refine List.Perm.append_left _ ((List.Perm.append_right _ a2).trans ?_)
    rw[List.take_append_drop];exact z.perm,by rw[a6,z.pend];exact ri.offs,ri.rise⟩
   refine wpS_bind (wpS_get ?_)
   cases hb:(pendingOf st3).back? with
   | none =>
    dsimp only
    refine wpS_bind (wpS_modify (wpS_pure ⟨rs ++ [R3],R'.drop fo,?_,rj.push r1 r2 rfl l3.symm,?_⟩))
    ·simp[l3]
    ·have:=List.length_pos_iff.mpr r2
     rw[flat_snoc];omega
   | some t =>
    obtain⟨s1,k1,p1⟩:=t
    dsimp only
    refine wpS_bind (wpS_mono (wpS_forRange (I:=fun x c st'=>∃rs',c =(none,())∧RI ltb κ a0 st' rs' (R3++R'.drop fo)∧rs'.flatten.length=rs.flatten.length)
     (Q:=fun c st'=>∃rs',c =(none,())∧RI ltb κ a0 st' rs' (R3++R'.drop fo)∧rs'.flatten.length=rs.flatten.length) ?stp7 ?fin7 ⟨rs,rfl,rj,rfl⟩) ?post7)
    case fin7 =>
     rintro c st' hh
     exact hh
    case post7 =>
     rintro c st4 ⟨rs',rfl,rk,ef⟩
     dsimp only
     refine wpS_bind (wpS_modify (wpS_bind (wpS_modify (wpS_pure ⟨rs' ++ [R3],R'.drop fo,?_,(rk.mod _ _).push r1 r2 ef.symm l3.symm,?_⟩))))
     ·simp[l3,ef]
     ·have:=List.length_pos_iff.mpr r2
      rw[flat_snoc];omega
    case stp7 =>
     rintro x c st4 _ hx ⟨rs',rfl,rk,ef⟩
     have hpl:(pendingOf st4).size=rs'.length:=by rw[← Array.length_toList,← rk.offs.len]
     refine wpS_bind (wpS_get ?_)
     try dsimp only
     by_cases c5:(pendingOf st4).size > 1
     ·rw[if_pos c5]
      cases hq:(pendingOf st4)[(pendingOf st4).size-2]? with
      | none=>exact wpS_pure ⟨rs',rfl,rk,ef⟩
      | some t =>
       obtain⟨t1,t2,t3⟩:=t
       dsimp only
       split
       ·exact wpS_pure ⟨rs',rfl,rk,ef⟩
       ·refine wpS_bind (wpS_mergeR O hO hS rk (by omega) fun st5 rs5 r5 e1 e2=>?_)
        simp only[Bool.not_true,Bool.false_eq_true,if_false]
        exact wpS_pure ⟨rs5,rfl,r5,by omega⟩
     ·rw[if_neg c5]
      exact wpS_pure ⟨rs',rfl,rk,ef⟩
  ·rw[if_neg c2]
   have lT:(R'.take n).length=n:=by rw[List.length_take];omega
   have r1:=rise_take rise (by omega)
   have r2:R'.take n ≠ []:=fun e=>by rw[e]at lT;simp at lT;omega
   have rj:RI ltb κ a0 st2 rs (R'.take n++R'.drop n):=⟨z.kind,z.fail,by rw[z.arr,List.take_append_drop],by
    rw[z.arr]
    refine List.Perm.trans ?_ ri.perm
    rw[ri.arr]
    exact List.Perm.append_left _ z.perm,by rw[z.pend];exact ri.offs,ri.rise⟩
   refine wpS_bind (wpS_get ?_)
   cases hb:(pendingOf st2).back? with
   | none =>
    dsimp only
    refine wpS_bind (wpS_modify (wpS_pure ⟨rs ++ [R'.take n],R'.drop n,?_,rj.push r1 r2 rfl lT.symm,?_⟩))
    ·simp[lT]
    ·have:=List.length_pos_iff.mpr r2
     rw[flat_snoc];omega
   | some t =>
    obtain⟨s1,k1,p1⟩:=t
    dsimp only
    refine wpS_bind (wpS_mono (wpS_forRange (I:=fun x c st'=>∃rs',c =(none,())∧RI ltb κ a0 st' rs' (R'.take n++R'.drop n)∧rs'.flatten.length=rs.flatten.length)
     (Q:=fun c st'=>∃rs',c =(none,())∧RI ltb κ a0 st' rs' (R'.take n++R'.drop n)∧rs'.flatten.length=rs.flatten.length) ?stp7 ?fin7 ⟨rs,rfl,rj,rfl⟩) ?post7)
    case fin7 =>
     rintro c st' hh
     exact hh
    case post7 =>
     rintro c st4 ⟨rs',rfl,rk,ef⟩
     dsimp only
     refine wpS_bind (wpS_modify (wpS_bind (wpS_modify (wpS_pure ⟨rs' ++ [R'.take n],R'.drop n,?_,(rk.mod _ _).push r1 r2 ef.symm lT.symm,?_⟩))))
     ·simp[lT,ef]
     ·have:=List.length_pos_iff.mpr r2
      rw[flat_snoc];omega
    case stp7 =>
     rintro x c st4 _ hx ⟨rs',rfl,rk,ef⟩
     have hpl:(pendingOf st4).size=rs'.length:=by rw[← Array.length_toList,← rk.offs.len]
     refine wpS_bind (wpS_get ?_)
     try dsimp only
     by_cases c5:(pendingOf st4).size > 1
     ·rw[if_pos c5]
      cases hq:(pendingOf st4)[(pendingOf st4).size-2]? with
      | none=>exact wpS_pure ⟨rs',rfl,rk,ef⟩
      | some t =>
       obtain⟨t1,t2,t3⟩:=t
       dsimp only
       split
       ·exact wpS_pure ⟨rs',rfl,rk,ef⟩
       ·refine wpS_bind (wpS_mergeR O hO hS rk (by omega) fun st5 rs5 r5 e1 e2=>?_)
        simp only[Bool.not_true,Bool.false_eq_true,if_false]
        exact wpS_pure ⟨rs5,rfl,r5,by omega⟩
     ·rw[if_neg c5]
      exact wpS_pure ⟨rs',rfl,rk,ef⟩
end
end L2
namespace L2
open PySem PySem.Spec PyProof.Rows
def ltI (x y:Keyed):Bool:=decide (numOf x.1<numOf y.1)
def isI (x:Keyed):Prop:=∃n t,x.1=Value.int n t
theorem ordI:OrdB ltI:=⟨fun {x y} h=>by
 have:numOf x.1<numOf y.1:=of_decide_eq_true h
 exact decide_eq_false (by omega),fun {x y z} h1 h2=>by
 have a1:¬ numOf y.1<numOf x.1:=of_decide_eq_false h1
 have a2:¬ numOf z.1<numOf y.1:=of_decide_eq_false h2
 exact decide_eq_false (by omega)⟩
section
variable {prog:Program}{w:World}{A:Around}{E:Value→Shared→Prop}{s:Shared}
theorem ltOkI:LtOk prog w A E s ltI isI oneType':=by
 intro x y st Q hx hy hk q
 obtain⟨n,t,e1⟩:=hx
 obtain⟨m,u,e2⟩:=hy
 rw[lt'_eq]
 refine wpS_bind (wpS_get ?_)
 rw[hk,keyLt'_oneType,e1,e2]
 refine wpS_bind (wpS_lift (wpAny_attempt (oneLt_int ⟨rfl,wpS_pure ?_⟩)))
 have:ltI x y=decide (n<m):=by unfold ltI;rw[e1,e2];rfl
 rw[← this];exact q
theorem riseK {xs:Array Keyed}(h:xs.toList.Pairwise (leB ltI)) (k:Nat) (hk:k=xs.size):SortedTo xs k:=by
 intro i j hij hj
 subst hk
 rw[K_eq (by omega),K_eq hj]
 by_cases e:i=j
 ·subst e;exact Int.le_refl _
 ·have:=List.pairwise_iff_getElem.mp h i j (by simp;omega) (by simpa using hj) (by omega)
  have q:¬ numOf xs[j].1<numOf xs[i].1:=by
   have:=of_decide_eq_false this
   simpa using this
  omega
theorem lsort_any {a:Addr}{vs:List Value}{ns:List Int}{n:Nat}{Z:Fin→Shared→Prop}(ho:s.heap.get? a=some (seqObj "list" vs.toArray n)) (hI:IntsAre vs ns) (hv:vs.length≤100000)
  (hZ:∀(out:Array Value) (ms:List Int),IntsAre out.toList ms→ms.Perm ns→ms.Pairwise (· ≤ ·)→Z (.done (.ret .none)) { s with heap:=sortedHeap s.heap a vs out }) :
  wpAny (model prog w) A (Builtin.«list.sort» ⟨[.ref a],[]⟩) Z E s:=by
 by_cases h64:vs.length<64
 ·exact list_sort_tree ho hI h64 hZ
 have hline:(100000:Nat)<sizeLine:=by decide
 have lt0:=Heap.lt_size ho
 rw[list_sort_plain]
 refine(wpAny_bind (listItems_at ho rfl ?_))
 refine(wpAny_bind (listUpdate_at ho rfl ?_ (by simp;omega)))
 obtain⟨k1,hk1⟩ : ∃k1,(s.heap.update a (Obj.mapSeq fun _=>#[])).get? a=some (seqObj "list" #[] k1):=⟨_,(get?_update_seq ho (fun _=>#[]))⟩
 refine(wpAny_bind (seqEpoch_at hk1 rfl ?_))
 refine(wpAny_bind (wpAny_newTuple ?_ (by simp;omega)))
 refine(wpAny_bind (wpAny_newList ?_))
 refine(wpAny_holding ?_)
 have hk6:(((s.heap.update a (Obj.mapSeq fun _=>#[])).push (seqObj "tuple" vs.toArray 0)).push (seqObj "list" #[] 0)).get? a=some (seqObj "list" #[] k1):=(by
  rw[Heap.get?_push_ne _ _ _ (by rw[size_push',Heap.size_update];exact Nat.ne_of_lt (Nat.lt_succ_of_lt lt0)),Heap.get?_push_ne _ _ _ (by rw[Heap.size_update];exact Nat.ne_of_lt lt0)]
  exact hk1)
 show wpAny (model prog w) A _ Z E { s with heap:=((s.heap.update a (Obj.mapSeq fun _=>#[])).push (seqObj "tuple" vs.toArray 0)).push (seqObj "list" #[] 0) }
 dsimp only
 have two:¬ vs.toArray.size<2:=by simp;omega
 rw[if_neg two,if_neg two]
 obtain⟨v,u,r,rfl⟩ : ∃v u r,vs=v::u::r:=by
  cases vs with
  | nil=>simp at h64
  | cons v vs=>cases vs with
   | nil=>simp at h64
   | cons u r=>exact⟨v,u,r,rfl⟩
 rw[keyKind_ints hI]
 refine(wpAny_bind (wpAny_pure ?_))
 have a0S:∀x∈(pairsOf (v::u::r)).toList,isI x:=hI.intKeys
 refine wpAny_bind (wpAny_mono (wpS_sortB ordI ltOkI (st:=SortSt.mk' oneType' ((v::u::r).toArray.zip (v::u::r).toArray) #[] 7 none) (a0:=(pairsOf (v::u::r)).toList) (Q:=fun _ st'=>(arrOf st').toList.Perm (pairsOf (v::u::r)).toList∧(arrOf st').toList.Pairwise (leB ltI)∧failedOf st'=none) rfl rfl rfl rfl a0S fun st' b1 b2 b3=>⟨b1,b2,b3⟩) ?_ fun _ _ e=>e)
 rintro⟨⟨⟩,st'⟩ s' ⟨rfl,b1,b2,b3⟩
 dsimp only
 have hp:(arrOf st').Perm (pairsOf (v::u::r)):=Array.perm_iff_toList_perm.mpr b1
 have hsz:=hp.size_eq
 refine(wpAny_bind (seqEpoch_at hk6 rfl ?_))
 refine wpAny_bind (listUpdate_at hk6 rfl ?_ (hsz2:=by
  rw[Array.size_map,hsz,pairsOf_size];omega))
 rw[b3]
 simp only[bne_self_eq_false,Bool.false_eq_true,if_false]
 obtain⟨ms,c1,c2,c3⟩:=sorted_out hI hp (riseK b2 _ hsz.symm)
 exact wpAny_pure (hZ _ ms c1 c2 c3)
theorem sorted_any {l:Addr}{vs:List Value}{ns:List Int}{Q:Value→Shared→Prop}(hl:s.heap.IsList l vs.toArray) (hI:IntsAre vs ns) (hv:vs.length≤100000)
  (hQ:∀(out:Array Value) (ms:List Int),IntsAre out.toList ms→ms.Perm ns→ms.Pairwise (· ≤ ·)→Q (.ref (s.heap.objs.size+1)) { s with heap:=sortedAll s.heap vs out }) :
  wpAny (model prog w) A (call (.builtin "sorted") [.ref l]) Q E s:=by
 have hline:(100000:Nat)<sizeLine:=by decide
 refine(Calls.call_function_entry kind_sorted plain_sorted entry_sorted (args_sorted1 _) ?_)
 unfold Builtin.«sorted»
 refine(wpAny_bind (m:=checkCount "sorted" 1 1 _) (wpAny_pure ?_))
 refine(wpAny_bind (collect_list hl ?_ (by omega)))
 refine(wpAny_bind (wpAny_newList ?_ (by first|omega|(simp;omega))))
 have sz1:((s.heap.push (seqObj "list" #[] 0)).update s.heap.objs.size (Obj.mapSeq (· ++ vs.toArray))).objs.size=s.heap.objs.size+1:=(by rw[Heap.size_update,size_push'])
 have at1:(((s.heap.push (seqObj "list" #[] 0)).update s.heap.objs.size (Obj.mapSeq (· ++ vs.toArray))).push (seqObj "list" vs.toArray 0)).get? (s.heap.objs.size+1)=some (seqObj "list" vs.toArray 0):=(by
  rw[← sz1];exact Heap.get?_push_size _ rfl)
 show wpAny _ _ _ _ E { s with heap:=((s.heap.push (seqObj "list" #[] 0)).update s.heap.objs.size (Obj.mapSeq (· ++ vs.toArray))).push (seqObj "list" vs.toArray 0) }
 rw[sz1]
 refine wpAny_bind (wpAny_holding (wpAny_call_entry slot_list_sort ⟨_,at1,rfl⟩ entry_list_sort (lsort_any at1 hI hv fun out ms c1 c2 c3=>⟨_,rfl,?_⟩) (args_list_sort _)))
 exact wpAny_pure ⟨_,rfl,hQ out ms c1 c2 c3⟩
end
section
variable {X:Cx}
def rSortL (K:PySem.W.Frag):List V→Hp→VK→Prop:=fun xs H Q=>∃a ns,xs=[.ref a]∧SqL K H a (List.map V.int ns)∧ns.length≤100000∧∀ms l,ms.Perm ns→ms.Pairwise (· ≤ ·)→H l=none→Q (.ref l) (upd H l (.lst (List.map V.int ms)))
theorem call_sortL:CallR X (.builtin "sorted") (rSortL X.K):=by
 intro pins s σ H xs us Q I r h
 obtain⟨a,ns,rfl,hq,hn,q⟩:=h
 obtain⟨u,rfl,r1⟩:=vals1 r
 cases (show u=Value.ref a from r1)
 obtain⟨its,rv,pl,hz⟩:=I.list hq
 have hi:IntsAre its ns:=intsAre_of rv
 refine sorted_any pl.isList hi (by rw[hi.length];exact hn) fun out ms c1 c2 c3=>?_
 obtain⟨e,he⟩:=sortedAll_at s.heap its out
 have hz2:(List.map V.int ms).length≤sizeLine:=by
  have hline:(100000:Nat)<sizeLine:=by decide
  rw[List.length_map,c2.length_eq];omega
 exact⟨.ref (s.heap.objs.size+1),_,I.laid (t':=s.toks) (fun b o hb=>sortedAll_old hb) (Nat.le_succ _) (o:=.lst (List.map V.int ms)) ⟨hz2,out.toList,e,vals_ints c1,by simpa using he⟩,rfl,q ms _ c2 c3 (I.hok.fresh (Nat.le_succ _))⟩
theorem rd_sortL {K:PySem.W.Frag}{H:Hp}{Q:VK}{a:Addr}{ns:List Int}(h:SqL K H a (ns.map V.int)) (n:ns.length≤100000) (q:∀(ms:List Int) (l:Addr),ms.Perm ns→ms.Pairwise (· ≤ ·)→H l=none→Q (.ref l) (upd H l (.lst (ms.map V.int)))):rSortL K [.ref a] H Q:=⟨a,ns,rfl,h,n,q⟩
end
end L2
namespace L2
open PySem PySem.Spec PyProof.Rows
def tDead:TS:=fun _ _ _=>False
theorem ps_dead {X:Cx}{st:Stmt}:PS X st tDead:=fun _ _ _ _ _ _ h=>h.elim
section
variable {X:Cx}{K:PySem.W.Frag}
end
section
variable {X:Cx}{K:PySem.W.Frag}{pos:Pos}
theorem pg_tupK {es:List Expr}{k:Nat}{t:TGs}{n:Nat}(h:X.K=K) (hc:X.calm=true) (hp:PGs X es t)
  (hn:(assignEach es X.env).length=n:=by rfl) (hst:(assignEach es X.env).findIdx? (·.1)=none:=by rfl):PG X (.Tuple es k pos) (gTup K n t):=by subst h;exact pg_tup hc hp hn hst
end
theorem rd_aug {i:Nat}{te:TE}{ti:TIp}{D:Ends}{σ:St}{H:Hp}{x:V}(h:σ[i]? = some (some x)) (q:te σ H fun y H1=>ti x y H1 fun z H2=>D.nx (σ.set i (some z)) H2):tAug i te ti D σ H:=⟨x,h,q⟩
section
variable {σ:St}{H:Hp}{Q:VK}{D:Ends}
theorem rd_dput {td ty tv:TE}(h:tv σ H fun v H1=>td σ H1 fun x H2=>ty σ H2 fun y H3=>∃a H4,x = .ref a∧DPut H3 a y v H4∧D.nx σ H4):sDPut td ty tv D σ H:=h
theorem rd_dnewK (h:∀p,H p=none→Q (.ref p) (upd H p (.dK []))):tDNewK σ H Q:=h
end
def Itz (K:PySem.W.Frag) (a b:Addr) : It :=
  ⟨fun i H=>∃ xs x ys y,SqL K H a xs∧xs[i]? = some x∧SqL K H b ys∧ys[i]? = some y,
   fun i H x H'=>∃ t u v,H t = none∧H' = upd H t (.tup [u,v])∧x = .ref t∧(∀ xs,SqL K H a xs→xs[i]? = some u)∧(∀ ys,SqL K H b ys→ys[i]? = some v),
   fun i H=>∃ xs ys,SqL K H a xs∧SqL K H b ys∧(xs.length ≤ i ∨ ys.length ≤ i)⟩
theorem turn_zip {P:Program}{w:World}{K:PySem.W.Frag}{elts:List Expr}{x1}{tpos:Pos}{a1 a2 z TI TO i1 i2:Addr}(D:ZipApart z TI TO i1 i2 a1 a2) :
  Turn P w K (.Tuple elts x1 tpos) (Itz K a1 a2) [z,TO,i1,i2,TI] z (fun i h=>IsZip h z TI TO .none∧IsPair h TI (.ref i1) (.ref i2)∧(∃a b,IsPair h TO a b)∧h.IsListIter i1 a1 i∧h.IsListIter i2 a2 i) where
 mem:=by simp
 obj:=fun i h st b hb=>by
  obtain⟨hz,hTI,⟨x,y,hTO⟩,⟨o1,e1,c1,d1⟩,⟨o2,e2,c2,d2⟩⟩:=st
  have:b=z∨b=TO∨b=i1∨b=i2∨b=TI:=by simpa using hb
  rcases this with rfl|rfl|rfl|rfl|rfl
  ·exact⟨_,hz,fun v q=>by cases q⟩
  ·exact⟨_,hTO,fun v q=>by cases q⟩
  ·exact⟨o1,e1,fun v q=>by rw[d1]at q;cases q⟩
  ·exact⟨o2,e2,fun v q=>by rw[d2]at q;cases q⟩
  ·exact⟨_,hTI,fun v q=>by cases q⟩
 keep:=fun i h h' st k=>by
  obtain⟨hz,hTI,⟨x,y,hTO⟩,h1,h2⟩:=st
  exact⟨k z (by simp) _ hz,k TI (by simp) _ hTI,⟨x,y,k TO (by simp) _ hTO⟩,h1.at fun o q=>k i1 (by simp) o q,h2.at fun o q=>k i2 (by simp) o q⟩
 item:=by
  intro X hP hw hK hc i pins s σ H E I hf st hg
  subst hP hw hK
  obtain⟨xs,x,ys,y,hq1,hx,hq2,hy⟩:=hg
  obtain⟨hz,hTI,⟨ao,bo,hTO⟩,h1,h2⟩:=st
  obtain⟨its1,rv1,p1,hz1⟩:=I.list hq1
  obtain⟨its2,rv2,p2,hz2⟩:=I.list hq2
  obtain⟨u,hu,ru⟩:=rv1.get hx
  obtain⟨v,hv,rv⟩:=rv2.get hy
  have lz:z<s.heap.objs.size:=Heap.lt_size hz
  have lTO:TO<s.heap.objs.size:=Heap.lt_size hTO
  have lTI:TI<s.heap.objs.size:=Heap.lt_size hTI
  obtain⟨o1,e1,c1,d1⟩:=id h1
  obtain⟨o2,e2,c2,d2⟩:=id h2
  have l1:i1<s.heap.objs.size:=Heap.lt_size e1
  have l2:i2<s.heap.objs.size:=Heap.lt_size e2
  have lt:∀b ∈ [z,TO,i1,i2,TI],b<s.heap.objs.size:=fun b hb=>by
   have:b=z∨b=TO∨b=i1∨b=i2∨b=TI:=by simpa using hb
   rcases this with rfl|rfl|rfl|rfl|rfl <;> assumption
  refine wpAny_pyNext_zip_item D hz hTI hTO h1 h2 p1.isList p2.isList (x:=u) (y:=v) (by simpa using hu) (by simpa using hv) fun h₁ hz₁ hTO₁ hi1 hi2 hT₁ hsz₁ hk₁=>⟨_,rfl,?_⟩
  refine wpAny_letOwnedTupleGo_zip hz₁ fun h₂ hz₂ hs₂=>?_
  replace hs₂:Heap.SameBut z h₁ h₂:=hs₂
  have hnew:h₂.get? s.heap.objs.size=some { cls:=.type "tuple",data:=.seq #[u,v] }:=(hs₂.2 _ (Nat.ne_of_gt lz)).trans hT₁
  have hkeep:∀b o,b ∉ [z,TO,i1,i2,TI]→s.heap.get? b=some o→h₂.get? b=some o:=fun b o hb q=>by
   have n1:b≠z:=fun e=>hb (by simp[e])
   have n2:b≠TO:=fun e=>hb (by simp[e])
   have n3:b≠i1:=fun e=>hb (by simp[e])
   have n4:b≠i2:=fun e=>hb (by simp[e])
   exact(hs₂.2 b n1).trans (hk₁ b o n1 n2 n3 n4 q)
  have free0:=I.hok.fresh (Nat.le_refl s.heap.objs.size)
  have hT:ObjOk X.prog X.w (upd H s.heap.objs.size (.tup [x,y])) h₂ s.heap.objs.size (.tup [x,y]) :=
   ⟨(by show 2≤sizeLine;decide),[u,v],.cons ru (.cons rv .nil),⟨_,hnew,rfl,_,rfl⟩⟩
  have I2:Inv X pins σ (upd H s.heap.objs.size (.tup [x,y])) { s with heap:=h₂,toks:=s.toks }:=I.turnedN (t':=s.toks) hkeep hf (Nat.le_refl _) hT
  refine⟨.ref s.heap.objs.size,upd H s.heap.objs.size (.tup [x,y]),I2,rfl,⟨s.heap.objs.size,x,y,free0,rfl,rfl,fun ys' hy'=>by rw[I.list_inj hy' hq1];exact hx,fun ys' hy'=>by rw[I.list_inj hy' hq2];exact hy⟩,⟨hz₂,?_,⟨u,v,?_⟩,?_,?_⟩,fun b hb=>?_⟩
  ·exact hs₂.extBut _ _ D.TIz (hk₁ _ _ D.TIz D.TITO D.TIi1 D.TIi2 hTI)
  ·exact hs₂.extBut _ _ D.TOz hTO₁
  ·exact hi1.extBut hs₂.extBut D.i1z
  ·exact hi2.extBut hs₂.extBut D.i2z
  ·rw[upd_ne (Nat.ne_of_lt (lt b hb))]
   exact(hf b hb).1
 done:=by
  intro X hP hw hK hc i pins s σ H E I hf st hg
  subst hP hw hK
  obtain⟨xs,ys,hq1,hq2,hx⟩:=hg
  obtain⟨hz,hTI,⟨ao,bo,hTO⟩,h1,h2⟩:=st
  obtain⟨its1,rv1,p1,hz1⟩:=I.list hq1
  obtain⟨its2,rv2,p2,hz2⟩:=I.list hq2
  have hl1:=rv1.length
  have hl2:=rv2.length
  have hend:its1.toArray[i]? = none∨its2.toArray[i]? = none:=by
   rcases hx with c|c
   ·left;simp;omega
   ·right;simp;omega
  refine wpAny_pyNext_zip_end (I.ok.hd hc) D hz hTI hTO h1 h2 p1.isList p2.isList hend fun h' eb=>⟨rfl,I.turnedL (t':=s.toks) (ch:=[z,TO,i1,i2,TI]) (fun b o hb e=>?_) hf⟩
  exact eb b o (fun e=>hb (by simp[e])) (fun e=>hb (by simp[e])) (fun e=>hb (by simp[e])) (fun e=>hb (by simp[e])) e
 self:=fun _ _ _ _ _ st h=>wpAny_pyIter_zip st.1 h
section
variable {X:Cx}{elts:List Expr}{x1:_}{tpos:Pos}
def iZip (K:PySem.W.Frag) (ta:TA):TI:=fun σ H R=>ta σ H fun vs H1=>∃a b,vs=[.ref a,.ref b]∧(∃xs,SqL K H1 a xs)∧(∃ys,SqL K H1 b ys)∧R (Itz K a b) H1
theorem pi_zip {x1}{l m:Expr}{ta:TA}{p pos:Pos}(hg:Gl X "zip") (hm:X.mg "zip" = none) (ha:PA X [l,m] ta) (hs:starEach (l::[m]) X.env =(false,eval l X.env)::starEach [m] X.env:=by rfl) (hs2:starEach [m] X.env=[(false,eval m X.env)]:=by rfl) :
  PI X (.Tuple elts x1 tpos) (.Call (.Name "zip" p) [l,m] [] pos) (iZip X.K ta):=by
 intro pins s σ H R I h
 refine Call_ (ld_blt I hg hm bt_zip (PyProof.Rows.callWith_type1 (thn (ha pos pins s σ H _ I h) fun us s1 ⟨vs,H1,I1,r1,q1⟩=>?_) hs (by rw[hs2];rfl)))
 obtain⟨a,b,rfl,⟨xs,hq⟩,⟨ys,hq2⟩,q⟩:=q1
 obtain⟨u,v,rfl,ru,rv⟩:=vals2 r1
 cases ru
 cases rv
 obtain⟨its,r1',pl,hz⟩:=I1.list hq
 obtain⟨its2,r2',pl2,hz2⟩:=I1.list hq2
 have la:a<s1.heap.objs.size:=by obtain⟨_,e,_⟩:=pl.isList;exact Heap.lt_size e
 have lb:b<s1.heap.objs.size:=by obtain⟨_,e,_⟩:=pl2.isList;exact Heap.lt_size e
 refine call_zip_2 pl.isList pl2.isList fun h' hz hTI hTO hi1 hi2 hsz hk=>?_
 refine wpAny_pyIter_zip hz ?_
 have I2:Inv X pins σ H1 { s1 with heap:=h' }:=I1.kept (t':=s1.toks) hk
 refine⟨s1.heap.objs.size+4,[s1.heap.objs.size+4,s1.heap.objs.size+3,s1.heap.objs.size,s1.heap.objs.size+1,s1.heap.objs.size+2],_,_,H1,rfl,I2,turn_zip (zipApart_new la lb),⟨hz,hTI,⟨_,_,hTO⟩,hi1,hi2⟩,fun b hb=>?_,q⟩
 have hb2:s1.heap.objs.size≤b:=by
  have:b=s1.heap.objs.size+4∨b=s1.heap.objs.size+3∨b=s1.heap.objs.size∨b=s1.heap.objs.size+1∨b=s1.heap.objs.size+2:=by simpa using hb
  rcases this with e|e|e|e|e <;> rw[e] <;> first|exact Nat.le_refl _|exact Nat.le_add_right _ _
 exact I1.fpOk hb2 (I1.hok.fresh hb2)
end
section
variable {K:PySem.W.Frag}{H:Hp}{Q:VK}{σ:St}
theorem rd_izip {ta:TA}{R:It→Hp→Prop}(h:ta σ H fun vs H1=>∃a b,vs=[.ref a,.ref b]∧(∃xs,SqL K H1 a xs)∧(∃ys,SqL K H1 b ys)∧R (Itz K a b) H1):iZip K ta σ H R:=h
theorem comp_zip {vs:List Str}{js:List Nat}{g:TG}{tt:TT}{te:TE}{a b:Addr}{xs zs:List V}(Pv:Nat→St→List V→Hp→Prop) (D:Addr) (hlen:xs.length=zs.length) (h0:Pv 0 (blkSt vs js σ) [] (upd H D (.lst [])))
  (hl:∀i σ' ys H',i≤xs.length→Pv i σ' ys H'→SqL K H' a xs∧SqL K H' b zs)
  (hs:∀i x z σ' ys H' t,xs[i]? = some x→zs[i]? = some z→Pv i σ' ys H'→H' t=none→g (.ref t) σ' (upd H' t (.tup [x,z])) fun σ3 H3=>tt σ3 H3 fun b H4=>if b=true then te σ3 H4 fun y H5=>H5 D=some (.lst ys)∧ys.length<sizeLine∧Pv (i+1) σ3 (ys ++ [y]) (upd H5 D (.lst (ys ++ [y]))) else Pv (i+1) σ3 ys H4)
  (hd:∀σ' ys H',Pv xs.length σ' ys H'→Q (.ref D) H'):CompW (Itz K a b) vs js σ g tt te Q D H:=by
 refine⟨fun i m σ' ys H'=>m=xs.length-i∧i≤xs.length∧Pv i σ' ys H',⟨xs.length,by simp,Nat.zero_le _,h0⟩,?_⟩
 rintro i m σ' ys H' ⟨rfl,hi,p⟩
 obtain⟨q1,q2⟩:=hl i σ' ys H' hi p
 by_cases hlt:i<xs.length
 ·refine .inr ⟨⟨xs,xs[i],zs,zs[i],q1,by simp[hlt],q2,by simp[hlen ▸ hlt]⟩,Pv (i+1),fun σ2 zs H2 p'=>⟨xs.length-(i+1),by omega,rfl,hlt,p'⟩,fun x H2 y=>?_⟩
  obtain⟨t,u,v,nt,rfl,rfl,y1,y2⟩:=y
  exact hs i u v σ' ys _ t (y1 xs q1) (y2 zs q2) p nt
 ·have e:i=xs.length:=by omega
  subst e
  exact .inl ⟨⟨xs,zs,q1,q2,.inl (Nat.le_refl _)⟩,hd σ' ys H' p⟩
end
end L2
namespace L2
open PySem PySem.Spec PyProof.Rows
section
variable {X:Cx}{pins:List (Addr×Obj)}{σ:St}{H:Hp}{s:Shared}{h':Heap}
theorem Inv.adopt {t':Nat}{ch:List Addr}{a:Addr}{o:HO}(I:Inv X pins σ H s) (k:∀b o,b∉ch→s.heap.get? b=some o→h'.get? b=some o) (f:∀b∈ch,FpOk X pins H b)
  (ha:a∈ch) (new:ObjOk X.prog X.w (upd H a o) h' a o):Inv X pins σ (upd H a o) { s with heap:=h',toks:=t' }:=by
 have nit:∀b u,H b=some u→b∉ch:=fun b u e z=>by rw[(f b z).1]at e;cases e
 have hn:=(f a ha).1
 have up:∀b u,H b=some u→upd H a o b=some u:=fun b u q=>by rw[upd_ne (ne_of_none q hn)];exact q
 refine I.step (g':=s.gens) (d':=s.drawn) (ch:=ch) (fun b hb=>?_) (fun b o _ _ hc e _=>k b o hc e) (fun b o _ _ hc e _=>⟨o.slots,k b o hc e⟩) (fun b ob hc e n=>by rw[upd_ne (show b≠a from fun z=>hc (by rw[z];exact ha))];exact n) (fun b o hc e=>⟨o,k b o hc e⟩) (fun b xs e=>up _ _ e) (fun b ob u e=>up _ _ e)
  (fun b ps e=>⟨#[],by rw[up _ _ e];simp⟩) (fun m hm=>?_) (fun b u e=>?_) I.bare
 ·obtain⟨f0,f1,f2,f3,f4,f5⟩:=f b hb
  exact⟨f3,f1,f4,f5⟩
 ·obtain⟨o,es,ep,ho,r⟩:=hm
  exact⟨o,es,ep,k _ o (fun z=>(f _ z).2.1 rfl) ho,r⟩
 ·by_cases hb:b=a
  ·subst hb;rw[upd_same]at e;cases e;exact new
  ·rw[upd_ne hb]at e
   refine(I.hok b u e).stay (fun c v hc q=>k c v ?_ q) (fun c q=>up _ _ q) fun c xs q=>up _ _ q
   rcases hc with z|z
   ·rw[z];exact nit b u e
   ·exact nit c _ z
theorem key_out {vs:List Value}{ns:List Int}{κ:Int→Int}{out:List Value}(hI:IntsAre vs ns) (h:KskOut false (ns.map κ) vs out):∃ms,IntsAre out ms∧ms.Perm ns∧ms.Pairwise (fun x y=>κ x≤κ y):=by
 obtain⟨ps,h1,h2,h3⟩:=h
 have en:ns=vs.map numOf:=by rw[← hI.nums]
 have mem:∀p∈ps,(∃n t,p.2=Value.int n t)∧p.1=κ (numOf p.2):=fun p hp=>by
  have hz:=h1.mem_iff.mp hp
  rw[en,List.map_map]at hz
  obtain⟨i,hi⟩:=List.getElem?_of_mem hz
  rw[List.getElem?_zip_eq_some,List.getElem?_map]at hi
  obtain⟨e1,e2⟩:=hi
  rw[e2]at e1
  exact⟨hI.all _ (List.mem_of_getElem? e2),(Option.some.inj e1).symm⟩
 have hall:∀v∈out,∃a t,v=Value.int a t:=fun v hv=>by
  rw[h2]at hv
  obtain⟨p,hp,rfl⟩:=List.mem_map.mp hv
  exact(mem p hp).1
 refine⟨out.map numOf,?_,?_,?_⟩
 ·have:=intsAre_ofList out hall
  rw[← this.nums]at this
  exact this
 ·rw[h2,List.map_map]
  have:=h1.map (fun p:Int×Value=>numOf p.2)
  refine this.trans (List.Perm.of_eq ?_)
  rw[en,List.map_map]
  refine List.ext_getElem? fun i=>?_
  rw[List.getElem?_map,List.getElem?_map]
  cases e:vs[i]? with
  | none =>
   have:((vs.map (κ ∘ numOf)).zip vs)[i]? = none:=by
    rw[List.getElem?_eq_none_iff]at e ⊢
    rw[List.length_zip,List.length_map];omega
   rw[this];rfl
  | some v =>
   have:((vs.map (κ ∘ numOf)).zip vs)[i]? = some (κ (numOf v),v):=by
    rw[List.getElem?_zip_eq_some,List.getElem?_map,e]
    exact⟨rfl,rfl⟩
   rw[this];rfl
 ·rw[h2,List.map_map,List.pairwise_map]
  refine h3.imp_of_mem fun {p q} hp hq h=>?_
  show κ (numOf p.2)≤κ (numOf q.2)
  rw[←(mem p hp).2,←(mem q hq).2]
  simpa using h
variable {A:Around}{E:Value→Shared→Prop}
set_option maxHeartbeats 1000000 in
theorem lsort_key {a:Addr}{vs:List Value}{ns:List Int}{n:Nat}{f:Value}{κ:Int→Int}{Z:Fin→Shared→Prop}(I:Inv X pins σ H s) (ho:s.heap.get? a=some (seqObj "list" vs.toArray n)) (hfa:FpOk X pins H a) (hI:IntsAre vs ns) (hv:vs.length≤100000)
  (turn:∀(z:Int) (t:Tok) (pins':List (Addr×Obj)) (s':Shared),z∈ns→Inv X pins' σ H s'→wpAny (model X.prog X.w) A (call f [.int z t]) (fun r s''=>(∃t',r = .int (κ z) t')∧Inv X pins' σ H s'') (fun _ _=>False) s')
  (hZ:∀(s':Shared) (ms:List Int),ms.Perm ns→ms.Pairwise (fun x y=>κ x≤κ y)→Inv X pins σ (upd H a (.lst (ms.map V.int))) s'→Z (.done (.ret .none)) s') :
  wpAny (model X.prog X.w) A (ksk_tree a f false) Z E s:=by
 have hline:(100000:Nat)<sizeLine:=by decide
 have lt0:=Heap.lt_size ho
 obtain⟨e1,ho1⟩ : ∃e1,(s.heap.update a (Obj.mapSeq fun _=>(#[]:Array Value))).get? a=some (seqObj "list" #[] e1):=⟨_,get?_update_seq ho fun _=>#[]⟩
 have hkS:((s.heap.update a (Obj.mapSeq fun _=>(#[]:Array Value))).push (seqObj "tuple" vs.toArray 0)).objs.size=s.heap.objs.size+1:=by rw[size_push',Heap.size_update]
 unfold ksk_tree
 refine wpAny_bind (listItems_at ho rfl ?_)
 refine wpAny_bind (listUpdate_at ho rfl ?_ (by rw[List.size_toArray];omega) (Nat.zero_le _))
 refine wpAny_bind (seqEpoch_at ho1 rfl ?_)
 refine wpAny_bind (wpAny_newTuple ?_ (by show vs.length≤_;omega))
 refine wpAny_bind (wpAny_newList ?_ (Nat.zero_le _))
 refine wpAny_holding ?_
 have sb:=Heap.SameBut.update s.heap a (Obj.mapSeq fun _=>(#[]:Array Value))
 have I1:Inv X pins σ H { s with heap:=((s.heap.update a (Obj.mapSeq fun _=>(#[]:Array Value))).push (seqObj "tuple" vs.toArray 0)).push (seqObj "list" #[] 0) } :=
  I.turnedL (t':=s.toks) (ch:=[a]) (fun b o hb e=>Heap.get?_push_of_some _ (Heap.get?_push_of_some _ ((sb.2 b (fun z=>hb (by simp[z]))).trans e))) fun b hb=>by rw[List.mem_singleton.mp hb];exact hfa
 generalize hkk:((s.heap.update a (Obj.mapSeq fun _=>(#[]:Array Value))).push (seqObj "tuple" vs.toArray 0)).objs.size=kS at hkS
 have hk1:(((s.heap.update a (Obj.mapSeq fun _=>(#[]:Array Value))).push (seqObj "tuple" vs.toArray 0)).push (seqObj "list" #[] 0)).get? kS=some (seqObj "list" #[] 0):=by rw[← hkk];exact Heap.get?_push_size _ rfl
 have ha1:(((s.heap.update a (Obj.mapSeq fun _=>(#[]:Array Value))).push (seqObj "tuple" vs.toArray 0)).push (seqObj "list" #[] 0)).get? a=some (seqObj "list" #[] e1):=Heap.get?_push_of_some _ (Heap.get?_push_of_some _ ho1)
 have ka:kS≠a:=by rw[hkS];exact Nat.ne_of_gt (Nat.lt_succ_of_lt lt0)
 have hfk:FpOk X pins H kS:=by
  have hle:s.heap.objs.size≤kS:=by rw[hkS];exact Nat.le_succ _
  exact I.fpOk hle (I.hok.fresh hle)
 clear hkk hkS
 generalize hs1:({ s with heap:=((s.heap.update a (Obj.mapSeq fun _=>(#[]:Array Value))).push (seqObj "tuple" vs.toArray 0)).push (seqObj "list" #[] 0) }:Shared)=s1 at I1
 have hk1:s1.heap.get? kS=some (seqObj "list" #[] 0):=by rw[← hs1];exact hk1
 have ha1:s1.heap.get? a=some (seqObj "list" #[] e1):=by rw[← hs1];exact ha1
 clear hs1 sb ho1 I
 have fp2:∀b ∈ [kS,a],FpOk X pins H b:=fun b hb=>by
  have:b=kS∨b=a:=by simpa using hb
  rcases this with rfl|rfl <;> assumption
 unfold ksk_rest
 refine wpAny_bind (wpAny_rule ?_)
 first
  | rw[List.forIn_toArray]
  | (rw[← Array.forIn_toList];simp only[List.toList_toArray])
  | rw[← Array.forIn_toList]
 refine wpAny_bind (ksk_fold (fun i s'=>Inv X pins σ H s'∧∃kA e,s'.heap.get? kS=some (seqObj "list" kA e)∧s'.heap.get? a=some (seqObj "list" #[] e1)∧IntsAre kA.toList ((ns.map κ).take i)) vs 0 s1 ⟨I1,#[],0,hk1,ha1,by simpa using IntsAre.nil⟩ ?step ?done)
 case step =>
  rintro j x s' hx ⟨I',kA,e,hk,ha,hks⟩
  simp only[Nat.zero_add]at hks ⊢
  have hj:j<vs.length:=(List.getElem?_eq_some_iff.mp hx).1
  have en:ns=vs.map numOf:=by rw[← hI.nums]
  obtain⟨z,t,rfl⟩:=hI.all x (List.mem_of_getElem? hx)
  have hz:ns[j]? = some z:=by rw[en,List.getElem?_map,hx];rfl
  have hzs:kA.size≤vs.length:=by
   have h1:=hks.length
   rw[Array.length_toList,List.length_take]at h1
   omega
  have Ip:=I'.pinned (fp:=[kS,a]) fp2 fun b hb=>by
   have:b=kS∨b=a:=by simpa using hb
   rcases this with rfl|rfl
   ·exact⟨_,hk,fun v q=>by cases q⟩
   ·exact⟨_,ha,fun v q=>by cases q⟩
  refine wpAny_bind (wpAny_attempt (wpAny_mono (turn z t _ s' (List.mem_of_getElem? hz) Ip) (fun v s'' he=>?_) fun _ _ hF=>hF.elim))
  obtain⟨⟨t2,rfl⟩,I2⟩:=he
  have gk:s''.heap.get? kS=some (seqObj "list" kA e):=(I2.pin (kS,_) (List.mem_append_right _ (List.mem_append_right _ (mem_pinsAt (by simp) hk)))).1
  have ga:s''.heap.get? a=some (seqObj "list" #[] e1):=(I2.pin (a,_) (List.mem_append_right _ (List.mem_append_right _ (mem_pinsAt (by simp) ha)))).1
  try dsimp only
  obtain⟨c2,hc2⟩ : ∃c2,(s''.heap.update kS (Obj.mapSeq (·.push (.int (κ z) t2)))).get? kS=some (seqObj "list" (kA.push (.int (κ z) t2)) c2):=⟨_,get?_update_seq gk (·.push (.int (κ z) t2))⟩
  have s1':=Heap.SameBut.update s''.heap kS (Obj.mapSeq (·.push (.int (κ z) t2)))
  have ek:(ns.map κ).take (j+1) =(ns.map κ).take j ++ [κ z]:=by
   rw[List.take_add_one,List.getElem?_map,hz];simp
  have ea:(kA.push (Value.int (κ z) t2)).toList=kA.toList ++ [Value.int (κ z) t2]:=by simp
  refine wpAny_bind (listUpdate_at gk rfl ?_ (by omega) (Nat.le_trans (Nat.le_of_eq (Array.size_push ..)) (by omega)))
  refine wpAny_pure ⟨rfl,I2.unpinned.turnedL (t':=s''.toks) (ch:=[kS]) (fun b o hb e=>(s1'.2 b (fun z=>hb (by simp[z]))).trans e) (fun b hb=>by rw[List.mem_singleton.mp hb];exact hfk),_,c2,hc2,(s1'.2 a ka.symm).trans ga,by rw[ea,ek];exact ksk_snoc hks⟩
 case done =>
  rintro s' ⟨I',kA,e,hk,ha,hks⟩
  have en:ns=vs.map numOf:=by rw[← hI.nums]
  have nl:ns.length=vs.length:=by rw[en,List.length_map]
  have e3:(ns.map κ).take (0+vs.length)=ns.map κ:=List.take_of_length_le (by rw[List.length_map];omega)
  rw[e3]at hks
  have hsz:kA.size=vs.length:=by
   have h1:=hks.length
   rw[Array.length_toList,List.length_map]at h1
   omega
  have hzs:(kA.zip vs.toArray).size=vs.length:=by rw[Array.size_zip,hsz,List.size_toArray,Nat.min_self]
  refine wpAny_bind (listItems_at hk rfl ?_)
  unfold ksk_end
  try dsimp only
  have tail:∀st:SortSt,(arrOf st).Perm (kA.zip vs.toArray)→SortedTo (arrOf st) (arrOf st).size→failedOf st=none→wpAny (model X.prog X.w) A (ksk_tail a false e1 (.ref kS) st) Z E s':=fun st hp hs hfl=>by
   have hsz2:(arrOf st).size=vs.length:=by rw[hp.size_eq,hzs]
   have hout:((arrOf st).map (·.2)).size=vs.length:=by rw[Array.size_map];exact hsz2
   obtain⟨ms,m1,m2,m3⟩:=key_out hI (by have:=ksk_out (b:=false) hks hp hs;simpa using this)
   have s1':=Heap.SameBut.update s'.heap kS (Obj.mapSeq fun _=>(#[]:Array Value))
   have na1:(s'.heap.update kS (Obj.mapSeq fun _=>(#[]:Array Value))).get? a=some (seqObj "list" #[] e1):=(s1'.2 a ka.symm).trans ha
   have s2':=Heap.SameBut.update (s'.heap.update kS (Obj.mapSeq fun _=>(#[]:Array Value))) a (Obj.mapSeq fun _=>(arrOf st).map (·.2))
   obtain⟨c2,hc2⟩ : ∃c2,((s'.heap.update kS (Obj.mapSeq fun _=>(#[]:Array Value))).update a (Obj.mapSeq fun _=>(arrOf st).map (·.2))).get? a=some (seqObj "list" ((arrOf st).map (·.2)) c2):=⟨_,get?_update_seq na1 fun _=>(arrOf st).map (·.2)⟩
   have IA:Inv X pins σ (upd H a (.lst (ms.map V.int))) { s' with heap:=(s'.heap.update kS (Obj.mapSeq fun _=>(#[]:Array Value))).update a (Obj.mapSeq fun _=>(arrOf st).map (·.2)),toks:=s'.toks }:=by
    refine I'.adopt (ch:=[kS,a]) (fun b o hb q=>?_) fp2 (by simp) ?_
    ·exact(s2'.2 b (fun z=>hb (by simp[z]))).trans ((s1'.2 b (fun z=>hb (by simp[z]))).trans q)
    ·have m1':IntsAre ((arrOf st).map (fun x=>x.2)).toList ms:=by rw[Array.toList_map];exact m1
     refine⟨by rw[List.length_map,m2.length_eq,nl];omega,((arrOf st).map (fun x=>x.2)).toList,c2,vals_ints m1',?_⟩
     rw[Array.toArray_toList]
     exact hc2
   generalize hh9:(s'.heap.update kS (Obj.mapSeq fun _=>(#[]:Array Value))).update a (Obj.mapSeq fun _=>(arrOf st).map (·.2))=h9 at IA
   unfold ksk_tail
   try dsimp only
   refine wpAny_bind (listUpdate_at hk rfl ?_ (by rw[hsz];omega) (Nat.zero_le _))
   refine wpAny_bind (wpAny_letGo ?_)
   refine wpAny_bind (seqEpoch_at na1 rfl ?_)
   refine wpAny_bind (listUpdate_at na1 rfl ?_ (Nat.zero_le _) (Nat.le_trans (Nat.le_of_eq (by simpa using hout)) (Nat.le_succ_of_le (Nat.le_of_lt (Nat.lt_of_le_of_lt hv hline)))))
   rw[hfl]
   simp only[bne_self_eq_false,Bool.false_eq_true,if_false]
   rw[hh9]
   exact wpAny_pure (hZ _ ms m2 m3 IA)
  by_cases h2:vs.toArray.size<2
  ·rw[if_neg (by decide),if_pos h2,if_pos h2]
   refine wpAny_bind (wpAny_pure ?_)
   rw[StateT.run_pure]
   refine wpAny_bind (wpAny_pure ?_)
   try dsimp only
   refine tail (SortSt.mk' general' (kA.zip vs.toArray) #[] 7 none) (Array.Perm.refl _) ?_ rfl
   intro i j hij hj
   have hj2:j <(kA.zip vs.toArray).size:=hj
   rw[hzs]at hj2
   rw[List.size_toArray]at h2
   have:i=j:=by omega
   subst this
   exact Int.le_refl _
  ·rw[if_neg (by decide),if_neg h2,if_neg h2]
   rw[List.size_toArray]at h2
   rw[ksk_kind hks (by rw[hsz];omega)]
   refine wpAny_bind (wpAny_pure ?_)
   have a0S:∀x∈(kA.zip vs.toArray).toList,isI x:=ksk_intKeys hks
   refine wpAny_bind (wpAny_mono (wpS_sortB ordI ltOkI (st:=SortSt.mk' oneType' (kA.zip vs.toArray) #[] 7 none) (a0:=(kA.zip vs.toArray).toList) (Q:=fun _ st'=>(arrOf st').toList.Perm (kA.zip vs.toArray).toList∧(arrOf st').toList.Pairwise (leB ltI)∧failedOf st'=none) rfl rfl rfl rfl a0S fun st' b1 b2 b3=>⟨b1,b2,b3⟩) ?_ fun _ _ e=>e)
   rintro⟨⟨⟩,st'⟩ s'' ⟨rfl,b1,b2,b3⟩
   try dsimp only
   exact tail st' (Array.perm_iff_toList_perm.mpr b1) (riseK b2 _ rfl) b3
end
section
variable {prog:Program}{w:World}{A:Around}{E:Value→Shared→Prop}{s:Shared}
end
section
variable {X:Cx}{pins:List (Addr×Obj)}{σ:St}{H:Hp}{s:Shared}{E:Value→Shared→Prop}
theorem sorted_tail {vs:List Value}{ns:List Int}{f:Addr}{κ:Int→Int}{Z:Fin→Shared→Prop}(I:Inv X pins σ H s) (hI:IntsAre vs ns) (hv:vs.length≤100000)
  (turn:∀(z:Int) (t:Tok) (pins':List (Addr×Obj)) (s':Shared),z∈ns→Inv X pins' σ H s'→wpAny (model X.prog X.w) X.A.in1.in1 (call (.ref f) [.int z t]) (fun r s''=>(∃t',r = .int (κ z) t')∧Inv X pins' σ H s'') (fun _ _=>False) s')
  (hZ:∀(s':Shared) (l:Addr) (ms:List Int),H l=none→ms.Perm ns→ms.Pairwise (fun x y=>κ x≤κ y)→Inv X pins σ (upd H l (.lst (ms.map V.int))) s'→Z (.done (.ret (.ref l))) s') :
  wpAny (model X.prog X.w) X.A.in1 (do
   let l ← newList vs
   let _ ← holding [l] (call (.builtin "list.sort") [l] [(Str.ofString "key",.ref f)])
   ret l) Z E s:=by
 have hline:(100000:Nat)<sizeLine:=by decide
 refine wpAny_bind (wpAny_newList ?_ (by omega))
 have at1:(s.heap.push (seqObj "list" vs.toArray 0)).get? s.heap.objs.size=some (seqObj "list" vs.toArray 0):=Heap.get?_push_size _ rfl
 have I1:Inv X pins σ H { s with heap:=s.heap.push (seqObj "list" vs.toArray 0) }:=I.kept (t':=s.toks) fun b o e=>Heap.get?_push_of_some _ e
 have hfa:=I.fpOk (Nat.le_refl _) (I.hok.fresh (Nat.le_refl _))
 refine wpAny_bind (wpAny_holding (wpAny_call_entry_kw slot_list_sort ⟨_,at1,rfl⟩ entry_list_sort ?body (ksk_l1 _ _)))
 case body =>
  show wpAny (model X.prog X.w) X.A.in1.in1 (Builtin.«list.sort» ⟨[.ref s.heap.objs.size],[(Str.ofString "key",.ref f)]⟩) _ _ _
  rw[ksk_t1]
  refine lsort_key I1 at1 hfa hI hv turn fun s' ms m1 m2 I2=>⟨_,rfl,wpAny_pure (hZ s' _ ms (I.hok.fresh (Nat.le_refl _)) m1 m2 I2)⟩
end
section
variable {X:Cx}{e:Expr}{t:TA}{y:Str}{ps:List Str}{k:Nat}{sp:Sp}{p p2 kpos pos:Pos}
end
section
variable {X:Cx}
end
end L2
namespace L2
open PySem PySem.Spec PyProof.Rows
def CodeO (c:Addr) (qual:Str):HO:=.ext fun h=>h.CodeRec (.ref c) qual
def FnO (f:Addr) (o:Obj):HO:=.ext fun h=>h.get? f=some o
def Tb (P:Addr) (pos:Pos) (qual:Str) (H:Hp):Prop :=
 ∃ps:Array Value,H P=some (.tbl ps)∧TriplesOk ps.toList∧(codeAmong pos ps.toList=none ∨ ∃c,codeAmong pos ps.toList=some (.ref c)∧H c=some (CodeO c qual))
structure Sm (H H':Hp):Prop where
 nt:∀b o,H b=some o→(∀ps,o ≠ .tbl ps)→H' b=some o
 tb:∀b ps,H b=some (.tbl ps)→∃ps',H' b=some (.tbl ps')
theorem Sm.refl (H:Hp):Sm H H:=⟨fun _ _ h _=>h,fun _ ps h=>⟨ps,h⟩⟩
theorem Sm.trans {H H1 H2:Hp}(a:Sm H H1) (b:Sm H1 H2):Sm H H2:=⟨fun c o h n=>b.nt c o (a.nt c o h n) n,fun c ps h=>by
 obtain⟨ps',e⟩:=a.tb c ps h
 exact b.tb c ps' e⟩
theorem Same.sm {H H1:Hp}(a:Same H H1):Sm H H1:=⟨fun c o h _=>a c o h,fun c ps h=>⟨ps,a _ _ h⟩⟩
theorem Sm.lst {H H1:Hp}(a:Sm H H1) {b:Addr}{xs:List V}(h:H b=some (.lst xs)):H1 b=some (.lst xs):=a.nt _ _ h fun _=>nofun
theorem Sm.tup {H H1:Hp}(a:Sm H H1) {b:Addr}{xs:List V}(h:H b=some (.tup xs)):H1 b=some (.tup xs):=a.nt _ _ h fun _=>nofun
theorem Sm.free {H H':Hp}(e:Sm H H') {l:Addr}(h:H' l=Option.none):H l=Option.none:=by
 cases q:H l with
 | none=>rfl
 | some o =>
  by_cases t:∃ps,o = .tbl ps
  ·obtain⟨ps,rfl⟩:=t
   obtain⟨ps',z⟩:=e.tb _ _ q
   rw[z]at h;cases h
  ·rw[e.nt l o q fun ps z=>t ⟨ps,z⟩]at h
   cases h
theorem Tb.same {P:Addr}{pos:Pos}{qual:Str}{H H1:Hp}(t:Tb P pos qual H) (s:Same H H1):Tb P pos qual H1:=by
 obtain⟨ps,e,h1,h2⟩:=t
 refine⟨ps,s _ _ e,h1,?_⟩
 rcases h2 with z|⟨c,z,hc⟩
 ·exact .inl z
 ·exact .inr ⟨c,z,s _ _ hc⟩
theorem Tb.keep {P:Addr}{pos:Pos}{qual:Str}{H H1:Hp}(t:Tb P pos qual H) (s:∀b o,H b=some o→((∃ps,o = .tbl ps)∨o=CodeO b qual)→H1 b=some o):Tb P pos qual H1:=by
 obtain⟨ps,e,h1,h2⟩:=t
 refine⟨ps,s _ _ e (.inl ⟨_,rfl⟩),h1,?_⟩
 rcases h2 with z|⟨c,z,hc⟩
 ·exact .inl z
 ·exact .inr ⟨c,z,s _ _ hc (.inr rfl)⟩
def BM (mg:Str→Option Value) (base:Heap):Prop:=∃bm o,mg "__builtins__" = some (.ref bm)∧bm≠builtinsNs∧base.get? bm=some o∧o.cls = .type "module"∧o.dict=some builtinsNs∧o.data = .plain
def tbP (K:PySem.W.Frag) (x:Str):Addr:=match PySem.W.tabIn K x with
 | some (_,P)=>P
 | none=>0
structure Lam (K:PySem.W.Frag) (mg:Str→Option Value) (base:Heap) (x:Str) (f:Addr) (fd:FuncData):Prop where
 bm:BM mg base
 code:∃c,fd.code = .ref c∧PySem.W.codeHdIn K c (tbP K x)=true
def tbC (K:PySem.W.Frag) (x:Str):Addr:=match PySem.W.tabIn K x with
 | some (c,_)=>c
 | none=>0
theorem lam_mk {K:PySem.W.Frag}{mg:Str→Option Value}{base:Heap}{x:Str}{f c P:Addr}{fd:FuncData}{oc:Value}{od:Option Addr}{sl:Array (Option Value)}(b:BM mg base) (a:PySem.W.nsIn K mainGlobals x=some (some (.ref f))) (l:K.lookup f=some ⟨oc,od,.func fd,sl⟩)
  (t:PySem.W.tabIn K x=some (c,P)) (h:PySem.W.codeHdIn K c P=true):Lam K mg base x f fd:=by
 have e:tbP K x=P:=by unfold tbP;rw[t]
 refine⟨b,c,?_,by rw[e];exact h⟩
 unfold PySem.W.tabIn at t
 rw[a]at t
 simp only[l]at t
 split at t
 ·rename_i c2 hc
  split at t
  ·split at t
   ·cases t;exact hc
   ·cases t
  ·cases t
 ·cases t
theorem Fun.okC {P:Program}{w:World}{K:PySem.W.Frag}{mg:Str→Option Value}{base:Heap}{x qual:Str}{st:Stmt}{f:Addr}{fd:FuncData}{N ps:List Str}{k:Nat}{sp:Sp}(F:Fun K x qual st f fd) (S:FnScope N ps (defScope st)) (len:∀vs H Q E,sp vs H Q E→vs.length=ps.length)
  (hbody:∀(cdv:Value) (A:Around) (outer:List Env) (s:Shared) (H:Hp) (vs:List V) (Q:VK) (E:XK),cdv=fd.code→Room k (A.deeper (envOfC qual (defScope st) s.heap.objs.size f cdv))→sp vs H Q E →
   ∃t,PSs (cxOf CX0 P w K mg base N qual (defScope st) f cdv A outer s H E).nox (defBody st) t∧t { nx:=fun _ H'=>Q .non H',rt:=Q } (start N vs) H):FnOk P w K mg base CX0 (k+1) f fd ps sp:=by
 obtain⟨oc,od,kV,doc,pm,an,cdv,ct,osl,rfl,lk,hcd⟩:=F.ex
 refine fn_of lk hcd S len fun A outer s H vs Q E hr hsp=>?_
 obtain⟨t,h,q⟩:=hbody cdv A outer s H vs Q E rfl hr hsp
 exact⟨t,h.nox,q⟩
theorem Cal.ofC {P:Program}{w:World}{K:PySem.W.Frag}{mg:Str→Option Value}{base:Heap}{x:Str}{st:Stmt}{f:Addr}{fd:FuncData}{N ps:List Str}{k:Nat}{sp:Sp}(F:Fun K x x st f fd) (mF:mg x=some (.ref f)) (bF:Binds K fd ps []) (S:FnScope N ps (defScope st)) (len:∀vs H Q E,sp vs H Q E→vs.length=ps.length)
  (hbody:∀(cdv:Value) (A:Around) (outer:List Env) (s:Shared) (H:Hp) (vs:List V) (Q:VK) (E:XK),cdv=fd.code→Room k (A.deeper (envOfC x (defScope st) s.heap.objs.size f cdv))→sp vs H Q E →
   ∃t,PSs (cxOf CX0 P w K mg base N x (defScope st) f cdv A outer s H E).nox (defBody st) t∧t { nx:=fun _ H'=>Q .non H',rt:=Q } (start N vs) H):Cal P w K mg base x ps (k+1) sp :=
 ⟨f,fd,F.okC S len hbody,bF,mF,F.kp⟩
section
variable {X:Cx}{pins:List (Addr×Obj)}{σ:St}{H:Hp}{s:Shared}
abbrev lamObj (X:Cx) (params:Arguments) (body:Expr) (scope:Scope) (c:Addr) (ctv:Value):Obj :=
 { cls:=.type "function",data:=.func (PySem.W.kla_fn "<lambda>" (X.env.qual ++ "<lambda>") params body scope (clOf X.env scope.names []) ((X.mg "__name__").getD .none) (.ref c) ctv) }
def tLam (X:Cx) (P:Addr) (params:Arguments) (body:Expr) (scope:Scope) (pos:Pos):TE:=fun σ H Q=>Tb P pos (X.env.qual ++ "<lambda>") H ∧
 ∀f c ctv H',Sm H H'→Tb P pos (X.env.qual ++ "<lambda>") H'→H f=none→H' f=some (FnO f (lamObj X params body scope c ctv))→H' c=some (CodeO c (X.env.qual ++ "<lambda>"))→Q (.ref f) H'
theorem objOk_code {pr:Program}{w:World}{H:Hp}{h:Heap}{c:Addr}{qual:Str}(x:h.CodeRec (.ref c) qual):ObjOk pr w H h c (CodeO c qual):=by
 refine⟨x,?_,fun h1 h2 y k=>?_⟩
 ·obtain⟨c',o,vs,t,e,g,_⟩:=x
  cases e;exact⟨o,g⟩
 ·obtain⟨c',o,vs,t,e,g,r⟩:=y
  cases e
  exact⟨c,o,vs,t,rfl,k _ g,r⟩
theorem objOk_fn {pr:Program}{w:World}{H:Hp}{h:Heap}{f:Addr}{o:Obj}(x:h.get? f=some o):ObjOk pr w H h f (FnO f o):=⟨x,⟨o,x⟩,fun h1 h2 y k=>k _ y⟩
theorem triples_snoc:∀(l:List Value) {a b:Int}{t u:Tok}{c:Value},TriplesOk l→TriplesOk (l ++ [.int a t,.int b u,c])
 | [],_,_,_,_,_,_=>trivial
 | [_],_,_,_,_,_,h=>by simp[TriplesOk]at h
 | [_,_],_,_,_,_,_,h=>by simp[TriplesOk]at h
 | x::y::z::r,a,b,t,u,c,h=>by
  cases x with
  | int i ti =>
   cases y with
   | int j tj=>exact triples_snoc r (show TriplesOk r from h)
   | _=>exact False.elim h
  | _=>exact False.elim h
theorem pe_lam {P c:Addr}{params:Arguments}{body:Expr}{scope:Scope}{pos:Pos}(hdef:defaultsOf params X.env =([],[])) (hf:∀y∈scope.names,y.2 = .free→X.env.kindOf y.1=some .cell∨X.env.kindOf y.1=some .free)
  (hcode:X.env.code = .ref c) (C:PySem.W.codeHdIn X.K c P=true) (B:BM X.mg X.base):PE X (.Lambda params body scope pos) (tLam X P params body scope pos):=by
 intro pins s σ H Q I h
 obtain⟨⟨ps,eP,ht,hc⟩,q⟩:=h
 refine PySem.W.kla_eval hdef ?_
 have hcl:closureFor scope X.env=pure (clOf X.env scope.names []):=closure_eq fun y hy hk=>I.ok.has y.1 (hf y hy hk)
 have hg:s.heap.Ns mainGlobals X.mg:=I.ok.mod.glob.keeps I.bk
 have CH:PySem.W.CodeHd s.heap c P:=(PySem.W.codeHd_of_K I.ok.mod.kin C).keeps I.bk
 have hP:s.heap.get? P=some (PySem.W.tabObj ps):=I.hok _ _ eP
 have hgP:mainGlobals≠P:=fun z=>by
  obtain⟨o,es,ep,e,hd,_⟩:=hg
  rw[z,hP]at e;cases e;cases hd
 have hB:s.heap.BuiltinsAt X.mg P:=by
  obtain⟨bm,o,b1,b2,b3,b4,b5,b6⟩:=B
  refine⟨bm,o,b1,b2,fun z=>?_,fun z=>?_,I.bk _ _ b3,b4,b5,b6⟩
  ·obtain⟨o',es,ep,e,hd,_⟩:=I.ok.mod.glob
   rw[z,e]at b3;cases b3;rw[hd]at b6;cases b6
  ·have:=(I.bs _ _ b3).2
   rw[z,eP]at this;cases this
 have tup_ne:∀{b:Addr}{o:HO},H b=some o→(∀ps,o ≠ .tbl ps)→b≠P:=fun {b o} e n z=>by rw[z,eP]at e;cases e;exact n _ rfl
 rcases hc with hn|⟨c',hc',eC⟩
 ·refine PySem.W.kla_makeFunction (mg:=X.mg) hcl I.ok.glob hg hcode CH hP ht hn hgP hB fun c' ctv h' tk hx hge hlt hrec htb=>?_
  have lt':s.heap.objs.size≤h'.objs.size:=Nat.le_trans hge (Nat.le_of_lt hlt)
  have nc:H c'=none:=I.hok.fresh hge
  have nf:H h'.objs.size=none:=I.hok.fresh lt'
  have cf:c'≠h'.objs.size:=Nat.ne_of_lt hlt
  have cP:c'≠P:=fun z=>by rw[z,eP]at nc;cases nc
  have fP:h'.objs.size≠P:=fun z=>by rw[z,eP]at nf;cases nf
  generalize hfa:h'.objs.size=f at cf nf fP lt' ⊢
  generalize hob:(PySem.W.kla_obj "<lambda>" (X.env.qual ++ "<lambda>") params body scope (clOf X.env scope.names []) ((X.mg "__name__").getD .none) c' ctv:Obj)=ob
  have kp:∀b o,b≠P→s.heap.get? b=some o→(h'.push ob).get? b=some o:=fun b o hb e=>Heap.get?_push_of_some _ (hx b o hb e)
  have gf:(h'.push ob).get? f=some ob:=by rw[← hfa];exact Heap.get?_push_size _ (by rw[← hob];rfl)
  have gP:(h'.push ob).get? P=some (PySem.W.tabObj (ps ++ #[rawInt pos.line,rawInt pos.col,.ref c'])):=Heap.get?_push_of_some _ htb
  have gC:=hrec.push ob
  generalize hH2:upd (upd (upd H P (.tbl (ps ++ #[rawInt pos.line,rawInt pos.col,.ref c']))) c' (CodeO c' (X.env.qual ++ "<lambda>"))) f (FnO f ob)=H2
  have e2f:H2 f=some (FnO f ob):=by rw[← hH2,upd_same]
  have e2c:H2 c'=some (CodeO c' (X.env.qual ++ "<lambda>")):=by rw[← hH2,upd_ne cf,upd_same]
  have e2P:H2 P=some (.tbl (ps ++ #[rawInt pos.line,rawInt pos.col,.ref c'])):=by rw[← hH2,upd_ne (Ne.symm fP),upd_ne (Ne.symm cP),upd_same]
  have e2o:∀b,b≠P→b≠c'→b≠f→H2 b=H b:=fun b h1 h2 h3=>by rw[← hH2,upd_ne h3,upd_ne h2,upd_ne h1]
  have old:∀b o,H b=some o→b≠P→H2 b=some o:=fun b o e hb=>by rw[e2o b hb (ne_of_none e nc) (ne_of_none e nf)];exact e
  have sm:Sm H H2:=⟨fun b o e n=>old b o e (tup_ne e n),fun b ps' e=>by
   by_cases h1:b=P
   ·exact⟨_,by rw[h1];exact e2P⟩
   ·exact⟨ps',old b _ e h1⟩⟩
  have hok2:HOk X.prog X.w H2 (h'.push ob):=fun b o e=>by
   by_cases h3:b=f
   ·subst h3;rw[e2f]at e;cases e;exact objOk_fn gf
   ·by_cases h2:b=c'
    ·subst h2;rw[e2c]at e;cases e;exact objOk_code gC
    ·by_cases h1:b=P
     ·subst h1;rw[e2P]at e;cases e;exact gP
     ·rw[e2o b h1 h2 h3]at e
      refine(I.hok b o e).stay (fun c u hc g=>kp c u ?_ g) (fun c z=>old c _ z (tup_ne z fun _=>nofun)) fun c xs z=>old c _ z (tup_ne z fun _=>nofun)
      rcases hc with z|z
      ·rw[z];exact h1
      ·exact tup_ne z fun _=>nofun
  have u:Un X.fs [] H H2 s.heap (h'.push ob):=by
   have neP:∀b,H b=none→b≠P:=fun b n z=>by rw[z,eP]at n;cases n
   refine⟨fun b o e n _ _=>kp b o (neP b n) e,fun b o e n _ _=>⟨o.slots,kp b o (neP b n) e⟩,fun b o e n _=>?_,fun b o e _=>?_,fun b xs e=>sm.nt _ _ e fun _=>nofun,fun b ob' u' e=>sm.nt _ _ e fun _=>nofun,fun b ps' e=>?_⟩
   ·have l:=Heap.lt_size e
    rw[e2o b (neP b n) (Nat.ne_of_lt (Nat.lt_of_lt_of_le l hge)) (Nat.ne_of_lt (Nat.lt_of_lt_of_le l lt'))];exact n
   ·by_cases h1:b=P
    ·subst h1;exact⟨_,gP⟩
    ·exact⟨o,kp b o h1 e⟩
   ·by_cases h1:b=P
    ·subst h1;rw[eP]at e;cases e;exact⟨_,e2P⟩
    ·exact⟨#[],by rw[old b _ e h1];simp⟩
  have tb2:Tb P pos (X.env.qual ++ "<lambda>") H2:=by
   refine⟨_,e2P,?_,.inr ⟨c',?_,e2c⟩⟩
   ·rw[Array.toList_append];exact triples_snoc _ ht
   ·rw[Array.toList_append];exact codeAmong_snoc _ ht hn
  refine⟨.ref f,H2,I.un (t':=tk) u hok2,rfl,q f c' ctv H2 sm tb2 nf ?_ e2c⟩
  rw[e2f,← hob]
 ·refine PySem.W.kla_makeFunctionHit (mg:=X.mg) hcl I.ok.glob hg hcode CH hP ht hc' hB fun ctv h' tk hk hsz=>?_
  have nf:H h'.objs.size=none:=I.hok.fresh hsz
  generalize hfa:h'.objs.size=f at nf hsz ⊢
  generalize hob:({ cls:=.type "function",data:=.func (PySem.W.kla_fn "<lambda>" (X.env.qual ++ "<lambda>") params body scope (clOf X.env scope.names []) ((X.mg "__name__").getD .none) (.ref c') ctv) }:Obj)=ob
  have kp:∀b o,s.heap.get? b=some o→(h'.push ob).get? b=some o:=fun b o e=>Heap.get?_push_of_some _ (hk b o e)
  have gf:(h'.push ob).get? f=some ob:=by rw[← hfa];exact Heap.get?_push_size _ (by rw[← hob];rfl)
  have sm:Same H (upd H f (FnO f ob)):=fun b o e=>by rw[upd_ne (ne_of_none e nf)];exact e
  refine⟨.ref f,upd H f (FnO f ob),I.laid (t':=tk) kp hsz (objOk_fn gf),rfl,q f c' ctv _ sm.sm ?_ nf (by rw[upd_same,← hob]) (sm _ _ eC)⟩
  exact Tb.same ⟨ps,eP,ht,.inr ⟨c',hc',eC⟩⟩ sm
end
end L2
namespace L2
open PySem PySem.Spec PyProof.Rows
def lamEnv (X:Cx) (scope:Scope) (L f c:Addr):Env:=PySem.W.envX (X.env.qual ++ "<lambda>") scope L f (.ref c) (clOf X.env scope.names [])
def cxLam (X:Cx) (scope:Scope) (N:List Str) (L f c:Addr) (s:Shared) (H:Hp):Cx :=
 { X with A:=X.A.in1.in1.deeper (lamEnv X scope L f c),N:=N,s₀:=s,H₀:=H,env:=lamEnv X scope L f c,outer:=X.stack,stack:=lamEnv X scope L f c::X.stack,ex:=[],fn:=fun _=>false,pn:=[],xe:=fun _ _=>False }
structure LamOk (X:Cx) (scope:Scope) (y:Str) (fs:List Str) (js:List Nat):Prop where
 kind:scope.kind = .function
 co:scope.isCoroutine=false
 gen:scope.isGenerator=false
 cell:∀z∈scope.names,z.2 ≠ .cell
 free:∀z∈scope.names,z.2 = .free→X.env.kindOf z.1=some .cell∨X.env.kindOf z.1=some .free
 own:scope.names.lookup y=some .local
 cap:∀z∈fs,scope.names.lookup z=some .free
 ix:js.map (fun j=>X.N[j]?)=fs.map some
def lamB (sc scope:Scope) (N:List Str) (y:Str) (fs:List Str) (js:List Nat):Bool :=
 (scope.kind == .function) && !scope.isCoroutine && !scope.isGenerator && scope.names.all (fun z=>z.2 != .cell) && scope.names.all (fun z=>z.2 != .free || sc.names.lookup z.1 == some .cell || sc.names.lookup z.1 == some .free) &&
 (scope.names.lookup y == some .local) && fs.all (fun z=>scope.names.lookup z == some .free) && (js.map (fun j=>N[j]?) == fs.map some)
theorem lamOk {X:Cx}{sc scope:Scope}{N:List Str}{y:Str}{fs:List Str}{js:List Nat}(h:lamB sc scope N y fs js=true) (hs:X.env.scope=sc) (hN:X.N=N):LamOk X scope y fs js:=by
 unfold lamB at h
 simp only[Bool.and_eq_true,List.all_eq_true,beq_iff_eq,bne_iff_ne,Bool.or_eq_true,Bool.not_eq_true']at h
 obtain⟨⟨⟨⟨⟨⟨⟨h1,h2⟩,h3⟩,h4⟩,h5⟩,h6⟩,h7⟩,h8⟩:=h
 refine⟨h1,h2,h3,h4,fun z hz hf=>?_,h6,h7,by rw[hN];exact h8⟩
 unfold Env.kindOf
 rw[hs]
 rcases h5 z hz with(q|q)|q
 ·exact absurd hf q
 ·exact .inl q
 ·exact .inr q
def lamSt (v:V) (js:List Nat) (σ:St):St:=some v::js.map (fun j=>(σ[j]?).join)
section
variable {X:Cx}{pins:List (Addr×Obj)}{σ:St}{H:Hp}{s:Shared}{scope:Scope}{y:Str}{fs:List Str}{js:List Nat}
theorem lam_start {h₁:Heap}{tk:Nat}{f c:Addr}{v:V}{u:Value}{m:Str→Option Value}(I:Inv X pins σ H s) (B:LamOk X scope y fs js) (hn:h₁.Ns s.heap.objs.size m) (hm:m y=some u) (rv:RelV v u)
  (hk:∀b o,s.heap.get? b=some o→h₁.get? b=some o):Inv (cxLam X scope (y::fs) s.heap.objs.size f c s H) [] (lamSt v js σ) H { s with heap:=h₁,toks:=tk }:=by
 have hasX:∀z∈scope.names,z.2 = .free→∃c,X.env.cells.lookup z.1=some c:=fun z hz hf=>I.ok.has z.1 (B.free z hz hf)
 have snd:∀{z:Str}{c:Addr},(clOf X.env scope.names []).lookup z=some c→X.env.cells.lookup z=some c:=fun h=>clOf_sound hasX (fun p hp=>absurd hp (by simp)) h
 have noA:∀b:Addr,b∉(cxLam X scope (y::fs) s.heap.objs.size f c s H).ex:=fun b z=>absurd (show b∈([]:List Addr) from z) (by simp)
 have hlen:js.length=fs.length:=by have:=congrArg List.length B.ix;simpa using this
 refine⟨⟨I.ok.mod,B.kind,rfl,rfl,Nat.le_refl _,fun y z c h1 h2=>I.ok.inj y z c (snd h1) (snd h2),fun z hz=>?_,fun z c q _=>absurd (show false=true from q) Bool.false_ne_true,I.ok.hd,Around.frames_deeper I.ok.frames,.inr ⟨rfl,rfl⟩,fun b z=>absurd z (noA b),I.bs,Nat.le_trans I.ok.bsz I.sz,fun b _ _=>noA b,fun b z=>absurd z (noA b),I.stack,I.stkFree⟩,
  rfl,I.bare,Un.kept hk,⟨m,hn,fun i z v' h1 h2 h3=>?_⟩,fun z c h=>?_,I.hok.fresh (Nat.le_refl _),fun z c h=>I.freeC z c (snd h),fun p hp=>absurd (show p∈([]:List (Addr×Obj)) from hp) (by simp),I.hok.kept hk,?_⟩
 ·have hz:scope.names.lookup z=some .cell∨scope.names.lookup z=some .free:=hz
  rcases hz with q|q
  ·exact absurd rfl (B.cell _ (PySem.mem_of_lookup q))
  ·exact lookup_mono_isSome (clOf_has (PySem.mem_of_lookup q))
 ·cases i with
  | zero =>
   have e1:y=z:=by simpa [cxLam] using h1
   have e2:v=v':=by simpa [lamSt] using h2
   subst e1 e2
   exact⟨u,rv,.inl ⟨B.own,hm⟩⟩
  | succ i =>
   have h1':fs[i]? = some z:=by simpa [cxLam] using h1
   have h2':(js[i]?).map (fun j=>(σ[j]?).join)=some (some v'):=by simpa [lamSt] using h2
   cases ej:js[i]? with
   | none=>rw[ej]at h2';cases h2'
   | some j =>
    rw[ej]at h2'
    have hσ:σ[j]? = some (some v'):=by
     have z:(σ[j]?).join=some v':=Option.some.inj h2'
     cases q:σ[j]? with
     | none=>rw[q]at z;cases z
     | some o=>rw[q]at z;have z':o=some v':=z;rw[z']
    have hNj:X.N[j]? = some z:=by
     have q:=congrArg (fun l=>l[i]?) B.ix
     simp only[List.getElem?_map,ej,h1',Option.map_some]at q
     exact Option.some.inj q
    have hcap:=B.cap z (List.mem_of_getElem? h1')
    have hmem:(z,NameKind.free)∈scope.names:=PySem.mem_of_lookup hcap
    have hkX:=B.free _ hmem rfl
    have vis:Vis X.env.scope z:=by
     rcases hkX with q|q
     ·exact .inr (.inl q)
     ·exact .inr (.inr q)
    obtain⟨m0,hn0,hl0⟩:=I.loc
    obtain⟨u',r,l⟩:=hl0 j z v' hNj hσ vis
    refine⟨u',r,.inr ⟨.inr hcap,?_⟩⟩
    rcases l with⟨q,_⟩|⟨_,c,hc,hcell⟩
    ·rcases hkX with w|w <;> (rw[w]at q;cases q)
    ·obtain⟨c',hc'⟩:=lookup_mono_isSome (clOf_has (env:=X.env) (cs:=[]) hmem)
     have e:=snd hc'
     rw[hc]at e
     cases e
     exact⟨c,hc',hcell.keeps hk⟩
 ·obtain⟨v,z⟩:=I.cell z c (snd h)
  exact⟨v,z.keeps hk⟩
 ·show(some v::js.map _).length =(y::fs).length
  rw[List.length_cons,List.length_cons,List.length_map,hlen]
theorem lam_run {k:Nat}{params:Arguments}{body:Expr}{f c:Addr}{ctv:Value}{te:TE}{Q:VK}{v:V}{u:Value}(B:LamOk X scope y fs js) (hr:Room (k+3) X.A)
  (hb:∀(L f c:Addr) (s:Shared) (H:Hp),PE (cxLam X scope (y::fs) L f c s H) body te)
  (hbind:∀(pm cv ct:Value) (u:Value),bindArgs (PySem.W.kla_fn "<lambda>" (X.env.qual ++ "<lambda>") params body scope (clOf X.env scope.names []) pm cv ct) ⟨[u],[]⟩=pure [(y,u)])
  (I:Inv X pins σ H s) (hf:H f=some (FnO f (lamObj X params body scope c ctv))) (hc:H c=some (CodeO c (X.env.qual ++ "<lambda>"))) (rv:RelV v u) (h:te (lamSt v js σ) H Q) :
  wpAny (model X.prog X.w) X.A.in1.in1 (call (.ref f) [u]) (EP X pins σ Q) (fun _ _=>False) s:=by
 have ho:s.heap.get? f=some (lamObj X params body scope c ctv):=(I.hok _ _ hf).1
 have hcd:s.heap.CodeRec (.ref c) (X.env.qual ++ "<lambda>"):=(I.hok _ _ hc).1
 refine wpAny_call (PySem.W.kla_callFunE hr.in1.in1.depth ho rfl B.co B.gen rfl hcd ?_)
 rw[hbind]
 refine wpAny_pure (wpAny_newFunctionEnv B.cell (by intro z hz;simp at hz;subst hz;exact B.own) (fun h₁ hns hsb=>⟨(I.nolimit).fresh _ hsb,?_⟩) B.kind)
 have hk₁:∀b o,s.heap.get? b=some o→h₁.get? b=some o:=fun b o e=>hsb.extBut b o (Nat.ne_of_lt (Heap.lt_size e)) (Heap.get?_push_of_some _ e)
 show codeAny _ _ (.expr body (lamEnv X scope s.heap.objs.size f c)) _ _
 refine PySem.W.kla_codeExpr ?_
 have J:=lam_start (f:=f) (c:=c) (tk:=s.toks + [(y,u)].length) I B hns (by simp) rv hk₁
 refine wpAny_mono (hb _ f c s H [] _ _ H Q J h) (fun r s' hq=>?_) (fun e s' hq=>(show False from hq).elim)
 obtain⟨x,H',J',rx,qx⟩:=hq
 exact I.after ⟨x,H',J'.os,J'.bare,J'.base,J'.hok,rx,qx⟩
end
section
variable {X:Cx}{e body:Expr}{t:TA}{te:TE}{k:Nat}{p kpos pos lpos:Pos}{params:Arguments}{scope:Scope}{y:Str}{fs:List Str}{js:List Nat}{P c:Addr}
def tSortL (K:PySem.W.Frag) (P:Addr) (lpos:Pos) (qual:Str) (js:List Nat) (te:TE) (t:TA):TE:=fun σ H Q=>t σ H fun vs H1=>∃(a:Addr) (ns:List Int) (κ:Int→Int),vs=[.ref a]∧SqL K H1 a (ns.map V.int)∧ns.length≤100000∧Tb P lpos qual H1 ∧
 ∀H2,Sm H1 H2→Tb P lpos qual H2→(∀z∈ns,∀R:VK,R (.int (κ z)) H2→te (lamSt (.int z) js σ) H2 R)∧∀(ms:List Int) (l:Addr),ms.Perm ns→ms.Pairwise (fun x y=>κ x≤κ y)→H2 l=none→Q (.ref l) (upd H2 l (.lst (ms.map V.int)))
theorem rd_sortLam {K:PySem.W.Frag}{P:Addr}{lpos:Pos}{qual:Str}{js:List Nat}{te:TE}{t:TA}{σ:St}{H:Hp}{Q:VK}(h:t σ H fun vs H1=>∃(a:Addr) (ns:List Int) (κ:Int→Int),vs=[.ref a]∧SqL K H1 a (ns.map V.int)∧ns.length≤100000∧Tb P lpos qual H1 ∧
 ∀H2,Sm H1 H2→Tb P lpos qual H2→(∀z∈ns,∀R:VK,R (.int (κ z)) H2→te (lamSt (.int z) js σ) H2 R)∧∀(ms:List Int) (l:Addr),ms.Perm ns→ms.Pairwise (fun x y=>κ x≤κ y)→H2 l=none→Q (.ref l) (upd H2 l (.lst (ms.map V.int)))):tSortL K P lpos qual js te t σ H Q:=h
theorem Sm.seq {K:PySem.W.Frag}{H H':Hp}{a:Addr}{xs:List V}(e:Sm H H') (h:SqL K H a xs):SqL K H' a xs:=by
 rcases h with(h|⟨o,h⟩)|h
 ·exact .inl (.inl (e.nt _ _ h fun _=>nofun))
 ·exact .inl (.inr ⟨o,e.nt _ _ h fun _=>nofun⟩)
 ·exact .inr h
theorem pe_sortL (B:LamOk X scope y fs js) (hr:Room (k+3) X.A) (hg:Gl X "sorted") (hm:X.mg "sorted" = none) (hcl:X.calm=true) (ha:PA X [e] t)
  (hdef:defaultsOf params X.env =([],[])) (hcode:X.env.code = .ref c) (C:PySem.W.codeHdIn X.K c P=true) (BB:BM X.mg X.base)
  (hb:∀(L f c:Addr) (s:Shared) (H:Hp),PE (cxLam X scope (y::fs) L f c s H) body te)
  (hbind:∀(pm cv ct:Value) (u:Value),bindArgs (PySem.W.kla_fn "<lambda>" (X.env.qual ++ "<lambda>") params body scope (clOf X.env scope.names []) pm cv ct) ⟨[u],[]⟩=pure [(y,u)])
  (he:backTo pos (starEach [e] X.env) =(false,eval e X.env)::backTo pos (starEach [] X.env):=by rfl) (hpl:(backTo pos (starEach [e] X.env)).any (·.1)=false:=by rfl)
  (hs:(backToKw pos (keywordEach [⟨some "key",.Lambda params body scope lpos,kpos⟩] X.env)).filterMap (·.1)=[Str.ofString "key"]:=by rfl) (hall:(backToKw pos (keywordEach [⟨some "key",.Lambda params body scope lpos,kpos⟩] X.env)).all (·.1.isSome)=true:=by rfl)
  (hkw:(backToKw pos (keywordEach [⟨some "key",.Lambda params body scope lpos,kpos⟩] X.env)).any (·.1.isNone)=false:=by rfl) :
  PE X (.Call (.Name "sorted" p) [e] [⟨some "key",.Lambda params body scope lpos,kpos⟩] pos) (tSortL X.K P lpos (X.env.qual ++ "<lambda>") js te t):=by
 intro pins s σ H Q I h
 refine wpAny_Call_Name_kw (ld_blt I hg hm bt_sorted ?_)
 refine PyProof.Rows.callWith_kw (thn (ha pos pins s σ H _ I h) fun us s1 ⟨vs,H1,I1,r1,q1⟩=>?_) he hpl hall hkw
 obtain⟨a,ns,κ,rfl,hsrc,hn,tb1,q⟩:=q1
 refine thn ((pk_cons (pe_lam hdef B.free hcode C BB) pk_nil) pos pins s1 σ H1 (fun zs H2=>∃f c ctv,zs=[.ref f]∧Sm H1 H2∧Tb P lpos (X.env.qual ++ "<lambda>") H2∧H2 f=some (FnO f (lamObj X params body scope c ctv))∧H2 c=some (CodeO c (X.env.qual ++ "<lambda>"))) I1
  ⟨tb1,fun f c ctv H2 s2 t2 _ e1 e2=>⟨f,c,ctv,rfl,s2,t2,e1,e2⟩⟩) fun ws s2 ⟨zs,H2,I2,rz,f,c',ctv,ez,sm2,tb2,ef,ec⟩=>?_
 subst ez
 obtain⟨w1,rfl,rw1⟩:=vals1 rz
 cases (show w1=Value.ref f from rw1)
 rw[hs]
 obtain⟨hte,q⟩:=q H2 sm2 tb2
 obtain⟨u,rfl,ru⟩:=vals1 r1
 cases (show u=Value.ref a from ru)
 show wpAny (model X.prog X.w) X.A (call (.builtin "sorted") [.ref a] [(Str.ofString "key",.ref f)]) _ _ s2
 refine call_function_entry_kw kind_sorted plain_sorted entry_sorted (ksk_s1 _ _) ?_
 unfold Builtin.«sorted»
 refine wpAny_bind (m:=checkCount "sorted" 1 1 _) (wpAny_pure ?_)
 have turn:∀(z:Int) (t:Tok) (pins':List (Addr×Obj)) (s':Shared),z∈ns→Inv X pins' σ H2 s'→wpAny (model X.prog X.w) X.A.in1.in1 (call (.ref f) [.int z t]) (fun r s''=>(∃t',r = .int (κ z) t')∧Inv X pins' σ H2 s'') (fun _ _=>False) s':=fun z t pins' s' hz I'=>by
  refine wpAny_mono (lam_run (Q:=fun x H'=>x = .int (κ z)∧H'=H2) (v:=.int z) B hr hb hbind I' ef ec ⟨t,rfl⟩ (hte z hz _ ⟨rfl,rfl⟩)) (fun r s'' hr'=>?_) fun _ _ e=>e
  obtain⟨x,H',I'',rx,rfl,rfl⟩:=hr'
  exact⟨rx,I''⟩
 have hline:(100000:Nat)<sizeLine:=by decide
 have fin:∀(s':Shared) (l:Addr) (ms:List Int),H2 l=none→ms.Perm ns→ms.Pairwise (fun x y=>κ x≤κ y)→Inv X pins σ (upd H2 l (.lst (ms.map V.int))) s'→∃v,Fin.done (Flow.ret (.ref l)) = .done (.ret v)∧EP X pins σ Q v s':=fun s' l ms nl m1 m2 I'=>⟨_,rfl,.ref l,_,I',rfl,q ms l m1 m2 nl⟩
 obtain⟨its,rv,pl,hz⟩:=I2.list (sm2.seq hsrc)
 have hi:IntsAre its ns:=intsAre_of rv
 have il:its.length≤100000:=by rw[hi.length];exact hn
 refine wpAny_bind (collect_list pl.isList ?_ (by omega))
 have I3:Inv X pins σ H2 { s2 with heap:=(s2.heap.push (seqObj "list" #[] 0)).update s2.heap.objs.size (Obj.mapSeq (· ++ its.toArray)) } :=
  I2.kept (t':=s2.toks) fun b o e=>by
   have hlt:b<s2.heap.objs.size:=Heap.lt_size e
   rw[Heap.get?_update_ne _ _ _ _ (Nat.ne_of_lt hlt),Heap.get?_push_ne _ _ _ (Nat.ne_of_lt hlt)]
   exact e
 exact sorted_tail I3 hi il turn fin
end
section
variable {X:Cx}{a b:Expr}{rest:List Expr}{ta tb:TE}{pos:Pos}
def tOrG (K:PySem.W.Frag) (ta tb:TE):TE:=fun σ H Q=>ta σ H fun x H1=>∃k,TruV K x H1 k∧if k=true then Q x H1 else tb σ H1 Q
theorem rd_orG {K:PySem.W.Frag}{σ:St}{H:Hp}{Q:VK}(h:ta σ H fun x H1=>∃k,TruV K x H1 k∧if k=true then Q x H1 else tb σ H1 Q):tOrG K ta tb σ H Q:=h
theorem pe_orG (ha:PE X a ta) (hb:PE X (.BoolOp .Or (b::rest) pos) tb):PE X (.BoolOp .Or (a::b::rest) pos) (tOrG X.K ta tb):=by
 intro pins s σ H Q I h
 refine BoolOp_or (thn (ha pins s σ H _ I h) fun v s1 ⟨x,H1,I1,r1,k,tk,q1⟩=>?_)
 refine thn (tru_ok pins s1 σ H1 x v (fun k' H'=>k'=k∧H'=H1) I1 r1 ⟨k,tk,rfl,rfl⟩) fun k' s2 ⟨H2,I2,e1,e2⟩=>?_
 subst e1 e2
 cases k' with
 | false=>exact hb pins s2 σ H2 Q I2 q1
 | true=>exact⟨x,H2,I2,r1,q1⟩
end
def OnlyT (P:Addr) (H:Hp):Prop:=∀b,H b=none ∨(∃o xs,H b=some (.frz o (.lst xs))) ∨(b=P∧H b=some (.tbl #[]))
theorem law_callT {P:Program}{w:World}{K:PySem.W.Frag}{mg mb:Str→Option Value}{CX:CXT}{k:Nat}{fa a tP tc:Addr}{fd:FuncData}{x:Str}{sp:Sp}{s₁:Shared}{vs:List Value}{ns:List Int}
  (KX:K.In s₁.heap) (hns:s₁.heap.Ns mainGlobals mg) (hb:s₁.heap.Ns builtinsNs mb) (hbb:∀x:Str,x ≠ "__name__"→mb x=bootBuiltins x) (hlim:s₁.heap.NoLimit) (hg:s₁.gens = #[])
  (hT:s₁.heap.get? tP=some (PySem.W.tabObj #[])) (hTc:PySem.W.codeHdIn K tc tP=true) (hKP:K.lookup tP=none) (hBM:BM mg s₁.heap)
  (ha:s₁.heap.get? a=some { cls:=.type "list",data:=.seq vs.toArray }) (hi:IntsAre vs ns) (hl:ns.length≤sizeLine) (hr:Room k callerA)
  (F:∀base:Heap,K.In base→base.Ns mainGlobals mg→BM mg base→FnOk P w K mg base CX k fa fd [x] sp) (hbind:∀(s:Shared) (u:Value),BindsTo s fd ⟨[u],[]⟩ [(x,u)])
  (hsp:∀H:Hp,OnlyT tP H→H tP=some (.tbl #[])→SqL K H a (ns.map V.int)→sp [.ref a] H (fun v _=>v = .bl true) fun _ _ _=>False)
  (hCX:∀H e s',CX [] H s₁ (fun _ _ _=>False) e s'→False) :
  codeAny (model P w) callerA (.call (.ref fa) ⟨[.ref a],[]⟩) (fun r s'=>r = .ok (.ret (.bool true))∧OldK s₁.heap s'.heap∧s'.os=s₁.os∧AllBare s'.gens) s₁:=by
 have rv:=vals_ints hi
 have lenV:=hi.length
 have aP:a≠tP:=fun z=>by rw[z,hT]at ha;cases ha
 have core:∀H:Hp,OnlyT tP H→H tP=some (.tbl #[])→SqL K H a (ns.map V.int)→HOk P w H s₁.heap→(∀b,H b≠none→b=a∨b=tP)→(H a≠none→K.lookup a=none) →
   codeAny (model P w) callerA (.call (.ref fa) ⟨[.ref a],[]⟩) (fun r s'=>r = .ok (.ret (.bool true))∧OldK s₁.heap s'.heap∧s'.os=s₁.os∧AllBare s'.gens) s₁:=by
  intro H hO hHP hS hok hA hK
  have base_of:∀{b:Addr}{o:Obj},s₁.heap.get? b=some o→H b=none→(hidT s₁.heap H).get? b=some o:=fun e n=>hidT_get e n
  have noC:∀{b:Addr}{o:Obj},s₁.heap.get? b=some o→o.cls ≠ .none→o.cls ≠ .type "list"→H b=none:=fun {b o} e d d2=>by
   cases q:H b with
   | none=>rfl
   | some u =>
    rcases hA b (by rw[q];simp) with e'|e'
    ·subst e';rw[ha]at e;cases e;exact absurd rfl d2
    ·subst e';rw[hT]at e;cases e;exact absurd rfl d
  have noA:∀{b:Addr}{o:Obj}{es:Array DictEntry}{ep:Nat},s₁.heap.get? b=some o→o.data = .dict es ep→H b=none:=fun {b o es ep} e d=>by
   cases q:H b with
   | none=>rfl
   | some u =>
    rcases hA b (by rw[q];simp) with e'|e'
    ·subst e'
     rw[ha]at e;cases e
     have d':Data.seq vs.toArray _=Data.dict es ep:=d
     cases d'
    ·subst e'
     rw[hT]at e;cases e
     have d':Data.fields _=Data.dict es ep:=d
     cases d'
  have nsK:∀{b:Addr}{m:Str→Option Value},s₁.heap.Ns b m→(hidT s₁.heap H).Ns b m:=fun {b m} ⟨o,es,ep,e,d,r⟩=>⟨o,es,ep,base_of e (noA e d),d,r⟩
  have hKb:K.In (hidT s₁.heap H):=fun b o e=>base_of (KX b o e) (by
   cases q:H b with
   | none=>rfl
   | some u =>
    rcases hA b (by rw[q];simp) with e'|e'
    ·subst e'
     rw[hK (by rw[q];simp)]at e;cases e
    ·subst e'
     rw[hKP]at e;cases e)
  have hBb:BM mg (hidT s₁.heap H):=by
   obtain⟨bm,o,b1,b2,b3,b4,b5,b6⟩:=hBM
   exact⟨bm,o,b1,b2,base_of b3 (noC b3 (by rw[b4];nofun) (by rw[b4];decide)),b4,b5,b6⟩
  have hM:Mod K mg (hidT s₁.heap H):=⟨hKb,nsK hns,⟨mb,nsK hb,hbb⟩,let ⟨mc,h1,h2⟩:=hlim;⟨mc,nsK h1,h2⟩⟩
  have e0:Env0 P w K mg (hidT s₁.heap H) callerA [] s₁ H:=⟨rfl,hM,fun b o e=>of_hidT e,Nat.le_of_eq (hidT_size _ _),trivial,fun b hb=>absurd (show b∈([]:List Addr) from hb) (by simp),hok,.of_eq hg⟩
  refine codeAny_mono ((F _ hKb (nsK hns) hBb).run callerA [] s₁ H ⟨[.ref a],[]⟩ [.ref a] [.ref a] _ _ hr e0 (hbind s₁ (.ref a)) (.cons rfl .nil) (hsp H hO hHP hS)) fun r s' h=>?_
  cases r with
  | error e=>exact(hCX H e s' h).elim
  | ok fl =>
   cases fl with
   | next=>exact False.elim h
   | brk=>exact False.elim h
   | cont=>exact False.elim h
   | ret u =>
    obtain⟨v,H',os,bare,un,hok',r',q⟩:=h
    have q':v = .bl true:=q
    subst q'
    obtain rfl:u=Value.bool true:=r'
    have tb:PySem.isCodeTable s₁.heap tP:=((PySem.W.codeHd_of_K KX hTc).tab hT).isCodeTable
    have grown:∃more,s'.heap.get? tP=some (PySem.W.tabObj (#[]++more)):=by
     obtain⟨more,e⟩:=un.tbls tP _ hHP
     exact⟨more,hok' _ _ e⟩
    have keep:∀b o,b≠tP→s₁.heap.get? b=some o→s'.heap.get? b=some o:=fun b o hb' e=>by
     cases q:H b with
     | none=>exact un.keep b o e q (by intro z;exact absurd (show b∈([]:List Addr) from z) (by simp)) (by simp)
     | some u =>
      rcases hO b with z|⟨ob,xs,z⟩|⟨z,_⟩
      ·rw[q]at z;cases z
      ·have z2:=un.frzs b ob _ z
       obtain⟨e1,_⟩:=hok b _ z
       obtain⟨e2,_⟩:=hok' b _ z2
       rw[e]at e1;cases e1
       exact e2
      ·exact absurd z hb'
    refine⟨rfl,⟨fun b o e=>?_,fun b o e=>?_⟩,os,bare⟩
    ·by_cases hb':b=tP
     ·subst hb'
      rw[hT]at e;cases e
      obtain⟨more,hP⟩:=grown
      exact .inr (.inl ⟨tb,rfl,#[],more,rfl,hP⟩)
     ·exact .inl (keep b o hb' e)
    ·by_cases hb':b=tP
     ·subst hb'
      obtain⟨more,hP⟩:=grown
      exact⟨_,hP⟩
     ·exact⟨o,keep b o hb' e⟩
 have okT:∀H:Hp,ObjOk P w H s₁.heap tP (.tbl #[]):=fun H=>hT
 cases hk:K.lookup a with
 | some o =>
  have e:=KX a o hk
  rw[ha]at e
  cases e
  refine core (fun b=>if b=tP then some (.tbl #[]) else none) (fun b=>?_) (if_pos rfl) (.inr ⟨_,vs.toArray,_,hk,rfl,rfl,rfl,by rw[List.size_toArray,lenV];exact hl,by simpa using rv⟩) (fun b u z=>?_) (fun b z=>?_) fun z=>absurd (if_neg aP) z
  ·by_cases hb':b=tP
   ·exact .inr (.inr ⟨hb',if_pos hb'⟩)
   ·exact .inl (if_neg hb')
  ·by_cases hb':b=tP
   ·have z':=(if_pos hb').symm.trans z
    cases z';subst hb';exact okT _
   ·have z':=(if_neg hb').symm.trans z
    cases z'
  ·by_cases hb':b=tP
   ·exact .inr hb'
   ·exact absurd (if_neg hb') z
 | none =>
  have e3:∀b,b=tP→(fun b=>if b=tP then some (HO.tbl #[]) else if b=a then some (HO.frz { cls:=.type "list",data:=.seq vs.toArray } (.lst (ns.map V.int))) else none) b=some (.tbl #[]):=fun b e=>if_pos e
  have e4:∀b,b≠tP→b=a→(fun b=>if b=tP then some (HO.tbl #[]) else if b=a then some (HO.frz { cls:=.type "list",data:=.seq vs.toArray } (.lst (ns.map V.int))) else none) b=some (HO.frz { cls:=.type "list",data:=.seq vs.toArray } (.lst (ns.map V.int))):=fun b e1 e2=>(if_neg e1).trans (if_pos e2)
  have e5:∀b,b≠tP→b≠a→(fun b=>if b=tP then some (HO.tbl #[]) else if b=a then some (HO.frz { cls:=.type "list",data:=.seq vs.toArray } (.lst (ns.map V.int))) else none) b=none:=fun b e1 e2=>(if_neg e1).trans (if_neg e2)
  generalize (fun b=>if b=tP then some (HO.tbl #[]) else if b=a then some (HO.frz { cls:=.type "list",data:=.seq vs.toArray } (.lst (ns.map V.int))) else none)=H at e3 e4 e5
  refine core H (fun b=>?_) (e3 _ rfl) (.inl (.inr ⟨{ cls:=.type "list",data:=.seq vs.toArray },e4 _ aP rfl⟩)) (fun b u z=>?_) (fun b z=>?_) fun _=>hk
  ·by_cases h1:b=tP
   ·exact .inr (.inr ⟨h1,e3 b h1⟩)
   ·by_cases h2:b=a
    ·exact .inr (.inl ⟨_,_,e4 b h1 h2⟩)
    ·exact .inl (e5 b h1 h2)
  ·by_cases h1:b=tP
   ·rw[e3 b h1]at z;cases z;subst h1;exact okT _
   ·by_cases h2:b=a
    ·rw[e4 b h1 h2]at z;cases z;subst h2
     exact⟨ha,by rw[List.length_map];exact hl,vs,_,rv,ha⟩
    ·rw[e5 b h1 h2]at z;cases z
  ·by_cases h1:b=tP
   ·exact .inr h1
   ·by_cases h2:b=a
    ·exact .inl h2
    ·exact absurd (e5 b h1 h2) z
theorem walk_ofT {l:PySem.W.OpenLaw}{n k:Nat}{q:Program}{loose:List Str}{XP:(Str→Option Value)→Heap→Prop}{YP:World→Heap→Prop}{d:DefRec}{K:Params→PySem.W.Frag}{CX:World→CXT}{sp:World→Sp}{x:Str}{tP:Addr}
  (hn:l.most=some n) (hn2:n≤sizeLine) (hdf:d.params.defaults=[]) (hr:Room k callerA)
  (hY:∀(w:World) (h:Heap),YP w h→(K w.params).In h) (hT:∀(w:World) (h:Heap),YP w h→h.get? tP=some (PySem.W.tabObj #[])) (hTc:∀w:World,∃tc,PySem.W.codeHdIn (K w.params) tc tP=true) (hKP:∀w:World,(K w.params).lookup tP=none)
  (F:∀(w:World) (mg:Str→Option Value) (fa:Addr) (h:Heap),(K w.params).In h→h.Ns mainGlobals mg→mg d.name=some (.ref fa) →
   ∃fd:FuncData,(∀(s:Shared) (u:Value),BindsTo s fd ⟨[u],[]⟩ [(x,u)]) ∧
    ∀base:Heap,(K w.params).In base→base.Ns mainGlobals mg→BM mg base→FnOk l.prog w (K w.params) mg base (CX w) k fa fd [x] (sp w))
  (hsp:∀(w:World) (H:Hp) (a:Addr) (ns:List Int),ns.length≤n→OnlyT tP H→H tP=some (.tbl #[])→SqL (K w.params) H a (ns.map V.int)→sp w [.ref a] H (fun v _=>v = .bl true) fun _ _ _=>False)
  (hCX:∀(w:World) (H:Hp) (s:Shared) (e:Value) (s':Shared),CX w [] H s (fun _ _ _=>False) e s'→False) :
  PySem.W.WalkO q loose XP YP l.row.toRowW d [] (fun f vs=>PySem.call f vs):=by
 refine Att.attach_call hn hdf fun w s₀ s₁ mg mb fa o pm cd doc a vs ns G Y ho hd hcd hmg hobj hints hlen hg=>?_
 have KX:=hY w _ Y
 obtain⟨fd,hb,hF⟩:=F w mg fa _ KX G.T.g hmg
 obtain⟨bm,ob,b1,b2,b3,b4,b5,b6⟩:=G.T.bmain
 obtain⟨tc,hTc⟩:=hTc w
 exact law_callT KX G.T.g G.T.b G.T.builtins G.T.nolimit hg (hT w _ Y) hTc (hKP w) ⟨bm,ob,b1,b2,b3,b4,b5,b6⟩ hobj hints (Nat.le_trans hlen hn2) hr hF hb (fun H hO hP hS=>hsp w H a ns hlen hO hP hS) fun H e s'=>hCX w H s₁ e s'
end L2
namespace L2
open PySem PySem.Spec PyProof.Rows
section
variable {X:Cx}
end
end L2
namespace L2
open PySem PySem.Spec PyProof.Rows
section
variable {X:Cx}
end
end L2
namespace L2
open PySem PySem.Spec PyProof.Rows
section
variable {prog:Program}{w:World}{A:Around}{E:Value→Shared→Prop}{s:Shared}
end
section
variable {X:Cx}
end
end L2
namespace PySem
namespace F
end F
end PySem
namespace L2
open PySem PySem.Spec PyProof.Rows
section
variable {prog:Program}{w:World}{κ:Type} [DecidableEq κ] {knd:KeyKind prog w κ}{A:Around}{E:Value→Shared→Prop}{s:Shared}
inductive PairsAt (knd:KeyKind prog w κ) (h:Heap):List Value→List (κ×Value)→Prop
 | nil:PairsAt knd h [] []
 | cons {a:Addr}{o:Obj}{n:Nat}{key val:Value}{k:κ}{vs:List Value}{rs:List (κ×Value)}:h.get? a=some o→o.cls = .type "tuple"→o.data = .seq #[key,val] n→knd.is k key=true→PairsAt knd h vs rs→PairsAt knd h (.ref a::vs) ((k,val)::rs)
end
section
variable {X:Cx}
end
end L2
namespace L2
open PySem PySem.Spec PyProof.Rows
theorem is_kV {P:Program}{w:World}{k:Key}{u:Value}(h:(mixKind P w).is k u=true):RelV (kV k) u:=by
 rw[mixKind_is]at h
 rcases keyIs_shape h with⟨i,t,rfl,rfl⟩|⟨x,t,rfl,rfl⟩
 ·exact⟨t,rfl⟩
 ·exact⟨t,rfl⟩
section
variable {prog:Program}{w:World}{κ:Type} [DecidableEq κ] {knd:KeyKind prog w κ}{A:Around}{E:Value→Shared→Prop}{s:Shared}
theorem hint_dict {d:Addr}{kvs:List (κ×Value)}{Q:Bool→Shared→Prop}(hm:s.heap.DictOf knd d kvs) (h:Q false s):wpAny (model prog w) A (Builtin.List.listLengthHint (.ref d)) Q E s:=by
 unfold Builtin.List.listLengthHint
 refine wpAny_bind (wpAny_specialOf hm.typeIs F.slot_dict_len.lookup ?_)
 generalize hid:("dict.__len__" : String)=id0
 wp_delta
 rw[show splitId id0=some ("dict", "__len__") from by subst hid;decide +kernel]
 subst hid
 refine wpAny_bind (wpAny_isInstance (T := "dict") (b:=true) hm.typeIs (by rw[isSubtype_type];kernel_rfl) ?_)
 refine wpAny_ite_split (fun hab=>absurd hab (by decide)) (fun _=>?_)
 refine wpAny_ite_split (fun _=>?_) (fun hab=>absurd (by decide +kernel) hab)
 refine wpAny_bind (wpAny_typeOf hm.typeIs ?_)
 exact wpAny_pure h
theorem extend_dict {R:Result→Shared→Prop}{d:Addr}{kvs:List (κ×Value)}(hh:A.handled=none) (hd:(d == sysModules)=false) (hm:s.heap.DictOf knd d kvs) (hlen:kvs.length≤2^24) (S:Addr) (res:Value) (c₀:Nat) (hS:s.heap.get? S=some { cls:=.type "list",data:=.seq #[] c₀ })
  (hR:∀h' tk acc' c',(∀b o,b≠S→s.heap.get? b=some o→h'.get? b=some o)→h'.get? S=some { cls:=.type "list",dict:=none,data:=.seq acc' c',slots:=#[] } →
   ItemsOf (fun i v=>∃k x,kvs[i]? = some (k,x)∧knd.is k v=true) acc' kvs.length→R (.ok (.ret res)) { s with heap:=h',toks:=tk }) :
  wpAny (model prog w) A.in1 (Builtin.List.listExtendWith (.ref S) (.ref d) res)
   (fun fin s'=>match fin with | .done f=>R (.ok f) s' | .again c'=>c'.quiet=true∧codeAny (model prog w) A c' R s') (fun e s'=>R (.error e) s') s:=by
 obtain⟨ep,hA⟩:=hm.dictAt
 obtain⟨od,es,god,_⟩:=id hA
 have hSd:S≠d:=fun e=>by
  have h1:=hm.typeIs
  rw[← e]at h1
  obtain⟨o',g',c'⟩:=h1
  rw[hS]at g'
  cases g'
  exact absurd (show Value.type "list" = Value.type "dict" from c') (by decide)
 have hSlt:S<s.heap.objs.size:=Heap.lt_size hS
 have hSI:S≠s.heap.objs.size:=Nat.ne_of_lt hSlt
 have hdI:d≠s.heap.objs.size:=Nat.ne_of_lt (Heap.lt_size god)
 have hSf:S ∉ [s.heap.objs.size,d]:=fun hm=>by
  rcases List.mem_cons.mp hm with z|z
  ·exact hSI z
  ·exact hSd (by simpa using z)
 have W:=(Walks.dictKeys (prog:=prog) (w:=w) (A:=A.in1) (knd:=knd) hh s.heap.objs.size d hdI kvs ep).toS
 have key:∀(h:Heap) (c₁ tk:Nat),(h.IsKeyIter s.heap.objs.size d 0 kvs.length ep∧h.DictAt knd d kvs ep)→(∀b o,b≠S→s.heap.get? b=some o→h.get? b=some o) →
   h.get? S=some { cls:=.type "list",data:=.seq #[] c₁ }→codeAny (model prog w) A (.builtin "list.extend.loop" ⟨[.ref S,.ref s.heap.objs.size,res],[]⟩) R { s with heap:=h,toks:=tk }:=by
  intro h c₁ tk hit hk hS₁
  refine codeAny_extend_loopS W (by rw[sizeLine_eq];omega) S hSf res kvs.length 0 _ #[] c₁ rfl (Nat.zero_le _) hit hS₁ (ItemsOf.nil _) fun s' acc' c' hm hS' hacc=>?_
  rw[Moved.eq_with hm]
  refine hR s'.heap s'.toks acc' c' (fun b o hb e=>hm.heap b o (fun hmem=>?_) (hk b o hb e)) hS' hacc
  rcases List.mem_cons.mp hmem with e'|hmem
  ·exact hb e'
  ·exact absurd (Heap.lt_size e) (by rw[List.mem_singleton.mp hmem];exact Nat.lt_irrefl _)
 unfold Builtin.List.listExtendWith
 refine wpAny_bind (wpAny_typeOf hm.typeIs ?_)
 have h1:Builtin.List.listSameRef (.ref S) (.ref d)=false:=by simp[Builtin.List.listSameRef,hSd]
 have h2:(Value.type "dict" == Value.type "list")=false:=by decide
 have h3:(Value.type "dict" == Value.type "tuple")=false:=by decide
 simp only[h1,h2,h3,Bool.or_false,Bool.false_eq_true,if_false]
 refine wpAny_bind (wpAny_pyIter_dict hd hA ?_)
 refine wpAny_bind (wpAny_holding (hint_dict (hm.push _) ?_))
 have hit₁:(s.heap.push { cls:=.type "dict_keyiterator",data:=.fields #[.ref d,.int 0 0,.int kvs.length 0,.int ep 0] }).IsKeyIter s.heap.objs.size d 0 kvs.length ep:=⟨_,Heap.get?_push_size _ rfl,rfl,rfl⟩
 have hA₁:(s.heap.push { cls:=.type "dict_keyiterator",data:=.fields #[.ref d,.int 0 0,.int kvs.length 0,.int ep 0] }).DictAt knd d kvs ep:=hA.at' fun o e=>Heap.get?_push_of_some _ e
 have hS₁:=Heap.get?_push_of_some { cls:=.type "dict_keyiterator",data:=.fields #[.ref d,.int 0 0,.int kvs.length 0,.int ep 0] } hS
 refine wpAny_ite_split (fun _=>?_) (fun _=>wpAny_pure ⟨plainId_quiet F.plain_extend_loop _,key _ c₀ _ ⟨hit₁,hA₁⟩ (fun b o _ e=>Heap.get?_push_of_some _ e) hS₁⟩)
 refine wpAny_bind (wpAny_rule ?_)
 refine wpAny_bind ?_
 show wpAny _ _ (updateSeq S (·.push .none) >>= fun _=>updateSeq S (·.pop)) _ _ _
 refine wpAny_bind (wpAny_updateSeq hS₁ rfl ?_)
 have hS₂:=Heap.get?_update_self (Obj.mapSeq (·.push Value.none)) hS₁ rfl
 refine wpAny_updateSeq (hz:=by seq_fits) hS₂ rfl ?_
 have hS₃:=Heap.get?_update_self (Obj.mapSeq (·.pop)) hS₂ rfl
 have oth:∀b o,b≠S→(s.heap.push { cls:=.type "dict_keyiterator",data:=.fields #[.ref d,.int 0 0,.int kvs.length 0,.int ep 0] }).get? b=some o→(((s.heap.push { cls:=.type "dict_keyiterator",data:=.fields #[.ref d,.int 0 0,.int kvs.length 0,.int ep 0] }).update S (Obj.mapSeq (·.push Value.none))).update S (Obj.mapSeq (·.pop))).get? b=some o:=fun b o hb e=>(Heap.get?_update_other _ _ (Ne.symm hb)).trans ((Heap.get?_update_other _ _ (Ne.symm hb)).trans e)
 refine wpAny_pure ⟨plainId_quiet F.plain_extend_loop _,key _ _ _ ⟨hit₁.at fun o e=>oth _ o (Ne.symm hSI) e,hA₁.at' fun o e=>oth _ o (Ne.symm hSd) e⟩ (fun b o hb e=>oth b o hb (Heap.get?_push_of_some _ e)) hS₃⟩
theorem init_dict {R:Result→Shared→Prop}{d:Addr}{kvs:List (κ×Value)}(hh:A.handled=none) (hd:(d == sysModules)=false) (hm:s.heap.DictOf knd d kvs) (hlen:kvs.length≤2^24) (S:Addr) (hS:s.heap.get? S=some { cls:=.type "list",data:=.seq #[] })
  (hR:∀h' tk acc' c',(∀b o,b≠S→s.heap.get? b=some o→h'.get? b=some o)→h'.get? S=some { cls:=.type "list",dict:=none,data:=.seq acc' c',slots:=#[] } →
   ItemsOf (fun i v=>∃k x,kvs[i]? = some (k,x)∧knd.is k v=true) acc' kvs.length→R (.ok (.ret .none)) { s with heap:=h',toks:=tk }) :
  wpAny (model prog w) A.in1 (Builtin.«list.__init__» ⟨[.ref S,.ref d],[]⟩)
   (fun fin s'=>match fin with | .done f=>R (.ok f) s' | .again c'=>c'.quiet=true∧codeAny (model prog w) A c' R s') (fun e s'=>R (.error e) s') s:=by
 have hSd:S≠d:=fun e=>by
  have h1:=hm.typeIs
  rw[← e]at h1
  obtain⟨o',g',c'⟩:=h1
  rw[hS]at g'
  cases g'
  exact absurd (show Value.type "list" = Value.type "dict" from c') (by decide)
 show wpAny _ _ (do let old ← Builtin.List.listItems (.ref S);Builtin.List.listUpdate (.ref S) (fun _=>#[]);letGo old.toList.reverse;Builtin.List.listExtendWith (.ref S) (.ref d) .none) _ _ s
 refine wpAny_bind ?_
 unfold Builtin.List.listItems
 refine wpAny_bind (wpAny_seqItems hS rfl (wpAny_pure ?_))
 show wpAny _ _ (updateSeq S (fun _=>#[]) >>= fun _=>letGo (#[]:Array Value).toList.reverse >>= fun _=>Builtin.List.listExtendWith (.ref S) (.ref d) .none) _ _ s
 refine wpAny_bind (wpAny_updateSeq hS rfl ?_)
 have hS₂:=Heap.get?_update_self (Obj.mapSeq (fun _=>(#[]:Array Value))) hS rfl
 have oth:∀b o,b≠S→s.heap.get? b=some o→(s.heap.update S (Obj.mapSeq (fun _=>(#[]:Array Value)))).get? b=some o :=
  fun b o hb e=>(Heap.get?_update_other _ _ (Ne.symm hb)).trans e
 refine wpAny_bind (wpAny_letGo ?_)
 obtain⟨od,es,ep,god,r⟩:=id hm
 refine extend_dict (knd:=knd) (kvs:=kvs) hh hd ⟨od,es,ep,oth d _ (Ne.symm hSd) god,r⟩ hlen S .none _ hS₂ fun h' tk acc' c' hk hS' hacc=>?_
 exact hR h' tk acc' c' (fun b o hb e=>hk b o hb (oth b o hb e)) hS' hacc
theorem call_list_dict {Q:Value→Shared→Prop}{d:Addr}{kvs:List (κ×Value)}(hh:A.handled=none) (hd:(d == sysModules)=false) (hm:s.heap.DictOf knd d kvs) (hlen:kvs.length≤2^24)
  (hQ:∀h' tk acc' c',(∀b o,s.heap.get? b=some o→h'.get? b=some o) →
   h'.get? s.heap.objs.size=some { cls:=.type "list",dict:=none,data:=.seq acc' c',slots:=#[] }→ItemsOf (fun i v=>∃k x,kvs[i]? = some (k,x)∧knd.is k v=true) acc' kvs.length→Q (.ref s.heap.objs.size) { s with heap:=h',toks:=tk }) :
  wpAny (model prog w) A (call (.type "list") [.ref d]) Q E s:=by
 refine callType_codes (Q₁:=fun obj s₁=>obj = .ref s.heap.objs.size∧s₁ = { s with heap:=s.heap.push { cls:=.type "list",data:=.seq #[] } }) F.called_list (F.typeCall_list_1 _) F.entry_list_init
  (code_list_new _ ⟨rfl,rfl⟩) fun obj s₁ h₁=>?_
 obtain⟨rfl,rfl⟩:=h₁
 have hS:(s.heap.push { cls:=.type "list",data:=.seq #[] }).get? s.heap.objs.size=some { cls:=.type "list",data:=.seq #[] }:=Heap.get?_push_size _ rfl
 refine⟨⟨_,hS,rfl⟩,F.args_list_init_2 _ _,init_dict (A:=A.in1) (knd:=knd) (kvs:=kvs) hh hd (hm.push _) hlen _ hS fun h' tk acc' c' hk hS' hacc=>?_⟩
 exact⟨rfl,hQ h' tk acc' c' (fun b o e=>hk b o (Nat.ne_of_lt (Heap.lt_size e)) (Heap.get?_push_of_some _ e)) hS' hacc⟩
end
section
variable {X:Cx}
def rListD:List V→Hp→VK→Prop:=fun xs H Q=>∃(d:Addr) (kvs:List (Key×V)),xs=[.ref d]∧H d=some (.dK kvs)∧∀l,H l=none→Q (.ref l) (upd H l (.lst (kvs.map fun kv=>kV kv.1)))
theorem keys_vals {P:Program}{w:World}:∀{kvs:List (Key×V)}{vs:List (Key×Value)}{us:List Value},KV kvs vs→us.length=vs.length→(∀(i:Nat) v,us[i]? = some v→∃k x,vs[i]? = some (k,x)∧(mixKind P w).is k v=true)→Vals (kvs.map fun kv=>kV kv.1) us
 | _,_,[],.nil,_,_=>.nil
 | _,_,_::_,.nil,l,_=>by cases l
 | _,_,[],.cons _ _,l,_=>by cases l
 | _,_,u::us,.cons (a:=p) (b:=b) r t,l,h=>by
  obtain⟨k,x,h1,h2⟩:=h 0 u rfl
  have e:b =(k,x):=by simpa using h1
  refine .cons ?_ (keys_vals (P:=P) (w:=w) t (by simpa using l) fun i v hv=>?_)
  ·have:=is_kV h2
   show RelV (kV p.1) u
   rw[r.1,e];exact this
  ·obtain⟨k',x',h3,h4⟩:=h (i+1) v (by simpa using hv)
   exact⟨k',x',by simpa using h3,h4⟩
theorem call_listD (hc:X.calm=true):CallR X (.type "list") rListD:=by
 intro pins s σ H xs us Q I r h
 obtain⟨d,kvs,rfl,hd,q⟩:=h
 obtain⟨u,rfl,r1⟩:=vals1 r
 cases (show u=Value.ref d from r1)
 obtain⟨hz,lo,vs,rk,hD⟩ : kvs.length≤sizeLine∧(d == sysModules)=false∧∃vs,KV kvs vs∧s.heap.DictOf (mixKind X.prog X.w) d vs:=I.hok d _ hd
 have hl:kvs.length=vs.length:=Paired.length rk
 refine call_list_dict (I.ok.hd hc) lo hD (by rw[← hl];exact hz) fun h' tk acc c kp hS hacc=>?_
 have hv:Vals (kvs.map fun kv=>kV kv.1) acc.toList:=keys_vals (P:=X.prog) (w:=X.w) rk (by rw[← hacc.1];simp) fun i v e=>hacc.2 i v (by simpa using e)
 have hz2:(kvs.map fun kv=>kV kv.1).length≤sizeLine:=by rw[List.length_map];exact hz
 exact⟨.ref s.heap.objs.size,_,I.laid (t':=tk) kp (Nat.le_refl _) (o:=.lst (kvs.map fun kv=>kV kv.1)) ⟨hz2,acc.toList,c,hv,by simpa using hS⟩,rfl,q _ (I.hok.fresh (Nat.le_refl _))⟩
end
end L2
namespace L2
open PySem PySem.Spec PyProof.Rows
inductive NumU:Value→Int→Prop
 | int (i:Int) (t:Tok):NumU (.int i t) i
 | bl (b:Bool):NumU (.bool b) (if b=true then(1:Int) else 0)
section
variable {prog:Program}{w:World}{A:Around}{E:Value→Shared→Prop}{s:Shared}{Q:Value→Shared→Prop}{a b:Value}{i j:Int}
end
section
variable {prog:Program}{w:World}{A:Around}{E:Value→Shared→Prop}{s:Shared}{Q:Value→Shared→Prop}{a b:Value}{i j:Int}
end
inductive Num:V→Int→Prop
 | int (i:Int):Num (.int i) i
 | bl (b:Bool):Num (.bl b) (if b=true then(1:Int) else 0)
section
variable {X:Cx}
end
end L2
namespace L2
open PySem PySem.Spec PyProof.Rows
section
variable {X:Cx}
end
end L2
namespace L2
open PySem PySem.Spec PyProof.Rows
section
variable {X:Cx}
end
end L2
namespace L2
open PySem PySem.Spec PyProof.Rows
section
variable {prog:Program}{w:World}{A:Around}{R:Result→Shared→Prop}{s:Shared}{elt t1 i1 t2 i2:Expr}{fs1 fs2:List Expr}{scope:Scope}{pos:Pos}{it acc:Value}{env:Env}
end
section
variable {X:Cx}{pins:List (Addr×Obj)}{σ:St}{H:Hp}{s:Shared}{scope:Scope}{vs fs:List Str}{js:List Nat}
end
section
variable {X:Cx}{pins:List (Addr×Obj)}{σ:St}{H:Hp}{s:Shared}{scope:Scope}{vs fs:List Str}{js:List Nat}
end
section
variable {vs:List Str}{js:List Nat}{σ:St}{H:Hp}{Q:VK}
end
end L2
namespace L2
open PySem PySem.Spec PyProof.Rows
section
variable {X:Cx}
end
end L2
namespace L2
open PySem PySem.Spec PyProof.Rows
structure MCal (P:Program) (w:World) (K:PySem.W.Frag) (mg:Str→Option Value) (base:Heap) (C:Addr) (m:Str) (ps:List Str) (k:Nat) (sp:Sp):Prop where
 ex:∃(f:Addr) (fd:FuncData),FnOk P w K mg base CX0 k f fd ps sp∧Binds K fd ps []∧Meth K C m f
structure KCal (P:Program) (w:World) (K:PySem.W.Frag) (mg:Str→Option Value) (base:Heap) (x:Str) (C:Addr) (ps:List Str) (k:Nat) (sp:Sp):Prop where
 ex:∃(f:Addr) (fd:FuncData),FnOk P w K mg base CX0 k f fd ps sp∧Binds K fd ps []∧Mk K C f∧mg x=some (.ref C)
section
variable {X:Cx}{x m:Str}{C:Addr}{ps:List Str}{k:Nat}{sp:Sp}{e o:Expr}{es:List Expr}{t:TA}{ta:TE}{p pos apos:Pos}
theorem pml {pl:Sem Bool}(M:MCal X.prog X.w X.K X.mg X.base C m ps k sp) (c:Cls X.K C) (hr:Room k X.A) (he:PE X o ta) (ha:PA X (e::es) t)
  (hst:starEach (e::es) X.env =(false,eval e X.env)::starEach es X.env:=by rfl) (hpl:(backTo pos (starEach es X.env)).any (·.1)=false:=by rfl)
  (ht:eval (.Call (.Attribute o m apos) (e::es) [] pos) X.env =(do
   let ov ← eval o X.env
   standAt apos.atName
   let (f,first) ← holding [ov] (getMethod ov m pl)
   callWith pos f first (backTo pos (starEach (e::es) X.env)) (backToKw pos (keywordEach [] X.env))):=by rfl) :
  PE X (.Call (.Attribute o m apos) (e::es) [] pos) (tMeth C m sp [] E0 ta t):=by
 obtain⟨f,fd,F,hb,hm⟩:=M.ex
 exact pe_meth (pl:=pl) he c hm F hr hb .nil pass0 ha hst hpl ht
theorem pml0 {pl:Sem Bool}(M:MCal X.prog X.w X.K X.mg X.base C m ps k sp) (c:Cls X.K C) (hr:Room k X.A) (he:PE X o ta)
  (ht:eval (.Call (.Attribute o m apos) [] [] pos) X.env =(do
   let ov ← eval o X.env
   standAt apos.atName
   let (f,first) ← holding [ov] (getMethod ov m pl)
   callWith pos f first (backTo pos (starEach [] X.env)) (backToKw pos (keywordEach [] X.env))):=by rfl) :
  PE X (.Call (.Attribute o m apos) [] [] pos) (tMeth C m sp [] E0 ta tNil):=by
 obtain⟨f,fd,F,hb,hm⟩:=M.ex
 exact pe_meth0 (pl:=pl) he c hm F hr hb .nil pass0 ht
theorem pmk (M:KCal X.prog X.w X.K X.mg X.base x C ps k sp) (hr:Room (k+1) X.A) (ha:PA X (e::es) t) (hg:Gl X x:=by rfl) (hdb:(x ==("__debug__" : Str))=false:=by decide) (he:starEach (e::es) X.env =(false,eval e X.env)::starEach es X.env:=by rfl) (hpl:(backTo pos (starEach es X.env)).any (·.1)=false:=by rfl) :
  PE X (.Call (.Name x p) (e::es) [] pos) (tMake C sp [] E0 t):=by
 obtain⟨f,fd,F,hb,hM,hm⟩:=M.ex
 exact pe_make hM F hr hg hm hb .nil pass0 ha hdb he hpl
end
theorem MCal.of {P:Program}{w:World}{K:PySem.W.Frag}{mg:Str→Option Value}{base:Heap}{C:Addr}{x qual:Str}{st:Stmt}{f:Addr}{fd:FuncData}{N ps:List Str}{k:Nat}{sp:Sp}(F:Fun K x qual st f fd) (mF:Meth K C x f) (bF:Binds K fd ps []) (S:FnScope N ps (defScope st)) (len:∀vs H Q E,sp vs H Q E→vs.length=ps.length)
  (hbody:∀(cdv:Value) (A:Around) (outer:List Env) (s:Shared) (H:Hp) (vs:List V) (Q:VK) (E:XK),Room k (A.deeper (envOfC qual (defScope st) s.heap.objs.size f cdv))→sp vs H Q E →
   ∃t,PSs (cxOf CX0 P w K mg base N qual (defScope st) f cdv A outer s H E).nox (defBody st) t∧t { nx:=fun _ H'=>Q .non H',rt:=Q } (start N vs) H):MCal P w K mg base C x ps (k+1) sp :=
 ⟨f,fd,F.ok S len hbody,bF,mF⟩
theorem KCal.of {P:Program}{w:World}{K:PySem.W.Frag}{mg:Str→Option Value}{base:Heap}{C:Addr}{x y qual:Str}{st:Stmt}{f:Addr}{fd:FuncData}{N ps:List Str}{k:Nat}{sp:Sp}(F:Fun K y qual st f fd) (mF:Mk K C f) (mC:mg x=some (.ref C)) (bF:Binds K fd ps []) (S:FnScope N ps (defScope st)) (len:∀vs H Q E,sp vs H Q E→vs.length=ps.length)
  (hbody:∀(cdv:Value) (A:Around) (outer:List Env) (s:Shared) (H:Hp) (vs:List V) (Q:VK) (E:XK),Room k (A.deeper (envOfC qual (defScope st) s.heap.objs.size f cdv))→sp vs H Q E →
   ∃t,PSs (cxOf CX0 P w K mg base N qual (defScope st) f cdv A outer s H E).nox (defBody st) t∧t { nx:=fun _ H'=>Q .non H',rt:=Q } (start N vs) H):KCal P w K mg base x C ps (k+1) sp :=
 ⟨f,fd,F.ok S len hbody,bF,mF,mC⟩
theorem Cal.alias {P:Program}{w:World}{K:PySem.W.Frag}{mg:Str→Option Value}{base:Heap}{x y:Str}{ps:List Str}{k:Nat}{sp:Sp}(C:Cal P w K mg base x ps k sp) (h:mg y=mg x):Cal P w K mg base y ps k sp:=by
 obtain⟨f,fd,F,hb,hm,hk⟩:=C.ex
 exact⟨f,fd,F,hb,h.trans hm,hk⟩
section
variable {σ:St}{H:Hp}{Q:VK}
theorem rd_meth {C:Addr}{m:Str}{sp:Sp}{dvs:List V}{E:XK}{ta:TE}{t:TA}(h:ta σ H fun x H1=>∃a dx fs,x = .ref a∧H1 a=some (.ins C dx fs)∧fs.lookup m=none∧t σ H1 fun vs H2=>sp (x::(vs++dvs)) H2 Q E):tMeth C m sp dvs E ta t σ H Q:=h
theorem rd_make {C:Addr}{sp:Sp}{dvs:List V}{E:XK}{t:TA}(h:t σ H fun vs H1=>∀x dx,H1 x=none→H1 dx=none→dx≠x→sp (.ref x::(vs++dvs)) (upd (upd H1 dx (.own x)) x (.ins C dx [])) (fun v H2=>v = .non∧Q (.ref x) H2) E):tMake C sp dvs E t σ H Q:=h
theorem rd_fld {K:PySem.W.Frag}{ta:TE}{f:Str}(h:ta σ H fun x H1=>∃a C dx fs v,x = .ref a∧H1 a=some (.ins C dx fs)∧Cls K C∧NoAttr K C f∧fs.lookup f=some v∧Q v H1):tFld K ta f σ H Q:=h
theorem rd_sfld {K:PySem.W.Frag}{ta tv:TE}{f:Str}{D:Ends}(h:tv σ H fun y H1=>ta σ H1 fun x H2=>∃a C dx fs,x = .ref a∧H2 a=some (.ins C dx fs)∧Cls K C∧NoAttr K C f∧fs.length<1000∧D.nx σ (upd H2 a (.ins C dx (putF f y fs)))):sFld K ta tv f D σ H:=h
theorem rd_dnin {ty td:TE}(h:ty σ H fun y H1=>td σ H1 fun x H2=>∃a o,x = .ref a∧DGet H2 a y o∧Q (.bl (!o.isSome)) H2):tDNotIn ty td σ H Q:=h
end
section
variable {X:Cx}
def rLenD:List V→Hp→VK→Prop:=fun xs H Q=>∃a kvs,xs=[V.ref a]∧H a=some (.dK kvs)∧Q (.int kvs.length) H
theorem call_lenD:CallR X (.builtin "len") rLenD:=by
 intro pins s σ H xs us Q I r h
 obtain⟨a,kvs,rfl,ha,q⟩:=h
 obtain⟨u,rfl,ru⟩:=vals1 r
 cases ru
 exact d_len I (.inl ha) fun t s' I'=>⟨.int kvs.length,H,I',⟨t,rfl⟩,q⟩
end
section
variable {X:Cx}{pins:List (Addr×Obj)}{σ:St}{H:Hp}{s:Shared}{d:Addr}{o:Obj}{kvs:List (Key×V)}
end
section
variable {X:Cx}
end
end L2
namespace L2
open PySem PySem.Spec PyProof.Rows
section
variable {prog:Program}{w:World}{A:Around}{E:Value→Shared→Prop}{s:Shared}{κ:Type} [DecidableEq κ] {knd:KeyKind prog w κ}
end
section
variable {X:Cx}
end
end L2
namespace L2
open PySem PySem.Spec PyProof.Rows
section
variable {σ:St}{H:Hp}{Q:VK}{D:Ends}
def IsT (R t:TS):Prop:=R=t
theorem rd_seqO {t u:TS}(h:∀R,IsT R u→t { D with nx:=R D } σ H):tSeq t u D σ H:=h u rfl
theorem rd_ifSO {c:TT}{t u:TS}(h:∀R S,IsT R t→IsT S u→c σ H fun b H1=>if b=true then R D σ H1 else S D σ H1):tIfS c t u D σ H:=h t u rfl rfl
theorem rd_forO {wi:TI}{g:TG}{tb:TS}(h:∀R,IsT R tb→wi σ H fun J H1=>∃W:Nat→Nat→St→Hp→Prop,(∃m,W 0 m σ H1)∧∀i m σ H,W i m σ H →
 (J.stop i H∧D.nx σ H) ∨(J.go i H∧∃N:St→Hp→Prop,(∀σ' H',N σ' H'→∃m',m'<m∧W (i+1) m' σ' H')∧∀x H',J.yld i H x H'→g x σ H' fun σ2 H2=>R { D with nx:=N,ct:=N,bk:=D.nx } σ2 H2)):tFor wi g tb D σ H:=h tb rfl
theorem rd_tx {R t:TS}(e:IsT R t) (h:t D σ H):R D σ H:=by cases e;exact h
def IsN (N I:St→Hp→Prop):Prop:=∀σ H,I σ H→N σ H
def AllN (I:St→Hp→Prop) (t:(St→Hp→Prop)→Prop):Prop:=∀N,IsN N I→t N
theorem rd_allN {I:St→Hp→Prop}{t:(St→Hp→Prop)→Prop}(h:∀N,IsN N I→t N):AllN I t:=h
theorem rd_isN {N I:St→Hp→Prop}(e:IsN N I) (h:I σ H):N σ H:=e σ H h
theorem for_rangeO {lo:Int}{n:Nat}{g:TG}{tb:TS}(Pv:Nat→St→Hp→Prop) (h0:Pv 0 σ H)
  (hs:∀i σ H,i<n→Pv i σ H→AllN (Pv (i+1)) fun N=>g (.int (lo+i)) σ H fun σ2 H2=>tb { D with nx:=N,ct:=N,bk:=D.nx } σ2 H2) (hd:∀σ H,Pv n σ H→D.nx σ H) :
  ∃W:Nat→Nat→St→Hp→Prop,(∃m,W 0 m σ H)∧∀i m σ H,W i m σ H →
   ((Itr lo n).stop i H∧D.nx σ H) ∨((Itr lo n).go i H∧∃N:St→Hp→Prop,(∀σ' H',N σ' H'→∃m',m'<m∧W (i+1) m' σ' H')∧∀x H',(Itr lo n).yld i H x H'→g x σ H' fun σ2 H2=>tb { D with nx:=N,ct:=N,bk:=D.nx } σ2 H2) :=
 for_range Pv h0 (fun i σ H a b=>hs i σ H a b _ fun _ _ z=>z) hd
theorem for_listO {K:PySem.W.Frag}{a:Addr}{xs:List V}{g:TG}{tb:TS}(Pv:Nat→St→Hp→Prop) (h0:Pv 0 σ H) (hl:∀i σ H,i≤xs.length→Pv i σ H→SqL K H a xs)
  (hs:∀i x σ H,xs[i]? = some x→Pv i σ H→AllN (Pv (i+1)) fun N=>g x σ H fun σ2 H2=>tb { D with nx:=N,ct:=N,bk:=D.nx } σ2 H2) (hd:∀σ H,Pv xs.length σ H→D.nx σ H) :
  ∃W:Nat→Nat→St→Hp→Prop,(∃m,W 0 m σ H)∧∀i m σ H,W i m σ H →
   ((Itl K a).stop i H∧D.nx σ H) ∨((Itl K a).go i H∧∃N:St→Hp→Prop,(∀σ' H',N σ' H'→∃m',m'<m∧W (i+1) m' σ' H')∧∀x H',(Itl K a).yld i H x H'→g x σ H' fun σ2 H2=>tb { D with nx:=N,ct:=N,bk:=D.nx } σ2 H2) :=
 for_list Pv h0 hl (fun i x σ H a b=>hs i x σ H a b _ fun _ _ z=>z) hd
end
end L2
namespace L2
open PySem PySem.Spec PyProof.Rows
section
variable {X:Cx}{σ:St}{H:Hp}{Q:VK}{D:DK}
end
section
variable {K:PySem.W.Frag}
def Ga (K:PySem.W.Frag) (x:Str) (st:Stmt):Prop:=∃f:Addr,PySem.W.nsIn K mainGlobals x=some (some (.ref f))∧∃fd:FuncData,Fun K x x st f fd
def Ga2 (K:PySem.W.Frag) (x y:Str) (st:Stmt):Prop:=∃f:Addr,PySem.W.nsIn K mainGlobals x=some (some (.ref f))∧PySem.W.nsIn K mainGlobals y=some (some (.ref f))∧∃fd:FuncData,Fun K x x st f fd
def Me (K:PySem.W.Frag) (C:Addr) (m q:Str) (st:Stmt):Prop:=∃f:Addr,PySem.W.findIn K (.ref C) m=some (some (.ref f))∧PySem.W.isFn K (.ref f)=true∧PySem.W.keepIn K (.ref f)=true∧∃fd:FuncData,Fun K m q st f fd
theorem Ga.elim {x:Str}{st:Stmt}{R:Prop}(g:Ga K x st) (k:∀f,PySem.W.nsIn K mainGlobals x=some (some (.ref f))→∀fd,Fun K x x st f fd→R):R:=by
 obtain⟨f,a,fd,F⟩:=g
 exact k f a fd F
theorem Ga2.elim {x y:Str}{st:Stmt}{R:Prop}(g:Ga2 K x y st) (k:∀f,PySem.W.nsIn K mainGlobals x=some (some (.ref f))→PySem.W.nsIn K mainGlobals y=some (some (.ref f))→∀fd,Fun K x x st f fd→R):R:=by
 obtain⟨f,a,b,fd,F⟩:=g
 exact k f a b fd F
theorem Me.elim {C:Addr}{m q:Str}{st:Stmt}{R:Prop}(g:Me K C m q st) (k:∀f,PySem.W.findIn K (.ref C) m=some (some (.ref f))→PySem.W.isFn K (.ref f)=true→PySem.W.keepIn K (.ref f)=true→∀fd,Fun K m q st f fd→R):R:=by
 obtain⟨f,a,b,c,fd,F⟩:=g
 exact k f a b c fd F
theorem Ga.mk {x:Str}{st:Stmt}{f:Addr}{oc:Value}{od an:Option Addr}{osl:Array (Option Value)}{kV doc pm cdv ct:Value}(a:PySem.W.nsIn K mainGlobals x=some (some (.ref f))) (l:K.lookup f=some ⟨oc,od,.func (PySem.W.fnOf x x (defArgs st) (defBody st) (defScope st) .none kV doc pm an cdv ct),osl⟩) (c:PySem.W.codeIn K cdv x=true) (k:PySem.W.keepIn K (.ref f)=true):Ga K x st:=⟨f,a,_,fun_mk l c k⟩
theorem Ga2.mk {x y:Str}{st:Stmt}{f:Addr}{oc:Value}{od an:Option Addr}{osl:Array (Option Value)}{kV doc pm cdv ct:Value}(a:PySem.W.nsIn K mainGlobals x=some (some (.ref f))) (b:PySem.W.nsIn K mainGlobals y=some (some (.ref f))) (l:K.lookup f=some ⟨oc,od,.func (PySem.W.fnOf x x (defArgs st) (defBody st) (defScope st) .none kV doc pm an cdv ct),osl⟩) (c:PySem.W.codeIn K cdv x=true) (k:PySem.W.keepIn K (.ref f)=true):Ga2 K x y st:=⟨f,a,b,_,fun_mk l c k⟩
theorem Me.mk {C:Addr}{m q:Str}{st:Stmt}{f:Addr}{oc:Value}{od an:Option Addr}{osl:Array (Option Value)}{kV doc pm cdv ct:Value}(a:PySem.W.findIn K (.ref C) m=some (some (.ref f))) (b:PySem.W.isFn K (.ref f)=true) (l:K.lookup f=some ⟨oc,od,.func (PySem.W.fnOf m q (defArgs st) (defBody st) (defScope st) .none kV doc pm an cdv ct),osl⟩) (c:PySem.W.codeIn K cdv q=true) (k:PySem.W.keepIn K (.ref f)=true):Me K C m q st:=⟨f,a,b,k,_,fun_mk l c k⟩
end
end L2
namespace L2
open PySem PySem.Spec PyProof.Rows
mutual
inductive DW (H:Hp):V→PyData→Prop
 | non:DW H .non .none
 | bl (b:Bool):DW H (.bl b) (.bool b)
 | int (i:Int):DW H (.int i) (.int i)
 | str (x:Str):DW H (.str x) (.str x)
 | lst {a:Addr}{xs:List V}{ds:List PyData}:H a=some (.lst xs)→DWs H xs ds→DW H (.ref a) (.list ds)
 | tup {a:Addr}{xs:List V}{ds:List PyData}:H a=some (.tup xs)→DWs H xs ds→DW H (.ref a) (.tuple ds)
 | dic {a:Addr}:H a=some (.dK [])→DW H (.ref a) (.dict [])
inductive DWs (H:Hp):List V→List PyData→Prop
 | nil:DWs H [] []
 | cons {x:V}{d:PyData}{xs:List V}{ds:List PyData}:DW H x d→DWs H xs ds→DWs H (x::xs) (d::ds)
end
mutual
def nlD:PyData→Bool
 | .list _=>false
 | .tuple xs=>nlDs xs
 | _=>true
def nlDs:List PyData→Bool
 | []=>true
 | x::xs=>nlD x && nlDs xs
end
section
variable {X:Cx}{pins:List (Addr×Obj)}{σ:St}{H:Hp}{s:Shared}
end
section
variable {X:Cx}
end
section
variable {X:Cx}
end
def Sub (M:Addr→Bool) (H H':Hp):Prop:=∀a o,M a=false→H a=some o→H' a=some o
end L2
namespace L2
open PySem PySem.Spec PyProof.Rows
section
variable {K:PySem.W.Frag}{σ:St}{H:Hp}{Q:VK}
end
section
variable {X:Cx}
end
end L2
namespace L2
open PySem PySem.Spec PyProof.Rows
section
variable {X:Cx}{pins:List (Addr×Obj)}{σ:St}{H:Hp}{s:Shared}{a:Addr}{kvs:List (Key×V)}{k:Key}{u r:Value}{A:Around}{E:Value→Shared→Prop}
end
section
variable {X:Cx}
end
end L2
namespace L2
open PySem PySem.Spec PyProof.Rows
section
variable {X:Cx}{K:PySem.W.Frag}{C:Addr}
end
end L2
set_option maxHeartbeats 4000000
local macro_rules | `(tactic| walk_at"rdc")=>`(tactic| first
  | (show (0:Int) < _; omega)
  | (show (0:Int) ≤ _; omega)
  | (show (0:Int) < _∧_ < 2 ^ 100; omega)
  | (show (-(2 ^ 64) < _∧_ < 2 ^ 64) ∨ (-(2 ^ 64) < _∧_ < 2 ^ 64); omega)
  | (show (0:Int) ≤ _∧_ ≤ 1000000∧Int.natAbs _ < 2 ^ 64; omega))
local macro_rules | `(tactic| walk_at"rd1")=>`(tactic| first
  | (with_reducible refine' L2.rd_allN (fun _ _=>?_)) | (with_reducible refine' L2.rd_seqO (fun _ _=>?_)) | (with_reducible refine' L2.rd_asg ?_) | ((with_reducible refine' L2.rd_gname ?_); (try dsimp only [List.set_cons_zero,List.set_cons_succ])) | (with_reducible refine' L2.rd_ret ?_) | (with_reducible refine' L2.rd_retN ?_) | (with_reducible refine' L2.rd_next ?_) | (with_reducible refine' L2.rd_drop ?_) | (with_reducible refine' L2.rd_ifSO (fun _ _ _ _=>?_))
  | (with_reducible refine' L2.rd_op ?_) | (with_reducible refine' L2.rd_un ?_) | (with_reducible refine' L2.rd_c ?_) | ((with_reducible refine' L2.rd_var ?rdv ?_); (case rdv=>rfl))
  | (with_reducible refine' L2.rd_I0 ?_) | (with_reducible refine' L2.rd_U ?_) | (with_reducible refine' L2.rd_eqI ?_) | (with_reducible refine' L2.rd_neI ?_) | (with_reducible refine' L2.rd_eqB ?_) | (with_reducible refine' L2.rd_neB ?_)
  | (with_reducible refine' L2.rd_test ?_) | (with_reducible refine' L2.rd_tB ?_) | (with_reducible refine' L2.rd_and ?_) | (with_reducible refine' L2.rd_or ?_) | (with_reducible refine' L2.rd_not ?_) | (with_reducible refine' L2.rd_andV ?_) | (with_reducible refine' L2.rd_orV ?_) | (with_reducible refine' L2.rd_notV ?_) | (with_reducible refine' L2.rd_chain ?_) | (with_reducible refine' L2.rd_ifE ?_)
  | (with_reducible refine' L2.rd_nil ?_) | (with_reducible refine' L2.rd_cons ?_) | (with_reducible refine' L2.rd_call ?_) | (with_reducible refine' L2.rd_cb ?_) | (with_reducible refine' L2.rd_lst ?_) | (with_reducible refine' L2.rd_tup ?_) | (with_reducible refine' L2.rd_bm0 ?_) | (with_reducible refine' L2.rd_bm ?_) | (with_reducible refine' L2.rd_augS ?_) | ((with_reducible refine' L2.rd_ip ?_); (try dsimp only [List.set_cons_zero,List.set_cons_succ])) | ((with_reducible refine' L2.rd_aug ?rdv ?_); (case rdv=>rfl)) | (with_reducible refine' L2.rd_izip ?_) | (with_reducible refine' L2.rd_ivals ?_) | (with_reducible refine' L2.rd_dget2 ?_) | (with_reducible refine' L2.rd_dput ?_) | (with_reducible refine' L2.rd_dget ?_) | (with_reducible refine' L2.rd_dnewK ?_) | (with_reducible refine' L2.rd_sortK ?_) | (with_reducible refine' L2.rd_sortLam ?_) | (with_reducible refine' L2.rd_orG ?_) | (with_reducible refine' L2.rd_isB ?_) | (with_reducible refine' L2.rd_gsub ?_) | (with_reducible refine' L2.rd_meth ?_) | (with_reducible refine' L2.rd_make ?_) | (with_reducible refine' L2.rd_fld ?_) | (with_reducible refine' L2.rd_sfld ?_) | (with_reducible refine' L2.rd_din ?_) | (with_reducible refine' L2.rd_dnin ?_) | (with_reducible refine' L2.rd_idict ?_) | (with_reducible refine' L2.rd_dpop ?_)
  | (with_reducible refine' L2.rd_sl ?_) | (with_reducible refine' L2.rd_nop ?_) | (with_reducible refine' L2.rd_part ?_) | (with_reducible refine' L2.rd_bl ?_) | (with_reducible refine' L2.rd_int ?_)
  | (with_reducible refine' L2.rd_iteT ?_) | (with_reducible refine' L2.rd_iteF ?_) | (with_reducible refine' L2.rd_iteNF ?_) | (with_reducible refine' L2.rd_iteNT ?_)
  | (with_reducible refine' L2.rd_forO (fun _ _=>?_)) | (with_reducible refine' L2.rd_rng1 ?_) | (with_reducible refine' L2.rd_rng2 ?_) | (with_reducible refine' L2.rd_ilist ?_) | (with_reducible refine' L2.rd_comp ?_) | (with_reducible refine' L2.rd_yes ?_)
  | (with_reducible refine' L2.rd_itup ?_) | (with_reducible refine' L2.rd_istr ?_) | (with_reducible refine' L2.rd_leS ?_) | (with_reducible refine' L2.rd_inS ?_)
  | (with_reducible refine' L2.rd_abs ?_) | (with_reducible refine' L2.rd_max ?_) | (with_reducible refine' L2.rd_min ?_) | (with_reducible refine' L2.rd_bitlen ?_)
  | (with_reducible refine' L2.rd_rev ?_) | (with_reducible refine' L2.rd_ienum ?_) | (with_reducible refine' L2.rd_intB ?_)
  | ((with_reducible refine' L2.rd_ixL (L2.SqL.of ?rdh) ?rde ?_); (case rdh=>assumption); (case rde=>rfl))
  | ((with_reducible refine' L2.rd_set0 ?rdh ?_); (case rdh=>assumption))
  | ((with_reducible refine' L2.rd_set1 ?rdh ?_); (case rdh=>assumption))
  | ((with_reducible refine' L2.rd_setL ?rdh ?rde ?_); (case rdh=>assumption); (case rde=>rfl))
  | ((with_reducible refine' L2.rd_ixT (L2.SqT.of ?rdh) ?rde ?_); (case rdh=>assumption); (case rde=>rfl))
  | ((with_reducible refine' L2.rd_lenL (L2.SqL.of ?rdh) ?_); (case rdh=>assumption))
  | ((with_reducible refine' L2.rd_I ?rdc ?_); (case rdc=>walk_at"rdc"))
  | ((with_reducible refine' L2.rd_tx ?rdt ?_); (case rdt=>assumption); (try dsimp only [List.set_cons_zero,List.set_cons_succ]))
  | (dsimp only; (with_reducible refine' L2.rd_tx ?rdt ?_); (case rdt=>assumption); (try dsimp only [List.set_cons_zero,List.set_cons_succ]))
  | ((with_reducible refine' L2.rd_isN ?rdt ?_); (case rdt=>assumption); (try dsimp only))
  | (dsimp only; (with_reducible refine' L2.rd_isN ?rdt ?_); (case rdt=>assumption); (try dsimp only)))
local macro_rules | `(tactic| walk_at"rd")=>`(tactic| repeat walk_at"rd1")
local macro_rules | `(tactic| walk_at"lk")=>`(tactic| first | k_is | ((refine' L2.Ga.mk ?lka ?lkl ?lkc ?lkk); (case lka=>k_is); (case lkl=>k_is); (case lkc=>k_is); (case lkk=>k_is)) | ((refine' L2.Ga2.mk ?lka ?lkb ?lkl ?lkc ?lkk); (case lka=>k_is); (case lkb=>k_is); (case lkl=>k_is); (case lkc=>k_is); (case lkk=>k_is)) | ((refine' L2.Me.mk ?lka ?lkb ?lkl ?lkc ?lkk); (case lka=>k_is); (case lkb=>k_is); (case lkl=>k_is); (case lkc=>k_is); (case lkk=>k_is)))
namespace Law
open PySem PySem.Spec PyProof.Rows L2
def top (i:Nat):Stmt:=PySem.Challenge.pw_tailrooms_k65_outlook_by_tables.main.body.getD i (.Pass ⟨0,0,0,0⟩)
abbrev s_is_whole:Stmt:=top 2
abbrev s_is_key:Stmt:=top 3
abbrev s_is_name:Stmt:=top 4
abbrev s_is_size:Stmt:=top 5
abbrev s_rows_for:Stmt:=top 7
abbrev s_rows_behind:Stmt:=top 8
abbrev s_greatest_spill:Stmt:=top 11
abbrev s_least_spill:Stmt:=top 12
abbrev s_gap:Stmt:=top 13
abbrev s_cheap_rooms:Stmt:=top 14
abbrev s_spill_behind:Stmt:=top 15
abbrev s_last_bits:Stmt:=top 17
abbrev s_level:Stmt:=top 18
abbrev s_turn:Stmt:=top 19
abbrev s_bits_for:Stmt:=top 20
abbrev s_room_of:Stmt:=top 21
abbrev s_split_of:Stmt:=top 22
abbrev s_spread:Stmt:=top 24
abbrev s_counts:Stmt:=top 25
abbrev s_spill:Stmt:=top 26
abbrev s_ask_sizes:Stmt:=top 36
abbrev s_ask_key:Stmt:=top 37
abbrev s_ask_entry:Stmt:=top 38
abbrev s_rooms_for:Stmt:=top 41
abbrev s_Table___init__:Stmt:=inClass (top 42) 0
abbrev s_Table_put:Stmt:=inClass (top 42) 1
abbrev s_Table_count:Stmt:=inClass (top 42) 5
abbrev s_Table_rooms:Stmt:=inClass (top 42) 6
abbrev s_Table_spill:Stmt:=inClass (top 42) 9
abbrev s_Table_spread_keys:Stmt:=inClass (top 42) 13
abbrev s_Table_room_counts:Stmt:=inClass (top 42) 14
abbrev s_outlook:Stmt:=top 44
abbrev s__law_open:Stmt:=top 46
abbrev s__law_draw:Stmt:=top 47
abbrev s__law_far:Stmt:=top 48
abbrev s__law_power:Stmt:=top 49
abbrev s__law_key:Stmt:=top 50
abbrev s__law_keys:Stmt:=top 51
abbrev s__law_room:Stmt:=top 52
abbrev s__law_needs:Stmt:=top 53
abbrev s__law_greatest:Stmt:=top 54
abbrev s__law_least:Stmt:=top 55
abbrev s__law_table:Stmt:=top 56
abbrev s__law_filled:Stmt:=top 57
abbrev s__law_right:Stmt:=top 58
abbrev s_law:Stmt:=top 59
theorem sc_is_whole:FnScope ["thing"] ["thing"] (defScope s_is_whole):=⟨rfl,rfl,rfl,by decide +kernel,rfl,by decide +kernel,by decide +kernel⟩
theorem sc_is_key:FnScope ["thing"] ["thing"] (defScope s_is_key):=⟨rfl,rfl,rfl,by decide +kernel,rfl,by decide +kernel,by decide +kernel⟩
theorem sc_is_name:FnScope ["thing"] ["thing"] (defScope s_is_name):=⟨rfl,rfl,rfl,by decide +kernel,rfl,by decide +kernel,by decide +kernel⟩
theorem sc_is_size:FnScope ["thing"] ["thing"] (defScope s_is_size):=⟨rfl,rfl,rfl,by decide +kernel,rfl,by decide +kernel,by decide +kernel⟩
theorem sc_rows_for:FnScope ["many", "wide"] ["many", "wide"] (defScope s_rows_for):=⟨rfl,rfl,rfl,by decide +kernel,rfl,by decide +kernel,by decide +kernel⟩
theorem sc_rows_behind:FnScope ["many", "wide"] ["many", "wide"] (defScope s_rows_behind):=⟨rfl,rfl,rfl,by decide +kernel,rfl,by decide +kernel,by decide +kernel⟩
theorem sc_greatest_spill:FnScope ["counts", "wide", "more", "put", "left", "cheap", "room", "needed"] ["counts", "wide", "more"] (defScope s_greatest_spill):=⟨rfl,rfl,rfl,by decide +kernel,rfl,by decide +kernel,by decide +kernel⟩
theorem sc_least_spill:FnScope ["counts", "wide", "more", "put", "left", "many", "goes"] ["counts", "wide", "more"] (defScope s_least_spill):=⟨rfl,rfl,rfl,by decide +kernel,rfl,by decide +kernel,by decide +kernel⟩
theorem sc_gap:FnScope ["many", "wide"] ["many", "wide"] (defScope s_gap):=⟨rfl,rfl,rfl,by decide +kernel,rfl,by decide +kernel,by decide +kernel⟩
theorem sc_cheap_rooms:FnScope ["counts", "wide", "rooms"] ["counts", "wide"] (defScope s_cheap_rooms):=⟨rfl,rfl,rfl,by decide +kernel,rfl,by decide +kernel,by decide +kernel⟩
theorem sc_spill_behind:FnScope ["counts", "wide", "put"] ["counts", "wide", "put"] (defScope s_spill_behind):=⟨rfl,rfl,rfl,by decide +kernel,rfl,by decide +kernel,by decide +kernel⟩
theorem sc_last_bits:FnScope ["key", "many"] ["key", "many"] (defScope s_last_bits):=⟨rfl,rfl,rfl,by decide +kernel,rfl,by decide +kernel,by decide +kernel⟩
theorem sc_level:FnScope ["rooms"] ["rooms"] (defScope s_level):=⟨rfl,rfl,rfl,by decide +kernel,rfl,by decide +kernel,by decide +kernel⟩
theorem sc_turn:FnScope ["rooms"] ["rooms"] (defScope s_turn):=⟨rfl,rfl,rfl,by decide +kernel,rfl,by decide +kernel,by decide +kernel⟩
theorem sc_bits_for:FnScope ["room", "rooms", "deep"] ["room", "rooms"] (defScope s_bits_for):=⟨rfl,rfl,rfl,by decide +kernel,rfl,by decide +kernel,by decide +kernel⟩
theorem sc_room_of:FnScope ["key", "rooms"] ["key", "rooms"] (defScope s_room_of):=⟨rfl,rfl,rfl,by decide +kernel,rfl,by decide +kernel,by decide +kernel⟩
theorem sc_split_of:FnScope ["rooms"] ["rooms"] (defScope s_split_of):=⟨rfl,rfl,rfl,by decide +kernel,rfl,by decide +kernel,by decide +kernel⟩
theorem sc_spread:FnScope ["keys", "rooms", "told", "key"] ["keys", "rooms"] (defScope s_spread):=⟨rfl,rfl,rfl,by decide +kernel,rfl,by decide +kernel,by decide +kernel⟩
theorem sc_counts:FnScope ["keys", "rooms"] ["keys", "rooms"] (defScope s_counts):=⟨rfl,rfl,rfl,by decide +kernel,rfl,by decide +kernel,by decide +kernel⟩
theorem sc_spill:FnScope ["counts", "wide"] ["counts", "wide"] (defScope s_spill):=⟨rfl,rfl,rfl,by decide +kernel,rfl,by decide +kernel,by decide +kernel⟩
theorem sc_ask_sizes:FnScope ["wide", "fill"] ["wide", "fill"] (defScope s_ask_sizes):=⟨rfl,rfl,rfl,by decide +kernel,rfl,by decide +kernel,by decide +kernel⟩
theorem sc_ask_key:FnScope ["key"] ["key"] (defScope s_ask_key):=⟨rfl,rfl,rfl,by decide +kernel,rfl,by decide +kernel,by decide +kernel⟩
theorem sc_ask_entry:FnScope ["key", "thing"] ["key", "thing"] (defScope s_ask_entry):=⟨rfl,rfl,rfl,by decide +kernel,rfl,by decide +kernel,by decide +kernel⟩
theorem sc_rooms_for:FnScope ["count", "fill"] ["count", "fill"] (defScope s_rooms_for):=⟨rfl,rfl,rfl,by decide +kernel,rfl,by decide +kernel,by decide +kernel⟩
theorem sc_Table___init__:FnScope ["self", "wide", "fill"] ["self", "wide", "fill"] (defScope s_Table___init__):=⟨rfl,rfl,rfl,by decide +kernel,rfl,by decide +kernel,by decide +kernel⟩
theorem sc_Table_put:FnScope ["self", "key", "thing", "ahead", "room", "new"] ["self", "key", "thing"] (defScope s_Table_put):=⟨rfl,rfl,rfl,by decide +kernel,rfl,by decide +kernel,by decide +kernel⟩
theorem sc_Table_count:FnScope ["self"] ["self"] (defScope s_Table_count):=⟨rfl,rfl,rfl,by decide +kernel,rfl,by decide +kernel,by decide +kernel⟩
theorem sc_Table_rooms:FnScope ["self"] ["self"] (defScope s_Table_rooms):=⟨rfl,rfl,rfl,by decide +kernel,rfl,by decide +kernel,by decide +kernel⟩
theorem sc_Table_spill:FnScope ["self"] ["self"] (defScope s_Table_spill):=⟨rfl,rfl,rfl,by decide +kernel,rfl,by decide +kernel,by decide +kernel⟩
theorem sc_Table_spread_keys:FnScope ["self", "rooms"] ["self", "rooms"] (defScope s_Table_spread_keys):=⟨rfl,rfl,rfl,by decide +kernel,rfl,by decide +kernel,by decide +kernel⟩
theorem sc_Table_room_counts:FnScope ["self"] ["self"] (defScope s_Table_room_counts):=⟨rfl,rfl,rfl,by decide +kernel,rfl,by decide +kernel,by decide +kernel⟩
theorem sc_outlook:FnScope ["keys", "wide", "fill", "more", "rooms", "own"] ["keys", "wide", "fill", "more"] (defScope s_outlook):=⟨rfl,rfl,rfl,by decide +kernel,rfl,by decide +kernel,by decide +kernel⟩
theorem sc__law_open:FnScope ["_law_script", "_law_place", "_law_cells", "_law_at", "_law_digits"] ["_law_script", "_law_place"] (defScope s__law_open):=⟨rfl,rfl,rfl,by decide +kernel,rfl,by decide +kernel,by decide +kernel⟩
theorem sc__law_draw:FnScope ["_law_hand", "_law_many", "_law_got", "_law_k", "_law_number"] ["_law_hand", "_law_many"] (defScope s__law_draw):=⟨rfl,rfl,rfl,by decide +kernel,rfl,by decide +kernel,by decide +kernel⟩
theorem sc__law_far:FnScope ["_law_hand", "_law_many", "_law_number", "_law_k"] ["_law_hand", "_law_many"] (defScope s__law_far):=⟨rfl,rfl,rfl,by decide +kernel,rfl,by decide +kernel,by decide +kernel⟩
theorem sc__law_power:FnScope ["_law_many", "_law_number", "_law_k"] ["_law_many"] (defScope s__law_power):=⟨rfl,rfl,rfl,by decide +kernel,rfl,by decide +kernel,by decide +kernel⟩
theorem sc__law_key:FnScope ["_law_hand", "_law_way", "_law_low"] ["_law_hand"] (defScope s__law_key):=⟨rfl,rfl,rfl,by decide +kernel,rfl,by decide +kernel,by decide +kernel⟩
theorem sc__law_keys:FnScope ["_law_hand", "_law_many", "_law_keys_here", "_law_k", "_law_key_here"] ["_law_hand", "_law_many"] (defScope s__law_keys):=⟨rfl,rfl,rfl,by decide +kernel,rfl,by decide +kernel,by decide +kernel⟩
theorem sc__law_room:FnScope ["_law_key_here", "_law_rooms", "_law_two", "_law_low"] ["_law_key_here", "_law_rooms"] (defScope s__law_room):=⟨rfl,rfl,rfl,by decide +kernel,rfl,by decide +kernel,by decide +kernel⟩
theorem sc__law_needs:FnScope ["_law_sizes", "_law_wide"] ["_law_sizes", "_law_wide"] (defScope s__law_needs):=⟨rfl,rfl,rfl,by decide +kernel,rfl,by decide +kernel,by decide +kernel⟩
theorem sc__law_greatest:FnScope ["_law_sizes", "_law_wide", "_law_more", "_law_rows", "_law_needs_here", "_law_left", "_law_need"] ["_law_sizes", "_law_wide", "_law_more"] (defScope s__law_greatest):=⟨rfl,rfl,rfl,by decide +kernel,rfl,by decide +kernel,by decide +kernel⟩
theorem sc__law_least:FnScope ["_law_sizes", "_law_wide", "_law_more", "_law_rows", "_law_free"] ["_law_sizes", "_law_wide", "_law_more"] (defScope s__law_least):=⟨rfl,rfl,rfl,by decide +kernel,rfl,by decide +kernel,by decide +kernel⟩
theorem sc__law_table:FnScope ["_law_keys_here", "_law_wide", "_law_fill", "_law_table_here", "_law_key_here"] ["_law_keys_here", "_law_wide", "_law_fill"] (defScope s__law_table):=⟨rfl,rfl,rfl,by decide +kernel,rfl,by decide +kernel,by decide +kernel⟩
theorem sc__law_filled:FnScope ["_law_keys_here", "_law_put", "_law_more", "_law_room_here", "_law_one", "_law_k"] ["_law_keys_here", "_law_put"] (defScope s__law_filled):=⟨rfl,rfl,rfl,by decide +kernel,rfl,by decide +kernel,by decide +kernel⟩
theorem sc__law_right:FnScope ["_law_keys_here", "_law_further", "_law_wide", "_law_fill", "_law_every", "_law_rooms", "_law_sizes", "_law_key_here", "_law_handed", "_law_told", "_law_due", "_law_table_here", "_law_low", "_law_high"] ["_law_keys_here", "_law_further", "_law_wide", "_law_fill"] (defScope s__law_right):=⟨rfl,rfl,rfl,by decide +kernel,rfl,by decide +kernel,by decide +kernel⟩
theorem sc_law:FnScope ["_law_script", "_law_place", "_law_hand", "_law_wide", "_law_fill", "_law_many", "_law_first", "_law_every"] ["_law_script"] (defScope s_law):=⟨rfl,rfl,rfl,by decide +kernel,rfl,by decide +kernel,by decide +kernel⟩
theorem st_is_whole (x0:V):start ["thing"] [x0]=[some x0]:=rfl
theorem st_is_key (x0:V):start ["thing"] [x0]=[some x0]:=rfl
theorem st_is_name (x0:V):start ["thing"] [x0]=[some x0]:=rfl
theorem st_is_size (x0:V):start ["thing"] [x0]=[some x0]:=rfl
theorem st_rows_for (x0 x1:V):start ["many", "wide"] [x0,x1]=[some x0,some x1]:=rfl
theorem st_rows_behind (x0 x1:V):start ["many", "wide"] [x0,x1]=[some x0,some x1]:=rfl
theorem st_greatest_spill (x0 x1 x2:V):start ["counts", "wide", "more", "put", "left", "cheap", "room", "needed"] [x0,x1,x2]=[some x0,some x1,some x2,none,none,none,none,none]:=rfl
theorem st_least_spill (x0 x1 x2:V):start ["counts", "wide", "more", "put", "left", "many", "goes"] [x0,x1,x2]=[some x0,some x1,some x2,none,none,none,none]:=rfl
theorem st_gap (x0 x1:V):start ["many", "wide"] [x0,x1]=[some x0,some x1]:=rfl
theorem st_cheap_rooms (x0 x1:V):start ["counts", "wide", "rooms"] [x0,x1]=[some x0,some x1,none]:=rfl
theorem st_spill_behind (x0 x1 x2:V):start ["counts", "wide", "put"] [x0,x1,x2]=[some x0,some x1,some x2]:=rfl
theorem st_last_bits (x0 x1:V):start ["key", "many"] [x0,x1]=[some x0,some x1]:=rfl
theorem st_level (x0:V):start ["rooms"] [x0]=[some x0]:=rfl
theorem st_turn (x0:V):start ["rooms"] [x0]=[some x0]:=rfl
theorem st_bits_for (x0 x1:V):start ["room", "rooms", "deep"] [x0,x1]=[some x0,some x1,none]:=rfl
theorem st_room_of (x0 x1:V):start ["key", "rooms"] [x0,x1]=[some x0,some x1]:=rfl
theorem st_split_of (x0:V):start ["rooms"] [x0]=[some x0]:=rfl
theorem st_spread (x0 x1:V):start ["keys", "rooms", "told", "key"] [x0,x1]=[some x0,some x1,none,none]:=rfl
theorem st_counts (x0 x1:V):start ["keys", "rooms"] [x0,x1]=[some x0,some x1]:=rfl
theorem st_spill (x0 x1:V):start ["counts", "wide"] [x0,x1]=[some x0,some x1]:=rfl
theorem st_ask_sizes (x0 x1:V):start ["wide", "fill"] [x0,x1]=[some x0,some x1]:=rfl
theorem st_ask_key (x0:V):start ["key"] [x0]=[some x0]:=rfl
theorem st_ask_entry (x0 x1:V):start ["key", "thing"] [x0,x1]=[some x0,some x1]:=rfl
theorem st_rooms_for (x0 x1:V):start ["count", "fill"] [x0,x1]=[some x0,some x1]:=rfl
theorem st_Table___init__ (x0 x1 x2:V):start ["self", "wide", "fill"] [x0,x1,x2]=[some x0,some x1,some x2]:=rfl
theorem st_Table_put (x0 x1 x2:V):start ["self", "key", "thing", "ahead", "room", "new"] [x0,x1,x2]=[some x0,some x1,some x2,none,none,none]:=rfl
theorem st_Table_count (x0:V):start ["self"] [x0]=[some x0]:=rfl
theorem st_Table_rooms (x0:V):start ["self"] [x0]=[some x0]:=rfl
theorem st_Table_spill (x0:V):start ["self"] [x0]=[some x0]:=rfl
theorem st_Table_spread_keys (x0 x1:V):start ["self", "rooms"] [x0,x1]=[some x0,some x1]:=rfl
theorem st_Table_room_counts (x0:V):start ["self"] [x0]=[some x0]:=rfl
theorem st_outlook (x0 x1 x2 x3:V):start ["keys", "wide", "fill", "more", "rooms", "own"] [x0,x1,x2,x3]=[some x0,some x1,some x2,some x3,none,none]:=rfl
theorem st__law_open (x0 x1:V):start ["_law_script", "_law_place", "_law_cells", "_law_at", "_law_digits"] [x0,x1]=[some x0,some x1,none,none,none]:=rfl
theorem st__law_draw (x0 x1:V):start ["_law_hand", "_law_many", "_law_got", "_law_k", "_law_number"] [x0,x1]=[some x0,some x1,none,none,none]:=rfl
theorem st__law_far (x0 x1:V):start ["_law_hand", "_law_many", "_law_number", "_law_k"] [x0,x1]=[some x0,some x1,none,none]:=rfl
theorem st__law_power (x0:V):start ["_law_many", "_law_number", "_law_k"] [x0]=[some x0,none,none]:=rfl
theorem st__law_key (x0:V):start ["_law_hand", "_law_way", "_law_low"] [x0]=[some x0,none,none]:=rfl
theorem st__law_keys (x0 x1:V):start ["_law_hand", "_law_many", "_law_keys_here", "_law_k", "_law_key_here"] [x0,x1]=[some x0,some x1,none,none,none]:=rfl
theorem st__law_room (x0 x1:V):start ["_law_key_here", "_law_rooms", "_law_two", "_law_low"] [x0,x1]=[some x0,some x1,none,none]:=rfl
theorem st__law_needs (x0 x1:V):start ["_law_sizes", "_law_wide"] [x0,x1]=[some x0,some x1]:=rfl
theorem st__law_greatest (x0 x1 x2:V):start ["_law_sizes", "_law_wide", "_law_more", "_law_rows", "_law_needs_here", "_law_left", "_law_need"] [x0,x1,x2]=[some x0,some x1,some x2,none,none,none,none]:=rfl
theorem st__law_least (x0 x1 x2:V):start ["_law_sizes", "_law_wide", "_law_more", "_law_rows", "_law_free"] [x0,x1,x2]=[some x0,some x1,some x2,none,none]:=rfl
theorem st__law_table (x0 x1 x2:V):start ["_law_keys_here", "_law_wide", "_law_fill", "_law_table_here", "_law_key_here"] [x0,x1,x2]=[some x0,some x1,some x2,none,none]:=rfl
theorem st__law_filled (x0 x1:V):start ["_law_keys_here", "_law_put", "_law_more", "_law_room_here", "_law_one", "_law_k"] [x0,x1]=[some x0,some x1,none,none,none,none]:=rfl
theorem st__law_right (x0 x1 x2 x3:V):start ["_law_keys_here", "_law_further", "_law_wide", "_law_fill", "_law_every", "_law_rooms", "_law_sizes", "_law_key_here", "_law_handed", "_law_told", "_law_due", "_law_table_here", "_law_low", "_law_high"] [x0,x1,x2,x3]=[some x0,some x1,some x2,some x3,none,none,none,none,none,none,none,none,none,none]:=rfl
theorem st_law (x0:V):start ["_law_script", "_law_place", "_law_hand", "_law_wide", "_law_fill", "_law_many", "_law_first", "_law_every"] [x0]=[some x0,none,none,none,none,none,none,none]:=rfl
abbrev lp_cheap_rooms:Pos:=⟨45,29,45,65⟩
abbrev TB_cheap_rooms (K:PySem.W.Frag) (H:Hp):Prop:=Tb (tbP K "cheap_rooms") lp_cheap_rooms (("cheap_rooms" : Str) ++ ".<locals>." ++ "<lambda>") H
structure Bl (mg:Str→Option Value):Prop where
 isinstance:mg "isinstance" = none
 int:mg "int" = none
 bool:mg "bool" = none
 str:mg "str" = none
 all:mg "all" = none
 len:mg "len" = none
 max:mg "max" = none
 min:mg "min" = none
 sorted:mg "sorted" = none
 range:mg "range" = none
 sum:mg "sum" = none
 zip:mg "zip" = none
 list:mg "list" = none
 abs:mg "abs" = none
 tuple:mg "tuple" = none
 c_MOST_KEYS:∃t,mg "MOST_KEYS" = some (.int 64 t)
structure Txt_Table (K:PySem.W.Frag) (mg:Str→Option Value) (CT:Addr):Prop where
 cl:Cls K CT
 n_wide:NoAttr K CT "wide"
 n_fill:NoAttr K CT "fill"
 n_held:NoAttr K CT "held"
 mg:mg "Table" = some (.ref CT)
structure Hand (H:Hp) (p:Addr) (N:Nat):Prop where
 ex:∃(l:Addr) (d c:Int) (ns:List Int),H p=some (.lst [.int d,.int c,.ref l])∧H l=some (.lst (ns.map V.int))∧0≤c∧c≤N∧ns ≠ []
theorem Hand.mono {H:Hp}{p:Addr}{N M:Nat}(h:Hand H p N) (hm:N≤M):Hand H p M:=by
 obtain⟨l,d,c,ns,h1,h2,h3,h4,h5⟩:=h.ex
 exact⟨l,d,c,ns,h1,h2,h3,by omega,h5⟩
def cellsOf (H:Hp) (p:Addr):Option Addr:=match H p with
 | some (.lst [_,_,.ref l])=>some l
 | _=>none
theorem cells_of {H:Hp}{p l:Addr}{a b:V}(h:H p=some (.lst [a,b,.ref l])):cellsOf H p=some l:=by unfold cellsOf;rw[h]
def Kp (H H':Hp) (p:Addr):Prop:=(∀b o,H b=some o→b≠p→H' b=some o)∧cellsOf H' p=cellsOf H p
theorem Kp.refl (H:Hp) (p:Addr):Kp H H p:=⟨fun _ _ h _=>h,rfl⟩
theorem Kp.trans {H H1 H2:Hp}{p:Addr}(a:Kp H H1 p) (b:Kp H1 H2 p):Kp H H2 p:=⟨fun c o h n=>b.1 c o (a.1 c o h n) n,b.2.trans a.2⟩
theorem Kp.hand {H:Hp}{p l:Addr}{a b a' b':V}(h:H p=some (.lst [a,b,.ref l])):Kp H (upd H p (.lst [a',b',.ref l])) p :=
 ⟨fun b u h n=>by rw[upd_ne n];exact h,by rw[cells_of upd_same,cells_of h]⟩
theorem Kp.of {H H':Hp}{p:Addr}{N:Nat}(h:Same H H') (hh:Hand H p N):Kp H H' p:=by
 obtain⟨l,d,c,ns,h1,_⟩:=hh.ex
 exact⟨fun b o q _=>h b o q,by rw[cells_of h1,cells_of (h _ _ h1)]⟩
theorem Kp.new {H H1 H2:Hp}{p:Addr}(a:Same H H1) (n:H p=none) (b:Kp H1 H2 p):Same H H2:=fun c o h=>b.1 c o (a c o h) (ne_of_none h n)
theorem Hand.upd {H:Hp}{p c:Addr}{N:Nat}{o:HO}(h:Hand H p N) (n:c≠p) (nl:cellsOf H p≠some c):Hand (L2.upd H c o) p N:=by
 obtain⟨l,d,k,ns,h1,h2,r⟩:=h.ex
 have ne:l≠c:=fun z=>nl (by rw[cells_of h1,z])
 exact⟨l,d,k,ns,by rw[upd_ne n.symm];exact h1,by rw[upd_ne ne];exact h2,r⟩
theorem cells_new {H:Hp}{p c:Addr}{N:Nat}(h:Hand H p N) (n:H c=none):cellsOf H p≠some c:=by
 obtain⟨l,d,k,ns,h1,h2,r⟩:=h.ex
 rw[cells_of h1]
 intro z
 exact ne_of_none h2 n (Option.some.inj z)
theorem cells_upd {H:Hp}{p c:Addr}{o:HO}(n:c≠p):cellsOf (L2.upd H c o) p=cellsOf H p:=by unfold cellsOf;rw[upd_ne n.symm]
theorem Hand.same {H H':Hp}{p:Addr}{N:Nat}(h:Hand H p N) (s:Same H H'):Hand H' p N:=by
 obtain⟨l,d,c,ns,h1,h2,r⟩:=h.ex
 exact⟨l,d,c,ns,s _ _ h1,s _ _ h2,r⟩
theorem nsMod {ns:List Int}(h:ns ≠ []) (k:Int):∃v,atI (ns.map V.int) (k%((ns.map V.int).length:Int))=some (.int v):=by
 have hl:0<ns.length:=List.length_pos_iff.mpr h
 rw[List.length_map]
 have h0:0≤k%(ns.length:Int):=Int.emod_nonneg _ (by omega)
 have h1:k%(ns.length:Int)<ns.length:=Int.emod_lt_of_pos _ (by omega)
 have ek:k%(ns.length:Int) =(((k%(ns.length:Int)).toNat:Nat):Int):=by omega
 have hk:(k%(ns.length:Int)).toNat<ns.length:=by omega
 obtain⟨j,hj⟩ : ∃j:Nat,k%(ns.length:Int) =(j:Int):=⟨_,ek⟩
 have hk2:j<ns.length:=by omega
 refine⟨ns[j],?_⟩
 rw[hj]
 exact atI_nat (by rw[List.getElem?_map,List.getElem?_eq_getElem hk2] <;> rfl)
theorem hand_ne {H:Hp}{p l:Addr}{d c:Int}{ns:List Int}(hp:H p=some (.lst [.int d,.int c,.ref l])) (hl:H l=some (.lst (ns.map V.int))):l≠p:=by
 refine ne_of hl hp fun z=>?_
 injection z with z
 have q:=congrArg (fun x=>x[2]?) z
 rw[List.getElem?_map]at q
 cases e:ns[2]? with
 | none=>rw[e]at q;cases q
 | some v=>rw[e]at q;cases q
theorem len_pos {ns:List Int}(h:ns ≠ []):(0:Int) <((ns.map V.int).length:Int):=by
 rw[List.length_map]
 have:=List.length_pos_iff.mpr h
 omega
theorem pow2_cast (a:Nat):(2:Int)^a =((2^a:Nat):Int):=by
 induction a with
 | zero=>rfl
 | succ a ih=>rw[Int.pow_succ,Nat.pow_succ,ih];push_cast;rfl
theorem pow2_le {a b:Nat}(h:a≤b):(2:Int)^a≤2^b:=by
 rw[pow2_cast,pow2_cast]
 exact Int.ofNat_le.mpr (Nat.pow_le_pow_right (by decide) h)
theorem pow2_pos (a:Nat):(0:Int)<2^a:=by
 rw[pow2_cast]
 have:=Nat.two_pow_pos a
 omega
theorem newo {H1 H2:Hp}{l:Addr}{o:HO}(n:H1 l=none) (e:L2.upd H1 l o=H2):H2 l=some o∧Same H1 H2:=by
 subst e;exact⟨upd_same,same_new n _⟩
theorem newl {H H1 H2:Hp}{p l:Addr}{N:Nat}{o:HO}(hh:Hand H1 p N) (n:H1 l=none) (k:Kp H H1 p) (e:L2.upd H1 l o=H2):Hand H2 p N∧Kp H H2 p∧H2 l=some o∧Same H1 H2:=by
 subst e;exact⟨hh.same (same_new n _),k.trans (Kp.of (same_new n _) hh),upd_same,same_new n _⟩
theorem Hand.ne {H:Hp}{p l:Addr}{N:Nat}(hh:Hand H p N) (n:H l=none):l≠p:=by
 obtain⟨l1,d,c,ns,h1,_⟩:=hh.ex
 exact(ne_of_none h1 n).symm
structure CK (H0:Hp) (p D:Addr) (N:Nat) (ys:List V) (H':Hp):Prop where
 hh:Hand H' p N
 lat:H' D=some (.lst ys)
 kp:Kp H0 H' p
 n0:H0 D=none
 np:D≠p
 nc:cellsOf H0 p≠some D
theorem CK.start {H0:Hp}{p D:Addr}{N:Nat}(hh:Hand H0 p N) (n:H0 D=none) {ys:List V}:CK H0 p D N ys (L2.upd H0 D (.lst ys)) where
 hh:=hh.same (same_new n _)
 lat:=upd_same
 kp:=Kp.of (same_new n _) hh
 n0:=n
 np:=by
  obtain⟨l1,d,c,ns,h1,_⟩:=hh.ex
  exact(ne_of_none h1 n).symm
 nc:=cells_new hh n
theorem CK.draw {H0 H' H2:Hp}{p D:Addr}{N M:Nat}{ys:List V}(c:CK H0 p D N ys H') (k:Kp H' H2 p) (hh:Hand H2 p M):CK H0 p D M ys H2 :=
 ⟨hh,k.1 _ _ c.lat c.np,c.kp.trans k,c.n0,c.np,c.nc⟩
theorem CK.push {H0 H':Hp}{p D:Addr}{N:Nat}{ys zs:List V}(c:CK H0 p D N ys H'):CK H0 p D N zs (L2.upd H' D (.lst zs)) where
 hh:=c.hh.upd c.np (by rw[c.kp.2];exact c.nc)
 lat:=upd_same
 kp:=⟨fun b o h n=>by rw[upd_ne (ne_of_none h c.n0)];exact c.kp.1 _ _ h n,by rw[cells_upd c.np];exact c.kp.2⟩
 n0:=c.n0
 np:=c.np
 nc:=c.nc
def sp__law_draw (K:PySem.W.Frag):Sp:=fun vs H Q _=>∃(p:Addr) (N:Nat) (n:Int),vs=[.ref p,.int n]∧Hand H p N∧N<2^60∧0<n∧n<2^100 ∧
 ∀(r:Int) (H':Hp),0≤r→r<n→Hand H' p (N+1)→Kp H H' p→Q (.int r) H'
def sp__law_far (K:PySem.W.Frag):Sp:=fun vs H Q _=>∃(p:Addr) (N:Nat) (n:Int),vs=[.ref p,.int n]∧Hand H p N∧N+10<2^60∧0<n∧n<2^100 ∧
 ∀(r:Int) (H':Hp),0≤r→r<n→Hand H' p (N+7)→Kp H H' p→Q (.int r) H'
def sp__law_power (K:PySem.W.Frag):Sp:=fun vs H Q _=>∃(m:Nat),vs=[.int m]∧m≤1000∧Q (.int (2^m)) H
def sp__law_open (K:PySem.W.Frag):Sp:=fun vs H Q _=>∃(a:Addr) (ns:List Int) (pl:Int),vs=[.ref a,.int pl]∧SqL K H a (ns.map V.int)∧ns.length≤63∧0≤pl∧pl≤1000 ∧
 ∀(p:Addr) (H':Hp),H p=none→Same H H'→Hand H' p 1100000→Q (.ref p) H'
def sp__law_key (K:PySem.W.Frag):Sp:=fun vs H Q _=>∃(p:Addr) (N:Nat),vs=[.ref p]∧Hand H p N∧N+30<2^60 ∧
 ∀(r:Int) (H':Hp),0≤r→r<2^60→Hand H' p (N+20)→Kp H H' p→Q (.int r) H'
def sp_law (K:PySem.W.Frag):Sp:=fun vs H Q _=>∃(a:Addr) (ns:List Int),vs=[.ref a]∧SqL K H a (ns.map V.int)∧ns.length≤63∧TB_cheap_rooms K H∧∀H',Q (.bl true) H'
theorem sub_len:∀{L K:List Int},L.Nodup→(∀x∈L,x∈K)→L.length≤K.length
 | [],_,_,_=>Nat.zero_le _
 | a::L,K,hn,hs=>by
  rw[List.nodup_cons]at hn
  have ha:=hs a List.mem_cons_self
  have ih:=sub_len (L:=L) (K:=K.erase a) hn.2 fun x hx=>by
   have:x≠a:=fun e=>hn.1 (e ▸ hx)
   exact(List.mem_erase_of_ne this).mpr (hs x (List.mem_cons_of_mem _ hx))
  rw[List.length_erase_of_mem ha]at ih
  have:=List.length_pos_of_mem ha
  rw[List.length_cons];omega
theorem free_key {ks:List Int}(hl:ks.length<1000) (v:Int):∃m:Nat,(v+m)%1152921504606846976∉ks:=by
 by_cases c:∃m:Nat,(v+m)%1152921504606846976∉ks
 ·exact c
 ·have all:∀m:Nat,(v+m)%1152921504606846976∈ks:=fun m=>Classical.not_not.mp fun z=>c ⟨m,z⟩
  have hn:((List.range (ks.length+1)).map fun(j:Nat)=>(v+j)%1152921504606846976).Nodup:=by
   rw[List.nodup_iff_pairwise_ne,List.pairwise_map]
   refine List.Pairwise.imp_of_mem ?_ List.nodup_range
   intro a b ha hb hab e
   have h1:=List.mem_range.mp ha
   have h2:=List.mem_range.mp hb
   omega
  have:=sub_len hn (fun x hx=>by
   obtain⟨j,_,rfl⟩:=List.mem_map.mp hx
   exact all j)
  rw[List.length_map,List.length_range]at this
  omega
def sp__law_keys (K:PySem.W.Frag):Sp:=fun vs H Q _=>∃(p:Addr) (N:Nat) (n:Int),vs=[.ref p,.int n]∧Hand H p N∧N+5000<2^60∧0≤n∧n≤125 ∧
 ∀(l:Addr) (ns:List Int) (H':Hp),H l=none→H' l=some (.lst (ns.map V.int))→ns.Nodup→(ns.length:Int)=n→(∀k∈ns,0≤k∧k<1152921504606846976)→Hand H' p (N+3000)→Kp H H' p→Q (.ref l) H'
def lg (R:Int):Nat:=R.toNat.log2
theorem lg_le {R:Int}(h:1≤R):(2:Int)^lg R≤R:=by
 have h1:R.toNat≠0:=by omega
 have h2:=Nat.log2_self_le h1
 rw[pow2_cast]
 unfold lg
 omega
theorem lg_lt {R:Int}(h:1≤R):R <(2:Int)^(lg R+1):=by
 have h1:R.toNat≠0:=by omega
 have h2:=(Nat.log2_lt h1).mp (Nat.lt_succ_self R.toNat.log2)
 rw[pow2_cast]
 unfold lg
 have h3:R.toNat<2^(R.toNat.log2+1):=h2
 omega
theorem lg_60 {R:Int}(h:1≤R) (h2:R≤2^60):lg R≤60:=by
 have h1:R.toNat≠0:=by omega
 have h3:R.toNat.log2<61:=(Nat.log2_lt h1).mpr (by omega)
 unfold lg
 omega
theorem bits_eq {R:Int}(h:1≤R):((Builtin.Int.intBits R:Nat):Int)-1 =(lg R:Int):=by
 unfold Builtin.Int.intBits lg
 have h0:(R == 0)=false:=by
  rw[beq_eq_false_iff_ne];omega
 rw[h0]
 have e:R.natAbs=R.toNat:=by omega
 rw[e]
 simp
def roomV (k R:Int):Int:=if R-2^lg R≤k%2^lg R then k%2^lg R else k%2^(lg R+1)
theorem roomV_lt {k R:Int}(h:1≤R):0≤roomV k R∧roomV k R<R:=by
 have p:=pow2_pos (lg R)
 have a:=lg_le h
 have b:=lg_lt h
 rw[Int.pow_succ]at b
 unfold roomV
 rw[Int.pow_succ]
 generalize (2:Int)^lg R=w at p a b ⊢
 have m0:=Int.emod_nonneg k (show w≠0 by omega)
 have m1:=Int.emod_lt_of_pos k p
 have d0:=Int.emod_nonneg k (show w*2≠0 by omega)
 have d1:=Int.emod_lt_of_pos k (show(0:Int)<w*2 by omega)
 have e:k%(w*2)%w=k%w:=Int.emod_emod_of_dvd k ⟨2,rfl⟩
 split
 ·omega
 ·rename_i hn
  refine⟨d0,?_⟩
  by_cases c:k%(w*2)<w
  ·rw[Int.emod_eq_of_lt d0 c]at e;omega
  ·have e2:k%(w*2)%w=k%(w*2)-w:=by
    have:k%(w*2) =(k%(w*2)-w)+w:=by omega
    rw[this,Int.add_emod_right,Int.emod_eq_of_lt (by omega) (by omega)]
    omega
   omega
def sp_last_bits (K:PySem.W.Frag):Sp:=fun vs H Q _=>∃(k:Int) (m:Nat),vs=[.int k,.int m]∧m≤100∧Q (.int (k%2^m)) H
def sp_level (K:PySem.W.Frag):Sp:=fun vs H Q _=>∃(R:Int),vs=[.int R]∧1≤R∧Q (.int (lg R)) H
def sp_turn (K:PySem.W.Frag):Sp:=fun vs H Q _=>∃(R:Int),vs=[.int R]∧1≤R∧R≤2^60∧Q (.int (R-2^lg R)) H
def bitsV (r R:Int):Nat:=if R-2^lg R≤r∧r<2^lg R then lg R else lg R+1
theorem bitsV_room {k R:Int}:k%2^bitsV (k%2^lg R) R=roomV k R:=by
 have lt:=Int.emod_lt_of_pos k (pow2_pos (lg R))
 unfold bitsV roomV
 by_cases c:R-2^lg R≤k%2^lg R
 ·rw[if_pos ⟨c,lt⟩,if_pos c]
 ·rw[if_neg (fun z=>c z.1),if_neg c]
def sp_bits_for (K:PySem.W.Frag):Sp:=fun vs H Q _=>∃(r R:Int),vs=[.int r,.int R]∧1≤R∧R≤2^60∧Q (.int (bitsV r R)) H
def sp_room_of (K:PySem.W.Frag):Sp:=fun vs H Q _=>∃(k R:Int),vs=[.int k,.int R]∧1≤R∧R≤2^60∧Q (.int (roomV k R)) H
def sp_split_of (K:PySem.W.Frag):Sp:=fun vs H Q _=>∃(R:Int),vs=[.int R]∧1≤R∧R≤2^60∧∀p,H p=none→Q (.ref p) (upd H p (.tup [.int (R-2^lg R),.int R]))
theorem up_div {m w g:Int}(hw:1≤w) (hm:0≤m) (hg:g=max 1 ((m+w-1) / w)):1≤g∧m≤w*g∧(g=1∨w*(g-1)<m):=by
 have h1:=Int.emod_add_mul_ediv (m+w-1) w
 have h2:=Int.emod_nonneg (m+w-1) (show w≠0 by omega)
 have h3:=Int.emod_lt_of_pos (m+w-1) (show 0<w by omega)
 generalize (m+w-1) / w=q at h1 hg
 generalize (m+w-1)%w=r at h1 h2 h3
 have e:w*(g-1)=w*g-w:=by rw[Int.mul_sub,Int.mul_one]
 refine⟨by omega,?_,?_⟩
 ·by_cases c:1≤q
  ·have:g=q:=by omega
   rw[this];omega
  ·have:g=1:=by omega
   rw[this,Int.mul_one]
   have:w*q≤0:=Int.mul_nonpos_of_nonneg_of_nonpos (by omega) (by omega)
   omega
 ·by_cases c:2≤q
  ·right
   have:g=q:=by omega
   rw[e,this];omega
  ·left;omega
def rfor (m w:Int):Int:=max 1 ((m+w-1) / w)
def Ls (H:Hp):List Addr→List (List Int)→Prop
 | [],[]=>True
 | a::as,r::rs=>H a=some (.lst (r.map V.int))∧Ls H as rs
 | _,_=>False
theorem Ls.same {H H':Hp}:∀{as:List Addr}{rs:List (List Int)},(∀a∈as,∀o,H a=some o→H' a=some o)→Ls H as rs→Ls H' as rs
 | [],[],_,_=>trivial
 | a::_,_::_,s,⟨h,t⟩=>⟨s a List.mem_cons_self _ h,Ls.same (fun b hb=>s b (List.mem_cons_of_mem _ hb)) t⟩
theorem Ls.len {H:Hp}:∀{as:List Addr}{rs:List (List Int)},Ls H as rs→as.length=rs.length
 | [],[],_=>rfl
 | _::_,_::_,⟨_,t⟩=>congrArg (· + 1) (Ls.len t)
theorem Ls.snoc {H:Hp}{a:Addr}{r:List Int}(hb:H a=some (.lst (r.map V.int))):∀{as:List Addr}{rs:List (List Int)},Ls H as rs→Ls H (as ++ [a]) (rs ++ [r])
 | [],[],_=>⟨hb,trivial⟩
 | _::_,_::_,⟨h,t⟩=>⟨h,Ls.snoc hb t⟩
theorem Ls.get {H:Hp}:∀{as:List Addr}{rs:List (List Int)}{i:Nat}{a:Addr},Ls H as rs→as[i]? = some a→∃r,rs[i]? = some r∧H a=some (.lst (r.map V.int))
 | [],[],_,_,_,e=>by cases e
 | _::_,r::_,0,_,⟨h,_⟩,e=>by cases e;exact⟨r,rfl,h⟩
 | _::_,_::_,i+1,_,⟨_,t⟩,e=>Ls.get (i:=i) t e
def sp_rows_for (K:PySem.W.Frag):Sp:=fun vs H Q _=>∃(m w:Int),vs=[.int m,.int w]∧1≤w∧w≤8∧Q (.int (rfor m w)) H
def rowsNV (ms:List V) (w n:Nat):List (List V):=(List.range n).map fun i=>(ms.drop (i*w)).take w
def rowsVV (ms:List V) (w:Nat):List (List V):=rowsNV ms w (rfor ms.length w).toNat
def RwsN (H0 H:Hp) (l:Addr) (X:List (List V)):Prop:=∃as:List Addr,H l=some (.lst (as.map V.ref))∧as.length=X.length∧(∀(i:Nat) (a:Addr) (es:List V),as[i]? = some a→X[i]? = some es→H a=some (.lst es))∧as.Nodup∧∀a∈as,H0 a=none∧a≠l
def sp_cut_rows (K:PySem.W.Frag):Sp:=fun vs H Q _=>∃(a:Addr) (ms:List V) (w:Nat),vs=[.ref a,.int w]∧H a=some (.lst ms)∧ms.length≤200∧1≤w∧w≤8 ∧
 ∀l H',H l=none→RwsN H H' l (rowsVV ms w)→Same H H'→Q (.ref l) H'
theorem refs_get {as:List Addr}{i:Nat}{x:V}(hx:(as.map V.ref)[i]? = some x):∃a,as[i]? = some a∧x = .ref a:=by
 rw[List.getElem?_map]at hx
 cases e:as[i]? with
 | none=>rw[e]at hx;cases hx
 | some a=>rw[e]at hx;exact⟨a,rfl,(Option.some.inj hx).symm⟩
theorem ints_get {ns:List Int}{i:Nat}{x:V}(hx:(ns.map V.int)[i]? = some x):∃z,ns[i]? = some z∧x = .int z:=by
 rw[List.getElem?_map]at hx
 cases e:ns[i]? with
 | none=>rw[e]at hx;cases hx
 | some a=>rw[e]at hx;exact⟨a,rfl,(Option.some.inj hx).symm⟩
theorem take_get {α:Type}{xs:List α}{i:Nat}{x:α}(h:xs[i]? = some x):xs.take (i+1)=xs.take i ++ [x]:=by
 obtain⟨hi,e⟩:=List.getElem?_eq_some_iff.mp h
 rw[List.take_succ_eq_append_getElem hi,e]
theorem at_ref' {as:List Addr}{i:Nat}{a:Addr}(h:as[i]? = some a):atI (as.map V.ref) (i:Int)=some (.ref a) :=
 atI_nat (by rw[List.getElem?_map,h];rfl)
theorem at_int {ns:List Int}{i:Nat}{z:Int}(h:ns[i]? = some z):atI (ns.map V.int) (i:Int)=some (.int z) :=
 atI_nat (by rw[List.getElem?_map,h];rfl)
theorem at_zero {a:V}{r:List V}:atI (a::r) 0=some a:=atI_nat (j:=0) rfl
theorem Ls.mem {H:Hp}:∀{as:List Addr}{rs:List (List Int)}{a:Addr},Ls H as rs→a∈as→∃r,r∈rs∧H a=some (.lst (r.map V.int))
 | [],[],_,_,h=>by cases h
 | b::as,r::rs,a,⟨h,t⟩,m=>by
  rcases List.mem_cons.mp m with e|m
  ·exact⟨r,List.mem_cons_self,e ▸ h⟩
  ·obtain⟨q,q1,q2⟩:=Ls.mem t m
   exact⟨q,List.mem_cons_of_mem _ q1,q2⟩
theorem eq_I (ns:List Int):PyData.eqv (.list (ns.map PyData.int)) (.list (ns.map PyData.int))=true:=by rw[PyData.eqv,eqv_ints];exact decide_eq_true rfl
theorem dv_ints {K:PySem.W.Frag}{H:Hp}{a:Addr}{ns:List Int}(h:H a=some (.lst (ns.map V.int))):DV K H (.ref a) (.list (ns.map PyData.int)):=.lst (SqL.of h) (DVs.ints ns)
theorem dv_nil {K:PySem.W.Frag}{H:Hp}{a:Addr}(h:H a=some (.lst [])):DV K H (.ref a) (.list []):=.lst (SqL.of h) .nil
theorem rfor_le {m n w:Int}(hw:1≤w) (h:m≤n):rfor m w≤rfor n w:=by
 unfold rfor
 have:(m+w-1) / w ≤(n+w-1) / w:=Int.ediv_le_ediv (by omega) (by omega)
 omega
theorem rfor_up {m w:Int}(hw:1≤w) (hm:0≤m):1≤rfor m w∧m≤rfor m w*w:=by
 obtain⟨a,b,_⟩:=up_div (g:=rfor m w) hw hm rfl
 exact⟨a,by rw[Int.mul_comm];exact b⟩
theorem rfor_few {m w g:Int}(hw:1≤w) (hm:0≤m) (hg:1≤g) (h:m≤g*w):rfor m w≤g:=by
 obtain⟨a,b,c⟩:=up_div (g:=rfor m w) hw hm rfl
 rcases c with c|c
 ·omega
 ·by_cases d:rfor m w≤g
  ·exact d
  ·have:w*g≤w*(rfor m w-1):=Int.mul_le_mul_of_nonneg_left (by omega) (by omega)
   rw[Int.mul_comm w g]at this
   omega
theorem rfor_spill {m w:Int}(hw:1≤w) (hm:0≤m):rfor m w-1=max 0 (m-1) / w:=by
 unfold rfor
 by_cases c:m=0
 ·subst c
  rw[show(0:Int)+w-1=w-1 by omega,Int.ediv_eq_zero_of_lt (by omega) (by omega),show max (0:Int) (0-1)=0 by omega,Int.zero_ediv];rfl
 ·have e:(m+w-1) / w =(m-1) / w+1:=by
   rw[show m+w-1 =(m-1)+w by omega,Int.add_ediv_of_dvd_right (Int.dvd_refl w),Int.ediv_self (by omega)]
  rw[e,Int.max_eq_right (show(0:Int)≤m-1 by omega)]
  have:=Int.ediv_nonneg (show 0≤m-1 by omega) (show 0≤w by omega)
  omega
theorem sum_nn:∀{p:List Int},(∀x∈p,0≤x)→0≤p.sum
 | [],_=>by simp
 | x::p,h=>by
  have a1:=h x List.mem_cons_self
  have a2:=sum_nn fun y hy=>h y (List.mem_cons_of_mem _ hy)
  rw[List.sum_cons];omega
def rowsT (w:Int):List Int→List Int→Int
 | a::c,p::q=>rfor (a+p) w+rowsT w c q
 | _,_=>0
def rows0 (w:Int):List Int→Int
 | []=>0
 | a::c=>rfor a w+rows0 w c
theorem rowsT_up {w:Int}(hw:1≤w):∀{c q:List Int},c.length=q.length→(∀x∈c,0≤x)→(∀x∈q,0≤x)→c.sum+q.sum≤rowsT w c q*w∧rows0 w c≤rowsT w c q
 | [],[],_,_,_=>by simp[rowsT,rows0]
 | a::c,p::q,hl,h1,h2=>by
  obtain⟨i1,i2⟩:=rowsT_up hw (c:=c) (q:=q) (by simpa using hl) (fun x hx=>h1 x (List.mem_cons_of_mem _ hx)) (fun x hx=>h2 x (List.mem_cons_of_mem _ hx))
  have ha:=h1 a List.mem_cons_self
  have hp:=h2 p List.mem_cons_self
  obtain⟨b1,b2⟩:=rfor_up (m:=a+p) hw (by omega)
  have b3:=rfor_le (m:=a) (n:=a+p) hw (by omega)
  rw[List.sum_cons,List.sum_cons,rowsT,rows0,Int.add_mul]
  omega
def fillV (w:Int):List Int→Int→List Int
 | [],_=>[]
 | a::c,l=>min l (rfor a w*w-a)::fillV w c (l-min l (rfor a w*w-a))
theorem fillV_len {w:Int}:∀{c:List Int}{l:Int},(fillV w c l).length=c.length
 | [],_=>rfl
 | a::c,l=>by rw[fillV,List.length_cons,List.length_cons,fillV_len]
theorem fillV_ok {w:Int}(hw:1≤w):∀{c:List Int}{l:Int},(∀x∈c,0≤x)→0≤l→(∀x∈fillV w c l,0≤x)∧(fillV w c l).sum≤l∧rowsT w c (fillV w c l)=rows0 w c∧((fillV w c l).sum<l→rows0 w c*w=c.sum+(fillV w c l).sum)
 | [],l,_,hl=>by simp[fillV,rowsT,rows0,hl]
 | a::c,l,h1,hl=>by
  have ha:=h1 a List.mem_cons_self
  obtain⟨b1,b2⟩:=rfor_up (m:=a) hw ha
  obtain⟨g,hg⟩ : ∃g,min l (rfor a w*w-a)=g:=⟨_,rfl⟩
  have g0:0≤g:=by omega
  have g1:g≤l:=by omega
  obtain⟨i1,i2,i3,i4⟩:=fillV_ok hw (c:=c) (l:=l-g) (fun x hx=>h1 x (List.mem_cons_of_mem _ hx)) (by omega)
  rw[fillV,hg]
  have e1:rfor (a+g) w=rfor a w:=by
   have:=rfor_le (m:=a) (n:=a+g) hw (by omega)
   have:=rfor_few (m:=a+g) (g:=rfor a w) hw (by omega) b1 (by omega)
   omega
  refine⟨fun x hx=>?_,?_,?_,fun h=>?_⟩
  ·rcases List.mem_cons.mp hx with e|e
   ·omega
   ·exact i1 x e
  ·rw[List.sum_cons];omega
  ·rw[rowsT,rows0,e1,i3]
  ·rw[List.sum_cons]at h ⊢
   have:=sum_nn i1
   rw[List.sum_cons,rows0,Int.add_mul,i4 (by omega)]
   omega
def leastV (w:Int) (c:List Int) (more:Int):List Int:=match fillV w c more with
 | []=>[]
 | x::r=>(x+(more-(fillV w c more).sum))::r
theorem leastV_ok {w more:Int}(hw:1≤w) {c:List Int}(hc:∀x∈c,0≤x) (hn:c ≠ []) (hm:0≤more) :
  (leastV w c more).length=c.length∧(∀x∈leastV w c more,0≤x)∧(leastV w c more).sum=more∧∀q:List Int,q.length=c.length→(∀x∈q,0≤x)→q.sum=more→rowsT w c (leastV w c more)≤rowsT w c q:=by
 obtain⟨f1,f2,f3,f4⟩:=fillV_ok hw hc hm
 have fl:=fillV_len (w:=w) (c:=c) (l:=more)
 unfold leastV
 cases c with
 | nil=>exact absurd rfl hn
 | cons a c =>
  have ha:=hc a List.mem_cons_self
  obtain⟨b1,b2⟩:=rfor_up (m:=a) hw ha
  cases e:fillV w (a::c) more with
  | nil=>rw[e]at fl;cases fl
  | cons x r =>
   rw[e]at f1 f2 f3 f4 fl
   have hx:=f1 x List.mem_cons_self
   rw[List.sum_cons]at f2 f4 ⊢
   refine⟨by simpa using fl,fun y hy=>?_,by rw[List.sum_cons];omega,fun q ql q0 qs=>?_⟩
   ·rcases List.mem_cons.mp hy with z|z
    ·omega
    ·exact f1 y (List.mem_cons_of_mem _ z)
   ·obtain⟨u1,u2⟩:=rowsT_up hw (c:=a::c) (q:=q) ql.symm hc q0
    rw[rowsT]at f3 ⊢
    by_cases h:x+r.sum<more
    ·have f5:=f4 h
     obtain⟨L,hL⟩ : ∃L,more-(x+r.sum)=L:=⟨_,rfl⟩
     rw[hL]
     obtain⟨k1,k2,k3⟩:=up_div (g:=rfor L w) (m:=L) hw (by omega) rfl
     have m0:=rfor_few (m:=a+(x+L)) (g:=rfor (a+x) w+rfor L w) hw (by omega) (by have:=(rfor_up (m:=a+x) hw (by omega)).1;omega) (by
      have:=(rfor_up (m:=a+x) hw (by omega)).2
      rw[Int.add_mul]
      rw[Int.mul_comm w (rfor L w)]at k2
      omega)
     have hk:w*(rfor L w-1)<L:=by
      rcases k3 with z|z
      ·rw[z];simp;omega
      ·exact z
     by_cases d:rfor (a+(x+L)) w+rowsT w c r≤rowsT w (a::c) q
     ·exact d
     ·have d1:rowsT w (a::c) q≤rows0 w (a::c)+(rfor L w-1):=by omega
      have d2:rowsT w (a::c) q*w ≤(rows0 w (a::c)+(rfor L w-1))*w:=Int.mul_le_mul_of_nonneg_right d1 (by omega)
      rw[Int.add_mul,f5,Int.mul_comm (rfor L w-1) w]at d2
      omega
    ·have:more-(x+r.sum)=0:=by omega
     rw[this,Int.add_zero]
     omega
theorem fillV_snoc {w a:Int}:∀{c:List Int}{l:Int},fillV w (c ++ [a]) l=fillV w c l ++ [min (l-(fillV w c l).sum) (rfor a w*w-a)]
 | [],l=>by simp[fillV]
 | b::c,l=>by
  rw[List.cons_append,fillV,fillV_snoc,fillV,List.cons_append,List.sum_cons]
  congr 4
  omega
def spillF (w a b:Int):Int:=rfor (a+b) w-1
theorem sum_spill {w:Int}:∀{c q:List Int},c.length=q.length→(List.zipWith (spillF w) c q).sum=rowsT w c q-c.length
 | [],[],_=>rfl
 | a::c,p::q,h=>by
  rw[List.zipWith_cons_cons,List.sum_cons,sum_spill (by simpa using h),rowsT,List.length_cons,spillF]
  push_cast
  omega
theorem zip_take {w:Int}{c q:List Int}{i:Nat}{a b:Int}(h1:c[i]? = some a) (h2:q[i]? = some b):(List.zipWith (spillF w) c q).take (i+1) =(List.zipWith (spillF w) c q).take i ++ [spillF w a b]:=by
 refine take_get ?_
 rw[List.getElem?_zipWith,h1,h2]
def sp_gap (K:PySem.W.Frag):Sp:=fun vs H Q _=>∃(m w:Int),vs=[.int m,.int w]∧1≤w∧w≤8∧Q (.int (rfor m w*w+1-m)) H
def sp_spill_behind (K:PySem.W.Frag):Sp:=fun vs H Q _=>∃(a b:Addr) (w:Int) (cs ps:List Int),vs=[.ref a,.int w,.ref b]∧H a=some (.lst (cs.map V.int))∧H b=some (.lst (ps.map V.int))∧cs.length=ps.length∧cs.length≤200∧1≤w∧w≤8 ∧
 ∀H',Same H H'→Q (.int (rowsT w cs ps-cs.length)) H'
def sp_least_spill (K:PySem.W.Frag):Sp:=fun vs H Q _=>∃(a:Addr) (w more:Int) (cs:List Int),vs=[.ref a,.int w,.int more]∧H a=some (.lst (cs.map V.int))∧cs ≠ []∧cs.length≤200∧1≤w∧w≤8 ∧
 ∀(t l:Addr) (H':Hp),H t=none→H l=none→t≠l→H' t=some (.tup [.int (rowsT w cs (leastV w cs more)-cs.length),.ref l])→H' l=some (.lst ((leastV w cs more).map V.int))→Same H H'→Q (.ref t) H'
def gapV (w a:Int):Int:=rfor a w*w+1-a
theorem gap_pos {w a:Int}(hw:1≤w) (ha:0<a):1≤gapV w a∧gapV w a≤w:=by
 obtain⟨a1,a2,a3⟩:=up_div (g:=rfor a w) (m:=a) hw (by omega) rfl
 unfold gapV
 rw[Int.mul_comm (rfor a w) w]
 rcases a3 with e|e
 ·rw[e,Int.mul_one]at a2 ⊢;omega
 ·rw[Int.mul_sub,Int.mul_one]at e;omega
theorem gap_zero {w:Int}(hw:1≤w):gapV w 0=w+1:=by
 have:rfor 0 w=1:=by
  have:=rfor_few (m:=0) (g:=1) hw (by omega) (by omega) (by omega)
  have:=(rfor_up (m:=0) hw (by omega)).1
  omega
 unfold gapV;rw[this];omega
theorem gap_nn {w a:Int}(hw:1≤w) (ha:0≤a):1≤gapV w a:=by
 by_cases c:a=0
 ·rw[c,gap_zero hw];omega
 ·exact(gap_pos hw (by omega)).1
theorem rfor_gap {w a L:Int}(hw:1≤w) (ha:0≤a) (hL:0≤L):rfor (a+gapV w a+L) w=rfor a w+1+L / w:=by
 have h1:=(rfor_up (m:=a) hw ha).1
 have e:a+gapV w a+L+w-1=L+(rfor a w+1)*w:=by unfold gapV;rw[Int.add_mul];omega
 have h2:=Int.ediv_nonneg hL (show 0≤w by omega)
 conv=>lhs;unfold rfor
 rw[e,Int.add_mul_ediv_right _ _ (by omega)]
 omega
theorem rfor_small {w a p:Int}(hw:1≤w) (ha:0≤a) (hp:0≤p) (h:p<gapV w a):rfor (a+p) w=rfor a w:=by
 have h1:=(rfor_up (m:=a) hw ha).1
 have:=rfor_le (m:=a) (n:=a+p) hw (by omega)
 unfold gapV at h
 have:=rfor_few (m:=a+p) (g:=rfor a w) hw (by omega) h1 (by omega)
 omega
def dV (w g a:Int):Int:=if 0<a then max 0 (g-gapV w a) else 0
theorem thr1 {w g a p:Int}(hw:1≤w) (g1:1≤g) (g2:g≤w) (ha:0≤a) (hp:0≤p):g*(rfor (a+p) w-rfor a w)≤p+dV w g a:=by
 have hd:0≤dV w g a:=by unfold dV;split <;> omega
 by_cases c:p<gapV w a
 ·rw[rfor_small hw ha hp c,Int.sub_self,Int.mul_zero];omega
 ·obtain⟨L,hL⟩ : ∃L,p=gapV w a+L:=⟨p-gapV w a,by omega⟩
  have L0:0≤L:=by omega
  rw[hL,← Int.add_assoc,rfor_gap hw ha L0,show rfor a w+1+L / w-rfor a w=1+L / w by omega,Int.mul_add,Int.mul_one]
  have q0:=Int.ediv_nonneg L0 (show 0≤w by omega)
  have q1:g*(L / w)≤w*(L / w):=Int.mul_le_mul_of_nonneg_right g2 q0
  have q2:w*(L / w)≤L:=Int.mul_ediv_self_le (by omega)
  have:g≤gapV w a+dV w g a:=by
   unfold dV
   split
   ·omega
   ·have:a=0:=by omega
    rw[this,gap_zero hw];omega
  omega
theorem thr {w g:Int}(hw:1≤w) (g1:1≤g) (g2:g≤w):∀{c q:List Int},c.length=q.length→(∀x∈c,0≤x)→(∀x∈q,0≤x)→g*(rowsT w c q-rows0 w c)≤q.sum+(c.map (dV w g)).sum
 | [],[],_,_,_=>by simp[rowsT,rows0]
 | a::c,p::q,hl,h1,h2=>by
  have ih:=thr hw g1 g2 (c:=c) (q:=q) (by simpa using hl) (fun x hx=>h1 x (List.mem_cons_of_mem _ hx)) (fun x hx=>h2 x (List.mem_cons_of_mem _ hx))
  have t1:=thr1 (a:=a) (p:=p) hw g1 g2 (h1 a List.mem_cons_self) (h2 p List.mem_cons_self)
  rw[List.sum_cons,List.map_cons,List.sum_cons,rowsT,rows0,show rfor (a+p) w+rowsT w c q-(rfor a w+rows0 w c) =(rfor (a+p) w-rfor a w)+(rowsT w c q-rows0 w c) by omega,Int.mul_add]
  omega
theorem thr0 {w:Int}(hw:1≤w):∀{c q:List Int},c.length=q.length→(∀x∈c,x=0)→(∀x∈q,0≤x)→0≤rowsT w c q-rows0 w c∧w*(rowsT w c q-rows0 w c)≤q.sum∧(0<rowsT w c q-rows0 w c→w*(rowsT w c q-rows0 w c)+1≤q.sum)
 | [],[],_,_,_=>by simp[rowsT,rows0]
 | a::c,p::q,hl,h1,h2=>by
  obtain⟨i0,i1,i2⟩:=thr0 hw (c:=c) (q:=q) (by simpa using hl) (fun x hx=>h1 x (List.mem_cons_of_mem _ hx)) (fun x hx=>h2 x (List.mem_cons_of_mem _ hx))
  have ea:=h1 a List.mem_cons_self
  have hp:=h2 p List.mem_cons_self
  subst ea
  have qs:=sum_nn fun x hx=>h2 x (List.mem_cons_of_mem _ hx)
  rw[List.sum_cons,rowsT,rows0,show rfor (0+p) w+rowsT w c q-(rfor 0 w+rows0 w c) =(rfor (0+p) w-rfor 0 w)+(rowsT w c q-rows0 w c) by omega,Int.mul_add]
  have key:0≤rfor (0+p) w-rfor 0 w∧w*(rfor (0+p) w-rfor 0 w)≤p∧(0<rfor (0+p) w-rfor 0 w→w*(rfor (0+p) w-rfor 0 w)+1≤p):=by
   by_cases c:p<gapV w 0
   ·rw[rfor_small hw (by omega) hp c,Int.sub_self,Int.mul_zero];omega
   ·obtain⟨L,hL⟩ : ∃L,p=gapV w 0+L:=⟨p-gapV w 0,by omega⟩
    have L0:0≤L:=by omega
    have q0:=Int.ediv_nonneg L0 (show 0≤w by omega)
    have q2:w*(L / w)≤L:=Int.mul_ediv_self_le (by omega)
    have gz:=gap_zero (w:=w) hw
    rw[hL,← Int.add_assoc,rfor_gap hw (by omega) L0,show rfor 0 w+1+L / w-rfor 0 w=1+L / w by omega,Int.mul_add,Int.mul_one,gz]
    omega
  obtain⟨k0,k1,k2⟩:=key
  generalize rfor (0+p) w-rfor 0 w=r1 at *
  generalize rowsT w c q-rows0 w c=r2 at *
  refine⟨by omega,by omega,fun h=>?_⟩
  by_cases z:0<r1
  ·have:=k2 z;omega
  ·have:=i2 (by omega);omega
def roomsFrom:Nat→List Int→List Int
 | _,[]=>[]
 | k,a::c=>if 0<a then(k:Int)::roomsFrom (k+1) c else roomsFrom (k+1) c
theorem roomsFrom_snoc {a:Int}:∀{c:List Int}{k:Nat},roomsFrom k (c ++ [a])=roomsFrom k c++(if 0<a then [((k+c.length:Nat):Int)] else [])
 | [],k=>by simp only[List.nil_append,roomsFrom,List.length_nil,Nat.add_zero]
 | b::c,k=>by
  rw[List.cons_append,roomsFrom,roomsFrom,roomsFrom_snoc (k:=k+1),List.length_cons,show k+1+c.length=k+(c.length+1) by omega]
  split <;> simp
theorem roomsFrom_mem {z:Int}:∀{c:List Int}{k:Nat},z∈roomsFrom k c→∃i a,z =((k+i:Nat):Int)∧c[i]? = some a∧0<a
 | [],k,h=>by simp[roomsFrom]at h
 | b::c,k,h=>by
  rw[roomsFrom]at h
  have rc:z∈roomsFrom (k+1) c→∃i a,z =((k+i:Nat):Int)∧(b::c)[i]? = some a∧0<a:=fun h=>by
   obtain⟨i,a,e,h1,h2⟩:=roomsFrom_mem h
   exact⟨i+1,a,by rw[e];congr 1;omega,by simpa using h1,h2⟩
  split at h
  ·rcases List.mem_cons.mp h with e|e
   ·exact⟨0,b,by simpa using e,rfl,by assumption⟩
   ·exact rc e
  ·exact rc h
theorem roomsFrom_nodup:∀{c:List Int}{k:Nat},(roomsFrom k c).Nodup
 | [],k=>by simp[roomsFrom]
 | b::c,k=>by
  rw[roomsFrom]
  split
  ·refine List.nodup_cons.mpr ⟨fun h=>?_,roomsFrom_nodup⟩
   obtain⟨i,a,e,_⟩:=roomsFrom_mem h
   omega
  ·exact roomsFrom_nodup
theorem roomsFrom_len:∀{c:List Int}{k:Nat},(roomsFrom k c).length≤c.length
 | [],k=>by simp[roomsFrom]
 | b::c,k=>by
  have:=roomsFrom_len (c:=c) (k:=k+1)
  rw[roomsFrom]
  split <;> simp <;> omega
theorem roomsFrom_nil:∀{c:List Int}{k:Nat},(∀x∈c,0≤x)→roomsFrom k c=[]→∀x∈c,x=0
 | [],k,_,_,x,hx=>by cases hx
 | b::c,k,h0,h,x,hx=>by
  rw[roomsFrom]at h
  split at h
  ·cases h
  ·rename_i hb
   rcases List.mem_cons.mp hx with e|e
   ·have:=h0 b List.mem_cons_self;omega
   ·exact roomsFrom_nil (fun y hy=>h0 y (List.mem_cons_of_mem _ hy)) h x e
def atR (c:List Int) (z:Int):Int:=c.getD z.toNat 0
theorem sum_rooms {w g:Int}:∀{c pre:List Int},((roomsFrom pre.length c).map fun z=>max 0 (g-gapV w (atR (pre++c) z))).sum =(c.map (dV w g)).sum
 | [],pre=>by simp[roomsFrom]
 | a::c,pre=>by
  have ih:=sum_rooms (w:=w) (g:=g) (c:=c) (pre:=pre ++ [a])
  rw[List.length_append,show pre ++ [a]++c=pre++a::c by simp]at ih
  have ih:((roomsFrom (pre.length+1) c).map fun z=>max 0 (g-gapV w (atR (pre++a::c) z))).sum =(c.map (dV w g)).sum:=ih
  rw[roomsFrom,List.map_cons,List.sum_cons,dV]
  split
  ·rw[List.map_cons,List.sum_cons,ih]
   congr 3
   unfold atR
   simp
  ·rw[ih];omega
theorem perm_sum {l l':List Int}(h:l.Perm l'):l.sum=l'.sum:=by
 induction h with
 | nil=>rfl
 | cons x _ ih=>rw[List.sum_cons,List.sum_cons,ih]
 | swap x y l=>simp only[List.sum_cons];omega
 | trans _ _ a b=>exact a.trans b
theorem rowsT_set {w:Int}:∀{c q:List Int}{i:Nat}{a p v:Int},c[i]? = some a→q[i]? = some p→rowsT w c (q.set i v)=rowsT w c q-rfor (a+p) w+rfor (a+v) w
 | [],_,_,_,_,_,h,_=>by simp at h
 | _::_,[],_,_,_,_,_,h=>by simp at h
 | b::c,x::q,0,a,p,v,h1,h2=>by
  simp at h1 h2;subst h1 h2
  rw[List.set_cons_zero,rowsT,rowsT];omega
 | b::c,x::q,i+1,a,p,v,h1,h2=>by
  rw[List.set_cons_succ,rowsT,rowsT,rowsT_set (c:=c) (q:=q) (i:=i) (by simpa using h1) (by simpa using h2)];omega
theorem sum_set {v p:Int}:∀{q:List Int}{i:Nat},q[i]? = some p→(q.set i v).sum=q.sum-p+v
 | [],_,h=>by simp at h
 | x::q,0,h=>by simp at h;subst h;rw[List.set_cons_zero,List.sum_cons,List.sum_cons];omega
 | x::q,i+1,h=>by rw[List.set_cons_succ,List.sum_cons,List.sum_cons,sum_set (by simpa using h)];omega
theorem rowsT_zero {w:Int}:∀{c:List Int},rowsT w c (List.replicate c.length 0)=rows0 w c
 | []=>rfl
 | a::c=>by rw[List.length_cons,List.replicate_succ,rowsT,rows0,rowsT_zero,Int.add_zero]
def stepG (w:Int) (c:List Int) (pl:List Int×Int) (z:Int):List Int×Int:=if gapV w (atR c z)≤pl.2 then(pl.1.set z.toNat (gapV w (atR c z)),pl.2-gapV w (atR c z)) else pl
theorem fold_stuck {w:Int}{c put:List Int}{left:Int}:∀{ms:List Int},(∀z∈ms,left<gapV w (atR c z))→ms.foldl (stepG w c) (put,left) =(put,left)
 | [],_=>rfl
 | z::ms,h=>by
  have e:stepG w c (put,left) z =(put,left):=by
   unfold stepG
   rw[if_neg (by have:=h z List.mem_cons_self;show ¬ _≤left;omega)]
  rw[List.foldl_cons,e]
  exact fold_stuck fun y hy=>h y (List.mem_cons_of_mem _ hy)
theorem stepG_len {w:Int}{c:List Int}{pl:List Int×Int}{z:Int}:(stepG w c pl z).1.length=pl.1.length:=by
 unfold stepG;split
 ·show(pl.1.set _ _).length=_;rw[List.length_set]
 ·rfl
theorem fold_len {w:Int}{c:List Int}:∀{ms:List Int}{pl:List Int×Int},(ms.foldl (stepG w c) pl).1.length=pl.1.length
 | [],_=>rfl
 | z::ms,pl=>by rw[List.foldl_cons,fold_len,stepG_len]
theorem foldG_ok {w:Int}(hw:1≤w) {c:List Int}(hc:∀x∈c,0≤x):∀{ms put:List Int}{left:Int},(∀z∈ms,0≤z∧∃a,c[z.toNat]? = some a)→ms.Nodup→ms.Pairwise (fun x y=>gapV w (atR c x)≤gapV w (atR c y)) →
  (∀z∈ms,put[z.toNat]? = some 0)→(∀x∈put,0≤x)→0≤left→∃t put' left',ms.foldl (stepG w c) (put,left) =(put',left')∧t≤ms.length∧put'.length=put.length∧(∀x∈put',0≤x)∧put'.sum+left'=put.sum+left ∧
   rowsT w c put'=rowsT w c put+t∧0≤left'∧left'=left-((ms.take t).map fun z=>gapV w (atR c z)).sum∧(t=ms.length ∨ ∃z,ms[t]? = some z∧left'<gapV w (atR c z)) ∧
   (∀z:Int,0≤z→z∉ms→put'[z.toNat]? = put[z.toNat]?)∧(∀z,ms[0]? = some z→put'[z.toNat]? = some (if t=0 then 0 else gapV w (atR c z)))
 | [],put,left,_,_,_,_,hp,hl=>⟨0,put,left,rfl,Nat.le_refl _,rfl,hp,rfl,by omega,hl,by simp,.inl rfl,fun _ _ _=>rfl,fun z h=>by simp at h⟩
 | z::ms,put,left,hz,hn,hs,h0,hp,hl=>by
  obtain⟨z0,a,ha⟩:=hz z List.mem_cons_self
  have ea:atR c z=a:=by unfold atR;rw[List.getD_eq_getElem?_getD,ha];rfl
  have a0:=hc a (List.mem_of_getElem? ha)
  have g1:=gap_nn (a:=a) hw a0
  obtain⟨n1,n2⟩:=List.nodup_cons.mp hn
  obtain⟨s1,s2⟩:=List.pairwise_cons.mp hs
  have hz0:=h0 z List.mem_cons_self
  by_cases c1:gapV w (atR c z)≤left
  ·have e:stepG w c (put,left) z =(put.set z.toNat (gapV w a),left-gapV w a):=by
    unfold stepG;rw[if_pos c1,ea]
   rw[ea]at c1
   have ne:∀y:Int,0≤y→y≠z→(put.set z.toNat (gapV w a))[y.toNat]? = put[y.toNat]?:=fun y y0 hy=>List.getElem?_set_ne (by omega)
   obtain⟨t,put',left',f1,f2,f3,f4,f5,f6,f7,f8,f9,f10,f11⟩:=foldG_ok hw hc (ms:=ms) (put:=put.set z.toNat (gapV w a)) (left:=left-gapV w a) (fun y hy=>hz y (List.mem_cons_of_mem _ hy)) n2 s2
    (fun y hy=>by rw[ne y (hz y (List.mem_cons_of_mem _ hy)).1 (fun q=>n1 (q ▸ hy))];exact h0 y (List.mem_cons_of_mem _ hy))
    (fun x hx=>(List.mem_or_eq_of_mem_set hx).elim (fun q=>hp x q) (fun q=>by omega)) (by omega)
   rw[List.length_set]at f3
   rw[sum_set hz0]at f5
   rw[rowsT_set ha hz0,Int.add_zero]at f6
   have rg:=rfor_gap (a:=a) (L:=0) hw a0 (by omega)
   rw[Int.add_zero,Int.zero_ediv]at rg
   refine⟨t+1,put',left',by rw[List.foldl_cons,e];exact f1,by rw[List.length_cons];omega,f3,f4,by omega,by rw[f6,rg];push_cast;omega,f7,?_,?_,fun y y0 hy=>?_,fun y hy=>?_⟩
   ·rw[List.take_succ_cons,List.map_cons,List.sum_cons,ea,f8];omega
   ·rcases f9 with q|⟨y,q1,q2⟩
    ·exact .inl (by rw[List.length_cons,q])
    ·exact .inr ⟨y,by simpa using q1,q2⟩
   ·rw[f10 y y0 (fun q=>hy (List.mem_cons_of_mem _ q)),ne y y0 (fun q=>hy (by rw[q];exact List.mem_cons_self))]
   ·have:z=y:=by simpa using hy
    subst this
    have lt:=(List.getElem?_eq_some_iff.mp hz0).1
    rw[f10 z z0 n1,if_neg (by omega),List.getElem?_set_self lt,ea]
  ·have st:∀y∈z::ms,left<gapV w (atR c y):=fun y hy=>by
    rcases List.mem_cons.mp hy with q|q
    ·rw[q];omega
    ·have:=s1 y q;omega
   refine⟨0,put,left,fold_stuck st,Nat.zero_le _,rfl,hp,rfl,by simp,hl,by simp,.inr ⟨z,rfl,by omega⟩,fun _ _ _=>rfl,fun y hy=>?_⟩
   have:z=y:=by simpa using hy
   subst this
   rw[hz0,if_pos rfl]
theorem sum_split {g:Int}{κ:Int→Int}:∀{ms:List Int}{t:Nat},t≤ms.length→(∀z∈ms.take t,κ z≤g)→(∀z∈ms.drop t,g≤κ z)→(ms.map fun z=>max 0 (g-κ z)).sum=t*g-((ms.take t).map κ).sum
 | [],t,h,_,_=>by
  have:t=0:=by simpa using h
  subst this;simp
 | z::ms,0,_,_,h2=>by
  have e:=sum_split (g:=g) (κ:=κ) (ms:=ms) (t:=0) (Nat.zero_le _) (fun z hz=>by simp at hz) (fun y hy=>h2 y (by simpa using .inr (by simpa using hy)))
  have:=h2 z (by simp)
  rw[List.map_cons,List.sum_cons,e]
  simp;omega
 | z::ms,t+1,h,h1,h2=>by
  have e:=sum_split (g:=g) (κ:=κ) (ms:=ms) (t:=t) (by simpa using h) (fun y hy=>h1 y (by rw[List.take_succ_cons];exact List.mem_cons_of_mem _ hy)) (fun y hy=>h2 y (by simpa using hy))
  have:=h1 z (by rw[List.take_succ_cons];exact List.mem_cons_self)
  rw[List.map_cons,List.sum_cons,e,List.take_succ_cons,List.map_cons,List.sum_cons]
  push_cast
  rw[Int.add_mul]
  omega
structure Best (w:Int) (c:List Int) (more:Int) (p:List Int):Prop where
 len:p.length=c.length
 nn:∀x∈p,0≤x
 sum:p.sum=more
 best:∀q:List Int,q.length=c.length→(∀x∈q,0≤x)→q.sum=more→rowsT w c q≤rowsT w c p
theorem great_ok {w more:Int}(hw:1≤w) {c ms:List Int}(hc:∀x∈c,0≤x) (hm:0≤more) (hp:ms.Perm (roomsFrom 0 c)) (hs:ms.Pairwise (fun x y=>gapV w (atR c x)≤gapV w (atR c y))) {put:List Int}{left z x:Int}
  (hf:ms.foldl (stepG w c) (List.replicate c.length 0,more) =(put,left)) (hz:ms[0]? = some z) (hx:put[z.toNat]? = some x):Best w c more (put.set z.toNat (x+left)):=by
 have mem:∀y∈ms,∃i a,y =((i:Nat):Int)∧c[i]? = some a∧0<a:=fun y hy=>by
  obtain⟨i,a,e,h1,h2⟩:=roomsFrom_mem (hp.mem_iff.mp hy)
  exact⟨i,a,by rw[e];congr 1;omega,h1,h2⟩
 have mem2:∀y∈ms,0≤y∧∃a,c[y.toNat]? = some a∧0<a∧atR c y=a:=fun y hy=>by
  obtain⟨i,a,e,h1,h2⟩:=mem y hy
  have e2:y.toNat=i:=by omega
  exact⟨by omega,a,by rw[e2];exact h1,h2,by unfold atR;rw[e2,List.getD_eq_getElem?_getD,h1];rfl⟩
 have gp:∀y∈ms,1≤gapV w (atR c y)∧gapV w (atR c y)≤w:=fun y hy=>by
  obtain⟨_,a,_,h2,h3⟩:=mem2 y hy
  rw[h3];exact gap_pos hw h2
 have rep0:∀y∈ms,(List.replicate c.length (0:Int))[y.toNat]? = some 0:=fun y hy=>by
  obtain⟨_,a,h1,_⟩:=mem2 y hy
  rw[List.getElem?_replicate,if_pos (List.getElem?_eq_some_iff.mp h1).1]
 obtain⟨t,put',left',f1,f2,f3,f4,f5,f6,f7,f8,f9,f10,f11⟩:=foldG_ok hw hc (ms:=ms) (put:=List.replicate c.length 0) (left:=more) (fun y hy=>let ⟨h0,a,h1,_⟩:=mem2 y hy;⟨h0,a,h1⟩) (hp.nodup_iff.mpr roomsFrom_nodup) hs rep0
  (fun x hx=>by rw[(List.mem_replicate.mp hx).2];omega) hm
 rw[hf]at f1
 cases f1
 have zm:z∈ms:=List.mem_of_getElem? hz
 obtain⟨z0,a,ha,a0,ea⟩:=mem2 z zm
 rw[List.length_replicate]at f3
 rw[rowsT_zero]at f6
 have rs:(List.replicate c.length (0:Int)).sum=0:=by simp
 rw[rs]at f5
 have hx2:=f11 z hz
 rw[hx,ea]at hx2
 have hx3:=Option.some.inj hx2
 clear hx2
 have gz:=gp z zm
 rw[ea]at gz
 have xm:=f4 x (List.mem_of_getElem? hx)
 refine⟨by rw[List.length_set,f3],fun y hy=>?_,by rw[sum_set hx];omega,fun q ql q0 qs=>?_⟩
 ·rcases List.mem_or_eq_of_mem_set hy with e|e
  ·exact f4 y e
  ·omega
 rw[rowsT_set ha hx,f6]
 have D:∀g,((ms.map fun y=>max 0 (g-gapV w (atR c y))).sum =(c.map (dV w g)).sum):=fun g=>by
  rw[perm_sum (hp.map _)]
  exact sum_rooms (pre:=[])
 by_cases tl:t=ms.length
 ·-- all taken
  have t0:t≠0:=by
   intro e
   rw[e]at tl
   have:=List.length_eq_zero_iff.mp tl.symm
   rw[this]at hz;cases hz
  rw[if_neg t0]at hx3
  rw[hx3]
  have r1:=rfor_gap (a:=a) (L:=left) hw (by omega) f7
  have r2:=rfor_gap (a:=a) (L:=0) hw (by omega) (by omega)
  rw[Int.add_zero,Int.zero_ediv]at r2
  rw[Int.add_assoc]at r1
  rw[r1,r2]
  have th:=thr (g:=w) hw hw (Int.le_refl _) ql.symm hc q0
  rw[← D w,sum_split (t:=t) f2 (fun y hy=>(gp y (List.mem_of_mem_take hy)).2) (fun y hy=>by rw[tl,List.drop_length]at hy;cases hy),qs]at th
  have th2:w*(rowsT w c q-rows0 w c-t)≤left:=by rw[Int.mul_sub,Int.mul_comm w t];omega
  have:rowsT w c q-rows0 w c-t≤left / w:=(Int.le_ediv_iff_mul_le (by omega)).mpr (by rw[Int.mul_comm];exact th2)
  omega
 ·obtain⟨y,y1,y2⟩ : ∃y,ms[t]? = some y∧left<gapV w (atR c y):=by
   rcases f9 with e|e
   ·exact absurd e tl
   ·exact e
  have ym:=List.mem_of_getElem? y1
  obtain⟨g1,g2⟩:=gp y ym
  have th:=thr (g:=gapV w (atR c y)) hw g1 g2 ql.symm hc q0
  have tlt:t<ms.length:=by omega
  have ey:ms[t]=y:=by rw[List.getElem?_eq_getElem tlt]at y1;exact Option.some.inj y1
  have sp:=List.pairwise_iff_getElem.mp hs
  rw[← D (gapV w (atR c y)),sum_split (t:=t) (κ:=fun z=>gapV w (atR c z)) f2 (fun u hu=>?_) (fun u hu=>?_),qs]at th
  ·have th2:gapV w (atR c y)*(rowsT w c q-rows0 w c-t)≤left:=by rw[Int.mul_sub,Int.mul_comm (gapV w (atR c y)) t];omega
   have le:rowsT w c q-rows0 w c≤t:=by
    by_cases cc:rowsT w c q-rows0 w c≤t
    ·exact cc
    ·have:gapV w (atR c y)*1≤gapV w (atR c y)*(rowsT w c q-rows0 w c-t):=Int.mul_le_mul_of_nonneg_left (by omega) (by omega)
     omega
   by_cases t0:t=0
   ·rw[if_pos t0]at hx3
    subst t0
    have ezy:z=y:=by rw[hz]at y1;exact Option.some.inj y1
    rw[hx3,Int.add_zero,Int.zero_add,rfor_small hw (by omega) f7 (by rw[← ea,ezy];exact y2)]
    omega
   ·rw[if_neg t0]at hx3
    rw[hx3]
    have r1:=rfor_gap (a:=a) (L:=left) hw (by omega) f7
    have r2:=rfor_gap (a:=a) (L:=0) hw (by omega) (by omega)
    rw[Int.add_zero,Int.zero_ediv]at r2
    rw[Int.add_assoc]at r1
    rw[r1,r2,Int.ediv_eq_zero_of_lt f7 (by omega)]
    omega
  ·obtain⟨i,hi,e⟩:=List.mem_iff_getElem.mp hu
   rw[List.length_take]at hi
   have:=sp i t (by omega) tlt (by omega)
   rw[ey]at this
   rw[← e,List.getElem_take];exact this
  ·obtain⟨i,hi,e⟩:=List.mem_iff_getElem.mp hu
   rw[List.length_drop]at hi
   rw[List.getElem_drop]at e
   by_cases i0:i=0
   ·subst i0
    have:u=y:=by rw[← e,← ey];rfl
    rw[this];exact Int.le_refl _
   ·have:=sp t (t+i) tlt (by omega) (by omega)
    rw[ey,e]at this
    exact this
theorem great_zero {w more:Int}(hw:1≤w) {c:List Int}(hc:∀x∈c,x=0) (hn:c ≠ []) (hm:0≤more) {put:List Int}{left x:Int}
  (hf:[(0:Int)].foldl (stepG w c) (List.replicate c.length 0,more) =(put,left)) (hx:put[(0:Int).toNat]? = some x):Best w c more (put.set (0:Int).toNat (x+left)):=by
 obtain⟨b,r,rfl⟩ : ∃b r,c=b::r:=by
  cases c with
  | nil=>exact absurd rfl hn
  | cons b r=>exact⟨b,r,rfl⟩
 have b0:=hc b List.mem_cons_self
 subst b0
 have e:put.set (0:Int).toNat (x+left)=more::List.replicate r.length 0:=by
  rw[List.foldl_cons,List.foldl_nil]at hf
  have e0:(0:Int).toNat=0:=rfl
  unfold stepG at hf
  rw[List.length_cons,List.replicate_succ]at hf
  split at hf
  ·cases hf
   rw[e0,List.set_cons_zero]at hx ⊢
   simp at hx
   rw[List.set_cons_zero,← hx]
   congr 1
   simp only;omega
  ·cases hf
   rw[e0]at hx ⊢
   simp at hx
   rw[List.set_cons_zero,← hx,Int.zero_add]
 rw[e]
 refine⟨by simp,fun y hy=>?_,by simp,fun q ql q0 qs=>?_⟩
 ·rcases List.mem_cons.mp hy with h|h
  ·omega
  ·rw[(List.mem_replicate.mp h).2];omega
 obtain⟨t0,t1,t2⟩:=thr0 hw ql.symm hc q0
 have er:rowsT w (0::r) (more::List.replicate r.length 0)=rows0 w (0::r)-rfor 0 w+rfor more w:=by
  rw[rowsT,rowsT_zero,rows0,Int.zero_add];omega
 rw[er]
 by_cases cc:more<gapV w 0
 ·have:=rfor_small hw (Int.le_refl 0) hm cc
  rw[Int.zero_add]at this
  rw[this]
  by_cases d:0<rowsT w (0::r) q-rows0 w (0::r)
  ·have h2:=t2 d
   rw[gap_zero hw]at cc
   have:w*1≤w*(rowsT w (0::r) q-rows0 w (0::r)):=Int.mul_le_mul_of_nonneg_left (by omega) (by omega)
   omega
  ·omega
 ·obtain⟨L,hL⟩ : ∃L,more=gapV w 0+L:=⟨more-gapV w 0,by omega⟩
  have L0:0≤L:=by omega
  have rg:=rfor_gap (a:=0) (L:=L) hw (by omega) L0
  rw[Int.zero_add,← hL]at rg
  rw[rg]
  by_cases d:0<rowsT w (0::r) q-rows0 w (0::r)
  ·have h2:=t2 d
   rw[gap_zero hw]at hL
   have h3:w*(rowsT w (0::r) q-rows0 w (0::r)-1)≤L:=by rw[Int.mul_sub,Int.mul_one];omega
   have:rowsT w (0::r) q-rows0 w (0::r)-1≤L / w:=(Int.le_ediv_iff_mul_le (by omega)).mpr (by rw[Int.mul_comm];exact h3)
   omega
  ·have:=Int.ediv_nonneg L0 (show 0≤w by omega)
   omega
def Cheap (w:Int) (cs ms:List Int):Prop:=(ms.Perm (roomsFrom 0 cs)∧ms.Pairwise (fun x y=>gapV w (atR cs x)≤gapV w (atR cs y))∧ms ≠ []) ∨(roomsFrom 0 cs=[]∧ms=[0])
def sp_cheap_rooms (K:PySem.W.Frag):Sp:=fun vs H Q _=>∃(a:Addr) (w:Int) (cs:List Int),vs=[.ref a,.int w]∧H a=some (.lst (cs.map V.int))∧cs.length≤200∧1≤w∧w≤8∧TB_cheap_rooms K H ∧
 ∀(ms:List Int) (l:Addr) (H':Hp),Cheap w cs ms→H l=none→H' l=some (.lst (ms.map V.int))→Sm H H'→TB_cheap_rooms K H'→Q (.ref l) H'
def sp_greatest_spill (K:PySem.W.Frag):Sp:=fun vs H Q _=>∃(a:Addr) (w more:Int) (cs:List Int),vs=[.ref a,.int w,.int more]∧H a=some (.lst (cs.map V.int))∧cs ≠ []∧cs.length≤200∧(∀x∈cs,0≤x)∧1≤w∧w≤8∧0≤more∧TB_cheap_rooms K H ∧
 ∀(p:List Int) (t l:Addr) (H':Hp),Best w cs more p→H t=none→H l=none→t≠l→H' t=some (.tup [.int (rowsT w cs p-cs.length),.ref l])→H' l=some (.lst (p.map V.int))→Sm H H'→TB_cheap_rooms K H'→Q (.ref t) H'
theorem atR_of {c:List Int}{i:Nat}{a:Int}(h:c[i]? = some a):atR c (i:Int)=a:=by
 unfold atR
 rw[Int.toNat_natCast,List.getD_eq_getElem?_getD,h];rfl
def climb (w:Int):List Int→Int→Int
 | [],l=>l / w
 | g::gs,l=>if l<g then 0 else 1+climb w gs (l-g)
theorem sorted_eq:∀{l l':List Int},l.Perm l'→l.Pairwise (· ≤ ·)→l'.Pairwise (· ≤ ·)→l=l'
 | [],l',h,_,_=>(List.nil_perm.mp h).symm
 | a::l,[],h,_,_=>by simpa using h.length_eq
 | a::l,b::l',h,h1,h2=>by
  obtain⟨p1,p2⟩:=List.pairwise_cons.mp h1
  obtain⟨q1,q2⟩:=List.pairwise_cons.mp h2
  have e:a=b:=by
   have m1:a∈b::l':=h.mem_iff.mp List.mem_cons_self
   have m2:b∈a::l:=h.mem_iff.mpr List.mem_cons_self
   have a1:b≤a:=by
    rcases List.mem_cons.mp m1 with e|e
    ·omega
    ·exact q1 a e
   have a2:a≤b:=by
    rcases List.mem_cons.mp m2 with e|e
    ·omega
    ·exact p1 b e
   omega
  subst e
  rw[sorted_eq ((List.perm_cons a).mp h) p2 q2]
def gapsV (w:Int) (c:List Int):List Int:=(c.filter fun a=>decide (0<a)).map (gapV w)
theorem gaps_rooms {w:Int}:∀{c pre:List Int},((roomsFrom pre.length c).map fun z=>gapV w (atR (pre++c) z))=gapsV w c
 | [],pre=>by simp[roomsFrom,gapsV]
 | a::c,pre=>by
  have ih:=gaps_rooms (w:=w) (c:=c) (pre:=pre ++ [a])
  rw[List.length_append,show pre ++ [a]++c=pre++a::c by simp]at ih
  have ih:((roomsFrom (pre.length+1) c).map fun z=>gapV w (atR (pre++a::c) z))=gapsV w c:=ih
  unfold gapsV at ih ⊢
  rw[roomsFrom,List.filter_cons]
  by_cases h:0<a
  ·rw[if_pos h,if_pos (by simpa using h),List.map_cons,List.map_cons,ih]
   congr 2
   unfold atR
   simp
  ·rw[if_neg h,if_neg (by simpa using h),ih]
theorem climb_take {w:Int}:∀{gs:List Int}{t:Nat}{l l':Int},t≤gs.length→(∀g∈gs,0≤g)→l'=l-(gs.take t).sum→0≤l'→(t=gs.length ∨ ∃g,gs[t]? = some g∧l'<g)→climb w gs l=t+if t=gs.length then l' / w else 0
 | [],t,l,l',ht,_,e,_,_=>by
  have:t=0:=by simpa using ht
  subst this
  have:l'=l:=by simpa using e
  rw[this,climb];simp
 | g::gs,0,l,l',_,_,e,_,h=>by
  have:l'=l:=by simpa using e
  obtain⟨g',h1,h2⟩ : ∃g',(g::gs)[0]? = some g'∧l'<g':=by
   rcases h with h|h
   ·cases h
   ·exact h
  have:g=g':=by simpa using h1
  rw[climb,if_pos (by omega),if_neg (by simp)];rfl
 | g::gs,t+1,l,l',ht,hg,e,h0,h=>by
  rw[List.take_succ_cons,List.sum_cons]at e
  have tn:=sum_nn fun x (hx:x∈gs.take t)=>hg x (List.mem_cons_of_mem _ (List.mem_of_mem_take hx))
  rw[climb,if_neg (by omega),climb_take (gs:=gs) (t:=t) (l:=l-g) (l':=l') (by simpa using ht) (fun x hx=>hg x (List.mem_cons_of_mem _ hx)) (by omega) h0 (by
   rcases h with h|⟨g',h1,h2⟩
   ·exact .inl (by simpa using h)
   ·exact .inr ⟨g',by simpa using h1,h2⟩)]
  rw[List.length_cons]
  by_cases c:t=gs.length
  ·rw[if_pos c,if_pos (by omega)];push_cast;omega
  ·rw[if_neg c,if_neg (by omega)];push_cast;omega
theorem great_val {w more:Int}(hw:1≤w) {c ms:List Int}(hc:∀x∈c,0≤x) (hm:0≤more) (hp:ms.Perm (roomsFrom 0 c)) (hs:ms.Pairwise (fun x y=>gapV w (atR c x)≤gapV w (atR c y))) {put:List Int}{left z x:Int}
  (hf:ms.foldl (stepG w c) (List.replicate c.length 0,more) =(put,left)) (hz:ms[0]? = some z) (hx:put[z.toNat]? = some x):rowsT w c (put.set z.toNat (x+left))=rows0 w c+climb w (ms.map fun y=>gapV w (atR c y)) more:=by
 have mem:∀y∈ms,∃i a,y =((i:Nat):Int)∧c[i]? = some a∧0<a:=fun y hy=>by
  obtain⟨i,a,e,h1,h2⟩:=roomsFrom_mem (hp.mem_iff.mp hy)
  exact⟨i,a,by rw[e];congr 1;omega,h1,h2⟩
 have mem2:∀y∈ms,0≤y∧∃a,c[y.toNat]? = some a∧0<a∧atR c y=a:=fun y hy=>by
  obtain⟨i,a,e,h1,h2⟩:=mem y hy
  have e2:y.toNat=i:=by omega
  exact⟨by omega,a,by rw[e2];exact h1,h2,by unfold atR;rw[e2,List.getD_eq_getElem?_getD,h1];rfl⟩
 have gp:∀y∈ms,1≤gapV w (atR c y)∧gapV w (atR c y)≤w:=fun y hy=>by
  obtain⟨_,a,_,h2,h3⟩:=mem2 y hy
  rw[h3];exact gap_pos hw h2
 have rep0:∀y∈ms,(List.replicate c.length (0:Int))[y.toNat]? = some 0:=fun y hy=>by
  obtain⟨_,a,h1,_⟩:=mem2 y hy
  rw[List.getElem?_replicate,if_pos (List.getElem?_eq_some_iff.mp h1).1]
 obtain⟨t,put',left',f1,f2,f3,f4,f5,f6,f7,f8,f9,f10,f11⟩:=foldG_ok hw hc (ms:=ms) (put:=List.replicate c.length 0) (left:=more) (fun y hy=>let ⟨h0,a,h1,_⟩:=mem2 y hy;⟨h0,a,h1⟩) (hp.nodup_iff.mpr roomsFrom_nodup) hs rep0
  (fun x hx=>by rw[(List.mem_replicate.mp hx).2];omega) hm
 rw[hf]at f1
 cases f1
 have zm:z∈ms:=List.mem_of_getElem? hz
 obtain⟨z0,a,ha,a0,ea⟩:=mem2 z zm
 rw[List.length_replicate]at f3
 rw[rowsT_zero]at f6
 have rs:(List.replicate c.length (0:Int)).sum=0:=by simp
 rw[rs]at f5
 have hx2:=f11 z hz
 rw[hx,ea]at hx2
 have hx3:=Option.some.inj hx2
 clear hx2
 have gz:=gp z zm
 rw[ea]at gz
 have xm:=f4 x (List.mem_of_getElem? hx)
 rw[rowsT_set ha hx,f6]
 rw[climb_take (w:=w) (t:=t) (l':=left) (by rw[List.length_map];exact f2) (fun g hg=>by
  obtain⟨y,hy,rfl⟩:=List.mem_map.mp hg
  have:=(gp y hy).1
  omega) (by rw[f8,List.map_take]) f7 (by
  rcases f9 with e|⟨y,y1,y2⟩
  ·exact .inl (by rw[List.length_map];exact e)
  ·exact .inr ⟨_,by rw[List.getElem?_map,y1];rfl,y2⟩),List.length_map]
 by_cases tl:t=ms.length
 ·have t0:t≠0:=by
   intro e
   rw[e]at tl
   have:=List.length_eq_zero_iff.mp tl.symm
   rw[this]at hz;cases hz
  rw[if_neg t0]at hx3
  rw[hx3,if_pos tl]
  have r1:=rfor_gap (a:=a) (L:=left) hw (by omega) f7
  have r2:=rfor_gap (a:=a) (L:=0) hw (by omega) (by omega)
  rw[Int.add_zero,Int.zero_ediv]at r2
  rw[Int.add_assoc]at r1
  rw[r1,r2]
  omega
 ·obtain⟨y,y1,y2⟩ : ∃y,ms[t]? = some y∧left<gapV w (atR c y):=by
   rcases f9 with e|e
   ·exact absurd e tl
   ·exact e
  obtain⟨g1,g2⟩:=gp y (List.mem_of_getElem? y1)
  rw[if_neg tl]
  by_cases t0:t=0
  ·rw[if_pos t0]at hx3
   subst t0
   have ezy:z=y:=by rw[hz]at y1;exact Option.some.inj y1
   rw[hx3,Int.add_zero,Int.zero_add,rfor_small hw (by omega) f7 (by rw[← ea,ezy];exact y2)]
   omega
  ·rw[if_neg t0]at hx3
   rw[hx3]
   have r1:=rfor_gap (a:=a) (L:=left) hw (by omega) f7
   have r2:=rfor_gap (a:=a) (L:=0) hw (by omega) (by omega)
   rw[Int.add_zero,Int.zero_ediv]at r2
   rw[Int.add_assoc]at r1
   rw[r1,r2,Int.ediv_eq_zero_of_lt f7 (by omega)]
   omega
theorem best_climb {w more:Int}(hw:1≤w) {c gs p:List Int}(hc:∀x∈c,0≤x) (hm:0≤more) (hp:gs.Perm (gapsV w c)) (hs:gs.Pairwise (· ≤ ·)) (hne:gs ≠ []) (hb:Best w c more p):rowsT w c p=rows0 w c+climb w gs more:=by
 obtain⟨ms,m1,m2,m3⟩ : ∃ms:List Int,ms.Perm (roomsFrom 0 c)∧ms.Pairwise (fun x y=>gapV w (atR c x)≤gapV w (atR c y))∧ms.map (fun z=>gapV w (atR c z))=gs:=by
  refine⟨(roomsFrom 0 c).mergeSort (fun x y=>decide (gapV w (atR c x)≤gapV w (atR c y))),List.mergeSort_perm _ _,?_,?_⟩
  ·have:=List.pairwise_mergeSort (le:=fun x y=>decide (gapV w (atR c x)≤gapV w (atR c y))) (fun a b d h1 h2=>by simp at h1 h2 ⊢;omega) (fun a b=>by simp;omega) (roomsFrom 0 c)
   exact this.imp fun h=>by simpa using h
  ·refine sorted_eq ?_ ?_ hs
   ·refine((List.mergeSort_perm _ _).map _).trans ?_
    have:=gaps_rooms (w:=w) (c:=c) (pre:=[])
    rw[List.length_nil,List.nil_append]at this
    rw[this]
    exact hp.symm
   ·rw[List.pairwise_map]
    have:=List.pairwise_mergeSort (le:=fun x y=>decide (gapV w (atR c x)≤gapV w (atR c y))) (fun a b d h1 h2=>by simp at h1 h2 ⊢;omega) (fun a b=>by simp;omega) (roomsFrom 0 c)
    exact this.imp fun h=>by simpa using h
 have mne:ms ≠ []:=fun e=>by rw[e]at m3;exact hne m3.symm
 obtain⟨z,r,rfl⟩ : ∃z r,ms=z::r:=by
  cases ms with
  | nil=>exact absurd rfl mne
  | cons z r=>exact⟨z,r,rfl⟩
 obtain⟨i,a,ez,ha,_⟩:=roomsFrom_mem (m1.mem_iff.mp List.mem_cons_self)
 rw[Nat.zero_add]at ez
 obtain⟨put,left,hf⟩ : ∃put left,(z::r).foldl (stepG w c) (List.replicate c.length 0,more) =(put,left):=⟨_,_,rfl⟩
 have pl:put.length=c.length:=by
  have:=fold_len (w:=w) (c:=c) (ms:=z::r) (pl:=(List.replicate c.length 0,more))
  rw[hf,List.length_replicate]at this;exact this
 obtain⟨x,hx⟩ : ∃x,put[z.toNat]? = some x:=⟨_,List.getElem?_eq_getElem (by
  have:=(List.getElem?_eq_some_iff.mp ha).1
  omega)⟩
 have b2:=great_ok hw hc hm m1 m2 hf rfl hx
 have v2:=great_val hw hc hm m1 m2 hf rfl hx
 rw[m3]at v2
 have:=hb.best _ b2.len b2.nn b2.sum
 have:=b2.best _ hb.len hb.nn hb.sum
 omega
theorem best_zero {w more:Int}(hw:1≤w) {c p:List Int}(hc:∀x∈c,x=0) (hne:c ≠ []) (hm:0≤more) (hb:Best w c more p):rowsT w c p=rows0 w c+max 0 (more-1) / w:=by
 obtain⟨put,left,hf⟩ : ∃put left,[(0:Int)].foldl (stepG w c) (List.replicate c.length 0,more) =(put,left):=⟨_,_,rfl⟩
 have pl:put.length=c.length:=by
  have:=fold_len (w:=w) (c:=c) (ms:=[0]) (pl:=(List.replicate c.length 0,more))
  rw[hf,List.length_replicate]at this;exact this
 have cp:=List.length_pos_iff.mpr hne
 obtain⟨b,r,rfl⟩ : ∃b r,c=b::r:=by
  cases c with
  | nil=>exact absurd rfl hne
  | cons b r=>exact⟨b,r,rfl⟩
 have b0:=hc b List.mem_cons_self
 subst b0
 have v:Best w (0::r) more (more::List.replicate r.length 0):=by
  obtain⟨x,hx⟩ : ∃x,put[(0:Int).toNat]? = some x:=⟨_,List.getElem?_eq_getElem (by show 0<put.length;omega)⟩
  have b2:=great_zero hw hc hne hm hf hx
  refine⟨by simp,fun y hy=>?_,by simp,fun q ql q0 qs=>?_⟩
  ·rcases List.mem_cons.mp hy with h|h
   ·omega
   ·rw[(List.mem_replicate.mp h).2];omega
  ·obtain⟨t0,t1,t2⟩:=thr0 hw ql.symm hc q0
   rw[rowsT,rowsT_zero,Int.zero_add]
   have rs:=rfor_spill hw hm
   have r0:rfor 0 w=1:=by
    have:=gap_zero hw
    unfold gapV at this
    have h1:rfor 0 w*w=1*w:=by omega
    exact Int.eq_of_mul_eq_mul_right (by omega) h1
   rw[rows0]at t0 t1 t2
   rw[r0]at t0 t1 t2
   by_cases d:0<rowsT w (0::r) q-(1+rows0 w r)
   ·have:=t2 d
    rw[qs]at this
    have:rowsT w (0::r) q-(1+rows0 w r)≤max 0 (more-1) / w:=(Int.le_ediv_iff_mul_le (by omega)).mpr (by rw[Int.mul_comm];omega)
    omega
   ·have:=Int.ediv_nonneg (show 0≤max 0 (more-1) by omega) (show 0≤w by omega)
    omega
 have e1:=hb.best _ v.len v.nn v.sum
 have e2:=v.best _ hb.len hb.nn hb.sum
 have rs:=rfor_spill hw hm
 have r0:rfor 0 w=1:=by
  have:=gap_zero hw
  unfold gapV at this
  have h1:rfor 0 w*w=1*w:=by omega
  exact Int.eq_of_mul_eq_mul_right (by omega) h1
 have e3:rowsT w (0::r) (more::List.replicate r.length 0)=rfor more w+rows0 w r:=by rw[rowsT,rowsT_zero,Int.zero_add]
 rw[rows0,r0]
 omega
theorem fill_sum {w:Int}(hw:1≤w):∀{c:List Int}{l:Int},(∀x∈c,0≤x)→0≤l→(fillV w c l).sum=min l (rows0 w c*w-c.sum)
 | [],l,_,h=>by rw[fillV,rows0];simp;omega
 | a::c,l,hc,h=>by
  have ha:=hc a List.mem_cons_self
  obtain⟨b1,b2⟩:=rfor_up (m:=a) hw ha
  rw[fillV,List.sum_cons,fill_sum hw (fun x hx=>hc x (List.mem_cons_of_mem _ hx)) (by omega),rows0,List.sum_cons,Int.add_mul]
  have:0≤rows0 w c*w-c.sum:=by
   have:=(rowsT_up hw (c:=c) (q:=List.replicate c.length 0) (by simp) (fun x hx=>hc x (List.mem_cons_of_mem _ hx)) (fun x hx=>by rw[(List.mem_replicate.mp hx).2];omega)).1
   rw[rowsT_zero]at this
   simp at this
   omega
  omega
theorem least_val {w more:Int}(hw:1≤w) {c:List Int}(hc:∀x∈c,0≤x) (hne:c ≠ []) (hm:0≤more):rowsT w c (leastV w c more)=rows0 w c+(max 0 (more-(rows0 w c*w-c.sum))+w-1) / w:=by
 obtain⟨v1,v2,v3,v4⟩:=leastV_ok hw hc hne hm
 obtain⟨f1,f2,f3,f4⟩:=fillV_ok hw hc hm
 have fs:=fill_sum hw hc hm
 have fl:=fillV_len (w:=w) (c:=c) (l:=more)
 cases c with
 | nil=>exact absurd rfl hne
 | cons a c =>
  have ha:=hc a List.mem_cons_self
  unfold leastV
  cases e:fillV w (a::c) more with
  | nil=>rw[e]at fl;cases fl
  | cons x r =>
   rw[e]at f1 f2 f3 f4 fs
   have hx:=f1 x List.mem_cons_self
   have e2:=e
   rw[fillV]at e2
   obtain⟨ex,_⟩:=List.cons.inj e2
   obtain⟨b1,b2⟩:=rfor_up (m:=a) hw ha
   rw[List.sum_cons]at f2 f4 fs ⊢
   rw[rowsT]at f3 ⊢
   by_cases h:x+r.sum<more
   ·have f5:=f4 h
    have L0:0<more-(x+r.sum):=by omega
    have eF:more-(rows0 w (a::c)*w-(a::c).sum)=more-(x+r.sum):=by omega
    rw[eF,Int.max_eq_right (by omega)]
    have rx:x=rfor a w*w-a:=by
     by_cases g:more≤rfor a w*w-a
     ·have:x=more:=by omega
      have:=sum_nn fun y (hy:y∈r)=>f1 y (List.mem_cons_of_mem _ hy)
      omega
     ·omega
    generalize more-(x+r.sum)=L at L0 ⊢
    have ea:a+(x+L)=a+gapV w a+(L-1):=by unfold gapV;omega
    have eb:a+x=a+(gapV w a-1):=by unfold gapV;omega
    have gp:=gap_nn (w:=w) hw ha
    rw[eb,rfor_small hw ha (by omega) (by omega)]at f3
    rw[ea,rfor_gap hw ha (by omega),show L+w-1 =(L-1)+1*w by omega,Int.add_mul_ediv_right _ _ (by omega)]
    omega
   ·have ez:more-(x+r.sum)=0:=by omega
    rw[ez,Int.add_zero,f3,Int.max_eq_left (by omega),Int.zero_add,Int.ediv_eq_zero_of_lt (by omega) (by omega),Int.add_zero]
theorem free1 {w a:Int}(hw:1≤w) (ha:0≤a):(0-a)%w+w*(if a=0 then 1 else 0)=rfor a w*w-a:=by
 by_cases c:a=0
 ·subst c
  have:=gap_zero hw
  unfold gapV at this
  rw[if_pos rfl,Int.sub_zero,Int.zero_emod];omega
 ·obtain⟨g1,g2⟩:=gap_pos hw (show 0<a by omega)
  unfold gapV at g1 g2
  have e:0-a =(rfor a w*w-a)+(- rfor a w)*w:=by rw[Int.neg_mul];omega
  rw[if_neg c,e,Int.add_mul_emod_self_right,Int.emod_eq_of_lt (by omega) (by omega)];omega
theorem need1 {w a:Int}(hw:1≤w) (ha:0<a):1+(0-a)%w=gapV w a:=by
 have:=free1 hw (show 0≤a by omega)
 rw[if_neg (by omega)]at this
 unfold gapV;omega
def srt (l:List Int):List Int:=l.mergeSort (fun x y=>decide (x≤y))
theorem srt_perm (l:List Int):(srt l).Perm l:=List.mergeSort_perm _ _
theorem srt_sorted (l:List Int):(srt l).Pairwise (· ≤ ·):=by
 have:=List.pairwise_mergeSort (le:=fun(x y:Int)=>decide (x≤y)) (fun a b d h1 h2=>by simp at h1 h2 ⊢;omega) (fun a b=>by simp;omega) l
 exact this.imp fun h=>by simpa using h
theorem srt_eq {l ms:List Int}(h:ms.Perm l) (hs:ms.Pairwise (· ≤ ·)):ms=srt l:=sorted_eq (h.trans (srt_perm l).symm) hs (srt_sorted l)
def greatV (w:Int) (c:List Int) (more:Int):Int:=rows0 w c-c.length+(if srt (gapsV w c)=[] then max 0 (more-1) / w else climb w (srt (gapsV w c)) more)
theorem gaps_nil {w:Int}{c:List Int}(hc:∀x∈c,0≤x) (h:srt (gapsV w c)=[]):∀x∈c,x=0:=fun x hx=>by
 have e:gapsV w c=[]:=List.nil_perm.mp (h ▸ srt_perm (gapsV w c))
 unfold gapsV at e
 have e2:=List.map_eq_nil_iff.mp e
 have:=List.filter_eq_nil_iff.mp e2 x hx
 have:=hc x hx
 simp at *
 omega
theorem best_val {w more:Int}(hw:1≤w) {c p:List Int}(hc:∀x∈c,0≤x) (hne:c ≠ []) (hm:0≤more) (hb:Best w c more p):rowsT w c p-c.length=greatV w c more:=by
 unfold greatV
 split
 ·rename_i h
  rw[best_zero hw (gaps_nil hc h) hne hm hb];omega
 ·rename_i h
  rw[best_climb hw hc hm (srt_perm _) (srt_sorted _) h hb];omega
theorem sum_more {w:Int}(hw:1≤w):∀{c:List Int},(∀x∈c,0≤x)→(c.map fun x=>max 0 (x-1) / w).sum=rows0 w c-c.length
 | [],_=>rfl
 | a::c,h=>by
  rw[List.map_cons,List.sum_cons,sum_more hw (fun x hx=>h x (List.mem_cons_of_mem _ hx)),rows0,List.length_cons,← rfor_spill hw (h a List.mem_cons_self)]
  push_cast;omega
theorem sum_free {w:Int}(hw:1≤w):∀{c:List Int},(∀x∈c,0≤x)→(c.map fun x=>(0-x)%w+w*(if x=0 then 1 else 0)).sum=rows0 w c*w-c.sum
 | [],_=>by simp[rows0]
 | a::c,h=>by
  rw[List.map_cons,List.sum_cons,sum_free hw (fun x hx=>h x (List.mem_cons_of_mem _ hx)),rows0,List.sum_cons,free1 hw (h a List.mem_cons_self),Int.add_mul]
  omega
theorem climb_drop {w:Int}{gs:List Int}{i:Nat}{g l:Int}(h:gs[i]? = some g):climb w (gs.drop i) l=if l<g then 0 else 1+climb w (gs.drop (i+1)) (l-g):=by
 have lt:=(List.getElem?_eq_some_iff.mp h).1
 have e:gs[i]=g:=(List.getElem?_eq_some_iff.mp h).2
 rw[List.drop_eq_getElem_cons lt,climb,e]
def sp__law_needs (K:PySem.W.Frag):Sp:=fun vs H Q _=>∃(a:Addr) (w:Int) (cs:List Int),vs=[.ref a,.int w]∧H a=some (.lst (cs.map V.int))∧cs.length≤200∧1≤w∧w≤8 ∧
 ∀(l:Addr) (H':Hp),H' l=some (.lst ((srt (gapsV w cs)).map V.int))→Same H H'→Q (.ref l) H'
def sp__law_greatest (K:PySem.W.Frag):Sp:=fun vs H Q _=>∃(a:Addr) (w more:Int) (cs:List Int),vs=[.ref a,.int w,.int more]∧H a=some (.lst (cs.map V.int))∧cs.length≤200∧(∀x∈cs,0≤x)∧1≤w∧w≤8 ∧
 ∀H',Same H H'→Q (.int (greatV w cs more)) H'
def sp__law_least (K:PySem.W.Frag):Sp:=fun vs H Q _=>∃(a:Addr) (w more:Int) (cs:List Int),vs=[.ref a,.int w,.int more]∧H a=some (.lst (cs.map V.int))∧cs ≠ []∧cs.length≤200∧(∀x∈cs,0≤x)∧1≤w∧w≤8∧0≤more ∧
 ∀H',Same H H'→Q (.int (rowsT w cs (leastV w cs more)-cs.length)) H'
theorem gapsV_snoc {w a:Int}{c:List Int}:gapsV w (c ++ [a])=gapsV w c++(if 0<a then [gapV w a] else []):=by
 unfold gapsV
 rw[List.filter_append,List.map_append]
 congr 1
 by_cases h:0<a
 ·rw[if_pos h,List.filter_cons,if_pos (by simpa using h)];rfl
 ·rw[if_neg h,List.filter_cons,if_neg (by simpa using h)];rfl
theorem gapsV_len {w:Int}{c:List Int}:(gapsV w c).length≤c.length:=by
 unfold gapsV
 rw[List.length_map]
 exact List.length_filter_le _ _
def spreadV (ms:List Int) (R:Nat):List (List Int):=(List.range R).map fun(r:Nat)=>ms.filter fun k=>decide (roomV k R =(r:Int))
theorem spreadV_len (ms:List Int) (R:Nat):(spreadV ms R).length=R:=by unfold spreadV;rw[List.length_map,List.length_range]
theorem spreadV_at {ms:List Int}{R j:Nat}(h:j<R):(spreadV ms R)[j]? = some (ms.filter fun k=>decide (roomV k R =(j:Int))):=by
 unfold spreadV
 rw[List.getElem?_map,List.getElem?_range h];rfl
theorem spreadV_nil (R:Nat):spreadV [] R=List.replicate R []:=by
 refine List.ext_getElem? fun i=>?_
 rw[List.getElem?_replicate]
 by_cases h:i<R
 ·rw[spreadV_at h,if_pos h];rfl
 ·rw[if_neg h,List.getElem?_eq_none (by rw[spreadV_len];omega)]
theorem spreadV_push {ms:List Int}{R j:Nat}{k:Int}(hj:roomV k R =(j:Int)) (h:j<R):spreadV (ms ++ [k]) R =(spreadV ms R).set j ((ms.filter fun k=>decide (roomV k R =(j:Int))) ++ [k]):=by
 refine List.ext_getElem? fun i=>?_
 rw[List.getElem?_set,spreadV_len]
 by_cases hi:i<R
 ·rw[spreadV_at hi,List.filter_append,List.filter_cons]
  by_cases e:j=i
  ·subst e
   rw[if_pos rfl,if_pos hi,if_pos (decide_eq_true hj)];rfl
  ·rw[if_neg e,spreadV_at hi,if_neg (by rw[hj];simp;omega)]
   simp
 ·rw[List.getElem?_eq_none (by rw[spreadV_len];omega)]
  by_cases e:j=i
  ·omega
  ·rw[if_neg e,List.getElem?_eq_none (by rw[spreadV_len];omega)]
theorem Ls.set {H:Hp}{a:Addr}{r:List Int}:∀{as:List Addr}{rs:List (List Int)}{j:Nat},as.Nodup→as[j]? = some a→Ls H as rs→Ls (upd H a (.lst (r.map V.int))) as (rs.set j r)
 | [],_,_,_,h,_=>by simp at h
 | b::as,q::rs,0,hn,h,⟨h1,t⟩=>by
  simp at h;subst h
  rw[List.nodup_cons]at hn
  exact⟨upd_same,t.same fun c hc o e=>by rw[upd_ne (show c≠b from fun z=>hn.1 (by rw[← z];exact hc))];exact e⟩
 | b::as,q::rs,j+1,hn,h,⟨h1,t⟩=>by
  rw[List.nodup_cons]at hn
  have h':as[j]? = some a:=by simpa using h
  have ne:b≠a:=fun z=>hn.1 (by rw[z];exact List.mem_of_getElem? h')
  exact⟨by rw[upd_ne ne];exact h1,Ls.set hn.2 h' t⟩
def LN (H0 H:Hp) (l:Addr) (rs:List (List Int)):Prop:=∃as:List Addr,H l=some (.lst (as.map V.ref))∧Ls H as rs∧as.Nodup∧∀a∈as,H0 a=none∧a≠l
theorem LN.base {H0 H1 H:Hp}{l:Addr}{rs:List (List Int)}(s:Same H0 H1) (h:LN H1 H l rs):LN H0 H l rs:=by
 obtain⟨as,h1,h2,h3,h4⟩:=h
 exact⟨as,h1,h2,h3,fun a ha=>⟨s.free (h4 a ha).1,(h4 a ha).2⟩⟩
theorem Ls.rep {H:Hp}:∀{as:List Addr}{n:Nat},Ls H as (List.replicate n [])→as.length=n:=fun h=>by rw[h.len,List.length_replicate]
def sp_spread (K:PySem.W.Frag):Sp:=fun vs H Q _=>∃(a:Addr) (ns:List Int) (R:Nat),vs=[.ref a,.int R]∧H a=some (.lst (ns.map V.int))∧ns.length≤200∧1≤R∧R≤200 ∧
 ∀ms l H',ms.Perm ns→ms.Pairwise (· ≤ ·)→H l=none→LN H H' l (spreadV ms R)→Same H H'→Q (.ref l) H'
def sp_counts (K:PySem.W.Frag):Sp:=fun vs H Q _=>∃(a:Addr) (ns:List Int) (R:Nat),vs=[.ref a,.int R]∧H a=some (.lst (ns.map V.int))∧ns.length≤200∧1≤R∧R≤200 ∧
 ∀ms l H',ms.Perm ns→ms.Pairwise (· ≤ ·)→H l=none→H' l=some (.lst (((spreadV ms R).map fun r=>(r.length:Int)).map V.int))→Same H H'→Q (.ref l) H'
def P1 {α:Type}(p:Addr→α→Prop) (as:List Addr) (xs:List α):Prop:=as.length=xs.length∧∀(i:Nat) (a:Addr) (x:α),as[i]? = some a→xs[i]? = some x→p a x
section
variable {α:Type}{p p':Addr→α→Prop}{as bs:List Addr}{xs ys:List α}{a b:Addr}{x y:α}{i:Nat}
end
section
variable {K:PySem.W.Frag}{H:Hp}{n:Nat}{v:V}{d:PyData}{vs:List V}{ds:List PyData}
end
def R1 (S:Addr→Prop) (H:Hp) (a:Addr) (es:List V):Prop:=S a∧H a=some (.lst es)
def R2 (S:Addr→Prop) (H:Hp) (b:Addr) (rows:List (List V)):Prop:=S b∧∃as:List Addr,H b=some (.lst (as.map V.ref))∧P1 (R1 S H) as rows
def R3 (S:Addr→Prop) (H:Hp) (h:Addr) (X:List (List (List V))):Prop:=∃bs:List Addr,H h=some (.lst (bs.map V.ref))∧P1 (R2 S H) bs X
section
variable {S S':Addr→Prop}{H H':Hp}{a b h:Addr}{es:List V}{rows:List (List V)}{X:List (List (List V))}
end
theorem ixN_in {n j:Nat}(h:j<n):ixN n (j:Int)=some j:=by
 unfold ixN
 rw[if_pos (by omega),if_pos (by omega),Int.toNat_natCast]
def nm (z:Str):Prop:=1≤z.length∧z.length≤8∧∀c∈z.cps,97≤c∧c≤122
def sp__law_thing (K:PySem.W.Frag):Sp:=fun vs H Q _=>∃(p:Addr) (N:Nat),vs=[.ref p]∧Hand H p N∧N+30<2^60 ∧
 ∀(z:Str) (H':Hp),nm z→Hand H' p (N+20)→Kp H H' p→Q (.str z) H'
def sp__law_whole (K:PySem.W.Frag):Sp:=fun vs H Q _=>∃(n:Int),vs=[.int n]∧Q (.bl true) H
theorem pick40 {x y g:Int}(h:g=0∨g=1):∃b:Int,atI [V.int x,V.int y] g=some (.int b)∧(b=x∨b=y):=by
 rcases h with rfl|rfl
 ·exact⟨x,rfl,.inl rfl⟩
 ·exact⟨y,rfl,.inr rfl⟩
def eD (H:Hp) (v:V):Int×Str:=match v with
 | .ref t=>(match H t with
  | some (.tup [.int k,.str z])=>(k,z)
  | _=>(0,⟨#[]⟩))
 | _=>(0,⟨#[]⟩)
def sp__law_room (K:PySem.W.Frag):Sp:=fun vs H Q _=>∃(k R:Int),vs=[.int k,.int R]∧0≤k∧k<2^61∧1≤R∧R≤2^60∧Q (.int (roomV k R)) H
theorem cut_intsT {us:List Int}{k:Nat}:cutV (us.map V.int) none (some (k:Int)) =(us.take k).map V.int:=by
 unfold cutV
 rw[HT.sIx_nat,HT.sIx_none,List.drop_zero,Nat.sub_zero,List.map_take,List.length_map]
 by_cases h:k≤us.length
 ·rw[Nat.min_eq_left h]
 ·rw[Nat.min_eq_right (by omega),List.take_of_length_le (by rw[List.length_map];omega),List.take_of_length_le (by rw[List.length_map];omega)]
def EL (H:Hp) (ts:List Addr) (es:List (Int×Str)):Prop:=P1 (fun t e=>H t=some (.tup [.int e.1,.str e.2])∧PyData.strOk e.2=true∧0≤e.1∧e.1<1152921504606846976∧e.2.length≤100) ts es
def vE (e:Int×Str):Int×V:=(e.1,.str e.2)
def kf (e:Int×V):Key×V:=((Sum.inl e.1:Key),e.2)
def putI (qs:List (Int×V)) (k:Int) (v:V):List (Int×V):=if (qs.any fun e=>decide (e.1=k))=true then qs.map (fun e=>if e.1=k then(e.1,v) else e) else qs ++ [(k,v)]
theorem putI_map {qs:List (Int×V)}{k:Int}{v:V}:putK (qs.map kf) (Sum.inl k) v =(putI qs k v).map kf:=by
 unfold putK putI
 have e:((qs.map kf).any fun kv=>decide (kv.1 =(Sum.inl k:Key)))=qs.any fun e=>decide (e.1=k):=by
  rw[List.any_map]
  congr 1
  funext e
  simp[kf]
 rw[e]
 split
 ·rw[List.map_map,List.map_map]
  apply List.map_congr_left
  intro e _
  by_cases c:e.1=k
  ·simp[kf,c]
  ·simp[kf,c]
 ·rw[List.map_append];rfl
def valI (qs:List (Int×V)) (k:Int):V:=((qs.find? fun e=>decide (e.1=k)).map (·.2)).getD .non
theorem valI_some:∀{qs:List (Int×V)}{k:Int},k∈qs.map (·.1)→L2.valV (qs.map kf) (Sum.inl k)=some (valI qs k)
 | [],k,h=>by simp at h
 | e::qs,k,h=>by
  by_cases c:e.1=k
  ·rw[List.map_cons,valV_pos (by simp[kf,c])]
   unfold valI
   rw[List.find?_cons,decide_eq_true c];rfl
  ·rw[List.map_cons,valV_neg (by simp[kf,c]),valI_some (by
    rw[List.map_cons,List.mem_cons]at h
    rcases h with h|h
    ·exact absurd h.symm c
    ·exact h)]
   unfold valI
   rw[List.find?_cons,decide_eq_false c]
def hid (D:Addr) (H:Hp):Hp:=fun b=>if b=D then none else H b
def sp_is_whole (K:PySem.W.Frag):Sp:=fun vs H Q _=>∃(k:Int),vs=[.int k]∧Q (.bl true) H
def sp_is_key (K:PySem.W.Frag):Sp:=fun vs H Q _=>∃(k:Int),vs=[.int k]∧0≤k∧k<1152921504606846976∧Q (.bl true) H
def sp_is_size (K:PySem.W.Frag):Sp:=fun vs H Q _=>∃(k:Int),vs=[.int k]∧1≤k∧k≤8∧Q (.bl true) H
def sp_is_name (K:PySem.W.Frag):Sp:=fun vs H Q _=>∃(z:Str),vs=[.str z]∧nm z∧∀H',Same H H'→Q (.bl true) H'
def sp_ask_sizes (K:PySem.W.Frag):Sp:=fun vs H Q _=>∃(w f:Int),vs=[.int w,.int f]∧1≤w∧w≤8∧1≤f∧f≤8∧Q .non H
def sp_ask_key (K:PySem.W.Frag):Sp:=fun vs H Q _=>∃(k:Int),vs=[.int k]∧0≤k∧k<1152921504606846976∧Q .non H
def sp_ask_entry (K:PySem.W.Frag):Sp:=fun vs H Q _=>∃(k:Int) (z:Str),vs=[.int k,.str z]∧0≤k∧k<1152921504606846976∧nm z∧∀H',Same H H'→Q .non H'
def sp_rooms_for (K:PySem.W.Frag):Sp:=fun vs H Q _=>∃(m w:Int),vs=[.int m,.int w]∧1≤w∧w≤8∧Q (.int (rfor m w)) H
def rowsL (ns:List Int) (w:Int):List Int:=ns.map fun m=>rfor m w
def moreL (ns:List Int) (w:Int):List Int:=ns.map fun m=>rfor m w-1
def sp_rows_behind (K:PySem.W.Frag):Sp:=fun vs H Q _=>∃(m w:Int),vs=[.int m,.int w]∧1≤w∧w≤8∧Q (.int (rfor m w-1)) H
def sp_spill (K:PySem.W.Frag):Sp:=fun vs H Q _=>∃(a:Addr) (ns:List Int) (w:Int),vs=[.ref a,.int w]∧SqL K H a (ns.map V.int)∧ns.length≤200∧1≤w∧w≤8 ∧
 ∀H',Same H H'→Q (.int (moreL ns w).sum) H'
def sp_longest (K:PySem.W.Frag):Sp:=fun vs H Q _=>∃(a:Addr) (ns:List Int) (w:Int),vs=[.ref a,.int w]∧SqL K H a (ns.map V.int)∧ns ≠ []∧ns.length≤200∧1≤w∧w≤8 ∧
 ∀M t H',M∈rowsL ns w→(∀z,z∈rowsL ns w→z≤M)→H t=none→Same H H'→H' t=some (.tup [.int M,.int ((rowsL ns w).idxOf M:Nat)])→Q (.ref t) H'
theorem lo97 (c:Nat) (h1:97≤c) (h2:c≤122):(!decide ([c] < [97]))=true∧(!decide ([122] < [c]))=true:=by
 have h:∀c,c<123→97≤c→(!decide ([c] < [97]))=true∧(!decide ([122] < [c]))=true:=by decide +kernel
 exact h c (by omega) h1
theorem s_wf:¬(("wide" : Str) = "fill"):=by decide +kernel
theorem s_wh:¬(("wide" : Str) = "held"):=by decide +kernel
theorem s_fh:¬(("fill" : Str) = "held"):=by decide +kernel
def tfl (w f:Int) (d:Addr):List (Str×V):=putF "held" (.ref d) (putF "fill" (.int f) (putF "wide" (.int w) []))
theorem tfl_held {w f:Int}{d:Addr}:(tfl w f d).lookup ("held" : Str)=some (.ref d):=by
 unfold tfl;rw[lookup_putF,if_pos rfl]
theorem tfl_fill {w f:Int}{d:Addr}:(tfl w f d).lookup ("fill" : Str)=some (.int f):=by
 unfold tfl;rw[lookup_putF,if_neg s_fh,lookup_putF,if_pos rfl]
theorem tfl_wide {w f:Int}{d:Addr}:(tfl w f d).lookup ("wide" : Str)=some (.int w):=by
 unfold tfl;rw[lookup_putF,if_neg s_wh,lookup_putF,if_neg s_wf,lookup_putF,if_pos rfl]
theorem tfl_no {w f:Int}{d:Addr}{m:Str}(h1:¬ m = "held") (h2:¬ m = "fill") (h3:¬ m = "wide"):(tfl w f d).lookup m=none:=by
 unfold tfl
 rw[lookup_putF,if_neg h1,lookup_putF,if_neg h2,lookup_putF,if_neg h3]
 all_goals rfl
def eV (es:List (Int×Str)):List (Key×V):=(es.map vE).map kf
theorem eV_len {es:List (Int×Str)}:(eV es).length=es.length:=by unfold eV;rw[List.length_map,List.length_map]
theorem eV_keys {es:List (Int×Str)}:(eV es).map (fun kv=>kV kv.1) =(es.map (·.1)).map V.int:=by
 unfold eV;rw[List.map_map,List.map_map,List.map_map];rfl
def okT (es:List (Int×Str)):Prop:=(es.map (·.1)).Nodup∧(∀e∈es,0≤e.1∧e.1<1152921504606846976∧nm e.2)∧es.length≤64
structure Tab (CT:Addr) (H:Hp) (p d:Addr) (w f:Int) (es:List (Int×Str)):Prop where
 ob:∃dx,H p=some (.ins CT dx (tfl w f d))
 dc:H d=some (.dK (eV es))
 ok:okT es
 sz:1≤w∧w≤8∧1≤f∧f≤8
theorem Tab.same {CT:Addr}{H H':Hp}{p d:Addr}{w f:Int}{es:List (Int×Str)}(s:Same H H') (t:Tab CT H p d w f es):Tab CT H' p d w f es:=by
 obtain⟨dx,h⟩:=t.ob
 exact⟨⟨dx,s _ _ h⟩,s _ _ t.dc,t.ok,t.sz⟩
theorem Tab.ne {CT:Addr}{H:Hp}{p d:Addr}{w f:Int}{es:List (Int×Str)}(t:Tab CT H p d w f es):p≠d:=by
 obtain⟨dx,h⟩:=t.ob
 exact ne_of h t.dc (by intro z;cases z)
def rmT (es:List (Int×Str)) (f:Int):Nat:=(rfor es.length f).toNat
theorem rfor_b {m f:Int}(f1:1≤f) (m0:0≤m):1≤rfor m f∧rfor m f≤m+1:=by
 obtain⟨g1,g2,g3⟩:=up_div (g:=rfor m f) (w:=f) (m:=m) f1 m0 rfl
 refine⟨g1,?_⟩
 rcases g3 with z|z
 ·omega
 ·by_cases q:rfor m f≤m+1
  ·exact q
  ·have:(1:Int)*(rfor m f-1)≤f*(rfor m f-1):=Int.mul_le_mul_of_nonneg_right (by omega) (by omega)
   omega
theorem rmT_eq {es:List (Int×Str)}{f:Int}(f1:1≤f):rfor es.length f =(rmT es f:Int)∧1≤rmT es f∧rmT es f≤es.length+1:=by
 have:=rfor_b (m:=es.length) f1 (by omega)
 unfold rmT
 omega
theorem rfor_step {m f:Int}(f1:1≤f) (m0:0≤m):rfor (m+1) f=rfor m f∨rfor (m+1) f=rfor m f+1:=by
 obtain⟨g1,g2,g3⟩:=up_div (g:=rfor m f) (w:=f) (m:=m) f1 m0 rfl
 obtain⟨h1,h2,h3⟩:=up_div (g:=rfor (m+1) f) (w:=f) (m:=m+1) f1 (by omega) rfl
 generalize rfor m f=a at *
 generalize rfor (m+1) f=b at *
 by_cases c:b<a
 ·exfalso
  have:f*b≤f*(a-1):=Int.mul_le_mul_of_nonneg_left (by omega) (by omega)
  rcases g3 with z|z <;> omega
 ·by_cases e:a+1<b
  ·exfalso
   have:f*(a+1)≤f*(b-1):=Int.mul_le_mul_of_nonneg_left (by omega) (by omega)
   have e2:f*(a+1)=f*a+f:=by rw[Int.mul_add,Int.mul_one]
   rcases h3 with z|z <;> omega
  ·omega
def putE (es:List (Int×Str)) (k:Int) (z:Str):List (Int×Str):=if (es.any fun e=>decide (e.1=k))=true then es.map (fun e=>if e.1=k then(e.1,z) else e) else es ++ [(k,z)]
theorem putE_V {es:List (Int×Str)}{k:Int}{z:Str}:putK (eV es) (Sum.inl k:Key) (.str z)=eV (putE es k z):=by
 unfold eV
 rw[putI_map]
 congr 1
 unfold putI putE
 have e:((es.map vE).any fun e=>decide (e.1=k))=es.any fun e=>decide (e.1=k):=by
  rw[List.any_map];rfl
 rw[e]
 split
 ·rw[List.map_map,List.map_map]
  apply List.map_congr_left
  intro x _
  by_cases c:x.1=k
  ·simp[vE,c]
  ·simp[vE,c]
 ·rw[List.map_append];rfl
theorem any_key {es:List (Int×Str)}{k:Int}:(es.any fun e=>decide (e.1=k))=true↔k∈es.map (·.1):=by
 rw[List.any_eq_true,List.mem_map]
 constructor
 ·rintro⟨e,h1,h2⟩;exact⟨e,h1,of_decide_eq_true h2⟩
 ·rintro⟨e,h1,h2⟩;exact⟨e,h1,decide_eq_true h2⟩
theorem putE_keys {es:List (Int×Str)}{k:Int}{z:Str}:(putE es k z).map (·.1)=if k∈es.map (·.1) then es.map (·.1) else es.map (·.1) ++ [k]:=by
 unfold putE
 by_cases c:k∈es.map (·.1)
 ·rw[if_pos (any_key.mpr c),if_pos c,List.map_map]
  apply List.map_congr_left
  intro e _
  by_cases d:e.1=k <;> simp[d]
 ·rw[if_neg (fun h=>c (any_key.mp h)),if_neg c,List.map_append];rfl
theorem putE_len {es:List (Int×Str)}{k:Int}{z:Str}:(putE es k z).length=if k∈es.map (·.1) then es.length else es.length+1:=by
 have:=congrArg List.length (putE_keys (es:=es) (k:=k) (z:=z))
 rw[List.length_map]at this
 rw[this]
 split
 ·rw[List.length_map]
 ·rw[List.length_append,List.length_map];rfl
theorem putE_ok {es:List (Int × Str)} {k:Int} {z:Str} (h:okT es) (k0:0 ≤ k) (k1:k < 1152921504606846976) (hz:nm z) (hl:k ∈ es.map (·.1) ∨ es.length < 64) : okT (putE es k z):=by
  refine ⟨?_,fun e he=>?_,?_⟩
  · rw [putE_keys]
    split
    · exact h.1
    · rename_i c
      rw [List.nodup_append]
      exact ⟨h.1, by simp, fun a ha b hb e => c (by have : b = k := by simpa using hb
                                                    rw [← this,← e]; exact ha)⟩
  · unfold putE at he
    split at he
    · obtain ⟨x,hx,rfl⟩:=List.mem_map.mp he
      have:=h.2.1 x hx
      split
      · exact ⟨this.1,this.2.1,hz⟩
      · exact this
    · rcases List.mem_append.mp he with w | w
      · exact h.2.1 e w
      · rw [List.mem_singleton.mp w]; exact ⟨k0,k1,hz⟩
  · rw [putE_len]
    have:=h.2.2
    split
    · omega
    · rename_i c
      rcases hl with z | z
      · exact absurd z c
      · omega
theorem find_some {es:List (Int×Str)}{k:Int}:(L2.valV (eV es) (Sum.inl k:Key)).isSome=decide (k∈es.map (·.1)):=by
 by_cases c:k∈es.map (·.1)
 ·rw[decide_eq_true c]
  unfold eV
  rw[valI_some (by rw[List.map_map];exact c)];rfl
 ·rw[decide_eq_false c]
  unfold L2.valV
  rw[Option.isSome_map]
  cases e:(eV es).find? fun kv=>decide (kv.1 =(Sum.inl k:Key)) with
  | none=>rfl
  | some p =>
   exfalso
   have h1:=List.mem_of_find?_eq_some e
   have h2:p.1=Sum.inl k:=by simpa using List.find?_some e
   unfold eV at h1
   obtain⟨q,hq,rfl⟩:=List.mem_map.mp h1
   obtain⟨x,hx,rfl⟩:=List.mem_map.mp hq
   exact c (List.mem_map.mpr ⟨x,hx,Sum.inl.inj h2⟩)
def thE (es:List (Int×Str)) (k:Int):Str:=((es.find? fun e=>decide (e.1=k)).map (·.2)).getD ⟨#[]⟩
def Kd (H H':Hp) (d:Addr):Prop:=∀b o,b≠d→H b=some o→H' b=some o
def sp_Table___init__ (K:PySem.W.Frag) (CT:Addr):Sp:=fun vs H Q _=>∃(p dx:Addr) (w f:Int),vs=[.ref p,.int w,.int f]∧H p=some (.ins CT dx [])∧1≤w∧w≤8∧1≤f∧f≤8 ∧
 ∀(d:Addr) (H':Hp),H d=none→Tab CT H' p d w f []→(∀b o,H b=some o→b≠p→H' b=some o)→Q .non H'
def sp_Table_count (K:PySem.W.Frag) (CT:Addr):Sp:=fun vs H Q _=>∃(p d:Addr) (w f:Int) (es:List (Int×Str)),vs=[.ref p]∧Tab CT H p d w f es∧Q (.int es.length) H
def sp_Table_rooms (K:PySem.W.Frag) (CT:Addr):Sp:=fun vs H Q _=>∃(p d:Addr) (w f:Int) (es:List (Int×Str)),vs=[.ref p]∧Tab CT H p d w f es∧Q (.int (rmT es f)) H
def sp_Table_spread_keys (K:PySem.W.Frag) (CT:Addr):Sp:=fun vs H Q _=>∃(p d:Addr) (w f:Int) (es:List (Int×Str)) (R:Nat),vs=[.ref p,.int R]∧Tab CT H p d w f es∧1≤R∧R≤200 ∧
 ∀ms l H',ms.Perm (es.map (·.1))→ms.Pairwise (· ≤ ·)→H l=none→LN H H' l (spreadV ms R)→Same H H'→Q (.ref l) H'
def sp_Table_room_counts (K:PySem.W.Frag) (CT:Addr):Sp:=fun vs H Q _=>∃(p d:Addr) (w f:Int) (es:List (Int×Str)),vs=[.ref p]∧Tab CT H p d w f es ∧
 ∀ms l H',ms.Perm (es.map (·.1))→ms.Pairwise (· ≤ ·)→H l=none→H' l=some (.lst (((spreadV ms (rmT es f)).map fun r=>(r.length:Int)).map V.int))→Same H H'→Q (.ref l) H'
def sp_Table_spill (K:PySem.W.Frag) (CT:Addr):Sp:=fun vs H Q _=>∃(p d:Addr) (w f:Int) (es:List (Int×Str)),vs=[.ref p]∧Tab CT H p d w f es ∧
 ∀ms H',ms.Perm (es.map (·.1))→ms.Pairwise (· ≤ ·)→Same H H'→Q (.int (moreL ((spreadV ms (rmT es f)).map fun r=>(r.length:Int)) w).sum) H'
def sp_Table_longest (K:PySem.W.Frag) (CT:Addr):Sp:=fun vs H Q _=>∃(p d:Addr) (w f:Int) (es:List (Int×Str)),vs=[.ref p]∧Tab CT H p d w f es ∧
 ∀ms M t H',ms.Perm (es.map (·.1))→ms.Pairwise (· ≤ ·)→M∈rowsL ((spreadV ms (rmT es f)).map fun r=>(r.length:Int)) w→(∀z,z∈rowsL ((spreadV ms (rmT es f)).map fun r=>(r.length:Int)) w→z≤M)→Same H H'→H' t=some (.tup [.int M,.int ((rowsL ((spreadV ms (rmT es f)).map fun r=>(r.length:Int)) w).idxOf M:Nat)])→Q (.ref t) H'
def sp_Table_entries (K:PySem.W.Frag) (CT:Addr):Sp:=fun vs H Q _=>∃(p d:Addr) (w f:Int) (es:List (Int×Str)),vs=[.ref p]∧Tab CT H p d w f es ∧
 ∀(ps:List (Int×Str)) (ts:List Addr) (l:Addr) (H':Hp),ps.Perm es→ps.Pairwise (fun a b=>a.1≤b.1)→Same H H'→H l=none→H' l=some (.lst (ts.map V.ref))→EL H' ts ps→Q (.ref l) H'
def sp_Table_room (K:PySem.W.Frag) (CT:Addr):Sp:=fun vs H Q _=>∃(p d:Addr) (w:Nat) (f:Int) (es:List (Int×Str)) (r:Nat),vs=[.ref p,.int r]∧Tab CT H p d w f es∧r<rmT es f ∧
 ∀(ms:List Int) (ts:List Addr) (l:Addr) (H':Hp),ms.Perm (es.map (·.1))→ms.Pairwise (· ≤ ·)→Same H H'→H l=none→EL H' ts ((ms.filter fun k=>decide (roomV k (rmT es f) =(r:Int))).map fun k=>(k,thE es k))→RwsN H H' l (rowsVV (ts.map V.ref) w)→Q (.ref l) H'
def sp_Table_put (K:PySem.W.Frag) (CT:Addr):Sp:=fun vs H Q _=>∃(p d:Addr) (w f:Int) (es:List (Int×Str)) (k:Int) (z:Str),vs=[.ref p,.int k,.str z]∧Tab CT H p d w f es∧0≤k∧k<1152921504606846976∧nm z∧(k∈es.map (·.1)∨es.length<64) ∧
 (∀H',rmT (putE es k z) f=rmT es f→Tab CT H' p d w f (putE es k z)→Kd H H' d→Q .non H') ∧
 ∀(t l:Addr) (ms:List Int) (H':Hp),rmT (putE es k z) f=rmT es f+1→Tab CT H' p d w f (putE es k z)→Kd H H' d→ms.Perm ((putE es k z).map (·.1))→ms.Pairwise (· ≤ ·)→H l=none→H' t=some (.tup [.int ((rmT es f:Int)-2^lg (rmT es f)),.int (rmT es f),.ref l])→H' l=some (.lst ((ms.filter fun k=>decide (roomV k ((rmT es f+1:Nat):Int) =(rmT es f:Int))).map V.int))→Q (.ref t) H'
def cn (ks:List Int) (R r:Nat):Int:=((ks.filter fun k=>decide (roomV k R =(r:Int))).length:Nat)
def cntV (ks:List Int) (R:Nat):List Int:=(List.range R).map (cn ks R)
theorem cntV_len (ks:List Int) (R:Nat):(cntV ks R).length=R:=by unfold cntV;rw[List.length_map,List.length_range]
theorem cntV_at {ks:List Int}{R r:Nat}(h:r<R):(cntV ks R)[r]? = some (cn ks R r):=by
 unfold cntV;rw[List.getElem?_map,List.getElem?_range h];rfl
theorem spread_cnt {ms ks:List Int}{R:Nat}(p:ms.Perm ks):((spreadV ms R).map fun r=>(r.length:Int))=cntV ks R:=by
 unfold spreadV cntV
 rw[List.map_map]
 refine List.map_congr_left fun r _=>?_
 show(((ms.filter fun k=>decide (roomV k R =(r:Int))).length:Nat):Int)=cn ks R r
 unfold cn
 rw[(p.filter _).length_eq]
theorem cn_app {ks fs:List Int}{R r:Nat}:cn (ks++fs) R r=cn ks R r+cn fs R r:=by
 unfold cn;rw[List.filter_append,List.length_append];push_cast;rfl
theorem cn_one {k:Int}{R r:Nat}:cn [k] R r=if roomV k R =(r:Int) then 1 else 0:=by
 unfold cn
 rw[List.filter_cons]
 by_cases c:roomV k R =(r:Int)
 ·rw[if_pos (decide_eq_true c),if_pos c];rfl
 ·rw[if_neg (by simpa using c),if_neg c];rfl
theorem cntV_ext {ks qs:List Int}{R:Nat}(hl:qs.length=R) (h:∀r,r<R→qs[r]? = some (cn ks R r)):cntV ks R=qs:=by
 refine List.ext_getElem? fun i=>?_
 by_cases c:i<R
 ·rw[cntV_at c,h i c]
 ·rw[List.getElem?_eq_none (by rw[cntV_len];omega),List.getElem?_eq_none (by omega)]
theorem cntV_nn {ks:List Int}{R:Nat}:∀x∈cntV ks R,0≤x:=fun x hx=>by
 unfold cntV at hx
 obtain⟨r,_,rfl⟩:=List.mem_map.mp hx
 exact Int.natCast_nonneg _
theorem cntV_push {ms:List Int}{k:Int}{R j:Nat}(hj:roomV k R =(j:Int)) (h:j<R):cntV (ms ++ [k]) R =(cntV ms R).set j (cn ms R j+1):=by
 refine cntV_ext (by rw[List.length_set,cntV_len]) fun r hr=>?_
 rw[List.getElem?_set,cntV_len,cn_app,cn_one,hj]
 by_cases c:j=r
 ·subst c;rw[if_pos rfl,if_pos h,if_pos rfl]
 ·rw[if_neg c,cntV_at hr,if_neg (by omega),Int.add_zero]
theorem cntV_nil {R:Nat}:cntV [] R=List.replicate R 0:=by
 refine cntV_ext (by rw[List.length_replicate]) fun r hr=>?_
 rw[List.getElem?_replicate,if_pos hr];rfl
theorem cntV_sum {ks:List Int}{R:Nat}(h:1≤R):(cntV ks R).sum=ks.length:=by
 have key:∀i,i≤ks.length→(cntV (ks.take i) R).sum=i:=by
  intro i
  induction i with
  | zero=>intro _;rw[List.take_zero,cntV_nil];simp
  | succ i ih =>
   intro hi
   have hk:ks[i]? = some ks[i]:=List.getElem?_eq_getElem _
   have rb:=roomV_lt (k:=ks[i]) (R:=R) (by omega)
   obtain⟨j,hj,jl⟩ : ∃j:Nat,roomV ks[i] R =(j:Int)∧j<R:=⟨(roomV ks[i] R).toNat,by omega,by omega⟩
   rw[take_get hk,cntV_push hj jl,sum_set (cntV_at jl),ih (by omega)]
   push_cast;omega
 have:=key ks.length (Nat.le_refl _)
 rw[List.take_length]at this;exact this
theorem cntV_app {ks fs:List Int}{R:Nat}:cntV (ks++fs) R=List.zipWith (· + ·) (cntV ks R) (cntV fs R):=by
 refine cntV_ext (by rw[List.length_zipWith,cntV_len,cntV_len];omega) fun r hr=>?_
 rw[List.getElem?_zipWith,cntV_at hr,cntV_at hr,cn_app]
theorem spill_zip {c q:List Int}{w:Int}(h:c.length=q.length):(moreL (List.zipWith (· + ·) c q) w).sum=rowsT w c q-c.length:=by
 rw[← sum_spill h]
 unfold moreL
 rw[List.map_zipWith]
 rfl
theorem roomV_near {R r j:Nat}(h:r<R) (hR:R≤100):roomV ((r:Int)+1048576*j) R=r:=by
 have p:=pow2_pos (lg R)
 have a:=lg_le (R:=R) (by omega)
 have b:=lg_lt (R:=R) (by omega)
 have l6:lg R≤6:=by
  by_cases c:lg R≤6
  ·exact c
  ·have:=pow2_le (show 7≤lg R by omega)
   have e:(2:Int)^7=128:=by decide
   omega
 have e20:(1048576:Int)=2^lg R*2*2^(19-lg R):=by
  have:(1048576:Int)=2^20:=by decide
  rw[this,show(20:Nat)=lg R+1+(19-lg R) by omega,Int.pow_add,Int.pow_succ]
 rw[Int.pow_succ]at b
 unfold roomV
 rw[Int.pow_succ,e20]
 generalize (2:Int)^lg R=w at p a b ⊢
 generalize (2:Int)^(19-lg R)=u
 have e1:((r:Int)+w*2*u*j)%w=r%w:=by
  rw[show w*2*u*(j:Int)=w*(2*u*j) by rw[Int.mul_assoc,Int.mul_assoc,Int.mul_assoc],Int.add_mul_emod_self_left]
 have e2:((r:Int)+w*2*u*j)%(w*2)=r:=by
  rw[show w*2*u*(j:Int)=w*2*(u*j) by rw[Int.mul_assoc (w*2)],Int.add_mul_emod_self_left,Int.emod_eq_of_lt (by omega) (by omega)]
 rw[e1,e2]
 by_cases c:(r:Int)<w
 ·rw[Int.emod_eq_of_lt (by omega) c]
  split <;> rfl
 ·have e3:(r:Int)%w=r-w:=by
   rw[show(r:Int) =(r-w)+w by omega,Int.add_emod_right,Int.emod_eq_of_lt (by omega) (by omega)]
   omega
  rw[e3,if_neg (by omega)]
theorem cut_intsD {us:List Int}{k:Nat}:cutV (us.map V.int) (some (k:Int)) none =(us.drop k).map V.int:=by
 unfold cutV
 rw[HT.sIx_nat,HT.sIx_none,List.length_map,← List.map_drop]
 by_cases h:k≤us.length
 ·rw[Nat.min_eq_left h,List.take_of_length_le (by rw[List.length_map,List.length_drop];omega)]
 ·rw[List.drop_eq_nil_of_le (by omega:us.length≤min k us.length),List.drop_eq_nil_of_le (by omega:us.length≤k)]
  simp
def zA:Str:=Str.ofString "a"
theorem zA_nm:nm zA:=⟨by decide +kernel,by decide +kernel,by decide +kernel⟩
structure Fil (ks put:List Int) (R i j:Nat) (ms:List Int):Prop where
 nd:ms.Nodup
 rg:∀k∈ms,0≤k∧k<1152921504606846976
 cs:∀r,r<R→cn ms R r=cn ks R r+(if r<i then put.getD r 0 else if r=i then(j:Int) else 0)
 ln:(ms.length:Int)=ks.length+(put.take i).sum+j
theorem Fil.next {ks put ms:List Int}{R i j:Nat}(f:Fil ks put R i j ms) (h:put[i]? = some (j:Int)):Fil ks put R (i+1) 0 ms:=by
 refine⟨f.nd,f.rg,fun r hr=>?_,?_⟩
 ·rw[f.cs r hr]
  by_cases c:r<i
  ·rw[if_pos c,if_pos (by omega)]
  ·by_cases d:r=i
   ·subst d
    rw[if_neg c,if_pos rfl,if_pos (by omega),List.getD_eq_getElem?_getD,h];rfl
   ·rw[if_neg c,if_neg d,if_neg (by omega)];split <;> rfl
 ·rw[f.ln,take_get h,List.sum_append];simp;omega
theorem Fil.push {ks put ms:List Int}{R i j n:Nat}(f:Fil ks put R i j ms) (hi:i<R) (hR:R≤100) (h:(i:Int)+1048576*n∉ms) (hn:n≤200):Fil ks put R i (j+1) (ms ++ [(i:Int)+1048576*n]):=by
 refine⟨?_,fun k hk=>?_,fun r hr=>?_,?_⟩
 ·rw[List.nodup_append]
  exact⟨f.nd,by simp,fun x hx y hy e=>h (by rw[← List.mem_singleton.mp hy,← e];exact hx)⟩
 ·rcases List.mem_append.mp hk with m|m
  ·exact f.rg k m
  ·rw[List.mem_singleton.mp m];omega
 ·rw[cn_app,cn_one,f.cs r hr,roomV_near hi hR]
  by_cases c:r<i
  ·rw[if_pos c,if_pos c,if_neg (by omega)];omega
  ·by_cases d:r=i
   ·subst d
    rw[if_neg c,if_pos rfl,if_neg c,if_pos rfl,if_pos rfl];push_cast;omega
   ·rw[if_neg c,if_neg d,if_neg c,if_neg d,if_neg (by omega)];omega
 ·rw[List.length_append]
  have:=f.ln
  have:[(i:Int)+1048576*n].length=1:=rfl
  push_cast
  omega
theorem Fil.all {ks put ms:List Int}{R:Nat}(f:Fil ks put R R 0 ms) (hp:put.length=R):cntV ms R=List.zipWith (· + ·) (cntV ks R) put∧(ms.length:Int)=ks.length+put.sum:=by
 refine⟨cntV_ext (by rw[List.length_zipWith,cntV_len];omega) fun r hr=>?_,?_⟩
 ·have hq:put[r]? = some put[r]:=List.getElem?_eq_getElem _
  rw[List.getElem?_zipWith,cntV_at hr,hq,f.cs r hr,if_pos hr,List.getD_eq_getElem?_getD,hq];rfl
 ·have:=f.ln
  rw[List.take_of_length_le (by omega)]at this;omega
theorem near_len {ms:List Int}{i n:Nat}(h:∀m:Nat,1≤m→m≤n→(i:Int)+1048576*m∈ms):n≤ms.length:=by
 have hn:((List.range n).map fun(m:Nat)=>(i:Int)+1048576*((m+1:Nat):Int)).Nodup:=by
  rw[List.nodup_iff_pairwise_ne,List.pairwise_map]
  refine List.Pairwise.imp_of_mem ?_ List.nodup_range
  intro a b _ _ hab e
  omega
 have:=sub_len hn fun x hx=>by
  obtain⟨m,hm,rfl⟩:=List.mem_map.mp hx
  exact h (m+1) (by omega) (by have:=List.mem_range.mp hm;omega)
 rw[List.length_map,List.length_range]at this
 exact this
theorem take_sum_le {p:List Int}(h:∀x∈p,0≤x) (i:Nat):(p.take i).sum≤p.sum∧∀z,p[i]? = some z→(p.take i).sum+z≤p.sum:=by
 have e:p.sum =(p.take i).sum+(p.drop i).sum:=by rw[← List.sum_append,List.take_append_drop]
 have d:=sum_nn fun x (hx:x∈p.drop i)=>h x (List.mem_of_mem_drop hx)
 refine⟨by omega,fun z hz=>?_⟩
 have e2:p.sum =(p.take (i+1)).sum+(p.drop (i+1)).sum:=by rw[← List.sum_append,List.take_append_drop]
 have d2:=sum_nn fun x (hx:x∈p.drop (i+1))=>h x (List.mem_of_mem_drop hx)
 rw[take_get hz,List.sum_append]at e2
 simp at e2
 omega
def sp_outlook (K:PySem.W.Frag):Sp:=fun vs H Q _=>∃(a:Addr) (w f more:Int) (ks:List Int) (R:Nat),vs=[.ref a,.int w,.int f,.int more]∧H a=some (.lst (ks.map V.int))∧rfor (ks.length+more) f =(R:Int)∧ks.length+more≤64∧0≤more∧1≤w∧w≤8∧1≤f∧f≤8∧TB_cheap_rooms K H ∧
 ∀(t:Addr) (H':Hp),(∃p,Best w (cntV ks R) more p)→H t=none→H' t=some (.tup [.int R,.int (rowsT w (cntV ks R) (leastV w (cntV ks R) more)-R),.int (greatV w (cntV ks R) more)])→Sm H H'→TB_cheap_rooms K H'→Q (.ref t) H'
def sp__law_table (K:PySem.W.Frag) (CT:Addr):Sp:=fun vs H Q _=>∃(a:Addr) (w f:Int) (ks:List Int),vs=[.ref a,.int w,.int f]∧H a=some (.lst (ks.map V.int))∧ks.Nodup∧(∀k∈ks,0≤k∧k<1152921504606846976)∧ks.length≤64∧1≤w∧w≤8∧1≤f∧f≤8 ∧
 ∀(p d:Addr) (H':Hp),H p=none→Same H H'→Tab CT H' p d w f (ks.map fun k=>(k,zA))→Q (.ref p) H'
def sp__law_filled (K:PySem.W.Frag):Sp:=fun vs H Q _=>∃(a b:Addr) (ks put:List Int),vs=[.ref a,.ref b]∧H a=some (.lst (ks.map V.int))∧H b=some (.lst (put.map V.int))∧ks.Nodup∧(∀k∈ks,0≤k∧k<1152921504606846976)∧(∀x∈put,0≤x)∧1≤put.length∧put.length≤100∧ks.length+put.sum≤64 ∧
 ∀(l:Addr) (ms:List Int) (H':Hp),H l=none→H' l=some (.lst (ms.map V.int))→ms.Nodup→(∀k∈ms,0≤k∧k<1152921504606846976)→cntV ms put.length=List.zipWith (· + ·) (cntV ks put.length) put→(ms.length:Int)=ks.length+put.sum→Same H H'→Q (.ref l) H'
def sp__law_right (K:PySem.W.Frag) (CT:Addr):Sp:=fun vs H Q _=>∃(a b:Addr) (w f:Int) (ks fs:List Int),vs=[.ref a,.ref b,.int w,.int f]∧H a=some (.lst (ks.map V.int))∧H b=some (.lst (fs.map V.int))∧(ks++fs).Nodup∧(∀k∈ks++fs,0≤k∧k<1152921504606846976)∧(ks++fs).length≤64∧1≤w∧w≤8∧1≤f∧f≤8∧TB_cheap_rooms K H ∧
 ∀(H':Hp),Sm H H'→TB_cheap_rooms K H'→Q (.bl true) H'
section
variable {P:Program}{w:World}{K:PySem.W.Frag}{mg:Str→Option Value}{base:Heap}
theorem ok_is_whole {f:Addr}{fd:FuncData}(F:Fun K "is_whole" "is_whole" s_is_whole f fd) (mF:mg "is_whole" = some (.ref f)) (bF:Binds K fd ["thing"] []) (T:Bl mg)  : Cal P w K mg base "is_whole" ["thing"] 1 (sp_is_whole K):=by
 refine Cal.of F mF bF sc_is_whole (fun vs H Q E h=>?_) (fun cdv A outer s H vs Q E hr h=>?_)
 ·obtain⟨m,rfl,_⟩:=h;rfl
 obtain⟨m,rfl,q⟩:=h
 refine⟨_,(pss_one (ps_ret (pe_and (pe_callB call_isinst rfl T.isinstance bt_isinstance (pa_cons (pv 0) (pa_cons (pe_bltn (v:=.ty "int") rfl T.int bt_int rfl) pa_nil stx_Name) stx_Name)) (pe_one (pe_not (pe_callB call_isinst rfl T.isinstance bt_isinstance (pa_cons (pv 0) (pa_cons (pe_bltn (v:=.ty "bool") rfl T.bool bt_bool rfl) pa_nil stx_Name) stx_Name))))))),?_⟩
 rw[st_is_whole]
 walk_at"rd"
 refine rd_isi (.int m) (b:=true) rfl ?_
 walk_at"rd"
 refine rd_isi (.int m) (b:=false) rfl ?_
 walk_at"rd"
 exact q
theorem ok_is_key {f:Addr}{fd:FuncData}(F:Fun K "is_key" "is_key" s_is_key f fd) (mF:mg "is_key" = some (.ref f)) (bF:Binds K fd ["thing"] []) (T:Bl mg) (C_is_whole:Cal P w K mg base "is_whole" ["thing"] 1 (sp_is_whole K)):Cal P w K mg base "is_key" ["thing"] 2 (sp_is_key K):=by
 refine Cal.of F mF bF sc_is_key (fun vs H Q E h=>?_) (fun cdv A outer s H vs Q E hr h=>?_)
 ·obtain⟨m,rfl,_⟩:=h;rfl
 obtain⟨m,rfl,h0,h1,q⟩:=h
 refine⟨_,(pss_one (ps_ret (pe_and (pcl C_is_whole (hr.mono (by decide)) (pa_cons (pv 0) pa_nil stx_Name)) (pe_one (pe_chain op_le op_lt pe_int (pv 0) (pe_powC (c:=1152921504606846976) (by decide +kernel) ⟨by decide,by decide,by decide⟩)))))),?_⟩
 rw[st_is_key]
 walk_at"rd"
 refine⟨m,rfl,?_⟩
 walk_at"rd"
 rw[decide_eq_true h0]
 walk_at"rd"
 rw[decide_eq_true h1]
 exact q
theorem ok_is_name {f:Addr}{fd:FuncData}(F:Fun K "is_name" "is_name" s_is_name f fd) (mF:mg "is_name" = some (.ref f)) (bF:Binds K fd ["thing"] []) (T:Bl mg)  : Cal P w K mg base "is_name" ["thing"] 1 (sp_is_name K):=by
 refine Cal.of F mF bF sc_is_name (fun vs H Q E h=>?_) (fun cdv A outer s H vs Q E hr h=>?_)
 ·obtain⟨z,rfl,_⟩:=h;rfl
 obtain⟨z,rfl,⟨z1,z2,zc⟩,q⟩:=h
 refine⟨_,(pss_one (ps_ret (pe_and (pe_callB call_isinst rfl T.isinstance bt_isinstance (pa_cons (pv 0) (pa_cons (pe_bltn (v:=.ty "str") rfl T.str bt_str rfl) pa_nil stx_Name) stx_Name)) (pe_and (pe_chain op_le op_le pe_int (pe_callB call_lenS rfl T.len bt_len (pa_cons (pv 0) pa_nil stx_Name)) pe_int) (pe_one (pe_callB (call_allL rfl) rfl T.all bt_all (pa_cons (pe_comp rfl (blkOk (sc:=defScope s_is_name) (N:=["thing"]) (vs:=["sign"]) (fs:=[]) (js:=[]) (by decide +kernel) rfl rfl) (pi_str (pv 0)) (fun _ _ _ _=>pg_name (i:=0) (show(["sign"]:List Str).Nodup by decide +kernel) rfl (Or.inl rfl)) (fun _ _ _ _=>pif0) (fun _ _ _ _=>(pe_chain op_le_str op_le_str pe_str (pv 0) pe_str))) pa_nil stx_ListComp))))))),?_⟩
 rw[st_is_name]
 walk_at"rd"
 refine rd_isi (.str z) (b:=true) rfl ?_
 walk_at"rd"
 refine rd_lenS (Nat.le_of_lt (small1000 (by omega))) ?_
 walk_at"rd"
 rw[decide_eq_true (show(1:Int) ≤(z.length:Int) by omega)]
 walk_at"rd"
 rw[decide_eq_true (show(z.length:Int)≤8 by omega)]
 walk_at"rd"
 refine⟨z,rfl,fun D nD=>?_⟩
 refine comp_str (fun i σ' ys H'=>(∃x,σ'=[x])∧i≤z.length∧ys=List.replicate i (V.bl true)∧Same H H'∧H' D=some (.lst ys)) D ?_ ?_ ?_
 ·exact⟨⟨_,rfl⟩,Nat.zero_le _,rfl,same_new nD _,upd_same⟩
 ·rintro i c σ' ys H' hi ⟨⟨y,rfl⟩,il,rfl,g1,g2⟩
  obtain⟨c1,c2⟩:=zc c (Array.mem_of_getElem? hi)
  have il2:i<z.length:=(Array.getElem?_eq_some_iff.mp hi).1
  obtain⟨d1,d2⟩:=lo97 c c1 c2
  walk_at"rd"
  rw[show((⟨#[c]⟩ : Str).cps.toList)=[c] from rfl,show((Str.ofString "a").cps.toList)=[97] by decide +kernel,d1]
  walk_at"rd"
  rw[show((⟨#[c]⟩ : Str).cps.toList)=[c] from rfl,show((Str.ofString "z").cps.toList)=[122] by decide +kernel,d2]
  refine⟨g2,by rw[List.length_replicate];exact small1000 (by omega),⟨_,rfl⟩,by omega,by rw[List.replicate_succ'],fun b o e=>?_,upd_same⟩
  rw[upd_ne (ne_of_none e nD)];exact g1 _ _ e
 ·rintro σ' ys H' ⟨⟨y,rfl⟩,_,rfl,g1,g2⟩
  walk_at"rd"
  rw[show List.replicate z.cps.size (V.bl true) =(List.replicate z.cps.size true).map V.bl by rw[List.map_replicate]]at g2
  refine rd_allL (SqL.of g2) ?_
  rw[List.all_replicate]
  simp
  exact q _ g1
theorem ok_is_size {f:Addr}{fd:FuncData}(F:Fun K "is_size" "is_size" s_is_size f fd) (mF:mg "is_size" = some (.ref f)) (bF:Binds K fd ["thing"] []) (T:Bl mg) (C_is_whole:Cal P w K mg base "is_whole" ["thing"] 1 (sp_is_whole K)):Cal P w K mg base "is_size" ["thing"] 2 (sp_is_size K):=by
 refine Cal.of F mF bF sc_is_size (fun vs H Q E h=>?_) (fun cdv A outer s H vs Q E hr h=>?_)
 ·obtain⟨m,rfl,_⟩:=h;rfl
 obtain⟨m,rfl,h0,h1,q⟩:=h
 refine⟨_,(pss_one (ps_ret (pe_and (pcl C_is_whole (hr.mono (by decide)) (pa_cons (pv 0) pa_nil stx_Name)) (pe_one (pe_chain op_le op_le pe_int (pv 0) pe_int))))),?_⟩
 rw[st_is_size]
 walk_at"rd"
 refine⟨m,rfl,?_⟩
 walk_at"rd"
 rw[decide_eq_true h0]
 walk_at"rd"
 rw[decide_eq_true h1]
 exact q
theorem ok_rows_for {f:Addr}{fd:FuncData}(F:Fun K "rows_for" "rows_for" s_rows_for f fd) (mF:mg "rows_for" = some (.ref f)) (bF:Binds K fd ["many", "wide"] []) (T:Bl mg)  : Cal P w K mg base "rows_for" ["many", "wide"] 1 (sp_rows_for K):=by
 refine Cal.of F mF bF sc_rows_for (fun vs H Q E h=>?_) (fun cdv A outer s H vs Q E hr h=>?_)
 ·obtain⟨m,w,rfl,_⟩:=h;rfl
 obtain⟨m,w,rfl,h1,h2,q⟩:=h
 refine⟨_,(pss_one (ps_ret (pe_callB (call_maxI rfl) rfl T.max bt_max (pa_cons pe_int (pa_cons (pe_op op_fdivB (pe_op op_sub (pe_op op_add (pv 0) (pv 1)) pe_int) (pv 1)) pa_nil stx_BinOp) stx_Constant)))),?_⟩
 rw[st_rows_for]
 walk_at"rd"
 exact q
theorem ok_rows_behind {f:Addr}{fd:FuncData}(F:Fun K "rows_behind" "rows_behind" s_rows_behind f fd) (mF:mg "rows_behind" = some (.ref f)) (bF:Binds K fd ["many", "wide"] []) (T:Bl mg) (C_rows_for:Cal P w K mg base "rows_for" ["many", "wide"] 1 (sp_rows_for K)):Cal P w K mg base "rows_behind" ["many", "wide"] 2 (sp_rows_behind K):=by
 refine Cal.of F mF bF sc_rows_behind (fun vs H Q E h=>?_) (fun cdv A outer s H vs Q E hr h=>?_)
 ·obtain⟨m,w,rfl,_⟩:=h;rfl
 obtain⟨m,w,rfl,h1,h2,q⟩:=h
 refine⟨_,(pss_one (ps_ret (pe_op op_sub (pcl C_rows_for (hr.mono (by decide)) (pa_cons (pv 0) (pa_cons (pv 1) pa_nil stx_Name) stx_Name)) pe_int))),?_⟩
 rw[st_rows_behind]
 walk_at"rd"
 refine⟨m,w,rfl,h1,h2,?_⟩
 walk_at"rd"
 exact q
theorem ok_greatest_spill {f:Addr}{fd:FuncData}(F:Fun K "greatest_spill" "greatest_spill" s_greatest_spill f fd) (mF:mg "greatest_spill" = some (.ref f)) (bF:Binds K fd ["counts", "wide", "more"] []) (T:Bl mg) (C_cheap_rooms:Cal P w K mg base "cheap_rooms" ["counts", "wide"] 6 (sp_cheap_rooms K)) (C_gap:Cal P w K mg base "gap" ["many", "wide"] 2 (sp_gap K)) (C_spill_behind:Cal P w K mg base "spill_behind" ["counts", "wide", "put"] 3 (sp_spill_behind K)):Cal P w K mg base "greatest_spill" ["counts", "wide", "more"] 7 (sp_greatest_spill K):=by
 refine Cal.of F mF bF sc_greatest_spill (fun vs H Q E h=>?_) (fun cdv A outer s H vs Q E hr h=>?_)
 ·obtain⟨a,w,more,cs,rfl,_⟩:=h;rfl
 obtain⟨a,w,more,cs,rfl,ha,hne,hz,c0,w1,w2,m0,tb,q⟩:=h
 have cpos:=List.length_pos_iff.mpr hne
 refine⟨_,(pss_cons (ps_set (i:=3) sc_greatest_spill.nd rfl (Or.inl rfl) (pe_op op_rep (pe_lst (pa_cons pe_int pa_nil stx_Constant)) (pe_callB call_lenL rfl T.len bt_len (pa_cons (pv 0) pa_nil stx_Name))))
   (pss_cons (ps_set (i:=4) sc_greatest_spill.nd rfl (Or.inl rfl) (pv 2))
   (pss_cons (ps_set (i:=5) sc_greatest_spill.nd rfl (Or.inl rfl) (pcl C_cheap_rooms (hr.mono (by decide)) (pa_cons (pv 0) (pa_cons (pv 1) pa_nil stx_Name) stx_Name)))
   (pss_cons (ps_for PassesOwn.never rfl (pi_list (pv 5)) (pg_name (i:=6) sc_greatest_spill.nd rfl (Or.inl rfl)) (pss_cons (ps_set (i:=7) sc_greatest_spill.nd rfl (Or.inl rfl) (pcl C_gap (hr.mono (by decide)) (pa_cons (pe_ix ix_list (pv 0) (pv 6) (fun _ _=>rfl)) (pa_cons (pv 1) pa_nil stx_Name) stx_Subscript)))
   (pss_one (ps_if (pt_cmpR op_le (pv 7) (pv 4) (nomark _)) (pss_cons (ps_asg (pv 7) (pg_sub (pv 3) (pv 6) set_list))
   (pss_one (ps_aug (i:=4) sc_greatest_spill.nd rfl (Or.inl rfl) (pv 7) ip_sub))) pss_nil))))
   (pss_cons (ps_augS (pv 3) (pe_ix ix_list (pv 5) pe_int (fun _ _=>rfl)) get_list (pv 4) ip_add set_list)
   (pss_one (ps_ret (pe_tup (pa_cons (pcl C_spill_behind (hr.mono (by decide)) (pa_cons (pv 0) (pa_cons (pv 1) (pa_cons (pv 3) pa_nil stx_Name) stx_Name) stx_Name)) (pa_cons (pv 3) pa_nil stx_Name) stx_Call))))))))),?_⟩
 rw[st_greatest_spill]
 walk_at"rd"
 refine⟨by decide,fun o no=>?_⟩
 generalize hE:upd H o _=H0
 obtain⟨ho,s0⟩:=newo no hE
 clear hE
 have ha0:=s0 _ _ ha
 walk_at"rd"
 rw[List.length_map]
 refine⟨o,_,_,rfl,rfl,ho,by omega,by omega,?_,fun D nD=>?_⟩
 ·rw[Int.toNat_natCast]
  exact Nat.le_of_lt (small1000 (by simp;omega))
 generalize hE:upd H0 D _=H1
 obtain⟨hD,s1⟩:=newo nD hE
 clear hE
 have erep:(List.replicate (cs.length:Int).toNat [V.int 0]).flatten =(List.replicate cs.length (0:Int)).map V.int:=by
  rw[Int.toNat_natCast]
  generalize cs.length=n
  induction n with
  | zero=>rfl
  | succ n ih=>rw[List.replicate_succ,List.replicate_succ,List.flatten_cons,ih];rfl
 rw[erep]at hD
 have nDH:H D=none:=s0.free nD
 have ha1:=s1 _ _ ha0
 walk_at"rd"
 refine⟨a,w,cs,rfl,ha1,hz,w1,w2,tb.same (s0.trans s1),fun ms l H2 hch nl hl sm2 tb2=>?_⟩
 have ha2:=sm2.lst ha1
 have hD2:=sm2.lst hD
 have sH2:Sm H H2:=(s0.trans s1).sm.trans sm2
 have lD:l≠D:=fun e=>by rw[e,hD]at nl;cases nl
 have aD:a≠D:=fun e=>by rw[e,nDH]at ha;cases ha
 have nlH:H l=none:=(s0.trans s1).free nl
 have valid:∀z∈ms,∃(i:Nat) (b:Int),z =(i:Int)∧cs[i]? = some b:=by
  intro z hz'
  rcases hch with⟨m1,_,_⟩|⟨_,e⟩
  ·obtain⟨i,b,e,h1,_⟩:=roomsFrom_mem (m1.mem_iff.mp hz')
   exact⟨i,b,by rw[e];congr 1;omega,h1⟩
  ·rw[e]at hz'
   have:z=0:=by simpa using hz'
   exact⟨0,cs[0],this,List.getElem?_eq_getElem cpos⟩
 have mne:ms ≠ []:=by
  rcases hch with⟨_,_,h⟩|⟨_,e⟩
  ·exact h
  ·rw[e];simp
 walk_at"rd"
 refine⟨l,rfl,⟨_,SqL.of hl⟩,?_⟩
 refine for_listO (xs:=ms.map V.int) (fun i σ H'=>∃put left,(ms.take i).foldl (stepG w cs) (List.replicate cs.length 0,more) =(put,left)∧(∃x1 x2,σ=[some (.ref a),some (.int w),some (.int more),some (.ref D),some (.int left),some (.ref l),x1,x2])∧H' D=some (.lst (put.map V.int))∧∀b o,H2 b=some o→b≠D→H' b=some o) ⟨_,_,rfl,⟨none,none,rfl⟩,hD2,fun _ _ e _=>e⟩ (fun i σ' H' _ h=>by obtain⟨p,l',_,_,_,k⟩:=h;exact SqL.of (k _ _ hl lD)) ?_ ?_
 ·rintro i x σ H3 hx ⟨put,left,hf,⟨x1,x2,rfl⟩,hD3,k3⟩
  obtain⟨z,hz',rfl⟩:=ints_get hx
  obtain⟨j,b,rfl,hb⟩:=valid z (List.mem_of_getElem? hz')
  have ha3:=k3 _ _ ha2 aD
  have jl:=(List.getElem?_eq_some_iff.mp hb).1
  have pl:put.length=cs.length:=by
   have:=fold_len (w:=w) (c:=cs) (ms:=ms.take i) (pl:=(List.replicate cs.length 0,more))
   rw[hf,List.length_replicate]at this;exact this
  have fs:(ms.take (i+1)).foldl (stepG w cs) (List.replicate cs.length 0,more)=stepG w cs (put,left) (j:Int):=by
   rw[take_get hz',List.foldl_append,hf];rfl
  have ix:ixN (put.map V.int).length (j:Int)=some j:=by
   unfold ixN
   rw[if_pos (by omega),if_pos (by rw[List.length_map];omega),Int.toNat_natCast]
  walk_at"rd"
  refine rd_ixL (SqL.of ha3) (v:=.int b) (at_int hb) ?_
  walk_at"rd"
  refine⟨b,w,rfl,w1,w2,?_⟩
  walk_at"rd"
  refine rd_if (fun c=>?_) (fun c=>?_)
  ·walk_at"rd"
   refine rd_setL hD3 ix ?_
   walk_at"rd"
   refine⟨put.set j (gapV w b),left-gapV w b,?_,⟨_,_,rfl⟩,?_,fun b' o' e n=>by rw[upd_ne n];exact k3 _ _ e n⟩
   ·rw[fs]
    unfold stepG
    rw[atR_of hb,if_pos (show gapV w b≤left from c),Int.toNat_natCast]
   ·rw[upd_same,List.map_set];rfl
  ·walk_at"rd"
   refine⟨put,left,?_,⟨_,_,rfl⟩,hD3,k3⟩
   rw[fs]
   unfold stepG
   rw[atR_of hb,if_neg (show ¬ gapV w b≤left from c)]
 ·rintro σ H3 ⟨put,left,hf,⟨x1,x2,rfl⟩,hD3,k3⟩
  rw[List.length_map,List.take_length]at hf
  obtain⟨z,r,rfl⟩ : ∃z r,ms=z::r:=by
   cases ms with
   | nil=>exact absurd rfl mne
   | cons z r=>exact⟨z,r,rfl⟩
  obtain⟨j,b,rfl,hb⟩:=valid z List.mem_cons_self
  have jl:=(List.getElem?_eq_some_iff.mp hb).1
  have pl:put.length=cs.length:=by
   have:=fold_len (w:=w) (c:=cs) (ms:=(j:Int)::r) (pl:=(List.replicate cs.length 0,more))
   rw[hf,List.length_replicate]at this;exact this
  obtain⟨x,hx⟩ : ∃x,put[j]? = some x:=⟨_,List.getElem?_eq_getElem (by omega)⟩
  have ix:ixN (put.map V.int).length (j:Int)=some j:=by
   unfold ixN
   rw[if_pos (by omega),if_pos (by rw[List.length_map];omega),Int.toNat_natCast]
  have bst:Best w cs more (put.set j (x+left)):=by
   rcases hch with⟨m1,m2,_⟩|⟨e1,e2⟩
   ·have:=great_ok w1 c0 m0 m1 m2 hf (z:=(j:Int)) rfl (by rw[Int.toNat_natCast];exact hx)
    rw[Int.toNat_natCast]at this;exact this
   ·have ej:(j:Int)=0:=(List.cons.inj e2).1
    have er:r=[]:=(List.cons.inj e2).2
    have ej2:j=0:=by omega
    subst ej2 er
    exact great_zero w1 (roomsFrom_nil c0 e1) hne m0 hf hx
  have hl3:=k3 _ _ hl lD
  have ha3:=k3 _ _ ha2 aD
  walk_at"rd"
  refine rd_ixL (SqL.of hl3) (v:=.int j) at_zero ?_
  walk_at"rd"
  refine rd_ixL (SqL.of hD3) (v:=.int x) (at_int hx) ?_
  walk_at"rd"
  refine rd_setL hD3 ix ?_
  generalize hE:upd H3 D _=H4
  have hD4:H4 D=some (.lst ((put.set j (x+left)).map V.int)):=by rw[← hE,upd_same,List.map_set]
  have k4:∀b o,H2 b=some o→b≠D→H4 b=some o:=fun b o e n=>by rw[← hE,upd_ne n];exact k3 _ _ e n
  clear hE
  have ha4:=k4 _ _ ha2 aD
  have sm4:Sm H H4:=⟨fun b o e n=>k4 _ _ (sH2.nt _ _ e n) (ne_of_none e nDH),fun b ps e=>by
   obtain⟨ps',e'⟩:=sH2.tb _ _ e
   exact⟨ps',k4 _ _ e' (ne_of_none e nDH)⟩⟩
  have tb4:TB_cheap_rooms K H4:=tb2.keep fun b o e hk=>k4 _ _ e (fun z=>by
   rw[z,hD2]at e
   cases e
   rcases hk with⟨ps,h⟩|h
   ·cases h
   ·cases h)
  generalize put.set j (x+left)=p at bst hD4
  walk_at"rd"
  refine⟨a,D,w,cs,p,rfl,ha4,hD4,bst.len.symm,hz,w1,w2,fun H5 s5=>?_⟩
  walk_at"rd"
  refine⟨(by show 2≤sizeLine;decide),fun t nt=>?_⟩
  have tD:t≠D:=(ne_of_none (s5 _ _ hD4) nt).symm
  generalize hE:upd H5 t _=H6
  obtain⟨ht,s6⟩:=newo nt hE
  clear hE
  exact q p t D H6 bst (sm4.free (s5.free nt)) nDH tD ht (s6 _ _ (s5 _ _ hD4)) ((sm4.trans s5.sm).trans s6.sm) ((tb4.same s5).same s6)
theorem ok_least_spill {f:Addr}{fd:FuncData}(F:Fun K "least_spill" "least_spill" s_least_spill f fd) (mF:mg "least_spill" = some (.ref f)) (bF:Binds K fd ["counts", "wide", "more"] []) (T:Bl mg) (C_spill_behind:Cal P w K mg base "spill_behind" ["counts", "wide", "put"] 3 (sp_spill_behind K)) (C_gap:Cal P w K mg base "gap" ["many", "wide"] 2 (sp_gap K)):Cal P w K mg base "least_spill" ["counts", "wide", "more"] 4 (sp_least_spill K):=by
 refine Cal.of F mF bF sc_least_spill (fun vs H Q E h=>?_) (fun cdv A outer s H vs Q E hr h=>?_)
 ·obtain⟨a,w,more,cs,rfl,_⟩:=h;rfl
 obtain⟨a,w,more,cs,rfl,ha,hne,hz,w1,w2,q⟩:=h
 refine⟨_,(pss_cons (ps_set (i:=3) sc_least_spill.nd rfl (Or.inl rfl) (pe_lst pa_nil))
   (pss_cons (ps_set (i:=4) sc_least_spill.nd rfl (Or.inl rfl) (pv 2))
   (pss_cons (ps_for PassesOwn.never rfl (pi_list (pv 0)) (pg_name (i:=5) sc_least_spill.nd rfl (Or.inl rfl)) (pss_cons (ps_set (i:=6) sc_least_spill.nd rfl (Or.inl rfl) (pe_callB (call_minI rfl) rfl T.min bt_min (pa_cons (pv 4) (pa_cons (pe_op op_sub (pcl C_gap (hr.mono (by decide)) (pa_cons (pv 5) (pa_cons (pv 1) pa_nil stx_Name) stx_Name)) pe_int) pa_nil stx_BinOp) stx_Name)))
   (pss_cons (ps_expr (pe_bm PySem.F.plainAttrs_list PySem.F.slot_list_append PySem.F.type_list_append mt_append (pv 3) (pa_cons (pv 6) pa_nil stx_Name)))
   (pss_one (ps_aug (i:=4) sc_least_spill.nd rfl (Or.inl rfl) (pv 6) ip_sub)))))
   (pss_cons (ps_augS (pv 3) pe_int get_list (pv 4) ip_add set_list)
   (pss_one (ps_ret (pe_tup (pa_cons (pcl C_spill_behind (hr.mono (by decide)) (pa_cons (pv 0) (pa_cons (pv 1) (pa_cons (pv 3) pa_nil stx_Name) stx_Name) stx_Name)) (pa_cons (pv 3) pa_nil stx_Name) stx_Call)))))))),?_⟩
 rw[st_least_spill]
 walk_at"rd"
 refine⟨by decide,fun D nD=>?_⟩
 generalize hE:upd H D _=H1
 obtain⟨hD,s1⟩:=newo nD hE
 clear hE
 walk_at"rd"
 refine⟨a,rfl,⟨_,SqL.of (s1 _ _ ha)⟩,?_⟩
 refine for_listO (xs:=cs.map V.int) (fun i σ H'=>(∃x1 x2,σ=[some (.ref a),some (.int w),some (.int more),some (.ref D),some (.int (more-(fillV w (cs.take i) more).sum)),x1,x2])∧Same H H'∧H' D=some (.lst ((fillV w (cs.take i) more).map V.int))) ⟨⟨none,none,by rw[List.take_zero,fillV,List.sum_nil,Int.sub_zero]⟩,s1,by rw[List.take_zero,fillV];exact hD⟩ (fun _ _ _ _ h=>SqL.of (h.2.1 _ _ ha)) ?_ ?_
 ·rintro i x σ H2 hx ⟨⟨x1,x2,rfl⟩,s2,hD2⟩
  obtain⟨u,hu,rfl⟩:=ints_get hx
  have il:=(List.getElem?_eq_some_iff.mp hu).1
  walk_at"rd"
  refine⟨u,w,rfl,w1,w2,?_⟩
  walk_at"rd"
  refine⟨.inl ⟨rfl,_,SqL.of hD2⟩,?_⟩
  walk_at"rd"
  refine⟨D,_,_,rfl,rfl,hD2,?_,?_⟩
  ·rw[List.length_map,fillV_len,List.length_take]
   exact small1000 (by omega)
  walk_at"rd"
  have e1:rfor u w*w+1-u-1=rfor u w*w-u:=by omega
  rw[e1]
  refine⟨⟨some (.int u),some (.int (min (more-(fillV w (cs.take i) more).sum) (rfor u w*w-u))),?_⟩,fun c o e=>?_,?_⟩
  ·rw[take_get hu,fillV_snoc,List.sum_append]
   simp only[List.sum_cons,List.sum_nil,Int.add_zero]
   rw[Int.sub_sub]
  ·rw[upd_ne (ne_of_none e nD)];exact s2 _ _ e
  ·rw[upd_same,take_get hu,fillV_snoc,List.map_append];rfl
 ·rintro σ H2 ⟨⟨x1,x2,rfl⟩,s2,hD2⟩
  have e0:cs.take (cs.map V.int).length=cs:=by rw[List.length_map,List.take_length]
  rw[e0]at hD2 ⊢
  obtain⟨x,r,hxr⟩ : ∃x r,fillV w cs more=x::r:=by
   have:=fillV_len (w:=w) (c:=cs) (l:=more)
   cases e:fillV w cs more with
   | nil=>rw[e]at this;exact absurd (List.length_eq_zero_iff.mp this.symm) hne
   | cons x r=>exact⟨x,r,rfl⟩
  have hlv:leastV w cs more =(x+(more-(fillV w cs more).sum))::r:=by unfold leastV;rw[hxr]
  have hll:cs.length =(leastV w cs more).length:=by
   have:=fillV_len (w:=w) (c:=cs) (l:=more)
   rw[hxr]at this
   rw[hlv,← this];rfl
  rw[hxr,List.map_cons]at hD2
  walk_at"rd"
  refine rd_ixL (SqL.of hD2) at_zero ?_
  walk_at"rd"
  generalize hE:upd H2 D _=H3
  have hD3:H3 D=some (.lst ((leastV w cs more).map V.int)):=by rw[← hE,upd_same,hlv];rfl
  have s3:Same H H3:=fun c o e=>by rw[← hE,upd_ne (ne_of_none e nD)];exact s2 _ _ e
  clear hE
  walk_at"rd"
  refine⟨a,D,w,cs,leastV w cs more,rfl,s3 _ _ ha,hD3,hll,hz,w1,w2,fun H4 s4=>?_⟩
  walk_at"rd"
  refine⟨(by show 2≤sizeLine;decide),fun t nt=>?_⟩
  have tD:t≠D:=(ne_of_none (s4 _ _ hD3) nt).symm
  generalize hE:upd H4 t _=H5
  obtain⟨ht,s5⟩:=newo nt hE
  clear hE
  exact q t D H5 ((s3.trans s4).free nt) nD tD ht (s5 _ _ (s4 _ _ hD3)) ((s3.trans s4).trans s5)
theorem ok_gap {f:Addr}{fd:FuncData}(F:Fun K "gap" "gap" s_gap f fd) (mF:mg "gap" = some (.ref f)) (bF:Binds K fd ["many", "wide"] []) (T:Bl mg) (C_rows_for:Cal P w K mg base "rows_for" ["many", "wide"] 1 (sp_rows_for K)):Cal P w K mg base "gap" ["many", "wide"] 2 (sp_gap K):=by
 refine Cal.of F mF bF sc_gap (fun vs H Q E h=>?_) (fun cdv A outer s H vs Q E hr h=>?_)
 ·obtain⟨m,w,rfl,_⟩:=h;rfl
 obtain⟨m,w,rfl,h1,h2,q⟩:=h
 refine⟨_,(pss_one (ps_ret (pe_op op_sub (pe_op op_add (pe_op op_mul (pcl C_rows_for (hr.mono (by decide)) (pa_cons (pv 0) (pa_cons (pv 1) pa_nil stx_Name) stx_Name)) (pv 1)) pe_int) (pv 0)))),?_⟩
 rw[st_gap]
 walk_at"rd"
 refine⟨m,w,rfl,h1,h2,?_⟩
 walk_at"rd"
 exact q
theorem ok_cheap_rooms {f:Addr}{fd:FuncData}(F:Fun K "cheap_rooms" "cheap_rooms" s_cheap_rooms f fd) (mF:mg "cheap_rooms" = some (.ref f)) (bF:Binds K fd ["counts", "wide"] []) (T:Bl mg) (LM:Lam K mg base "cheap_rooms" f fd) (C_gap:Cal P w K mg base "gap" ["many", "wide"] 2 (sp_gap K)):Cal P w K mg base "cheap_rooms" ["counts", "wide"] 6 (sp_cheap_rooms K):=by
 refine Cal.ofC F mF bF sc_cheap_rooms (fun vs H Q E h=>?_) (fun cdv A outer s H vs Q E hcd hr h=>?_)
 ·obtain⟨a,w,cs,rfl,_⟩:=h;rfl
 obtain⟨a,w,cs,rfl,ha,hz,w1,w2,tb,q⟩:=h
 obtain⟨c0,hc0,hC0⟩:=LM.code
 have hcode:=hcd.trans hc0
 refine⟨_,(pss_cons (ps_setc (i:=2) sc_cheap_rooms.nd rfl rfl rfl (blkOk (sc:=defScope s_cheap_rooms) (N:=["counts", "wide", "rooms"]) (vs:=["room"]) (fs:=["counts"]) (js:=[0]) (by decide +kernel) rfl rfl) (pi_range1 rfl T.range (pa_cons (pe_callB call_lenL rfl T.len bt_len (pa_cons (pv 0) pa_nil stx_Name)) pa_nil stx_Call)) (fun _ _ _ _=>pg_name (i:=0) (show(["room", "counts"]:List Str).Nodup by decide +kernel) rfl (Or.inl rfl)) (fun _ _ _ _=>pif1 (pt_cmpR op_gt (pe_ix (ix_listK (K:=K) rfl) (pv 1) (pv 0) (fun _ _=>rfl)) pe_int (nomark _))) (fun _ _ _ _=>(pv 0)))
   (pss_one (ps_ret (pe_orG (pe_sortL (k:=2) (P:=tbP K "cheap_rooms") (lamOk (sc:=defScope s_cheap_rooms) (N:=["counts", "wide", "rooms"]) (y := "room") (fs:=["counts", "wide"]) (js:=[0,1]) (by decide +kernel) rfl rfl) (hr.mono (by decide)) rfl T.sorted rfl (pa_cons (pv 2) pa_nil stx_Name) rfl hcode hC0 LM.bm (fun _ _ _ _ _=>(pcl C_gap ((hr.mono (j:=5) (by decide)).in1.in1.deeper _) (pa_cons (pe_ix (ix_listK (K:=K) rfl) (pv 1) (pv 0) (fun _ _=>rfl)) (pa_cons (pv 2) pa_nil stx_Name) stx_Subscript))) (fun _ _ _ _=>rfl)) (pe_one (pe_lst (pa_cons pe_int pa_nil stx_Constant))))))),?_⟩
 rw[st_cheap_rooms]
 walk_at"rd"
 rw[List.length_map]
 refine⟨_,rfl,by omega,by omega,fun D nD=>?_⟩
 rw[Int.toNat_natCast]
 refine comp_range (n:=cs.length) (fun i σ' ys H'=>(∃x,σ'=[x,some (.ref a)])∧Same H H'∧ys =(roomsFrom 0 (cs.take i)).map V.int∧H' D=some (.lst ys)) D ⟨⟨_,rfl⟩,same_new nD _,rfl,upd_same⟩ ?_ ?_
 ·rintro i σ' ys H1 hi ⟨⟨x1,rfl⟩,s1,rfl,hD⟩
  obtain⟨u,hu⟩ : ∃u,cs[i]? = some u:=⟨_,List.getElem?_eq_getElem hi⟩
  have ha1:=s1 _ _ ha
  have hl:=roomsFrom_len (c:=cs.take i) (k:=0)
  rw[List.length_take]at hl
  have es:roomsFrom 0 (cs.take (i+1))=roomsFrom 0 (cs.take i)++(if 0<u then [(i:Int)] else []):=by
   rw[take_get hu,roomsFrom_snoc,List.length_take,Nat.min_eq_left (Nat.le_of_lt hi),Nat.zero_add]
  walk_at"rd"
  refine rd_ixL (SqL.of ha1) (v:=.int u) (by rw[Int.zero_add];exact at_int hu) ?_
  walk_at"rd"
  refine rd_if (fun c=>?_) (fun c=>?_)
  ·walk_at"rd"
   refine⟨hD,by rw[List.length_map];exact small1000 (by omega),⟨_,rfl⟩,fun c o e=>?_,?_,upd_same⟩
   ·rw[upd_ne (ne_of_none e nD)];exact s1 _ _ e
   ·rw[es,if_pos c,List.map_append,Int.zero_add];rfl
  ·refine⟨⟨_,rfl⟩,s1,?_,hD⟩
   rw[es,if_neg c,List.append_nil]
 ·rintro σ' ys H1 ⟨⟨x1,rfl⟩,s1,rfl,hD⟩
  rw[List.take_length]at hD
  have hl:=roomsFrom_len (c:=cs) (k:=0)
  walk_at"rd"
  refine⟨D,roomsFrom 0 cs,fun z=>gapV w (atR cs z),rfl,SqL.of hD,by omega,tb.same s1,fun H2 s2 tb2=>⟨fun z hz R hR=>?_,fun ms l m1 m2 nl=>?_⟩⟩
  ·obtain⟨i,b,e,h1,_⟩:=roomsFrom_mem hz
   rw[Nat.zero_add]at e
   subst e
   have ha2:=s2.lst (s1 _ _ ha)
   show tCall (sp_gap K) [] E0 (tCons (tOp (rIxL K) (tVar 1) (tVar 0)) (tCons (tVar 2) tNil)) [some (.int i),some (.ref a),some (.int w)] H2 R
   walk_at"rd"
   refine rd_ixL (SqL.of ha2) (v:=.int b) (at_int h1) ?_
   walk_at"rd"
   refine⟨b,w,rfl,w1,w2,?_⟩
   dsimp only at hR
   rw[atR_of h1]at hR
   exact hR
  ·generalize hE:upd H2 l _=H3
   obtain⟨h3,s3⟩:=newo nl hE
   clear hE
   have sA:=(s1.sm.trans s2).trans s3.sm
   have tA:=tb2.same s3
   refine⟨!ms.isEmpty,.inl ⟨_,SqL.of h3,by cases ms <;> rfl⟩,?_⟩
   cases ms with
   | nil =>
    rw[if_neg (by decide)]
    walk_at"rd"
    refine⟨(by show 1≤sizeLine;decide),fun l2 nl2=>?_⟩
    generalize hE:upd H3 l2 _=H4
    obtain⟨h4,s4⟩:=newo nl2 hE
    clear hE
    exact q [0] l2 H4 (.inr ⟨List.nil_perm.mp m1,rfl⟩) (sA.free nl2) h4 (sA.trans s4.sm) (tA.same s4)
   | cons z r =>
    rw[if_pos (by rfl)]
    exact q (z::r) l H3 (.inl ⟨m1,m2,by simp⟩) (s1.free (s2.free nl)) h3 sA tA
theorem ok_spill_behind {f:Addr}{fd:FuncData}(F:Fun K "spill_behind" "spill_behind" s_spill_behind f fd) (mF:mg "spill_behind" = some (.ref f)) (bF:Binds K fd ["counts", "wide", "put"] []) (T:Bl mg) (C_rows_behind:Cal P w K mg base "rows_behind" ["many", "wide"] 2 (sp_rows_behind K)):Cal P w K mg base "spill_behind" ["counts", "wide", "put"] 3 (sp_spill_behind K):=by
 refine Cal.of F mF bF sc_spill_behind (fun vs H Q E h=>?_) (fun cdv A outer s H vs Q E hr h=>?_)
 ·obtain⟨a,b,w,cs,ps,rfl,_⟩:=h;rfl
 obtain⟨a,b,w,cs,ps,rfl,ha,hb,hl,hz,w1,w2,q⟩:=h
 refine⟨_,(pss_one (ps_ret (pe_callB (call_sumL rfl) rfl T.sum bt_sum (pa_cons (pe_comp rfl (blkOk (sc:=defScope s_spill_behind) (N:=["counts", "wide", "put"]) (vs:=["many", "comes"]) (fs:=["wide"]) (js:=[1]) (by decide +kernel) rfl rfl) (pi_zip rfl T.zip (pa_cons (pv 0) (pa_cons (pv 2) pa_nil stx_Name) stx_Name)) (fun _ _ _ _=>pg_tupK (K:=K) (n:=2) rfl rfl (pgs_cons (pg_name (i:=0) (show(["many", "comes", "wide"]:List Str).Nodup by decide +kernel) rfl (Or.inl rfl)) (pgs_cons (pg_name (i:=1) (show(["many", "comes", "wide"]:List Str).Nodup by decide +kernel) rfl (Or.inl rfl)) pgs_nil))) (fun _ _ _ _=>pif0) (fun _ _ _ _=>(pcl C_rows_behind (hr.mono (by decide)) (pa_cons (pe_op op_add (pv 0) (pv 1)) (pa_cons (pv 2) pa_nil stx_Name) stx_BinOp)))) pa_nil stx_ListComp)))),?_⟩
 rw[st_spill_behind]
 walk_at"rd"
 refine⟨a,b,rfl,⟨_,SqL.of ha⟩,⟨_,SqL.of hb⟩,fun D nD=>?_⟩
 refine comp_zip (xs:=cs.map V.int) (zs:=ps.map V.int) (fun i σ' ys H'=>(∃x y,σ'=[x,y,some (.int w)])∧Same H H'∧ys =((List.zipWith (spillF w) cs ps).take i).map V.int∧H' D=some (.lst ys)) D (by rw[List.length_map,List.length_map,hl]) ⟨⟨_,_,rfl⟩,same_new nD _,rfl,upd_same⟩ (fun i σ' ys H' _ h=>⟨SqL.of (h.2.1 _ _ ha),SqL.of (h.2.1 _ _ hb)⟩) ?_ ?_
 ·rintro i x z σ' ys H1 t hx hz' ⟨⟨x1,y1,rfl⟩,s1,rfl,hD⟩ nt
  obtain⟨u,hu,rfl⟩:=ints_get hx
  obtain⟨v,hv,rfl⟩:=ints_get hz'
  have il:=(List.getElem?_eq_some_iff.mp hu).1
  generalize hE:upd H1 t _=H2
  obtain⟨ht,s2⟩:=newo nt hE
  clear hE
  refine⟨t,_,rfl,SqT.of ht,rfl,_,_,rfl,_,_,rfl,rfl,?_⟩
  walk_at"rd"
  refine⟨u+v,w,rfl,w1,w2,?_⟩
  refine⟨s2 _ _ hD,?_,⟨_,_,rfl⟩,fun c o e=>?_,?_,upd_same⟩
  ·rw[List.length_map,List.length_take]
   exact small1000 (by omega)
  ·rw[upd_ne (ne_of_none e nD)];exact s2 _ _ (s1 _ _ e)
  ·rw[zip_take hu hv,List.map_append];rfl
 ·rintro σ' ys H1 ⟨⟨x1,y1,rfl⟩,s1,rfl,hD⟩
  rw[List.length_map,List.take_of_length_le (by rw[List.length_zipWith];omega)]at hD
  walk_at"rd"
  refine rd_sumL (SqL.of hD) ?_
  rw[sum_spill hl]
  exact q H1 s1
theorem ok_last_bits {f:Addr}{fd:FuncData}(F:Fun K "last_bits" "last_bits" s_last_bits f fd) (mF:mg "last_bits" = some (.ref f)) (bF:Binds K fd ["key", "many"] []) (T:Bl mg)  : Cal P w K mg base "last_bits" ["key", "many"] 1 (sp_last_bits K):=by
 refine Cal.of F mF bF sc_last_bits (fun vs H Q E h=>?_) (fun cdv A outer s H vs Q E hr h=>?_)
 ·obtain⟨k,m,rfl,_⟩:=h;rfl
 obtain⟨k,m,rfl,hm,q⟩:=h
 refine⟨_,(pss_one (ps_ret (pe_op op_mod (pv 0) (pe_op op_shl pe_int (pv 1))))),?_⟩
 rw[st_last_bits]
 have p:=pow2_pos m
 walk_at"rd"
 have e:(1:Int)*2^(m:Int).toNat=2^m:=by rw[Int.one_mul,Int.toNat_natCast]
 rw[e]
 walk_at"rd"
 exact q
theorem ok_level {f:Addr}{fd:FuncData}(F:Fun K "level" "level" s_level f fd) (mF:mg "level" = some (.ref f)) (bF:Binds K fd ["rooms"] []) (T:Bl mg)  : Cal P w K mg base "level" ["rooms"] 1 (sp_level K):=by
 refine Cal.of F mF bF sc_level (fun vs H Q E h=>?_) (fun cdv A outer s H vs Q E hr h=>?_)
 ·obtain⟨R,rfl,_⟩:=h;rfl
 obtain⟨R,rfl,h1,q⟩:=h
 refine⟨_,(pss_one (ps_ret (pe_op op_sub (pe_bm0 PySem.F.plainAttrs_int PySem.F.slot_int_bit_length PySem.F.type_int_bit_length mt_bitlen (pv 0)) pe_int))),?_⟩
 rw[st_level]
 walk_at"rd"
 refine⟨rfl,?_⟩
 walk_at"rd"
 rw[bits_eq h1]
 exact q
theorem ok_turn {f:Addr}{fd:FuncData}(F:Fun K "turn" "turn" s_turn f fd) (mF:mg "turn" = some (.ref f)) (bF:Binds K fd ["rooms"] []) (T:Bl mg) (C_level:Cal P w K mg base "level" ["rooms"] 1 (sp_level K)):Cal P w K mg base "turn" ["rooms"] 2 (sp_turn K):=by
 refine Cal.of F mF bF sc_turn (fun vs H Q E h=>?_) (fun cdv A outer s H vs Q E hr h=>?_)
 ·obtain⟨R,rfl,_⟩:=h;rfl
 obtain⟨R,rfl,h1,h2,q⟩:=h
 have hl:=lg_60 h1 h2
 refine⟨_,(pss_one (ps_ret (pe_op op_sub (pv 0) (pe_op op_shl pe_int (pcl C_level (hr.mono (by decide)) (pa_cons (pv 0) pa_nil stx_Name)))))),?_⟩
 rw[st_turn]
 walk_at"rd"
 refine⟨R,rfl,h1,?_⟩
 walk_at"rd"
 have e:(1:Int)*2^(lg R:Int).toNat=2^lg R:=by rw[Int.one_mul,Int.toNat_natCast]
 rw[e]
 exact q
theorem ok_bits_for {f:Addr}{fd:FuncData}(F:Fun K "bits_for" "bits_for" s_bits_for f fd) (mF:mg "bits_for" = some (.ref f)) (bF:Binds K fd ["room", "rooms"] []) (T:Bl mg) (C_level:Cal P w K mg base "level" ["rooms"] 1 (sp_level K)) (C_turn:Cal P w K mg base "turn" ["rooms"] 2 (sp_turn K)):Cal P w K mg base "bits_for" ["room", "rooms"] 3 (sp_bits_for K):=by
 refine Cal.of F mF bF sc_bits_for (fun vs H Q E h=>?_) (fun cdv A outer s H vs Q E hr h=>?_)
 ·obtain⟨r,R,rfl,_⟩:=h;rfl
 obtain⟨r,R,rfl,h1,h2,q⟩:=h
 have hl:=lg_60 h1 h2
 refine⟨_,(pss_cons (ps_set (i:=2) sc_bits_for.nd rfl (Or.inl rfl) (pcl C_level (hr.mono (by decide)) (pa_cons (pv 1) pa_nil stx_Name)))
   (pss_cons (ps_if (pt_chain op_le op_lt (pcl C_turn (hr.mono (by decide)) (pa_cons (pv 1) pa_nil stx_Name)) (pv 0) (pe_op op_shl pe_int (pv 2))) (pss_one (ps_ret (pv 2))) pss_nil)
   (pss_one (ps_ret (pe_op op_add (pv 2) pe_int))))),?_⟩
 rw[st_bits_for]
 walk_at"rd"
 refine⟨R,rfl,h1,?_⟩
 walk_at"rd"
 refine⟨R,rfl,h1,h2,?_⟩
 walk_at"rd"
 have e:(1:Int)*2^(lg R:Int).toNat=2^lg R:=by rw[Int.one_mul,Int.toNat_natCast]
 refine rd_if (fun c=>?_) (fun c=>?_)
 ·walk_at"rd"
  rw[e]
  refine rd_if (fun d=>?_) (fun d=>?_)
  ·walk_at"rd"
   unfold bitsV at q
   rw[if_pos ⟨c,d⟩]at q
   exact q
  ·walk_at"rd"
   unfold bitsV at q
   rw[if_neg (fun z=>d z.2)]at q
   exact q
 ·walk_at"rd"
  unfold bitsV at q
  rw[if_neg (fun z=>c z.1)]at q
  exact q
theorem ok_room_of {f:Addr}{fd:FuncData}(F:Fun K "room_of" "room_of" s_room_of f fd) (mF:mg "room_of" = some (.ref f)) (bF:Binds K fd ["key", "rooms"] []) (T:Bl mg) (C_last_bits:Cal P w K mg base "last_bits" ["key", "many"] 1 (sp_last_bits K)) (C_bits_for:Cal P w K mg base "bits_for" ["room", "rooms"] 3 (sp_bits_for K)) (C_level:Cal P w K mg base "level" ["rooms"] 1 (sp_level K)):Cal P w K mg base "room_of" ["key", "rooms"] 4 (sp_room_of K):=by
 refine Cal.of F mF bF sc_room_of (fun vs H Q E h=>?_) (fun cdv A outer s H vs Q E hr h=>?_)
 ·obtain⟨k,R,rfl,_⟩:=h;rfl
 obtain⟨k,R,rfl,h1,h2,q⟩:=h
 have hl:=lg_60 h1 h2
 refine⟨_,(pss_one (ps_ret (pcl C_last_bits (hr.mono (by decide)) (pa_cons (pv 0) (pa_cons (pcl C_bits_for (hr.mono (by decide)) (pa_cons (pcl C_last_bits (hr.mono (by decide)) (pa_cons (pv 0) (pa_cons (pcl C_level (hr.mono (by decide)) (pa_cons (pv 1) pa_nil stx_Name)) pa_nil stx_Call) stx_Name)) (pa_cons (pv 1) pa_nil stx_Name) stx_Call)) pa_nil stx_Call) stx_Name)))),?_⟩
 rw[st_room_of]
 walk_at"rd"
 refine⟨R,rfl,h1,?_⟩
 walk_at"rd"
 refine⟨k,lg R,rfl,by omega,?_⟩
 walk_at"rd"
 refine⟨_,R,rfl,h1,h2,?_⟩
 walk_at"rd"
 refine⟨k,bitsV (k%2^lg R) R,rfl,by unfold bitsV;split <;> omega,?_⟩
 rw[bitsV_room]
 exact q
theorem ok_split_of {f:Addr}{fd:FuncData}(F:Fun K "split_of" "split_of" s_split_of f fd) (mF:mg "split_of" = some (.ref f)) (bF:Binds K fd ["rooms"] []) (T:Bl mg) (C_turn:Cal P w K mg base "turn" ["rooms"] 2 (sp_turn K)):Cal P w K mg base "split_of" ["rooms"] 3 (sp_split_of K):=by
 refine Cal.of F mF bF sc_split_of (fun vs H Q E h=>?_) (fun cdv A outer s H vs Q E hr h=>?_)
 ·obtain⟨R,rfl,_⟩:=h;rfl
 obtain⟨R,rfl,h1,h2,q⟩:=h
 refine⟨_,(pss_one (ps_ret (pe_tup (pa_cons (pcl C_turn (hr.mono (by decide)) (pa_cons (pv 0) pa_nil stx_Name)) (pa_cons (pv 0) pa_nil stx_Name) stx_Call)))),?_⟩
 rw[st_split_of]
 walk_at"rd"
 refine⟨R,rfl,h1,h2,?_⟩
 walk_at"rd"
 exact⟨(by show 2≤sizeLine;decide),q⟩
theorem ok_spread {f:Addr}{fd:FuncData}(F:Fun K "spread" "spread" s_spread f fd) (mF:mg "spread" = some (.ref f)) (bF:Binds K fd ["keys", "rooms"] []) (T:Bl mg) (C_room_of:Cal P w K mg base "room_of" ["key", "rooms"] 4 (sp_room_of K)):Cal P w K mg base "spread" ["keys", "rooms"] 5 (sp_spread K):=by
 refine Cal.of F mF bF sc_spread (fun vs H Q E h=>?_) (fun cdv A outer s H vs Q E hr h=>?_)
 ·obtain⟨a,ns,R,rfl,_⟩:=h;rfl
 obtain⟨a,ns,R,rfl,ha,hl,r1,r2,q⟩:=h
 refine⟨_,(pss_cons (ps_setc (i:=2) sc_spread.nd rfl rfl rfl (blkOk (sc:=defScope s_spread) (N:=["keys", "rooms", "told", "key"]) (vs:=["room"]) (fs:=[]) (js:=[]) (by decide +kernel) rfl rfl) (pi_range1 rfl T.range (pa_cons (pv 1) pa_nil stx_Name)) (fun _ _ _ _=>pg_name (i:=0) (show(["room"]:List Str).Nodup by decide +kernel) rfl (Or.inl rfl)) (fun _ _ _ _=>pif0) (fun _ _ _ _=>(pe_lst pa_nil)))
   (pss_cons (ps_for PassesOwn.never rfl (pi_list (pe_callB call_sortL rfl T.sorted bt_sorted (pa_cons (pv 0) pa_nil stx_Name))) (pg_name (i:=3) sc_spread.nd rfl (Or.inl rfl)) (pss_one (ps_expr (pe_bm PySem.F.plainAttrs_list PySem.F.slot_list_append PySem.F.type_list_append mt_append (pe_ix ix_list (pv 2) (pcl C_room_of (hr.mono (by decide)) (pa_cons (pv 3) (pa_cons (pv 1) pa_nil stx_Name) stx_Name)) (fun _ _=>rfl)) (pa_cons (pv 3) pa_nil stx_Name)))))
   (pss_one (ps_ret (pv 2))))),?_⟩
 rw[st_spread]
 walk_at"rd"
 refine⟨R,rfl,by omega,by omega,fun D nD=>?_⟩
 rw[Int.toNat_natCast]
 refine comp_range (n:=R) (fun i σ' ys H'=>(∃x,σ'=[x])∧Same H H'∧∃as:List Addr,ys=as.map V.ref∧H' D=some (.lst ys)∧Ls H' as (List.replicate i [])∧as.Nodup∧∀b∈as,H b=none∧b≠D) D ⟨⟨_,rfl⟩,same_new nD _,[],rfl,upd_same,trivial,List.nodup_nil,fun _ h=>by(cases h)⟩ ?_ ?_
 ·rintro i σ' ys H1 hi ⟨⟨x,rfl⟩,s1,as,rfl,hD,hL,hn,h4⟩
  walk_at"rd"
  refine⟨by decide,fun b nb=>?_⟩
  generalize hE:upd H1 b _=H2
  obtain⟨hb,s2⟩:=newo nb hE
  clear hE
  have bD:b≠D:=by intro e;rw[e,hD]at nb;cases nb
  have bas:b∉as:=fun m=>by
   obtain⟨r,_,e⟩:=hL.mem m
   rw[e]at nb;cases nb
  have al:=hL.rep
  refine⟨s2 _ _ hD,by rw[List.length_map,al];exact small1000 (by omega),⟨_,rfl⟩,fun c o e=>?_,as ++ [b],by rw[List.map_append];rfl,upd_same,?_,?_⟩
  ·rw[upd_ne (ne_of_none e nD)];exact s2 _ _ (s1 _ _ e)
  ·rw[List.replicate_succ']
   exact Ls.snoc (r:=[]) (by rw[upd_ne bD];exact hb) (hL.same fun c hc o e=>by rw[upd_ne (h4 c hc).2];exact s2 _ _ e)
  ·refine⟨?_,fun c hc=>?_⟩
   ·rw[List.nodup_append]
    exact⟨hn,by simp,fun x hx y hy e=>by simp at hy;rw[hy]at e;exact bas (e ▸ hx)⟩
   ·rcases List.mem_append.mp hc with m|m
    ·exact h4 c m
    ·rw[List.mem_singleton.mp m];exact⟨s1.free nb,bD⟩
 ·rintro σ' ys H1 ⟨⟨x,rfl⟩,s1,as,rfl,hD,hL,hn,h4⟩
  have hL:Ls H1 as (spreadV [] R):=by rw[spreadV_nil];exact hL
  walk_at"rd"
  refine rd_sortL (SqL.of (s1 _ _ ha)) (by omega) fun ms e p1 p2 ne=>?_
  generalize hE:upd H1 e _=H2
  obtain⟨he,s2⟩:=newo ne hE
  clear hE
  have eas:∀b∈as,b≠e:=fun b m z=>by
   obtain⟨r,_,hb⟩:=hL.mem m
   rw[z,ne]at hb;cases hb
  have ml:ms.length≤200:=by rw[p1.length_eq];exact hl
  have eD:D≠e:=fun z=>by rw[← z,hD]at ne;cases ne
  refine⟨e,rfl,⟨_,SqL.of he⟩,?_⟩
  refine for_listO (xs:=ms.map V.int) (fun i σ H'=>(∃x,σ=[some (.ref a),some (.int R),some (.ref D),x])∧Same H H'∧H' e=some (.lst (ms.map V.int))∧H' D=some (.lst (as.map V.ref))∧Ls H' as (spreadV (ms.take i) R)) ⟨⟨_,rfl⟩,s1.trans s2,he,s2 _ _ hD,hL.same fun b _ o=>s2 b o⟩ (fun _ _ _ _ h=>SqL.of h.2.2.1) ?_ ?_
  ·rintro i x σ H3 hx ⟨⟨x1,rfl⟩,s3,he3,hD3,hL3⟩
   obtain⟨k,hk,rfl⟩:=ints_get hx
   have il:=(List.getElem?_eq_some_iff.mp hk).1
   have rb:=roomV_lt (k:=k) (R:=R) (by omega)
   obtain⟨j,hj,jl⟩ : ∃j:Nat,roomV k R =(j:Int)∧j<R:=⟨(roomV k R).toNat,by omega,by omega⟩
   obtain⟨b,hb⟩ : ∃b,as[j]? = some b:=⟨_,List.getElem?_eq_getElem (show j<as.length by rw[hL3.len,spreadV_len];exact jl)⟩
   obtain⟨r,hr1,hbr⟩:=hL3.get hb
   have hr2:r =(ms.take i).filter fun k=>decide (roomV k R =(j:Int)):=by
    rw[spreadV_at jl]at hr1
    exact(Option.some.inj hr1).symm
   have hm:=List.mem_of_getElem? hb
   walk_at"rd"
   refine⟨k,R,rfl,by omega,by omega,?_⟩
   rw[hj]
   refine rd_ixL (SqL.of hD3) (at_ref' hb) ?_
   walk_at"rd"
   refine⟨.inl ⟨rfl,_,SqL.of hbr⟩,?_⟩
   walk_at"rd"
   refine⟨b,_,_,rfl,rfl,hbr,?_,?_⟩
   ·rw[List.length_map,hr2]
    refine small1000 (Nat.le_trans (List.length_filter_le _ _) ?_)
    rw[List.length_take];omega
   walk_at"rd"
   refine⟨⟨_,rfl⟩,fun c o e=>?_,?_,?_,?_⟩
   ·rw[upd_ne (ne_of_none e (h4 b hm).1)];exact s3 _ _ e
   ·rw[upd_ne (eas b hm).symm];exact he3
   ·rw[upd_ne (h4 b hm).2.symm];exact hD3
   ·rw[take_get hk,spreadV_push hj jl,← hr2]
    have:=hL3.set (r:=r ++ [k]) hn hb
    rw[List.map_append]at this
    exact this
  ·rintro σ H3 ⟨⟨x1,rfl⟩,s3,he3,hD3,hL3⟩
   rw[List.length_map,List.take_length]at hL3
   walk_at"rd"
   exact q ms D H3 p1 p2 nD ⟨as,hD3,hL3,hn,h4⟩ s3
theorem ok_counts {f:Addr}{fd:FuncData}(F:Fun K "counts" "counts" s_counts f fd) (mF:mg "counts" = some (.ref f)) (bF:Binds K fd ["keys", "rooms"] []) (T:Bl mg) (C_spread:Cal P w K mg base "spread" ["keys", "rooms"] 5 (sp_spread K)):Cal P w K mg base "counts" ["keys", "rooms"] 6 (sp_counts K):=by
 refine Cal.of F mF bF sc_counts (fun vs H Q E h=>?_) (fun cdv A outer s H vs Q E hr h=>?_)
 ·obtain⟨a,ns,R,rfl,_⟩:=h;rfl
 obtain⟨a,ns,R,rfl,ha,hl,r1,r2,q⟩:=h
 refine⟨_,(pss_one (ps_ret (pe_comp rfl (blkOk (sc:=defScope s_counts) (N:=["keys", "rooms"]) (vs:=["own"]) (fs:=[]) (js:=[]) (by decide +kernel) rfl rfl) (pi_list (pcl C_spread (hr.mono (by decide)) (pa_cons (pv 0) (pa_cons (pv 1) pa_nil stx_Name) stx_Name))) (fun _ _ _ _=>pg_name (i:=0) (show(["own"]:List Str).Nodup by decide +kernel) rfl (Or.inl rfl)) (fun _ _ _ _=>pif0) (fun _ _ _ _=>(pe_callB (call_lenLK (K:=K) rfl) rfl T.len bt_len (pa_cons (pv 0) pa_nil stx_Name)))))),?_⟩
 rw[st_counts]
 walk_at"rd"
 refine⟨a,ns,R,rfl,ha,hl,r1,r2,fun ms l H1 p1 p2 nl hN s1=>?_⟩
 obtain⟨as,hl1,hL,_,_⟩:=hN
 refine⟨l,rfl,⟨_,SqL.of hl1⟩,fun D nD=>?_⟩
 refine comp_list (xs:=as.map V.ref) (fun i σ' ys H'=>(∃x,σ'=[x])∧Same H1 H'∧ys =(((spreadV ms R).take i).map fun r=>(r.length:Int)).map V.int∧H' D=some (.lst ys)) D ⟨⟨_,rfl⟩,same_new nD _,rfl,upd_same⟩ (fun i σ' ys H' _ h=>SqL.of (h.2.1 _ _ hl1)) ?_ ?_
 ·rintro i x σ' ys H' hx ⟨⟨x1,rfl⟩,s2,rfl,hD⟩
  obtain⟨b,hb,rfl⟩:=refs_get hx
  obtain⟨r,hr1,hbr⟩:=hL.get hb
  have hb2:=s2 _ _ hbr
  have il:=(List.getElem?_eq_some_iff.mp hr1).1
  rw[spreadV_len]at il
  walk_at"rd"
  refine⟨hD,?_,⟨_,rfl⟩,fun c o e=>?_,?_,upd_same⟩
  ·rw[List.length_map,List.length_map,List.length_take]
   exact small1000 (by omega)
  ·rw[upd_ne (ne_of_none e nD)];exact s2 _ _ e
  ·rw[take_get hr1,List.map_append,List.map_append]
   show _ ++ [V.int _]=_ ++ [V.int _]
   rw[List.length_map]
 ·rintro σ' ys H' ⟨⟨x1,rfl⟩,s2,rfl,hD⟩
  rw[List.length_map,hL.len,List.take_length]at hD
  exact q ms D H' p1 p2 (s1.free nD) hD (s1.trans s2)
theorem ok_spill {f:Addr}{fd:FuncData}(F:Fun K "spill" "spill" s_spill f fd) (mF:mg "spill" = some (.ref f)) (bF:Binds K fd ["counts", "wide"] []) (T:Bl mg) (C_rows_behind:Cal P w K mg base "rows_behind" ["many", "wide"] 2 (sp_rows_behind K)):Cal P w K mg base "spill" ["counts", "wide"] 3 (sp_spill K):=by
 refine Cal.of F mF bF sc_spill (fun vs H Q E h=>?_) (fun cdv A outer s H vs Q E hr h=>?_)
 ·obtain⟨a,ns,w,rfl,_⟩:=h;rfl
 obtain⟨a,ns,w,rfl,hS,hl,h1,h2,q⟩:=h
 refine⟨_,(pss_one (ps_ret (pe_callB (call_sumL rfl) rfl T.sum bt_sum (pa_cons (pe_comp rfl (blkOk (sc:=defScope s_spill) (N:=["counts", "wide"]) (vs:=["many"]) (fs:=["wide"]) (js:=[1]) (by decide +kernel) rfl rfl) (pi_list (pv 0)) (fun _ _ _ _=>pg_name (i:=0) (show(["many", "wide"]:List Str).Nodup by decide +kernel) rfl (Or.inl rfl)) (fun _ _ _ _=>pif0) (fun _ _ _ _=>(pcl C_rows_behind (hr.mono (by decide)) (pa_cons (pv 0) (pa_cons (pv 1) pa_nil stx_Name) stx_Name)))) pa_nil stx_ListComp)))),?_⟩
 rw[st_spill]
 walk_at"rd"
 refine⟨a,rfl,⟨_,hS⟩,fun D nD=>?_⟩
 refine comp_list (xs:=ns.map V.int) (fun i σ' ys H'=>(∃x,σ'=[x,some (.int w)])∧ys =((moreL ns w).take i).map V.int∧Same H H'∧H' D=some (.lst ys)) D ?_ (fun i σ' ys H' _ h=>h.2.2.1.seq hS) ?_ ?_
 ·exact⟨⟨_,rfl⟩,rfl,same_new nD _,upd_same⟩
 ·rintro i x σ' ys H' hx ⟨⟨y,rfl⟩,rfl,g1,g2⟩
  have hil:i<ns.length:=by
   have:=(List.getElem?_eq_some_iff.mp hx).1
   rw[List.length_map]at this;exact this
  rw[List.getElem?_map,List.getElem?_eq_getElem hil]at hx
  obtain rfl:=Option.some.inj hx
  walk_at"rd"
  refine⟨_,w,rfl,h1,h2,?_⟩
  have hml:i <(moreL ns w).length:=by unfold moreL;rw[List.length_map];exact hil
  refine⟨g2,by rw[List.length_map,List.length_take];exact small1000 (by omega),⟨_,rfl⟩,?_,fun b o e=>?_,upd_same⟩
  ·rw[List.take_succ_eq_append_getElem hml,List.map_append]
   have:(moreL ns w)[i]=rfor ns[i] w-1:=List.getElem_map _
   rw[this];rfl
  ·rw[upd_ne (ne_of_none e nD)];exact g1 _ _ e
 ·rintro σ' ys H' ⟨⟨y,rfl⟩,rfl,g1,g2⟩
  have e:(moreL ns w).take (ns.map V.int).length=moreL ns w:=List.take_of_length_le (by unfold moreL;rw[List.length_map,List.length_map];exact Nat.le_refl _)
  rw[e]at g2
  walk_at"rd"
  refine rd_sumL (SqL.of g2) ?_
  exact q _ g1
theorem ok_ask_sizes {f:Addr}{fd:FuncData}(F:Fun K "ask_sizes" "ask_sizes" s_ask_sizes f fd) (mF:mg "ask_sizes" = some (.ref f)) (bF:Binds K fd ["wide", "fill"] []) (T:Bl mg) (C_is_size:Cal P w K mg base "is_size" ["thing"] 2 (sp_is_size K)):Cal P w K mg base "ask_sizes" ["wide", "fill"] 3 (sp_ask_sizes K):=by
 refine Cal.of F mF bF sc_ask_sizes (fun vs H Q E h=>?_) (fun cdv A outer s H vs Q E hr h=>?_)
 ·obtain⟨w,f,rfl,_⟩:=h;rfl
 obtain⟨w,f,rfl,w1,w2,f1,f2,q⟩:=h
 refine⟨_,(pss_cons (ps_if (pt_not (pt_val (pcl C_is_size (hr.mono (by decide)) (pa_cons (pv 0) pa_nil stx_Name)))) (pss_one ps_dead) pss_nil)
   (pss_one (ps_if (pt_not (pt_val (pcl C_is_size (hr.mono (by decide)) (pa_cons (pv 1) pa_nil stx_Name)))) (pss_one ps_dead) pss_nil))),?_⟩
 rw[st_ask_sizes]
 walk_at"rd"
 refine⟨w,rfl,w1,w2,?_⟩
 walk_at"rd"
 refine⟨f,rfl,f1,f2,?_⟩
 walk_at"rd"
 exact q
theorem ok_ask_key {f:Addr}{fd:FuncData}(F:Fun K "ask_key" "ask_key" s_ask_key f fd) (mF:mg "ask_key" = some (.ref f)) (bF:Binds K fd ["key"] []) (T:Bl mg) (C_is_key:Cal P w K mg base "is_key" ["thing"] 2 (sp_is_key K)):Cal P w K mg base "ask_key" ["key"] 3 (sp_ask_key K):=by
 refine Cal.of F mF bF sc_ask_key (fun vs H Q E h=>?_) (fun cdv A outer s H vs Q E hr h=>?_)
 ·obtain⟨k,rfl,_⟩:=h;rfl
 obtain⟨k,rfl,k0,k1,q⟩:=h
 refine⟨_,(pss_one (ps_if (pt_not (pt_val (pcl C_is_key (hr.mono (by decide)) (pa_cons (pv 0) pa_nil stx_Name)))) (pss_one ps_dead) pss_nil)),?_⟩
 rw[st_ask_key]
 walk_at"rd"
 refine⟨k,rfl,k0,k1,?_⟩
 walk_at"rd"
 exact q
theorem ok_ask_entry {f:Addr}{fd:FuncData}(F:Fun K "ask_entry" "ask_entry" s_ask_entry f fd) (mF:mg "ask_entry" = some (.ref f)) (bF:Binds K fd ["key", "thing"] []) (T:Bl mg) (C_ask_key:Cal P w K mg base "ask_key" ["key"] 3 (sp_ask_key K)) (C_is_name:Cal P w K mg base "is_name" ["thing"] 1 (sp_is_name K)):Cal P w K mg base "ask_entry" ["key", "thing"] 4 (sp_ask_entry K):=by
 refine Cal.of F mF bF sc_ask_entry (fun vs H Q E h=>?_) (fun cdv A outer s H vs Q E hr h=>?_)
 ·obtain⟨k,z,rfl,_⟩:=h;rfl
 obtain⟨k,z,rfl,k0,k1,hz,q⟩:=h
 refine⟨_,(pss_cons (ps_expr (pcl C_ask_key (hr.mono (by decide)) (pa_cons (pv 0) pa_nil stx_Name)))
   (pss_one (ps_if (pt_not (pt_val (pcl C_is_name (hr.mono (by decide)) (pa_cons (pv 1) pa_nil stx_Name)))) (pss_one ps_dead) pss_nil))),?_⟩
 rw[st_ask_entry]
 walk_at"rd"
 refine⟨k,rfl,k0,k1,?_⟩
 walk_at"rd"
 refine⟨z,rfl,hz,fun H1 s1=>?_⟩
 walk_at"rd"
 exact q H1 s1
theorem ok_rooms_for {f:Addr}{fd:FuncData}(F:Fun K "rooms_for" "rooms_for" s_rooms_for f fd) (mF:mg "rooms_for" = some (.ref f)) (bF:Binds K fd ["count", "fill"] []) (T:Bl mg)  : Cal P w K mg base "rooms_for" ["count", "fill"] 1 (sp_rooms_for K):=by
 refine Cal.of F mF bF sc_rooms_for (fun vs H Q E h=>?_) (fun cdv A outer s H vs Q E hr h=>?_)
 ·obtain⟨m,w,rfl,_⟩:=h;rfl
 obtain⟨m,w,rfl,h1,h2,q⟩:=h
 refine⟨_,(pss_one (ps_ret (pe_callB (call_maxI rfl) rfl T.max bt_max (pa_cons pe_int (pa_cons (pe_op op_fdivB (pe_op op_sub (pe_op op_add (pv 0) (pv 1)) pe_int) (pv 1)) pa_nil stx_BinOp) stx_Constant)))),?_⟩
 rw[st_rooms_for]
 walk_at"rd"
 exact q
theorem ok_Table___init__ {f:Addr}{fd:FuncData}{CT:Addr}(F:Fun K "__init__" "Table.__init__" s_Table___init__ f fd) (mF:Mk K CT f) (bF:Binds K fd ["self", "wide", "fill"] []) (T:Bl mg) (TC:Txt_Table K mg CT) (C_ask_sizes:Cal P w K mg base "ask_sizes" ["wide", "fill"] 3 (sp_ask_sizes K)):KCal P w K mg base "Table" CT ["self", "wide", "fill"] 4 (sp_Table___init__ K CT):=by
 refine KCal.of F mF TC.mg bF sc_Table___init__ (fun vs H Q E h=>?_) (fun cdv A outer s H vs Q E hr h=>?_)
 ·obtain⟨p,dx,w,f,rfl,_⟩:=h;rfl
 obtain⟨p,dx,w,f,rfl,hp,w1,w2,f1,f2,q⟩:=h
 refine⟨_,(pss_cons (ps_expr (pcl C_ask_sizes (hr.mono (by decide)) (pa_cons (pv 1) (pa_cons (pv 2) pa_nil stx_Name) stx_Name)))
   (pss_cons (ps_fld (pv 0) (pv 1) rfl)
   (pss_cons (ps_fld (pv 0) (pv 2) rfl)
   (pss_one (ps_fld (pv 0) pe_dnewK rfl))))),?_⟩
 rw[st_Table___init__]
 walk_at"rd"
 refine⟨w,f,rfl,w1,w2,f1,f2,?_⟩
 walk_at"rd"
 refine⟨p,CT,dx,[],rfl,hp,TC.cl,TC.n_wide,(by show 0<1000;decide),?_⟩
 walk_at"rd"
 refine⟨p,CT,dx,_,rfl,upd_same,TC.cl,TC.n_fill,(by show 1<1000;decide),?_⟩
 walk_at"rd"
 intro d nd
 walk_at"rd"
 have npd:p≠d:=by
  intro z
  rw[← z,upd_same]at nd;cases nd
 have nd0:H d=none:=by
  rw[upd_ne npd.symm,upd_ne npd.symm]at nd;exact nd
 refine⟨p,CT,dx,_,rfl,by rw[upd_ne npd,upd_same],TC.cl,TC.n_held,?_,?_⟩
 ·have:=length_putF (Str.ofString "fill") (V.int f) (putF (Str.ofString "wide") (V.int w) [])
  have h2:=length_putF (Str.ofString "wide") (V.int w) []
  have h3:([]:List (Str×V)).length=0:=rfl
  omega
 ·walk_at"rd"
  refine q d _ nd0 ⟨⟨dx,upd_same⟩,?_,⟨List.nodup_nil,(fun _ h=>by cases h),Nat.zero_le _⟩,w1,w2,f1,f2⟩ fun b o e hb=>?_
  ·rw[upd_ne npd.symm,upd_same];rfl
  ·rw[upd_ne hb,upd_ne (ne_of_none e nd0),upd_ne hb,upd_ne hb];exact e
theorem ok_Table_put {f:Addr}{fd:FuncData}{CT:Addr}(F:Fun K "put" "Table.put" s_Table_put f fd) (mF:Meth K CT "put" f) (bF:Binds K fd ["self", "key", "thing"] []) (T:Bl mg) (TC:Txt_Table K mg CT) (C_Table_rooms:MCal P w K mg base CT "rooms" ["self"] 2 (sp_Table_rooms K CT)) (C_Table_count:MCal P w K mg base CT "count" ["self"] 1 (sp_Table_count K CT)) (C_Table_spread_keys:MCal P w K mg base CT "spread_keys" ["self", "rooms"] 6 (sp_Table_spread_keys K CT)) (C_ask_entry:Cal P w K mg base "ask_entry" ["key", "thing"] 4 (sp_ask_entry K)) (C_split_of:Cal P w K mg base "split_of" ["rooms"] 3 (sp_split_of K)):MCal P w K mg base CT "put" ["self", "key", "thing"] 7 (sp_Table_put K CT):=by
 refine MCal.of F mF bF sc_Table_put (fun vs H Q E h=>?_) (fun cdv A outer s H vs Q E hr h=>?_)
 ·obtain⟨p,d,w,f,es,k,z,rfl,_⟩:=h;rfl
 obtain⟨p,d,w,f,es,k,z,rfl,t,k0,k1,hz,hl,qa,qb⟩:=h
 obtain⟨w1,w2,f1,f2⟩:=t.sz
 obtain⟨_,r1,r2⟩:=rmT_eq (es:=es) f1
 have ln:=t.ok.2.2
 have hu1:=hu_of hr
 have npd:=t.ne
 refine⟨_,(pss_cons (ps_expr (pcl C_ask_entry (hr.mono (by decide)) (pa_cons (pv 1) (pa_cons (pv 2) pa_nil stx_Name) stx_Name)))
   (pss_cons (ps_cut (ps_if (PW.pt (pw_and (pt_cmp (pc_dnotin hu1 (pv 1) (pe_fld (pv 0) rfl))) (pw_and1 (pt_cmpR op_ge (pml0 C_Table_count TC.cl (hr.mono (by decide)) (pv 0)) (pe_gint rfl T.c_MOST_KEYS) (nomark _))))) (pss_one ps_dead) pss_nil))
   (pss_cons (ps_set (i:=3) sc_Table_put.nd rfl (Or.inl rfl) (pml0 C_Table_rooms TC.cl (hr.mono (by decide)) (pv 0)))
   (pss_cons (ps_dput hu1 (pe_fld (pv 0) rfl) (pv 1) (pv 2) rfl)
   (pss_cons (ps_if (pt_cmpR op_eq (pml0 C_Table_rooms TC.cl (hr.mono (by decide)) (pv 0)) (pv 3) (nomark _)) (pss_one (ps_ret pe_non)) pss_nil)
   (pss_cons (ps_asg (pcl C_split_of (hr.mono (by decide)) (pa_cons (pv 3) pa_nil stx_Name)) (pg_tup rfl (pgs_cons (pg_name (i:=4) sc_Table_put.nd rfl (Or.inl rfl)) (pgs_cons (pg_name (i:=5) sc_Table_put.nd rfl (Or.inl rfl)) pgs_nil))))
   (pss_one (ps_ret (pe_tup (pa_cons (pv 4) (pa_cons (pv 5) (pa_cons (pe_ix ix_list (pml C_Table_spread_keys TC.cl (hr.mono (by decide)) (pv 0) (pa_cons (pe_op op_add (pv 5) pe_int) pa_nil stx_BinOp)) (pv 5) (fun _ _=>rfl)) pa_nil stx_Subscript) stx_Name) stx_Name)))))))))),?_⟩
 rw[st_Table_put]
 walk_at"rd"
 refine⟨k,z,rfl,k0,k1,hz,fun H1 s1=>?_⟩
 have t1:=t.same s1
 obtain⟨dx,ho⟩:=t1.ob
 walk_at"rd"
 refine⟨fun σ H'=>H'=H1∧σ=[some (.ref p),some (.int k),some (.str z),none,none,none],?_,?_⟩
 ·walk_at"rd"
  refine⟨p,CT,dx,_,_,rfl,ho,TC.cl,TC.n_held,tfl_held,?_⟩
  refine⟨d,_,rfl,DGet.k (k:=Sum.inl k) t1.dc,?_⟩
  rw[find_some]
  by_cases c:k∈es.map (·.1)
  ·rw[decide_eq_true c]
   walk_at"rd"
   exact⟨rfl,rfl⟩
  ·rw[decide_eq_false c]
   walk_at"rd"
   refine⟨p,dx,_,rfl,ho,tfl_no (by decide +kernel) (by decide +kernel) (by decide +kernel),?_⟩
   walk_at"rd"
   refine⟨p,d,w,f,es,rfl,t1,?_⟩
   have l64:es.length<64:=hl.resolve_left c
   walk_at"rd"
   refine rd_if (fun c=>absurd c (by omega)) (fun _=>?_)
   walk_at"rd"
   exact⟨rfl,rfl⟩
 rintro σ H' ⟨rfl,rfl⟩
 walk_at"rd"
 refine⟨p,dx,_,rfl,ho,tfl_no (by decide +kernel) (by decide +kernel) (by decide +kernel),?_⟩
 walk_at"rd"
 refine⟨p,d,w,f,es,rfl,t1,?_⟩
 walk_at"rd"
 refine⟨p,CT,dx,_,_,rfl,ho,TC.cl,TC.n_held,tfl_held,?_⟩
 walk_at"rd"
 refine⟨d,_,rfl,DPut.k (k:=Sum.inl k) t1.dc (by rw[eV_len];exact small1000 (by omega)),?_⟩
 rw[putE_V]
 have t2:Tab CT (upd H' d (.dK (eV (putE es k z)))) p d w f (putE es k z):=⟨⟨dx,by rw[upd_ne npd];exact ho⟩,upd_same,putE_ok t.ok k0 k1 hz hl,t.sz⟩
 have kd2:Kd H (upd H' d (.dK (eV (putE es k z)))) d:=fun b o n e=>by rw[upd_ne n];exact s1 _ _ e
 have fr2:∀b,(upd H' d (.dK (eV (putE es k z)))) b=none→H b=none:=fun b n=>by
  refine s1.free ?_
  rw[upd_ne (show b≠d from fun e=>by rw[e,upd_same]at n;cases n)]at n
  exact n
 generalize upd H' d (.dK (eV (putE es k z)))=H2 at t2 kd2 fr2 ⊢
 obtain⟨dx2,ho2⟩:=t2.ob
 have l2:=t2.ok.2.2
 walk_at"rd"
 refine⟨p,dx2,_,rfl,ho2,tfl_no (by decide +kernel) (by decide +kernel) (by decide +kernel),?_⟩
 walk_at"rd"
 refine⟨p,d,w,f,putE es k z,rfl,t2,?_⟩
 walk_at"rd"
 refine rd_if (fun c=>?_) (fun c=>?_)
 ·walk_at"rd"
  exact qa H2 (by omega) t2 kd2
 ·have step:rmT (putE es k z) f=rmT es f+1:=by
   have e1:=(rmT_eq (es:=es) f1).1
   have e2:=(rmT_eq (es:=putE es k z) f1).1
   rw[putE_len]at e2
   split at e2
   ·omega
   ·have st:=rfor_step (m:=es.length) (f:=f) f1 (by omega)
    have ec:((es.length+1:Nat):Int) =(es.length:Int)+1:=by omega
    rw[ec]at e2
    omega
  walk_at"rd"
  refine⟨_,rfl,by omega,by omega,fun tp np=>?_⟩
  generalize hE:upd H2 tp _=H3
  obtain⟨htp,s3⟩:=newo np hE
  clear hE
  refine⟨tp,_,rfl,SqT.of htp,rfl,_,_,rfl,_,_,rfl,rfl,?_⟩
  have t3:=t2.same s3
  obtain⟨dx3,ho3⟩:=t3.ob
  walk_at"rd"
  refine⟨p,dx3,_,rfl,ho3,tfl_no (by decide +kernel) (by decide +kernel) (by decide +kernel),?_⟩
  walk_at"rd"
  refine⟨p,d,w,f,putE es k z,rmT es f+1,rfl,t3,by omega,by omega,fun ms l H4 p1 p2 nl L s4=>?_⟩
  obtain⟨as,hl4,hLs,_,hnew⟩:=L
  have al:=hLs.len
  rw[spreadV_len]at al
  have har:as[rmT es f]? = some (as[rmT es f]'(by omega)):=List.getElem?_eq_getElem _
  generalize as[rmT es f]=a at har
  obtain⟨own,ho1,hown⟩:=hLs.get har
  rw[spreadV_at (by omega)]at ho1
  have ho5:=Option.some.inj ho1
  subst ho5
  walk_at"rd"
  refine rd_ixL (SqL.of hl4) (at_ref' har) ?_
  walk_at"rd"
  refine⟨(by show 3≤sizeLine;decide),fun t5 nt5=>?_⟩
  generalize hE:upd H4 t5 _=H5
  obtain⟨ht5,s5⟩:=newo nt5 hE
  clear hE
  have s25:=(s3.trans s4).trans s5
  exact qb t5 a ms H5 step (t2.same s25) (fun b o n e=>s25 _ _ (kd2 b o n e)) p1 p2 (fr2 a (s3.free (hnew a (List.mem_of_getElem? har)).1)) ht5 (s5 _ _ hown)
theorem ok_Table_count {f:Addr}{fd:FuncData}{CT:Addr}(F:Fun K "count" "Table.count" s_Table_count f fd) (mF:Meth K CT "count" f) (bF:Binds K fd ["self"] []) (T:Bl mg) (TC:Txt_Table K mg CT)  : MCal P w K mg base CT "count" ["self"] 1 (sp_Table_count K CT):=by
 refine MCal.of F mF bF sc_Table_count (fun vs H Q E h=>?_) (fun cdv A outer s H vs Q E hr h=>?_)
 ·obtain⟨p,d,w,f,es,rfl,_⟩:=h;rfl
 obtain⟨p,d,w,f,es,rfl,t,q⟩:=h
 obtain⟨dx,ho⟩:=t.ob
 refine⟨_,(pss_one (ps_ret (pe_callB call_lenD rfl T.len bt_len (pa_cons (pe_fld (pv 0) rfl) pa_nil stx_Attribute)))),?_⟩
 rw[st_Table_count]
 walk_at"rd"
 refine⟨p,CT,dx,_,_,rfl,ho,TC.cl,TC.n_held,tfl_held,?_⟩
 walk_at"rd"
 refine⟨d,_,rfl,t.dc,?_⟩
 rw[eV_len]
 exact q
theorem ok_Table_rooms {f:Addr}{fd:FuncData}{CT:Addr}(F:Fun K "rooms" "Table.rooms" s_Table_rooms f fd) (mF:Meth K CT "rooms" f) (bF:Binds K fd ["self"] []) (T:Bl mg) (TC:Txt_Table K mg CT) (C_Table_count:MCal P w K mg base CT "count" ["self"] 1 (sp_Table_count K CT)) (C_rooms_for:Cal P w K mg base "rooms_for" ["count", "fill"] 1 (sp_rooms_for K)):MCal P w K mg base CT "rooms" ["self"] 2 (sp_Table_rooms K CT):=by
 refine MCal.of F mF bF sc_Table_rooms (fun vs H Q E h=>?_) (fun cdv A outer s H vs Q E hr h=>?_)
 ·obtain⟨p,d,w,f,es,rfl,_⟩:=h;rfl
 obtain⟨p,d,w,f,es,rfl,t,q⟩:=h
 obtain⟨dx,ho⟩:=t.ob
 obtain⟨w1,w2,f1,f2⟩:=t.sz
 refine⟨_,(pss_one (ps_ret (pcl C_rooms_for (hr.mono (by decide)) (pa_cons (pml0 C_Table_count TC.cl (hr.mono (by decide)) (pv 0)) (pa_cons (pe_fld (pv 0) rfl) pa_nil stx_Attribute) stx_Call)))),?_⟩
 rw[st_Table_rooms]
 walk_at"rd"
 refine⟨p,dx,_,rfl,ho,tfl_no (by decide +kernel) (by decide +kernel) (by decide +kernel),?_⟩
 walk_at"rd"
 refine⟨p,d,w,f,es,rfl,t,?_⟩
 walk_at"rd"
 refine⟨p,CT,dx,_,_,rfl,ho,TC.cl,TC.n_fill,tfl_fill,?_⟩
 walk_at"rd"
 refine⟨_,f,rfl,f1,f2,?_⟩
 rw[(rmT_eq f1).1]
 exact q
theorem ok_Table_spill {f:Addr}{fd:FuncData}{CT:Addr}(F:Fun K "spill" "Table.spill" s_Table_spill f fd) (mF:Meth K CT "spill" f) (bF:Binds K fd ["self"] []) (T:Bl mg) (TC:Txt_Table K mg CT) (C_spill:Cal P w K mg base "spill" ["counts", "wide"] 3 (sp_spill K)) (A_spill_spread:Cal P w K mg base "spill_spread" ["counts", "wide"] 3 (sp_spill K)) (C_Table_room_counts:MCal P w K mg base CT "room_counts" ["self"] 7 (sp_Table_room_counts K CT)):MCal P w K mg base CT "spill" ["self"] 8 (sp_Table_spill K CT):=by
 refine MCal.of F mF bF sc_Table_spill (fun vs H Q E h=>?_) (fun cdv A outer s H vs Q E hr h=>?_)
 ·obtain⟨p,d,w,f,es,rfl,_⟩:=h;rfl
 obtain⟨p,d,w,f,es,rfl,t,q⟩:=h
 obtain⟨dx,ho⟩:=t.ob
 obtain⟨w1,w2,f1,f2⟩:=t.sz
 obtain⟨_,r1,r2⟩:=rmT_eq (es:=es) f1
 have ln:=t.ok.2.2
 refine⟨_,(pss_one (ps_ret (pcl A_spill_spread (hr.mono (by decide)) (pa_cons (pml0 C_Table_room_counts TC.cl (hr.mono (by decide)) (pv 0)) (pa_cons (pe_fld (pv 0) rfl) pa_nil stx_Attribute) stx_Call)))),?_⟩
 rw[st_Table_spill]
 walk_at"rd"
 refine⟨p,dx,_,rfl,ho,tfl_no (by decide +kernel) (by decide +kernel) (by decide +kernel),?_⟩
 walk_at"rd"
 refine⟨p,d,w,f,es,rfl,t,fun ms l H1 p1 p2 nl hl s1=>?_⟩
 walk_at"rd"
 refine⟨p,CT,dx,_,_,rfl,s1 _ _ ho,TC.cl,TC.n_wide,tfl_wide,?_⟩
 walk_at"rd"
 refine⟨l,_,w,rfl,SqL.of hl,by rw[List.length_map,spreadV_len];omega,w1,w2,fun H2 s2=>?_⟩
 exact q ms H2 p1 p2 (s1.trans s2)
theorem ok_Table_spread_keys {f:Addr}{fd:FuncData}{CT:Addr}(F:Fun K "spread_keys" "Table.spread_keys" s_Table_spread_keys f fd) (mF:Meth K CT "spread_keys" f) (bF:Binds K fd ["self", "rooms"] []) (T:Bl mg) (TC:Txt_Table K mg CT) (C_spread:Cal P w K mg base "spread" ["keys", "rooms"] 5 (sp_spread K)):MCal P w K mg base CT "spread_keys" ["self", "rooms"] 6 (sp_Table_spread_keys K CT):=by
 refine MCal.of F mF bF sc_Table_spread_keys (fun vs H Q E h=>?_) (fun cdv A outer s H vs Q E hr h=>?_)
 ·obtain⟨p,d,w,f,es,R,rfl,_⟩:=h;rfl
 obtain⟨p,d,w,f,es,R,rfl,t,r1,r2,q⟩:=h
 obtain⟨dx,ho⟩:=t.ob
 refine⟨_,(pss_one (ps_ret (pcl C_spread (hr.mono (by decide)) (pa_cons (pe_callTy (call_listD rfl) rfl T.list bt_list (pa_cons (pe_fld (pv 0) rfl) pa_nil stx_Attribute)) (pa_cons (pv 1) pa_nil stx_Name) stx_Call)))),?_⟩
 rw[st_Table_spread_keys]
 walk_at"rd"
 refine⟨p,CT,dx,_,_,rfl,ho,TC.cl,TC.n_held,tfl_held,?_⟩
 walk_at"rd"
 refine⟨d,_,rfl,t.dc,fun l nl=>?_⟩
 rw[eV_keys]
 generalize hE:upd H l _=H1
 obtain⟨hl,s1⟩:=newo nl hE
 clear hE
 walk_at"rd"
 refine⟨l,es.map (·.1),R,rfl,hl,by rw[List.length_map];have:=t.ok.2.2;omega,r1,r2,fun ms l2 H2 p1 p2 n2 L s2=>?_⟩
 exact q ms l2 H2 p1 p2 (s1.free n2) (L.base s1) (s1.trans s2)
theorem ok_Table_room_counts {f:Addr}{fd:FuncData}{CT:Addr}(F:Fun K "room_counts" "Table.room_counts" s_Table_room_counts f fd) (mF:Meth K CT "room_counts" f) (bF:Binds K fd ["self"] []) (T:Bl mg) (TC:Txt_Table K mg CT) (C_Table_rooms:MCal P w K mg base CT "rooms" ["self"] 2 (sp_Table_rooms K CT)) (C_counts:Cal P w K mg base "counts" ["keys", "rooms"] 6 (sp_counts K)):MCal P w K mg base CT "room_counts" ["self"] 7 (sp_Table_room_counts K CT):=by
 refine MCal.of F mF bF sc_Table_room_counts (fun vs H Q E h=>?_) (fun cdv A outer s H vs Q E hr h=>?_)
 ·obtain⟨p,d,w,f,es,rfl,_⟩:=h;rfl
 obtain⟨p,d,w,f,es,rfl,t,q⟩:=h
 obtain⟨dx,ho⟩:=t.ob
 obtain⟨w1,w2,f1,f2⟩:=t.sz
 obtain⟨_,r1,r2⟩:=rmT_eq (es:=es) f1
 have ln:=t.ok.2.2
 refine⟨_,(pss_one (ps_ret (pcl C_counts (hr.mono (by decide)) (pa_cons (pe_callTy (call_listD rfl) rfl T.list bt_list (pa_cons (pe_fld (pv 0) rfl) pa_nil stx_Attribute)) (pa_cons (pml0 C_Table_rooms TC.cl (hr.mono (by decide)) (pv 0)) pa_nil stx_Call) stx_Call)))),?_⟩
 rw[st_Table_room_counts]
 walk_at"rd"
 refine⟨p,CT,dx,_,_,rfl,ho,TC.cl,TC.n_held,tfl_held,?_⟩
 walk_at"rd"
 refine⟨d,_,rfl,t.dc,fun l nl=>?_⟩
 rw[eV_keys]
 generalize hE:upd H l _=H1
 obtain⟨hl,s1⟩:=newo nl hE
 clear hE
 walk_at"rd"
 refine⟨p,dx,_,rfl,s1 _ _ ho,tfl_no (by decide +kernel) (by decide +kernel) (by decide +kernel),?_⟩
 walk_at"rd"
 refine⟨p,d,w,f,es,rfl,t.same s1,?_⟩
 walk_at"rd"
 refine⟨l,es.map (·.1),rmT es f,rfl,hl,by rw[List.length_map];omega,r1,by omega,fun ms l2 H2 p1 p2 n2 hl2 s2=>?_⟩
 exact q ms l2 H2 p1 p2 (s1.free n2) hl2 (s1.trans s2)
theorem ok_outlook {f:Addr}{fd:FuncData}(F:Fun K "outlook" "outlook" s_outlook f fd) (mF:mg "outlook" = some (.ref f)) (bF:Binds K fd ["keys", "wide", "fill", "more"] []) (T:Bl mg) (C_rooms_for:Cal P w K mg base "rooms_for" ["count", "fill"] 1 (sp_rooms_for K)) (C_counts:Cal P w K mg base "counts" ["keys", "rooms"] 6 (sp_counts K)) (C_least_spill:Cal P w K mg base "least_spill" ["counts", "wide", "more"] 4 (sp_least_spill K)) (C_greatest_spill:Cal P w K mg base "greatest_spill" ["counts", "wide", "more"] 7 (sp_greatest_spill K)):Cal P w K mg base "outlook" ["keys", "wide", "fill", "more"] 8 (sp_outlook K):=by
 refine Cal.of F mF bF sc_outlook (fun vs H Q E h=>?_) (fun cdv A outer s H vs Q E hr h=>?_)
 ·obtain⟨a,w,f,more,ks,R,rfl,_⟩:=h;rfl
 obtain⟨a,w,f,more,ks,R,rfl,ha,hR,hl,m0,w1,w2,f1,f2,tb,q⟩:=h
 have hb:=rfor_b (m:=ks.length+more) f1 (by omega)
 rw[hR]at hb
 have R1:1≤R:=by omega
 have ne:cntV ks R ≠ []:=fun z=>by have:=cntV_len ks R;rw[z]at this;simp at this;omega
 refine⟨_,(pss_cons (ps_set (i:=4) sc_outlook.nd rfl (Or.inl rfl) (pcl C_rooms_for (hr.mono (by decide)) (pa_cons (pe_op op_add (pe_callB call_lenL rfl T.len bt_len (pa_cons (pv 0) pa_nil stx_Name)) (pv 3)) (pa_cons (pv 2) pa_nil stx_Name) stx_BinOp)))
   (pss_cons (ps_set (i:=5) sc_outlook.nd rfl (Or.inl rfl) (pcl C_counts (hr.mono (by decide)) (pa_cons (pv 0) (pa_cons (pv 4) pa_nil stx_Name) stx_Name)))
   (pss_one (ps_ret (pe_tup (pa_cons (pv 4) (pa_cons (pe_ix ix_tup (pcl C_least_spill (hr.mono (by decide)) (pa_cons (pv 5) (pa_cons (pv 1) (pa_cons (pv 3) pa_nil stx_Name) stx_Name) stx_Name)) pe_int (fun _ _=>rfl)) (pa_cons (pe_ix ix_tup (pcl C_greatest_spill (hr.mono (by decide)) (pa_cons (pv 5) (pa_cons (pv 1) (pa_cons (pv 3) pa_nil stx_Name) stx_Name) stx_Name)) pe_int (fun _ _=>rfl)) pa_nil stx_Subscript) stx_Subscript) stx_Name)))))),?_⟩
 rw[st_outlook]
 walk_at"rd"
 refine⟨ks.length+more,f,by rw[List.length_map];rfl,f1,f2,?_⟩
 rw[hR]
 walk_at"rd"
 refine⟨a,ks,R,rfl,ha,by omega,R1,by omega,fun ms l H1 p1 p2 nl hl1 s1=>?_⟩
 rw[spread_cnt p1]at hl1
 walk_at"rd"
 refine⟨l,w,more,cntV ks R,rfl,hl1,ne,by rw[cntV_len];omega,w1,w2,fun t1 l1 H2 nt1 nl1 tl1 ht1 hl1' s2=>?_⟩
 walk_at"rd"
 refine⟨l,w,more,cntV ks R,rfl,s2 _ _ hl1,ne,by rw[cntV_len];omega,cntV_nn,w1,w2,m0,(tb.same s1).same s2,fun p t2 l2 H3 bst nt2 nl2 tl2 ht2 hl2 sm3 tb3=>?_⟩
 rw[best_val w1 cntV_nn ne m0 bst]at ht2
 walk_at"rd"
 refine⟨(by show 3≤sizeLine;decide),fun t nt=>?_⟩
 generalize hE:upd H3 t _=H4
 obtain⟨ht,s4⟩:=newo nt hE
 clear hE
 have sA:=((s1.trans s2).sm.trans sm3).trans s4.sm
 refine q t H4 ⟨p,bst⟩ (((s1.trans s2).sm.trans sm3).free nt) ?_ sA (tb3.same s4)
 rw[ht,cntV_len]
theorem ok__law_open {f:Addr}{fd:FuncData}(F:Fun K "_law_open" "_law_open" s__law_open f fd) (mF:mg "_law_open" = some (.ref f)) (bF:Binds K fd ["_law_script", "_law_place"] []) (T:Bl mg)  : Cal P w K mg base "_law_open" ["_law_script", "_law_place"] 1 (sp__law_open K):=by
 refine Cal.of F mF bF sc__law_open (fun vs H Q E h=>?_) (fun cdv A outer s H vs Q E hr h=>?_)
 ·obtain⟨a,ns,pl,rfl,_⟩:=h;rfl
 obtain⟨a,ns,pl,rfl,hS,hlen,h0,h1,q⟩:=h
 have hu:=hr.units
 refine⟨_,(pss_cons (ps_setc (i:=2) sc__law_open.nd rfl rfl rfl (blkOk (sc:=defScope s__law_open) (N:=["_law_script", "_law_place", "_law_cells", "_law_at", "_law_digits"]) (vs:=["_law_cell"]) (fs:=[]) (js:=[]) (by decide +kernel) rfl rfl) (pi_list (pe_slice sl_list (pv 0) po_none (po_some pe_int))) (fun _ _ _ _=>pg_name (i:=0) (show(["_law_cell"]:List Str).Nodup by decide +kernel) rfl (Or.inl rfl)) (fun _ _ _ _=>pif0) (fun _ _ _ _=>(pe_callB call_abs1 rfl T.abs bt_abs (pa_cons (pv 0) pa_nil stx_Name))))
   (pss_cons (ps_cut (ps_if (pt_cmpR (op_eqD hu) (pv 2) (pe_lst pa_nil) (nomark _)) (pss_one (ps_set (i:=2) sc__law_open.nd rfl (Or.inl rfl) (pe_lst (pa_cons pe_int pa_nil stx_Constant)))) pss_nil))
   (pss_cons (ps_set (i:=3) sc__law_open.nd rfl (Or.inl rfl) (pe_op op_mod (pv 1) (pe_callB call_lenL rfl T.len bt_len (pa_cons (pv 2) pa_nil stx_Name))))
   (pss_cons (ps_set (i:=4) sc__law_open.nd rfl (Or.inl rfl) pe_int)
   (pss_cons (ps_cut (ps_if (PW.pt (pw_and (pt_cmpR op_ge (pe_ix ix_list (pv 2) (pv 3) (fun _ _=>rfl)) (pe_powC (c:=1000000000000000000) (by decide +kernel) ⟨by decide,by decide,by decide⟩) (nomark _)) (pw_and1 (pt_cmpR op_lt (pv 1) (pe_callB call_lenL rfl T.len bt_len (pa_cons (pv 2) pa_nil stx_Name)) (nomark _))))) (pss_one (ps_set (i:=4) sc__law_open.nd rfl (Or.inl rfl) (pe_ix ix_list (pv 2) (pv 3) (fun _ _=>rfl)))) pss_nil))
   (pss_one (ps_ret (pe_lst (pa_cons (pv 4) (pa_cons (pe_op op_add pe_int (pe_op op_mul pe_int (pv 1))) (pa_cons (pe_op op_cat (pe_slice sl_list (pv 2) (po_some (pv 3)) po_none) (pe_slice sl_list (pv 2) po_none (po_some (pv 3)))) pa_nil stx_BinOp) stx_BinOp) stx_Name))))))))),?_⟩
 rw[st__law_open]
 walk_at"rd"
 refine rd_slL hS fun p1 n1=>?_
 have hcut:cutV (ns.map V.int) none (some 63)=ns.map V.int:=by
  have:=cut_hi (ms:=ns) (k:=63)
  rw[List.take_of_length_le hlen]at this
  exact this
 rw[hcut]
 have s1:=same_new n1 (.lst (ns.map V.int))
 have hp1:(upd H p1 (.lst (ns.map V.int))) p1=some (.lst (ns.map V.int)):=upd_same
 generalize upd H p1 (.lst (ns.map V.int))=H1 at s1 hp1 ⊢
 refine⟨p1,rfl,⟨_,SqL.of hp1⟩,fun D nD=>?_⟩
 have nD0:H D=none:=s1.free nD
 have npD:p1≠D:=ne_of_none hp1 nD
 refine comp_list (xs:=ns.map V.int) (fun i σ' ys H'=>(∃x,σ'=[x])∧(∃ms:List Int,ys=ms.map V.int∧ms.length=i)∧Same H H'∧H' p1=some (.lst (ns.map V.int))∧H' D=some (.lst ys)) D ?_ (fun i σ' ys H' _ h=>SqL.of h.2.2.2.1) ?_ ?_
 ·exact⟨⟨_,rfl⟩,⟨[],rfl,rfl⟩,s1.trans (same_new nD _),by rw[upd_ne npD];exact hp1,upd_same⟩
 ·rintro i x σ' ys H' hx ⟨⟨y,rfl⟩,⟨ms,rfl,hms⟩,g1,g2,g3⟩
  have hil:i <(ns.map V.int).length:=(List.getElem?_eq_some_iff.mp hx).1
  rw[List.length_map]at hil
  obtain⟨z,rfl⟩ : ∃z,x=V.int z:=by
   rw[List.getElem?_map]at hx
   cases e:ns[i]? with
   | none=>rw[e]at hx;cases hx
   | some z=>rw[e]at hx;exact⟨z,(Option.some.inj hx).symm⟩
  walk_at"rd"
  refine⟨g3,by rw[List.length_map];exact small1000 (by omega),⟨_,rfl⟩,⟨ms ++ [_],(by rw[List.map_append];rfl),by rw[List.length_append,hms];rfl⟩,fun b o e=>?_,?_,upd_same⟩
  ·rw[upd_ne (ne_of_none e nD0)];exact g1 _ _ e
  ·rw[upd_ne npD];exact g2
 ·rintro σ' ys H' ⟨⟨y,rfl⟩,⟨ms,rfl,hms⟩,g1,g2,g3⟩
  walk_at"rd"
  refine⟨fun σ H2=>∃C ms,σ=[some (.ref a),some (.int pl),some (.ref C),none,none]∧ms ≠ []∧ms.length≤63∧H2 C=some (.lst (List.map V.int ms))∧Same H H2,?_,?_⟩
  ·walk_at"rd"
   refine⟨by decide,fun p2 n2=>?_⟩
   refine⟨.list (ms.map PyData.int),.list [],DV.lst (SqL.of (by rw[upd_ne (ne_of_none g3 n2)];exact g3)) (DVs.ints ms),DV.lst (SqL.of upd_same) .nil,shaped_ints ms,rfl,?_⟩
   have e:PyData.eqv (.list (ms.map PyData.int)) (.list [])=decide (ms=[]):=by
    have:=eqv_ints ms []
    rw[← this,PyData.eqv];rfl
   rw[e]
   have s2:=g1.trans (same_new n2 (.lst []))
   have g32:(upd H' p2 (.lst [])) D=some (.lst (ms.map V.int)):=by rw[upd_ne (ne_of_none g3 n2)];exact g3
   generalize upd H' p2 (.lst [])=H2 at s2 g32 ⊢
   walk_at"rd"
   refine rd_if (fun h=>?_) (fun h=>?_)
   ·walk_at"rd"
    refine⟨by decide,fun p3 n3=>?_⟩
    walk_at"rd"
    exact⟨p3,[0],rfl,by simp,by simp,upd_same,s2.trans (same_new n3 _)⟩
   ·walk_at"rd"
    exact⟨D,ms,rfl,h,by rw[hms,List.length_map];exact hlen,g32,s2⟩
  ·rintro σ H2 ⟨C,ms,rfl,hne,hml,hC,s2⟩
   have hnl:=len_pos hne
   obtain⟨v,hv⟩:=nsMod hne pl
   walk_at"rd"
   refine⟨fun σ H3=>H3=H2∧∃d,σ=[some (.ref a),some (.int pl),some (.ref C),some (.int (pl%((ms.map V.int).length:Int))),some (.int d)],?_,?_⟩
   ·walk_at"rd"
    refine rd_ixL (SqL.of hC) hv ?_
    walk_at"rd"
    refine rd_if (fun h=>?_) (fun h=>?_)
    ·walk_at"rd"
     refine rd_if (fun h=>?_) (fun h=>?_)
     ·walk_at"rd"
      refine rd_ixL (SqL.of hC) hv ?_
      walk_at"rd"
      exact⟨rfl,_,rfl⟩
     ·walk_at"rd"
      exact⟨rfl,_,rfl⟩
    ·walk_at"rd"
     exact⟨rfl,_,rfl⟩
   ·rintro σ H3 ⟨rfl,d,rfl⟩
    obtain⟨k,hk,hk2⟩ : ∃k:Nat,pl%((ms.map V.int).length:Int) =(k:Int)∧k<ms.length:=by
     have z0:=Int.emod_nonneg pl (show((ms.map V.int).length:Int)≠0 by omega)
     have z1:=Int.emod_lt_of_pos pl hnl
     rw[List.length_map]at z0 z1 ⊢
     exact⟨(pl%(ms.length:Int)).toNat,by omega,by omega⟩
    rw[hk]
    walk_at"rd"
    refine rd_slL (SqL.of hC) fun p4 n4=>?_
    walk_at"rd"
    have hC4:(upd H3 p4 (.lst (cutV (ms.map V.int) (some (k:Int)) none))) C=some (.lst (ms.map V.int)):=by rw[upd_ne (ne_of_none hC n4)];exact hC
    refine rd_slL (SqL.of hC4) fun p5 n5=>?_
    rw[cut_lo,cut_hi]
    rw[cut_lo]at hC4 n5
    have s4:=s2.trans (same_new n4 (.lst ((ms.drop k).map V.int)))
    have hp4:(upd H3 p4 (.lst ((ms.drop k).map V.int))) p4=some (.lst ((ms.drop k).map V.int)):=upd_same
    generalize upd H3 p4 (.lst ((ms.drop k).map V.int))=H4 at s4 hp4 hC4 n5 ⊢
    have s5:=s4.trans (same_new n5 (.lst ((ms.take k).map V.int)))
    have hp5:(upd H4 p5 (.lst ((ms.take k).map V.int))) p5=some (.lst ((ms.take k).map V.int)):=upd_same
    have hp45:(upd H4 p5 (.lst ((ms.take k).map V.int))) p4=some (.lst ((ms.drop k).map V.int)):=by rw[upd_ne (ne_of_none hp4 n5)];exact hp4
    generalize upd H4 p5 (.lst ((ms.take k).map V.int))=H5 at s5 hp5 hp45 ⊢
    refine⟨p4,p5,_,_,rfl,rfl,hp45,hp5,(by rw[List.length_map,List.length_map,List.length_drop,List.length_take];exact Nat.le_of_lt (small1000 (by omega))),fun p6 n6=>?_⟩
    walk_at"rd"
    refine⟨(by show 3≤sizeLine;decide),fun p7 n7=>?_⟩
    have s6:=s5.trans (same_new n6 (.lst ((ms.drop k).map V.int++(ms.take k).map V.int)))
    refine q p7 _ (s6.free n7) (s6.trans (same_new n7 _)) ⟨p6,d,1+1009*pl,ms.drop k++ms.take k,upd_same,?_,by omega,by omega,?_⟩
    ·rw[upd_ne (ne_of_none upd_same n7),upd_same,List.map_append]
    ·intro e
     have:=congrArg List.length e
     rw[List.length_append,List.length_drop]at this
     simp at this
     omega
theorem ok__law_draw {f:Addr}{fd:FuncData}(F:Fun K "_law_draw" "_law_draw" s__law_draw f fd) (mF:mg "_law_draw" = some (.ref f)) (bF:Binds K fd ["_law_hand", "_law_many"] []) (T:Bl mg)  : Cal P w K mg base "_law_draw" ["_law_hand", "_law_many"] 1 (sp__law_draw K):=by
 refine Cal.of F mF bF sc__law_draw (fun vs H Q E h=>?_) (fun cdv A outer s H vs Q E hr h=>?_)
 ·obtain⟨p,N,n,rfl,_⟩:=h;rfl
 obtain⟨p,N,n,rfl,hh,hN,hn,hn2,q⟩:=h
 obtain⟨l,d,c,ns,hp,hl,hc0,hcN,hns⟩:=hh.ex
 have npl:l≠p:=hand_ne hp hl
 have hnl:=len_pos hns
 refine⟨_,(pss_cons (ps_if (pt_cmpR op_gt (pe_ix ix_list (pv 0) pe_int (fun _ _=>rfl)) pe_int (nomark _)) (pss_cons (ps_set (i:=2) sc__law_draw.nd rfl (Or.inl rfl) (pe_op op_mod (pe_ix ix_list (pv 0) pe_int (fun _ _=>rfl)) (pv 1)))
   (pss_cons (ps_asg (pe_op op_fdivB (pe_ix ix_list (pv 0) pe_int (fun _ _=>rfl)) (pv 1)) (pg_sub (pv 0) pe_int set_list))
   (pss_one (ps_ret (pv 2))))) pss_nil)
   (pss_cons (ps_augS (pv 0) pe_int get_list pe_int ip_add set_list)
   (pss_cons (ps_set (i:=3) sc__law_draw.nd rfl (Or.inl rfl) (pe_ix ix_list (pv 0) pe_int (fun _ _=>rfl)))
   (pss_cons (ps_set (i:=4) sc__law_draw.nd rfl (Or.inl rfl) (pe_op op_mod (pe_op op_add (pe_op op_mod (pe_ix ix_list (pe_ix ix_list (pv 0) pe_int (fun _ _=>rfl)) (pe_op op_mod (pv 3) (pe_callB call_lenL rfl T.len bt_len (pa_cons (pe_ix ix_list (pv 0) pe_int (fun _ _=>rfl)) pa_nil stx_Subscript))) (fun _ _=>rfl)) pe_int) (pe_op op_mul pe_int (pv 3))) pe_int))
   (pss_cons (ps_set (i:=4) sc__law_draw.nd rfl (Or.inl rfl) (pe_op op_mod (pe_op op_add (pe_op op_add (pe_op op_pow (pv 4) pe_int) (pe_op op_mul (pe_op op_mul pe_int (pv 3)) (pv 3))) pe_int) pe_int))
   (pss_cons (ps_set (i:=4) sc__law_draw.nd rfl (Or.inl rfl) (pe_op op_mod (pe_op op_add (pe_op op_mul (pe_op op_pow (pv 4) pe_int) (pe_op op_add (pe_op op_mul pe_int (pv 3)) pe_int)) pe_int) pe_int))
   (pss_one (ps_ret (pe_op op_mod (pe_op op_fdivB (pe_op op_mod (pe_op op_mul (pv 4) pe_int) pe_int) pe_int) (pv 1)))))))))),?_⟩
 rw[st__law_draw]
 walk_at"rd"
 refine rd_if (fun h=>?_) (fun h=>?_)
 ·walk_at"rd"
  refine q _ _ (Int.emod_nonneg _ (by omega)) (Int.emod_lt_of_pos _ hn) ⟨l,d / n,c,ns,upd_same,?_,hc0,by omega,hns⟩ (Kp.hand hp)
  rw[upd_ne npl];exact hl
 ·walk_at"rd"
  have hp1:(upd H p (.lst [V.int d,.int (c+1),.ref l])) p=some (.lst [.int d,.int (c+1),.ref l]):=upd_same
  have hl1:(upd H p (.lst [V.int d,.int (c+1),.ref l])) l=some (.lst (ns.map V.int)):=by rw[upd_ne npl];exact hl
  have k1:Kp H (upd H p (.lst [V.int d,.int (c+1),.ref l])) p:=Kp.hand hp
  generalize upd H p (.lst [V.int d,.int (c+1),.ref l])=H1 at hp1 hl1 k1 ⊢
  walk_at"rd"
  obtain⟨v,hv⟩:=nsMod hns (c+1)
  refine rd_ixL (SqL.of hl1) hv ?_
  walk_at"rd"
  have hn0:n≠0:=by omega
  exact q _ _ (Int.emod_nonneg _ hn0) (Int.emod_lt_of_pos _ hn) ⟨l,d,c+1,ns,hp1,hl1,by omega,by omega,hns⟩ k1
theorem ok__law_far {f:Addr}{fd:FuncData}(F:Fun K "_law_far" "_law_far" s__law_far f fd) (mF:mg "_law_far" = some (.ref f)) (bF:Binds K fd ["_law_hand", "_law_many"] []) (T:Bl mg) (C__law_draw:Cal P w K mg base "_law_draw" ["_law_hand", "_law_many"] 1 (sp__law_draw K)):Cal P w K mg base "_law_far" ["_law_hand", "_law_many"] 2 (sp__law_far K):=by
 refine Cal.of F mF bF sc__law_far (fun vs H Q E h=>?_) (fun cdv A outer s H vs Q E hr h=>?_)
 ·obtain⟨p,N,n,rfl,_⟩:=h;rfl
 obtain⟨p,N,n,rfl,hh,hN,hn,hn2,q⟩:=h
 obtain⟨l,d,c,ns,hp,hl,hc0,hcN,hns⟩:=hh.ex
 refine⟨_,(pss_cons (ps_if (pt_cmpR op_gt (pe_ix ix_list (pv 0) pe_int (fun _ _=>rfl)) pe_int (nomark _)) (pss_one (ps_ret (pcl C__law_draw (hr.mono (by decide)) (pa_cons (pv 0) (pa_cons (pv 1) pa_nil stx_Name) stx_Name)))) pss_nil)
   (pss_cons (ps_set (i:=2) sc__law_far.nd rfl (Or.inl rfl) pe_int)
   (pss_cons (ps_for PassesOwn.never rfl (pi_range1 rfl T.range (pa_cons pe_int pa_nil stx_Constant)) (pg_name (i:=3) sc__law_far.nd rfl (Or.inl rfl)) (pss_one (ps_set (i:=2) sc__law_far.nd rfl (Or.inl rfl) (pe_op op_add (pe_op op_mul (pv 2) (pe_powC (c:=1000000) (by decide +kernel) ⟨by decide,by decide,by decide⟩)) (pcl C__law_draw (hr.mono (by decide)) (pa_cons (pv 0) (pa_cons (pe_powC (c:=1000000) (by decide +kernel) ⟨by decide,by decide,by decide⟩) pa_nil stx_BinOp) stx_Name))))))
   (pss_one (ps_ret (pe_op op_mod (pv 2) (pv 1))))))),?_⟩
 rw[st__law_far]
 walk_at"rd"
 refine rd_if (fun h=>?_) (fun h=>?_)
 ·walk_at"rd"
  exact⟨p,N,n,rfl,hh,by omega,hn,hn2,fun r H' h0 h1 h2 h3=>q r H' h0 h1 (h2.mono (by omega)) h3⟩
 ·walk_at"rd"
  refine⟨7,rfl,by omega,by omega,?_⟩
  refine for_rangeO (n:=7) (fun i σ H'=>(∃v x,σ=[some (.ref p),some (.int n),some (.int v),x])∧Hand H' p (N+i)∧Kp H H' p∧i≤7) ⟨⟨_,_,rfl⟩,hh,Kp.refl _ _,by omega⟩ ?_ ?_
  ·rintro i σ H' hi ⟨⟨v,x,rfl⟩,h1,h2,h3⟩
   walk_at"rd"
   exact⟨p,N+i,_,rfl,h1,by omega,by decide,by decide,fun r H2 h0 h4 h5 h6=>by
    walk_at"rd"
    exact⟨⟨_,_,rfl⟩,h5,h2.trans h6,by omega⟩⟩
  ·rintro σ H' ⟨⟨v,x,rfl⟩,h1,h2,h3⟩
   walk_at"rd"
   exact q _ _ (Int.emod_nonneg _ (by omega)) (Int.emod_lt_of_pos _ hn) h1 h2
theorem ok__law_power {f:Addr}{fd:FuncData}(F:Fun K "_law_power" "_law_power" s__law_power f fd) (mF:mg "_law_power" = some (.ref f)) (bF:Binds K fd ["_law_many"] []) (T:Bl mg)  : Cal P w K mg base "_law_power" ["_law_many"] 1 (sp__law_power K):=by
 refine Cal.of F mF bF sc__law_power (fun vs H Q E h=>?_) (fun cdv A outer s H vs Q E hr h=>?_)
 ·obtain⟨m,rfl,_⟩:=h;rfl
 obtain⟨m,rfl,hm,q⟩:=h
 refine⟨_,(pss_cons (ps_set (i:=1) sc__law_power.nd rfl (Or.inl rfl) pe_int)
   (pss_cons (ps_for PassesOwn.never rfl (pi_range1 rfl T.range (pa_cons (pv 0) pa_nil stx_Name)) (pg_name (i:=2) sc__law_power.nd rfl (Or.inl rfl)) (pss_one (ps_set (i:=1) sc__law_power.nd rfl (Or.inl rfl) (pe_op op_mul (pv 1) pe_int))))
   (pss_one (ps_ret (pv 1))))),?_⟩
 rw[st__law_power]
 walk_at"rd"
 refine⟨(m:Int),rfl,by omega,by omega,?_⟩
 rw[show((m:Int)).toNat=m from by omega]
 refine for_rangeO (n:=m) (fun i σ H'=>(∃x,σ=[some (.int m),some (.int (2^i)),x])∧H'=H) ⟨⟨_,rfl⟩,rfl⟩ ?_ ?_
 ·rintro i σ H' hi ⟨⟨x,rfl⟩,rfl⟩
  walk_at"rd"
  exact⟨⟨_,by rw[Int.pow_succ]⟩,rfl⟩
 ·rintro σ H' ⟨⟨x,rfl⟩,rfl⟩
  walk_at"rd"
  exact q
theorem ok__law_key {f:Addr}{fd:FuncData}(F:Fun K "_law_key" "_law_key" s__law_key f fd) (mF:mg "_law_key" = some (.ref f)) (bF:Binds K fd ["_law_hand"] []) (T:Bl mg) (C__law_draw:Cal P w K mg base "_law_draw" ["_law_hand", "_law_many"] 1 (sp__law_draw K)) (C__law_far:Cal P w K mg base "_law_far" ["_law_hand", "_law_many"] 2 (sp__law_far K)) (C__law_power:Cal P w K mg base "_law_power" ["_law_many"] 1 (sp__law_power K)):Cal P w K mg base "_law_key" ["_law_hand"] 3 (sp__law_key K):=by
 refine Cal.of F mF bF sc__law_key (fun vs H Q E h=>?_) (fun cdv A outer s H vs Q E hr h=>?_)
 ·obtain⟨p,N,rfl,_⟩:=h;rfl
 obtain⟨p,N,rfl,hh,hN,q⟩:=h
 refine⟨_,(pss_cons (ps_set (i:=1) sc__law_key.nd rfl (Or.inl rfl) (pcl C__law_draw (hr.mono (by decide)) (pa_cons (pv 0) (pa_cons pe_int pa_nil stx_Constant) stx_Name)))
   (pss_cons (ps_set (i:=2) sc__law_key.nd rfl (Or.inl rfl) (pcl C__law_draw (hr.mono (by decide)) (pa_cons (pv 0) (pa_cons (pe_ix ix_list (pe_lst (pa_cons pe_int (pa_cons pe_int (pa_cons pe_int pa_nil stx_Constant) stx_Constant) stx_Constant)) (pcl C__law_draw (hr.mono (by decide)) (pa_cons (pv 0) (pa_cons pe_int pa_nil stx_Constant) stx_Name)) (fun _ _=>rfl)) pa_nil stx_Subscript) stx_Name)))
   (pss_cons (ps_if (pt_cmpR op_lt (pv 1) pe_int (nomark _)) (pss_one (ps_ret (pv 2))) pss_nil)
   (pss_cons (ps_if (pt_cmpR op_eq (pv 1) pe_int (nomark _)) (pss_one (ps_ret (pe_op op_sub (pe_op op_sub (pe_powC (c:=1152921504606846976) (by decide +kernel) ⟨by decide,by decide,by decide⟩) pe_int) (pv 2)))) pss_nil)
   (pss_cons (ps_if (pt_cmpR op_eq (pv 1) pe_int (nomark _)) (pss_one (ps_ret (pe_op op_add (pv 2) (pcl C__law_power (hr.mono (by decide)) (pa_cons (pe_op op_add pe_int (pcl C__law_draw (hr.mono (by decide)) (pa_cons (pv 0) (pa_cons pe_int pa_nil stx_Constant) stx_Name))) pa_nil stx_BinOp))))) pss_nil)
   (pss_cons (ps_if (pt_cmpR op_eq (pv 1) pe_int (nomark _)) (pss_one (ps_ret (pe_op op_add (pe_op op_mod (pv 2) pe_int) (pe_op op_mul pe_int (pcl C__law_far (hr.mono (by decide)) (pa_cons (pv 0) (pa_cons (pe_powC (c:=72057594037927936) (by decide +kernel) ⟨by decide,by decide,by decide⟩) pa_nil stx_BinOp) stx_Name)))))) pss_nil)
   (pss_one (ps_ret (pcl C__law_far (hr.mono (by decide)) (pa_cons (pv 0) (pa_cons (pe_powC (c:=1152921504606846976) (by decide +kernel) ⟨by decide,by decide,by decide⟩) pa_nil stx_BinOp) stx_Name)))))))))),?_⟩
 rw[st__law_key]
 walk_at"rd"
 refine⟨p,N,7,rfl,hh,by omega,by decide,by decide,fun way H1 w0 w1 hh1 k1=>?_⟩
 walk_at"rd"
 refine⟨(by show 3≤sizeLine;decide),fun l nl=>?_⟩
 walk_at"rd"
 have k2:=k1.trans (Kp.of (same_new nl (.lst [V.int 4,V.int 16,V.int 200])) hh1)
 have hh2:=hh1.same (same_new nl (.lst [V.int 4,V.int 16,V.int 200]))
 have hl:(upd H1 l (.lst [V.int 4,V.int 16,V.int 200])) l=some (.lst [V.int 4,V.int 16,V.int 200]):=upd_same
 have nlp:l≠p:=by
  obtain⟨l1,d,c,ns,h1,_⟩:=hh1.ex
  exact(ne_of_none h1 nl).symm
 generalize upd H1 l (.lst [V.int 4,V.int 16,V.int 200])=H2 at k2 hh2 hl ⊢
 refine⟨p,N+1,3,rfl,hh2,by omega,by decide,by decide,fun r H3 r0 r1 hh3 k3=>?_⟩
 have hl3:=k3.1 _ _ hl nlp
 obtain⟨b,hb,b0,b1⟩ : ∃b:Int,atI [V.int 4,V.int 16,V.int 200] r=some (.int b)∧0<b∧b≤200:=by
  have:r=0∨r=1∨r=2:=by omega
  rcases this with rfl|rfl|rfl
  ·exact⟨4,rfl,by decide,by decide⟩
  ·exact⟨16,rfl,by decide,by decide⟩
  ·exact⟨200,rfl,by decide,by decide⟩
 refine rd_ixL (SqL.of hl3) hb ?_
 walk_at"rd"
 refine⟨p,N+1+1,b,rfl,hh3,by omega,b0,by omega,fun low H4 l0 l1 hh4 k4=>?_⟩
 have k5:=(k2.trans k3).trans k4
 walk_at"rd"
 refine rd_if (fun c1=>?_) (fun c1=>?_)
 ·walk_at"rd"
  exact q _ _ l0 (by omega) (hh4.mono (by omega)) k5
 walk_at"rd"
 refine rd_if (fun c2=>?_) (fun c2=>?_)
 ·walk_at"rd"
  exact q _ _ (by omega) (by omega) (hh4.mono (by omega)) k5
 walk_at"rd"
 refine rd_if (fun c3=>?_) (fun c3=>?_)
 ·walk_at"rd"
  refine⟨p,N+1+1+1,52,rfl,hh4,by omega,by decide,by decide,fun e H5 e0 e1 hh5 k6=>?_⟩
  walk_at"rd"
  obtain⟨m,rfl⟩ : ∃m:Nat,e =(m:Int):=⟨e.toNat,by omega⟩
  refine⟨8+m,(by show [V.int (8+(m:Int))]=[V.int ((8+m:Nat):Int)];rw[show(8+(m:Int)) =((8+m:Nat):Int) by omega]),by omega,?_⟩
  walk_at"rd"
  have h1:(2:Int)^(8+m)≤2^59:=pow2_le (by omega)
  have h2:(0:Int)<2^(8+m):=Int.pow_pos (by decide)
  have h3:(2:Int)^59=576460752303423488:=by decide
  exact q _ _ (by omega) (by omega) (hh5.mono (by omega)) (k5.trans k6)
 walk_at"rd"
 refine rd_if (fun c4=>?_) (fun c4=>?_)
 ·walk_at"rd"
  refine⟨p,N+1+1+1,_,rfl,hh4,by omega,by decide,by decide,fun e H5 e0 e1 hh5 k6=>?_⟩
  walk_at"rd"
  exact q _ _ (by omega) (by omega) (hh5.mono (by omega)) (k5.trans k6)
 ·walk_at"rd"
  exact⟨p,N+1+1+1,_,rfl,hh4,by omega,by decide,by decide,fun e H5 e0 e1 hh5 k6=>q _ _ e0 e1 (hh5.mono (by omega)) (k5.trans k6)⟩
theorem ok__law_keys {f:Addr}{fd:FuncData}(F:Fun K "_law_keys" "_law_keys" s__law_keys f fd) (mF:mg "_law_keys" = some (.ref f)) (bF:Binds K fd ["_law_hand", "_law_many"] []) (T:Bl mg) (C__law_key:Cal P w K mg base "_law_key" ["_law_hand"] 3 (sp__law_key K)):Cal P w K mg base "_law_keys" ["_law_hand", "_law_many"] 4 (sp__law_keys K):=by
 refine Cal.of F mF bF sc__law_keys (fun vs H Q E h=>?_) (fun cdv A outer s H vs Q E hr h=>?_)
 ·obtain⟨p,N,n,rfl,_⟩:=h;rfl
 obtain⟨p,N,n,rfl,hh,hN,n0,n1,q⟩:=h
 have e60:(2:Int)^60=1152921504606846976:=by decide
 refine⟨_,(pss_cons (ps_set (i:=2) sc__law_keys.nd rfl (Or.inl rfl) (pe_lst pa_nil))
   (pss_cons (ps_for PassesOwn.never rfl (pi_range1 rfl T.range (pa_cons (pv 1) pa_nil stx_Name)) (pg_name (i:=3) sc__law_keys.nd rfl (Or.inl rfl)) (pss_cons (ps_set (i:=4) sc__law_keys.nd rfl (Or.inl rfl) (pcl C__law_key (hr.mono (by decide)) (pa_cons (pv 0) pa_nil stx_Name)))
   (pss_cons (ps_while PassesOwn.never (pt_cmpR op_in_seq (pv 4) (pv 2) (by with_unfolding_all rfl)) (pss_one (ps_set (i:=4) sc__law_keys.nd rfl (Or.inl rfl) (pe_op op_mod (pe_op op_add (pv 4) pe_int) (pe_powC (c:=1152921504606846976) (by decide +kernel) ⟨by decide,by decide,by decide⟩)))))
   (pss_one (ps_expr (pe_bm PySem.F.plainAttrs_list PySem.F.slot_list_append PySem.F.type_list_append mt_append (pv 2) (pa_cons (pv 4) pa_nil stx_Name)))))))
   (pss_one (ps_ret (pv 2))))),?_⟩
 rw[st__law_keys]
 walk_at"rd"
 refine⟨by decide,fun D nD=>?_⟩
 have ck:=CK.start (ys:=[]) hh nD
 generalize upd H D _=H1 at ck ⊢
 walk_at"rd"
 refine⟨n,rfl,by omega,by omega,?_⟩
 refine for_rangeO (n:=n.toNat) (fun i σ H'=>(∃x1 x2,σ=[some (.ref p),some (.int n),some (.ref D),x1,x2])∧∃ns:List Int,ns.Nodup∧(∀k∈ns,0≤k∧k<1152921504606846976)∧ns.length=i∧CK H p D (N+20*i) (ns.map V.int) H') ⟨⟨_,_,rfl⟩,[],List.nodup_nil,by simp,rfl,ck⟩ ?_ ?_
 ·rintro i σ H2 hi ⟨⟨x1,x2,rfl⟩,ns,nd,bd,len,ck⟩
  walk_at"rd"
  refine⟨p,_,rfl,ck.hh,by omega,fun v H3 v0 v1 hh3 k3=>?_⟩
  have ck:=ck.draw k3 hh3
  have hD:=ck.lat
  walk_at"rd"
  obtain⟨m0,hm0⟩:=free_key (ks:=ns) (by omega) v
  refine⟨fun m σ H'=>H'=H3∧∃v,σ=[some (.ref p),some (.int n),some (.ref D),some (.int (0+i)),some (.int v)]∧0≤v∧v<1152921504606846976∧(v+m)%1152921504606846976∉ns,⟨m0,rfl,v,rfl,v0,by omega,hm0⟩,?_⟩
  rintro m σ H' ⟨rfl,v,rfl,u0,u1,hm⟩
  walk_at"rd"
  refine rd_inI (SqL.of hD) ?_
  walk_at"rd"
  refine rd_if (fun c=>?_) (fun c=>?_)
  ·refine⟨_,fun σ' H'' h=>h,?_⟩
   walk_at"rd"
   have hm1:m≠0:=fun e=>by
    subst e
    rw[show((0:Nat):Int)=0 from rfl,Int.add_zero,Int.emod_eq_of_lt u0 u1]at hm
    exact hm c
   refine⟨m-1,by omega,rfl,(v+1)%1152921504606846976,rfl,by omega,by omega,?_⟩
   have e:((v+1)%1152921504606846976+((m-1:Nat):Int))%1152921504606846976 =(v+m)%1152921504606846976:=by omega
   rw[e];exact hm
  ·walk_at"rd"
   refine⟨.inl ⟨rfl,_,SqL.of hD⟩,?_⟩
   walk_at"rd"
   refine⟨D,_,_,rfl,rfl,hD,by rw[List.length_map];exact small1000 (by omega),?_⟩
   walk_at"rd"
   refine⟨⟨_,_,rfl⟩,ns ++ [v],?_,fun k hk=>?_,by rw[List.length_append,len];rfl,?_⟩
   ·rw[List.nodup_append]
    exact⟨nd,by simp,fun a ha b hb e=>by simp at hb;rw[hb]at e;exact c (e ▸ ha)⟩
   ·rcases List.mem_append.mp hk with z|z
    ·exact bd k z
    ·simp at z;rw[z];exact⟨u0,u1⟩
   ·rw[List.map_append]
    exact ck.push
 ·rintro σ H2 ⟨⟨x1,x2,rfl⟩,ns,nd,bd,len,ck⟩
  walk_at"rd"
  exact q D ns _ nD ck.lat nd (by omega) bd (ck.hh.mono (by omega)) ck.kp
theorem ok__law_room {f:Addr}{fd:FuncData}(F:Fun K "_law_room" "_law_room" s__law_room f fd) (mF:mg "_law_room" = some (.ref f)) (bF:Binds K fd ["_law_key_here", "_law_rooms"] []) (T:Bl mg)  : Cal P w K mg base "_law_room" ["_law_key_here", "_law_rooms"] 1 (sp__law_room K):=by
 refine Cal.of F mF bF sc__law_room (fun vs H Q E h=>?_) (fun cdv A outer s H vs Q E hr h=>?_)
 ·obtain⟨k,R,rfl,_⟩:=h;rfl
 obtain⟨k,R,rfl,k0,k1,h1,h2,q⟩:=h
 have gl:=lg_le h1
 have gt:=lg_lt h1
 refine⟨_,(pss_cons (ps_set (i:=2) sc__law_room.nd rfl (Or.inl rfl) pe_int)
   (pss_cons (ps_while PassesOwn.never (pt_cmpR op_le (pe_op op_mul (pv 2) pe_int) (pv 1) (nomark _)) (pss_one (ps_set (i:=2) sc__law_room.nd rfl (Or.inl rfl) (pe_op op_mul (pv 2) pe_int))))
   (pss_cons (ps_set (i:=3) sc__law_room.nd rfl (Or.inl rfl) (pe_op op_mod (pv 0) (pv 2)))
   (pss_cons (ps_if (pt_cmpR op_lt (pv 3) (pe_op op_sub (pv 1) (pv 2)) (nomark _)) (pss_one (ps_ret (pe_op op_mod (pv 0) (pe_op op_mul (pv 2) pe_int)))) pss_nil)
   (pss_one (ps_ret (pv 3))))))),?_⟩
 rw[st__law_room]
 walk_at"rd"
 refine⟨fun m σ H'=>H'=H∧∃j:Nat,σ=[some (.int k),some (.int R),some (.int (2^j)),none]∧j≤lg R∧m=lg R-j,⟨lg R,rfl,0,rfl,by omega,by omega⟩,?_⟩
 rintro m σ H' ⟨rfl,j,rfl,hj,rfl⟩
 have pj:=pow2_pos j
 have pl:=pow2_le hj
 have ep:(2:Int)^(j+1)=2^j*2:=Int.pow_succ 2 j
 walk_at"rd"
 refine rd_if (fun c=>?_) (fun c=>?_)
 ·refine⟨_,fun σ' H'' h=>h,?_⟩
  walk_at"rd"
  have:j<lg R:=by
   by_cases z:j<lg R
   ·exact z
   ·have e:j=lg R:=by omega
    rw[Int.pow_succ,← e]at gt
    omega
  exact⟨lg R-(j+1),by omega,rfl,j+1,by rw[ep],by omega,rfl⟩
 ·have e:j=lg R:=by
   by_cases z:j<lg R
   ·have:=pow2_le (show j+1≤lg R by omega)
    omega
   ·omega
  subst e
  walk_at"rd"
  refine rd_if (fun c2=>?_) (fun c2=>?_)
  ·walk_at"rd"
   have e2:roomV k R=k%(2^lg R*2):=by unfold roomV;rw[if_neg (by omega),ep]
   rw[← e2];exact q
  ·walk_at"rd"
   have e2:roomV k R=k%2^lg R:=by unfold roomV;rw[if_pos (by omega)]
   rw[← e2];exact q
theorem ok__law_needs {f:Addr}{fd:FuncData}(F:Fun K "_law_needs" "_law_needs" s__law_needs f fd) (mF:mg "_law_needs" = some (.ref f)) (bF:Binds K fd ["_law_sizes", "_law_wide"] []) (T:Bl mg)  : Cal P w K mg base "_law_needs" ["_law_sizes", "_law_wide"] 1 (sp__law_needs K):=by
 refine Cal.of F mF bF sc__law_needs (fun vs H Q E h=>?_) (fun cdv A outer s H vs Q E hr h=>?_)
 ·obtain⟨a,w,cs,rfl,_⟩:=h;rfl
 obtain⟨a,w,cs,rfl,ha,hz,w1,w2,q⟩:=h
 refine⟨_,(pss_one (ps_ret (pe_callB call_sortL rfl T.sorted bt_sorted (pa_cons (pe_comp rfl (blkOk (sc:=defScope s__law_needs) (N:=["_law_sizes", "_law_wide"]) (vs:=["_law_many"]) (fs:=["_law_wide"]) (js:=[1]) (by decide +kernel) rfl rfl) (pi_list (pv 0)) (fun _ _ _ _=>pg_name (i:=0) (show(["_law_many", "_law_wide"]:List Str).Nodup by decide +kernel) rfl (Or.inl rfl)) (fun _ _ _ _=>pif1 (pt_cmpR op_gt (pv 0) pe_int (nomark _))) (fun _ _ _ _=>(pe_op op_add pe_int (pe_op op_mod (pe_op op_sub pe_int (pv 0)) (pv 1))))) pa_nil stx_ListComp)))),?_⟩
 rw[st__law_needs]
 walk_at"rd"
 refine⟨a,rfl,⟨_,SqL.of ha⟩,fun D nD=>?_⟩
 refine comp_list (xs:=cs.map V.int) (fun i σ' ys H'=>(∃x,σ'=[x,some (.int w)])∧Same H H'∧ys =(gapsV w (cs.take i)).map V.int∧H' D=some (.lst ys)) D ⟨⟨_,rfl⟩,same_new nD _,rfl,upd_same⟩ (fun i σ' ys H' _ h=>SqL.of (h.2.1 _ _ ha)) ?_ ?_
 ·rintro i x σ' ys H1 hx ⟨⟨x1,rfl⟩,s1,rfl,hD⟩
  obtain⟨z,hz',rfl⟩:=ints_get hx
  have gl:=gapsV_len (w:=w) (c:=cs.take i)
  rw[List.length_take]at gl
  have es:gapsV w (cs.take (i+1))=gapsV w (cs.take i)++(if 0<z then [gapV w z] else []):=by rw[take_get hz',gapsV_snoc]
  walk_at"rd"
  refine rd_if (fun c=>?_) (fun c=>?_)
  ·walk_at"rd"
   rw[need1 w1 c]
   refine⟨hD,by rw[List.length_map];exact small1000 (by omega),⟨_,rfl⟩,fun c o e=>?_,?_,upd_same⟩
   ·rw[upd_ne (ne_of_none e nD)];exact s1 _ _ e
   ·rw[es,if_pos c,List.map_append];rfl
  ·refine⟨⟨_,rfl⟩,s1,?_,hD⟩
   rw[es,if_neg c,List.append_nil]
 ·rintro σ' ys H1 ⟨⟨x1,rfl⟩,s1,rfl,hD⟩
  rw[List.length_map,List.take_length]at hD
  have gl:=gapsV_len (w:=w) (c:=cs)
  walk_at"rd"
  refine rd_sortL (SqL.of hD) (by omega) fun ms l p1 p2 nl=>?_
  generalize hE:upd H1 l _=H2
  obtain⟨h2,s2⟩:=newo nl hE
  clear hE
  rw[srt_eq p1 p2]at h2
  exact q l H2 h2 (s1.trans s2)
theorem ok__law_greatest {f:Addr}{fd:FuncData}(F:Fun K "_law_greatest" "_law_greatest" s__law_greatest f fd) (mF:mg "_law_greatest" = some (.ref f)) (bF:Binds K fd ["_law_sizes", "_law_wide", "_law_more"] []) (T:Bl mg) (C__law_needs:Cal P w K mg base "_law_needs" ["_law_sizes", "_law_wide"] 1 (sp__law_needs K)):Cal P w K mg base "_law_greatest" ["_law_sizes", "_law_wide", "_law_more"] 2 (sp__law_greatest K):=by
 refine Cal.of F mF bF sc__law_greatest (fun vs H Q E h=>?_) (fun cdv A outer s H vs Q E hr h=>?_)
 ·obtain⟨a,w,more,cs,rfl,_⟩:=h;rfl
 obtain⟨a,w,more,cs,rfl,ha,hz,c0,w1,w2,q⟩:=h
 have hu:=hr.units
 refine⟨_,(pss_cons (ps_set (i:=3) sc__law_greatest.nd rfl (Or.inl rfl) (pe_callB (call_sumL rfl) rfl T.sum bt_sum (pa_cons (pe_comp rfl (blkOk (sc:=defScope s__law_greatest) (N:=["_law_sizes", "_law_wide", "_law_more", "_law_rows", "_law_needs_here", "_law_left", "_law_need"]) (vs:=["_law_many"]) (fs:=["_law_wide"]) (js:=[1]) (by decide +kernel) rfl rfl) (pi_list (pv 0)) (fun _ _ _ _=>pg_name (i:=0) (show(["_law_many", "_law_wide"]:List Str).Nodup by decide +kernel) rfl (Or.inl rfl)) (fun _ _ _ _=>pif0) (fun _ _ _ _=>(pe_op op_fdivB (pe_callB (call_maxI rfl) rfl T.max bt_max (pa_cons pe_int (pa_cons (pe_op op_sub (pv 0) pe_int) pa_nil stx_BinOp) stx_Constant)) (pv 1)))) pa_nil stx_ListComp)))
   (pss_cons (ps_set (i:=4) sc__law_greatest.nd rfl (Or.inl rfl) (pcl C__law_needs (hr.mono (by decide)) (pa_cons (pv 0) (pa_cons (pv 1) pa_nil stx_Name) stx_Name)))
   (pss_cons (ps_if (pt_cmpR (op_eqD hu) (pv 4) (pe_lst pa_nil) (nomark _)) (pss_one (ps_ret (pe_op op_add (pv 3) (pe_op op_fdivB (pe_callB (call_maxI rfl) rfl T.max bt_max (pa_cons pe_int (pa_cons (pe_op op_sub (pv 2) pe_int) pa_nil stx_BinOp) stx_Constant)) (pv 1))))) pss_nil)
   (pss_cons (ps_set (i:=5) sc__law_greatest.nd rfl (Or.inl rfl) (pv 2))
   (pss_cons (ps_for PassesOwn.never rfl (pi_list (pv 4)) (pg_name (i:=6) sc__law_greatest.nd rfl (Or.inl rfl)) (pss_cons (ps_if (pt_cmpR op_lt (pv 5) (pv 6) (nomark _)) (pss_one (ps_ret (pv 3))) pss_nil)
   (pss_cons (ps_set (i:=5) sc__law_greatest.nd rfl (Or.inl rfl) (pe_op op_sub (pv 5) (pv 6)))
   (pss_one (ps_set (i:=3) sc__law_greatest.nd rfl (Or.inl rfl) (pe_op op_add (pv 3) pe_int))))))
   (pss_one (ps_ret (pe_op op_add (pv 3) (pe_op op_fdivB (pv 5) (pv 1)))))))))),?_⟩
 rw[st__law_greatest]
 walk_at"rd"
 refine⟨a,rfl,⟨_,SqL.of ha⟩,fun D nD=>?_⟩
 refine comp_list (xs:=cs.map V.int) (fun i σ' ys H'=>(∃x,σ'=[x,some (.int w)])∧Same H H'∧ys =((cs.map fun x=>max 0 (x-1) / w).take i).map V.int∧H' D=some (.lst ys)) D ⟨⟨_,rfl⟩,same_new nD _,rfl,upd_same⟩ (fun i σ' ys H' _ h=>SqL.of (h.2.1 _ _ ha)) ?_ ?_
 ·rintro i x σ' ys H1 hx ⟨⟨x1,rfl⟩,s1,rfl,hD⟩
  obtain⟨z,hz',rfl⟩:=ints_get hx
  have il:=(List.getElem?_eq_some_iff.mp hz').1
  walk_at"rd"
  refine⟨hD,by rw[List.length_map,List.length_take];exact small1000 (by omega),⟨_,rfl⟩,fun c o e=>?_,?_,upd_same⟩
  ·rw[upd_ne (ne_of_none e nD)];exact s1 _ _ e
  ·rw[take_get (x:=max 0 (z-1) / w) (by rw[List.getElem?_map,hz'];rfl),List.map_append];rfl
 ·rintro σ' ys H1 ⟨⟨x1,rfl⟩,s1,rfl,hD⟩
  rw[List.length_map,List.take_of_length_le (by rw[List.length_map];omega)]at hD
  walk_at"rd"
  refine rd_sumL (SqL.of hD) ?_
  rw[sum_more w1 c0]
  walk_at"rd"
  refine⟨a,w,cs,rfl,s1 _ _ ha,hz,w1,w2,fun l H2 hl s2=>?_⟩
  have sA:=s1.trans s2
  walk_at"rd"
  refine⟨by decide,fun e ne=>?_⟩
  generalize hE:upd H2 e _=H3
  obtain⟨he,s3⟩:=newo ne hE
  clear hE
  have hl3:=s3 _ _ hl
  refine⟨_,_,dv_ints hl3,dv_ints (ns:=[]) he,shaped_ints _,shaped_ints _,?_⟩
  rw[PyData.eqv,eqv_ints]
  have sB:=sA.trans s3
  walk_at"rd"
  refine rd_if (fun c=>?_) (fun c=>?_)
  ·walk_at"rd"
   have:=q H3 sB
   unfold greatV at this
   rw[if_pos c]at this
   exact this
  ·walk_at"rd"
   refine⟨l,rfl,⟨_,SqL.of hl3⟩,?_⟩
   have gv:greatV w cs more=rows0 w cs-cs.length+climb w (srt (gapsV w cs)) more:=by unfold greatV;rw[if_neg c]
   rw[gv]at q
   generalize srt (gapsV w cs)=gs at hl3 q
   refine for_listO (xs:=gs.map V.int) (fun i σ H'=>Same H3 H'∧∃left x1,σ=[some (.ref a),some (.int w),some (.int more),some (.int (rows0 w cs-cs.length+i)),some (.ref l),some (.int left),x1]∧climb w gs more=i+climb w (gs.drop i) left) ⟨Same.refl _,more,_,by simp;rfl,by simp⟩ (fun _ _ _ _ h=>SqL.of (h.1 _ _ hl3)) ?_ ?_
   ·rintro i x σ H4 hx ⟨s4,left,x1,rfl,hcl⟩
    obtain⟨z,hz',rfl⟩:=ints_get hx
    rw[climb_drop hz']at hcl
    walk_at"rd"
    refine rd_if (fun d=>?_) (fun d=>?_)
    ·rw[if_pos d]at hcl
     walk_at"rd"
     have:=q H4 (sB.trans s4)
     rw[hcl,Int.add_zero]at this
     exact this
    ·rw[if_neg d]at hcl
     walk_at"rd"
     exact⟨s4,left-z,_,by rw[show rows0 w cs-cs.length+(i:Int)+1=rows0 w cs-cs.length+((i+1:Nat):Int) by push_cast;omega],by rw[hcl];push_cast;omega⟩
   ·rintro σ H4 ⟨s4,left,x1,rfl,hcl⟩
    rw[List.length_map,List.drop_length,climb]at hcl
    rw[List.length_map]
    walk_at"rd"
    have:=q H4 (sB.trans s4)
    rw[hcl,← Int.add_assoc]at this
    exact this
theorem ok__law_least {f:Addr}{fd:FuncData}(F:Fun K "_law_least" "_law_least" s__law_least f fd) (mF:mg "_law_least" = some (.ref f)) (bF:Binds K fd ["_law_sizes", "_law_wide", "_law_more"] []) (T:Bl mg)  : Cal P w K mg base "_law_least" ["_law_sizes", "_law_wide", "_law_more"] 1 (sp__law_least K):=by
 refine Cal.of F mF bF sc__law_least (fun vs H Q E h=>?_) (fun cdv A outer s H vs Q E hr h=>?_)
 ·obtain⟨a,w,more,cs,rfl,_⟩:=h;rfl
 obtain⟨a,w,more,cs,rfl,ha,hne,hz,c0,w1,w2,m0,q⟩:=h
 refine⟨_,(pss_cons (ps_set (i:=3) sc__law_least.nd rfl (Or.inl rfl) (pe_callB (call_sumL rfl) rfl T.sum bt_sum (pa_cons (pe_comp rfl (blkOk (sc:=defScope s__law_least) (N:=["_law_sizes", "_law_wide", "_law_more", "_law_rows", "_law_free"]) (vs:=["_law_many"]) (fs:=["_law_wide"]) (js:=[1]) (by decide +kernel) rfl rfl) (pi_list (pv 0)) (fun _ _ _ _=>pg_name (i:=0) (show(["_law_many", "_law_wide"]:List Str).Nodup by decide +kernel) rfl (Or.inl rfl)) (fun _ _ _ _=>pif0) (fun _ _ _ _=>(pe_op op_fdivB (pe_callB (call_maxI rfl) rfl T.max bt_max (pa_cons pe_int (pa_cons (pe_op op_sub (pv 0) pe_int) pa_nil stx_BinOp) stx_Constant)) (pv 1)))) pa_nil stx_ListComp)))
   (pss_cons (ps_set (i:=4) sc__law_least.nd rfl (Or.inl rfl) (pe_callB (call_sumL rfl) rfl T.sum bt_sum (pa_cons (pe_comp rfl (blkOk (sc:=defScope s__law_least) (N:=["_law_sizes", "_law_wide", "_law_more", "_law_rows", "_law_free"]) (vs:=["_law_many"]) (fs:=["_law_wide"]) (js:=[1]) (by decide +kernel) rfl rfl) (pi_list (pv 0)) (fun _ _ _ _=>pg_name (i:=0) (show(["_law_many", "_law_wide"]:List Str).Nodup by decide +kernel) rfl (Or.inl rfl)) (fun _ _ _ _=>pif0) (fun _ _ _ _=>(pe_op op_add (pe_op op_mod (pe_op op_sub pe_int (pv 0)) (pv 1)) (pe_op op_mul (pv 1) (pe_callTy call_intB rfl T.int bt_int (pa_cons (pe_cmpR op_eq (pv 0) pe_int (nomark _)) pa_nil stx_Compare)))))) pa_nil stx_ListComp)))
   (pss_one (ps_ret (pe_op op_add (pv 3) (pe_op op_fdivB (pe_op op_sub (pe_op op_add (pe_callB (call_maxI rfl) rfl T.max bt_max (pa_cons pe_int (pa_cons (pe_op op_sub (pv 2) (pv 4)) pa_nil stx_BinOp) stx_Constant)) (pv 1)) pe_int) (pv 1))))))),?_⟩
 rw[st__law_least]
 walk_at"rd"
 refine⟨a,rfl,⟨_,SqL.of ha⟩,fun D nD=>?_⟩
 refine comp_list (xs:=cs.map V.int) (fun i σ' ys H'=>(∃x,σ'=[x,some (.int w)])∧Same H H'∧ys =((cs.map fun x=>max 0 (x-1) / w).take i).map V.int∧H' D=some (.lst ys)) D ⟨⟨_,rfl⟩,same_new nD _,rfl,upd_same⟩ (fun i σ' ys H' _ h=>SqL.of (h.2.1 _ _ ha)) ?_ ?_
 ·rintro i x σ' ys H1 hx ⟨⟨x1,rfl⟩,s1,rfl,hD⟩
  obtain⟨z,hz',rfl⟩:=ints_get hx
  have il:=(List.getElem?_eq_some_iff.mp hz').1
  walk_at"rd"
  refine⟨hD,by rw[List.length_map,List.length_take];exact small1000 (by omega),⟨_,rfl⟩,fun c o e=>?_,?_,upd_same⟩
  ·rw[upd_ne (ne_of_none e nD)];exact s1 _ _ e
  ·rw[take_get (x:=max 0 (z-1) / w) (by rw[List.getElem?_map,hz'];rfl),List.map_append];rfl
 ·rintro σ' ys H1 ⟨⟨x1,rfl⟩,s1,rfl,hD⟩
  rw[List.length_map,List.take_of_length_le (by rw[List.length_map];omega)]at hD
  walk_at"rd"
  refine rd_sumL (SqL.of hD) ?_
  rw[sum_more w1 c0]
  have ha1:=s1 _ _ ha
  walk_at"rd"
  refine⟨a,rfl,⟨_,SqL.of ha1⟩,fun D2 nD2=>?_⟩
  refine comp_list (xs:=cs.map V.int) (fun i σ' ys H'=>(∃x,σ'=[x,some (.int w)])∧Same H1 H'∧ys =((cs.map fun x=>(0-x)%w+w*(if x=0 then 1 else 0)).take i).map V.int∧H' D2=some (.lst ys)) D2 ⟨⟨_,rfl⟩,same_new nD2 _,rfl,upd_same⟩ (fun i σ' ys H' _ h=>SqL.of (h.2.1 _ _ ha1)) ?_ ?_
  ·rintro i x σ' ys H2 hx ⟨⟨x2,rfl⟩,s2,rfl,hD2⟩
   obtain⟨z,hz',rfl⟩:=ints_get hx
   have il:=(List.getElem?_eq_some_iff.mp hz').1
   walk_at"rd"
   refine⟨hD2,by rw[List.length_map,List.length_take];exact small1000 (by omega),⟨_,rfl⟩,fun c o e=>?_,?_,upd_same⟩
   ·rw[upd_ne (ne_of_none e nD2)];exact s2 _ _ e
   ·rw[take_get (x:=(0-z)%w+w*(if z=0 then 1 else 0)) (by rw[List.getElem?_map,hz'];rfl),List.map_append]
    simp only[decide_eq_true_eq]
    rfl
  ·rintro σ' ys H2 ⟨⟨x2,rfl⟩,s2,rfl,hD2⟩
   rw[List.length_map,List.take_of_length_le (by rw[List.length_map];omega)]at hD2
   walk_at"rd"
   refine rd_sumL (SqL.of hD2) ?_
   rw[sum_free w1 c0]
   walk_at"rd"
   have:=q H2 (s1.trans s2)
   rw[least_val w1 c0 hne m0]at this
   have e:rows0 w cs-cs.length+(max 0 (more-(rows0 w cs*w-cs.sum))+w-1) / w=rows0 w cs+(max 0 (more-(rows0 w cs*w-cs.sum))+w-1) / w-cs.length:=by omega
   show Q (V.int _) H2
   rw[e]
   exact this
theorem ok__law_table {f:Addr}{fd:FuncData}(F:Fun K "_law_table" "_law_table" s__law_table f fd) (mF:mg "_law_table" = some (.ref f)) (bF:Binds K fd ["_law_keys_here", "_law_wide", "_law_fill"] []) (T:Bl mg) {CT:Addr}(TC:Txt_Table K mg CT) (C_Table___init__:KCal P w K mg base "Table" CT ["self", "wide", "fill"] 4 (sp_Table___init__ K CT)) (C_Table_put:MCal P w K mg base CT "put" ["self", "key", "thing"] 7 (sp_Table_put K CT)):Cal P w K mg base "_law_table" ["_law_keys_here", "_law_wide", "_law_fill"] 8 (sp__law_table K CT):=by
 refine Cal.of F mF bF sc__law_table (fun vs H Q E h=>?_) (fun cdv A outer s H vs Q E hr h=>?_)
 ·obtain⟨a,w,f,ks,rfl,_⟩:=h;rfl
 obtain⟨a,w,f,ks,rfl,ha,nd,rg,hl,w1,w2,f1,f2,q⟩:=h
 refine⟨_,(pss_cons (ps_set (i:=3) sc__law_table.nd rfl (Or.inl rfl) (pmk C_Table___init__ (hr.mono (by decide)) (pa_cons (pv 1) (pa_cons (pv 2) pa_nil stx_Name) stx_Name)))
   (pss_cons (ps_for PassesOwn.never rfl (pi_list (pv 0)) (pg_name (i:=4) sc__law_table.nd rfl (Or.inl rfl)) (pss_one (ps_expr (pml C_Table_put TC.cl (hr.mono (by decide)) (pv 3) (pa_cons (pv 4) (pa_cons pe_str pa_nil stx_Constant) stx_Name)))))
   (pss_one (ps_ret (pv 3))))),?_⟩
 rw[st__law_table]
 walk_at"rd"
 intro x dx nx ndx nex
 refine⟨x,dx,w,f,rfl,upd_same,w1,w2,f1,f2,fun d H1 nd1 tb kp=>⟨rfl,?_⟩⟩
 have s1:Same H H1:=fun c o e=>kp c o (by rw[upd_ne (ne_of_none e nx),upd_ne (ne_of_none e ndx)];exact e) (ne_of_none e nx)
 have nd0:H d=none:=by
  cases c:H d with
  | none=>rfl
  | some o=>rw[upd_ne (ne_of_none c nx),upd_ne (ne_of_none c ndx)]at nd1;rw[c]at nd1;cases nd1
 walk_at"rd"
 refine⟨a,rfl,⟨_,SqL.of (s1 _ _ ha)⟩,?_⟩
 refine for_listO (xs:=ks.map V.int) (fun i σ H'=>(∃y,σ=[some (.ref a),some (.int w),some (.int f),some (.ref x),y])∧Same H H'∧Tab CT H' x d w f ((ks.take i).map fun k=>(k,zA))) ⟨⟨_,rfl⟩,s1,tb⟩ (fun _ _ _ _ h=>SqL.of (h.2.1 _ _ ha)) ?_ ?_
 ·rintro i y σ H2 hx1 ⟨⟨y1,rfl⟩,s2,t2⟩
  obtain⟨k,hk,rfl⟩:=ints_get hx1
  have il:=(List.getElem?_eq_some_iff.mp hk).1
  have kk:=rg k (List.mem_of_getElem? hk)
  have kn:k∉((ks.take i).map fun k=>(k,zA)).map (·.1):=by
   rw[List.map_map]
   show k∉(ks.take i).map id
   rw[List.map_id]
   have:=nd.sublist (List.take_sublist (i+1) ks)
   rw[take_get hk,List.nodup_append]at this
   exact fun m=>this.2.2 k m k (by simp) rfl
  have pe:putE ((ks.take i).map fun k=>(k,zA)) k zA =(ks.take (i+1)).map fun k=>(k,zA):=by
   unfold putE
   rw[if_neg (fun z=>kn (any_key.mp z)),take_get hk,List.map_append];rfl
  obtain⟨dx2,ho2⟩:=t2.ob
  walk_at"rd"
  refine⟨x,dx2,_,rfl,ho2,tfl_no (by decide +kernel) (by decide +kernel) (by decide +kernel),?_⟩
  walk_at"rd"
  refine⟨x,d,w,f,_,k,zA,rfl,t2,kk.1,kk.2,zA_nm,.inr (by rw[List.length_map,List.length_take];omega),fun H3 _ t3 kd=>?_,fun tp l ms H3 _ t3 kd _ _ _ _ _=>?_⟩
  ·rw[pe]at t3
   walk_at"rd"
   exact⟨⟨_,rfl⟩,fun c o e=>kd c o (ne_of_none e nd0) (s2 _ _ e),t3⟩
  ·rw[pe]at t3
   walk_at"rd"
   exact⟨⟨_,rfl⟩,fun c o e=>kd c o (ne_of_none e nd0) (s2 _ _ e),t3⟩
 ·rintro σ H2 ⟨⟨y1,rfl⟩,s2,t2⟩
  rw[List.length_map,List.take_length]at t2
  walk_at"rd"
  exact q x d H2 nx s2 t2
theorem ok__law_filled {f:Addr}{fd:FuncData}(F:Fun K "_law_filled" "_law_filled" s__law_filled f fd) (mF:mg "_law_filled" = some (.ref f)) (bF:Binds K fd ["_law_keys_here", "_law_put"] []) (T:Bl mg)  : Cal P w K mg base "_law_filled" ["_law_keys_here", "_law_put"] 1 (sp__law_filled K):=by
 refine Cal.of F mF bF sc__law_filled (fun vs H Q E h=>?_) (fun cdv A outer s H vs Q E hr h=>?_)
 ·obtain⟨a,b,ks,put,rfl,_⟩:=h;rfl
 obtain⟨a,b,ks,put,rfl,ha,hb,nd,rg,p0,pl,pl2,hl,q⟩:=h
 refine⟨_,(pss_cons (ps_set (i:=2) sc__law_filled.nd rfl (Or.inl rfl) (pe_callTy call_list_of rfl T.list bt_list (pa_cons (pv 0) pa_nil stx_Name)))
   (pss_cons (ps_for PassesOwn.never rfl (pi_range1 rfl T.range (pa_cons (pe_callB call_lenL rfl T.len bt_len (pa_cons (pv 1) pa_nil stx_Name)) pa_nil stx_Call)) (pg_name (i:=3) sc__law_filled.nd rfl (Or.inl rfl)) (pss_cons (ps_set (i:=4) sc__law_filled.nd rfl (Or.inl rfl) (pv 3))
   (pss_one (ps_for PassesOwn.never rfl (pi_range1 rfl T.range (pa_cons (pe_ix ix_list (pv 1) (pv 3) (fun _ _=>rfl)) pa_nil stx_Subscript)) (pg_name (i:=5) sc__law_filled.nd rfl (Or.inl rfl)) (pss_cons (ps_set (i:=4) sc__law_filled.nd rfl (Or.inl rfl) (pe_op op_add (pv 4) (pe_powC (c:=1048576) (by decide +kernel) ⟨by decide,by decide,by decide⟩)))
   (pss_cons (ps_while PassesOwn.never (pt_cmpR op_in_seq (pv 4) (pv 2) (by with_unfolding_all rfl)) (pss_one (ps_set (i:=4) sc__law_filled.nd rfl (Or.inl rfl) (pe_op op_add (pv 4) (pe_powC (c:=1048576) (by decide +kernel) ⟨by decide,by decide,by decide⟩)))))
   (pss_one (ps_expr (pe_bm PySem.F.plainAttrs_list PySem.F.slot_list_append PySem.F.type_list_append mt_append (pv 2) (pa_cons (pv 4) pa_nil stx_Name))))))))))
   (pss_one (ps_ret (pv 2))))),?_⟩
 rw[st__law_filled]
 walk_at"rd"
 refine⟨a,_,rfl,.inl (SqL.of ha),fun D nD=>?_⟩
 generalize hE:upd H D _=H1
 obtain⟨hD,s1⟩:=newo nD hE
 clear hE
 have hb1:=s1 _ _ hb
 walk_at"rd"
 rw[List.length_map]
 refine⟨_,rfl,by omega,by omega,?_⟩
 rw[Int.toNat_natCast]
 generalize hR:put.length=R at *
 have f0:Fil ks put R 0 0 ks:=⟨nd,rg,fun r _=>by rw[if_neg (Nat.not_lt_zero r)];split <;> simp,by simp⟩
 refine for_rangeO (n:=R) (fun i σ H'=>(∃y1 y2 y3,σ=[some (.ref a),some (.ref b),some (.ref D),y1,y2,y3])∧Same H H'∧∃ms,H' D=some (.lst (ms.map V.int))∧Fil ks put R i 0 ms) ⟨⟨_,_,_,rfl⟩,s1,ks,hD,f0⟩ ?_ ?_
 ·rintro i σ H2 hi ⟨⟨y1,y2,y3,rfl⟩,s2,ms,hD2,f2⟩
  obtain⟨z,hz⟩ : ∃z,put[i]? = some z:=⟨_,List.getElem?_eq_getElem (by omega)⟩
  obtain⟨n,rfl⟩ : ∃n:Nat,z =(n:Int):=⟨z.toNat,by have:=p0 z (List.mem_of_getElem? hz);omega⟩
  have tsum:=(take_sum_le p0 i).2 _ hz
  rw[Int.zero_add]
  walk_at"rd"
  refine rd_ixL (SqL.of (s2 _ _ hb)) (v:=.int n) (at_int hz) ?_
  have tnn:=sum_nn fun x (hx:x∈put.take i)=>p0 x (List.mem_of_mem_take hx)
  refine⟨_,rfl,by omega,by omega,?_⟩
  rw[Int.toNat_natCast]
  refine for_rangeO (n:=n) (fun j σ H'=>∃(ms:List Int) (m:Nat) (y:Option V),σ=[some (.ref a),some (.ref b),some (.ref D),some (.int i),some (.int ((i:Int)+1048576*m)),y]∧Same H H'∧H' D=some (.lst (ms.map V.int))∧Fil ks put R i j ms∧∀u:Nat,1≤u→u≤m→(i:Int)+1048576*u∈ms) ⟨ms,0,_,by rw[show(i:Int)+1048576*((0:Nat):Int) =(i:Int) by omega],s2,hD2,f2,fun u h1 h2=>by omega⟩ ?_ ?_
  ·rintro j σ H3 hj ⟨ms,m,y,rfl,s3,hD3,f3,hm⟩
   have ml:=near_len hm
   have ln:=f3.ln
   have ml2:ms.length<64:=by omega
   walk_at"rd"
   rw[show(i:Int)+1048576*(m:Int)+1048576 =(i:Int)+1048576*((m+1:Nat):Int) by omega]
   refine⟨fun v σ H'=>H'=H3∧∃m:Nat,σ=[some (.ref a),some (.ref b),some (.ref D),some (.int i),some (.int ((i:Int)+1048576*(m+1:Nat))),some (.int (0+j))]∧(∀u:Nat,1≤u→u≤m→(i:Int)+1048576*u∈ms)∧v=ms.length-m,⟨ms.length-m,rfl,m,rfl,hm,rfl⟩,?_⟩
   rintro v σ H' ⟨rfl,m,rfl,hm,rfl⟩
   have ml:=near_len hm
   walk_at"rd"
   refine rd_inI (SqL.of hD3) ?_
   walk_at"rd"
   refine rd_if (fun c=>?_) (fun c=>?_)
   ·have hm':∀u:Nat,1≤u→u≤m+1→(i:Int)+1048576*u∈ms:=fun u h1 h2=>by
     by_cases z:u=m+1
     ·rw[z];exact c
     ·exact hm u h1 (by omega)
    have ml':=near_len hm'
    refine⟨_,fun σ' H'' h=>h,?_⟩
    walk_at"rd"
    rw[show(i:Int)+1048576*((m+1:Nat):Int)+1048576 =(i:Int)+1048576*((m+1+1:Nat):Int) by omega]
    exact⟨ms.length-(m+1),by omega,rfl,m+1,rfl,hm',rfl⟩
   ·walk_at"rd"
    refine⟨.inl ⟨rfl,_,SqL.of hD3⟩,?_⟩
    walk_at"rd"
    refine⟨D,_,_,rfl,rfl,hD3,by rw[List.length_map];exact small1000 (by omega),?_⟩
    walk_at"rd"
    have f4:=f3.push (n:=m+1) (by omega) (by omega) c (by omega)
    refine⟨ms ++ [(i:Int)+1048576*((m+1:Nat):Int)],m+1,_,rfl,fun c o e=>by rw[upd_ne (ne_of_none e nD)];exact s3 _ _ e,by rw[upd_same,List.map_append];rfl,f4,fun u h1 h2=>?_⟩
    by_cases z:u=m+1
    ·rw[z];simp
    ·exact List.mem_append_left _ (hm u h1 (by omega))
  ·rintro σ H3 ⟨ms,m,y,rfl,s3,hD3,f3,hm⟩
   walk_at"rd"
   exact⟨⟨_,_,_,rfl⟩,s3,ms,hD3,f3.next hz⟩
 ·rintro σ H2 ⟨⟨y1,y2,y3,rfl⟩,s2,ms,hD2,f2⟩
  obtain⟨g1,g2⟩:=f2.all hR
  walk_at"rd"
  exact q D ms H2 nD hD2 f2.nd f2.rg g1 g2 s2
theorem ok__law_right {f:Addr}{fd:FuncData}(F:Fun K "_law_right" "_law_right" s__law_right f fd) (mF:mg "_law_right" = some (.ref f)) (bF:Binds K fd ["_law_keys_here", "_law_further", "_law_wide", "_law_fill"] []) (T:Bl mg) {CT:Addr}(TC:Txt_Table K mg CT) (C_Table_spill:MCal P w K mg base CT "spill" ["self"] 8 (sp_Table_spill K CT)) (C_Table_rooms:MCal P w K mg base CT "rooms" ["self"] 2 (sp_Table_rooms K CT)) (C_outlook:Cal P w K mg base "outlook" ["keys", "wide", "fill", "more"] 8 (sp_outlook K)) (C__law_table:Cal P w K mg base "_law_table" ["_law_keys_here", "_law_wide", "_law_fill"] 8 (sp__law_table K CT)) (C__law_least:Cal P w K mg base "_law_least" ["_law_sizes", "_law_wide", "_law_more"] 1 (sp__law_least K)) (C__law_greatest:Cal P w K mg base "_law_greatest" ["_law_sizes", "_law_wide", "_law_more"] 2 (sp__law_greatest K)) (C_least_spill:Cal P w K mg base "least_spill" ["counts", "wide", "more"] 4 (sp_least_spill K)) (C_greatest_spill:Cal P w K mg base "greatest_spill" ["counts", "wide", "more"] 7 (sp_greatest_spill K)) (C__law_room:Cal P w K mg base "_law_room" ["_law_key_here", "_law_rooms"] 1 (sp__law_room K)) (C__law_filled:Cal P w K mg base "_law_filled" ["_law_keys_here", "_law_put"] 1 (sp__law_filled K)):Cal P w K mg base "_law_right" ["_law_keys_here", "_law_further", "_law_wide", "_law_fill"] 9 (sp__law_right K CT):=by
 refine Cal.of F mF bF sc__law_right (fun vs H Q E h=>?_) (fun cdv A outer s H vs Q E hr h=>?_)
 ·obtain⟨a,b,w,f,ks,fs,rfl,_⟩:=h;rfl
 obtain⟨a,b,w,f,ks,fs,rfl,ha,hb,nd,rg,hl,w1,w2,f1,f2,tb,q⟩:=h
 have hu:=hr.units
 have hll:(ks++fs).length=ks.length+fs.length:=List.length_append
 have hbd:=rfor_b (m:=((ks++fs).length:Nat)) f1 (by omega)
 obtain⟨R,hR⟩ : ∃R:Nat,rfor ((ks++fs).length:Nat) f =(R:Int):=⟨(rfor ((ks++fs).length:Nat) f).toNat,by omega⟩
 rw[hR]at hbd
 have R1:1≤R:=by omega
 have hR2:rfor ((ks.length:Int)+(fs.length:Int)) f =(R:Int):=by rw[← hR,hll];push_cast;rfl
 have rmk:∀ms:List Int,(ms.length:Int)=ks.length+fs.length→rmT (ms.map fun k=>(k,zA)) f=R:=fun ms e=>by
  unfold rmT
  rw[List.length_map,e,hR2,Int.toNat_natCast]
 have cne:cntV ks R ≠ []:=fun z=>by have:=cntV_len ks R;rw[z]at this;simp at this;omega
 have ndk:ks.Nodup:=(List.nodup_append.mp nd).1
 have rgk:∀k∈ks,0≤k∧k<1152921504606846976:=fun k hk=>rg k (List.mem_append_left _ hk)
 refine⟨_,(pss_cons (ps_set (i:=4) sc__law_right.nd rfl (Or.inl rfl) (pe_op op_cat (pv 0) (pv 1)))
   (pss_cons (ps_set (i:=5) sc__law_right.nd rfl (Or.inl rfl) (pe_callB (call_maxI rfl) rfl T.max bt_max (pa_cons pe_int (pa_cons (pe_op op_fdivB (pe_op op_sub (pe_op op_add (pe_callB call_lenL rfl T.len bt_len (pa_cons (pv 4) pa_nil stx_Name)) (pv 3)) pe_int) (pv 3)) pa_nil stx_BinOp) stx_Constant)))
   (pss_cons (ps_set (i:=6) sc__law_right.nd rfl (Or.inl rfl) (pe_op op_rep (pe_lst (pa_cons pe_int pa_nil stx_Constant)) (pv 5)))
   (pss_cons (ps_for PassesOwn.never rfl (pi_list (pv 0)) (pg_name (i:=7) sc__law_right.nd rfl (Or.inl rfl)) (pss_one (ps_augS (pv 6) (pcl C__law_room (hr.mono (by decide)) (pa_cons (pv 7) (pa_cons (pv 5) pa_nil stx_Name) stx_Name)) get_list pe_int ip_add set_list)))
   (pss_cons (ps_set (i:=8) sc__law_right.nd rfl (Or.inl rfl) (pe_callTy call_list_of rfl T.list bt_list (pa_cons (pv 0) pa_nil stx_Name)))
   (pss_cons (ps_set (i:=9) sc__law_right.nd rfl (Or.inl rfl) (pcl C_outlook (hr.mono (by decide)) (pa_cons (pv 8) (pa_cons (pv 2) (pa_cons (pv 3) (pa_cons (pe_callB call_lenL rfl T.len bt_len (pa_cons (pv 1) pa_nil stx_Name)) pa_nil stx_Call) stx_Name) stx_Name) stx_Name)))
   (pss_cons (ps_set (i:=10) sc__law_right.nd rfl (Or.inl rfl) (pe_tup (pa_cons (pv 5) (pa_cons (pcl C__law_least (hr.mono (by decide)) (pa_cons (pv 6) (pa_cons (pv 2) (pa_cons (pe_callB call_lenL rfl T.len bt_len (pa_cons (pv 1) pa_nil stx_Name)) pa_nil stx_Call) stx_Name) stx_Name)) (pa_cons (pcl C__law_greatest (hr.mono (by decide)) (pa_cons (pv 6) (pa_cons (pv 2) (pa_cons (pe_callB call_lenL rfl T.len bt_len (pa_cons (pv 1) pa_nil stx_Name)) pa_nil stx_Call) stx_Name) stx_Name)) pa_nil stx_Call) stx_Call) stx_Name)))
   (pss_cons (ps_if (PW.pt (pw_or (pt_not (pt_val (pe_callB call_isinst rfl T.isinstance bt_isinstance (pa_cons (pv 9) (pa_cons (pe_bltn (v:=.ty "tuple") rfl T.tuple bt_tuple rfl) pa_nil stx_Name) stx_Name)))) (pw_or (pt_cmpR (op_neD hu) (pv 9) (pv 10) (nomark _)) (pw_or1 (pt_cmpR (op_neD hu) (pv 8) (pv 0) (nomark _)))))) (pss_one (ps_ret pe_bl)) pss_nil)
   (pss_cons (ps_if (pt_cmpR (op_neD hu) (pe_comp rfl (blkOk (sc:=defScope s__law_right) (N:=["_law_keys_here", "_law_further", "_law_wide", "_law_fill", "_law_every", "_law_rooms", "_law_sizes", "_law_key_here", "_law_handed", "_law_told", "_law_due", "_law_table_here", "_law_low", "_law_high"]) (vs:=["_law_one"]) (fs:=[]) (js:=[]) (by decide +kernel) rfl rfl) (pi_tup (pv 9)) (fun _ _ _ _=>pg_name (i:=0) (show(["_law_one"]:List Str).Nodup by decide +kernel) rfl (Or.inl rfl)) (fun _ _ _ _=>pif1 (PW.pt (pw_or (pt_not (pt_val (pe_callB (call_isinstK (K:=K) rfl) rfl T.isinstance bt_isinstance (pa_cons (pv 0) (pa_cons (pe_bltn (v:=.ty "int") rfl T.int bt_int rfl) pa_nil stx_Name) stx_Name)))) (pw_or1 (pt_val (pe_callB (call_isinstK (K:=K) rfl) rfl T.isinstance bt_isinstance (pa_cons (pv 0) (pa_cons (pe_bltn (v:=.ty "bool") rfl T.bool bt_bool rfl) pa_nil stx_Name) stx_Name))))))) (fun _ _ _ _=>(pv 0))) (pe_lst pa_nil) (nomark _)) (pss_one (ps_ret pe_bl)) pss_nil)
   (pss_cons (ps_set (i:=11) sc__law_right.nd rfl (Or.inl rfl) (pcl C__law_table (hr.mono (by decide)) (pa_cons (pv 4) (pa_cons (pv 2) (pa_cons (pv 3) pa_nil stx_Name) stx_Name) stx_Name)))
   (pss_cons (ps_if (PW.pt (pw_or (pt_cmpR op_ne (pml0 C_Table_rooms TC.cl (hr.mono (by decide)) (pv 11)) (pv 5) (nomark _)) (pw_or1 (pt_not (pt_chain op_le op_le (pe_ix ix_tup (pv 10) pe_int (fun _ _=>rfl)) (pml0 C_Table_spill TC.cl (hr.mono (by decide)) (pv 11)) (pe_ix ix_tup (pv 10) pe_int (fun _ _=>rfl))))))) (pss_one (ps_ret pe_bl)) pss_nil)
   (pss_cons (ps_set (i:=12) sc__law_right.nd rfl (Or.inl rfl) (pe_ix ix_tup (pcl C_least_spill (hr.mono (by decide)) (pa_cons (pv 6) (pa_cons (pv 2) (pa_cons (pe_callB call_lenL rfl T.len bt_len (pa_cons (pv 1) pa_nil stx_Name)) pa_nil stx_Call) stx_Name) stx_Name)) pe_int (fun _ _=>rfl)))
   (pss_cons (ps_set (i:=13) sc__law_right.nd rfl (Or.inl rfl) (pe_ix ix_tup (pcl C_greatest_spill (hr.mono (by decide)) (pa_cons (pv 6) (pa_cons (pv 2) (pa_cons (pe_callB call_lenL rfl T.len bt_len (pa_cons (pv 1) pa_nil stx_Name)) pa_nil stx_Call) stx_Name) stx_Name)) pe_int (fun _ _=>rfl)))
   (pss_cons (ps_if (pt_cmpR op_ne (pml0 C_Table_spill TC.cl (hr.mono (by decide)) (pcl C__law_table (hr.mono (by decide)) (pa_cons (pcl C__law_filled (hr.mono (by decide)) (pa_cons (pv 0) (pa_cons (pv 12) pa_nil stx_Name) stx_Name)) (pa_cons (pv 2) (pa_cons (pv 3) pa_nil stx_Name) stx_Name) stx_Call))) (pe_ix ix_tup (pv 10) pe_int (fun _ _=>rfl)) (nomark _)) (pss_one (ps_ret pe_bl)) pss_nil)
   (pss_one (ps_ret (pe_cmpR op_eq (pml0 C_Table_spill TC.cl (hr.mono (by decide)) (pcl C__law_table (hr.mono (by decide)) (pa_cons (pcl C__law_filled (hr.mono (by decide)) (pa_cons (pv 0) (pa_cons (pv 13) pa_nil stx_Name) stx_Name)) (pa_cons (pv 2) (pa_cons (pv 3) pa_nil stx_Name) stx_Name) stx_Call))) (pe_ix ix_tup (pv 10) pe_int (fun _ _=>rfl)) (nomark _)))))))))))))))))),?_⟩
 rw[st__law_right]
 walk_at"rd"
 refine⟨a,b,_,_,rfl,rfl,ha,hb,by rw[List.length_map,List.length_map];exact Nat.le_of_lt (small1000 (by omega)),fun ev nev=>?_⟩
 generalize hE:upd H ev _=H1
 obtain⟨hev,s1⟩:=newo nev hE
 clear hE
 rw[← List.map_append]at hev
 walk_at"rd"
 rw[List.length_map,show max 1 ((((ks++fs).length:Nat)+f-1) / f) =(R:Int) from hR]
 refine⟨by decide,fun o no=>?_⟩
 generalize hE:upd H1 o _=H2
 obtain⟨ho,s2⟩:=newo no hE
 clear hE
 walk_at"rd"
 refine⟨o,_,_,rfl,rfl,ho,by omega,by omega,?_,fun D nD=>?_⟩
 ·rw[Int.toNat_natCast]
  exact Nat.le_of_lt (small1000 (by simp;omega))
 generalize hE:upd H2 D _=H3
 obtain⟨hD,s3⟩:=newo nD hE
 clear hE
 have erep:(List.replicate (R:Int).toNat [V.int 0]).flatten =(cntV [] R).map V.int:=by
  rw[Int.toNat_natCast,cntV_nil]
  generalize R=n
  induction n with
  | zero=>rfl
  | succ n ih=>rw[List.replicate_succ,List.replicate_succ,List.flatten_cons,ih];rfl
 rw[erep]at hD
 have sA:=(s1.trans s2).trans s3
 have nDH:H D=none:=(s1.trans s2).free nD
 have evD:ev≠D:=fun z=>by rw[← z,s2 _ _ hev]at nD;cases nD
 walk_at"rd"
 refine⟨a,rfl,⟨_,SqL.of (sA _ _ ha)⟩,?_⟩
 refine for_listO (xs:=ks.map V.int) (fun i σ H'=>(∃y,σ=[some (.ref a),some (.ref b),some (.int w),some (.int f),some (.ref ev),some (.int R),some (.ref D),y,none,none,none,none,none,none])∧Same H H'∧H' ev=some (.lst ((ks++fs).map V.int))∧H' D=some (.lst ((cntV (ks.take i) R).map V.int))) ⟨⟨_,rfl⟩,sA,s3 _ _ (s2 _ _ hev),hD⟩ (fun _ _ _ _ h=>SqL.of (h.2.1 _ _ ha)) ?_ ?_
 ·rintro i x σ H4 hx ⟨⟨y,rfl⟩,s4,hev4,hD4⟩
  obtain⟨k,hk,rfl⟩:=ints_get hx
  have kk:=rgk k (List.mem_of_getElem? hk)
  have rb:=roomV_lt (k:=k) (R:=R) (by omega)
  obtain⟨j,hj,jl⟩ : ∃j:Nat,roomV k R =(j:Int)∧j<R:=⟨(roomV k R).toNat,by omega,by omega⟩
  walk_at"rd"
  refine⟨k,R,rfl,kk.1,by omega,by omega,by omega,?_⟩
  rw[hj]
  walk_at"rd"
  refine rd_ixL (SqL.of hD4) (v:=.int (cn (ks.take i) R j)) (at_int (cntV_at jl)) ?_
  walk_at"rd"
  refine rd_setL hD4 (ixN_in (by rw[List.length_map,cntV_len];exact jl)) ?_
  walk_at"rd"
  refine⟨⟨_,rfl⟩,fun c o e=>by rw[upd_ne (ne_of_none e nDH)];exact s4 _ _ e,by rw[upd_ne evD];exact hev4,?_⟩
  rw[upd_same,take_get hk,cntV_push hj jl,List.map_set]
 rintro σ H4 ⟨⟨y,rfl⟩,s4,hev4,hD4⟩
 rw[List.length_map,List.take_length]at hD4
 walk_at"rd"
 refine⟨a,_,rfl,.inl (SqL.of (s4 _ _ ha)),fun h nh=>?_⟩
 generalize hE:upd H4 h _=H5
 obtain⟨hh,s5⟩:=newo nh hE
 clear hE
 have s05:=s4.trans s5
 have hb5:=s05 _ _ hb
 have hD5:=s5 _ _ hD4
 have hev5:=s5 _ _ hev4
 walk_at"rd"
 rw[List.length_map]
 refine⟨h,w,f,fs.length,ks,R,rfl,hh,hR2,by omega,by omega,w1,w2,f1,f2,tb.same s05,fun t H6 hbest nt ht s6 tb6=>?_⟩
 have hb6:=s6.lst hb5
 have hD6:=s6.lst hD5
 have hev6:=s6.lst hev5
 have hh6:=s6.lst hh
 have ha6:=s6.lst (s05 _ _ ha)
 walk_at"rd"
 rw[List.length_map]
 refine⟨D,w,fs.length,cntV ks R,rfl,hD6,cne,by rw[cntV_len];omega,cntV_nn,w1,w2,by omega,fun H7 s7=>?_⟩
 have hD7:=s7 _ _ hD6
 have hb7:=s7 _ _ hb6
 walk_at"rd"
 rw[List.length_map]
 refine⟨D,w,fs.length,cntV ks R,rfl,hD7,by rw[cntV_len];omega,cntV_nn,w1,w2,fun H8 s8=>?_⟩
 walk_at"rd"
 refine⟨(by show 3≤sizeLine;decide),fun u nu=>?_⟩
 generalize hE:upd H8 u _=H9
 obtain⟨hdu,s9⟩:=newo nu hE
 clear hE
 have s69:=(s7.trans s8).trans s9
 have ht9:=s69 _ _ ht
 have tb9:=tb6.same s69
 have sm9:=(s05.sm.trans s6).trans s69.sm
 rw[cntV_len]at hdu
 obtain⟨v1,v2,v3,v4⟩:=leastV_ok (more:=fs.length) w1 (cntV_nn (ks:=ks) (R:=R)) cne (by omega)
 have hspl:∀qs:List Int,qs.length=R→(moreL (List.zipWith (· + ·) (cntV ks R) qs) w).sum=rowsT w (cntV ks R) qs-R:=fun qs e=>by
  rw[spill_zip (by rw[cntV_len,e]),cntV_len]
 have qs0:=cntV_sum (ks:=fs) R1
 have lowq:=v4 (cntV fs R) (by rw[cntV_len,cntV_len]) cntV_nn qs0
 generalize hL:rowsT w (cntV ks R) (leastV w (cntV ks R) fs.length)=L at hdu ht9 lowq
 have hb9:=s69 _ _ hb6
 have hD9:=s69 _ _ hD6
 have hev9:=s69 _ _ hev6
 have hh9:=s69 _ _ hh6
 have ha9:=s69 _ _ ha6
 walk_at"rd"
 refine rd_isi (.tup ht9) (b:=true) rfl ?_
 walk_at"rd"
 refine⟨.tuple [.int _,.int _,.int _],.tuple [.int _,.int _,.int _],.tup (SqT.of ht9) (.cons (.int _) (.cons (.int _) (.cons (.int _) .nil))),.tup (SqT.of hdu) (.cons (.int _) (.cons (.int _) (.cons (.int _) .nil))),rfl,rfl,?_⟩
 rw[show ∀x y z:Int,PyData.eqv (.tuple [.int x,.int y,.int z]) (.tuple [.int x,.int y,.int z])=true from fun x y z=>by simp[PyData.eqv,PyData.eqvAll]]
 walk_at"rd"
 refine⟨_,_,dv_ints hh9,dv_ints ha9,shaped_ints ks,shaped_ints ks,?_⟩
 rw[eq_I]
 walk_at"rd"
 refine⟨t,rfl,⟨_,SqT.of ht9⟩,fun D2 nD2=>?_⟩
 refine comp_tup (xs:=[.int R,.int (L-R),.int (greatV w (cntV ks R) fs.length)]) (fun i σ' ys H'=>(∃x,σ'=[x])∧Same H9 H'∧ys=[]∧H' D2=some (.lst ys)) D2 ⟨⟨_,rfl⟩,same_new nD2 _,rfl,upd_same⟩ (fun i σ' ys H' _ h=>SqT.of (h.2.1 _ _ ht9)) ?_ ?_
 ·rintro i x σ' ys H' hx ⟨⟨x1,rfl⟩,g1,rfl,g3⟩
  obtain⟨z,rfl⟩ : ∃z,x=V.int z:=by
   match i,hx with
   | 0,e=>exact⟨_,(Option.some.inj e).symm⟩
   | 1,e=>exact⟨_,(Option.some.inj e).symm⟩
   | 2,e=>exact⟨_,(Option.some.inj e).symm⟩
  walk_at"rd"
  refine rd_isi (.int z) (b:=true) rfl ?_
  walk_at"rd"
  refine rd_isi (.int z) (b:=false) rfl ?_
  walk_at"rd"
  exact⟨⟨_,rfl⟩,g1,rfl,g3⟩
 rintro σ' ys H10 ⟨⟨x1,rfl⟩,s10,rfl,g3⟩
 walk_at"rd"
 refine⟨by decide,fun e ne=>?_⟩
 generalize hE:upd H10 e _=H11
 obtain⟨he,s11⟩:=newo ne hE
 clear hE
 walk_at"rd"
 refine⟨_,_,dv_nil (s11 _ _ g3),dv_nil he,rfl,rfl,?_⟩
 rw[show PyData.eqv (.list []) (.list [])=true from rfl]
 have s911:=s10.trans s11
 have tb11:=tb9.same s911
 have sm11:=sm9.trans s911.sm
 clear he ne s11 g3 s10
 walk_at"rd"
 refine⟨ev,w,f,ks++fs,rfl,s911 _ _ hev9,nd,rg,hl,w1,w2,f1,f2,fun p d H12 np s12 t12=>?_⟩
 have s912:=s911.trans s12
 obtain⟨dx,ho1⟩:=t12.ob
 walk_at"rd"
 refine⟨p,dx,_,rfl,ho1,tfl_no (by decide +kernel) (by decide +kernel) (by decide +kernel),?_⟩
 walk_at"rd"
 refine⟨p,d,w,f,_,rfl,t12,?_⟩
 rw[rmk (ks++fs) (by rw[hll];push_cast;rfl)]
 have hdu12:=s912 _ _ hdu
 walk_at"rd"
 refine rd_ifn (fun c=>absurd rfl c) (fun _=>?_)
 walk_at"rd"
 refine⟨p,dx,_,rfl,ho1,tfl_no (by decide +kernel) (by decide +kernel) (by decide +kernel),?_⟩
 walk_at"rd"
 refine⟨p,d,w,f,_,rfl,t12,fun ms H13 p1 p2 s13=>?_⟩
 rw[rmk (ks++fs) (by rw[hll];push_cast;rfl),spread_cnt (ks:=ks++fs) (by rw[List.map_map,show((fun e:Int×Str=>e.1) ∘ fun k=>(k,zA))=id from rfl,List.map_id]at p1;exact p1),cntV_app,hspl _ (cntV_len _ _)]
 have upq:rowsT w (cntV ks R) (cntV fs R)-R≤greatV w (cntV ks R) fs.length:=by
  obtain⟨pb,bst⟩:=hbest
  have e:=best_val w1 cntV_nn cne (by omega) bst
  rw[cntV_len]at e
  have:=bst.best (cntV fs R) (by rw[cntV_len,cntV_len]) cntV_nn qs0
  omega
 generalize hX:rowsT w (cntV ks R) (cntV fs R)=X at lowq upq
 generalize hG:greatV w (cntV ks R) fs.length=G at upq hdu hdu12
 have s913:=s912.trans s13
 have hdu13:=s13 _ _ hdu12
 walk_at"rd"
 rw[decide_eq_true (show L-(R:Int)≤X-R by omega)]
 walk_at"rd"
 rw[decide_eq_true (show X-(R:Int)≤G by omega)]
 have hD13:=s913 _ _ hD9
 have hb13:=s913 _ _ hb9
 have ha13:=s913 _ _ ha9
 have tb13:=tb9.same s913
 have sm13:=sm9.trans s913.sm
 walk_at"rd"
 rw[List.length_map]
 refine⟨D,w,fs.length,cntV ks R,rfl,hD13,cne,by rw[cntV_len];omega,w1,w2,fun t1 l1 H14 nt1 nl1 tl1 ht1 hl1 s14=>?_⟩
 have hb14:=s14 _ _ hb13
 have hD14:=s14 _ _ hD13
 walk_at"rd"
 rw[List.length_map]
 refine⟨D,w,fs.length,cntV ks R,rfl,hD14,cne,by rw[cntV_len];omega,cntV_nn,w1,w2,by omega,tb13.same s14,fun pb t2 l2 H15 bst nt2 nl2 tl2 ht2 hl2 s15 tb15=>?_⟩
 have eb:=best_val w1 cntV_nn cne (by omega) bst
 rw[cntV_len,hG]at eb
 have bl:=bst.len
 rw[cntV_len]at v1 bl
 have hl15:=s15.lst hl1
 have ha15:=s15.lst (s14 _ _ ha13)
 have hdu15:H15 u=some _:=s15.nt _ _ (s14 _ _ hdu13) (by intro _ z;cases z)
 have sm15:=(sm13.trans s14.sm).trans s15
 clear ht1 hD13 hb13
 walk_at"rd"
 refine⟨a,l1,ks,leastV w (cntV ks R) fs.length,rfl,ha15,hl15,ndk,rgk,v2,by omega,by omega,by omega,fun l3 ms3 H16 nl3 hl3 nd3 rg3 c3 len3 s16=>?_⟩
 rw[v1]at c3
 rw[v3]at len3
 walk_at"rd"
 refine⟨l3,w,f,ms3,rfl,hl3,nd3,rg3,by omega,w1,w2,f1,f2,fun p3 d3 H17 np3 s17 t17=>?_⟩
 obtain⟨dx3,ho3⟩:=t17.ob
 refine⟨p3,dx3,_,rfl,ho3,tfl_no (by decide +kernel) (by decide +kernel) (by decide +kernel),?_⟩
 walk_at"rd"
 refine⟨p3,d3,w,f,_,rfl,t17,fun mz H18 q1 q2 s18=>?_⟩
 rw[rmk ms3 (by omega),spread_cnt (ks:=ms3) (by rw[List.map_map,show((fun e:Int×Str=>e.1) ∘ fun k=>(k,zA))=id from rfl,List.map_id]at q1;exact q1),c3,hspl _ v1,hL]
 have s1518:=(s16.trans s17).trans s18
 have hdu18:=s1518 _ _ hdu15
 have tb18:=tb15.same s1518
 have sm18:=sm15.trans s1518.sm
 walk_at"rd"
 refine rd_ifn (fun c=>absurd rfl c) (fun _=>?_)
 walk_at"rd"
 refine⟨a,l2,ks,pb,rfl,s1518 _ _ ha15,s1518 _ _ hl2,ndk,rgk,bst.nn,by omega,by omega,by have:=bst.sum;omega,fun l5 ms5 H19 nl5 hl5 nd5 rg5 c5 len5 s19=>?_⟩
 rw[bl]at c5
 rw[bst.sum]at len5
 walk_at"rd"
 refine⟨l5,w,f,ms5,rfl,hl5,nd5,rg5,by omega,w1,w2,f1,f2,fun p5 d5 H20 np5 s20 t20=>?_⟩
 obtain⟨dx5,ho5⟩:=t20.ob
 refine⟨p5,dx5,_,rfl,ho5,tfl_no (by decide +kernel) (by decide +kernel) (by decide +kernel),?_⟩
 walk_at"rd"
 refine⟨p5,d5,w,f,_,rfl,t20,fun my H21 q3 q4 s21=>?_⟩
 rw[rmk ms5 (by omega),spread_cnt (ks:=ms5) (by rw[List.map_map,show((fun e:Int×Str=>e.1) ∘ fun k=>(k,zA))=id from rfl,List.map_id]at q3;exact q3),c5,hspl _ bl,eb]
 have s1821:=(s19.trans s20).trans s21
 have hdu21:=s1821 _ _ hdu18
 walk_at"rd"
 rw[decide_eq_true (show G=G from rfl)]
 exact q H21 (sm18.trans s1821.sm) (tb18.same s1821)
theorem ok_law {f:Addr}{fd:FuncData}(F:Fun K "law" "law" s_law f fd) (T:Bl mg) {CT:Addr}(TC:Txt_Table K mg CT) (C__law_open:Cal P w K mg base "_law_open" ["_law_script", "_law_place"] 1 (sp__law_open K)) (C__law_draw:Cal P w K mg base "_law_draw" ["_law_hand", "_law_many"] 1 (sp__law_draw K)) (C__law_keys:Cal P w K mg base "_law_keys" ["_law_hand", "_law_many"] 4 (sp__law_keys K)) (C__law_right:Cal P w K mg base "_law_right" ["_law_keys_here", "_law_further", "_law_wide", "_law_fill"] 9 (sp__law_right K CT)):FnOk P w K mg base CX0 10 f fd ["_law_script"] (sp_law K):=by
 refine F.ok sc_law (fun vs H Q E h=>?_) (fun cdv A outer s H vs Q E hr h=>?_)
 ·obtain⟨a,ns,rfl,_⟩:=h;rfl
 obtain⟨a,ms,rfl,hS,hlen,tb,q⟩:=h
 refine⟨_,(pss_cons (ps_for PassesOwn.never rfl (pi_range1 rfl T.range (pa_cons pe_int pa_nil stx_Constant)) (pg_name (i:=1) sc_law.nd rfl (Or.inl rfl)) (pss_cons (ps_set (i:=2) sc_law.nd rfl (Or.inl rfl) (pcl C__law_open (hr.mono (by decide)) (pa_cons (pv 0) (pa_cons (pv 1) pa_nil stx_Name) stx_Name)))
   (pss_cons (ps_set (i:=3) sc_law.nd rfl (Or.inl rfl) (pe_op op_add pe_int (pcl C__law_draw (hr.mono (by decide)) (pa_cons (pv 2) (pa_cons pe_int pa_nil stx_Constant) stx_Name))))
   (pss_cons (ps_set (i:=4) sc_law.nd rfl (Or.inl rfl) (pe_op op_add pe_int (pcl C__law_draw (hr.mono (by decide)) (pa_cons (pv 2) (pa_cons pe_int pa_nil stx_Constant) stx_Name))))
   (pss_cons (ps_set (i:=5) sc_law.nd rfl (Or.inl rfl) (pcl C__law_draw (hr.mono (by decide)) (pa_cons (pv 2) (pa_cons (pe_ix ix_list (pe_lst (pa_cons pe_int (pa_cons pe_int pa_nil stx_Constant) stx_Constant)) (pcl C__law_draw (hr.mono (by decide)) (pa_cons (pv 2) (pa_cons pe_int pa_nil stx_Constant) stx_Name)) (fun _ _=>rfl)) pa_nil stx_Subscript) stx_Name)))
   (pss_cons (ps_set (i:=6) sc_law.nd rfl (Or.inl rfl) (pcl C__law_draw (hr.mono (by decide)) (pa_cons (pv 2) (pa_cons pe_int pa_nil stx_Constant) stx_Name)))
   (pss_cons (ps_set (i:=7) sc_law.nd rfl (Or.inl rfl) (pcl C__law_keys (hr.mono (by decide)) (pa_cons (pv 2) (pa_cons (pv 5) pa_nil stx_Name) stx_Name)))
   (pss_one (ps_if (pt_not (pt_val (pcl C__law_right (hr.mono (by decide)) (pa_cons (pe_slice sl_list (pv 7) po_none (po_some (pv 6))) (pa_cons (pe_slice sl_list (pv 7) (po_some (pv 6)) po_none) (pa_cons (pv 3) (pa_cons (pv 4) pa_nil stx_Name) stx_Name) stx_Subscript) stx_Subscript)))) (pss_one (ps_ret pe_bl)) pss_nil)))))))))
   (pss_one (ps_ret pe_bl))),?_⟩
 rw[st_law]
 walk_at"rd"
 refine⟨4,rfl,by omega,by omega,?_⟩
 refine for_rangeO (n:=4) (fun i σ H'=>(∃x1 x2 x3 x4 x5 x6 x7,σ=[some (.ref a),x1,x2,x3,x4,x5,x6,x7])∧Sm H H'∧TB_cheap_rooms K H') ⟨⟨_,_,_,_,_,_,_,rfl⟩,Sm.refl H,tb⟩ ?_ ?_
 ·rintro i σ H' hi ⟨⟨x1,x2,x3,x4,x5,x6,x7,rfl⟩,s1,tb1⟩
  walk_at"rd"
  refine⟨a,ms,0+i,rfl,s1.seq hS,hlen,by omega,by omega,fun p H1 np s2 hh1=>?_⟩
  walk_at"rd"
  refine⟨p,_,8,rfl,hh1,by decide,by decide,by decide,fun w0 H2 w00 w01 hh2 k2=>?_⟩
  walk_at"rd"
  refine⟨p,_,8,rfl,hh2,by decide,by decide,by decide,fun f0 H3 f00 f01 hh3 k3=>?_⟩
  walk_at"rd"
  refine⟨(by show 2≤sizeLine;decide),fun l1 nl1=>?_⟩
  generalize hE:upd H3 l1 _=H4
  obtain⟨hh4,k4,hl1,s4⟩:=newl hh3 nl1 (k2.trans k3) hE
  clear hE
  have l1p:l1≠p:=hh3.ne nl1
  walk_at"rd"
  refine⟨p,_,2,rfl,hh4,by decide,by decide,by decide,fun v H5 v0 v1 hh5 k5=>?_⟩
  obtain⟨b,hb,bv⟩:=pick40 (x:=10) (y:=65) (g:=v) (by omega)
  refine rd_ixL (SqL.of (k5.1 _ _ hl1 l1p)) hb ?_
  walk_at"rd"
  refine⟨p,_,b,rfl,hh5,by omega,by omega,by omega,fun n0 H6 n00 n01 hh6 k6=>?_⟩
  walk_at"rd"
  refine⟨p,_,65,rfl,hh6,by omega,by decide,by decide,fun g0 H7 g00 g01 hh7 k7=>?_⟩
  walk_at"rd"
  refine⟨p,_,n0,rfl,hh7,by omega,n00,by omega,fun l ns H8 nl hl nd ln rg hh8 k8=>?_⟩
  have sA:Same H' H8:=Kp.new s2 np ((((k4.trans k5).trans k6).trans k7).trans k8)
  obtain⟨g,rfl⟩ : ∃g:Nat,g0 =(g:Int):=⟨g0.toNat,by omega⟩
  walk_at"rd"
  refine rd_slL (SqL.of hl) fun c1 nc1=>?_
  rw[cut_intsT]
  generalize hE:upd H8 c1 _=H9
  obtain⟨hc1,s9⟩:=newo nc1 hE
  clear hE
  have hl9:=s9 _ _ hl
  walk_at"rd"
  refine rd_slL (SqL.of hl9) fun c2 nc2=>?_
  rw[cut_intsD]
  generalize hE:upd H9 c2 _=H10
  obtain⟨hc2,s10⟩:=newo nc2 hE
  clear hE
  walk_at"rd"
  have sB:=(sA.trans s9).trans s10
  refine⟨c1,c2,1+w0,1+f0,ns.take g,ns.drop g,rfl,s10 _ _ hc1,hc2,by rw[List.take_append_drop];exact nd,by rw[List.take_append_drop];exact rg,by rw[List.take_append_drop];omega,by omega,by omega,by omega,by omega,tb1.same sB,fun H11 s11 tb11=>?_⟩
  walk_at"rd"
  exact⟨⟨_,_,_,_,_,_,_,rfl⟩,(s1.trans sB.sm).trans s11,tb11⟩
 ·rintro σ H' ⟨⟨x1,x2,x3,x4,x5,x6,x7,rfl⟩,s1,_⟩
  walk_at"rd"
  exact q _
end
theorem all_mk {l:PySem.W.OpenLaw}{w:World}{K:PySem.W.Frag}{h:Heap}{mg:Str→Option Value}{fa:Addr}(X:K.In h) (G:h.Ns mainGlobals mg) (hfa:mg "law" = some (.ref fa))
  {CT:Addr}(aC:PySem.W.nsIn K mainGlobals "Table" = some (some (.ref CT))) (pg:PySem.W.plainGet K CT Str.empty=true) (hd:PySem.W.hasDictIn K CT=true) (po:PySem.W.plainOver K CT=true) (sa:PySem.W.findIn K (.ref CT) "__setattr__" = some (some (.builtin "object.__setattr__"))) (mk:PySem.W.makesIn K CT=true) (kc:PySem.W.keepIn K (.ref CT)=true)
  (n_wide:PySem.W.findIn K (.ref CT) "wide" = some none)
  (n_fill:PySem.W.findIn K (.ref CT) "fill" = some none)
  (n_held:PySem.W.findIn K (.ref CT) "held" = some none)
  (g0:Ga K "is_whole" s_is_whole)
  (g1:Ga K "is_key" s_is_key)
  (g2:Ga K "is_name" s_is_name)
  (g3:Ga K "is_size" s_is_size)
  (g4:Ga K "rows_for" s_rows_for)
  (g5:Ga K "rows_behind" s_rows_behind)
  (g6:Ga K "greatest_spill" s_greatest_spill)
  (g7:Ga K "least_spill" s_least_spill)
  (g8:Ga K "gap" s_gap)
  {f9:Addr}{od9 an9:Option Addr}{sl9:Array (Option Value)}{oc9 kV9 dc9 pm9 cd9 ct9:Value}(a9:PySem.W.nsIn K mainGlobals "cheap_rooms" = some (some (.ref f9))) (l9:K.lookup f9=some ⟨oc9,od9,.func (PySem.W.fnOf "cheap_rooms" "cheap_rooms" (defArgs s_cheap_rooms) (defBody s_cheap_rooms) (defScope s_cheap_rooms) .none kV9 dc9 pm9 an9 cd9 ct9),sl9⟩) (c9:PySem.W.codeIn K cd9 "cheap_rooms" = true) (k9:PySem.W.keepIn K (.ref f9)=true)
  (g10:Ga K "spill_behind" s_spill_behind)
  (g11:Ga K "last_bits" s_last_bits)
  (g12:Ga K "level" s_level)
  (g13:Ga K "turn" s_turn)
  (g14:Ga K "bits_for" s_bits_for)
  (g15:Ga K "room_of" s_room_of)
  (g16:Ga K "split_of" s_split_of)
  (g17:Ga K "spread" s_spread)
  (g18:Ga K "counts" s_counts)
  (g19:Ga2 K "spill" "spill_spread" s_spill)
  (g20:Ga K "ask_sizes" s_ask_sizes)
  (g21:Ga K "ask_key" s_ask_key)
  (g22:Ga K "ask_entry" s_ask_entry)
  (g23:Ga K "rooms_for" s_rooms_for)
  (g24:Me K CT "__init__" "Table.__init__" s_Table___init__)
  (g25:Me K CT "put" "Table.put" s_Table_put)
  (g26:Me K CT "count" "Table.count" s_Table_count)
  (g27:Me K CT "rooms" "Table.rooms" s_Table_rooms)
  (g28:Me K CT "spill" "Table.spill" s_Table_spill)
  (g29:Me K CT "spread_keys" "Table.spread_keys" s_Table_spread_keys)
  (g30:Me K CT "room_counts" "Table.room_counts" s_Table_room_counts)
  (g31:Ga K "outlook" s_outlook)
  (g32:Ga K "_law_open" s__law_open)
  (g33:Ga K "_law_draw" s__law_draw)
  (g34:Ga K "_law_far" s__law_far)
  (g35:Ga K "_law_power" s__law_power)
  (g36:Ga K "_law_key" s__law_key)
  (g37:Ga K "_law_keys" s__law_keys)
  (g38:Ga K "_law_room" s__law_room)
  (g39:Ga K "_law_needs" s__law_needs)
  (g40:Ga K "_law_greatest" s__law_greatest)
  (g41:Ga K "_law_least" s__law_least)
  (g42:Ga K "_law_table" s__law_table)
  (g43:Ga K "_law_filled" s__law_filled)
  (g44:Ga K "_law_right" s__law_right)
  {f45:Addr}{od45 an45:Option Addr}{sl45:Array (Option Value)}{oc45 kV45 dc45 pm45 cd45 ct45:Value}(a45:PySem.W.nsIn K mainGlobals "law" = some (some (.ref f45))) (l45:K.lookup f45=some ⟨oc45,od45,.func (PySem.W.fnOf "law" "law" (defArgs s_law) (defBody s_law) (defScope s_law) .none kV45 dc45 pm45 an45 cd45 ct45),sl45⟩) (c45:PySem.W.codeIn K cd45 "law" = true) (k45:PySem.W.keepIn K (.ref f45)=true)
  (z_isinstance:PySem.W.nsIn K mainGlobals "isinstance" = some none)
  (z_int:PySem.W.nsIn K mainGlobals "int" = some none)
  (z_bool:PySem.W.nsIn K mainGlobals "bool" = some none)
  (z_str:PySem.W.nsIn K mainGlobals "str" = some none)
  (z_all:PySem.W.nsIn K mainGlobals "all" = some none)
  (z_len:PySem.W.nsIn K mainGlobals "len" = some none)
  (z_max:PySem.W.nsIn K mainGlobals "max" = some none)
  (z_min:PySem.W.nsIn K mainGlobals "min" = some none)
  (z_sorted:PySem.W.nsIn K mainGlobals "sorted" = some none)
  (z_range:PySem.W.nsIn K mainGlobals "range" = some none)
  (z_sum:PySem.W.nsIn K mainGlobals "sum" = some none)
  (z_zip:PySem.W.nsIn K mainGlobals "zip" = some none)
  (z_list:PySem.W.nsIn K mainGlobals "list" = some none)
  (z_abs:PySem.W.nsIn K mainGlobals "abs" = some none)
  (z_tuple:PySem.W.nsIn K mainGlobals "tuple" = some none)
  {t_MOST_KEYS:Tok}(z_MOST_KEYS:PySem.W.nsIn K mainGlobals "MOST_KEYS" = some (some (.int 64 t_MOST_KEYS)))
  (tL_cheap_rooms:PySem.W.tabIn K "cheap_rooms" = some (tbC K "cheap_rooms",tbP K "cheap_rooms")) (hL_cheap_rooms:PySem.W.codeHdIn K (tbC K "cheap_rooms") (tbP K "cheap_rooms")=true)
  : ∃fd:FuncData,(∀(s:Shared) (v:Value),BindsTo s fd ⟨[v],[]⟩ [("_law_script",v)])∧∀base:Heap,K.In base→base.Ns mainGlobals mg→BM mg base→FnOk l.prog w K mg base CX0 10 fa fd ["_law_script"] (sp_law K):=by
 have e:=hfa.symm.trans (PySem.W.mg_of X G a45)
 cases e
 have T:Bl mg:=⟨PySem.W.mg_none_of X G z_isinstance,PySem.W.mg_none_of X G z_int,PySem.W.mg_none_of X G z_bool,PySem.W.mg_none_of X G z_str,PySem.W.mg_none_of X G z_all,PySem.W.mg_none_of X G z_len,PySem.W.mg_none_of X G z_max,PySem.W.mg_none_of X G z_min,PySem.W.mg_none_of X G z_sorted,PySem.W.mg_none_of X G z_range,PySem.W.mg_none_of X G z_sum,PySem.W.mg_none_of X G z_zip,PySem.W.mg_none_of X G z_list,PySem.W.mg_none_of X G z_abs,PySem.W.mg_none_of X G z_tuple,⟨_,PySem.W.mg_of X G z_MOST_KEYS⟩⟩
 refine⟨PySem.W.fnOf "law" "law" (defArgs s_law) (defBody s_law) (defScope s_law) .none kV45 dc45 pm45 an45 cd45 ct45,fun s v=>.of_eq rfl,fun base _ _ hBM=>?_⟩
 have TC:Txt_Table K mg CT:=⟨⟨pg,hd,po,sa⟩,n_wide,n_fill,n_held,PySem.W.mg_of X G aC⟩
 have C_is_whole:=g0.elim fun f a fd F=>ok_is_whole (P:=l.prog) (w:=w) (base:=base) F (PySem.W.mg_of X G a) (F.binds (ps:=["thing"]) fun _ _ _ _ _ _ us hl=>match us,hl with | [_],_=>rfl) T
 have C_is_name:=g2.elim fun f a fd F=>ok_is_name (P:=l.prog) (w:=w) (base:=base) F (PySem.W.mg_of X G a) (F.binds (ps:=["thing"]) fun _ _ _ _ _ _ us hl=>match us,hl with | [_],_=>rfl) T
 have C_rows_for:=g4.elim fun f a fd F=>ok_rows_for (P:=l.prog) (w:=w) (base:=base) F (PySem.W.mg_of X G a) (F.binds (ps:=["many", "wide"]) fun _ _ _ _ _ _ us hl=>match us,hl with | [_,_],_=>rfl) T
 have C_last_bits:=g11.elim fun f a fd F=>ok_last_bits (P:=l.prog) (w:=w) (base:=base) F (PySem.W.mg_of X G a) (F.binds (ps:=["key", "many"]) fun _ _ _ _ _ _ us hl=>match us,hl with | [_,_],_=>rfl) T
 have C_level:=g12.elim fun f a fd F=>ok_level (P:=l.prog) (w:=w) (base:=base) F (PySem.W.mg_of X G a) (F.binds (ps:=["rooms"]) fun _ _ _ _ _ _ us hl=>match us,hl with | [_],_=>rfl) T
 have C_rooms_for:=g23.elim fun f a fd F=>ok_rooms_for (P:=l.prog) (w:=w) (base:=base) F (PySem.W.mg_of X G a) (F.binds (ps:=["count", "fill"]) fun _ _ _ _ _ _ us hl=>match us,hl with | [_,_],_=>rfl) T
 have C_Table_count:=g26.elim fun f a i k fd F=>ok_Table_count (P:=l.prog) (w:=w) (base:=base) F ⟨a,i,k⟩ (F.binds (ps:=["self"]) fun _ _ _ _ _ _ us hl=>match us,hl with | [_],_=>rfl) T TC
 have C__law_open:=g32.elim fun f a fd F=>ok__law_open (P:=l.prog) (w:=w) (base:=base) F (PySem.W.mg_of X G a) (F.binds (ps:=["_law_script", "_law_place"]) fun _ _ _ _ _ _ us hl=>match us,hl with | [_,_],_=>rfl) T
 have C__law_draw:=g33.elim fun f a fd F=>ok__law_draw (P:=l.prog) (w:=w) (base:=base) F (PySem.W.mg_of X G a) (F.binds (ps:=["_law_hand", "_law_many"]) fun _ _ _ _ _ _ us hl=>match us,hl with | [_,_],_=>rfl) T
 have C__law_power:=g35.elim fun f a fd F=>ok__law_power (P:=l.prog) (w:=w) (base:=base) F (PySem.W.mg_of X G a) (F.binds (ps:=["_law_many"]) fun _ _ _ _ _ _ us hl=>match us,hl with | [_],_=>rfl) T
 have C__law_room:=g38.elim fun f a fd F=>ok__law_room (P:=l.prog) (w:=w) (base:=base) F (PySem.W.mg_of X G a) (F.binds (ps:=["_law_key_here", "_law_rooms"]) fun _ _ _ _ _ _ us hl=>match us,hl with | [_,_],_=>rfl) T
 have C__law_needs:=g39.elim fun f a fd F=>ok__law_needs (P:=l.prog) (w:=w) (base:=base) F (PySem.W.mg_of X G a) (F.binds (ps:=["_law_sizes", "_law_wide"]) fun _ _ _ _ _ _ us hl=>match us,hl with | [_,_],_=>rfl) T
 have C__law_least:=g41.elim fun f a fd F=>ok__law_least (P:=l.prog) (w:=w) (base:=base) F (PySem.W.mg_of X G a) (F.binds (ps:=["_law_sizes", "_law_wide", "_law_more"]) fun _ _ _ _ _ _ us hl=>match us,hl with | [_,_,_],_=>rfl) T
 have C__law_filled:=g43.elim fun f a fd F=>ok__law_filled (P:=l.prog) (w:=w) (base:=base) F (PySem.W.mg_of X G a) (F.binds (ps:=["_law_keys_here", "_law_put"]) fun _ _ _ _ _ _ us hl=>match us,hl with | [_,_],_=>rfl) T
 have C_is_key:=g1.elim fun f a fd F=>ok_is_key (P:=l.prog) (w:=w) (base:=base) F (PySem.W.mg_of X G a) (F.binds (ps:=["thing"]) fun _ _ _ _ _ _ us hl=>match us,hl with | [_],_=>rfl) T C_is_whole
 have C_is_size:=g3.elim fun f a fd F=>ok_is_size (P:=l.prog) (w:=w) (base:=base) F (PySem.W.mg_of X G a) (F.binds (ps:=["thing"]) fun _ _ _ _ _ _ us hl=>match us,hl with | [_],_=>rfl) T C_is_whole
 have C_rows_behind:=g5.elim fun f a fd F=>ok_rows_behind (P:=l.prog) (w:=w) (base:=base) F (PySem.W.mg_of X G a) (F.binds (ps:=["many", "wide"]) fun _ _ _ _ _ _ us hl=>match us,hl with | [_,_],_=>rfl) T C_rows_for
 have C_gap:=g8.elim fun f a fd F=>ok_gap (P:=l.prog) (w:=w) (base:=base) F (PySem.W.mg_of X G a) (F.binds (ps:=["many", "wide"]) fun _ _ _ _ _ _ us hl=>match us,hl with | [_,_],_=>rfl) T C_rows_for
 have C_turn:=g13.elim fun f a fd F=>ok_turn (P:=l.prog) (w:=w) (base:=base) F (PySem.W.mg_of X G a) (F.binds (ps:=["rooms"]) fun _ _ _ _ _ _ us hl=>match us,hl with | [_],_=>rfl) T C_level
 have C_Table_rooms:=g27.elim fun f a i k fd F=>ok_Table_rooms (P:=l.prog) (w:=w) (base:=base) F ⟨a,i,k⟩ (F.binds (ps:=["self"]) fun _ _ _ _ _ _ us hl=>match us,hl with | [_],_=>rfl) T TC C_Table_count C_rooms_for
 have C__law_far:=g34.elim fun f a fd F=>ok__law_far (P:=l.prog) (w:=w) (base:=base) F (PySem.W.mg_of X G a) (F.binds (ps:=["_law_hand", "_law_many"]) fun _ _ _ _ _ _ us hl=>match us,hl with | [_,_],_=>rfl) T C__law_draw
 have C__law_greatest:=g40.elim fun f a fd F=>ok__law_greatest (P:=l.prog) (w:=w) (base:=base) F (PySem.W.mg_of X G a) (F.binds (ps:=["_law_sizes", "_law_wide", "_law_more"]) fun _ _ _ _ _ _ us hl=>match us,hl with | [_,_,_],_=>rfl) T C__law_needs
 have C_spill_behind:=g10.elim fun f a fd F=>ok_spill_behind (P:=l.prog) (w:=w) (base:=base) F (PySem.W.mg_of X G a) (F.binds (ps:=["counts", "wide", "put"]) fun _ _ _ _ _ _ us hl=>match us,hl with | [_,_,_],_=>rfl) T C_rows_behind
 have C_bits_for:=g14.elim fun f a fd F=>ok_bits_for (P:=l.prog) (w:=w) (base:=base) F (PySem.W.mg_of X G a) (F.binds (ps:=["room", "rooms"]) fun _ _ _ _ _ _ us hl=>match us,hl with | [_,_],_=>rfl) T C_level C_turn
 have C_split_of:=g16.elim fun f a fd F=>ok_split_of (P:=l.prog) (w:=w) (base:=base) F (PySem.W.mg_of X G a) (F.binds (ps:=["rooms"]) fun _ _ _ _ _ _ us hl=>match us,hl with | [_],_=>rfl) T C_turn
 have C_spill:=g19.elim fun f a b fd F=>ok_spill (P:=l.prog) (w:=w) (base:=base) F (PySem.W.mg_of X G a) (F.binds (ps:=["counts", "wide"]) fun _ _ _ _ _ _ us hl=>match us,hl with | [_,_],_=>rfl) T C_rows_behind
 have A_spill_spread:Cal l.prog w K mg base "spill_spread" ["counts", "wide"] 3 (sp_spill K):=g19.elim fun f a b fd F=>C_spill.alias ((PySem.W.mg_of X G b).trans (PySem.W.mg_of X G a).symm)
 have C_ask_sizes:=g20.elim fun f a fd F=>ok_ask_sizes (P:=l.prog) (w:=w) (base:=base) F (PySem.W.mg_of X G a) (F.binds (ps:=["wide", "fill"]) fun _ _ _ _ _ _ us hl=>match us,hl with | [_,_],_=>rfl) T C_is_size
 have C_ask_key:=g21.elim fun f a fd F=>ok_ask_key (P:=l.prog) (w:=w) (base:=base) F (PySem.W.mg_of X G a) (F.binds (ps:=["key"]) fun _ _ _ _ _ _ us hl=>match us,hl with | [_],_=>rfl) T C_is_key
 have C__law_key:=g36.elim fun f a fd F=>ok__law_key (P:=l.prog) (w:=w) (base:=base) F (PySem.W.mg_of X G a) (F.binds (ps:=["_law_hand"]) fun _ _ _ _ _ _ us hl=>match us,hl with | [_],_=>rfl) T C__law_draw C__law_far C__law_power
 have C_least_spill:=g7.elim fun f a fd F=>ok_least_spill (P:=l.prog) (w:=w) (base:=base) F (PySem.W.mg_of X G a) (F.binds (ps:=["counts", "wide", "more"]) fun _ _ _ _ _ _ us hl=>match us,hl with | [_,_,_],_=>rfl) T C_spill_behind C_gap
 have C_room_of:=g15.elim fun f a fd F=>ok_room_of (P:=l.prog) (w:=w) (base:=base) F (PySem.W.mg_of X G a) (F.binds (ps:=["key", "rooms"]) fun _ _ _ _ _ _ us hl=>match us,hl with | [_,_],_=>rfl) T C_last_bits C_bits_for C_level
 have C_ask_entry:=g22.elim fun f a fd F=>ok_ask_entry (P:=l.prog) (w:=w) (base:=base) F (PySem.W.mg_of X G a) (F.binds (ps:=["key", "thing"]) fun _ _ _ _ _ _ us hl=>match us,hl with | [_,_],_=>rfl) T C_ask_key C_is_name
 have C_Table___init__:=g24.elim fun f a i k fd F=>ok_Table___init__ (P:=l.prog) (w:=w) (base:=base) F ⟨mk,a,i,kc⟩ (F.binds (ps:=["self", "wide", "fill"]) fun _ _ _ _ _ _ us hl=>match us,hl with | [_,_,_],_=>rfl) T TC C_ask_sizes
 have C__law_keys:=g37.elim fun f a fd F=>ok__law_keys (P:=l.prog) (w:=w) (base:=base) F (PySem.W.mg_of X G a) (F.binds (ps:=["_law_hand", "_law_many"]) fun _ _ _ _ _ _ us hl=>match us,hl with | [_,_],_=>rfl) T C__law_key
 have C_spread:=g17.elim fun f a fd F=>ok_spread (P:=l.prog) (w:=w) (base:=base) F (PySem.W.mg_of X G a) (F.binds (ps:=["keys", "rooms"]) fun _ _ _ _ _ _ us hl=>match us,hl with | [_,_],_=>rfl) T C_room_of
 have C_cheap_rooms:=(fun F=>ok_cheap_rooms (P:=l.prog) (w:=w) (base:=base) F (PySem.W.mg_of X G a9) (F.binds (ps:=["counts", "wide"]) fun _ _ _ _ _ _ us hl=>match us,hl with | [_,_],_=>rfl) T (lam_mk hBM a9 l9 tL_cheap_rooms hL_cheap_rooms) C_gap) (fun_mk (st:=s_cheap_rooms) l9 c9 k9)
 have C_counts:=g18.elim fun f a fd F=>ok_counts (P:=l.prog) (w:=w) (base:=base) F (PySem.W.mg_of X G a) (F.binds (ps:=["keys", "rooms"]) fun _ _ _ _ _ _ us hl=>match us,hl with | [_,_],_=>rfl) T C_spread
 have C_Table_spread_keys:=g29.elim fun f a i k fd F=>ok_Table_spread_keys (P:=l.prog) (w:=w) (base:=base) F ⟨a,i,k⟩ (F.binds (ps:=["self", "rooms"]) fun _ _ _ _ _ _ us hl=>match us,hl with | [_,_],_=>rfl) T TC C_spread
 have C_greatest_spill:=g6.elim fun f a fd F=>ok_greatest_spill (P:=l.prog) (w:=w) (base:=base) F (PySem.W.mg_of X G a) (F.binds (ps:=["counts", "wide", "more"]) fun _ _ _ _ _ _ us hl=>match us,hl with | [_,_,_],_=>rfl) T C_cheap_rooms C_gap C_spill_behind
 have C_Table_put:=g25.elim fun f a i k fd F=>ok_Table_put (P:=l.prog) (w:=w) (base:=base) F ⟨a,i,k⟩ (F.binds (ps:=["self", "key", "thing"]) fun _ _ _ _ _ _ us hl=>match us,hl with | [_,_,_],_=>rfl) T TC C_Table_rooms C_Table_count C_Table_spread_keys C_ask_entry C_split_of
 have C_Table_room_counts:=g30.elim fun f a i k fd F=>ok_Table_room_counts (P:=l.prog) (w:=w) (base:=base) F ⟨a,i,k⟩ (F.binds (ps:=["self"]) fun _ _ _ _ _ _ us hl=>match us,hl with | [_],_=>rfl) T TC C_Table_rooms C_counts
 have C_Table_spill:=g28.elim fun f a i k fd F=>ok_Table_spill (P:=l.prog) (w:=w) (base:=base) F ⟨a,i,k⟩ (F.binds (ps:=["self"]) fun _ _ _ _ _ _ us hl=>match us,hl with | [_],_=>rfl) T TC C_spill A_spill_spread C_Table_room_counts
 have C_outlook:=g31.elim fun f a fd F=>ok_outlook (P:=l.prog) (w:=w) (base:=base) F (PySem.W.mg_of X G a) (F.binds (ps:=["keys", "wide", "fill", "more"]) fun _ _ _ _ _ _ us hl=>match us,hl with | [_,_,_,_],_=>rfl) T C_rooms_for C_counts C_least_spill C_greatest_spill
 have C__law_table:=g42.elim fun f a fd F=>ok__law_table (P:=l.prog) (w:=w) (base:=base) F (PySem.W.mg_of X G a) (F.binds (ps:=["_law_keys_here", "_law_wide", "_law_fill"]) fun _ _ _ _ _ _ us hl=>match us,hl with | [_,_,_],_=>rfl) T TC C_Table___init__ C_Table_put
 have C__law_right:=g44.elim fun f a fd F=>ok__law_right (P:=l.prog) (w:=w) (base:=base) F (PySem.W.mg_of X G a) (F.binds (ps:=["_law_keys_here", "_law_further", "_law_wide", "_law_fill"]) fun _ _ _ _ _ _ us hl=>match us,hl with | [_,_,_,_],_=>rfl) T TC C_Table_spill C_Table_rooms C_outlook C__law_table C__law_least C__law_greatest C_least_spill C_greatest_spill C__law_room C__law_filled
 exact ok_law (fun_mk (st:=s_law) l45 c45 k45) T TC C__law_open C__law_draw C__law_keys C__law_right
theorem walk {l:PySem.W.OpenLaw}{q:Program}{loose:List Str}{XP:(Str→Option Value)→Heap→Prop}{YP:World→Heap→Prop}{d:DefRec}{K:Params→PySem.W.Frag}(hn:l.most=some 63) (hdf:d.params.defaults=[])
  (hY:∀(w:World) (h:Heap),YP w h→(K w.params).In h)
  (tP:Addr) (hT:∀(w:World) (h:Heap),YP w h→h.get? tP=some (PySem.W.tabObj #[])) (hTb:∀w:World,tbP (K w.params) "cheap_rooms" = tP) (hTc:∀w:World,PySem.W.codeHdIn (K w.params) (tbC (K w.params) "cheap_rooms") (tbP (K w.params) "cheap_rooms")=true) (hKP:∀w:World,(K w.params).lookup (tbP (K w.params) "cheap_rooms")=none)
  (F:∀(w:World) (mg:Str→Option Value) (fa:Addr) (h:Heap),(K w.params).In h→h.Ns mainGlobals mg→mg d.name=some (.ref fa) →
   ∃fd:FuncData,(∀(s:Shared) (u:Value),BindsTo s fd ⟨[u],[]⟩ [("_law_script",u)])∧∀base:Heap,(K w.params).In base→base.Ns mainGlobals mg→BM mg base→FnOk l.prog w (K w.params) mg base CX0 10 fa fd ["_law_script"] (sp_law (K w.params))) :
  PySem.W.WalkO q loose XP YP l.row.toRowW d [] (fun f vs=>PySem.call f vs) :=
 L2.walk_ofT (n:=63) (k:=10) (x := "_law_script") (CX:=fun _=>CX0) (sp:=fun w=>sp_law (K w.params)) (tP:=tP) hn (by decide) hdf ⟨rfl,by decide,by decide,rfl⟩ hY hT (fun w=>⟨_,hTb w ▸ hTc w⟩) (fun w=>hTb w ▸ hKP w) F (fun w H a ns hl hO hP hS=>⟨a,ns,rfl,hS,hl,⟨#[],(hTb w).symm ▸ hP,trivial,.inl rfl⟩,fun _=>rfl⟩) fun _ _ _ _ _ z=>z
end Law
namespace HD
open PySem PySem.W PySem.PyData
noncomputable def pB:List Stmt:=PySem.Challenge.pw_tailrooms_k65_outlook_by_tables.main.body
noncomputable def nS:List Stmt→Nat→Stmt
 | s::_,0=>s
 | _::r,n+1=>nS r n
 | [],_=>.Pass ⟨0,0,0,0⟩
noncomputable def bS:Stmt→List Stmt
 | .FunctionDef _ _ b ..=>b
 | .ClassDef _ _ _ b ..=>b
 | _=>[]
noncomputable def aS:Stmt→Arguments
 | .FunctionDef _ a ..=>a
 | _=>⟨[],[],none,[],[],none,[]⟩
noncomputable def sS:Stmt→Scope
 | .FunctionDef _ _ _ _ _ _ s ..=>s
 | _=>⟨.function,[],false,false,[]⟩
noncomputable def f (i:Nat):Stmt:=nS pB i
noncomputable def m (i j:Nat):Stmt:=nS (bS (f i)) j
abbrev O:=Params→Obj
noncomputable def E (P:Params) (x:Str) (n:Nat) (v:Value):DictEntry:=⟨keyHash P x,.str x n,v⟩
abbrev B:=Params→BT
noncomputable def n (o:O) (l r:B):B:=fun P=>.node (o P) (l P) (r P)
noncomputable def w (o:O):B:=fun P=>.node (o P) .nil .nil
noncomputable def u:B:=fun _=>.nil
noncomputable def c0 (P:Params) (r:List DictEntry):List DictEntry:=(E P "__name__" 165 (.str "tailrooms.errors" 365))::(E P "__doc__" 166 .none)::(E P "__package__" 167 .none)::(E P "__loader__" 168 (.builtin "__main__.__loader__#opaque"))::(E P "__spec__" 169 .none)::(E P "__annotations__" 170 (.ref 6))::(E P "__builtins__" 171 (.ref 4))::(E P "__file__" 173 (.str "/claim/cut.py" 172))::r
noncomputable def c1 (P:Params) (r:List DictEntry):List DictEntry:=(E P "__cached__" 174 .none)::(E P "_wall" 193 (.ref 21))::(E P "is_whole" 202 (.ref 28))::(E P "is_key" 209 (.ref 35))::(E P "is_name" 215 (.ref 40))::(E P "is_size" 222 (.ref 47))::(E P "rows_for" 232 (.ref 54))::(E P "rows_behind" 240 (.ref 61))::r
noncomputable def c2 (P:Params) (r:List DictEntry):List DictEntry:=(E P "cut_rows" 246 (.ref 66))::(E P "greatest_spill" 262 (.ref 73))::(E P "least_spill" 275 (.ref 80))::(E P "gap" 283 (.ref 87))::(E P "cheap_rooms" 289 (.ref 92))::(E P "spill_behind" 295 (.ref 97))::(E P "last_bits" 305 (.ref 104))::(E P "level" 312 (.ref 111))::r
noncomputable def c3 (P:Params) (r:List DictEntry):List DictEntry:=(E P "turn" 319 (.ref 118))::(E P "bits_for" 328 (.ref 125))::(E P "room_of" 336 (.ref 132))::(E P "split_of" 343 (.ref 139))::(E P "spread" 351 (.ref 144))::(E P "counts" 357 (.ref 149))::(E P "spill" 363 (.ref 154))::(E P "spill_spread" 364 (.ref 154))::r
noncomputable def c4 (P:Params) (r:List DictEntry):List DictEntry:=(E P "TailError" 384 (.ref 164))::(E P "NoSize" 409 (.ref 184))::r
noncomputable def c5 (P:Params) (r:List Value):List Value:=(.int 1 0)::(.int 0 0)::(.ref 20)::(.int 5 0)::(.int 0 0)::(.ref 27)::(.int 7 0)::(.int 0 0)::(.ref 34)::(.int 9 0)::(.int 0 0)::(.ref 39)::(.int 11 0)::(.int 0 0)::(.ref 46)::(.int 14 0)::(.int 0 0)::(.ref 53)::r
noncomputable def c6 (P:Params) (r:List Value):List Value:=(.int 16 0)::(.int 0 0)::(.ref 60)::(.int 18 0)::(.int 0 0)::(.ref 65)::(.int 21 0)::(.int 0 0)::(.ref 72)::(.int 32 0)::(.int 0 0)::(.ref 79)::(.int 41 0)::(.int 0 0)::(.ref 86)::(.int 43 0)::(.int 0 0)::(.ref 91)::r
noncomputable def c7 (P:Params) (r:List Value):List Value:=(.int 46 0)::(.int 0 0)::(.ref 96)::(.int 49 0)::(.int 0 0)::(.ref 103)::(.int 51 0)::(.int 0 0)::(.ref 110)::(.int 53 0)::(.int 0 0)::(.ref 117)::(.int 55 0)::(.int 0 0)::(.ref 124)::(.int 60 0)::(.int 0 0)::(.ref 131)::r
noncomputable def c8 (P:Params) (r:List Value):List Value:=(.int 62 0)::(.int 0 0)::(.ref 138)::(.int 65 0)::(.int 0 0)::(.ref 143)::(.int 70 0)::(.int 0 0)::(.ref 148)::(.int 72 0)::(.int 0 0)::(.ref 153)::(.int 76 0)::(.int 0 0)::(.ref 160)::(.int 78 0)::(.int 0 0)::(.ref 173)::r
noncomputable def c9 (P:Params) (r:List DictEntry):List DictEntry:=(E P "TailError" 384 (.ref 164))::r
noncomputable def c10 (P:Params) (r:List Value):List Value:=(.int 62 0)::(.int 0 0)::(.ref 138)::(.int 65 0)::(.int 0 0)::(.ref 143)::(.int 70 0)::(.int 0 0)::(.ref 148)::(.int 72 0)::(.int 0 0)::(.ref 153)::(.int 76 0)::(.int 0 0)::(.ref 160)::r
noncomputable def c11 (P:Params) (r:List DictEntry):List DictEntry:=(E P "__name__" 165 (.str "law_tailrooms_k65_outlook_by_tables" 700))::(E P "__doc__" 166 .none)::(E P "__package__" 167 .none)::(E P "__loader__" 168 (.builtin "__main__.__loader__#opaque"))::(E P "__spec__" 169 .none)::(E P "__annotations__" 170 (.ref 6))::(E P "__builtins__" 171 (.ref 4))::(E P "__file__" 173 (.str "/claim/cut.py" 172))::r
noncomputable def c12 (P:Params) (r:List DictEntry):List DictEntry:=(E P "TailError" 384 (.ref 164))::(E P "NoSize" 409 (.ref 184))::(E P "NoKey" 434 (.ref 203))::(E P "NoThing" 459 (.ref 222))::(E P "NoRoom" 484 (.ref 241))::(E P "Full" 509 (.ref 260))::(E P "ask_sizes" 519 (.ref 269))::(E P "ask_key" 526 (.ref 276))::r
noncomputable def c13 (P:Params) (r:List DictEntry):List DictEntry:=(E P "ask_entry" 534 (.ref 283))::(E P "MOST_KEYS" 538 (.int 64 537))::(E P "rooms_for" 546 (.ref 290))::(E P "Table" 685 (.ref 403))::(E P "outlook" 699 (.ref 414))::(E P "_law_open" 707 (.ref 419))::(E P "_law_draw" 718 (.ref 426))::(E P "_law_far" 728 (.ref 433))::r
noncomputable def c14 (P:Params) (r:List DictEntry):List DictEntry:=(E P "_law_power" 737 (.ref 440))::(E P "_law_key" 746 (.ref 447))::(E P "_law_keys" 757 (.ref 454))::(E P "_law_room" 767 (.ref 461))::(E P "_law_needs" 773 (.ref 466))::(E P "_law_greatest" 779 (.ref 471))::(E P "_law_least" 785 (.ref 476))::(E P "_law_table" 796 (.ref 483))::r
noncomputable def c15 (P:Params) (r:List Value):List Value:=(.int 82 0)::(.int 0 0)::(.ref 192)::(.int 86 0)::(.int 0 0)::(.ref 211)::(.int 90 0)::(.int 0 0)::(.ref 230)::(.int 94 0)::(.int 0 0)::(.ref 249)::(.int 99 0)::(.int 0 0)::(.ref 268)::(.int 104 0)::(.int 0 0)::(.ref 275)::r
noncomputable def c16 (P:Params) (r:List Value):List Value:=(.int 107 0)::(.int 0 0)::(.ref 282)::(.int 113 0)::(.int 0 0)::(.ref 289)::(.int 115 0)::(.int 0 0)::(.ref 296)::(.int 176 0)::(.int 0 0)::(.ref 413)::(.int 181 0)::(.int 0 0)::(.ref 418)::(.int 190 0)::(.int 0 0)::(.ref 425)::r
noncomputable def c17 (P:Params) (r:List Value):List Value:=(.int 201 0)::(.int 0 0)::(.ref 432)::(.int 208 0)::(.int 0 0)::(.ref 439)::(.int 213 0)::(.int 0 0)::(.ref 446)::(.int 225 0)::(.int 0 0)::(.ref 453)::(.int 233 0)::(.int 0 0)::(.ref 460)::(.int 241 0)::(.int 0 0)::(.ref 465)::r
noncomputable def c18 (P:Params) (r:List Value):List Value:=(.int 243 0)::(.int 0 0)::(.ref 470)::(.int 255 0)::(.int 0 0)::(.ref 475)::(.int 259 0)::(.int 0 0)::(.ref 482)::r
noncomputable def c19 (P:Params) (r:List DictEntry):List DictEntry:=(E P "__module__" 554 (.str "tailrooms.table" 535))::(E P "__qualname__" 556 (.str "Table" 555))::(E P "__firstlineno__" 558 (.int 115 557))::(E P "__init__" 567 (.ref 304))::(E P "put" 579 (.ref 311))::(E P "drop" 587 (.ref 318))::(E P "find" 595 (.ref 325))::(E P "looks" 603 (.ref 332))::r
noncomputable def c20 (P:Params) (r:List DictEntry):List DictEntry:=(E P "count" 610 (.ref 339))::(E P "rooms" 617 (.ref 346))::(E P "entries" 624 (.ref 353))::(E P "room" 630 (.ref 358))::(E P "spill" 637 (.ref 365))::(E P "longest" 644 (.ref 372))::(E P "twin" 651 (.ref 379))::(E P "ask_standing" 659 (.ref 386))::r
noncomputable def c21 (P:Params) (r:List DictEntry):List DictEntry:=(E P "spread_keys" 667 (.ref 393))::(E P "room_counts" 674 (.ref 400))::(E P "__static_attributes__" 678 (.ref 401))::r
noncomputable def c22 (P:Params) (r:List Value):List Value:=(.int 117 0)::(.int 4 0)::(.ref 303)::(.int 123 0)::(.int 4 0)::(.ref 310)::(.int 134 0)::(.int 4 0)::(.ref 317)::(.int 137 0)::(.int 4 0)::(.ref 324)::(.int 140 0)::(.int 4 0)::(.ref 331)::(.int 143 0)::(.int 4 0)::(.ref 338)::r
noncomputable def c23 (P:Params) (r:List Value):List Value:=(.int 146 0)::(.int 4 0)::(.ref 345)::(.int 149 0)::(.int 4 0)::(.ref 352)::(.int 152 0)::(.int 4 0)::(.ref 357)::(.int 158 0)::(.int 4 0)::(.ref 364)::(.int 161 0)::(.int 4 0)::(.ref 371)::(.int 164 0)::(.int 4 0)::(.ref 378)::r
noncomputable def c24 (P:Params) (r:List Value):List Value:=(.int 167 0)::(.int 4 0)::(.ref 385)::(.int 170 0)::(.int 4 0)::(.ref 392)::(.int 173 0)::(.int 4 0)::(.ref 399)::r
noncomputable def c25 (P:Params) (r:List DictEntry):List DictEntry:=(E P "__module__" 554 (.str "tailrooms.table" 535))::(E P "__firstlineno__" 558 (.int 115 557))::(E P "__init__" 567 (.ref 304))::(E P "put" 579 (.ref 311))::(E P "drop" 587 (.ref 318))::(E P "find" 595 (.ref 325))::(E P "looks" 603 (.ref 332))::(E P "count" 610 (.ref 339))::r
noncomputable def c26 (P:Params) (r:List DictEntry):List DictEntry:=(E P "rooms" 617 (.ref 346))::(E P "entries" 624 (.ref 353))::(E P "room" 630 (.ref 358))::(E P "spill" 637 (.ref 365))::(E P "longest" 644 (.ref 372))::(E P "twin" 651 (.ref 379))::(E P "ask_standing" 659 (.ref 386))::(E P "spread_keys" 667 (.ref 393))::r
noncomputable def c27 (P:Params) (r:List DictEntry):List DictEntry:=(E P "room_counts" 674 (.ref 400))::(E P "__static_attributes__" 678 (.ref 401))::(E P "__dict__" 680 (.ref 404))::(E P "__weakref__" 682 (.ref 405))::(E P "__doc__" 683 .none)::r
noncomputable def c28 (P:Params) (r:List DictEntry):List DictEntry:=(E P "__name__" 165 (.str "tailrooms.table" 535))::(E P "__doc__" 166 .none)::(E P "__package__" 167 .none)::(E P "__loader__" 168 (.builtin "__main__.__loader__#opaque"))::(E P "__spec__" 169 .none)::(E P "__annotations__" 170 (.ref 6))::(E P "__builtins__" 171 (.ref 4))::(E P "__file__" 173 (.str "/claim/cut.py" 172))::r
noncomputable def c29 (P:Params) (r:List DictEntry):List DictEntry:=(E P "ask_entry" 534 (.ref 283))::(E P "MOST_KEYS" 538 (.int 64 537))::(E P "rooms_for" 546 (.ref 290))::(E P "Table" 685 (.ref 403))::r
noncomputable def c30 (P:Params) (r:List Value):List Value:=(.int 107 0)::(.int 0 0)::(.ref 282)::(.int 113 0)::(.int 0 0)::(.ref 289)::(.int 115 0)::(.int 0 0)::(.ref 296)::r
noncomputable def c31 (P:Params) (r:List DictEntry):List DictEntry:=(E P "TailError" 384 (.ref 164))::(E P "NoSize" 409 (.ref 184))::(E P "NoKey" 434 (.ref 203))::r
noncomputable def c32 (P:Params) (r:List Value):List Value:=(.int 82 0)::(.int 0 0)::(.ref 192)::r
noncomputable def c33 (P:Params) (r:List DictEntry):List DictEntry:=(E P "TailError" 384 (.ref 164))::(E P "NoSize" 409 (.ref 184))::(E P "NoKey" 434 (.ref 203))::(E P "NoThing" 459 (.ref 222))::(E P "NoRoom" 484 (.ref 241))::r
noncomputable def c34 (P:Params) (r:List Value):List Value:=(.int 82 0)::(.int 0 0)::(.ref 192)::(.int 86 0)::(.int 0 0)::(.ref 211)::(.int 90 0)::(.int 0 0)::(.ref 230)::r
noncomputable def c35 (P:Params) (r:List DictEntry):List DictEntry:=(E P "TailError" 384 (.ref 164))::(E P "NoSize" 409 (.ref 184))::(E P "NoKey" 434 (.ref 203))::(E P "NoThing" 459 (.ref 222))::r
noncomputable def c36 (P:Params) (r:List Value):List Value:=(.int 82 0)::(.int 0 0)::(.ref 192)::(.int 86 0)::(.int 0 0)::(.ref 211)::r
noncomputable def c37 (P:Params) (r:List Value):List Value:=(.int 62 0)::(.int 0 0)::(.ref 138)::(.int 65 0)::(.int 0 0)::(.ref 143)::(.int 70 0)::(.int 0 0)::(.ref 148)::(.int 72 0)::(.int 0 0)::(.ref 153)::r
noncomputable def c38 (P:Params) (r:List DictEntry):List DictEntry:=(E P "_law_filled" 808 (.ref 490))::(E P "_law_right" 814 (.ref 495))::(E P "law" 828 (.ref 502))::r
noncomputable def c39 (P:Params) (r:List Value):List Value:=(.int 243 0)::(.int 0 0)::(.ref 470)::(.int 255 0)::(.int 0 0)::(.ref 475)::(.int 259 0)::(.int 0 0)::(.ref 482)::(.int 264 0)::(.int 0 0)::(.ref 489)::(.int 274 0)::(.int 0 0)::(.ref 494)::(.int 295 0)::(.int 0 0)::(.ref 501)::r
noncomputable def c40 (P:Params) (r:List DictEntry):List DictEntry:=(E P "ask_entry" 534 (.ref 283))::(E P "MOST_KEYS" 538 (.int 64 537))::(E P "rooms_for" 546 (.ref 290))::r
noncomputable def c41 (P:Params) (r:List DictEntry):List DictEntry:=(E P "count" 610 (.ref 339))::(E P "rooms" 617 (.ref 346))::(E P "entries" 624 (.ref 353))::(E P "room" 630 (.ref 358))::(E P "spill" 637 (.ref 365))::(E P "longest" 644 (.ref 372))::r
noncomputable def c42 (P:Params) (r:List Value):List Value:=(.int 146 0)::(.int 4 0)::(.ref 345)::(.int 149 0)::(.int 4 0)::(.ref 352)::(.int 152 0)::(.int 4 0)::(.ref 357)::(.int 158 0)::(.int 4 0)::(.ref 364)::(.int 161 0)::(.int 4 0)::(.ref 371)::r
noncomputable def c43 (P:Params) (r:List Value):List Value:=(.int 107 0)::(.int 0 0)::(.ref 282)::(.int 113 0)::(.int 0 0)::(.ref 289)::r
noncomputable def t44 (a0:Str) (a1:Str) (a2:Stmt) (a3:Stmt) (P:Params):Obj:=⟨.none,none,(.func ⟨a0,a1,(aS a2),(.stmts (bS a2)),(sS a3),0,[],.none,.none,.none,.none,none,.none,.none,0⟩),#[]⟩
noncomputable def t45 (a0:Nat) (a1:Str) (a2:Int) (a3:Nat) (P:Params):Obj:=⟨(.type "dict"),none,(.dict #[(E P "__module__" a0 (.str "tailrooms.errors" 365)),(E P "__qualname__" (a0+2) (.str a1 (a0+1))),(E P "__firstlineno__" (a0+4) (.int a2 (a0+3))),(E P "__init__" (a0+12) (.ref a3)),(E P "__static_attributes__" (a0+14) (.ref (a3+1)))] 5),#[]⟩
noncomputable def t46 (a0:Str) (a1:Nat) (a2:Str) (a3:Str) (a4:Str) (a5:Str) (a6:Str) (P:Params):Obj:=⟨(.type "tuple"),none,(.seq #[(.str a0 a1),(.str a2 (a1+1)),(.str a3 (a1+2)),(.str a4 (a1+3)),(.str a5 (a1+4)),(.str a6 (a1+5))] 0),#[]⟩
noncomputable def t47 (a0:Str) (a1:Str) (a2:Stmt) (a3:Stmt) (a4:Str) (a5:Nat) (a6:Nat) (P:Params):Obj:=⟨(.type "function"),none,(.func ⟨a0,a1,(aS a2),(.stmts (bS a2)),(sS a3),3,[],.none,.none,.none,(.str a4 a5),none,(.ref a6),.none,0⟩),#[]⟩
noncomputable def t48 (a0:Nat) (a1:Nat) (a2:Str) (a3:Nat) (P:Params):Obj:=⟨(.type "frame"),none,.plain,#[(some (.ref a0)),(some (.ref 3)),(some (.ref a1)),none,(some (.str a2 a3)),none,(some (.ref 0))]⟩
noncomputable def t49 (a0:Str) (a1:Nat) (a2:Str) (P:Params):Obj:=⟨(.type "tuple"),none,(.seq #[(.str a0 a1),(.str a2 (a1+1))] 0),#[]⟩
noncomputable def t50 (a0:Str) (a1:Nat) (a2:Nat) (a3:Nat) (a4:Nat) (P:Params):Obj:=⟨(.type "type"),none,(.cls ⟨a0,[(.ref 164)],[(.ref a1),(.ref 164),(.type "ValueError"),(.type "Exception"),(.type "BaseException"),(.type "object")],a2,a0,.true,[],[],.false,none,.false⟩),#[(some (.ref a3)),none,(some (.str a0 a4)),(some (.str a0 (a4+8))),(some (.builtin "ValueError.__new__")),(some (.bool .true))]⟩
noncomputable def t51 (a0:Str) (a1:Nat) (a2:Int) (a3:Nat) (a4:Int) (P:Params):Obj:=⟨(.type "code"),none,(.fields #[(.str a0 a1),(.str a0 (a1+1)),(.str "/claim/cut.py" (a1+2)),(.int a2 0),(.int 0 0),(.int 0 0),(.int 0 0),(.int 0 0),(.ref a3),(.bool .false),(.int 181 0),(.ref (a3+1)),.none,.none,.none,.none,(.int a4 0),(.int a2 0),(.str "/claim/cut.py" (a1+4))]),#[]⟩
noncomputable def t52 (a0:Int) (a1:Nat) (P:Params):Obj:=⟨.none,none,(.fields #[(.int a0 0),(.int 4 0),(.ref a1)]),#[]⟩
noncomputable def t53 (a0:Nat) (P:Params):Obj:=⟨(.type "super"),none,(.fields #[(.ref a0),(.ref a0),(.ref a0)]),#[]⟩
noncomputable def t54 (a0:Str) (a1:Nat) (a2:Str) (a3:Str) (P:Params):Obj:=⟨(.type "tuple"),none,(.seq #[(.str a0 a1),(.str a2 (a1+1)),(.str a3 (a1+2))] 0),#[]⟩
noncomputable def t55 (a0:Nat) (P:Params):Obj:=⟨(.type "builtin_function_or_method"),none,(.fields #[(.builtin "object.__init_subclass__"),(.ref a0)]),#[]⟩
noncomputable def t56 (a0:Str) (a1:Nat) (a2:Str) (a3:Str) (a4:Str) (a5:Str) (P:Params):Obj:=⟨(.type "tuple"),none,(.seq #[(.str a0 a1),(.str a2 (a1+1)),(.str a3 (a1+2)),(.str a4 (a1+3)),(.str a5 (a1+4))] 0),#[]⟩
noncomputable def t57 (a0:Str) (a1:Nat) (a2:Str) (a3:Int) (a4:Int) (a5:Nat) (a6:Int) (a7:Nat) (P:Params):Obj:=⟨(.type "code"),none,(.fields #[(.str a0 a1),(.str a2 (a1+1)),(.str "/claim/cut.py" (a1+2)),(.int a3 0),(.int a4 0),(.int 0 0),(.int 0 0),(.int 3 0),(.ref a5),(.bool .true),(.int 181 0),(.ref (a5+1)),.none,(.ref (a5+2)),(.ref (a5+3)),(.ref (a5+4)),(.int a6 0),(.int a3 0),(.str "/claim/cut.py" a7)]),#[]⟩
noncomputable def t58 (a0:Str) (a1:Nat) (a2:Str) (a3:Int) (a4:Int) (a5:Nat) (a6:Int) (P:Params):Obj:=⟨(.type "code"),none,(.fields #[(.str a0 a1),(.str a2 (a1+1)),(.str "/claim/cut.py" (a1+2)),(.int a3 0),(.int a4 0),(.int 0 0),(.int 0 0),(.int 3 0),(.ref a5),(.bool .true),(.int 181 0),(.ref (a5+1)),.none,.none,.none,(.ref (a5+2)),(.int a6 0),(.int a3 0),(.str "/claim/cut.py" (a1+4))]),#[]⟩
noncomputable def t59 (a0:Nat) (a1:Int) (a2:Str) (a3:Nat) (a4:Nat) (a5:Str) (a6:Nat) (a7:Nat) (P:Params):Obj:=⟨(.type "dict"),none,(.dict #[(E P "__module__" a0 (.str "tailrooms.errors" 365)),(E P "__firstlineno__" (a0+4) (.int a1 (a0+3))),(E P a2 a3 (.ref a4)),(E P a5 (a3+2) (.ref a6)),(E P "__doc__" (a3+3) .none)] a7),#[]⟩
noncomputable def t60 (a0:Str) (a1:Nat) (P:Params):Obj:=⟨(.type "tuple"),none,(.seq #[(.str a0 a1)] 0),#[]⟩
noncomputable def o0:O:=fun P=>⟨(.type "dict"),none,(.dict (c0 P (c1 P (c2 P (c3 P (c4 P []))))).toArray 34),#[]⟩
noncomputable def o1:O:=fun P=>⟨(.type "tuple"),none,(.seq #[] 0),#[]⟩
noncomputable def o2:O:=fun P=>⟨.none,none,(.fields (c5 P (c6 P (c7 P (c8 P [])))).toArray),#[]⟩
noncomputable def o3:O:=t51 "<module>" 182 1 11 185
noncomputable def o4:O:=t48 13 3 "__main__" 164
noncomputable def o5:O:=fun P=>⟨.none,none,(.fields #[]),#[]⟩
noncomputable def o6:O:=t60 "k" 190
noncomputable def o7:O:=t44 "_wall" "_wall" (f 0) (f 0)
noncomputable def o8:O:=t57 "_wall" 187 "_wall" 1 1 15 191 192
noncomputable def o9:O:=t47 "_wall" "_wall" (f 0) (f 0) "__main__" 164 20
noncomputable def o10:O:=t60 "thing" 199
noncomputable def o11:O:=t44 "is_whole" "is_whole" (f 2) (f 2)
noncomputable def o12:O:=t57 "is_whole" 196 "is_whole" 5 1 22 200 201
noncomputable def o13:O:=t47 "is_whole" "is_whole" (f 2) (f 2) "tailrooms.kinds" 194 27
noncomputable def o14:O:=t60 "thing" 206
noncomputable def o15:O:=t44 "is_key" "is_key" (f 3) (f 3)
noncomputable def o16:O:=t57 "is_key" 203 "is_key" 7 1 29 207 208
noncomputable def o17:O:=t47 "is_key" "is_key" (f 3) (f 3) "tailrooms.kinds" 194 34
noncomputable def o18:O:=t44 "is_name" "is_name" (f 4) (f 4)
noncomputable def o19:O:=t58 "is_name" 210 "is_name" 9 1 36 213
noncomputable def o20:O:=t47 "is_name" "is_name" (f 4) (f 4) "tailrooms.kinds" 194 39
noncomputable def o21:O:=t60 "thing" 219
noncomputable def o22:O:=t44 "is_size" "is_size" (f 5) (f 3)
noncomputable def o23:O:=t57 "is_size" 216 "is_size" 11 1 41 220 221
noncomputable def o24:O:=t47 "is_size" "is_size" (f 5) (f 3) "tailrooms.kinds" 194 46
noncomputable def o25:O:=t49 "many" 228 "wide"
noncomputable def o26:O:=t44 "rows_for" "rows_for" (f 7) (f 7)
noncomputable def o27:O:=t57 "rows_for" 225 "rows_for" 14 2 48 230 231
noncomputable def o28:O:=t47 "rows_for" "rows_for" (f 7) (f 7) "tailrooms.rows" 223 53
noncomputable def o29:O:=t49 "many" 236 "wide"
noncomputable def o30:O:=t44 "rows_behind" "rows_behind" (f 8) (f 8)
noncomputable def o31:O:=t57 "rows_behind" 233 "rows_behind" 16 2 55 238 239
noncomputable def o32:O:=t47 "rows_behind" "rows_behind" (f 8) (f 8) "tailrooms.rows" 223 60
noncomputable def o33:O:=t44 "cut_rows" "cut_rows" (f 9) (f 9)
noncomputable def o34:O:=t58 "cut_rows" 241 "cut_rows" 18 2 62 244
noncomputable def o35:O:=t47 "cut_rows" "cut_rows" (f 9) (f 9) "tailrooms.rows" 223 65
noncomputable def o36:O:=fun P=>⟨(.type "tuple"),none,(.seq #[(.str "counts" 252),(.str "wide" 253),(.str "more" 254),(.str "put" 255),(.str "left" 256),(.str "cheap" 257),(.str "room" 258),(.str "needed" 259)] 0),#[]⟩
noncomputable def o37:O:=t44 "greatest_spill" "greatest_spill" (f 11) (f 11)
noncomputable def o38:O:=t57 "greatest_spill" 249 "greatest_spill" 21 3 67 260 261
noncomputable def o39:O:=t47 "greatest_spill" "greatest_spill" (f 11) (f 11) "tailrooms.further" 247 72
noncomputable def o40:O:=fun P=>⟨(.type "tuple"),none,(.seq #[(.str "counts" 266),(.str "wide" 267),(.str "more" 268),(.str "put" 269),(.str "left" 270),(.str "many" 271),(.str "goes" 272)] 0),#[]⟩
noncomputable def o41:O:=t44 "least_spill" "least_spill" (f 12) (f 12)
noncomputable def o42:O:=t57 "least_spill" 263 "least_spill" 32 3 74 273 274
noncomputable def o43:O:=t47 "least_spill" "least_spill" (f 12) (f 12) "tailrooms.further" 247 79
noncomputable def o44:O:=t49 "many" 279 "wide"
noncomputable def o45:O:=t44 "gap" "gap" (f 13) (f 8)
noncomputable def o46:O:=t57 "gap" 276 "gap" 41 2 81 281 282
noncomputable def o47:O:=t47 "gap" "gap" (f 13) (f 8) "tailrooms.further" 247 86
noncomputable def o48:O:=t44 "cheap_rooms" "cheap_rooms" (f 14) (f 14)
noncomputable def o49:O:=t58 "cheap_rooms" 284 "cheap_rooms" 43 2 88 287
noncomputable def o50:O:=t47 "cheap_rooms" "cheap_rooms" (f 14) (f 14) "tailrooms.further" 247 91
noncomputable def o51:O:=t44 "spill_behind" "spill_behind" (f 15) (f 15)
noncomputable def o52:O:=t58 "spill_behind" 290 "spill_behind" 46 3 93 293
noncomputable def o53:O:=t47 "spill_behind" "spill_behind" (f 15) (f 15) "tailrooms.further" 247 96
noncomputable def o54:O:=t49 "key" 301 "many"
noncomputable def o55:O:=t44 "last_bits" "last_bits" (f 17) (f 17)
noncomputable def o56:O:=t57 "last_bits" 298 "last_bits" 49 2 98 303 304
noncomputable def o57:O:=t47 "last_bits" "last_bits" (f 17) (f 17) "tailrooms.bits" 296 103
noncomputable def o58:O:=t60 "rooms" 309
noncomputable def o59:O:=t44 "level" "level" (f 18) (f 18)
noncomputable def o60:O:=t57 "level" 306 "level" 51 1 105 310 311
noncomputable def o61:O:=t47 "level" "level" (f 18) (f 18) "tailrooms.bits" 296 110
noncomputable def o62:O:=t60 "rooms" 316
noncomputable def o63:O:=t44 "turn" "turn" (f 19) (f 19)
noncomputable def o64:O:=t57 "turn" 313 "turn" 53 1 112 317 318
noncomputable def o65:O:=t47 "turn" "turn" (f 19) (f 19) "tailrooms.bits" 296 117
noncomputable def o66:O:=t54 "room" 323 "rooms" "deep"
noncomputable def o67:O:=t44 "bits_for" "bits_for" (f 20) (f 20)
noncomputable def o68:O:=t57 "bits_for" 320 "bits_for" 55 2 119 326 327
noncomputable def o69:O:=t47 "bits_for" "bits_for" (f 20) (f 20) "tailrooms.bits" 296 124
noncomputable def o70:O:=t49 "key" 332 "rooms"
noncomputable def o71:O:=t44 "room_of" "room_of" (f 21) (f 21)
noncomputable def o72:O:=t57 "room_of" 329 "room_of" 60 2 126 334 335
noncomputable def o73:O:=t47 "room_of" "room_of" (f 21) (f 21) "tailrooms.bits" 296 131
noncomputable def o74:O:=t60 "rooms" 340
noncomputable def o75:O:=t44 "split_of" "split_of" (f 22) (f 22)
noncomputable def o76:O:=t57 "split_of" 337 "split_of" 62 1 133 341 342
noncomputable def o77:O:=t47 "split_of" "split_of" (f 22) (f 22) "tailrooms.bits" 296 138
noncomputable def o78:O:=t44 "spread" "spread" (f 24) (f 24)
noncomputable def o79:O:=t58 "spread" 346 "spread" 65 2 140 349
noncomputable def o80:O:=t47 "spread" "spread" (f 24) (f 24) "tailrooms.spread" 344 143
noncomputable def o81:O:=t44 "counts" "counts" (f 25) (f 25)
noncomputable def o82:O:=t58 "counts" 352 "counts" 70 2 145 355
noncomputable def o83:O:=t47 "counts" "counts" (f 25) (f 25) "tailrooms.spread" 344 148
noncomputable def o84:O:=t44 "spill" "spill" (f 26) (f 26)
noncomputable def o85:O:=t58 "spill" 358 "spill" 72 2 150 361
noncomputable def o86:O:=t47 "spill" "spill" (f 26) (f 26) "tailrooms.spread" 344 153
noncomputable def o87:O:=fun P=>⟨(.type "tuple"),none,(.seq #[(.type "ValueError")] 0),#[]⟩
noncomputable def o88:O:=fun P=>⟨(.type "builtin_function_or_method"),none,(.fields #[(.builtin "type.__prepare__"),(.type "type")]),#[]⟩
noncomputable def o89:O:=fun P=>⟨(.type "dict"),none,(.dict #[(E P "__module__" 374 (.str "tailrooms.errors" 365)),(E P "__qualname__" 376 (.str "TailError" 375)),(E P "__firstlineno__" 378 (.int 76 377)),(E P "__static_attributes__" 379 (.ref 162))] 4),#[]⟩
noncomputable def o90:O:=t51 "TailError" 369 76 158 372
noncomputable def o91:O:=t48 160 157 "tailrooms.errors" 365
noncomputable def o92:O:=t59 374 76 "__static_attributes__" 379 162 "__weakref__" 165 3
noncomputable def o93:O:=fun P=>⟨(.type "type"),none,(.cls ⟨"TailError",[(.type "ValueError")],[(.ref 164),(.type "ValueError"),(.type "Exception"),(.type "BaseException"),(.type "object")],163,"TailError",.true,[],[(.ref 184)],.false,none,.false⟩),#[(some (.ref 155)),none,(some (.str "TailError" 367)),(some (.str "TailError" 375)),(some (.builtin "ValueError.__new__")),(some (.bool .true))]⟩
noncomputable def o94:O:=fun P=>⟨(.type "getset_descriptor"),none,(.fields #[(.str "__weakref__" 380),(.ref 164),(.builtin "ExceptionGroup.__weakref__"),.none]),#[]⟩
noncomputable def o95:O:=t53 164
noncomputable def o96:O:=t55 164
noncomputable def o97:O:=fun P=>⟨(.type "tuple"),none,(.seq #[(.ref 164)] 0),#[]⟩
noncomputable def o98:O:=t45 392 "NoSize" 78 181
noncomputable def o99:O:=t52 80 180
noncomputable def o100:O:=t51 "NoSize" 387 78 171 390
noncomputable def o101:O:=t48 173 170 "tailrooms.errors" 365
noncomputable def o102:O:=t49 "self" 400 "thing"
noncomputable def o103:O:=t44 "__init__" "NoSize.__init__" (m 30 0) (m 30 0)
noncomputable def o104:O:=t57 "__init__" 397 "NoSize.__init__" 80 2 175 402 403
noncomputable def o105:O:=t47 "__init__" "NoSize.__init__" (m 30 0) (m 30 0) "tailrooms.errors" 365 180
noncomputable def o106:O:=t60 "thing" 405
noncomputable def o107:O:=t59 392 78 "__init__" 404 181 "__static_attributes__" 182 2
noncomputable def o108:O:=t50 "NoSize" 184 183 168 385
noncomputable def o109:O:=t53 184
noncomputable def o110:O:=t55 184
noncomputable def o111:O:=fun P=>⟨(.type "dict"),none,(.dict (c0 P (c1 P (c2 P (c3 P (c9 P []))))).toArray 33),#[]⟩
noncomputable def o112:O:=fun P=>⟨.none,none,(.fields (c5 P (c6 P (c7 P (c10 P [])))).toArray),#[]⟩
noncomputable def o113:O:=fun P=>⟨(.type "type"),none,(.cls ⟨"TailError",[(.type "ValueError")],[(.ref 164),(.type "ValueError"),(.type "Exception"),(.type "BaseException"),(.type "object")],163,"TailError",.true,[],[],.false,none,.false⟩),#[(some (.ref 155)),none,(some (.str "TailError" 367)),(some (.str "TailError" 375)),(some (.builtin "ValueError.__new__")),(some (.bool .true))]⟩
noncomputable def o114:O:=fun P=>⟨(.type "dict"),none,(.dict (c11 P (c1 P (c2 P (c3 P (c12 P (c13 P (c14 P []))))))).toArray 56),#[]⟩
noncomputable def o115:O:=fun P=>⟨.none,none,(.fields (c5 P (c6 P (c7 P (c8 P (c15 P (c16 P (c17 P (c18 P [])))))))).toArray),#[]⟩
noncomputable def o116:O:=fun P=>⟨(.type "type"),none,(.cls ⟨"TailError",[(.type "ValueError")],[(.ref 164),(.type "ValueError"),(.type "Exception"),(.type "BaseException"),(.type "object")],163,"TailError",.true,[],[(.ref 184),(.ref 203),(.ref 222),(.ref 241),(.ref 260)],.false,none,.false⟩),#[(some (.ref 155)),none,(some (.str "TailError" 367)),(some (.str "TailError" 375)),(some (.builtin "ValueError.__new__")),(some (.bool .true))]⟩
noncomputable def o117:O:=t45 417 "NoKey" 82 200
noncomputable def o118:O:=t52 84 199
noncomputable def o119:O:=t51 "NoKey" 412 82 190 415
noncomputable def o120:O:=t48 192 189 "tailrooms.errors" 365
noncomputable def o121:O:=t49 "self" 425 "key"
noncomputable def o122:O:=t44 "__init__" "NoKey.__init__" (m 31 0) (m 31 0)
noncomputable def o123:O:=t57 "__init__" 422 "NoKey.__init__" 84 2 194 427 428
noncomputable def o124:O:=t47 "__init__" "NoKey.__init__" (m 31 0) (m 31 0) "tailrooms.errors" 365 199
noncomputable def o125:O:=t60 "key" 430
noncomputable def o126:O:=t59 417 82 "__init__" 429 200 "__static_attributes__" 201 2
noncomputable def o127:O:=t50 "NoKey" 203 202 187 410
noncomputable def o128:O:=t53 203
noncomputable def o129:O:=t55 203
noncomputable def o130:O:=t45 442 "NoThing" 86 219
noncomputable def o131:O:=t52 88 218
noncomputable def o132:O:=t51 "NoThing" 437 86 209 440
noncomputable def o133:O:=t48 211 208 "tailrooms.errors" 365
noncomputable def o134:O:=t49 "self" 450 "thing"
noncomputable def o135:O:=t44 "__init__" "NoThing.__init__" (m 32 0) (m 30 0)
noncomputable def o136:O:=t57 "__init__" 447 "NoThing.__init__" 88 2 213 452 453
noncomputable def o137:O:=t47 "__init__" "NoThing.__init__" (m 32 0) (m 30 0) "tailrooms.errors" 365 218
noncomputable def o138:O:=t60 "thing" 455
noncomputable def o139:O:=t59 442 86 "__init__" 454 219 "__static_attributes__" 220 2
noncomputable def o140:O:=t50 "NoThing" 222 221 206 435
noncomputable def o141:O:=t53 222
noncomputable def o142:O:=t55 222
noncomputable def o143:O:=t45 467 "NoRoom" 90 238
noncomputable def o144:O:=t52 92 237
noncomputable def o145:O:=t51 "NoRoom" 462 90 228 465
noncomputable def o146:O:=t48 230 227 "tailrooms.errors" 365
noncomputable def o147:O:=t49 "self" 475 "number"
noncomputable def o148:O:=t44 "__init__" "NoRoom.__init__" (m 33 0) (m 33 0)
noncomputable def o149:O:=t57 "__init__" 472 "NoRoom.__init__" 92 2 232 477 478
noncomputable def o150:O:=t47 "__init__" "NoRoom.__init__" (m 33 0) (m 33 0) "tailrooms.errors" 365 237
noncomputable def o151:O:=t60 "number" 480
noncomputable def o152:O:=t59 467 90 "__init__" 479 238 "__static_attributes__" 239 2
noncomputable def o153:O:=t50 "NoRoom" 241 240 225 460
noncomputable def o154:O:=t53 241
noncomputable def o155:O:=t55 241
noncomputable def o156:O:=t45 492 "Full" 94 257
noncomputable def o157:O:=t52 96 256
noncomputable def o158:O:=t51 "Full" 487 94 247 490
noncomputable def o159:O:=t48 249 246 "tailrooms.errors" 365
noncomputable def o160:O:=t49 "self" 500 "many"
noncomputable def o161:O:=t44 "__init__" "Full.__init__" (m 34 0) (m 34 0)
noncomputable def o162:O:=t57 "__init__" 497 "Full.__init__" 96 2 251 502 503
noncomputable def o163:O:=t47 "__init__" "Full.__init__" (m 34 0) (m 34 0) "tailrooms.errors" 365 256
noncomputable def o164:O:=t60 "many" 505
noncomputable def o165:O:=t59 492 94 "__init__" 504 257 "__static_attributes__" 258 2
noncomputable def o166:O:=t50 "Full" 260 259 244 485
noncomputable def o167:O:=t53 260
noncomputable def o168:O:=t55 260
noncomputable def o169:O:=t49 "wide" 515 "fill"
noncomputable def o170:O:=t44 "ask_sizes" "ask_sizes" (f 36) (f 36)
noncomputable def o171:O:=t57 "ask_sizes" 512 "ask_sizes" 99 2 263 517 518
noncomputable def o172:O:=t47 "ask_sizes" "ask_sizes" (f 36) (f 36) "tailrooms.asks" 510 268
noncomputable def o173:O:=t60 "key" 523
noncomputable def o174:O:=t44 "ask_key" "ask_key" (f 37) (f 37)
noncomputable def o175:O:=t57 "ask_key" 520 "ask_key" 104 1 270 524 525
noncomputable def o176:O:=t47 "ask_key" "ask_key" (f 37) (f 37) "tailrooms.asks" 510 275
noncomputable def o177:O:=t49 "key" 530 "thing"
noncomputable def o178:O:=t44 "ask_entry" "ask_entry" (f 38) (f 38)
noncomputable def o179:O:=t57 "ask_entry" 527 "ask_entry" 107 2 277 532 533
noncomputable def o180:O:=t47 "ask_entry" "ask_entry" (f 38) (f 38) "tailrooms.asks" 510 282
noncomputable def o181:O:=t49 "count" 542 "fill"
noncomputable def o182:O:=t44 "rooms_for" "rooms_for" (f 41) (f 41)
noncomputable def o183:O:=t57 "rooms_for" 539 "rooms_for" 113 2 284 544 545
noncomputable def o184:O:=t47 "rooms_for" "rooms_for" (f 41) (f 41) "tailrooms.table" 535 289
noncomputable def o185:O:=fun P=>⟨(.type "dict"),none,(.dict (c19 P (c20 P (c21 P []))).toArray 19),#[]⟩
noncomputable def o186:O:=fun P=>⟨.none,none,(.fields (c22 P (c23 P (c24 P []))).toArray),#[]⟩
noncomputable def o187:O:=t51 "Table" 549 115 294 552
noncomputable def o188:O:=t48 296 293 "tailrooms.table" 535
noncomputable def o189:O:=t54 "self" 562 "wide" "fill"
noncomputable def o190:O:=t44 "__init__" "Table.__init__" (m 42 0) (m 42 0)
noncomputable def o191:O:=t57 "__init__" 559 "Table.__init__" 117 3 298 565 566
noncomputable def o192:O:=t47 "__init__" "Table.__init__" (m 42 0) (m 42 0) "tailrooms.table" 535 303
noncomputable def o193:O:=t46 "self" 571 "key" "thing" "ahead" "room" "new"
noncomputable def o194:O:=t44 "put" "Table.put" (m 42 1) (m 42 1)
noncomputable def o195:O:=t57 "put" 568 "Table.put" 123 3 305 577 578
noncomputable def o196:O:=t47 "put" "Table.put" (m 42 1) (m 42 1) "tailrooms.table" 535 310
noncomputable def o197:O:=t49 "self" 583 "key"
noncomputable def o198:O:=t44 "drop" "Table.drop" (m 42 2) (m 42 2)
noncomputable def o199:O:=t57 "drop" 580 "Table.drop" 134 2 312 585 586
noncomputable def o200:O:=t47 "drop" "Table.drop" (m 42 2) (m 42 2) "tailrooms.table" 535 317
noncomputable def o201:O:=t49 "self" 591 "key"
noncomputable def o202:O:=t44 "find" "Table.find" (m 42 3) (m 42 2)
noncomputable def o203:O:=t57 "find" 588 "Table.find" 137 2 319 593 594
noncomputable def o204:O:=t47 "find" "Table.find" (m 42 3) (m 42 2) "tailrooms.table" 535 324
noncomputable def o205:O:=t49 "self" 599 "key"
noncomputable def o206:O:=t44 "looks" "Table.looks" (m 42 4) (m 42 2)
noncomputable def o207:O:=t57 "looks" 596 "Table.looks" 140 2 326 601 602
noncomputable def o208:O:=t47 "looks" "Table.looks" (m 42 4) (m 42 2) "tailrooms.table" 535 331
noncomputable def o209:O:=t60 "self" 607
noncomputable def o210:O:=t44 "count" "Table.count" (m 42 5) (m 42 5)
noncomputable def o211:O:=t57 "count" 604 "Table.count" 143 1 333 608 609
noncomputable def o212:O:=t47 "count" "Table.count" (m 42 5) (m 42 5) "tailrooms.table" 535 338
noncomputable def o213:O:=t60 "self" 614
noncomputable def o214:O:=t44 "rooms" "Table.rooms" (m 42 6) (m 42 6)
noncomputable def o215:O:=t57 "rooms" 611 "Table.rooms" 146 1 340 615 616
noncomputable def o216:O:=t47 "rooms" "Table.rooms" (m 42 6) (m 42 6) "tailrooms.table" 535 345
noncomputable def o217:O:=t60 "self" 621
noncomputable def o218:O:=t44 "entries" "Table.entries" (m 42 7) (m 42 7)
noncomputable def o219:O:=t57 "entries" 618 "Table.entries" 149 1 347 622 623
noncomputable def o220:O:=t47 "entries" "Table.entries" (m 42 7) (m 42 7) "tailrooms.table" 535 352
noncomputable def o221:O:=t44 "room" "Table.room" (m 42 8) (m 42 8)
noncomputable def o222:O:=t58 "room" 625 "Table.room" 152 2 354 628
noncomputable def o223:O:=t47 "room" "Table.room" (m 42 8) (m 42 8) "tailrooms.table" 535 357
noncomputable def o224:O:=t60 "self" 634
noncomputable def o225:O:=t44 "spill" "Table.spill" (m 42 9) (m 42 9)
noncomputable def o226:O:=t57 "spill" 631 "Table.spill" 158 1 359 635 636
noncomputable def o227:O:=t47 "spill" "Table.spill" (m 42 9) (m 42 9) "tailrooms.table" 535 364
noncomputable def o228:O:=t60 "self" 641
noncomputable def o229:O:=t44 "longest" "Table.longest" (m 42 10) (m 42 10)
noncomputable def o230:O:=t57 "longest" 638 "Table.longest" 161 1 366 642 643
noncomputable def o231:O:=t47 "longest" "Table.longest" (m 42 10) (m 42 10) "tailrooms.table" 535 371
noncomputable def o232:O:=t60 "self" 648
noncomputable def o233:O:=t44 "twin" "Table.twin" (m 42 11) (m 42 10)
noncomputable def o234:O:=t57 "twin" 645 "Table.twin" 164 1 373 649 650
noncomputable def o235:O:=t47 "twin" "Table.twin" (m 42 11) (m 42 10) "tailrooms.table" 535 378
noncomputable def o236:O:=t49 "self" 655 "key"
noncomputable def o237:O:=t44 "ask_standing" "Table.ask_standing" (m 42 12) (m 42 2)
noncomputable def o238:O:=t57 "ask_standing" 652 "Table.ask_standing" 167 2 380 657 658
noncomputable def o239:O:=t47 "ask_standing" "Table.ask_standing" (m 42 12) (m 42 2) "tailrooms.table" 535 385
noncomputable def o240:O:=t49 "self" 663 "rooms"
noncomputable def o241:O:=t44 "spread_keys" "Table.spread_keys" (m 42 13) (m 42 13)
noncomputable def o242:O:=t57 "spread_keys" 660 "Table.spread_keys" 170 2 387 665 666
noncomputable def o243:O:=t47 "spread_keys" "Table.spread_keys" (m 42 13) (m 42 13) "tailrooms.table" 535 392
noncomputable def o244:O:=t60 "self" 671
noncomputable def o245:O:=t44 "room_counts" "Table.room_counts" (m 42 14) (m 42 14)
noncomputable def o246:O:=t57 "room_counts" 668 "Table.room_counts" 173 1 394 672 673
noncomputable def o247:O:=t47 "room_counts" "Table.room_counts" (m 42 14) (m 42 14) "tailrooms.table" 535 399
noncomputable def o248:O:=t54 "fill" 675 "held" "wide"
noncomputable def o249:O:=fun P=>⟨(.type "dict"),none,(.dict (c25 P (c26 P (c27 P []))).toArray 4),#[]⟩
noncomputable def o250:O:=fun P=>⟨(.type "type"),none,(.cls ⟨"Table",[(.type "object")],[(.ref 403),(.type "object")],402,"Table",.true,[],[],.false,none,.false⟩),#[none,none,(some (.str "Table" 547)),(some (.str "Table" 555)),(some (.builtin "object.__new__")),(some (.bool .true))]⟩
noncomputable def o251:O:=fun P=>⟨(.type "getset_descriptor"),none,(.fields #[(.str "__dict__" 679),(.ref 403),(.builtin "function.__dict__"),(.builtin "function.__dict__#set")]),#[]⟩
noncomputable def o252:O:=fun P=>⟨(.type "getset_descriptor"),none,(.fields #[(.str "__weakref__" 681),(.ref 403),(.builtin "ExceptionGroup.__weakref__"),.none]),#[]⟩
noncomputable def o253:O:=t53 403
noncomputable def o254:O:=t55 403
noncomputable def o255:O:=t46 "keys" 691 "wide" "fill" "more" "rooms" "own"
noncomputable def o256:O:=t44 "outlook" "outlook" (f 44) (f 44)
noncomputable def o257:O:=t57 "outlook" 688 "outlook" 176 4 408 697 698
noncomputable def o258:O:=t47 "outlook" "outlook" (f 44) (f 44) "tailrooms.outlook" 686 413
noncomputable def o259:O:=t44 "_law_open" "_law_open" (f 46) (f 46)
noncomputable def o260:O:=t58 "_law_open" 702 "_law_open" 181 2 415 705
noncomputable def o261:O:=t47 "_law_open" "_law_open" (f 46) (f 46) "law_tailrooms_k65_outlook_by_tables" 700 418
noncomputable def o262:O:=t56 "_law_hand" 711 "_law_many" "_law_got" "_law_k" "_law_number"
noncomputable def o263:O:=t44 "_law_draw" "_law_draw" (f 47) (f 47)
noncomputable def o264:O:=t57 "_law_draw" 708 "_law_draw" 190 2 420 716 717
noncomputable def o265:O:=t47 "_law_draw" "_law_draw" (f 47) (f 47) "law_tailrooms_k65_outlook_by_tables" 700 425
noncomputable def o266:O:=fun P=>⟨(.type "tuple"),none,(.seq #[(.str "_law_hand" 722),(.str "_law_many" 723),(.str "_law_number" 724),(.str "_law_k" 725)] 0),#[]⟩
noncomputable def o267:O:=t44 "_law_far" "_law_far" (f 48) (f 48)
noncomputable def o268:O:=t57 "_law_far" 719 "_law_far" 201 2 427 726 727
noncomputable def o269:O:=t47 "_law_far" "_law_far" (f 48) (f 48) "law_tailrooms_k65_outlook_by_tables" 700 432
noncomputable def o270:O:=t54 "_law_many" 732 "_law_number" "_law_k"
noncomputable def o271:O:=t44 "_law_power" "_law_power" (f 49) (f 49)
noncomputable def o272:O:=t57 "_law_power" 729 "_law_power" 208 1 434 735 736
noncomputable def o273:O:=t47 "_law_power" "_law_power" (f 49) (f 49) "law_tailrooms_k65_outlook_by_tables" 700 439
noncomputable def o274:O:=t54 "_law_hand" 741 "_law_way" "_law_low"
noncomputable def o275:O:=t44 "_law_key" "_law_key" (f 50) (f 50)
noncomputable def o276:O:=t57 "_law_key" 738 "_law_key" 213 1 441 744 745
noncomputable def o277:O:=t47 "_law_key" "_law_key" (f 50) (f 50) "law_tailrooms_k65_outlook_by_tables" 700 446
noncomputable def o278:O:=t56 "_law_hand" 750 "_law_many" "_law_keys_here" "_law_k" "_law_key_here"
noncomputable def o279:O:=t44 "_law_keys" "_law_keys" (f 51) (f 51)
noncomputable def o280:O:=t57 "_law_keys" 747 "_law_keys" 225 2 448 755 756
noncomputable def o281:O:=t47 "_law_keys" "_law_keys" (f 51) (f 51) "law_tailrooms_k65_outlook_by_tables" 700 453
noncomputable def o282:O:=fun P=>⟨(.type "tuple"),none,(.seq #[(.str "_law_key_here" 761),(.str "_law_rooms" 762),(.str "_law_two" 763),(.str "_law_low" 764)] 0),#[]⟩
noncomputable def o283:O:=t44 "_law_room" "_law_room" (f 52) (f 52)
noncomputable def o284:O:=t57 "_law_room" 758 "_law_room" 233 2 455 765 766
noncomputable def o285:O:=t47 "_law_room" "_law_room" (f 52) (f 52) "law_tailrooms_k65_outlook_by_tables" 700 460
noncomputable def o286:O:=t44 "_law_needs" "_law_needs" (f 53) (f 53)
noncomputable def o287:O:=t58 "_law_needs" 768 "_law_needs" 241 2 462 771
noncomputable def o288:O:=t47 "_law_needs" "_law_needs" (f 53) (f 53) "law_tailrooms_k65_outlook_by_tables" 700 465
noncomputable def o289:O:=t44 "_law_greatest" "_law_greatest" (f 54) (f 54)
noncomputable def o290:O:=t58 "_law_greatest" 774 "_law_greatest" 243 3 467 777
noncomputable def o291:O:=t47 "_law_greatest" "_law_greatest" (f 54) (f 54) "law_tailrooms_k65_outlook_by_tables" 700 470
noncomputable def o292:O:=t44 "_law_least" "_law_least" (f 55) (f 55)
noncomputable def o293:O:=t58 "_law_least" 780 "_law_least" 255 3 472 783
noncomputable def o294:O:=t47 "_law_least" "_law_least" (f 55) (f 55) "law_tailrooms_k65_outlook_by_tables" 700 475
noncomputable def o295:O:=t56 "_law_keys_here" 789 "_law_wide" "_law_fill" "_law_table_here" "_law_key_here"
noncomputable def o296:O:=t44 "_law_table" "_law_table" (f 56) (f 56)
noncomputable def o297:O:=t57 "_law_table" 786 "_law_table" 259 3 477 794 795
noncomputable def o298:O:=t47 "_law_table" "_law_table" (f 56) (f 56) "law_tailrooms_k65_outlook_by_tables" 700 482
noncomputable def o299:O:=fun P=>⟨(.type "dict"),none,(.dict (c28 P (c1 P (c2 P (c3 P (c12 P (c29 P [])))))).toArray 44),#[]⟩
noncomputable def o300:O:=fun P=>⟨.none,none,(.fields (c5 P (c6 P (c7 P (c8 P (c15 P (c30 P [])))))).toArray),#[]⟩
noncomputable def o301:O:=fun P=>⟨(.type "dict"),none,(.dict (c0 P (c1 P (c2 P (c3 P (c31 P []))))).toArray 35),#[]⟩
noncomputable def o302:O:=fun P=>⟨.none,none,(.fields (c5 P (c6 P (c7 P (c8 P (c32 P []))))).toArray),#[]⟩
noncomputable def o303:O:=fun P=>⟨(.type "type"),none,(.cls ⟨"TailError",[(.type "ValueError")],[(.ref 164),(.type "ValueError"),(.type "Exception"),(.type "BaseException"),(.type "object")],163,"TailError",.true,[],[(.ref 184),(.ref 203)],.false,none,.false⟩),#[(some (.ref 155)),none,(some (.str "TailError" 367)),(some (.str "TailError" 375)),(some (.builtin "ValueError.__new__")),(some (.bool .true))]⟩
noncomputable def o304:O:=fun P=>⟨(.type "dict"),none,(.dict (c0 P (c1 P (c2 P (c3 P (c33 P []))))).toArray 37),#[]⟩
noncomputable def o305:O:=fun P=>⟨.none,none,(.fields (c5 P (c6 P (c7 P (c8 P (c34 P []))))).toArray),#[]⟩
noncomputable def o306:O:=fun P=>⟨(.type "type"),none,(.cls ⟨"TailError",[(.type "ValueError")],[(.ref 164),(.type "ValueError"),(.type "Exception"),(.type "BaseException"),(.type "object")],163,"TailError",.true,[],[(.ref 184),(.ref 203),(.ref 222),(.ref 241)],.false,none,.false⟩),#[(some (.ref 155)),none,(some (.str "TailError" 367)),(some (.str "TailError" 375)),(some (.builtin "ValueError.__new__")),(some (.bool .true))]⟩
noncomputable def o307:O:=fun P=>⟨(.type "dict"),none,(.dict (c0 P (c1 P (c2 P (c3 P (c35 P []))))).toArray 36),#[]⟩
noncomputable def o308:O:=fun P=>⟨.none,none,(.fields (c5 P (c6 P (c7 P (c8 P (c36 P []))))).toArray),#[]⟩
noncomputable def o309:O:=fun P=>⟨(.type "type"),none,(.cls ⟨"TailError",[(.type "ValueError")],[(.ref 164),(.type "ValueError"),(.type "Exception"),(.type "BaseException"),(.type "object")],163,"TailError",.true,[],[(.ref 184),(.ref 203),(.ref 222)],.false,none,.false⟩),#[(some (.ref 155)),none,(some (.str "TailError" 367)),(some (.str "TailError" 375)),(some (.builtin "ValueError.__new__")),(some (.bool .true))]⟩
noncomputable def o310:O:=fun P=>⟨(.type "dict"),none,(.dict (c0 P (c1 P (c2 P (c3 P [])))).toArray 32),#[]⟩
noncomputable def o311:O:=fun P=>⟨.none,none,(.fields (c5 P (c6 P (c7 P (c37 P [])))).toArray),#[]⟩
noncomputable def o312:O:=fun P=>⟨(.type "dict"),none,(.dict (c11 P (c1 P (c2 P (c3 P (c12 P (c13 P (c14 P (c38 P [])))))))).toArray 59),#[]⟩
noncomputable def o313:O:=fun P=>⟨.none,none,(.fields (c5 P (c6 P (c7 P (c8 P (c15 P (c16 P (c17 P (c39 P [])))))))).toArray),#[]⟩
noncomputable def o314:O:=t46 "_law_keys_here" 800 "_law_put" "_law_more" "_law_room_here" "_law_one" "_law_k"
noncomputable def o315:O:=t44 "_law_filled" "_law_filled" (f 57) (f 57)
noncomputable def o316:O:=t57 "_law_filled" 797 "_law_filled" 264 2 484 806 807
noncomputable def o317:O:=t47 "_law_filled" "_law_filled" (f 57) (f 57) "law_tailrooms_k65_outlook_by_tables" 700 489
noncomputable def o318:O:=t44 "_law_right" "_law_right" (f 58) (f 58)
noncomputable def o319:O:=t58 "_law_right" 809 "_law_right" 274 4 491 812
noncomputable def o320:O:=t47 "_law_right" "_law_right" (f 58) (f 58) "law_tailrooms_k65_outlook_by_tables" 700 494
noncomputable def o321:O:=fun P=>⟨(.type "tuple"),none,(.seq #[(.str "_law_script" 818),(.str "_law_place" 819),(.str "_law_hand" 820),(.str "_law_wide" 821),(.str "_law_fill" 822),(.str "_law_many" 823),(.str "_law_first" 824),(.str "_law_every" 825)] 0),#[]⟩
noncomputable def o322:O:=t44 "law" "law" (f 59) (f 59)
noncomputable def o323:O:=t57 "law" 815 "law" 295 1 496 826 827
noncomputable def o324:O:=t47 "law" "law" (f 59) (f 59) "law_tailrooms_k65_outlook_by_tables" 700 501
noncomputable def o325:O:=fun P=>⟨(.type "dict"),none,(.dict (c28 P (c1 P (c2 P (c3 P (c12 P (c40 P [])))))).toArray 43),#[]⟩
noncomputable def o326:O:=fun P=>⟨(.type "dict"),none,(.dict (c19 P (c41 P [])).toArray 14),#[]⟩
noncomputable def o327:O:=fun P=>⟨.none,none,(.fields (c22 P (c42 P [])).toArray),#[]⟩
noncomputable def o328:O:=fun P=>⟨.none,none,(.fields (c5 P (c6 P (c7 P (c8 P (c15 P (c43 P [])))))).toArray),#[]⟩
noncomputable def qB (_:Params→BT):Bool:=true
noncomputable def qH (_:Params→Heap):Bool:=true
noncomputable def qP (_:Program):Bool:=true
noncomputable def qS (_:List Stmt):Bool:=true
noncomputable def c61:B:=n o14 (n o5 (w o5) u) (n o51 (w o5) u)
noncomputable def c62:B:=n o24 (n o42 (w o79) u) (n o61 (w o1) u)
noncomputable def c63:B:=n o19 (n o37 (w o74) u) (n o56 (w o96) u)
noncomputable def c64:B:=n o1 (n o47 (w o5) u) (n o1 (w o107) u)
noncomputable def c65:B:=n o17 (n o1 (w o72) u) (n o5 (w o92) u)
noncomputable def c66:B:=n o1 (n o44 (w o81) u) (n o1 (w o103) u)
noncomputable def c67:B:=n o21 (n o5 (w o77) u) (n o58 (w o1) u)
noncomputable def c68:B:=n o30 (n o49 (w o87) u) (w o67)
noncomputable def c69:B:=n o15 (n o34 (w o1) u) (n o53 (w o91) u)
noncomputable def c70:B:=n o5 (n o1 (w o1) u) (n o5 (w o102) u)
noncomputable def c71:B:=n o1 (n o39 (w o75) u) (n o1 (w o88) u)
noncomputable def c72:B:=n o29 (n o5 (w o85) u) (n o66 (w o109) u)
noncomputable def c73:B:=n o5 (n o36 (w o1) u) (n o1 (w o94) u)
noncomputable def c74:B:=n o27 (n o45 (w o83) u) (n o64 (w o105) u)
noncomputable def c75:B:=n o22 (n o1 (w o5) u) (n o59 (w o100) u)
noncomputable def c76:B:=n o32 (n o1 (w o89) u) (w o69)
noncomputable def c77:B:=n o1 (n o33 (w o70) u) (n o52 (w o90) u)
noncomputable def c78:B:=n o1 (n o43 (w o80) u) (n o1 (w o5) u)
noncomputable def c79:B:=n o20 (n o38 (w o1) u) (n o57 (w o97) u)
noncomputable def c80:B:=n o5 (n o1 (w o84) u) (n o5 (w o108) u)
noncomputable def c81:B:=n o1 (n o5 (w o73) u) (n o54 (w o93) u)
noncomputable def c82:B:=n o26 (n o1 (w o82) u) (n o63 (w o104) u)
noncomputable def c83:B:=n o1 (n o40 (w o1) u) (n o1 (w o99) u)
noncomputable def c84:B:=n o31 (n o50 (w o88) u) (w o68)
noncomputable def c85:B:=n o16 (n o35 (w o71) u) (n o1 (w o1) u)
noncomputable def c86:B:=n o25 (n o5 (w o5) u) (n o62 (w o1) u)
noncomputable def c87:B:=n o5 (n o1 (w o76) u) (n o5 (w o98) u)
noncomputable def c88:B:=n o1 (n o48 (w o86) u) (n o1 (w o110) u)
noncomputable def c89:B:=n o18 (n o1 (w o5) u) (n o55 (w o95) u)
noncomputable def c90:B:=n o28 (n o46 (w o1) u) (n o65 (w o106) u)
noncomputable def c91:B:=n o23 (n o41 (w o78) u) (n o60 (w o101) u)
noncomputable def c92:B:=n o1 (n o5 (w o1) u) (w o1)
noncomputable def X_tree_229:Params→BT:=(n boot_o_0 (n boot_o_1 (n o0 (n boot_o_7 (n o1 c61 c62) (n o5 c63 c64)) (n o1 (n o7 c65 c66) (n o12 c67 c68))) (n boot_o_5 (n boot_o_9 (n o6 c69 c70) (n o1 c71 c72)) (n o3 (n o9 c73 c74) (n o1 c75 c76)))) (n boot_o_2 (n boot_o_4 (n boot_o_8 (n o5 c77 c78) (n o10 c79 c80)) (n o2 (n o8 c81 c82) (n o13 c83 c84))) (n boot_o_6 (n boot_o_10 (n o1 c85 c86) (n o11 c87 c88)) (n o4 (n o1 c89 c90) (n o5 c91 c92)))))
noncomputable def c93:B:=n o24 (n o42 (w o79) u) (w o61)
noncomputable def c94:B:=n o1 (n o47 (w o5) u) (w o1)
noncomputable def c95:B:=n o1 (n o44 (w o81) u) (w o1)
noncomputable def c96:B:=n o21 (n o5 (w o77) u) (w o58)
noncomputable def c97:B:=n o5 (n o1 (w o1) u) (w o5)
noncomputable def c98:B:=n o1 (n o39 (w o75) u) (w o1)
noncomputable def c99:B:=n o29 (n o5 (w o85) u) (w o66)
noncomputable def c100:B:=n o27 (n o45 (w o83) u) (w o64)
noncomputable def c101:B:=n o22 (n o1 (w o5) u) (w o59)
noncomputable def c102:B:=n o1 (n o43 (w o80) u) (w o1)
noncomputable def c103:B:=n o20 (n o38 (w o1) u) (w o57)
noncomputable def c104:B:=n o5 (n o1 (w o84) u) (w o5)
noncomputable def c105:B:=n o1 (n o5 (w o73) u) (n o54 (w o113) u)
noncomputable def c106:B:=n o26 (n o1 (w o82) u) (w o63)
noncomputable def c107:B:=n o1 (n o40 (w o1) u) (w o1)
noncomputable def c108:B:=n o25 (n o5 (w o5) u) (w o62)
noncomputable def c109:B:=n o5 (n o1 (w o76) u) (w o5)
noncomputable def c110:B:=n o1 (n o48 (w o86) u) (w o1)
noncomputable def c111:B:=n o28 (n o46 (w o1) u) (w o65)
noncomputable def c112:B:=n o23 (n o41 (w o78) u) (w o60)
noncomputable def X_tree_207:Params→BT:=(n boot_o_0 (n boot_o_1 (n o111 (n boot_o_7 (n o1 c61 c93) (n o5 c63 c94)) (n o1 (n o7 c65 c95) (n o12 c96 c68))) (n boot_o_5 (n boot_o_9 (n o6 c69 c97) (n o1 c98 c99)) (n o3 (n o9 c73 c100) (n o1 c101 c76)))) (n boot_o_2 (n boot_o_4 (n boot_o_8 (n o5 c77 c102) (n o10 c103 c104)) (n o112 (n o8 c105 c106) (n o13 c107 c84))) (n boot_o_6 (n boot_o_10 (n o1 c85 c108) (n o11 c109 c110)) (n o4 (n o1 c89 c111) (n o5 c112 c92)))))
noncomputable def c113:B:=n o14 (n o5 (n o5 (w o161) (w o1)) (n o118 (w o1) (w o277))) (n o51 (n o5 (w o1) (w o1)) (n o141 (w o218) (w o295)))
noncomputable def c114:B:=n o24 (n o42 (n o79 (w o5) (w o246)) (n o88 (w o209) (w o5))) (n o61 (n o1 (w o191) (w o267)) (n o151 (w o5) u))
noncomputable def c115:B:=n o19 (n o37 (n o74 (w o1) (w o241)) (n o123 (w o5) (w o1))) (n o56 (n o96 (w o186) (w o1)) (n o146 (w o1) u))
noncomputable def c116:B:=n o1 (n o47 (n o5 (w o177) (w o254)) (n o134 (w o1) (w o291))) (n o1 (n o107 (w o196) (w o272)) (n o1 (w o232) u))
noncomputable def c117:B:=n o17 (n o1 (n o72 (w o165) (w o1)) (n o5 (w o202) (w o1))) (n o5 (n o92 (w o1) (w o261)) (n o143 (w o5) (w o298)))
noncomputable def c118:B:=n o1 (n o44 (n o81 (w o175) (w o250)) (n o132 (w o212) (w o1))) (n o1 (n o103 (w o193) (w o5)) (n o155 (w o230) u))
noncomputable def c119:B:=n o21 (n o5 (n o77 (w o170) (w o5)) (n o127 (w o207) (w o283))) (n o58 (n o1 (w o5) (w o1)) (n o1 (w o225) u))
noncomputable def c120:B:=n o30 (n o49 (n o87 (w o180) (w o1)) (n o137 (w o1) (w o293))) (n o67 (n o97 (w o1) (w o274)) (n o1 (w o235) u))
noncomputable def c121:B:=n o15 (n o34 (n o1 (w o163) (w o238)) (n o120 (w o201) (w o5))) (n o53 (n o91 (w o183) (w o259)) (n o97 (w o220) (w o296)))
noncomputable def c122:B:=n o5 (n o1 (n o1 (w o1) (w o248)) (n o1 (w o210) (w o287))) (n o5 (n o102 (w o1) (w o269)) (n o153 (w o1) u))
noncomputable def c123:B:=n o1 (n o39 (n o75 (w o169) (w o243)) (n o125 (w o1) (w o282))) (n o1 (n o88 (w o188) (w o264)) (n o5 (w o224) u))
noncomputable def c124:B:=n o29 (n o5 (n o85 (w o178) (w o5)) (n o135 (w o215) (w o5))) (n o66 (n o109 (w o5) (w o1)) (n o158 (w o233) u))
noncomputable def c125:B:=n o5 (n o36 (n o1 (w o167) (w o240)) (n o1 (w o204) (w o280))) (n o1 (n o94 (w o185) (w o5)) (n o144 (w o222) u))
noncomputable def c126:B:=n o27 (n o45 (n o83 (w o1) (w o252)) (n o1 (w o5) (w o289))) (n o64 (n o105 (w o194) (w o1)) (n o88 (w o1) u))
noncomputable def c127:B:=n o22 (n o1 (n o5 (w o172) (w o1)) (n o129 (w o1) (w o285))) (n o59 (n o100 (w o1) (w o266)) (n o149 (w o227) u))
noncomputable def c128:B:=n o32 (n o1 (n o89 (w o5) (w o257)) (n o139 (w o217) (w o1))) (n o69 (n o117 (w o199) (w o275)) (n o160 (w o5) u))
noncomputable def c129:B:=n o1 (n o33 (n o70 (w o162) (w o237)) (n o119 (w o5) (w o1))) (n o52 (n o90 (w o182) (w o5)) (n o142 (w o219) (w o1)))
noncomputable def c130:B:=n o1 (n o43 (n o80 (w o173) (w o247)) (n o130 (w o1) (w o286))) (n o1 (n o5 (w o192) (w o268)) (n o152 (w o228) u))
noncomputable def c131:B:=n o20 (n o38 (n o1 (w o5) (w o242)) (n o124 (w o205) (w o5))) (n o57 (n o97 (w o187) (w o263)) (n o1 (w o5) u))
noncomputable def c132:B:=n o5 (n o1 (n o84 (w o1) (w o1)) (n o1 (w o214) (w o1))) (n o5 (n o108 (w o1) (w o273)) (n o157 (w o1) u))
noncomputable def c133:B:=n o1 (n o5 (n o73 (w o166) (w o5)) (n o121 (w o203) (w o279))) (n o54 (n o116 (w o88) (w o1)) (n o1 (w o221) u))
noncomputable def c134:B:=n o26 (n o1 (n o82 (w o176) (w o251)) (n o133 (w o1) (w o5))) (n o63 (n o104 (w o1) (w o270)) (n o97 (w o231) u))
noncomputable def c135:B:=n o1 (n o40 (n o1 (w o171) (w o244)) (n o128 (w o208) (w o284))) (n o1 (n o99 (w o189) (w o5)) (n o148 (w o226) u))
noncomputable def c136:B:=n o31 (n o50 (n o88 (w o1) (w o256)) (n o138 (w o5) (w o294))) (n o68 (n o88 (w o198) (w o1)) (n o5 (w o1) u))
noncomputable def c137:B:=n o16 (n o35 (n o71 (w o164) (w o239)) (n o1 (w o1) (w o278))) (n o1 (n o1 (w o184) (w o260)) (n o88 (w o1) (w o297)))
noncomputable def c138:B:=n o25 (n o5 (n o5 (w o174) (w o249)) (n o131 (w o211) (w o288))) (n o62 (n o1 (w o5) (w o1)) (n o154 (w o229) u))
noncomputable def c139:B:=n o5 (n o1 (n o76 (w o1) (w o1)) (n o126 (w o206) (w o1))) (n o5 (n o98 (w o1) (w o265)) (n o147 (w o1) u))
noncomputable def c140:B:=n o1 (n o48 (n o86 (w o179) (w o255)) (n o136 (w o216) (w o292))) (n o1 (n o110 (w o197) (w o5)) (n o159 (w o234) u))
noncomputable def c141:B:=n o18 (n o1 (n o5 (w o168) (w o1)) (n o122 (w o1) (w o281))) (n o55 (n o95 (w o1) (w o262)) (n o145 (w o223) u))
noncomputable def c142:B:=n o28 (n o46 (n o1 (w o5) (w o253)) (n o5 (w o213) (w o290))) (n o65 (n o106 (w o195) (w o271)) (n o156 (w o5) u))
noncomputable def c143:B:=n o23 (n o41 (n o78 (w o1) (w o245)) (n o97 (w o5) (w o1))) (n o60 (n o101 (w o190) (w o1)) (n o150 (w o1) u))
noncomputable def c144:B:=n o1 (n o5 (n o1 (w o181) (w o258)) (n o140 (w o1) (w o5))) (n o1 (n o1 (w o200) (w o276)) (n o1 (w o236) u))
noncomputable def X_tree_628:Params→BT:=(n boot_o_0 (n boot_o_1 (n o114 (n boot_o_7 (n o1 c113 c114) (n o5 c115 c116)) (n o1 (n o7 c117 c118) (n o12 c119 c120))) (n boot_o_5 (n boot_o_9 (n o6 c121 c122) (n o1 c123 c124)) (n o3 (n o9 c125 c126) (n o1 c127 c128)))) (n boot_o_2 (n boot_o_4 (n boot_o_8 (n o5 c129 c130) (n o10 c131 c132)) (n o115 (n o8 c133 c134) (n o13 c135 c136))) (n boot_o_6 (n boot_o_10 (n o1 c137 c138) (n o11 c139 c140)) (n o4 (n o1 c141 c142) (n o5 c143 c144)))))
noncomputable def X_sts_49:List Stmt:=[f 0,f 1,f 2,f 3,f 4,f 5,f 6,f 7,f 8,f 9,f 10,f 11,f 12,f 13,f 14]
noncomputable def c145:B:=n o14 (n o5 (n o5 (w o161) (w o1)) (n o118 (w o1) u)) (n o51 (n o5 (w o1) u) (n o141 (w o218) u))
noncomputable def c146:B:=n o24 (n o42 (n o79 (w o5) (w o246)) (n o88 (w o209) u)) (n o61 (n o1 (w o191) u) (n o151 (w o5) u))
noncomputable def c147:B:=n o19 (n o37 (n o74 (w o1) (w o241)) (n o123 (w o5) u)) (n o56 (n o96 (w o186) u) (n o146 (w o1) u))
noncomputable def c148:B:=n o1 (n o47 (n o5 (w o177) (w o254)) (n o134 (w o1) u)) (n o1 (n o107 (w o196) u) (n o1 (w o232) u))
noncomputable def c149:B:=n o17 (n o1 (n o72 (w o165) (w o1)) (n o5 (w o202) u)) (n o5 (n o92 (w o1) u) (n o143 (w o5) u))
noncomputable def c150:B:=n o1 (n o44 (n o81 (w o175) (w o250)) (n o132 (w o212) u)) (n o1 (n o103 (w o193) u) (n o155 (w o230) u))
noncomputable def c151:B:=n o21 (n o5 (n o77 (w o170) (w o5)) (n o127 (w o207) u)) (n o58 (n o1 (w o5) u) (n o1 (w o225) u))
noncomputable def c152:B:=n o30 (n o49 (n o87 (w o180) u) (n o137 (w o1) u)) (n o67 (n o97 (w o1) u) (n o1 (w o235) u))
noncomputable def c153:B:=n o15 (n o34 (n o1 (w o163) (w o238)) (n o120 (w o201) u)) (n o53 (n o91 (w o183) u) (n o97 (w o220) u))
noncomputable def c154:B:=n o5 (n o1 (n o1 (w o1) (w o248)) (n o1 (w o210) u)) (n o5 (n o102 (w o1) u) (n o153 (w o1) u))
noncomputable def c155:B:=n o1 (n o39 (n o75 (w o169) (w o243)) (n o125 (w o1) u)) (n o1 (n o88 (w o188) u) (n o5 (w o224) u))
noncomputable def c156:B:=n o29 (n o5 (n o85 (w o178) u) (n o135 (w o215) u)) (n o66 (n o109 (w o5) u) (n o158 (w o233) u))
noncomputable def c157:B:=n o5 (n o36 (n o1 (w o167) (w o240)) (n o1 (w o204) u)) (n o1 (n o94 (w o185) u) (n o144 (w o222) u))
noncomputable def c158:B:=n o27 (n o45 (n o83 (w o1) (w o252)) (n o1 (w o5) u)) (n o64 (n o105 (w o194) u) (n o88 (w o1) u))
noncomputable def c159:B:=n o22 (n o1 (n o5 (w o172) (w o1)) (n o129 (w o1) u)) (n o59 (n o100 (w o1) u) (n o149 (w o227) u))
noncomputable def c160:B:=n o32 (n o1 (n o89 (w o5) u) (n o139 (w o217) u)) (n o69 (n o117 (w o199) u) (n o160 (w o5) u))
noncomputable def c161:B:=n o1 (n o33 (n o70 (w o162) (w o237)) (n o119 (w o5) u)) (n o52 (n o90 (w o182) u) (n o142 (w o219) u))
noncomputable def c162:B:=n o1 (n o43 (n o80 (w o173) (w o247)) (n o130 (w o1) u)) (n o1 (n o5 (w o192) u) (n o152 (w o228) u))
noncomputable def c163:B:=n o20 (n o38 (n o1 (w o5) (w o242)) (n o124 (w o205) u)) (n o57 (n o97 (w o187) u) (n o1 (w o5) u))
noncomputable def c164:B:=n o5 (n o1 (n o84 (w o1) u) (n o1 (w o214) u)) (n o5 (n o108 (w o1) u) (n o157 (w o1) u))
noncomputable def c165:B:=n o1 (n o5 (n o73 (w o166) (w o5)) (n o121 (w o203) u)) (n o54 (n o116 (w o88) u) (n o1 (w o221) u))
noncomputable def c166:B:=n o26 (n o1 (n o82 (w o176) (w o251)) (n o133 (w o1) u)) (n o63 (n o104 (w o1) u) (n o97 (w o231) u))
noncomputable def c167:B:=n o1 (n o40 (n o1 (w o171) (w o244)) (n o128 (w o208) u)) (n o1 (n o99 (w o189) u) (n o148 (w o226) u))
noncomputable def c168:B:=n o31 (n o50 (n o88 (w o1) u) (n o138 (w o5) u)) (n o68 (n o88 (w o198) u) (n o5 (w o1) u))
noncomputable def c169:B:=n o16 (n o35 (n o71 (w o164) (w o239)) (n o1 (w o1) u)) (n o1 (n o1 (w o184) u) (n o88 (w o1) u))
noncomputable def c170:B:=n o25 (n o5 (n o5 (w o174) (w o249)) (n o131 (w o211) u)) (n o62 (n o1 (w o5) u) (n o154 (w o229) u))
noncomputable def c171:B:=n o5 (n o1 (n o76 (w o1) (w o1)) (n o126 (w o206) u)) (n o5 (n o98 (w o1) u) (n o147 (w o1) u))
noncomputable def c172:B:=n o1 (n o48 (n o86 (w o179) u) (n o136 (w o216) u)) (n o1 (n o110 (w o197) u) (n o159 (w o234) u))
noncomputable def c173:B:=n o18 (n o1 (n o5 (w o168) (w o1)) (n o122 (w o1) u)) (n o55 (n o95 (w o1) u) (n o145 (w o223) u))
noncomputable def c174:B:=n o28 (n o46 (n o1 (w o5) (w o253)) (n o5 (w o213) u)) (n o65 (n o106 (w o195) u) (n o156 (w o5) u))
noncomputable def c175:B:=n o23 (n o41 (n o78 (w o1) (w o245)) (n o97 (w o5) u)) (n o60 (n o101 (w o190) u) (n o150 (w o1) u))
noncomputable def c176:B:=n o1 (n o5 (n o1 (w o181) u) (n o140 (w o1) u)) (n o1 (n o1 (w o200) u) (n o1 (w o236) u))
noncomputable def X_tree_464:Params→BT:=(n boot_o_0 (n boot_o_1 (n o299 (n boot_o_7 (n o1 c145 c146) (n o5 c147 c148)) (n o1 (n o7 c149 c150) (n o12 c151 c152))) (n boot_o_5 (n boot_o_9 (n o6 c153 c154) (n o1 c155 c156)) (n o3 (n o9 c157 c158) (n o1 c159 c160)))) (n boot_o_2 (n boot_o_4 (n boot_o_8 (n o5 c161 c162) (n o10 c163 c164)) (n o300 (n o8 c165 c166) (n o13 c167 c168))) (n boot_o_6 (n boot_o_10 (n o1 c169 c170) (n o11 c171 c172)) (n o4 (n o1 c173 c174) (n o5 c175 c176)))))
noncomputable def c177:B:=n o14 (n o5 (w o5) (w o118)) (n o51 (w o5) u)
noncomputable def c178:B:=n o19 (n o37 (w o74) (w o123)) (n o56 (w o96) u)
noncomputable def c179:B:=n o17 (n o1 (w o72) (w o5)) (n o5 (w o92) u)
noncomputable def c180:B:=n o21 (n o5 (w o77) (w o127)) (n o58 (w o1) u)
noncomputable def c181:B:=n o30 (n o49 (w o87) u) (n o67 (w o97) u)
noncomputable def c182:B:=n o15 (n o34 (w o1) (w o120)) (n o53 (w o91) u)
noncomputable def c183:B:=n o1 (n o39 (w o75) (w o125)) (n o1 (w o88) u)
noncomputable def c184:B:=n o5 (n o36 (w o1) (w o1)) (n o1 (w o94) u)
noncomputable def c185:B:=n o22 (n o1 (w o5) (w o129)) (n o59 (w o100) u)
noncomputable def c186:B:=n o32 (n o1 (w o89) u) (n o69 (w o117) u)
noncomputable def c187:B:=n o1 (n o33 (w o70) (w o119)) (n o52 (w o90) u)
noncomputable def c188:B:=n o20 (n o38 (w o1) (w o124)) (n o57 (w o97) u)
noncomputable def c189:B:=n o1 (n o5 (w o73) (w o121)) (n o54 (w o303) u)
noncomputable def c190:B:=n o1 (n o40 (w o1) (w o128)) (n o1 (w o99) u)
noncomputable def c191:B:=n o31 (n o50 (w o88) u) (n o68 (w o88) u)
noncomputable def c192:B:=n o16 (n o35 (w o71) (w o1)) (n o1 (w o1) u)
noncomputable def c193:B:=n o5 (n o1 (w o76) (w o126)) (n o5 (w o98) u)
noncomputable def c194:B:=n o18 (n o1 (w o5) (w o122)) (n o55 (w o95) u)
noncomputable def c195:B:=n o1 (n o5 (w o1) u) (n o1 (w o1) u)
noncomputable def X_tree_251:Params→BT:=(n boot_o_0 (n boot_o_1 (n o301 (n boot_o_7 (n o1 c177 c62) (n o5 c178 c64)) (n o1 (n o7 c179 c66) (n o12 c180 c181))) (n boot_o_5 (n boot_o_9 (n o6 c182 c70) (n o1 c183 c72)) (n o3 (n o9 c184 c74) (n o1 c185 c186)))) (n boot_o_2 (n boot_o_4 (n boot_o_8 (n o5 c187 c78) (n o10 c188 c80)) (n o302 (n o8 c189 c82) (n o13 c190 c191))) (n boot_o_6 (n boot_o_10 (n o1 c192 c86) (n o11 c193 c88)) (n o4 (n o1 c194 c90) (n o5 c91 c195)))))
noncomputable def X_sts_129:List Stmt:=[f 15,f 16,f 17,f 18,f 19,f 20,f 21,f 22,f 23,f 24,f 25,f 26,f 27,f 28]
noncomputable def c196:B:=n o14 (n o5 (w o5) (w o118)) (n o51 (w o5) (w o141))
noncomputable def c197:B:=n o24 (n o42 (w o79) (w o88)) (n o61 (w o1) (w o151))
noncomputable def c198:B:=n o19 (n o37 (w o74) (w o123)) (n o56 (w o96) (w o146))
noncomputable def c199:B:=n o1 (n o47 (w o5) (w o134)) (n o1 (w o107) u)
noncomputable def c200:B:=n o17 (n o1 (w o72) (w o5)) (n o5 (w o92) (w o143))
noncomputable def c201:B:=n o1 (n o44 (w o81) (w o132)) (n o1 (w o103) (w o155))
noncomputable def c202:B:=n o21 (n o5 (w o77) (w o127)) (n o58 (w o1) (w o1))
noncomputable def c203:B:=n o30 (n o49 (w o87) (w o137)) (n o67 (w o97) u)
noncomputable def c204:B:=n o15 (n o34 (w o1) (w o120)) (n o53 (w o91) (w o97))
noncomputable def c205:B:=n o5 (n o1 (w o1) (w o1)) (n o5 (w o102) (w o153))
noncomputable def c206:B:=n o1 (n o39 (w o75) (w o125)) (n o1 (w o88) (w o5))
noncomputable def c207:B:=n o29 (n o5 (w o85) (w o135)) (n o66 (w o109) u)
noncomputable def c208:B:=n o5 (n o36 (w o1) (w o1)) (n o1 (w o94) (w o144))
noncomputable def c209:B:=n o27 (n o45 (w o83) (w o1)) (n o64 (w o105) u)
noncomputable def c210:B:=n o22 (n o1 (w o5) (w o129)) (n o59 (w o100) (w o149))
noncomputable def c211:B:=n o32 (n o1 (w o89) (w o139)) (n o69 (w o117) u)
noncomputable def c212:B:=n o1 (n o33 (w o70) (w o119)) (n o52 (w o90) (w o142))
noncomputable def c213:B:=n o1 (n o43 (w o80) (w o130)) (n o1 (w o5) (w o152))
noncomputable def c214:B:=n o20 (n o38 (w o1) (w o124)) (n o57 (w o97) (w o1))
noncomputable def c215:B:=n o5 (n o1 (w o84) (w o1)) (n o5 (w o108) u)
noncomputable def c216:B:=n o1 (n o5 (w o73) (w o121)) (n o54 (w o306) (w o1))
noncomputable def c217:B:=n o26 (n o1 (w o82) (w o133)) (n o63 (w o104) u)
noncomputable def c218:B:=n o1 (n o40 (w o1) (w o128)) (n o1 (w o99) (w o148))
noncomputable def c219:B:=n o31 (n o50 (w o88) (w o138)) (n o68 (w o88) u)
noncomputable def c220:B:=n o16 (n o35 (w o71) (w o1)) (n o1 (w o1) (w o88))
noncomputable def c221:B:=n o25 (n o5 (w o5) (w o131)) (n o62 (w o1) (w o154))
noncomputable def c222:B:=n o5 (n o1 (w o76) (w o126)) (n o5 (w o98) (w o147))
noncomputable def c223:B:=n o1 (n o48 (w o86) (w o136)) (n o1 (w o110) u)
noncomputable def c224:B:=n o18 (n o1 (w o5) (w o122)) (n o55 (w o95) (w o145))
noncomputable def c225:B:=n o28 (n o46 (w o1) (w o5)) (n o65 (w o106) u)
noncomputable def c226:B:=n o23 (n o41 (w o78) (w o97)) (n o60 (w o101) (w o150))
noncomputable def c227:B:=n o1 (n o5 (w o1) (w o140)) (n o1 (w o1) u)
noncomputable def X_tree_295:Params→BT:=(n boot_o_0 (n boot_o_1 (n o304 (n boot_o_7 (n o1 c196 c197) (n o5 c198 c199)) (n o1 (n o7 c200 c201) (n o12 c202 c203))) (n boot_o_5 (n boot_o_9 (n o6 c204 c205) (n o1 c206 c207)) (n o3 (n o9 c208 c209) (n o1 c210 c211)))) (n boot_o_2 (n boot_o_4 (n boot_o_8 (n o5 c212 c213) (n o10 c214 c215)) (n o305 (n o8 c216 c217) (n o13 c218 c219))) (n boot_o_6 (n boot_o_10 (n o1 c220 c221) (n o11 c222 c223)) (n o4 (n o1 c224 c225) (n o5 c226 c227)))))
noncomputable def c228:B:=n o24 (n o42 (w o79) (w o88)) (n o61 (w o1) u)
noncomputable def c229:B:=n o1 (n o44 (w o81) (w o132)) (n o1 (w o103) u)
noncomputable def c230:B:=n o5 (n o1 (w o1) (w o1)) (n o5 (w o102) u)
noncomputable def c231:B:=n o1 (n o43 (w o80) (w o130)) (n o1 (w o5) u)
noncomputable def c232:B:=n o1 (n o5 (w o73) (w o121)) (n o54 (w o309) u)
noncomputable def c233:B:=n o25 (n o5 (w o5) (w o131)) (n o62 (w o1) u)
noncomputable def c234:B:=n o23 (n o41 (w o78) (w o97)) (n o60 (w o101) u)
noncomputable def X_tree_273:Params→BT:=(n boot_o_0 (n boot_o_1 (n o307 (n boot_o_7 (n o1 c196 c228) (n o5 c178 c199)) (n o1 (n o7 c179 c229) (n o12 c180 c203))) (n boot_o_5 (n boot_o_9 (n o6 c182 c230) (n o1 c183 c207)) (n o3 (n o9 c184 c209) (n o1 c185 c211)))) (n boot_o_2 (n boot_o_4 (n boot_o_8 (n o5 c212 c231) (n o10 c188 c215)) (n o308 (n o8 c232 c217) (n o13 c190 c219))) (n boot_o_6 (n boot_o_10 (n o1 c192 c233) (n o11 c193 c223)) (n o4 (n o1 c194 c225) (n o5 c234 c227)))))
noncomputable def c235:B:=n o14 (n o5 (w o5) u) (w o51)
noncomputable def c236:B:=n o19 (n o37 (w o74) u) (w o56)
noncomputable def c237:B:=n o17 (n o1 (w o72) u) (w o5)
noncomputable def c238:B:=n o15 (n o34 (w o1) u) (w o53)
noncomputable def c239:B:=n o5 (n o36 (w o1) u) (w o1)
noncomputable def c240:B:=n o1 (n o33 (w o70) u) (w o52)
noncomputable def c241:B:=n o1 (n o5 (w o73) u) (w o54)
noncomputable def c242:B:=n o16 (n o35 (w o71) u) (w o1)
noncomputable def c243:B:=n o18 (n o1 (w o5) u) (w o55)
noncomputable def X_tree_192:Params→BT:=(n boot_o_0 (n boot_o_1 (n o310 (n boot_o_7 (n o1 c235 c93) (n o5 c236 c94)) (n o1 (n o7 c237 c95) (n o12 c96 (n o30 (w o49) (w o67))))) (n boot_o_5 (n boot_o_9 (n o6 c238 c97) (n o1 c98 c99)) (n o3 (n o9 c239 c100) (n o1 c101 (n o32 (w o1) (w o69)))))) (n boot_o_2 (n boot_o_4 (n boot_o_8 (n o5 c240 c102) (n o10 c103 c104)) (n o311 (n o8 c241 c106) (n o13 c107 (n o31 (w o50) (w o68))))) (n boot_o_6 (n boot_o_10 (n o1 c242 c108) (n o11 c109 c110)) (n o4 (n o1 c243 c111) (n o5 c112 (n o1 (w o5) (w o1)))))))
noncomputable def c244 (P:Params) (r:List Obj):List Obj:=boot_o_0 P::boot_o_1 P::boot_o_2 P::o312 P::boot_o_4 P::boot_o_5 P::boot_o_6 P::boot_o_7 P::boot_o_8 P::boot_o_9 P::boot_o_10 P::o1 P::o313 P::o3 P::o4 P::o1 P::r
noncomputable def c245 (P:Params) (r:List Obj):List Obj:=o5 P::o6 P::o1 P::o7 P::o8 P::o9 P::o1 P::o5 P::o10 P::o1 P::o11 P::o12 P::o13 P::o1 P::o5 P::o14 P::r
noncomputable def c246 (P:Params) (r:List Obj):List Obj:=o1 P::o15 P::o16 P::o17 P::o1 P::o5 P::o18 P::o19 P::o20 P::o1 P::o5 P::o21 P::o1 P::o22 P::o23 P::o24 P::r
noncomputable def c247 (P:Params) (r:List Obj):List Obj:=o1 P::o5 P::o25 P::o1 P::o26 P::o27 P::o28 P::o1 P::o5 P::o29 P::o1 P::o30 P::o31 P::o32 P::o1 P::o5 P::r
noncomputable def c248 (P:Params) (r:List Obj):List Obj:=o33 P::o34 P::o35 P::o1 P::o5 P::o36 P::o1 P::o37 P::o38 P::o39 P::o1 P::o5 P::o40 P::o1 P::o41 P::o42 P::r
noncomputable def c249 (P:Params) (r:List Obj):List Obj:=o43 P::o1 P::o5 P::o44 P::o1 P::o45 P::o46 P::o47 P::o1 P::o5 P::o48 P::o49 P::o50 P::o1 P::o5 P::o51 P::r
noncomputable def c250 (P:Params) (r:List Obj):List Obj:=o52 P::o53 P::o1 P::o5 P::o54 P::o1 P::o55 P::o56 P::o57 P::o1 P::o5 P::o58 P::o1 P::o59 P::o60 P::o61 P::r
noncomputable def c251 (P:Params) (r:List Obj):List Obj:=o1 P::o5 P::o62 P::o1 P::o63 P::o64 P::o65 P::o1 P::o5 P::o66 P::o1 P::o67 P::o68 P::o69 P::o1 P::o5 P::r
noncomputable def c252 (P:Params) (r:List Obj):List Obj:=o70 P::o1 P::o71 P::o72 P::o73 P::o1 P::o5 P::o74 P::o1 P::o75 P::o76 P::o77 P::o1 P::o5 P::o78 P::o79 P::r
noncomputable def c253 (P:Params) (r:List Obj):List Obj:=o80 P::o1 P::o5 P::o81 P::o82 P::o83 P::o1 P::o5 P::o84 P::o85 P::o86 P::o87 P::o88 P::o89 P::o1 P::o5 P::r
noncomputable def c254 (P:Params) (r:List Obj):List Obj:=o90 P::o91 P::o1 P::o92 P::o116 P::o94 P::o95 P::o96 P::o97 P::o88 P::o98 P::o1 P::o99 P::o100 P::o101 P::o1 P::r
noncomputable def c255 (P:Params) (r:List Obj):List Obj:=o5 P::o102 P::o1 P::o103 P::o104 P::o105 P::o106 P::o107 P::o108 P::o109 P::o110 P::o97 P::o88 P::o117 P::o1 P::o118 P::r
noncomputable def c256 (P:Params) (r:List Obj):List Obj:=o119 P::o120 P::o1 P::o5 P::o121 P::o1 P::o122 P::o123 P::o124 P::o125 P::o126 P::o127 P::o128 P::o129 P::o97 P::o88 P::r
noncomputable def c257 (P:Params) (r:List Obj):List Obj:=o130 P::o1 P::o131 P::o132 P::o133 P::o1 P::o5 P::o134 P::o1 P::o135 P::o136 P::o137 P::o138 P::o139 P::o140 P::o141 P::r
noncomputable def c258 (P:Params) (r:List Obj):List Obj:=o142 P::o97 P::o88 P::o143 P::o1 P::o144 P::o145 P::o146 P::o1 P::o5 P::o147 P::o1 P::o148 P::o149 P::o150 P::o151 P::r
noncomputable def c259 (P:Params) (r:List Obj):List Obj:=o152 P::o153 P::o154 P::o155 P::o97 P::o88 P::o156 P::o1 P::o157 P::o158 P::o159 P::o1 P::o5 P::o160 P::o1 P::o161 P::r
noncomputable def c260 (P:Params) (r:List Obj):List Obj:=o162 P::o163 P::o164 P::o165 P::o166 P::o167 P::o168 P::o1 P::o5 P::o169 P::o1 P::o170 P::o171 P::o172 P::o1 P::o5 P::r
noncomputable def c261 (P:Params) (r:List Obj):List Obj:=o173 P::o1 P::o174 P::o175 P::o176 P::o1 P::o5 P::o177 P::o1 P::o178 P::o179 P::o180 P::o1 P::o5 P::o181 P::o1 P::r
noncomputable def c262 (P:Params) (r:List Obj):List Obj:=o182 P::o183 P::o184 P::o1 P::o88 P::o185 P::o1 P::o186 P::o187 P::o188 P::o1 P::o5 P::o189 P::o1 P::o190 P::o191 P::r
noncomputable def c263 (P:Params) (r:List Obj):List Obj:=o192 P::o1 P::o5 P::o193 P::o1 P::o194 P::o195 P::o196 P::o1 P::o5 P::o197 P::o1 P::o198 P::o199 P::o200 P::o1 P::r
noncomputable def c264 (P:Params) (r:List Obj):List Obj:=o5 P::o201 P::o1 P::o202 P::o203 P::o204 P::o1 P::o5 P::o205 P::o1 P::o206 P::o207 P::o208 P::o1 P::o5 P::o209 P::r
noncomputable def c265 (P:Params) (r:List Obj):List Obj:=o1 P::o210 P::o211 P::o212 P::o1 P::o5 P::o213 P::o1 P::o214 P::o215 P::o216 P::o1 P::o5 P::o217 P::o1 P::o218 P::r
noncomputable def c266 (P:Params) (r:List Obj):List Obj:=o219 P::o220 P::o1 P::o5 P::o221 P::o222 P::o223 P::o1 P::o5 P::o224 P::o1 P::o225 P::o226 P::o227 P::o1 P::o5 P::r
noncomputable def c267 (P:Params) (r:List Obj):List Obj:=o228 P::o1 P::o229 P::o230 P::o231 P::o1 P::o5 P::o232 P::o1 P::o233 P::o234 P::o235 P::o1 P::o5 P::o236 P::o1 P::r
noncomputable def c268 (P:Params) (r:List Obj):List Obj:=o237 P::o238 P::o239 P::o1 P::o5 P::o240 P::o1 P::o241 P::o242 P::o243 P::o1 P::o5 P::o244 P::o1 P::o245 P::o246 P::r
noncomputable def c269 (P:Params) (r:List Obj):List Obj:=o247 P::o248 P::o249 P::o250 P::o251 P::o252 P::o253 P::o254 P::o1 P::o5 P::o255 P::o1 P::o256 P::o257 P::o258 P::o1 P::r
noncomputable def c270 (P:Params) (r:List Obj):List Obj:=o5 P::o259 P::o260 P::o261 P::o1 P::o5 P::o262 P::o1 P::o263 P::o264 P::o265 P::o1 P::o5 P::o266 P::o1 P::o267 P::r
noncomputable def c271 (P:Params) (r:List Obj):List Obj:=o268 P::o269 P::o1 P::o5 P::o270 P::o1 P::o271 P::o272 P::o273 P::o1 P::o5 P::o274 P::o1 P::o275 P::o276 P::o277 P::r
noncomputable def c272 (P:Params) (r:List Obj):List Obj:=o1 P::o5 P::o278 P::o1 P::o279 P::o280 P::o281 P::o1 P::o5 P::o282 P::o1 P::o283 P::o284 P::o285 P::o1 P::o5 P::r
noncomputable def c273 (P:Params) (r:List Obj):List Obj:=o286 P::o287 P::o288 P::o1 P::o5 P::o289 P::o290 P::o291 P::o1 P::o5 P::o292 P::o293 P::o294 P::o1 P::o5 P::o295 P::r
noncomputable def c274 (P:Params) (r:List Obj):List Obj:=o1 P::o296 P::o297 P::o298 P::o1 P::o5 P::o314 P::o1 P::o315 P::o316 P::o317 P::o1 P::o5 P::o318 P::o319 P::o320 P::r
noncomputable def c275 (P:Params) (r:List Obj):List Obj:=o1 P::o5 P::o321 P::o1 P::o322 P::o323 P::o324 P::r
noncomputable def X_heap_650:Params→Heap:=fun P=>⟨⟨(c244 P (c245 P (c246 P (c247 P (c248 P (c249 P (c250 P (c251 P (c252 P (c253 P (c254 P (c255 P (c256 P (c257 P (c258 P (c259 P (c260 P (c261 P (c262 P (c263 P (c264 P (c265 P (c266 P (c267 P (c268 P (c269 P (c270 P (c271 P (c272 P (c273 P (c274 P (c275 P []))))))))))))))))))))))))))))))))⟩,⟨[],[],[],0,[],[],.false,#[],[],0,.false,.false,.false,0,[2000,10,10],.false,0,.true,[],[],0,.false⟩⟩
noncomputable def X_sts_629:List Stmt:=[f 57,f 58,f 59]
noncomputable def X_sts_551:List Stmt:=[f 43,f 44,f 45,f 46,f 47,f 48,f 49,f 50,f 51,f 52,f 53,f 54,f 55,f 56]
noncomputable def c276:B:=n o14 (n o5 (n o5 (w o161) u) (n o118 (w o1) u)) (n o51 (n o5 (w o1) u) (n o141 (w o218) u))
noncomputable def c277:B:=n o24 (n o42 (n o79 (w o5) u) (n o88 (w o209) u)) (n o61 (n o1 (w o191) u) (n o151 (w o5) u))
noncomputable def c278:B:=n o19 (n o37 (n o74 (w o1) u) (n o123 (w o5) u)) (n o56 (n o96 (w o327) u) (n o146 (w o1) u))
noncomputable def c279:B:=n o1 (n o47 (n o5 (w o177) u) (n o134 (w o1) u)) (n o1 (n o107 (w o196) u) (w o1))
noncomputable def c280:B:=n o17 (n o1 (n o72 (w o165) u) (n o5 (w o202) u)) (n o5 (n o92 (w o1) u) (n o143 (w o5) u))
noncomputable def c281:B:=n o1 (n o44 (n o81 (w o175) u) (n o132 (w o212) u)) (n o1 (n o103 (w o193) u) (n o155 (w o230) u))
noncomputable def c282:B:=n o21 (n o5 (n o77 (w o170) u) (n o127 (w o207) u)) (n o58 (n o1 (w o5) u) (n o1 (w o225) u))
noncomputable def c283:B:=n o30 (n o49 (n o87 (w o180) u) (n o137 (w o1) u)) (n o67 (n o97 (w o1) u) (w o1))
noncomputable def c284:B:=n o15 (n o34 (n o1 (w o163) u) (n o120 (w o201) u)) (n o53 (n o91 (w o183) u) (n o97 (w o220) u))
noncomputable def c285:B:=n o5 (n o1 (n o1 (w o1) u) (n o1 (w o210) u)) (n o5 (n o102 (w o1) u) (n o153 (w o1) u))
noncomputable def c286:B:=n o1 (n o39 (n o75 (w o169) u) (n o125 (w o1) u)) (n o1 (n o88 (w o188) u) (n o5 (w o224) u))
noncomputable def c287:B:=n o29 (n o5 (n o85 (w o178) u) (n o135 (w o215) u)) (n o66 (n o109 (w o5) u) (w o158))
noncomputable def c288:B:=n o5 (n o36 (n o1 (w o167) u) (n o1 (w o204) u)) (n o1 (n o94 (w o326) u) (n o144 (w o222) u))
noncomputable def c289:B:=n o27 (n o45 (n o83 (w o1) u) (n o1 (w o5) u)) (n o64 (n o105 (w o194) u) (w o88))
noncomputable def c290:B:=n o22 (n o1 (n o5 (w o172) u) (n o129 (w o1) u)) (n o59 (n o100 (w o1) u) (n o149 (w o227) u))
noncomputable def c291:B:=n o32 (n o1 (n o89 (w o5) u) (n o139 (w o217) u)) (n o69 (n o117 (w o199) u) (w o160))
noncomputable def c292:B:=n o1 (n o33 (n o70 (w o162) u) (n o119 (w o5) u)) (n o52 (n o90 (w o182) u) (n o142 (w o219) u))
noncomputable def c293:B:=n o1 (n o43 (n o80 (w o173) u) (n o130 (w o1) u)) (n o1 (n o5 (w o192) u) (n o152 (w o228) u))
noncomputable def c294:B:=n o20 (n o38 (n o1 (w o5) u) (n o124 (w o205) u)) (n o57 (n o97 (w o187) u) (n o1 (w o5) u))
noncomputable def c295:B:=n o5 (n o1 (n o84 (w o1) u) (n o1 (w o214) u)) (n o5 (n o108 (w o1) u) (w o157))
noncomputable def c296:B:=n o1 (n o5 (n o73 (w o166) u) (n o121 (w o203) u)) (n o54 (n o116 (w o88) u) (n o1 (w o221) u))
noncomputable def c297:B:=n o26 (n o1 (n o82 (w o176) u) (n o133 (w o1) u)) (n o63 (n o104 (w o1) u) (n o97 (w o231) u))
noncomputable def c298:B:=n o1 (n o40 (n o1 (w o171) u) (n o128 (w o208) u)) (n o1 (n o99 (w o189) u) (n o148 (w o226) u))
noncomputable def c299:B:=n o31 (n o50 (n o88 (w o1) u) (n o138 (w o5) u)) (n o68 (n o88 (w o198) u) (w o5))
noncomputable def c300:B:=n o16 (n o35 (n o71 (w o164) u) (n o1 (w o1) u)) (n o1 (n o1 (w o184) u) (n o88 (w o1) u))
noncomputable def c301:B:=n o25 (n o5 (n o5 (w o174) u) (n o131 (w o211) u)) (n o62 (n o1 (w o5) u) (n o154 (w o229) u))
noncomputable def c302:B:=n o5 (n o1 (n o76 (w o1) u) (n o126 (w o206) u)) (n o5 (n o98 (w o1) u) (n o147 (w o1) u))
noncomputable def c303:B:=n o1 (n o48 (n o86 (w o179) u) (n o136 (w o216) u)) (n o1 (n o110 (w o197) u) (w o159))
noncomputable def c304:B:=n o18 (n o1 (n o5 (w o168) u) (n o122 (w o1) u)) (n o55 (n o95 (w o1) u) (n o145 (w o223) u))
noncomputable def c305:B:=n o28 (n o46 (n o1 (w o5) u) (n o5 (w o213) u)) (n o65 (n o106 (w o195) u) (w o156))
noncomputable def c306:B:=n o23 (n o41 (n o78 (w o1) u) (n o97 (w o5) u)) (n o60 (n o101 (w o190) u) (n o150 (w o1) u))
noncomputable def c307:B:=n o1 (n o5 (n o1 (w o181) u) (n o140 (w o1) u)) (n o1 (n o1 (w o200) u) (w o1))
noncomputable def X_tree_547:Params→BT:=(n boot_o_0 (n boot_o_1 (n o325 (n boot_o_7 (n o1 c276 c277) (n o5 c278 c279)) (n o1 (n o7 c280 c281) (n o12 c282 c283))) (n boot_o_5 (n boot_o_9 (n o6 c284 c285) (n o1 c286 c287)) (n o3 (n o9 c288 c289) (n o1 c290 c291)))) (n boot_o_2 (n boot_o_4 (n boot_o_8 (n o5 c292 c293) (n o10 c294 c295)) (n o300 (n o8 c296 c297) (n o13 c298 c299))) (n boot_o_6 (n boot_o_10 (n o1 c300 c301) (n o11 c302 c303)) (n o4 (n o1 c304 c305) (n o5 c306 c307)))))
noncomputable def X_sts_346:List Stmt:=[f 42]
noncomputable def c308:B:=n o14 (n o5 (n o5 (w o161) u) (w o118)) (n o51 (n o5 (w o1) u) (w o141))
noncomputable def c309:B:=n o24 (n o42 (n o79 (w o5) u) (w o88)) (n o61 (w o1) (w o151))
noncomputable def c310:B:=n o19 (n o37 (n o74 (w o1) u) (w o123)) (n o56 (w o96) (w o146))
noncomputable def c311:B:=n o1 (n o47 (n o5 (w o177) u) (w o134)) (n o1 (w o107) (w o1))
noncomputable def c312:B:=n o17 (n o1 (n o72 (w o165) u) (w o5)) (n o5 (w o92) (w o143))
noncomputable def c313:B:=n o1 (n o44 (n o81 (w o175) u) (w o132)) (n o1 (w o103) (w o155))
noncomputable def c314:B:=n o21 (n o5 (n o77 (w o170) u) (w o127)) (n o58 (w o1) (w o1))
noncomputable def c315:B:=n o30 (n o49 (n o87 (w o180) u) (w o137)) (n o67 (w o97) (w o1))
noncomputable def c316:B:=n o15 (n o34 (n o1 (w o163) u) (w o120)) (n o53 (n o91 (w o183) u) (w o97))
noncomputable def c317:B:=n o5 (n o1 (n o1 (w o1) u) (w o1)) (n o5 (w o102) (w o153))
noncomputable def c318:B:=n o1 (n o39 (n o75 (w o169) u) (w o125)) (n o1 (w o88) (w o5))
noncomputable def c319:B:=n o29 (n o5 (n o85 (w o178) u) (w o135)) (n o66 (w o109) (w o158))
noncomputable def c320:B:=n o5 (n o36 (n o1 (w o167) u) (w o1)) (n o1 (w o94) (w o144))
noncomputable def c321:B:=n o27 (n o45 (n o83 (w o1) u) (w o1)) (n o64 (w o105) (w o88))
noncomputable def c322:B:=n o22 (n o1 (n o5 (w o172) u) (w o129)) (n o59 (w o100) (w o149))
noncomputable def c323:B:=n o32 (n o1 (n o89 (w o5) u) (w o139)) (n o69 (w o117) (w o160))
noncomputable def c324:B:=n o1 (n o33 (n o70 (w o162) u) (w o119)) (n o52 (n o90 (w o182) u) (w o142))
noncomputable def c325:B:=n o1 (n o43 (n o80 (w o173) u) (w o130)) (n o1 (w o5) (w o152))
noncomputable def c326:B:=n o20 (n o38 (n o1 (w o5) u) (w o124)) (n o57 (w o97) (w o1))
noncomputable def c327:B:=n o5 (n o1 (n o84 (w o1) u) (w o1)) (n o5 (w o108) (w o157))
noncomputable def c328:B:=n o1 (n o5 (n o73 (w o166) u) (w o121)) (n o54 (w o116) (w o1))
noncomputable def c329:B:=n o26 (n o1 (n o82 (w o176) u) (w o133)) (n o63 (w o104) (w o97))
noncomputable def c330:B:=n o1 (n o40 (n o1 (w o171) u) (w o128)) (n o1 (w o99) (w o148))
noncomputable def c331:B:=n o31 (n o50 (n o88 (w o1) u) (w o138)) (n o68 (w o88) (w o5))
noncomputable def c332:B:=n o16 (n o35 (n o71 (w o164) u) (w o1)) (n o1 (n o1 (w o184) u) (w o88))
noncomputable def c333:B:=n o25 (n o5 (n o5 (w o174) u) (w o131)) (n o62 (w o1) (w o154))
noncomputable def c334:B:=n o5 (n o1 (n o76 (w o1) u) (w o126)) (n o5 (w o98) (w o147))
noncomputable def c335:B:=n o1 (n o48 (n o86 (w o179) u) (w o136)) (n o1 (w o110) (w o159))
noncomputable def c336:B:=n o18 (n o1 (n o5 (w o168) u) (w o122)) (n o55 (w o95) (w o145))
noncomputable def c337:B:=n o28 (n o46 (n o1 (w o5) u) (w o5)) (n o65 (w o106) (w o156))
noncomputable def c338:B:=n o23 (n o41 (n o78 (w o1) u) (w o97)) (n o60 (w o101) (w o150))
noncomputable def c339:B:=n o1 (n o5 (n o1 (w o181) u) (w o140)) (n o1 (w o1) (w o1))
noncomputable def X_tree_345:Params→BT:=(n boot_o_0 (n boot_o_1 (n o325 (n boot_o_7 (n o1 c308 c309) (n o5 c310 c311)) (n o1 (n o7 c312 c313) (n o12 c314 c315))) (n boot_o_5 (n boot_o_9 (n o6 c316 c317) (n o1 c318 c319)) (n o3 (n o9 c320 c321) (n o1 c322 c323)))) (n boot_o_2 (n boot_o_4 (n boot_o_8 (n o5 c324 c325) (n o10 c326 c327)) (n o328 (n o8 c328 c329) (n o13 c330 c331))) (n boot_o_6 (n boot_o_10 (n o1 c332 c333) (n o11 c334 c335)) (n o4 (n o1 c336 c337) (n o5 c338 c339)))))
noncomputable def c340:B:=n o24 (n o42 (n o79 (w o5) (w o246)) (n o88 (w o209) (w o5))) (n o61 (n o1 (w o191) (w o267)) (n o151 (w o5) (w o320)))
noncomputable def c341:B:=n o19 (n o37 (n o74 (w o1) (w o241)) (n o123 (w o5) (w o1))) (n o56 (n o96 (w o186) (w o1)) (n o146 (w o1) (w o1)))
noncomputable def c342:B:=n o1 (n o44 (n o81 (w o175) (w o250)) (n o132 (w o212) (w o1))) (n o1 (n o103 (w o193) (w o5)) (n o155 (w o230) (w o1)))
noncomputable def c343:B:=n o21 (n o5 (n o77 (w o170) (w o5)) (n o127 (w o207) (w o283))) (n o58 (n o1 (w o5) (w o1)) (n o1 (w o225) (w o1)))
noncomputable def c344:B:=n o5 (n o1 (n o1 (w o1) (w o248)) (n o1 (w o210) (w o287))) (n o5 (n o102 (w o1) (w o269)) (n o153 (w o1) (w o5)))
noncomputable def c345:B:=n o1 (n o39 (n o75 (w o169) (w o243)) (n o125 (w o1) (w o282))) (n o1 (n o88 (w o188) (w o264)) (n o5 (w o224) (w o316)))
noncomputable def c346:B:=n o5 (n o36 (n o1 (w o167) (w o240)) (n o1 (w o204) (w o280))) (n o1 (n o94 (w o185) (w o5)) (n o144 (w o222) (w o5)))
noncomputable def c347:B:=n o27 (n o45 (n o83 (w o1) (w o252)) (n o1 (w o5) (w o289))) (n o64 (n o105 (w o194) (w o1)) (n o88 (w o1) (w o323)))
noncomputable def c348:B:=n o22 (n o1 (n o5 (w o172) (w o1)) (n o129 (w o1) (w o285))) (n o59 (n o100 (w o1) (w o266)) (n o149 (w o227) (w o318)))
noncomputable def c349:B:=n o1 (n o43 (n o80 (w o173) (w o247)) (n o130 (w o1) (w o286))) (n o1 (n o5 (w o192) (w o268)) (n o152 (w o228) (w o1)))
noncomputable def c350:B:=n o20 (n o38 (n o1 (w o5) (w o242)) (n o124 (w o205) (w o5))) (n o57 (n o97 (w o187) (w o263)) (n o1 (w o5) (w o315)))
noncomputable def c351:B:=n o1 (n o5 (n o73 (w o166) (w o5)) (n o121 (w o203) (w o279))) (n o54 (n o116 (w o88) (w o1)) (n o1 (w o221) (w o1)))
noncomputable def c352:B:=n o26 (n o1 (n o82 (w o176) (w o251)) (n o133 (w o1) (w o5))) (n o63 (n o104 (w o1) (w o270)) (n o97 (w o231) (w o322)))
noncomputable def c353:B:=n o1 (n o40 (n o1 (w o171) (w o244)) (n o128 (w o208) (w o284))) (n o1 (n o99 (w o189) (w o5)) (n o148 (w o226) (w o5)))
noncomputable def c354:B:=n o25 (n o5 (n o5 (w o174) (w o249)) (n o131 (w o211) (w o288))) (n o62 (n o1 (w o5) (w o1)) (n o154 (w o229) (w o321)))
noncomputable def c355:B:=n o5 (n o1 (n o76 (w o1) (w o1)) (n o126 (w o206) (w o1))) (n o5 (n o98 (w o1) (w o265)) (n o147 (w o1) (w o317)))
noncomputable def c356:B:=n o18 (n o1 (n o5 (w o168) (w o1)) (n o122 (w o1) (w o281))) (n o55 (n o95 (w o1) (w o262)) (n o145 (w o223) (w o314)))
noncomputable def c357:B:=n o28 (n o46 (n o1 (w o5) (w o253)) (n o5 (w o213) (w o290))) (n o65 (n o106 (w o195) (w o271)) (n o156 (w o5) (w o324)))
noncomputable def c358:B:=n o23 (n o41 (n o78 (w o1) (w o245)) (n o97 (w o5) (w o1))) (n o60 (n o101 (w o190) (w o1)) (n o150 (w o1) (w o319)))
noncomputable def X_tree_649:Params→BT:=(n boot_o_0 (n boot_o_1 (n o312 (n boot_o_7 (n o1 c113 c340) (n o5 c341 c116)) (n o1 (n o7 c117 c342) (n o12 c343 c120))) (n boot_o_5 (n boot_o_9 (n o6 c121 c344) (n o1 c345 c124)) (n o3 (n o9 c346 c347) (n o1 c348 c128)))) (n boot_o_2 (n boot_o_4 (n boot_o_8 (n o5 c129 c349) (n o10 c350 c132)) (n o313 (n o8 c351 c352) (n o13 c353 c136))) (n boot_o_6 (n boot_o_10 (n o1 c137 c354) (n o11 c355 c140)) (n o4 (n o1 c356 c357) (n o5 c358 c144)))))
noncomputable def X_view_39:Program:={ PySem.Challenge.pw_tailrooms_k65_outlook_by_tables with main:={ PySem.Challenge.pw_tailrooms_k65_outlook_by_tables.main with body:=[f 0,f 2,f 3,f 4,f 5,f 7,f 8,f 9,f 11,f 12,f 13,f 14,f 15,f 17,f 18,f 19,f 20,f 21,f 22,f 24,f 25,f 26,f 27,f 29,f 30,f 31,f 32,f 33,f 34,f 36,f 37,f 38,f 40,f 41,f 42,f 44,f 46,f 47,f 48,f 49,f 50,f 51,f 52,f 53,f 54,f 55,f 56,f 57,f 58,f 59] } }
theorem z:(qB X_tree_229 && qB X_tree_207 && qB X_tree_628 && qS X_sts_49 && qB X_tree_464 && qB X_tree_251 && qS X_sts_129 && qB X_tree_295 && qB X_tree_273 && qB X_tree_192 && qH X_heap_650 && qS X_sts_629 && qS X_sts_551 && qB X_tree_547 && qS X_sts_346 && qB X_tree_345 && qB X_tree_649 && qP X_view_39)=true:=by k_qdec
end HD
noncomputable def PySem.W.Fast.tw44095812171410986:PySem.Params→PySem.W.BT:=PySem.W.Fast.tw13472497964383532508
theorem PySem.W.Fast.te44095812171410986:HD.X_tree_229=PySem.W.Fast.tw44095812171410986:=PySem.W.Fast.te13472497964383532508
noncomputable def PySem.W.Fast.tw8339291024364241397:PySem.Params→PySem.W.BT:=PySem.W.Fast.tw572926724436017241
theorem PySem.W.Fast.te8339291024364241397:HD.X_tree_207=PySem.W.Fast.tw8339291024364241397:=PySem.W.Fast.te572926724436017241
noncomputable def PySem.W.Fast.tw16761778824642843599:PySem.Params→PySem.W.BT:=PySem.W.Fast.tw5782354517442006266
theorem PySem.W.Fast.te16761778824642843599:HD.X_tree_628=PySem.W.Fast.tw16761778824642843599:=PySem.W.Fast.te5782354517442006266
noncomputable def PySem.W.Fast.tw2912246110151874434:List PySem.Stmt:=PySem.W.Fast.tw5485031703581270831
theorem PySem.W.Fast.te2912246110151874434:HD.X_sts_49=PySem.W.Fast.tw2912246110151874434:=PySem.W.Fast.te5485031703581270831
noncomputable def PySem.W.Fast.tw13567095718069115714:PySem.Params→PySem.W.BT:=PySem.W.Fast.tw11621012325681776469
theorem PySem.W.Fast.te13567095718069115714:HD.X_tree_464=PySem.W.Fast.tw13567095718069115714:=PySem.W.Fast.te11621012325681776469
noncomputable def PySem.W.Fast.tw5256064715183354004:PySem.Params→PySem.W.BT:=PySem.W.Fast.tw18077288845650998929
theorem PySem.W.Fast.te5256064715183354004:HD.X_tree_251=PySem.W.Fast.tw5256064715183354004:=PySem.W.Fast.te18077288845650998929
noncomputable def PySem.W.Fast.tw9180463787073586749:List PySem.Stmt:=PySem.W.Fast.tw6059235644674051300
theorem PySem.W.Fast.te9180463787073586749:HD.X_sts_129=PySem.W.Fast.tw9180463787073586749:=PySem.W.Fast.te6059235644674051300
noncomputable def PySem.W.Fast.tw9945537366849335294:PySem.Params→PySem.W.BT:=PySem.W.Fast.tw16940380111564512140
theorem PySem.W.Fast.te9945537366849335294:HD.X_tree_295=PySem.W.Fast.tw9945537366849335294:=PySem.W.Fast.te16940380111564512140
noncomputable def PySem.W.Fast.tw6019169065711724163:PySem.Params→PySem.W.BT:=PySem.W.Fast.tw8401144125978289627
theorem PySem.W.Fast.te6019169065711724163:HD.X_tree_273=PySem.W.Fast.tw6019169065711724163:=PySem.W.Fast.te8401144125978289627
noncomputable def PySem.W.Fast.tw17484203023845732389:PySem.Params→PySem.W.BT:=PySem.W.Fast.tw16161374374669146405
theorem PySem.W.Fast.te17484203023845732389:HD.X_tree_192=PySem.W.Fast.tw17484203023845732389:=PySem.W.Fast.te16161374374669146405
noncomputable def PySem.W.Fast.tw12290683467294887601:PySem.Params→PySem.Heap:=PySem.W.Fast.tw5757052538412000057
theorem PySem.W.Fast.te12290683467294887601:HD.X_heap_650=PySem.W.Fast.tw12290683467294887601:=PySem.W.Fast.te5757052538412000057
noncomputable def PySem.W.Fast.tw2753179428196955402:List PySem.Stmt:=PySem.W.Fast.tw9810512128903807473
theorem PySem.W.Fast.te2753179428196955402:HD.X_sts_629=PySem.W.Fast.tw2753179428196955402:=PySem.W.Fast.te9810512128903807473
noncomputable def PySem.W.Fast.tw17246878465927168031:List PySem.Stmt:=PySem.W.Fast.tw9265241566448133201
theorem PySem.W.Fast.te17246878465927168031:HD.X_sts_551=PySem.W.Fast.tw17246878465927168031:=PySem.W.Fast.te9265241566448133201
noncomputable def PySem.W.Fast.tw11047890303806086071:PySem.Params→PySem.W.BT:=PySem.W.Fast.tw16480994105302333327
theorem PySem.W.Fast.te11047890303806086071:HD.X_tree_547=PySem.W.Fast.tw11047890303806086071:=PySem.W.Fast.te16480994105302333327
noncomputable def PySem.W.Fast.tw3122280565770354795:Nat:=0
theorem PySem.W.Fast.te3122280565770354795:True:=trivial
noncomputable def PySem.W.Fast.tw3235562898438954270:List PySem.Stmt:=PySem.W.Fast.tw11833615760558072531
theorem PySem.W.Fast.te3235562898438954270:HD.X_sts_346=PySem.W.Fast.tw3235562898438954270:=PySem.W.Fast.te11833615760558072531
noncomputable def PySem.W.Fast.tw8088996099688470913:PySem.Params→PySem.W.BT:=PySem.W.Fast.tw1489560889315886813
theorem PySem.W.Fast.te8088996099688470913:HD.X_tree_345=PySem.W.Fast.tw8088996099688470913:=PySem.W.Fast.te1489560889315886813
noncomputable def PySem.W.Fast.tw10719257484273985893:PySem.Params→PySem.W.BT:=PySem.W.Fast.tw4826866482061395552
theorem PySem.W.Fast.te10719257484273985893:HD.X_tree_649=PySem.W.Fast.tw10719257484273985893:=PySem.W.Fast.te4826866482061395552
noncomputable def PySem.W.Fast.tw14109141611582149606:PySem.Program:=PySem.W.Fast.tw18025189030367128546
theorem PySem.W.Fast.te14109141611582149606:HD.X_view_39=PySem.W.Fast.tw14109141611582149606:=PySem.W.Fast.te18025189030367128546
open PySem PySem.W PyProof.Rows
set_option maxRecDepth 100000 in
set_option maxHeartbeats 0 in
theorem PySem.Challenge.cw_tailrooms_k65_outlook_by_tables_holds : PySem.Challenge.rw_tailrooms_k65_outlook_by_tables.Holds := by
  w_on; o_law; k_head; (case hw=>w_witness2)
  k_fill
  refine' Law.walk (l:=PySem.Challenge.rw_tailrooms_k65_outlook_by_tables) rfl rfl (fun w h Y=>PySem.W.km_in_of Y) _ (fun w h Y=>PySem.W.km_tabs_of Y _ (.head _)) ?tb ?tc ?kp ?F
  case tb=>intro w; kernel_rfl
  case tc=>intro w; kernel_rfl
  case kp=>intro w; kernel_rfl
  case F =>
    intro w mg fa h KX G hmg
    refine' Law.all_mk KX G hmg ?aC ?pg ?hd ?po ?sa ?mk ?kc ?n_wide ?n_fill ?n_held ?ga0 ?ga1 ?ga2 ?ga3 ?ga4 ?ga5 ?ga6 ?ga7 ?ga8 ?a9 ?l9 ?c9 ?k9 ?ga10 ?ga11 ?ga12 ?ga13 ?ga14 ?ga15 ?ga16 ?ga17 ?ga18 ?ga19 ?ga20 ?ga21 ?ga22 ?ga23 ?ga24 ?ga25 ?ga26 ?ga27 ?ga28 ?ga29 ?ga30 ?ga31 ?ga32 ?ga33 ?ga34 ?ga35 ?ga36 ?ga37 ?ga38 ?ga39 ?ga40 ?ga41 ?ga42 ?ga43 ?ga44 ?a45 ?l45 ?c45 ?k45 ?z_isinstance ?z_int ?z_bool ?z_str ?z_all ?z_len ?z_max ?z_min ?z_sorted ?z_range ?z_sum ?z_zip ?z_list ?z_abs ?z_tuple ?z_MOST_KEYS ?tL_cheap_rooms ?hL_cheap_rooms
    (case tL_cheap_rooms=>kernel_rfl)
    (case hL_cheap_rooms=>kernel_rfl)
    (case aC=>walk_at"lk")
    (case pg=>walk_at"lk")
    (case hd=>walk_at"lk")
    (case po=>walk_at"lk")
    (case sa=>walk_at"lk")
    (case mk=>walk_at"lk")
    (case kc=>walk_at"lk")
    (case n_wide=>walk_at"lk")
    (case n_fill=>walk_at"lk")
    (case n_held=>walk_at"lk")
    (case ga0=>walk_at"lk")
    (case ga1=>walk_at"lk")
    (case ga2=>walk_at"lk")
    (case ga3=>walk_at"lk")
    (case ga4=>walk_at"lk")
    (case ga5=>walk_at"lk")
    (case ga6=>walk_at"lk")
    (case ga7=>walk_at"lk")
    (case ga8=>walk_at"lk")
    (case a9=>walk_at"lk")
    (case l9=>walk_at"lk")
    (case c9=>walk_at"lk")
    (case k9=>walk_at"lk")
    (case ga10=>walk_at"lk")
    (case ga11=>walk_at"lk")
    (case ga12=>walk_at"lk")
    (case ga13=>walk_at"lk")
    (case ga14=>walk_at"lk")
    (case ga15=>walk_at"lk")
    (case ga16=>walk_at"lk")
    (case ga17=>walk_at"lk")
    (case ga18=>walk_at"lk")
    (case ga19=>walk_at"lk")
    (case ga20=>walk_at"lk")
    (case ga21=>walk_at"lk")
    (case ga22=>walk_at"lk")
    (case ga23=>walk_at"lk")
    (case ga24=>walk_at"lk")
    (case ga25=>walk_at"lk")
    (case ga26=>walk_at"lk")
    (case ga27=>walk_at"lk")
    (case ga28=>walk_at"lk")
    (case ga29=>walk_at"lk")
    (case ga30=>walk_at"lk")
    (case ga31=>walk_at"lk")
    (case ga32=>walk_at"lk")
    (case ga33=>walk_at"lk")
    (case ga34=>walk_at"lk")
    (case ga35=>walk_at"lk")
    (case ga36=>walk_at"lk")
    (case ga37=>walk_at"lk")
    (case ga38=>walk_at"lk")
    (case ga39=>walk_at"lk")
    (case ga40=>walk_at"lk")
    (case ga41=>walk_at"lk")
    (case ga42=>walk_at"lk")
    (case ga43=>walk_at"lk")
    (case ga44=>walk_at"lk")
    (case a45=>walk_at"lk")
    (case l45=>walk_at"lk")
    (case c45=>walk_at"lk")
    (case k45=>walk_at"lk")
    (case z_isinstance=>walk_at"lk")
    (case z_int=>walk_at"lk")
    (case z_bool=>walk_at"lk")
    (case z_str=>walk_at"lk")
    (case z_all=>walk_at"lk")
    (case z_len=>walk_at"lk")
    (case z_max=>walk_at"lk")
    (case z_min=>walk_at"lk")
    (case z_sorted=>walk_at"lk")
    (case z_range=>walk_at"lk")
    (case z_sum=>walk_at"lk")
    (case z_zip=>walk_at"lk")
    (case z_list=>walk_at"lk")
    (case z_abs=>walk_at"lk")
    (case z_tuple=>walk_at"lk")
    (case z_MOST_KEYS=>walk_at"lk")
